import PyProof.Rows.All
import Wide.All
import OpenK.AllK
import Wide.FinOn
import Lean
import PyProof.EqAt
import PyProof.EqKinds
import PyProof.TupleCall
import PyProof.Rows.SortRuns
import PyProof.Rows.SortShell
import KE.KSortTup
import PyProof.DictKinds
import PyProof.StrOps
import PyProof.NeKinds
import PyProof.NeData
import PyProof.P3In
import PyProof.Rows.SumAny
import PyProof.FString5
import PyProof.StrWalks
import PyProof.Rows.Range3
import PyProof.SeqI3
import PyProof.SetKind
import PyProof.Rows.SetFrom
import PyProof.FactsAll.set
import PyProof.DictIter
import PyProof.CollectWalk
import PyProof.ListRange
import PySem.Challenge.RW_evenlots_k30_even_rows
set_option Elab.async false
set_option linter.all false
set_option maxRecDepth 100000
set_option maxHeartbeats 0
noncomputable section
namespace L2
open PySem PySem.Spec PyProof.Rows
abbrev Key:=Sum Int Str
def DJ:Key->Value->Bool
 | .inl k,v=>Value.isInt k v
 | .inr x,v=>Value.isStrOf x v
def PF (w:World):Key->Int
 | .inl k=>hashInt k
 | .inr x=>hashStr w x
theorem CS:∀ {k:Key} {v:Value},DJ k v=true->(∃ i t,k=Sum.inl i/\v=Value.int i t)\/(∃ x t,k=Sum.inr x/\v=Value.str x t)
 | .inl i,v,h=>by
  obtain ⟨t,e⟩:=Value.isInt_shape (k:=i) (v:=v) h
  exact .inl ⟨i,t,rfl,e⟩
 | .inr x,v,h=>by
  obtain ⟨t,e⟩:=Value.isStrOf_shape (x:=x) (v:=v) h
  exact .inr ⟨x,t,rfl,e⟩
theorem Ou (i:Int) (t:Tok):DJ (.inl i) (.int i t)=true:=by simp[DJ,Value.isInt]
theorem OE (x:Str) (t:Tok):DJ (.inr x) (.str x t)=true:=by simp[DJ,Value.isStrOf]
theorem Rc (a b:Int):decide ((Sum.inl a:Key)=Sum.inl b)=(a == b):=by
 by_cases e:a=b
 ·subst e;simp
 ·have h:¬(Sum.inl a:Key)=Sum.inl b:=fun q=>e (Sum.inl.inj q)
  rw[decide_eq_false h]
  exact (beq_eq_false_iff_ne.mpr e).symm
theorem S5 (a b:Str):decide ((Sum.inr a:Key)=Sum.inr b)=decide (a=b):=by
 by_cases e:a=b
 ·subst e;simp
 ·have h:¬(Sum.inr a:Key)=Sum.inr b:=fun q=>e (Sum.inr.inj q)
  rw[decide_eq_false h,decide_eq_false e]
theorem Qh (a:Int) (b:Str):decide ((Sum.inl a:Key)=Sum.inr b)=false:=decide_eq_false (fun q=>nomatch q)
theorem Nd (a:Str) (b:Int):decide ((Sum.inr a:Key)=Sum.inl b)=false:=decide_eq_false (fun q=>nomatch q)
def BS (prog:Program) (w:World):PySem.KeyKind prog w Key where
 is:=DJ
 hash:=PF w
 inj:=fun v a b ha hb=>by
  rcases CS ha with ⟨i,t,rfl,rfl⟩ | ⟨x,t,rfl,rfl⟩
  ·rcases CS hb with ⟨j,u,rfl,e⟩ | ⟨y,u,rfl,e⟩
   ·injection e with e1 _;rw[e1]
   ·exact nomatch e
  ·rcases CS hb with ⟨j,u,rfl,e⟩ | ⟨y,u,rfl,e⟩
   ·exact nomatch e
   ·injection e with e1 _;rw[e1]
 byValue:=fun k v h=>by
  rcases CS h with ⟨i,t,rfl,rfl⟩ | ⟨x,t,rfl,rfl⟩<;>rfl
 pyHash:=fun hv h=>by
  rcases CS hv with ⟨i,t,rfl,rfl⟩ | ⟨x,t,rfl,rfl⟩
  ·exact wpAny_pyHash_int h
  ·exact wpAny_pyHash_str h
 eqBool:=fun hu hv h=>by
  rcases CS hu with ⟨i,t,rfl,rfl⟩ | ⟨x,t,rfl,rfl⟩
  ·rcases CS hv with ⟨j,u,rfl,rfl⟩ | ⟨y,u,rfl,rfl⟩
   ·rw[Rc] at h;exact wpAny_eqBool_int h
   ·rw[Qh] at h;exact SeqAt.EqAt.int_str i t y u _ _ _ _ h
  ·rcases CS hv with ⟨j,u,rfl,rfl⟩ | ⟨y,u,rfl,rfl⟩
   ·rw[Nd] at h;exact SeqAt.EqAt.str_int x t j u _ _ _ _ h
   ·rw[S5] at h;exact wpAny_eqBool_str h
 «strs»:=fun k x t v h=>by
  rcases CS h with ⟨i,u,rfl,e⟩ | ⟨y,u,rfl,e⟩
  ·exact nomatch e
  ·injection e with e1 _
   subst e1
   cases v<;>rfl
theorem OL (prog:Program) (w:World) (i:Int) (t:Tok):(BS prog w).is (.inl i) (.int i t)=true:=Ou i t
theorem QL (prog:Program) (w:World) (x:Str) (t:Tok):(BS prog w).is (.inr x) (.str x t)=true:=OE x t
inductive V where
 | non | bl (b:Bool) | int (i:Int) | str (x:Str) | byt (b:Array UInt8) | flt (b:UInt64) | ref (a:Addr) | ty (n:String)
 deriving DecidableEq
def RelV:V->Value->Prop
 | .non,u=>u=Value.none
 | .bl b,u=>u=Value.bool b
 | .int i,u=>∃ t,u=Value.int i t
 | .str x,u=>∃ t,u=Value.str x t
 | .byt b,u=>∃ t,u=Value.bytes b t
 | .flt b,u=>∃ t,u=Value.float b t
 | .ref a,u=>u=Value.ref a
 | .ty n,u=>u=Value.type n
abbrev Vals:List V->List Value->Prop:=Paired RelV
theorem Vals.length {xs:List V} {us:List Value} (r:Vals xs us):xs.length=us.length:=Paired.length r
theorem Vals.get:∀ {xs:List V} {us:List Value} {i:Nat} {x:V},Vals xs us->xs[i]?=some x->∃ u,us[i]?=some u/\RelV x u
 | _,_,_,_,.nil,e=>by simp at e
 | _,_,0,_,.cons r _,e=>by simp at e;subst e;exact ⟨_,rfl,r⟩
 | _,_,i+1,x,.cons _ t,e=>by
  obtain ⟨u,h1,h2⟩:=Vals.get (i:=i) (x:=x) t (by simpa using e)
  exact ⟨u,by simpa using h1,h2⟩
theorem Vals.set {x:V} {u:Value} (r:RelV x u):∀ {xs:List V} {us:List Value} (i:Nat),Vals xs us->Vals (xs.set i x) (us.set i u)
 | _,_,_,.nil=>.nil
 | _,_,0,.cons _ t=>.cons r t
 | _,_,i+1,.cons q t=>.cons q (Vals.set r i t)
theorem Vals.append:∀ {xs ys:List V} {us ws:List Value},Vals xs us->Vals ys ws->Vals (xs++ys) (us++ws)
 | _,_,_,_,.nil,s=>s
 | _,_,_,_,.cons r t,s=>.cons r (Vals.append t s)
theorem Vals.take:∀ {xs:List V} {us:List Value} (n:Nat),Vals xs us->Vals (xs.take n) (us.take n)
 | _,_,0,_=>.nil
 | _,_,_+1,.nil=>.nil
 | _,_,n+1,.cons r t=>.cons r (Vals.take n t)
theorem Vals.drop:∀ {xs:List V} {us:List Value} (n:Nat),Vals xs us->Vals (xs.drop n) (us.drop n)
 | _,_,0,r=>r
 | _,_,_+1,.nil=>.nil
 | _,_,n+1,.cons _ t=>Vals.drop n t
def RelO:Option V->Option Value->Prop
 | some v,some u=>RelV v u
 | none,none=>True
 | _,_=>False
def KV {κ:Type}:List (κ×V)->List (κ×Value)->Prop:=Paired fun (p:κ×V) (q:κ×Value)=>p.1=q.1/\RelV p.2 q.2
def kV:Key->V
 | .inl i=>.int i
 | .inr x=>.str x
inductive HO where
 | lst (xs:List V)
 | tup (xs:List V)
 | dK (kvs:List (Key×V)) | dT (kvs:List (List Key×V))
 | set (S:Int->Bool) (n:Nat)
 | ins (C dx:Addr) (fs:List (Str×V))
 | own (x:Addr)
 | xd (fs:List (Str×V))
 | met (f x:Addr)
 | rng (lo hi:Int)
 | frz (o:Obj) (u:HO)
 | tbl (ps:Array Value)
 | ext (φ:Heap->Prop)
abbrev Hp:=Addr->Option HO
def upd (H:Hp) (a:Addr) (o:HO):Hp:=fun b=>if b=a then some o else H b
theorem AS {H:Hp} {a:Addr} {o:HO}:upd H a o a=some o:=by unfold upd;rw[if_pos rfl]
theorem AJ {H:Hp} {a b:Addr} {o:HO} (h:b≠a):upd H a o b=H b:=by unfold upd;rw[if_neg h]
theorem SZ {H:Hp} {a:Addr} {o u:HO}:upd (upd H a o) a u=upd H a u:=by
 funext b;unfold upd;split<;>rfl
theorem RT {H:Hp} {a b:Addr} {o u:HO} (h:H a=some o) (h':H b=some u) (d:o≠u):a≠b:=by
 intro e;subst e;rw[h] at h';exact d (Option.some.inj h')
theorem Ah {H:Hp} {a b:Addr} {o:HO} (h:H a=some o) (h':H b=none):a≠b:=by
 intro e;subst e;rw[h] at h';cases h'
section
variable (P:Program) (w:World)
def ObjOk (H:Hp) (h:Heap) (a:Addr):HO->Prop
 | .lst xs=>xs.length<=sizeLine/\∃ (its:List Value) (n:Nat),Vals xs its/\h.get? a=some {cls:=.type "list",data:=.seq its.toArray n}
 | .tup xs=>xs.length<=sizeLine/\∃ its:List Value,Vals xs its/\IsTup h a its.toArray
 | .dK kvs=>kvs.length<=sizeLine/\(a == sysModules)=false/\∃ vs,KV kvs vs/\h.DictOf (BS P w) a vs
 | .dT kvs=>kvs.length<=sizeLine/\(a == sysModules)=false/\∃ xs:List (List Key×Addr×Value),
   Paired (fun (p:List Key×V) (q:List Key×Addr×Value)=>p.1=q.1/\H q.2.1=some (.tup (p.1.map kV))/\RelV p.2 q.2.2) kvs xs /\
   ∃ o es ep,h.get? a=some o/\o.ExactDict/\o.data=.dict es ep/\es.toList=xs.map (entryOfKey (tupleKind (BS P w)))/\(xs.map (·.1)).Nodup
 | .set S n=>h.SetOf (intKind P w) a S n
 | .ins C dx fs=>H dx=some (.own a)/\fs.length<=1000/\dx≠a/\h.get? a=some (PySem.W.instObj C dx) /\
   ∃ mA,h.Ns1 dx mA/\(∀ f,RelO (fs.lookup f) (mA f))/\PySem.Within mA (fs.map (·.1))
 | .own _=>∃ o,h.get? a=some o
 | .xd fs=>∃ mA,h.Ns1 a mA/\∀ f,RelO (fs.lookup f) (mA f)
 | .rng lo hi=>∃ t u v,h.get? a=some {cls:=.type "range",data:=.fields #[.int lo t,.int hi u,.int 1 v]}
 | .frz o u=>h.get? a=some o/\ObjOk H h a u
 | .tbl ps=>h.get? a=some {cls:=.none,data:=.fields ps}
 | .met f x=>h.get? a=some (PySem.W.methodObj (.ref f) (.ref x))
 | .ext φ=>φ h/\(∃ o,h.get? a=some o)/\∀ h1 h2:Heap,φ h1->(∀ o,h1.get? a=some o->h2.get? a=some o)->φ h2
def HOk (H:Hp) (h:Heap):Prop:=∀ a o,H a=some o->ObjOk P w H h a o
end
section
variable {P:Program} {w:World} {H H':Hp} {h h':Heap} {a:Addr} {o:HO}
theorem ObjOk.lt (x:ObjOk P w H h a o):a<h.objs.size:=by
 cases o with
 | lst xs=>obtain ⟨_,_,_,_,e⟩:=x;exact Heap.lt_size e
 | tup xs=>obtain ⟨_,_,_,p⟩:=x;exact p.lt
 | dK kvs=>obtain ⟨_,_,_,_,o,_,_,e,_⟩:=x;exact Heap.lt_size e
 | dT kvs=>obtain ⟨_,_,_,_,o,_,_,e,_⟩:=x;exact Heap.lt_size e
 | set S n=>obtain ⟨o,_,_,_,e,_⟩:=x;exact Heap.lt_size e
 | ins C dx fs=>obtain ⟨_,_,_,e,_⟩:=x;exact Heap.lt_size e
 | own y=>obtain ⟨_,e⟩:=x;exact Heap.lt_size e
 | xd fs=>obtain ⟨_,⟨_,_,_,e,_⟩,_⟩:=x;exact Heap.lt_size e
 | rng lo hi=>obtain ⟨_,_,_,e⟩:=x;exact Heap.lt_size e
 | frz ob u=>obtain ⟨e,_⟩:=x;exact Heap.lt_size e
 | tbl ps=>exact Heap.lt_size (show h.get? a=some _ from x)
 | met f y=>exact Heap.lt_size (show h.get? a=some _ from x)
 | ext φ=>obtain ⟨_,⟨_,e⟩,_⟩:=x;exact Heap.lt_size e
theorem Paired.mapP {α β:Type} {F G:α->β->Prop}:∀ {l₁:List α} {l₂:List β},Paired F l₁ l₂->(∀ a b,F a b->G a b)->Paired G l₁ l₂
 | _,_,.nil,_=>.nil
 | _,_,.cons r t,f=>.cons (f _ _ r) (Paired.mapP t f)
theorem ObjOk.stay (x:ObjOk P w H h a o) (k:∀ b u,(b=a\/H b=some (.own a))->h.get? b=some u->h'.get? b=some u)
  (ho:∀ b,H b=some (.own a)->H' b=some (.own a)) (ht:∀ b xs,H b=some (.tup xs)->H' b=some (.tup xs)):ObjOk P w H' h' a o:=by
 induction o with
 | lst xs=>obtain ⟨z,its,n,r,e⟩:=x;exact ⟨z,its,n,r,k _ _ (.inl rfl) e⟩
 | tup xs=>obtain ⟨z,its,r,ob,e,c⟩:=x;exact ⟨z,its,r,ob,k _ _ (.inl rfl) e,c⟩
 | dK kvs=>obtain ⟨z,y,vs,r,ob,es,ep,e,c⟩:=x;exact ⟨z,y,vs,r,ob,es,ep,k _ _ (.inl rfl) e,c⟩
 | dT kvs=>
  obtain ⟨z,y,xs,r,ob,es,ep,e,c⟩:=x
  exact ⟨z,y,xs,Paired.mapP r fun p q z=>⟨z.1,ht _ _ z.2.1,z.2.2⟩,ob,es,ep,k _ _ (.inl rfl) e,c⟩
 | set S n=>obtain ⟨ob,es,ep,t,e,c⟩:=x;exact ⟨ob,es,ep,t,k _ _ (.inl rfl) e,c⟩
 | ins C dx fs=>
  obtain ⟨d,z,ne,e,mA,⟨od,es,ep,e2,c⟩,r⟩:=x
  exact ⟨ho _ d,z,ne,k _ _ (.inl rfl) e,mA,⟨od,es,ep,k _ _ (.inr d) e2,c⟩,r⟩
 | own y=>obtain ⟨ob,e⟩:=x;exact ⟨ob,k _ _ (.inl rfl) e⟩
 | xd fs=>obtain ⟨mA,⟨od,es,ep,e,c⟩,r⟩:=x;exact ⟨mA,⟨od,es,ep,k _ _ (.inl rfl) e,c⟩,r⟩
 | rng lo hi=>obtain ⟨t,u,v,e⟩:=x;exact ⟨t,u,v,k _ _ (.inl rfl) e⟩
 | frz ob u ih=>obtain ⟨e,q⟩:=x;exact ⟨k _ _ (.inl rfl) e,ih q⟩
 | tbl ps=>
  have e:h.get? a=some {cls:=.none,data:=.fields ps}:=x
  show h'.get? a=some {cls:=.none,data:=.fields ps}
  exact k a _ (.inl rfl) e
 | met f y=>
  have e:h.get? a=some (PySem.W.methodObj (.ref f) (.ref y)):=x
  show h'.get? a=some (PySem.W.methodObj (.ref f) (.ref y))
  exact k a _ (.inl rfl) e
 | ext φ=>obtain ⟨p,⟨o,e⟩,st⟩:=x;exact ⟨st _ _ p fun o q=>k _ _ (.inl rfl) q,⟨o,k _ _ (.inl rfl) e⟩,st⟩
theorem HOk.lt (x:HOk P w H h) (e:H a=some o):a<h.objs.size:=(x a o e).lt
theorem HOk.fresh (x:HOk P w H h) (e:h.objs.size<=a):H a=none:=by
 cases q:H a with
 | none=>rfl
 | some u=>exact absurd (Nat.lt_of_lt_of_le (x.lt q) e) (Nat.lt_irrefl _)
theorem HOk.kept (x:HOk P w H h) (k:∀ b u,h.get? b=some u->h'.get? b=some u):HOk P w H h':=fun a o e=>
 (x a o e).stay (fun b u _ q=>k b u q) (fun _ q=>q) fun _ _ q=>q
theorem HOk.laid (x:HOk P w H h) (k:∀ b u,h.get? b=some u->h'.get? b=some u) (hp:h.objs.size<=a) (new:ObjOk P w (upd H a o) h' a o):HOk P w (upd H a o) h':=fun b u e=>by
 have hn:=x.fresh hp
 by_cases hb:b=a
 ·subst hb;rw[AS] at e;cases e;exact new
 ·rw[AJ hb] at e
  exact (x b u e).stay (fun c v _ q=>k c v q) (fun c q=>by rw[AJ (Ah q hn)];exact q) fun c xs q=>by rw[AJ (Ah q hn)];exact q
end
def Rd (H:Hp) (a:Addr) (u:HO):Prop:=H a=some u\/∃ o,H a=some (.frz o u)
theorem Rd.ok {P:Program} {w:World} {H:Hp} {h:Heap} {a:Addr} {u:HO} (r:Rd H a u) (x:HOk P w H h):ObjOk P w H h a u:=by
 rcases r with r | ⟨o,r⟩
 ·exact x a u r
 ·obtain ⟨_,q⟩:=x a _ r
  exact q
def Mut:Option HO->Prop
 | some (.lst _)=>True
 | some (.dK _)=>True
 | some (.dT _)=>True
 | some (.set _ _)=>True
 | some (.ins _ _ _)=>True
 | some (.ext _)=>True
 | _=>False
section
variable {P:Program} {w:World} {H:Hp} {h h':Heap} {x e:Addr} {o':HO}
theorem HOk.write (ok:HOk P w H h) (mu:Mut (H x)) (he:e=x\/H e=some (.own x)) (k:∀ b u,b≠e->h.get? b=some u->h'.get? b=some u) (heo:∃ u,h'.get? e=some u)
  (new:ObjOk P w (upd H x o') h' x o'):HOk P w (upd H x o') h':=fun b u q=>by
 have nown:∀ c y,H c=some (.own y)->c≠x:=fun c y r z=>by subst z;rw[r] at mu;exact mu
 have ntup:∀ c xs,H c=some (.tup xs)->c≠x:=fun c xs r z=>by subst z;rw[r] at mu;exact mu
 by_cases hb:b=x
 ·subst hb;rw[AS] at q;cases q;exact new
 ·rw[AJ hb] at q
  by_cases hbe:b=e
  ·have q':H b=some (.own x):=by
    rcases he with z | z
    ·exact absurd (hbe.trans z) hb
    ·rw[hbe];exact z
   rw[q] at q';cases q'
   obtain ⟨v,hv⟩:=heo
   exact ⟨v,by rw[hbe];exact hv⟩
  ·refine (ok b u q).stay (fun c v hc r=>k c v ?_ r) (fun c r=>by rw[AJ (nown c b r)];exact r) fun c xs r=>by rw[AJ (ntup c xs r)];exact r
   rcases hc with rfl | hc
   ·exact hbe
   ·rintro rfl
    rcases he with z | z
    ·exact nown c b hc z
    ·rw[hc] at z;cases z;exact hb rfl
end
structure Un (fs ex:List Addr) (H H':Hp) (h h':Heap):Prop where
 keep:∀ b o,h.get? b=some o->H b=none->b∉fs->b∉ex->h'.get? b=some o
 slot:∀ b o,h.get? b=some o->H b=none->b∈fs->b∉ex->∃ sl,h'.get? b=some {o with slots:=sl}
 free:∀ b o,h.get? b=some o->H b=none->b∉ex->H' b=none
 there:∀ b o,h.get? b=some o->b∉ex->∃ o',h'.get? b=some o'
 tups:∀ b xs,H b=some (.tup xs)->H' b=some (.tup xs)
 frzs:∀ b o u,H b=some (.frz o u)->H' b=some (.frz o u)
 tbls:∀ b ps,H b=some (.tbl ps)->∃ more,H' b=some (.tbl (ps++more))
section
variable {fs fs' ex ex':List Addr} {H H1 H2:Hp} {h h1 h2 h':Heap} {a x e:Addr} {o:HO}
theorem Un.any (u:Un fs ex H H1 h h1) {b:Addr} {ob:Obj} (q:h.get? b=some ob) (n:H b=none) (hx:b∉ex):∃ sl,h1.get? b=some {ob with slots:=sl}:=by
 by_cases hb:b∈fs
 ·exact u.slot b ob q n hb hx
 ·exact ⟨ob.slots,u.keep b ob q n hb hx⟩
theorem Un.kept (k:∀ b u,h.get? b=some u->h'.get? b=some u):Un fs ex H H h h':=
 ⟨fun b ob q _ _ _=>k b ob q,fun b ob q _ _ _=>⟨ob.slots,k b ob q⟩,fun _ _ _ n _=>n,fun b ob q _=>⟨ob,k b ob q⟩,fun _ _ q=>q,fun _ _ _ q=>q,fun _ ps q=>⟨#[],by rw[q];simp⟩⟩
theorem Un.refl:Un fs ex H H h h:=Un.kept fun _ _ q=>q
theorem Un.laid (k:∀ b u,h.get? b=some u->h'.get? b=some u) (hp:h.objs.size<=a) (hn:H a=none):Un fs ex H (upd H a o) h h' where
 keep:=fun b u q _ _ _=>k b u q
 slot:=fun b u q _ _ _=>⟨u.slots,k b u q⟩
 free:=fun b u q n _=>by rw[AJ (Nat.ne_of_lt (Nat.lt_of_lt_of_le (Heap.lt_size q) hp))];exact n
 there:=fun b u q _=>⟨u,k b u q⟩
 tups:=fun b xs q=>by rw[AJ (Ah q hn)];exact q
 frzs:=fun b u xs q=>by rw[AJ (Ah q hn)];exact q
 tbls:=fun b ps q=>⟨#[],by rw[AJ (Ah q hn),q];simp⟩
theorem Un.write (mu:Mut (H x)) (he:e=x\/H e=some (.own x)) (k:∀ b u,b≠e->h.get? b=some u->h'.get? b=some u) (heo:∃ u,h'.get? e=some u):Un fs ex H (upd H x o) h h':=by
 have hx:∀ b,H b=none->b≠x:=fun b n z=>by subst z;rw[n] at mu;exact mu
 have hb:∀ b,H b=none->b≠e:=fun b n z=>by
  subst z
  rcases he with r | r
  ·exact hx b n r
  ·rw[n] at r;cases r
 have hm:∀ b u,H b=some u->¬Mut (some u)->b≠x:=fun b u q nm z=>by subst z;rw[q] at mu;exact nm mu
 refine ⟨fun b u q n _ _=>k b u (hb b n) q,fun b u q n _ _=>⟨u.slots,k b u (hb b n) q⟩,fun b u q n _=>by rw[AJ (hx b n)];exact n,fun b u q _=>?_,
  fun b xs q=>by rw[AJ (hm b _ q fun z=>z)];exact q,fun b u xs q=>by rw[AJ (hm b _ q fun z=>z)];exact q,fun b ps q=>⟨#[],by rw[AJ (hm b _ q fun z=>z),q];simp⟩⟩
 by_cases hbe:b=e
 ·subst hbe;exact heo
 ·exact ⟨u,k b u hbe q⟩
end
def trk (h:Heap) (H:Hp):List Addr:=(List.range h.objs.size).filter fun a=>(H a).isSome
def Ck (h:Heap) (H:Hp):Heap:=PySem.W.hideAll h (trk h H)
theorem Rb (h:Heap) (H:Hp):(Ck h H).objs.size=h.objs.size:=PySem.W.hideAll_size _ _
theorem NA {h:Heap} {H:Hp} {b:Addr} {o:Obj} (e:h.get? b=some o) (n:H b=none):(Ck h H).get? b=some o:=
 PySem.W.hideAll_get _ e fun hm=>by
  have q:(H b).isSome=true:=(List.mem_filter.mp hm).2
  rw[n] at q;simp at q
theorem TR {h:Heap} {H:Hp} {b:Addr} {o:Obj} (e:(Ck h H).get? b=some o):h.get? b=some o/\H b=none:=by
 have e':h.get? b=some o:=PySem.W.of_hideAll (trk h H) e
 refine ⟨e',?_⟩
 cases q:H b with
 | none=>rfl
 | some x=>
  have hm:b∈trk h H:=List.mem_filter.mpr ⟨List.mem_range.mpr (Heap.lt_size e'),by simp[q]⟩
  have z:(Ck h H).get? b=none:=PySem.W.hideAll_none (trk h H) hm
  rw[z] at e;cases e
def RG (g h:Heap) (L:Addr):List (Addr×Obj):=(List.range h.objs.size).filterMap fun a=>if a=L\/(g.get? a).isSome=true then none else (h.get? a).map fun o=>(a,o)
def rest (g h:Heap) (L d:Addr):List (Addr×Obj):=(RG g h L).filter fun p=>decide (p.1≠d)
structure Mod (K:PySem.W.Frag) (mg:Str->Option Value) (base:Heap):Prop where
 kin:K.In base
 glob:base.Ns mainGlobals mg
 blt:∃ mb,base.Ns builtinsNs mb/\∀ x:Str,x≠"__name__"->mb x=bootBuiltins x
 nolimit:base.NoLimit
structure Cx where
 prog:Program
 w:World
 K:PySem.W.Frag
 mg:Str->Option Value
 base:Heap
 A:Around
 N:List Str
 s₀:Shared
 H₀:Hp
 env:Env
 outer:List Env
 stack:List Env
 ex:List Addr
 fn:Str->Bool
 calm:Bool
 pn:List (Addr×Obj)
 xe:Value->Shared->Prop
def frs (l:List Env):List Addr:=l.filterMap (·.frame)
abbrev Cx.fs (X:Cx):List Addr:=frs X.outer
def Vis (sc:Scope) (x:Str):Prop:=sc.names.lookup x=some .local\/sc.names.lookup x=some .cell\/sc.names.lookup x=some .free
def Loc (sc:Scope) (x:Str):Prop:=sc.names.lookup x=some .local\/sc.names.lookup x=some .cell
def Look (env:Env) (h:Heap) (m:Str->Option Value) (x:Str) (u:Value):Prop:=
 (env.kindOf x=some .local/\m x=some u)\/((env.kindOf x=some .cell\/env.kindOf x=some .free)/\∃ c,env.cells.lookup x=some c/\h.IsCell c (some u))
structure Cx.Ok (X:Cx):Prop where
 mod:Mod X.K X.mg X.base
 kind:X.env.scope.kind=.function
 glob:X.env.globals=mainGlobals
 blt:X.env.builtins=builtinsNs
 above:X.s₀.heap.objs.size<=X.env.locals
 inj:∀ x y c,X.env.cells.lookup x=some c->X.env.cells.lookup y=some c->x=y
 has:∀ x,(X.env.kindOf x=some .cell\/X.env.kindOf x=some .free)->∃ c,X.env.cells.lookup x=some c
 cab:∀ x c,X.fn x=true->X.env.cells.lookup x=some c->X.s₀.heap.objs.size<=c
 hd:X.calm=true->X.A.handled=none
 frames:X.A.frames=some X.stack
 stk:X.stack=X.outer\/(X.stack=X.env::X.outer/\X.env.frame=some X.env.locals)
 exf:∀ b∈X.ex,b≠X.env.locals/\∀ x c,X.env.cells.lookup x=some c->c≠b
 bs:∀ b o,X.base.get? b=some o->X.s₀.heap.get? b=some o/\X.H₀ b=none
 bsz:X.base.objs.size<=X.s₀.heap.objs.size
 noex:∀ b o,X.base.get? b=some o->b∉X.ex
 exfs:∀ b∈X.ex,b∉X.fs
 funs:X.s₀.heap.FunFrames X.base X.outer
 frf:∀ b∈X.fs,X.H₀ b=none
structure Inv (X:Cx) (pins:List (Addr×Obj)) (σ:List (Option V)) (H:Hp) (s:Shared):Prop where
 ok:X.Ok
 os:s.os=X.s₀.os
 bare:AllBare s.gens
 base:Un X.fs X.ex X.H₀ H X.s₀.heap s.heap
 loc:∃ m,s.heap.Ns X.env.locals m/\∀ (i:Nat) (x:Str) (v:V),X.N[i]?=some x->σ[i]?=some (some v)->Vis X.env.scope x->∃ u,RelV v u/\Look X.env s.heap m x u
 cell:∀ x c,X.env.cells.lookup x=some c->∃ v,s.heap.IsCell c v
 free:H X.env.locals=none
 freeC:∀ x c,X.env.cells.lookup x=some c->H c=none
 pin:∀ p∈X.pn++pins,s.heap.get? p.1=some p.2/\H p.1=none/\p.1≠X.env.locals/\p.1∉X.fs/\∀ v,p.2.data≠.cell v
 hok:HOk X.prog X.w H s.heap
 len:σ.length=X.N.length
section
variable {X:Cx} {pins:List (Addr×Obj)} {σ:List (Option V)} {H H':Hp} {s:Shared} {h':Heap}
theorem Cx.Ok.nofr (ok:X.Ok) {b:Addr} {o:Obj} (e:X.base.get? b=some o):b∉X.fs:=fun hb=>by
 have:=(ok.funs.mem hb).1
 rw[e] at this;cases this
theorem Inv.bs (I:Inv X pins σ H s):∀ b o,X.base.get? b=some o->s.heap.get? b=some o/\H b=none:=fun b o e=>
 ⟨I.base.keep b o (I.ok.bs b o e).1 (I.ok.bs b o e).2 (I.ok.nofr e) (I.ok.noex b o e),I.base.free b o (I.ok.bs b o e).1 (I.ok.bs b o e).2 (I.ok.noex b o e)⟩
theorem Inv.bk (I:Inv X pins σ H s):∀ b o,X.base.get? b=some o->s.heap.get? b=some o:=fun b o e=>(I.bs b o e).1
theorem Inv.mod (I:Inv X pins σ H s):Mod X.K X.mg X.base:=I.ok.mod
theorem Inv.kIn (I:Inv X pins σ H s):X.K.In s.heap:=I.ok.mod.kin.keeps I.bk
theorem Inv.lt (I:Inv X pins σ H s):X.env.locals<s.heap.objs.size:=let ⟨_,hn,_⟩:=I.loc;hn.lt
theorem Inv.sz (I:Inv X pins σ H s):X.s₀.heap.objs.size<=s.heap.objs.size:=Nat.le_trans I.ok.above (Nat.le_of_lt I.lt)
theorem Inv.nofs (I:Inv X pins σ H s) {a:Addr} (h:s.heap.objs.size<=a):a∉X.fs:=fun hb=>by
 obtain ⟨_,o,ho,_⟩:=I.ok.funs.mem hb
 exact absurd (Nat.lt_of_lt_of_le (Heap.lt_size ho) (Nat.le_trans I.sz h)) (Nat.lt_irrefl _)
theorem Inv.cne (I:Inv X pins σ H s):∀ x c,X.env.cells.lookup x=some c->c≠X.env.locals:=fun x c e z=>by
 obtain ⟨v,o,ho,hd⟩:=I.cell x c e
 obtain ⟨m,⟨o',es,ep,ho',hd',_⟩,_⟩:=I.loc
 rw[z,ho'] at ho;cases ho;rw[hd'] at hd;cases hd
theorem Inv.funs (I:Inv X pins σ H s):s.heap.FunFrames X.base X.outer:=by
 have all:∀ (l:List Env),(∀ b∈frs l,b∈X.fs)->X.s₀.heap.FunFrames X.base l->s.heap.FunFrames X.base l:=by
  intro l
  induction l with
  | nil=>intro _ _;trivial
  | cons env r ih=>
   intro hs hl
   obtain ⟨hk,⟨L,o,hf,hn,ho,hd⟩,hr⟩:=hl
   have hL:L∈X.fs:=hs L (by unfold frs;rw[List.filterMap_cons,hf];exact List.mem_cons_self)
   obtain ⟨sl,e⟩:=I.base.slot L o ho (I.ok.frf L hL) hL fun z=>I.ok.exfs L z hL
   exact ⟨hk,⟨L,_,hf,hn,e,hd⟩,ih (fun b hb=>hs b (by unfold frs;rw[List.filterMap_cons,hf];exact List.mem_cons_of_mem _ hb)) hr⟩
 exact all X.outer (fun _ hb=>hb) I.ok.funs
theorem Inv.stack (I:Inv X pins σ H s):s.heap.FunFrames X.base X.stack:=by
 rcases I.ok.stk with e | ⟨e,hf⟩
 ·rw[e];exact I.funs
 ·rw[e]
  obtain ⟨m,hn,_⟩:=I.loc
  refine .cons (by rw[I.ok.kind];decide) hf hn ?_ I.funs
  exact Heap.get?_none_of_le (Nat.le_trans I.ok.bsz I.ok.above)
theorem Inv.stkSub (I:Inv X pins σ H s):∀ b∈frs X.stack,b∈X.env.locals::X.fs:=fun b hb=>by
 rcases I.ok.stk with e | ⟨e,hf⟩
 ·rw[e] at hb;exact List.mem_cons_of_mem _ hb
 ·rw[e] at hb
  unfold frs at hb
  rw[List.filterMap_cons,hf] at hb
  exact hb
theorem Inv.stkFree (I:Inv X pins σ H s):∀ b∈frs X.stack,H b=none:=fun b hb=>by
 rcases List.mem_cons.mp (I.stkSub b hb) with e | hb
 ·rw[e];exact I.free
 ·obtain ⟨_,o,ho,_⟩:=I.ok.funs.mem hb
  exact I.base.free b o ho (I.ok.frf b hb) fun z=>I.ok.exfs b z hb
theorem Inv.step {g':Array GenState} {t':Nat} {d':Drawn} {ch:List Addr} (I:Inv X pins σ H s)
  (hch:∀ b∈ch,(b∈X.ex\/X.s₀.heap.objs.size<=b)/\b≠X.env.locals/\(∀ x c,X.env.cells.lookup x=some c->c≠b)/\∀ p∈X.pn++pins,p.1≠b)
  (keep:∀ b o,b≠X.env.locals->b∉X.fs->b∉ch->s.heap.get? b=some o->H b=none->h'.get? b=some o)
  (slot:∀ b o,b≠X.env.locals->b∈X.fs->b∉ch->s.heap.get? b=some o->H b=none->∃ sl,h'.get? b=some {o with slots:=sl}) (free:∀ b o,b∉ch->s.heap.get? b=some o->H b=none->H' b=none)
  (there:∀ b o,b∉ch->s.heap.get? b=some o->∃ o',h'.get? b=some o')
  (tups:∀ b xs,H b=some (.tup xs)->H' b=some (.tup xs)) (frzs:∀ b o u,H b=some (.frz o u)->H' b=some (.frz o u)) (tbls:∀ b ps,H b=some (.tbl ps)->∃ more,H' b=some (.tbl (ps++more)))
  (ns:∀ m,s.heap.Ns X.env.locals m->h'.Ns X.env.locals m) (hok:HOk X.prog X.w H' h') (hg:AllBare g') :
  Inv X pins σ H' {s with heap:=h',gens:=g',drawn:=d',toks:=t'}:=by
 have neL:∀ b o,X.s₀.heap.get? b=some o->b≠X.env.locals:=fun b o e=>Nat.ne_of_lt (Nat.lt_of_lt_of_le (Heap.lt_size e) I.ok.above)
 have neC:∀ b o,X.s₀.heap.get? b=some o->b∉X.ex->b∉ch:=fun b o e hx hb=>by
  rcases (hch b hb).1 with z | z
  ·exact hx z
  ·exact absurd (Nat.lt_of_lt_of_le (Heap.lt_size e) z) (Nat.lt_irrefl _)
 have cellK:∀ x c,X.env.cells.lookup x=some c->∀ v,s.heap.IsCell c v->h'.IsCell c v:=fun x c e v hh_=>by
  obtain ⟨o,ho,hd⟩:=hh_
  have nch:c∉ch:=fun z=>(hch c z).2.2.1 x c e rfl
  by_cases hc:c∈X.fs
  ·obtain ⟨sl,q⟩:=slot c o (I.cne x c e) hc nch ho (I.freeC x c e)
   exact ⟨_,q,hd⟩
  ·exact ⟨o,keep c o (I.cne x c e) hc nch ho (I.freeC x c e),hd⟩
 refine ⟨I.ok,I.os,hg,⟨fun b o e n hb hx=>?_,fun b o e n hb hx=>?_,fun b o e n hx=>?_,fun b o e hx=>?_,fun b xs e=>tups b xs (I.base.tups b xs e),fun b o xs e=>frzs b o xs (I.base.frzs b o xs e),fun b ps e=>?_⟩,?_,fun x c e=>?_,?_,fun x c e=>?_,fun p hp=>?_,hok,I.len⟩
 ·exact keep b o (neL b o e) hb (neC b o e hx) (I.base.keep b o e n hb hx) (I.base.free b o e n hx)
 ·obtain ⟨sl,e1⟩:=I.base.slot b o e n hb hx
  obtain ⟨sl',e2⟩:=slot b _ (neL b o e) hb (neC b o e hx) e1 (I.base.free b o e n hx)
  exact ⟨sl',e2⟩
 ·obtain ⟨o',e1⟩:=I.base.there b o e hx
  exact free b o' (neC b o e hx) e1 (I.base.free b o e n hx)
 ·obtain ⟨o',e1⟩:=I.base.there b o e hx
  exact there b o' (neC b o e hx) e1
 ·obtain ⟨m1,e1⟩:=I.base.tbls b ps e
  obtain ⟨m2,e2⟩:=tbls b _ e1
  exact ⟨m1++m2,by rw[e2,Array.append_assoc]⟩
 ·obtain ⟨m,hn,hl⟩:=I.loc
  refine ⟨m,ns m hn,fun i x v e1 e2 e3=>?_⟩
  obtain ⟨u,r,l⟩:=hl i x v e1 e2 e3
  refine ⟨u,r,?_⟩
  rcases l with l | ⟨k,c,e,z⟩
  ·exact .inl l
  ·exact .inr ⟨k,c,e,cellK x c e _ z⟩
 ·obtain ⟨v,z⟩:=I.cell x c e
  exact ⟨v,cellK x c e v z⟩
 ·obtain ⟨m,⟨o,_,_,ho,_⟩,_⟩:=I.loc
  exact free _ o (fun z=>(hch _ z).2.1 rfl) ho I.free
 ·obtain ⟨v,o,ho,hd⟩:=I.cell x c e
  exact free c o (fun z=>(hch c z).2.2.1 x c e rfl) ho (I.freeC x c e)
 ·obtain ⟨e,n,ne,nf,d⟩:=I.pin p hp
  have nch:p.1∉ch:=fun z=>(hch p.1 z).2.2.2 p hp rfl
  exact ⟨keep p.1 p.2 ne nf nch e n,free p.1 p.2 nch e n,ne,nf,d⟩
theorem Inv.un {t':Nat} (I:Inv X pins σ H s) (u:Un X.fs [] H H' s.heap h') (hok:HOk X.prog X.w H' h'):Inv X pins σ H' {s with heap:=h',toks:=t'}:=by
 obtain ⟨m,⟨o,es,ep,ho,r⟩,_⟩:=id I.loc
 obtain ⟨sl,hL⟩:=u.any ho I.free (by simp)
 exact I.step (g':=s.gens) (d':=s.drawn) (ch:=[]) (fun _ z=>nomatch z) (fun b o _ hb _ e n=>u.keep b o e n hb (by simp)) (fun b o _ hb _ e n=>u.slot b o e n hb (by simp)) (fun b o _ e n=>u.free b o e n (by simp)) (fun b o _ e=>u.there b o e (by simp)) u.tups u.frzs u.tbls (fun m' hm=>by
  obtain ⟨o',es',ep',ho',r'⟩:=hm
  rw[ho] at ho';cases ho'
  exact ⟨_,es',ep',hL,r'⟩) hok I.bare
theorem Inv.call {g':Array GenState} {t':Nat} {d':Drawn} {ch:List Addr} (I:Inv X pins σ H s) (u:Un (frs X.stack) ch H H' s.heap h') (hok:HOk X.prog X.w H' h') (hg:AllBare g')
  (hch:∀ b∈ch,(b∈X.ex\/X.s₀.heap.objs.size<=b)/\b≠X.env.locals/\(∀ x c,X.env.cells.lookup x=some c->c≠b)/\∀ p∈X.pn++pins,p.1≠b) :
  Inv X pins σ H' {s with heap:=h',gens:=g',drawn:=d',toks:=t'}:=by
 obtain ⟨m,⟨o,es,ep,ho,r⟩,_⟩:=id I.loc
 obtain ⟨sl,hL⟩:=u.any ho I.free fun z=>(hch _ z).2.1 rfl
 exact I.step (ch:=ch) hch (fun b o hL hb hc e n=>u.keep b o e n (fun z=>(List.mem_cons.mp (I.stkSub b z)).elim hL hb) hc) (fun b o _ _ hc e n=>u.any e n hc) (fun b o hc e n=>u.free b o e n hc) (fun b o hc e=>u.there b o e hc) u.tups u.frzs u.tbls (fun m' hm=>by
  obtain ⟨o',es',ep',ho',r'⟩:=hm
  rw[ho] at ho';cases ho'
  exact ⟨_,es',ep',hL,r'⟩) hok hg
theorem Inv.turned {t':Nat} {it:Addr} (I:Inv X pins σ H s) (k:∀ b o,b≠it->s.heap.get? b=some o->h'.get? b=some o) (hn:H it=none) (hL:it≠X.env.locals)
  (h1:it∈X.ex\/X.s₀.heap.objs.size<=it) (h2:∀ x c,X.env.cells.lookup x=some c->c≠it) (h3:∀ p∈X.pn++pins,p.1≠it):Inv X pins σ H {s with heap:=h',toks:=t'}:=by
 have nit:∀ b u,H b=some u->b≠it:=fun b u e z=>by rw[z,hn] at e;cases e
 refine I.step (g':=s.gens) (d':=s.drawn) (ch:=[it]) (fun b hb=>?_) (fun b o _ _ hc e _=>k b o (fun z=>hc (by simp[z])) e) (fun b o _ _ hc e _=>⟨o.slots,k b o (fun z=>hc (by simp[z])) e⟩) (fun _ _ _ _ n=>n)
  (fun b o hc e=>⟨o,k b o (fun z=>hc (by simp[z])) e⟩) (fun _ _ e=>e) (fun _ _ _ e=>e) (fun b ps e=>⟨#[],by rw[e];simp⟩) (fun m hm=>?_) (fun b u e=>?_) I.bare
 ·have e:b=it:=by simpa using hb
  subst e
  exact ⟨h1,hL,h2,h3⟩
 ·obtain ⟨o,es,ep,ho,r⟩:=hm
  exact ⟨o,es,ep,k _ o (Ne.symm hL) ho,r⟩
 ·refine (I.hok b u e).stay (fun c v hc q=>k c v ?_ q) (fun _ q=>q) fun _ _ q=>q
  rcases hc with z | z
  ·rw[z];exact nit b u e
  ·exact nit c _ z
theorem Inv.tok (I:Inv X pins σ H s) (t:Nat):Inv X pins σ H {s with toks:=t}:=I.un (h':=s.heap) (t':=t) Un.refl I.hok
theorem Inv.kept {t':Nat} (I:Inv X pins σ H s) (k:∀ b u,s.heap.get? b=some u->h'.get? b=some u):Inv X pins σ H {s with heap:=h',toks:=t'}:=I.un (Un.kept k) (I.hok.kept k)
theorem Inv.laid {a:Addr} {o:HO} {t':Nat} (I:Inv X pins σ H s) (k:∀ b u,s.heap.get? b=some u->h'.get? b=some u) (hp:s.heap.objs.size<=a) (new:ObjOk X.prog X.w (upd H a o) h' a o) :
  Inv X pins σ (upd H a o) {s with heap:=h',toks:=t'}:=I.un (Un.laid k hp (I.hok.fresh hp)) (I.hok.laid k hp new)
theorem Inv.write {x e:Addr} {o:HO} {t':Nat} (I:Inv X pins σ H s) (mu:Mut (H x)) (he:e=x\/H e=some (.own x)) (k:∀ b u,b≠e->s.heap.get? b=some u->h'.get? b=some u) (heo:∃ u,h'.get? e=some u)
  (new:ObjOk X.prog X.w (upd H x o) h' x o):Inv X pins σ (upd H x o) {s with heap:=h',toks:=t'}:=I.un (Un.write mu he k heo) (I.hok.write mu he k heo new)
theorem Inv.pins_of {pins':List (Addr×Obj)} (I:Inv X pins σ H s) (h:∀ p∈pins',s.heap.get? p.1=some p.2/\H p.1=none/\p.1≠X.env.locals/\p.1∉X.fs/\∀ v,p.2.data≠.cell v):Inv X pins' σ H s:=
 ⟨I.ok,I.os,I.bare,I.base,I.loc,I.cell,I.free,I.freeC,fun p hp=>(List.mem_append.mp hp).elim (fun z=>I.pin p (List.mem_append_left _ z)) (h p),I.hok,I.len⟩
theorem Ju {N:List Str} (hN:N.Nodup) {i j:Nat} {x:Str} (a:N[i]?=some x) (b:N[j]?=some x):i=j:=by
 obtain ⟨h1,e1⟩:=List.getElem?_eq_some_iff.mp a
 obtain ⟨h2,e2⟩:=List.getElem?_eq_some_iff.mp b
 exact (List.getElem_inj hN).mp (e1.trans e2.symm)
theorem Kc {M:Model} {A:Around} {E:Value->Shared->Prop} {i:Nat} {x:Str} {v:V} {u:Value} {Q:Unit->Shared->Prop} (I:Inv X pins σ H s) (hN:X.N.Nodup) (hi:X.N[i]?=some x) (hx:Loc X.env.scope x) (r:RelV v u)
  (h:∀ s',Inv X pins (σ.set i (some v)) H s'->(∃ a,Heap.SameBut a s.heap s'.heap/\(a=X.env.locals\/X.env.cells.lookup x=some a))->Q () s') (hf:X.fn x=true\/X.env.scope.names.lookup x=some .local:=by first | exact .inl rfl | exact .inr rfl | assumption):wpAny M A (storeName X.env x u) Q E s:=by
 obtain ⟨m,hn,hl⟩:=id I.loc
 have hcls:(X.env.scope.kind == .class || (X.env.scope.kind == .module && X.env.locals != X.env.globals))=false:=by rw[I.ok.kind];rfl
 have hiσ:i<σ.length:=by rw[I.len];exact (List.getElem?_eq_some_iff.mp hi).1
 have cne:=I.cne
 have tracked:∀ {a:Addr} {h':Heap},(∃ o,s.heap.get? a=some o/\H a=none)->Heap.SameBut a s.heap h'->HOk X.prog X.w H h':=fun {a h'} ha hs b ob e=>by
  obtain ⟨_,_,hfree⟩:=ha
  refine (I.hok b ob e).stay (fun c w' hc q=>(hs.2 c ?_).trans q) (fun _ q=>q) fun _ _ q=>q
  rintro rfl
  rcases hc with rfl | hc
  ·rw[hfree] at e;cases e
  ·rw[hfree] at hc;cases hc
 rcases hx with hk | hk
 ·refine wpAny_storeName_local hk hn (fun h' hn' hs=>?_) hcls
  obtain ⟨oL,_,_,hoL,_⟩:=id hn
  refine h _ ⟨I.ok,I.os,I.bare,⟨fun b o e n hb hx=>?_,fun b o e n hb hx=>?_,I.base.free,fun b o e hx=>?_,I.base.tups,I.base.frzs,I.base.tbls⟩,⟨_,hn',fun j y v' e1 e2 e3=>?_⟩,fun y c e=>?_,I.free,I.freeC,fun p hp=>?_,tracked ⟨oL,hoL,I.free⟩ hs,by simpa using I.len⟩ ⟨_,hs,.inl rfl⟩
  ·exact (hs.2 b (Nat.ne_of_lt (Nat.lt_of_lt_of_le (Heap.lt_size e) I.ok.above))).trans (I.base.keep b o e n hb hx)
  ·obtain ⟨sl,e1⟩:=I.base.slot b o e n hb hx
   exact ⟨sl,(hs.2 b (Nat.ne_of_lt (Nat.lt_of_lt_of_le (Heap.lt_size e) I.ok.above))).trans e1⟩
  ·obtain ⟨o',e1⟩:=I.base.there b o e hx
   exact ⟨o',(hs.2 b (Nat.ne_of_lt (Nat.lt_of_lt_of_le (Heap.lt_size e) I.ok.above))).trans e1⟩
  ·by_cases hj:j=i
   ·subst hj
    rw[hi] at e1;cases e1
    rw[List.getElem?_set_self hiσ] at e2
    cases e2
    exact ⟨u,r,.inl ⟨hk,by simp⟩⟩
   ·rw[List.getElem?_set_ne (Ne.symm hj)] at e2
    obtain ⟨u',r',q⟩:=hl j y v' e1 e2 e3
    refine ⟨u',r',?_⟩
    rcases q with ⟨k,e⟩ | ⟨k,c,e,z⟩
    ·refine .inl ⟨k,?_⟩
     have:y≠x:=fun e=>hj (Ju hN e1 (e▸hi))
     simp[this,e]
    ·exact .inr ⟨k,c,e,z.sameBut hs (cne y c e)⟩
  ·obtain ⟨w',z⟩:=I.cell y c e
   exact ⟨w',z.sameBut hs (cne y c e)⟩
  ·obtain ⟨e,n,ne,nf,d⟩:=I.pin p hp
   exact ⟨(hs.2 p.1 ne).trans e,n,ne,nf,d⟩
 ·have hfn:X.fn x=true:=by
   rcases hf with z | z
   ·exact z
   ·rw[z] at hk;cases hk
  obtain ⟨c,hc⟩:=I.ok.has x (.inl hk)
  obtain ⟨w',z⟩:=I.cell x c hc
  refine wpAny_storeName_cell I.ok.kind hk hc z (fun h' hc' hs=>?_)
  obtain ⟨oc,hoc,hocd⟩:=id z
  refine h {s with heap:=h'} ⟨I.ok,I.os,I.bare,⟨fun b o e n hb hx=>?_,fun b o e n hb hx=>?_,I.base.free,fun b o e hx=>?_,I.base.tups,I.base.frzs,I.base.tbls⟩,⟨m,hn.sameBut hs (Ne.symm (cne x c hc)),fun j y v' e1 e2 e3=>?_⟩,fun y c' e=>?_,I.free,I.freeC,fun p hp=>?_,tracked ⟨oc,hoc,I.freeC x c hc⟩ hs,by simpa using I.len⟩ ⟨c,hs,.inr hc⟩
  ·exact (hs.2 b (Nat.ne_of_lt (Nat.lt_of_lt_of_le (Heap.lt_size e) (I.ok.cab x c hfn hc)))).trans (I.base.keep b o e n hb hx)
  ·obtain ⟨sl,e1⟩:=I.base.slot b o e n hb hx
   exact ⟨sl,(hs.2 b (Nat.ne_of_lt (Nat.lt_of_lt_of_le (Heap.lt_size e) (I.ok.cab x c hfn hc)))).trans e1⟩
  ·obtain ⟨o',e1⟩:=I.base.there b o e hx
   exact ⟨o',(hs.2 b (Nat.ne_of_lt (Nat.lt_of_lt_of_le (Heap.lt_size e) (I.ok.cab x c hfn hc)))).trans e1⟩
  ·by_cases hj:j=i
   ·subst hj
    rw[hi] at e1;cases e1
    rw[List.getElem?_set_self hiσ] at e2
    cases e2
    exact ⟨u,r,.inr ⟨.inl hk,c,hc,hc'⟩⟩
   ·rw[List.getElem?_set_ne (Ne.symm hj)] at e2
    obtain ⟨u',r',q⟩:=hl j y v' e1 e2 e3
    refine ⟨u',r',?_⟩
    rcases q with q | ⟨k,c',e,z'⟩
    ·exact .inl q
    ·refine .inr ⟨k,c',e,z'.sameBut hs ?_⟩
     rintro rfl
     exact hj (Ju hN e1 (I.ok.inj _ _ _ e hc▸hi))
  ·by_cases hcc:c'=c
   ·subst hcc;exact ⟨_,hc'⟩
   ·obtain ⟨w2,z2⟩:=I.cell y c' e
    exact ⟨w2,z2.sameBut hs hcc⟩
  ·obtain ⟨e,n,ne,nf,d⟩:=I.pin p hp
   refine ⟨(hs.2 p.1 ?_).trans e,n,ne,nf,d⟩
   intro q
   rw[q,hoc] at e
   have q':oc=p.2:=Option.some.inj e
   exact d w' (by rw[<-q'];exact hocd)
theorem HL {M:Model} {A:Around} {E:Value->Shared->Prop} {i:Nat} {x:Str} {v:V} {u:Value} {Q:Unit->Shared->Prop} (I:Inv X pins σ H s) (hN:X.N.Nodup) (hi:X.N[i]?=some x) (hx:Loc X.env.scope x) (r:RelV v u)
  (h:∀ s',Inv X pins (σ.set i (some v)) H s'->Q () s') (hf:X.fn x=true\/X.env.scope.names.lookup x=some .local:=by first | exact .inl rfl | exact .inr rfl | assumption):wpAny M A (storeName X.env x u) Q E s:=
 Kc I hN hi hx r (fun s' I' _=>h s' I') hf
theorem Inv.call' {s':Shared} {ch:List Addr} (I:Inv X pins σ H s) (ho:s'.os=s.os) (u:Un (frs X.stack) ch H H' s.heap s'.heap) (hok:HOk X.prog X.w H' s'.heap) (hg:AllBare s'.gens)
  (hch:∀ b∈ch,(b∈X.ex\/X.s₀.heap.objs.size<=b)/\b≠X.env.locals/\(∀ x c,X.env.cells.lookup x=some c->c≠b)/\∀ p∈X.pn++pins,p.1≠b):Inv X pins σ H' s':=by
 obtain ⟨h',g',d',t',o'⟩:=s'
 have e:o'=s.os:=ho
 subst e
 exact I.call (g':=g') (t':=t') (d':=d') u hok hg hch
end
abbrev XK:=Value->Option Addr->Hp->Prop
abbrev St:=List (Option V)
abbrev VK:=V->Hp->Prop
abbrev TE:=St->Hp->VK->Prop
abbrev TT:=St->Hp->(Bool->Hp->Prop)->Prop
abbrev TA:=St->Hp->(List V->Hp->Prop)->Prop
structure Ends where
 nx:St->Hp->Prop
 rt:VK
 bk:St->Hp->Prop:=fun _ _=>False
 ct:St->Hp->Prop:=fun _ _=>False
abbrev TS:=Ends->St->Hp->Prop
def EP (X:Cx) (pins:List (Addr×Obj)) (σ:St) (Q:VK) (u:Value) (s':Shared):Prop:=∃ v H',Inv X pins σ H' s'/\RelV v u/\Q v H'
def TP (X:Cx) (pins:List (Addr×Obj)) (σ:St) (Q:Bool->Hp->Prop) (b:Bool) (s':Shared):Prop:=∃ H',Inv X pins σ H' s'/\Q b H'
def AP (X:Cx) (pins:List (Addr×Obj)) (σ:St) (Q:List V->Hp->Prop) (us:List Value) (s':Shared):Prop:=∃ vs H',Inv X pins σ H' s'/\Vals vs us/\Q vs H'
def SP (X:Cx) (pins:List (Addr×Obj)) (D:Ends) (f:Flow) (s':Shared):Prop:=
 match f with
 | .next=>∃ σ' H',Inv X pins σ' H' s'/\D.nx σ' H'
 | .brk=>∃ σ' H',Inv X pins σ' H' s'/\D.bk σ' H'
 | .cont=>∃ σ' H',Inv X pins σ' H' s'/\D.ct σ' H'
 | .ret u=>∃ v σ' H',Inv X pins σ' H' s'/\RelV v u/\D.rt v H'
def PE (X:Cx) (e:Expr) (t:TE):Prop:=
 ∀ (pins:List (Addr×Obj)) (s:Shared) (σ:St) (H:Hp) (Q:VK),Inv X pins σ H s->t σ H Q->wpAny (model X.prog X.w) X.A (eval e X.env) (EP X pins σ Q) X.xe s
def PT (X:Cx) (e:Expr) (t:TT):Prop:=
 ∀ (pins:List (Addr×Obj)) (s:Shared) (σ:St) (H:Hp) (Q:Bool->Hp->Prop),Inv X pins σ H s->t σ H Q->wpAny (model X.prog X.w) X.A (isTrue e X.env (eval e X.env)) (TP X pins σ Q) X.xe s
def PW (X:Cx) (e:Expr) (t:TT):Prop:=
 ∀ (whole:Sem Value) (pins:List (Addr×Obj)) (s:Shared) (σ:St) (H:Hp) (Q:Bool->Hp->Prop),Inv X pins σ H s->t σ H Q->wpAny (model X.prog X.w) X.A (isTrue e X.env whole) (TP X pins σ Q) X.xe s
theorem PW.pt {X:Cx} {e:Expr} {t:TT} (h:PW X e t):PT X e t:=h _
def PA (X:Cx) (es:List Expr) (t:TA):Prop:=
 ∀ (pos:Pos) (pins:List (Addr×Obj)) (s:Shared) (σ:St) (H:Hp) (Q:List V->Hp->Prop),Inv X pins σ H s->t σ H Q->wpAny (model X.prog X.w) X.A (spliced (backTo pos (starEach es X.env))) (AP X pins σ Q) X.xe s
def PS (X:Cx) (st:Stmt) (t:TS):Prop:=
 ∀ (pins:List (Addr×Obj)) (s:Shared) (σ:St) (H:Hp) (D:Ends),Inv X pins σ H s->t D σ H->wpAny (model X.prog X.w) X.A (exec st X.env) (SP X pins D) X.xe s
def PSs (X:Cx) (st:List Stmt) (t:TS):Prop:=
 ∀ (pins:List (Addr×Obj)) (s:Shared) (σ:St) (H:Hp) (D:Ends),Inv X pins σ H s->t D σ H->wpAny (model X.prog X.w) X.A (execs st X.env) (SP X pins D) X.xe s
theorem thn {α:Type} {t:Sem α} {Q Q':α->Shared->Prop} {M:Model} {A:Around} {E:Value->Shared->Prop} {s:Shared} (h:wpAny M A t Q E s) (hQ:∀ a s,Q a s->Q' a s):wpAny M A t Q' E s:=wpAny_mono h hQ fun _ _ x=>x
section
variable {X:Cx}
def GF (i:Nat):TE:=fun σ H Q=>∃ v,σ[i]?=some (some v)/\Q v H
def tC (v:V):TE:=fun _ H Q=>Q v H
theorem O4 {i:Nat} {x:Str} {pos:Pos} (hN:X.N[i]?=some x) (hv:Vis X.env.scope x) (hd:(x == ("__debug__":Str))=false:=by decide) (hcd:(x == ("__classdict__":Str))=false:=by decide):PE X (.Name x pos) (GF i):=by
 intro pins s σ H Q I h
 obtain ⟨v,e,h⟩:=h
 obtain ⟨m,hn,hl⟩:=I.loc
 obtain ⟨u,r,l⟩:=hl i x v hN e hv
 have fin:EP X pins σ Q u s:=⟨v,H,I,r,h⟩
 rcases l with ⟨hk,hm⟩ | ⟨hk,c,hc,hcell⟩
 ·exact wpAny_Name (wpAny_loadName_local I.ok.kind hk hn hm fin) hd
 ·rcases hk with hk | hk
  ·exact wpAny_Name (wpAny_loadName_cell I.ok.kind hk hc hcell fin) hd
  ·exact wpAny_Name (wpAny_loadName_free I.ok.kind hk hc hcell fin hcd) hd
theorem HV {i j pos}:PE X (.Constant (.int i) j pos) (tC (.int i)):=fun _ _ _ H _ I h=>wpAny_Constant_int ⟨.int i,H,I.tok _,⟨_,rfl⟩,h⟩
theorem Em {b j pos}:PE X (.Constant (.bool b) j pos) (tC (.bl b)):=fun _ _ _ H _ I h=>Constant_bool ⟨.bl b,H,I,rfl,h⟩
theorem Kk {x j pos}:PE X (.Constant (.str x) j pos) (tC (.str x)):=fun _ _ _ H _ I h=>Calls.Constant_str ⟨.str x,H,I.tok _,⟨_,rfl⟩,h⟩
def Gl (X:Cx) (x:Str):Prop:=X.env.kindOf x=some .globalImplicit
theorem NJ {E:Value->Shared->Prop} {pins:List (Addr×Obj)} {s:Shared} {σ:St} {H:Hp} {x:Str} {u:Value} {pos:Pos} {Q:Value->Shared->Prop} (I:Inv X pins σ H s) (hg:Gl X x) (hm:X.mg x=some u) (h:Q u s)
  (hd:(x == ("__debug__":Str))=false:=by decide):wpAny (model X.prog X.w) X.A (eval (.Name x pos) X.env) Q E s:=
 Calls.Name_function_global I.ok.kind hg (Calls.loadGlobal_global (by rw[I.ok.glob];exact I.mod.glob.keeps I.bk) hm h) hd
theorem D2 {E:Value->Shared->Prop} {pins:List (Addr×Obj)} {s:Shared} {σ:St} {H:Hp} {x:Str} {u:Value} {pos:Pos} {Q:Value->Shared->Prop} (I:Inv X pins σ H s) (hg:Gl X x) (hm:X.mg x=none) (hv:bootBuiltins x=some u) (h:Q u s)
  (hn:x≠"__name__":=by decide) (hd:(x == ("__debug__":Str))=false:=by decide):wpAny (model X.prog X.w) X.A (eval (.Name x pos) X.env) Q E s:=by
 obtain ⟨mb,h1,h2⟩:=I.mod.blt
 exact Calls.Name_function_global I.ok.kind hg (Calls.loadGlobal_builtin (by rw[I.ok.glob];exact I.mod.glob.keeps I.bk) hm (by rw[I.ok.blt];exact h1.keeps I.bk) ((h2 x hn).trans hv) h) hd
theorem QE {x:Str} {v:V} {u:Value} {pos:Pos} (hg:Gl X x) (hm:X.mg x=none) (hv:bootBuiltins x=some u) (r:RelV v u) (hn:x≠"__name__":=by decide) (hd:(x == ("__debug__":Str))=false:=by decide):PE X (.Name x pos) (tC v):=
 fun _ _ _ H _ I h=>D2 I hg hm hv ⟨v,H,I,r,h⟩ hn hd
variable {a b:Expr} {ta tb:TE} {pos:Pos}
def tB (t:TE):TT:=fun σ H Q=>t σ H fun x H1=>∃ c,x=.bl c/\Q c H1
theorem P5 {e:Expr} {t:TE} (h:PE X e t) (he:∀ whole,isTrue e X.env whole=(do let v <-whole;standAt e.pos;holding [v] (truthy v)):=by intro _;rfl):PT X e (tB t):=by
 intro pins s σ H Q I hw
 refine isTrue_plain (thn (h pins s σ H _ I hw) fun v s1 hh_=>?_) (he _)
 obtain ⟨x,H1,I1,r1,q1⟩:=hh_
 obtain ⟨d,rfl,q⟩:=q1
 cases r1
 exact wpAny_truthy_bool ⟨H1,I1,q⟩
variable {tA tB':TT} {rest:List Expr}
def Rq (t u:TT):TT:=fun σ H Q=>t σ H fun c H1=>if c=true then u σ H1 Q else Q false H1
def tOr (t u:TT):TT:=fun σ H Q=>t σ H fun c H1=>if c=true then Q true H1 else u σ H1 Q
def Sq (t:TT):TT:=fun σ H Q=>t σ H fun c H1=>Q (!c) H1
theorem OU (ha:PT X a tA):PW X (.BoolOp .And [a] pos) tA:=by
 intro wh pins s σ H Q I h
 refine isTrue_and (thn (ha pins s σ H Q I h) fun c s1 e=>?_)
 cases c with
 | true=>exact isTrue_and_nil e
 | false=>exact e
theorem Jl (ha:PT X a tA):PW X (.BoolOp .Or [a] pos) tA:=by
 intro wh pins s σ H Q I h
 refine isTrue_or (thn (ha pins s σ H Q I h) fun c s1 e=>?_)
 cases c with
 | false=>exact isTrue_or_nil e
 | true=>exact e
theorem QW (ha:PT X a tA) (hb:PW X (.BoolOp .And (b::rest) pos) tB'):PW X (.BoolOp .And (a::b::rest) pos) (Rq tA tB'):=by
 intro wh pins s σ H Q I h
 refine isTrue_and (thn (ha pins s σ H _ I h) fun c s1 hh_=>?_)
 obtain ⟨H1,I1,q1⟩:=hh_
 cases c with
 | true=>exact hb wh pins s1 σ H1 Q I1 q1
 | false=>exact ⟨H1,I1,q1⟩
theorem Hg (ha:PT X a tA) (hb:PW X (.BoolOp .Or (b::rest) pos) tB'):PW X (.BoolOp .Or (a::b::rest) pos) (tOr tA tB'):=by
 intro wh pins s σ H Q I h
 refine isTrue_or (thn (ha pins s σ H _ I h) fun c s1 hh_=>?_)
 obtain ⟨H1,I1,q1⟩:=hh_
 cases c with
 | true=>exact ⟨H1,I1,q1⟩
 | false=>exact hb wh pins s1 σ H1 Q I1 q1
theorem MN (ha:PT X a tA):PT X (.UnaryOp .Not a pos) (Sq tA):=by
 intro pins s σ H Q I h
 exact isTrue_not (ha pins s σ H (fun c H1=>Q (!c) H1) I h)
end
def SqL (K:PySem.W.Frag) (H:Hp) (a:Addr) (xs:List V):Prop:=
 Rd H a (.lst xs) \/
  ∃ (o:Obj) (its:Array Value) (n:Nat),K.lookup a=some o/\o.cls=.type "list"/\o.dict=none/\o.data=.seq its n/\its.size<=sizeLine/\Vals xs its.toList
def SqT (K:PySem.W.Frag) (H:Hp) (a:Addr) (xs:List V):Prop:=
 Rd H a (.tup xs) \/
  ∃ (o:Obj) (its:Array Value) (n:Nat),K.lookup a=some o/\o.cls=.type "tuple"/\o.data=.seq its n/\its.size<=sizeLine/\Vals xs its.toList
def UK:Value->Option V
 | .none=>some .non
 | .bool b=>some (.bl b)
 | .int i _=>some (.int i)
 | .str x _=>some (.str x)
 | .bytes b _=>some (.byt b)
 | .float b _=>some (.flt b)
 | .ref a=>some (.ref a)
 | .type n=>some (.ty n)
 | _=>none
theorem RelV.abs {x:V} {u:Value} (r:RelV x u):UK u=some x:=by
 cases x with
 | non=>cases r;rfl
 | bl _=>cases r;rfl
 | int _=>obtain ⟨t,rfl⟩:=r;rfl
 | str _=>obtain ⟨t,rfl⟩:=r;rfl
 | byt _=>obtain ⟨t,rfl⟩:=r;rfl
 | flt _=>obtain ⟨t,rfl⟩:=r;rfl
 | ref _=>cases r;rfl
 | ty _=>cases r;rfl
theorem RelV.inj {x y:V} {u:Value} (r:RelV x u) (q:RelV y u):x=y:=Option.some.inj (r.abs.symm.trans q.abs)
theorem Vals.inj:∀ {xs ys:List V} {us:List Value},Vals xs us->Vals ys us->xs=ys
 | _,_,_,.nil,.nil=>rfl
 | _,_,_,.cons r t,.cons r' t'=>by rw[r.inj r',Vals.inj t t']
section
variable {X:Cx} {pins:List (Addr×Obj)} {σ:St} {H:Hp} {s:Shared} {a:Addr} {xs ys:List V}
theorem SqL.of {K:PySem.W.Frag} (h:H a=some (.lst xs)):SqL K H a xs:=.inl (.inl h)
theorem SqT.of {K:PySem.W.Frag} (h:H a=some (.tup xs)):SqT K H a xs:=.inl (.inl h)
theorem Inv.list (I:Inv X pins σ H s) (h:SqL X.K H a xs):∃ its:List Value,Vals xs its/\PlainL s.heap a its.toArray/\xs.length<=sizeLine:=by
 rcases h with h | ⟨o,its,n,hk,hc,hd,hs,hz,r⟩
 ·obtain ⟨z,its,n,r,e⟩:=h.ok I.hok
  exact ⟨its,r,⟨_,n,e,rfl,rfl,rfl⟩,z⟩
 ·refine ⟨its.toList,r,⟨o,n,I.kIn a o hk,hc,hd,by simpa using hs⟩,?_⟩
  have e:=r.length
  simp only[Array.length_toList] at e
  lia
theorem Inv.tuple (I:Inv X pins σ H s) (h:SqT X.K H a xs):∃ its:List Value,Vals xs its/\IsTup s.heap a its.toArray/\xs.length<=sizeLine:=by
 rcases h with h | ⟨o,its,n,hk,hc,hs,hz,r⟩
 ·obtain ⟨z,its,r,p⟩:=h.ok I.hok
  exact ⟨its,r,p,z⟩
 ·refine ⟨its.toList,r,⟨o,I.kIn a o hk,hc,n,by simpa using hs⟩,?_⟩
  have e:=r.length
  simp only[Array.length_toList] at e
  lia
theorem Inv.list_inj (I:Inv X pins σ H s) (h:SqL X.K H a xs) (h':SqL X.K H a ys):xs=ys:=by
 obtain ⟨its,r,⟨o,n,e,_,_,d⟩,_⟩:=I.list h
 obtain ⟨its',r',⟨o',n',e',_,_,d'⟩,_⟩:=I.list h'
 rw[e] at e';cases e'
 rw[d] at d'
 injection d' with d1 _
 have:its=its':=by simpa using congrArg Array.toList d1
 subst this
 exact r.inj r'
theorem Inv.tuple_inj (I:Inv X pins σ H s) (h:SqT X.K H a xs) (h':SqT X.K H a ys):xs=ys:=by
 obtain ⟨its,r,⟨o,e,_,n,d⟩,_⟩:=I.tuple h
 obtain ⟨its',r',⟨o',e',_,n',d'⟩,_⟩:=I.tuple h'
 rw[e] at e';cases e'
 rw[d] at d'
 injection d' with d1 _
 have:its=its':=by simpa using congrArg Array.toList d1
 subst this
 exact r.inj r'
end
abbrev Cx.wish (X:Cx) (E:Value->Shared->Prop):Cx:={X with xe:=E}
abbrev Cx.nox (X:Cx):Cx:=X.wish fun _ _=>False
theorem Cx.Ok.wish {X:Cx} (ok:X.Ok) (E:Value->Shared->Prop):(X.wish E).Ok:=
 ⟨ok.mod,ok.kind,ok.glob,ok.blt,ok.above,ok.inj,ok.has,ok.cab,ok.hd,ok.frames,ok.stk,ok.exf,ok.bs,ok.bsz,ok.noex,ok.exfs,ok.funs,ok.frf⟩
theorem Cx.Ok.unwish {X:Cx} {E:Value->Shared->Prop} (ok:(X.wish E).Ok):X.Ok:=
 ⟨ok.mod,ok.kind,ok.glob,ok.blt,ok.above,ok.inj,ok.has,ok.cab,ok.hd,ok.frames,ok.stk,ok.exf,ok.bs,ok.bsz,ok.noex,ok.exfs,ok.funs,ok.frf⟩
section
variable {X:Cx} {pins:List (Addr×Obj)} {σ:St} {H:Hp} {s:Shared} {E:Value->Shared->Prop}
theorem Inv.wish (I:Inv X pins σ H s) (E:Value->Shared->Prop):Inv (X.wish E) pins σ H s:=⟨I.ok.wish E,I.os,I.bare,I.base,I.loc,I.cell,I.free,I.freeC,I.pin,I.hok,I.len⟩
theorem Inv.unwish (I:Inv (X.wish E) pins σ H s):Inv X pins σ H s:=⟨I.ok.unwish,I.os,I.bare,I.base,I.loc,I.cell,I.free,I.freeC,I.pin,I.hok,I.len⟩
theorem SP.unwish {D:Ends} {f:Flow} {s':Shared} (h:SP (X.wish E) pins D f s'):SP X pins D f s':=by
 cases f with
 | next=>obtain ⟨σ',H',I,q⟩:=h;exact ⟨σ',H',I.unwish,q⟩
 | brk=>obtain ⟨σ',H',I,q⟩:=h;exact ⟨σ',H',I.unwish,q⟩
 | cont=>obtain ⟨σ',H',I,q⟩:=h;exact ⟨σ',H',I.unwish,q⟩
 | ret u=>obtain ⟨v,σ',H',I,r,q⟩:=h;exact ⟨v,σ',H',I.unwish,r,q⟩
theorem PSs.nox {st:List Stmt} {t:TS} (h:PSs X.nox st t):PSs X st t:=fun pins s σ H D I hw=>
 wpAny_mono (h pins s σ H D (I.wish _) hw) (fun _ _ q=>q.unwish) fun _ _ z=>False.elim z
end
section
variable {X:Cx} {st:Stmt} {rest:List Stmt} {t u:TS} {e:Expr} {te:TE} {pos:Pos}
def NX:TS:=fun D σ H=>D.nx σ H
def CO (t u:TS):TS:=fun D σ H=>t {D with nx:=u D} σ H
theorem Ds:PSs X [] NX:=fun _ _ σ H _ I h=>wpAny_execs_nil ⟨σ,H,I,h⟩
theorem BW (h1:PS X st t) (h2:PSs X rest u):PSs X (st::rest) (CO t u):=by
 intro pins s σ H D I h
 refine wpAny_execs_cons (thn (h1 pins s σ H {D with nx:=u D} I h) fun f s1 q=>?_)
 cases f with
 | next=>
  obtain ⟨σ',H',I',q⟩:=q
  exact h2 pins s1 σ' H' D I' q
 | ret v=>exact q
 | brk=>exact q
 | cont=>exact q
theorem Bb (h1:PS X st t):PSs X [st] t:=by
 intro pins s σ H D I h
 refine wpAny_execs_cons (thn (h1 pins s σ H D I h) fun f s1 q=>?_)
 cases f with
 | next=>exact wpAny_execs_nil q
 | ret v=>exact q
 | brk=>exact q
 | cont=>exact q
theorem Inv.quiet {pins:List (Addr×Obj)} {σ:St} {H:Hp} {s:Shared} (I:Inv X pins σ H s):interactive X.env=false:=by simp[interactive,I.ok.kind]
def UE (te:TE):TS:=fun D σ H=>te σ H fun _ H1=>D.nx σ H1
theorem IT (he:PE X e te) (hs:swapsWith e none pos.line X.env=pure false:=by rfl):PS X (.Expr e pos) (UE te):=by
 intro pins s σ H D I h
 exact wpAny_Expr_any (thn (he pins s σ H _ I h) fun v s1 ⟨x,H1,I1,r1,q1⟩=>⟨σ,H1,I1,q1⟩) I.quiet hs
def Sj (te:TE):TS:=fun D σ H=>te σ H D.rt
theorem Cn (he:PE X e te):PS X (.Return (some e) pos) (Sj te):=by
 intro pins s σ H D I h
 exact wpAny_Return_some (thn (he pins s σ H _ I h) fun v s1 ⟨x,H1,I1,r1,q1⟩=>⟨x,σ,H1,I1,r1,q1⟩)
def OI (c:TT) (t u:TS):TS:=fun D σ H=>c σ H fun b H1=>if b=true then t D σ H1 else u D σ H1
theorem Dz {c:Expr} {a b:List Stmt} {tc:TT} (hc:PT X c tc) (ha:PSs X a t) (hb:PSs X b u):PS X (.If c a b pos) (OI tc t u):=by
 intro pins s σ H D I h
 refine wpAny_If (thn (hc pins s σ H _ I h) fun d s1 hh_=>?_)
 obtain ⟨H1,I1,q1⟩:=hh_
 cases d with
 | true=>exact ha pins s1 σ H1 D I1 q1
 | false=>exact hb pins s1 σ H1 D I1 q1
end
abbrev TG:=V->St->Hp->(St->Hp->Prop)->Prop
abbrev TGs:=List V->St->Hp->(St->Hp->Prop)->Prop
def PG (X:Cx) (target:Expr) (t:TG):Prop:=
 ∀ (pins:List (Addr×Obj)) (s:Shared) (σ:St) (H:Hp) (v:V) (u:Value) (Q:St->Hp->Prop),Inv X pins σ H s->RelV v u->t v σ H Q ->
  wpAny (model X.prog X.w) X.A (assign target X.env u) (fun _ s'=>∃ σ' H',Inv X pins σ' H' s'/\Q σ' H') X.xe s
def PGs (X:Cx) (ts:List Expr) (t:TGs):Prop:=
 ∀ (pins:List (Addr×Obj)) (s:Shared) (σ:St) (H:Hp) (vs:List V) (us:List Value) (Q:St->Hp->Prop),Inv X pins σ H s->Vals vs us->t vs σ H Q ->
  wpAny (model X.prog X.w) X.A (assignInOrder ((assignEach ts X.env).map (·.2)) us) (fun _ s'=>∃ σ' H',Inv X pins σ' H' s'/\Q σ' H') X.xe s
abbrev Gd:=V->V->V->Hp->(Hp->Prop)->Prop
def GT (X:Cx) (t:Gd):Prop:=
 ∀ (pins:List (Addr×Obj)) (s:Shared) (σ:St) (H:Hp) (o i v:V) (ov iv u:Value) (Q:Hp->Prop),Inv X pins σ H s->RelV o ov->RelV i iv->RelV v u->t o i v H Q ->
  wpAny (model X.prog X.w) X.A (setItem ov iv u) (fun _ s'=>∃ H',Inv X pins σ H' s'/\Q H') X.xe s
abbrev TIp:=V->V->Hp->VK->Prop
def PIp (X:Cx) (op:Operator) (t:TIp):Prop:=
 ∀ (pins:List (Addr×Obj)) (s:Shared) (σ:St) (H:Hp) (x y:V) (v u:Value) (Q:VK),Inv X pins σ H s->RelV x v->RelV y u->t x y H Q ->
  wpAny (model X.prog X.w) X.A (inplaceOp op v u) (EP X pins σ Q) X.xe s
section
variable {X:Cx} {pos:Pos}
def Dh (i:Nat):TG:=fun v σ H Q=>Q (σ.set i (some v)) H
theorem AV {i:Nat} {x:Str} (hN:X.N.Nodup) (hi:X.N[i]?=some x) (hx:Loc X.env.scope x) (hf:X.fn x=true\/X.env.scope.names.lookup x=some .local:=by first | exact .inl rfl | exact .inr rfl | assumption):PG X (.Name x pos) (Dh i):=by
 intro pins s σ H v u Q I r h
 exact wpAny_assign_Name (HL I hN hi hx r (fun s' I'=>⟨_,H,I',h⟩) hf)
def KB:TGs:=fun vs σ H Q=>vs=[]/\Q σ H
def JJ (t:TG) (u:TGs):TGs:=fun vs σ H Q=>∃ v r,vs=v::r/\t v σ H fun σ' H'=>u r σ' H' Q
theorem Bk:PGs X [] KB:=by
 intro pins s σ H vs us Q I r h
 obtain ⟨e,h⟩:=h
 subst e
 cases r
 exact assignInOrder_nil ⟨σ,H,I,h⟩
theorem Am {e:Expr} {es:List Expr} {t:TG} {u:TGs} (h1:PG X e t) (h2:PGs X es u)
  (hs:(assignEach (e::es) X.env).map (·.2)=assign e X.env::(assignEach es X.env).map (·.2):=by rfl):PGs X (e::es) (JJ t u):=by
 intro pins s σ H vs us Q I r h
 obtain ⟨v,vr,e1,h⟩:=h
 subst e1
 cases r with
 | cons r rr=>
  rw[hs]
  refine assignInOrder_cons (thn (h1 pins s σ H _ _ _ I r h) fun _ s1 hh_=>?_)
  obtain ⟨σ1,H1,I1,q1⟩:=hh_
  exact h2 pins s1 σ1 H1 _ _ Q I1 rr q1
def By (K:PySem.W.Frag) (n:Nat) (t:TGs):TG:=fun v σ H Q=>∃ a xs,v=.ref a/\SqT K H a xs/\xs.length=n/\t xs σ H Q
theorem Pk {es:List Expr} {k:Nat} {t:TGs} {n:Nat} (hc:X.calm=true) (h:PGs X es t)
  (hn:(assignEach es X.env).length=n:=by rfl) (hst:(assignEach es X.env).findIdx? (·.1)=none:=by rfl):PG X (.Tuple es k pos) (By X.K n t):=by
 intro pins s σ H v u Q I r hw
 obtain ⟨a,xs,e1,hq,hl,hw⟩:=hw
 subst e1
 cases r
 obtain ⟨its,rv,ht,hz⟩:=I.tuple hq
 refine assign_Tuple_tuple (I.ok.hd hc) ht (by simp[hn,<-hl,rv.length]) hst fun h' hx=>?_
 have I1:Inv X pins σ H {s with heap:=h'}:=I.kept (t':=s.toks) fun b o e=>hx b o (Nat.ne_of_lt (Heap.lt_size e)) e
 exact h pins _ σ H xs _ Q I1 (by simpa using rv) hw
def KH (to ti:TE) (t:Gd):TG:=fun v σ H Q=>to σ H fun o H1=>ti σ H1 fun i H2=>t o i v H2 fun H3=>Q σ H3
theorem Ts {o i:Expr} {to ti:TE} {t:Gd} (ho:PE X o to) (hi:PE X i ti) (hs:GT X t)
  (ha:∀ v,assign (.Subscript o i pos) X.env v=(do
   let ov <-holding [v] (eval o X.env)
   let iv <-holding [v,ov] (eval i X.env)
   standAt pos
   holding [v,ov,iv] (setItem ov iv v)
   release [v,ov,iv] []):=by intro _;rfl):PG X (.Subscript o i pos) (KH to ti t):=by
 intro pins s σ H v u Q I r h
 rw[ha]
 refine wpAny_bind (wpAny_holding (thn (ho pins s σ H _ I h) fun ov s1 hh_=>?_))
 obtain ⟨x,H1,I1,r1,q1⟩:=hh_
 refine wpAny_bind (wpAny_holding (thn (hi pins s1 σ H1 _ I1 q1) fun iv s2 hh_=>?_))
 obtain ⟨y,H2,I2,r2,q2⟩:=hh_
 refine wpAny_bind (wpAny_standAt (wpAny_bind (wpAny_holding (thn (hs pins s2 σ H2 x y v ov iv u _ I2 r1 r2 r q2) fun _ s3 hh_=>?_))))
 obtain ⟨H3,I3,q3⟩:=hh_
 exact wpAny_release ⟨σ,H3,I3,q3⟩
def Fz (te:TE) (g:TG):TS:=fun D σ H=>te σ H fun x H1=>g x σ H1 D.nx
theorem Ph {tg e:Expr} {te:TE} {g:TG} (he:PE X e te) (hg:PG X tg g) (hs:swapsWithSole [tg] e pos.line X.env=pure false:=by rfl) (hw:swappedStores [tg] e X.env=pure none:=by rfl)
  (h1:(assignEach [tg] X.env).map (·.2)=[assign tg X.env]:=by rfl):PS X (.Assign [tg] e pos) (Fz te g):=by
 intro pins s σ H D I h
 refine wpAny_Assign_stores (thn (he pins s σ H _ I h) fun v s1 hh_=>?_) hs hw
 obtain ⟨x,H1,I1,r1,q1⟩:=hh_
 rw[h1]
 exact thn (hg pins s1 σ H1 x v _ I1 r1 q1) fun _ s2 q=>q
theorem Ad {i:Nat} {x:Str} {e:Expr} {te:TE} {pos':Pos} (hN:X.N.Nodup) (hi:X.N[i]?=some x) (hx:Loc X.env.scope x) (he:PE X e te) (hs:swapsWith e (some (.Name x pos')) pos.line X.env=pure false:=by rfl) (hf:X.fn x=true\/X.env.scope.names.lookup x=some .local:=by first | exact .inl rfl | exact .inr rfl | assumption) :
  PS X (.Assign [.Name x pos'] e pos) (Fz te (Dh i)):=by
 intro pins s σ H D I h
 refine wpAny_Assign_Name (thn (he pins s σ H _ I h) fun v s1 hh_=>?_) hs
 obtain ⟨y,H1,I1,r1,q1⟩:=hh_
 exact HL I1 hN hi hx r1 (fun s2 I2=>⟨_,H1,I2,q1⟩) hf
def KO (i:Nat) (te:TE) (ti:TIp):TS:=fun D σ H=>∃ x,σ[i]?=some (some x)/\te σ H fun y H1=>ti x y H1 fun z H2=>D.nx (σ.set i (some z)) H2
theorem PP {i:Nat} {x:Str} {e:Expr} {te:TE} {op:Operator} {ti:TIp} {pos':Pos} (hN:X.N.Nodup) (hi:X.N[i]?=some x) (hx:Loc X.env.scope x) (he:PE X e te) (ho:PIp X op ti) (hf:X.fn x=true\/X.env.scope.names.lookup x=some .local:=by first | exact .inl rfl | exact .inr rfl | assumption) :
  PS X (.AugAssign (.Name x pos') op e pos) (KO i te ti):=by
 intro pins s σ H D I h
 obtain ⟨v,e1,h⟩:=h
 obtain ⟨m,hn,hl⟩:=I.loc
 have vis:Vis X.env.scope x:=by rcases hx with k | k;exact .inl k;exact .inr (.inl k)
 obtain ⟨u,r,l⟩:=hl i x v hi e1 vis
 refine wpAny_AugAssign_Name ?_
 have go:wpAny (model X.prog X.w) X.A (eval e X.env) (fun w s₂=>wpAny (model X.prog X.w) X.A (inplaceOp op u w) (fun r s₃=>wpAny (model X.prog X.w) X.A (storeName X.env x r) (fun _=>SP X pins D .next) X.xe s₃) X.xe s₂) X.xe s:=by
  refine thn (he pins s σ H _ I h) fun w s1 hh_=>?_
  obtain ⟨y,H1,I1,r1,q1⟩:=hh_
  refine thn (ho pins s1 σ H1 v y u w _ I1 r r1 q1) fun z s2 hh_=>?_
  obtain ⟨zv,H2,I2,r2,q2⟩:=hh_
  exact HL I2 hN hi hx r2 (fun s3 I3=>⟨_,H2,I3,q2⟩) hf
 rcases l with ⟨hk,hm⟩ | ⟨hk,c,hc,hcell⟩
 ·exact wpAny_loadName_local I.ok.kind hk hn hm go
 ·rcases hk with hk | hk
  ·exact wpAny_loadName_cell I.ok.kind hk hc hcell go
  ·rcases hx with k | k
   ·have:X.env.scope.names.lookup x=some .free:=hk
    rw[k] at this;cases this
   ·have:X.env.scope.names.lookup x=some .free:=hk
    rw[k] at this;cases this
def ipI (f:Int->Int->Int):TIp:=fun x y H Q=>∃ i j,x=.int i/\y=.int j/\Q (.int (f i j)) H
theorem PR:PIp X .Add (ipI fun i j=>i+j):=by
 intro pins s σ H x y v u Q I r1 r2 h
 obtain ⟨i,j,e1,e2,q⟩:=h
 subst e1;subst e2
 obtain ⟨t,rfl⟩:=r1
 obtain ⟨t',rfl⟩:=r2
 exact iadd_int ⟨.int _,H,I.tok _,⟨_,rfl⟩,q⟩
end
section
variable {X:Cx} {pos:Pos}
end
structure It where
 go:Nat->Hp->Prop
 yld:Nat->Hp->V->Hp->Prop
 stop:Nat->Hp->Prop
def Br (X:Cx) (pins:List (Addr×Obj)) (H:Hp) (b:Addr):Prop:=
 H b=none/\b≠X.env.locals/\b∉X.fs/\(b∈X.ex\/X.s₀.heap.objs.size<=b)/\(∀ x c,X.env.cells.lookup x=some c->c≠b)/\∀ p∈X.pn++pins,p.1≠b
theorem Inv.fpOk {X:Cx} {pins:List (Addr×Obj)} {σ:St} {H H':Hp} {s:Shared} {b:Addr} (I:Inv X pins σ H s) (hb:s.heap.objs.size<=b) (hn:H' b=none):Br X pins H' b:=by
 refine ⟨hn,Nat.ne_of_gt (Nat.lt_of_lt_of_le I.lt hb),I.nofs hb,.inr (Nat.le_trans I.sz hb),fun x c e z=>?_,fun p hp z=>?_⟩
 ·obtain ⟨v,q⟩:=I.cell x c e
  exact absurd (Nat.lt_of_lt_of_le q.lt (by rw[z];exact hb)) (Nat.lt_irrefl _)
 ·exact absurd (Nat.lt_of_lt_of_le (Heap.lt_size (I.pin p hp).1) (by rw[z];exact hb)) (Nat.lt_irrefl _)
structure Turn (P:Program) (w:World) (K:PySem.W.Frag) (tg:Expr) (J:It) (fp:List Addr) (it:Addr) (tn:Nat->Heap->Prop):Prop where
 mem:it∈fp
 obj:∀ i h,tn i h->∀ b∈fp,∃ o,h.get? b=some o/\∀ v,o.data≠.cell v
 keep:∀ i h h',tn i h->(∀ b∈fp,∀ o,h.get? b=some o->h'.get? b=some o)->tn i h'
 item:∀ (X:Cx),X.prog=P->X.w=w->X.K=K->X.calm=true->∀ (i:Nat) (pins:List (Addr×Obj)) (s:Shared) (σ:St) (H:Hp) (E:Value->Shared->Prop),Inv X pins σ H s->(∀ b∈fp,Br X pins H b)->tn i s.heap->J.go i H ->
  wpAny (model P w) X.A (pyNext (.ref it)) (fun r s1=>∃ u,r=some u /\
   wpAny (model P w) X.A (letOwnedTupleGo tg (.ref it) u) (fun _ s2=>∃ x H',Inv X pins σ H' s2/\RelV x u/\J.yld i H x H'/\tn (i+1) s2.heap/\∀ b∈fp,H' b=none) E s1) E s
 done:∀ (X:Cx),X.prog=P->X.w=w->X.K=K->X.calm=true->∀ (i:Nat) (pins:List (Addr×Obj)) (s:Shared) (σ:St) (H:Hp) (E:Value->Shared->Prop),Inv X pins σ H s->(∀ b∈fp,Br X pins H b)->tn i s.heap->J.stop i H ->
  wpAny (model P w) X.A (pyNext (.ref it)) (fun r s1=>r=none/\Inv X pins σ H s1) E s
 self:∀ (A:Around) (i:Nat) (s:Shared) (Q:Value->Shared->Prop) (E:Value->Shared->Prop),tn i s.heap->Q (.ref it) s->wpAny (model P w) A (pyIter (.ref it)) Q E s
abbrev TI:=St->Hp->(It->Hp->Prop)->Prop
def PIE (X:Cx) (pins:List (Addr×Obj)) (σ:St) (tg:Expr) (R:It->Hp->Prop) (itv:Value) (s2:Shared):Prop:=
 ∃ (it:Addr) (fp:List Addr) (tn:Nat->Heap->Prop) (J:It) (H':Hp),itv=.ref it/\Inv X pins σ H' s2/\Turn X.prog X.w X.K tg J fp it tn/\tn 0 s2.heap/\(∀ b∈fp,Br X pins H' b)/\R J H'
def PI (X:Cx) (tg iter:Expr) (wi:TI):Prop:=
 ∀ (pins:List (Addr×Obj)) (s:Shared) (σ:St) (H:Hp) (R:It->Hp->Prop),Inv X pins σ H s->wi σ H R ->
  wpAny (model X.prog X.w) X.A (eval iter X.env) (fun v s1=>wpAny (model X.prog X.w) X.A (pyIter v) (PIE X pins σ tg R) X.xe s1) X.xe s
theorem E1 {M:Model} {A:Around} {E:Value->Shared->Prop} {s:Shared} {tg:Expr} {it:Addr} {u:Value} {o:Obj} {n:String} {vs:Array Value} {Q:Unit->Shared->Prop} (ho:s.heap.get? it=some o) (hc:o.cls=.type n) (hd:o.data=.fields vs)
  (hn:["enumerate","zip","dict_itemiterator","dict_reverseitemiterator","odict_iterator","itertools.zip_longest","itertools.pairwise"].contains n=false) (hQ:Q () s):wpAny M A (letOwnedTupleGo tg (.ref it) u) Q E s:=by
 unfold letOwnedTupleGo
 cases tg<;>first
  | exact wpAny_pure hQ
  | (cases u<;>first
    | exact wpAny_pure hQ
    | (refine wpAny_bind (wpAny_load ho ?_)
       rw[hc,hd]
       show wpAny M A (if (["enumerate","zip","dict_itemiterator","dict_reverseitemiterator","odict_iterator","itertools.zip_longest","itertools.pairwise"].contains n && vs[0]? == some (rawInt _))=true then _ else _) Q E s
       rw[if_neg (by intro h;rw[hn,Bool.false_and] at h;cases h)]
       exact wpAny_pure hQ))
def Itl (K:PySem.W.Frag) (a:Addr):It:=
 ⟨fun i H=>∃ xs x,SqL K H a xs/\xs[i]?=some x,fun i H x H'=>H'=H/\∀ xs,SqL K H a xs->xs[i]?=some x,fun i H=>∃ xs,SqL K H a xs/\xs.length<=i⟩
def Itt (K:PySem.W.Frag) (a:Addr):It:=
 ⟨fun i H=>∃ xs x,SqT K H a xs/\xs[i]?=some x,fun i H x H'=>H'=H/\∀ xs,SqT K H a xs->xs[i]?=some x,fun i H=>∃ xs,SqT K H a xs/\xs.length<=i⟩
def Itr (lo:Int) (n:Nat):It:=⟨fun i _=>i<n,fun i H x H'=>H'=H/\x=.int (lo+i),fun i _=>n<=i⟩
theorem OM {P:Program} {w:World} {K:PySem.W.Frag} {tg:Expr} (a it:Addr):Turn P w K tg (Itl K a) [it] it (fun i h=>h.IsListIter it a i) where
 mem:=by simp
 obj:=fun i h st b hb=>by
  have e:b=it:=by simpa using hb
  subst e
  obtain ⟨o,e,c,d⟩:=st
  exact ⟨o,e,fun v z=>by rw[d] at z;cases z⟩
 keep:=fun i h h' st k=>st.at fun o e=>k it (by simp) o e
 item:=by
  intro X hP hw hK hc i pins s σ H E I hf st hg
  subst hP hw hK
  obtain ⟨xs,x,hq,hx⟩:=hg
  obtain ⟨its,rv,p,hz⟩:=I.list hq
  obtain ⟨u,hu,ru⟩:=rv.get hx
  obtain ⟨f0,f1,f2,f3,f4,f5⟩:=hf it (by simp)
  refine wpAny_pyNext_list_item st p.isList (x:=u) (by simpa using hu) fun h' st' sb=>?_
  have I1:Inv X pins σ H {s with heap:=h'}:=I.turned (t':=s.toks) (fun b o hb e=>(sb.2 b hb).trans e) f0 f1 f3 f4 f5
  obtain ⟨o,e,c,d⟩:=id st'
  exact ⟨u,rfl,E1 (s:={s with heap:=h'}) e c d (by decide) ⟨x,H,I1,ru,⟨rfl,fun ys hy=>by rw[I.list_inj hy hq];exact hx⟩,st',fun b hb=>(hf b hb).1⟩⟩
 done:=by
  intro X hP hw hK hc i pins s σ H E I hf st hg
  subst hP hw hK
  obtain ⟨xs,hq,hx⟩:=hg
  obtain ⟨its,rv,p,hz⟩:=I.list hq
  obtain ⟨f0,f1,f2,f3,f4,f5⟩:=hf it (by simp)
  have hl:=rv.length
  exact wpAny_pyNext_list_end (I.ok.hd hc) st p.isList (by simp;lia) fun h' eb=>⟨rfl,I.turned (t':=s.toks) (fun b o hb e=>eb b o hb e) f0 f1 f3 f4 f5⟩
 self:=fun _ _ _ _ _ st h=>wpAny_pyIter_listiter st h
theorem Qa {P:Program} {w:World} {K:PySem.W.Frag} {tg:Expr} (a it:Addr):Turn P w K tg (Itt K a) [it] it (fun i h=>h.IsTupleIter it a i) where
 mem:=by simp
 obj:=fun i h st b hb=>by
  have e:b=it:=by simpa using hb
  subst e
  obtain ⟨o,e,c,d⟩:=st
  exact ⟨o,e,fun v z=>by rw[d] at z;cases z⟩
 keep:=fun i h h' st k=>st.at fun o e=>k it (by simp) o e
 item:=by
  intro X hP hw hK hc i pins s σ H E I hf st hg
  subst hP hw hK
  obtain ⟨xs,x,hq,hx⟩:=hg
  obtain ⟨its,rv,p,hz⟩:=I.tuple hq
  obtain ⟨u,hu,ru⟩:=rv.get hx
  obtain ⟨f0,f1,f2,f3,f4,f5⟩:=hf it (by simp)
  refine wpAny_pyNext_tuple_item st (show s.heap.IsTuple a its.toArray from p) (x:=u) (by simpa using hu) fun h' st' sb=>?_
  have I1:Inv X pins σ H {s with heap:=h'}:=I.turned (t':=s.toks) (fun b o hb e=>(sb.2 b hb).trans e) f0 f1 f3 f4 f5
  obtain ⟨o,e,c,d⟩:=id st'
  exact ⟨u,rfl,E1 (s:={s with heap:=h'}) e c d (by decide) ⟨x,H,I1,ru,⟨rfl,fun ys hy=>by rw[I.tuple_inj hy hq];exact hx⟩,st',fun b hb=>(hf b hb).1⟩⟩
 done:=by
  intro X hP hw hK hc i pins s σ H E I hf st hg
  subst hP hw hK
  obtain ⟨xs,hq,hx⟩:=hg
  obtain ⟨its,rv,p,hz⟩:=I.tuple hq
  obtain ⟨f0,f1,f2,f3,f4,f5⟩:=hf it (by simp)
  have hl:=rv.length
  exact wpAny_pyNext_tuple_end (I.ok.hd hc) st (show s.heap.IsTuple a its.toArray from p) (by simp;lia) fun h' eb=>⟨rfl,I.turned (t':=s.toks) (fun b o hb e=>eb b o hb e) f0 f1 f3 f4 f5⟩
 self:=fun _ _ _ _ _ st h=>wpAny_pyIter_tupleiter st h
theorem Ng {P:Program} {w:World} {K:PySem.W.Frag} {tg:Expr} (it:Addr) (lo:Int) (n:Nat):Turn P w K tg (Itr lo n) [it] it (fun i h=>IsRangeIter h it (lo+(i:Nat) * 1) ((n:Int) - (i:Nat)) 1) where
 mem:=by simp
 obj:=fun i h st b hb=>by
  have e:b=it:=by simpa using hb
  subst e
  exact ⟨_,st,fun v z=>by
   have z':Data.fields _=Data.cell v:=z
   cases z'⟩
 keep:=fun i h h' st k=>k it (by simp) _ st
 item:=by
  intro X hP hw hK hc i pins s σ H E I hf st hg
  subst hP hw hK
  obtain ⟨f0,f1,f2,f3,f4,f5⟩:=hf it (by simp)
  have W:=Walks.range (prog:=X.prog) (w:=X.w) (I.ok.hd hc) it lo 1 n
  refine W.item i s _ _ hg st fun v h' tk hv st' kk=>?_
  obtain ⟨t,rfl⟩:=hv
  have I1:Inv X pins σ H {s with heap:=h',toks:=tk}:=I.turned (fun b o hb e=>kk b o (by simpa using hb) e) f0 f1 f3 f4 f5
  refine ⟨_,rfl,E1 (s:={s with heap:=h',toks:=tk}) (n:="range_iterator") st' rfl rfl (by decide) ⟨.int (lo+i),H,I1,⟨t,?_⟩,⟨rfl,rfl⟩,st',fun b hb=>(hf b hb).1⟩⟩
  rw[Int.mul_one]
 done:=by
  intro X hP hw hK hc i pins s σ H E I hf st hg
  subst hP hw hK
  obtain ⟨f0,f1,f2,f3,f4,f5⟩:=hf it (by simp)
  exact wpAny_pyNext_range_end (I.ok.hd hc) st (by have:n<=i:=hg;lia) fun h' eb=>⟨rfl,I.turned (t':=s.toks) (fun b o hb e=>eb b o hb e) f0 f1 f3 f4 f5⟩
 self:=fun _ _ _ _ _ st h=>wpAny_pyIter_rangeiter st h
section
variable {X:Cx} {tg:Expr}
def Jv (K:PySem.W.Frag) (tl:TE):TI:=fun σ H R=>tl σ H fun x H1=>∃ a,x=.ref a/\(∃ xs,SqL K H1 a xs)/\R (Itl K a) H1
def RA (K:PySem.W.Frag) (tl:TE):TI:=fun σ H R=>tl σ H fun x H1=>∃ a,x=.ref a/\(∃ xs,SqT K H1 a xs)/\R (Itt K a) H1
theorem JV {l:Expr} {tl:TE} (hl:PE X l tl):PI X tg l (Jv X.K tl):=by
 intro pins s σ H R I h
 refine thn (hl pins s σ H _ I h) fun v s1 hh_=>?_
 obtain ⟨x,H1,I1,r1,q1⟩:=hh_
 obtain ⟨a,e,⟨xs,hq⟩,q⟩:=q1
 subst e
 cases r1
 obtain ⟨its,rv,p,hz⟩:=I1.list hq
 refine wpAny_pyIter_list p.isList ?_
 refine ⟨s1.heap.objs.size,[s1.heap.objs.size],_,_,H1,rfl,I1.kept (t':=s1.toks) fun b o e=>Heap.get?_push_of_some _ e,OM a _,⟨_,Heap.get?_push_size _ rfl,rfl,rfl⟩,fun b hb=>?_,q⟩
 have e:b=s1.heap.objs.size:=by simpa using hb
 subst e
 exact I1.fpOk (Nat.le_refl _) (I1.hok.fresh (Nat.le_refl _))
theorem SC {l:Expr} {tl:TE} (hl:PE X l tl):PI X tg l (RA X.K tl):=by
 intro pins s σ H R I h
 refine thn (hl pins s σ H _ I h) fun v s1 hh_=>?_
 obtain ⟨x,H1,I1,r1,q1⟩:=hh_
 obtain ⟨a,e,⟨xs,hq⟩,q⟩:=q1
 subst e
 cases r1
 obtain ⟨its,rv,p,hz⟩:=I1.tuple hq
 refine wpAny_pyIter_tuple (show s1.heap.IsTuple a its.toArray from p) ?_
 refine ⟨s1.heap.objs.size,[s1.heap.objs.size],_,_,H1,rfl,I1.kept (t':=s1.toks) fun b o e=>Heap.get?_push_of_some _ e,Qa a _,⟨_,Heap.get?_push_size _ rfl,rfl,rfl⟩,fun b hb=>?_,q⟩
 have e:b=s1.heap.objs.size:=by simpa using hb
 subst e
 exact I1.fpOk (Nat.le_refl _) (I1.hok.fresh (Nat.le_refl _))
theorem Oe {pins:List (Addr×Obj)} {σ:St} {H:Hp} {s:Shared} {R:It->Hp->Prop} {E:Value->Shared->Prop} {lo hi:Int} {t u v:Tok} {tk:Nat} (I:Inv X pins σ H s) (h1:-(2 ^ 62)<=lo) (h2:lo<2 ^ 62) (h3:-(2 ^ 62)<=hi) (h4:hi<2 ^ 62)
  (q:R (Itr lo (hi - lo).toNat) H):wpAny (model X.prog X.w) X.A (pyIter (.ref s.heap.objs.size)) (PIE X pins σ tg R) E {s with heap:=s.heap.push {cls:=.type "range",data:=.fields #[.int lo t,.int hi u,.int 1 v]},toks:=tk}:=by
 refine wpAny_pyIter_range (IsRange.new ..) (small_one h1 h2 h3 h4) ?_
 have I1:Inv X pins σ H {s with heap:=s.heap.push {cls:=.type "range",data:=.fields #[.int lo t,.int hi u,.int 1 v]},toks:=tk}:=I.kept fun b o e=>Heap.get?_push_of_some _ e
 refine ⟨(s.heap.push {cls:=.type "range",data:=.fields #[.int lo t,.int hi u,.int 1 v]}).objs.size,[(s.heap.push {cls:=.type "range",data:=.fields #[.int lo t,.int hi u,.int 1 v]}).objs.size],_,_,H,rfl,
  I1.kept (t':=tk) fun b o e=>Heap.get?_push_of_some _ e,Ng _ lo (hi - lo).toNat,?_,fun b hb=>?_,q⟩
 ·have e1:lo+((0:Nat):Int) * 1=lo:=by simp
  have e2:(((hi - lo).toNat:Nat):Int) - ((0:Nat):Int)=Builtin.Range.rangeSize lo hi 1:=by rw[rangeSize_one];split<;>lia
  show IsRangeIter _ _ (lo+((0:Nat):Int) * 1) ((((hi - lo).toNat:Nat):Int) - ((0:Nat):Int)) 1
  rw[e1,e2]
  exact Heap.get?_push_size _ rfl
 ·have e:b=(s.heap.push {cls:=.type "range",data:=.fields #[.int lo t,.int hi u,.int 1 v]}).objs.size:=by simpa using hb
  subst e
  exact I1.fpOk (Nat.le_refl _) (I1.hok.fresh (Nat.le_refl _))
def Nw (ta:TA):TI:=fun σ H R=>ta σ H fun vs H1=>∃ j:Int,vs=[.int j]/\-(2 ^ 62)<=j/\j<2 ^ 62/\R (Itr 0 j.toNat) H1
theorem UJ {a:Expr} {ta:TA} {p pos:Pos} (hg:Gl X "range") (hm:X.mg "range"=none) (ha:PA X [a] ta) (hs:starEach [a] X.env=[(false,eval a X.env)]:=by rfl):PI X tg (.Call (.Name "range" p) [a] [] pos) (Nw ta):=by
 intro pins s σ H R I h
 refine Call_ (D2 I hg hm boot_range (PyProof.Rows.callWith_type1 (thn (ha pos pins s σ H _ I h) fun us s1 hh_=>?_) hs rfl))
 obtain ⟨vs,H1,I1,r1,q1⟩:=hh_
 obtain ⟨j,e,q1,q2,q⟩:=q1
 subst e
 cases r1 with
 | cons r rr=>
  cases rr
  obtain ⟨t,rfl⟩:=r
  exact call_range_1 (Oe I1 (by lia) (by lia) q1 q2 (by simpa using q))
def Tp (wi:TI) (g:TG) (tb:TS):TS:=fun D σ H=>wi σ H fun J H1=>∃ W:Nat->Nat->St->Hp->Prop,(∃ m,W 0 m σ H1)/\∀ i m σ H,W i m σ H ->
 (J.stop i H/\D.nx σ H)\/(J.go i H/\∃ N:St->Hp->Prop,(∀ σ' H',N σ' H'->∃ m',m'<m/\W (i+1) m' σ' H')/\∀ x H',J.yld i H x H'->g x σ H' fun σ2 H2=>tb {D with nx:=N,ct:=N,bk:=D.nx} σ2 H2)
def Es (fp:List Addr) (h:Heap):List (Addr×Obj):=fp.filterMap fun b=>(h.get? b).map fun o=>(b,o)
theorem Fm {fp:List Addr} {h:Heap} {b:Addr} {o:Obj} (hb:b∈fp) (e:h.get? b=some o):(b,o)∈Es fp h:=List.mem_filterMap.mpr ⟨b,hb,by rw[e];rfl⟩
theorem QR {fp:List Addr} {h:Heap} {p:Addr×Obj} (hp:p∈Es fp h):p.1∈fp/\h.get? p.1=some p.2:=by
 obtain ⟨b,hb,e⟩:=List.mem_filterMap.mp hp
 cases q:h.get? b with
 | none=>rw[q] at e;cases e
 | some o=>
  rw[q] at e
  have e':(b,o)=p:=Option.some.inj e
  subst e'
  exact ⟨hb,q⟩
theorem Inv.pinned {pins:List (Addr×Obj)} {σ:St} {H:Hp} {s:Shared} {fp:List Addr} (I:Inv X pins σ H s) (hf:∀ b∈fp,Br X pins H b) (ho:∀ b∈fp,∃ o,s.heap.get? b=some o/\∀ v,o.data≠.cell v):Inv X (pins++Es fp s.heap) σ H s:=
 I.pins_of fun p hp=>(List.mem_append.mp hp).elim (fun z=>I.pin p (List.mem_append_right _ z)) fun z=>by
  obtain ⟨hb,e⟩:=QR z
  obtain ⟨f0,f1,f2,_⟩:=hf p.1 hb
  obtain ⟨o,e',d⟩:=ho p.1 hb
  rw[e] at e';cases e'
  exact ⟨e,f0,f1,f2,d⟩
theorem Inv.unpinned {pins pl:List (Addr×Obj)} {σ:St} {H:Hp} {s:Shared} (I:Inv X (pins++pl) σ H s):Inv X pins σ H s:=I.pins_of fun p hp=>I.pin p (List.mem_append_right _ (List.mem_append_left _ hp))
theorem EX {iter:Expr} {body:List Stmt} {wi:TI} {g:TG} {tb:TS} {pos:Pos} (hp:PassesOwn (model X.prog X.w) X.A X.env X.xe) (hc:X.calm=true) (hi:PI X tg iter wi) (hg:PG X tg g) (hb:PSs X body tb)
  (hs:∀ x,foldedSetIterable iter X.env x=pure x:=by intro _;rfl):PS X (.For tg iter body [] pos) (Tp wi g tb):=by
 intro pins s σ H D I h
 refine wpAny_For (thn (hi pins s σ H _ I h) fun v s1 h1=>thn h1 fun itv s2 h2=>?_) hs
 obtain ⟨it,fp,tn,J,H2,e,I2,T,st2,f2,W,⟨m0,w0⟩,turn⟩:=h2
 subst e
 have stat:∀ {H':Hp},(∀ b∈fp,H' b=none)->∀ b∈fp,Br X pins H' b:=fun hn b hb=>⟨hn b hb,(f2 b hb).2⟩
 refine codeAny_forLoop_any (fun n s'=>∃ i σ' H',Inv X pins σ' H' s'/\tn i s'.heap/\(∀ b∈fp,H' b=none)/\W i n σ' H') ?_ m0 ⟨0,σ,H2,I2,st2,fun b hb=>(f2 b hb).1,w0⟩
 rintro n s3 ⟨i,σ3,H3,I3,st3,fr3,w3⟩
 rcases turn i n σ3 H3 w3 with ⟨stop,qn⟩ | ⟨go,N,hN,step⟩
 ·refine wpAny_passesOwn hp (thn (T.done X rfl rfl rfl hc i pins s3 σ3 H3 X.xe I3 (stat fr3) st3 stop) fun r s4 hh_=>?_)
  obtain ⟨hr,I4⟩:=hh_
  subst hr
  exact wpAny_execs_nil ⟨σ3,H3,I4,qn⟩
 ·refine wpAny_passesOwn hp (thn (T.item X rfl rfl rfl hc i pins s3 σ3 H3 X.xe I3 (stat fr3) st3 go) fun r s4 hh_=>?_)
  obtain ⟨u,hr,h4⟩:=hh_
  subst hr
  refine wpAny_passesOwn hp (thn h4 fun _ s5 hh_=>?_)
  obtain ⟨x,H5,I5,r5,y5,st5,fr5⟩:=hh_
  have I5':=I5.pinned (stat fr5) (T.obj _ _ st5)
  refine wpAny_passesOwn hp (thn (hg _ s5 σ3 H5 x u _ I5' r5 (step x H5 y5)) fun _ s6 hh_=>?_)
  obtain ⟨σ6,H6,I6,q6⟩:=hh_
  refine wpAny_passesOwn hp (thn (hb _ s6 σ6 H6 _ I6 q6) fun f s7 q7=>?_)
  have again:∀ {σ7:St} {H7:Hp},Inv X (pins++Es fp s5.heap) σ7 H7 s7->N σ7 H7->∃ m,m<n/\∃ i σ' H',Inv X pins σ' H' s7/\tn i s7.heap/\(∀ b∈fp,H' b=none)/\W i m σ' H':=fun {σ7 H7} I7 n7=>by
   obtain ⟨m',hm,w7⟩:=hN σ7 H7 n7
   refine ⟨m',hm,i+1,σ7,H7,I7.unpinned,T.keep _ _ _ st5 fun b hb o e=>(I7.pin (b,o) (List.mem_append_right _ (List.mem_append_right _ (Fm hb e)))).1,fun b hb=>?_,w7⟩
   obtain ⟨o,e,d⟩:=T.obj _ _ st5 b hb
   exact (I7.pin (b,o) (List.mem_append_right _ (List.mem_append_right _ (Fm hb e)))).2.1
  cases f with
  | next=>obtain ⟨σ7,H7,I7,n7⟩:=q7;exact again I7 n7
  | cont=>obtain ⟨σ7,H7,I7,n7⟩:=q7;exact again I7 n7
  | brk=>obtain ⟨σ7,H7,I7,q7⟩:=q7;exact ⟨σ7,H7,I7.unpinned,q7⟩
  | ret v=>obtain ⟨x7,σ7,H7,I7,r7,q7⟩:=q7;exact ⟨x7,σ7,H7,I7.unpinned,r7,q7⟩
end
theorem Oi {K:PySem.W.Frag} {a:Addr} {xs:List V} {g:TG} {tb:TS} {D:Ends} {σ:St} {H:Hp} (Pv:Nat->St->Hp->Prop) (h0:Pv 0 σ H) (hl:∀ i σ H,i<=xs.length->Pv i σ H->SqL K H a xs)
  (hs:∀ i x σ H,xs[i]?=some x->Pv i σ H->g x σ H fun σ2 H2=>tb {D with nx:=Pv (i+1),ct:=Pv (i+1),bk:=D.nx} σ2 H2) (hd:∀ σ H,Pv xs.length σ H->D.nx σ H) :
  ∃ W:Nat->Nat->St->Hp->Prop,(∃ m,W 0 m σ H)/\∀ i m σ H,W i m σ H ->
   ((Itl K a).stop i H/\D.nx σ H)\/((Itl K a).go i H/\∃ N:St->Hp->Prop,(∀ σ' H',N σ' H'->∃ m',m'<m/\W (i+1) m' σ' H')/\∀ x H',(Itl K a).yld i H x H'->g x σ H' fun σ2 H2=>tb {D with nx:=N,ct:=N,bk:=D.nx} σ2 H2):=by
 refine ⟨fun i m σ H=>m=xs.length - i/\i<=xs.length/\Pv i σ H,⟨xs.length,by simp,Nat.zero_le _,h0⟩,?_⟩
 rintro i m σ H ⟨rfl,hi,p⟩
 have q:=hl i σ H hi p
 by_cases hlt:i<xs.length
 ·refine .inr ⟨⟨xs,xs[i],q,by simp[hlt]⟩,Pv (i+1),fun σ' H' p'=>⟨xs.length - (i+1),by lia,rfl,hlt,p'⟩,fun x H' y=>?_⟩
  obtain ⟨e,y⟩:=y
  subst e
  exact hs i x σ _ (y xs q) p
 ·have e:i=xs.length:=by lia
  subst e
  exact .inl ⟨⟨xs,q,Nat.le_refl _⟩,hd σ H p⟩
abbrev R2:=V->V->Hp->VK->Prop
def OpR (X:Cx) (f:Value->Value->Sem Value) (r:R2):Prop:=
 ∀ (pins:List (Addr×Obj)) (s:Shared) (σ:St) (H:Hp) (x y:V) (v u:Value) (Q:VK),Inv X pins σ H s->RelV x v->RelV y u->r x y H Q ->
  wpAny (model X.prog X.w) X.A (f v u) (EP X pins σ Q) X.xe s
def CallR (X:Cx) (f:Value) (r:List V->Hp->VK->Prop):Prop:=
 ∀ (pins:List (Addr×Obj)) (s:Shared) (σ:St) (H:Hp) (xs:List V) (us:List Value) (Q:VK),Inv X pins σ H s->Vals xs us->r xs H Q ->
  wpAny (model X.prog X.w) X.A (call f us) (EP X pins σ Q) X.xe s
def RH (X:Cx) (r:V->Hp->(Bool->Hp->Prop)->Prop):Prop:=
 ∀ (pins:List (Addr×Obj)) (s:Shared) (σ:St) (H:Hp) (x:V) (v:Value) (Q:Bool->Hp->Prop),Inv X pins σ H s->RelV x v->r x H Q ->
  wpAny (model X.prog X.w) X.A (truthy v) (TP X pins σ Q) X.xe s
def tOp (r:R2) (ta tb:TE):TE:=fun σ H Q=>ta σ H fun x H1=>tb σ H1 fun y H2=>r x y H2 Q
def rI (C:Int->Int->Prop) (g:Int->Int->V):R2:=fun x y H Q=>∃ i j,x=.int i/\y=.int j/\C i j/\Q (g i j) H
def rI0 (g:Int->Int->V):R2:=fun x y H Q=>∃ i j,x=.int i/\y=.int j/\Q (g i j) H
section
variable {X:Cx} {a b c:Expr} {ta tb tc:TE} {pos:Pos}
theorem HQ (ha:PE X a ta) (hb:PE X b tb) {pins:List (Addr×Obj)} {s:Shared} {σ:St} {H:Hp} {R:V->V->Hp->Prop} (I:Inv X pins σ H s)
  (h:ta σ H fun x H1=>tb σ H1 fun y H2=>R x y H2) {Q:Value->Shared->Prop} {f:Value->Value->Sem Value}
  (hf:∀ v u s2 x y H2,Inv X pins σ H2 s2->RelV x v->RelV y u->R x y H2->wpAny (model X.prog X.w) X.A (f v u) Q X.xe s2) :
  wpAny (model X.prog X.w) X.A (eval a X.env) (fun v s₁=>wpAny (model X.prog X.w) X.A (eval b X.env) (fun u s₂=>wpAny (model X.prog X.w) X.A (f v u) Q X.xe s₂) X.xe s₁) X.xe s:=by
 refine thn (ha pins s σ H _ I h) fun v s1 hh_=>?_
 obtain ⟨x,H1,I1,r1,q1⟩:=hh_
 refine thn (hb pins s1 σ H1 _ I1 q1) fun u s2 hh_=>?_
 obtain ⟨y,H2,I2,r2,q2⟩:=hh_
 exact hf v u s2 x y H2 I2 r1 r2 q2
theorem Hs {op:Operator} {r:R2} (ho:OpR X (binaryOp op) r) (ha:PE X a ta) (hb:PE X b tb):PE X (.BinOp a op b pos) (tOp r ta tb):=by
 intro pins s σ H Q I h
 exact wpAny_BinOp (HQ ha hb I h fun v u s2 x y H2 I2 rx ry q=>ho pins s2 σ H2 x y v u Q I2 rx ry q)
theorem opI {f:Value->Value->Sem Value} {C:Int->Int->Prop} {g:Int->Int->Int}
  (rule:∀ (i j:Int) (t u:Tok) (s:Shared) (Q:Value->Shared->Prop) (E:Value->Shared->Prop),C i j->Q (.int (g i j) s.toks) {s with toks:=s.toks+1}->wpAny (model X.prog X.w) X.A (f (.int i t) (.int j u)) Q E s) :
  OpR X f (rI C fun i j=>.int (g i j)):=by
 intro pins s σ H x y v u Q I rx ry h
 obtain ⟨i,j,rfl,rfl,hc,q⟩:=h
 obtain ⟨t,rfl⟩:=rx
 obtain ⟨t',rfl⟩:=ry
 exact rule i j t t' s _ _ hc ⟨.int (g i j),H,I.tok _,⟨_,rfl⟩,q⟩
theorem M4 {f:Value->Value->Sem Value} {g:Int->Int->Int}
  (rule:∀ (i j:Int) (t u:Tok) (s:Shared) (Q:Value->Shared->Prop) (E:Value->Shared->Prop),Q (.int (g i j) s.toks) {s with toks:=s.toks+1}->wpAny (model X.prog X.w) X.A (f (.int i t) (.int j u)) Q E s) :
  OpR X f (rI0 fun i j=>.int (g i j)):=by
 intro pins s σ H x y v u Q I rx ry h
 obtain ⟨i,j,rfl,rfl,q⟩:=h
 obtain ⟨t,rfl⟩:=rx
 obtain ⟨t',rfl⟩:=ry
 exact rule i j t t' s _ _ ⟨.int (g i j),H,I.tok _,⟨_,rfl⟩,q⟩
theorem HM {f:Value->Value->Sem Value} {g:Int->Int->Bool}
  (rule:∀ (i j:Int) (t u:Tok) (s:Shared) (Q:Value->Shared->Prop) (E:Value->Shared->Prop),Q (.bool (g i j)) s->wpAny (model X.prog X.w) X.A (f (.int i t) (.int j u)) Q E s) :
  OpR X f (rI0 fun i j=>.bl (g i j)):=by
 intro pins s σ H x y v u Q I rx ry h
 obtain ⟨i,j,rfl,rfl,q⟩:=h
 obtain ⟨t,rfl⟩:=rx
 obtain ⟨t',rfl⟩:=ry
 exact rule i j t t' s _ _ ⟨.bl (g i j),H,I,rfl,q⟩
def HY (i j:Int):Prop:=0<=j/\j<=1000000/\i.natAbs<2 ^ 64
def CMul (i j:Int):Prop:=(-(2 ^ 64)<i/\i<2 ^ 64)\/(-(2 ^ 64)<j/\j<2 ^ 64)
theorem CMul.ok {i j:Int} (h:CMul i j):IntMulOk i j:=by
 rcases h with ⟨h1,h2⟩ | ⟨h1,h2⟩
 ·exact .of_left (intBits_le_64 h1 h2)
 ·exact .of_right (intBits_le_64 h1 h2)
theorem op_add:OpR X (binaryOp .Add) (rI0 fun i j=>.int (i+j)):=M4 fun _ _ _ _ _ _ _ q=>add_int q
theorem O3:OpR X (binaryOp .Sub) (rI0 fun i j=>.int (i - j)):=M4 fun _ _ _ _ _ _ _ q=>sub_int q
theorem Ra:OpR X (binaryOp .Mult) (rI CMul fun i j=>.int (i * j)):=opI fun _ _ _ _ _ _ _ hc q=>mul_int q hc.ok
theorem OP:OpR X (binaryOp .Mod) (rI (fun _ j=>0<j) fun i j=>.int (i % j)):=opI fun i j _ _ _ _ _ hc q=>by
 have h1:(0:Int)<j:=hc
 exact mod_int' (by lia) (by rw[Int.fmod_eq_emod_of_nonneg i (by lia)];exact q)
theorem Rz:OpR X (binaryOp .Pow) (rI HY fun i j=>.int (i ^ j.toNat)):=opI fun _ _ _ _ _ _ _ hc q=>pow_int_small hc.1 hc.2.1 hc.2.2 q
end
def Hb:V->V->Bool
 | .non,.non=>true | .non,.int _=>true | .int _,.non=>true | .non,.bl _=>true | .bl _,.non=>true | .non,.str _=>true | .str _,.non=>true
 | .int _,.int _=>true | .bl _,.bl _=>true | .str _,.str _=>true | .byt _,.byt _=>true
 | .int _,.str _=>true | .str _,.int _=>true | .bl _,.str _=>true | .str _,.bl _=>true
 | _,_=>false
def rEq:R2:=fun x y H Q=>Hb x y=true/\Q (.bl (decide (x=y))) H
def rNe:R2:=fun x y H Q=>Hb x y=true/\Q (.bl (!decide (x=y))) H
theorem Mf {i j:Int}:decide (V.int i=V.int j)=(i == j):=by
 rw[Bool.eq_iff_iff]
 simp
theorem M3 {i j:Bool}:decide (V.bl i=V.bl j)=(i == j):=by
 rw[Bool.eq_iff_iff]
 simp
theorem Lf {i j:Str}:decide (V.str i=V.str j)=(i == j):=by
 rw[Bool.eq_iff_iff]
 simp
theorem Mw {i j:Array UInt8}:decide (V.byt i=V.byt j)=(i.toList == j.toList):=by
 rw[Bool.eq_iff_iff]
 cases i
 cases j
 simp
section
variable {X:Cx} {a b c:Expr} {ta tb tc:TE} {pos:Pos}
theorem Ak {pins:List (Addr×Obj)} {σ:St} {H:Hp} {s:Shared} {Q:VK} {k k':Bool} (I:Inv X pins σ H s) (q:Q (.bl k) H) (e:k=k'):EP X pins σ Q (.bool k') s:=by
 subst e
 exact ⟨.bl k,H,I,rfl,q⟩
theorem op_eq:OpR X (compareOp .Eq) rEq:=by
 intro pins s σ H x y v u Q I rx ry h
 obtain ⟨hs,q⟩:=h
 cases x with
 | non=>
  cases rx
  cases y with
  | non=>cases ry;exact PySem.EqNone.eq_none_none (Ak I q (by simp))
  | bl j=>cases ry;exact PySem.EqNone.eq_none_bool (Ak I q (by simp))
  | int j=>obtain ⟨t',rfl⟩:=ry;exact PySem.EqNone.eq_none_int (Ak I q (by simp))
  | str j=>obtain ⟨t',rfl⟩:=ry;exact PySem.EqNone.eq_none_str (Ak I q (by simp))
  | _=>exact absurd (show false=true from hs) Bool.false_ne_true
 | bl i=>
  cases rx
  cases y with
  | non=>cases ry;exact PySem.EqNone.eq_bool_none (Ak I q (by simp))
  | bl j=>cases ry;exact eq_bool (Ak I q M3)
  | str j=>obtain ⟨t',rfl⟩:=ry;exact PySem.EqMixed.eq_bool_str (Ak I q (by simp))
  | _=>exact absurd (show false=true from hs) Bool.false_ne_true
 | int i=>
  obtain ⟨t,rfl⟩:=rx
  cases y with
  | non=>cases ry;exact PySem.EqNone.eq_int_none (Ak I q (by simp))
  | int j=>obtain ⟨t',rfl⟩:=ry;exact eq_int (Ak I q Mf)
  | str j=>obtain ⟨t',rfl⟩:=ry;exact PySem.EqMixed.eq_int_str (Ak I q (by simp))
  | _=>exact absurd (show false=true from hs) Bool.false_ne_true
 | str i=>
  obtain ⟨t,rfl⟩:=rx
  cases y with
  | non=>cases ry;exact PySem.EqNone.eq_str_none (Ak I q (by simp))
  | bl j=>cases ry;exact PySem.EqMixed.eq_str_bool (Ak I q (by simp))
  | int j=>obtain ⟨t',rfl⟩:=ry;exact PySem.EqMixed.eq_str_int (Ak I q (by simp))
  | str j=>obtain ⟨t',rfl⟩:=ry;exact eq_str (Ak I q Lf)
  | _=>exact absurd (show false=true from hs) Bool.false_ne_true
 | byt i=>
  obtain ⟨t,rfl⟩:=rx
  cases y with
  | byt j=>obtain ⟨t',rfl⟩:=ry;exact PySem.W.eq_bytes (Ak I q Mw)
  | _=>exact absurd (show false=true from hs) Bool.false_ne_true
 | _=>cases y<;>exact absurd (show false=true from hs) Bool.false_ne_true
theorem op_ne:OpR X (compareOp .NotEq) rNe:=by
 intro pins s σ H x y v u Q I rx ry h
 obtain ⟨hs,q⟩:=h
 cases x with
 | non=>
  cases rx
  cases y with
  | non=>cases ry;exact PySem.EqNone.ne_none_none (Ak I q (by simp))
  | bl j=>cases ry;exact PySem.EqNone.ne_none_bool (Ak I q (by simp))
  | int j=>obtain ⟨t',rfl⟩:=ry;exact PySem.EqNone.ne_none_int (Ak I q (by simp))
  | str j=>obtain ⟨t',rfl⟩:=ry;exact PySem.EqNone.ne_none_str (Ak I q (by simp))
  | _=>exact absurd (show false=true from hs) Bool.false_ne_true
 | bl i=>
  cases rx
  cases y with
  | non=>cases ry;exact PySem.EqNone.ne_bool_none (Ak I q (by simp))
  | bl j=>cases ry;exact ne_bool (Ak I q (congrArg not M3))
  | str j=>obtain ⟨t',rfl⟩:=ry;exact PySem.EqMixed.ne_bool_str (Ak I q (by simp))
  | _=>exact absurd (show false=true from hs) Bool.false_ne_true
 | int i=>
  obtain ⟨t,rfl⟩:=rx
  cases y with
  | non=>cases ry;exact PySem.EqNone.ne_int_none (Ak I q (by simp))
  | int j=>obtain ⟨t',rfl⟩:=ry;exact ne_int (Ak I q (congrArg not Mf))
  | str j=>obtain ⟨t',rfl⟩:=ry;exact PySem.EqMixed.ne_int_str (Ak I q (by simp))
  | _=>exact absurd (show false=true from hs) Bool.false_ne_true
 | str i=>
  obtain ⟨t,rfl⟩:=rx
  cases y with
  | non=>cases ry;exact PySem.EqNone.ne_str_none (Ak I q (by simp))
  | bl j=>cases ry;exact PySem.EqMixed.ne_str_bool (Ak I q (by simp))
  | int j=>obtain ⟨t',rfl⟩:=ry;exact PySem.EqMixed.ne_str_int (Ak I q (by simp))
  | str j=>obtain ⟨t',rfl⟩:=ry;exact ne_str (Ak I q (congrArg not Lf))
  | _=>exact absurd (show false=true from hs) Bool.false_ne_true
 | byt i=>
  obtain ⟨t,rfl⟩:=rx
  cases y with
  | byt j=>obtain ⟨t',rfl⟩:=ry;exact PySem.W.ne_bytes (Ak I q (congrArg not Mw))
  | _=>exact absurd (show false=true from hs) Bool.false_ne_true
 | _=>cases y<;>exact absurd (show false=true from hs) Bool.false_ne_true
theorem op_lt:OpR X (compareOp .Lt) (rI0 fun i j=>.bl (decide (i<j))):=HM fun _ _ _ _ _ _ _ q=>lt_int q
theorem op_gt:OpR X (compareOp .Gt) (rI0 fun i j=>.bl (decide (j<i))):=HM fun _ _ _ _ _ _ _ q=>gt_int q
theorem op_ge:OpR X (compareOp .GtE) (rI0 fun i j=>.bl (decide (j<=i))):=HM fun _ _ _ _ _ _ _ q=>ge_int q
theorem OpR.or {f:Value->Value->Sem Value} {r r':R2} (h:OpR X f r) (h':OpR X f r'):OpR X f (fun x y H Q=>r x y H Q\/r' x y H Q):=by
 intro pins s σ H x y v u Q I rx ry q
 rcases q with q | q
 ·exact h pins s σ H x y v u Q I rx ry q
 ·exact h' pins s σ H x y v u Q I rx ry q
theorem Cz (b:Expr) {op:CmpOp} (h:op≠.In:=by decide) (h2:op≠.NotIn:=by decide):behindInMarks op b=false:=by
 have e1:(op == CmpOp.In)=false:=by cases op<;>first | rfl | exact absurd rfl h
 have e2:(op == CmpOp.NotIn)=false:=by cases op<;>first | rfl | exact absurd rfl h2
 cases b<;>simp[behindInMarks,e1,e2]
theorem RC {op:CmpOp} {r:R2} (ho:OpR X (compareOp op) r) (ha:PE X a ta) (hb:PE X b tb) (hm:behindInMarks op b=false):PE X (.Compare a [op] [b] pos) (tOp r ta tb):=by
 intro pins s σ H Q I h
 exact wpAny_Compare1 (HQ ha hb I h fun v u s2 x y H2 I2 rx ry q=>ho pins s2 σ H2 x y v u Q I2 rx ry q) hm
def PB (t:TE):TT:=fun σ H Q=>t σ H fun x H'=>∃ k,x=.bl k/\Q k H'
theorem Lv {op:CmpOp} {r:R2} (ho:OpR X (compareOp op) r) (ha:PE X a ta) (hb:PE X b tb) (hm:behindInMarks op b=false):PT X (.Compare a [op] [b] pos) (PB (tOp r ta tb)):=by
 intro pins s σ H Q I h
 refine wpAny_isTrue_Compare1 (thn (ha pins s σ H _ I h) fun v s1 ⟨x,H1,I1,r1,q1⟩=>thn (hb pins s1 σ H1 _ I1 q1) fun u s2 ⟨y,H2,I2,r2,q2⟩=>
  thn (ho pins s2 σ H2 x y v u _ I2 r1 r2 q2) fun c s3 ⟨z,H3,I3,r3,k,e,q3⟩=>?_) hm
 subst e
 cases r3
 exact wpAny_truthy_bool ⟨H3,I3,q3⟩
def IV (K:PySem.W.Frag) (x:V) (H:Hp) (k:Bool):Prop:=
 match x with
 | .non=>k=false
 | .bl b=>k=b
 | .int i=>k=(i != 0)
 | .str y=>y.length<=sizeLine/\k=((y.length:Int) != 0)
 | .byt y=>y.size<=sizeLine/\k=((y.size:Int) != 0)
 | .ref p=>(∃ xs,SqL K H p xs/\k=!xs.isEmpty)\/(∃ xs,SqT K H p xs/\k=!xs.isEmpty)\/∃ kvs,H p=some (.dK kvs)/\k=!kvs.isEmpty
 | _=>False
theorem Sx {κ:Type} {kvs:List (κ×V)} {vs:List (κ×Value)} (r:KV kvs vs):(!vs.isEmpty)=!kvs.isEmpty:=by
 cases r<;>rfl
theorem M7 {xs:List V} {its:List Value} (r:Vals xs its):(!its.toArray.isEmpty)=!xs.isEmpty:=by
 cases r<;>simp
theorem EH:(sizeLine:Nat)<2 ^ 63:=by rw[sizeLine_eq];decide
theorem ND:RH X (fun x H Q=>∃ k,IV X.K x H k/\Q k H):=by
 intro pins s σ H x v Q I rx h
 obtain ⟨k,e,q⟩:=h
 have hl:=EH
 have hs:sizeLine=16777216:=sizeLine_eq
 cases x with
 | non=>
  cases rx
  have e':k=false:=e
  subst e'
  exact truthy_none ⟨H,I,q⟩
 | bl b=>
  cases rx
  have e':k=b:=e
  subst e'
  exact wpAny_truthy_bool ⟨H,I,q⟩
 | int i=>
  obtain ⟨t,rfl⟩:=rx
  have e':k=(i != 0):=e
  subst e'
  exact PySem.P.truthy_int ⟨H,I,q⟩
 | str y=>
  obtain ⟨t,rfl⟩:=rx
  obtain ⟨hy,e'⟩:y.length<=sizeLine/\k=((y.length:Int) != 0):=e
  subst e'
  exact PySem.P.truthy_str (by lia) ⟨H,I.tok _,q⟩
 | byt y=>
  obtain ⟨t,rfl⟩:=rx
  obtain ⟨hy,e'⟩:y.size<=sizeLine/\k=((y.size:Int) != 0):=e
  subst e'
  exact PySem.W.truthy_bytes (by lia) ⟨H,I.tok _,q⟩
 | ref p=>
  cases rx
  have e':(∃ xs,SqL X.K H p xs/\k=!xs.isEmpty)\/(∃ xs,SqT X.K H p xs/\k=!xs.isEmpty)\/∃ kvs,H p=some (.dK kvs)/\k=!kvs.isEmpty:=e
  rcases e' with ⟨xs,hx,e'⟩ | ⟨xs,hx,e'⟩ | ⟨kvs,hx,e'⟩
  ·subst e'
   obtain ⟨its,r,pl,hz⟩:=I.list hx
   have hlen:=r.length
   exact wpAny_truthy_list pl.isList (by simp only[List.size_toArray];lia) ⟨H,I.tok _,by rw[M7 r];exact q⟩
  ·subst e'
   obtain ⟨its,r,pl,hz⟩:=I.tuple hx
   have hlen:=r.length
   exact truthy_tuple pl (by simp only[List.size_toArray];lia) ⟨H,I.tok _,by rw[M7 r];exact q⟩
  ·subst e'
   obtain ⟨hz,hS,vs,r,m⟩:kvs.length<=sizeLine/\(p == sysModules)=false/\∃ vs,KV kvs vs/\s.heap.DictOf (BS X.prog X.w) p vs:=I.hok p _ hx
   have hlen:kvs.length=vs.length:=Paired.length r
   exact wpAny_truthy_dict hS m (by lia) ⟨H,I.tok _,by rw[Sx r];exact q⟩
 | _=>exact (show False from e).elim
theorem RZ (ha:PE X a ta) (he:∀ whole,isTrue a X.env whole=(do let v <-whole;standAt a.pos;holding [v] (truthy v))) :
  PT X a (fun σ H Q=>ta σ H fun x H'=>∃ k,IV X.K x H' k/\Q k H'):=by
 intro pins s σ H Q I h
 exact isTrue_plain (thn (ha pins s σ H _ I h) fun v s1 ⟨x,H1,I1,r1,q1⟩=>ND pins s1 σ H1 x v Q I1 r1 q1) (he _)
theorem op_add_str:OpR X (binaryOp .Add) (fun x y H Q=>∃ i j,x=.str i/\y=.str j/\i.length+j.length<=sizeLine/\Q (.str (i++j)) H):=by
 intro pins s σ H x y v u Q I rx ry h
 obtain ⟨i,j,rfl,rfl,hz,q⟩:=h
 obtain ⟨t,rfl⟩:=rx
 obtain ⟨t',rfl⟩:=ry
 exact add_str (fun t' tk=>⟨.str (i++j),H,I.tok _,⟨_,rfl⟩,q⟩) hz
theorem vals1 {x:V} {us:List Value} (r:Vals [x] us):∃ u,us=[u]/\RelV x u:=by
 cases r with
 | cons r1 r2=>cases r2;exact ⟨_,rfl,r1⟩
theorem vals2 {x y:V} {us:List Value} (r:Vals [x,y] us):∃ u w',us=[u,w']/\RelV x u/\RelV y w':=by
 cases r with
 | cons r1 r2=>
  cases r2 with
  | cons r3 r4=>cases r4;exact ⟨_,_,rfl,r1,r3⟩
theorem Rk (hc:X.calm=true):CallR X (.builtin "max") (fun xs H Q=>∃ i j,xs=[.int i,.int j]/\Q (.int (if j > i then j else i)) H):=by
 intro pins s σ H xs us Q I r h
 obtain ⟨i,j,rfl,q⟩:=h
 obtain ⟨u,w',rfl,⟨t,rfl⟩,⟨t',rfl⟩⟩:=vals2 r
 refine max_two_ints (I.ok.hd hc) fun h' tk k=>⟨_,H,I.kept k,?_,q⟩
 by_cases hj:j > i
 ·rw[if_pos hj,if_pos hj];exact ⟨_,rfl⟩
 ·rw[if_neg hj,if_neg hj];exact ⟨_,rfl⟩
theorem TZ (hc:X.calm=true):CallR X (.builtin "min") (fun xs H Q=>∃ i j,xs=[.int i,.int j]/\Q (.int (if j<i then j else i)) H):=by
 intro pins s σ H xs us Q I r h
 obtain ⟨i,j,rfl,q⟩:=h
 obtain ⟨u,w',rfl,⟨t,rfl⟩,⟨t',rfl⟩⟩:=vals2 r
 refine min_two_ints (I.ok.hd hc) fun h' tk k=>⟨_,H,I.kept k,?_,q⟩
 by_cases hj:j<i
 ·rw[if_pos hj,if_pos hj];exact ⟨_,rfl⟩
 ·rw[if_neg hj,if_neg hj];exact ⟨_,rfl⟩
theorem OH:CallR X (.type "int") (fun xs H Q=>(∃ i,xs=[.int i]/\Q (.int i) H)\/∃ k,xs=[.bl k]/\Q (.int (if k then 1 else 0)) H):=by
 intro pins s σ H xs us Q I r h
 rcases h with ⟨i,rfl,q⟩ | ⟨k,rfl,q⟩
 ·obtain ⟨u,rfl,t,rfl⟩:=vals1 r
  exact call_int_int ⟨.int i,H,I,⟨_,rfl⟩,q⟩
 ·obtain ⟨u,rfl,r1⟩:=vals1 r
  cases r1
  exact call_int_bool ⟨.int (if k then 1 else 0),H,I.tok _,⟨_,rfl⟩,q⟩
def Ko (K:PySem.W.Frag) (x:V) (H:Hp) (n:Nat):Prop:=
 match x with
 | .str y=>y.length<=sizeLine/\n=y.length
 | .byt y=>y.size<=sizeLine/\n=y.size
 | .ref p=>(∃ xs,SqL K H p xs/\n=xs.length)\/∃ xs,SqT K H p xs/\n=xs.length
 | _=>False
theorem Re:CallR X (.builtin "len") (fun xs H Q=>∃ x n,xs=[x]/\Ko X.K x H n/\Q (.int n) H):=by
 intro pins s σ H xs us Q I r h
 obtain ⟨x,n,rfl,e,q⟩:=h
 obtain ⟨u,rfl,rx⟩:=vals1 r
 have hl:=EH
 have hs:sizeLine=16777216:=sizeLine_eq
 cases x with
 | str y=>
  obtain ⟨t,rfl⟩:=rx
  obtain ⟨hy,e'⟩:y.length<=sizeLine/\n=y.length:=e
  subst e'
  exact len_str (by lia) ⟨.int _,H,I.tok _,⟨_,rfl⟩,q⟩
 | byt y=>
  obtain ⟨t,rfl⟩:=rx
  obtain ⟨hy,e'⟩:y.size<=sizeLine/\n=y.size:=e
  subst e'
  exact PySem.W.len_bytes (by lia) ⟨.int _,H,I.tok _,⟨_,rfl⟩,q⟩
 | ref p=>
  cases rx
  have e':(∃ xs,SqL X.K H p xs/\n=xs.length)\/∃ xs,SqT X.K H p xs/\n=xs.length:=e
  rcases e' with ⟨xs,hx,e'⟩ | ⟨xs,hx,e'⟩
  ·subst e'
   obtain ⟨its,r',pl,hz⟩:=I.list hx
   have hlen:=r'.length
   exact Calls.call_len_list pl.isList (by simp only[List.size_toArray];lia) ⟨.int xs.length,H,I.tok _,⟨_,by simp only[List.size_toArray];rw[hlen]⟩,q⟩
  ·subst e'
   obtain ⟨its,r',pl,hz⟩:=I.tuple hx
   have hlen:=r'.length
   exact len_tuple pl (by simp only[List.size_toArray];lia) ⟨.int xs.length,H,I.tok _,⟨_,by simp only[List.size_toArray];rw[hlen]⟩,q⟩
 | _=>exact (show False from e).elim
end
structure ObjM (h:Heap) (x dx C:Addr) (mA:Str->Option Value):Prop where
 obj:h.get? x=some (PySem.W.instObj C dx)
 ns:h.Ns1 dx mA
 ne:dx≠x
theorem SH {h:Heap} {dx:Addr} {mA:Str->Option Value} (n:h.Ns1 dx mA):∃ od,h.get? dx=some od/\∀ name,PySem.W.lookIn name od=some (mA name):=by
 obtain ⟨o,es,ep,ho,hd,hk,_,hm⟩:=n
 refine ⟨o,ho,fun name=>?_⟩
 have e:=hm name
 unfold nsFind findBy at e
 rw[<-Array.find?_toList] at e
 unfold PySem.W.lookIn
 rw[hd]
 dsimp only
 split
 ·rename_i y q
  rw[q] at e
  exact congrArg some e
 ·rename_i q
  rw[q] at e
  have a:es.toList.any (·.refKey)=false:=by
   rw[List.any_eq_false]
   intro y hy
   obtain ⟨z,t,hkey⟩:=hk y (Array.mem_toList_iff.mp hy)
   simp[DictEntry.refKey,hkey]
  have a':¬es.toList.any (·.refKey)=true:=by rw[a];exact Bool.false_ne_true
  rw[if_neg a']
  exact congrArg some e
theorem ObjM.look {h:Heap} {x dx C:Addr} {mA:Str->Option Value} (I:ObjM h x dx C mA):∃ od,PySem.W.InstAt h x (PySem.W.instObj C dx) C (some od)/\∀ name,PySem.W.lookIn name od=some (mA name):=
 let ⟨od,ho,hl⟩:=SH I.ns
 ⟨od,⟨I.obj,rfl,rfl,ho⟩,hl⟩
section
variable {prog:Program} {w:World} {A:Around} {E:Value->Shared->Prop} {s:Shared} {K:PySem.W.Frag} {x dx C f:Addr} {mA:Str->Option Value} {name:Str} {v:Value}
end
theorem RelO.some_of {v:V} {o:Option Value} (r:RelO (some v) o):∃ u,o=some u/\RelV v u:=by
 cases o with
 | none=>exact (show False from r).elim
 | some u=>exact ⟨u,rfl,r⟩
section
variable {P:Program} {w:World} {H H':Hp} {h h':Heap} {a C dx:Addr} {fs fs':List (Str×V)}
theorem OO (hok:HOk P w H h) (e:H a=some (.ins C dx fs)):∃ mA,ObjM h a dx C mA/\(∀ f,RelO (fs.lookup f) (mA f))/\PySem.Within mA (fs.map (·.1))/\fs.length<=1000/\H dx=some (.own a):=by
 obtain ⟨d,z,ne,ob,mA,n,r,q⟩:=(show ObjOk P w H h a (.ins C dx fs) from hok a _ e)
 exact ⟨mA,⟨ob,n,ne⟩,r,q,z,d⟩
end
structure Cls (K:PySem.W.Frag) (C:Addr):Prop where
 pg:PySem.W.plainGet K C Str.empty=true
 hd:PySem.W.hasDictIn K C=true
 po:PySem.W.plainOver K C=true
 sa:PySem.W.findIn K (.ref C) "__setattr__"=some (some (.builtin "object.__setattr__"))
theorem Cls.get {K:PySem.W.Frag} {C:Addr} (c:Cls K C) (f:Str):PySem.W.plainGet K C f=true:=c.pg
structure Con (K:PySem.W.Frag) (C:Addr) (f:Str) (v:V) (u:Value):Prop where
 at_:PySem.W.findIn K (.ref C) f=some (some u)
 rel:RelV v u
 get:PySem.W.specialIn K u "__get__"=some none
 cp:PySem.W.copiedNames.contains f=false
structure Meth (K:PySem.W.Frag) (C:Addr) (m:Str) (f:Addr):Prop where
 at_:PySem.W.findIn K (.ref C) m=some (some (.ref f))
 fn:PySem.W.isFn K (.ref f)=true
 kp:PySem.W.keepIn K (.ref f)=true
section
variable {X:Cx} {pins:List (Addr×Obj)} {σ:St} {H:Hp} {s:Shared} {a C dx:Addr} {fs:List (Str×V)} {f:Str} {v:V} {A:Around} {E:Value->Shared->Prop}
end
section
variable {X:Cx} {o e value:Expr} {f:Str} {pos pos' tpos:Pos} {ta tv:TE}
end
section
variable {X:Cx} {pins:List (Addr×Obj)} {σ:St} {H:Hp} {s:Shared} {A:Around} {E:Value->Shared->Prop} {Q:Value->Shared->Prop} {c:Value} {b:Bool}
inductive TyOf (K:PySem.W.Frag) (H:Hp):V->Value->Prop where
 | non:TyOf K H .non (.type "NoneType")
 | bl (x:Bool):TyOf K H (.bl x) (.type "bool")
 | int (i:Int):TyOf K H (.int i) (.type "int")
 | str (x:Str):TyOf K H (.str x) (.type "str")
 | flt (x:UInt64):TyOf K H (.flt x) (.type "float")
 | lst {a:Addr} {xs:List V} (e:H a=some (.lst xs)):TyOf K H (.ref a) (.type "list")
 | frz {a:Addr} {o:Obj} {xs:List V} (e:H a=some (.frz o (.lst xs))):TyOf K H (.ref a) (.type "list")
 | tup {a:Addr} {xs:List V} (e:H a=some (.tup xs)):TyOf K H (.ref a) (.type "tuple")
 | dK {a:Addr} {kvs:List (Key×V)} (e:H a=some (.dK kvs)):TyOf K H (.ref a) (.type "dict")
 | dT {a:Addr} {kvs:List (List Key×V)} (e:H a=some (.dT kvs)):TyOf K H (.ref a) (.type "dict")
 | ins {a C dx:Addr} {fs:List (Str×V)} (e:H a=some (.ins C dx fs)) (cl:Cls K C) (ha:PySem.W.findIn K (.ref C) "__class__"=some (some (.builtin "object.__class__")))
   (hn:PySem.W.specialIn K (.builtin "object.__class__") "__get__"=some (some (.builtin "getset_descriptor.__get__"))) (htk:PySem.W.takesIn K (.builtin "object.__class__")=some true)
   (hm:PySem.W.mroIn K C (.type "object")=some true):TyOf K H (.ref a) (.ref C)
theorem Ri {x:V} {u t:Value} (I:Inv X pins σ H s) (rx:RelV x u) (ty:TyOf X.K H x t) (e:PySem.W.kitOne X.K t c=some b) (h:∀ tk,Q (.bool b) {s with toks:=tk}) :
  wpAny (model X.prog X.w) A (call (.builtin "isinstance") [u,c]) Q E s:=by
 cases ty with
 | non=>cases (show u=Value.none from rx);exact PySem.W.kia_one PySem.W.kitx_none I.kIn True.intro e (fun z=>nomatch z) h
 | bl y=>cases (show u=Value.bool y from rx);exact PySem.W.kia_one PySem.W.kitx_bool I.kIn True.intro e (fun z=>nomatch z) h
 | int i=>obtain ⟨t,q⟩:=(show ∃ t,u=Value.int i t from rx);cases q;exact PySem.W.kia_one PySem.W.kitx_int I.kIn True.intro e (fun z=>nomatch z) h
 | str y=>obtain ⟨t,q⟩:=(show ∃ t,u=Value.str y t from rx);cases q;exact PySem.W.kia_one PySem.W.kitx_str I.kIn True.intro e (fun z=>nomatch z) h
 | flt y=>obtain ⟨t,q⟩:=(show ∃ t,u=Value.float y t from rx);cases q;exact PySem.W.kia_one PySem.W.kitx_float I.kIn True.intro e (fun z=>nomatch z) h
 | @lst a xs ea=>
  cases (show u=Value.ref a from rx)
  obtain ⟨_,_,n,_,h1⟩:=(show ObjOk X.prog X.w H s.heap a (.lst xs) from I.hok a _ ea)
  exact PySem.W.kia_one PySem.W.kitx_list I.kIn ⟨_,h1,rfl⟩ e (fun z=>nomatch z) h
 | @frz a ob xs ea=>
  cases (show u=Value.ref a from rx)
  obtain ⟨_,_,_,n,_,h1⟩:=(show ObjOk X.prog X.w H s.heap a (.frz ob (.lst xs)) from I.hok a _ ea)
  exact PySem.W.kia_one PySem.W.kitx_list I.kIn ⟨_,h1,rfl⟩ e (fun z=>nomatch z) h
 | @tup a xs ea=>
  cases (show u=Value.ref a from rx)
  obtain ⟨_,_,_,p⟩:=(show ObjOk X.prog X.w H s.heap a (.tup xs) from I.hok a _ ea)
  obtain ⟨o,h1,h2,_⟩:=p
  exact PySem.W.kia_one PySem.W.kitx_tuple I.kIn ⟨o,h1,h2⟩ e (fun z=>nomatch z) h
 | @dK a kvs ea=>
  cases (show u=Value.ref a from rx)
  obtain ⟨_,_,vs,_,p⟩:=(show ObjOk X.prog X.w H s.heap a (.dK kvs) from I.hok a _ ea)
  obtain ⟨o,es,ep,h1,h2,_⟩:=p
  exact PySem.W.kia_one PySem.W.kitx_dict I.kIn ⟨o,h1,h2.1⟩ e (fun z=>nomatch z) h
 | @dT a kvs ea=>
  cases (show u=Value.ref a from rx)
  obtain ⟨_,_,xs,_,o,es,ep,h1,h2,_⟩:=(show ObjOk X.prog X.w H s.heap a (.dT kvs) from I.hok a _ ea)
  exact PySem.W.kia_one PySem.W.kitx_dict I.kIn ⟨o,h1,h2.1⟩ e (fun z=>nomatch z) h
 | @ins a C dx fs ea cl ha hn htk hm=>
  cases (show u=Value.ref a from rx)
  obtain ⟨mA,O,_⟩:=OO I.hok ea
  obtain ⟨od,J,_⟩:=O.look
  exact PySem.W.kia_one (PySem.W.kitx_own (cl.get _) cl.hd ha hn htk hm) I.kIn J e (fun z=>nomatch z) h
end
structure Room (k:Nat) (A:Around):Prop where
 hd:A.handled=none
 dp:A.depth+3 * k+5<recursionLimit
 un:A.units+16 * k+200<cLine
theorem Room.mono {j k:Nat} {A:Around} (r:Room k A) (h:j<=k):Room j A:=⟨r.hd,by have:=r.dp;lia,by have:=r.un;lia⟩
theorem Room.deeper {k:Nat} {A:Around} (r:Room (k+1) A) (env:Env):Room k (A.deeper env):=
 ⟨r.hd,by have:=r.dp;show A.depth+1+3 * k+5<_;lia,by have:=r.un;show A.units+3+16 * k+200<_;lia⟩
theorem Room.depth {k:Nat} {A:Around} (r:Room k A):A.depth<recursionLimit:=by have:=r.dp;lia
theorem Room.units {k:Nat} {A:Around} (r:Room k A):A.units+64<cLine:=by have:=r.un;lia
theorem Room.units0 {k:Nat} {A:Around} (r:Room k A):A.units<cLine:=by have:=r.un;lia
def Jr:TA:=fun _ H Q=>Q [] H
def Ku (ta:TE) (tr:TA):TA:=fun σ H Q=>ta σ H fun x H1=>tr σ H1 fun xs H2=>Q (x::xs) H2
section
variable {X:Cx} {e:Expr} {es:List Expr} {te:TE} {t:TA} {pos:Pos}
theorem BB:PA X [] Jr:=fun _ _ _ _ H Q I h=>Calls.spliced_nil ⟨[],H,I,.nil,h⟩
theorem Ax (ha:PE X e te) (hr:PA X es t) (hs:starEach (e::es) X.env=(false,eval e X.env)::starEach es X.env:=by rfl):PA X (e::es) (Ku te t):=by
 intro pos pins s σ H Q I h
 rw[hs]
 show wpAny _ _ (spliced ((false,eval e X.env)::backTo pos (starEach es X.env))) _ _ s
 refine Calls.spliced_cons (thn (ha pins s σ H _ I h) fun u s1 hh_=>?_)
 obtain ⟨x,H1,I1,r1,q1⟩:=hh_
 exact thn (hr pos pins s1 σ H1 _ I1 q1) fun us s2 ⟨xs,H2,I2,r2,q2⟩=>⟨x::xs,H2,I2,.cons r1 r2,q2⟩
def R6 (t:TA):TE:=fun σ H Q=>t σ H fun xs H1=>xs.length<=sizeLine/\∀ p,H1 p=none->Q (.ref p) (upd H1 p (.tup xs))
def R5 (t:TA):TE:=fun σ H Q=>t σ H fun xs H1=>xs.length<=sizeLine/\∀ p,H1 p=none->Q (.ref p) (upd H1 p (.lst xs))
theorem Dw {x1} (h:PA X es t):PE X (.Tuple es x1 pos) (R6 t):=by
 intro pins s σ H Q I hq
 refine wpAny_Tuple_spliced (thn (h pos pins s σ H _ I hq) fun us s1 ⟨xs,H1,I1,r,z,q⟩=>⟨by rw[<-r.length];exact z,?_⟩)
 have hf:H1 s1.heap.objs.size=none:=I1.hok.fresh (Nat.le_refl _)
 refine ⟨.ref s1.heap.objs.size,upd H1 s1.heap.objs.size (.tup xs),I1.laid (t':=s1.toks) (fun b u e=>Heap.get?_push_of_some _ e) (Nat.le_refl _) ?_,rfl,q _ hf⟩
 exact ⟨z,us,r,⟨_,Heap.get?_push_size _ rfl,rfl,_,rfl⟩⟩
theorem KZ (h:PA X es t):PE X (.List es pos) (R5 t):=by
 intro pins s σ H Q I hq
 refine wpAny_List_spliced (thn (h pos pins s σ H _ I hq) fun us s1 ⟨xs,H1,I1,r,z,q⟩=>⟨by rw[<-r.length];exact z,?_⟩)
 have hf:H1 s1.heap.objs.size=none:=I1.hok.fresh (Nat.le_refl _)
 refine ⟨.ref s1.heap.objs.size,upd H1 s1.heap.objs.size (.lst xs),I1.laid (t':=s1.toks) (fun b u e=>Heap.get?_push_of_some _ e) (Nat.le_refl _) ?_,rfl,q _ hf⟩
 exact ⟨z,us,0,r,Heap.get?_push_size _ rfl⟩
end
abbrev Sp:=List V->Hp->VK->XK->Prop
abbrev CXT:=List Env->Hp->Shared->XK->Value->Shared->Prop
structure Env0 (P:Program) (w:World) (K:PySem.W.Frag) (mg:Str->Option Value) (base:Heap) (A:Around) (outer:List Env) (s:Shared) (H:Hp):Prop where
 frames:A.frames=some outer
 mod:Mod K mg base
 bs:∀ b o,base.get? b=some o->s.heap.get? b=some o/\H b=none
 bsz:base.objs.size<=s.heap.objs.size
 funs:s.heap.FunFrames base outer
 frf:∀ b∈frs outer,H b=none
 hok:HOk P w H s.heap
 bare:AllBare s.gens
def CE (outer:List Env) (P:Program) (w:World) (H:Hp) (s:Shared) (Q:VK) (u:Value) (s':Shared):Prop:=
 ∃ v H',s'.os=s.os/\AllBare s'.gens/\Un (frs outer) [] H H' s.heap s'.heap/\HOk P w H' s'.heap/\RelV v u/\Q v H'
def CR (CX:CXT) (outer:List Env) (P:Program) (w:World) (H:Hp) (s:Shared) (Q:VK) (E:XK) (r:Result) (s':Shared):Prop:=
 match r with
 | .ok (.ret u)=>CE outer P w H s Q u s'
 | .ok _=>False
 | .error e=>CX outer H s E e s'
structure FnOk (P:Program) (w:World) (K:PySem.W.Frag) (mg:Str->Option Value) (base:Heap) (CX:CXT) (k:Nat) (f:Addr) (fd:FuncData) (ps:List Str) (sp:Sp):Prop where
 len:∀ vs H Q E,sp vs H Q E->vs.length=ps.length
 run:∀ (A:Around) (outer:List Env) (s:Shared) (H:Hp) (args:Args) (us:List Value) (vs:List V) (Q:VK) (E:XK),Room k A->Env0 P w K mg base A outer s H->BindsTo s fd args (ps.zip us)->Vals vs us->sp vs H Q E ->
  codeAny (model P w) A (.call (.ref f) args) (CR CX outer P w H s Q E) s
section
variable {X:Cx} {pins:List (Addr×Obj)} {σ:St} {H:Hp} {s s':Shared}
theorem Inv.env0 (I:Inv X pins σ H s):Env0 X.prog X.w X.K X.mg X.base X.A X.stack s H:=
 ⟨I.ok.frames,I.ok.mod,I.bs,Nat.le_trans I.ok.bsz I.sz,I.stack,I.stkFree,I.hok,I.bare⟩
theorem Inv.after {Q:VK} {u:Value} (I:Inv X pins σ H s) (h:CE X.stack X.prog X.w H s Q u s'):EP X pins σ Q u s':=by
 obtain ⟨v,H',os,bare,un,hok,r,q⟩:=h
 obtain ⟨hh,g,d,t,os'⟩:=s'
 obtain rfl:os'=s.os:=os
 exact ⟨v,H',I.call (h':=hh) (g':=g) (d':=d) (t':=t) (ch:=[]) un hok bare (fun b z=>absurd z (by simp)),r,q⟩
end
def On (sp:Sp) (dvs:List V) (E:XK) (t:TA):TE:=fun σ H Q=>t σ H fun vs H1=>sp (vs++dvs) H1 Q E
def Binds (K:PySem.W.Frag) (fd:FuncData) (ps:List Str) (ds:List Value):Prop:=
 ∀ (s:Shared) (us:List Value),K.In s.heap->(us++ds).length=ps.length->BindsTo s fd ⟨us,[]⟩ (ps.zip (us++ds))
theorem Binds.all {K:PySem.W.Frag} {fd:FuncData} {ps:List Str} (h:∀ us:List Value,us.length=ps.length->bindArgs fd ⟨us,[]⟩=pure (ps.zip us)):Binds K fd ps []:=fun s us _ hl=>by
 rw[List.append_nil] at hl ⊢
 exact .of_eq (h us hl)
def Hd (CX:CXT) (X:Cx) (E:XK):Prop:=∀ (pins:List (Addr×Obj)) (σ:St) (H:Hp) (s:Shared) (e:Value) (s':Shared),Inv X pins σ H s->CX X.stack H s E e s'->X.xe e s'
section
variable {X:Cx} {CX:CXT} {k:Nat} {f C:Addr} {fd:FuncData} {ps:List Str} {sp:Sp} {dvs:List V} {ds:List Value} {E:XK} {x m:Str} {p pos apos:Pos} {e o:Expr} {es:List Expr} {ta:TE} {t:TA}
theorem OJ {pins:List (Addr×Obj)} {σ:St} {H:Hp} {s:Shared} {Q:VK} {us:List Value} {vs:List V} (F:FnOk X.prog X.w X.K X.mg X.base CX k f fd ps sp) (hr:Room k X.A) (hb:Binds X.K fd ps ds) (hd:Vals dvs ds) (hx:Hd CX X E)
  (I:Inv X pins σ H s) (r:Vals vs us) (h:sp (vs++dvs) H Q E):wpAny (model X.prog X.w) X.A (call (.ref f) us) (EP X pins σ Q) X.xe s:=by
 have r2:Vals (vs++dvs) (us++ds):=r.append hd
 have hl:(us++ds).length=ps.length:=by rw[<-r2.length];exact F.len _ _ _ _ h
 refine wpAny_call (codeAny_mono (F.run X.A X.stack s H ⟨us,[]⟩ (us++ds) (vs++dvs) Q E hr I.env0 (hb s us I.kIn hl) r2 h) fun r s' hq=>?_)
 cases r with
 | error e=>exact hx pins σ H s e s' I hq
 | ok fl=>
  cases fl with
  | ret u=>exact I.after hq
  | next=>exact False.elim hq
  | brk=>exact False.elim hq
  | cont=>exact False.elim hq
theorem GQ (F:FnOk X.prog X.w X.K X.mg X.base CX k f fd ps sp) (hr:Room k X.A) (hg:Gl X x) (hm:X.mg x=some (.ref f)) (hk:PySem.W.keepIn X.K (.ref f)=true) (hb:Binds X.K fd ps ds) (hd:Vals dvs ds) (hx:Hd CX X E)
  (ha:PA X (e::es) t) (hdb:(x == ("__debug__":Str))=false:=by decide) (he:starEach (e::es) X.env=(false,eval e X.env)::starEach es X.env:=by rfl) (hpl:(backTo pos (starEach es X.env)).any (·.1)=false:=by rfl) :
  PE X (.Call (.Name x p) (e::es) [] pos) (On sp dvs E t):=by
 intro pins s σ H Q I h
 refine wpAny_Call_Name_kw (NJ I hg hm ?_ hdb)
 refine PySem.W.callWith_K (h₀:=X.base) I.ok.mod.kin hk (thn (ha pos pins s σ H _ I h) fun us s1 ⟨vs,H1,I1,r,q⟩=>⟨I1.kIn,?_⟩) he hpl
 exact OJ F hr hb hd hx I1 r q
structure Mk (K:PySem.W.Frag) (C f:Addr):Prop where
 makes:PySem.W.makesIn K C=true
 init:PySem.W.findIn K (.ref C) "__init__"=some (some (.ref f))
 fn:PySem.W.isFn K (.ref f)=true
 kp:PySem.W.keepIn K (.ref C)=true
end
section
variable {X:Cx} {CX:CXT} {k:Nat} {f C:Addr} {fd:FuncData} {ps ks:List Str} {sp:Sp} {E:XK} {x m:Str} {p pos apos kpos:Pos} {e o:Expr} {es:List Expr} {kws:List Keyword} {te ta:TE} {t tk:TA} {nm:Option Str}
structure KBinds (K:PySem.W.Frag) (fd:FuncData) (ps ks:List Str) (g:List Value->List Value->List Value) (gV:List V->List V->List V):Prop where
 to:∀ (s:Shared) (us ws:List Value),K.In s.heap->(g us ws).length=ps.length->BindsTo s fd ⟨us,ks.zip ws⟩ (ps.zip (g us ws))
 rel:∀ {vs:List V} {us:List Value} {zs:List V} {ws:List Value},Vals vs us->Vals zs ws->Vals (gV vs zs) (g us ws)
variable {g:List Value->List Value->List Value} {gV:List V->List V->List V}
end
structure FnScope (N P:List Str) (sc:Scope):Prop where
 kind:sc.kind=.function
 co:sc.isCoroutine=false
 gen:sc.isGenerator=false
 nd:N.Nodup
 pre:N.take P.length=P
 par:∀ x∈P,sc.names.lookup x=some .local\/sc.names.lookup x=some .cell
 nofree:∀ y∈sc.names,y.2≠.free
theorem Kq {kindOf:Str->Option NameKind} {x:Str}:∀ {binds:List (Str×Value)} {m:Str->Option Value},(∀ v,(x,v)∉binds)->bindL kindOf binds m x=m x
 | [],_,_=>rfl
 | (n,v)::r,m,h=>by
  unfold bindL
  rw[Kq fun w hw=>h w (List.mem_cons_of_mem _ hw)]
  split
  ·have:x≠n:=by rintro rfl;exact h v List.mem_cons_self
   simp[this]
  ·rfl
theorem Kj {kindOf:Str->Option NameKind} {x:Str}:∀ {binds:List (Str×Value)} {m:Str->Option Value},(∀ v,(x,v)∉binds)->bindC kindOf binds m x=m x
 | [],_,_=>rfl
 | (n,v)::r,m,h=>by
  unfold bindC
  rw[Kj fun w hw=>h w (List.mem_cons_of_mem _ hw)]
  split
  ·rfl
  ·have:x≠n:=by rintro rfl;exact h v List.mem_cons_self
   simp[this]
theorem LD {kindOf:Str->Option NameKind} {x:Str} {v:Value}:∀ {P:List Str} {vs:List Value} {i:Nat} {m:Str->Option Value},P.Nodup->P[i]?=some x->vs[i]?=some v->kindOf x=some .local ->
  bindL kindOf (P.zip vs) m x=some v
 | [],_,_,_,_,h,_,_=>by simp at h
 | _::_,[],_,_,_,_,h,_=>by simp at h
 | p::P,w::vs,0,m,nd,h1,h2,hk=>by
  simp at h1 h2;subst h1;subst h2
  show bindL kindOf ((p,w)::P.zip vs) m p=_
  unfold bindL
  rw[Kq fun v hv=>(List.nodup_cons.mp nd).1 (List.of_mem_zip hv).1,if_pos hk]
  simp
 | p::P,w::vs,i+1,m,nd,h1,h2,hk=>by
  show bindL kindOf ((p,w)::P.zip vs) m x=_
  unfold bindL
  exact LD (i:=i) (List.nodup_cons.mp nd).2 (by simpa using h1) (by simpa using h2) hk
theorem M8 {kindOf:Str->Option NameKind} {x:Str} {v:Value}:∀ {P:List Str} {vs:List Value} {i:Nat} {m:Str->Option Value},P.Nodup->P[i]?=some x->vs[i]?=some v->kindOf x≠some .local ->
  bindC kindOf (P.zip vs) m x=some v
 | [],_,_,_,_,h,_,_=>by simp at h
 | _::_,[],_,_,_,_,h,_=>by simp at h
 | p::P,w::vs,0,m,nd,h1,h2,hk=>by
  simp at h1 h2;subst h1;subst h2
  show bindC kindOf ((p,w)::P.zip vs) m p=_
  unfold bindC
  rw[Kj fun v hv=>(List.nodup_cons.mp nd).1 (List.of_mem_zip hv).1,if_neg hk]
  simp
 | p::P,w::vs,i+1,m,nd,h1,h2,hk=>by
  show bindC kindOf ((p,w)::P.zip vs) m x=_
  unfold bindC
  exact M8 (i:=i) (List.nodup_cons.mp nd).2 (by simpa using h1) (by simpa using h2) hk
def start (N:List Str) (vs:List V):St:=vs.map some++List.replicate (N.length - vs.length) none
def C1 (CX:CXT) (P:Program) (w:World) (K:PySem.W.Frag) (mg:Str->Option Value) (base:Heap) (N:List Str) (qual:Str) (scope:Scope) (f:Addr) (cd:Value) (A:Around) (outer:List Env) (s:Shared) (H:Hp) (E:XK):Cx where
 prog:=P
 w:=w
 K:=K
 mg:=mg
 base:=base
 A:=A.deeper (envOfC qual scope s.heap.objs.size f cd)
 N:=N
 s₀:=s
 H₀:=H
 env:=envOfC qual scope s.heap.objs.size f cd
 outer:=outer
 stack:=envOfC qual scope s.heap.objs.size f cd::outer
 ex:=[]
 calm:=true
 fn:=fun _=>true
 pn:=[]
 xe:=fun e s'=>wpAny (model P w) (A.deeper (envOfC qual scope s.heap.objs.size f cd)) (leaving (envOfC qual scope s.heap.objs.size f cd) e) (fun _ s''=>CX outer H s E e s'') (fun e' s''=>CX outer H s E e' s'') s'
theorem Jw {sc:Scope} {n:Nat} {x:Str} (h:sc.names.lookup x=some .cell):∃ c,(cellsFrom n sc.names []).lookup x=some c:=by
 have q:=PySem.W.cellsFrom_some sc.names n [] (.inl h)
 exact Option.isSome_iff_exists.mp q
theorem Ov {CX:CXT} {P:Program} {w:World} {K:PySem.W.Frag} {mg:Str->Option Value} {base:Heap} {N ps:List Str} {qual:Str} {scope:Scope} {f:Addr} {cd:Value} {A:Around} {outer:List Env} {s s1:Shared} {H:Hp} {E:XK} {us:List Value} {vs:List V}
  (S:FnScope N ps scope) (hd:A.handled=none) (e0:Env0 P w K mg base A outer s H) (hl:vs.length=ps.length) (r:Vals vs us)
  (x:InCallC s s.heap.objs.size (bindL (envOfC qual scope s.heap.objs.size f cd).kindOf (ps.zip us) fun _=>none) (cellsFrom (s.heap.objs.size+1) scope.names []) (bindC (envOfC qual scope s.heap.objs.size f cd).kindOf (ps.zip us) fun _=>none) s1) :
  Inv (C1 CX P w K mg base N qual scope f cd A outer s H E) [] (start N vs) H s1:=by
 have hpl:ps.length<=N.length:=by have:=congrArg List.length S.pre;rw[List.length_take] at this;lia
 obtain ⟨h1,tk,rfl,hk⟩:=x.done
 have noA:∀ b:Addr,b∉(C1 CX P w K mg base N qual scope f cd A outer s H E).ex:=fun b z=>absurd (show b∈([]:List Addr) from z) (by simp)
 refine ⟨⟨e0.mod,S.kind,rfl,rfl,Nat.le_refl _,fun y z c h1 h2=>?_,fun y hy=>?_,fun y c _ h=>?_,fun _=>hd,Around.frames_deeper e0.frames,.inr ⟨rfl,rfl⟩,fun b z=>absurd z (noA b),e0.bs,e0.bsz,fun b _ _=>noA b,fun b z=>absurd z (noA b),e0.funs,e0.frf⟩,
  rfl,e0.bare,Un.kept hk,⟨_,x.toInCall.ns,fun i y v h1 h2 h3=>?_⟩,fun y c h=>⟨_,x.cell y c h⟩,e0.hok.fresh (Nat.le_refl _),fun y c h=>?_,fun p hp=>absurd (show p∈([]:List (Addr×Obj)) from hp) (by simp),e0.hok.kept hk,?_⟩
 ·exact name_of_addr x.apart (PySem.mem_of_lookup h1) (PySem.mem_of_lookup h2)
 ·have hy:scope.names.lookup y=some .cell\/scope.names.lookup y=some .free:=hy
  rcases hy with hy | hy
  ·exact Jw hy
  ·exact absurd rfl (S.nofree _ (PySem.mem_of_lookup hy))
 ·exact Nat.le_of_lt (x.above y c (PySem.mem_of_lookup h))
 ·have hi:i<vs.length:=by
   unfold start at h2
   by_cases hi:i<vs.length
   ·exact hi
   ·rw[List.getElem?_append_right (by simpa using hi)] at h2
    rw[List.getElem?_replicate] at h2
    split at h2<;>cases h2
  have ha:vs[i]?=some v:=by
   unfold start at h2
   rw[List.getElem?_append_left (by simpa using hi),List.getElem?_map] at h2
   cases e:vs[i]? with
   | none=>rw[e] at h2;cases h2
   | some a=>rw[e] at h2;cases h2;rfl
  obtain ⟨u,hu,rv⟩:=r.get ha
  have hp:ps[i]?=some y:=by
   rw[<-S.pre,List.getElem?_take_of_lt (by lia)];exact h1
  have ndP:ps.Nodup:=by rw[<-S.pre];exact S.nd.sublist (List.take_sublist _ _)
  refine ⟨u,rv,?_⟩
  rcases S.par y (List.mem_of_getElem? hp) with k | k
  ·exact .inl ⟨k,LD ndP hp hu k⟩
  ·obtain ⟨c,e⟩:=Jw (n:=s.heap.objs.size+1) k
   refine .inr ⟨.inl k,c,e,?_⟩
   have q:=x.cell y c e
   rw[M8 ndP hp hu (by show scope.names.lookup y≠_;rw[k];decide)] at q
   exact q
 ·exact e0.hok.fresh (Nat.le_of_lt (x.above y c (PySem.mem_of_lookup h)))
 ·unfold start
  show _=N.length
  rw[List.length_append,List.length_map,List.length_replicate]
  lia
theorem NG {CX:CXT} {P:Program} {w:World} {K:PySem.W.Frag} {mg:Str->Option Value} {base:Heap} {k:Nat} {f:Addr} {name qual:Str} {params:Arguments} {body:List Stmt} {scope:Scope} {dV kV doc pm cdv ct oc:Value} {an od:Option Addr}
  {osl:Array (Option Value)} {N ps:List Str} {sp:Sp} (lk:K.lookup f=some ⟨oc,od,.func (PySem.W.fnOf name qual params body scope dV kV doc pm an cdv ct),osl⟩) (hcd:PySem.W.codeIn K cdv qual=true) (S:FnScope N ps scope)
  (len:∀ vs H Q E,sp vs H Q E->vs.length=ps.length)
  (hbody:∀ (A:Around) (outer:List Env) (s:Shared) (H:Hp) (vs:List V) (Q:VK) (E:XK),Room k (A.deeper (envOfC qual scope s.heap.objs.size f cdv))->sp vs H Q E ->
   ∃ t,PSs (C1 CX P w K mg base N qual scope f cdv A outer s H E) body t/\t {nx:=fun _ H'=>Q .non H',rt:=Q} (start N vs) H) :
  FnOk P w K mg base CX (k+1) f (PySem.W.fnOf name qual params body scope dV kV doc pm an cdv ct) ps sp:=by
 refine ⟨len,fun A outer s H args us vs Q E hr e0 hb r hsp=>?_⟩
 have hl:=len _ _ _ _ hsp
 have KX:K.In s.heap:=e0.mod.kin.keeps fun b o e=>(e0.bs b o e).1
 have lim:s.heap.NoLimit:=e0.mod.nolimit.keeps fun b o e=>(e0.bs b o e).1
 have hkind:∀ y∈ps.zip us,scope.names.lookup y.1=some .local\/(scope.names.lookup y.1=some .cell/\((cellsFrom (s.heap.objs.size+1) scope.names []).lookup y.1).isSome=true):=fun ⟨n,v⟩ hy=>by
  rcases S.par n (List.of_mem_zip hy).1 with q | q
  ·exact .inl q
  ·exact .inr ⟨q,PySem.W.cellsFrom_some _ _ _ (.inl q)⟩
 refine codeAny_call_function hr.depth (KX _ _ lk) rfl S.co S.gen rfl (PySem.W.codeRec_of KX hcd) (hb _ _ _ _ ?_)
 refine wpAny_newFunctionEnv_cells S.kind hkind fun env he s1 x=>?_
 subst he
 refine ⟨lim.keeps x.toInCall.keep,codeAny_func ?_⟩
 obtain ⟨t,ht,hq⟩:=hbody A outer s H vs Q E (hr.deeper _) hsp
 have I:Inv (C1 CX P w K mg base N qual scope f cdv A outer s H E) [] (start N vs) H s1:=Ov S hr.hd e0 hl r x
 refine wpAny_mono (ht [] s1 (start N vs) H _ I hq) (fun fl s' hs=>?_) fun e s' hs=>hs
 have fin:∀ {σ':St} {H':Hp} {v:V} {u:Value},Inv (C1 CX P w K mg base N qual scope f cdv A outer s H E) [] σ' H' s'->RelV v u->Q v H'->CE outer P w H s Q u s':=
  fun {σ' H' v u} J rv q=>⟨v,H',J.os,J.bare,J.base,J.hok,rv,q⟩
 cases fl with
 | ret u=>
  obtain ⟨v,σ',H',J,rv,q⟩:=hs
  exact fin J rv q
 | next=>
  obtain ⟨σ',H',J,q⟩:=hs
  exact fin (v:=V.non) (u:=Value.none) J rfl q
 | brk=>
  obtain ⟨_,_,_,q⟩:=hs
  exact False.elim q
 | cont=>
  obtain ⟨_,_,_,q⟩:=hs
  exact False.elim q
section
variable {X:Cx} {x:Str} {p pos:Pos} {e:Expr} {es:List Expr} {t:TA} {id T:String} {r:List V->Hp->VK->Prop}
def tCB (r:List V->Hp->VK->Prop) (t:TA):TE:=fun σ H Q=>t σ H fun vs H1=>r vs H1 Q
theorem Fi (hc:CallR X (.builtin id) r) (hg:Gl X x) (hm:X.mg x=none) (hv:bootBuiltins x=some (.builtin id)) (ha:PA X (e::es) t) (hn:x≠"__name__":=by decide) (hdb:(x == ("__debug__":Str))=false:=by decide)
  (he:starEach (e::es) X.env=(false,eval e X.env)::starEach es X.env:=by rfl) (hpl:(backTo pos (starEach es X.env)).any (·.1)=false:=by rfl):PE X (.Call (.Name x p) (e::es) [] pos) (tCB r t):=by
 intro pins s σ H Q I h
 refine wpAny_Call_Name_kw (D2 I hg hm hv ?_ hn hdb)
 exact PyProof.Rows.callWith_builtin1 (thn (ha pos pins s σ H _ I h) fun us s1 ⟨vs,H1,I1,r1,q1⟩=>hc pins s1 σ H1 vs us Q I1 r1 q1) he hpl
theorem Ia (hc:CallR X (.type T) r) (hg:Gl X x) (hm:X.mg x=none) (hv:bootBuiltins x=some (.type T)) (ha:PA X (e::es) t) (hn:x≠"__name__":=by decide) (hdb:(x == ("__debug__":Str))=false:=by decide)
  (he:starEach (e::es) X.env=(false,eval e X.env)::starEach es X.env:=by rfl) (hpl:(backTo pos (starEach es X.env)).any (·.1)=false:=by rfl):PE X (.Call (.Name x p) (e::es) [] pos) (tCB r t):=by
 intro pins s σ H Q I h
 refine wpAny_Call_Name_kw (D2 I hg hm hv ?_ hn hdb)
 exact PyProof.Rows.callWith_type1 (thn (ha pos pins s σ H _ I h) fun us s1 ⟨vs,H1,I1,r1,q1⟩=>hc pins s1 σ H1 vs us Q I1 r1 q1) he hpl
end
end L2
namespace HT
open PySem PyProof.Rows
def lexLt:List Int->List Int->Bool
 | [],[]=>false
 | [],_::_=>true
 | _::_,[]=>false
 | x::xs,y::ys=>if x=y then lexLt xs ys else decide (x<y)
theorem Cf (x y:Int) (xs ys:List Int):lexLt (x::xs) (y::ys)=if x=y then lexLt xs ys else decide (x<y):=rfl
theorem HJ:lexLt [] []=false:=rfl
theorem Hf (y:Int) (ys:List Int):lexLt [] (y::ys)=true:=rfl
theorem GU (x:Int) (xs:List Int):lexLt (x::xs) []=false:=rfl
theorem Pg (A:Around) (s:Shared) (a:Int) (t:Tok) (c:Int) (u:Tok):∃ e,SeqAt.EqAt A s (.int a t) (.int c u) e/\(e=true↔a=c):=
 ⟨(a == c),SeqAt.EqAt.int_int a t c u,by simp⟩
theorem Tq (A:Around) (s:Shared) (a:Int) (t:Tok) (c:Int) (u:Tok) (prog:Program) (w:World) (E:Value->Shared->Prop) (Q:Value->Shared->Prop) (h:Q (.bool (decide (a<c))) s) :
  wpAny (model prog w) A (richCompare .Lt (.int a t) (.int c u)) Q E s:=
 (PyProof.Rows.lt_int h:wpAny (model prog w) A (compareOp .Lt (.int a t) (.int c u)) Q E s)
section
open PySem.SeqAt
open PySem.AutoSeq1 (wpAny_loadPart')
open PySem.MeetsSeq PySem.MeetsSeq2 PySem.MeetsSeq3
theorem Pu (l b:Addr) (items items2:Array Value) (n n2:Nat) (dd dd2:Option Addr) (sl sl2:Array (Option Value)) (ns ms:List Int) (hi:IntsAre items.toList ns) (hj:IntsAre items2.toList ms) :
  Meets (Builtin.«tuple.__lt__» ⟨[.ref l,.ref b],[]⟩)
   (fun _ R s=>s.heap.get? l=some {cls:=.type "tuple",dict:=dd,data:=.seq items n,slots:=sl}/\s.heap.get? b=some {cls:=.type "tuple",dict:=dd2,data:=.seq items2 n2,slots:=sl2} /\
    R (.ok (.ret (.bool (lexLt ns ms)))) s):=
 .of_wp fun prog w A R s h=>by
  obtain ⟨hp,g,d,tk,os⟩:=s;obtain ⟨hl,hb,h⟩:=h
  have f2:=AutoSeq1.sub_tuple_tuple
  have z1:items.size=ns.length:=by rw[<-hi.length];simp
  have z2:items2.size=ms.length:=by rw[<-hj.length];simp
  wp_walk using wpAny_loadPart' hl,wpAny_loadPart' hb,wpAny_forIn_list _ (fun rest b s'=>b.1=none/\s'=⟨hp,g,d,tk,os⟩/\∃ (vs ws:List Value) (ns' ms':List Int),rest=vs.zip ws /\
   IntsAre vs ns'/\IntsAre ws ms'/\ns'.length+items2.size=ms'.length+items.size/\R (.ok (.ret (.bool (lexLt ns' ms')))) ⟨hp,g,d,tk,os⟩) _
  case turn=>
   rintro ⟨y,x⟩ rest b s' ⟨hb',rfl,vs,ws,ns',ms',hz,hvi,hwi,hlen,hR⟩
   cases hvi with
   | nil=>rw[List.zip_nil_left] at hz;cases hz
   | cons a t hvi'=>
    cases hwi with
    | nil=>rw[List.zip_nil_right] at hz;cases hz
    | cons c u hwi'=>
     rw[List.zip_cons_cons] at hz
     injection hz with hyx hrest
     injection hyx with hy hx
     subst hy hx
     rw[Cf] at hR
     simp only[List.length_cons] at hlen
     obtain ⟨e,he,hiff⟩:=Pg A.in1 ⟨hp,g,d,tk,os⟩ a t c u
     refine wpAny_bind (he prog w _ _ ?_)
     cases e with
     | true=>
      rw[if_pos (hiff.mp rfl)] at hR
      wp_walk
      exact ⟨rfl,rfl,_,_,_,_,hrest,hvi',hwi',by lia,hR⟩
     | false=>
      rw[if_neg (fun q=>absurd (hiff.mpr q) Bool.false_ne_true)] at hR
      have hri:=Tq A.in1 ⟨hp,g,d,tk,os⟩ a t c u prog w
      wp_walk using hri
      exact ⟨_,rfl,by simpa using hR⟩
  case fin=>
   rintro ⟨b1,b2⟩ s' ⟨hb',rfl,vs,ws,ns',ms',hz,hvi,hwi,hlen,hR⟩
   simp only at hb'
   subst hb'
   have hv:lexLt ns' ms'=decide (items.size<items2.size):=by
    cases hvi with
    | nil=>
     cases hwi with
     | nil=>
      simp only[List.length_nil] at hlen
      rw[HJ]
      exact (decide_eq_false (by lia)).symm
     | cons c u hw=>
      simp only[List.length_nil,List.length_cons] at hlen
      rw[Hf]
      exact (decide_eq_true (by lia)).symm
    | cons a t hv=>
     cases hwi with
     | nil=>
      simp only[List.length_nil,List.length_cons] at hlen
      rw[GU]
      exact (decide_eq_false (by lia)).symm
     | cons c u hw=>
      rw[List.zip_cons_cons] at hz
      cases hz
   rw[hv] at hR
   wp_walk
   exact ⟨_,rfl,by simpa [Builtin.Tuple.tupleCompareSizes] using hR⟩
  case h=>
   exact ⟨rfl,rfl,items.toList,items2.toList,ns,ms,rfl,hi,hj,by lia,h⟩
end
section
variable {prog:Program} {w:World} {A:Around} {E:Value->Shared->Prop} {s:Shared}
theorem SW {l b:Addr} {items items2:Array Value} {ns ms:List Int} {Q:Value->Shared->Prop} (hl:IsTup s.heap l items) (hb:IsTup s.heap b items2) (hi:IntsAre items.toList ns) (hj:IntsAre items2.toList ms)
  (hu:A.units<cLine) (h:Q (.bool (lexLt ns ms)) s):wpAny (model prog w) A (compareOp .Lt (.ref l) (.ref b)) Q E s:=by
 obtain ⟨⟨cls,dd,data,sl⟩,ho,hc,n,hd⟩:=id hl
 obtain ⟨⟨cls2,dd2,data2,sl2⟩,ho2,hc2,n2,hd2⟩:=id hb
 simp only at hc hd hc2 hd2
 subst hc hd hc2 hd2
 exact richCompare_meets_room (op:=.Lt) ⟨_,ho,rfl⟩ ⟨_,ho2,rfl⟩ PySem.F.slot_tuple_lt PySem.F.entry_tuple_lt (PySem.F.args_tuple_lt_2 _ _) (Pu l b items items2 n n2 dd dd2 sl sl2 ns ms hi hj)
  ⟨ho,ho2,show Value.bool (lexLt ns ms)≠Value.notImplemented/\Q (.bool (lexLt ns ms)) s from ⟨(fun x=>nomatch x),h⟩⟩ hu
def sIx (n d:Nat):Option Int->Nat
 | none=>d
 | some v=>if v<0 then (v+(n:Int)).toNat else min v.toNat n
theorem M5 (n d:Nat):sIx n d none=d:=rfl
theorem GZ (n d k:Nat):sIx n d (some (k:Int))=min k n:=by
 show (if (k:Int)<0 then ((k:Int)+(n:Int)).toNat else min (k:Int).toNat n)=min k n
 rw[if_neg (by lia),Int.toNat_natCast]
end
end HT
namespace L2
open PySem PySem.Spec PyProof.Rows
abbrev TO:=St->Hp->(Option Int->Hp->Prop)->Prop
def PO (X:Cx) (e:Option Expr) (t:TO):Prop:=
 ∀ (pins:List (Addr×Obj)) (s:Shared) (σ:St) (H:Hp) (Q:Option Int->Hp->Prop),Inv X pins σ H s->t σ H Q ->
  wpAny (model X.prog X.w) X.A (evalPart e X.env) (fun u s'=>∃ o H',Inv X pins σ H' s'/\IsPart u o/\Q o H') X.xe s
def QX:TO:=fun _ H Q=>Q none H
def PM (t:TE):TO:=fun σ H Q=>t σ H fun x H1=>∃ i,x=.int i/\Q (some i) H1
theorem intsAre_of {ns:List Int}:∀ {us:List Value},Vals (ns.map V.int) us->IntsAre us ns:=by
 induction ns with
 | nil=>intro us r;rw[List.map_nil] at r;cases r;exact .nil
 | cons n ns ih=>
  intro us r
  rw[List.map_cons] at r
  cases r with
  | cons r1 r2=>
   obtain ⟨t,e⟩:=r1
   subst e
   exact .cons n t (ih r2)
section
variable {X:Cx} {e:Expr} {te:TE} {lo hi:Option Expr} {tl th:TO} {pos p2:Pos}
theorem Qd:PO X none QX:=by
 intro pins s σ H Q I h
 rw[evalPart_none]
 exact wpAny_pure ⟨none,H,I,.none,h⟩
theorem GV (h:PE X e te):PO X (some e) (PM te):=by
 intro pins s σ H Q I hw
 rw[evalPart_some]
 refine thn (h pins s σ H _ I hw) fun u s1 hh_=>?_
 obtain ⟨x,H1,I1,r1,q1⟩:=hh_
 obtain ⟨i,rfl,q⟩:=q1
 obtain ⟨t,rfl⟩:=r1
 exact ⟨some i,H1,I1,.int i t,q⟩
def SlR (X:Cx) (r:V->Option Int->Option Int->Hp->VK->Prop):Prop:=
 ∀ (pins:List (Addr×Obj)) (s:Shared) (σ:St) (H:Hp) (x:V) (v vl vu:Value) (lo hi:Option Int) (sl:Addr) (Q:VK),Inv X pins σ H s->RelV x v->s.heap.IsSliceOf sl vl vu .none->IsPart vl lo->IsPart vu hi->r x lo hi H Q ->
  ∃ T id,typeLookup (.type T) "__getitem__"=pure (some (.builtin id))/\s.TypeIs v T/\wpAny (model X.prog X.w) X.A (getItem v (.ref sl)) (EP X pins σ Q) X.xe s
theorem SlR.or {r r':V->Option Int->Option Int->Hp->VK->Prop} (h:SlR X r) (h':SlR X r'):SlR X (fun x lo hi H Q=>r x lo hi H Q\/r' x lo hi H Q):=by
 intro pins s σ H x v vl vu lo hi sl Q I rx hs pl pu q
 rcases q with q | q
 ·exact h pins s σ H x v vl vu lo hi sl Q I rx hs pl pu q
 ·exact h' pins s σ H x v vl vu lo hi sl Q I rx hs pl pu q
def tSl (r:V->Option Int->Option Int->Hp->VK->Prop) (te:TE) (tl th:TO):TE:=fun σ H Q=>te σ H fun x H1=>tl σ H1 fun l H2=>th σ H2 fun u H3=>r x l u H3 Q
theorem J4 {r:V->Option Int->Option Int->Hp->VK->Prop} (hr:SlR X r) (he:PE X e te) (hl:PO X lo tl) (hu:PO X hi th):PE X (.Subscript e (.Slice lo hi none p2) pos) (tSl r te tl th):=by
 intro pins s σ H Q I h
 refine Subscript_ (thn (he pins s σ H _ I h) fun v s1 hh_=>?_)
 obtain ⟨x,H1,I1,r1,q1⟩:=hh_
 refine wpAny_Slice (thn (hl pins s1 σ H1 _ I1 q1) fun vl s2 ⟨l,H2,I2,pl,q2⟩=>thn (hu pins s2 σ H2 _ I2 q2) fun vu s3 hh_=>?_)
 obtain ⟨u,H3,I3,pu,q3⟩:=hh_
 rw[evalPart_none]
 refine wpAny_pure ?_
 have I4:Inv X pins σ H3 {s3 with heap:=s3.heap.push {cls:=.type "slice",data:=.fields #[vl,vu,.none]}}:=I3.kept (t':=s3.toks) fun b ob q=>Heap.get?_push_of_some _ q
 obtain ⟨T,id,hT,ht,hg⟩:=hr pins {s3 with heap:=s3.heap.push {cls:=.type "slice",data:=.fields #[vl,vu,.none]}} σ H3 x v vl vu l u s3.heap.objs.size Q I4 r1 (Heap.IsSliceOf.new ..) pl pu q3
 show wpAny (model X.prog X.w) X.A (subscriptTail e (.Slice lo hi none p2) v (.ref s3.heap.objs.size)) (EP X pins σ Q) X.xe {s3 with heap:=s3.heap.push {cls:=.type "slice",data:=.fields #[vl,vu,.none]}}
 exact tail_any (ops:=[.ref s3.heap.objs.size,v]) ht hT hg (by with_unfolding_all rfl)
def DX (xs:List V) (lo hi:Option Int):List V:=(xs.drop (HT.sIx xs.length 0 lo)).take (HT.sIx xs.length xs.length hi - HT.sIx xs.length 0 lo)
theorem Nj (xs:List V) (lo hi:Option Int):(DX xs lo hi).length<=xs.length:=by
 unfold DX
 rw[List.length_take,List.length_drop]
 lia
def JF (K:PySem.W.Frag):R2:=fun x y H Q=>∃ a b ns ms,x=.ref a/\y=.ref b/\SqT K H a (ns.map V.int)/\SqT K H b (ms.map V.int)/\Q (.bl (HT.lexLt ns ms)) H
theorem Qk (hu:X.A.units<cLine):OpR X (compareOp .Lt) (JF X.K):=by
 intro pins s σ H x y v u Q I rx ry h
 obtain ⟨a,b,ns,ms,rfl,rfl,ha,hb,q⟩:=h
 cases rx
 cases ry
 obtain ⟨its,r1,p1,_⟩:=I.tuple ha
 obtain ⟨its2,r2,p2,_⟩:=I.tuple hb
 have i1:IntsAre its.toArray.toList ns:=intsAre_of r1
 have i2:IntsAre its2.toArray.toList ms:=intsAre_of r2
 exact HT.SW p1 p2 i1 i2 hu ⟨.bl (HT.lexLt ns ms),H,I,rfl,q⟩
end
def ixN (n:Nat) (i:Int):Option Nat:=if 0<=i then (if i<n then some i.toNat else none) else if -(n:Int)<=i then some (i+n).toNat else none
def atI {α:Type} (xs:List α) (i:Int):Option α:=(ixN xs.length i).bind fun j=>xs[j]?
theorem LG {n:Nat} {i:Int} {j:Nat} (h:ixN n i=some j):seqIndex? i n=some j/\j<n/\-(n:Int)<=i/\i<n:=by
 unfold ixN at h
 by_cases h0:0<=i
 ·rw[if_pos h0] at h
  by_cases h1:i<n
  ·rw[if_pos h1] at h
   have e:i.toNat=j:=Option.some.inj h
   exact ⟨by rw[seqIndex_of h0 h1,e],by lia,by lia,h1⟩
  ·rw[if_neg h1] at h;cases h
 ·rw[if_neg h0] at h
  by_cases h1:-(n:Int)<=i
  ·rw[if_pos h1] at h
   have e:(i+n).toNat=j:=Option.some.inj h
   exact ⟨by rw[seqIndex_neg (by lia) h1,e],by lia,h1,by lia⟩
  ·rw[if_neg h1] at h;cases h
theorem Gg {α:Type} {xs:List α} {i:Int} {v:α} (h:atI xs i=some v):∃ j,seqIndex? i xs.length=some j/\xs[j]?=some v/\j<xs.length/\-(xs.length:Int)<=i/\i<xs.length:=by
 unfold atI at h
 cases e:ixN xs.length i with
 | none=>rw[e] at h;cases h
 | some j=>
  rw[e] at h
  obtain ⟨h1,h2,h3,h4⟩:=LG e
  exact ⟨j,h1,h,h2,h3,h4⟩
theorem Gb {α:Type} {xs:List α} {j:Nat} {v:α} (h:xs[j]?=some v):atI xs (j:Int)=some v:=by
 have hj:j<xs.length:=(List.getElem?_eq_some_iff.mp h).1
 have e:ixN xs.length (j:Int)=some j:=by
  unfold ixN
  rw[if_pos (by lia),if_pos (by lia)];simp
 unfold atI;rw[e];exact h
def Hn (b:Expr):Prop:=∀ o i,subscripted b false o i=operate [o,i] (getItem o i)
def IxR (X:Cx) (r:R2):Prop:=
 ∀ (value slice:Expr) (pins:List (Addr×Obj)) (s:Shared) (σ:St) (H:Hp) (x y:V) (v u:Value) (Q:VK),Inv X pins σ H s->RelV x v->RelV y u->r x y H Q ->
  subscripted slice false v u=operate [v,u] (getItem v u)->wpAny (model X.prog X.w) X.A (subscriptTail value slice v u) (EP X pins σ Q) X.xe s
def MtR (X:Cx) (id:String) (r:V->List V->Hp->VK->Prop):Prop:=
 ∀ (pins:List (Addr×Obj)) (s:Shared) (σ:St) (H:Hp) (x:V) (xs:List V) (v:Value) (us:List Value) (Q:VK),Inv X pins σ H s->RelV x v->Vals xs us->r x xs H Q ->
  wpAny (model X.prog X.w) X.A (call (.builtin id) (v::us)) (EP X pins σ Q) X.xe s
section
variable {X:Cx} {a b:Expr} {ta tb:TE} {pos:Pos}
theorem IxR.or {r r':R2} (h:IxR X r) (h':IxR X r'):IxR X (fun x y H Q=>r x y H Q\/r' x y H Q):=by
 intro value slice pins s σ H x y v u Q I rx ry q hs
 rcases q with q | q
 ·exact h value slice pins s σ H x y v u Q I rx ry q hs
 ·exact h' value slice pins s σ H x y v u Q I rx ry q hs
theorem Q8 {r:R2} (hr:IxR X r) (ha:PE X a ta) (hb:PE X b tb) (hs:Hn b):PE X (.Subscript a b pos) (tOp r ta tb):=by
 intro pins s σ H Q I h
 exact Subscript_ (HQ ha hb I h fun v u s2 x y H2 I2 rx ry q=>hr a b pins s2 σ H2 x y v u Q I2 rx ry q (hs _ _))
def K9 (K:PySem.W.Frag):R2:=fun x y H Q=>∃ p xs i v,x=.ref p/\y=.int i/\SqL K H p xs/\atI xs i=some v/\Q v H
def MU (K:PySem.W.Frag):R2:=fun x y H Q=>∃ p xs i v,x=.ref p/\y=.int i/\SqT K H p xs/\atI xs i=some v/\Q v H
def LC:R2:=fun x y H Q=>∃ z i c,x=.str z/\y=.int i/\z.length<=sizeLine/\atI z.cps.toList i=some c/\Q (.str ⟨#[c]⟩) H
theorem ix_list:IxR X (K9 X.K):=by
 intro value slice pins s σ H x y v u Q I rx ry h hs
 obtain ⟨p,xs,i,z,rfl,rfl,hq,he,q⟩:=h
 cases rx
 obtain ⟨t,rfl⟩:=ry
 obtain ⟨its,r,pl,hz⟩:=I.list hq
 obtain ⟨j,h1,h2,h3,h4,h5⟩:=Gg he
 obtain ⟨w,ew,rw'⟩:=r.get h2
 have hl:=r.length
 have hn:=EH
 have fin:EP X pins σ Q w s:=⟨z,H,I,rw',q⟩
 by_cases h0:0<=i
 ·have hj:i.toNat=j:=by
   rw[seqIndex_of h0 h5] at h1
   exact Option.some.inj h1
  exact item_listR pl.isList h0 (by lia) (by rw[hj];simpa using ew) fin hs
 ·have hj:(i+(its.toArray.size:Int)).toNat=j:=by
   rw[seqIndex_neg (by lia) h4] at h1
   rw[List.size_toArray,<-hl]
   exact Option.some.inj h1
  exact subscriptTail_builtinR (x:=w) pl.isList.typeIs slot_list_getitem.lookup
   (wpAny_getItem_list_neg (Q:=fun r s'=>r=w/\EP X pins σ Q r s') pl.isList (by lia) (by rw[List.size_toArray]<;>lia) (by lia) (by rw[hj];simpa using ew) ⟨rfl,fin⟩) hs
theorem ix_tup:IxR X (MU X.K):=by
 intro value slice pins s σ H x y v u Q I rx ry h hs
 obtain ⟨p,xs,i,z,rfl,rfl,hq,he,q⟩:=h
 cases rx
 obtain ⟨t,rfl⟩:=ry
 obtain ⟨its,r,pl,hz⟩:=I.tuple hq
 obtain ⟨j,h1,h2,h3,h4,h5⟩:=Gg he
 obtain ⟨w,ew,rw'⟩:=r.get h2
 have hl:=r.length
 have hn:=EH
 have fin:EP X pins σ Q w s:=⟨z,H,I,rw',q⟩
 exact subscriptTail_builtinR (x:=w) pl.typeIs slot_tuple_getitem.lookup
  (getItem_tuple (j:=j) (Q:=fun r s'=>r=w/\EP X pins σ Q r s') pl (by lia) (by lia) (by rw[List.size_toArray,<-hl];exact h1) (by simpa using ew) ⟨rfl,fin⟩) hs
theorem TM:IxR X LC:=by
 intro value slice pins s σ H x y v u Q I rx ry h hs
 obtain ⟨z,i,c,rfl,rfl,hz,he,q⟩:=h
 obtain ⟨t,rfl⟩:=rx
 obtain ⟨t',rfl⟩:=ry
 obtain ⟨j,h1,h2,h3,h4,h5⟩:=Gg he
 have hl:z.cps.toList.length=z.length:=by simp[Str.length]
 rw[hl] at h1 h4 h5
 have hn:=EH
 exact tail_any (typeIs_str s z t) slot_str_getitem.lookup (getItem_str (c:=c) (by
  have e1:decide (i < -(2 ^ 63:Int))=false:=decide_eq_false (by lia)
  have e2:decide (i>=2 ^ 63)=false:=decide_eq_false (by lia)
  rw[e1,e2,Bool.or_false]) (by rw[h1];simpa using h2) ⟨.str ⟨#[c]⟩,H,I.tok _,⟨_,rfl⟩,q⟩) hs
def rIx (K:PySem.W.Frag):R2:=fun x y H Q=>K9 K x y H Q\/MU K x y H Q\/LC x y H Q
theorem Py:IxR X (rIx X.K):=ix_list.or (ix_tup.or TM)
theorem Oq (its:List Value) (n j:Nat) (u:Value):Obj.mapSeq (·.setIfInBounds j u) {cls:=.type "list",data:=.seq its.toArray n}={cls:=.type "list",data:=.seq (its.set j u).toArray n}:=by
 simp[Obj.mapSeq]
theorem Inv.lst {pins:List (Addr×Obj)} {σ:St} {H:Hp} {s:Shared} {p:Addr} {xs:List V} (I:Inv X pins σ H s) (h:H p=some (.lst xs)) :
  ∃ (its:List Value) (n:Nat),Vals xs its/\s.heap.get? p=some {cls:=.type "list",data:=.seq its.toArray n}/\xs.length<=sizeLine:=by
 obtain ⟨z,its,n,r,e⟩:=I.hok p _ h
 exact ⟨its,n,r,e,z⟩
theorem Inv.lstUpd {pins:List (Addr×Obj)} {σ:St} {H:Hp} {s:Shared} {p:Addr} {xs ys:List V} {its its':List Value} {n n':Nat} {f:Obj->Obj} (I:Inv X pins σ H s) (h:H p=some (.lst xs))
  (ho:s.heap.get? p=some {cls:=.type "list",data:=.seq its.toArray n}) (hf:f {cls:=.type "list",data:=.seq its.toArray n}={cls:=.type "list",data:=.seq its'.toArray n'}) (r:Vals ys its') (hz:ys.length<=sizeLine) (t:Nat) :
  Inv X pins σ (upd H p (.lst ys)) {s with heap:=s.heap.update p f,toks:=t}:=by
 have e:(s.heap.update p f).get? p=some {cls:=.type "list",data:=.seq its'.toArray n'}:=by
  rw[Heap.get?_update_self f ho (by rw[hf]<;>rfl),hf]
 refine I.write (x:=p) (e:=p) (by rw[h];trivial) (.inl rfl) (fun b u hb q=>(Heap.get?_update_other _ _ (Ne.symm hb)).trans q) ⟨_,e⟩ ?_
 exact ⟨hz,its',n',r,e⟩
def SD:V->V->V->Hp->(Hp->Prop)->Prop:=fun o i v H Q=>∃ p xs k j,o=.ref p/\i=.int k/\H p=some (.lst xs)/\ixN xs.length k=some j/\Q (upd H p (.lst (xs.set j v)))
theorem set_list:GT X SD:=by
 intro pins s σ H o i v ov iv u Q I ro ri rv h
 obtain ⟨p,xs,k,j,rfl,rfl,hp,hj,q⟩:=h
 cases ro
 obtain ⟨t,rfl⟩:=ri
 obtain ⟨its,n,r,ho,hz⟩:=I.lst hp
 obtain ⟨h1,h2,h3,h4⟩:=LG hj
 have hl:=r.length
 have hn:=EH
 have I':Inv X pins σ (upd H p (.lst (xs.set j v))) {s with heap:=s.heap.update p (Obj.mapSeq (·.setIfInBounds j u))}:=
  I.lstUpd hp ho (Oq its n j u) (r.set rv j) (by rw[List.length_set];exact hz) s.toks
 by_cases h0:0<=k
 ·have hk:k.toNat=j:=by
   rw[seqIndex_of h0 h4] at h1
   exact Option.some.inj h1
  exact PySem.W.ki_setAt ho h0 (by lia) (by rw[List.size_toArray,<-hl];exact h4) (by rw[hk];exact ⟨_,I',q⟩)
 ·have hk:(k+(its.toArray.size:Int)).toNat=j:=by
   rw[seqIndex_neg (by lia) h3] at h1
   rw[List.size_toArray,<-hl]
   exact Option.some.inj h1
  exact PySem.W.ki_setBack ho (by lia) (by rw[List.size_toArray,<-hl];exact h3) (by lia) (by rw[hk];exact ⟨_,I',q⟩)
theorem Qp (lo hi:Option Int) (n:Nat):(sliceBounds lo hi none n).1=((HT.sIx n 0 lo:Nat):Int)/\(sliceBounds lo hi none n).2.1=((HT.sIx n n hi:Nat):Int)/\(sliceBounds lo hi none n).2.2=1:=by
 refine ⟨?_,?_,rfl⟩
 ·cases lo with
  | none=>simp[sliceBounds,HT.sIx]
  | some i=>
   simp only[sliceBounds,HT.sIx,Option.getD_none,show (1:Int) > 0 by decide,if_true]
   by_cases h:i<0
   ·simp only[h,if_true]<;>lia
   ·simp only[h,if_false]<;>lia
 ·cases hi with
  | none=>simp[sliceBounds,HT.sIx]
  | some i=>
   simp only[sliceBounds,HT.sIx,Option.getD_none,show (1:Int) > 0 by decide,if_true]
   by_cases h:i<0
   ·simp only[h,if_true]<;>lia
   ·simp only[h,if_false]<;>lia
theorem OA (its:List Value) (lo hi:Option Int):slicePick its.toArray lo hi none=((its.drop (HT.sIx its.length 0 lo)).take (HT.sIx its.length its.length hi - HT.sIx its.length 0 lo)).toArray:=by
 obtain ⟨h1,h2,h3⟩:=Qp lo hi its.toArray.size
 unfold slicePick
 rw[h1,h2,h3]
 simp only[sliceRange_one,pick_run,List.size_toArray]<;>rfl
def JL (K:PySem.W.Frag):V->Option Int->Option Int->Hp->VK->Prop:=fun x lo hi H Q=>∃ a xs,x=.ref a/\SqL K H a xs/\∀ p,H p=none->Q (.ref p) (upd H p (.lst (DX xs lo hi)))
theorem sl_list:SlR X (JL X.K):=by
 intro pins s σ H x v vl vu lo hi sl Q I rx hs pl pu h
 obtain ⟨a,xs,rfl,hx,q⟩:=h
 cases rx
 obtain ⟨its,r,ht,hz⟩:=I.list hx
 have hlen:=r.length
 refine ⟨"list",_,slot_list_getitem.lookup,ht.isList.typeIs,?_⟩
 refine wpAny_getItem_list_slice ht.isList hs pl pu .none (by simp) ?_ (by rw[List.size_toArray]<;>lia)
 rw[OA,<-hlen]
 refine ⟨.ref s.heap.objs.size,_,I.laid (t':=s.toks) (o:=.lst (DX xs lo hi)) (fun b ob q=>Heap.get?_push_of_some _ q) (Nat.le_refl _) ?_,rfl,q _ (I.hok.fresh (Nat.le_refl _))⟩
 exact ⟨Nat.le_trans (Nj xs lo hi) hz,_,0,(r.drop (HT.sIx xs.length 0 lo)).take (HT.sIx xs.length xs.length hi - HT.sIx xs.length 0 lo),Heap.get?_push_size _ rfl⟩
theorem CallR.or {f:Value} {r r':List V->Hp->VK->Prop} (h:CallR X f r) (h':CallR X f r'):CallR X f (fun xs H Q=>r xs H Q\/r' xs H Q):=by
 intro pins s σ H xs us Q I rs q
 rcases q with q | q
 ·exact h pins s σ H xs us Q I rs q
 ·exact h' pins s σ H xs us Q I rs q
theorem KL:CallR X (.type "list") (fun xs H Q=>∃ p ys,xs=[.ref p]/\(SqL X.K H p ys\/SqT X.K H p ys)/\∀ l,H l=none->Q (.ref l) (upd H l (.lst ys))):=by
 intro pins s σ H xs us Q I r h
 obtain ⟨p,ys,rfl,hq,q⟩:=h
 obtain ⟨u,rfl,rx⟩:=vals1 r
 cases rx
 have fin:∀ (its:List Value),Vals ys its->ys.length<=sizeLine->∀ (h':Heap) (c':Nat),(∀ b o',s.heap.get? b=some o'->h'.get? b=some o') ->
   h'.get? s.heap.objs.size=some {cls:=.type "list",dict:=none,data:=.seq its.toArray c',slots:=#[]}->EP X pins σ Q (.ref s.heap.objs.size) {s with heap:=h'}:=fun its r' hz h' c' kp e=>
  ⟨.ref s.heap.objs.size,_,I.laid (t':=s.toks) kp (Nat.le_refl _) (show ObjOk X.prog X.w _ h' _ (.lst ys) from ⟨hz,its,c',r',e⟩),rfl,q _ (I.hok.fresh (Nat.le_refl _))⟩
 rcases hq with hq | hq
 ·obtain ⟨its,r',pl,hz⟩:=I.list hq
  have hlen:=r'.length
  obtain ⟨o,ho,hc,n,hd⟩:=pl.isList
  exact call_list_seq p (.inl rfl) ho hc hd (fun h' c' kp e=>fin its r' hz h' c' kp e) (by simp only[List.size_toArray]<;>lia)
 ·obtain ⟨its,r',pl,hz⟩:=I.tuple hq
  have hlen:=r'.length
  obtain ⟨o,ho,hc,n,hd⟩:=pl
  exact call_list_seq p (.inr rfl) ho hc hd (fun h' c' kp e=>fin its r' hz h' c' kp e) (by simp only[List.size_toArray]<;>lia)
def tyV (K:PySem.W.Frag) (T:String) (x:V) (H:Hp):Prop:=match x with
 | .str _=>T="str"
 | .int _=>T="int"
 | .ref p=>(T="list"/\∃ xs,SqL K H p xs)\/(T="tuple"/\∃ o,K.lookup p=some o/\o.cls=.type "tuple"/\o.dict=none) \/
   (T="dict"/\((∃ kvs,H p=some (.dK kvs))\/∃ kvs,H p=some (.dT kvs)))\/(T="set"/\∃ S n,H p=some (.set S n))
 | _=>False
theorem TH {pins:List (Addr×Obj)} {σ:St} {H:Hp} {s:Shared} {T:String} {x:V} {v:Value} (I:Inv X pins σ H s) (r:RelV x v) (ty:tyV X.K T x H) :
  s.TypeIs v T/\∀ a,v=.ref a->∃ ob,s.heap.get? a=some ob/\ob.dict=none:=by
 cases x with
 | str z=>
  obtain ⟨t,rfl⟩:=r
  cases (show T="str" from ty)
  exact ⟨typeIs_str s z t,fun _ e=>nomatch e⟩
 | int i=>
  obtain ⟨t,rfl⟩:=r
  cases (show T="int" from ty)
  exact ⟨typeIs_int s i t,fun _ e=>nomatch e⟩
 | ref p=>
  cases r
  rcases ty with ⟨rfl,xs,hq⟩ | ⟨rfl,o,hk,hc,hd⟩ | ⟨rfl,hk⟩ | ⟨rfl,S,n,hk⟩
  ·obtain ⟨its,_,pl,_⟩:=I.list hq
   refine ⟨pl.isList.typeIs,fun a e=>?_⟩
   cases e
   obtain ⟨o,n,e,c,hd,_⟩:=pl
   exact ⟨o,e,hd⟩
  ·refine ⟨⟨o,I.kIn p o hk,hc⟩,fun a e=>?_⟩
   cases e
   exact ⟨o,I.kIn _ o hk,hd⟩
  ·have z:∃ o,s.heap.get? p=some o/\o.ExactDict:=by
    rcases hk with ⟨kvs,hk⟩ | ⟨kvs,hk⟩
    ·obtain ⟨_,_,_,_,o,_,_,e,ex,_⟩:=I.hok p _ hk
     exact ⟨o,e,ex⟩
    ·obtain ⟨_,_,_,_,o,_,_,e,ex,_⟩:=I.hok p _ hk
     exact ⟨o,e,ex⟩
   obtain ⟨o,e,ex⟩:=z
   refine ⟨⟨o,e,ex.1⟩,fun a e2=>?_⟩
   cases e2
   exact ⟨o,e,ex.2.1⟩
  ·obtain ⟨o,_,_,_,e,ex,_⟩:=I.hok p _ hk
   refine ⟨⟨o,e,ex.1⟩,fun a e2=>?_⟩
   cases e2
   exact ⟨o,e,ex.2.1⟩
 | _=>exact False.elim ty
def tBM (K:PySem.W.Frag) (T:String) (r:V->List V->Hp->VK->Prop) (to:TE) (t:TA):TE:=fun σ H Q=>to σ H fun x H1=>tyV K T x H1/\t σ H1 fun xs H2=>r x xs H2 Q
variable {o e:Expr} {es:List Expr} {to:TE} {t:TA} {name:Str} {apos cpos:Pos} {T id:String} {r:V->List V->Hp->VK->Prop}
theorem Ex (pa:PlainAttrs T) (slot:Slot T name id) (hty:typeOf (.builtin id)=pure (.type "method_descriptor")) (hm:MtR X id r) (ho:PE X o to) (ha:PA X (e::es) t)
  (hbase:attributeBase o name X.env (eval o X.env)=eval o X.env:=by rfl)
  (hfew:((backTo cpos (starEach (e::es) X.env)).all (fun x=>!x.1) && (backToKw cpos (keywordEach [] X.env)).all (fun x=>x.1.isSome)
   && decide ((e::es).length+([]:List Keyword).length+(if ([]:List Keyword).isEmpty then 0 else 1)<30))=true:=by rfl)
  (hline:(apos.endLine == cpos.line)=true:=by rfl) (hs:starEach (e::es) X.env=(false,eval e X.env)::starEach es X.env:=by rfl) (hplain:(backTo cpos (starEach es X.env)).any (·.1)=false:=by rfl) :
  PE X (.Call (.Attribute o name apos) (e::es) [] cpos) (tBM X.K T r to t):=by
 intro pins s σ H Q I h
 refine wpAny_Call_method_late hbase hfew hline rfl (thn (ho pins s σ H _ I h) fun v s1 hh_=>?_)
 obtain ⟨x,H1,I1,r1,ty,q1⟩:=hh_
 obtain ⟨h1,h2⟩:=TH I1 r1 ty
 refine ⟨T,id,pa,slot,hty,h1,h2,?_⟩
 have hA:=ha cpos pins s1 σ H1 _ I1 q1
 rw[hs] at hA ⊢
 refine Calls.callWith_builtin (by show (false || (backTo cpos (starEach es X.env)).any (·.1))=false;rw[hplain]<;>rfl) (Calls.evalArgs_plain ?_)
 exact thn hA fun us s2 ⟨vs,H2,I2,r2,q2⟩=>hm pins s2 σ H2 x vs v us Q I2 r1 r2 q2
end
def MtM (X:Cx) (id:String) (r:V->List V->Hp->VK->Prop):Prop:=
 ∀ (pins:List (Addr×Obj)) (s:Shared) (σ:St) (H:Hp) (x:V) (xs:List V) (v:Value) (us:List Value) (Q:VK),Inv X pins σ H s->RelV x v->Vals xs us->r x xs H Q ->
  wpAny (model X.prog X.w) X.A (call (.builtin id) (v::us)) (EP X pins σ Q) X.xe s
theorem Vals.one:∀ {x:V} {us:List Value},Vals [x] us->∃ u,us=[u]/\RelV x u
 | _,_,.cons r .nil=>⟨_,rfl,r⟩
theorem Vals.rep {xs:List V} {us:List Value} (h:Vals xs us):∀ k:Nat,Vals (List.replicate k xs).flatten (List.replicate k us).flatten
 | 0=>.nil
 | k+1=>by
  rw[List.replicate_succ,List.replicate_succ,List.flatten_cons,List.flatten_cons]
  exact Vals.append h (Vals.rep h k)
theorem foldl_rep (its:List Value):∀ (k:Nat) (acc:List Value),
  List.foldl (fun x1 x2=>x1++x2) acc.toArray (List.replicate k its.toArray)=(acc++(List.replicate k its).flatten).toArray
 | 0,acc=>by simp
 | k+1,acc=>by
  have e:acc.toArray++its.toArray=(acc++its).toArray:=by simp
  have e2:(acc++its)++(List.replicate k its).flatten=acc++(List.replicate (k+1) its).flatten:=by
   rw[List.replicate_succ,List.flatten_cons,List.append_assoc]
  rw[<-e2,<-foldl_rep its k (acc++its),<-e,List.replicate_succ,List.foldl_cons]
section
variable {X:Cx} {pins:List (Addr×Obj)} {σ:St} {H:Hp} {s:Shared} {l b:Addr} {xs ys zs:List V}
theorem Inv.lset {its its':List Value} {n:Nat} {f:Array Value->Array Value} {t':Nat} (I:Inv X pins σ H s) (hH:H l=some (.lst xs))
  (e:s.heap.get? l=some {cls:=.type "list",data:=.seq its.toArray n}) (hf:f its.toArray=its'.toArray) (hv:Vals ys its') (hz:ys.length<=sizeLine) :
  Inv X pins σ (upd H l (.lst ys)) {s with heap:=s.heap.update l (Obj.mapSeq f),toks:=t'}:=by
 have q:=PySem.IsL.update e f
 rw[hf] at q
 refine I.write (x:=l) (e:=l) (by rw[hH];exact trivial) (.inl rfl) (fun b' u hb hu=>(Heap.get?_update_other s.heap (Obj.mapSeq f) (Ne.symm hb)).trans hu) ⟨_,q⟩ ?_
 exact ⟨hz,its',_,hv,q⟩
theorem Inv.lnew {its:List Value} {t':Nat} (I:Inv X pins σ H s) (hv:Vals ys its) (hz:ys.length<=sizeLine) :
  Inv X pins σ (upd H s.heap.objs.size (.lst ys)) {s with heap:=s.heap.push {cls:=.type "list",data:=.seq its.toArray},toks:=t'}:=
 I.laid (fun _ _ q=>Heap.get?_push_of_some _ q) (Nat.le_refl _) ⟨hz,its,0,hv,Heap.get?_push_size _ rfl⟩
theorem Inv.fresh (I:Inv X pins σ H s):H s.heap.objs.size=none:=I.hok.fresh (Nat.le_refl _)
theorem Inv.lstM (I:Inv X pins σ H s) (hH:H l=some (.lst xs)):xs.length<=sizeLine/\∃ (its:List Value) (n:Nat),Vals xs its/\xs.length=its.length/\s.heap.get? l=some {cls:=.type "list",data:=.seq its.toArray n}:=by
 obtain ⟨z,its,n,r,e⟩:=I.hok l _ hH
 exact ⟨z,its,n,r,r.length,e⟩
theorem K7 {n:Nat} (h:n<=sizeLine):Builtin.List.listTooLong n=false:=by
 unfold Builtin.List.listTooLong
 exact decide_eq_false (by lia)
end
section
variable {X:Cx}
def Mx:V->List V->Hp->VK->Prop:=fun x vs H Q=>∃ l xs y,x=.ref l/\vs=[y]/\H l=some (.lst xs)/\xs.length<sizeLine/\Q .non (upd H l (.lst (xs++[y])))
theorem Ir:MtM X "list.append" Mx:=by
 intro pins s σ H x vs v us Q I rx rv h
 obtain ⟨l,xs,y,rfl,rfl,hH,hz,q⟩:=h
 cases rx
 obtain ⟨u,rfl,ru⟩:=rv.one
 obtain ⟨z,its,n,r,hl,e⟩:=I.lstM hH
 refine call_meets F.slot_list_append ⟨_,e,rfl⟩ F.entry_list_append (F.args_list_append_2 _ _) (PySem.list_append l its.toArray n u (by rw[List.size_toArray];lia)) ⟨e,?_⟩
 refine ⟨.non,_,I.lset (its':=its++[u]) hH e (by simp) (r.append (.cons ru .nil)) ?_,rfl,q⟩
 rw[List.length_append,List.length_singleton]
 lia
def Rv:V->List V->Hp->VK->Prop:=fun x vs H Q=>∃ l b xs zs,x=.ref l/\vs=[.ref b]/\H l=some (.lst xs)/\H b=some (.lst zs)/\xs.length+zs.length<=sizeLine/\Q .non (upd H l (.lst (xs++zs)))
theorem LQ:MtM X "list.extend" Rv:=by
 intro pins s σ H x vs v us Q I rx rv h
 obtain ⟨l,b,xs,zs,rfl,rfl,hH,hB,hz,q⟩:=h
 cases rx
 obtain ⟨u,rfl,ru⟩:=rv.one
 cases ru
 obtain ⟨z,its,n,r,hl,e⟩:=I.lstM hH
 obtain ⟨z2,its2,n2,r2,hl2,e2⟩:=I.lstM hB
 have hsz:its.toArray.size+its2.toArray.size<=sizeLine:=by rw[List.size_toArray,List.size_toArray];lia
 have hlong:¬(!its.toArray.isEmpty && Builtin.List.listTooLong (its.toArray.size+its2.toArray.size))=true:=by
  rw[K7 hsz,Bool.and_false]
  exact Bool.false_ne_true
 refine call_meets F.slot_list_extend ⟨_,e,rfl⟩ F.entry_list_extend (F.args_list_extend_2 _ _)
  (AutoSeq1.list_extend_list_list_0 l its.toArray n b its2.toArray n2 hlong (by rw[List.size_toArray];lia) (by lia)) ⟨e,e2,?_⟩
 refine ⟨.non,_,I.lset (its':=its++its2) hH e (by simp) (r.append r2) ?_,rfl,q⟩
 rw[List.length_append]
 lia
def IC:R2:=fun x y H Q=>∃ l b xs zs,x=.ref l/\y=.ref b/\H l=some (.lst xs)/\H b=some (.lst zs)/\xs.length+zs.length<=sizeLine/\∀ p,H p=none->Q (.ref p) (upd H p (.lst (xs++zs)))
theorem JQ:OpR X (binaryOp .Add) IC:=by
 intro pins s σ H x y v u Q I rx ry h
 obtain ⟨l,b,xs,zs,rfl,rfl,hH,hB,hz,q⟩:=h
 cases rx
 cases ry
 obtain ⟨z,its,n,r,hl,e⟩:=I.lstM hH
 obtain ⟨z2,its2,n2,r2,hl2,e2⟩:=I.lstM hB
 refine PySem.P.add_list e e2 ?_ (by rw[List.size_toArray,List.size_toArray];lia)
 have ea:its.toArray++its2.toArray=(its++its2).toArray:=by simp
 rw[ea]
 exact ⟨.ref _,_,I.lnew (t':=s.toks) (r.append r2) (by rw[List.length_append];lia),rfl,q _ I.fresh⟩
def Ki:R2:=fun x y H Q=>∃ l k xs,x=.ref l/\y=.int k/\H l=some (.lst xs)/\-(2 ^ 63)<=k/\k<2 ^ 63/\xs.length * k.toNat<=sizeLine /\
 ∀ p,H p=none->Q (.ref p) (upd H p (.lst (List.replicate k.toNat xs).flatten))
theorem len_rep {α:Type} (xs:List α) (k:Nat):(List.replicate k xs).flatten.length=k * xs.length:=by
 induction k with
 | zero=>simp
 | succ k ih=>rw[List.replicate_succ,List.flatten_cons,List.length_append,ih,Nat.succ_mul,Nat.add_comm]
theorem Tb:OpR X (binaryOp .Mult) Ki:=by
 intro pins s σ H x y v u Q I rx ry h
 obtain ⟨l,k,xs,rfl,rfl,hH,h1,h2,hz,q⟩:=h
 cases rx
 obtain ⟨t,rfl⟩:=ry
 obtain ⟨z,its,n,r,hl,e⟩:=I.lstM hH
 have hlen:its.toArray.size * k.toNat<=sizeLine:=by rw[List.size_toArray,<-hl];exact hz
 have hcap:¬its.toArray.size * k.toNat > (2 ^ 63 - 1) / 8:=by
  have:(sizeLine:Nat)<=(2 ^ 63 - 1) / 8:=by decide
  lia
 have hfit:¬(!Builtin.List.listFitsIndex k)=true:=by
  rw[fitsIndex_both h1 h2]
  exact Bool.false_ne_true
 have hlong:¬Builtin.List.listTooLong (its.toArray.size * k.toNat)=true:=by
  rw[K7 hlen]
  exact Bool.false_ne_true
 have hnew:List.foldl (fun x1 x2=>x1++x2) #[] (List.replicate (if its.toArray.isEmpty=true then 0 else k.toNat) its.toArray)=(List.replicate k.toNat its).flatten.toArray:=by
  have f0:∀ m:Nat,List.foldl (fun x1 x2=>x1++x2) #[] (List.replicate m its.toArray)=(List.replicate m its).flatten.toArray:=fun m=>by
   have:=foldl_rep its m []
   rw[List.nil_append] at this
   exact this
  rw[f0]
  cases its with
  | nil=>simp
  | cons a r'=>rw[if_neg (by simp)]
 refine wpAny_binaryOp_repeat_ref (T:="list") (U:="int") (by decide) ⟨_,e,rfl⟩ (fun s'=>typeIs_int s' k t) noFill_list_mul F.fills_int_mul F.slot_int_rmul repeat_list F.slot_int_index.lookup
  (call_meets F.slot_int_rmul (typeIs_int s k t) F.entry_int_rmul (F.args_int_rmul_2 _ _) (int___rmul___int_list k t l its.toArray n)
   ⟨e,rfl,⟨_,e,rfl⟩,call_meets F.slot_list_mul ⟨_,e,rfl⟩ F.entry_list_mul (F.args_list_mul_2 _ _) (AutoListH.list___mul___list_int_3 l its.toArray n k t hfit hcap hlong) ⟨e,?_⟩⟩)
 rw[hnew]
 exact ⟨.ref _,_,I.lnew (t':=s.toks) (r.rep k.toNat) (by rw[len_rep,Nat.mul_comm];exact hz),rfl,q _ I.fresh⟩
end
section
variable {prog:Program} {w:World} {A:Around} {E:Value->Shared->Prop} {s:Shared}
end
section
variable {X:Cx}
end
end L2
namespace Att
open PySem PySem.W PySem.Calls PyProof.Rows
theorem O9 {P:Params} {h:Heap}:∀ (ns:List Int) (vs:List Value),WellAll P h vs (ns.map WData.int)->IntsAre vs ns:=by
 intro ns
 induction ns with
 | nil=>
  intro vs w
  rw[List.map_nil] at w
  cases w
  exact .nil
 | cons n ns ih=>
  intro vs w
  rw[List.map_cons] at w
  cases w with
  | cons a b=>
   cases a
   exact .cons _ _ (ih _ b)
theorem Rh {l:OpenLaw} {n:Nat} (hn:l.most=some n) {P:Params} {h:Heap} {args:List WData} {vals:List Value}
  (hpre:l.row.toRowW.claim.pre args=true) (hwl:WellAll P h vals args) :
  ∃ a vs ns,vals=[Value.ref a]/\args=[WData.list (ns.map WData.int)]/\h.get? a=some {cls:=.type "list",data:=.seq vs.toArray}/\IntsAre vs ns/\ns.length<=n:=by
 have hsh:WShape.hasAll [] args [.list .int]=true:=(pre_splitW hpre).1
 have hc:l.pre.holds [] {args:=args}=true:=(pre_splitW hpre).2
 obtain ⟨d,r,rfl,h1,h2⟩:=hasAllW_cons hsh
 obtain rfl:=hasAllW_nil h2
 obtain ⟨xs,rfl,h3⟩:=hasW_list h1
 obtain ⟨ns,rfl⟩:=items_int h3
 have hlen:ns.length<=n:=by
  unfold OpenLaw.pre at hc
  have h4:(WTm.not (.lt (.lit (.int (n:Int))) (.len (.arg 0)))).holds [] {args:=[.list (ns.map .int)]}=true:=by
   have h4:=(holds_andW hc).1
   rw[hn] at h4
   exact h4
  have h5:=condW_of h4 (w_not (w_lt w_lit (w_len_list (w_arg rfl))))
  rw[List.length_map] at h5
  refine Nat.le_of_not_lt fun q=>?_
  have q':(n:Int)<((ns.length:Nat):Int):=by lia
  first
   | (rw[decide_eq_true q'] at h5;exact absurd h5 (by decide))
   | (simp at h5;lia)
 cases hwl with
 | cons w1 w2=>
  cases w2
  cases w1 with
  | list ho hall=>exact ⟨_,_,ns,rfl,rfl,ho,O9 ns _ hall,hlen⟩
theorem Qu (l:OpenLaw) (args:List WData):l.row.toRowW.claim.post args (.bool true) args=true:=
 postW_of (r:=l.row.toRowW) (X:=(true == true))
  (show WShape.has [] (.bool true) .bool=true by first | rfl | decide | simp[WShape.has,WShape.arms,WShape.armsAll])
  (show (WTm.eq .res (.lit (.bool true))).value [] {args:=args,res:=some (.bool true),after:=args}=some (.bool (true == true)) from w_eq_bool (w_res rfl) w_lit) rfl
theorem UL {l:OpenLaw} {n:Nat} {q:Program} {loose:List Str} {XP:(Str->Option Value)->Heap->Prop} {YP:World->Heap->Prop} {d:DefRec}
  (hn:l.most=some n) (hdf:d.params.defaults=[])
  (call:∀ (w:World) (s₀ s₁:Shared) (mg mb:Str->Option Value) (fa:Addr) (o:Obj) (pm cd doc:Value) (a:Addr) (vs:List Value) (ns:List Int),
   Ground q loose [] XP w s₀ mg mb s₁.heap->YP w s₁.heap ->
   s₁.heap.get? fa=some o->o.data=.func (docDef d.name d.params d.body d.scope pm cd doc)->s₁.heap.CodeRec cd d.name->mg d.name=some (.ref fa) ->
   s₁.heap.get? a=some {cls:=.type "list",data:=.seq vs.toArray}->IntsAre vs ns->ns.length<=n->s₁.gens=#[] ->
   codeAny (model l.prog w) callerA (.call (.ref fa) ⟨[.ref a],[]⟩) (fun r s'=>r=.ok (.ret (.bool true))/\OldK s₁.heap s'.heap/\s'.os=s₁.os/\AllBare s'.gens) s₁) :
  WalkO q loose XP YP l.row.toRowW d [] (fun f vs=>PySem.call f vs):=by
 intro w s₀ s₁ mg mb G Y fa o pm cd doc dV kV ho hd hcd hD hmg hg args vals as hpre hlay hrd hwl hlo
 obtain rfl:dV=.none:=Dflts.none hD hdf
 obtain rfl:kV=.none:=Dflts.noKw hD
 obtain ⟨a,vs,ns,rfl,rfl,hobj,hints,hlen⟩:=Rh hn hpre hwl
 refine enter_call (codeAny_mono (call w s₀ s₁ mg mb fa o pm cd doc a vs ns G Y ho (fd_plain hd) hcd hmg hobj hints hlen hg) fun r s' hq=>?_)
 obtain ⟨rfl,h2,h3,h4⟩:=hq
 exact ⟨.inl ⟨.bool true,.bool true,[],rfl,fun _=>rfl,.bool true,Qu l _,fun _=>⟨List.Pairwise.nil,fun _ hm=>(nomatch hm)⟩⟩,h2,h3,h4⟩
section
variable {prog:Program} {w:World} {A:Around} {E:Value->Shared->Prop} {s:Shared} {K:Frag}
end
end Att
namespace L2
open PySem PySem.Spec PyProof.Rows
theorem I0:∀ {vs:List Value} {ns:List Int},IntsAre vs ns->Vals (ns.map V.int) vs
 | _,_,.nil=>.nil
 | _,_,.cons n t h=>.cons ⟨t,rfl⟩ (I0 h)
def IB (H:Hp):Prop:=∀ b,H b=none\/∃ o xs,H b=some (.frz o (.lst xs))
theorem Td {P:Program} {w:World} {K:PySem.W.Frag} {mg mb:Str->Option Value} {CX:CXT} {k:Nat} {fa a:Addr} {fd:FuncData} {x:Str} {sp:Sp} {s₁:Shared} {vs:List Value} {ns:List Int}
  (KX:K.In s₁.heap) (hns:s₁.heap.Ns mainGlobals mg) (hb:s₁.heap.Ns builtinsNs mb) (hbb:∀ x:Str,x≠"__name__"->mb x=bootBuiltins x) (hlim:s₁.heap.NoLimit) (hg:s₁.gens=#[])
  (ha:s₁.heap.get? a=some {cls:=.type "list",data:=.seq vs.toArray}) (hi:IntsAre vs ns) (hl:ns.length<=sizeLine) (hr:Room k callerA)
  (F:∀ base:Heap,K.In base->base.Ns mainGlobals mg->FnOk P w K mg base CX k fa fd [x] sp) (hbind:∀ (s:Shared) (u:Value),BindsTo s fd ⟨[u],[]⟩ [(x,u)])
  (hsp:∀ H:Hp,IB H->SqL K H a (ns.map V.int)->sp [.ref a] H (fun v _=>v=.bl true) fun _ _ _=>False)
  (hCX:∀ H e s',CX [] H s₁ (fun _ _ _=>False) e s'->False) :
  codeAny (model P w) callerA (.call (.ref fa) ⟨[.ref a],[]⟩) (fun r s'=>r=.ok (.ret (.bool true))/\OldK s₁.heap s'.heap/\s'.os=s₁.os/\AllBare s'.gens) s₁:=by
 have rv:=I0 hi
 have lenV:=hi.length
 have core:∀ H:Hp,IB H->SqL K H a (ns.map V.int)->HOk P w H s₁.heap->(∀ b,H b≠none->b=a)->(H a≠none->K.lookup a=none) ->
   codeAny (model P w) callerA (.call (.ref fa) ⟨[.ref a],[]⟩) (fun r s'=>r=.ok (.ret (.bool true))/\OldK s₁.heap s'.heap/\s'.os=s₁.os/\AllBare s'.gens) s₁:=by
  intro H hO hS hok hA hK
  have base_of:∀ {b:Addr} {o:Obj},s₁.heap.get? b=some o->H b=none->(Ck s₁.heap H).get? b=some o:=fun e n=>NA e n
  have noA:∀ {b:Addr} {o:Obj} {es:Array DictEntry} {ep:Nat},s₁.heap.get? b=some o->o.data=.dict es ep->H b=none:=fun {b o es ep} e d=>by
   cases q:H b with
   | none=>rfl
   | some u=>
    have e':b=a:=hA b (by rw[q];simp)
    subst e'
    rw[ha] at e;cases e
    have d':Data.seq vs.toArray _=Data.dict es ep:=d
    cases d'
  have nsK:∀ {b:Addr} {m:Str->Option Value},s₁.heap.Ns b m->(Ck s₁.heap H).Ns b m:=fun {b m} ⟨o,es,ep,e,d,r⟩=>⟨o,es,ep,base_of e (noA e d),d,r⟩
  have hKb:K.In (Ck s₁.heap H):=fun b o e=>base_of (KX b o e) (by
   cases q:H b with
   | none=>rfl
   | some u=>
    have e':b=a:=hA b (by rw[q];simp)
    subst e'
    rw[hK (by rw[q];simp)] at e;cases e)
  have hM:Mod K mg (Ck s₁.heap H):=⟨hKb,nsK hns,⟨mb,nsK hb,hbb⟩,let ⟨mc,h1,h2⟩:=hlim;⟨mc,nsK h1,h2⟩⟩
  have e0:Env0 P w K mg (Ck s₁.heap H) callerA [] s₁ H:=⟨rfl,hM,fun b o e=>TR e,Nat.le_of_eq (Rb _ _),trivial,fun b hb=>absurd (show b∈([]:List Addr) from hb) (by simp),hok,.of_eq hg⟩
  refine codeAny_mono ((F _ hKb (nsK hns)).run callerA [] s₁ H ⟨[.ref a],[]⟩ [.ref a] [.ref a] _ _ hr e0 (hbind s₁ (.ref a)) (.cons rfl .nil) (hsp H hO hS)) fun r s' h=>?_
  cases r with
  | error e=>exact (hCX H e s' h).elim
  | ok fl=>
   cases fl with
   | next=>exact False.elim h
   | brk=>exact False.elim h
   | cont=>exact False.elim h
   | ret u=>
    obtain ⟨v,H',os,bare,un,hok',r',q⟩:=h
    have q':v=.bl true:=q
    subst q'
    obtain rfl:u=Value.bool true:=r'
    refine ⟨rfl,OldK.of_keep fun b o e=>?_,os,bare⟩
    cases q:H b with
    | none=>exact un.keep b o e q (by intro z;exact absurd (show b∈([]:List Addr) from z) (by simp)) (by simp)
    | some u=>
     rcases hO b with z | ⟨ob,xs,z⟩
     ·rw[q] at z;cases z
     ·have z2:=un.frzs b ob _ z
      obtain ⟨e1,_⟩:=hok b _ z
      obtain ⟨e2,_⟩:=hok' b _ z2
      rw[e] at e1;cases e1
      exact e2
 cases hk:K.lookup a with
 | some o=>
  have e:=KX a o hk
  rw[ha] at e
  cases e
  refine core (fun _=>none) (fun _=>.inl rfl) (.inr ⟨_,vs.toArray,_,hk,rfl,rfl,rfl,by rw[List.size_toArray,lenV];exact hl,by simpa using rv⟩) (fun b u z=>by have z':(none:Option HO)=some u:=z;cases z') (fun b z=>absurd rfl z) fun z=>absurd rfl z
 | none=>
  refine core (fun b=>if b=a then some (.frz {cls:=.type "list",data:=.seq vs.toArray} (.lst (ns.map V.int))) else none) (fun b=>?_) (.inl (.inr ⟨{cls:=.type "list",data:=.seq vs.toArray},if_pos rfl⟩)) (fun b u z=>?_) (fun b z=>?_) fun _=>hk
  ·by_cases hb:b=a
   ·exact .inr ⟨_,_,if_pos hb⟩
   ·exact .inl (if_neg hb)
  ·by_cases hb:b=a
   ·have z':=(if_pos hb).symm.trans z
    cases z'
    subst hb
    exact ⟨ha,by rw[List.length_map];exact hl,vs,_,rv,ha⟩
   ·have z':=(if_neg hb).symm.trans z
    cases z'
  ·by_cases hb:b=a
   ·exact hb
   ·exact absurd (if_neg hb) z
def Dc (s:Stmt):Arguments:=match s with
 | .FunctionDef _ a _ _ _ _ _ _ _ _=>a
 | _=>{posonlyargs:=[],args:=[],vararg:=none,kwonlyargs:=[],kw_defaults:=[],kwarg:=none,defaults:=[]}
def CH (s:Stmt):List Stmt:=match s with
 | .FunctionDef _ _ b _ _ _ _ _ _ _=>b
 | _=>[]
def AW (s:Stmt):Scope:=match s with
 | .FunctionDef _ _ _ _ _ _ sc _ _ _=>sc
 | _=>{kind:=.function,names:=[],isGenerator:=false,isCoroutine:=false}
abbrev CX0:CXT:=fun _ _ _ _ _ _=>False
abbrev E0:XK:=fun _ _ _=>False
theorem FC {X:Cx}:Hd CX0 X E0:=fun _ _ _ _ _ _ _ h=>h.elim
structure Fun (K:PySem.W.Frag) (x qual:Str) (st:Stmt) (f:Addr) (fd:FuncData):Prop where
 ex:∃ (oc:Value) (od:Option Addr) (kV doc pm:Value) (an:Option Addr) (cdv ct:Value) (osl:Array (Option Value)),
  fd=PySem.W.fnOf x qual (Dc st) (CH st) (AW st) .none kV doc pm an cdv ct/\K.lookup f=some ⟨oc,od,.func fd,osl⟩/\PySem.W.codeIn K cdv qual=true
 kp:PySem.W.keepIn K (.ref f)=true
section
variable {P:Program} {w:World} {K:PySem.W.Frag} {mg:Str->Option Value} {base:Heap}
theorem Fun.ok {x qual:Str} {st:Stmt} {f:Addr} {fd:FuncData} {N ps:List Str} {k:Nat} {sp:Sp} (F:Fun K x qual st f fd) (S:FnScope N ps (AW st)) (len:∀ vs H Q E,sp vs H Q E->vs.length=ps.length)
  (hbody:∀ (cdv:Value) (A:Around) (outer:List Env) (s:Shared) (H:Hp) (vs:List V) (Q:VK) (E:XK),Room k (A.deeper (envOfC qual (AW st) s.heap.objs.size f cdv))->sp vs H Q E ->
   ∃ t,PSs (C1 CX0 P w K mg base N qual (AW st) f cdv A outer s H E).nox (CH st) t/\t {nx:=fun _ H'=>Q .non H',rt:=Q} (start N vs) H):FnOk P w K mg base CX0 (k+1) f fd ps sp:=by
 obtain ⟨oc,od,kV,doc,pm,an,cdv,ct,osl,rfl,lk,hcd⟩:=F.ex
 refine NG lk hcd S len fun A outer s H vs Q E hr hsp=>?_
 obtain ⟨t,h,q⟩:=hbody cdv A outer s H vs Q E hr hsp
 exact ⟨t,h.nox,q⟩
theorem Fun.binds {x qual:Str} {st:Stmt} {f:Addr} {fd:FuncData} {ps:List Str} (F:Fun K x qual st f fd)
  (h:∀ (kV doc pm:Value) (an:Option Addr) (cdv ct:Value) (us:List Value),us.length=ps.length->bindArgs (PySem.W.fnOf x qual (Dc st) (CH st) (AW st) .none kV doc pm an cdv ct) ⟨us,[]⟩=pure (ps.zip us)):Binds K fd ps []:=by
 obtain ⟨oc,od,kV,doc,pm,an,cdv,ct,osl,rfl,lk,hcd⟩:=F.ex
 exact .all (h kV doc pm an cdv ct)
end
theorem Gk {A:Around} {k:Nat} (hr:Room k A):A.units+1<cLine:=Nat.lt_of_le_of_lt (Nat.add_le_add_left (by decide:1<=64) _) hr.units
section
variable {X:Cx}
theorem pv (i:Nat) {x:Str} {pos:Pos} (hN:X.N[i]?=some x:=by rfl) (hv:Vis X.env.scope x:=by first | exact Or.inl rfl | exact Or.inr (Or.inl rfl) | exact Or.inr (Or.inr rfl)) (hd:(x == ("__debug__":Str))=false:=by decide)
  (hcd:(x == ("__classdict__":Str))=false:=by decide):PE X (.Name x pos) (GF i):=O4 hN hv hd hcd
end
theorem Cq {A B:Prop} (h:B):if false=true then A else B:=by
 rw[if_neg Bool.false_ne_true]
 exact h
theorem O6 {A B:Prop} (h:A):if true=true then A else B:=by
 rw[if_pos rfl]
 exact h
end L2
namespace HD
open PySem PySem.W PySem.Calls PyProof.Rows L2
def FR (h:Heap):Frag:=(List.range h.objs.size).filterMap fun a=>(h.get? a).map fun o=>(a,o)
theorem Jt {β:Type} {a:Nat} {o:β}:∀ {l:List (Nat×β)},l.lookup a=some o->(a,o)∈l
 | [],h=>by cases h
 | (b,x)::l,h=>by
  rw[List.lookup_cons] at h
  by_cases e:a=b
  ·subst e
   rw[beq_self_eq_true] at h
   cases h
   exact .head _
  ·rw[beq_false_of_ne e] at h
   exact .tail _ (Jt h)
theorem M9 (h:Heap):(FR h).In h:=by
 intro a o e
 obtain ⟨b,_,hb⟩:=List.mem_filterMap.mp (Jt e)
 obtain ⟨o',h1,h2⟩:=Option.map_eq_some_iff.mp hb
 cases h2
 exact h1
abbrev Sn:=Option (Str×Str×Arguments×FuncBody×Scope×Addr×List (Str×Addr)×Value×Addr×Bool)
def E4 (K:Frag) (x:Str):Sn:=match nsIn K mainGlobals x with
 | some (some (.ref f))=>(match K.lookup f with
  | some ⟨_,_,.func d,_⟩=>some (d.name,d.qualname,d.params,d.body,d.scope,d.globals,d.closure,d.defaults,d.builtins,codeIn K d.code x)
  | _=>none)
 | _=>none
def Ew (p:Str×Stmt):Sn:=some (p.1,p.1,Dc p.2,.stmts (CH p.2),AW p.2,mainGlobals,[],.none,builtinsNs,true)
theorem Bc {K:Frag} {x:Str} {st:Stmt} (h:E4 K x=Ew (x,st)):∃ (f:Addr) (fd:FuncData),nsIn K mainGlobals x=some (some (.ref f))/\Fun K x x st f fd:=by
 unfold E4 at h
 split at h
 ·rename_i f hn
  split at h
  ·rename_i oc od d sl hl
   simp only[Ew,Option.some.injEq,Prod.mk.injEq] at h
   obtain ⟨d1,d2,d3,d4,d5,d6,d7,d8,d9,c⟩:=h
   have z:d=fnOf x x (Dc st) (CH st) (AW st) .none d.kwdefaults d.doc d.pyModule d.annotations d.code d.closureTuple:=by
    cases d
    simp only[FuncData.mk.injEq]
    exact ⟨d1,d2,d3,d4,d5,d6,d7,d8,trivial,trivial,trivial,trivial,trivial,trivial,d9⟩
   refine ⟨f,d,hn,⟨?_,?_⟩⟩
   ·exact ⟨oc,od,d.kwdefaults,d.doc,d.pyModule,d.annotations,d.code,d.closureTuple,sl,z,hl,c⟩
   ·show (match K.lookup f with | some ⟨_,_,.func _,_⟩=>true | some ⟨_,_,.cls _,_⟩=>_ | _=>false)=true
    rw[hl]
  ·cases h
 ·cases h
theorem BQ {α β:Type} {g h:α->β}:∀ {L:List α} {i:Nat} {x:α},L.map g=L.map h->L[i]?=some x->g x=h x
 | [],_,_,_,e=>by cases e
 | y::L,0,x,m,e=>by cases e;exact (List.cons.inj m).1
 | y::L,i+1,x,m,e=>BQ (List.cons.inj m).2 e
def J6 (K:Frag) (x:Str):Option Int:=match nsIn K mainGlobals x with
 | some (some (.int n _))=>some n
 | _=>none
def stp (p:Program) (N:Nat) (w:World) (os:OsState):Option Shared:=
 topRun treeTable p w (boot_heap w.params).objs.size ((boot_heap w.params).nsMap mainGlobals "__annotations__") N ⟨boot_heap w.params,Array.mk [],boot_drawn,boot_toks,os⟩ (topStub p)
theorem OW:(fun P=>(boot_heap P).isNs mainGlobals && (Array.mk []:Array GenState).size == 0)=fun _=>true:=by kernel_rfl
def Ka (p q:Program) (loose:List Str) (N:Nat) (w:World) (os:OsState):=(stp p N w os).map fun s=>openSeen q loose (importedModules p.main.body) (fun _=>true) true s
def Ke {α:Type} (p:Program) (N:Nat) (obs:Frag->α) (w:World) (os:OsState):=(stp p N w os).map fun s=>obs (FR s.heap)
def runC (p:Program) (N:Nat) (w:World) (os:OsState):=(stp p N w os).map fun s=>staticsOk (importedModules p.main.body) (boot_heap w.params) s.heap && namesBound p s.heap && gensDone s && laidKept (boot_heap w.params) s.heap
theorem Pe {α:Type} {p q:Program} {loose:List Str} {N:Nat} {obs:Frag->α} {val:α} (e:opening p=plainProg p.main.scope.names) (hN:Nat.ble 600 N=true) (f:∀ s,fenceModules? p s=some s)
  (hA:∀ w os,Ka p q loose N w os=some (openGood q loose)) (hB:∀ w os,Ke p N obs w os=some val) (hC:∀ w os,runC p N w os=some true):LeftO p q loose (fun _=>true) (fun s=>obs (FR s.heap)) (fun _=>val) N:=fun w=>by
 obtain ⟨⟨H,gs,d,k,os⟩,e1,e2⟩:=Option.map_eq_some_iff.mp (boot_open e hN f w)
 simp only[Prod.mk.injEq] at e2
 obtain ⟨rfl,rfl,rfl,rfl⟩:=e2
 obtain ⟨s,h1,h2⟩:=Option.map_eq_some_iff.mp (hA w os)
 obtain ⟨s',h3,h4⟩:=Option.map_eq_some_iff.mp (hB w os)
 obtain ⟨s2,h5,h6⟩:=Option.map_eq_some_iff.mp (hC w os)
 rw[h1] at h3 h5
 cases h3
 cases h5
 unfold openEnds
 rw[e1]
 have z:topFrom treeTable p w N ⟨boot_heap w.params,Array.mk [],boot_drawn,boot_toks,os⟩=some s:=by
  unfold topFrom
  dsimp only
  rw[congrFun OW w.params]
  show (stp p N w os).bind _=_
  rw[h1]
  show (match _ with | true=>some s | false=>none)=_
  rw[h6]
 show (topFrom treeTable p w N _).map _=_
 rw[z,Option.map_some,h2]
 exact congrArg (fun z=>some (openGood q loose,z)) h4
theorem Pb {α:Type} {l:OpenLaw} {n k:Nat} {q:Program} {loose:List Str} {XP:(Str->Option Value)->Heap->Prop} {d:DefRec} {obs:Frag->α} {val:α} {x:Str} {sp:Frag->Sp}
  (hn:l.most=some n) (hn2:n<=sizeLine) (hdf:d.params.defaults=[]) (hr:Room k callerA)
  (F:∀ (w:World) (K:Frag) (mg:Str->Option Value) (fa:Addr) (h:Heap),obs K=val->K.In h->h.Ns mainGlobals mg->mg d.name=some (.ref fa) ->
   ∃ fd:FuncData,(∀ (s:Shared) (u:Value),BindsTo s fd ⟨[u],[]⟩ [(x,u)])/\∀ base:Heap,K.In base->base.Ns mainGlobals mg->FnOk l.prog w K mg base CX0 k fa fd [x] (sp K))
  (hsp:∀ (K:Frag) (H:Hp) (a:Addr) (ns:List Int),ns.length<=n->IB H->SqL K H a (ns.map V.int)->sp K [.ref a] H (fun v _=>v=.bl true) fun _ _ _=>False) :
  WalkO q loose XP (fun _ h=>∃ K:Frag,obs K=val/\K.In h) l.row.toRowW d [] (fun f vs=>PySem.call f vs):=by
 refine Att.UL hn hdf fun w s0 s1 mg mb fa o pm cd doc a vs ns G Y ho hd hcd hmg hobj hints hlen hg=>?_
 obtain ⟨K,hK,KX⟩:=Y
 obtain ⟨fd,hb,hF⟩:=F w K mg fa _ hK KX G.T.g hmg
 exact Td KX G.T.g G.T.b G.T.builtins G.T.nolimit hg hobj hints (Nat.le_trans hlen hn2) hr hF hb (fun H hO hS=>hsp K H a ns hlen hO hS) fun _ _ _ z=>z
theorem Qg {α:Type} {l:OpenLaw} {q:Program} {loose:List Str} {N:Nat} {obs:Frag->α} {val:α} {d:DefRec} {kwd:List (Str×Expr)} (said:l.row.wellSaid=true)
  (e:opening l.prog=plainProg l.prog.main.scope.names) (hN:Nat.ble 600 N=true) (f:∀ s,fenceModules? l.prog s=some s) (hA:∀ w os,Ka l.prog q loose N w os=some (openGood q loose)) (hB:∀ w os,Ke l.prog N obs w os=some val) (hC:∀ w os,runC l.prog N w os=some true)
  (hdef:defOf q l.name=some (d,kwd)) (hp:l.prog.theDef l.name=some (d.params,d.body,d.scope)) (hk:kwWritten? d.params.kwonlyargs d.params.kw_defaults=some kwd)
  (hwr:(!l.row.writes || l.row.records.isEmpty)=true) (ok:(chainsOk q && opensWell l.prog && (frees l.row.toRowW && l.row.within.isEmpty))=true) (hb:l.prog.bare) (hw:l.row.toRowW.promised)
  (call:WalkO q loose (fun _ _=>True) (fun _ h=>∃ K:Frag,obs K=val/\K.In h) l.row.toRowW d kwd fun f vs=>PySem.call f vs):l.row.Holds:=
 holds_open (r:=l.row) (q:=q) (loose:=loose) (Xt:=fun _=>true) (XP:=fun _ _=>True) (YP:=fun _ h=>∃ K:Frag,obs K=val/\K.In h) (N:=N) (Pe e hN f hA hB hC)
  (fun _ s y=>⟨_,y,M9 s.heap⟩) (fun _ _ _ ⟨K,a,b⟩ k=>⟨K,a,b.keeps k⟩) (fun _ _=>trivial) (fun _ _ _ _ _=>trivial) hdef hp hk (fun _ _=>⟨fun _ z=>(nomatch z),fun _ z=>(nomatch z),fun _ _ _ z=>(nomatch z),fun _ _ z=>(nomatch z)⟩) hwr said ok hb hw call
end HD
namespace DL
open PySem L2 HD PySem.W
def tp (i:Nat):Stmt:=PySem.Challenge.pw_evenlots_k30_even_rows.main.body.getD i (.Pass ⟨0,0,0,0⟩)
def qv:Program:={PySem.Challenge.pw_evenlots_k30_even_rows with main:={PySem.Challenge.pw_evenlots_k30_even_rows.main with body:=[tp 16]}}
def lse:List Str:=(PySem.Challenge.pw_evenlots_k30_even_rows.main.scope.names.map (·.1)).filter fun x=>!(x == "law")
def fns:List (Str×Stmt):=[("_law_pool",tp 11),("_law_draw",tp 12),("_law_rows",tp 13),("names_of_hand",tp 7),("names_plainly",tp 8),("sorted_plainly",tp 9),("stretches_by",tp 2),("even_sizes",tp 1),("even_stretches",tp 3),("even_rows",tp 5),("_law_counted",tp 15),("even_moves",tp 4),("_law_marked",tp 14),("law",tp 16)]
def bls:List Str:=["len","range","isinstance","bool","int","str","list","tuple","zip","enumerate","sorted","max","min","abs","sum","all","any","set"]
def nts:List (Str×Int):=[]
def ob (K:Frag):=(fns.map fun p=>E4 K p.1,bls.map fun x=>nsIn K mainGlobals x,nts.map fun p=>J6 K p.1,())
def vl:List Sn×List (Option (Option Value))×List (Option Int)×Unit:=(fns.map Ew,bls.map fun _=>some none,nts.map fun p=>some p.2,())
def RUA (w:World) (os:OsState):=(topRun treeTable PySem.Challenge.pw_evenlots_k30_even_rows w (boot_heap w.params).objs.size ((boot_heap w.params).nsMap mainGlobals "__annotations__") 100000 ⟨boot_heap w.params,Array.mk [],boot_drawn,boot_toks,os⟩ (topStub PySem.Challenge.pw_evenlots_k30_even_rows)).map fun (s:Shared)=>openSeen qv lse (importedModules PySem.Challenge.pw_evenlots_k30_even_rows.main.body) (fun _=>true) true s
def RUB (w:World) (os:OsState):=(topRun treeTable PySem.Challenge.pw_evenlots_k30_even_rows w (boot_heap w.params).objs.size ((boot_heap w.params).nsMap mainGlobals "__annotations__") 100000 ⟨boot_heap w.params,Array.mk [],boot_drawn,boot_toks,os⟩ (topStub PySem.Challenge.pw_evenlots_k30_even_rows)).map fun (s:Shared)=>ob (FR s.heap)
def RUC (w:World) (os:OsState):=(topRun treeTable PySem.Challenge.pw_evenlots_k30_even_rows w (boot_heap w.params).objs.size ((boot_heap w.params).nsMap mainGlobals "__annotations__") 100000 ⟨boot_heap w.params,Array.mk [],boot_drawn,boot_toks,os⟩ (topStub PySem.Challenge.pw_evenlots_k30_even_rows)).map fun (s:Shared)=>staticsOk (importedModules PySem.Challenge.pw_evenlots_k30_even_rows.main.body) (boot_heap w.params) s.heap && namesBound PySem.Challenge.pw_evenlots_k30_even_rows s.heap && gensDone s && laidKept (boot_heap w.params) s.heap
theorem TC:RUA=fun _ _=>some (openGood qv lse):=by
 have h0:Function.const _ true RUA=true:=by k_qdec
 clear h0
 rw[PySem.W.Fast.te7901502448135333141,PySem.W.Fast.te17113634627043827754,PySem.W.Fast.te11101308186888466343]
 kernel_rfl
theorem Pc:RUB=fun _ _=>some vl:=by
 have h0:Function.const _ true RUB=true:=by k_qdec
 have h1:Function.const _ true vl=true:=by k_qdec
 clear h0 h1
 rw[PySem.W.Fast.te2813855401462900763,PySem.W.Fast.te15028064660855214787]
 kernel_rfl
theorem Sg:RUC=fun _ _=>some true:=by
 have h0:Function.const _ true RUC=true:=by k_qdec
 clear h0
 rw[PySem.W.Fast.te7225883687914735966]
 kernel_rfl
end DL
namespace EvS
open PySem PyProof.Rows
abbrev SM:=StateT SortSt Sem
def gal:Bool->Keyed->Array Keyed->Nat->Nat->Nat->SM (Option Nat):=sortPriv% PySem.Builtin.gallop
def mLo:Array Keyed->Array Keyed->SM (Array Keyed):=sortPriv% PySem.Builtin.mergeLo
def mHi:Array Keyed->Array Keyed->SM (Array Keyed):=sortPriv% PySem.Builtin.mergeHi
abbrev setG (st:SortSt) (g:Nat):SortSt:=SortSt.mk' (kindOf st) (arrOf st) (pendingOf st) g (failedOf st)
def byd (left:Bool) (key:Keyed) (xs:Array Keyed) (b i:Nat):SM (Option Bool):=do
 let x <-elem' xs (b+i)
 if left then lt' x key else return (<-lt' key x).map (!·)
def KS (left:Bool) (key:Keyed) (xs:Array Keyed) (b n lo0 hi0:Nat):SM (Option Nat):=do
 let mut lo:=lo0
 let mut hi:=hi0
 for _ in [0:n] do
  if lo>=hi then break
  let m:=lo+(hi - lo) / 2
  let some mo <-byd left key xs b m | return none
  if mo then lo:=m+1 else hi:=m
 return some hi
theorem Tr (left:Bool) (key:Keyed) (xs:Array Keyed) (b n h:Nat):gal left key xs b n h=(do
 let mut la:=0
 let mut of:=1
 let mut lo:=0
 let mut hi:=0
 let some right <-byd left key xs b h | return none
 if right then
  let mx:=n - h
  for _ in [0:n] do
   if of>=mx then break
   let some mo <-byd left key xs b (h+of) | return none
   if !mo then break
   la:=of
   of:=2 * of+1
  lo:=h+la+1
  hi:=h+min of mx
 else
  let mx:=h+1
  for _ in [0:n] do
   if of>=mx then break
   let some fo <-byd left key xs b (h - of) | return none
   if fo then break
   la:=of
   of:=2 * of+1
  lo:=h+1 - min of mx
  hi:=h - la
 for _ in [0:n] do
  if lo>=hi then break
  let m:=lo+(hi - lo) / 2
  let some mo <-byd left key xs b m | return none
  if mo then lo:=m+1 else hi:=m
 return some hi):=rfl
structure Cmp (prog:Program) (w:World) (A:Around) (E:Value->Shared->Prop) (s:Shared) (kd:SortKind) (good:Keyed->Prop) (lt:Keyed->Keyed->Bool):Prop where
 run:∀ {st:SortSt} {x y:Keyed} {Q:Option Bool->SortSt->Prop},kindOf st=kd->good x->good y->Q (some (lt x y)) st->wpS (model prog w) A E s (lt' x y) Q st
def bq (lt:Keyed->Keyed->Bool) (left:Bool) (key x:Keyed):Bool:=if left then lt x key else !lt key x
section
variable {prog:Program} {w:World} {A:Around} {E:Value->Shared->Prop} {s:Shared} {kd:SortKind} {good:Keyed->Prop} {lt:Keyed->Keyed->Bool} {st:SortSt}
theorem A4 {xs:Array Keyed} {i:Nat} {x:Keyed} {Q:Keyed->SortSt->Prop} (hx:xs[i]?=some x) (h:Q x st):wpS (model prog w) A E s (elem' xs i) Q st:=by
 rw[elem'_eq,hx]
 exact wpS_pure h
theorem GI (C:Cmp prog w A E s kd good lt) {left:Bool} {key x:Keyed} {xs:Array Keyed} {b i:Nat} {Q:Option Bool->SortSt->Prop} (hk:kindOf st=kd) (hg:good key) (hx:xs[b+i]?=some x) (hgx:good x)
  (h:Q (some (bq lt left key x)) st):wpS (model prog w) A E s (byd left key xs b i) Q st:=by
 unfold byd
 refine wpS_bind (A4 hx ?_)
 cases left with
 | true=>
  simp only[if_true]
  exact C.run hk hgx hg h
 | false=>
  simp only[Bool.false_eq_true,if_false]
  exact wpS_bind (C.run hk hg hgx (wpS_pure h))
variable {left:Bool} {key:Keyed} {xs:Array Keyed} {b n:Nat} {B:Nat->Bool} {Q:Option Nat->SortSt->Prop}
theorem MB (C:Cmp prog w A E s kd good lt) (hk:kindOf st=kd) (hg:good key) (hall:∀ i,i<n->∃ x,xs[b+i]?=some x/\good x/\bq lt left key x=B i)
  (hB:∀ i j,i<=j->j<n->B j=true->B i=true) {lo hi:Nat} (h1:lo<=hi) (h2:hi<=n) (hlo:∀ i,i<lo->B i=true) (hhi:∀ i,hi<=i->i<n->B i=false)
  (hQ:∀ k,k<=n->(∀ i,i<k->B i=true)->(∀ i,k<=i->i<n->B i=false)->Q (some k) st):wpS (model prog w) A E s (KS left key xs b n lo hi) Q st:=by
 unfold KS
 refine wpS_bind (wpS_mono (wpS_forRange (I:=fun x c st'=>st'=st/\∃ l r,c=(none,l,r)/\l<=r/\r<=n/\r - l<=n - x/\(∀ i,i<l->B i=true)/\(∀ i,r<=i->i<n->B i=false))
  (Q:=fun c st'=>st'=st/\∃ r,c.1=none/\c.2.2=r/\r<=n/\(∀ i,i<r->B i=true)/\(∀ i,r<=i->i<n->B i=false)) ?step ?fin ⟨rfl,lo,hi,rfl,h1,h2,by lia,hlo,hhi⟩) ?post)
 case fin=>
  rintro c st' ⟨rfl,l,r,rfl,a1,a2,a3,a4,a5⟩
  have:l=r:=by lia
  subst this
  exact ⟨rfl,l,rfl,rfl,a2,a4,a5⟩
 case step=>
  rintro x c st' _ hx ⟨rfl,l,r,rfl,a1,a2,a3,a4,a5⟩
  dsimp only
  by_cases hge:l>=r
  ·rw[if_pos hge]
   have:l=r:=by lia
   subst this
   exact wpS_pure ⟨rfl,l,rfl,rfl,a2,a4,a5⟩
  ·rw[if_neg hge]
   obtain ⟨y,e1,e2,e3⟩:=hall (l+(r - l) / 2) (by lia)
   refine wpS_bind (GI C hk hg e1 e2 ?_)
   rw[e3]
   cases hb:B (l+(r - l) / 2) with
   | true=>
    simp only[if_true]
    refine wpS_pure ⟨rfl,_,r,rfl,by lia,a2,by lia,fun i hi=>?_,a5⟩
    exact hB i (l+(r - l) / 2) (by lia) (by lia) hb
   | false=>
    simp only[Bool.false_eq_true,if_false]
    refine wpS_pure ⟨rfl,l,_,rfl,by lia,by lia,by lia,a4,fun i hi1 hi2=>?_⟩
    cases hbi:B i with
    | false=>rfl
    | true=>rw[hB _ i hi1 hi2 hbi] at hb;cases hb
 case post=>
  rintro ⟨c1,c2,c3⟩ st' ⟨rfl,r,e1,e2,a2,a4,a5⟩
  dsimp only at e1 e2
  subst e1 e2
  exact wpS_pure (hQ _ a2 a4 a5)
theorem RQ (C:Cmp prog w A E s kd good lt) (hk:kindOf st=kd) (hg:good key) (hall:∀ i,i<n->∃ x,xs[b+i]?=some x/\good x/\bq lt left key x=B i)
  (hB:∀ i j,i<=j->j<n->B j=true->B i=true) {h:Nat} (hh:h<n)
  (hQ:∀ k,k<=n->(∀ i,i<k->B i=true)->(∀ i,k<=i->i<n->B i=false)->Q (some k) st):wpS (model prog w) A E s (gal left key xs b n h) Q st:=by
 rw[Tr]
 dsimp only
 have hF:∀ i j,i<=j->j<n->B i=false->B j=false:=fun i j h1 h2 h3=>by
  cases hbj:B j with
  | false=>rfl
  | true=>rw[hB i j h1 h2 hbj] at h3;cases h3
 obtain ⟨y,e1,e2,e3⟩:=hall h hh
 refine wpS_bind (GI C hk hg e1 e2 ?_)
 rw[e3]
 cases hbh:B h with
 | true=>
  simp only[if_true]
  refine wpS_bind (wpS_mono (wpS_forRange (I:=fun x c st'=>st'=st/\∃ la of,c=(none,la,of)/\la<of/\x+1<=of/\h+la<n/\B (h+la)=true)
   (Q:=fun c st'=>st'=st/\∃ la of,c=(none,la,of)/\la<of/\h+la<n/\B (h+la)=true/\(n - h<=of\/(h+of<n/\B (h+of)=false))) ?step ?fin ⟨rfl,0,1,rfl,by lia,by lia,by lia,hbh⟩) ?post)
  case fin=>
   rintro c st' ⟨rfl,la,of,rfl,a1,a2,a3,a4⟩
   exact ⟨rfl,la,of,rfl,a1,a3,a4,.inl (by lia)⟩
  case step=>
   rintro x c st' _ hx ⟨rfl,la,of,rfl,a1,a2,a3,a4⟩
   dsimp only
   by_cases hge:of>=n - h
   ·rw[if_pos hge]
    exact wpS_pure ⟨rfl,la,of,rfl,a1,a3,a4,.inl hge⟩
   ·rw[if_neg hge]
    obtain ⟨z,f1,f2,f3⟩:=hall (h+of) (by lia)
    refine wpS_bind (GI C hk hg f1 f2 ?_)
    rw[f3]
    cases hb:B (h+of) with
    | true=>
     simp only[Bool.not_true,Bool.false_eq_true,if_false]
     exact wpS_pure ⟨rfl,of,2 * of+1,rfl,by lia,by lia,by lia,hb⟩
    | false=>
     simp only[Bool.not_false,if_true]
     exact wpS_pure ⟨rfl,la,of,rfl,a1,a3,a4,.inr ⟨by lia,hb⟩⟩
  case post=>
   rintro c st' ⟨rfl,la,of,rfl,a1,a3,a4,a5⟩
   dsimp only
   refine MB (lo:=h+la+1) (hi:=h+min of (n - h)) C hk hg hall hB (by lia) (by lia) (fun i hi=>hB i (h+la) (by lia) a3 a4) (fun i h1 h2=>?_) hQ
   rcases a5 with z | ⟨z1,z2⟩
   ·lia
   ·exact hF (h+of) i (by lia) h2 z2
 | false=>
  simp only[Bool.false_eq_true,if_false]
  refine wpS_bind (wpS_mono (wpS_forRange (I:=fun x c st'=>st'=st/\∃ la of,c=(none,la,of)/\la<of/\x+1<=of/\la<=h/\B (h - la)=false)
   (Q:=fun c st'=>st'=st/\∃ la of,c=(none,la,of)/\la<of/\la<=h/\B (h - la)=false/\(h+1<=of\/(of<=h/\B (h - of)=true))) ?step ?fin ⟨rfl,0,1,rfl,by lia,by lia,by lia,hbh⟩) ?post)
  case fin=>
   rintro c st' ⟨rfl,la,of,rfl,a1,a2,a3,a4⟩
   exact ⟨rfl,la,of,rfl,a1,a3,a4,.inl (by lia)⟩
  case step=>
   rintro x c st' _ hx ⟨rfl,la,of,rfl,a1,a2,a3,a4⟩
   dsimp only
   by_cases hge:of>=h+1
   ·rw[if_pos hge]
    exact wpS_pure ⟨rfl,la,of,rfl,a1,a3,a4,.inl hge⟩
   ·rw[if_neg hge]
    obtain ⟨z,f1,f2,f3⟩:=hall (h - of) (by lia)
    refine wpS_bind (GI C hk hg f1 f2 ?_)
    rw[f3]
    cases hb:B (h - of) with
    | true=>
     simp only[if_true]
     exact wpS_pure ⟨rfl,la,of,rfl,a1,a3,a4,.inr ⟨by lia,hb⟩⟩
    | false=>
     simp only[Bool.false_eq_true,if_false]
     exact wpS_pure ⟨rfl,of,2 * of+1,rfl,by lia,by lia,by lia,hb⟩
  case post=>
   rintro c st' ⟨rfl,la,of,rfl,a1,a3,a4,a5⟩
   dsimp only
   refine MB (lo:=h+1 - min of (h+1)) (hi:=h - la) C hk hg hall hB (by lia) (by lia) (fun i hi=>?_) (fun i h1 h2=>hF (h - la) i h1 h2 a4) hQ
   rcases a5 with z | ⟨z1,z2⟩
   ·lia
   ·exact hB i (h - of) (by lia) (by lia) z2
end
def Co:Nat->SM Unit:=sortPriv% PySem.Builtin.setMinGallop
theorem Fq (g:Nat):Co g=modify fun s=>setG s g:=rfl
abbrev dnA (a b o:Array Keyed) (p q:Nat):Array Keyed:=o++a.extract p a.size++b.extract q b.size
abbrev lAA (a b o:Array Keyed) (p q:Nat):Array Keyed:=o++b.extract q b.size++a.extract p a.size
theorem Of (a b:Array Keyed):mLo a b=(do
 rule "list.sort.merge-lo"
 let mut o:Array Keyed:=#[<-elem' b 0]
 let mut p:=0
 let mut q:=1
 if q == b.size then return dnA a b o p q
 if p+1 == a.size then return lAA a b o p q
 let mut mg:=gallopOf (<-get)
 for _ in [0:a.size+b.size] do
  let mut ac:=0
  let mut bc:=0
  for _ in [0:a.size+b.size] do
   let some bw <-lt' (<-elem' b q) (<-elem' a p) | return dnA a b o p q
   if bw then
    o:=o.push (<-elem' b q);q:=q+1;bc:=bc+1;ac:=0
    if q == b.size then return dnA a b o p q
    if bc>=mg then break
   else
    o:=o.push (<-elem' a p);p:=p+1;ac:=ac+1;bc:=0
    if p+1 == a.size then return lAA a b o p q
    if ac>=mg then break
  rule "list.sort.gallop"
  mg:=mg+1
  for _ in [0:a.size+b.size] do
   if mg > 1 then mg:=mg - 1
   Co mg
   let some k <-gal false (<-elem' b q) a p (a.size - p) 0 | return dnA a b o p q
   ac:=k
   if k > 0 then
    o:=o++a.extract p (p+k);p:=p+k
    if p+1 == a.size then return lAA a b o p q
    if p == a.size then return dnA a b o p q
   o:=o.push (<-elem' b q);q:=q+1
   if q == b.size then return dnA a b o p q
   let some k <-gal true (<-elem' a p) b q (b.size - q) 0 | return dnA a b o p q
   bc:=k
   if k > 0 then
    o:=o++b.extract q (q+k);q:=q+k
    if q == b.size then return dnA a b o p q
   o:=o.push (<-elem' a p);p:=p+1
   if p+1 == a.size then return lAA a b o p q
   if ac<7 && bc<7 then break
  mg:=mg+1
  Co mg
 unsupported "internal:list.sort.merge-bound"):=rfl
structure Ord (good:Keyed->Prop) (lt:Keyed->Keyed->Bool):Prop where
 tr:∀ {x y z},good x->good y->good z->lt y x=false->lt z y=false->lt z x=false
 tot:∀ {x y},good x->good y->lt x y=true->lt y x=false
abbrev LE (lt:Keyed->Keyed->Bool) (x y:Keyed):Prop:=lt y x=false
structure SL (good:Keyed->Prop) (lt:Keyed->Keyed->Bool) (l:List Keyed):Prop where
 all:∀ x∈l,good x
 srt:l.Pairwise (LE lt)
structure MI (good:Keyed->Prop) (lt:Keyed->Keyed->Bool) (a b o:List Keyed) (p q:Nat):Prop where
 perm:(o++(a.drop p++b.drop q)).Perm (a++b)
 srt:o.Pairwise (LE lt)
 low:∀ x∈o,∀ y∈a.drop p++b.drop q,LE lt x y
 pa:p<=a.length
 qb:q<=b.length
section
variable {good:Keyed->Prop} {lt:Keyed->Keyed->Bool} {a b o:List Keyed} {p q k:Nat} {x:Keyed}
theorem MI.size (m:MI good lt a b o p q):o.length=p+q:=by
 have e:=m.perm.length_eq
 have:=m.pa
 have:=m.qb
 rw[List.length_append,List.length_append,List.length_append,List.length_drop,List.length_drop] at e
 lia
theorem D3 {l:List Keyed} {i:Nat} (h:l[i]?=some x):l.drop i=x::l.drop (i+1):=by
 obtain ⟨hi,e⟩:=List.getElem?_eq_some_iff.mp h
 rw[List.drop_eq_getElem_cons hi,e]
theorem SL.from (s:SL good lt a) {i:Nat} (h:a[i]?=some x):∀ y∈a.drop i,y=x\/LE lt x y:=fun y hy=>by
 rw[D3 h] at hy
 rcases List.mem_cons.mp hy with z | z
 ·exact .inl z
 ·have hp:(a.drop i).Pairwise (LE lt):=s.srt.sublist (List.drop_sublist _ _)
  rw[D3 h] at hp
  exact .inr ((List.pairwise_cons.mp hp).1 y z)
theorem SL.up (s:SL good lt a) {i j:Nat} {y:Keyed} (h:a[i]?=some x) (h':a[j]?=some y) (hij:i<j):LE lt x y:=by
 obtain ⟨hi,e⟩:=List.getElem?_eq_some_iff.mp h
 obtain ⟨hj,e'⟩:=List.getElem?_eq_some_iff.mp h'
 rw[<-e,<-e']
 exact List.pairwise_iff_getElem.mp s.srt i j hi hj hij
theorem SL.good_at (s:SL good lt a) {i:Nat} (h:a[i]?=some x):good x:=s.all x (List.mem_of_getElem? h)
theorem MI.pushA (m:MI good lt a b o p q) (sa:SL good lt a) (h:a[p]?=some x) (hb:∀ y∈b.drop q,LE lt x y):MI good lt a b (o++[x]) (p+1) q:=by
 have hd:=D3 h
 obtain ⟨hp,_⟩:=List.getElem?_eq_some_iff.mp h
 refine ⟨?_,?_,?_,hp,m.qb⟩
 ·have e:=m.perm
  rw[hd] at e
  simpa [List.append_assoc] using e
 ·refine List.pairwise_append.mpr ⟨m.srt,List.pairwise_singleton _ _,fun y hy z hz=>?_⟩
  rw[List.mem_singleton] at hz
  subst hz
  exact m.low y hy z (by rw[hd];simp)
 ·intro y hy z hz
  rcases List.mem_append.mp hy with hy | hy
  ·exact m.low y hy z (by rw[hd];rcases List.mem_append.mp hz with w | w<;>simp[w])
  ·rw[List.mem_singleton] at hy
   subst hy
   rcases List.mem_append.mp hz with w | w
   ·have hp2:(a.drop p).Pairwise (LE lt):=sa.srt.sublist (List.drop_sublist _ _)
    rw[hd] at hp2
    exact (List.pairwise_cons.mp hp2).1 z w
   ·exact hb z w
theorem MI.pushB (m:MI good lt a b o p q) (sb:SL good lt b) (h:b[q]?=some x) (ha:∀ y∈a.drop p,LE lt x y):MI good lt a b (o++[x]) p (q+1):=by
 have hd:=D3 h
 obtain ⟨hq,_⟩:=List.getElem?_eq_some_iff.mp h
 refine ⟨?_,?_,?_,m.pa,hq⟩
 ·have e:=m.perm
  rw[hd] at e
  refine List.Perm.trans ?_ e
  rw[List.append_assoc]
  refine List.Perm.append_left _ ?_
  show (x::(a.drop p++b.drop (q+1))).Perm (a.drop p++x::b.drop (q+1))
  exact List.perm_middle.symm
 ·refine List.pairwise_append.mpr ⟨m.srt,List.pairwise_singleton _ _,fun y hy z hz=>?_⟩
  rw[List.mem_singleton] at hz
  subst hz
  exact m.low y hy z (by rw[hd];simp)
 ·intro y hy z hz
  rcases List.mem_append.mp hy with hy | hy
  ·exact m.low y hy z (by rw[hd];rcases List.mem_append.mp hz with w | w<;>simp[w])
  ·rw[List.mem_singleton] at hy
   subst hy
   rcases List.mem_append.mp hz with w | w
   ·exact ha z w
   ·have hp2:(b.drop q).Pairwise (LE lt):=sb.srt.sublist (List.drop_sublist _ _)
    rw[hd] at hp2
    exact (List.pairwise_cons.mp hp2).1 z w
theorem MK {l:List Keyed} {i k:Nat} {x:Keyed} (h:l[i+k]?=some x):(l.drop i).take (k+1)=(l.drop i).take k++[x]:=by
 rw[List.take_add_one,List.getElem?_drop,h]
 rfl
theorem MI.blockA (m:MI good lt a b o p q) (sa:SL good lt a):∀ k,p+k<=a.length->(∀ i y,i<k->a[p+i]?=some y->∀ z∈b.drop q,LE lt y z)->MI good lt a b (o++(a.drop p).take k) (p+k) q
 | 0,_,_=>by simpa using m
 | k+1,hk,h=>by
  have ih:=MI.blockA m sa k (by lia) fun i y hi=>h i y (by lia)
  have e:a[p+k]?=some a[p+k]:=List.getElem?_eq_getElem (by lia)
  have r:=ih.pushA sa e (h k _ (by lia) e)
  rw[List.append_assoc,<-MK e] at r
  exact r
theorem MI.blockB (m:MI good lt a b o p q) (sb:SL good lt b):∀ k,q+k<=b.length->(∀ i y,i<k->b[q+i]?=some y->∀ z∈a.drop p,LE lt y z)->MI good lt a b (o++(b.drop q).take k) p (q+k)
 | 0,_,_=>by simpa using m
 | k+1,hk,h=>by
  have ih:=MI.blockB m sb k (by lia) fun i y hi=>h i y (by lia)
  have e:b[q+k]?=some b[q+k]:=List.getElem?_eq_getElem (by lia)
  have r:=ih.pushB sb e (h k _ (by lia) e)
  rw[List.append_assoc,<-MK e] at r
  exact r
def Good (lt:Keyed->Keyed->Bool) (a b:List Keyed) (r:List Keyed):Prop:=r.Perm (a++b)/\r.Pairwise (LE lt)
theorem MI.done (m:MI good lt a b o p q) (sa:SL good lt a) (sb:SL good lt b) (h:a.drop p=[]\/b.drop q=[]):Good lt a b (o++a.drop p++b.drop q):=by
 refine ⟨by rw[List.append_assoc];exact m.perm,?_⟩
 rw[List.append_assoc]
 refine List.pairwise_append.mpr ⟨m.srt,?_,m.low⟩
 rcases h with h | h
 ·rw[h,List.nil_append];exact sb.srt.sublist (List.drop_sublist _ _)
 ·rw[h,List.append_nil];exact sa.srt.sublist (List.drop_sublist _ _)
theorem MI.last (m:MI good lt a b o p q) (sb:SL good lt b) (h:a[p]?=some x) (hp:p+1=a.length) (hx:∀ y∈b,LE lt y x):Good lt a b (o++b.drop q++a.drop p):=by
 have hd:a.drop p=[x]:=by rw[D3 h,List.drop_eq_nil_of_le (by lia)]
 constructor
 ·refine List.Perm.trans ?_ m.perm
  rw[List.append_assoc]
  exact List.Perm.append_left _ List.perm_append_comm
 ·rw[List.append_assoc]
  refine List.pairwise_append.mpr ⟨m.srt,?_,fun y hy z hz=>m.low y hy z (by rcases List.mem_append.mp hz with w | w<;>simp[w])⟩
  refine List.pairwise_append.mpr ⟨sb.srt.sublist (List.drop_sublist _ _),by rw[hd];exact List.pairwise_singleton _ _,fun y hy z hz=>?_⟩
  rw[hd,List.mem_singleton] at hz
  subst hz
  exact hx y (List.mem_of_mem_drop hy)
end
structure SG (st st':SortSt):Prop where
 kind:kindOf st'=kindOf st
 arr:arrOf st'=arrOf st
 pend:pendingOf st'=pendingOf st
 fail:failedOf st'=failedOf st
theorem SG.refl (st:SortSt):SG st st:=⟨rfl,rfl,rfl,rfl⟩
theorem SG.setG {st st':SortSt} (h:SG st st') (g:Nat):SG st (setG st' g):=⟨h.kind,h.arr,h.pend,h.fail⟩
theorem E5 (xs:Array Keyed) (i:Nat):(xs.extract i xs.size).toList=xs.toList.drop i:=by
 rw[Array.toList_extract]
 exact List.take_of_length_le (by rw[List.length_drop,Array.length_toList];exact Nat.le_refl _)
theorem Jc (xs:Array Keyed) (i k:Nat):(xs.extract i (i+k)).toList=(xs.toList.drop i).take k:=by simp[List.extract]
abbrev LoS:=Option (Array Keyed)×Array Keyed×Nat×Nat×Nat×Nat×Nat
def GJ (a b:Array Keyed) (p mg ac bc:Nat) (o:Array Keyed) (q:Nat):SM (ForInStep LoS):=do
 let x <-elem' a p
 if (p+1+1 == a.size)=true then pure (.done (some (lAA a b (o.push x) (p+1) q),o.push x,p+1,q,mg,ac,bc))
 else if (decide (ac<7) && decide (bc<7))=true then pure (.done (none,o.push x,p+1,q,mg,ac,bc))
 else pure (.yield (none,o.push x,p+1,q,mg,ac,bc))
def GD (a b:Array Keyed) (q mg ac bc:Nat) (o:Array Keyed) (p:Nat):SM (ForInStep LoS):=do
 let x <-elem' b q
 if (q+1 == b.size)=true then pure (.done (some (dnA a b (o.push x) p (q+1)),o.push x,p,q+1,mg,ac,bc))
 else do
  let y <-elem' a p
  let r <-gal true y b (q+1) (b.size - (q+1)) 0
  match r with
  | some k=>
   if k > 0 then
    if (q+1+k == b.size)=true then pure (.done (some (dnA a b (o.push x++b.extract (q+1) (q+1+k)) p (q+1+k)),o.push x++b.extract (q+1) (q+1+k),p,q+1+k,mg,ac,k))
    else GJ a b p mg ac k (o.push x++b.extract (q+1) (q+1+k)) (q+1+k)
   else GJ a b p mg ac k (o.push x) (q+1)
  | _=>pure (.done (some (dnA a b (o.push x) p (q+1)),o.push x,p,q+1,mg,ac,bc))
def FG (a b:Array Keyed) (q ac bc:Nat) (o:Array Keyed) (p mg:Nat):SM (ForInStep LoS):=do
 Co mg
 let x <-elem' b q
 let r <-gal false x a p (a.size - p) 0
 match r with
 | some k=>
  if k > 0 then
   if (p+k+1 == a.size)=true then pure (.done (some (lAA a b (o++a.extract p (p+k)) (p+k) q),o++a.extract p (p+k),p+k,q,mg,k,bc))
   else if (p+k == a.size)=true then pure (.done (some (dnA a b (o++a.extract p (p+k)) (p+k) q),o++a.extract p (p+k),p+k,q,mg,k,bc))
   else GD a b q mg k bc (o++a.extract p (p+k)) (p+k)
  else GD a b q mg k bc o p
 | _=>pure (.done (some (dnA a b o p q),o,p,q,mg,ac,bc))
def loG (a b o:Array Keyed) (p q mg ac bc:Nat):SM (ForInStep LoS):=if mg > 1 then FG a b q ac bc o p (mg - 1) else FG a b q ac bc o p mg
abbrev LoI:=Option (Array Keyed)×Array Keyed×Nat×Nat×Nat×Nat
abbrev LoO:=Option (Array Keyed)×Array Keyed×Nat×Nat×Nat
def loI (a b:Array Keyed) (mg:Nat) (o:Array Keyed) (p q ac bc:Nat):SM (ForInStep LoI):=do
 let y <-elem' b q
 let x <-elem' a p
 let r <-lt' y x
 match r with
 | some bw=>
  if bw=true then do
   let z <-elem' b q
   if (q+1 == b.size)=true then pure (.done (some (dnA a b (o.push z) p (q+1)),o.push z,p,q+1,0,bc+1))
   else if bc+1>=mg then pure (.done (none,o.push z,p,q+1,0,bc+1)) else pure (.yield (none,o.push z,p,q+1,0,bc+1))
  else do
   let z <-elem' a p
   if (p+1+1 == a.size)=true then pure (.done (some (lAA a b (o.push z) (p+1) q),o.push z,p+1,q,ac+1,0))
   else if ac+1>=mg then pure (.done (none,o.push z,p+1,q,ac+1,0)) else pure (.yield (none,o.push z,p+1,q,ac+1,0))
 | _=>pure (.done (some (dnA a b o p q),o,p,q,ac,bc))
def loO (a b o:Array Keyed) (p q mg:Nat):SM (ForInStep LoO):=do
 let s <-forIn [0:a.size+b.size] ((none,o,p,q,0,0):LoI) fun _ c=>loI a b mg c.2.1 c.2.2.1 c.2.2.2.1 c.2.2.2.2.1 c.2.2.2.2.2
 match s.1 with
 | some r=>pure (.done (some r,s.2.1,s.2.2.1,s.2.2.2.1,mg))
 | none=>do
  rule "list.sort.gallop"
  let t <-forIn [0:a.size+b.size] ((none,s.2.1,s.2.2.1,s.2.2.2.1,mg+1,s.2.2.2.2.1,s.2.2.2.2.2):LoS) fun _ c=>loG a b c.2.1 c.2.2.1 c.2.2.2.1 c.2.2.2.2.1 c.2.2.2.2.2.1 c.2.2.2.2.2.2
  match t.1 with
  | some r=>pure (.done (some r,t.2.1,t.2.2.1,t.2.2.2.1,t.2.2.2.2.1))
  | none=>do
   Co (t.2.2.2.2.1+1)
   pure (.yield (none,t.2.1,t.2.2.1,t.2.2.2.1,t.2.2.2.2.1+1))
def GX (a b:Array Keyed):SM (Array Keyed):=do
 rule "list.sort.merge-lo"
 let x <-elem' b 0
 if (1 == b.size)=true then pure (dnA a b #[x] 0 1)
 else if (0+1 == a.size)=true then pure (lAA a b #[x] 0 1)
 else do
  let st <-get
  let s <-forIn [0:a.size+b.size] ((none,#[x],0,1,gallopOf st):LoO) fun _ c=>loO a b c.2.1 c.2.2.1 c.2.2.2.1 c.2.2.2.2
  match s.1 with
  | some r=>pure r
  | none=>unsupported "internal:list.sort.merge-bound"
theorem N3 (a b:Array Keyed):mLo a b=GX a b:=by
 rw[Of]
 unfold GX
 refine congrArg (fun k=>(liftM (rule "list.sort.merge-lo"):SM _) >>= k) (funext fun _=>?_)
 refine congrArg (fun k=>elem' b 0 >>= k) (funext fun x=>?_)
 dsimp only
 refine congrArg (fun k=>ite _ _ (ite _ _ k)) ?_
 refine congrArg (fun k=>get >>= k) (funext fun st=>?_)
 refine congr (congrArg (fun f k=>forIn _ _ f >>= k) (funext fun _=>funext fun c=>?_)) (funext fun s=>?_)
 ·unfold loO
  refine congr (congrArg (fun f k=>forIn _ _ f >>= k) (funext fun _=>funext fun d=>?_)) (funext fun s=>?_)
  ·unfold loI
   rfl
  ·cases h:s.1 with
   | some r=>rfl
   | none=>
    refine congrArg (fun k=>(liftM (rule "list.sort.gallop"):SM _) >>= k) (funext fun _=>?_)
    refine congr (congrArg (fun f k=>forIn _ _ f >>= k) (funext fun _=>funext fun d=>?_)) (funext fun t=>?_)
    ·rfl
    ·cases t.1<;>rfl
 ·cases s.1<;>rfl
section
variable {prog:Program} {w:World} {A:Around} {E:Value->Shared->Prop} {s:Shared} {kd:SortKind} {good:Keyed->Prop} {lt:Keyed->Keyed->Bool} {st:SortSt} {a b:Array Keyed} {Q:Array Keyed->SortSt->Prop}
theorem at_of {xs:Array Keyed} {i:Nat} (h:i<xs.size):xs[i]?=some xs[i]/\xs.toList[i]?=some xs[i]:=⟨Array.getElem?_eq_getElem h,by simp[h]⟩
theorem EB (C:Cmp prog w A E s kd good lt) (O:Ord good lt) (hk:kindOf st=kd) {left:Bool} {key:Keyed} {xs:Array Keyed} {bs n h:Nat} {Q:Option Nat->SortSt->Prop} (hg:good key) (hn:bs+n<=xs.size)
  (hgs:∀ i,i<n->∀ x,xs.toList[bs+i]?=some x->good x) (hsrt:∀ i j x y,i<j->j<n->xs.toList[bs+i]?=some x->xs.toList[bs+j]?=some y->LE lt x y) (hh:h<n)
  (hQ:∀ k,k<=n->(∀ i x,i<k->xs.toList[bs+i]?=some x->LE lt x key)->(∀ i x,k<=i->i<n->xs.toList[bs+i]?=some x->LE lt key x)->Q (some k) st):wpS (model prog w) A E s (gal left key xs bs n h) Q st:=by
 refine RQ (B:=fun i=>bq lt left key (xs[bs+i]?.getD key)) C hk hg (fun i hi=>?_) (fun i j hij hj hb=>?_) hh fun k k1 k2 k3=>hQ k k1 (fun i x hi hx=>?_) fun i x hi1 hi2 hx=>?_
 ·obtain ⟨e,l⟩:=at_of (xs:=xs) (i:=bs+i) (by lia)
  exact ⟨_,e,hgs i hi _ l,by rw[e];rfl⟩
 ·obtain ⟨e1,l1⟩:=at_of (xs:=xs) (i:=bs+i) (by lia)
  obtain ⟨e2,l2⟩:=at_of (xs:=xs) (i:=bs+j) (by lia)
  rw[e1,Option.getD_some]
  rw[e2,Option.getD_some] at hb
  by_cases hh:i=j
  ·subst hh;exact hb
  have hs:=hsrt i j _ _ (by lia) hj l1 l2
  have g1:=hgs i (by lia) _ l1
  have g2:=hgs j hj _ l2
  cases left with
  | true=>
   have hb':lt xs[bs+j] key=true:=hb
   show lt xs[bs+i] key=true
   cases q:lt xs[bs+i] key with
   | true=>rfl
   | false=>
    have:=O.tr hg g1 g2 q hs
    rw[hb'] at this
    cases this
  | false=>
   have hb':(!lt key xs[bs+j])=true:=hb
   show (!lt key xs[bs+i])=true
   rw[Bool.not_eq_true'] at hb' ⊢
   exact O.tr g1 g2 hg hs hb'
 ·have hlt:bs+i<xs.size:=by
   have:=(List.getElem?_eq_some_iff.mp hx).1
   simpa using this
  obtain ⟨e,l⟩:=at_of hlt
  rw[l] at hx
  have z:=k2 i hi
  rw[e,Option.getD_some] at z
  have hx':xs[bs+i]=x:=Option.some.inj hx
  rw[hx'] at z l
  have gx:=hgs i (by lia) _ l
  cases left with
  | true=>exact O.tot gx hg z
  | false=>
   have z':(!lt key x)=true:=z
   rwa [Bool.not_eq_true'] at z'
 ·have hlt:bs+i<xs.size:=by lia
  obtain ⟨e,l⟩:=at_of hlt
  rw[l] at hx
  have z:=k3 i hi1 hi2
  rw[e,Option.getD_some] at z
  have hx':xs[bs+i]=x:=Option.some.inj hx
  rw[hx'] at z l
  have gx:=hgs i hi2 _ l
  cases left with
  | true=>exact z
  | false=>
   have z':(!lt key x)=false:=z
   rw[Bool.not_eq_false'] at z'
   exact O.tot hg gx z'
theorem LF {l:List Keyed} {i:Nat} {z:Keyed} (h:z∈l.drop i):∃ j,l[i+j]?=some z:=by
 obtain ⟨j,hj⟩:=List.mem_iff_getElem?.mp h
 exact ⟨j,by rw[<-List.getElem?_drop];exact hj⟩
theorem Ce {l:List Keyed} {i:Nat} {z:Keyed} (h:l[i]?=some z):i<l.length:=(List.getElem?_eq_some_iff.mp h).1
structure LoL (good:Keyed->Prop) (lt:Keyed->Keyed->Bool) (a b:Array Keyed):Prop where
 sa:SL good lt a.toList
 sb:SL good lt b.toList
 lowB:∀ {p q:Nat} {x y:Keyed},a.toList[p]?=some x->b.toList[q]?=some y->LE lt y x->∀ z∈a.toList.drop p,LE lt y z
 lowA:∀ {p q:Nat} {x y:Keyed},a.toList[p]?=some x->b.toList[q]?=some y->LE lt x y->∀ z∈b.toList.drop q,LE lt x z
structure LoR (good:Keyed->Prop) (lt:Keyed->Keyed->Bool) (a b:Array Keyed) (n:Nat) (R:ForInStep LoS->SortSt->Prop) (st:SortSt):Prop where
 fin:∀ {o:Array Keyed} {p q:Nat} {z},MI good lt a.toList b.toList o.toList p q->(p=a.size\/q=b.size)->R (.done (some (dnA a b o p q),z)) st
 las:∀ {o:Array Keyed} {p q:Nat} {z},MI good lt a.toList b.toList o.toList p q->p+1=a.size->R (.done (some (lAA a b o p q),z)) st
 don:∀ {o:Array Keyed} {p q mg ac bc:Nat},MI good lt a.toList b.toList o.toList p q->p+1<a.size->q<b.size->n<=o.size->R (.done (none,o,p,q,mg,ac,bc)) st
 yie:∀ {o:Array Keyed} {p q mg ac bc:Nat},MI good lt a.toList b.toList o.toList p q->p+1<a.size->q<b.size->n<=o.size->R (.yield (none,o,p,q,mg,ac,bc)) st
theorem Bg {i j:Nat} (h:¬(i == j)=true):¬i=j:=fun z=>h (by rw[z];simp)
theorem JX {R:ForInStep LoS->SortSt->Prop} {n p q mg ac bc:Nat} {o:Array Keyed} (L:LoR good lt a b n R st) (sa:SL good lt a.toList) (hp:p+1<a.size) {x:Keyed} (ex:a[p]?=some x) (lx:a.toList[p]?=some x)
  (m:MI good lt a.toList b.toList o.toList p q) (al:∀ z∈b.toList.drop q,LE lt x z) (hq:q<b.size) (hn:n<=o.size):wpS (model prog w) A E s (GJ a b p mg ac bc o q) R st:=by
 unfold GJ
 refine wpS_bind (A4 ex ?_)
 have mc:MI good lt a.toList b.toList (o.push x).toList (p+1) q:=by rw[Array.toList_push];exact m.pushA sa lx al
 have hn':n<=(o.push x).size:=by rw[Array.size_push];lia
 by_cases f1:(p+1+1 == a.size)=true
 ·rw[if_pos f1]
  exact wpS_pure (L.las mc (eq_of_beq f1))
 rw[if_neg f1]
 have f2:=Bg f1
 split
 ·exact wpS_pure (L.don mc (by lia) hq hn')
 ·exact wpS_pure (L.yie mc (by lia) hq hn')
theorem Ks {R:ForInStep LoS->SortSt->Prop} {n p q mg ac bc:Nat} {o:Array Keyed} (C:Cmp prog w A E s kd good lt) (O:Ord good lt) (hk:kindOf st=kd) (L:LoR good lt a b n R st) (W:LoL good lt a b)
  (hp:p+1<a.size) (hq:q<b.size) {y:Keyed} (ey:b[q]?=some y) (ly:b.toList[q]?=some y) (m:MI good lt a.toList b.toList o.toList p q) (bl:∀ z∈a.toList.drop p,LE lt y z) (hn:n<=o.size) :
  wpS (model prog w) A E s (GD a b q mg ac bc o p) R st:=by
 unfold GD
 obtain ⟨sa,sb,lowB,lowA⟩:=id W
 refine wpS_bind (A4 ey ?_)
 have mb:MI good lt a.toList b.toList (o.push y).toList p (q+1):=by rw[Array.toList_push];exact m.pushB sb ly bl
 have hn':n<=(o.push y).size:=by rw[Array.size_push];lia
 by_cases d1:(q+1 == b.size)=true
 ·rw[if_pos d1]
  exact wpS_pure (L.fin mb (.inr (eq_of_beq d1)))
 rw[if_neg d1]
 have d2:=Bg d1
 obtain ⟨eaX,laX⟩:=at_of (xs:=a) (i:=p) (by lia)
 refine wpS_bind (A4 eaX (wpS_bind (EB (xs:=b) (bs:=q+1) (n:=b.size - (q+1)) (h:=0) C O hk (sa.good_at laX) (by lia) (fun i _ x hx=>sb.good_at hx) (fun i j x y hij _ hx hy=>sb.up hx hy (by lia)) (by lia) fun k j1 j2 j3=>?_)))
 have al:∀ z∈b.toList.drop (q+1+k),LE lt a[p] z:=fun z hz=>by
  obtain ⟨j,hj⟩:=LF hz
  rw[Nat.add_assoc (q+1)] at hj
  have:=Ce hj
  rw[Array.length_toList] at this
  exact j3 (k+j) z (by lia) (by lia) hj
 dsimp only
 by_cases e3:k > 0
 ·rw[if_pos e3]
  have mk2:MI good lt a.toList b.toList (o.push y++b.extract (q+1) (q+1+k)).toList p (q+1+k):=by
   rw[Array.toList_append,Jc]
   exact mb.blockB sb k (by rw[Array.length_toList];lia) fun i y hi hy=>lowB laX hy (j2 i y hi hy)
  by_cases e4:(q+1+k == b.size)=true
  ·rw[if_pos e4]
   exact wpS_pure (L.fin mk2 (.inr (eq_of_beq e4)))
  rw[if_neg e4]
  have e5:=Bg e4
  exact JX L sa hp eaX laX mk2 al (by lia) (by rw[Array.size_append];lia)
 ·rw[if_neg e3]
  have k0:k=0:=by lia
  rw[k0] at al
  exact JX L sa hp eaX laX mb al (by lia) hn'
theorem Lm {R:ForInStep LoS->SortSt->Prop} {n p q mg ac bc:Nat} {o:Array Keyed} (C:Cmp prog w A E s kd good lt) (O:Ord good lt) (hk:kindOf (setG st mg)=kd) (L:LoR good lt a b n R (setG st mg)) (W:LoL good lt a b)
  (hp:p+1<a.size) (hq:q<b.size) (m:MI good lt a.toList b.toList o.toList p q) (hn:n<=o.size) :
  wpS (model prog w) A E s (FG a b q ac bc o p mg) R st:=by
 unfold FG
 obtain ⟨sa,sb,lowB,lowA⟩:=id W
 rw[Fq]
 refine wpS_bind (wpS_modify ?_)
 obtain ⟨eb,lb⟩:=at_of hq
 refine wpS_bind (A4 eb (wpS_bind (EB (xs:=a) (bs:=p) (n:=a.size - p) (h:=0) C O hk (sb.good_at lb) (by lia) (fun i _ x hx=>sa.good_at hx) (fun i j x y hij _ hx hy=>sa.up hx hy (by lia)) (by lia) fun k k1 k2 k3=>?_)))
 have bl:∀ z∈a.toList.drop (p+k),LE lt b[q] z:=fun z hz=>by
  obtain ⟨j,hj⟩:=LF hz
  rw[Nat.add_assoc] at hj
  have:=Ce hj
  rw[Array.length_toList] at this
  exact k3 (k+j) z (by lia) (by lia) hj
 dsimp only
 by_cases c3:k > 0
 ·rw[if_pos c3]
  have mk:MI good lt a.toList b.toList (o++a.extract p (p+k)).toList (p+k) q:=by
   rw[Array.toList_append,Jc]
   exact m.blockA sa k (by rw[Array.length_toList];lia) fun i x hi hx=>lowA hx lb (k2 i x hi hx)
  by_cases c4:(p+k+1 == a.size)=true
  ·rw[if_pos c4]
   exact wpS_pure (L.las mk (eq_of_beq c4))
  rw[if_neg c4]
  have c4':=Bg c4
  by_cases c5:(p+k == a.size)=true
  ·rw[if_pos c5]
   exact wpS_pure (L.fin mk (.inl (eq_of_beq c5)))
  rw[if_neg c5]
  have c5':=Bg c5
  exact Ks C O hk L W (by lia) hq eb lb mk bl (by rw[Array.size_append];lia)
 ·rw[if_neg c3]
  have k0:k=0:=by lia
  rw[k0] at bl
  exact Ks C O hk L W hp hq eb lb m bl hn
theorem Tu {R:ForInStep LoS->SortSt->Prop} {n p q mg ac bc:Nat} {o:Array Keyed} (C:Cmp prog w A E s kd good lt) (O:Ord good lt) (hk:∀ g,kindOf (setG st g)=kd) (L:∀ g,LoR good lt a b n R (setG st g)) (W:LoL good lt a b)
  (hp:p+1<a.size) (hq:q<b.size) (m:MI good lt a.toList b.toList o.toList p q) (hn:n<=o.size) :
  wpS (model prog w) A E s (loG a b o p q mg ac bc) R st:=by
 unfold loG
 split
 ·exact Lm C O (hk _) (L _) W hp hq m hn
 ·exact Lm C O (hk _) (L _) W hp hq m hn
theorem R8 {R:ForInStep LoI->SortSt->Prop} {n mg p q ac bc:Nat} {o:Array Keyed} (C:Cmp prog w A E s kd good lt) (O:Ord good lt) (hk:kindOf st=kd) (W:LoL good lt a b)
  (fin:∀ {o:Array Keyed} {p q:Nat} {z},MI good lt a.toList b.toList o.toList p q->(p=a.size\/q=b.size)->R (.done (some (dnA a b o p q),z)) st)
  (las:∀ {o:Array Keyed} {p q:Nat} {z},MI good lt a.toList b.toList o.toList p q->p+1=a.size->R (.done (some (lAA a b o p q),z)) st)
  (don:∀ {o:Array Keyed} {p q ac bc:Nat},MI good lt a.toList b.toList o.toList p q->p+1<a.size->q<b.size->n+1<=o.size->R (.done (none,o,p,q,ac,bc)) st)
  (yie:∀ {o:Array Keyed} {p q ac bc:Nat},MI good lt a.toList b.toList o.toList p q->p+1<a.size->q<b.size->n+1<=o.size->R (.yield (none,o,p,q,ac,bc)) st)
  (hp:p+1<a.size) (hq:q<b.size) (m:MI good lt a.toList b.toList o.toList p q) (hn:n<=o.size):wpS (model prog w) A E s (loI a b mg o p q ac bc) R st:=by
 unfold loI
 obtain ⟨sa,sb,lowB,lowA⟩:=id W
 obtain ⟨eb,lb⟩:=at_of hq
 obtain ⟨ea,la⟩:=at_of (xs:=a) (i:=p) (by lia)
 refine wpS_bind (A4 eb (wpS_bind (A4 ea (wpS_bind (C.run hk (sb.good_at lb) (sa.good_at la) ?_)))))
 dsimp only
 cases hlt:lt b[q] a[p] with
 | true=>
  rw[if_pos rfl]
  have mm:MI good lt a.toList b.toList (o.push b[q]).toList p (q+1):=by rw[Array.toList_push];exact m.pushB sb lb (lowB la lb (O.tot (sb.good_at lb) (sa.good_at la) hlt))
  have hn':n+1<=(o.push b[q]).size:=by rw[Array.size_push];lia
  refine wpS_bind (A4 eb ?_)
  by_cases d1:(q+1 == b.size)=true
  ·rw[if_pos d1]
   exact wpS_pure (fin mm (.inr (eq_of_beq d1)))
  ·rw[if_neg d1]
   have d2:=Bg d1
   split
   ·exact wpS_pure (don mm hp (by lia) hn')
   ·exact wpS_pure (yie mm hp (by lia) hn')
 | false=>
  rw[if_neg Bool.false_ne_true]
  have mm:MI good lt a.toList b.toList (o.push a[p]).toList (p+1) q:=by rw[Array.toList_push];exact m.pushA sa la (lowA la lb hlt)
  have hn':n+1<=(o.push a[p]).size:=by rw[Array.size_push];lia
  refine wpS_bind (A4 ea ?_)
  by_cases d1:(p+1+1 == a.size)=true
  ·rw[if_pos d1]
   exact wpS_pure (las mm (eq_of_beq d1))
  ·rw[if_neg d1]
   have d2:=Bg d1
   split
   ·exact wpS_pure (don mm (by lia) hq hn')
   ·exact wpS_pure (yie mm (by lia) hq hn')
theorem PZ {R:ForInStep LoO->SortSt->Prop} {st1:SortSt} {mg p q:Nat} {o:Array Keyed} (C:Cmp prog w A E s kd good lt) (O:Ord good lt) (hk:kindOf st=kd) (W:LoL good lt a b)
  (fin:∀ {st':SortSt} {o:Array Keyed} {p q:Nat},SG st st'->MI good lt a.toList b.toList o.toList p q->(p=a.size\/q=b.size)->Q (dnA a b o p q) st')
  (las:∀ {st':SortSt} {o:Array Keyed} {p q:Nat},SG st st'->MI good lt a.toList b.toList o.toList p q->p+1=a.size->Q (lAA a b o p q) st')
  (r1:∀ {st':SortSt} {r z},SG st st'->Q r st'->R (.done (some r,z)) st')
  (r2:∀ {st':SortSt} {o':Array Keyed} {p q mg:Nat},SG st st'->MI good lt a.toList b.toList o'.toList p q->p+1<a.size->q<b.size->o.size+1<=o'.size->R (.yield (none,o',p,q,mg)) st')
  (g1:SG st st1) (hp:p+1<a.size) (hq:q<b.size) (m:MI good lt a.toList b.toList o.toList p q):wpS (model prog w) A E s (loO a b o p q mg) R st1:=by
 unfold loO
 refine wpS_bind (wpS_mono (wpS_forRange
  (I:=fun y c st2=>SG st st2/\∃ o' p' q' ac bc,c=(none,o',p',q',ac,bc)/\MI good lt a.toList b.toList o'.toList p' q'/\p'+1<a.size/\q'<b.size/\o.size+y<=o'.size)
  (Q:=fun c st2=>SG st st2/\((∃ r z,c=(some r,z)/\Q r st2)\/∃ o' p' q' ac bc,c=(none,o',p',q',ac,bc)/\MI good lt a.toList b.toList o'.toList p' q'/\p'+1<a.size/\q'<b.size/\o.size+1<=o'.size))
  ?istep ?ifin ⟨g1,o,p,q,0,0,rfl,m,hp,hq,Nat.le_refl _⟩) ?ipost)
 case ifin=>
  rintro c st2 ⟨g2,o',p',q',ac,bc,rfl,m',hp',hq',ho'⟩
  exact ⟨g2,.inr ⟨o',p',q',ac,bc,rfl,m',hp',hq',by lia⟩⟩
 case istep=>
  rintro y c st2 _ hy ⟨g2,o',p',q',ac,bc,rfl,m',hp',hq',ho'⟩
  exact R8 (n:=o.size+y) C O (g2.kind.trans hk) W (fun m h=>⟨g2,.inl ⟨_,_,rfl,fin g2 m h⟩⟩) (fun m h=>⟨g2,.inl ⟨_,_,rfl,las g2 m h⟩⟩) (fun m h1 h2 h3=>⟨g2,.inr ⟨_,_,_,_,_,rfl,m,h1,h2,by lia⟩⟩) (fun m h1 h2 h3=>⟨g2,_,_,_,_,_,rfl,m,h1,h2,h3⟩) hp' hq' m' ho'
 case ipost=>
  rintro c st2 ⟨g2,⟨r,z,rfl,hr⟩ | ⟨o',p',q',ac,bc,rfl,m',hp',hq',ho'⟩⟩
  ·exact wpS_pure (r1 g2 hr)
  ·refine wpS_bind (wpS_lift (wpAny_rule ⟨rfl,?_⟩))
   refine wpS_bind (wpS_mono (wpS_forRange
    (I:=fun y c st3=>SG st st3/\∃ o2 p2 q2 mg2 ac2 bc2,c=(none,o2,p2,q2,mg2,ac2,bc2)/\MI good lt a.toList b.toList o2.toList p2 q2/\p2+1<a.size/\q2<b.size/\o'.size<=o2.size)
    (Q:=fun c st3=>SG st st3/\((∃ r z,c=(some r,z)/\Q r st3)\/∃ o2 p2 q2 mg2 ac2 bc2,c=(none,o2,p2,q2,mg2,ac2,bc2)/\MI good lt a.toList b.toList o2.toList p2 q2/\p2+1<a.size/\q2<b.size/\o'.size<=o2.size))
    ?gstep ?gfin ⟨g2,o',p',q',_,ac,bc,rfl,m',hp',hq',Nat.le_refl _⟩) ?gpost)
   case gfin=>
    rintro c st3 ⟨g3,o2,p2,q2,mg2,ac2,bc2,rfl,m2,hp2,hq2,ho2⟩
    exact ⟨g3,.inr ⟨o2,p2,q2,mg2,ac2,bc2,rfl,m2,hp2,hq2,ho2⟩⟩
   case gpost=>
    rintro c st3 ⟨g3,⟨r,z,rfl,hr⟩ | ⟨o2,p2,q2,mg2,ac2,bc2,rfl,m2,hp2,hq2,ho2⟩⟩
    ·exact wpS_pure (r1 g3 hr)
    ·dsimp only
     rw[Fq]
     exact wpS_bind (wpS_modify (wpS_pure (r2 (g3.setG _) m2 hp2 hq2 (by lia))))
   case gstep=>
    rintro y c st3 _ hy ⟨g3,o2,p2,q2,mg2,ac2,bc2,rfl,m2,hp2,hq2,ho2⟩
    exact Tu C O (fun g=>(g3.setG g).kind.trans hk) (fun g=>⟨fun m h=>⟨g3.setG _,.inl ⟨_,_,rfl,fin (g3.setG _) m h⟩⟩,fun m h=>⟨g3.setG _,.inl ⟨_,_,rfl,las (g3.setG _) m h⟩⟩,fun m h1 h2 h3=>⟨g3.setG _,.inr ⟨_,_,_,_,_,_,rfl,m,h1,h2,h3⟩⟩,fun m h1 h2 h3=>⟨g3.setG _,_,_,_,_,_,_,rfl,m,h1,h2,h3⟩⟩) W hp2 hq2 m2 ho2
theorem TX (C:Cmp prog w A E s kd good lt) (O:Ord good lt) (hk:kindOf st=kd) (sa:SL good lt a.toList) (sb:SL good lt b.toList) (ha:0<a.size) (hb:0<b.size)
  (h0:∀ x y,a.toList[0]?=some x->b.toList[0]?=some y->LE lt y x) (h1:∀ x,a.toList[a.size - 1]?=some x->∀ y∈b.toList,LE lt y x)
  (hQ:∀ r st',SG st st'->Good lt a.toList b.toList r.toList->Q r st'):wpS (model prog w) A E s (mLo a b) Q st:=by
 rw[N3]
 unfold GX
 refine wpS_bind (wpS_lift (wpAny_rule ⟨rfl,?_⟩))
 obtain ⟨eb0,lb0⟩:=at_of hb
 obtain ⟨ea0,la0⟩:=at_of ha
 refine wpS_bind (A4 eb0 ?_)
 have m0:MI good lt a.toList b.toList [] 0 0:=⟨by simp,List.Pairwise.nil,fun x hx=>(nomatch hx),Nat.zero_le _,Nat.zero_le _⟩
 have lowB:∀ {p q:Nat} {x y:Keyed},a.toList[p]?=some x->b.toList[q]?=some y->LE lt y x->∀ z∈a.toList.drop p,LE lt y z:=fun {p q x y} hx hy hl z hz=>by
  rcases sa.from hx z hz with e | e
  ·rw[e];exact hl
  ·exact O.tr (sb.good_at hy) (sa.good_at hx) (sa.all z (List.mem_of_mem_drop hz)) hl e
 have lowA:∀ {p q:Nat} {x y:Keyed},a.toList[p]?=some x->b.toList[q]?=some y->LE lt x y->∀ z∈b.toList.drop q,LE lt x z:=fun {p q x y} hx hy hl z hz=>by
  rcases sb.from hy z hz with e | e
  ·rw[e];exact hl
  ·exact O.tr (sa.good_at hx) (sb.good_at hy) (sb.all z (List.mem_of_mem_drop hz)) hl e
 have W:LoL good lt a b:=⟨sa,sb,lowB,lowA⟩
 have m1:MI good lt a.toList b.toList [b[0]] 0 1:=m0.pushB sb lb0 (lowB la0 lb0 (h0 _ _ la0 lb0))
 have fin:∀ {st':SortSt} {o:Array Keyed} {p q:Nat},SG st st'->MI good lt a.toList b.toList o.toList p q->(p=a.size\/q=b.size)->Q (o++a.extract p a.size++b.extract q b.size) st':=fun {st' o p q} g m h=>by
  refine hQ _ st' g ?_
  rw[Array.toList_append,Array.toList_append,E5,E5]
  refine m.done sa sb ?_
  rcases h with h | h
  ·exact .inl (List.drop_eq_nil_of_le (by rw[h];simp))
  ·exact .inr (List.drop_eq_nil_of_le (by rw[h];simp))
 have las:∀ {st':SortSt} {o:Array Keyed} {p q:Nat},SG st st'->MI good lt a.toList b.toList o.toList p q->p+1=a.size->Q (o++b.extract q b.size++a.extract p a.size) st':=fun {st' o p q} g m h=>by
  refine hQ _ st' g ?_
  rw[Array.toList_append,Array.toList_append,E5,E5]
  obtain ⟨_,l⟩:=at_of (xs:=a) (i:=p) (by lia)
  refine m.last sb l (by simpa using h) (h1 _ ?_)
  rw[show a.size - 1=p by lia]
  exact l
 by_cases c1:(1 == b.size)=true
 ·rw[if_pos c1]
  exact wpS_pure (fin (SG.refl _) m1 (.inr (eq_of_beq c1)))
 rw[if_neg c1]
 have nb:1<b.size:=by
  have:¬1=b.size:=fun z=>c1 (by rw[<-z];rfl)
  lia
 by_cases c2:(0+1 == a.size)=true
 ·rw[if_pos c2]
  exact wpS_pure (las (SG.refl _) m1 (eq_of_beq c2))
 rw[if_neg c2]
 have na:1<a.size:=by
  have:¬0+1=a.size:=fun z=>c2 (by rw[<-z];rfl)
  lia
 refine wpS_bind (wpS_get ?_)
 refine wpS_bind (wpS_mono (wpS_forRange
  (I:=fun x c st'=>SG st st'/\∃ o p q mg,c=(none,o,p,q,mg)/\MI good lt a.toList b.toList o.toList p q/\p+1<a.size/\q<b.size/\x+1<=o.size)
  (Q:=fun c st'=>SG st st'/\∃ r o,c=(some r,o)/\Q r st') ?ostep ?ofin ⟨SG.refl _,#[b[0]],0,1,_,rfl,m1,by lia,nb,by simp⟩) ?opost)
 case ofin=>
  rintro c st' ⟨g,o,p,q,mg,rfl,m,hp,hq,ho⟩
  have:=m.size
  rw[Array.length_toList] at this
  lia
 case opost=>
  rintro c st' ⟨g,r,o,rfl,hq⟩
  exact wpS_pure hq
 case ostep=>
  rintro x c st1 _ hx ⟨g1,o,p,q,mg,rfl,m,hp,hq,ho⟩
  exact PZ C O hk W fin las (fun g h=>⟨g,_,_,rfl,h⟩) (fun g m h1 h2 h3=>⟨g,_,_,_,_,rfl,m,h1,h2,Nat.le_trans (Nat.succ_le_succ ho) h3⟩) g1 hp hq m
end
abbrev dnB (a b o:Array Keyed) (p q:Nat):Array Keyed:=a.extract 0 p++b.extract 0 q++o.reverse
abbrev fBB (a b o:Array Keyed) (p q:Nat):Array Keyed:=b.extract 0 q++a.extract 0 p++o.reverse
theorem QQ (a b:Array Keyed):mHi a b=(do
 rule "list.sort.merge-hi"
 let mut p:=a.size - 1
 let mut q:=b.size
 let mut o:Array Keyed:=#[<-elem' a p]
 if p == 0 then return dnB a b o p q
 if q == 1 then return fBB a b o p q
 let mut mg:=gallopOf (<-get)
 for _ in [0:a.size+b.size] do
  let mut ac:=0
  let mut bc:=0
  for _ in [0:a.size+b.size] do
   let some aw <-lt' (<-elem' b (q - 1)) (<-elem' a (p - 1)) | return dnB a b o p q
   if aw then
    p:=p - 1;o:=o.push (<-elem' a p);ac:=ac+1;bc:=0
    if p == 0 then return dnB a b o p q
    if ac>=mg then break
   else
    q:=q - 1;o:=o.push (<-elem' b q);bc:=bc+1;ac:=0
    if q == 1 then return fBB a b o p q
    if bc>=mg then break
  rule "list.sort.gallop"
  mg:=mg+1
  for _ in [0:a.size+b.size] do
   if mg > 1 then mg:=mg - 1
   Co mg
   let some u <-gal false (<-elem' b (q - 1)) a 0 p (p - 1) | return dnB a b o p q
   let k:=p - u
   ac:=k
   if k > 0 then
    o:=o++(a.extract u p).reverse;p:=u
    if p == 0 then return dnB a b o p q
   q:=q - 1;o:=o.push (<-elem' b q)
   if q == 1 then return fBB a b o p q
   let some u <-gal true (<-elem' a (p - 1)) b 0 q (q - 1) | return dnB a b o p q
   let k:=q - u
   bc:=k
   if k > 0 then
    o:=o++(b.extract u q).reverse;q:=u
    if q == 1 then return fBB a b o p q
    if q == 0 then return dnB a b o p q
   p:=p - 1;o:=o.push (<-elem' a p)
   if p == 0 then return dnB a b o p q
   if ac<7 && bc<7 then break
  mg:=mg+1
  Co mg
 unsupported "internal:list.sort.merge-bound"):=rfl
structure MH (good:Keyed->Prop) (lt:Keyed->Keyed->Bool) (a b o:List Keyed) (p q:Nat):Prop where
 perm:(a.take p++(b.take q++o.reverse)).Perm (a++b)
 srt:o.reverse.Pairwise (LE lt)
 low:∀ x∈o,∀ y∈a.take p++b.take q,LE lt y x
 pa:p<=a.length
 qb:q<=b.length
section
variable {good:Keyed->Prop} {lt:Keyed->Keyed->Bool} {a b o:List Keyed} {p q k:Nat} {x:Keyed}
theorem MH.size (m:MH good lt a b o p q):o.length+p+q=a.length+b.length:=by
 have e:=m.perm.length_eq
 have:=m.pa
 have:=m.qb
 rw[List.length_append,List.length_append,List.length_append,List.length_take,List.length_take,List.length_reverse] at e
 lia
theorem GY {l:List Keyed} {i:Nat} (h:l[i]?=some x):l.take (i+1)=l.take i++[x]:=by
 rw[List.take_add_one,h]
 rfl
theorem SL.under (s:SL good lt a) (h:a[p]?=some x):∀ y∈a.take p,LE lt y x:=fun y hy=>by
 obtain ⟨j,hj⟩:=List.mem_iff_getElem?.mp hy
 have hlt:j<p:=by
  have:=Ce hj
  rw[List.length_take] at this
  lia
 rw[List.getElem?_take_of_lt hlt] at hj
 exact s.up hj h hlt
theorem MH.pushA (m:MH good lt a b o (p+1) q) (sa:SL good lt a) (h:a[p]?=some x) (hb:∀ y∈b.take q,LE lt y x):MH good lt a b (o++[x]) p q:=by
 have hd:=GY h
 have hp:=Ce h
 refine ⟨?_,?_,?_,by lia,m.qb⟩
 ·have e:=m.perm
  rw[hd] at e
  refine List.Perm.trans ?_ e
  rw[List.reverse_append,List.append_assoc]
  refine List.Perm.append_left _ ?_
  show (b.take q++x::o.reverse).Perm (x::(b.take q++o.reverse))
  exact List.perm_middle
 ·rw[List.reverse_append]
  refine List.pairwise_cons.mpr ⟨fun y hy=>m.low y (List.mem_reverse.mp hy) x (by rw[hd];simp),m.srt⟩
 ·intro y hy z hz
  rcases List.mem_append.mp hy with hy | hy
  ·exact m.low y hy z (by rw[hd];rcases List.mem_append.mp hz with w | w<;>simp[w])
  ·rw[List.mem_singleton] at hy
   subst hy
   rcases List.mem_append.mp hz with w | w
   ·exact sa.under h z w
   ·exact hb z w
theorem MH.pushB (m:MH good lt a b o p (q+1)) (sb:SL good lt b) (h:b[q]?=some x) (ha:∀ y∈a.take p,LE lt y x):MH good lt a b (o++[x]) p q:=by
 have hd:=GY h
 have hq:=Ce h
 refine ⟨?_,?_,?_,m.pa,by lia⟩
 ·have e:=m.perm
  rw[hd] at e
  refine List.Perm.trans ?_ e
  rw[List.reverse_append,List.append_assoc (b.take q)]
  exact List.Perm.refl _
 ·rw[List.reverse_append]
  refine List.pairwise_cons.mpr ⟨fun y hy=>m.low y (List.mem_reverse.mp hy) x (by rw[hd];simp),m.srt⟩
 ·intro y hy z hz
  rcases List.mem_append.mp hy with hy | hy
  ·exact m.low y hy z (by rw[hd];rcases List.mem_append.mp hz with w | w<;>simp[w])
  ·rw[List.mem_singleton] at hy
   subst hy
   rcases List.mem_append.mp hz with w | w
   ·exact ha z w
   ·exact sb.under h z w
theorem Mv {l:List Keyed} {u k:Nat} (h:l[u]?=some x):(l.drop u).take (k+1)=x::(l.drop (u+1)).take k:=by rw[D3 h,List.take_succ_cons]
theorem MH.blockA (sa:SL good lt a):∀ (k u:Nat) (o:List Keyed),MH good lt a b o (u+k) q->(∀ i y,u<=i->i<u+k->a[i]?=some y->∀ z∈b.take q,LE lt z y)->MH good lt a b (o++((a.drop u).take k).reverse) u q
 | 0,u,o,m,_=>by simpa using m
 | k+1,u,o,m,h=>by
  have hlen:=m.pa
  have ih:=MH.blockA sa k (u+1) o (by rw[show u+1+k=u+(k+1) by lia];exact m) fun i y h1 h2=>h i y (by lia) (by lia)
  have e:a[u]?=some a[u]:=List.getElem?_eq_getElem (by lia)
  have r:=ih.pushA sa e (h u _ (Nat.le_refl _) (by lia) e)
  rw[Mv e,List.reverse_cons,<-List.append_assoc]
  exact r
theorem MH.blockB (sb:SL good lt b):∀ (k u:Nat) (o:List Keyed),MH good lt a b o p (u+k)->(∀ i y,u<=i->i<u+k->b[i]?=some y->∀ z∈a.take p,LE lt z y)->MH good lt a b (o++((b.drop u).take k).reverse) p u
 | 0,u,o,m,_=>by simpa using m
 | k+1,u,o,m,h=>by
  have hlen:=m.qb
  have ih:=MH.blockB sb k (u+1) o (by rw[show u+1+k=u+(k+1) by lia];exact m) fun i y h1 h2=>h i y (by lia) (by lia)
  have e:b[u]?=some b[u]:=List.getElem?_eq_getElem (by lia)
  have r:=ih.pushB sb e (h u _ (Nat.le_refl _) (by lia) e)
  rw[Mv e,List.reverse_cons,<-List.append_assoc]
  exact r
theorem MH.done (m:MH good lt a b o p q) (sa:SL good lt a) (sb:SL good lt b) (h:a.take p=[]\/b.take q=[]):Good lt a b (a.take p++b.take q++o.reverse):=by
 refine ⟨by rw[List.append_assoc];exact m.perm,?_⟩
 refine List.pairwise_append.mpr ⟨?_,m.srt,fun x hx y hy=>m.low y (List.mem_reverse.mp hy) x hx⟩
 rcases h with h | h
 ·rw[h,List.nil_append];exact sb.srt.sublist (List.take_sublist _ _)
 ·rw[h,List.append_nil];exact sa.srt.sublist (List.take_sublist _ _)
theorem MH.first (m:MH good lt a b o p 1) (sa:SL good lt a) (h:b[0]?=some x) (hx:∀ y∈a,LE lt x y):Good lt a b (b.take 1++a.take p++o.reverse):=by
 have hd:b.take 1=[x]:=GY (i:=0) h
 constructor
 ·refine List.Perm.trans ?_ m.perm
  rw[List.append_assoc]
  exact List.perm_append_comm_assoc _ _ _
 ·refine List.pairwise_append.mpr ⟨?_,m.srt,fun y hy z hz=>m.low z (List.mem_reverse.mp hz) y (by rcases List.mem_append.mp hy with w | w<;>simp[w])⟩
  refine List.pairwise_append.mpr ⟨by rw[hd];exact List.pairwise_singleton _ _,sa.srt.sublist (List.take_sublist _ _),fun y hy z hz=>?_⟩
  rw[hd,List.mem_singleton] at hy
  subst hy
  exact hx z (List.mem_of_mem_take hz)
end
theorem GN (xs:Array Keyed) (i:Nat):(xs.extract 0 i).toList=xs.toList.take i:=by simp[List.extract]
theorem DR (xs:Array Keyed) (u p:Nat):(xs.extract u p).toList=(xs.toList.drop u).take (p - u):=by simp[List.extract]
section
variable {good:Keyed->Prop} {lt:Keyed->Keyed->Bool} {a b o:List Keyed} {p q u:Nat} {x:Keyed}
theorem MH.pushA' (m:MH good lt a b o p q) (hp:0<p) (sa:SL good lt a) (h:a[p - 1]?=some x) (hb:∀ y∈b.take q,LE lt y x):MH good lt a b (o++[x]) (p - 1) q:=
 MH.pushA (by rw[show p - 1+1=p by lia];exact m) sa h hb
theorem MH.pushB' (m:MH good lt a b o p q) (hq:0<q) (sb:SL good lt b) (h:b[q - 1]?=some x) (ha:∀ y∈a.take p,LE lt y x):MH good lt a b (o++[x]) p (q - 1):=
 MH.pushB (by rw[show q - 1+1=q by lia];exact m) sb h ha
theorem MH.blockA' (m:MH good lt a b o p q) (hu:u<=p) (sa:SL good lt a) (h:∀ i y,u<=i->i<p->a[i]?=some y->∀ z∈b.take q,LE lt z y):MH good lt a b (o++((a.drop u).take (p - u)).reverse) u q:=
 MH.blockA sa (p - u) u o (by rw[show u+(p - u)=p by lia];exact m) fun i y h1 h2=>h i y h1 (by lia)
theorem MH.blockB' (m:MH good lt a b o p q) (hu:u<=q) (sb:SL good lt b) (h:∀ i y,u<=i->i<q->b[i]?=some y->∀ z∈a.take p,LE lt z y):MH good lt a b (o++((b.drop u).take (q - u)).reverse) p u:=
 MH.blockB sb (q - u) u o (by rw[show u+(q - u)=q by lia];exact m) fun i y h1 h2=>h i y h1 (by lia)
theorem Fn {l:List Keyed} {i:Nat} {z:Keyed} (h:z∈l.take i):∃ j,j<i/\l[j]?=some z:=by
 obtain ⟨j,hj⟩:=List.mem_iff_getElem?.mp h
 have hlt:j<i:=by
  have:=Ce hj
  rw[List.length_take] at this
  lia
 exact ⟨j,hlt,by rwa [List.getElem?_take_of_lt hlt] at hj⟩
end
abbrev HiS:=Option (Array Keyed)×Nat×Nat×Array Keyed×Nat×Nat×Nat
abbrev HiI:=Option (Array Keyed)×Nat×Nat×Array Keyed×Nat×Nat
abbrev HiO:=Option (Array Keyed)×Nat×Nat×Array Keyed×Nat
def Fj (a b:Array Keyed) (p mg ac bc:Nat) (o:Array Keyed) (q:Nat):SM (ForInStep HiS):=do
 let x <-elem' a (p - 1)
 if (p - 1 == 0)=true then pure (.done (some (dnB a b (o.push x) (p - 1) q),p - 1,q,o.push x,mg,ac,bc))
 else if (decide (ac<7) && decide (bc<7))=true then pure (.done (none,p - 1,q,o.push x,mg,ac,bc))
 else pure (.yield (none,p - 1,q,o.push x,mg,ac,bc))
def GM (a b:Array Keyed) (q mg ac bc:Nat) (o:Array Keyed) (p:Nat):SM (ForInStep HiS):=do
 let x <-elem' b (q - 1)
 if (q - 1 == 1)=true then pure (.done (some (fBB a b (o.push x) p (q - 1)),p,q - 1,o.push x,mg,ac,bc))
 else do
  let y <-elem' a (p - 1)
  let r <-gal true y b 0 (q - 1) (q - 1 - 1)
  match r with
  | some u=>
   if q - 1 - u > 0 then
    if (u == 1)=true then pure (.done (some (fBB a b (o.push x++(b.extract u (q - 1)).reverse) p u),p,u,o.push x++(b.extract u (q - 1)).reverse,mg,ac,q - 1 - u))
    else if (u == 0)=true then pure (.done (some (dnB a b (o.push x++(b.extract u (q - 1)).reverse) p u),p,u,o.push x++(b.extract u (q - 1)).reverse,mg,ac,q - 1 - u))
    else Fj a b p mg ac (q - 1 - u) (o.push x++(b.extract u (q - 1)).reverse) u
   else Fj a b p mg ac (q - 1 - u) (o.push x) (q - 1)
  | _=>pure (.done (some (dnB a b (o.push x) p (q - 1)),p,q - 1,o.push x,mg,ac,bc))
def GO (a b:Array Keyed) (q ac bc:Nat) (o:Array Keyed) (p mg:Nat):SM (ForInStep HiS):=do
 Co mg
 let x <-elem' b (q - 1)
 let r <-gal false x a 0 p (p - 1)
 match r with
 | some u=>
  if p - u > 0 then
   if (u == 0)=true then pure (.done (some (dnB a b (o++(a.extract u p).reverse) u q),u,q,o++(a.extract u p).reverse,mg,p - u,bc))
   else GM a b q mg (p - u) bc (o++(a.extract u p).reverse) u
  else GM a b q mg (p - u) bc o p
 | _=>pure (.done (some (dnB a b o p q),p,q,o,mg,ac,bc))
def hiG (a b o:Array Keyed) (p q mg ac bc:Nat):SM (ForInStep HiS):=if mg > 1 then GO a b q ac bc o p (mg - 1) else GO a b q ac bc o p mg
def hiI (a b:Array Keyed) (mg:Nat) (o:Array Keyed) (p q ac bc:Nat):SM (ForInStep HiI):=do
 let y <-elem' b (q - 1)
 let x <-elem' a (p - 1)
 let r <-lt' y x
 match r with
 | some aw=>
  if aw=true then do
   let z <-elem' a (p - 1)
   if (p - 1 == 0)=true then pure (.done (some (dnB a b (o.push z) (p - 1) q),p - 1,q,o.push z,ac+1,0))
   else if ac+1>=mg then pure (.done (none,p - 1,q,o.push z,ac+1,0)) else pure (.yield (none,p - 1,q,o.push z,ac+1,0))
  else do
   let z <-elem' b (q - 1)
   if (q - 1 == 1)=true then pure (.done (some (fBB a b (o.push z) p (q - 1)),p,q - 1,o.push z,0,bc+1))
   else if bc+1>=mg then pure (.done (none,p,q - 1,o.push z,0,bc+1)) else pure (.yield (none,p,q - 1,o.push z,0,bc+1))
 | _=>pure (.done (some (dnB a b o p q),p,q,o,ac,bc))
def hiO (a b o:Array Keyed) (p q mg:Nat):SM (ForInStep HiO):=do
 let s <-forIn [0:a.size+b.size] ((none,p,q,o,0,0):HiI) fun _ c=>hiI a b mg c.2.2.2.1 c.2.1 c.2.2.1 c.2.2.2.2.1 c.2.2.2.2.2
 match s.1 with
 | some r=>pure (.done (some r,s.2.1,s.2.2.1,s.2.2.2.1,mg))
 | none=>do
  rule "list.sort.gallop"
  let t <-forIn [0:a.size+b.size] ((none,s.2.1,s.2.2.1,s.2.2.2.1,mg+1,s.2.2.2.2.1,s.2.2.2.2.2):HiS) fun _ c=>hiG a b c.2.2.2.1 c.2.1 c.2.2.1 c.2.2.2.2.1 c.2.2.2.2.2.1 c.2.2.2.2.2.2
  match t.1 with
  | some r=>pure (.done (some r,t.2.1,t.2.2.1,t.2.2.2.1,t.2.2.2.2.1))
  | none=>do
   Co (t.2.2.2.2.1+1)
   pure (.yield (none,t.2.1,t.2.2.1,t.2.2.2.1,t.2.2.2.2.1+1))
def Gj (a b:Array Keyed):SM (Array Keyed):=do
 rule "list.sort.merge-hi"
 let x <-elem' a (a.size - 1)
 if (a.size - 1 == 0)=true then pure (dnB a b #[x] (a.size - 1) b.size)
 else if (b.size == 1)=true then pure (fBB a b #[x] (a.size - 1) b.size)
 else do
  let st <-get
  let s <-forIn [0:a.size+b.size] ((none,a.size - 1,b.size,#[x],gallopOf st):HiO) fun _ c=>hiO a b c.2.2.2.1 c.2.1 c.2.2.1 c.2.2.2.2
  match s.1 with
  | some r=>pure r
  | none=>unsupported "internal:list.sort.merge-bound"
theorem NI (a b:Array Keyed):mHi a b=Gj a b:=by
 rw[QQ]
 unfold Gj
 refine congrArg (fun k=>(liftM (rule "list.sort.merge-hi"):SM _) >>= k) (funext fun _=>?_)
 refine congrArg (fun k=>elem' a (a.size - 1) >>= k) (funext fun x=>?_)
 dsimp only
 refine congrArg (fun k=>ite _ _ (ite _ _ k)) ?_
 refine congrArg (fun k=>get >>= k) (funext fun st=>?_)
 refine congr (congrArg (fun f k=>forIn _ _ f >>= k) (funext fun _=>funext fun c=>?_)) (funext fun s=>?_)
 ·unfold hiO
  refine congr (congrArg (fun f k=>forIn _ _ f >>= k) (funext fun _=>funext fun d=>?_)) (funext fun s=>?_)
  ·unfold hiI
   rfl
  ·cases h:s.1 with
   | some r=>rfl
   | none=>
    refine congrArg (fun k=>(liftM (rule "list.sort.gallop"):SM _) >>= k) (funext fun _=>?_)
    refine congr (congrArg (fun f k=>forIn _ _ f >>= k) (funext fun _=>funext fun d=>?_)) (funext fun t=>?_)
    ·rfl
    ·cases t.1<;>rfl
 ·cases s.1<;>rfl
section
variable {prog:Program} {w:World} {A:Around} {E:Value->Shared->Prop} {s:Shared} {kd:SortKind} {good:Keyed->Prop} {lt:Keyed->Keyed->Bool} {st:SortSt} {a b:Array Keyed} {Q:Array Keyed->SortSt->Prop}
structure HiL (good:Keyed->Prop) (lt:Keyed->Keyed->Bool) (a b:Array Keyed):Prop where
 sa:SL good lt a.toList
 sb:SL good lt b.toList
 upA:∀ {p q:Nat} {x y:Keyed},0<q->a.toList[p]?=some x->b.toList[q - 1]?=some y->LE lt y x->∀ z∈b.toList.take q,LE lt z x
 upB:∀ {p q:Nat} {x y:Keyed},0<p->a.toList[p - 1]?=some x->b.toList[q]?=some y->LE lt x y->∀ z∈a.toList.take p,LE lt z y
structure HiR (good:Keyed->Prop) (lt:Keyed->Keyed->Bool) (a b:Array Keyed) (n:Nat) (R:ForInStep HiS->SortSt->Prop) (st:SortSt):Prop where
 fin:∀ {o:Array Keyed} {p q:Nat} {z},MH good lt a.toList b.toList o.toList p q->(p=0\/q=0)->R (.done (some (dnB a b o p q),z)) st
 fst:∀ {o:Array Keyed} {p q:Nat} {z},MH good lt a.toList b.toList o.toList p q->q=1->R (.done (some (fBB a b o p q),z)) st
 don:∀ {o:Array Keyed} {p q mg ac bc:Nat},MH good lt a.toList b.toList o.toList p q->0<p->1<q->n<=o.size->R (.done (none,p,q,o,mg,ac,bc)) st
 yie:∀ {o:Array Keyed} {p q mg ac bc:Nat},MH good lt a.toList b.toList o.toList p q->0<p->1<q->n<=o.size->R (.yield (none,p,q,o,mg,ac,bc)) st
theorem Ll {R:ForInStep HiS->SortSt->Prop} {n p q mg ac bc:Nat} {o:Array Keyed} (L:HiR good lt a b n R st) (sa:SL good lt a.toList) (hp:0<p) {x:Keyed} (ex:a[p - 1]?=some x) (lx:a.toList[p - 1]?=some x)
  (m:MH good lt a.toList b.toList o.toList p q) (al:∀ z∈b.toList.take q,LE lt z x) (hq:1<q) (hn:n<=o.size):wpS (model prog w) A E s (Fj a b p mg ac bc o q) R st:=by
 unfold Fj
 refine wpS_bind (A4 ex ?_)
 have mc:MH good lt a.toList b.toList (o.push x).toList (p - 1) q:=by rw[Array.toList_push];exact m.pushA' hp sa lx al
 have hn':n<=(o.push x).size:=by rw[Array.size_push];lia
 by_cases f1:(p - 1 == 0)=true
 ·rw[if_pos f1]
  exact wpS_pure (L.fin mc (.inl (eq_of_beq f1)))
 rw[if_neg f1]
 have f2:=Bg f1
 split
 ·exact wpS_pure (L.don mc (by lia) hq hn')
 ·exact wpS_pure (L.yie mc (by lia) hq hn')
theorem Kh {R:ForInStep HiS->SortSt->Prop} {n p q mg ac bc:Nat} {o:Array Keyed} (C:Cmp prog w A E s kd good lt) (O:Ord good lt) (hk:kindOf st=kd) (L:HiR good lt a b n R st) (W:HiL good lt a b)
  (hp:0<p) (hq:1<q) {y:Keyed} (ey:b[q - 1]?=some y) (ly:b.toList[q - 1]?=some y) (m:MH good lt a.toList b.toList o.toList p q) (bl:∀ z∈a.toList.take p,LE lt z y) (hn:n<=o.size) :
  wpS (model prog w) A E s (GM a b q mg ac bc o p) R st:=by
 unfold GM
 obtain ⟨sa,sb,upA,upB⟩:=id W
 have hpl:=m.pa
 have hql:=m.qb
 rw[Array.length_toList] at hpl hql
 refine wpS_bind (A4 ey ?_)
 have mb:MH good lt a.toList b.toList (o.push y).toList p (q - 1):=by rw[Array.toList_push];exact m.pushB' (by lia) sb ly bl
 have hn':n<=(o.push y).size:=by rw[Array.size_push];lia
 by_cases d1:(q - 1 == 1)=true
 ·rw[if_pos d1]
  exact wpS_pure (L.fst mb (eq_of_beq d1))
 rw[if_neg d1]
 have d2:=Bg d1
 obtain ⟨eaX,laX⟩:=at_of (xs:=a) (i:=p - 1) (by lia)
 refine wpS_bind (A4 eaX (wpS_bind (EB (xs:=b) (bs:=0) (n:=q - 1) (h:=q - 1 - 1) C O hk (sa.good_at laX) (by lia) (fun i _ x hx=>sb.good_at hx) (fun i j x y hij _ hx hy=>sb.up hx hy (by lia)) (by lia) fun v j1 j2 j3=>?_)))
 simp only[Nat.zero_add] at j2 j3
 have al:∀ z∈b.toList.take v,LE lt z a[p - 1]:=fun z hz=>by
  obtain ⟨j,hj,ej⟩:=Fn hz
  exact j2 j z hj ej
 dsimp only
 by_cases e3:q - 1 - v > 0
 ·rw[if_pos e3]
  have mk2:MH good lt a.toList b.toList (o.push y++(b.extract v (q - 1)).reverse).toList p v:=by
   rw[Array.toList_append,Array.toList_reverse,DR]
   exact mb.blockB' j1 sb fun i x h1 h2 hx=>upB hp laX hx (j3 i x h1 h2 hx)
  by_cases e4:(v == 1)=true
  ·rw[if_pos e4]
   exact wpS_pure (L.fst mk2 (eq_of_beq e4))
  rw[if_neg e4]
  by_cases e5:(v == 0)=true
  ·rw[if_pos e5]
   exact wpS_pure (L.fin mk2 (.inr (eq_of_beq e5)))
  rw[if_neg e5]
  have e6:=Bg e4
  have e7:=Bg e5
  exact Ll L sa hp eaX laX mk2 al (by lia) (by rw[Array.size_append];lia)
 ·rw[if_neg e3]
  have k0:v=q - 1:=by lia
  rw[k0] at al
  exact Ll L sa hp eaX laX mb al (by lia) hn'
theorem JW {R:ForInStep HiS->SortSt->Prop} {n p q mg ac bc:Nat} {o:Array Keyed} (C:Cmp prog w A E s kd good lt) (O:Ord good lt) (hk:kindOf (setG st mg)=kd) (L:HiR good lt a b n R (setG st mg)) (W:HiL good lt a b)
  (hp:0<p) (hq:1<q) (m:MH good lt a.toList b.toList o.toList p q) (hn:n<=o.size):wpS (model prog w) A E s (GO a b q ac bc o p mg) R st:=by
 unfold GO
 obtain ⟨sa,sb,upA,upB⟩:=id W
 have hpl:=m.pa
 have hql:=m.qb
 rw[Array.length_toList] at hpl hql
 rw[Fq]
 refine wpS_bind (wpS_modify ?_)
 obtain ⟨eb,lb⟩:=at_of (xs:=b) (i:=q - 1) (by lia)
 refine wpS_bind (A4 eb (wpS_bind (EB (xs:=a) (bs:=0) (n:=p) (h:=p - 1) C O hk (sb.good_at lb) (by lia) (fun i _ x hx=>sa.good_at hx) (fun i j x y hij _ hx hy=>sa.up hx hy (by lia)) (by lia) fun u k1 k2 k3=>?_)))
 simp only[Nat.zero_add] at k2 k3
 have bl:∀ z∈a.toList.take u,LE lt z b[q - 1]:=fun z hz=>by
  obtain ⟨j,hj,ej⟩:=Fn hz
  exact k2 j z hj ej
 dsimp only
 by_cases c3:p - u > 0
 ·rw[if_pos c3]
  have mk:MH good lt a.toList b.toList (o++(a.extract u p).reverse).toList u q:=by
   rw[Array.toList_append,Array.toList_reverse,DR]
   exact m.blockA' k1 sa fun i x h1 h2 hx=>upA (by lia) hx lb (k3 i x h1 h2 hx)
  by_cases c4:(u == 0)=true
  ·rw[if_pos c4]
   exact wpS_pure (L.fin mk (.inl (eq_of_beq c4)))
  rw[if_neg c4]
  have c5:=Bg c4
  exact Kh C O hk L W (by lia) hq eb lb mk bl (by rw[Array.size_append];lia)
 ·rw[if_neg c3]
  have k0:u=p:=by lia
  rw[k0] at bl
  exact Kh C O hk L W hp hq eb lb m bl hn
theorem Rx {R:ForInStep HiS->SortSt->Prop} {n p q mg ac bc:Nat} {o:Array Keyed} (C:Cmp prog w A E s kd good lt) (O:Ord good lt) (hk:∀ g,kindOf (setG st g)=kd) (L:∀ g,HiR good lt a b n R (setG st g)) (W:HiL good lt a b)
  (hp:0<p) (hq:1<q) (m:MH good lt a.toList b.toList o.toList p q) (hn:n<=o.size):wpS (model prog w) A E s (hiG a b o p q mg ac bc) R st:=by
 unfold hiG
 split
 ·exact JW C O (hk _) (L _) W hp hq m hn
 ·exact JW C O (hk _) (L _) W hp hq m hn
theorem Pp {R:ForInStep HiI->SortSt->Prop} {n mg p q ac bc:Nat} {o:Array Keyed} (C:Cmp prog w A E s kd good lt) (O:Ord good lt) (hk:kindOf st=kd) (W:HiL good lt a b)
  (fin:∀ {o:Array Keyed} {p q:Nat} {z},MH good lt a.toList b.toList o.toList p q->(p=0\/q=0)->R (.done (some (dnB a b o p q),z)) st)
  (fst:∀ {o:Array Keyed} {p q:Nat} {z},MH good lt a.toList b.toList o.toList p q->q=1->R (.done (some (fBB a b o p q),z)) st)
  (don:∀ {o:Array Keyed} {p q ac bc:Nat},MH good lt a.toList b.toList o.toList p q->0<p->1<q->n+1<=o.size->R (.done (none,p,q,o,ac,bc)) st)
  (yie:∀ {o:Array Keyed} {p q ac bc:Nat},MH good lt a.toList b.toList o.toList p q->0<p->1<q->n+1<=o.size->R (.yield (none,p,q,o,ac,bc)) st)
  (hp:0<p) (hq:1<q) (m:MH good lt a.toList b.toList o.toList p q) (hn:n<=o.size):wpS (model prog w) A E s (hiI a b mg o p q ac bc) R st:=by
 unfold hiI
 obtain ⟨sa,sb,upA,upB⟩:=id W
 have hpl:=m.pa
 have hql:=m.qb
 rw[Array.length_toList] at hpl hql
 obtain ⟨eb,lb⟩:=at_of (xs:=b) (i:=q - 1) (by lia)
 obtain ⟨ea,la⟩:=at_of (xs:=a) (i:=p - 1) (by lia)
 refine wpS_bind (A4 eb (wpS_bind (A4 ea (wpS_bind (C.run hk (sb.good_at lb) (sa.good_at la) ?_)))))
 dsimp only
 cases hlt:lt b[q - 1] a[p - 1] with
 | true=>
  rw[if_pos rfl]
  have mm:MH good lt a.toList b.toList (o.push a[p - 1]).toList (p - 1) q:=by rw[Array.toList_push];exact m.pushA' hp sa la (upA (by lia) la lb (O.tot (sb.good_at lb) (sa.good_at la) hlt))
  have hn':n+1<=(o.push a[p - 1]).size:=by rw[Array.size_push];lia
  refine wpS_bind (A4 ea ?_)
  by_cases d1:(p - 1 == 0)=true
  ·rw[if_pos d1]
   exact wpS_pure (fin mm (.inl (eq_of_beq d1)))
  ·rw[if_neg d1]
   have d2:=Bg d1
   split
   ·exact wpS_pure (don mm (by lia) hq hn')
   ·exact wpS_pure (yie mm (by lia) hq hn')
 | false=>
  rw[if_neg Bool.false_ne_true]
  have mm:MH good lt a.toList b.toList (o.push b[q - 1]).toList p (q - 1):=by rw[Array.toList_push];exact m.pushB' (by lia) sb lb (upB hp la lb hlt)
  have hn':n+1<=(o.push b[q - 1]).size:=by rw[Array.size_push];lia
  refine wpS_bind (A4 eb ?_)
  by_cases d1:(q - 1 == 1)=true
  ·rw[if_pos d1]
   exact wpS_pure (fst mm (eq_of_beq d1))
  ·rw[if_neg d1]
   have d2:=Bg d1
   split
   ·exact wpS_pure (don mm hp (by lia) hn')
   ·exact wpS_pure (yie mm hp (by lia) hn')
theorem OD {R:ForInStep HiO->SortSt->Prop} {st1:SortSt} {mg p q:Nat} {o:Array Keyed} (C:Cmp prog w A E s kd good lt) (O:Ord good lt) (hk:kindOf st=kd) (W:HiL good lt a b)
  (fin:∀ {st':SortSt} {o:Array Keyed} {p q:Nat},SG st st'->MH good lt a.toList b.toList o.toList p q->(p=0\/q=0)->Q (dnB a b o p q) st')
  (fst:∀ {st':SortSt} {o:Array Keyed} {p q:Nat},SG st st'->MH good lt a.toList b.toList o.toList p q->q=1->Q (fBB a b o p q) st')
  (r1:∀ {st':SortSt} {r z},SG st st'->Q r st'->R (.done (some r,z)) st')
  (r2:∀ {st':SortSt} {o':Array Keyed} {p q mg:Nat},SG st st'->MH good lt a.toList b.toList o'.toList p q->0<p->1<q->o.size+1<=o'.size->R (.yield (none,p,q,o',mg)) st')
  (g1:SG st st1) (hp:0<p) (hq:1<q) (m:MH good lt a.toList b.toList o.toList p q):wpS (model prog w) A E s (hiO a b o p q mg) R st1:=by
 unfold hiO
 refine wpS_bind (wpS_mono (wpS_forRange
  (I:=fun y c st2=>SG st st2/\∃ p' q' o' ac bc,c=(none,p',q',o',ac,bc)/\MH good lt a.toList b.toList o'.toList p' q'/\0<p'/\1<q'/\o.size+y<=o'.size)
  (Q:=fun c st2=>SG st st2/\((∃ r z,c=(some r,z)/\Q r st2)\/∃ p' q' o' ac bc,c=(none,p',q',o',ac,bc)/\MH good lt a.toList b.toList o'.toList p' q'/\0<p'/\1<q'/\o.size+1<=o'.size))
  ?istep ?ifin ⟨g1,p,q,o,0,0,rfl,m,hp,hq,Nat.le_refl _⟩) ?ipost)
 case ifin=>
  rintro c st2 ⟨g2,p',q',o',ac,bc,rfl,m',hp',hq',ho'⟩
  have hpl:=m.pa
  rw[Array.length_toList] at hpl
  exact ⟨g2,.inr ⟨p',q',o',ac,bc,rfl,m',hp',hq',by lia⟩⟩
 case istep=>
  rintro y c st2 _ hy ⟨g2,p',q',o',ac,bc,rfl,m',hp',hq',ho'⟩
  exact Pp (n:=o.size+y) C O (g2.kind.trans hk) W (fun m h=>⟨g2,.inl ⟨_,_,rfl,fin g2 m h⟩⟩) (fun m h=>⟨g2,.inl ⟨_,_,rfl,fst g2 m h⟩⟩) (fun m h1 h2 h3=>⟨g2,.inr ⟨_,_,_,_,_,rfl,m,h1,h2,by lia⟩⟩) (fun m h1 h2 h3=>⟨g2,_,_,_,_,_,rfl,m,h1,h2,h3⟩) hp' hq' m' ho'
 case ipost=>
  rintro c st2 ⟨g2,⟨r,z,rfl,hr⟩ | ⟨p',q',o',ac,bc,rfl,m',hp',hq',ho'⟩⟩
  ·exact wpS_pure (r1 g2 hr)
  ·refine wpS_bind (wpS_lift (wpAny_rule ⟨rfl,?_⟩))
   refine wpS_bind (wpS_mono (wpS_forRange
    (I:=fun y c st3=>SG st st3/\∃ p2 q2 o2 mg2 ac2 bc2,c=(none,p2,q2,o2,mg2,ac2,bc2)/\MH good lt a.toList b.toList o2.toList p2 q2/\0<p2/\1<q2/\o'.size<=o2.size)
    (Q:=fun c st3=>SG st st3/\((∃ r z,c=(some r,z)/\Q r st3)\/∃ p2 q2 o2 mg2 ac2 bc2,c=(none,p2,q2,o2,mg2,ac2,bc2)/\MH good lt a.toList b.toList o2.toList p2 q2/\0<p2/\1<q2/\o'.size<=o2.size))
    ?gstep ?gfin ⟨g2,p',q',o',_,ac,bc,rfl,m',hp',hq',Nat.le_refl _⟩) ?gpost)
   case gfin=>
    rintro c st3 ⟨g3,p2,q2,o2,mg2,ac2,bc2,rfl,m2,hp2,hq2,ho2⟩
    exact ⟨g3,.inr ⟨p2,q2,o2,mg2,ac2,bc2,rfl,m2,hp2,hq2,ho2⟩⟩
   case gpost=>
    rintro c st3 ⟨g3,⟨r,z,rfl,hr⟩ | ⟨p2,q2,o2,mg2,ac2,bc2,rfl,m2,hp2,hq2,ho2⟩⟩
    ·exact wpS_pure (r1 g3 hr)
    ·dsimp only
     rw[Fq]
     exact wpS_bind (wpS_modify (wpS_pure (r2 (g3.setG _) m2 hp2 hq2 (by lia))))
   case gstep=>
    rintro y c st3 _ hy ⟨g3,p2,q2,o2,mg2,ac2,bc2,rfl,m2,hp2,hq2,ho2⟩
    exact Rx C O (fun g=>(g3.setG g).kind.trans hk) (fun g=>⟨fun m h=>⟨g3.setG _,.inl ⟨_,_,rfl,fin (g3.setG _) m h⟩⟩,fun m h=>⟨g3.setG _,.inl ⟨_,_,rfl,fst (g3.setG _) m h⟩⟩,fun m h1 h2 h3=>⟨g3.setG _,.inr ⟨_,_,_,_,_,_,rfl,m,h1,h2,h3⟩⟩,fun m h1 h2 h3=>⟨g3.setG _,_,_,_,_,_,_,rfl,m,h1,h2,h3⟩⟩) W hp2 hq2 m2 ho2
theorem Oc (C:Cmp prog w A E s kd good lt) (O:Ord good lt) (hk:kindOf st=kd) (sa:SL good lt a.toList) (sb:SL good lt b.toList) (ha:0<a.size) (hb:0<b.size)
  (h0:∀ y,b.toList[0]?=some y->∀ x∈a.toList,LE lt y x) (h1:∀ x,a.toList[a.size - 1]?=some x->∀ y∈b.toList,LE lt y x)
  (hQ:∀ r st',SG st st'->Good lt a.toList b.toList r.toList->Q r st'):wpS (model prog w) A E s (mHi a b) Q st:=by
 rw[NI]
 unfold Gj
 refine wpS_bind (wpS_lift (wpAny_rule ⟨rfl,?_⟩))
 obtain ⟨ea1,la1⟩:=at_of (xs:=a) (i:=a.size - 1) (by lia)
 obtain ⟨eb0,lb0⟩:=at_of hb
 refine wpS_bind (A4 ea1 ?_)
 have upA:∀ {p q:Nat} {x y:Keyed},0<q->a.toList[p]?=some x->b.toList[q - 1]?=some y->LE lt y x->∀ z∈b.toList.take q,LE lt z x:=fun {p q x y} hq hx hy hl z hz=>by
  obtain ⟨j,hj,ej⟩:=Fn hz
  by_cases e:j=q - 1
  ·rw[e,hy] at ej;cases ej;exact hl
  ·exact O.tr (sb.good_at ej) (sb.good_at hy) (sa.good_at hx) (sb.up ej hy (by lia)) hl
 have upB:∀ {p q:Nat} {x y:Keyed},0<p->a.toList[p - 1]?=some x->b.toList[q]?=some y->LE lt x y->∀ z∈a.toList.take p,LE lt z y:=fun {p q x y} hp hx hy hl z hz=>by
  obtain ⟨j,hj,ej⟩:=Fn hz
  by_cases e:j=p - 1
  ·rw[e,hx] at ej;cases ej;exact hl
  ·exact O.tr (sa.good_at ej) (sa.good_at hx) (sb.good_at hy) (sa.up ej hx (by lia)) hl
 have W:HiL good lt a b:=⟨sa,sb,upA,upB⟩
 have m0:MH good lt a.toList b.toList [] a.size b.size:=⟨by rw[List.take_of_length_le (by simp),List.take_of_length_le (by simp)];simp,List.Pairwise.nil,fun x hx=>(nomatch hx),by simp,by simp⟩
 have m1:MH good lt a.toList b.toList [a[a.size - 1]] (a.size - 1) b.size:=m0.pushA' ha sa la1 fun y hy=>h1 _ la1 y (List.mem_of_mem_take hy)
 have fin:∀ {st':SortSt} {o:Array Keyed} {p q:Nat},SG st st'->MH good lt a.toList b.toList o.toList p q->(p=0\/q=0)->Q (a.extract 0 p++b.extract 0 q++o.reverse) st':=fun {st' o p q} g m h=>by
  refine hQ _ st' g ?_
  rw[Array.toList_append,Array.toList_append,GN,GN,Array.toList_reverse]
  refine m.done sa sb ?_
  rcases h with h | h
  ·exact .inl (by rw[h];rfl)
  ·exact .inr (by rw[h];rfl)
 have fst:∀ {st':SortSt} {o:Array Keyed} {p q:Nat},SG st st'->MH good lt a.toList b.toList o.toList p q->q=1->Q (b.extract 0 q++a.extract 0 p++o.reverse) st':=fun {st' o p q} g m h=>by
  subst h
  refine hQ _ st' g ?_
  rw[Array.toList_append,Array.toList_append,GN,GN,Array.toList_reverse]
  exact m.first sa lb0 (h0 _ lb0)
 by_cases c1:(a.size - 1 == 0)=true
 ·rw[if_pos c1]
  exact wpS_pure (fin (SG.refl _) m1 (.inl (eq_of_beq c1)))
 rw[if_neg c1]
 have na:0<a.size - 1:=by
  have:¬a.size - 1=0:=fun z=>c1 (by rw[z];rfl)
  lia
 by_cases c2:(b.size == 1)=true
 ·rw[if_pos c2]
  exact wpS_pure (fst (SG.refl _) m1 (eq_of_beq c2))
 rw[if_neg c2]
 have nb:1<b.size:=by
  have:¬b.size=1:=fun z=>c2 (by rw[z];rfl)
  lia
 refine wpS_bind (wpS_get ?_)
 refine wpS_bind (wpS_mono (wpS_forRange
  (I:=fun x c st'=>SG st st'/\∃ p q o mg,c=(none,p,q,o,mg)/\MH good lt a.toList b.toList o.toList p q/\0<p/\1<q/\x+1<=o.size)
  (Q:=fun c st'=>SG st st'/\∃ r o,c=(some r,o)/\Q r st') ?ostep ?ofin ⟨SG.refl _,a.size - 1,b.size,#[a[a.size - 1]],_,rfl,m1,na,nb,by simp⟩) ?opost)
 case ofin=>
  rintro c st' ⟨g,p,q,o,mg,rfl,m,hp,hq,ho⟩
  have:=m.size
  rw[Array.length_toList,Array.length_toList,Array.length_toList] at this
  lia
 case opost=>
  rintro c st' ⟨g,r,o,rfl,hq⟩
  exact wpS_pure hq
 case ostep=>
  rintro x c st1 _ hx ⟨g1,p,q,o,mg,rfl,m,hp,hq,ho⟩
  exact OD C O hk W fin fst (fun g h=>⟨g,_,_,rfl,h⟩) (fun g m h1 h2 h3=>⟨g,_,_,_,_,rfl,m,h1,h2,Nat.le_trans (Nat.succ_le_succ ho) h3⟩) g1 hp hq m
end
def G (xs:Array Keyed) (k:Nat):Keyed:=xs[k]?.getD (.none,.none)
theorem B7 {xs ys:Array Keyed} {i j:Nat} (h:xs[i]?=ys[j]?):G xs i=G ys j:=by unfold G;rw[h]
theorem Ee {xs:Array Keyed} {i:Nat} (h:i<xs.size):xs[i]?=some (G xs i):=by
 unfold G
 rw[Array.getElem?_eq_getElem h]
 rfl
def Out (lo hi:Nat) (xs ys:Array Keyed):Prop:=∀ k,(k<lo\/hi<=k)->ys[k]?=xs[k]?
theorem Out.refl {lo hi:Nat} (xs:Array Keyed):Out lo hi xs xs:=fun _ _=>rfl
theorem Out.trans {lo hi:Nat} {xs ys zs:Array Keyed} (a:Out lo hi xs ys) (b:Out lo hi ys zs):Out lo hi xs zs:=fun k h=>(b k h).trans (a k h)
structure SB (kd:SortKind) (a₀:Array Keyed) (st:SortSt):Prop where
 perm:(arrOf st).Perm a₀
 kind:kindOf st=kd
 fail:failedOf st=none
theorem SB.size {kd:SortKind} {a₀:Array Keyed} {st:SortSt} (h:SB kd a₀ st):(arrOf st).size=a₀.size:=h.perm.size_eq
theorem SB.put {kd:SortKind} {a₀:Array Keyed} {st:SortSt} (h:SB kd a₀ st) {xs:Array Keyed} (hp:xs.Perm (arrOf st)):SB kd a₀ (setArr st xs):=⟨hp.trans h.perm,h.kind,h.fail⟩
section
variable {prog:Program} {w:World} {A:Around} {E:Value->Shared->Prop} {s:Shared} {kd:SortKind} {good:Keyed->Prop} {lt:Keyed->Keyed->Bool} {st:SortSt} {a₀:Array Keyed}
theorem SB.ok (h:SB kd a₀ st) (hg:∀ x∈a₀.toList,good x) {i:Nat} (hi:i<a₀.size):good (G (arrOf st) i):=by
 have hi':i<(arrOf st).size:=by rw[h.size];exact hi
 have e:G (arrOf st) i=(arrOf st)[i]:=by unfold G;rw[Array.getElem?_eq_getElem hi'];rfl
 rw[e]
 exact hg _ ((Array.perm_iff_toList_perm.mp h.perm).mem_iff.mp (by simp))
theorem D8 (C:Cmp prog w A E s kd good lt) (h:SB kd a₀ st) (hg:∀ x∈a₀.toList,good x) {i j:Nat} {Q:Option Bool->SortSt->Prop} (hi:i<a₀.size) (hj:j<a₀.size)
  (hQ:Q (some (lt (G (arrOf st) i) (G (arrOf st) j))) st):wpS (model prog w) A E s (ltAt' i j) Q st:=by
 rw[ltAt'_eq]
 refine wpS_bind (wpS_get ?_)
 exact wpS_bind (A4 (Ee (by rw[h.size];exact hi)) (wpS_bind (A4 (Ee (by rw[h.size];exact hj)) (C.run h.kind (h.ok hg hi) (h.ok hg hj) hQ))))
def Asc (lt:Keyed->Keyed->Bool) (xs:Array Keyed) (lo n:Nat):Prop:=∀ i j,lo<=i->i<=j->j<lo+n->LE lt (G xs i) (G xs j)
def Dsc (lt:Keyed->Keyed->Bool) (xs:Array Keyed) (lo n:Nat):Prop:=∀ i j,lo<=i->i<=j->j<lo+n->LE lt (G xs j) (G xs i)
theorem Ord.rf (O:Ord good lt) {x:Keyed} (h:good x):LE lt x x:=by
 show lt x x=false
 cases q:lt x x with
 | false=>rfl
 | true=>
  have z:=O.tot h h q
  rw[q] at z
  cases z
theorem Asc.more (O:Ord good lt) (h:SB kd a₀ st) (hg:∀ x∈a₀.toList,good x) {lo n:Nat} (hn:1<=n) (hs:lo+n<a₀.size) (a:Asc lt (arrOf st) lo n) (hl:LE lt (G (arrOf st) (lo+n - 1)) (G (arrOf st) (lo+n))):Asc lt (arrOf st) lo (n+1):=fun i j h1 h2 h3=>by
 by_cases e:j<lo+n
 ·exact a i j h1 h2 e
 have e':j=lo+n:=by lia
 subst e'
 by_cases e:i=lo+n
 ·subst e;exact O.rf (h.ok hg (by lia))
 ·exact O.tr (h.ok hg (by lia)) (h.ok hg (by lia)) (h.ok hg (by lia)) (a i (lo+n - 1) h1 (by lia) (by lia)) hl
theorem Dsc.more (O:Ord good lt) (h:SB kd a₀ st) (hg:∀ x∈a₀.toList,good x) {lo n:Nat} (hn:1<=n) (hs:lo+n<a₀.size) (a:Dsc lt (arrOf st) lo n) (hl:LE lt (G (arrOf st) (lo+n)) (G (arrOf st) (lo+n - 1))):Dsc lt (arrOf st) lo (n+1):=fun i j h1 h2 h3=>by
 by_cases e:j<lo+n
 ·exact a i j h1 h2 e
 have e':j=lo+n:=by lia
 subst e'
 by_cases e:i=lo+n
 ·subst e;exact O.rf (h.ok hg (by lia))
 ·exact O.tr (h.ok hg (by lia)) (h.ok hg (by lia)) (h.ok hg (by lia)) hl (a i (lo+n - 1) h1 (by lia) (by lia))
theorem IH {xs:Array Keyed} {i j:Nat} (hj:j<=xs.size) (k:Nat):G (mirror xs i j ((j - i) / 2)) k=if i<=k/\k<j then G xs (i+j - 1 - k) else G xs k:=by
 have e:=getElem?_mirror_all (i:=i) hj k
 by_cases h1:i<=k/\k<j
 ·rw[if_pos h1] at e ⊢;exact B7 e
 ·rw[if_neg h1] at e ⊢;exact B7 e
theorem EU {xs:Array Keyed} {i j lo hi:Nat} (hj:j<=xs.size) (h1:lo<=i) (h2:j<=hi):Out lo hi xs (mirror xs i j ((j - i) / 2)):=fun k hk=>by
 rw[getElem?_mirror_all hj,if_neg (by lia)]
theorem Dsc.same (O:Ord good lt) {xs:Array Keyed} {lo n i j:Nat} (hj:j<=xs.size) (hg:∀ k,k<xs.size->good (G xs k)) (d:Dsc lt xs lo n) (hlo:lo<=i) (hjn:j<=lo+n) (hn:lo+n<=xs.size)
  (eq:∀ p q,i<=p->p<j->i<=q->q<j->LE lt (G xs p) (G xs q)):Dsc lt (mirror xs i j ((j - i) / 2)) lo n:=fun p q h1 h2 h3=>by
 have like:∀ k,k<lo+n->LE lt (G xs k) (G (mirror xs i j ((j - i) / 2)) k)/\LE lt (G (mirror xs i j ((j - i) / 2)) k) (G xs k)/\good (G (mirror xs i j ((j - i) / 2)) k):=fun k hk=>by
  rw[IH hj]
  by_cases c:i<=k/\k<j
  ·rw[if_pos c]
   exact ⟨eq _ _ c.1 c.2 (by lia) (by lia),eq _ _ (by lia) (by lia) c.1 c.2,hg _ (by lia)⟩
  ·rw[if_neg c]
   exact ⟨O.rf (hg _ (by lia)),O.rf (hg _ (by lia)),hg _ (by lia)⟩
 obtain ⟨a1,a2,a3⟩:=like p (by lia)
 obtain ⟨b1,b2,b3⟩:=like q (by lia)
 exact O.tr b3 (hg _ (by lia)) a3 b2 (O.tr (hg _ (by lia)) (hg _ (by lia)) a3 (d p q h1 h2 h3) a1)
theorem Dsc.turn {xs:Array Keyed} {lo n:Nat} (hn:lo+n<=xs.size) (d:Dsc lt xs lo n):Asc lt (mirror xs lo (lo+n) ((lo+n - lo) / 2)) lo n:=fun p q h1 h2 h3=>by
 rw[IH hn,IH hn,if_pos (by lia),if_pos (by lia)]
 exact d _ _ (by lia) (by lia) (by lia)
end
def Mm (lo n1 nrem:Nat):SM (Option Nat):=do
 let mut n:=n1
 for _ in [n:nrem] do
  let some sm <-ltAt' (lo+n) (lo+n - 1) | return none
  if sm then break
  n:=n+1
 return some n
def Jp (lo n0 nrem:Nat):SM (Option Nat):=do
 rule "list.sort.descending-run"
 let mut n:=n0+1
 let mut e:=0
 for _ in [n:nrem] do
  let some sm <-ltAt' (lo+n) (lo+n - 1) | return none
  if sm then
   if e > 0 then reverseSlice' (lo+n - (e+1)) (lo+n)
   e:=0
  else
   let some la <-ltAt' (lo+n - 1) (lo+n) | return none
   if la then break
   e:=e+1
  n:=n+1
 if e > 0 then reverseSlice' (lo+n - (e+1)) (lo+n)
 reverseSlice' lo (lo+n)
 for _ in [n:nrem] do
  let some sm <-ltAt' (lo+n) (lo+n - 1) | return none
  if sm then break
  n:=n+1
 return some n
section
variable {prog:Program} {w:World} {A:Around} {E:Value->Shared->Prop} {s:Shared} {kd:SortKind} {good:Keyed->Prop} {lt:Keyed->Keyed->Bool} {st:SortSt} {a₀:Array Keyed} {lo nrem:Nat} {Q:Option Nat->SortSt->Prop}
theorem SB.gs (h:SB kd a₀ st) (hg:∀ x∈a₀.toList,good x):∀ k,k<(arrOf st).size->good (G (arrOf st) k):=fun k hk=>h.ok hg (by rw[<-h.size];exact hk)
theorem KN (C:Cmp prog w A E s kd good lt) (O:Ord good lt) (h:SB kd a₀ st) (hg:∀ x∈a₀.toList,good x) (hs:lo+nrem<=a₀.size) {n0:Nat} (h1:1<=n0) (h2:n0+1<=nrem) (hd:Dsc lt (arrOf st) lo (n0+1))
  (hQ:∀ n st',SB kd a₀ st'->pendingOf st'=pendingOf st->1<=n->n<=nrem->Asc lt (arrOf st') lo n->Out lo (lo+nrem) (arrOf st) (arrOf st')->Q (some n) st'):wpS (model prog w) A E s (Jp lo n0 nrem) Q st:=by
 unfold Jp
 dsimp only
 refine wpS_bind (wpS_lift (wpAny_rule ⟨rfl,?_⟩))
 have asc:∀ {st':SortSt} {n1:Nat},SB kd a₀ st'->pendingOf st'=pendingOf st->1<=n1->n1<=nrem->Asc lt (arrOf st') lo n1->Out lo (lo+nrem) (arrOf st) (arrOf st') ->
   wpS (model prog w) A E s (Mm lo n1 nrem) Q st':=fun {st' n1} B p0 p1 p2 p3 p4=>by
  unfold Mm
  dsimp only
  refine wpS_bind (wpS_mono (wpS_forRange (I:=fun x c st''=>st''=st'/\c=(none,x)/\1<=x/\x<=nrem/\Asc lt (arrOf st') lo x) (Q:=fun c st''=>st''=st'/\∃ n,c=(none,n)/\1<=n/\n<=nrem/\Asc lt (arrOf st') lo n) ?step ?fin ⟨rfl,rfl,p1,p2,p3⟩) ?post)
  case fin=>
   rintro c st'' ⟨rfl,rfl,a1,a2,a3⟩
   exact ⟨rfl,_,rfl,a1,a2,a3⟩
  case post=>
   rintro c st'' ⟨rfl,n,rfl,a1,a2,a3⟩
   exact wpS_pure (hQ n _ B p0 a1 a2 a3 p4)
  case step=>
   rintro x c st'' h3 h4 ⟨rfl,rfl,a1,a2,a3⟩
   dsimp only
   refine wpS_bind (D8 C B hg (by lia) (by lia) ?_)
   cases q:lt (G (arrOf st'') (lo+x)) (G (arrOf st'') (lo+x - 1)) with
   | true=>
    simp only[if_true]
    exact wpS_pure ⟨rfl,x,rfl,a1,a2,a3⟩
   | false=>
    simp only[Bool.false_eq_true,if_false]
    exact wpS_pure ⟨rfl,rfl,by lia,h4,a3.more O B hg a1 (by lia) q⟩
 refine wpS_bind (wpS_mono (wpS_forRange
  (I:=fun x c st'=>SB kd a₀ st'/\pendingOf st'=pendingOf st/\Out lo (lo+nrem) (arrOf st) (arrOf st')/\∃ e,c=(none,x,e)/\2<=x/\x<=nrem/\e+2<=x/\Dsc lt (arrOf st') lo x/\∀ p q,lo+x - (e+1)<=p->p<lo+x->lo+x - (e+1)<=q->q<lo+x->LE lt (G (arrOf st') p) (G (arrOf st') q))
  (Q:=fun c st'=>SB kd a₀ st'/\pendingOf st'=pendingOf st/\Out lo (lo+nrem) (arrOf st) (arrOf st')/\∃ x e,c=(none,x,e)/\2<=x/\x<=nrem/\e+2<=x/\Dsc lt (arrOf st') lo x/\∀ p q,lo+x - (e+1)<=p->p<lo+x->lo+x - (e+1)<=q->q<lo+x->LE lt (G (arrOf st') p) (G (arrOf st') q)) ?step ?fin ?init) ?post)
 case init=>
  refine ⟨h,rfl,Out.refl _,0,rfl,by lia,by lia,by lia,hd,fun p q a1 a2 a3 a4=>?_⟩
  have:p=q:=by lia
  subst this
  exact O.rf (h.ok hg (by lia))
 case fin=>
  rintro c st' ⟨B,p0,ou,e,rfl,a1,a2,a3,a4,a5⟩
  exact ⟨B,p0,ou,_,e,rfl,a1,a2,a3,a4,a5⟩
 case post=>
  rintro c st' ⟨B,p0,ou,x,e,rfl,a1,a2,a3,a4,a5⟩
  dsimp only
  have sz:=B.size
  by_cases c1:e > 0
  ·rw[if_pos c1,reverseSlice'_eq,reverseSlice'_eq]
   refine wpS_bind (wpS_modify (wpS_bind (wpS_modify ?_)))
   have d1:=a4.same O (i:=lo+x - (e+1)) (j:=lo+x) (by lia) (B.gs hg) (by lia) (by lia) (by lia) a5
   have B1:=B.put (mirror_perm (arrOf st') (lo+x - (e+1)) (lo+x) ((lo+x - (lo+x - (e+1))) / 2))
   have d2:=d1.turn (by rw[mirror_size];lia)
   exact asc (B1.put (mirror_perm _ _ _ _)) p0 (by lia) a2 d2 ((ou.trans (EU (by lia) (by lia) (by lia))).trans (EU (by rw[mirror_size];lia) (by lia) (by lia)))
  ·rw[if_neg c1,reverseSlice'_eq]
   refine wpS_bind (wpS_modify ?_)
   exact asc (B.put (mirror_perm _ _ _ _)) p0 (by lia) a2 (a4.turn (by lia)) (ou.trans (EU (by lia) (by lia) (by lia)))
 case step=>
  rintro x c st' h3 h4 ⟨B,p0,ou,e,rfl,a1,a2,a3,a4,a5⟩
  dsimp only
  have sz:=B.size
  refine wpS_bind (D8 C B hg (by lia) (by lia) ?_)
  cases q:lt (G (arrOf st') (lo+x)) (G (arrOf st') (lo+x - 1)) with
  | true=>
   simp only[if_true]
   have le1:=O.tot (B.ok hg (by lia)) (B.ok hg (by lia)) q
   by_cases c1:e > 0
   ·rw[if_pos c1,reverseSlice'_eq]
    refine wpS_bind (wpS_modify (wpS_pure ?_))
    have d0:=a4.more O B hg (by lia) (by lia) le1
    have d1:=d0.same O (i:=lo+x - (e+1)) (j:=lo+x) (by lia) (B.gs hg) (by lia) (by lia) (by lia) a5
    have B1:=B.put (mirror_perm (arrOf st') (lo+x - (e+1)) (lo+x) ((lo+x - (lo+x - (e+1))) / 2))
    refine ⟨B1,p0,ou.trans (EU (by lia) (by lia) (by lia)),0,rfl,by lia,h4,by lia,d1,fun p q b1 b2 b3 b4=>?_⟩
    have:p=q:=by lia
    subst this
    exact O.rf (B1.ok hg (by lia))
   ·rw[if_neg c1]
    refine wpS_pure ⟨B,p0,ou,0,rfl,by lia,h4,by lia,a4.more O B hg (by lia) (by lia) le1,fun p q b1 b2 b3 b4=>?_⟩
    have:p=q:=by lia
    subst this
    exact O.rf (B.ok hg (by lia))
  | false=>
   simp only[Bool.false_eq_true,if_false]
   refine wpS_bind (D8 C B hg (by lia) (by lia) ?_)
   cases q2:lt (G (arrOf st') (lo+x - 1)) (G (arrOf st') (lo+x)) with
   | true=>
    simp only[if_true]
    exact wpS_pure ⟨B,p0,ou,x,e,rfl,a1,a2,a3,a4,a5⟩
   | false=>
    simp only[Bool.false_eq_true,if_false]
    refine wpS_pure ⟨B,p0,ou,e+1,rfl,by lia,h4,by lia,a4.more O B hg (by lia) (by lia) q2,fun p q' b1 b2 b3 b4=>?_⟩
    by_cases f1:p=lo+x
    ·subst f1
     by_cases f2:q'=lo+x
     ·subst f2;exact O.rf (B.ok hg (by lia))
     ·exact O.tr (B.ok hg (by lia)) (B.ok hg (by lia)) (B.ok hg (by lia)) q2 (a5 _ _ (by lia) (by lia) (by lia) (by lia))
    ·by_cases f2:q'=lo+x
     ·subst f2
      exact O.tr (B.ok hg (by lia)) (B.ok hg (by lia)) (B.ok hg (by lia)) (a5 p (lo+x - 1) (by lia) (by lia) (by lia) (by lia)) q
     ·exact a5 _ _ (by lia) (by lia) (by lia) (by lia)
end
section
variable {prog:Program} {w:World} {A:Around} {E:Value->Shared->Prop} {s:Shared} {kd:SortKind} {good:Keyed->Prop} {lt:Keyed->Keyed->Bool} {st:SortSt} {a₀:Array Keyed} {lo nrem:Nat}
theorem P7 {Q:Option Nat->SortSt->Prop} (C:Cmp prog w A E s kd good lt) (O:Ord good lt) (h:SB kd a₀ st) (hg:∀ x∈a₀.toList,good x) (hs:lo+nrem<=a₀.size) (h1:1<=nrem)
  (hQ:∀ n st',SB kd a₀ st'->pendingOf st'=pendingOf st->1<=n->n<=nrem->Asc lt (arrOf st') lo n->Out lo (lo+nrem) (arrOf st) (arrOf st')->Q (some n) st'):wpS (model prog w) A E s (countRun' lo nrem) Q st:=by
 rw[countRun'_eq]
 dsimp only
 have sz:=h.size
 refine wpS_bind (wpS_mono (wpS_forRange (I:=fun x c st'=>st'=st/\c=(none,x)/\1<=x/\x<=nrem/\Asc lt (arrOf st) lo x)
  (Q:=fun c st'=>st'=st/\∃ n,c=(none,n)/\1<=n/\n<=nrem/\Asc lt (arrOf st) lo n/\(n<nrem->lt (G (arrOf st) (lo+n)) (G (arrOf st) (lo+n - 1))=true)) ?step ?fin ⟨rfl,rfl,Nat.le_refl _,h1,?init⟩) ?post)
 case init=>
  intro i j a1 a2 a3
  have:i=j:=by lia
  subst this
  exact O.rf (h.ok hg (by lia))
 case fin=>
  rintro c st' ⟨rfl,rfl,a1,a2,a3⟩
  exact ⟨rfl,_,rfl,a1,a2,a3,fun z=>by lia⟩
 case step=>
  rintro x c st' h3 h4 ⟨rfl,rfl,a1,a2,a3⟩
  dsimp only
  refine wpS_bind (D8 C h hg (by lia) (by lia) ?_)
  cases q:lt (G (arrOf st') (lo+x)) (G (arrOf st') (lo+x - 1)) with
  | true=>
   simp only[if_true]
   exact wpS_pure ⟨rfl,x,rfl,a1,a2,a3,fun _=>q⟩
  | false=>
   simp only[Bool.false_eq_true,if_false]
   exact wpS_pure ⟨rfl,rfl,by lia,h4,a3.more O h hg a1 (by lia) q⟩
 case post=>
  rintro c st' ⟨rfl,n,rfl,a1,a2,a3,a4⟩
  dsimp only
  by_cases c1:(n == nrem)=true
  ·rw[if_pos c1]
   exact wpS_pure (hQ n _ h rfl a1 a2 a3 (Out.refl _))
  rw[if_neg c1]
  have hn:n<nrem:=by
   have:¬n=nrem:=fun z=>c1 (by rw[z];simp)
   lia
  have sm:=a4 hn
  have sm':=O.tot (h.ok hg (by lia)) (h.ok hg (by lia)) sm
  by_cases c2:n > 1
  ·rw[if_pos c2]
   refine wpS_bind (D8 C h hg (by lia) (by lia) ?_)
   cases q:lt (G (arrOf st') lo) (G (arrOf st') (lo+n - 1)) with
   | true=>
    simp only[if_true]
    exact wpS_pure (hQ n _ h rfl a1 a2 a3 (Out.refl _))
   | false=>
    simp only[Bool.false_eq_true,if_false]
    rw[reverseSlice'_eq]
    refine wpS_bind (wpS_modify ?_)
    have like:∀ p q',lo<=p->p<lo+n->lo<=q'->q'<lo+n->LE lt (G (arrOf st') p) (G (arrOf st') q'):=fun p q' b1 b2 b3 b4=>
     O.tr (h.ok hg (by lia)) (h.ok hg (by lia)) (h.ok hg (by lia)) (a3 p (lo+n - 1) b1 (by lia) (by lia)) (O.tr (h.ok hg (by lia)) (h.ok hg (by lia)) (h.ok hg (by lia)) q (a3 lo q' (Nat.le_refl _) b3 b4))
    have d0:Dsc lt (arrOf st') lo n:=fun p q' b1 b2 b3=>like q' p (by lia) (by lia) b1 (by lia)
    have d1:Dsc lt (arrOf st') lo (n+1):=d0.more O h hg a1 (by lia) sm'
    have d2:=d1.same O (i:=lo) (j:=lo+n) (by lia) (h.gs hg) (Nat.le_refl _) (by lia) (by lia) fun p q' b1 b2 b3 b4=>like p q' b1 b2 b3 b4
    refine KN (st:=setArr st' (mirror (arrOf st') lo (lo+n) ((lo+n - lo) / 2))) C O (h.put (mirror_perm _ _ _ _)) hg hs a1 hn d2 fun m st2 B p0 p1 p2 p3 p4=>hQ m st2 B p0 p1 p2 p3 ?_
    exact (EU (hi:=lo+nrem) (by lia) (Nat.le_refl _) (by lia)).trans p4
  ·rw[if_neg c2]
   have e:n=1:=by lia
   subst e
   have d0:Dsc lt (arrOf st') lo 1:=fun p q' b1 b2 b3=>by
    have:p=q':=by lia
    subst this
    exact O.rf (h.ok hg (by lia))
   exact KN C O h hg hs (Nat.le_refl _) hn (d0.more O h hg (Nat.le_refl _) (by lia) sm') hQ
theorem ML {xs:Array Keyed} {src d:Nat} (hs:src<xs.size) (hd:d<=src) (k:Nat):G (bubble xs src d) k=if k=src - d then G xs src else if src - d<k/\k<=src then G xs (k - 1) else G xs k:=by
 have e:=getElem?_bubble hs d hd k
 by_cases h1:k=src - d
 ·rw[if_pos h1] at e ⊢;exact B7 e
 ·rw[if_neg h1] at e ⊢
  by_cases h2:src - d<k/\k<=src
  ·rw[if_pos h2] at e ⊢;exact B7 e
  ·rw[if_neg h2] at e ⊢;exact B7 e
theorem Tn {xs:Array Keyed} {src d lo hi:Nat} (hs:src<xs.size) (hd:d<=src) (h1:lo<=src - d) (h2:src<hi):Out lo hi xs (bubble xs src d):=fun k hk=>by
 rw[getElem?_bubble hs d hd,if_neg (by lia),if_neg (by lia)]
theorem NO {Q:Bool->SortSt->Prop} (C:Cmp prog w A E s kd good lt) (O:Ord good lt) (h:SB kd a₀ st) (hg:∀ x∈a₀.toList,good x) {n ok:Nat} (hs:lo+n<=a₀.size) (h1:1<=ok) (h2:ok<=n) (ha:Asc lt (arrOf st) lo ok)
  (hQ:∀ st',SB kd a₀ st'->pendingOf st'=pendingOf st->Asc lt (arrOf st') lo n->Out lo (lo+n) (arrOf st) (arrOf st')->Q true st'):wpS (model prog w) A E s (binarySort' lo n ok) Q st:=by
 rw[binarySort'_eq]
 refine wpS_bind (wpS_mono (wpS_forRange (I:=fun k c st'=>c=(none,())/\SB kd a₀ st'/\pendingOf st'=pendingOf st/\Asc lt (arrOf st') lo k/\Out lo (lo+n) (arrOf st) (arrOf st'))
  (Q:=fun c st'=>c=(none,())/\SB kd a₀ st'/\pendingOf st'=pendingOf st/\Asc lt (arrOf st') lo n/\Out lo (lo+n) (arrOf st) (arrOf st')) ?step ?fin ?init) ?post)
 case post=>
  rintro c st' ⟨rfl,B,p0,a,ou⟩
  exact wpS_pure (hQ st' B p0 a ou)
 case init=>
  refine ⟨rfl,h,rfl,?_,Out.refl _⟩
  rwa [show max ok 1=ok by lia]
 case fin=>
  rintro c st' ⟨hc,B,p0,a,ou⟩
  refine ⟨hc,B,p0,?_,ou⟩
  rwa [show max (max ok 1) n=n by lia] at a
 case step=>
  rintro k c st' hak hkn ⟨rfl,B,p0,a,ou⟩
  have sz:=B.size
  refine wpS_bind (wpS_mono (wpS_forRange (I:=fun x c st''=>st''=st'/\∃ l r,c=(none,l,r)/\l<=r/\r<=k/\r - l<=k - x /\
    (∀ i,i<l->LE lt (G (arrOf st') (lo+i)) (G (arrOf st') (lo+k)))/\(∀ i,r<=i->i<k->LE lt (G (arrOf st') (lo+k)) (G (arrOf st') (lo+i))))
   (Q:=fun c st''=>st''=st'/\∃ l r,c=(none,l,r)/\l<=k /\
    (∀ i,i<l->LE lt (G (arrOf st') (lo+i)) (G (arrOf st') (lo+k)))/\(∀ i,l<=i->i<k->LE lt (G (arrOf st') (lo+k)) (G (arrOf st') (lo+i)))) ?istep ?ifin ?iinit) ?ipost)
  case iinit=>exact ⟨rfl,0,k,rfl,by lia,by lia,by lia,fun i hi=>by lia,fun i b1 b2=>by lia⟩
  case ifin=>
   rintro c st'' ⟨rfl,l,r,rfl,b1,b2,b3,b4,b5⟩
   have:l=r:=by lia
   subst this
   exact ⟨rfl,l,l,rfl,b2,b4,b5⟩
  case istep=>
   rintro x c st'' _ hxk ⟨rfl,l,r,rfl,b1,b2,b3,b4,b5⟩
   dsimp only
   by_cases hge:l>=r
   ·rw[if_pos hge]
    have:l=r:=by lia
    subst this
    exact wpS_pure ⟨rfl,l,l,rfl,b2,b4,b5⟩
   ·rw[if_neg hge]
    refine wpS_bind (D8 C B hg (by lia) (by lia) ?_)
    cases q:lt (G (arrOf st'') (lo+k)) (G (arrOf st'') (lo+(l+r) / 2)) with
    | true=>
     simp only[if_true]
     have q':=O.tot (B.ok hg (by lia)) (B.ok hg (by lia)) q
     exact wpS_pure ⟨rfl,l,(l+r) / 2,rfl,by lia,by lia,by lia,b4,fun i c1 c2=>O.tr (B.ok hg (by lia)) (B.ok hg (by lia)) (B.ok hg (by lia)) q' (a _ _ (by lia) (by lia) (by lia))⟩
    | false=>
     simp only[Bool.false_eq_true,if_false]
     exact wpS_pure ⟨rfl,(l+r) / 2+1,r,rfl,by lia,by lia,by lia,fun i c1=>O.tr (B.ok hg (by lia)) (B.ok hg (by lia)) (B.ok hg (by lia)) (a (lo+i) (lo+(l+r) / 2) (by lia) (by lia) (by lia)) q,b5⟩
  case ipost=>
   rintro c st'' ⟨rfl,l,r,rfl,b1,b4,b5⟩
   show wpS _ _ _ _ (do moveDown' (lo+k) (lo+l);pure (ForInStep.yield (none,()))) _ _
   rw[moveDown'_eq]
   have hks:lo+k<(arrOf st'').size:=by lia
   refine wpS_bind (wpS_modify (wpS_pure ⟨rfl,B.put (bubble_perm _ _ _),p0,?_,ou.trans (Tn hks (by lia) (by lia) (by lia))⟩))
   intro i j hi hij hj
   show LE lt (G (bubble (arrOf st'') (lo+k) (lo+k - (lo+l))) i) (G (bubble (arrOf st'') (lo+k) (lo+k - (lo+l))) j)
   rw[ML hks (by lia),ML hks (by lia),show lo+k - (lo+k - (lo+l))=lo+l by lia]
   have e4:∀ m,lo<=m->m<lo+l->LE lt (G (arrOf st'') m) (G (arrOf st'') (lo+k)):=fun m m1 m2=>by
    have:=b4 (m - lo) (by lia)
    rwa [show lo+(m - lo)=m by lia] at this
   have e5:∀ m,lo+l<=m->m<lo+k->LE lt (G (arrOf st'') (lo+k)) (G (arrOf st'') m):=fun m m1 m2=>by
    have:=b5 (m - lo) (by lia) (by lia)
    rwa [show lo+(m - lo)=m by lia] at this
   repeat' split
   all_goals first
    | (exfalso;lia)
    | exact O.rf (B.ok hg (by lia))
    | exact e4 _ (by lia) (by lia)
    | exact e5 _ (by lia) (by lia)
    | exact a _ _ (by lia) (by lia) (by lia)
end
theorem Oz (i:Nat):mergeAt' i=(do
 let s <-get
 let (some (sa,na,pw),some (sb,nb,_)):=((pendingOf s)[i]?,(pendingOf s)[i+1]?) | unsupported "internal:list.sort.pending"
 set (setPending s (((pendingOf s).setIfInBounds i (sa,na+nb,pw)).eraseIdxIfInBounds (i+1)))
 let some k <-gal false (<-elem' (arrOf s) sb) (arrOf s) sa na 0 | return false
 let (sa,na):=(sa+k,na - k)
 if na == 0 then return true
 let some nb <-gal true (<-elem' (arrOf s) (sa+na - 1)) (arrOf s) sb nb (nb - 1) | return false
 if nb == 0 then return true
 let x:=(arrOf s).extract sa sb
 let y:=(arrOf s).extract sb (sb+nb)
 let m <-if na<=nb then mLo x y else mHi x y
 modify fun s=>setArr s (m.toList.zipIdx.foldl (fun a (p,j)=>a.setIfInBounds (sa+j) p) (arrOf s))
 return (failedOf (<-get)).isNone):=rfl
theorem JM {f:Array Keyed->Keyed×Nat->Array Keyed} {o:Nat} (hf:∀ a p j,f a (p,j)=a.setIfInBounds (o+j) p):∀ (m:List Keyed) (j0:Nat) (xs:Array Keyed),o+j0+m.length<=xs.size ->
  ((m.zipIdx j0).foldl f xs).size=xs.size/\∀ k,((m.zipIdx j0).foldl f xs)[k]?=if o+j0<=k/\k<o+j0+m.length then m[k - (o+j0)]? else xs[k]?
 | [],j0,xs,_=>⟨rfl,fun k=>by rw[if_neg (by rw[List.length_nil];lia)];rfl⟩
 | x::m,j0,xs,h=>by
  rw[List.length_cons] at h
  have ih:=JM hf m (j0+1) (f xs (x,j0)) (by rw[hf,Array.size_setIfInBounds];lia)
  rw[List.zipIdx_cons,List.foldl_cons]
  refine ⟨by rw[ih.1,hf,Array.size_setIfInBounds],fun k=>?_⟩
  rw[ih.2 k,hf,List.length_cons]
  by_cases c:k=o+j0
  ·subst c
   rw[if_neg (by lia),if_pos (by lia),Nat.sub_self,Array.getElem?_setIfInBounds_self_of_lt (by lia)]
   rfl
  ·rw[Array.getElem?_setIfInBounds_ne (by lia)]
   by_cases c2:o+(j0+1)<=k/\k<o+(j0+1)+m.length
   ·rw[if_pos c2,if_pos (by lia),show k - (o+j0)=(k - (o+(j0+1)))+1 by lia,List.getElem?_cons_succ]
   ·rw[if_neg c2,if_neg (by lia)]
section
variable {prog:Program} {w:World} {A:Around} {E:Value->Shared->Prop} {s:Shared} {kd:SortKind} {good:Keyed->Prop} {lt:Keyed->Keyed->Bool} {st:SortSt} {a₀:Array Keyed}
theorem Cj {xs:Array Keyed} {i:Nat} {x:Keyed} (h:xs.toList[i]?=some x):G xs i=x:=by
 unfold G
 rw[<-Array.getElem?_toList,h]
 rfl
theorem GS {xs:Array Keyed} {i:Nat} (h:i<xs.size):xs.toList[i]?=some (G xs i):=by
 rw[Array.getElem?_toList]
 exact Ee h
theorem Asc.sl {lo n u v:Nat} {xs:Array Keyed} (hg:∀ k,k<xs.size->good (G xs k)) (a:Asc lt xs lo n) (h1:lo<=u) (h2:v<=lo+n) (h3:v<=xs.size):SL good lt (xs.extract u v).toList:=by
 have at_:∀ i x,(xs.extract u v).toList[i]?=some x->x=G xs (u+i)/\u+i<v:=fun i x hx=>by
  rw[DR] at hx
  have hl:=Ce hx
  rw[List.length_take,List.length_drop,Array.length_toList] at hl
  rw[List.getElem?_take_of_lt (by lia),List.getElem?_drop] at hx
  exact ⟨(Cj hx).symm,by lia⟩
 refine ⟨fun x hx=>?_,List.pairwise_iff_getElem.mpr fun i j hi hj hij=>?_⟩
 ·obtain ⟨i,hi⟩:=List.mem_iff_getElem?.mp hx
  obtain ⟨e,l⟩:=at_ i x hi
  rw[e]
  exact hg _ (by lia)
 ·obtain ⟨e1,l1⟩:=at_ i _ (List.getElem?_eq_getElem hi)
  obtain ⟨e2,l2⟩:=at_ j _ (List.getElem?_eq_getElem hj)
  rw[e1,e2]
  exact a _ _ (by lia) (by lia) (by lia)
theorem Nz {Q:Bool->SortSt->Prop} (C:Cmp prog w A E s kd good lt) (O:Ord good lt) (h:SB kd a₀ st) (hg:∀ x∈a₀.toList,good x) {i s1 n1 p1 n2 p2:Nat} (e1:(pendingOf st)[i]?=some (s1,n1,p1)) (e2:(pendingOf st)[i+1]?=some (s1+n1,n2,p2))
  (l1:1<=n1) (l2:1<=n2) (hs:s1+n1+n2<=a₀.size) (a1:Asc lt (arrOf st) s1 n1) (a2:Asc lt (arrOf st) (s1+n1) n2)
  (hQ:∀ st',SB kd a₀ st'->pendingOf st'=((pendingOf st).setIfInBounds i (s1,n1+n2,p1)).eraseIdxIfInBounds (i+1)->Asc lt (arrOf st') s1 (n1+n2)->Out s1 (s1+n1+n2) (arrOf st) (arrOf st')->Q true st') :
  wpS (model prog w) A E s (mergeAt' i) Q st:=by
 rw[Oz]
 refine wpS_bind (wpS_get ?_)
 rw[e1,e2]
 dsimp only
 have sz:=h.size
 have gs:=h.gs hg
 refine wpS_bind (m:=set _) ?_
 show wpS (model prog w) A E s (modify fun _=>setPending st (((pendingOf st).setIfInBounds i (s1,n1+n2,p1)).eraseIdxIfInBounds (i+1))) _ st
 refine wpS_modify ?_
 have B1:SB kd a₀ (setPending st (((pendingOf st).setIfInBounds i (s1,n1+n2,p1)).eraseIdxIfInBounds (i+1))):=⟨h.perm,h.kind,h.fail⟩
 refine wpS_bind (A4 (Ee (by lia)) (wpS_bind (EB (xs:=arrOf st) (bs:=s1) (n:=n1) (h:=0) C O B1.kind (gs _ (by lia)) (by lia) (fun i hi x hx=>?_) (fun i j x y hij hj hx hy=>?_) (by lia) fun k k1 k2 k3=>?_)))
 ·rw[<-Cj hx];exact gs _ (by lia)
 ·rw[<-Cj hx,<-Cj hy];exact a1 _ _ (by lia) (by lia) (by lia)
 have k2':∀ m,s1<=m->m<s1+k->LE lt (G (arrOf st) m) (G (arrOf st) (s1+n1)):=fun m m1 m2=>k2 (m - s1) _ (by lia) (by rw[show s1+(m - s1)=m by lia];exact GS (by lia))
 have k3':∀ m,s1+k<=m->m<s1+n1->LE lt (G (arrOf st) (s1+n1)) (G (arrOf st) m):=fun m m1 m2=>k3 (m - s1) _ (by lia) (by lia) (by rw[show s1+(m - s1)=m by lia];exact GS (by lia))
 dsimp only
 by_cases c1:(n1 - k == 0)=true
 ·rw[if_pos c1]
  have c1':n1 - k=0:=eq_of_beq c1
  refine wpS_pure (hQ _ B1 rfl (fun p q b1 b2 b3=>?_) (Out.refl _))
  by_cases d1:q<s1+n1
  ·exact a1 p q b1 b2 d1
  ·by_cases d2:p<s1+n1
   ·exact O.tr (gs _ (by lia)) (gs _ (by lia)) (gs _ (by lia)) (k2' p b1 (by lia)) (a2 _ q (Nat.le_refl _) (by lia) (by lia))
   ·exact a2 p q (by lia) b2 (by lia)
 rw[if_neg c1]
 have c1':k<n1:=by
  have:¬n1 - k=0:=fun z=>c1 (by rw[z];rfl)
  lia
 rw[show s1+k+(n1 - k) - 1=s1+n1 - 1 by lia]
 refine wpS_bind (A4 (Ee (by lia)) (wpS_bind (EB (xs:=arrOf st) (bs:=s1+n1) (n:=n2) (h:=n2 - 1) C O B1.kind (gs _ (by lia)) (by lia) (fun i hi x hx=>?_) (fun i j x y hij hj hx hy=>?_) (by lia) fun u j1 j2 j3=>?_)))
 ·rw[<-Cj hx];exact gs _ (by lia)
 ·rw[<-Cj hx,<-Cj hy];exact a2 _ _ (by lia) (by lia) (by lia)
 have j2':∀ m,s1+n1<=m->m<s1+n1+u->LE lt (G (arrOf st) m) (G (arrOf st) (s1+n1 - 1)):=fun m m1 m2=>j2 (m - (s1+n1)) _ (by lia) (by rw[show s1+n1+(m - (s1+n1))=m by lia];exact GS (by lia))
 have j3':∀ m,s1+n1+u<=m->m<s1+n1+n2->LE lt (G (arrOf st) (s1+n1 - 1)) (G (arrOf st) m):=fun m m1 m2=>j3 (m - (s1+n1)) _ (by lia) (by lia) (by rw[show s1+n1+(m - (s1+n1))=m by lia];exact GS (by lia))
 dsimp only
 by_cases c2:(u == 0)=true
 ·rw[if_pos c2]
  have c2':u=0:=eq_of_beq c2
  refine wpS_pure (hQ _ B1 rfl (fun p q b1 b2 b3=>?_) (Out.refl _))
  by_cases d1:q<s1+n1
  ·exact a1 p q b1 b2 d1
  ·by_cases d2:p<s1+n1
   ·exact O.tr (gs _ (by lia)) (gs _ (by lia)) (gs _ (by lia)) (a1 p (s1+n1 - 1) b1 (by lia) (by lia)) (j3' q (by lia) (by lia))
   ·exact a2 p q (by lia) b2 (by lia)
 rw[if_neg c2]
 have c2':0<u:=by
  have:¬u=0:=fun z=>c2 (by rw[z];rfl)
  lia
 have sx:SL good lt ((arrOf st).extract (s1+k) (s1+n1)).toList:=a1.sl gs (by lia) (by lia) (by lia)
 have sy:SL good lt ((arrOf st).extract (s1+n1) (s1+n1+u)).toList:=a2.sl gs (by lia) (by lia) (by lia)
 have zx:((arrOf st).extract (s1+k) (s1+n1)).size=n1 - k:=by rw[Array.size_extract];lia
 have zy:((arrOf st).extract (s1+n1) (s1+n1+u)).size=u:=by rw[Array.size_extract];lia
 have gx:∀ i x,((arrOf st).extract (s1+k) (s1+n1)).toList[i]?=some x->x=G (arrOf st) (s1+k+i)/\s1+k+i<s1+n1:=fun i x hx=>by
  have hl:=Ce hx
  rw[Array.length_toList,zx] at hl
  rw[DR,List.getElem?_take_of_lt (by lia),List.getElem?_drop] at hx
  exact ⟨(Cj hx).symm,by lia⟩
 have gy:∀ i x,((arrOf st).extract (s1+n1) (s1+n1+u)).toList[i]?=some x->x=G (arrOf st) (s1+n1+i)/\i<u:=fun i x hx=>by
  have hl:=Ce hx
  rw[Array.length_toList,zy] at hl
  rw[DR,List.getElem?_take_of_lt (by lia),List.getElem?_drop] at hx
  exact ⟨(Cj hx).symm,hl⟩
 have fin:∀ (m:Array Keyed) (st2:SortSt),SG (setPending st (((pendingOf st).setIfInBounds i (s1,n1+n2,p1)).eraseIdxIfInBounds (i+1))) st2 ->
   Good lt ((arrOf st).extract (s1+k) (s1+n1)).toList ((arrOf st).extract (s1+n1) (s1+n1+u)).toList m.toList ->
   wpS (model prog w) A E s (do
    modify fun s=>setArr s (m.toList.zipIdx.foldl (fun a (p,j)=>a.setIfInBounds (s1+k+j) p) (arrOf s))
    return (failedOf (<-get)).isNone) Q st2:=fun m st2 g gd=>by
  refine wpS_bind (wpS_modify (wpS_bind (wpS_get (wpS_pure ?_))))
  have hm:m.toList.length=(n1 - k)+u:=by
   have:=gd.1.length_eq
   rw[List.length_append] at this
   simp only[Array.length_toList,zx,zy] at this ⊢
   exact this
  have garr:arrOf st2=arrOf st:=g.arr
  obtain ⟨w1,w2⟩:=JM (f:=fun a (p,j)=>a.setIfInBounds (s1+k+j) p) (o:=s1+k) (fun _ _ _=>rfl) m.toList 0 (arrOf st2) (by rw[garr,hm];lia)
  rw[garr] at w1 w2
  simp only[Nat.add_zero] at w2
  have hf:(failedOf (setArr st2 (m.toList.zipIdx.foldl (fun a (p,j)=>a.setIfInBounds (s1+k+j) p) (arrOf st2)))).isNone=true:=by
   show (failedOf st2).isNone=true
   rw[g.fail]
   show (failedOf st).isNone=true
   rw[h.fail]
   rfl
  rw[hf]
  have elist:(m.toList.zipIdx.foldl (fun a (p,j)=>a.setIfInBounds (s1+k+j) p) (arrOf st)).toList=(arrOf st).toList.take (s1+k)++(m.toList++(arrOf st).toList.drop (s1+n1+u)):=by
   refine List.ext_getElem? fun j=>?_
   rw[Array.getElem?_toList,w2 j]
   have ht:((arrOf st).toList.take (s1+k)).length=s1+k:=by rw[List.length_take,Array.length_toList];lia
   by_cases d1:j<s1+k
   ·rw[if_neg (by lia),List.getElem?_append_left (by lia),List.getElem?_take_of_lt d1,Array.getElem?_toList]
   ·rw[List.getElem?_append_right (by lia),ht]
    by_cases d2:j<s1+k+m.toList.length
    ·rw[if_pos (by lia),List.getElem?_append_left (by lia)]
    ·rw[if_neg (by lia),List.getElem?_append_right (by lia),List.getElem?_drop,Array.getElem?_toList]
     congr 1
     lia
  have orig:(arrOf st).toList=(arrOf st).toList.take (s1+k)++((((arrOf st).extract (s1+k) (s1+n1)).toList++((arrOf st).extract (s1+n1) (s1+n1+u)).toList)++(arrOf st).toList.drop (s1+n1+u)):=by
   refine List.ext_getElem? fun j=>?_
   have ht:((arrOf st).toList.take (s1+k)).length=s1+k:=by rw[List.length_take,Array.length_toList];lia
   by_cases d1:j<s1+k
   ·rw[List.getElem?_append_left (by lia),List.getElem?_take_of_lt d1]
   ·rw[List.getElem?_append_right (by lia),ht,List.append_assoc]
    by_cases d2:j<s1+n1
    ·rw[List.getElem?_append_left (by rw[Array.length_toList,zx];lia),DR,List.getElem?_take_of_lt (by lia),List.getElem?_drop]
     congr 1
     lia
    ·rw[List.getElem?_append_right (by rw[Array.length_toList,zx];lia),Array.length_toList,zx]
     by_cases d3:j<s1+n1+u
     ·rw[List.getElem?_append_left (by rw[Array.length_toList,zy];lia),DR,List.getElem?_take_of_lt (by lia),List.getElem?_drop]
      congr 1
      lia
     ·rw[List.getElem?_append_right (by rw[Array.length_toList,zy];lia),Array.length_toList,zy,List.getElem?_drop]
      congr 1
      lia
  have hp:(m.toList.zipIdx.foldl (fun a (p,j)=>a.setIfInBounds (s1+k+j) p) (arrOf st)).Perm (arrOf st):=by
   refine Array.perm_iff_toList_perm.mpr ?_
   rw[elist]
   exact List.Perm.trans (List.Perm.append_left _ (List.Perm.append_right _ gd.1)) (List.Perm.of_eq orig.symm)
  have nw:arrOf (setArr st2 (m.toList.zipIdx.foldl (fun a (p,j)=>a.setIfInBounds (s1+k+j) p) (arrOf st2)))=m.toList.zipIdx.foldl (fun a (p,j)=>a.setIfInBounds (s1+k+j) p) (arrOf st):=by rw[garr]
  refine hQ _ ⟨?_,g.kind.trans h.kind,g.fail.trans h.fail⟩ g.pend ?_ ?_
  ·rw[nw]
   exact hp.trans h.perm
  ·rw[nw]
   have gm:∀ j,s1+k<=j->j<s1+n1+u->∃ z,m.toList[j - (s1+k)]?=some z/\G (m.toList.zipIdx.foldl (fun a (p,j)=>a.setIfInBounds (s1+k+j) p) (arrOf st)) j=z/\z∈m.toList:=fun j b1 b2=>by
    have e:m.toList[j - (s1+k)]?=some m.toList[j - (s1+k)]:=List.getElem?_eq_getElem (by lia)
    refine ⟨_,e,?_,List.mem_of_getElem? e⟩
    unfold G
    rw[w2 j,if_pos (by lia),e]
    rfl
   have go:∀ j,(j<s1+k\/s1+n1+u<=j)->G (m.toList.zipIdx.foldl (fun a (p,j)=>a.setIfInBounds (s1+k+j) p) (arrOf st)) j=G (arrOf st) j:=fun j b=>B7 (by rw[w2 j,if_neg (by lia)])
   have mem:∀ z∈m.toList,good z/\(∀ j,s1<=j->j<s1+k->LE lt (G (arrOf st) j) z)/\∀ j,s1+n1+u<=j->j<s1+n1+n2->LE lt z (G (arrOf st) j):=fun z hz=>by
    rcases List.mem_append.mp (gd.1.mem_iff.mp hz) with hz | hz
    ·obtain ⟨i',hi'⟩:=List.mem_iff_getElem?.mp hz
     obtain ⟨rfl,l⟩:=gx i' z hi'
     refine ⟨gs _ (by lia),fun j b1 b2=>a1 _ _ b1 (by lia) (by lia),fun j b1 b2=>?_⟩
     exact O.tr (gs _ (by lia)) (gs _ (by lia)) (gs _ (by lia)) (a1 _ (s1+n1 - 1) (by lia) (by lia) (by lia)) (j3' j b1 b2)
    ·obtain ⟨i',hi'⟩:=List.mem_iff_getElem?.mp hz
     obtain ⟨rfl,l⟩:=gy i' z hi'
     refine ⟨gs _ (by lia),fun j b1 b2=>?_,fun j b1 b2=>a2 _ _ (by lia) (by lia) (by lia)⟩
     exact O.tr (gs _ (by lia)) (gs _ (by lia)) (gs _ (by lia)) (k2' j b1 b2) (a2 _ _ (Nat.le_refl _) (by lia) (by lia))
   intro p q b1 b2 b3
   by_cases d1:p<s1+k
   ·rw[go p (.inl d1)]
    by_cases d2:q<s1+k
    ·rw[go q (.inl d2)];exact a1 _ _ b1 b2 (by lia)
    by_cases d3:q<s1+n1+u
    ·obtain ⟨z,_,e,hz⟩:=gm q (by lia) d3
     rw[e];exact (mem z hz).2.1 p b1 d1
    ·rw[go q (.inr (by lia))]
     exact O.tr (gs _ (by lia)) (gs _ (by lia)) (gs _ (by lia)) (k2' p b1 d1) (a2 _ _ (Nat.le_refl _) (by lia) (by lia))
   by_cases d3:p<s1+n1+u
   ·obtain ⟨z,ez,e,hz⟩:=gm p (by lia) d3
    rw[e]
    by_cases d4:q<s1+n1+u
    ·obtain ⟨z',ez',e',hz'⟩:=gm q (by lia) d4
     rw[e']
     by_cases d5:p=q
     ·subst d5
      rw[ez] at ez'
      cases ez'
      exact O.rf (mem z hz).1
     ·obtain ⟨h1',q1⟩:=List.getElem?_eq_some_iff.mp ez
      obtain ⟨h2',q2⟩:=List.getElem?_eq_some_iff.mp ez'
      rw[<-q1,<-q2]
      exact List.pairwise_iff_getElem.mp gd.2 _ _ h1' h2' (by lia)
    ·rw[go q (.inr (by lia))]
     exact (mem z hz).2.2 q (by lia) (by lia)
   ·rw[go p (.inr (by lia)),go q (.inr (by lia))]
    exact a2 _ _ (by lia) b2 (by lia)
  ·intro j hj
   rw[nw,w2 j,if_neg (by lia)]
 have h1':∀ x,((arrOf st).extract (s1+k) (s1+n1)).toList[((arrOf st).extract (s1+k) (s1+n1)).size - 1]?=some x->∀ y∈((arrOf st).extract (s1+n1) (s1+n1+u)).toList,LE lt y x:=fun x hx y hy=>by
  obtain ⟨rfl,l⟩:=gx _ x hx
  obtain ⟨i',hi'⟩:=List.mem_iff_getElem?.mp hy
  obtain ⟨rfl,l'⟩:=gy i' y hi'
  rw[zx,show s1+k+(n1 - k - 1)=s1+n1 - 1 by lia]
  exact j2' _ (by lia) (by lia)
 have h0':∀ y,((arrOf st).extract (s1+n1) (s1+n1+u)).toList[0]?=some y->∀ x∈((arrOf st).extract (s1+k) (s1+n1)).toList,LE lt y x:=fun y hy x hx=>by
  obtain ⟨rfl,l⟩:=gy _ y hy
  obtain ⟨i',hi'⟩:=List.mem_iff_getElem?.mp hx
  obtain ⟨rfl,l'⟩:=gx i' x hi'
  exact k3' _ (by lia) (by lia)
 by_cases c3:n1 - k<=u
 ·rw[if_pos c3]
  exact wpS_bind (TX C O B1.kind sx sy (by lia) (by lia) (fun x y hx hy=>h0' y hy x (List.mem_of_getElem? hx)) h1' fun r st' g gd=>fin r st' g gd)
 ·rw[if_neg c3]
  exact wpS_bind (Oc C O B1.kind sx sy (by lia) (by lia) h0' h1' fun r st' g gd=>fin r st' g gd)
end
def Ch (lt:Keyed->Keyed->Bool) (xs:Array Keyed):Nat->List (Nat×Nat×Nat)->Nat->Prop
 | s,[],e=>s=e
 | s,(t,n,_)::r,e=>t=s/\1<=n/\Asc lt xs s n/\Ch lt xs (s+n) r e
section
variable {lt:Keyed->Keyed->Bool} {xs ys:Array Keyed}
theorem Ch.app:∀ {P R:List (Nat×Nat×Nat)} {s e:Nat},Ch lt xs s (P++R) e->∃ m,Ch lt xs s P m/\Ch lt xs m R e
 | [],_,s,_,h=>⟨s,rfl,h⟩
 | (t,n,p)::P,R,s,e,h=>by
  obtain ⟨h1,h2,h3,h4⟩:=h
  obtain ⟨m,a,b⟩:=Ch.app (P:=P) h4
  exact ⟨m,⟨h1,h2,h3,a⟩,b⟩
theorem Ch.join:∀ {P R:List (Nat×Nat×Nat)} {s m e:Nat},Ch lt xs s P m->Ch lt xs m R e->Ch lt xs s (P++R) e
 | [],_,s,m,_,h,k=>by
  have h':s=m:=h
  subst h'
  exact k
 | (t,n,p)::P,R,s,m,e,h,k=>by
  obtain ⟨h1,h2,h3,h4⟩:=h
  exact ⟨h1,h2,h3,Ch.join (P:=P) h4 k⟩
theorem Ch.le:∀ {P:List (Nat×Nat×Nat)} {s e:Nat},Ch lt xs s P e->s+P.length<=e
 | [],s,e,h=>by
  have h':s=e:=h
  simp[h']
 | (t,n,p)::P,s,e,h=>by
  obtain ⟨h1,h2,h3,h4⟩:=h
  have:=Ch.le (P:=P) h4
  rw[List.length_cons]
  lia
theorem Asc.keep {lo n:Nat} (a:Asc lt xs lo n) (h:∀ k,lo<=k->k<lo+n->G ys k=G xs k):Asc lt ys lo n:=fun i j h1 h2 h3=>by
 rw[h i h1 (by lia),h j (by lia) h3]
 exact a i j h1 h2 h3
theorem Ch.keep:∀ {P:List (Nat×Nat×Nat)} {s e:Nat},Ch lt xs s P e->(∀ k,s<=k->k<e->G ys k=G xs k)->Ch lt ys s P e
 | [],_,_,h,_=>h
 | (t,n,p)::P,s,e,h,k=>by
  obtain ⟨h1,h2,h3,h4⟩:=h
  have:=Ch.le h4
  exact ⟨h1,h2,h3.keep fun i a b=>k i a (by lia),Ch.keep (P:=P) h4 fun i a b=>k i (by lia) b⟩
end
theorem Lq {α:Type} (a b x:α) (l2:List α):∀ l1:List α,((l1++a::b::l2).set l1.length x).eraseIdx (l1.length+1)=l1++x::l2
 | []=>rfl
 | c::l1=>by
  show c::(((l1++a::b::l2).set l1.length x).eraseIdx (l1.length+1))=c::(l1++x::l2)
  rw[Lq a b x l2 l1]
section
variable {prog:Program} {w:World} {A:Around} {E:Value->Shared->Prop} {s:Shared} {kd:SortKind} {good:Keyed->Prop} {lt:Keyed->Keyed->Bool} {st:SortSt} {a₀:Array Keyed}
theorem JO {Q:Bool->SortSt->Prop} (C:Cmp prog w A E s kd good lt) (O:Ord good lt) (h:SB kd a₀ st) (hg:∀ x∈a₀.toList,good x) {i e:Nat} (hc:Ch lt (arrOf st) 0 (pendingOf st).toList e) (he:e<=a₀.size) (hi:i+1<(pendingOf st).size)
  (hQ:∀ st',SB kd a₀ st'->Ch lt (arrOf st') 0 (pendingOf st').toList e->(pendingOf st').size+1=(pendingOf st).size->(∀ k,e<=k->G (arrOf st') k=G (arrOf st) k)->Q true st'):wpS (model prog w) A E s (mergeAt' i) Q st:=by
 obtain ⟨x,d1⟩:∃ x,(pendingOf st).toList[i]?=some x:=⟨_,List.getElem?_eq_getElem (by rw[Array.length_toList];lia)⟩
 obtain ⟨y,d2⟩:∃ x,(pendingOf st).toList[i+1]?=some x:=⟨_,List.getElem?_eq_getElem (by rw[Array.length_toList];lia)⟩
 have split:(pendingOf st).toList=(pendingOf st).toList.take i++x::y::(pendingOf st).toList.drop (i+2):=by
  obtain ⟨g1,e1⟩:=List.getElem?_eq_some_iff.mp d1
  obtain ⟨g2,e2⟩:=List.getElem?_eq_some_iff.mp d2
  rw[<-e1,<-e2,<-List.drop_eq_getElem_cons g2,<-List.drop_eq_getElem_cons g1,List.take_append_drop]
 have lt1:((pendingOf st).toList.take i).length=i:=by rw[List.length_take,Array.length_toList];lia
 obtain ⟨s1,n1,p1⟩:=x
 obtain ⟨s2,n2,p2⟩:=y
 have hc':=hc
 rw[split] at hc'
 obtain ⟨m,c1,c2⟩:=Ch.app hc'
 obtain ⟨rfl,l1,a1,rfl,l2,a2,c3⟩:=c2
 have hle:=Ch.le c3
 refine Nz C O h hg (by rw[<-Array.getElem?_toList];exact d1) (by rw[<-Array.getElem?_toList];exact d2) l1 l2 (by lia) a1 a2 fun st' B pe as ou=>?_
 have ep:(pendingOf st').toList=(pendingOf st).toList.take i++(s1,n1+n2,p1)::(pendingOf st).toList.drop (i+2):=by
  rw[pe,Array.toList_eraseIdxIfInBounds,Array.toList_setIfInBounds]
  have q:=Lq (s1,n1,p1) (s1+n1,n2,p2) (s1,n1+n2,p1) ((pendingOf st).toList.drop (i+2)) ((pendingOf st).toList.take i)
  rw[<-split,lt1] at q
  exact q
 refine hQ st' B ?_ ?_ fun k hk=>B7 (ou k (.inr (by lia)))
 ·rw[ep]
  have hm:=Ch.le c1
  refine Ch.join (m:=s1) (c1.keep fun k b1 b2=>B7 (ou k (.inl b2))) ⟨rfl,by lia,as,?_⟩
  rw[<-Nat.add_assoc]
  exact c3.keep fun k b1 b2=>B7 (ou k (.inr b1))
 ·have z1:=congrArg List.length ep
  have z2:=congrArg List.length split
  rw[List.length_append,List.length_cons] at z1 z2
  rw[List.length_cons] at z2
  rw[Array.length_toList] at z1 z2
  lia
theorem Ch.last {xs:Array Keyed} {P:List (Nat×Nat×Nat)} {e:Nat} {f:Nat×Nat×Nat->Nat×Nat×Nat} (hf:∀ t n p,∃ q,f (t,n,p)=(t,n,q)):∀ {s:Nat} (i:Nat),Ch lt xs s P e->Ch lt xs s (P.modify i f) e:=by
 induction P with
 | nil=>intro s i h;cases i<;>exact h
 | cons x P ih=>
  intro s i h
  obtain ⟨t,n,p⟩:=x
  obtain ⟨h1,h2,h3,h4⟩:=h
  cases i with
  | zero=>
   obtain ⟨q,e⟩:=hf t n p
   show Ch lt xs s (f (t,n,p)::P) _
   rw[e]
   exact ⟨h1,h2,h3,h4⟩
  | succ i=>exact ⟨h1,h2,h3,ih i h4⟩
theorem HP {Q:Unit->SortSt->Prop} (C:Cmp prog w A E s kd good lt) (O:Ord good lt) (h:SB kd a₀ st) (hp:pendingOf st=#[]) (hg:∀ x∈a₀.toList,good x) (h2:2<=a₀.size)
  (hQ:∀ st',SB kd a₀ st'->Asc lt (arrOf st') 0 a₀.size->Q () st'):wpS (model prog w) A E s sortRuns' Q st:=by
 rw[sortRuns'_eq]
 refine wpS_bind (wpS_get ?_)
 dsimp only
 have sz:=h.size
 rw[sz]
 generalize minRun' a₀.size a₀.size 0=mr
 refine wpS_bind (wpS_mono (wpS_forRange
  (I:=fun x c st'=>∃ lo,c=(none,lo)/\x<=lo/\lo<=a₀.size/\SB kd a₀ st'/\Ch lt (arrOf st') 0 (pendingOf st').toList lo)
  (Q:=fun c st'=>∃ lo,c=(none,lo)/\lo=a₀.size/\SB kd a₀ st'/\Ch lt (arrOf st') 0 (pendingOf st').toList lo) ?step ?fin ⟨0,rfl,Nat.le_refl _,Nat.zero_le _,h,by rw[hp];rfl⟩) ?post)
 case fin=>
  rintro c st' ⟨lo,rfl,a1,a2,B,hc⟩
  exact ⟨lo,rfl,by lia,B,hc⟩
 case step=>
  rintro x c st1 _ hx ⟨lo,rfl,a1,a2,B,hc⟩
  dsimp only
  by_cases c1:lo>=a₀.size
  ·rw[if_pos c1]
   exact wpS_pure ⟨lo,rfl,by lia,B,hc⟩
  rw[if_neg c1]
  refine wpS_bind (P7 C O B hg (by lia) (by lia) fun n st2 B2 p0 q1 q2 q3 q4=>?_)
  have hc2:Ch lt (arrOf st2) 0 (pendingOf st2).toList lo:=by
   rw[p0]
   exact hc.keep fun k _ b2=>B7 (q4 k (.inl b2))
  dsimp only
  have rest:∀ (n:Nat) (st3:SortSt),SB kd a₀ st3->Ch lt (arrOf st3) 0 (pendingOf st3).toList lo->1<=n->lo+n<=a₀.size->Asc lt (arrOf st3) lo n ->
    (∃ lo',(none,lo+n)=((none,lo'):Option Unit×Nat)/\x+1<=lo'/\lo'<=a₀.size/\SB kd a₀ (setPending st3 ((pendingOf st3).push (lo,n,0)))/\Ch lt (arrOf st3) 0 ((pendingOf st3).push (lo,n,0)).toList lo'):=fun n st3 B3 hc3 r1 r2 r3=>by
   refine ⟨lo+n,rfl,by lia,r2,⟨B3.perm,B3.kind,B3.fail⟩,?_⟩
   rw[Array.toList_push]
   exact Ch.join hc3 ⟨rfl,r1,r3,rfl⟩
  by_cases c2:n<mr
  case' pos=>
   rw[if_pos c2]
   refine wpS_bind (wpS_lift (wpAny_rule ⟨rfl,?_⟩))
   refine wpS_bind (NO (n:=min (a₀.size - lo) mr) C O B2 hg (by lia) q1 (by lia) q3 fun st2 B2 p3 q3 ou=>?_)
   simp only[Bool.not_true,Bool.false_eq_true,if_false]
   replace hc2:Ch lt (arrOf st2) 0 (pendingOf st2).toList lo:=by
    rw[p3]
    exact hc2.keep fun k _ b=>B7 (ou k (.inl b))
   have q1:1<=min (a₀.size - lo) mr:=by lia
   have q2':lo+min (a₀.size - lo) mr<=a₀.size:=by lia
   clear ou
   revert q3 q1 q2'
   generalize min (a₀.size - lo) mr=n
   intro q3 q1 q2'
  case' neg=>
   rw[if_neg c2]
   have q2':lo+n<=a₀.size:=by lia
  all_goals
   refine wpS_bind (wpS_get ?_)
   cases eb:(pendingOf st2).back? with
   | none=>
    dsimp only
    exact wpS_bind (wpS_modify (wpS_pure (rest n st2 B2 hc2 q1 q2' q3)))
   | some y=>
    obtain ⟨s1,n1,pz⟩:=y
    dsimp only
    generalize power' a₀.size (2 * s1+n1) (2 * s1+n1+n1+n) a₀.size=pw
    refine wpS_bind (wpS_mono (wpS_forRange
     (I:=fun _ c st3=>c=(none,())/\SB kd a₀ st3/\Ch lt (arrOf st3) 0 (pendingOf st3).toList lo/\Asc lt (arrOf st3) lo n)
     (Q:=fun c st3=>c=(none,())/\SB kd a₀ st3/\Ch lt (arrOf st3) 0 (pendingOf st3).toList lo/\Asc lt (arrOf st3) lo n) ?istep ?ifin ⟨rfl,B2,hc2,q3⟩) ?ipost)
    case ifin=>exact fun c st3 z=>z
    case ipost=>
     rintro c st3 ⟨rfl,B3,hc3,as3⟩
     refine wpS_bind (wpS_modify (wpS_bind (wpS_modify (wpS_pure ?_))))
     refine rest n (setPending st3 ((pendingOf st3).modify ((pendingOf st3).size - 1) fun x=>(x.fst,x.2.fst,pw))) ⟨B3.perm,B3.kind,B3.fail⟩ ?_ q1 q2' as3
     show Ch lt (arrOf st3) 0 ((pendingOf st3).modify ((pendingOf st3).size - 1) fun x=>(x.fst,x.2.fst,pw)).toList lo
     rw[Array.toList_modify]
     exact Ch.last (fun t n p=>⟨_,rfl⟩) _ hc3
    case istep=>
     rintro z c st3 _ hz ⟨rfl,B3,hc3,as3⟩
     refine wpS_bind (wpS_get ?_)
     by_cases c3:(pendingOf st3).size > 1
     ·rw[if_pos c3]
      have e3:(pendingOf st3)[(pendingOf st3).size - 2]?=some (pendingOf st3)[(pendingOf st3).size - 2]:=Array.getElem?_eq_getElem (by lia)
      rw[e3]
      generalize (pendingOf st3)[(pendingOf st3).size - 2]=y3
      obtain ⟨t3,n3,p3'⟩:=y3
      dsimp only
      by_cases c4:p3'<=pw
      ·rw[if_pos c4]
       exact wpS_pure ⟨rfl,B3,hc3,as3⟩
      ·rw[if_neg c4]
       refine wpS_bind (JO C O B3 hg hc3 a2 (by lia) fun st4 B4 hc4 _ kp=>?_)
       simp only[Bool.not_true,Bool.false_eq_true,if_false]
       exact wpS_pure ⟨rfl,B4,hc4,as3.keep fun k b1 _=>kp k b1⟩
     ·rw[if_neg c3]
      exact wpS_pure ⟨rfl,B3,hc3,as3⟩
 case post=>
  rintro c st' ⟨lo,rfl,rfl,B,hc⟩
  dsimp only
  have hl:=Ch.le hc
  rw[Array.length_toList] at hl
  refine wpS_bind (wpS_mono (wpS_forRange
   (I:=fun x c st''=>c=(none,())/\SB kd a₀ st''/\Ch lt (arrOf st'') 0 (pendingOf st'').toList a₀.size/\(pendingOf st'').size+x<=a₀.size)
   (Q:=fun c st''=>c=(none,())/\SB kd a₀ st''/\Ch lt (arrOf st'') 0 (pendingOf st'').toList a₀.size/\(pendingOf st'').size<=1) ?step ?fin ⟨rfl,B,hc,by lia⟩) ?post)
  case fin=>
   rintro c st'' ⟨rfl,B',hc',l'⟩
   exact ⟨rfl,B',hc',by lia⟩
  case post=>
   rintro c st'' ⟨rfl,B',hc',l'⟩
   refine wpS_pure (hQ st'' B' ?_)
   cases e:(pendingOf st'').toList with
   | nil=>
    rw[e] at hc'
    have z:0=a₀.size:=hc'
    lia
   | cons y r=>
    have hr:r=[]:=by
     have z:=congrArg List.length e
     rw[Array.length_toList,List.length_cons] at z
     cases r with
     | nil=>rfl
     | cons _ _=>rw[List.length_cons] at z;lia
    subst hr
    obtain ⟨t,n,p⟩:=y
    rw[e] at hc'
    obtain ⟨_,_,b3,b4⟩:=hc'
    have z:0+n=a₀.size:=b4
    rw[<-z,Nat.zero_add]
    exact b3
  case step=>
   rintro x c st'' _ hx ⟨rfl,B',hc',l'⟩
   refine wpS_bind (wpS_get ?_)
   by_cases c1:(pendingOf st'').size<=1
   ·rw[if_pos c1]
    exact wpS_pure ⟨rfl,B',hc',c1⟩
   ·rw[if_neg c1]
    refine wpS_bind (JO C O B' hg hc' (Nat.le_refl _) ?_ fun st3 B3 hc3 l3 _=>?_)
    ·have hidx:∀ c:Bool,(if c=true then (pendingOf st'').size - 2 - 1 else (pendingOf st'').size - 2)+1<(pendingOf st'').size:=fun c=>by
      cases c with
      | true=>rw[if_pos rfl];lia
      | false=>rw[if_neg Bool.false_ne_true];lia
     exact hidx _
    ·simp only[Bool.not_true,Bool.false_eq_true,if_false]
     exact wpS_pure ⟨rfl,B3,hc3,by lia⟩
end
section
variable {prog:Program} {w:World} {A:Around} {E:Value->Shared->Prop} {s:Shared}
def JZ (x:Keyed):Prop:=∃ n t,x.1=Value.int n t
def C6 (x y:Keyed):Bool:=decide (numOf x.1<numOf y.1)
theorem Tv:Cmp prog w A E s oneType' JZ C6 where
 run:=fun {st x y Q} hk gx gy hq=>by
  obtain ⟨n,t,e1⟩:=gx
  obtain ⟨m,u,e2⟩:=gy
  unfold C6 at hq
  rw[e1,e2] at hq
  rw[lt'_eq]
  refine wpS_bind (wpS_get ?_)
  rw[hk,keyLt'_oneType,e1,e2]
  exact wpS_bind (wpS_lift (wpAny_attempt (oneLt_int ⟨rfl,wpS_pure hq⟩)))
theorem OK:Ord JZ C6 where
 tr:=fun {x y z} _ _ _ h1 h2=>by
  unfold C6 at *
  rw[decide_eq_false_iff_not] at *
  lia
 tot:=fun {x y} _ _ h=>by
  unfold C6 at *
  rw[decide_eq_true_iff] at h
  rw[decide_eq_false_iff_not]
  lia
theorem K_G (xs:Array Keyed) (i:Nat):K xs i=numOf (G xs i).1:=by
 unfold K G
 cases xs[i]? with
 | none=>rfl
 | some p=>rfl
theorem Nf {a:Addr} {vs:List Value} {ns:List Int} {n:Nat} {P:Fin->Shared->Prop} (ho:s.heap.get? a=some (seqObj "list" vs.toArray n)) (hI:IntsAre vs ns) (hz:vs.length<=sizeLine)
  (hP:∀ (out:Array Value) (ms:List Int),IntsAre out.toList ms->ms.Perm ns->ms.Pairwise (·<=·)->P (.done (.ret .none)) {s with heap:=sortedHeap s.heap a vs out}):wpAny (model prog w) A (Builtin.«list.sort» ⟨[.ref a],[]⟩) P E s:=by
 rw[list_sort_plain]
 have la:a<s.heap.objs.size:=Heap.lt_size ho
 refine wpAny_bind (listItems_at ho rfl (wpAny_bind (listUpdate_at ho rfl ?_ (by rw[List.size_toArray];exact hz))))
 obtain ⟨c1,o1⟩:∃ c1,(s.heap.update a (Obj.mapSeq fun _=>#[])).get? a=some (seqObj "list" #[] c1):=⟨_,get?_update_seq ho (fun _=>#[])⟩
 refine wpAny_bind (seqEpoch_at o1 rfl (wpAny_bind (wpAny_newTuple (wpAny_bind (wpAny_newList (wpAny_holding ?_))))))
 have o6:(((s.heap.update a (Obj.mapSeq fun _=>#[])).push (seqObj "tuple" vs.toArray 0)).push (seqObj "list" #[] 0)).get? a=some (seqObj "list" #[] c1):=by
  rw[Heap.get?_push_ne _ _ _ (by rw[size_push',Heap.size_update];exact Nat.ne_of_lt (Nat.lt_succ_of_lt la)),Heap.get?_push_ne _ _ _ (by rw[Heap.size_update];exact Nat.ne_of_lt la)]
  exact o1
 show wpAny (model prog w) A _ P E {s with heap:=((s.heap.update a (Obj.mapSeq fun _=>#[])).push (seqObj "tuple" vs.toArray 0)).push (seqObj "list" #[] 0)}
 dsimp only
 have zs:vs.toArray.size=vs.length:=by simp
 have fin:∀ st':SortSt,(arrOf st').Perm (pairsOf vs)->SortedTo (arrOf st') (pairsOf vs).size->P (.done (.ret .none)) {s with heap:=sortedHeap s.heap a vs ((arrOf st').map (·.2))}:=fun st' hp hs=>by
  obtain ⟨ms,q1,q2,q3⟩:=sorted_out hI hp hs
  exact hP _ ms q1 q2 q3
 by_cases h2:vs.toArray.size<2
 ·rw[if_pos h2,if_pos h2]
  refine wpAny_bind (wpAny_pure ?_)
  rw[StateT.run_pure]
  refine wpAny_bind (wpAny_pure ?_)
  dsimp only
  refine wpAny_bind (seqEpoch_at o6 rfl (wpAny_bind (listUpdate_at o6 rfl ?_ (hsz2:=by rw[Array.size_map];show (pairsOf vs).size<=_;rw[pairsOf_size];lia))))
  simp only[bne_self_eq_false,Bool.false_eq_true,if_false]
  refine wpAny_pure (fin (SortSt.mk' general' (vs.toArray.zip vs.toArray) #[] 7 none) (Array.Perm.refl _) fun i j hij hj=>?_)
  have:i=j:=by rw[pairsOf_size] at hj;lia
  subst this
  exact Int.le_refl _
 ·rw[if_neg h2,if_neg h2]
  obtain ⟨v,v',r,rfl⟩:∃ v v' r,vs=v::v'::r:=by
   cases vs with
   | nil=>simp at h2
   | cons v r=>
    cases r with
    | nil=>simp at h2
    | cons v' r=>exact ⟨v,v',r,rfl⟩
  rw[keyKind_ints hI]
  refine wpAny_bind (wpAny_pure ?_)
  refine wpAny_bind (wpAny_mono (HP (a₀:=pairsOf (v::v'::r)) (st:=SortSt.mk' oneType' ((v::v'::r).toArray.zip (v::v'::r).toArray) #[] 7 none)
   (Q:=fun _ st'=>SB oneType' (pairsOf (v::v'::r)) st'/\Asc C6 (arrOf st') 0 (pairsOf (v::v'::r)).size)
   Tv OK ⟨Array.Perm.refl _,rfl,rfl⟩ rfl (fun x hx=>hI.intKeys x hx) (by rw[pairsOf_size];simp) fun st' B as=>⟨B,as⟩) ?_ fun _ _ e=>e)
  rintro ⟨⟨⟩,st'⟩ s' ⟨rfl,B,as⟩
  dsimp only
  refine wpAny_bind (seqEpoch_at o6 rfl (wpAny_bind (listUpdate_at o6 rfl ?_ (hsz2:=by refine Nat.le_trans (Nat.le_of_eq ((Array.size_map ..).trans (B.perm.size_eq.trans (pairsOf_size _)))) ?_;lia))))
  rw[B.fail]
  simp only[bne_self_eq_false,Bool.false_eq_true,if_false]
  refine wpAny_pure (fin st' B.perm fun i j hij hj=>?_)
  have q:C6 (G (arrOf st') j) (G (arrOf st') i)=false:=as i j (Nat.zero_le _) hij (by lia)
  unfold C6 at q
  rw[decide_eq_false_iff_not] at q
  rw[K_G,K_G]
  lia
theorem P6 {l:Addr} {vs:List Value} {ns:List Int} {Q:Value->Shared->Prop} (hl:s.heap.IsList l vs.toArray) (hI:IntsAre vs ns) (hz:vs.length<=sizeLine)
  (h:∀ (out:Array Value) (ms:List Int),IntsAre out.toList ms->ms.Perm ns->ms.Pairwise (·<=·)->Q (.ref (s.heap.objs.size+1)) {s with heap:=sortedAll s.heap vs out}):wpAny (model prog w) A (call (.builtin "sorted") [.ref l]) Q E s:=by
 refine Calls.call_function_entry kind_sorted plain_sorted entry_sorted (args_sorted1 _) ?_
 unfold Builtin.«sorted»
 refine wpAny_bind (m:=checkCount "sorted" 1 1 _) (wpAny_pure (wpAny_bind (collect_list hl ?_ hz)))
 refine wpAny_bind (wpAny_newList ?_)
 have sz:((s.heap.push (seqObj "list" #[] 0)).update s.heap.objs.size (Obj.mapSeq (·++vs.toArray))).objs.size=s.heap.objs.size+1:=by rw[Heap.size_update,size_push']
 have oL:(((s.heap.push (seqObj "list" #[] 0)).update s.heap.objs.size (Obj.mapSeq (·++vs.toArray))).push (seqObj "list" vs.toArray 0)).get? (s.heap.objs.size+1)=some (seqObj "list" vs.toArray 0):=by
  rw[<-sz]
  exact Heap.get?_push_size _ rfl
 show wpAny _ _ _ _ _ {s with heap:=((s.heap.push (seqObj "list" #[] 0)).update s.heap.objs.size (Obj.mapSeq (·++vs.toArray))).push (seqObj "list" vs.toArray 0)}
 rw[sz]
 refine wpAny_bind (wpAny_holding (wpAny_call_entry slot_list_sort ⟨_,oL,rfl⟩ entry_list_sort (Nf oL hI hz fun out ms b1 b2 b3=>⟨_,rfl,?_⟩) (args_list_sort _)))
 exact wpAny_pure ⟨_,rfl,h out ms b1 b2 b3⟩
end
theorem Ib:∀ {ns ms:List Int},HT.lexLt ns ms=true->HT.lexLt ms ns=false
 | [],[],h=>by cases h
 | [],_::_,_=>rfl
 | _::_,[],h=>by cases h
 | n::ns,m::ms,h=>by
  rw[HT.Cf] at *
  split at h
  ·rename_i e
   rw[if_pos e.symm]
   exact Ib h
  ·rename_i e
   rw[if_neg (fun z=>e z.symm)]
   have:=of_decide_eq_true h
   exact decide_eq_false (by lia)
theorem HE:∀ {x y z:List Int},HT.lexLt y x=false->HT.lexLt z y=false->HT.lexLt z x=false
 | [],y,z,_,_=>by cases z<;>rfl
 | _::_,[],z,h,_=>by cases h
 | x::xs,y::ys,[],_,h=>by cases h
 | x::xs,y::ys,z::zs,h1,h2=>by
  rw[HT.Cf] at *
  split at h1
  ·rename_i e1
   subst e1
   split at h2
   ·rename_i e2
    rw[if_pos e2]
    exact HE h1 h2
   ·rename_i e2
    rw[if_neg e2]
    exact h2
  ·rename_i e1
   have a1:=of_decide_eq_false h1
   split at h2
   ·rename_i e2
    subst e2
    rw[if_neg e1]
    exact h1
   ·rename_i e2
    have a2:=of_decide_eq_false h2
    rw[if_neg (by lia)]
    exact decide_eq_false (by lia)
theorem Kr:∀ {x y:List Int},HT.lexLt y x=false->HT.lexLt x y=false->x=y
 | [],[],_,_=>rfl
 | [],_::_,_,h=>by cases h
 | _::_,[],h,_=>by cases h
 | x::xs,y::ys,h1,h2=>by
  rw[HT.Cf] at *
  split at h1
  ·rename_i e
   subst e
   rw[if_pos rfl] at h2
   rw[Kr h1 h2]
  ·rename_i e
   rw[if_neg (fun z=>e z.symm)] at h2
   have:=of_decide_eq_false h1
   have:=of_decide_eq_false h2
   exact absurd (by lia:y=x) e
section
variable {prog:Program} {w:World} {A:Around} {E:Value->Shared->Prop} {s:Shared}
def By (h:Heap) (ν:Value->List Int) (v:Value):Prop:=∃ a o xs n,v=.ref a/\h.get? a=some o/\o.cls=.type "tuple"/\o.data=.seq xs n/\IntsAre xs.toList (ν v)/\ν v≠[]
def GP (ν:Value->List Int) (x y:Keyed):Bool:=HT.lexLt (ν x.1) (ν y.1)
theorem Jg {b:Bool} {Q:Bool->Shared->Prop}:∀ {xs ys:List Value} {ns ms:List Int} {i:Nat} {fin:Bool},IntsAre xs ns->IntsAre ys ms->fin=decide (ns.length<ms.length)->Q (HT.lexLt ns ms) s->PySem.W.KatLex prog w A b fin Q (xs.zip ys) i s
 | _,_,_,_,_,_,.nil,.nil,hf,h=>by subst hf;exact PySem.W.kat_nil h
 | _,_,_,_,_,_,.nil,.cons c u hw,hf,h=>by subst hf;exact PySem.W.kat_nil h
 | _,_,_,_,_,_,.cons a t hv,.nil,hf,h=>by subst hf;exact PySem.W.kat_nil h
 | _,_,_,_,i,fin,.cons a t hv,.cons c u hw,hf,h=>by
  rw[List.zip_cons_cons]
  refine PySem.W.kat_cons (wpAny_eqBool_int ?_)
  by_cases e:a=c
  ·subst e
   rw[show (a == a)=true by simp]
   refine PySem.W.kat_yes (Jg hv hw (by rw[hf];simp) ?_)
   rw[HT.Cf,if_pos rfl] at h
   exact h
  ·rw[show (a == c)=false by simpa using e]
   refine PySem.W.kat_no ?_
   have hq:=h
   rw[HT.Cf,if_neg e] at hq
   cases hb:(b && i == 0) with
   | false=>exact PySem.W.kat_one _ _ (lt_int hq)
   | true=>exact oneLt_int hq
theorem NZ {ν:Value->List Int}:Cmp prog w A E s (tuples' true) (fun x=>By s.heap ν x.1) (GP ν) where
 run:=fun {st x y Q} hk gx gy hq=>by
  obtain ⟨a,o,xs,n,e1,ho,hc,hd,hi,_⟩:=gx
  obtain ⟨a',o',xs',n',e1',ho',hc',hd',hi',_⟩:=gy
  unfold GP at hq
  rw[lt'_eq]
  refine wpS_bind (wpS_get ?_)
  rw[hk,e1,e1']
  refine wpS_bind (wpS_lift (wpAny_attempt (PySem.W.kat_lt ho hd ho' hd' ?_)))
  exact Jg hi hi' (by rw[<-hi.length,<-hi'.length];simp) ⟨rfl,wpS_pure hq⟩
theorem Qt {h:Heap} {ν:Value->List Int}:Ord (fun x=>By h ν x.1) (GP ν) where
 tr:=fun {x y z} _ _ _ h1 h2=>HE h1 h2
 tot:=fun {x y} _ _ h=>Ib h
theorem J3 {h:Heap} {ν:Value->List Int}:∀ {vs:List Value},(∀ v∈vs,By h ν v)->∃ fs,PySem.W.KatTups h vs fs/\fs.length=vs.length/\∀ v∈fs,∃ n t,v=Value.int n t
 | [],_=>⟨[],.nil,rfl,fun _ h=>nomatch h⟩
 | v::vs,hg=>by
  obtain ⟨fs,h1,h2,h3⟩:=J3 (vs:=vs) fun u hu=>hg u (List.mem_cons_of_mem _ hu)
  obtain ⟨a,o,xs,n,rfl,ho,hc,hd,hi,hne⟩:=hg v List.mem_cons_self
  cases hx:xs.toList with
  | nil=>
   rw[hx] at hi
   cases hq:ν (.ref a) with
   | nil=>exact absurd hq hne
   | cons m ms=>rw[hq] at hi;cases hi
  | cons y ys=>
   rw[hx] at hi
   cases hq:ν (.ref a) with
   | nil=>exact absurd hq hne
   | cons m ms=>
    rw[hq] at hi
    cases hi with
    | cons _ t hi'=>
     have h0:xs[0]?=some (Value.int m t):=by
      have:xs.toList[0]?=some (Value.int m t):=by rw[hx];rfl
      simpa using this
     exact ⟨.int m t::fs,.cons ho hc hd h0 h1,by simp[h2],fun u hu=>by
      rcases List.mem_cons.mp hu with rfl | hu
      ·exact ⟨m,t,rfl⟩
      ·exact h3 u hu⟩
theorem Og {a:Addr} {vs:List Value} {n:Nat} {P:Fin->Shared->Prop} (ν:Value->List Int) (ho:s.heap.get? a=some (seqObj "list" vs.toArray n)) (hI:∀ v∈vs,By s.heap ν v) (hz:vs.length<=sizeLine)
  (hP:∀ (out:Array Value),out.toList.Perm vs->out.toList.Pairwise (fun u v=>HT.lexLt (ν v) (ν u)=false)->P (.done (.ret .none)) {s with heap:=sortedHeap s.heap a vs out}):wpAny (model prog w) A (Builtin.«list.sort» ⟨[.ref a],[]⟩) P E s:=by
 rw[list_sort_plain]
 have la:a<s.heap.objs.size:=Heap.lt_size ho
 refine wpAny_bind (listItems_at ho rfl (wpAny_bind (listUpdate_at ho rfl ?_ (by rw[List.size_toArray];exact hz))))
 obtain ⟨c1,o1⟩:∃ c1,(s.heap.update a (Obj.mapSeq fun _=>#[])).get? a=some (seqObj "list" #[] c1):=⟨_,get?_update_seq ho (fun _=>#[])⟩
 refine wpAny_bind (seqEpoch_at o1 rfl (wpAny_bind (wpAny_newTuple (wpAny_bind (wpAny_newList (wpAny_holding ?_))))))
 have o6:(((s.heap.update a (Obj.mapSeq fun _=>#[])).push (seqObj "tuple" vs.toArray 0)).push (seqObj "list" #[] 0)).get? a=some (seqObj "list" #[] c1):=by
  rw[Heap.get?_push_ne _ _ _ (by rw[size_push',Heap.size_update];exact Nat.ne_of_lt (Nat.lt_succ_of_lt la)),Heap.get?_push_ne _ _ _ (by rw[Heap.size_update];exact Nat.ne_of_lt la)]
  exact o1
 show wpAny (model prog w) A _ P E {s with heap:=((s.heap.update a (Obj.mapSeq fun _=>#[])).push (seqObj "tuple" vs.toArray 0)).push (seqObj "list" #[] 0)}
 dsimp only
 have hI6:∀ v∈vs,By (((s.heap.update a (Obj.mapSeq fun _=>#[])).push (seqObj "tuple" vs.toArray 0)).push (seqObj "list" #[] 0)) ν v:=fun v hv=>by
  obtain ⟨b,o,xs,n',rfl,hb,hc,hd,hi,hne⟩:=hI v hv
  have nb:b≠a:=fun z=>by
   rw[z,ho] at hb
   cases hb
   have hc':Value.type "list"=Value.type "tuple":=hc
   exact absurd hc' (by decide)
  refine ⟨b,o,xs,n',rfl,?_,hc,hd,hi,hne⟩
  refine Heap.get?_push_of_some _ (Heap.get?_push_of_some _ ?_)
  rw[Heap.get?_update_ne _ _ _ _ nb]
  exact hb
 have zs:vs.toArray.size=vs.length:=by simp
 have fin:∀ st':SortSt,(arrOf st').Perm (pairsOf vs)->(∀ i j:Nat,i<j->j<(arrOf st').size->HT.lexLt (ν (G (arrOf st') j).1) (ν (G (arrOf st') i).1)=false)->P (.done (.ret .none)) {s with heap:=sortedHeap s.heap a vs ((arrOf st').map (·.2))}:=fun st' hp hs=>by
  have hl:(arrOf st').toList.Perm (vs.zip vs):=by rw[<-pairsOf_toList];exact Array.perm_iff_toList_perm.mp hp
  have hmem:∀ p,p∈(arrOf st').toList->p.1=p.2/\p.1∈vs:=fun p hp'=>mem_zip_self (hl.mem_iff.mp hp')
  have e:((arrOf st').map (·.2)).toList=(arrOf st').toList.map (·.1):=by
   rw[Array.toList_map];exact List.map_congr_left fun p hp'=>(hmem p hp').1.symm
  refine hP _ ?_ ?_
  ·rw[e]
   have h1:=hl.map Prod.fst
   rwa [List.map_fst_zip (Nat.le_refl _)] at h1
  ·rw[e,List.pairwise_iff_getElem]
   intro i j hi hj hij
   rw[List.getElem_map,List.getElem_map]
   have hj':j<(arrOf st').size:=by simpa using hj
   have hi':i<(arrOf st').size:=by lia
   have q:=hs i j hij hj'
   have gi:G (arrOf st') i=(arrOf st')[i]:=by unfold G;rw[getElem?_pos _ i hi'];rfl
   have gj:G (arrOf st') j=(arrOf st')[j]:=by unfold G;rw[getElem?_pos _ j hj'];rfl
   rw[gi,gj] at q
   simpa using q
 by_cases h2:vs.toArray.size<2
 ·rw[if_pos h2,if_pos h2]
  refine wpAny_bind (wpAny_pure ?_)
  rw[StateT.run_pure]
  refine wpAny_bind (wpAny_pure ?_)
  dsimp only
  refine wpAny_bind (seqEpoch_at o6 rfl (wpAny_bind (listUpdate_at o6 rfl ?_ (hsz2:=by rw[Array.size_map];show (pairsOf vs).size<=_;rw[pairsOf_size];lia))))
  simp only[bne_self_eq_false,Bool.false_eq_true,if_false]
  refine wpAny_pure (fin (SortSt.mk' general' (vs.toArray.zip vs.toArray) #[] 7 none) (Array.Perm.refl _) fun i j hij hj=>?_)
  have hj':j<(pairsOf vs).size:=hj
  rw[pairsOf_size] at hj'
  lia
 ·rw[if_neg h2,if_neg h2]
  obtain ⟨fs,t1,t2,t3⟩:=J3 hI6
  refine wpAny_bind (PySem.W.kat_kind (T:=Value.type "int") t1 (by lia) (fun v hv=>by obtain ⟨k,t,rfl⟩:=t3 v hv;exact .of_pure rfl) (by decide) ?_)
  have kd:tuples' ((Value.type "int") != Value.type "tuple")=tuples' true:=by congr 1
  rw[kd]
  refine wpAny_bind (wpAny_mono (HP (a₀:=pairsOf vs) (st:=SortSt.mk' (tuples' true) (vs.toArray.zip vs.toArray) #[] 7 none)
   (Q:=fun _ st'=>SB (tuples' true) (pairsOf vs) st'/\Asc (GP ν) (arrOf st') 0 (pairsOf vs).size)
   NZ Qt ⟨Array.Perm.refl _,rfl,rfl⟩ rfl (fun x hx=>by
    have hx':x∈vs.zip vs:=by rw[<-pairsOf_toList];exact hx
    exact hI6 _ (mem_zip_self hx').2) (by rw[pairsOf_size];lia) fun st' B as=>⟨B,as⟩) ?_ fun _ _ e=>e)
  rintro ⟨⟨⟩,st'⟩ s' ⟨rfl,B,as⟩
  dsimp only
  refine wpAny_bind (seqEpoch_at o6 rfl (wpAny_bind (listUpdate_at o6 rfl ?_ (hsz2:=by refine Nat.le_trans (Nat.le_of_eq ((Array.size_map ..).trans (B.perm.size_eq.trans (pairsOf_size _)))) ?_;lia))))
  rw[B.fail]
  simp only[bne_self_eq_false,Bool.false_eq_true,if_false]
  refine wpAny_pure (fin st' B.perm fun i j hij hj=>?_)
  exact as i j (Nat.zero_le _) (by lia) (by have z:(arrOf st').size=(pairsOf vs).size:=B.perm.size_eq;lia)
theorem Rp {l:Addr} {vs:List Value} {Q:Value->Shared->Prop} (ν:Value->List Int) (hl:s.heap.IsList l vs.toArray) (hI:∀ v∈vs,By s.heap ν v) (hz:vs.length<=sizeLine)
  (h:∀ (out:Array Value),out.toList.Perm vs->out.toList.Pairwise (fun u v=>HT.lexLt (ν v) (ν u)=false)->Q (.ref (s.heap.objs.size+1)) {s with heap:=sortedAll s.heap vs out}):wpAny (model prog w) A (call (.builtin "sorted") [.ref l]) Q E s:=by
 refine Calls.call_function_entry kind_sorted plain_sorted entry_sorted (args_sorted1 _) ?_
 unfold Builtin.«sorted»
 refine wpAny_bind (m:=checkCount "sorted" 1 1 _) (wpAny_pure (wpAny_bind (collect_list hl ?_ hz)))
 refine wpAny_bind (wpAny_newList ?_)
 have sz:((s.heap.push (seqObj "list" #[] 0)).update s.heap.objs.size (Obj.mapSeq (·++vs.toArray))).objs.size=s.heap.objs.size+1:=by rw[Heap.size_update,size_push']
 have oL:(((s.heap.push (seqObj "list" #[] 0)).update s.heap.objs.size (Obj.mapSeq (·++vs.toArray))).push (seqObj "list" vs.toArray 0)).get? (s.heap.objs.size+1)=some (seqObj "list" vs.toArray 0):=by
  rw[<-sz]
  exact Heap.get?_push_size _ rfl
 have hI2:∀ v∈vs,By (((s.heap.push (seqObj "list" #[] 0)).update s.heap.objs.size (Obj.mapSeq (·++vs.toArray))).push (seqObj "list" vs.toArray 0)) ν v:=fun v hv=>by
  obtain ⟨b,o,xs,n',rfl,hb,hc,hd,hi,hne⟩:=hI v hv
  have lb:b<s.heap.objs.size:=Heap.lt_size hb
  refine ⟨b,o,xs,n',rfl,?_,hc,hd,hi,hne⟩
  refine Heap.get?_push_of_some _ ?_
  rw[Heap.get?_update_ne _ _ _ _ (Nat.ne_of_lt lb)]
  exact Heap.get?_push_of_some _ hb
 show wpAny _ _ _ _ _ {s with heap:=((s.heap.push (seqObj "list" #[] 0)).update s.heap.objs.size (Obj.mapSeq (·++vs.toArray))).push (seqObj "list" vs.toArray 0)}
 rw[sz]
 refine wpAny_bind (wpAny_holding (wpAny_call_entry slot_list_sort ⟨_,oL,rfl⟩ entry_list_sort (Og ν oL hI2 hz fun out b1 b2=>⟨_,rfl,?_⟩) (args_list_sort _)))
 exact wpAny_pure ⟨_,rfl,h out b1 b2⟩
end
end EvS
namespace EvS
open PySem PySem.Spec PyProof.Rows
def sLt (a b:Str):Bool:=decide (a.cps.toList<b.cps.toList)
def A6 (x y:Int×Str):Bool:=if x.1=y.1 then sLt x.2 y.2 else decide (x.1<y.1)
theorem QI {a b:Str} (h1:sLt a b=false) (h2:sLt b a=false):a=b:=by
 have h1:=of_decide_eq_false h1
 have h2:=of_decide_eq_false h2
 have e:a.cps.toList=b.cps.toList:=List.le_antisymm (List.not_lt.mp h2) (List.not_lt.mp h1)
 cases a;cases b
 simp only at e
 rw[Array.toList_inj.mp e]
theorem RP {a b:Str} (h:sLt a b=true):sLt b a=false:=decide_eq_false (List.lt_asymm (of_decide_eq_true h))
theorem P8 {x y z:Str} (h1:sLt y x=false) (h2:sLt z y=false):sLt z x=false:=decide_eq_false (List.not_lt.mpr (List.le_trans (List.not_lt.mp (of_decide_eq_false h1)) (List.not_lt.mp (of_decide_eq_false h2))))
theorem Qz (x:Str):sLt x x=false:=decide_eq_false (List.lt_irrefl _)
theorem LL {x y:Int×Str} (h:A6 x y=true):A6 y x=false:=by
 unfold A6 at *
 split at h
 ·rename_i e
  rw[if_pos e.symm]
  exact RP h
 ·rename_i e
  rw[if_neg (fun z=>e z.symm)]
  have:=of_decide_eq_true h
  exact decide_eq_false (by lia)
theorem JH {x y z:Int×Str} (h1:A6 y x=false) (h2:A6 z y=false):A6 z x=false:=by
 unfold A6 at *
 split at h1
 ·rename_i e1
  split at h2
  ·rename_i e2
   rw[if_pos (e2.trans e1)]
   exact P8 h1 h2
  ·rename_i e2
   rw[if_neg (by lia)]
   have:=of_decide_eq_false h2
   exact decide_eq_false (by lia)
 ·rename_i e1
  have a1:=of_decide_eq_false h1
  split at h2
  ·rename_i e2
   rw[if_neg (by lia)]
   exact decide_eq_false (by lia)
  ·rename_i e2
   have a2:=of_decide_eq_false h2
   rw[if_neg (by lia)]
   exact decide_eq_false (by lia)
theorem NM {x y:Int×Str} (h1:A6 y x=false) (h2:A6 x y=false):x=y:=by
 unfold A6 at *
 split at h1
 ·rename_i e
  rw[if_pos e.symm] at h2
  exact Prod.ext e.symm (QI h2 h1)
 ·rename_i e
  rw[if_neg (fun z=>e z.symm)] at h2
  have:=of_decide_eq_false h1
  have:=of_decide_eq_false h2
  exact absurd (by lia) e
section
variable {prog:Program} {w:World} {A:Around} {E:Value->Shared->Prop} {s:Shared}
def gTh (h:Heap) (ν:Value->Int×Str) (v:Value):Prop:=∃ a o n t u,v=.ref a/\h.get? a=some o/\o.cls=.type "tuple"/\o.data=.seq #[.int (ν v).1 t,.str (ν v).2 u] n
def lTh (ν:Value->Int×Str) (x y:Keyed):Bool:=A6 (ν x.1) (ν y.1)
theorem SO {Q:Bool->Shared->Prop} {a c:Int} {x y:Str} {t u t' u':Tok} (h:Q (A6 (a,x) (c,y)) s):PySem.W.KatLex prog w A true false Q [(.int a t,.int c t'),(.str x u,.str y u')] 0 s:=by
 refine PySem.W.kat_cons (wpAny_eqBool_int ?_)
 by_cases e:a=c
 ·subst e
  rw[show (a == a)=true by simp]
  refine PySem.W.kat_yes (PySem.W.kat_cons (wpAny_eqBool_str ?_))
  have h:Q (sLt x y) s:=by unfold A6 at h;rw[if_pos rfl] at h;exact h
  by_cases e2:x=y
  ·subst e2
   rw[decide_eq_true rfl]
   rw[Qz] at h
   exact PySem.W.kat_yes (PySem.W.kat_nil h)
  ·rw[decide_eq_false e2]
   exact PySem.W.kat_no (PySem.W.kat_one _ _ (P.lt_str h))
 ·rw[show (a == c)=false by simpa using e]
  refine PySem.W.kat_no ?_
  have h:Q (decide (a<c)) s:=by unfold A6 at h;rw[if_neg e] at h;exact h
  exact oneLt_int h
theorem Ro {ν:Value->Int×Str}:Cmp prog w A E s (tuples' true) (fun x=>gTh s.heap ν x.1) (lTh ν) where
 run:=fun {st x y Q} hk gx gy hq=>by
  obtain ⟨a,o,n,t,u,e1,ho,hc,hd⟩:=gx
  obtain ⟨a',o',n',t',u',e1',ho',hc',hd'⟩:=gy
  unfold lTh at hq
  rw[lt'_eq]
  refine wpS_bind (wpS_get ?_)
  rw[hk,e1,e1']
  refine wpS_bind (wpS_lift (wpAny_attempt (PySem.W.kat_lt ho hd ho' hd' ?_)))
  exact SO ⟨rfl,wpS_pure hq⟩
theorem Q6 {h:Heap} {ν:Value->Int×Str}:Ord (fun x=>gTh h ν x.1) (lTh ν) where
 tr:=fun {x y z} _ _ _ h1 h2=>JH h1 h2
 tot:=fun {x y} _ _ h=>LL h
theorem JI {h:Heap} {ν:Value->Int×Str}:∀ {vs:List Value},(∀ v∈vs,gTh h ν v)->∃ fs,PySem.W.KatTups h vs fs/\fs.length=vs.length/\∀ v∈fs,∃ n t,v=Value.int n t
 | [],_=>⟨[],.nil,rfl,fun _ h=>nomatch h⟩
 | v::vs,hg=>by
  obtain ⟨fs,h1,h2,h3⟩:=JI (vs:=vs) fun u hu=>hg u (List.mem_cons_of_mem _ hu)
  obtain ⟨a,o,n,t,u,rfl,ho,hc,hd⟩:=hg v List.mem_cons_self
  exact ⟨.int _ t::fs,.cons ho hc hd rfl h1,by simp[h2],fun u hu=>by
   rcases List.mem_cons.mp hu with rfl | hu
   ·exact ⟨_,t,rfl⟩
   ·exact h3 u hu⟩
theorem UI {a:Addr} {vs:List Value} {n:Nat} {P:Fin->Shared->Prop} (ν:Value->Int×Str) (ho:s.heap.get? a=some (seqObj "list" vs.toArray n)) (hI:∀ v∈vs,gTh s.heap ν v) (hz:vs.length<=sizeLine)
  (hP:∀ (out:Array Value),out.toList.Perm vs->out.toList.Pairwise (fun u v=>A6 (ν v) (ν u)=false)->P (.done (.ret .none)) {s with heap:=sortedHeap s.heap a vs out}):wpAny (model prog w) A (Builtin.«list.sort» ⟨[.ref a],[]⟩) P E s:=by
 rw[list_sort_plain]
 have la:a<s.heap.objs.size:=Heap.lt_size ho
 refine wpAny_bind (listItems_at ho rfl (wpAny_bind (listUpdate_at ho rfl ?_ (by rw[List.size_toArray];exact hz))))
 obtain ⟨c1,o1⟩:∃ c1,(s.heap.update a (Obj.mapSeq fun _=>#[])).get? a=some (seqObj "list" #[] c1):=⟨_,get?_update_seq ho (fun _=>#[])⟩
 refine wpAny_bind (seqEpoch_at o1 rfl (wpAny_bind (wpAny_newTuple (wpAny_bind (wpAny_newList (wpAny_holding ?_))))))
 have o6:(((s.heap.update a (Obj.mapSeq fun _=>#[])).push (seqObj "tuple" vs.toArray 0)).push (seqObj "list" #[] 0)).get? a=some (seqObj "list" #[] c1):=by
  rw[Heap.get?_push_ne _ _ _ (by rw[size_push',Heap.size_update];exact Nat.ne_of_lt (Nat.lt_succ_of_lt la)),Heap.get?_push_ne _ _ _ (by rw[Heap.size_update];exact Nat.ne_of_lt la)]
  exact o1
 show wpAny (model prog w) A _ P E {s with heap:=((s.heap.update a (Obj.mapSeq fun _=>#[])).push (seqObj "tuple" vs.toArray 0)).push (seqObj "list" #[] 0)}
 dsimp only
 have hI6:∀ v∈vs,gTh (((s.heap.update a (Obj.mapSeq fun _=>#[])).push (seqObj "tuple" vs.toArray 0)).push (seqObj "list" #[] 0)) ν v:=fun v hv=>by
  obtain ⟨b,o,n',t,u,rfl,hb,hc,hd⟩:=hI v hv
  have nb:b≠a:=fun z=>by
   rw[z,ho] at hb
   cases hb
   have hc':Value.type "list"=Value.type "tuple":=hc
   exact absurd hc' (by decide)
  refine ⟨b,o,n',t,u,rfl,?_,hc,hd⟩
  refine Heap.get?_push_of_some _ (Heap.get?_push_of_some _ ?_)
  rw[Heap.get?_update_ne _ _ _ _ nb]
  exact hb
 have zs:vs.toArray.size=vs.length:=by simp
 have fin:∀ st':SortSt,(arrOf st').Perm (pairsOf vs)->(∀ i j:Nat,i<j->j<(arrOf st').size->A6 (ν (G (arrOf st') j).1) (ν (G (arrOf st') i).1)=false)->P (.done (.ret .none)) {s with heap:=sortedHeap s.heap a vs ((arrOf st').map (·.2))}:=fun st' hp hs=>by
  have hl:(arrOf st').toList.Perm (vs.zip vs):=by rw[<-pairsOf_toList];exact Array.perm_iff_toList_perm.mp hp
  have hmem:∀ p,p∈(arrOf st').toList->p.1=p.2/\p.1∈vs:=fun p hp'=>mem_zip_self (hl.mem_iff.mp hp')
  have e:((arrOf st').map (·.2)).toList=(arrOf st').toList.map (·.1):=by
   rw[Array.toList_map];exact List.map_congr_left fun p hp'=>(hmem p hp').1.symm
  refine hP _ ?_ ?_
  ·rw[e]
   have h1:=hl.map Prod.fst
   rwa [List.map_fst_zip (Nat.le_refl _)] at h1
  ·rw[e,List.pairwise_iff_getElem]
   intro i j hi hj hij
   rw[List.getElem_map,List.getElem_map]
   have hj':j<(arrOf st').size:=by simpa using hj
   have hi':i<(arrOf st').size:=by lia
   have q:=hs i j hij hj'
   have gi:G (arrOf st') i=(arrOf st')[i]:=by unfold G;rw[getElem?_pos _ i hi'];rfl
   have gj:G (arrOf st') j=(arrOf st')[j]:=by unfold G;rw[getElem?_pos _ j hj'];rfl
   rw[gi,gj] at q
   simpa using q
 by_cases h2:vs.toArray.size<2
 ·rw[if_pos h2,if_pos h2]
  refine wpAny_bind (wpAny_pure ?_)
  rw[StateT.run_pure]
  refine wpAny_bind (wpAny_pure ?_)
  dsimp only
  refine wpAny_bind (seqEpoch_at o6 rfl (wpAny_bind (listUpdate_at o6 rfl ?_ (hsz2:=by rw[Array.size_map];show (pairsOf vs).size<=_;rw[pairsOf_size];lia))))
  simp only[bne_self_eq_false,Bool.false_eq_true,if_false]
  refine wpAny_pure (fin (SortSt.mk' general' (vs.toArray.zip vs.toArray) #[] 7 none) (Array.Perm.refl _) fun i j hij hj=>?_)
  have hj':j<(pairsOf vs).size:=hj
  rw[pairsOf_size] at hj'
  lia
 ·rw[if_neg h2,if_neg h2]
  obtain ⟨fs,t1,t2,t3⟩:=JI hI6
  refine wpAny_bind (PySem.W.kat_kind (T:=Value.type "int") t1 (by lia) (fun v hv=>by obtain ⟨k,t,rfl⟩:=t3 v hv;exact .of_pure rfl) (by decide) ?_)
  have kd:tuples' ((Value.type "int") != Value.type "tuple")=tuples' true:=by congr 1
  rw[kd]
  refine wpAny_bind (wpAny_mono (HP (a₀:=pairsOf vs) (st:=SortSt.mk' (tuples' true) (vs.toArray.zip vs.toArray) #[] 7 none)
   (Q:=fun _ st'=>SB (tuples' true) (pairsOf vs) st'/\Asc (lTh ν) (arrOf st') 0 (pairsOf vs).size)
   Ro Q6 ⟨Array.Perm.refl _,rfl,rfl⟩ rfl (fun x hx=>by
    have hx':x∈vs.zip vs:=by rw[<-pairsOf_toList];exact hx
    exact hI6 _ (mem_zip_self hx').2) (by rw[pairsOf_size];lia) fun st' B as=>⟨B,as⟩) ?_ fun _ _ e=>e)
  rintro ⟨⟨⟩,st'⟩ s' ⟨rfl,B,as⟩
  dsimp only
  refine wpAny_bind (seqEpoch_at o6 rfl (wpAny_bind (listUpdate_at o6 rfl ?_ (hsz2:=by refine Nat.le_trans (Nat.le_of_eq ((Array.size_map ..).trans (B.perm.size_eq.trans (pairsOf_size _)))) ?_;lia))))
  rw[B.fail]
  simp only[bne_self_eq_false,Bool.false_eq_true,if_false]
  refine wpAny_pure (fin st' B.perm fun i j hij hj=>?_)
  exact as i j (Nat.zero_le _) (by lia) (by have z:(arrOf st').size=(pairsOf vs).size:=B.perm.size_eq;lia)
theorem Q1 {l:Addr} {vs:List Value} {Q:Value->Shared->Prop} (ν:Value->Int×Str) (hl:s.heap.IsList l vs.toArray) (hI:∀ v∈vs,gTh s.heap ν v) (hz:vs.length<=sizeLine)
  (h:∀ (out:Array Value),out.toList.Perm vs->out.toList.Pairwise (fun u v=>A6 (ν v) (ν u)=false)->Q (.ref (s.heap.objs.size+1)) {s with heap:=sortedAll s.heap vs out}):wpAny (model prog w) A (call (.builtin "sorted") [.ref l]) Q E s:=by
 refine Calls.call_function_entry kind_sorted plain_sorted entry_sorted (args_sorted1 _) ?_
 unfold Builtin.«sorted»
 refine wpAny_bind (m:=checkCount "sorted" 1 1 _) (wpAny_pure (wpAny_bind (collect_list hl ?_ hz)))
 refine wpAny_bind (wpAny_newList ?_)
 have sz:((s.heap.push (seqObj "list" #[] 0)).update s.heap.objs.size (Obj.mapSeq (·++vs.toArray))).objs.size=s.heap.objs.size+1:=by rw[Heap.size_update,size_push']
 have oL:(((s.heap.push (seqObj "list" #[] 0)).update s.heap.objs.size (Obj.mapSeq (·++vs.toArray))).push (seqObj "list" vs.toArray 0)).get? (s.heap.objs.size+1)=some (seqObj "list" vs.toArray 0):=by
  rw[<-sz]
  exact Heap.get?_push_size _ rfl
 have hI2:∀ v∈vs,gTh (((s.heap.push (seqObj "list" #[] 0)).update s.heap.objs.size (Obj.mapSeq (·++vs.toArray))).push (seqObj "list" vs.toArray 0)) ν v:=fun v hv=>by
  obtain ⟨b,o,n',t,u,rfl,hb,hc,hd⟩:=hI v hv
  have lb:b<s.heap.objs.size:=Heap.lt_size hb
  refine ⟨b,o,n',t,u,rfl,?_,hc,hd⟩
  refine Heap.get?_push_of_some _ ?_
  rw[Heap.get?_update_ne _ _ _ _ (Nat.ne_of_lt lb)]
  exact Heap.get?_push_of_some _ hb
 show wpAny _ _ _ _ _ {s with heap:=((s.heap.push (seqObj "list" #[] 0)).update s.heap.objs.size (Obj.mapSeq (·++vs.toArray))).push (seqObj "list" vs.toArray 0)}
 rw[sz]
 refine wpAny_bind (wpAny_holding (wpAny_call_entry slot_list_sort ⟨_,oL,rfl⟩ entry_list_sort (UI ν oL hI2 hz fun out b1 b2=>⟨_,rfl,?_⟩) (args_list_sort _)))
 exact wpAny_pure ⟨_,rfl,h out b1 b2⟩
end
end EvS
namespace L2
open PySem PySem.Spec PyProof.Rows
section
variable {prog:Program} {w:World} {A:Around} {R:Result->Shared->Prop} {s:Shared}
theorem Su {elt tg src:Expr} {tests:List Expr} {sc:Scope} {cp:Pos} {it acc:Value} {ev:Env} (J:Nat->Shared->Prop)
  (turn:∀ n s,J n s->wpAny (model prog w) A (pyNext it) (fun r s1=>match r with
   | none=>R (.ok .next) s1
   | some v=>wpAny (model prog w) A (letOwnedTupleGo tg it v) (fun _ s2=>wpAny (model prog w) A (assign tg ev v) (fun _ s3=>
     wpAny (model prog w) A (forIn tests true fun c r=>if r=true then do let ok <-isTrue c ev (eval c ev);pure (ForInStep.yield ok) else pure (ForInStep.yield r)) (fun ok s4=>
      if ok=true then wpAny (model prog w) A (eval elt ev) (fun x s5=>wpAny (model prog w) A (call (.builtin "list.append") [acc,x]) (fun _ s6=>∃ m,m<n/\J m s6) (fun _ _=>False) s5) (fun _ _=>False) s4
      else ∃ m,m<n/\J m s4) (fun _ _=>False) s3) (fun _ _=>False) s2) (fun _ _=>False) s1) (fun _ _=>False) s)
  (n:Nat) (h:J n s):codeAny (model prog w) A (.compLoop (.ListComp elt [⟨tg,src,tests,0⟩] sc cp) 0 it acc ev) R s:=by
 refine codeAny_loop rfl J (fun n s hJ=>?_) n h
 show wpAny _ A ((compTurn (.ListComp elt [⟨tg,src,tests,0⟩] sc cp) 0 it acc ev).onRaise (fun x=>do noteFrame x ev;theTreesLotGoes x)) _ _ s
 refine wpAny_noted ?_
 rw[compTurn_list]
 refine wpAny_bind (wpAny_standAt (wpAny_bind (wpAny_mono (turn n s hJ) (fun r s1 h1=>?_) fun _ _ f=>f.elim)))
 cases r with
 | none=>exact wpAny_pure h1
 | some v=>
  refine wpAny_bind (wpAny_mono h1 (fun _ s2 h2=>?_) fun _ _ f=>f.elim)
  refine wpAny_bind (wpAny_mono h2 (fun _ s3 h3=>wpAny_bind (wpAny_mono h3 (fun ok s4 h4=>?_) fun _ _ f=>f.elim)) fun _ _ f=>f.elim)
  cases ok with
  | false=>exact wpAny_pure ⟨rfl,h4⟩
  | true=>exact wpAny_bind (wpAny_bind (wpAny_mono h4 (fun x s5 h5=>wpAny_bind (wpAny_mono h5 (fun _ s6 h6=>wpAny_pure (wpAny_pure ⟨rfl,h6⟩)) fun _ _ f=>f.elim)) fun _ _ f=>f.elim))
end
theorem Iw {ev:Env} {F:Str×NameKind->List (Str×Addr)->Sem (ForInStep (List (Str×Addr)))}
  (hF:∀ n k cs,F (n,k) cs=if (k == NameKind.free)=true then (do let c <-cellOf ev n;pure (ForInStep.yield ((n,c)::cs))) else pure (ForInStep.yield cs)) :
  ∀ (ns:List (Str×NameKind)) (cs:List (Str×Addr)),(∀ x c,cs.lookup x=some c->ev.cells.lookup x=some c)->(∀ x∈ns,x.2=.free->∃ c,ev.cells.lookup x.1=some c) ->
   ∃ cl,(forIn ns cs F:Sem (List (Str×Addr)))=pure cl/\(∀ x c,cl.lookup x=some c->ev.cells.lookup x=some c)/\(∀ x c,cs.lookup x=some c->∃ d,cl.lookup x=some d) /\
    ∀ x∈ns,x.2=.free->∃ c,cl.lookup x.1=some c
 | [],cs,h1,_=>⟨cs,by rw[List.forIn_nil],h1,fun _ c e=>⟨c,e⟩,fun _ hx=>nomatch hx⟩
 | (n,k)::ns,cs,h1,h2=>by
  have h2':∀ x∈ns,x.2=.free->∃ c,ev.cells.lookup x.1=some c:=fun x hx=>h2 x (List.mem_cons_of_mem _ hx)
  by_cases hk:k=NameKind.free
  ·subst hk
   obtain ⟨c,hc⟩:=h2 (n,.free) List.mem_cons_self rfl
   have h1':∀ x d,((n,c)::cs).lookup x=some d->ev.cells.lookup x=some d:=fun x d e=>by
    rw[List.lookup_cons] at e
    cases hx:x == n with
    | true=>rw[hx] at e;cases e;rw[eq_of_beq hx];exact hc
    | false=>rw[hx] at e;exact h1 x d e
   obtain ⟨cl,e1,e2,e3,e4⟩:=Iw hF ns ((n,c)::cs) h1' h2'
   refine ⟨cl,?_,e2,fun x d e=>?_,fun x hx hf=>?_⟩
   ·rw[List.forIn_cons,hF]
    have hcell:cellOf ev n=pure c:=by unfold cellOf;rw[hc]
    rw[if_pos (by decide),hcell]
    exact e1
   ·cases hx:x == n with
    | true=>exact e3 x c (by rw[List.lookup_cons,hx])
    | false=>exact e3 x d (by rw[List.lookup_cons,hx];exact e)
   ·rcases List.mem_cons.mp hx with rfl | hx
    ·exact e3 n c (by rw[List.lookup_cons,beq_self_eq_true])
    ·exact e4 x hx hf
  ·obtain ⟨cl,e1,e2,e3,e4⟩:=Iw hF ns cs h1 h2'
   refine ⟨cl,?_,e2,e3,fun x hx hf=>?_⟩
   ·rw[List.forIn_cons,hF,if_neg (fun z=>hk (eq_of_beq z))]
    exact e1
   ·rcases List.mem_cons.mp hx with rfl | hx
    ·exact absurd hf hk
    ·exact e4 x hx hf
theorem KQ {sc:Scope} {ev:Env} (h:∀ x∈sc.names,x.2=.free->∃ c,ev.cells.lookup x.1=some c) :
  ∃ cl,closureFor sc ev=pure cl/\(∀ x c,cl.lookup x=some c->ev.cells.lookup x=some c)/\∀ x∈sc.names,x.2=.free->∃ c,cl.lookup x.1=some c:=by
 obtain ⟨cl,e1,e2,_,e4⟩:=Iw (ev:=ev) (F:=fun x cs=>match x with
  | (n,k)=>if (k == NameKind.free)=true then (do let c <-cellOf ev n;pure (ForInStep.yield ((n,c)::cs))) else pure (ForInStep.yield cs)) (fun _ _ _=>rfl) sc.names [] (fun x c e=>nomatch e) h
 refine ⟨cl,?_,e2,e4⟩
 show ((forIn sc.names [] (fun x cs=>match x with
  | (n,k)=>if (k == NameKind.free)=true then (do let c <-cellOf ev n;pure (ForInStep.yield ((n,c)::cs))) else pure (ForInStep.yield cs)):Sem (List (Str×Addr))) >>= fun z=>pure z)=pure cl
 rw[e1]
 rfl
theorem lookup_map2 (g:Str->NameKind->NameKind):∀ (l:List (Str×NameKind)) (x:Str),(l.map fun p=>(p.1,g p.1 p.2)).lookup x=(l.lookup x).map (g x)
 | [],_=>rfl
 | (n,k)::l,x=>by
  rw[List.map_cons,List.lookup_cons,List.lookup_cons]
  cases hx:x == n with
  | true=>rw[eq_of_beq hx];rfl
  | false=>exact lookup_map2 g l x
theorem Hk:∀ {l:List (Str×NameKind)} {x:Str} {k:NameKind},l.lookup x=some k->(x,k)∈l
 | (n,k')::l,x,k,h=>by
  rw[List.lookup_cons] at h
  cases hx:x == n with
  | true=>rw[hx] at h;cases h;rw[eq_of_beq hx];exact List.mem_cons_self
  | false=>rw[hx] at h;exact List.mem_cons_of_mem _ (Hk h)
def DM (ev:Env) (n:Str) (k:NameKind):NameKind:=if (k == .free && ev.scope.kind == .function && ev.kindOf n == some .cell)=true then .cell else k
theorem Mb (sc:Scope) (ev:Env) (x:Str):(relabel sc ev).names.lookup x=(sc.names.lookup x).map (DM ev x):=by
 have e:(relabel sc ev).names=sc.names.map fun p=>(p.1,DM ev p.1 p.2):=by
  unfold relabel
  refine List.map_congr_left fun p _=>?_
  obtain ⟨n,k⟩:=p
  show (if (k == .free && ev.scope.kind == .function && ev.kindOf n == some .cell)=true then (n,NameKind.cell) else (n,k))=(n,DM ev n k)
  unfold DM
  split<;>rfl
 rw[e]
 exact lookup_map2 _ _ _
structure CompOk (sc esc:Scope) (N fn:List Str) (ix:List Nat):Prop where
 kind:sc.kind=.function
 nocell:∀ x∈sc.names,x.2≠.cell
 locs:∀ x∈sc.names,x.2=.local->sc.names.lookup x.1=some .local
 frees:∀ x∈sc.names,x.2=.free->esc.names.lookup x.1=some .cell\/esc.names.lookup x.1=some .free
 ixs:ix.map (fun i=>N[i]?)=fn.map some
 fns:∀ x∈fn,sc.names.lookup x=some .free
def As (X:Cx) (N':List Str) (sc:Scope) (s2:Shared) (H2:Hp) (cl:List (Str×Addr)) (C:Addr) (fp:List Addr):Cx where
 prog:=X.prog
 w:=X.w
 K:=X.K
 mg:=X.mg
 base:=X.base
 A:=X.A
 N:=N'
 s₀:=s2
 H₀:=H2
 env:=compEnvC sc cl C X.env
 outer:=X.stack
 stack:=X.stack
 ex:=fp
 fn:=fun _=>false
 calm:=X.calm
 pn:=[]
 xe:=fun _ _=>False
def cSt (nt:Nat) (ix:List Nat) (σ:St):St:=List.replicate nt none++ix.map fun k=>(σ[k]?).join
def IM (J:It) (g:TG) (tc:TT) (te:TE) (l:Addr) (q:Hp->Prop) (σ0:St) (H0:Hp):Prop:=
 ∃ W:Nat->Nat->St->Hp->Prop,(∃ m,W 0 m σ0 H0)/\∀ i m σ H,W i m σ H ->
  (J.stop i H/\q H)\/(J.go i H/\∃ N:St->Hp->Prop,(∀ σ' H',N σ' H'->∃ m',m'<m/\W (i+1) m' σ' H')/\∀ x H',J.yld i H x H'->g x σ H' fun σ2 H2=>tc σ2 H2 fun b H3=>
   if b=true then te σ2 H3 fun v H4=>∃ xs,H4 l=some (.lst xs)/\xs.length<sizeLine/\N σ2 (upd H4 l (.lst (xs++[v]))) else N σ2 H3)
def JB (wi:TI) (nt:Nat) (ix:List Nat) (g:TG) (tc:TT) (te:TE):TE:=fun σ H Q=>wi σ H fun J H1=>∀ l,H1 l=none->IM J g tc te l (fun H'=>Q (.ref l) H') (cSt nt ix σ) (upd H1 l (.lst []))
def PTs (X:Cx) (tests:List Expr) (tc:TT):Prop:=
 ∀ (pins:List (Addr×Obj)) (s:Shared) (σ:St) (H:Hp) (Q:Bool->Hp->Prop),Inv X pins σ H s->tc σ H Q ->
  wpAny (model X.prog X.w) X.A (forIn tests true fun c r=>if r=true then do let ok <-isTrue c X.env (eval c X.env);pure (ForInStep.yield ok) else pure (ForInStep.yield r)) (TP X pins σ Q) X.xe s
def F0:TT:=fun _ H Q=>Q true H
theorem FH {X:Cx}:PTs X [] F0:=fun _ _ _ H _ I h=>wpAny_tests_nil ⟨H,I,h⟩
section
variable {X:Cx} {elt tg src:Expr} {tests:List Expr} {sc esc:Scope} {cp:Pos} {g:TG} {tc:TT} {te:TE} {N tn fn:List Str} {ix:List Nat}
theorem QD {cl:List (Str×Addr)} {pins:List (Addr×Obj)} {σ:St} {s2:Shared} {H2:Hp} {C:Addr} {fp:List Addr} (hsc:X.env.scope=esc) (ok:CompOk sc esc N fn ix)
  (hsub:∀ x c,cl.lookup x=some c->X.env.cells.lookup x=some c) (hall:∀ x∈sc.names,x.2=.free->∃ c,cl.lookup x.1=some c)
  (I2:Inv X pins σ H2 s2) (f2:∀ b∈fp,Br X pins H2 b) (lt:∀ b∈fp,b<s2.heap.objs.size) (hC:s2.heap.objs.size<=C):(As X (tn++fn) sc s2 H2 cl C fp).Ok where
 mod:=I2.ok.mod
 kind:=ok.kind
 glob:=I2.ok.glob
 blt:=I2.ok.blt
 above:=hC
 inj:=fun x y c e1 e2=>I2.ok.inj x y c (hsub x c e1) (hsub y c e2)
 has:=fun x hx=>by
  have hx':(relabel sc X.env).names.lookup x=some .cell\/(relabel sc X.env).names.lookup x=some .free:=hx
  rw[Mb] at hx'
  cases e:sc.names.lookup x with
  | none=>rw[e] at hx';rcases hx' with z | z<;>cases z
  | some k=>
   have hm:=Hk e
   have hk:k=.free:=by
    by_cases z:k=.free
    ·exact z
    ·exfalso
     have hr:DM X.env x k=k:=by
      unfold DM
      rw[if_neg]
      intro q
      rw[Bool.and_eq_true,Bool.and_eq_true] at q
      exact z (eq_of_beq q.1.1)
     rw[e,Option.map_some,hr] at hx'
     rcases hx' with q | q
     ·exact ok.nocell _ hm (Option.some.inj q)
     ·exact z (Option.some.inj q)
   subst hk
   exact hall _ hm rfl
 cab:=fun _ _ e=>nomatch e
 hd:=I2.ok.hd
 frames:=I2.ok.frames
 stk:=.inl rfl
 exf:=fun b hb=>⟨Nat.ne_of_lt (Nat.lt_of_lt_of_le (lt b hb) hC),fun x c e=>(f2 b hb).2.2.2.2.1 x c (hsub x c e)⟩
 bs:=I2.bs
 bsz:=Nat.le_trans I2.ok.bsz I2.sz
 noex:=fun b o e hb=>by
  rcases (f2 b hb).2.2.2.1 with z | z
  ·exact I2.ok.noex b o e z
  ·exact absurd (Nat.lt_of_lt_of_le (Heap.lt_size e) (Nat.le_trans I2.ok.bsz z)) (Nat.lt_irrefl _)
 exfs:=fun b hb hf=>by
  rcases List.mem_cons.mp (I2.stkSub b hf) with z | z
  ·exact (f2 b hb).2.1 z
  ·exact (f2 b hb).2.2.1 z
 funs:=I2.stack
 frf:=I2.stkFree
theorem Oj (nt:Nat) (ix:List Nat) (σ:St):(cSt nt ix σ).length=nt+ix.length:=by
 unfold cSt
 rw[List.length_append,List.length_replicate,List.length_map]
theorem Li {cl:List (Str×Addr)} {pins:List (Addr×Obj)} {σ:St} {s2:Shared} {H2:Hp} {it:Addr} {fp:List Addr} {tu:Nat->Heap->Prop} {J:It} {E:Value->Shared->Prop} {q:Addr->Hp->Prop}
  {RR:Value->Addr->Result->Shared->Prop} (hc:X.calm=true) (hsc:X.env.scope=esc) (hN:X.N=N) (ok:CompOk sc esc N fn ix)
  (hsub:∀ x c,cl.lookup x=some c->X.env.cells.lookup x=some c) (hall:∀ x∈sc.names,x.2=.free->∃ c,cl.lookup x.1=some c)
  (hg:∀ s2 H2 cl C fp,PG (As X (tn++fn) sc s2 H2 cl C fp) tg g)
  (ht:∀ s2 H2 cl C fp,PTs (As X (tn++fn) sc s2 H2 cl C fp) tests tc)
  (he:∀ s2 H2 cl C fp,PE (As X (tn++fn) sc s2 H2 cl C fp) elt te)
  (I2:Inv X pins σ H2 s2) (T:Turn X.prog X.w X.K tg J fp it tu) (st2:tu 0 s2.heap) (f2:∀ b∈fp,Br X pins H2 b)
  (h:∀ l,H2 l=none->IM J g tc te l (q l) (cSt tn.length ix σ) (upd H2 l (.lst [])))
  (hRR:∀ (C l:Addr) (s4:Shared) (H3:Hp) (m:Str->Option Value),Inv X pins σ H3 s4->s4.heap.Ns C m->Br X pins H3 C->q l H3->RR (.ref l) C (.ok .next) s4) :
  wpAny (model X.prog X.w) X.A (newList []) (fun acc s3=>wpAny (model X.prog X.w) X.A (newFunctionEnv sc X.env.globals cl [] X.env.qual none .none (some X.env)) (fun cenv s4=>
   codeAny (model X.prog X.w) X.A (.compStart (.ListComp elt [⟨tg,src,tests,0⟩] sc cp) 0 (.ref it) acc {cenv with scope:=relabel sc X.env}) (RR acc cenv.locals) s4) E s3) E s2:=by
 refine wpAny_newObj_type (wpAny_newFunctionEnv ok.nocell (by intro y hy;simp at hy) (fun h1 hns hsb=>?_) ok.kind)
 dsimp only at hns hsb ⊢
 generalize hL:s2.heap.push {cls:=.type "list",dict:=none,data:=.seq ([]:List Value).toArray}=g1 at hns hsb ⊢
 have hC:g1.objs.size=s2.heap.objs.size+1:=by rw[<-hL,Heap.size_push]
 have hlC:s2.heap.objs.size≠g1.objs.size:=by rw[hC];exact Nat.ne_of_lt (Nat.lt_succ_self _)
 have hCle:s2.heap.objs.size<=g1.objs.size:=by rw[hC];exact Nat.le_succ _
 have old:∀ b o,s2.heap.get? b=some o->h1.get? b=some o:=fun b o e=>
  hsb.extBut b o (Nat.ne_of_lt (Nat.lt_of_lt_of_le (Heap.lt_size e) hCle)) (Heap.get?_push_of_some _ (hL▸Heap.get?_push_of_some _ e))
 have hnew:h1.get? s2.heap.objs.size=some {cls:=.type "list",data:=.seq ([]:List Value).toArray}:=hsb.extBut _ _ hlC (Heap.get?_push_of_some _ (hL▸Heap.get?_push_size _ rfl))
 have lt:∀ b∈fp,b<s2.heap.objs.size:=fun b hb=>by
  obtain ⟨o,e,_⟩:=T.obj 0 _ st2 b hb
  exact Heap.lt_size e
 have hl0:H2 s2.heap.objs.size=none:=I2.fresh
 have cok:(As X (tn++fn) sc s2 H2 cl g1.objs.size fp).Ok:=QD hsc ok hsub hall I2 f2 lt hCle
 have hixl:ix.length=fn.length:=by
  have z:=congrArg List.length ok.ixs
  rwa [List.length_map,List.length_map] at z
 have YI:Inv (As X (tn++fn) sc s2 H2 cl g1.objs.size fp) [] (cSt tn.length ix σ) (upd H2 s2.heap.objs.size (.lst [])) {s2 with heap:=h1,toks:=s2.toks+([]:List (Str×Value)).length}:=by
  refine ⟨cok,rfl,I2.bare,Un.laid old (Nat.le_refl _) hl0,⟨_,hns,fun i x v e1 e2 e3=>?_⟩,fun x c e=>?_,?_,fun x c e=>?_,fun p hp=>?_,?_,?_⟩
  ·
   have hi:tn.length<=i:=by
    by_cases z:i<tn.length
    ·exfalso
     have e2':(cSt tn.length ix σ)[i]?=some none:=by
      unfold cSt
      rw[List.getElem?_append_left (by rw[List.length_replicate];exact z),List.getElem?_replicate,if_pos z]
     rw[e2'] at e2
     cases e2
    ·lia
   have e1':fn[i - tn.length]?=some x:=by
    have z:(tn++fn)[i]?=some x:=e1
    rwa [List.getElem?_append_right hi] at z
   have e2':(ix.map fun k=>(σ[k]?).join)[i - tn.length]?=some (some v):=by
    unfold cSt at e2
    rwa [List.getElem?_append_right (by rw[List.length_replicate];exact hi),List.length_replicate] at e2
   rw[List.getElem?_map] at e2'
   cases ek:ix[i - tn.length]? with
   | none=>rw[ek] at e2';cases e2'
   | some k=>
    rw[ek] at e2'
    have ev:(σ[k]?).join=some v:=Option.some.inj e2'
    have ev':σ[k]?=some (some v):=by
     cases z:σ[k]? with
     | none=>rw[z] at ev;cases ev
     | some w'=>rw[z] at ev;exact congrArg some ev
    have eN:X.N[k]?=some x:=by
     have z:=congrArg (fun l=>l[i - tn.length]?) ok.ixs
     rw[List.getElem?_map,List.getElem?_map,ek,e1'] at z
     rw[hN]
     exact Option.some.inj z
    have hfx:sc.names.lookup x=some .free:=ok.fns x (List.mem_of_getElem? e1')
    have hmem:=Hk hfx
    have hkind:X.env.scope.names.lookup x=some .cell\/X.env.scope.names.lookup x=some .free:=by rw[hsc];exact ok.frees _ hmem rfl
    obtain ⟨m,hn,hl⟩:=I2.loc
    obtain ⟨u,r,lk⟩:=hl k x v eN ev' (.inr hkind)
    refine ⟨u,r,.inr ⟨?_,?_⟩⟩
    ·show (relabel sc X.env).names.lookup x=some .cell\/(relabel sc X.env).names.lookup x=some .free
     rw[Mb,hfx,Option.map_some]
     unfold DM
     split
     ·exact .inl rfl
     ·exact .inr rfl
    ·rcases lk with ⟨z,_⟩ | ⟨_,c,ec,o,ho,hd⟩
     ·have z':X.env.scope.names.lookup x=some .local:=z
      rw[z'] at hkind
      rcases hkind with w' | w'<;>cases w'
     ·obtain ⟨c',hc'⟩:=hall _ hmem rfl
      have ecc:=hsub _ _ hc'
      rw[ec] at ecc
      cases ecc
      exact ⟨c,hc',o,old _ _ ho,hd⟩
  ·obtain ⟨v,o,ho,hd⟩:=I2.cell x c (hsub x c e)
   exact ⟨v,o,old _ _ ho,hd⟩
  ·show (upd H2 s2.heap.objs.size (.lst [])) g1.objs.size=none
   rw[AJ (Ne.symm hlC)]
   exact I2.hok.fresh hCle
  ·have hfc:=I2.freeC x c (hsub x c e)
   obtain ⟨v,o,ho,_⟩:=I2.cell x c (hsub x c e)
   show (upd H2 s2.heap.objs.size (.lst [])) c=none
   rw[AJ (Nat.ne_of_lt (Heap.lt_size ho))]
   exact hfc
  ·exact nomatch hp
  ·exact I2.hok.laid old (Nat.le_refl _) ⟨Nat.zero_le _,[],_,.nil,hnew⟩
  ·rw[Oj,hixl]
   show _=(tn++fn).length
   rw[List.length_append]
 have fpY:∀ {H':Hp},(∀ b∈fp,H' b=none)->∀ b∈fp,Br (As X (tn++fn) sc s2 H2 cl g1.objs.size fp) [] H' b:=fun hn b hb=>
  ⟨hn b hb,(cok.exf b hb).1,cok.exfs b hb,.inl hb,fun x c e=>(cok.exf b hb).2 x c e,fun p hp=>nomatch hp⟩
 have fr0:∀ b∈fp,(upd H2 s2.heap.objs.size (.lst [])) b=none:=fun b hb=>by
  rw[AJ (Nat.ne_of_lt (lt b hb))]
  exact (f2 b hb).1
 have loop:codeAny (model X.prog X.w) X.A (.compLoop (.ListComp elt [⟨tg,src,tests,0⟩] sc cp) 0 (.ref it) (.ref s2.heap.objs.size) (compEnvC sc cl g1.objs.size X.env)) (RR (.ref s2.heap.objs.size) g1.objs.size)
   {s2 with heap:=h1,toks:=s2.toks+([]:List (Str×Value)).length}:=by
  obtain ⟨W,⟨m0,w0⟩,turn⟩:=h s2.heap.objs.size hl0
  refine Su (fun n s'=>∃ i σ' H',Inv (As X (tn++fn) sc s2 H2 cl g1.objs.size fp) [] σ' H' s'/\tu i s'.heap/\(∀ b∈fp,H' b=none)/\W i n σ' H') ?_ m0
   ⟨0,_,_,YI,T.keep _ _ _ st2 fun b _ o e=>old b o e,fr0,w0⟩
  rintro n s3 ⟨i,σ3,H3,I3,st3,fr3,w3⟩
  rcases turn i n σ3 H3 w3 with ⟨stop,qn⟩ | ⟨go,Nx,hNx,step⟩
  ·refine thn (T.done (As X (tn++fn) sc s2 H2 cl g1.objs.size fp) rfl rfl rfl hc i [] s3 σ3 H3 _ I3 (fpY fr3) st3 stop) fun r s4 hh_=>?_
   obtain ⟨hr,I4⟩:=hh_
   subst hr
   obtain ⟨m,hn,_⟩:=I4.loc
   have IX:Inv X pins σ H3 s4:=I2.call' (ch:=fp) I4.os I4.base I4.hok I4.bare fun b hb=>by
    obtain ⟨_,a1,_,a3,a4,a5⟩:=f2 b hb
    exact ⟨a3,a1,a4,a5⟩
   exact hRR _ _ s4 H3 m IX hn (I2.fpOk hCle I4.free) qn
  ·refine thn (T.item (As X (tn++fn) sc s2 H2 cl g1.objs.size fp) rfl rfl rfl hc i [] s3 σ3 H3 _ I3 (fpY fr3) st3 go) fun r s4 hh_=>?_
   obtain ⟨u,hr,h4⟩:=hh_
   subst hr
   refine thn h4 fun _ s5 hh_=>?_
   obtain ⟨x,H5,I5,r5,y5,st5,fr5⟩:=hh_
   have I5':=I5.pinned (fpY fr5) (T.obj _ _ st5)
   refine thn (hg _ _ _ _ _ _ s5 σ3 H5 x u _ I5' r5 (step x H5 y5)) fun _ s6 hh_=>?_
   obtain ⟨σ6,H6,I6,q6⟩:=hh_
   refine thn (ht _ _ _ _ _ _ s6 σ6 H6 _ I6 q6) fun b s7 hh_=>?_
   obtain ⟨H7,I7,q7⟩:=hh_
   have again:∀ {s8:Shared} {H8:Hp},Inv (As X (tn++fn) sc s2 H2 cl g1.objs.size fp) ([]++Es fp s5.heap) σ6 H8 s8->Nx σ6 H8 ->
     ∃ m,m<n/\∃ i σ' H',Inv (As X (tn++fn) sc s2 H2 cl g1.objs.size fp) [] σ' H' s8/\tu i s8.heap/\(∀ b∈fp,H' b=none)/\W i m σ' H':=fun {s8 H8} I8 n8=>by
    obtain ⟨m',hm,w8⟩:=hNx σ6 H8 n8
    refine ⟨m',hm,i+1,σ6,H8,I8.unpinned,T.keep _ _ _ st5 fun b hb o e=>(I8.pin (b,o) (List.mem_append_right _ (List.mem_append_right _ (Fm hb e)))).1,fun b hb=>?_,w8⟩
    obtain ⟨o,e,_⟩:=T.obj _ _ st5 b hb
    exact (I8.pin (b,o) (List.mem_append_right _ (List.mem_append_right _ (Fm hb e)))).2.1
   cases b with
   | false=>
    rw[if_neg Bool.false_ne_true] at q7 ⊢
    exact again I7 q7
   | true=>
    rw[if_pos rfl] at q7 ⊢
    refine thn (he _ _ _ _ _ _ s7 σ6 H7 _ I7 q7) fun y s8 hh_=>?_
    obtain ⟨v,H8,I8,r8,xs,hx,hz,n8⟩:=hh_
    refine thn (Ir _ s8 σ6 H8 (.ref s2.heap.objs.size) [v] (.ref s2.heap.objs.size) [y] (fun _ H9=>Nx σ6 H9) I8 rfl (.cons r8 .nil) ⟨_,xs,v,rfl,rfl,hx,hz,n8⟩) fun _ s9 ⟨_,H9,I9,_,q9⟩=>again I9 q9
 exact codeAny_compStart_list loop (T.self _ 0 _ _ _ (T.keep _ _ _ st2 fun b _ o e=>old b o e) loop)
variable {wi:TI}
theorem JC (hc:X.calm=true) (hsc:X.env.scope=esc) (hN:X.N=N) (ok:CompOk sc esc N fn ix) (hi:PI X tg src wi)
  (hg:∀ s2 H2 cl C fp,PG (As X (tn++fn) sc s2 H2 cl C fp) tg g)
  (ht:∀ s2 H2 cl C fp,PTs (As X (tn++fn) sc s2 H2 cl C fp) tests tc)
  (he:∀ s2 H2 cl C fp,PE (As X (tn++fn) sc s2 H2 cl C fp) elt te)
  (hs:∀ x,foldedSetIterable src X.env x=pure x:=by intro _;rfl):PE X (.ListComp elt [⟨tg,src,tests,0⟩] sc cp) (JB wi tn.length ix g tc te):=by
 intro pins s σ H Q I h
 rw[eval_ListComp]
 obtain ⟨cl,hcl,hsub,hall⟩:=KQ (sc:=sc) (ev:=X.env) fun x hx hf=>I.ok.has x.1 (by have z:=ok.frees x hx hf;rw[<-hsc] at z;exact z)
 refine wpAny_comprehension_free (use:=none) rfl hs hcl ok.kind ok.locs (thn (hi pins s σ H _ I h) fun xv s1 h1=>thn h1 fun itv s2 h2=>?_)
 obtain ⟨it,fp,tu,J,H2,e,I2,T,st2,f2,hq⟩:=h2
 subst e
 refine Li (q:=fun l H'=>Q (.ref l) H') (RR:=fun acc C=>compPost (model X.prog X.w) X.A X.xe none (EP X pins σ Q) acc C) hc hsc hN ok hsub hall hg ht he I2 T st2 f2 hq fun C l s4 H3 m I4 hn fC q4=>?_
 obtain ⟨a0,a1,_,a3,a4,a5⟩:=fC
 exact ⟨m,hn,fun h' sb=>⟨.ref l,H3,I4.turned (t':=s4.toks) (fun b o hb e=>(sb.2 b hb).trans e) a0 a1 a3 a4 a5,rfl,q4⟩⟩
theorem Im {i:Nat} {y:Str} {py sp:Pos} (hnd:X.N.Nodup) (hiy:X.N[i]?=some y) (hy:X.env.scope.names.lookup y=some .local) (hc:X.calm=true) (hsc:X.env.scope=esc) (hN:X.N=N) (ok:CompOk sc esc N fn ix) (hi:PI X tg src wi)
  (hg:∀ s2 H2 cl C fp,PG (As X (tn++fn) sc s2 H2 cl C fp) tg g)
  (ht:∀ s2 H2 cl C fp,PTs (As X (tn++fn) sc s2 H2 cl C fp) tests tc)
  (he:∀ s2 H2 cl C fp,PE (As X (tn++fn) sc s2 H2 cl C fp) elt te)
  (hsw:swapsWith (.ListComp elt [⟨tg,src,tests,0⟩] sc cp) (some (.Name y py)) sp.line X.env=pure true:=by rfl)
  (hs:∀ x,foldedSetIterable src X.env x=pure x:=by intro _;rfl) :
  PS X (.Assign [.Name y py] (.ListComp elt [⟨tg,src,tests,0⟩] sc cp) sp) (fun D σ H=>JB wi tn.length ix g tc te σ H fun v H'=>D.nx (σ.set i (some v)) H'):=by
 intro pins s σ H D I h
 rw[exec_Assign_Name_used _ _ _ _ hsw]
 obtain ⟨cl,hcl,hsub,hall⟩:=KQ (sc:=sc) (ev:=X.env) fun x hx hf=>I.ok.has x.1 (by have z:=ok.frees x hx hf;rw[<-hsc] at z;exact z)
 refine wpAny_bind (wpAny_standAt (wpAny_bind ?_))
 show wpAny _ X.A (do let _ <-comprehension (.ListComp elt [⟨tg,src,tests,0⟩] sc cp) sc X.env _ (newList []) false (eval src X.env) (some (assign (.Name y py) X.env))) _ _ s
 refine wpAny_bind (wpAny_mono (wpAny_comprehension_free (use:=some (assign (.Name y py) X.env)) (Q:=fun _ s'=>SP X pins D .next s') rfl hs hcl ok.kind ok.locs
  (thn (hi pins s σ H _ I h) fun xv s1 h1=>thn h1 fun itv s2 h2=>?_)) (fun _ s' hq=>wpAny_pure (wpAny_pure hq)) fun _ _ e=>e)
 obtain ⟨it,fp,tu,J,H2,e,I2,T,st2,f2,hq⟩:=h2
 subst e
 refine Li (q:=fun l H'=>D.nx (σ.set i (some (.ref l))) H') (RR:=fun acc C=>compPost (model X.prog X.w) X.A X.xe (some (assign (.Name y py) X.env)) (fun _ s'=>SP X pins D .next s') acc C) hc hsc hN ok hsub hall hg ht he I2 T st2 f2 hq fun C l s4 H3 m I4 hn fC q4=>?_
 obtain ⟨a0,a1,_,a3,a4,a5⟩:=fC
 refine wpAny_assign_Name (Kc I4 hnd hiy (.inl hy) (v:=.ref l) rfl (fun s5 I5 hh_=>?_) (.inr hy))
 obtain ⟨a,sb,ha⟩:=hh_
 have hCa:C≠a:=by
  rcases ha with z | z
  ·rw[z];exact a1
  ·exact Ne.symm (a4 y a z)
 refine ⟨m,hn.sameBut sb hCa,fun h' sb'=>⟨_,H3,I5.turned (t':=s5.toks) (fun b o hb e=>(sb'.2 b hb).trans e) a0 a1 a3 a4 a5,q4⟩⟩
end
theorem FI {J:It} {g:TG} {tc:TT} {te:TE} {l:Addr} {q:Hp->Prop} {σ:St} {H:Hp} (n:Nat) (Pv:Nat->St->Hp->Prop) (h0:Pv 0 σ H) (hgo:∀ i σ H,i<n->Pv i σ H->J.go i H) (hstop:∀ σ H,Pv n σ H->J.stop n H)
  (hs:∀ i x σ H H',i<n->Pv i σ H->J.yld i H x H'->g x σ H' fun σ2 H2=>tc σ2 H2 fun b H3=>
   if b=true then te σ2 H3 fun v H4=>∃ xs,H4 l=some (.lst xs)/\xs.length<sizeLine/\Pv (i+1) σ2 (upd H4 l (.lst (xs++[v]))) else Pv (i+1) σ2 H3)
  (hd:∀ σ H,Pv n σ H->q H):IM J g tc te l q σ H:=by
 refine ⟨fun i m σ H=>m=n - i/\i<=n/\Pv i σ H,⟨n,by simp,Nat.zero_le _,h0⟩,?_⟩
 rintro i m σ H ⟨rfl,hi,p⟩
 by_cases hlt:i<n
 ·exact .inr ⟨hgo i σ H hlt p,Pv (i+1),fun σ' H' p'=>⟨n - (i+1),by lia,rfl,hlt,p'⟩,fun x H' y=>hs i x σ H H' hlt p y⟩
 ·have e:i=n:=by lia
  subst e
  exact .inl ⟨hstop σ H p,hd σ H p⟩
theorem FL {J:It} {g:TG} {tb:TS} {D:Ends} {σ:St} {H:Hp} (n:Nat) (Pv:Nat->St->Hp->Prop) (h0:Pv 0 σ H) (hgo:∀ i σ H,i<n->Pv i σ H->J.go i H) (hstop:∀ σ H,Pv n σ H->J.stop n H)
  (hs:∀ i x σ H H',i<n->Pv i σ H->J.yld i H x H'->g x σ H' fun σ2 H2=>tb {D with nx:=Pv (i+1),ct:=Pv (i+1),bk:=D.nx} σ2 H2) (hd:∀ σ H,Pv n σ H->D.nx σ H) :
  ∃ W:Nat->Nat->St->Hp->Prop,(∃ m,W 0 m σ H)/\∀ i m σ H,W i m σ H ->
   (J.stop i H/\D.nx σ H)\/(J.go i H/\∃ N:St->Hp->Prop,(∀ σ' H',N σ' H'->∃ m',m'<m/\W (i+1) m' σ' H')/\∀ x H',J.yld i H x H'->g x σ H' fun σ2 H2=>tb {D with nx:=N,ct:=N,bk:=D.nx} σ2 H2):=by
 refine ⟨fun i m σ H=>m=n - i/\i<=n/\Pv i σ H,⟨n,by simp,Nat.zero_le _,h0⟩,?_⟩
 rintro i m σ H ⟨rfl,hi,p⟩
 by_cases hlt:i<n
 ·exact .inr ⟨hgo i σ H hlt p,Pv (i+1),fun σ' H' p'=>⟨n - (i+1),by lia,rfl,hlt,p'⟩,fun x H' y=>hs i x σ H H' hlt p y⟩
 ·have e:i=n:=by lia
  subst e
  exact .inl ⟨hstop σ H p,hd σ H p⟩
section
variable {X:Cx} {pins:List (Addr×Obj)} {σ:St} {H:Hp} {s:Shared} {g:Heap}
theorem Inv.turnL {ch:List Addr} {t':Nat} (I:Inv X pins σ H s) (hf:∀ b∈ch,Br X pins H b) (k:∀ b o,b∉ch->s.heap.get? b=some o->g.get? b=some o):Inv X pins σ H {s with heap:=g,toks:=t'}:=by
 refine I.step (g':=s.gens) (d':=s.drawn) (ch:=ch) (fun b hb=>?_) (fun b o _ _ hc e _=>k b o hc e) (fun b o _ _ hc e _=>⟨o.slots,k b o hc e⟩) (fun _ _ _ _ n=>n)
  (fun b o hc e=>⟨o,k b o hc e⟩) (fun _ _ e=>e) (fun _ _ _ e=>e) (fun b ps e=>⟨#[],by rw[e];simp⟩) (fun m hm=>?_) (fun b u e=>?_) I.bare
 ·obtain ⟨_,a1,_,a3,a4,a5⟩:=hf b hb
  exact ⟨a3,a1,a4,a5⟩
 ·obtain ⟨o,es,ep,ho,r⟩:=hm
  exact ⟨o,es,ep,k _ o (fun z=>(hf _ z).2.1 rfl) ho,r⟩
 ·refine (I.hok b u e).stay (fun c v hc q=>k c v (fun z=>?_) q) (fun _ q=>q) fun _ _ q=>q
  have n:=(hf c z).1
  rcases hc with y | y
  ·rw[y,e] at n;cases n
  ·rw[n] at y;cases y
theorem Inv.turnLay {ch:List Addr} {T:Addr} {o:HO} {t':Nat} (I:Inv X pins σ H s) (hf:∀ b∈ch,Br X pins H b) (k:∀ b u,b∉ch->s.heap.get? b=some u->g.get? b=some u) (hT:s.heap.objs.size<=T)
  (new:ObjOk X.prog X.w (upd H T o) g T o):Inv X pins σ (upd H T o) {s with heap:=g,toks:=t'}:=by
 have hn:H T=none:=I.hok.fresh hT
 have lt:∀ b u,s.heap.get? b=some u->b≠T:=fun b u e=>Nat.ne_of_lt (Nat.lt_of_lt_of_le (Heap.lt_size e) hT)
 refine I.step (g':=s.gens) (d':=s.drawn) (ch:=ch) (fun b hb=>?_) (fun b o _ _ hc e _=>k b o hc e) (fun b o _ _ hc e _=>⟨o.slots,k b o hc e⟩) (fun b u _ e n=>by rw[AJ (lt b u e)];exact n)
  (fun b o hc e=>⟨o,k b o hc e⟩) (fun b xs e=>by rw[AJ (Ah e hn)];exact e) (fun b _ xs e=>by rw[AJ (Ah e hn)];exact e) (fun b ps e=>⟨#[],by rw[AJ (Ah e hn),e];simp⟩) (fun m hm=>?_) (fun b u e=>?_) I.bare
 ·obtain ⟨_,a1,_,a3,a4,a5⟩:=hf b hb
  exact ⟨a3,a1,a4,a5⟩
 ·obtain ⟨o,es,ep,ho,r⟩:=hm
  exact ⟨o,es,ep,k _ o (fun z=>(hf _ z).2.1 rfl) ho,r⟩
 ·by_cases hb:b=T
  ·subst hb;rw[AS] at e;cases e;exact new
  ·rw[AJ hb] at e
   refine (I.hok b u e).stay (fun c v hc q=>k c v (fun z=>?_) q) (fun c q=>by rw[AJ (Ah q hn)];exact q) fun c xs q=>by rw[AJ (Ah q hn)];exact q
   have n:=(hf c z).1
   rcases hc with y | y
   ·rw[y,e] at n;cases n
   ·rw[n] at y;cases y
theorem Du:(2:Nat)<=sizeLine:=by decide
theorem PI.or {tg src:Expr} {w1 w2:TI} (a:PI X tg src w1) (b:PI X tg src w2):PI X tg src (fun σ H R=>w1 σ H R\/w2 σ H R):=fun pins s σ H R I h=>
 h.elim (fun z=>a pins s σ H R I z) fun z=>b pins s σ H R I z
end
def Ite (K:PySem.W.Frag) (l:Addr):It:=
 ⟨fun i H=>∃ xs x,SqL K H l xs/\xs[i]?=some x,fun i H v H'=>∃ T x,H T=none/\v=.ref T/\H'=upd H T (.tup [.int i,x])/\∀ xs,SqL K H l xs->xs[i]?=some x,fun i H=>∃ xs,SqL K H l xs/\xs.length<=i⟩
theorem QT {P:Program} {w:World} {K:PySem.W.Frag} {elts:List Expr} {k:Nat} {tp:Pos} (l e it:Addr) (hne:e≠it) :
  Turn P w K (.Tuple elts k tp) (Ite K l) [e,it] e (fun i h=>(∃ old,IsEnum h e it (i:Nat) old)/\h.IsListIter it l i) where
 mem:=by simp
 obj:=fun i h st b hb=>by
  obtain ⟨⟨old,he⟩,hi⟩:=st
  rcases List.mem_cons.mp hb with z | z
  ·subst z
   exact ⟨_,he,fun v q=>by
    have q':Data.fields _=Data.cell v:=q
    cases q'⟩
  ·have z':b=it:=by simpa using z
   subst z'
   obtain ⟨o,e,c,d⟩:=hi
   exact ⟨o,e,fun v q=>by rw[d] at q;cases q⟩
 keep:=fun i h h' st kk=>by
  obtain ⟨⟨old,he⟩,hi⟩:=st
  exact ⟨⟨old,kk e (by simp) _ he⟩,hi.at fun o q=>kk it (by simp) o q⟩
 item:=by
  intro X hP hw hK hc i pins s σ H E I hf st hg
  subst hP hw hK
  obtain ⟨xs,x,hq,hx⟩:=hg
  obtain ⟨its,rv,p,hz⟩:=I.list hq
  obtain ⟨u,hu,ru⟩:=rv.get hx
  obtain ⟨⟨old,he⟩,hit⟩:=st
  have le:e<s.heap.objs.size:=Heap.lt_size he
  have li:it<s.heap.objs.size:=by obtain ⟨_,q,_⟩:=hit;exact Heap.lt_size q
  refine wpAny_pyNext_enum_item he hit p.isList (x:=u) (by simpa using hu) hne fun h1 ho hit1 hT hsz hk=>?_
  refine ⟨_,rfl,wpAny_letOwnedTupleGo_enum ho fun h2 he2 hs2=>?_⟩
  replace hs2:Heap.SameBut e h1 h2:=hs2
  have up:∀ b o,b∉[e,it]->s.heap.get? b=some o->h2.get? b=some o:=fun b o hb q=>(hs2.2 b (fun z=>hb (by simp[z]))).trans (hk b o (fun z=>hb (by simp[z])) (fun z=>hb (by simp[z])) q)
  have hT2:h2.get? s.heap.objs.size=some {cls:=.type "tuple",data:=.seq #[.int i s.toks,u]}:=(hs2.2 _ (Nat.ne_of_gt le)).trans hT
  refine ⟨.ref s.heap.objs.size,upd H s.heap.objs.size (.tup [.int i,x]),I.turnLay (ch:=[e,it]) (t':=s.toks+1) hf up (Nat.le_refl _) ⟨Du,[.int i s.toks,u],.cons ⟨_,rfl⟩ (.cons ru .nil),⟨_,hT2,rfl,_,rfl⟩⟩,rfl,
   ⟨_,x,I.fresh,rfl,rfl,fun ys hy=>by rw[I.list_inj hy hq];exact hx⟩,⟨⟨u,by simpa using he2⟩,hit1.at fun o q=>(hs2.2 it (Ne.symm hne)).trans q⟩,fun b hb=>?_⟩
  have hlt:b<s.heap.objs.size:=by
   rcases List.mem_cons.mp hb with z | z
   ·rw[z];exact le
   ·have z':b=it:=by simpa using z
    rw[z'];exact li
  rw[AJ (Nat.ne_of_lt hlt)]
  exact (hf b hb).1
 done:=by
  intro X hP hw hK hc i pins s σ H E I hf st hg
  subst hP hw hK
  obtain ⟨xs,hq,hx⟩:=hg
  obtain ⟨its,rv,p,hz⟩:=I.list hq
  obtain ⟨⟨old,he⟩,hit⟩:=st
  have hl:=rv.length
  exact wpAny_pyNext_enum_end (I.ok.hd hc) he hit p.isList (by simp;lia) fun h1 eb=>⟨rfl,I.turnL (ch:=[e,it]) (t':=s.toks) hf fun b o hb q=>eb b o (fun z=>hb (by simp[z])) q⟩
 self:=fun A i s Q E st h=>by
  obtain ⟨⟨old,he⟩,_⟩:=st
  exact wpAny_pyIter_enum he h
def R9 (K:PySem.W.Frag) (ta:TA):TI:=fun σ H R=>ta σ H fun vs H1=>∃ l xs,vs=[.ref l]/\SqL K H1 l xs/\R (Ite K l) H1
theorem IP {X:Cx} {a:Expr} {ta:TA} {p cp tp:Pos} {elts:List Expr} {k:Nat} (hg:Gl X "enumerate") (hm:X.mg "enumerate"=none) (ha:PA X [a] ta) (hs:starEach [a] X.env=[(false,eval a X.env)]:=by rfl) :
  PI X (.Tuple elts k tp) (.Call (.Name "enumerate" p) [a] [] cp) (R9 X.K ta):=by
 intro pins s σ H R I h
 refine Call_ (D2 I hg hm boot_enumerate (PyProof.Rows.callWith_type1 (thn (ha cp pins s σ H _ I h) fun us s1 hh_=>?_) hs rfl))
 obtain ⟨vs,H1,I1,r1,q1⟩:=hh_
 obtain ⟨l,xs,e,hq,q⟩:=q1
 subst e
 cases r1 with
 | cons r rr=>
  cases rr
  cases r
  obtain ⟨its,rv,pl,hz⟩:=I1.list hq
  refine call_enumerate_list pl.isList fun h1 he hit hsz hk=>wpAny_pyIter_enum he ?_
  refine ⟨s1.heap.objs.size+1,[s1.heap.objs.size+1,s1.heap.objs.size],_,_,H1,rfl,I1.kept (t':=s1.toks) hk,QT l _ _ (Nat.succ_ne_self _),⟨⟨_,by simpa using he⟩,hit⟩,fun b hb=>?_,q⟩
  have hle:s1.heap.objs.size<=b:=by
   rcases List.mem_cons.mp hb with z | z
   ·rw[z];exact Nat.le_succ _
   ·have z':b=s1.heap.objs.size:=by simpa using z
    rw[z'];exact Nat.le_refl _
  exact I1.fpOk hle (I1.hok.fresh hle)
section
variable {prog:Program} {w:World} {A:Around} {E:Value->Shared->Prop} {s:Shared}
theorem Ox {z TI TO i1 i2:Addr} {x y a b:Value} {P1 P2:Heap->Prop} {Q:Value->Shared->Prop} (dO:TO≠z) (d1:i1≠z) (d2:i2≠z) (dO1:TO≠i1) (dO2:TO≠i2) (d12:i1≠i2)
  (hz:IsZip s.heap z TI TO .none) (hTI:IsPair s.heap TI (.ref i1) (.ref i2)) (hTO:IsPair s.heap TO a b)
  (n1:∀ (g:Heap) (Q:Value->Shared->Prop) (E:Value->Shared->Prop),(∀ c o,c≠z->s.heap.get? c=some o->g.get? c=some o)->(∀ g',P1 g'->Heap.SameBut i1 g g'->Q x {s with heap:=g'}) ->
   wpAny (model prog w) A (Builtin.SmallTypes.nextOf (.ref i1)) Q E {s with heap:=g})
  (n2:∀ (g:Heap) (Q:Value->Shared->Prop) (E:Value->Shared->Prop),(∀ c o,c≠z->c≠TO->c≠i1->s.heap.get? c=some o->g.get? c=some o)->(∀ g',P2 g'->Heap.SameBut i2 g g'->Q y {s with heap:=g'}) ->
   wpAny (model prog w) A (Builtin.SmallTypes.nextOf (.ref i2)) Q E {s with heap:=g})
  (k1:∀ g g':Heap,P1 g->(∀ o,g.get? i1=some o->g'.get? i1=some o)->P1 g') (k2:∀ g g':Heap,P2 g->(∀ o,g.get? i2=some o->g'.get? i2=some o)->P2 g')
  (hQ:∀ g,IsZip g z TI TO (rawInt s.heap.objs.size)->IsPair g TO x y->P1 g->P2 g->IsPair g s.heap.objs.size x y ->
   (∀ c o,c≠z->c≠TO->c≠i1->c≠i2->s.heap.get? c=some o->g.get? c=some o)->Q (.ref s.heap.objs.size) {s with heap:=g}) :
  wpAny (model prog w) A (Builtin.«zip.__next__» ⟨[.ref z],[]⟩) (fun fin s'=>∃ v,fin=.done (.ret v)/\Q v s') E s:=by
 show wpAny _ _ (field (.ref z) 2 >>= _) _ _ _
 refine wpAny_bind (wpAny_field hz rfl (x:=.bool false) rfl ?_)
 show wpAny _ _ (field (.ref z) 3 >>= _) _ _ _
 refine wpAny_bind (wpAny_field hz rfl (x:=.ref TI) rfl (wpAny_bind (wpAny_seqItems hTI rfl ?_)))
 show wpAny _ _ (Builtin.SmallTypes.ownedTupleIsFree (.ref z) >>= _) _ _ _
 refine wpAny_bind ?_
 unfold Builtin.SmallTypes.ownedTupleIsFree
 refine wpAny_bind (wpAny_field hz rfl (x:=.none) rfl (wpAny_pure ?_))
 simp only[if_true]
 refine wpAny_bind (wpAny_rule (wpAny_bind (wpAny_field hz rfl (x:=.ref TO) rfl ?_)))
 refine wpAny_bind (wpAny_setField_rec hz (by simp) fun g1 z1 e1=>wpAny_bind ?_)
 replace z1:IsZip g1 z TI TO .ellipsis:=z1
 replace e1:Heap.SameBut z s.heap g1:=e1
 simp only[List.zipIdx_cons,List.zipIdx_nil,List.forIn_cons,List.forIn_nil]
 refine wpAny_bind (wpAny_bind (wpAny_onRaise ?_))
 show wpAny _ _ (Builtin.SmallTypes.nextOf (.ref i1) >>= _) _ _ {s with heap:=g1}
 refine wpAny_bind (n1 g1 _ _ (fun c o c1 e=>e1.extBut _ _ c1 e) fun g2 p2 e2=>wpAny_pure ?_)
 have o2:IsPair g2 TO a b:=e2.extBut _ _ dO1 (e1.extBut _ _ dO hTO)
 refine wpAny_bind (wpAny_seqItems o2 rfl (wpAny_bind (wpAny_updateSeq_pair o2 fun g3 o3 e3=>?_)))
 replace o3:IsPair g3 TO x b:=o3
 replace e3:Heap.SameBut TO g2 g3:=e3
 refine wpAny_bind (wpAny_letGo (wpAny_pure ?_))
 refine wpAny_bind (wpAny_bind (wpAny_onRaise ?_))
 show wpAny _ _ (Builtin.SmallTypes.nextOf (.ref i2) >>= _) _ _ {s with heap:=g3}
 refine wpAny_bind (n2 g3 _ _ (fun c o c1 c2 c3 e=>e3.extBut _ _ c2 (e2.extBut _ _ c3 (e1.extBut _ _ c1 e))) fun g4 p4 e4=>wpAny_pure ?_)
 have o4:IsPair g4 TO x b:=e4.extBut _ _ dO2 o3
 refine wpAny_bind (wpAny_seqItems o4 rfl (wpAny_bind (wpAny_updateSeq_pair o4 fun g5 o5 e5=>?_)))
 replace o5:IsPair g5 TO x y:=o5
 replace e5:Heap.SameBut TO g4 g5:=e5
 refine wpAny_bind (wpAny_letGo (wpAny_pure (wpAny_pure ?_)))
 refine wpAny_bind (wpAny_seqItems o5 rfl (wpAny_bind (wpAny_newTuple ?_)))
 have sz:g5.objs.size=s.heap.objs.size:=by rw[e5.1,e4.1,e3.1,e2.1,e1.1]
 have z5:IsZip g5 z TI TO .ellipsis:=e5.extBut _ _ (Ne.symm dO) (e4.extBut _ _ (Ne.symm d2) (e3.extBut _ _ (Ne.symm dO) (e2.extBut _ _ (Ne.symm d1) z1)))
 have k5:∀ c o,c≠z->c≠TO->c≠i1->c≠i2->s.heap.get? c=some o->g5.get? c=some o:=fun c o c1 c2 c3 c4 e=>
  e5.extBut _ _ c2 (e4.extBut _ _ c4 (e3.extBut _ _ c2 (e2.extBut _ _ c3 (e1.extBut _ _ c1 e))))
 have p5:P1 g5:=k1 g2 g5 p2 fun o e=>e5.extBut _ _ (Ne.symm dO1) (e4.extBut _ _ d12 (e3.extBut _ _ (Ne.symm dO1) e))
 have q5:P2 g5:=k2 g4 g5 p4 fun o e=>e5.extBut _ _ (Ne.symm dO2) e
 have zl:z<g5.objs.size:=Heap.lt_size z5
 show wpAny _ _ (Builtin.SmallTypes.ownedTupleHandOut (.ref z) (.ref g5.objs.size) >>= _) _ _ _
 refine wpAny_bind ?_
 unfold Builtin.SmallTypes.ownedTupleHandOut
 have z6:IsZip (g5.push {cls:=.type "tuple",data:=.seq #[x,y]}) z TI TO .ellipsis:=Heap.get?_push_of_some _ z5
 refine wpAny_bind (wpAny_setField_rec z6 (by simp) fun g7 z7 e7=>?_)
 replace z7:IsZip g7 z TI TO (rawInt g5.objs.size):=z7
 refine wpAny_setField_rec z7 (by simp) fun g8 z8 e8=>?_
 replace z8:IsZip g8 z TI TO (rawInt g5.objs.size):=z8
 have up:∀ c o,c≠z->g5.get? c=some o->g8.get? c=some o:=fun c o c1 e=>e8.extBut _ _ c1 (e7.extBut _ _ c1 (Heap.get?_push_of_some _ e))
 have t8:IsPair g8 g5.objs.size x y:=e8.extBut _ _ (Nat.ne_of_gt zl) (e7.extBut _ _ (Nat.ne_of_gt zl) (Heap.get?_push_size _ rfl))
 rw[sz] at z8 t8
 refine wpAny_pure ⟨_,rfl,?_⟩
 show Q (.ref g5.objs.size) _
 rw[sz]
 exact hQ g8 z8 (up _ _ dO o5) (k1 g5 g8 p5 fun o e=>up _ o d1 e) (k2 g5 g8 q5 fun o e=>up _ o d2 e) t8 fun c o c1 c2 c3 c4 e=>up c o c1 (k5 c o c1 c2 c3 c4 e)
theorem Ti {z TI TO i1 i2:Addr} {a b:Value} {Q:Fin->Shared->Prop} (d1:i1≠z)
  (hz:IsZip s.heap z TI TO .none) (hTI:IsPair s.heap TI (.ref i1) (.ref i2)) (hTO:IsPair s.heap TO a b)
  (n1:∀ (g:Heap) (Q:Value->Shared->Prop) (E:Value->Shared->Prop),(∀ c o,c≠z->s.heap.get? c=some o->g.get? c=some o) ->
   (∀ g' e,Heap.ExtBut i1 g g'->(∃ o,g'.get? e=some o/\o.cls=.type "StopIteration")->E (.ref e) {s with heap:=g'})->wpAny (model prog w) A (Builtin.SmallTypes.nextOf (.ref i1)) Q E {s with heap:=g})
  (hE:∀ g e,(∀ c o,c≠z->c≠i1->s.heap.get? c=some o->g.get? c=some o)->(∃ o,g.get? e=some o/\o.cls=.type "StopIteration")->E (.ref e) {s with heap:=g}) :
  wpAny (model prog w) A (Builtin.«zip.__next__» ⟨[.ref z],[]⟩) Q E s:=by
 show wpAny _ _ (field (.ref z) 2 >>= _) _ _ _
 refine wpAny_bind (wpAny_field hz rfl (x:=.bool false) rfl ?_)
 show wpAny _ _ (field (.ref z) 3 >>= _) _ _ _
 refine wpAny_bind (wpAny_field hz rfl (x:=.ref TI) rfl (wpAny_bind (wpAny_seqItems hTI rfl ?_)))
 show wpAny _ _ (Builtin.SmallTypes.ownedTupleIsFree (.ref z) >>= _) _ _ _
 refine wpAny_bind ?_
 unfold Builtin.SmallTypes.ownedTupleIsFree
 refine wpAny_bind (wpAny_field hz rfl (x:=.none) rfl (wpAny_pure ?_))
 simp only[if_true]
 refine wpAny_bind (wpAny_rule (wpAny_bind (wpAny_field hz rfl (x:=.ref TO) rfl ?_)))
 refine wpAny_bind (wpAny_setField_rec hz (by simp) fun g1 z1 e1=>wpAny_bind ?_)
 replace z1:IsZip g1 z TI TO .ellipsis:=z1
 replace e1:Heap.SameBut z s.heap g1:=e1
 simp only[List.zipIdx_cons,List.zipIdx_nil,List.forIn_cons,List.forIn_nil]
 refine wpAny_bind (wpAny_bind (wpAny_onRaise ?_))
 show wpAny _ _ (Builtin.SmallTypes.nextOf (.ref i1) >>= _) _ _ {s with heap:=g1}
 refine wpAny_bind (n1 g1 _ _ (fun c o c1 e=>e1.extBut _ _ c1 e) fun g2 e e2 he=>?_)
 obtain ⟨oe,hoe,hce⟩:=he
 have z2:IsZip g2 z TI TO .ellipsis:=e2 _ _ (Ne.symm d1) z1
 have hez:e≠z:=fun q=>by subst q;rw[z2] at hoe;cases hoe;simp at hce
 exact wpAny_setField_rec z2 (by simp) fun g3 _ e3=>hE g3 e (fun c o c1 c3 q=>e3.extBut _ _ c1 (e2 _ _ c3 (e1.extBut _ _ c1 q))) ⟨oe,e3.extBut _ _ hez hoe,hce⟩
theorem R3 {it t:Addr} {i:Nat} {items:Array Value} {x:Value} {Q:Value->Shared->Prop} (hit:s.heap.IsTupleIter it t i) (ht:s.heap.IsTuple t items) (hx:items[i]?=some x)
  (hQ:∀ g,g.IsTupleIter it t (i+1)->Heap.SameBut it s.heap g->Q x {s with heap:=g}):wpAny (model prog w) A (Builtin.SmallTypes.nextOf (.ref it)) Q E s:=by
 obtain ⟨o,ho,hc,hd⟩:=id hit
 obtain ⟨ol,hol,_,nl,hdl⟩:=id ht
 unfold Builtin.SmallTypes.nextOf
 refine wpAny_bind (wpAny_callSpecial?_slot (name:=Str.ofString "__next__") hit.typeIs slot_tupleiter_next (wpAny_call_entry slot_tupleiter_next hit.typeIs entry_tupleiter_next ?_ (args_tupleiter_next _)))
 show wpAny _ _ (field (.ref it) 0 >>= _) _ _ s
 refine wpAny_bind (wpAny_field ho hd (x:=.ref t) rfl ?_)
 show wpAny _ _ (if (Value.ref t == Value.none)=true then _ else _) _ _ s
 rw[if_neg (show ¬((Value.ref t == Value.none)=true) from Bool.false_ne_true)]
 show wpAny _ _ (field (.ref it) 1 >>= _) _ _ s
 refine wpAny_bind (wpAny_field ho hd (x:=.int i 0) rfl ?_)
 show wpAny _ _ (seqItems? (.ref t) >>= _) _ _ s
 refine wpAny_bind (wpAny_seqItems hol hdl ?_)
 simp only[Int.toNat_natCast,hx]
 refine wpAny_bind (wpAny_setField ho hd (by simp) (wpAny_pure ⟨x,rfl,wpAny_pure (hQ _ ?_ (Heap.SameBut.update ..))⟩))
 exact ⟨_,Heap.get?_update_self _ ho (Obj.isFreed_of_fields (Obj.data_mapFields hd _)),(Obj.cls_mapFields ..).trans hc,by rw[Obj.data_mapFields hd];simp[rawInt]⟩
theorem Rj {it t:Addr} {i:Nat} {items:Array Value} {Q:Value->Shared->Prop} (hh:A.handled=none) (hit:s.heap.IsTupleIter it t i) (ht:s.heap.IsTuple t items) (hx:items[i]?=none)
  (hE:∀ g e,Heap.ExtBut it s.heap g->(∃ o,g.get? e=some o/\o.cls=.type "StopIteration")->E (.ref e) {s with heap:=g}):wpAny (model prog w) A (Builtin.SmallTypes.nextOf (.ref it)) Q E s:=by
 obtain ⟨o,ho,hc,hd⟩:=id hit
 obtain ⟨ol,hol,_,nl,hdl⟩:=id ht
 unfold Builtin.SmallTypes.nextOf
 refine wpAny_bind (wpAny_callSpecial?_slot (name:=Str.ofString "__next__") hit.typeIs slot_tupleiter_next (wpAny_call_entry slot_tupleiter_next hit.typeIs entry_tupleiter_next ?_ (args_tupleiter_next _)))
 show wpAny _ _ (field (.ref it) 0 >>= _) _ _ s
 refine wpAny_bind (wpAny_field ho hd (x:=.ref t) rfl ?_)
 show wpAny _ _ (if (Value.ref t == Value.none)=true then _ else _) _ _ s
 rw[if_neg (show ¬((Value.ref t == Value.none)=true) from Bool.false_ne_true)]
 show wpAny _ _ (field (.ref it) 1 >>= _) _ _ s
 refine wpAny_bind (wpAny_field ho hd (x:=.int i 0) rfl ?_)
 show wpAny _ _ (seqItems? (.ref t) >>= _) _ _ s
 refine wpAny_bind (wpAny_seqItems hol hdl ?_)
 simp only[Int.toNat_natCast,hx]
 refine wpAny_bind (wpAny_rule (wpAny_bind (wpAny_setField ho hd (by simp) ?_)))
 show wpAny _ _ (newExc (.type "StopIteration") [] >>= _) _ _ _
 refine wpAny_bind ?_
 simp only[newExc,newTuple]
 refine wpAny_bind (wpAny_newObj_type ?_ (by size_fits))
 refine wpAny_bind (m:=firstArgMember _ _) (wpAny_of_eq (a:=Value.none) (by first | rfl | (simp only[firstArgMember];rfl)) (wpAny_newObj_type ?_ (by size_fits)))
 simp only[raiseNew]
 refine wpAny_bind (wpAny_handled ?_)
 first | rw[show A.in1.handled=none from hh] | rw[hh]
 exact wpAny_bind (wpAny_pure (wpAny_throw (hE _ _ (((Heap.SameBut.update ..).extBut.push _).push _) ⟨_,Heap.get?_push_size _ rfl,rfl⟩)))
end
section
variable {prog:Program} {w:World} {A:Around} {E:Value->Shared->Prop} {s:Shared}
theorem QZ {z TI TO i1 i2:Addr} {x y a b:Value} {P1 P2:Heap->Prop} {Q:Option Value->Shared->Prop} (dO:TO≠z) (d1:i1≠z) (d2:i2≠z) (dO1:TO≠i1) (dO2:TO≠i2) (d12:i1≠i2)
  (hz:IsZip s.heap z TI TO .none) (hTI:IsPair s.heap TI (.ref i1) (.ref i2)) (hTO:IsPair s.heap TO a b)
  (n1:∀ (A:Around) (g:Heap) (Q:Value->Shared->Prop) (E:Value->Shared->Prop),(∀ c o,c≠z->s.heap.get? c=some o->g.get? c=some o)->(∀ g',P1 g'->Heap.SameBut i1 g g'->Q x {s with heap:=g'}) ->
   wpAny (model prog w) A (Builtin.SmallTypes.nextOf (.ref i1)) Q E {s with heap:=g})
  (n2:∀ (A:Around) (g:Heap) (Q:Value->Shared->Prop) (E:Value->Shared->Prop),(∀ c o,c≠z->c≠TO->c≠i1->s.heap.get? c=some o->g.get? c=some o)->(∀ g',P2 g'->Heap.SameBut i2 g g'->Q y {s with heap:=g'}) ->
   wpAny (model prog w) A (Builtin.SmallTypes.nextOf (.ref i2)) Q E {s with heap:=g})
  (k1:∀ g g':Heap,P1 g->(∀ o,g.get? i1=some o->g'.get? i1=some o)->P1 g') (k2:∀ g g':Heap,P2 g->(∀ o,g.get? i2=some o->g'.get? i2=some o)->P2 g')
  (hQ:∀ g,IsZip g z TI TO (rawInt s.heap.objs.size)->IsPair g TO x y->P1 g->P2 g->IsPair g s.heap.objs.size x y ->
   (∀ c o,c≠z->c≠TO->c≠i1->c≠i2->s.heap.get? c=some o->g.get? c=some o)->Q (some (.ref s.heap.objs.size)) {s with heap:=g}):wpAny (model prog w) A (pyNext (.ref z)) Q E s:=by
 have hT:s.TypeIs (.ref z) "zip":=⟨_,hz,rfl⟩
 unfold pyNext
 exact wpAny_bind (wpAny_attempt (wpAny_callSpecial?_slot (name:=Str.ofString "__next__") hT F.slot_zip_next (wpAny_call_entry F.slot_zip_next hT F.entry_zip_next
  (Ox dO d1 d2 dO1 dO2 d12 hz hTI hTO (fun g Q E=>n1 _ g Q E) (fun g Q E=>n2 _ g Q E) k1 k2 fun g a1 a2 a3 a4 a5 a6=>wpAny_pure (hQ g a1 a2 a3 a4 a5 a6)) (F.args_zip_next_1 _))))
theorem O1 {z TI TO i1 i2:Addr} {a b:Value} {Q:Option Value->Shared->Prop} (hh:A.handled=none) (d1:i1≠z)
  (hz:IsZip s.heap z TI TO .none) (hTI:IsPair s.heap TI (.ref i1) (.ref i2)) (hTO:IsPair s.heap TO a b)
  (n1:∀ (A:Around) (g:Heap) (Q:Value->Shared->Prop) (E:Value->Shared->Prop),A.handled=none->(∀ c o,c≠z->s.heap.get? c=some o->g.get? c=some o) ->
   (∀ g' e,Heap.ExtBut i1 g g'->(∃ o,g'.get? e=some o/\o.cls=.type "StopIteration")->E (.ref e) {s with heap:=g'})->wpAny (model prog w) A (Builtin.SmallTypes.nextOf (.ref i1)) Q E {s with heap:=g})
  (hQ:∀ g,(∀ c o,c≠z->c≠i1->s.heap.get? c=some o->g.get? c=some o)->Q none {s with heap:=g}):wpAny (model prog w) A (pyNext (.ref z)) Q E s:=by
 have hT:s.TypeIs (.ref z) "zip":=⟨_,hz,rfl⟩
 unfold pyNext
 refine wpAny_bind (wpAny_attempt (wpAny_callSpecial?_slot (name:=Str.ofString "__next__") hT F.slot_zip_next (wpAny_call_entry F.slot_zip_next hT F.entry_zip_next
  (Ti d1 hz hTI hTO (fun g Q E k e=>n1 _ g Q E hh k e) fun g e kk he=>?_) (F.args_zip_next_1 _))))
 obtain ⟨o,ho,hc⟩:=he
 exact wpAny_bind (wpAny_isInstance (T:="StopIteration") (b:=true) ⟨o,ho,hc⟩ isSubtype_stop (wpAny_pure (hQ _ kk)))
abbrev zt1 (h:Heap) (l1:Addr):Heap:=h.push {cls:=.type "tuple_iterator",data:=.fields #[.ref l1,.int 0 0]}
abbrev zt2 (h:Heap) (l1 l2:Addr):Heap:=(zt1 h l1).push {cls:=.type "tuple_iterator",data:=.fields #[.ref l2,.int 0 0]}
abbrev zt3 (h:Heap) (l1 l2:Addr):Heap:=(zt2 h l1 l2).push {cls:=.type "tuple",data:=.seq #[.ref h.objs.size,.ref (zt1 h l1).objs.size]}
abbrev zt4 (h:Heap) (l1 l2:Addr):Heap:=(zt3 h l1 l2).push {cls:=.type "tuple",data:=.seq #[.none,.none]}
abbrev zt5 (h:Heap) (l1 l2:Addr):Heap:=(zt4 h l1 l2).push {cls:=.type "zip",data:=.fields #[.none,.bool false,.bool false,.ref (zt2 h l1 l2).objs.size,.ref (zt3 h l1 l2).objs.size]}
theorem Tz {h:Heap} {a:Addr} {items:Array Value} (x:h.IsTuple a items) (o:Obj):(h.push o).IsTuple a items:=let ⟨p,ho,r⟩:=x;⟨p,Heap.get?_push_of_some _ ho,r⟩
theorem RW (l1 l2:Addr) (xs ys:Array Value) :
  Meets (Builtin.«zip.__new__» ⟨[.type "zip",.ref l1,.ref l2],[]⟩) (fun _ R s=>s.heap.IsTuple l1 xs/\s.heap.IsTuple l2 ys/\R (.ok (.ret (.ref (zt4 s.heap l1 l2).objs.size))) {s with heap:=zt5 s.heap l1 l2}):=
 .of_wp fun prog w A R s h=>by
  obtain ⟨hp,g,d,tk,os⟩:=s;obtain ⟨hl1,hl2,h⟩:=h
  have hsub:=sub_zip
  have hA:Heap.IsTuple (Shared.heap ⟨hp,g,d,tk,os⟩) l1 xs:=hl1
  have hB:Heap.IsTuple (Shared.heap ⟨hp.push {cls:=.type "tuple_iterator",data:=.fields #[.ref l1,.int 0 0]},g,d,tk,os⟩) l2 ys:=Tz hl2 _
  wp_walk using wpAny_pyIter_tuple hA,wpAny_pyIter_tuple hB
  exact ⟨_,rfl,h⟩
theorem Qb {l1 l2:Addr} {xs ys:Array Value} {Q:Value->Shared->Prop} (hl1:s.heap.IsTuple l1 xs) (hl2:s.heap.IsTuple l2 ys)
  (h:∀ g,IsZip g (s.heap.objs.size+4) (s.heap.objs.size+2) (s.heap.objs.size+3) .none->IsPair g (s.heap.objs.size+2) (.ref s.heap.objs.size) (.ref (s.heap.objs.size+1)) ->
   IsPair g (s.heap.objs.size+3) .none .none->g.IsTupleIter s.heap.objs.size l1 0->g.IsTupleIter (s.heap.objs.size+1) l2 0->(∀ c o,s.heap.get? c=some o->g.get? c=some o)->Q (.ref (s.heap.objs.size+4)) {s with heap:=g}) :
  wpAny (model prog w) A (call (.type "zip") [.ref l1,.ref l2]) Q E s:=by
 refine callType_new F.called_zip (by decide) (F.typeCall_zip_2 _ _) (F.newCall_zip_2 _ _) (fun obj=>F.args_object_init_3 obj _ _) F.entry_zip_new (RW l1 l2 xs ys) ⟨hl1,hl2,?_⟩
 have w1:(zt1 s.heap l1).objs.size=s.heap.objs.size+1:=Heap.size_push ..
 have w2:(zt2 s.heap l1 l2).objs.size=s.heap.objs.size+2:=by rw[Heap.size_push,w1]
 have w3:(zt3 s.heap l1 l2).objs.size=s.heap.objs.size+3:=by rw[Heap.size_push,w2]
 have w4:(zt4 s.heap l1 l2).objs.size=s.heap.objs.size+4:=by rw[Heap.size_push,w3]
 have v5:(zt5 s.heap l1 l2).get? (zt4 s.heap l1 l2).objs.size=some _:=Heap.get?_push_size _ rfl
 have v4:(zt5 s.heap l1 l2).get? (zt3 s.heap l1 l2).objs.size=some _:=Heap.get?_push_of_some _ (Heap.get?_push_size _ rfl)
 have v3:(zt5 s.heap l1 l2).get? (zt2 s.heap l1 l2).objs.size=some _:=Heap.get?_push_of_some _ (Heap.get?_push_of_some _ (Heap.get?_push_size _ rfl))
 have v2:(zt5 s.heap l1 l2).get? (zt1 s.heap l1).objs.size=some _:=Heap.get?_push_of_some _ (Heap.get?_push_of_some _ (Heap.get?_push_of_some _ (Heap.get?_push_size _ rfl)))
 have v1:(zt5 s.heap l1 l2).get? s.heap.objs.size=some _:=Heap.get?_push_of_some _ (Heap.get?_push_of_some _ (Heap.get?_push_of_some _ (Heap.get?_push_of_some _ (Heap.get?_push_size _ rfl))))
 show _/\_
 rw[w2,w3,w4] at v5
 rw[w1,w2] at v3
 rw[w3] at v4
 rw[w1] at v2
 rw[w4]
 exact ⟨⟨_,v5,rfl⟩,h _ v5 v3 v4 ⟨_,v1,rfl,rfl⟩ ⟨_,v2,rfl,rfl⟩ fun c o x=>Heap.get?_push_of_some _ (Heap.get?_push_of_some _ (Heap.get?_push_of_some _ (Heap.get?_push_of_some _ (Heap.get?_push_of_some _ x))))⟩
end
def Itz (c:List V->HO) (l1 l2:Addr):It:=
 ⟨fun i H=>∃ xs ys x y,H l1=some (c xs)/\H l2=some (c ys)/\xs[i]?=some x/\ys[i]?=some y,
  fun i H v H'=>∃ T x y,H T=none/\v=.ref T/\H'=upd H T (.tup [x,y])/\(∀ xs,H l1=some (c xs)->xs[i]?=some x)/\∀ ys,H l2=some (c ys)->ys[i]?=some y,
  fun i H=>∃ xs,H l1=some (c xs)/\xs.length<=i⟩
structure SeqK (P:Program) (w:World) (c:List V->HO) (IsS:Heap->Addr->Array Value->Prop) (IsI:Heap->Addr->Addr->Nat->Prop):Prop where
 inj:∀ xs ys,c xs=c ys->xs=ys
 rd:∀ {H:Hp} {h:Heap} {a:Addr} {xs:List V},HOk P w H h->H a=some (c xs)->∃ its:List Value,Vals xs its/\IsS h a its.toArray
 at_:∀ {h g:Heap} {a:Addr} {v:Array Value},IsS h a v->(∀ o,h.get? a=some o->g.get? a=some o)->IsS g a v
 iat:∀ {h g:Heap} {a l:Addr} {i:Nat},IsI h a l i->(∀ o,h.get? a=some o->g.get? a=some o)->IsI g a l i
 iob:∀ {h:Heap} {a l:Addr} {i:Nat},IsI h a l i->∃ o,h.get? a=some o/\∀ v,o.data≠.cell v
 nx:∀ {A:Around} {s:Shared} {E:Value->Shared->Prop} {Q:Value->Shared->Prop} {it l:Addr} {i:Nat} {its:Array Value} {x:Value},IsI s.heap it l i->IsS s.heap l its->its[i]?=some x ->
  (∀ g,IsI g it l (i+1)->Heap.SameBut it s.heap g->Q x {s with heap:=g})->wpAny (model P w) A (Builtin.SmallTypes.nextOf (.ref it)) Q E s
 nd:∀ {A:Around} {s:Shared} {E:Value->Shared->Prop} {Q:Value->Shared->Prop} {it l:Addr} {i:Nat} {its:Array Value},A.handled=none->IsI s.heap it l i->IsS s.heap l its->its[i]?=none ->
  (∀ g e,Heap.ExtBut it s.heap g->(∃ o,g.get? e=some o/\o.cls=.type "StopIteration")->E (.ref e) {s with heap:=g})->wpAny (model P w) A (Builtin.SmallTypes.nextOf (.ref it)) Q E s
theorem II {P:Program} {w:World}:SeqK P w HO.lst Heap.IsList Heap.IsListIter where
 inj:=fun _ _ e=>by cases e;rfl
 rd:=fun {H h a xs} x e=>by
  obtain ⟨_,its,n,r,q⟩:=x a _ e
  exact ⟨its,r,_,q,rfl,n,rfl⟩
 at_:=fun x k=>x.at k
 iat:=fun x k=>x.at k
 iob:=fun x=>by
  obtain ⟨o,e,_,d⟩:=x
  exact ⟨o,e,fun v z=>by rw[d] at z;cases z⟩
 nx:=fun h1 h2 h3 h4=>wpAny_nextOf_list_item h1 h2 h3 h4
 nd:=fun h0 h1 h2 h3 h4=>wpAny_nextOf_list_end h0 h1 h2 h3 h4
theorem Ih {P:Program} {w:World}:SeqK P w HO.tup Heap.IsTuple Heap.IsTupleIter where
 inj:=fun _ _ e=>by cases e;rfl
 rd:=fun {H h a xs} x e=>by
  obtain ⟨_,its,r,q⟩:=x a _ e
  exact ⟨its,r,q⟩
 at_:=fun x k=>let ⟨o,ho,r⟩:=x;⟨o,k _ ho,r⟩
 iat:=fun x k=>x.at k
 iob:=fun x=>by
  obtain ⟨o,e,_,d⟩:=x
  exact ⟨o,e,fun v z=>by rw[d] at z;cases z⟩
 nx:=fun h1 h2 h3 h4=>R3 h1 h2 h3 h4
 nd:=fun h0 h1 h2 h3 h4=>Rj h0 h1 h2 h3 h4
theorem Ls {P:Program} {w:World} {K:PySem.W.Frag} {elts:List Expr} {k:Nat} {tp:Pos} {c:List V->HO} {IsS:Heap->Addr->Array Value->Prop} {IsI:Heap->Addr->Addr->Nat->Prop} (S:SeqK P w c IsS IsI) (l1 l2 n:Addr) :
  Turn P w K (.Tuple elts k tp) (Itz c l1 l2) [n+4,n+2,n+3,n,n+1] (n+4)
   (fun i h=>IsZip h (n+4) (n+2) (n+3) .none/\IsPair h (n+2) (.ref n) (.ref (n+1))/\(∃ a b,IsPair h (n+3) a b)/\IsI h n l1 i/\IsI h (n+1) l2 i) where
 mem:=by simp
 obj:=fun i h st b hb=>by
  obtain ⟨hz,hTI,⟨a,b',hTO⟩,h1,h2⟩:=st
  simp only[List.mem_cons,List.not_mem_nil,or_false] at hb
  rcases hb with z | z | z | z | z<;>subst z
  ·exact ⟨_,hz,fun v q=>by have q':Data.fields _=Data.cell v:=q;cases q'⟩
  ·exact ⟨_,hTI,fun v q=>by have q':Data.seq _ _=Data.cell v:=q;cases q'⟩
  ·exact ⟨_,hTO,fun v q=>by have q':Data.seq _ _=Data.cell v:=q;cases q'⟩
  ·exact S.iob h1
  ·exact S.iob h2
 keep:=fun i h h' st kk=>by
  obtain ⟨hz,hTI,⟨a,b',hTO⟩,h1,h2⟩:=st
  exact ⟨kk _ (by simp) _ hz,kk _ (by simp) _ hTI,⟨a,b',kk _ (by simp) _ hTO⟩,S.iat h1 fun o q=>kk _ (by simp) o q,S.iat h2 fun o q=>kk _ (by simp) o q⟩
 item:=by
  intro X hP hw hK hc i pins s σ H E I hf st hg
  subst hP hw hK
  obtain ⟨xs,ys,x,y,e1,e2,hx,hy⟩:=hg
  obtain ⟨hz,hTI,⟨a,b',hTO⟩,h1,h2⟩:=st
  obtain ⟨is1,rv1,p1⟩:=S.rd I.hok e1
  obtain ⟨is2,rv2,p2⟩:=S.rd I.hok e2
  obtain ⟨u,hu,ru⟩:=rv1.get hx
  obtain ⟨v,hv,rv⟩:=rv2.get hy
  have ap:∀ l xs,H l=some (c xs)->∀ b∈[n+4,n+2,n+3,n,n+1],l≠b:=fun l xs e b hb z=>by
   have q:=(hf b hb).1
   rw[<-z,e] at q
   cases q
  have lz:@LT.lt Nat _ (n+4) s.heap.objs.size:=Heap.lt_size hz
  refine QZ (P1:=fun g=>IsI g n l1 (i+1)) (P2:=fun g=>IsI g (n+1) l2 (i+1)) (x:=u) (y:=v) (by first | exact Nat.ne_of_lt (by lia) | exact Nat.ne_of_gt (by lia)) (by first | exact Nat.ne_of_lt (by lia) | exact Nat.ne_of_gt (by lia)) (by first | exact Nat.ne_of_lt (by lia) | exact Nat.ne_of_gt (by lia)) (by first | exact Nat.ne_of_lt (by lia) | exact Nat.ne_of_gt (by lia)) (by first | exact Nat.ne_of_lt (by lia) | exact Nat.ne_of_gt (by lia)) (by first | exact Nat.ne_of_lt (by lia) | exact Nat.ne_of_gt (by lia)) hz hTI hTO
   (fun A g Q E kk hQ=>S.nx (s:={s with heap:=g}) (S.iat h1 fun o q=>kk _ o (by first | exact Nat.ne_of_lt (by lia) | exact Nat.ne_of_gt (by lia)) q) (S.at_ p1 fun o q=>kk _ o (ap _ _ e1 _ (by simp)) q) (by simpa using hu) hQ)
   (fun A g Q E kk hQ=>S.nx (s:={s with heap:=g}) (S.iat h2 fun o q=>kk _ o (by first | exact Nat.ne_of_lt (by lia) | exact Nat.ne_of_gt (by lia)) (by first | exact Nat.ne_of_lt (by lia) | exact Nat.ne_of_gt (by lia)) (by first | exact Nat.ne_of_lt (by lia) | exact Nat.ne_of_gt (by lia)) q) (S.at_ p2 fun o q=>kk _ o (ap _ _ e2 _ (by simp)) (ap _ _ e2 _ (by simp)) (ap _ _ e2 _ (by simp)) q) (by simpa using hv) hQ)
   (fun g g' p q=>S.iat p q) (fun g g' p q=>S.iat p q) fun g a1 a2 a3 a4 a5 a6=>?_
  refine ⟨_,rfl,wpAny_letOwnedTupleGo_zip a1 fun g2 z2 s2=>?_⟩
  replace s2:Heap.SameBut (n+4) g g2:=s2
  have up:∀ b o,b∉[n+4,n+2,n+3,n,n+1]->s.heap.get? b=some o->g2.get? b=some o:=fun b o hb q=>
   (s2.2 b (fun z=>hb (by simp[z]))).trans (a6 b o (fun z=>hb (by simp[z])) (fun z=>hb (by simp[z])) (fun z=>hb (by simp[z])) (fun z=>hb (by simp[z])) q)
  have hT2:g2.get? s.heap.objs.size=some {cls:=.type "tuple",data:=.seq #[u,v]}:=(s2.2 _ (by first | exact Nat.ne_of_lt (by lia) | exact Nat.ne_of_gt (by lia))).trans a5
  have lt:∀ b∈[n+4,n+2,n+3,n,n+1],b<s.heap.objs.size:=fun b hb=>by
   simp only[List.mem_cons,List.not_mem_nil,or_false] at hb
   rcases hb with z | z | z | z | z<;>(rw[z];first | exact Nat.le_add_right _ _ | exact Nat.le_refl _ | exact Nat.lt_of_le_of_lt (by lia) lz)
  refine ⟨.ref s.heap.objs.size,upd H s.heap.objs.size (.tup [x,y]),I.turnLay (t':=s.toks) hf up (Nat.le_refl _) ⟨Du,[u,v],.cons ru (.cons rv .nil),⟨_,hT2,rfl,_,rfl⟩⟩,rfl,
   ⟨_,x,y,I.fresh,rfl,rfl,fun zs hz'=>?_,fun zs hz'=>?_⟩,⟨z2,(s2.2 _ (by first | exact Nat.ne_of_lt (by lia) | exact Nat.ne_of_gt (by lia))).trans (a6 _ _ (by first | exact Nat.ne_of_lt (by lia) | exact Nat.ne_of_gt (by lia)) (by first | exact Nat.ne_of_lt (by lia) | exact Nat.ne_of_gt (by lia)) (by first | exact Nat.ne_of_lt (by lia) | exact Nat.ne_of_gt (by lia)) (by first | exact Nat.ne_of_lt (by lia) | exact Nat.ne_of_gt (by lia)) hTI),⟨_,_,(s2.2 _ (by first | exact Nat.ne_of_lt (by lia) | exact Nat.ne_of_gt (by lia))).trans a2⟩,S.iat a3 fun o q=>(s2.2 _ (by first | exact Nat.ne_of_lt (by lia) | exact Nat.ne_of_gt (by lia))).trans q,S.iat a4 fun o q=>(s2.2 _ (by first | exact Nat.ne_of_lt (by lia) | exact Nat.ne_of_gt (by lia))).trans q⟩,fun b hb=>?_⟩
  ·rw[e1] at hz'
   rw[<-S.inj _ _ (Option.some.inj hz')]
   exact hx
  ·rw[e2] at hz'
   rw[<-S.inj _ _ (Option.some.inj hz')]
   exact hy
  ·rw[AJ (Nat.ne_of_lt (lt b hb))]
   exact (hf b hb).1
 done:=by
  intro X hP hw hK hc i pins s σ H E I hf st hg
  subst hP hw hK
  obtain ⟨xs,e1,hx⟩:=hg
  obtain ⟨hz,hTI,⟨a,b',hTO⟩,h1,h2⟩:=st
  obtain ⟨is1,rv1,p1⟩:=S.rd I.hok e1
  have hl:=rv1.length
  have ne:l1≠n+4:=fun z=>by
   have q:=(hf (n+4) (by simp)).1
   rw[<-z,e1] at q
   cases q
  exact O1 (I.ok.hd hc) (by first | exact Nat.ne_of_lt (by lia) | exact Nat.ne_of_gt (by lia)) hz hTI hTO (fun A g Q E hh kk hE=>S.nd (s:={s with heap:=g}) hh (S.iat h1 fun o q=>kk _ o (by first | exact Nat.ne_of_lt (by lia) | exact Nat.ne_of_gt (by lia)) q) (S.at_ p1 fun o q=>kk _ o ne q) (by simp;lia) hE)
   fun g kk=>⟨rfl,I.turnL (t':=s.toks) hf fun b o hb q=>kk b o (fun z=>hb (by simp[z])) (fun z=>hb (by simp[z])) q⟩
 self:=fun A i s Q E st h=>wpAny_pyIter_zip st.1 h
def Ta (ta:TA):TI:=fun σ H R=>ta σ H fun vs H1=>∃ l1 l2,vs=[.ref l1,.ref l2]/\((∃ xs ys,H1 l1=some (.lst xs)/\H1 l2=some (.lst ys)/\R (Itz HO.lst l1 l2) H1)\/∃ xs ys,H1 l1=some (.tup xs)/\H1 l2=some (.tup ys)/\R (Itz HO.tup l1 l2) H1)
theorem SX {X:Cx} {a b:Expr} {ta:TA} {p cp tp:Pos} {elts:List Expr} {k:Nat} (hg:Gl X "zip") (hm:X.mg "zip"=none) (ha:PA X [a,b] ta) (hs:starEach [a,b] X.env=[(false,eval a X.env),(false,eval b X.env)]:=by rfl) (hs2:starEach [b] X.env=[(false,eval b X.env)]:=by rfl) :
  PI X (.Tuple elts k tp) (.Call (.Name "zip" p) [a,b] [] cp) (Ta ta):=by
 intro pins s σ H R I h
 refine Call_ (D2 I hg hm boot_zip (PyProof.Rows.callWith_type1 (thn (ha cp pins s σ H _ I h) fun us s1 hh_=>?_) (by rw[hs,hs2]) (by rw[hs2];rfl)))
 obtain ⟨vs,H1,I1,r1,q1⟩:=hh_
 obtain ⟨l1,l2,e,q⟩:=q1
 subst e
 cases r1 with
 | cons r rr=>
  cases rr with
  | cons r' rr=>
   cases rr
   cases r
   cases r'
   have fpo:∀ b∈[s1.heap.objs.size+4,s1.heap.objs.size+2,s1.heap.objs.size+3,s1.heap.objs.size,s1.heap.objs.size+1],Br X pins H1 b:=fun b hb=>by
    have hle:s1.heap.objs.size<=b:=by
     simp only[List.mem_cons,List.not_mem_nil,or_false] at hb
     rcases hb with z | z | z | z | z<;>(rw[z];first | exact Nat.le_add_right _ _ | exact Nat.le_refl _ | exact Nat.lt_of_le_of_lt (by lia) lz)
    exact I1.fpOk hle (I1.hok.fresh hle)
   rcases q with ⟨xs,ys,e1,e2,q⟩ | ⟨xs,ys,e1,e2,q⟩
   ·obtain ⟨is1,rv1,p1⟩:=(II (P:=X.prog) (w:=X.w)).rd I1.hok e1
    obtain ⟨is2,rv2,p2⟩:=(II (P:=X.prog) (w:=X.w)).rd I1.hok e2
    refine call_zip_2 p1 p2 fun g b1 b2 b3 b4 b5 b6 kk=>wpAny_pyIter_zip b1 ?_
    exact ⟨_,_,_,_,H1,rfl,I1.kept (t':=s1.toks) kk,Ls II l1 l2 s1.heap.objs.size,⟨b1,b2,⟨_,_,b3⟩,b4,b5⟩,fpo,q⟩
   ·obtain ⟨is1,rv1,p1⟩:=(Ih (P:=X.prog) (w:=X.w)).rd I1.hok e1
    obtain ⟨is2,rv2,p2⟩:=(Ih (P:=X.prog) (w:=X.w)).rd I1.hok e2
    refine Qb p1 p2 fun g b1 b2 b3 b4 b5 kk=>wpAny_pyIter_zip b1 ?_
    exact ⟨_,_,_,_,H1,rfl,I1.kept (t':=s1.toks) kk,Ls Ih l1 l2 s1.heap.objs.size,⟨b1,b2,⟨_,_,b3⟩,b4,b5⟩,fpo,q⟩
section
variable {prog:Program} {w:World} {A:Around} {E:Value->Shared->Prop} {s:Shared}
end
section
variable {X:Cx}
theorem call_sorted:CallR X (.builtin "sorted") (fun xs H Q=>∃ p ns,xs=[.ref p]/\SqL X.K H p (ns.map V.int)/\∀ l (ms:List Int),H l=none->ms.Perm ns->ms.Pairwise (·<=·)->Q (.ref l) (upd H l (.lst (ms.map V.int)))):=by
 intro pins s σ H xs us Q I r h
 obtain ⟨p,ns,rfl,hq,q⟩:=h
 obtain ⟨u,rfl,ru⟩:=vals1 r
 cases ru
 obtain ⟨its,rv,pl,hz⟩:=I.list hq
 have hl:=rv.length
 refine EvS.P6 pl.isList (intsAre_of rv) (by lia) fun out ms b1 b2 b3=>?_
 obtain ⟨e,he⟩:=sortedAll_at s.heap its out
 have hn:H (s.heap.objs.size+1)=none:=I.hok.fresh (Nat.le_succ _)
 refine ⟨.ref (s.heap.objs.size+1),_,I.laid (t':=s.toks) (o:=.lst (ms.map V.int)) (fun b u q=>sortedAll_old q) (Nat.le_succ _) ⟨?_,out.toList,e,I0 b1,?_⟩,rfl,q _ ms hn b2 b3⟩
 ·rw[List.length_map,b2.length_eq]
  rw[List.length_map] at hz
  exact hz
 ·simpa using he
def N7 (K:PySem.W.Frag):List V->Hp->VK->Prop:=fun xs H Q=>∃ x T t b,xs=[x,.ty T]/\TyOf K H x (.type t)/\PySem.W.kitOne K (.type t) (.type T)=some b/\Q (.bl b) H
theorem Pm:CallR X (.builtin "isinstance") (N7 X.K):=by
 intro pins s σ H xs us Q I r h
 obtain ⟨x,T,t,b,rfl,ty,e,q⟩:=h
 obtain ⟨u,u',rfl,ru,ru'⟩:=vals2 r
 cases (show u'=Value.type T from ru')
 exact Ri I ru ty e fun tk=>⟨.bl b,H,I.tok tk,rfl,q⟩
def KP (K:PySem.W.Frag):R2:=fun x y H Q=>∃ p q xs ys,x=.ref p/\y=.ref q/\SqL K H p xs/\SqL K H q ys/\(xs=[]\/ys=[])/\Q (.bl (decide (xs=ys))) H
theorem Qw (hu:X.A.units<cLine):OpR X (compareOp .Eq) (KP X.K):=by
 intro pins s σ H x y v u Q I rx ry h
 obtain ⟨p,q,xs,ys,rfl,rfl,hp,hq,hor,k⟩:=h
 cases rx
 cases ry
 obtain ⟨i1,r1,l1,z1⟩:=I.list hp
 obtain ⟨i2,r2,l2,z2⟩:=I.list hq
 have e1:=r1.length
 have e2:=r2.length
 by_cases c:xs.length=ys.length
 ·have exy:xs=ys:=by
   rcases hor with z | z
   ·subst z;exact (List.eq_nil_of_length_eq_zero (by rw[<-c];rfl)).symm
   ·subst z;exact List.eq_nil_of_length_eq_zero (by rw[c];rfl)
  have x0:xs.length=0:=by
   rcases hor with z | z
   ·rw[z];rfl
   ·rw[c,z];rfl
  refine SeqAt.eq_listAt (e:=fun _=>true) l1.isList l2.isList (by rw[List.size_toArray,List.size_toArray];lia) hu (fun j h1 _=>?_) ?_
  ·rw[List.size_toArray] at h1;lia
  ·rw[decide_eq_true exy] at k
   refine ⟨.bl true,H,I,?_,k⟩
   have:(List.range i1.toArray.size).all (fun _=>true)=true:=List.all_eq_true.mpr fun _ _=>rfl
   rw[this]
   rfl
 ·refine SeqAt.eq_list_lengthsAt l1.isList l2.isList (by rw[List.size_toArray,List.size_toArray];exact bne_iff_ne.mpr (by lia)) hu ?_
  rw[decide_eq_false (fun z=>c (by rw[z]))] at k
  exact ⟨.bl false,H,I,rfl,k⟩
theorem R4:OpR X (binaryOp .FloorDiv) (rI (fun _ j=>0<j/\j<2 ^ 64) fun i j=>.int (i / j)):=opI fun i j _ _ _ _ _ hc q=>by
 have h1:(0:Int)<j:=hc.1
 refine floordiv_int (by lia) (by rw[Int.fdiv_eq_ediv_of_nonneg i (by lia)];exact q) (.inl (PyProof.noPylong_of_log2 ?_))
 have h2:j.natAbs<2 ^ 64:=by have:=hc.2;lia
 have h3:j.natAbs.log2<64:=(Nat.log2_lt (by lia)).mpr h2
 lia
end
end L2
namespace Ev
open PySem L2
def Kp (p:Addr) (H H':Hp):Prop:=∀ b o,b≠p->H b=some o->H' b=some o
theorem small {n:Nat} (h:n<=1000000):n<=sizeLine:=Nat.le_trans h (by decide)
theorem CW {n:Nat} (h:n<=1000000):n<sizeLine:=Nat.lt_of_le_of_lt h (by decide)
structure Nm (mg:Str->Option Value):Prop where
 len:mg "len"=none
 range:mg "range"=none
 isi:mg "isinstance"=none
 bool:mg "bool"=none
 int:mg "int"=none
 str:mg "str"=none
 list:mg "list"=none
 tuple:mg "tuple"=none
 zip:mg "zip"=none
 enum:mg "enumerate"=none
 sorted:mg "sorted"=none
 max:mg "max"=none
 min:mg "min"=none
 abs:mg "abs"=none
 sum:mg "sum"=none
 all:mg "all"=none
 any:mg "any"=none
 set:mg "set"=none
end Ev
namespace L2
open PySem
variable {X:Cx} {K:PySem.W.Frag}
theorem Bl {es:List Expr} {k:Nat} {t:TGs} {n:Nat} {tp:Pos} (hk:X.K=K) (hc:X.calm=true) (h:PGs X es t) (hn:(assignEach es X.env).length=n:=by rfl) (hst:(assignEach es X.env).findIdx? (·.1)=none:=by rfl):PG X (.Tuple es k tp) (By K n t):=hk▸Pk hc h hn hst
theorem IA {tg l:Expr} {tl:TE} (h:X.K=K) (hl:PE X l tl):PI X tg l (Jv K tl):=h▸JV hl
end L2
namespace L2
open PySem PySem.Spec PyProof.Rows
section
variable {X:Cx}
def J8 (K:PySem.W.Frag):R2:=fun x y H Q=>∃ p q xs ys,x=.ref p/\y=.ref q/\SqL K H p xs/\SqL K H q ys/\(xs=[]\/ys=[])/\Q (.bl (!decide (xs=ys))) H
theorem OT (hu:X.A.units<cLine):OpR X (compareOp .NotEq) (J8 X.K):=by
 intro pins s σ H x y v u Q I rx ry h
 obtain ⟨p,q,xs,ys,rfl,rfl,hp,hq,hor,k⟩:=h
 cases rx
 cases ry
 obtain ⟨i1,r1,l1,z1⟩:=I.list hp
 obtain ⟨i2,r2,l2,z2⟩:=I.list hq
 have e1:=r1.length
 have e2:=r2.length
 by_cases c:xs.length=ys.length
 ·have exy:xs=ys:=by
   rcases hor with z | z
   ·subst z;exact (List.eq_nil_of_length_eq_zero (by rw[<-c];rfl)).symm
   ·subst z;exact List.eq_nil_of_length_eq_zero (by rw[c];rfl)
  have x0:xs.length=0:=by
   rcases hor with z | z
   ·rw[z];rfl
   ·rw[c,z];rfl
  rw[decide_eq_true exy] at k
  refine SeqAt.RcNeAt.lists (e:=fun _=>true) l1.isList l2.isList (by rw[List.size_toArray,List.size_toArray];lia) hu (fun j h1 _=>?_) X.prog X.w _ _ ?_
  ·rw[List.size_toArray] at h1;lia
  ·refine ⟨.bl false,H,I,?_,k⟩
   have:(List.range i1.toArray.size).all (fun _=>true)=true:=List.all_eq_true.mpr fun _ _=>rfl
   rw[this]
   rfl
 ·rw[decide_eq_false (fun z=>c (by rw[z]))] at k
  exact SeqAt.RcNeAt.lists_lengths l1.isList l2.isList (by rw[List.size_toArray,List.size_toArray];exact bne_iff_ne.mpr (by lia)) hu X.prog X.w _ _ ⟨.bl true,H,I,rfl,k⟩
end
section
variable {X:Cx}
def GG:V->Int
 | .int i=>i
 | _=>0
def BV (H:Hp):V->List Int
 | .ref a=>match H a with
  | some (.tup xs)=>xs.map GG
  | _=>[]
 | _=>[]
theorem KM (ns:List Int):(ns.map V.int).map GG=ns:=by
 rw[List.map_map]
 exact (List.map_congr_left fun _ _=>rfl).trans (List.map_id ns)
def addrOf:Value->V
 | .ref a=>.ref a
 | _=>.non
theorem IE:∀ {vs:List V} {its:List Value},Vals vs its->(∀ v∈vs,∃ a,v=.ref a)->vs=its.map addrOf/\∀ u∈its,∃ a,u=.ref a
 | [],_,.nil,_=>⟨rfl,fun _ h=>nomatch h⟩
 | v::vs,_,.cons (b:=u) r t,h=>by
  obtain ⟨a,rfl⟩:=h v List.mem_cons_self
  cases r
  obtain ⟨h1,h2⟩:=IE t fun w hw=>h w (List.mem_cons_of_mem _ hw)
  refine ⟨by rw[List.map_cons,<-h1];rfl,fun w hw=>?_⟩
  rcases List.mem_cons.mp hw with rfl | hw
  ·exact ⟨a,rfl⟩
  ·exact h2 w hw
theorem HN:∀ {its:List Value},(∀ u∈its,∃ a,u=.ref a)->Vals (its.map addrOf) its
 | [],_=>.nil
 | u::us,h=>by
  obtain ⟨a,rfl⟩:=h u List.mem_cons_self
  exact .cons rfl (HN fun w hw=>h w (List.mem_cons_of_mem _ hw))
def J5 (K:PySem.W.Frag):List V->Hp->VK->Prop:=fun xs H Q=>∃ p vs,xs=[.ref p]/\SqL K H p vs/\(∀ v∈vs,∃ a ns,v=.ref a/\H a=some (.tup (ns.map V.int))/\ns≠[]) /\
 ∀ l (ws:List V),H l=none->ws.Perm vs->ws.Pairwise (fun u v=>HT.lexLt (BV H v) (BV H u)=false)->Q (.ref l) (upd H l (.lst ws))
theorem QY:CallR X (.builtin "sorted") (J5 X.K):=by
 intro pins s σ H xs us Q I r h
 obtain ⟨p,vs,rfl,hq,hv,q⟩:=h
 obtain ⟨u,rfl,ru⟩:=vals1 r
 cases ru
 obtain ⟨its,rv,pl,hz⟩:=I.list hq
 have hl:=rv.length
 obtain ⟨e1,e2⟩:=IE rv fun v hvm=>let ⟨a,ns,e,_⟩:=hv v hvm;⟨a,e⟩
 refine EvS.Rp (fun u=>BV H (addrOf u)) pl.isList (fun u hu=>?_) (by lia) fun out b1 b2=>?_
 ·have hm:addrOf u∈vs:=by rw[e1];exact List.mem_map.mpr ⟨u,hu,rfl⟩
  obtain ⟨a,ns,e3,e4,e5⟩:=hv _ hm
  obtain ⟨b,rfl⟩:=e2 u hu
  have:b=a:=by injection e3
  subst this
  obtain ⟨_,its2,r2,o,ho,hc,n,hd⟩:=I.hok b _ e4
  have en:BV H (addrOf (.ref b))=ns:=by
   show (match H b with | some (.tup xs)=>xs.map GG | _=>[])=ns
   rw[e4]
   exact KM ns
  exact ⟨b,o,_,n,rfl,ho,hc,hd,by dsimp only;rw[en];exact intsAre_of r2,by dsimp only;rw[en];exact e5⟩
 ·obtain ⟨e,he⟩:=sortedAll_at s.heap its out
  have hn:H (s.heap.objs.size+1)=none:=I.hok.fresh (Nat.le_succ _)
  have er:∀ u∈out.toList,∃ a,u=.ref a:=fun u hu=>e2 u (b1.mem_iff.mp hu)
  have pw:(out.toList.map addrOf).Perm vs:=by rw[e1];exact b1.map addrOf
  refine ⟨.ref (s.heap.objs.size+1),_,I.laid (t':=s.toks) (o:=.lst (out.toList.map addrOf)) (fun b u q=>sortedAll_old q) (Nat.le_succ _) ⟨?_,out.toList,e,HN er,?_⟩,rfl,q _ _ hn pw ?_⟩
  ·rw[pw.length_eq];exact hz
  ·simpa using he
  ·rw[List.pairwise_map]
   exact b2
end
end L2
namespace DL
open PySem L2
inductive D where
 | non | bl (b:Bool) | int (i:Int) | str (x:Str) | lst (xs:List D) | tup (xs:List D) | scr (ns:List Int)
inductive SV where
 | v (d:D) | b (n:Nat) | p (n:Nat) (d:D)
structure Wd where
 K:PySem.W.Frag
 B:Addr->Prop
 H:Hp
mutual
def Rep (W:Wd):D->V->Prop
 | .non,v=>v=.non
 | .bl b,v=>v=.bl b
 | .int i,v=>v=.int i
 | .str x,v=>v=.str x
 | .lst xs,v=>∃ a vs,v=.ref a/\¬W.B a/\W.H a=some (.lst vs)/\Reps W xs vs
 | .tup xs,v=>∃ a vs,v=.ref a/\¬W.B a/\W.H a=some (.tup vs)/\Reps W xs vs
 | .scr ns,v=>∃ a,v=.ref a/\((¬W.B a/\Rd W.H a (.lst (ns.map V.int)))\/∀ H,SqL W.K H a (ns.map V.int))
def Reps (W:Wd):List D->List V->Prop
 | [],vs=>vs=[]
 | d::ds,vs=>∃ v r,vs=v::r/\Rep W d v/\Reps W ds r
end
structure Kw (W W':Wd):Prop where
 k:W'.K=W.K
 keep:∀ a o,¬W.B a->W.H a=some o->W'.H a=some o/\¬W'.B a
theorem Kw.refl (W:Wd):Kw W W:=⟨rfl,fun _ _ n e=>⟨e,n⟩⟩
theorem Kw.trans {W W1 W2:Wd} (a:Kw W W1) (b:Kw W1 W2):Kw W W2:=⟨b.k.trans a.k,fun c o n e=>let ⟨h,n'⟩:=a.keep c o n e;b.keep c o n' h⟩
mutual
theorem Rep.kw {W W':Wd} (k:Kw W W'):∀ {d:D} {v:V},Rep W d v->Rep W' d v
 | .non,v,h=>by unfold Rep at *;exact h
 | .bl b,v,h=>by unfold Rep at *;exact h
 | .int i,v,h=>by unfold Rep at *;exact h
 | .str x,v,h=>by unfold Rep at *;exact h
 | .lst xs,v,h=>by
  unfold Rep at *
  obtain ⟨a,vs,e,n,h1,h2⟩:=h
  obtain ⟨h3,n'⟩:=k.keep a _ n h1
  exact ⟨a,vs,e,n',h3,Reps.kw k h2⟩
 | .tup xs,v,h=>by
  unfold Rep at *
  obtain ⟨a,vs,e,n,h1,h2⟩:=h
  obtain ⟨h3,n'⟩:=k.keep a _ n h1
  exact ⟨a,vs,e,n',h3,Reps.kw k h2⟩
 | .scr ns,v,h=>by
  unfold Rep at *
  obtain ⟨a,e,h⟩:=h
  refine ⟨a,e,?_⟩
  rcases h with ⟨n,h | ⟨o,h⟩⟩ | h
  ·obtain ⟨h3,n'⟩:=k.keep a _ n h
   exact .inl ⟨n',.inl h3⟩
  ·obtain ⟨h3,n'⟩:=k.keep a _ n h
   exact .inl ⟨n',.inr ⟨o,h3⟩⟩
  ·exact .inr (by rw[k.k];exact h)
theorem Reps.kw {W W':Wd} (k:Kw W W'):∀ {ds:List D} {vs:List V},Reps W ds vs->Reps W' ds vs
 | [],vs,h=>by unfold Reps at *;exact h
 | d::ds,vs,h=>by
  unfold Reps at *
  obtain ⟨v,r,e,h1,h2⟩:=h
  exact ⟨v,r,e,Rep.kw k h1,Reps.kw k h2⟩
end
theorem Reps.len {W:Wd}:∀ {ds:List D} {vs:List V},Reps W ds vs->vs.length=ds.length
 | [],vs,h=>by unfold Reps at h;subst h;rfl
 | d::ds,vs,h=>by
  unfold Reps at h
  obtain ⟨v,r,rfl,_,h⟩:=h
  rw[List.length_cons,List.length_cons,h.len]
theorem Reps.nil {W:Wd}:Reps W [] []:=by unfold Reps;rfl
theorem Reps.cons {W:Wd} {d:D} {v:V} {ds:List D} {vs:List V} (h:Rep W d v) (t:Reps W ds vs):Reps W (d::ds) (v::vs):=by unfold Reps;exact ⟨v,vs,rfl,h,t⟩
theorem Reps.nil_inv {W:Wd} {vs:List V} (h:Reps W [] vs):vs=[]:=by unfold Reps at h;exact h
theorem Reps.cons_inv {W:Wd} {d:D} {ds:List D} {vs:List V} (h:Reps W (d::ds) vs):∃ v r,vs=v::r/\Rep W d v/\Reps W ds r:=by unfold Reps at h;exact h
theorem Reps.append {W:Wd}:∀ {ds es:List D} {vs us:List V},Reps W ds vs->Reps W es us->Reps W (ds++es) (vs++us)
 | [],es,vs,us,h,g=>by rw[h.nil_inv];exact g
 | d::ds,es,vs,us,h,g=>by
  obtain ⟨v,r,rfl,h1,h2⟩:=h.cons_inv
  exact .cons h1 (h2.append g)
theorem Reps.get {W:Wd}:∀ {ds:List D} {vs:List V} {i:Nat} {d:D},Reps W ds vs->ds[i]?=some d->∃ v,vs[i]?=some v/\Rep W d v
 | [],_,_,_,_,e=>by cases e
 | c::ds,vs,0,d,h,e=>by
  obtain ⟨v,r,rfl,h1,h2⟩:=h.cons_inv
  cases e
  exact ⟨v,rfl,h1⟩
 | c::ds,vs,i+1,d,h,e=>by
  obtain ⟨v,r,rfl,h1,h2⟩:=h.cons_inv
  obtain ⟨u,a,b⟩:=h2.get (i:=i) (d:=d) (by simpa using e)
  exact ⟨u,by simpa using a,b⟩
theorem Reps.get' {W:Wd} {ds:List D} {vs:List V} {i:Nat} {v:V} (h:Reps W ds vs) (e:vs[i]?=some v):∃ d,ds[i]?=some d/\Rep W d v:=by
 have hi:i<ds.length:=by
  have:=h.len
  have:=(List.getElem?_eq_some_iff.mp e).1
  lia
 obtain ⟨u,a,b⟩:=h.get (List.getElem?_eq_getElem hi)
 rw[e] at a
 cases a
 exact ⟨_,List.getElem?_eq_getElem hi,b⟩
theorem Reps.take {W:Wd}:∀ {ds:List D} {vs:List V} (n:Nat),Reps W ds vs->Reps W (ds.take n) (vs.take n)
 | [],vs,n,h=>by rw[h.nil_inv];simp;exact .nil
 | d::ds,vs,0,h=>by simp;exact .nil
 | d::ds,vs,n+1,h=>by
  obtain ⟨v,r,rfl,h1,h2⟩:=h.cons_inv
  exact .cons h1 (h2.take n)
theorem Reps.drop {W:Wd}:∀ {ds:List D} {vs:List V} (n:Nat),Reps W ds vs->Reps W (ds.drop n) (vs.drop n)
 | [],vs,n,h=>by rw[h.nil_inv];simp;exact .nil
 | d::ds,vs,0,h=>h
 | d::ds,vs,n+1,h=>by
  obtain ⟨v,r,rfl,h1,h2⟩:=h.cons_inv
  exact h2.drop n
theorem Reps.set {W:Wd} {d:D} {v:V} (r:Rep W d v):∀ {ds:List D} {vs:List V} (i:Nat),Reps W ds vs->Reps W (ds.set i d) (vs.set i v)
 | [],vs,i,h=>by rw[h.nil_inv];exact .nil
 | c::ds,vs,0,h=>by
  obtain ⟨u,q,rfl,h1,h2⟩:=h.cons_inv
  exact .cons r h2
 | c::ds,vs,i+1,h=>by
  obtain ⟨u,q,rfl,h1,h2⟩:=h.cons_inv
  exact .cons h1 (Reps.set r i h2)
theorem Reps.ints {W:Wd}:∀ {ns:List Int} {vs:List V},Reps W (ns.map D.int) vs->vs=ns.map V.int
 | [],vs,h=>h.nil_inv
 | n::ns,vs,h=>by
  obtain ⟨v,r,rfl,h1,h2⟩:=Reps.cons_inv (d:=D.int n) (ds:=ns.map D.int) h
  unfold Rep at h1
  rw[h1,h2.ints]
  rfl
theorem Reps.of_ints {W:Wd}:∀ {ns:List Int},Reps W (ns.map D.int) (ns.map V.int)
 | []=>.nil
 | n::ns=>.cons (by unfold Rep;rfl) Reps.of_ints
abbrev Gm:=List (Option (List D))
structure DS where
 σ:List (Option SV)
 Γ:Gm
 lo:Nat
structure Fr where
 K:PySem.W.Frag
 H₀:Hp
 F:Addr->Prop
 L:Addr->Prop
 sub:∀ a,L a->F a
 dom:∀ a,F a->H₀ a≠none
def BN (Γ:Gm) (α:Nat->Addr) (a:Addr):Prop:=∃ (n:Nat) (xs:List D),Γ[n]?=some (some xs)/\α n=a
abbrev wd (f:Fr) (α:Nat->Addr) (Γ:Gm) (H:Hp):Wd:=⟨f.K,fun a=>f.F a\/BN Γ α a,H⟩
def RepV (f:Fr) (α:Nat->Addr) (Γ:Gm) (H:Hp):SV->V->Prop
 | .v d,v=>Rep (wd f α Γ H) d v
 | .b n,v=>n<Γ.length/\v=.ref (α n)
 | .p n d,v=>n<Γ.length/\∃ a w,v=.ref a/\¬(f.F a\/BN Γ α a)/\H a=some (.tup [.ref (α n),w])/\Rep (wd f α Γ H) d w
structure RS (f:Fr) (α:Nat->Addr) (s:DS) (σ:St) (H:Hp):Prop where
 len:s.σ.length=σ.length
 slot:∀ (i:Nat) (d:SV),s.σ[i]?=some (some d)->∃ v,σ[i]?=some (some v)/\RepV f α s.Γ H d v
 box:∀ (n:Nat) (xs:List D),s.Γ[n]?=some (some xs)->∃ vs,H (α n)=some (.lst vs)/\Reps (wd f α s.Γ H) xs vs
 own:∀ (n:Nat) (xs:List D),s.Γ[n]?=some (some xs)->if n<s.lo then f.L (α n) else f.H₀ (α n)=none
 inj:∀ (n m:Nat) (xs ys:List D),s.Γ[n]?=some (some xs)->s.Γ[m]?=some (some ys)->α n=α m->n=m
 fr:∀ (b:Addr) (o:HO),f.H₀ b=some o->¬f.L b->H b=some o
 forb:∀ a,f.F a->H a≠none
structure Ext (f:Fr) (α α':Nat->Addr) (Γ Γ':Gm) (H H':Hp):Prop where
 kw:Kw (wd f α Γ H) (wd f α' Γ' H')
 m:Γ.length<=Γ'.length
 al:∀ n,n<Γ.length->α' n=α n
 lv:∀ (n:Nat) (xs:List D),n<Γ.length->Γ'[n]?=some (some xs)->∃ ys,Γ[n]?=some (some ys)
section
variable {f:Fr} {α α' α'':Nat->Addr} {Γ Γ' Γ'':Gm} {H H' H'':Hp} {s s':DS} {σ σ':St}
theorem Ext.refl:Ext f α α Γ Γ H H:=⟨.refl _,Nat.le_refl _,fun _ _=>rfl,fun _ xs _ e=>⟨xs,e⟩⟩
theorem Ext.trans (a:Ext f α α' Γ Γ' H H') (b:Ext f α' α'' Γ' Γ'' H' H''):Ext f α α'' Γ Γ'' H H'':=
 ⟨a.kw.trans b.kw,Nat.le_trans a.m b.m,fun n h=>(b.al n (Nat.lt_of_lt_of_le h a.m)).trans (a.al n h),fun n xs h e=>let ⟨ys,e'⟩:=b.lv n xs (Nat.lt_of_lt_of_le h a.m) e;a.lv n ys h e'⟩
theorem RepV.ext (e:Ext f α α' Γ Γ' H H'):∀ {d:SV} {v:V},RepV f α Γ H d v->RepV f α' Γ' H' d v
 | .v d,v,h=>Rep.kw e.kw (show Rep (wd f α Γ H) d v from h)
 | .b n,v,h=>⟨Nat.lt_of_lt_of_le h.1 e.m,by rw[e.al n h.1];exact h.2⟩
 | .p n d,v,⟨h,a,w,h1,h2,h3,h4⟩=>⟨Nat.lt_of_lt_of_le h e.m,a,w,h1,(e.kw.keep a _ h2 h3).2,by rw[e.al n h];exact (e.kw.keep a _ h2 h3).1,h4.kw e.kw⟩
theorem RS.live (r:RS f α s σ H) {a:Addr} (h:BN s.Γ α a):H a≠none:=by
 obtain ⟨n,xs,e,rfl⟩:=h
 obtain ⟨vs,h,_⟩:=r.box n xs e
 rw[h]
 exact fun z=>nomatch z
theorem RS.fresh (r:RS f α s σ H) {a:Addr} (h:H a=none):¬(f.F a\/BN s.Γ α a):=fun z=>by
 rcases z with z | z
 ·exact r.forb a z h
 ·exact r.live z h
theorem RS.fresh0 (r:RS f α s σ H) {a:Addr} (h:H a=none):f.H₀ a=none:=by
 cases e:f.H₀ a with
 | none=>rfl
 | some o=>
  by_cases c:f.L a
  ·exact absurd h (r.forb a (f.sub a c))
  ·rw[r.fr a o e c] at h
   cases h
theorem Ext.new (r:RS f α s σ H) {p:Addr} {o:HO} (h:H p=none):Ext f α α s.Γ s.Γ H (upd H p o):=
 ⟨⟨rfl,fun a u n e=>⟨by show upd H p o a=some u;rw[AJ (Ah e h)];exact e,n⟩⟩,Nat.le_refl _,fun _ _=>rfl,fun _ xs _ e=>⟨xs,e⟩⟩
theorem RS.mv (r:RS f α s σ H) (e:Ext f α α s.Γ s.Γ H H') (k:∀ b o,H b=some o->H' b=some o):RS f α s σ H' where
 len:=r.len
 slot:=fun i d h=>let ⟨v,a,b⟩:=r.slot i d h;⟨v,a,b.ext e⟩
 box:=fun n xs h=>let ⟨vs,a,b⟩:=r.box n xs h;⟨vs,k _ _ a,b.kw e.kw⟩
 own:=r.own
 inj:=r.inj
 fr:=fun b o h n=>k _ _ (r.fr b o h n)
 forb:=fun a h=>by
  cases e:H a with
  | none=>exact absurd e (r.forb a h)
  | some o=>rw[k _ _ e];exact fun z=>nomatch z
theorem RS.new (r:RS f α s σ H) {p:Addr} {o:HO} (h:H p=none):RS f α s σ (upd H p o):=
 r.mv (.new r h) fun b u e=>by rw[AJ (Ah e h)];exact e
theorem RS.set (r:RS f α s σ H) {i:Nat} {d:SV} {v:V} (h:RepV f α s.Γ H d v):RS f α {s with σ:=s.σ.set i (some d)} (σ.set i (some v)) H where
 len:=by rw[List.length_set,List.length_set];exact r.len
 slot:=fun j c e=>by
  have e:(s.σ.set i (some d))[j]?=some (some c):=e
  rw[List.getElem?_set] at e
  rw[List.getElem?_set]
  by_cases hij:i=j
  ·rw[if_pos hij] at e ⊢
   by_cases hl:i<s.σ.length
   ·rw[if_pos hl] at e
    cases e
    rw[if_pos (by rw[<-r.len];exact hl)]
    exact ⟨v,rfl,h⟩
   ·rw[if_neg hl] at e
    cases e
  ·rw[if_neg hij] at e ⊢
   exact r.slot j c e
 box:=r.box
 own:=r.own
 inj:=r.inj
 fr:=r.fr
 forb:=r.forb
theorem RS.slots (r:RS f α s σ H) {τ:List (Option SV)} {τ':St} (h:τ.length=τ'.length) (k:∀ (i:Nat) (d:SV),τ[i]?=some (some d)->∃ v,τ'[i]?=some (some v)/\RepV f α s.Γ H d v):RS f α {s with σ:=τ} τ' H:=
 ⟨h,k,r.box,r.own,r.inj,r.fr,r.forb⟩
theorem Ext.put {n:Nat} {xs ys:List D} {o:HO} (hn:Γ[n]?=some (some xs)):Ext f α α Γ (Γ.set n (some ys)) H (upd H (α n) o) where
 kw:=⟨rfl,fun a u h e=>by
  have na:a≠α n:=fun z=>h (.inr ⟨n,xs,hn,z.symm⟩)
  refine ⟨by show upd H (α n) o a=some u;rw[AJ na];exact e,fun z=>?_⟩
  rcases z with z | ⟨m,zs,e1,e2⟩
  ·exact h (.inl z)
  ·rw[List.getElem?_set] at e1
   by_cases hm:n=m
   ·subst hm
    exact na e2.symm
   ·rw[if_neg hm] at e1
    exact h (.inr ⟨m,zs,e1,e2⟩)⟩
 m:=by rw[List.length_set];exact Nat.le_refl _
 al:=fun _ _=>rfl
 lv:=fun m zs _ e=>by
  rw[List.getElem?_set] at e
  by_cases hm:n=m
  ·subst hm;exact ⟨xs,hn⟩
  ·rw[if_neg hm] at e;exact ⟨zs,e⟩
theorem D0 {n:Nat} {xs:List D} {y:Option (List D)} {m:Nat} {z:Option (List D)} (hn:Γ[n]?=some (some xs)) (h:(Γ.set n y)[m]?=some z):(m=n/\z=y)\/(m≠n/\Γ[m]?=some z):=by
 rw[List.getElem?_set] at h
 by_cases hm:n=m
 ·rw[if_pos hm] at h
  subst hm
  rw[if_pos (List.getElem?_eq_some_iff.mp hn).1] at h
  cases h
  exact .inl ⟨rfl,rfl⟩
 ·rw[if_neg hm] at h
  exact .inr ⟨fun z=>hm z.symm,h⟩
theorem RS.put (r:RS f α s σ H) {n:Nat} {xs ys:List D} {vs:List V} (hn:s.Γ[n]?=some (some xs)) (h:Reps (wd f α s.Γ H) ys vs) :
  RS f α {s with Γ:=s.Γ.set n (some ys)} σ (upd H (α n) (.lst vs)):=by
 have e:Ext f α α s.Γ (s.Γ.set n (some ys)) H (upd H (α n) (.lst vs)):=.put hn
 refine ⟨r.len,fun i d h=>let ⟨v,a,b⟩:=r.slot i d h;⟨v,a,b.ext e⟩,fun m zs hm=>?_,fun m zs hm=>?_,fun m k zs us hm hk q=>?_,fun b o h1 h2=>?_,fun a h1=>?_⟩
 ·rcases D0 hn hm with ⟨rfl,z⟩ | ⟨hne,hm⟩
  ·cases z
   exact ⟨vs,AS,h.kw e.kw⟩
  ·obtain ⟨us,a,b⟩:=r.box m zs hm
   exact ⟨us,by rw[AJ (fun z=>hne (r.inj m n _ _ hm hn z))];exact a,b.kw e.kw⟩
 ·rcases D0 hn hm with ⟨rfl,z⟩ | ⟨hne,hm⟩
  ·exact r.own _ _ hn
  ·exact r.own _ _ hm
 ·have g:∀ {m zs},(s.Γ.set n (some ys))[m]?=some (some zs)->∃ ws,s.Γ[m]?=some (some ws):=fun {m zs} hm=>by
   rcases D0 hn hm with ⟨rfl,z⟩ | ⟨hne,hm⟩
   ·exact ⟨_,hn⟩
   ·exact ⟨_,hm⟩
  obtain ⟨_,g1⟩:=g hm
  obtain ⟨_,g2⟩:=g hk
  exact r.inj _ _ _ _ g1 g2 q
 ·have hb:=r.fr b o h1 h2
  rw[AJ ?_]
  ·exact hb
  ·intro z
   have ow:=r.own n xs hn
   split at ow
   ·exact h2 (z▸ow)
   ·rw[<-z,h1] at ow;cases ow
 ·by_cases z:a=α n
  ·rw[z,AS];exact fun z=>nomatch z
  ·rw[AJ z];exact r.forb a h1
def Bo (α:Nat->Addr) (n:Nat) (a:Addr):Nat->Addr:=fun k=>if k=n then a else α k
theorem Ext.add (r:RS f α s σ H) {a:Addr} {xs:List D} {o:HO} (h:H a=none):Ext f α (Bo α s.Γ.length a) s.Γ (s.Γ++[some xs]) H (upd H a o) where
 kw:=⟨rfl,fun b u n e=>by
  have nb:b≠a:=Ah e h
  refine ⟨by show upd H a o b=some u;rw[AJ nb];exact e,fun z=>?_⟩
  rcases z with z | ⟨m,zs,e1,e2⟩
  ·exact n (.inl z)
  ·by_cases hm:m<s.Γ.length
   ·rw[List.getElem?_append_left hm] at e1
    have e2:Bo α s.Γ.length a m=b:=e2
    unfold Bo at e2
    rw[if_neg (Nat.ne_of_lt hm)] at e2
    exact n (.inr ⟨m,zs,e1,e2⟩)
   ·have:m=s.Γ.length:=by
     have:=(List.getElem?_eq_some_iff.mp e1).1
     rw[List.length_append] at this
     simp at this
     lia
    subst this
    have e2:Bo α s.Γ.length a s.Γ.length=b:=e2
    unfold Bo at e2
    rw[if_pos rfl] at e2
    exact nb e2.symm⟩
 m:=by rw[List.length_append];lia
 al:=fun n h=>by unfold Bo;rw[if_neg (Nat.ne_of_lt h)]
 lv:=fun n zs h e=>by rw[List.getElem?_append_left h] at e;exact ⟨zs,e⟩
theorem RS.add (r:RS f α s σ H) (hlo:s.lo<=s.Γ.length) {a:Addr} {xs:List D} {vs:List V} (h:H a=none) (hx:Reps (wd f α s.Γ H) xs vs) :
  RS f (Bo α s.Γ.length a) {s with Γ:=s.Γ++[some xs]} σ (upd H a (.lst vs)):=by
 have e:Ext f α (Bo α s.Γ.length a) s.Γ (s.Γ++[some xs]) H (upd H a (.lst vs)):=.add r h
 have old:∀ {m zs},(s.Γ++[some xs])[m]?=some (some zs)->(m<s.Γ.length/\s.Γ[m]?=some (some zs)/\Bo α s.Γ.length a m=α m)\/(m=s.Γ.length/\zs=xs/\Bo α s.Γ.length a m=a):=fun {m zs} hm=>by
  by_cases c:m<s.Γ.length
  ·rw[List.getElem?_append_left c] at hm
   exact .inl ⟨c,hm,e.al m c⟩
  ·have hl:=(List.getElem?_eq_some_iff.mp hm).1
   rw[List.length_append] at hl
   simp at hl
   have:m=s.Γ.length:=by lia
   subst this
   rw[List.getElem?_append_right (Nat.le_refl _)] at hm
   simp at hm
   exact .inr ⟨rfl,hm.symm,by unfold Bo;rw[if_pos rfl]⟩
 refine ⟨r.len,fun i d h=>let ⟨v,a,b⟩:=r.slot i d h;⟨v,a,b.ext e⟩,fun m zs hm=>?_,fun m zs hm=>?_,fun m k zs us hm hk q=>?_,fun b o h1 h2=>?_,fun b h1=>?_⟩
 ·rcases old hm with ⟨c,g,z⟩ | ⟨c,rfl,z⟩
  ·obtain ⟨us,g1,g2⟩:=r.box m zs g
   refine ⟨us,?_,g2.kw e.kw⟩
   rw[z,AJ (Ah g1 h)]
   exact g1
  ·exact ⟨vs,by rw[z,AS],hx.kw e.kw⟩
 ·rcases old hm with ⟨c,g,z⟩ | ⟨c,_,z⟩
  ·rw[z];exact r.own m zs g
  ·rw[z,if_neg (by show ¬m<s.lo;lia)];exact r.fresh0 h
 ·rcases old hm with ⟨c,g,z⟩ | ⟨c,_,z⟩<;>rcases old hk with ⟨c',g',z'⟩ | ⟨c',_,z'⟩
  ·rw[z,z'] at q;exact r.inj _ _ _ _ g g' q
  ·rw[z,z'] at q
   obtain ⟨us,g1,_⟩:=r.box m _ g
   rw[q,h] at g1;cases g1
  ·rw[z,z'] at q
   obtain ⟨us,g1,_⟩:=r.box k _ g'
   rw[<-q,h] at g1;cases g1
  ·rw[c,c']
 ·have hb:=r.fr b o h1 h2
  rw[AJ (Ah hb h)]
  exact hb
 ·by_cases z:b=a
  ·rw[z,AS];exact fun z=>nomatch z
  ·rw[AJ z];exact r.forb b h1
end
end DL
namespace DL
open PySem L2
abbrev ME:=DS->Option (SV×DS)
abbrev MF:=DS->Option (List D×DS)
abbrev MT:=DS->Option (Bool×DS)
abbrev MA:=DS->Option (List SV×DS)
def RepVs (f:Fr) (α:Nat->Addr) (Γ:Gm) (H:Hp):List SV->List V->Prop
 | [],vs=>vs=[]
 | d::ds,vs=>∃ v r,vs=v::r/\RepV f α Γ H d v/\RepVs f α Γ H ds r
def tD (f:Fr) (m:ME):TE:=fun σ H Q=>∃ α s r,RS f α s σ H/\s.lo<=s.Γ.length/\m s=some r/\∀ α' v H',RS f α' r.2 σ H'->r.2.lo=s.lo->Ext f α α' s.Γ r.2.Γ H H'->RepV f α' r.2.Γ H' r.1 v->Q v H'
def tDF (f:Fr) (m:MF):TE:=fun σ H Q=>∃ α s r,RS f α s σ H/\s.lo<=s.Γ.length/\m s=some r/\∀ α' a vs H',RS f α' r.2 σ H'->r.2.lo=s.lo->Ext f α α' s.Γ r.2.Γ H H'->H' a=none->Reps (wd f α' r.2.Γ H') r.1 vs->Q (.ref a) (upd H' a (.lst vs))
def tDT (f:Fr) (m:MT):TT:=fun σ H Q=>∃ α s r,RS f α s σ H/\s.lo<=s.Γ.length/\m s=some r/\∀ α' H',RS f α' r.2 σ H'->r.2.lo=s.lo->Ext f α α' s.Γ r.2.Γ H H'->Q r.1 H'
def tDA (f:Fr) (m:MA):TA:=fun σ H Q=>∃ α s r,RS f α s σ H/\s.lo<=s.Γ.length/\m s=some r/\∀ α' vs H',RS f α' r.2 σ H'->r.2.lo=s.lo->Ext f α α' s.Γ r.2.Γ H H'->RepVs f α' r.2.Γ H' r.1 vs->Q vs H'
def DE (X:Cx) (e:Expr) (m:ME):Prop:=∀ f:Fr,f.K=X.K->PE X e (tD f m)
def DF (X:Cx) (e:Expr) (m:MF):Prop:=∀ f:Fr,f.K=X.K->PE X e (tDF f m)
def DT (X:Cx) (e:Expr) (m:MT):Prop:=∀ f:Fr,f.K=X.K->PT X e (tDT f m)
def DW (X:Cx) (e:Expr) (m:MT):Prop:=∀ f:Fr,f.K=X.K->PW X e (tDT f m)
def DA (X:Cx) (es:List Expr) (m:MA):Prop:=∀ f:Fr,f.K=X.K->PA X es (tDA f m)
section
variable {X:Cx} {e a b c:Expr} {t t':TE} {pos:Pos}
theorem PE.imp (h:PE X e t) (k:∀ σ H Q,t' σ H Q->t σ H Q):PE X e t':=fun pins s σ H Q I q=>h pins s σ H Q I (k _ _ _ q)
theorem PT.imp {t t':TT} (h:PT X e t) (k:∀ σ H Q,t' σ H Q->t σ H Q):PT X e t':=fun pins s σ H Q I q=>h pins s σ H Q I (k _ _ _ q)
theorem PW.imp {t t':TT} (h:PW X e t) (k:∀ σ H Q,t' σ H Q->t σ H Q):PW X e t':=fun wh pins s σ H Q I q=>h wh pins s σ H Q I (k _ _ _ q)
theorem PA.imp {es:List Expr} {t t':TA} (h:PA X es t) (k:∀ σ H Q,t' σ H Q->t σ H Q):PA X es t':=fun pos pins s σ H Q I q=>h pos pins s σ H Q I (k _ _ _ q)
@[simp] def AA (i:Nat):ME:=fun s=>match s.σ[i]? with
 | some (some d)=>some (d,s)
 | _=>none
theorem AD {i:Nat} {x:Str} (h:PE X (.Name x pos) (GF i)):DE X (.Name x pos) (AA i):=fun f hf=>PE.imp h fun σ H Q hh_=>by
 obtain ⟨α,s,r,rs,lo,e,q⟩:=hh_
 unfold AA at e
 split at e
 ·rename_i d hd
  cases e
  obtain ⟨v,h1,h2⟩:=rs.slot i d hd
  exact ⟨v,h1,q α v H rs rfl .refl h2⟩
 ·cases e
@[simp] def BY (i:Nat):MF:=fun s=>match s.σ[i]? with
 | some (some (.b n))=>match s.Γ[n]? with
  | some (some xs)=>if s.lo<=n then some (xs,{s with σ:=s.σ.set i none,Γ:=s.Γ.set n none}) else none
  | _=>none
 | _=>none
@[simp] def mC (d:D):ME:=fun s=>some (.v d,s)
theorem ID {d:D} {v:V} (h:PE X e (tC v)) (r:∀ W,Rep W d v):DE X e (mC d):=fun f hf=>PE.imp h fun σ H Q hh_=>by
 obtain ⟨α,s,r',rs,lo,e,q⟩:=hh_
 cases e
 exact q α v H rs rfl .refl (r _)
theorem AM {i j}:DE X (.Constant (.int i) j pos) (mC (.int i)):=ID HV fun W=>by unfold Rep;rfl
theorem SI {i j}:DE X (.Constant (.bool i) j pos) (mC (.bl i)):=ID Em fun W=>by unfold Rep;rfl
theorem Fg {i j}:DE X (.Constant (.str i) j pos) (mC (.str i)):=ID Kk fun W=>by unfold Rep;rfl
theorem D9 {f:Fr} {α:Nat->Addr} {s:DS} {σ:St} {H:Hp} {p:Addr} {xs:List D} {vs:List V} (r:RS f α s σ H) (h:H p=none) (hx:Reps (wd f α s.Γ H) xs vs):Rep (wd f α s.Γ (upd H p (.lst vs))) (.lst xs) (.ref p):=by
 unfold Rep
 exact ⟨p,vs,rfl,r.fresh h,AS,hx.kw (Ext.new r h).kw⟩
theorem IW {f:Fr} {α:Nat->Addr} {s:DS} {σ:St} {H:Hp} {p:Addr} {xs:List D} {vs:List V} (r:RS f α s σ H) (h:H p=none) (hx:Reps (wd f α s.Γ H) xs vs):Rep (wd f α s.Γ (upd H p (.tup vs))) (.tup xs) (.ref p):=by
 unfold Rep
 exact ⟨p,vs,rfl,r.fresh h,AS,hx.kw (Ext.new r h).kw⟩
@[simp] def AK (m:MF):ME:=fun s=>(m s).map fun r=>(.v (.lst r.1),r.2)
theorem Ab {m:MF} (h:DF X e m):DE X e (AK m):=fun f hf=>PE.imp (h f hf) fun σ H Q hh_=>by
 obtain ⟨α,s,r,rs,lo,e,q⟩:=hh_
 unfold AK at e
 cases hm:m s with
 | none=>rw[hm] at e;cases e
 | some r'=>
  rw[hm] at e
  cases e
  exact ⟨α,s,r',rs,lo,hm,fun α' p vs H' rs' l' ex hp hx=>q α' _ _ (rs'.new hp) l' (ex.trans (.new rs' hp)) (D9 rs' hp hx)⟩
@[simp] def AC:MA:=fun s=>some ([],s)
@[simp] def AB (m:ME) (ms:MA):MA:=fun s=>(m s).bind fun r=>(ms r.2).map fun q=>(r.1::q.1,q.2)
theorem RepVs.nil {f:Fr} {α:Nat->Addr} {Γ:Gm} {H:Hp}:RepVs f α Γ H [] []:=by unfold RepVs;rfl
theorem RepVs.cons {f:Fr} {α:Nat->Addr} {Γ:Gm} {H:Hp} {d:SV} {v:V} {ds:List SV} {vs:List V} (h:RepV f α Γ H d v) (t:RepVs f α Γ H ds vs):RepVs f α Γ H (d::ds) (v::vs):=by unfold RepVs;exact ⟨v,vs,rfl,h,t⟩
theorem RepVs.cons_inv {f:Fr} {α:Nat->Addr} {Γ:Gm} {H:Hp} {d:SV} {ds:List SV} {vs:List V} (h:RepVs f α Γ H (d::ds) vs):∃ v r,vs=v::r/\RepV f α Γ H d v/\RepVs f α Γ H ds r:=by unfold RepVs at h;exact h
theorem RepVs.nil_inv {f:Fr} {α:Nat->Addr} {Γ:Gm} {H:Hp} {vs:List V} (h:RepVs f α Γ H [] vs):vs=[]:=by unfold RepVs at h;exact h
theorem RepVs.len {f:Fr} {α:Nat->Addr} {Γ:Gm} {H:Hp}:∀ {ds:List SV} {vs:List V},RepVs f α Γ H ds vs->vs.length=ds.length
 | [],vs,h=>by rw[h.nil_inv];rfl
 | d::ds,vs,h=>by
  obtain ⟨v,r,rfl,_,h2⟩:=h.cons_inv
  rw[List.length_cons,List.length_cons,h2.len]
theorem AI:DA X [] AC:=fun f hf=>PA.imp BB fun σ H Q hh_=>by
 obtain ⟨α,s,r,rs,lo,e,q⟩:=hh_
 cases e
 exact q α [] H rs rfl .refl .nil
theorem AF {es:List Expr} {m:ME} {ms:MA} (h:DE X e m) (hs:DA X es ms) (hst:starEach (e::es) X.env=(false,eval e X.env)::starEach es X.env:=by rfl):DA X (e::es) (AB m ms):=fun f hf=>
 PA.imp (Ax (h f hf) (hs f hf) hst) fun σ H Q hh_=>by
  obtain ⟨α,s,r,rs,lo,e,q⟩:=hh_
  unfold AB at e
  cases h1:m s with
  | none=>rw[h1] at e;cases e
  | some r1=>
   rw[h1] at e
   cases h2:ms r1.2 with
   | none=>simp[h2] at e
   | some r2=>
    simp[h2] at e
    subst e
    refine ⟨α,s,r1,rs,lo,h1,fun α1 v H1 rs1 l1 e1 hv=>⟨α1,r1.2,r2,rs1,by rw[l1];exact Nat.le_trans lo e1.m,h2,fun α2 vs H2 rs2 l2 e2 hvs=>?_⟩⟩
    exact q α2 _ H2 rs2 (l2.trans l1) (e1.trans e2) (.cons (hv.ext e2) hvs)
@[simp] def trees:List SV->Option (List D)
 | []=>some []
 | .v d::r=>(trees r).map (d::·)
 | _=>none
theorem Hx {f:Fr} {α:Nat->Addr} {Γ:Gm} {H:Hp}:∀ {ds:List SV} {xs:List D} {vs:List V},trees ds=some xs->RepVs f α Γ H ds vs->Reps (wd f α Γ H) xs vs
 | [],xs,vs,e,h=>by cases e;rw[h.nil_inv];exact .nil
 | .v d::r,xs,vs,e,h=>by
  obtain ⟨v,q,rfl,h1,h2⟩:=h.cons_inv
  unfold trees at e
  cases ht:trees r with
  | none=>rw[ht] at e;cases e
  | some ys=>
   rw[ht] at e
   cases e
   exact .cons h1 (Hx ht h2)
 | .b n::r,xs,vs,e,h=>by unfold trees at e;cases e
 | .p n d::r,xs,vs,e,h=>by unfold trees at e;cases e
def big:Nat:=1000000
theorem CM {n:Nat} (h:n<=big):n<=sizeLine:=Ev.small h
theorem QU {n:Nat} (h:n<=big):n<sizeLine:=Ev.CW h
@[simp] def AR (ms:MA):MF:=fun s=>(ms s).bind fun r=>(trees r.1).bind fun xs=>if xs.length<=big then some (xs,r.2) else none
@[simp] def BA (ms:MA):ME:=fun s=>(ms s).bind fun r=>(trees r.1).bind fun xs=>if xs.length<=big then some (.v (.tup xs),r.2) else none
theorem bind_some {α β:Type} {o:Option α} {g:α->Option β} {z:β} (h:o.bind g=some z):∃ y,o=some y/\g y=some z:=by
 cases o with
 | none=>cases h
 | some y=>exact ⟨y,rfl,h⟩
theorem AZ {α β:Type} {o:Option α} {g:α->β} {z:β} (h:o.map g=some z):∃ y,o=some y/\g y=z:=by
 cases o with
 | none=>cases h
 | some y=>exact ⟨y,rfl,Option.some.inj h⟩
theorem A9 {es:List Expr} {ms:MA} (h:DA X es ms):DF X (.List es pos) (AR ms):=fun f hf=>PE.imp (KZ (h f hf)) fun σ H Q hh_=>by
 obtain ⟨α,s,r,rs,lo,e,q⟩:=hh_
 obtain ⟨r1,h1,e⟩:=bind_some e
 obtain ⟨xs,h2,e⟩:=bind_some e
 split at e
 ·rename_i hz
  cases e
  refine ⟨α,s,r1,rs,lo,h1,fun α1 vs H1 rs1 l1 e1 hvs=>?_⟩
  have hx:=Hx h2 hvs
  have hz':vs.length<=sizeLine:=by rw[hx.len];exact CM hz
  exact ⟨hz',fun p hp=>q α1 p vs H1 rs1 l1 e1 hp hx⟩
 ·cases e
theorem EN {es:List Expr} {ms:MA} {k} (h:DA X es ms):DE X (.Tuple es k pos) (BA ms):=fun f hf=>PE.imp (Dw (h f hf)) fun σ H Q hh_=>by
 obtain ⟨α,s,r,rs,lo,e,q⟩:=hh_
 obtain ⟨r1,h1,e⟩:=bind_some e
 obtain ⟨xs,h2,e⟩:=bind_some e
 split at e
 ·rename_i hz
  cases e
  refine ⟨α,s,r1,rs,lo,h1,fun α1 vs H1 rs1 l1 e1 hvs=>?_⟩
  have hx:=Hx h2 hvs
  exact ⟨by rw[hx.len];exact CM hz,fun p hp=>q α1 _ _ (rs1.new hp) l1 (e1.trans (.new rs1 hp)) (IW rs1 hp hx)⟩
 ·cases e
def OpD (X:Cx) (g:Gm->SV->SV->Option D) (r:R2):Prop:=∀ (f:Fr) (α:Nat->Addr) (s:DS) (σ:St) (H:Hp) (x y:SV) (u v:V) (z:D) (Q:VK),f.K=X.K->RS f α s σ H->RepV f α s.Γ H x u->RepV f α s.Γ H y v->g s.Γ x y=some z ->
 (∀ w H',RS f α s σ H'->Ext f α α s.Γ s.Γ H H'->Rep (wd f α s.Γ H') z w->Q w H')->r u v H Q
def OpF (X:Cx) (g:Gm->SV->SV->Option (List D)) (r:R2):Prop:=∀ (f:Fr) (α:Nat->Addr) (s:DS) (σ:St) (H:Hp) (x y:SV) (u v:V) (z:List D) (Q:VK),f.K=X.K->RS f α s σ H->RepV f α s.Γ H x u->RepV f α s.Γ H y v->g s.Γ x y=some z ->
 (∀ a vs,H a=none->Reps (wd f α s.Γ H) z vs->Q (.ref a) (upd H a (.lst vs)))->r u v H Q
@[simp] def mOp (g:Gm->SV->SV->Option D) (ma mb:ME):ME:=fun s=>(ma s).bind fun x=>(mb x.2).bind fun y=>(g y.2.Γ x.1 y.1).map fun z=>(.v z,y.2)
@[simp] def BI (g:Gm->SV->SV->Option (List D)) (ma mb:ME):MF:=fun s=>(ma s).bind fun x=>(mb x.2).bind fun y=>(g y.2.Γ x.1 y.1).map fun z=>(z,y.2)
variable {g:Gm->SV->SV->Option D} {gF:Gm->SV->SV->Option (List D)} {r:R2} {ma mb mc:ME}
theorem FE {f:Fr} {σ:St} {H:Hp} {Q:VK} (hf:f.K=X.K) (hg:OpD X g r) (h:tD f (mOp g ma mb) σ H Q):tOp r (tD f ma) (tD f mb) σ H Q:=by
 obtain ⟨α,s,r',rs,lo,e,q⟩:=h
 obtain ⟨x,h1,e⟩:=bind_some e
 obtain ⟨y,h2,e⟩:=bind_some e
 obtain ⟨z,h3,rfl⟩:=AZ e
 refine ⟨α,s,x,rs,lo,h1,fun α1 u H1 rs1 l1 e1 hu=>⟨α1,x.2,y,rs1,by rw[l1];exact Nat.le_trans lo e1.m,h2,fun α2 v H2 rs2 l2 e2 hv=>?_⟩⟩
 exact hg f α2 y.2 σ H2 x.1 y.1 u v z Q hf rs2 (hu.ext e2) hv h3 fun w H3 rs3 e3 hw=>q α2 w H3 rs3 (l2.trans l1) ((e1.trans e2).trans e3) hw
theorem QN {f:Fr} {σ:St} {H:Hp} {Q:VK} (hf:f.K=X.K) (hg:OpF X gF r) (h:tDF f (BI gF ma mb) σ H Q):tOp r (tD f ma) (tD f mb) σ H Q:=by
 obtain ⟨α,s,r',rs,lo,e,q⟩:=h
 obtain ⟨x,h1,e⟩:=bind_some e
 obtain ⟨y,h2,e⟩:=bind_some e
 obtain ⟨z,h3,rfl⟩:=AZ e
 refine ⟨α,s,x,rs,lo,h1,fun α1 u H1 rs1 l1 e1 hu=>⟨α1,x.2,y,rs1,by rw[l1];exact Nat.le_trans lo e1.m,h2,fun α2 v H2 rs2 l2 e2 hv=>?_⟩⟩
 exact hg f α2 y.2 σ H2 x.1 y.1 u v z Q hf rs2 (hu.ext e2) hv h3 fun a vs ha hx=>q α2 a vs H2 rs2 (l2.trans l1) (e1.trans e2) ha hx
theorem Dr {op:Operator} (ho:OpR X (binaryOp op) r) (hg:OpD X g r) (ha:DE X a ma) (hb:DE X b mb):DE X (.BinOp a op b pos) (mOp g ma mb):=fun f hf=>PE.imp (Hs ho (ha f hf) (hb f hf)) fun σ H Q h=>FE hf hg h
theorem Lc {op:Operator} (ho:OpR X (binaryOp op) r) (hg:OpF X gF r) (ha:DE X a ma) (hb:DE X b mb):DF X (.BinOp a op b pos) (BI gF ma mb):=fun f hf=>PE.imp (Hs ho (ha f hf) (hb f hf)) fun σ H Q h=>QN hf hg h
theorem QS (ho:IxR X r) (hg:OpD X g r) (ha:DE X a ma) (hb:DE X b mb) (hs:Hn b):DE X (.Subscript a b pos) (mOp g ma mb):=fun f hf=>PE.imp (Q8 ho (ha f hf) (hb f hf) hs) fun σ H Q h=>FE hf hg h
theorem Il {op:CmpOp} (ho:OpR X (compareOp op) r) (hg:OpD X g r) (ha:DE X a ma) (hb:DE X b mb) (hm:behindInMarks op b=false):DE X (.Compare a [op] [b] pos) (mOp g ma mb):=fun f hf=>PE.imp (RC ho (ha f hf) (hb f hf) hm) fun σ H Q h=>FE hf hg h
@[simp] def Ii:SV->Option Bool
 | .v (.bl b)=>some b
 | _=>none
@[simp] def Aw (m:ME):MT:=fun s=>(m s).bind fun x=>(Ii x.1).map fun b=>(b,x.2)
theorem Ol {f:Fr} {α:Nat->Addr} {Γ:Gm} {H:Hp} {d:SV} {b:Bool} {v:V} (h:Ii d=some b) (r:RepV f α Γ H d v):v=.bl b:=by
 unfold Ii at h
 split at h
 ·cases h
  have r:Rep (wd f α Γ H) (.bl b) v:=r
  unfold Rep at r
  exact r
 ·cases h
theorem FX {op:CmpOp} (ho:OpR X (compareOp op) r) (hg:OpD X g r) (ha:DE X a ma) (hb:DE X b mb) (hm:behindInMarks op b=false):DT X (.Compare a [op] [b] pos) (Aw (mOp g ma mb)):=fun f hf=>PT.imp (Lv ho (ha f hf) (hb f hf) hm) fun σ H Q hh_=>by
 obtain ⟨α,s,r',rs,lo,e,q⟩:=hh_
 obtain ⟨x,h1,e⟩:=bind_some e
 obtain ⟨k,h2,rfl⟩:=AZ e
 exact FE hf hg ⟨α,s,x,rs,lo,h1,fun α' v H' rs' l' ex hv=>⟨k,Ol h2 hv,q α' H' rs' l' ex⟩⟩
@[simp] def elems (Γ:Gm):SV->Option (List D)
 | .v (.lst xs)=>some xs
 | .b n=>(Γ[n]?).join
 | _=>none
theorem BC {f:Fr} {α:Nat->Addr} {s:DS} {σ:St} {H:Hp} {d:SV} {xs:List D} {v:V} (rs:RS f α s σ H) (h:elems s.Γ d=some xs) (r:RepV f α s.Γ H d v):∃ a vs,v=.ref a/\H a=some (.lst vs)/\Reps (wd f α s.Γ H) xs vs:=by
 unfold elems at h
 split at h
 ·rename_i ys
  cases h
  have r:Rep (wd f α s.Γ H) (.lst xs) v:=r
  unfold Rep at r
  obtain ⟨a,vs,e,_,h1,h2⟩:=r
  exact ⟨a,vs,e,h1,h2⟩
 ·rename_i n
  have h:s.Γ[n]?=some (some xs):=by
   cases hg:s.Γ[n]? with
   | none=>rw[hg] at h;cases h
   | some o=>rw[hg] at h;exact congrArg some h
  obtain ⟨vs,h1,h2⟩:=rs.box n xs h
  exact ⟨α n,vs,r.2,h1,h2⟩
 ·cases h
@[simp] def IL (Γ:Gm):SV->Option Bool
 | .v .non=>some false
 | .v (.bl b)=>some b
 | .v (.int i)=>some (i != 0)
 | .v (.tup xs)=>some (!xs.isEmpty)
 | d=>(elems Γ d).map fun xs=>!xs.isEmpty
theorem isE {W:Wd} {xs:List D} {vs:List V} (h:Reps W xs vs):(!xs.isEmpty)=!vs.isEmpty:=by
 cases xs with
 | nil=>rw[h.nil_inv];rfl
 | cons d ds=>obtain ⟨v,r,rfl,_⟩:=h.cons_inv;rfl
theorem Sa {f:Fr} {α:Nat->Addr} {s:DS} {σ:St} {H:Hp} {d:SV} {b:Bool} {v:V} (rs:RS f α s σ H) (h:IL s.Γ d=some b) (r:RepV f α s.Γ H d v):IV f.K v H b:=by
 unfold IL at h
 split at h
 ·cases h
  have r:Rep (wd f α s.Γ H) .non v:=r
  unfold Rep at r
  rw[r];rfl
 ·cases h
  have r:Rep (wd f α s.Γ H) (.bl b) v:=r
  unfold Rep at r
  rw[r];rfl
 ·rename_i i
  cases h
  have r:Rep (wd f α s.Γ H) (.int i) v:=r
  unfold Rep at r
  rw[r];rfl
 ·rename_i xs
  cases h
  have r:Rep (wd f α s.Γ H) (.tup xs) v:=r
  unfold Rep at r
  obtain ⟨a,vs,e,_,h1,h2⟩:=r
  rw[e]
  exact .inr (.inl ⟨vs,SqT.of h1,isE h2⟩)
 ·obtain ⟨xs,h1,rfl⟩:=AZ h
  obtain ⟨a,vs,e,h2,h3⟩:=BC rs h1 r
  rw[e]
  exact .inl ⟨vs,SqL.of h2,isE h3⟩
@[simp] def EL (m:ME):MT:=fun s=>(m s).bind fun x=>(IL x.2.Γ x.1).map fun b=>(b,x.2)
theorem Jb (h:DE X e ma) (he:∀ whole,isTrue e X.env whole=(do let v <-whole;standAt e.pos;holding [v] (truthy v)):=by intro _;rfl):DT X e (EL ma):=fun f hf=>PT.imp (RZ (h f hf) he) fun σ H Q hh_=>by
 obtain ⟨α,s,r',rs,lo,e,q⟩:=hh_
 obtain ⟨x,h1,e⟩:=bind_some e
 obtain ⟨k,h2,rfl⟩:=AZ e
 exact ⟨α,s,x,rs,lo,h1,fun α' v H' rs' l' ex hv=>⟨k,by rw[<-hf];exact Sa rs' h2 hv,q α' H' rs' l' ex⟩⟩
@[simp] def EW (m:MT):MT:=fun s=>(m s).map fun x=>(!x.1,x.2)
@[simp] def EF (m n:MT):MT:=fun s=>(m s).bind fun x=>if x.1=true then n x.2 else some (false,x.2)
@[simp] def mOr (m n:MT):MT:=fun s=>(m s).bind fun x=>if x.1=true then some (true,x.2) else n x.2
variable {ta tb:MT}
theorem K1 (h:DT X e ta):DT X (.UnaryOp .Not e pos) (EW ta):=fun f hf=>PT.imp (MN (h f hf)) fun σ H Q hh_=>by
 obtain ⟨α,s,r',rs,lo,e,q⟩:=hh_
 obtain ⟨x,h1,rfl⟩:=AZ e
 exact ⟨α,s,x,rs,lo,h1,fun α' H' rs' l' ex=>q α' H' rs' l' ex⟩
theorem SQ (h:DT X a ta):DW X (.BoolOp .And [a] pos) ta:=fun f hf=>OU (h f hf)
theorem Ha (h:DT X a ta):DW X (.BoolOp .Or [a] pos) ta:=fun f hf=>Jl (h f hf)
theorem Qi {rest:List Expr} (h:DT X a ta) (h2:DW X (.BoolOp .And (b::rest) pos) tb):DW X (.BoolOp .And (a::b::rest) pos) (EF ta tb):=fun f hf=>PW.imp (QW (h f hf) (h2 f hf)) fun σ H Q hh_=>by
 obtain ⟨α,s,r',rs,lo,e,q⟩:=hh_
 obtain ⟨x,h1,e⟩:=bind_some e
 refine ⟨α,s,x,rs,lo,h1,fun α' H' rs' l' ex=>?_⟩
 split at e
 ·rename_i c
  rw[if_pos c]
  exact ⟨α',x.2,r',rs',by rw[l'];exact Nat.le_trans lo ex.m,e,fun α2 H2 rs2 l2 e2=>q α2 H2 rs2 (l2.trans l') (ex.trans e2)⟩
 ·rename_i c
  cases e
  rw[if_neg c]
  exact q α' H' rs' l' ex
theorem FQ {rest:List Expr} (h:DT X a ta) (h2:DW X (.BoolOp .Or (b::rest) pos) tb):DW X (.BoolOp .Or (a::b::rest) pos) (mOr ta tb):=fun f hf=>PW.imp (Hg (h f hf) (h2 f hf)) fun σ H Q hh_=>by
 obtain ⟨α,s,r',rs,lo,e,q⟩:=hh_
 obtain ⟨x,h1,e⟩:=bind_some e
 refine ⟨α,s,x,rs,lo,h1,fun α' H' rs' l' ex=>?_⟩
 split at e
 ·rename_i c
  cases e
  rw[if_pos c]
  exact q α' H' rs' l' ex
 ·rename_i c
  rw[if_neg c]
  exact ⟨α',x.2,r',rs',by rw[l'];exact Nat.le_trans lo ex.m,e,fun α2 H2 rs2 l2 e2=>q α2 H2 rs2 (l2.trans l') (ex.trans e2)⟩
theorem Fc (h:DW X e ta):DT X e ta:=fun f hf=>PW.pt (h f hf)
theorem QH {f:Fr} {α:Nat->Addr} {Γ:Gm} {H:Hp} {b:Bool}:RepV f α Γ H (.v (.bl b)) (.bl b):=by show Rep _ _ _;unfold Rep;rfl
def CaD (X:Cx) (g:Gm->List SV->Option D) (r:List V->Hp->VK->Prop):Prop:=∀ (f:Fr) (α:Nat->Addr) (s:DS) (σ:St) (H:Hp) (xs:List SV) (us:List V) (z:D) (Q:VK),f.K=X.K->RS f α s σ H->RepVs f α s.Γ H xs us->g s.Γ xs=some z ->
 (∀ w H',RS f α s σ H'->Ext f α α s.Γ s.Γ H H'->Rep (wd f α s.Γ H') z w->Q w H')->r us H Q
def CaF (X:Cx) (g:Gm->List SV->Option (List D)) (r:List V->Hp->VK->Prop):Prop:=∀ (f:Fr) (α:Nat->Addr) (s:DS) (σ:St) (H:Hp) (xs:List SV) (us:List V) (z:List D) (Q:VK),f.K=X.K->RS f α s σ H->RepVs f α s.Γ H xs us->g s.Γ xs=some z ->
 (∀ a vs,H a=none->Reps (wd f α s.Γ H) z vs->Q (.ref a) (upd H a (.lst vs)))->r us H Q
@[simp] def AQ (g:Gm->List SV->Option D) (ms:MA):ME:=fun s=>(ms s).bind fun x=>(g x.2.Γ x.1).map fun z=>(.v z,x.2)
@[simp] def BL (g:Gm->List SV->Option (List D)) (ms:MA):MF:=fun s=>(ms s).bind fun x=>(g x.2.Γ x.1).map fun z=>(z,x.2)
variable {gc:Gm->List SV->Option D} {gcF:Gm->List SV->Option (List D)} {rc:List V->Hp->VK->Prop} {ms:MA} {es:List Expr} {x:Str} {p:Pos} {id T:String}
theorem K0 {f:Fr} {σ:St} {H:Hp} {Q:VK} (hf:f.K=X.K) (hg:CaD X gc rc) (h:tD f (AQ gc ms) σ H Q):tCB rc (tDA f ms) σ H Q:=by
 obtain ⟨α,s,r',rs,lo,e,q⟩:=h
 obtain ⟨x,h1,e⟩:=bind_some e
 obtain ⟨z,h3,rfl⟩:=AZ e
 refine ⟨α,s,x,rs,lo,h1,fun α1 us H1 rs1 l1 e1 hu=>?_⟩
 exact hg f α1 x.2 σ H1 x.1 us z Q hf rs1 hu h3 fun w H3 rs3 e3 hw=>q α1 w H3 rs3 l1 (e1.trans e3) hw
theorem Kb {f:Fr} {σ:St} {H:Hp} {Q:VK} (hf:f.K=X.K) (hg:CaF X gcF rc) (h:tDF f (BL gcF ms) σ H Q):tCB rc (tDA f ms) σ H Q:=by
 obtain ⟨α,s,r',rs,lo,e,q⟩:=h
 obtain ⟨x,h1,e⟩:=bind_some e
 obtain ⟨z,h3,rfl⟩:=AZ e
 refine ⟨α,s,x,rs,lo,h1,fun α1 us H1 rs1 l1 e1 hu=>?_⟩
 exact hg f α1 x.2 σ H1 x.1 us z Q hf rs1 hu h3 fun a vs ha hx=>q α1 a vs H1 rs1 l1 e1 ha hx
theorem FK (hc:CallR X (.builtin id) rc) (hgc:CaD X gc rc) (hg:Gl X x) (hm:X.mg x=none) (hv:bootBuiltins x=some (.builtin id)) (ha:DA X (e::es) ms) (hn:x≠"__name__":=by decide) (hdb:(x == ("__debug__":Str))=false:=by decide)
  (he:starEach (e::es) X.env=(false,eval e X.env)::starEach es X.env:=by rfl) (hpl:(backTo pos (starEach es X.env)).any (·.1)=false:=by rfl):DE X (.Call (.Name x p) (e::es) [] pos) (AQ gc ms):=fun f hf=>
 PE.imp (Fi hc hg hm hv (ha f hf) hn hdb he hpl) fun σ H Q h=>K0 hf hgc h
theorem Nt (hc:CallR X (.builtin id) rc) (hgc:CaF X gcF rc) (hg:Gl X x) (hm:X.mg x=none) (hv:bootBuiltins x=some (.builtin id)) (ha:DA X (e::es) ms) (hn:x≠"__name__":=by decide) (hdb:(x == ("__debug__":Str))=false:=by decide)
  (he:starEach (e::es) X.env=(false,eval e X.env)::starEach es X.env:=by rfl) (hpl:(backTo pos (starEach es X.env)).any (·.1)=false:=by rfl):DF X (.Call (.Name x p) (e::es) [] pos) (BL gcF ms):=fun f hf=>
 PE.imp (Fi hc hg hm hv (ha f hf) hn hdb he hpl) fun σ H Q h=>Kb hf hgc h
theorem ON (hc:CallR X (.type T) rc) (hgc:CaD X gc rc) (hg:Gl X x) (hm:X.mg x=none) (hv:bootBuiltins x=some (.type T)) (ha:DA X (e::es) ms) (hn:x≠"__name__":=by decide) (hdb:(x == ("__debug__":Str))=false:=by decide)
  (he:starEach (e::es) X.env=(false,eval e X.env)::starEach es X.env:=by rfl) (hpl:(backTo pos (starEach es X.env)).any (·.1)=false:=by rfl):DE X (.Call (.Name x p) (e::es) [] pos) (AQ gc ms):=fun f hf=>
 PE.imp (Ia hc hg hm hv (ha f hf) hn hdb he hpl) fun σ H Q h=>K0 hf hgc h
theorem OZ (hc:CallR X (.type T) rc) (hgc:CaF X gcF rc) (hg:Gl X x) (hm:X.mg x=none) (hv:bootBuiltins x=some (.type T)) (ha:DA X (e::es) ms) (hn:x≠"__name__":=by decide) (hdb:(x == ("__debug__":Str))=false:=by decide)
  (he:starEach (e::es) X.env=(false,eval e X.env)::starEach es X.env:=by rfl) (hpl:(backTo pos (starEach es X.env)).any (·.1)=false:=by rfl):DF X (.Call (.Name x p) (e::es) [] pos) (BL gcF ms):=fun f hf=>
 PE.imp (Ia hc hg hm hv (ha f hf) hn hdb he hpl) fun σ H Q h=>Kb hf hgc h
end
section
variable {f:Fr} {α α':Nat->Addr} {s s':DS} {σ σ':St} {H H' Hh H1:Hp}
def inn (f:Fr) (α:Nat->Addr) (Γ:Gm) (E:Addr->Prop) (Hh:Hp) (hd:∀ a,f.F a\/BN Γ α a\/E a->Hh a≠none):Fr where
 K:=f.K
 H₀:=Hh
 F:=fun a=>f.F a\/BN Γ α a\/E a
 L:=BN Γ α
 sub:=fun a h=>.inr (.inl h)
 dom:=hd
structure Over (E:Addr->Prop) (H Hh:Hp):Prop where
 out:∀ a,¬E a->Hh a=H a
 new:∀ a,E a->H a=none
 there:∀ a,E a->Hh a≠none
theorem Over.sup {E:Addr->Prop} (o:Over E H Hh) {a:Addr} {u:HO} (h:H a=some u):Hh a=some u:=by
 rw[o.out a fun z=>by rw[o.new a z] at h;cases h]
 exact h
theorem BG (r:RS f α s σ H) {E:Addr->Prop} (o:Over E H Hh):∀ a,f.F a\/BN s.Γ α a\/E a->Hh a≠none:=fun a h=>by
 have up:H a≠none->Hh a≠none:=fun h=>by
  cases e:H a with
  | none=>exact absurd e h
  | some u=>rw[o.sup e];exact fun z=>nomatch z
 rcases h with h | h | h
 ·exact up (r.forb a h)
 ·exact up (r.live h)
 ·exact o.there a h
theorem EV (r:RS f α s σ H) {E:Addr->Prop} (o:Over E H Hh):Kw (wd f α s.Γ H) (wd (inn f α s.Γ E Hh (BG r o)) α s.Γ Hh):=⟨rfl,fun a u n e=>⟨o.sup e,fun z=>by
 rcases z with (z | z | z) | z
 ·exact n (.inl z)
 ·exact n (.inr z)
 ·have e':H a=some u:=e
  rw[o.new a z] at e'
  cases e'
 ·exact n (.inr z)⟩⟩
theorem PC (r:RS f α s σ H) {E:Addr->Prop} (o:Over E H Hh) {d:SV} {v:V} (h:RepV f α s.Γ H d v):RepV (inn f α s.Γ E Hh (BG r o)) α s.Γ Hh d v:=by
 cases d with
 | v d=>exact Rep.kw (EV r o) (show Rep _ d v from h)
 | b n=>exact h
 | p n d=>
  obtain ⟨h0,a,w,h1,h2,h3,h4⟩:=h
  obtain ⟨k1,k2⟩:=(EV r o).keep a _ h2 h3
  exact ⟨h0,a,w,h1,k2,k1,h4.kw (EV r o)⟩
theorem RS.enter (r:RS f α s σ H) {E:Addr->Prop} (o:Over E H Hh) {τ:List (Option SV)} {τ':St} (hl:τ.length=τ'.length) (hs:∀ (i:Nat) (d:SV),τ[i]?=some (some d)->∃ v,τ'[i]?=some (some v)/\RepV f α s.Γ H d v) :
  RS (inn f α s.Γ E Hh (BG r o)) α ⟨τ,s.Γ,s.Γ.length⟩ τ' Hh where
 len:=hl
 slot:=fun i d h=>let ⟨v,a,b⟩:=hs i d h;⟨v,a,PC r o b⟩
 box:=fun n xs h=>let ⟨vs,a,b⟩:=r.box n xs h;⟨vs,o.sup a,b.kw (EV r o)⟩
 own:=fun n xs h=>by
  rw[if_pos (show n<s.Γ.length from (List.getElem?_eq_some_iff.mp h).1)]
  exact ⟨n,xs,h,rfl⟩
 inj:=r.inj
 fr:=fun b u h _=>h
 forb:=BG r o
theorem RS.leave (r:RS f α s σ H) {E:Addr->Prop} (o:Over E H Hh) (q:RS (inn f α s.Γ E Hh (BG r o)) α' s' σ' H') (hlo:s'.lo=s.Γ.length) (ex:Ext (inn f α s.Γ E Hh (BG r o)) α α' s.Γ s'.Γ Hh H')
  (h1:∀ a,¬E a->H1 a=H' a) :
  RS f α' {s with Γ:=s'.Γ.take s.Γ.length} σ H1/\Ext f α α' s.Γ (s'.Γ.take s.Γ.length) H H1/\Kw (wd (inn f α s.Γ E Hh (BG r o)) α' s'.Γ H') (wd f α' (s'.Γ.take s.Γ.length) H1):=by
 have tk:∀ {n:Nat} {z:Option (List D)},(s'.Γ.take s.Γ.length)[n]?=some z->n<s.Γ.length/\s'.Γ[n]?=some z:=fun {n z} h=>by
  rw[List.getElem?_take] at h
  split at h
  ·rename_i c;exact ⟨c,h⟩
  ·cases h
 have lv:∀ {a},BN (s'.Γ.take s.Γ.length) α' a->BN s.Γ α a/\BN s'.Γ α' a:=fun {a} hh_=>by
  obtain ⟨n,xs,e1,e2⟩:=hh_
  obtain ⟨c,e⟩:=tk e1
  obtain ⟨ys,e3⟩:=ex.lv n xs c e
  exact ⟨⟨n,ys,e3,by rw[<-ex.al n c];exact e2⟩,n,xs,e,e2⟩
 have kept:∀ b u,H b=some u->¬BN s.Γ α b->H1 b=some u:=fun b u e n=>by
  have ne:¬E b:=fun z=>by rw[o.new b z] at e;cases e
  rw[h1 b ne]
  exact q.fr b u (o.sup e) n
 have kw1:Kw (wd f α s.Γ H) (wd f α' (s'.Γ.take s.Γ.length) H1):=⟨rfl,fun a u n e=>⟨kept a u e fun z=>n (.inr z),fun z=>by
  rcases z with z | z
  ·exact n (.inl z)
  ·exact n (.inr (lv z).1)⟩⟩
 have kw2:Kw (wd (inn f α s.Γ E Hh (BG r o)) α' s'.Γ H') (wd f α' (s'.Γ.take s.Γ.length) H1):=⟨rfl,fun a u n e=>⟨by
  show H1 a=some u
  rw[h1 a fun z=>n (.inl (.inr (.inr z)))]
  exact e,fun z=>by
  rcases z with z | z
  ·exact n (.inl (.inl z))
  ·exact n (.inr (lv z).2)⟩⟩
 have ex1:Ext f α α' s.Γ (s'.Γ.take s.Γ.length) H H1:=⟨kw1,by rw[List.length_take];have:=ex.m;lia,ex.al,fun n xs c e=>ex.lv n xs c (tk e).2⟩
 refine ⟨⟨r.len,fun i d h=>let ⟨v,a,b⟩:=r.slot i d h;⟨v,a,b.ext ex1⟩,fun n xs h=>?_,fun n xs h=>?_,fun n m xs ys hn hm e=>?_,fun b u h n=>?_,fun a h=>?_⟩,ex1,kw2⟩
 ·obtain ⟨c,e⟩:=tk h
  obtain ⟨vs,a,b⟩:=q.box n xs e
  refine ⟨vs,?_,b.kw kw2⟩
  have ne:¬E (α' n):=fun z=>by
   obtain ⟨ys,e3⟩:=ex.lv n xs c e
   obtain ⟨us,g,_⟩:=r.box n ys e3
   have:=o.new _ z
   rw[ex.al n c,g] at this
   cases this
  rw[h1 _ ne]
  exact a
 ·obtain ⟨c,e⟩:=tk h
  obtain ⟨ys,e3⟩:=ex.lv n xs c e
  rw[ex.al n c]
  exact r.own n ys e3
 ·exact q.inj n m xs ys (tk hn).2 (tk hm).2 e
 ·refine kept b u (r.fr b u h n) fun hh_=>?_
  obtain ⟨m,ys,e1,e2⟩:=hh_
  have ow:=r.own m ys e1
  rw[e2] at ow
  split at ow
  ·exact n ow
  ·rw[h] at ow;cases ow
 ·have hb:=r.forb a h
  have ne:¬E a:=fun z=>hb (o.new a z)
  rw[h1 a ne]
  exact q.forb a (.inl h)
end
section
variable {f:Fr} {α α':Nat->Addr} {s s':DS} {σ σ':St} {H H':Hp} {X:Cx} {pos:Pos}
def del (H:Hp) (a:Addr):Hp:=fun b=>if b=a then none else H b
theorem Gu {H:Hp} {a:Addr}:del H a a=none:=by unfold del;rw[if_pos rfl]
theorem Dl {H:Hp} {a b:Addr} (h:b≠a):del H a b=H b:=by unfold del;rw[if_neg h]
theorem Jd {H:Hp} {a:Addr} {o:HO} (h:H a=some o):upd (del H a) a o=H:=by
 funext b
 by_cases e:b=a
 ·subst e;rw[AS,h]
 ·rw[AJ e,Dl e]
theorem RS.cut (r:RS f α s σ H) {n:Nat} {xs:List D} (hn:s.Γ[n]?=some (some xs)) (hlo:s.lo<=n) {τ:List (Option SV)} (hl:τ.length=s.σ.length) (hτ:∀ (i:Nat) (d:SV),τ[i]?=some (some d)->s.σ[i]?=some (some d)) :
  RS f α {s with σ:=τ,Γ:=s.Γ.set n none} σ (del H (α n))/\Ext f α α s.Γ (s.Γ.set n none) H (del H (α n)):=by
 have lv:∀ {a},BN (s.Γ.set n none) α a->BN s.Γ α a:=fun {a} hh_=>by
  obtain ⟨m,zs,e1,e2⟩:=hh_
  rcases D0 hn e1 with ⟨_,z⟩ | ⟨_,hm⟩
  ·cases z
  ·exact ⟨m,zs,hm,e2⟩
 have me:BN s.Γ α (α n):=⟨n,xs,hn,rfl⟩
 have e:Ext f α α s.Γ (s.Γ.set n none) H (del H (α n)):=⟨⟨rfl,fun a u h e=>⟨by show del H (α n) a=some u;rw[Dl fun (z:a=α n)=>h (.inr (by rw[z];exact me))];exact e,fun z=>by
  rcases z with z | z
  ·exact h (.inl z)
  ·exact h (.inr (lv z))⟩⟩,by rw[List.length_set];exact Nat.le_refl _,fun _ _=>rfl,fun m zs _ e1=>by
  rcases D0 hn e1 with ⟨_,z⟩ | ⟨_,hm⟩
  ·cases z
  ·exact ⟨zs,hm⟩⟩
 have old:∀ {m zs},(s.Γ.set n none)[m]?=some (some zs)->m≠n/\s.Γ[m]?=some (some zs):=fun {m zs} hm=>by
  rcases D0 hn hm with ⟨_,z⟩ | h
  ·cases z
  ·exact h
 have ow0:f.H₀ (α n)=none:=by
  have ow:=r.own n xs hn
  rw[if_neg (Nat.not_lt.mpr hlo)] at ow
  exact ow
 refine ⟨⟨hl.trans r.len,fun i d h=>let ⟨v,a,b⟩:=r.slot i d (hτ i d h);⟨v,a,b.ext e⟩,fun m zs hm=>?_,fun m zs hm=>r.own m zs (old hm).2,fun m k zs us hm hk q=>r.inj m k _ _ (old hm).2 (old hk).2 q,fun b o h1 h2=>?_,fun a h1=>?_⟩,e⟩
 ·obtain ⟨us,a,b⟩:=r.box m zs (old hm).2
  exact ⟨us,by rw[Dl fun z=>(old hm).1 (r.inj m n _ _ (old hm).2 hn z)];exact a,b.kw e.kw⟩
 ·rw[Dl fun z=>by rw[z,ow0] at h1;cases h1]
  exact r.fr b o h1 h2
 ·rw[Dl fun z=>f.dom a h1 (by rw[z];exact ow0)]
  exact r.forb a h1
theorem FO {i:Nat} {x:Str} (h:PE X (.Name x pos) (GF i)):DF X (.Name x pos) (BY i):=fun f hf=>PE.imp h fun σ H Q hh_=>by
 obtain ⟨α,s,r,rs,lo,e,q⟩:=hh_
 unfold BY at e
 split at e
 ·rename_i n hd
  split at e
  ·rename_i xs hn
   split at e
   ·rename_i hlo
    cases e
    obtain ⟨v,h1,h2⟩:=rs.slot i _ hd
    obtain ⟨vs,h3,h4⟩:=rs.box n xs hn
    obtain ⟨c1,c2⟩:=rs.cut hn hlo (τ:=s.σ.set i none) (List.length_set ..) fun j d hj=>by
     rw[List.getElem?_set] at hj
     by_cases z:i=j
     ·rw[if_pos z] at hj
      split at hj<;>cases hj
     ·rw[if_neg z] at hj;exact hj
    refine ⟨v,h1,?_⟩
    have hq:=q α (α n) vs (del H (α n)) c1 rfl c2 Gu (h4.kw c2.kw)
    rw[Jd h3] at hq
    rw[h2.2]
    exact hq
   ·cases e
  ·cases e
 ·cases e
end
inductive Out where
 | nx (s:DS) | rt (d:D) (s:DS) | rf (xs:List D) (s:DS) | rp (xs:List D) (d:D) (s:DS) | bk (s:DS) | ct (s:DS)
abbrev MS:=DS->Option Out
def Post (f:Fr) (α:Nat->Addr) (s:DS) (H:Hp) (E:Ends):Out->Prop
 | .nx s'=>∀ α' σ' H',RS f α' s' σ' H'->s'.lo=s.lo->Ext f α α' s.Γ s'.Γ H H'->E.nx σ' H'
 | .rt d s'=>∀ α' σ' v H',RS f α' s' σ' H'->s'.lo=s.lo->Ext f α α' s.Γ s'.Γ H H'->Rep (wd f α' s'.Γ H') d v->E.rt v H'
 | .rf xs s'=>∀ α' σ' a vs H',RS f α' s' σ' H'->s'.lo=s.lo->Ext f α α' s.Γ s'.Γ H H'->H' a=none->Reps (wd f α' s'.Γ H') xs vs->E.rt (.ref a) (upd H' a (.lst vs))
 | .rp xs d s'=>∀ α' σ' a t vs w H',RS f α' s' σ' H'->s'.lo=s.lo->Ext f α α' s.Γ s'.Γ H H'->H' a=none->Reps (wd f α' s'.Γ H') xs vs->Rep (wd f α' s'.Γ H') d w->H' t=none->t≠a->E.rt (.ref t) (upd (upd H' a (.lst vs)) t (.tup [.ref a,w]))
 | .bk s'=>∀ α' σ' H',RS f α' s' σ' H'->s'.lo=s.lo->Ext f α α' s.Γ s'.Γ H H'->E.bk σ' H'
 | .ct s'=>∀ α' σ' H',RS f α' s' σ' H'->s'.lo=s.lo->Ext f α α' s.Γ s'.Γ H H'->E.ct σ' H'
def tDS (f:Fr) (m:MS):TS:=fun E σ H=>∃ α s o,RS f α s σ H/\s.lo<=s.Γ.length/\m s=some o/\Post f α s H E o
def DSt (X:Cx) (st:Stmt) (m:MS):Prop:=∀ f:Fr,f.K=X.K->PS X st (tDS f m)
def DSs (X:Cx) (sts:List Stmt) (m:MS):Prop:=∀ f:Fr,f.K=X.K->PSs X sts (tDS f m)
section
variable {X:Cx} {st:Stmt} {sts:List Stmt} {f:Fr} {α α':Nat->Addr} {s s':DS} {σ:St} {H H':Hp} {E:Ends} {pos:Pos} {e:Expr}
theorem PS.imp {t t':TS} (h:PS X st t) (k:∀ E σ H,t' E σ H->t E σ H):PS X st t':=fun pins s σ H D I q=>h pins s σ H D I (k _ _ _ q)
theorem PSs.imp {t t':TS} (h:PSs X sts t) (k:∀ E σ H,t' E σ H->t E σ H):PSs X sts t':=fun pins s σ H D I q=>h pins s σ H D I (k _ _ _ q)
theorem Post.ext {o:Out} (h:Post f α s H E o) (hl:s'.lo=s.lo) (e:Ext f α α' s.Γ s'.Γ H H'):Post f α' s' H' E o:=by
 cases o with
 | nx t=>exact fun α2 σ2 H2 r l x=>h α2 σ2 H2 r (l.trans hl) (e.trans x)
 | rt d t=>exact fun α2 σ2 v H2 r l x w=>h α2 σ2 v H2 r (l.trans hl) (e.trans x) w
 | rf xs t=>exact fun α2 σ2 a vs H2 r l x w y=>h α2 σ2 a vs H2 r (l.trans hl) (e.trans x) w y
 | rp xs d t=>exact fun α2 σ2 a t vs w H2 r l x=>h α2 σ2 a t vs w H2 r (l.trans hl) (e.trans x)
 | bk t=>exact fun α2 σ2 H2 r l x=>h α2 σ2 H2 r (l.trans hl) (e.trans x)
 | ct t=>exact fun α2 σ2 H2 r l x=>h α2 σ2 H2 r (l.trans hl) (e.trans x)
theorem lo_le {f:Fr} (lo:s.lo<=s.Γ.length) (hl:s'.lo=s.lo) (e:Ext f α α' s.Γ s'.Γ H H'):s'.lo<=s'.Γ.length:=by rw[hl];exact Nat.le_trans lo e.m
@[simp] def Dg:MS:=fun s=>some (.nx s)
@[simp] def AL (m n:MS):MS:=fun s=>(m s).bind fun o=>match o with
 | .nx s'=>n s'
 | .rt d s'=>some (.rt d s')
 | .rf d s'=>some (.rf d s')
 | .rp xs d s'=>some (.rp xs d s')
 | .bk s'=>some (.bk s')
 | .ct s'=>some (.ct s')
variable {m n:MS}
theorem FN:DSs X [] Dg:=fun f hf=>PSs.imp Ds fun E σ H hh_=>by
 obtain ⟨α,s,o,rs,lo,e,q⟩:=hh_
 cases e
 exact q α σ H rs rfl .refl
theorem AU (h1:DSt X st m) (h2:DSs X sts n):DSs X (st::sts) (AL m n):=fun f hf=>PSs.imp (BW (h1 f hf) (h2 f hf)) fun E σ H hh_=>by
 obtain ⟨α,s,o,rs,lo,e,q⟩:=hh_
 obtain ⟨o1,e1,e⟩:=bind_some e
 refine ⟨α,s,o1,rs,lo,e1,?_⟩
 cases o1 with
 | nx s1=>exact fun α' σ' H' rs' l' x=>⟨α',s1,o,rs',lo_le lo l' x,e,q.ext l' x⟩
 | rt d s1=>cases e;exact q
 | rf d s1=>cases e;exact q
 | rp xs d s1=>cases e;exact q
 | bk s1=>cases e;exact q
 | ct s1=>cases e;exact q
theorem Az (h1:DSt X st m):DSs X [st] m:=fun f hf=>Bb (h1 f hf)
@[simp] def Bj (m:ME):MS:=fun s=>(m s).map fun r=>.nx r.2
theorem DK {m:ME} (he:DE X e m) (hs:swapsWith e none pos.line X.env=pure false:=by rfl):DSt X (.Expr e pos) (Bj m):=fun f hf=>PS.imp (IT (he f hf) hs) fun E σ H hh_=>by
 obtain ⟨α,s,o,rs,lo,e,q⟩:=hh_
 obtain ⟨r,h1,rfl⟩:=AZ e
 exact ⟨α,s,r,rs,lo,h1,fun α' v H' rs' l' x _=>q α' σ H' rs' l' x⟩
@[simp] def DH (m:ME):MS:=fun s=>(m s).bind fun r=>match r.1 with
 | .v d=>some (.rt d r.2)
 | _=>none
theorem GB {m:ME} (he:DE X e m):DSt X (.Return (some e) pos) (DH m):=fun f hf=>PS.imp (Cn (he f hf)) fun E σ H hh_=>by
 obtain ⟨α,s,o,rs,lo,e,q⟩:=hh_
 obtain ⟨⟨x,r⟩,h1,e⟩:=bind_some e
 cases x with
 | b n=>cases e
 | p n d=>cases e
 | v d=>
  cases e
  exact ⟨α,s,_,rs,lo,h1,fun α' v H' rs' l' x hv=>q α' σ v H' rs' l' x hv⟩
@[simp] def A3 (m:MF):MS:=fun s=>(m s).map fun r=>.rf r.1 r.2
theorem Cb {m:MF} (he:DF X e m):DSt X (.Return (some e) pos) (A3 m):=fun f hf=>PS.imp (Cn (he f hf)) fun E σ H hh_=>by
 obtain ⟨α,s,o,rs,lo,e,q⟩:=hh_
 obtain ⟨r,h1,rfl⟩:=AZ e
 exact ⟨α,s,r,rs,lo,h1,fun α' a vs H' rs' l' x ha hx=>q α' σ a vs H' rs' l' x ha hx⟩
@[simp] def mIf (c:MT) (m n:MS):MS:=fun s=>(c s).bind fun b=>if b.1=true then m b.2 else n b.2
theorem GC {c:Expr} {mc:MT} {a b:List Stmt} (hc:DT X c mc) (ha:DSs X a m) (hb:DSs X b n):DSt X (.If c a b pos) (mIf mc m n):=fun f hf=>PS.imp (Dz (hc f hf) (ha f hf) (hb f hf)) fun E σ H hh_=>by
 obtain ⟨α,s,o,rs,lo,e,q⟩:=hh_
 obtain ⟨k,h1,e⟩:=bind_some e
 refine ⟨α,s,k,rs,lo,h1,fun α' H' rs' l' x=>?_⟩
 split at e
 ·rename_i c
  rw[if_pos c]
  exact ⟨α',k.2,o,rs',lo_le lo l' x,e,q.ext l' x⟩
 ·rename_i c
  rw[if_neg c]
  exact ⟨α',k.2,o,rs',lo_le lo l' x,e,q.ext l' x⟩
@[simp] def AX (i:Nat) (m:ME):MS:=fun s=>(m s).map fun r=>.nx {r.2 with σ:=r.2.σ.set i (some r.1)}
theorem A5 {i:Nat} {tg:Expr} {m:ME} (h:∀ te,PE X e te->PS X (.Assign [tg] e pos) (Fz te (Dh i))) (he:DE X e m):DSt X (.Assign [tg] e pos) (AX i m):=fun f hf=>PS.imp (h _ (he f hf)) fun E σ H hh_=>by
 obtain ⟨α,s,o,rs,lo,e,q⟩:=hh_
 obtain ⟨r,h1,rfl⟩:=AZ e
 exact ⟨α,s,r,rs,lo,h1,fun α' v H' rs' l' x hv=>q α' _ H' (rs'.set hv) l' x⟩
@[simp] def BF (i:Nat) (m:MF):MS:=fun s=>(m s).map fun r=>.nx {r.2 with σ:=r.2.σ.set i (some (.b r.2.Γ.length)),Γ:=r.2.Γ++[some r.1]}
theorem Cg {i:Nat} {tg:Expr} {m:MF} (h:∀ te,PE X e te->PS X (.Assign [tg] e pos) (Fz te (Dh i))) (he:DF X e m):DSt X (.Assign [tg] e pos) (BF i m):=fun f hf=>PS.imp (h _ (he f hf)) fun E σ H hh_=>by
 obtain ⟨α,s,o,rs,lo,e,q⟩:=hh_
 obtain ⟨r,h1,rfl⟩:=AZ e
 refine ⟨α,s,r,rs,lo,h1,fun α' a vs H' rs' l' x ha hx=>?_⟩
 have x2:=Ext.add (xs:=r.1) (o:=.lst vs) rs' ha
 refine q (Bo α' r.2.Γ.length a) _ _ (RS.set (rs'.add (lo_le lo l' x) ha hx) (d:=.b r.2.Γ.length) ⟨by show r.2.Γ.length<(r.2.Γ++[some r.1]).length;rw[List.length_append];simp,by unfold Bo;rw[if_pos rfl]⟩) l' (x.trans x2)
@[simp] def Hy (σ:List (Option SV)):List Nat->List D->List (Option SV)
 | i::is,d::ds=>Hy (σ.set i (some (.v d))) is ds
 | _,_=>σ
abbrev MG:=D->DS->Option DS
def Ik:List Nat->TGs
 | []=>KB
 | i::is=>JJ (Dh i) (Ik is)
def tDG (f:Fr) (m:MG):TG:=fun v σ H Q=>∃ α s d s',RS f α s σ H/\s.lo<=s.Γ.length/\Rep (wd f α s.Γ H) d v/\m d s=some s'/\∀ σ',RS f α s' σ' H->s'.lo=s.lo->s'.Γ=s.Γ->Q σ' H
def DG (X:Cx) (tg:Expr) (m:MG):Prop:=∀ f:Fr,f.K=X.K->PG X tg (tDG f m)
theorem PG.imp {tg:Expr} {t t':TG} (h:PG X tg t) (k:∀ v σ H Q,t' v σ H Q->t v σ H Q):PG X tg t':=fun pins s σ H v u Q I r q=>h pins s σ H v u Q I r (k _ _ _ _ q)
@[simp] def Aj (i:Nat):MG:=fun d s=>some {s with σ:=s.σ.set i (some (.v d))}
theorem Bq {i:Nat} {tg:Expr} (h:PG X tg (Dh i)):DG X tg (Aj i):=fun f hf=>PG.imp h fun v σ H Q hh_=>by
 obtain ⟨α,s,d,s',rs,lo,hd,e,q⟩:=hh_
 cases e
 exact q _ (rs.set (d:=.v d) hd) rfl rfl
@[simp] def A0 (is:List Nat):MG:=fun d s=>match d with
 | .tup xs=>if xs.length=is.length then some {s with σ:=Hy s.σ is xs} else none
 | _=>none
theorem KY {H:Hp} {Q:St->Hp->Prop}:∀ {is:List Nat} {xs:List D} {vs:List V} {s:DS} {σ:St},RS f α s σ H->Reps (wd f α s.Γ H) xs vs->xs.length=is.length->(∀ σ',RS f α {s with σ:=Hy s.σ is xs} σ' H->Q σ' H)->Ik is vs σ H Q
 | [],xs,vs,s,σ,rs,hx,hl,q=>by
  have:xs=[]:=List.eq_nil_of_length_eq_zero hl
  subst this
  exact ⟨hx.nil_inv,q σ rs⟩
 | i::is,[],vs,s,σ,rs,hx,hl,q=>by cases hl
 | i::is,x::xs,vs,s,σ,rs,hx,hl,q=>by
  obtain ⟨v,r,rfl,h1,h2⟩:=hx.cons_inv
  exact ⟨v,r,rfl,KY (rs.set (i:=i) (d:=.v x) (v:=v) h1) h2 (Nat.succ.inj hl) q⟩
theorem Cc {is:List Nat} {tg:Expr} {n:Nat} (hn:is.length=n) (h:PG X tg (By X.K n (Ik is))):DG X tg (A0 is):=fun f hf=>PG.imp h fun v σ H Q hh_=>by
 obtain ⟨α,s,d,s',rs,lo,hd,e,q⟩:=hh_
 unfold A0 at e
 split at e
 ·rename_i xs
  split at e
  ·rename_i hl
   cases e
   unfold Rep at hd
   obtain ⟨a,vs,rfl,_,h1,h2⟩:=hd
   exact ⟨a,vs,rfl,SqT.of h1,by rw[h2.len,hl,hn],KY rs h2 hl fun σ' r=>q σ' r rfl rfl⟩
  ·cases e
 ·cases e
@[simp] def Ez (i:Nat) (g:Gm->SV->SV->Option D) (m:ME):MS:=fun s=>match s.σ[i]? with
 | some (some x)=>(m s).bind fun y=>(g y.2.Γ x y.1).map fun z=>.nx {y.2 with σ:=y.2.σ.set i (some (.v z))}
 | _=>none
theorem QP {i:Nat} {x:Str} {p:Pos} {op:Operator} {g:Gm->SV->SV->Option D} {r:TIp} {m:ME} (h:∀ te,PE X e te->PS X (.AugAssign (.Name x p) op e pos) (KO i te r)) (hg:OpD X g r) (he:DE X e m):DSt X (.AugAssign (.Name x p) op e pos) (Ez i g m):=fun f hf=>PS.imp (h _ (he f hf)) fun E σ H hh_=>by
 obtain ⟨α,s,o,rs,lo,e,q⟩:=hh_
 unfold Ez at e
 split at e
 ·rename_i d hd
  obtain ⟨y,h1,e⟩:=bind_some e
  obtain ⟨z,h2,rfl⟩:=AZ e
  obtain ⟨u,h3,h4⟩:=rs.slot i d hd
  refine ⟨u,h3,α,s,y,rs,lo,h1,fun α' v H' rs' l' x hv=>?_⟩
  exact hg f α' y.2 σ H' d y.1 u v z _ hf rs' (h4.ext x) hv h2 fun w H2 r2 e2 hw=>q α' _ H2 (r2.set (d:=.v z) hw) l' (x.trans e2)
 ·cases e
structure DIt (f:Fr) (J:It) (items:List D) (α0:Nat->Addr) (Γ0:Gm) (H0:Hp):Prop where
 go:∀ i α s σ H Hh,i<items.length->RS f α s σ H->Ext f α0 α Γ0 s.Γ H0 H->(∀ a o,H a=some o->Hh a=some o)->J.go i Hh
 yl:∀ i d x α s σ H Hh H',items[i]?=some d->RS f α s σ H->Ext f α0 α Γ0 s.Γ H0 H->(∀ a o,H a=some o->Hh a=some o)->J.yld i Hh x H' ->
  (H'=Hh/\Rep (wd f α s.Γ H) d x)\/∃ T o,Hh T=none/\H'=upd Hh T o/\Rep (wd f α s.Γ (upd H T o)) d x
 stop:∀ α s σ H Hh,RS f α s σ H->Ext f α0 α Γ0 s.Γ H0 H->(∀ a o,H a=some o->Hh a=some o)->J.stop items.length Hh
def tDI (f:Fr) (m:MF):TI:=fun σ H R=>∃ α s r,RS f α s σ H/\s.lo<=s.Γ.length/\m s=some r/\∀ J α' H',RS f α' r.2 σ H'->r.2.lo=s.lo->Ext f α α' s.Γ r.2.Γ H H'->DIt f J r.1 α' r.2.Γ H'->R J H'
def DI (X:Cx) (tg src:Expr) (m:MF):Prop:=∀ f:Fr,f.K=X.K->PI X tg src (tDI f m)
def CJ (g:MG) (b:MS):List D->DS->Option Out
 | [],s=>some (.nx s)
 | d::r,s=>(g d s).bind fun s1=>(b s1).bind fun o=>match o with
  | .nx s2=>CJ g b r s2
  | .ct s2=>CJ g b r s2
  | .bk s2=>some (.nx s2)
  | .rt d s2=>some (.rt d s2)
  | .rf d s2=>some (.rf d s2)
  | .rp xs d s2=>some (.rp xs d s2)
@[simp] def Bd (mi:MF) (g:MG) (b:MS):MS:=fun s=>(mi s).bind fun r=>CJ g b r.1 r.2
theorem CB {tg iter:Expr} {body:List Stmt} {mi:MF} {g:MG} {b:MS} (hp:PassesOwn (model X.prog X.w) X.A X.env X.xe) (hc:X.calm=true) (hi:DI X tg iter mi) (hg:DG X tg g) (hb:DSs X body b)
  (hs:∀ x,foldedSetIterable iter X.env x=pure x:=by intro _;rfl):DSt X (.For tg iter body [] pos) (Bd mi g b):=fun f hf=>PS.imp (EX hp hc (hi f hf) (hg f hf) (hb f hf) hs) fun E σ H hh_=>by
 obtain ⟨α,s,o,rs,lo,e,q⟩:=hh_
 obtain ⟨⟨items,s1⟩,h1,e⟩:=bind_some e
 refine ⟨α,s,_,rs,lo,h1,fun J α1 H1 rs1 l1 x1 it=>?_⟩
 refine FL items.length (fun i σ H=>∃ αi si,RS f αi si σ H/\si.lo=s1.lo/\Ext f α1 αi s1.Γ si.Γ H1 H/\CJ g b (items.drop i) si=some o) ⟨α1,s1,rs1,rfl,.refl,e⟩ ?_ ?_ ?_ ?_
 ·rintro i σ2 H2 hi ⟨αi,si,ri,li,xi,ei⟩
  exact it.go i αi si σ2 H2 H2 hi ri xi fun _ _ h=>h
 ·rintro σ2 H2 ⟨αi,si,ri,li,xi,ei⟩
  exact it.stop αi si σ2 H2 H2 ri xi fun _ _ h=>h
 ·rintro i x σ2 H2 H3 hi ⟨αi,si,ri,li,xi,ei⟩ y
  have hd:items[i]?=some items[i]:=List.getElem?_eq_getElem hi
  rw[List.drop_eq_getElem_cons hi] at ei
  obtain ⟨s2,g2,ei⟩:=bind_some ei
  obtain ⟨o2,b2,ei⟩:=bind_some ei
  have fin:∀ {H3},RS f αi si σ2 H3->Ext f αi αi si.Γ si.Γ H2 H3->Rep (wd f αi si.Γ H3) items[i] x->tDG f g x σ2 H3 fun σ4 H4=>tDS f b {E with nx:=fun σ H=>∃ αi si,RS f αi si σ H/\si.lo=s1.lo/\Ext f α1 αi s1.Γ si.Γ H1 H/\CJ g b (items.drop (i+1)) si=some o,ct:=fun σ H=>∃ αi si,RS f αi si σ H/\si.lo=s1.lo/\Ext f α1 αi s1.Γ si.Γ H1 H/\CJ g b (items.drop (i+1)) si=some o,bk:=E.nx} σ4 H4:=fun {H3} r3 x3 hr=>by
   refine ⟨αi,si,_,s2,r3,by rw[li];exact Nat.le_trans (lo_le lo l1 x1) xi.m,hr,g2,fun σ4 r4 l4 G4=>⟨αi,s2,o2,r4,by rw[l4,li,G4];exact Nat.le_trans (lo_le lo l1 x1) xi.m,b2,?_⟩⟩
   have x13:Ext f α1 αi s1.Γ s2.Γ H1 H3:=by rw[G4];exact xi.trans x3
   cases o2 with
   | nx s5=>exact fun α5 σ5 H5 r5 l5 x5=>⟨α5,s5,r5,l5.trans (l4.trans li),x13.trans x5,ei⟩
   | ct s5=>exact fun α5 σ5 H5 r5 l5 x5=>⟨α5,s5,r5,l5.trans (l4.trans li),x13.trans x5,ei⟩
   | bk s5=>cases ei;exact fun α5 σ5 H5 r5 l5 x5=>q α5 σ5 H5 r5 (l5.trans (l4.trans (li.trans l1))) (x1.trans (x13.trans x5))
   | rt d s5=>cases ei;exact fun α5 σ5 v H5 r5 l5 x5 w=>q α5 σ5 v H5 r5 (l5.trans (l4.trans (li.trans l1))) (x1.trans (x13.trans x5)) w
   | rf d s5=>cases ei;exact fun α5 σ5 a vs H5 r5 l5 x5 w y=>q α5 σ5 a vs H5 r5 (l5.trans (l4.trans (li.trans l1))) (x1.trans (x13.trans x5)) w y
   | rp xs d s5=>cases ei;exact fun α5 σ5 a t vs w H5 r5 l5 x5=>q α5 σ5 a t vs w H5 r5 (l5.trans (l4.trans (li.trans l1))) (x1.trans (x13.trans x5))
  rcases it.yl i _ x αi si σ2 H2 H2 H3 hd ri xi (fun _ _ h=>h) y with ⟨rfl,hr⟩ | ⟨T,u,hT,rfl,hr⟩
  ·exact fin ri .refl hr
  ·exact fin (ri.new hT) (.new ri hT) hr
 ·rintro σ2 H2 ⟨αi,si,ri,li,xi,ei⟩
  rw[List.drop_length] at ei
  cases ei
  exact q αi σ2 H2 ri (li.trans l1) (x1.trans xi)
end
def xD (K:PySem.W.Frag) (m:ME):TE:=fun σ H Q=>∃ f:Fr,f.K=K/\tD f m σ H Q
def xT (K:PySem.W.Frag) (m:MT):TT:=fun σ H Q=>∃ f:Fr,f.K=K/\tDT f m σ H Q
def xG (K:PySem.W.Frag) (m:MG):TG:=fun v σ H Q=>∃ f:Fr,f.K=K/\tDG f m v σ H Q
theorem DE.x {X:Cx} {e:Expr} {m:ME} (h:DE X e m):PE X e (xD X.K m):=fun pins s σ H Q I ⟨f,hf,q⟩=>h f hf pins s σ H Q I q
theorem DG.x {X:Cx} {e:Expr} {m:MG} (h:DG X e m):PG X e (xG X.K m):=fun pins s σ H v u Q I r ⟨f,hf,q⟩=>h f hf pins s σ H v u Q I r q
def DTs (X:Cx) (tests:List Expr) (m:MT):Prop:=∀ f:Fr,f.K=X.K->PTs X tests (tDT f m)
theorem DTs.x {X:Cx} {e:List Expr} {m:MT} (h:DTs X e m):PTs X e (xT X.K m):=fun pins s σ H Q I ⟨f,hf,q⟩=>h f hf pins s σ H Q I q
@[simp] def mTT:MT:=fun s=>some (true,s)
theorem B8 {X:Cx}:DTs X [] mTT:=fun f hf pins s σ H Q I hh_=>by
 obtain ⟨α,s',r,rs,lo,e,q⟩:=hh_
 cases e
 exact FH pins s σ H Q I (q α H rs rfl .refl)
def An (g:MG) (t:MT) (e:ME):List D->List (Option SV)->Gm->Option (List D×Gm)
 | [],_,Γ=>some ([],Γ)
 | d::r,τ,Γ=>(g d ⟨τ,Γ,Γ.length⟩).bind fun s1=>(t s1).bind fun b=>
  if b.1=true then (e b.2).bind fun x=>match x.1 with
   | .v y=>if x.2.Γ.length=Γ.length then (An g t e r x.2.σ x.2.Γ).map fun q=>(y::q.1,q.2) else none
   | _=>none
  else if b.2.Γ.length=Γ.length then An g t e r b.2.σ b.2.Γ else none
@[simp] def DY (nt:Nat) (ix:List Nat) (σ:List (Option SV)):List (Option SV):=List.replicate nt none++ix.map fun k=>(σ[k]?).join
@[simp] def A7 (mi:MF) (nt:Nat) (ix:List Nat) (g:MG) (t:MT) (e:ME):MF:=fun s=>(mi s).bind fun r=>
 if r.1.length<=big then (An g t e r.1 (DY nt ix r.2.σ) r.2.Γ).map fun q=>(q.1,{r.2 with Γ:=q.2}) else none
section
variable {f:Fr} {α α':Nat->Addr} {s s':DS} {σ σ':St} {H H' Hh H1:Hp} {X:Cx} {pos:Pos}
theorem take_all {Γ:Gm} {n:Nat} (h:Γ.length=n):Γ.take n=Γ:=by rw[<-h];exact List.take_length
theorem MW (rs:RS f α s σ H) (nt:Nat) (ix:List Nat):(DY nt ix s.σ).length=(cSt nt ix σ).length/\∀ (i:Nat) (d:SV),(DY nt ix s.σ)[i]?=some (some d)->∃ v,(cSt nt ix σ)[i]?=some (some v)/\RepV f α s.Γ H d v:=by
 unfold DY cSt
 refine ⟨by simp,fun i d h=>?_⟩
 by_cases c:i<nt
 ·rw[List.getElem?_append_left (by simpa using c)] at h
  simp[c] at h
 ·rw[List.getElem?_append_right (by simpa using c)] at h ⊢
  simp only[List.length_replicate,List.getElem?_map] at h ⊢
  cases e:ix[i - nt]? with
  | none=>rw[e] at h;cases h
  | some k=>
   rw[e] at h
   simp only[Option.map_some] at h ⊢
   have hk:s.σ[k]?=some (some d):=by
    cases hz:s.σ[k]? with
    | none=>rw[hz] at h;cases h
    | some o=>rw[hz] at h;exact congrArg some (Option.some.inj h)
   obtain ⟨v,h1,h2⟩:=rs.slot k d hk
   exact ⟨v,by rw[h1];rfl,h2⟩
inductive CI (f:Fr) (α1:Nat->Addr) (s1:DS) (σ:St) (H1:Hp) (g:MG) (t:MT) (e:ME) (items ys:List D) (Γ':Gm) (l:Addr) (i:Nat) (τ':St) (Hi:Hp):Prop
 | mk (αi:Nat->Addr) (Γi:Gm) (τ:List (Option SV)) (H2:Hp) (acc:List D) (vs:List V) (rest:List D):Hi=upd H2 l (.lst vs)->H2 l=none->RS f αi {s1 with Γ:=Γi} σ H2->Ext f α1 αi s1.Γ Γi H1 H2->Γi.length=s1.Γ.length->Reps (wd f αi Γi H2) acc vs->acc.length<=i ->
   τ.length=τ'.length->(∀ (j:Nat) (d:SV),τ[j]?=some (some d)->∃ v,τ'[j]?=some (some v)/\RepV f αi Γi H2 d v)->An g t e (items.drop i) τ Γi=some (rest,Γ')->ys=acc++rest->CI f α1 s1 σ H1 g t e items ys Γ' l i τ' Hi
theorem Gf {mi:MF} {nt:Nat} {ix:List Nat} {g:MG} {t:MT} {e:ME} {Q:VK} (h:tDF f (A7 mi nt ix g t e) σ H Q):JB (tDI f mi) nt ix (xG f.K g) (xT f.K t) (xD f.K e) σ H Q:=by
 obtain ⟨α,s,r,rs,lo,e0,q⟩:=h
 obtain ⟨⟨items,s1⟩,h1,e0⟩:=bind_some e0
 split at e0
 case isFalse=>cases e0
 rename_i hbig
 obtain ⟨⟨ys,Γ'⟩,h2,rfl⟩:=AZ e0
 refine ⟨α,s,_,rs,lo,h1,fun J α1 H1 rs1 l1 x1 it l hl=>?_⟩
 refine FI items.length (fun i τ' Hi=>CI f α1 s1 σ H1 g t e items ys Γ' l i τ' Hi) ?_ ?_ ?_ ?_ ?_
 ·exact ⟨α1,s1.Γ,DY nt ix s1.σ,H1,[],[],ys,rfl,hl,rs1,.refl,rfl,.nil,Nat.le_refl _,(MW rs1 nt ix).1,(MW rs1 nt ix).2,h2,rfl⟩
 ·rintro i τ' Hi hi ⟨αi,Γi,τ,H2,acc,vs,rest,rfl,hl2,ri,xi,lenΓ,hacc,hai,hτl,hτ,hgo,hys⟩
  exact it.go i αi _ σ H2 _ hi ri xi fun a o h=>by rw[AJ (Ah h hl2)];exact h
 ·rintro τ' Hi ⟨αi,Γi,τ,H2,acc,vs,rest,rfl,hl2,ri,xi,lenΓ,hacc,hai,hτl,hτ,hgo,hys⟩
  exact it.stop αi _ σ H2 _ ri xi fun a o h=>by rw[AJ (Ah h hl2)];exact h
 ·rintro i x τ' Hi H3 hi ⟨αi,Γi,τ,H2,acc,vs,rest,rfl,hl2,ri,xi,lenΓ,hacc,hai,hτl,hτ,hgo,hys⟩ y
  have hd:items[i]?=some items[i]:=List.getElem?_eq_getElem hi
  rw[List.drop_eq_getElem_cons hi] at hgo
  obtain ⟨s2,g2,hgo⟩:=bind_some hgo
  obtain ⟨b,t2,hgo⟩:=bind_some hgo
  have fin:∀ {H2':Hp},H2' l=none->RS f αi {s1 with Γ:=Γi} σ H2'->Ext f αi αi Γi Γi H2 H2'->Rep (wd f αi Γi H2') items[i] x ->
    xG f.K g x τ' (upd H2' l (.lst vs)) fun σ2 H2=>xT f.K t σ2 H2 fun b H3=>if b=true then xD f.K e σ2 H3 fun v H4=>∃ xs,H4 l=some (.lst xs)/\xs.length<sizeLine/\CI f α1 s1 σ H1 g t e items ys Γ' l (i+1) σ2 (upd H4 l (.lst (xs++[v]))) else CI f α1 s1 σ H1 g t e items ys Γ' l (i+1) σ2 H3:=fun {H2'} hl2' ri' x2' hr=>by
   have ov:Over (fun a=>a=l) H2' (upd H2' l (.lst vs)):=⟨fun a h=>AJ h,fun a h=>by rw[h];exact hl2',fun a h=>by rw[h,AS];exact fun z=>nomatch z⟩
   have en:=ri'.enter ov hτl fun j d h=>let ⟨v,a,b⟩:=hτ j d h;⟨v,a,b.ext x2'⟩
   have back:∀ {s5:DS} {α5:Nat->Addr} {σ5:St} {H5:Hp},RS (inn f αi Γi (fun a=>a=l) (upd H2' l (.lst vs)) (BG ri' ov)) α5 s5 σ5 H5->s5.lo=Γi.length->Ext (inn f αi Γi (fun a=>a=l) (upd H2' l (.lst vs)) (BG ri' ov)) αi α5 Γi s5.Γ (upd H2' l (.lst vs)) H5->s5.Γ.length=Γi.length ->
     H5 l=some (.lst vs)/\RS f α5 {s1 with Γ:=s5.Γ} σ (del H5 l)/\Ext f α1 α5 s1.Γ s5.Γ H1 (del H5 l)/\Reps (wd f α5 s5.Γ (del H5 l)) acc vs/\(∀ (j:Nat) (d:SV),s5.σ[j]?=some (some d)->∃ v,σ5[j]?=some (some v)/\RepV f α5 s5.Γ (del H5 l) d v) /\
     ∀ d v,Rep (wd (inn f αi Γi (fun a=>a=l) (upd H2' l (.lst vs)) (BG ri' ov)) α5 s5.Γ H5) d v->Rep (wd f α5 s5.Γ (del H5 l)) d v:=fun {s5 α5 σ5 H5} r5 l5 x5 len5=>by
    obtain ⟨lv1,lv2,lv3⟩:=ri'.leave ov r5 l5 x5 (H1:=del H5 l) fun a h=>Dl h
    have tk:s5.Γ.take Γi.length=s5.Γ:=take_all len5
    simp only at lv1 lv2 lv3
    rw[tk] at lv1 lv2 lv3
    refine ⟨r5.fr l _ AS fun ⟨n,xs,e1,e2⟩=>?_,lv1,(xi.trans x2').trans lv2,(hacc.kw x2'.kw).kw lv2.kw,fun j d h=>?_,fun d v h=>h.kw lv3⟩
    ·obtain ⟨us,z,_⟩:=ri'.box n xs e1
     rw[e2,hl2'] at z
     cases z
    ·obtain ⟨v,a,b⟩:=r5.slot j d h
     refine ⟨v,a,?_⟩
     cases d with
     | v d=>exact Rep.kw lv3 (show Rep _ d v from b)
     | b n=>exact b
     | p n d=>
      obtain ⟨h0,a',w,h1,h2,h3,h4⟩:=b
      obtain ⟨k1,k2⟩:=lv3.keep a' _ h2 h3
      exact ⟨h0,a',w,h1,k2,k1,h4.kw lv3⟩
   refine ⟨(inn f αi Γi (fun a=>a=l) (upd H2' l (.lst vs)) (BG ri' ov)),rfl,αi,_,_,s2,en,Nat.le_refl _,Rep.kw (EV ri' ov) hr,g2,fun σ2 r2 l2 G2=>?_⟩
   refine ⟨(inn f αi Γi (fun a=>a=l) (upd H2' l (.lst vs)) (BG ri' ov)),rfl,αi,s2,b,r2,by rw[l2,G2];exact Nat.le_refl _,t2,fun α3 H3 r3 l3 x3=>?_⟩
   have x3':Ext (inn f αi Γi (fun a=>a=l) (upd H2' l (.lst vs)) (BG ri' ov)) αi α3 Γi b.2.Γ (upd H2' l (.lst vs)) H3:=by
    have z:=x3
    rw[G2] at z
    exact z
   split at hgo
   ·rename_i cb
    dsimp only
    rw[if_pos cb]
    obtain ⟨⟨xv,s4⟩,e4,hgo⟩:=bind_some hgo
    refine ⟨(inn f αi Γi (fun a=>a=l) (upd H2' l (.lst vs)) (BG ri' ov)),rfl,α3,b.2,_,r3,by rw[l3,l2];exact x3'.m,e4,fun α4 v H4 r4 l4 x4 hv=>?_⟩
    cases xv with
    | b n=>cases hgo
    | p n d=>cases hgo
    | v yv=>
     simp only at hgo
     split at hgo
     case isFalse=>cases hgo
     rename_i len4
     obtain ⟨⟨rest2,_⟩,h5,e5⟩:=AZ hgo
     cases e5
     obtain ⟨b1,b2,b3,b4,b5,b6⟩:=back r4 (l4.trans (l3.trans l2)) (x3'.trans x4) len4
     refine ⟨vs,b1,Nat.lt_of_le_of_lt (by rw[hacc.len];exact Nat.le_of_lt (Nat.lt_of_le_of_lt hai hi)) (QU hbig),α4,s4.Γ,s4.σ,del H4 l,acc++[yv],vs++[v],rest2,?_,Gu,b2,b3,len4.trans lenΓ,b4.append (.cons (b6 _ _ hv) .nil),by rw[List.length_append];simpa using hai,r4.len,b5,h5,by rw[hys];simp⟩
     funext a
     by_cases z:a=l
     ·rw[z,AS,AS]
     ·rw[AJ z,AJ z,Dl z]
   ·rename_i cb
    dsimp only
    rw[if_neg cb]
    split at hgo
    case isFalse=>cases hgo
    rename_i len4
    obtain ⟨b1,b2,b3,b4,b5,b6⟩:=back r3 (l3.trans l2) x3' len4
    exact ⟨α3,b.2.Γ,b.2.σ,del H3 l,acc,vs,rest,(Jd b1).symm,Gu,b2,b3,len4.trans lenΓ,b4,Nat.le_succ_of_le hai,r3.len,b5,hgo,hys⟩
  rcases it.yl i _ x αi _ σ H2 _ H3 hd ri xi (fun a o h=>by rw[AJ (Ah h hl2)];exact h) y with ⟨rfl,hr⟩ | ⟨T,u,hT,rfl,hr⟩
  ·exact fin hl2 ri .refl hr
  ·have lT:l≠T:=fun z=>by rw[<-z,AS] at hT;cases hT
   have hT2:H2 T=none:=by rw[AJ (Ne.symm lT)] at hT;exact hT
   have z:=fin (H2':=upd H2 T u) (by rw[AJ lT];exact hl2) (ri.new hT2) (.new ri hT2) hr
   have e2:upd (upd H2 l (.lst vs)) T u=upd (upd H2 T u) l (.lst vs):=by
    funext a
    by_cases z1:a=T
    ·rw[z1,AS,AJ (Ne.symm lT),AS]
    ·by_cases z2:a=l
     ·rw[z2,AJ lT,AS,AS]
     ·rw[AJ z1,AJ z2,AJ z2,AJ z1]
   rw[e2]
   exact z
 ·rintro τ' Hi ⟨αi,Γi,τ,H2,acc,vs,rest,rfl,hl2,ri,xi,lenΓ,hacc,hai,hτl,hτ,hgo,hys⟩
  rw[List.drop_length] at hgo
  cases hgo
  rw[List.append_nil] at hys
  subst hys
  exact q αi l vs H2 ri l1 (x1.trans xi) hl2 hacc
theorem Cy {elt tg src:Expr} {tests:List Expr} {sc esc:Scope} {cp:Pos} {N tn fn:List Str} {ix:List Nat} {mi:MF} {g:MG} {t:MT} {e:ME} (hc:X.calm=true) (hsc:X.env.scope=esc) (hN:X.N=N) (ok:CompOk sc esc N fn ix) (hi:DI X tg src mi)
  (hg:∀ s2 H2 cl C fp,DG (As X (tn++fn) sc s2 H2 cl C fp) tg g)
  (ht:∀ s2 H2 cl C fp,DTs (As X (tn++fn) sc s2 H2 cl C fp) tests t)
  (he:∀ s2 H2 cl C fp,DE (As X (tn++fn) sc s2 H2 cl C fp) elt e)
  (hs:∀ x,foldedSetIterable src X.env x=pure x:=by intro _;rfl):DF X (.ListComp elt [⟨tg,src,tests,0⟩] sc cp) (A7 mi tn.length ix g t e):=fun f hf=>
 PE.imp (JC (g:=xG X.K g) (tc:=xT X.K t) (te:=xD X.K e) hc hsc hN ok (hi f hf) (fun s2 H2 cl C fp=>(hg s2 H2 cl C fp).x) (fun s2 H2 cl C fp=>(ht s2 H2 cl C fp).x) (fun s2 H2 cl C fp=>(he s2 H2 cl C fp).x) hs) fun σ H Q h=>by
  rw[<-hf]
  exact Gf h
theorem SR {i:Nat} {y:Str} {py sp:Pos} {elt tg src:Expr} {tests:List Expr} {sc esc:Scope} {cp:Pos} {N tn fn:List Str} {ix:List Nat} {mi:MF} {g:MG} {t:MT} {e:ME} (hnd:X.N.Nodup) (hiy:X.N[i]?=some y) (hy:X.env.scope.names.lookup y=some .local) (hc:X.calm=true) (hsc:X.env.scope=esc) (hN:X.N=N) (ok:CompOk sc esc N fn ix) (hi:DI X tg src mi)
  (hg:∀ s2 H2 cl C fp,DG (As X (tn++fn) sc s2 H2 cl C fp) tg g)
  (ht:∀ s2 H2 cl C fp,DTs (As X (tn++fn) sc s2 H2 cl C fp) tests t)
  (he:∀ s2 H2 cl C fp,DE (As X (tn++fn) sc s2 H2 cl C fp) elt e)
  (hsw:swapsWith (.ListComp elt [⟨tg,src,tests,0⟩] sc cp) (some (.Name y py)) sp.line X.env=pure true:=by rfl)
  (hs:∀ x,foldedSetIterable src X.env x=pure x:=by intro _;rfl):DSt X (.Assign [.Name y py] (.ListComp elt [⟨tg,src,tests,0⟩] sc cp) sp) (AX i (AK (A7 mi tn.length ix g t e))):=fun f hf=>
 PS.imp (Im (g:=xG X.K g) (tc:=xT X.K t) (te:=xD X.K e) hnd hiy hy hc hsc hN ok (hi f hf) (fun s2 H2 cl C fp=>(hg s2 H2 cl C fp).x) (fun s2 H2 cl C fp=>(ht s2 H2 cl C fp).x) (fun s2 H2 cl C fp=>(he s2 H2 cl C fp).x) hsw hs) fun E σ H hh_=>by
  obtain ⟨α,s,o,rs,lo,e0,q⟩:=hh_
  rw[<-hf]
  obtain ⟨r,h1,rfl⟩:=AZ e0
  obtain ⟨r2,h2,rfl⟩:=AZ h1
  exact Gf ⟨α,s,r2,rs,lo,h2,fun α' a vs H' rs' l' x ha hx=>q α' _ _ ((rs'.new ha).set (d:=.v (.lst r2.1)) (D9 rs' ha hx)) l' (x.trans (.new rs' ha))⟩
end
abbrev MD:=List SV->Gm->Option (D×Gm)
abbrev MDF:=List SV->Gm->Option (List D×Gm)
def spD (K:PySem.W.Frag) (np:Nat) (M:MD):Sp:=fun vs H Q _=>∃ (f:Fr) (α:Nat->Addr) (s:DS) (σ:St) (ds:List SV) (r:D×Gm),f.K=K/\ds.length=np/\RS f α s σ H/\RepVs f α s.Γ H ds vs/\M ds s.Γ=some r /\
 ∀ α' v H',RS f α' {s with Γ:=r.2} σ H'->Ext f α α' s.Γ r.2 H H'->Rep (wd f α' r.2 H') r.1 v->Q v H'
def spF (K:PySem.W.Frag) (np:Nat) (M:MDF):Sp:=fun vs H Q _=>∃ (f:Fr) (α:Nat->Addr) (s:DS) (σ:St) (ds:List SV) (r:List D×Gm),f.K=K/\ds.length=np/\RS f α s σ H/\RepVs f α s.Γ H ds vs/\M ds s.Γ=some r /\
 ∀ α' a vs H',RS f α' {s with Γ:=r.2} σ H'->Ext f α α' s.Γ r.2 H H'->H' a=none->Reps (wd f α' r.2 H') r.1 vs->Q (.ref a) (upd H' a (.lst vs))
@[simp] def D5 (n:Nat) (ds:List SV):List (Option SV):=ds.map some++List.replicate (n - ds.length) none
@[simp] def mFn (n:Nat) (m:MS):MD:=fun ds Γ=>(m ⟨D5 n ds,Γ,Γ.length⟩).bind fun o=>match o with
 | .rt d s=>some (d,s.Γ.take Γ.length)
 | .rf xs s=>some (.lst xs,s.Γ.take Γ.length)
 | .rp xs d s=>some (.tup [.lst xs,d],s.Γ.take Γ.length)
 | .nx s=>some (.non,s.Γ.take Γ.length)
 | .bk _=>none
 | .ct _=>none
@[simp] def Ag (n:Nat) (m:MS):MDF:=fun ds Γ=>(m ⟨D5 n ds,Γ,Γ.length⟩).bind fun o=>match o with
 | .rf xs s=>some (xs,s.Γ.take Γ.length)
 | _=>none
section
variable {P:Program} {w:World} {K:PySem.W.Frag} {mg:Str->Option Value} {base:Heap} {f:Fr} {α α':Nat->Addr} {s s':DS} {σ σ':St} {H H':Hp} {X:Cx} {pos:Pos}
theorem N0 {ds:List SV} {vs:List V}:RepVs f α s.Γ H ds vs->∀ (i:Nat) (d:SV),(ds.map some)[i]?=some (some d)->∃ v,(vs.map some)[i]?=some (some v)/\RepV f α s.Γ H d v:=by
 induction ds generalizing vs with
 | nil=>intro _ i d h;cases h
 | cons c ds ih=>
  intro h i d hi
  obtain ⟨v,r,rfl,h1,h2⟩:=h.cons_inv
  cases i with
  | zero=>cases hi;exact ⟨v,rfl,h1⟩
  | succ i=>exact ih h2 i d hi
theorem Ca:Over (fun _=>False) H H:=⟨fun _ _=>rfl,fun _ h=>h.elim,fun _ h=>h.elim⟩
theorem Ma {N:List Str} {ds:List SV} {vs:List V} (rs:RS f α s σ H) (h:RepVs f α s.Γ H ds vs):RS (inn f α s.Γ (fun _=>False) H (BG rs Ca)) α ⟨D5 N.length ds,s.Γ,s.Γ.length⟩ (L2.start N vs) H:=by
 have hl:=h.len
 refine rs.enter Ca (by unfold D5 L2.start;simp[hl]) fun i d e=>?_
 unfold D5 at e
 unfold L2.start
 by_cases c:i<ds.length
 ·rw[List.getElem?_append_left (by simpa using c)] at e
  rw[List.getElem?_append_left (by rw[List.length_map,hl];exact c)]
  exact N0 h i d e
 ·rw[List.getElem?_append_right (by simpa using c)] at e
  rw[List.getElem?_replicate] at e
  split at e<;>cases e
theorem IR {x qual:Str} {st:Stmt} {fa:Addr} {fd:FuncData} {N ps:List Str} {k:Nat} {m:MS} (F:Fun K x qual st fa fd) (S:FnScope N ps (AW st))
  (hb:∀ (cdv:Value) (A:Around) (outer:List Env) (s:Shared) (H:Hp) (E:XK),Room k (A.deeper (PyProof.Rows.envOfC qual (AW st) s.heap.objs.size fa cdv))->DSs (C1 CX0 P w K mg base N qual (AW st) fa cdv A outer s H E).nox (CH st) m) :
  FnOk P w K mg base CX0 (k+1) fa fd ps (spD K ps.length (mFn N.length m)):=by
 refine F.ok S (fun vs H Q E h=>?_) (fun cdv A outer sh H vs Q E hr h=>?_)
 ·obtain ⟨f,α,s,σ,ds,r,_,hl,_,hv,_⟩:=h
  rw[hv.len,hl]
 obtain ⟨f,α,s,σ,ds,r,hK,hl,rs,hv,hM,q⟩:=h
 obtain ⟨o,h1,h2⟩:=bind_some hM
 refine ⟨_,hb cdv A outer sh H E hr (inn f α s.Γ (fun _=>False) H (BG rs Ca)) hK,α,_,o,Ma rs hv,Nat.le_refl _,h1,?_⟩
 cases o with
 | bk s'=>cases h2
 | ct s'=>cases h2
 | nx s'=>
  cases h2
  intro α' σ' H' r' l' x'
  obtain ⟨a1,a2,a3⟩:=rs.leave Ca r' l' x' (H1:=H') fun _ _=>rfl
  exact q α' .non H' a1 a2 (by unfold Rep;rfl)
 | rt d s'=>
  cases h2
  intro α' σ' v H' r' l' x' hw
  obtain ⟨a1,a2,a3⟩:=rs.leave Ca r' l' x' (H1:=H') fun _ _=>rfl
  exact q α' v H' a1 a2 (hw.kw a3)
 | rf xs s'=>
  cases h2
  intro α' σ' a vs' H' r' l' x' ha hx
  obtain ⟨a1,a2,a3⟩:=rs.leave Ca r' l' x' (H1:=H') fun _ _=>rfl
  exact q α' _ _ (a1.new ha) (a2.trans (.new a1 ha)) (D9 a1 ha (hx.kw a3))
 | rp xs d s'=>
  cases h2
  intro α' σ' a t vs' w H' r' l' x' ha hx hw ht hta
  obtain ⟨a1,a2,a3⟩:=rs.leave Ca r' l' x' (H1:=H') fun _ _=>rfl
  have ht':(upd H' a (.lst vs')) t=none:=by rw[AJ hta];exact ht
  have r1:=a1.new (o:=.lst vs') ha
  have e1:=Ext.new (o:=.lst vs') a1 ha
  exact q α' _ _ (r1.new ht') ((a2.trans e1).trans (.new r1 ht')) (IW r1 ht' (.cons (D9 a1 ha (hx.kw a3)) (.cons ((hw.kw a3).kw e1.kw) .nil)))
theorem CG {x qual:Str} {st:Stmt} {fa:Addr} {fd:FuncData} {N ps:List Str} {k:Nat} {m:MS} (F:Fun K x qual st fa fd) (S:FnScope N ps (AW st))
  (hb:∀ (cdv:Value) (A:Around) (outer:List Env) (s:Shared) (H:Hp) (E:XK),Room k (A.deeper (PyProof.Rows.envOfC qual (AW st) s.heap.objs.size fa cdv))->DSs (C1 CX0 P w K mg base N qual (AW st) fa cdv A outer s H E).nox (CH st) m) :
  FnOk P w K mg base CX0 (k+1) fa fd ps (spF K ps.length (Ag N.length m)):=by
 refine F.ok S (fun vs H Q E h=>?_) (fun cdv A outer sh H vs Q E hr h=>?_)
 ·obtain ⟨f,α,s,σ,ds,r,_,hl,_,hv,_⟩:=h
  rw[hv.len,hl]
 obtain ⟨f,α,s,σ,ds,r,hK,hl,rs,hv,hM,q⟩:=h
 obtain ⟨o,h1,h2⟩:=bind_some hM
 refine ⟨_,hb cdv A outer sh H E hr (inn f α s.Γ (fun _=>False) H (BG rs Ca)) hK,α,_,o,Ma rs hv,Nat.le_refl _,h1,?_⟩
 cases o with
 | bk s'=>cases h2
 | ct s'=>cases h2
 | nx s'=>cases h2
 | rt d s'=>cases h2
 | rp xs d s'=>cases h2
 | rf xs s'=>
  cases h2
  intro α' σ' a vs' H' r' l' x' ha hx
  obtain ⟨a1,a2,a3⟩:=rs.leave Ca r' l' x' (H1:=H') fun _ _=>rfl
  exact q α' _ _ _ a1 a2 ha (hx.kw a3)
@[simp] def Av (M:MD) (ms:MA):ME:=fun s=>(ms s).bind fun x=>(M x.1 x.2.Γ).map fun r=>(.v r.1,{x.2 with Γ:=r.2})
@[simp] def Ay (M:MDF) (ms:MA):MF:=fun s=>(ms s).bind fun x=>(M x.1 x.2.Γ).map fun r=>(r.1,{x.2 with Γ:=r.2})
def Ar (ms:MA) (n:Nat):Prop:=∀ s r,ms s=some r->r.1.length=n
theorem A2:Ar AC 0:=fun s r e=>by cases e;rfl
theorem Aa {m:ME} {ms:MA} {n:Nat} (h:Ar ms n):Ar (AB m ms) (n+1):=fun s r e=>by
 obtain ⟨x,h1,e⟩:=bind_some e
 obtain ⟨y,h2,rfl⟩:=AZ e
 show (x.1::y.1).length=n+1
 rw[List.length_cons,h _ _ h2]
theorem CU {x:Str} {p:Pos} {e:Expr} {es:List Expr} {fa:Addr} {fd:FuncData} {ps:List Str} {k np:Nat} {M:MD} {ms:MA} (F:FnOk X.prog X.w X.K X.mg X.base CX0 k fa fd ps (spD X.K np M)) (hr:Room k X.A) (hg:Gl X x) (hm:X.mg x=some (.ref fa)) (hk:PySem.W.keepIn X.K (.ref fa)=true) (hb:Binds X.K fd ps [])
  (ha:DA X (e::es) ms) (hn:Ar ms np) (hdb:(x == ("__debug__":Str))=false:=by decide) (he:starEach (e::es) X.env=(false,eval e X.env)::starEach es X.env:=by rfl) (hpl:(backTo pos (starEach es X.env)).any (·.1)=false:=by rfl) :
  DE X (.Call (.Name x p) (e::es) [] pos) (Av M ms):=fun f hf=>PE.imp (GQ F hr hg hm hk hb .nil FC (ha f hf) hdb he hpl) fun σ H Q hh_=>by
 obtain ⟨α,s,r,rs,lo,e0,q⟩:=hh_
 obtain ⟨y,h1,e0⟩:=bind_some e0
 obtain ⟨z,h2,rfl⟩:=AZ e0
 refine ⟨α,s,y,rs,lo,h1,fun α1 vs H1 rs1 l1 x1 hv=>?_⟩
 dsimp only
 rw[List.append_nil]
 exact ⟨f,α1,y.2,σ,y.1,z,hf,hn _ _ h1,rs1,hv,h2,fun α2 v H2 rs2 x2 hw=>q α2 v H2 rs2 l1 (x1.trans x2) hw⟩
theorem Bi {x:Str} {p:Pos} {e:Expr} {es:List Expr} {fa:Addr} {fd:FuncData} {ps:List Str} {k np:Nat} {M:MDF} {ms:MA} (F:FnOk X.prog X.w X.K X.mg X.base CX0 k fa fd ps (spF X.K np M)) (hr:Room k X.A) (hg:Gl X x) (hm:X.mg x=some (.ref fa)) (hk:PySem.W.keepIn X.K (.ref fa)=true) (hb:Binds X.K fd ps [])
  (ha:DA X (e::es) ms) (hn:Ar ms np) (hdb:(x == ("__debug__":Str))=false:=by decide) (he:starEach (e::es) X.env=(false,eval e X.env)::starEach es X.env:=by rfl) (hpl:(backTo pos (starEach es X.env)).any (·.1)=false:=by rfl) :
  DF X (.Call (.Name x p) (e::es) [] pos) (Ay M ms):=fun f hf=>PE.imp (GQ F hr hg hm hk hb .nil FC (ha f hf) hdb he hpl) fun σ H Q hh_=>by
 obtain ⟨α,s,r,rs,lo,e0,q⟩:=hh_
 obtain ⟨y,h1,e0⟩:=bind_some e0
 obtain ⟨z,h2,rfl⟩:=AZ e0
 refine ⟨α,s,y,rs,lo,h1,fun α1 vs H1 rs1 l1 x1 hv=>?_⟩
 dsimp only
 rw[List.append_nil]
 exact ⟨f,α1,y.2,σ,y.1,z,hf,hn _ _ h1,rs1,hv,h2,fun α2 a us H2 rs2 x2 ha hx=>q α2 a us H2 rs2 l1 (x1.trans x2) ha hx⟩
end
section
variable {X:Cx} {f:Fr} {α:Nat->Addr} {s:DS} {σ:St} {H:Hp} {K:PySem.W.Frag}
theorem Ai {Γ:Gm} {i:Int} {v:V} (h:RepV f α Γ H (.v (.int i)) v):v=.int i:=by
 have h:Rep (wd f α Γ H) (.int i) v:=h
 unfold Rep at h;exact h
theorem Cw {Γ:Gm} {i:Str} {v:V} (h:RepV f α Γ H (.v (.str i)) v):v=.str i:=by
 have h:Rep (wd f α Γ H) (.str i) v:=h
 unfold Rep at h;exact h
theorem Fl {Γ:Gm} {i:Bool} {v:V} (h:RepV f α Γ H (.v (.bl i)) v):v=.bl i:=by
 have h:Rep (wd f α Γ H) (.bl i) v:=h
 unfold Rep at h;exact h
theorem Sf {Γ:Gm} {v:V} (h:RepV f α Γ H (.v .non) v):v=.non:=by
 have h:Rep (wd f α Γ H) .non v:=h
 unfold Rep at h;exact h
theorem CV {Γ:Gm} {xs:List D} {v:V} (h:RepV f α Γ H (.v (.tup xs)) v):∃ a vs,v=.ref a/\H a=some (.tup vs)/\Reps (wd f α Γ H) xs vs:=by
 have h:Rep (wd f α Γ H) (.tup xs) v:=h
 unfold Rep at h
 obtain ⟨a,vs,e,_,h1,h2⟩:=h
 exact ⟨a,vs,e,h1,h2⟩
theorem Ba {W:Wd} {i:Int}:Rep W (.int i) (.int i):=by unfold Rep;rfl
theorem Bv {W:Wd} {i:Bool}:Rep W (.bl i) (.bl i):=by unfold Rep;rfl
theorem Jq {W:Wd} {i:Str}:Rep W (.str i) (.str i):=by unfold Rep;rfl
theorem L4 {Γ:Gm}:RepV f α Γ H (.v .non) .non:=by show Rep (wd f α Γ H) .non .non;unfold Rep;rfl
@[simp] def gI (c:Int->Int->Bool) (h:Int->Int->Int):Gm->SV->SV->Option D:=fun _ x y=>match x,y with
 | .v (.int i),.v (.int j)=>if c i j=true then some (.int (h i j)) else none
 | _,_=>none
theorem FT {C:Int->Int->Prop} {c:Int->Int->Bool} {h:Int->Int->Int} (hc:∀ i j,c i j=true->C i j):OpD X (gI c h) (rI C fun i j=>.int (h i j)):=by
 intro f α s σ H x y u v z Q hf rs hu hv e q
 unfold gI at e
 split at e
 ·rename_i i j
  split at e
  ·rename_i hk
   cases e
   exact ⟨i,j,Ai hu,Ai hv,hc i j hk,q _ H rs .refl Ba⟩
  ·cases e
 ·cases e
@[simp] def gI0 (h:Int->Int->Int):Gm->SV->SV->Option D:=fun _ x y=>match x,y with
 | .v (.int i),.v (.int j)=>some (.int (h i j))
 | _,_=>none
theorem NK {h:Int->Int->Int}:OpD X (gI0 h) (rI0 fun i j=>.int (h i j)):=by
 intro f α s σ H x y u v z Q hf rs hu hv e q
 unfold gI0 at e
 split at e
 ·rename_i i j
  cases e
  exact ⟨i,j,Ai hu,Ai hv,q _ H rs .refl Ba⟩
 ·cases e
abbrev Bf:=gI0 fun i j=>i - j
def Dd (i j:Int):Bool:=decide ((-(2 ^ 64)<i/\i<2 ^ 64)\/(-(2 ^ 64)<j/\j<2 ^ 64))
def C7 (i j:Int):Bool:=decide (0<j/\j<2 ^ 64)
def Cr (i j:Int):Bool:=decide (0<j)
def GK (i j:Int):Bool:=decide (0<=j/\j<=1000000/\i.natAbs<2 ^ 64)
abbrev CN:=gI Dd fun i j=>i * j
abbrev BM:=gI C7 fun i j=>i / j
abbrev BH:=gI Cr fun i j=>i % j
abbrev Dp:=gI GK fun i j=>i ^ j.toNat
theorem N5:OpD X CN (rI CMul fun i j=>.int (i * j)):=FT fun i j h=>by unfold Dd at h;unfold CMul;exact of_decide_eq_true h
theorem Ss:OpD X BM (rI (fun _ j=>0<j/\j<2 ^ 64) fun i j=>.int (i / j)):=FT fun i j h=>of_decide_eq_true h
theorem NC:OpD X BH (rI (fun _ j=>0<j) fun i j=>.int (i % j)):=FT fun i j h=>of_decide_eq_true h
theorem Ny:OpD X Dp (rI HY fun i j=>.int (i ^ j.toNat)):=FT fun i j h=>by unfold GK at h;unfold HY;exact of_decide_eq_true h
@[simp] def AY:Gm->SV->SV->Option D:=fun Γ x y=>match x,y with
 | .v (.int i),.v (.int j)=>some (.int (i+j))
 | .v (.str a),.v (.str b)=>if a.length+b.length<=big then some (.str (a++b)) else none
 | x,y=>match elems Γ x,elems Γ y with
  | some xs,some ys=>if xs.length+ys.length<=big then some (.lst (xs++ys)) else none
  | _,_=>none
@[simp] def Ci:Gm->SV->SV->Option (List D):=fun Γ x y=>match elems Γ x,elems Γ y with
 | some xs,some ys=>if xs.length+ys.length<=big then some (xs++ys) else none
 | _,_=>none
def MV:R2:=fun x y H Q=>rI0 (fun i j=>.int (i+j)) x y H Q\/(∃ i j,x=.str i/\y=.str j/\i.length+j.length<=sizeLine/\Q (.str (i++j)) H)\/IC x y H Q
theorem Se:OpR X (binaryOp .Add) MV:=op_add.or (op_add_str.or JQ)
theorem UD:OpF X Ci IC:=by
 intro f α s σ H x y u v z Q hf rs hu hv e q
 unfold Ci at e
 split at e
 ·rename_i xs ys h1 h2
  split at e
  ·rename_i hz
   cases e
   obtain ⟨a,vs,rfl,a1,a2⟩:=BC rs h1 hu
   obtain ⟨b,us,rfl,b1,b2⟩:=BC rs h2 hv
   exact ⟨a,b,vs,us,rfl,rfl,a1,b1,by rw[a2.len,b2.len];exact CM hz,fun p hp=>q p _ hp (a2.append b2)⟩
  ·cases e
 ·cases e
theorem TK:OpD X AY MV:=by
 intro f α s σ H x y u v z Q hf rs hu hv e q
 unfold AY at e
 split at e
 ·rename_i i j
  cases e
  exact .inl ⟨i,j,Ai hu,Ai hv,q _ H rs .refl Ba⟩
 ·rename_i a b
  split at e
  ·rename_i hz
   cases e
   exact .inr (.inl ⟨a,b,Cw hu,Cw hv,CM hz,q _ H rs .refl Jq⟩)
  ·cases e
 ·split at e
  ·rename_i xs ys h1 h2
   split at e
   ·rename_i hz
    cases e
    obtain ⟨a,vs,rfl,a1,a2⟩:=BC rs h1 hu
    obtain ⟨b,us,rfl,b1,b2⟩:=BC rs h2 hv
    exact .inr (.inr ⟨a,b,vs,us,rfl,rfl,a1,b1,by rw[a2.len,b2.len];exact CM hz,fun p hp=>q _ _ (rs.new hp) (.new rs hp) (D9 rs hp (a2.append b2))⟩)
   ·cases e
  ·cases e
@[simp] def Dj:SV->SV->Option Bool:=fun x y=>match x,y with
 | .v (.int i),.v (.int j)=>some (decide (i=j))
 | .v (.str i),.v (.str j)=>some (decide (i=j))
 | .v (.bl i),.v (.bl j)=>some (decide (i=j))
 | _,_=>none
@[simp] def DQ:Gm->SV->SV->Option Bool:=fun Γ x y=>match elems Γ x,elems Γ y with
 | some [],some ys=>some ys.isEmpty
 | some xs,some []=>some xs.isEmpty
 | _,_=>none
@[simp] def gEq:Gm->SV->SV->Option D:=fun Γ x y=>match Dj x y with
 | some b=>some (.bl b)
 | none=>(DQ Γ x y).map .bl
@[simp] def gNe:Gm->SV->SV->Option D:=fun Γ x y=>match Dj x y with
 | some b=>some (.bl !b)
 | none=>(DQ Γ x y).map fun b=>.bl !b
theorem Lp {Γ:Gm} {x y:SV} {u v:V} {b:Bool} (h:Dj x y=some b) (hu:RepV f α Γ H x u) (hv:RepV f α Γ H y v):Hb u v=true/\decide (u=v)=b:=by
 unfold Dj at h
 split at h
 ·cases h;rw[Ai hu,Ai hv];exact ⟨rfl,by simp⟩
 ·cases h;rw[Cw hu,Cw hv];exact ⟨rfl,by simp⟩
 ·cases h;rw[Fl hu,Fl hv];exact ⟨rfl,by simp⟩
 ·cases h
theorem L5 {x y:SV} {u v:V} {b:Bool} (rs:RS f α s σ H) (h:DQ s.Γ x y=some b) (hu:RepV f α s.Γ H x u) (hv:RepV f α s.Γ H y v):∃ p q xs ys,u=.ref p/\v=.ref q/\H p=some (.lst xs)/\H q=some (.lst ys)/\(xs=[]\/ys=[])/\decide (xs=ys)=b:=by
 unfold DQ at h
 split at h
 ·rename_i ys h1 h2
  cases h
  obtain ⟨a,vs,rfl,a1,a2⟩:=BC rs h1 hu
  obtain ⟨c,us,rfl,b1,b2⟩:=BC rs h2 hv
  refine ⟨a,c,vs,us,rfl,rfl,a1,b1,.inl a2.nil_inv,?_⟩
  rw[a2.nil_inv]
  cases ys with
  | nil=>rw[b2.nil_inv];rfl
  | cons d ds=>obtain ⟨w,r,rfl,_⟩:=b2.cons_inv;rfl
 ·rename_i xs _ h1 h2
  cases h
  obtain ⟨a,vs,rfl,a1,a2⟩:=BC rs h1 hu
  obtain ⟨c,us,rfl,b1,b2⟩:=BC rs h2 hv
  refine ⟨a,c,vs,us,rfl,rfl,a1,b1,.inr b2.nil_inv,?_⟩
  rw[b2.nil_inv]
  cases xs with
  | nil=>rw[a2.nil_inv];rfl
  | cons d ds=>obtain ⟨w,r,rfl,_⟩:=a2.cons_inv;rfl
 ·cases h
def E9 (K:PySem.W.Frag):R2:=fun x y H Q=>rEq x y H Q\/KP K x y H Q
def E3 (K:PySem.W.Frag):R2:=fun x y H Q=>rNe x y H Q\/J8 K x y H Q
theorem Tj (hu:X.A.units<cLine):OpR X (compareOp .Eq) (E9 X.K):=op_eq.or (Qw hu)
theorem N2 (hu:X.A.units<cLine):OpR X (compareOp .NotEq) (E3 X.K):=op_ne.or (OT hu)
theorem Np:OpD X gEq (E9 X.K):=by
 intro f α s σ H x y u v z Q hf rs hu hv e q
 unfold gEq at e
 split at e
 ·rename_i b hb
  cases e
  obtain ⟨h1,h2⟩:=Lp hb hu hv
  exact .inl ⟨h1,by rw[h2];exact q _ H rs .refl Bv⟩
 ·obtain ⟨b,hb,rfl⟩:=AZ e
  obtain ⟨p,q',xs,ys,rfl,rfl,h1,h2,h3,h4⟩:=L5 rs hb hu hv
  exact .inr ⟨p,q',xs,ys,rfl,rfl,SqL.of h1,SqL.of h2,h3,by rw[h4];exact q _ H rs .refl Bv⟩
theorem UC:OpD X gNe (E3 X.K):=by
 intro f α s σ H x y u v z Q hf rs hu hv e q
 unfold gNe at e
 split at e
 ·rename_i b hb
  cases e
  obtain ⟨h1,h2⟩:=Lp hb hu hv
  exact .inl ⟨h1,by rw[h2];exact q _ H rs .refl Bv⟩
 ·obtain ⟨b,hb,rfl⟩:=AZ e
  obtain ⟨p,q',xs,ys,rfl,rfl,h1,h2,h3,h4⟩:=L5 rs hb hu hv
  exact .inr ⟨p,q',xs,ys,rfl,rfl,SqL.of h1,SqL.of h2,h3,by rw[h4];exact q _ H rs .refl Bv⟩
def intsOf:List D->Option (List Int)
 | []=>some []
 | .int i::r=>(intsOf r).map (i::·)
 | _=>none
theorem CK:∀ {xs:List D} {ns:List Int},intsOf xs=some ns->xs=ns.map .int
 | [],ns,e=>by cases e;rfl
 | .int i::r,ns,e=>by
  obtain ⟨ms,h,rfl⟩:=AZ (show (intsOf r).map (i::·)=some ns from e)
  rw[CK h];rfl
theorem Gq:∀ {ns:List Int},intsOf (ns.map .int)=some ns
 | []=>rfl
 | i::r=>by show (intsOf (r.map D.int)).map (i::·)=_;rw[Gq];rfl
@[simp] def Di:Gm->SV->SV->Option D:=fun _ x y=>match x,y with
 | .v (.int i),.v (.int j)=>some (.bl (decide (i<j)))
 | .v (.tup xs),.v (.tup ys)=>(intsOf xs).bind fun ns=>(intsOf ys).map fun ms=>.bl (HT.lexLt ns ms)
 | _,_=>none
def Jy (K:PySem.W.Frag):R2:=fun x y H Q=>rI0 (fun i j=>.bl (decide (i<j))) x y H Q\/JF K x y H Q
theorem JD (hu:X.A.units<cLine):OpR X (compareOp .Lt) (Jy X.K):=op_lt.or (Qk hu)
theorem Kn:OpD X Di (Jy X.K):=by
 intro f α s σ H x y u v z Q hf rs hu hv e q
 unfold Di at e
 split at e
 ·rename_i i j
  cases e
  exact .inl ⟨i,j,Ai hu,Ai hv,q _ H rs .refl Bv⟩
 ·rename_i xs ys
  obtain ⟨ns,h1,e⟩:=bind_some e
  obtain ⟨ms,h2,rfl⟩:=AZ e
  have:=CK h1
  subst this
  have:=CK h2
  subst this
  obtain ⟨a,vs,rfl,a1,a2⟩:=CV hu
  obtain ⟨b,us,rfl,b1,b2⟩:=CV hv
  rw[a2.ints] at a1
  rw[b2.ints] at b1
  exact .inr ⟨a,b,ns,ms,rfl,rfl,SqT.of a1,SqT.of b1,q _ H rs .refl Bv⟩
 ·cases e
@[simp] def gIx:Gm->SV->SV->Option D:=fun Γ x y=>match y with
 | .v (.int i)=>match x with
  | .v (.tup xs)=>atI xs i
  | .v (.str z)=>if z.length<=big then (atI z.cps.toList i).map fun c=>.str ⟨#[c]⟩ else none
  | .v (.scr ns)=>(atI ns i).map .int
  | x=>(elems Γ x).bind fun xs=>atI xs i
 | _=>none
theorem J7 {W:Wd} {xs:List D} {vs:List V} {i:Int} {d:D} (h:Reps W xs vs) (e:atI xs i=some d):∃ v,atI vs i=some v/\Rep W d v:=by
 unfold atI at *
 rw[h.len]
 obtain ⟨j,h1,h2⟩:=bind_some e
 obtain ⟨v,h3,h4⟩:=h.get h2
 exact ⟨v,by rw[h1];exact h3,h4⟩
theorem Qo {ns:List Int} {i n:Int} (e:atI ns i=some n):atI (ns.map V.int) i=some (.int n):=by
 unfold atI at *
 rw[List.length_map]
 obtain ⟨j,h1,h2⟩:=bind_some e
 rw[h1]
 show (ns.map V.int)[j]?=_
 rw[List.getElem?_map,h2]
 rfl
theorem Lk {Γ:Gm} {ns:List Int} {v:V} (h:RepV f α Γ H (.v (.scr ns)) v):∃ a,v=.ref a/\SqL f.K H a (ns.map V.int):=by
 have h:Rep (wd f α Γ H) (.scr ns) v:=h
 unfold Rep at h
 obtain ⟨a,e,h⟩:=h
 refine ⟨a,e,?_⟩
 rcases h with ⟨_,h⟩ | h
 ·exact .inl h
 ·exact h H
theorem R0:OpD X gIx (rIx X.K):=by
 intro f α s σ H x y u v z Q hf rs hu hv e q
 unfold gIx at e
 split at e
 ·rename_i i
  split at e
  ·rename_i xs
   obtain ⟨a,vs,rfl,h1,h2⟩:=CV hu
   obtain ⟨w,h3,h4⟩:=J7 h2 e
   exact .inr (.inl ⟨a,vs,i,w,rfl,Ai hv,SqT.of h1,h3,q w H rs .refl h4⟩)
  ·rename_i str
   split at e
   ·rename_i hz
    obtain ⟨c,h1,rfl⟩:=AZ e
    exact .inr (.inr ⟨str,i,c,Cw hu,Ai hv,CM hz,h1,q _ H rs .refl Jq⟩)
   ·cases e
  ·rename_i ns
   obtain ⟨n,h1,rfl⟩:=AZ e
   obtain ⟨a,rfl,h2⟩:=Lk hu
   exact .inl ⟨a,_,i,_,rfl,Ai hv,by rw[<-hf];exact h2,Qo h1,q _ H rs .refl Ba⟩
  ·obtain ⟨xs,h1,e⟩:=bind_some e
   obtain ⟨a,vs,rfl,h3,h2⟩:=BC rs h1 hu
   obtain ⟨w,h4,h5⟩:=J7 h2 e
   exact .inl ⟨a,vs,i,w,rfl,Ai hv,SqL.of h3,h4,q w H rs .refl h5⟩
 ·cases e
@[simp] def Ap:Gm->List SV->Option D:=fun Γ xs=>match xs with
 | [.v (.tup xs)]=>some (.int xs.length)
 | [.v (.str z)]=>if z.length<=big then some (.int z.length) else none
 | [.v (.scr ns)]=>some (.int ns.length)
 | [x]=>(elems Γ x).map fun xs=>.int xs.length
 | _=>none
theorem PN:CaD X Ap (fun xs H Q=>∃ x n,xs=[x]/\Ko X.K x H n/\Q (.int n) H):=by
 intro f α s σ H xs us z Q hf rs hu e q
 unfold Ap at e
 split at e
 ·rename_i xs
  cases e
  obtain ⟨v,r,rfl,h1,h2⟩:=hu.cons_inv
  rw[h2.nil_inv]
  obtain ⟨a,vs,rfl,h3,h4⟩:=CV h1
  exact ⟨_,xs.length,rfl,.inr ⟨vs,SqT.of h3,h4.len.symm⟩,q _ H rs .refl Ba⟩
 ·rename_i z
  split at e
  ·rename_i hz
   cases e
   obtain ⟨v,r,rfl,h1,h2⟩:=hu.cons_inv
   rw[h2.nil_inv,Cw h1]
   exact ⟨_,z.length,rfl,⟨CM hz,rfl⟩,q _ H rs .refl Ba⟩
  ·cases e
 ·rename_i ns
  cases e
  obtain ⟨v,r,rfl,h1,h2⟩:=hu.cons_inv
  rw[h2.nil_inv]
  obtain ⟨a,rfl,h3⟩:=Lk h1
  exact ⟨_,ns.length,rfl,.inl ⟨_,by rw[<-hf];exact h3,by rw[List.length_map]⟩,q _ H rs .refl Ba⟩
 ·rename_i x _ _ _
  obtain ⟨xs,h0,rfl⟩:=AZ e
  obtain ⟨v,r,rfl,h1,h2⟩:=hu.cons_inv
  rw[h2.nil_inv]
  obtain ⟨a,vs,rfl,h3,h4⟩:=BC rs h0 h1
  exact ⟨_,xs.length,rfl,.inl ⟨vs,SqL.of h3,h4.len.symm⟩,q _ H rs .refl Ba⟩
 ·cases e
@[simp] def EM:Gm->List SV->Option D:=fun _ xs=>match xs with
 | [.v (.int i),.v (.int j)]=>some (.int (if j > i then j else i))
 | _=>none
@[simp] def EO:Gm->List SV->Option D:=fun _ xs=>match xs with
 | [.v (.int i),.v (.int j)]=>some (.int (if j<i then j else i))
 | _=>none
theorem NT:CaD X EM (fun xs H Q=>∃ i j,xs=[.int i,.int j]/\Q (.int (if j > i then j else i)) H):=by
 intro f α s σ H xs us z Q hf rs hu e q
 unfold EM at e
 split at e
 ·rename_i i j
  cases e
  obtain ⟨v,r,rfl,h1,h2⟩:=hu.cons_inv
  obtain ⟨v',r',rfl,h3,h4⟩:=h2.cons_inv
  rw[h4.nil_inv,Ai h1,Ai h3]
  exact ⟨i,j,rfl,q _ H rs .refl Ba⟩
 ·cases e
theorem Tt:CaD X EO (fun xs H Q=>∃ i j,xs=[.int i,.int j]/\Q (.int (if j<i then j else i)) H):=by
 intro f α s σ H xs us z Q hf rs hu e q
 unfold EO at e
 split at e
 ·rename_i i j
  cases e
  obtain ⟨v,r,rfl,h1,h2⟩:=hu.cons_inv
  obtain ⟨v',r',rfl,h3,h4⟩:=h2.cons_inv
  rw[h4.nil_inv,Ai h1,Ai h3]
  exact ⟨i,j,rfl,q _ H rs .refl Ba⟩
 ·cases e
@[simp] def CD:Gm->List SV->Option D:=fun _ xs=>match xs with
 | [.v (.int i)]=>some (.int i)
 | [.v (.bl k)]=>some (.int (if k then 1 else 0))
 | _=>none
theorem R7:CaD X CD (fun xs H Q=>(∃ i,xs=[.int i]/\Q (.int i) H)\/∃ k,xs=[.bl k]/\Q (.int (if k then 1 else 0)) H):=by
 intro f α s σ H xs us z Q hf rs hu e q
 unfold CD at e
 split at e
 ·rename_i i
  cases e
  obtain ⟨v,r,rfl,h1,h2⟩:=hu.cons_inv
  rw[h2.nil_inv,Ai h1]
  exact .inl ⟨i,rfl,q _ H rs .refl Ba⟩
 ·rename_i k
  cases e
  obtain ⟨v,r,rfl,h1,h2⟩:=hu.cons_inv
  rw[h2.nil_inv,Fl h1]
  exact .inr ⟨k,rfl,q _ H rs .refl Ba⟩
 ·cases e
@[simp] def CP:Gm->List SV->Option (List D):=fun Γ xs=>match xs with
 | [.v (.tup xs)]=>some xs
 | [x]=>elems Γ x
 | _=>none
theorem Qx:CaF X CP (fun xs H Q=>∃ p ys,xs=[.ref p]/\(SqL X.K H p ys\/SqT X.K H p ys)/\∀ l,H l=none->Q (.ref l) (upd H l (.lst ys))):=by
 intro f α s σ H xs us z Q hf rs hu e q
 unfold CP at e
 split at e
 ·rename_i xs
  cases e
  obtain ⟨v,r,rfl,h1,h2⟩:=hu.cons_inv
  rw[h2.nil_inv]
  obtain ⟨a,vs,rfl,h3,h4⟩:=CV h1
  exact ⟨a,vs,rfl,.inr (SqT.of h3),fun l hl=>q l vs hl h4⟩
 ·obtain ⟨v,r,rfl,h1,h2⟩:=hu.cons_inv
  rw[h2.nil_inv]
  obtain ⟨a,vs,rfl,h3,h4⟩:=BC rs e h1
  exact ⟨a,vs,rfl,.inl (SqL.of h3),fun l hl=>q l vs hl h4⟩
 ·cases e
def insI (i:Int):List Int->List Int
 | []=>[i]
 | j::r=>if i<=j then i::j::r else j::insI i r
def sortI:List Int->List Int
 | []=>[]
 | i::r=>insI i (sortI r)
theorem insI_perm (i:Int):∀ r:List Int,(insI i r).Perm (i::r)
 | []=>.refl _
 | j::r=>by
  unfold insI
  split
  ·exact .refl _
  ·exact ((insI_perm i r).cons j).trans (.swap i j r)
theorem sortI_perm:∀ r:List Int,(sortI r).Perm r
 | []=>.refl _
 | i::r=>(insI_perm i _).trans ((sortI_perm r).cons i)
theorem Mj (i:Int):∀ r:List Int,r.Pairwise (·<=·)->(insI i r).Pairwise (·<=·)
 | [],_=>List.pairwise_singleton _ _
 | j::r,h=>by
  unfold insI
  obtain ⟨h1,h2⟩:=List.pairwise_cons.mp h
  split
  ·rename_i c
   refine List.pairwise_cons.mpr ⟨fun k hk=>?_,h⟩
   rcases List.mem_cons.mp hk with rfl | hk
   ·exact c
   ·have:=h1 k hk;lia
  ·rename_i c
   refine List.pairwise_cons.mpr ⟨fun k hk=>?_,Mj i r h2⟩
   rcases List.mem_cons.mp ((insI_perm i r).mem_iff.mp hk) with rfl | hk
   ·lia
   ·exact h1 k hk
theorem J0:∀ r:List Int,(sortI r).Pairwise (·<=·)
 | []=>.nil
 | i::r=>Mj i _ (J0 r)
theorem Oo {xs ys:List Int} (p:xs.Perm ys) (hx:xs.Pairwise (·<=·)) (hy:ys.Pairwise (·<=·)):xs=ys:=
 p.eq_of_pairwise (fun a b _ _ h1 h2=>by lia) hx hy
def tupI (ns:List Int):D:=.tup (ns.map .int)
def Fb:List D->Option (List (List Int))
 | []=>some []
 | .tup xs::r=>(intsOf xs).bind fun ns=>if ns=[] then none else (Fb r).map (ns::·)
 | _=>none
theorem LZ:∀ {xs:List D} {nss:List (List Int)},Fb xs=some nss->xs=nss.map tupI/\∀ ns∈nss,ns≠[]
 | [],nss,e=>by cases e;exact ⟨rfl,fun _ h=>nomatch h⟩
 | .tup xs::r,nss,e=>by
  obtain ⟨ns,h1,e⟩:=bind_some (show (intsOf xs).bind _=some nss from e)
  split at e
  ·cases e
  ·rename_i hne
   obtain ⟨mss,h2,rfl⟩:=AZ e
   obtain ⟨h3,h4⟩:=LZ h2
   refine ⟨by rw[h3,CK h1];rfl,fun ks hk=>?_⟩
   rcases List.mem_cons.mp hk with rfl | hk
   ·exact hne
   ·exact h4 ks hk
 | .non::r,nss,e=>by cases e
 | .bl _::r,nss,e=>by cases e
 | .int _::r,nss,e=>by cases e
 | .str _::r,nss,e=>by cases e
 | .lst _::r,nss,e=>by cases e
 | .scr _::r,nss,e=>by cases e
theorem Jh:∀ {nss:List (List Int)},(∀ ns∈nss,ns≠[])->Fb (nss.map tupI)=some nss
 | [],_=>rfl
 | ns::r,h=>by
  show (intsOf (ns.map .int)).bind _=_
  rw[Gq]
  show (if ns=[] then none else _)=_
  rw[if_neg (h ns List.mem_cons_self),Jh fun ks hk=>h ks (List.mem_cons_of_mem _ hk)]
  rfl
def Dt (x:List Int):List (List Int)->List (List Int)
 | []=>[x]
 | y::r=>if HT.lexLt y x=true then y::Dt x r else x::y::r
def Au:List (List Int)->List (List Int)
 | []=>[]
 | x::r=>Dt x (Au r)
theorem Gy (x:List Int):∀ r,(Dt x r).Perm (x::r)
 | []=>.refl _
 | y::r=>by
  unfold Dt
  split
  ·exact ((Gy x r).cons y).trans (.swap x y r)
  ·exact .refl _
theorem B5:∀ r,(Au r).Perm r
 | []=>.refl _
 | x::r=>(Gy x _).trans ((B5 r).cons x)
abbrev Cv (r:List (List Int)):Prop:=r.Pairwise fun u v=>HT.lexLt v u=false
theorem Km (x:List Int):∀ r,Cv r->Cv (Dt x r)
 | [],_=>List.pairwise_singleton _ _
 | y::r,h=>by
  unfold Dt
  obtain ⟨h1,h2⟩:=List.pairwise_cons.mp h
  split
  ·rename_i c
   refine List.pairwise_cons.mpr ⟨fun k hk=>?_,Km x r h2⟩
   rcases List.mem_cons.mp ((Gy x r).mem_iff.mp hk) with rfl | hk
   ·exact EvS.Ib c
   ·exact h1 k hk
  ·rename_i c
   have c':HT.lexLt y x=false:=by cases hc:HT.lexLt y x with | false=>rfl | true=>exact absurd hc c
   refine List.pairwise_cons.mpr ⟨fun k hk=>?_,h⟩
   rcases List.mem_cons.mp hk with rfl | hk
   ·exact c'
   ·exact EvS.HE c' (h1 k hk)
theorem C5:∀ r,Cv (Au r)
 | []=>.nil
 | x::r=>Km x _ (C5 r)
theorem Dx {xs ys:List (List Int)} (p:xs.Perm ys) (hx:Cv xs) (hy:Cv ys):xs=ys:=
 p.eq_of_pairwise (fun a b _ _ h1 h2=>EvS.Kr h1 h2) hx hy
@[simp] def Dv:Gm->List SV->Option (List D):=fun Γ xs=>match xs with
 | [x]=>(elems Γ x).bind fun xs=>match intsOf xs with
  | some ns=>some ((sortI ns).map .int)
  | none=>(Fb xs).map fun nss=>(Au nss).map tupI
 | _=>none
def GL (K:PySem.W.Frag):List V->Hp->VK->Prop:=fun xs H Q=>(∃ p ns,xs=[.ref p]/\SqL K H p (ns.map V.int)/\∀ l (ms:List Int),H l=none->ms.Perm ns->ms.Pairwise (·<=·)->Q (.ref l) (upd H l (.lst (ms.map V.int))))\/J5 K xs H Q
theorem call_sortedA:CallR X (.builtin "sorted") (GL X.K):=call_sorted.or QY
theorem Hm {W:Wd} {ns:List Int} {v:V} (h:Rep W (tupI ns) v):∃ a,v=.ref a/\W.H a=some (.tup (ns.map V.int)):=by
 unfold tupI Rep at h
 obtain ⟨a,vs,e,_,h1,h2⟩:=h
 rw[h2.ints] at h1
 exact ⟨a,e,h1⟩
theorem Ky {W:Wd} {ns:List Int} {v:V} (h:Rep W (tupI ns) v):BV W.H v=ns:=by
 obtain ⟨a,rfl,h1⟩:=Hm h
 show (match W.H a with | some (.tup xs)=>xs.map GG | _=>[])=ns
 rw[h1]
 exact KM ns
theorem Iq {W:Wd}:∀ {nss:List (List Int)} {vs:List V},Reps W (nss.map tupI) vs->vs.map (BV W.H)=nss/\∀ v∈vs,Rep W (tupI (BV W.H v)) v
 | [],vs,h=>by rw[h.nil_inv];exact ⟨rfl,fun _ h=>nomatch h⟩
 | ns::r,vs,h=>by
  obtain ⟨v,q,rfl,h1,h2⟩:=Reps.cons_inv (d:=tupI ns) (ds:=r.map tupI) h
  obtain ⟨h3,h4⟩:=Iq h2
  refine ⟨by rw[List.map_cons,h3,Ky h1],fun u hu=>?_⟩
  rcases List.mem_cons.mp hu with rfl | hu
  ·rw[Ky h1];exact h1
  ·exact h4 u hu
theorem Gr {W:Wd}:∀ {ws:List V},(∀ v∈ws,Rep W (tupI (BV W.H v)) v)->Reps W ((ws.map (BV W.H)).map tupI) ws
 | [],_=>.nil
 | w::ws,h=>.cons (h w List.mem_cons_self) (Gr fun v hv=>h v (List.mem_cons_of_mem _ hv))
theorem SJ:CaF X Dv (GL X.K):=by
 intro f α s σ H xs us z Q hf rs hu e q
 unfold Dv at e
 split at e
 ·obtain ⟨xs,h0,e⟩:=bind_some e
  obtain ⟨v,r,rfl,h1,h2⟩:=hu.cons_inv
  rw[h2.nil_inv]
  obtain ⟨a,vs,rfl,h3,h4⟩:=BC rs h0 h1
  split at e
  ·rename_i ns h00
   cases e
   have:=CK h00
   subst this
   have:=h4.ints
   subst this
   refine .inl ⟨a,ns,rfl,SqL.of h3,fun l ms hl hp hs=>q l _ hl ?_⟩
   rw[Oo (hp.trans (sortI_perm ns).symm) hs (J0 ns)]
   exact Reps.of_ints
  ·obtain ⟨nss,h5,rfl⟩:=AZ e
   obtain ⟨h6,h7⟩:=LZ h5
   subst h6
   obtain ⟨n1,n2⟩:=Iq h4
   refine .inr ⟨a,vs,rfl,SqL.of h3,fun v hv=>?_,fun l ws hl hp hs=>q l _ hl ?_⟩
   ·obtain ⟨b,e1,e2⟩:=Hm (n2 v hv)
    exact ⟨b,_,e1,e2,h7 _ (by rw[<-n1];exact List.mem_map.mpr ⟨v,hv,rfl⟩)⟩
   ·have e1:ws.map (BV H)=Au nss:=Dx (((hp.map (BV H)).trans (by rw[n1])).trans (B5 nss).symm) (by rw[Cv,List.pairwise_map];exact hs) (C5 nss)
    rw[<-e1]
    exact Gr fun v hv=>n2 v (hp.mem_iff.mp hv)
 ·cases e
@[simp] def Aq (m:ME):MF:=fun s=>(m s).bind fun r=>match r.1 with
 | .v (.lst xs)=>some (xs,r.2)
 | .v (.tup xs)=>some (xs,r.2)
 | _=>none
variable {tg a b:Expr} {pos:Pos}
theorem PI.imp {src:Expr} {t t':TI} (h:PI X tg src t) (k:∀ σ H R,t' σ H R->t σ H R):PI X tg src t':=fun pins s σ H R I q=>h pins s σ H R I (k _ _ _ q)
theorem Dy {f:Fr} {α0 α:Nat->Addr} {Γ0 Γ:Gm} {H0 H Hh:Hp} {p:Addr} {vs:List V} {xs:List D} (x:Ext f α0 α Γ0 Γ H0 H) (hb:¬(f.F p\/BN Γ0 α0 p)) (h:H0 p=some (.lst vs)) (hx:Reps (wd f α0 Γ0 H0) xs vs) (sup:∀ a o,H a=some o->Hh a=some o) :
  Hh p=some (.lst vs)/\Reps (wd f α Γ H) xs vs:=⟨sup _ _ (x.kw.keep p _ hb h).1,hx.kw x.kw⟩
theorem Hz {f:Fr} {α0 α:Nat->Addr} {Γ0 Γ:Gm} {H0 H Hh:Hp} {p:Addr} {vs:List V} {xs:List D} (x:Ext f α0 α Γ0 Γ H0 H) (hb:¬(f.F p\/BN Γ0 α0 p)) (h:H0 p=some (.tup vs)) (hx:Reps (wd f α0 Γ0 H0) xs vs) (sup:∀ a o,H a=some o->Hh a=some o) :
  Hh p=some (.tup vs)/\Reps (wd f α Γ H) xs vs:=⟨sup _ _ (x.kw.keep p _ hb h).1,hx.kw x.kw⟩
theorem Bt {m:ME} (h:DE X a m):DI X tg a (Aq m):=fun f hf=>PI.imp (L2.PI.or (JV (h f hf)) (SC (h f hf))) fun σ H R hh_=>by
 obtain ⟨α,s,r,rs,lo,e,q⟩:=hh_
 obtain ⟨⟨x,s1⟩,h1,e⟩:=bind_some e
 simp only at e
 split at e
 ·rename_i xs
  cases e
  refine .inl ⟨α,s,_,rs,lo,h1,fun α' v H' rs' l' x' hv=>?_⟩
  have hv:Rep (wd f α' s1.Γ H') (.lst xs) v:=hv
  unfold Rep at hv
  obtain ⟨p,vs,rfl,hb,h2,h3⟩:=hv
  refine ⟨p,rfl,⟨vs,SqL.of h2⟩,q _ α' H' rs' l' x' ⟨?_,?_,?_⟩⟩
  ·intro i α2 s2 σ2 H2 Hh hi r2 x2 sup
   obtain ⟨g1,_⟩:=Dy x2 hb h2 h3 sup
   exact ⟨vs,vs[i]'(by rw[h3.len];exact hi),SqL.of g1,List.getElem?_eq_getElem _⟩
  ·intro i d y α2 s2 σ2 H2 Hh H3 hd r2 x2 sup yl
   obtain ⟨g1,g2⟩:=Dy x2 hb h2 h3 sup
   obtain ⟨rfl,yl⟩:=yl
   obtain ⟨w,w1,w2⟩:=g2.get hd
   have:=yl vs (SqL.of g1)
   rw[w1] at this
   cases this
   exact .inl ⟨rfl,w2⟩
  ·intro α2 s2 σ2 H2 Hh r2 x2 sup
   obtain ⟨g1,_⟩:=Dy x2 hb h2 h3 sup
   exact ⟨vs,SqL.of g1,by rw[h3.len];exact Nat.le_refl _⟩
 ·rename_i xs
  cases e
  refine .inr ⟨α,s,_,rs,lo,h1,fun α' v H' rs' l' x' hv=>?_⟩
  have hv:Rep (wd f α' s1.Γ H') (.tup xs) v:=hv
  unfold Rep at hv
  obtain ⟨p,vs,rfl,hb,h2,h3⟩:=hv
  refine ⟨p,rfl,⟨vs,SqT.of h2⟩,q _ α' H' rs' l' x' ⟨?_,?_,?_⟩⟩
  ·intro i α2 s2 σ2 H2 Hh hi r2 x2 sup
   obtain ⟨g1,_⟩:=Hz x2 hb h2 h3 sup
   exact ⟨vs,vs[i]'(by rw[h3.len];exact hi),SqT.of g1,List.getElem?_eq_getElem _⟩
  ·intro i d y α2 s2 σ2 H2 Hh H3 hd r2 x2 sup yl
   obtain ⟨g1,g2⟩:=Hz x2 hb h2 h3 sup
   obtain ⟨rfl,yl⟩:=yl
   obtain ⟨w,w1,w2⟩:=g2.get hd
   have:=yl vs (SqT.of g1)
   rw[w1] at this
   cases this
   exact .inl ⟨rfl,w2⟩
  ·intro α2 s2 σ2 H2 Hh r2 x2 sup
   obtain ⟨g1,_⟩:=Hz x2 hb h2 h3 sup
   exact ⟨vs,SqT.of g1,by rw[h3.len];exact Nat.le_refl _⟩
 ·cases e
def upTo (lo:Int):Nat->List D
 | 0=>[]
 | n+1=>.int lo::upTo (lo+1) n
theorem EA (lo:Int):∀ n,(upTo lo n).length=n:=by
 intro n
 induction n generalizing lo with
 | zero=>rfl
 | succ n ih=>unfold upTo;rw[List.length_cons,ih]
theorem MJ (lo:Int):∀ (n i:Nat),i<n->(upTo lo n)[i]?=some (.int (lo+i)):=by
 intro n
 induction n generalizing lo with
 | zero=>intro i h;exact absurd h (Nat.not_lt_zero _)
 | succ n ih=>
  intro i h
  cases i with
  | zero=>unfold upTo;simp
  | succ i=>
   unfold upTo
   rw[List.getElem?_cons_succ,ih (lo+1) i (Nat.lt_of_succ_lt_succ h)]
   congr 2
   lia
theorem TB {α0:Nat->Addr} {Γ0:Gm} {H0:Hp} (lo:Int) (n:Nat):DIt f (Itr lo n) (upTo lo n) α0 Γ0 H0:=by
 refine ⟨fun i _ _ _ _ _ hi _ _ _=>by rw[EA] at hi;exact hi,fun i d y α2 s2 σ2 H2 Hh H3 hd r2 x2 sup yl=>?_,fun _ _ _ _ _ _ _ _=>by show n<=(upTo lo n).length;rw[EA];exact Nat.le_refl _⟩
 obtain ⟨rfl,rfl⟩:=yl
 have hi:=(List.getElem?_eq_some_iff.mp hd).1
 rw[EA] at hi
 rw[MJ lo n i hi] at hd
 cases hd
 exact .inl ⟨rfl,Ba⟩
def okR (j:Int):Bool:=decide (j<2 ^ 62/\-(2 ^ 62)<=j)
theorem TF {j:Int} (h:-1000000<=j) (h2:j<=1000000):okR j=true:=decide_eq_true ⟨by lia,by lia⟩
@[simp] def C8 (ms:MA):MF:=fun s=>(ms s).bind fun r=>match r.1 with
 | [.v (.int j)]=>if okR j=true then some (upTo 0 j.toNat,r.2) else none
 | _=>none
theorem Hr {ms:MA} {p:Pos} (hg:Gl X "range") (hm:X.mg "range"=none) (ha:DA X [a] ms) (hs:starEach [a] X.env=[(false,eval a X.env)]:=by rfl):DI X tg (.Call (.Name "range" p) [a] [] pos) (C8 ms):=fun f hf=>PI.imp (UJ hg hm (ha f hf) hs) fun σ H R hh_=>by
 obtain ⟨α,s,r,rs,lo,e,q⟩:=hh_
 obtain ⟨⟨x,s1⟩,h1,e⟩:=bind_some e
 simp only at e
 split at e
 ·rename_i j
  split at e
  ·rename_i hj
   cases e
   refine ⟨α,s,_,rs,lo,h1,fun α' vs H' rs' l' x' hv=>?_⟩
   obtain ⟨v,r,rfl,h2,h3⟩:=hv.cons_inv
   rw[h3.nil_inv,Ai h2]
   have hj:=of_decide_eq_true hj
   exact ⟨j,rfl,hj.2,hj.1,q _ α' H' rs' l' x' (TB 0 _)⟩
  ·cases e
 ·cases e
def A8 (i:Int):List D->List D
 | []=>[]
 | d::r=>.tup [.int i,d]::A8 (i+1) r
theorem C3 (i:Int):∀ xs,(A8 i xs).length=xs.length:=by
 intro xs
 induction xs generalizing i with
 | nil=>rfl
 | cons d r ih=>unfold A8;rw[List.length_cons,List.length_cons,ih]
theorem DC (i:Int):∀ (xs:List D) (k:Nat) (d:D),(A8 i xs)[k]?=some d->∃ x,xs[k]?=some x/\d=.tup [.int (i+k),x]:=by
 intro xs
 induction xs generalizing i with
 | nil=>intro k d h;cases h
 | cons c r ih=>
  intro k d h
  cases k with
  | zero=>cases h;exact ⟨c,rfl,by simp⟩
  | succ k=>
   unfold A8 at h
   rw[List.getElem?_cons_succ] at h
   obtain ⟨x,h1,h2⟩:=ih (i+1) k d h
   refine ⟨x,h1,?_⟩
   rw[h2]
   congr 3
   lia
@[simp] def BR (ms:MA):MF:=fun s=>(ms s).bind fun r=>match r.1 with
 | [.v (.lst xs)]=>some (A8 0 xs,r.2)
 | _=>none
theorem Df {ms:MA} {p cp tp:Pos} {elts:List Expr} {k:Nat} (hg:Gl X "enumerate") (hm:X.mg "enumerate"=none) (ha:DA X [a] ms) (hs:starEach [a] X.env=[(false,eval a X.env)]:=by rfl):DI X (.Tuple elts k tp) (.Call (.Name "enumerate" p) [a] [] cp) (BR ms):=fun f hf=>PI.imp (IP hg hm (ha f hf) hs) fun σ H R hh_=>by
 obtain ⟨α,s,r,rs,lo,e,q⟩:=hh_
 obtain ⟨⟨x,s1⟩,h1,e⟩:=bind_some e
 simp only at e
 split at e
 ·rename_i xs
  cases e
  refine ⟨α,s,_,rs,lo,h1,fun α' vs H' rs' l' x' hv=>?_⟩
  obtain ⟨v,r,rfl,hv,h3⟩:=hv.cons_inv
  rw[h3.nil_inv]
  have hv:Rep (wd f α' s1.Γ H') (.lst xs) v:=hv
  unfold Rep at hv
  obtain ⟨p,vs,rfl,hb,h2,h3⟩:=hv
  refine ⟨p,vs,rfl,SqL.of h2,q _ α' H' rs' l' x' ⟨?_,?_,?_⟩⟩
  ·intro i α2 s2 σ2 H2 Hh hi r2 x2 sup
   obtain ⟨g1,_⟩:=Dy x2 hb h2 h3 sup
   rw[C3] at hi
   exact ⟨vs,vs[i]'(by rw[h3.len];exact hi),SqL.of g1,List.getElem?_eq_getElem _⟩
  ·intro i d y α2 s2 σ2 H2 Hh H3 hd r2 x2 sup yl
   obtain ⟨g1,g2⟩:=Dy x2 hb h2 h3 sup
   obtain ⟨T,w,hT,rfl,rfl,yl⟩:=yl
   obtain ⟨c,hc,rfl⟩:=DC 0 xs i d hd
   obtain ⟨w',w1,w2⟩:=g2.get hc
   have:=yl vs (SqL.of g1)
   rw[w1] at this
   cases this
   have hT2:H2 T=none:=by
    cases z:H2 T with
    | none=>rfl
    | some o=>rw[sup _ _ z] at hT;cases hT
   refine .inr ⟨T,_,hT,rfl,IW r2 hT2 (.cons ?_ (.cons w2 .nil))⟩
   unfold Rep
   simp
  ·intro α2 s2 σ2 H2 Hh r2 x2 sup
   obtain ⟨g1,_⟩:=Dy x2 hb h2 h3 sup
   exact ⟨vs,SqL.of g1,by rw[C3,h3.len];exact Nat.le_refl _⟩
 ·cases e
@[simp] def B6 (mo me:ME):ME:=fun s=>(mo s).bind fun x=>match x.1 with
 | .b n=>match x.2.Γ[n]? with
  | some (some _)=>(me x.2).bind fun y=>match y.1 with
   | .v d=>match y.2.Γ[n]? with
    | some (some xs)=>if xs.length<big then some (.v .non,{y.2 with Γ:=y.2.Γ.set n (some (xs++[d]))}) else none
    | _=>none
   | _=>none
  | _=>none
 | _=>none
theorem NU {mo me:ME} {Q:VK} (hf:f.K=X.K) (h:tD f (B6 mo me) σ H Q):tBM X.K "list" Mx (tD f mo) (Ku (tD f me) Jr) σ H Q:=by
 obtain ⟨α,s,r,rs,lo,e,q⟩:=h
 obtain ⟨⟨x,s1⟩,h1,e⟩:=bind_some e
 simp only at e
 split at e
 case h_2=>cases e
 rename_i n
 split at e
 case h_2=>cases e
 rename_i ys hys
 obtain ⟨⟨y,s2⟩,h2,e⟩:=bind_some e
 simp only at e
 split at e
 case h_2=>cases e
 rename_i d
 split at e
 case h_2=>cases e
 rename_i xs hxs
 split at e
 case isFalse=>cases e
 rename_i hz
 cases e
 refine ⟨α,s,_,rs,lo,h1,fun α1 u H1 rs1 l1 x1 hu=>?_⟩
 obtain ⟨us,g1,g2⟩:=rs1.box n ys hys
 refine ⟨?_,α1,s1,_,rs1,lo_le lo l1 x1,h2,fun α2 v H2 rs2 l2 x2 hv=>?_⟩
 ·rw[hu.2]
  exact .inl ⟨rfl,us,SqL.of g1⟩
 ·have hn:n<s1.Γ.length:=hu.1
  obtain ⟨ws,g3,g4⟩:=rs2.box n xs hxs
  refine ⟨α2 n,ws,v,by rw[hu.2,x2.al n hn],rfl,g3,by rw[g4.len];exact Ev.CW (Nat.le_of_lt hz),?_⟩
  exact q α2 .non _ (rs2.put hxs (g4.append (.cons hv .nil))) (l2.trans l1) ((x1.trans x2).trans (.put hxs)) (show RepV f α2 _ _ (.v .non) .non from L4)
end
section
variable {X:Cx} {f:Fr} {α:Nat->Addr} {s:DS} {σ:St} {H:Hp} {K:PySem.W.Frag} {a b c e:Expr} {ma mb mc:ME} {pos p cp apos:Pos} {es:List Expr} {ms:MA}
theorem BK (ha:DE X a ma) (hb:DE X b mb):DE X (.BinOp a .Add b pos) (mOp AY ma mb):=Dr Se TK ha hb
theorem Do (ha:DE X a ma) (hb:DE X b mb):DE X (.BinOp a .Sub b pos) (mOp Bf ma mb):=Dr O3 NK ha hb
theorem Eu (ha:DE X a ma) (hb:DE X b mb):DE X (.BinOp a .Mult b pos) (mOp CN ma mb):=Dr Ra N5 ha hb
theorem DN (ha:DE X a ma) (hb:DE X b mb):DE X (.BinOp a .FloorDiv b pos) (mOp BM ma mb):=Dr R4 Ss ha hb
theorem Cp (ha:DE X a ma) (hb:DE X b mb):DE X (.BinOp a .Mod b pos) (mOp BH ma mb):=Dr OP NC ha hb
theorem KG (ha:DE X a ma) (hb:DE X b mb):DE X (.BinOp a .Pow b pos) (mOp Dp ma mb):=Dr Rz Ny ha hb
theorem JR (ha:DE X a ma) (hb:DE X b mb):DF X (.BinOp a .Add b pos) (BI Ci ma mb):=Lc JQ UD ha hb
theorem Tc (hu:X.A.units<cLine) (ha:DE X a ma) (hb:DE X b mb):DE X (.Compare a [.Lt] [b] pos) (mOp Di ma mb):=Il (JD hu) Kn ha hb (Cz _)
theorem R1 (hu:X.A.units<cLine) (ha:DE X a ma) (hb:DE X b mb):DT X (.Compare a [.Lt] [b] pos) (Aw (mOp Di ma mb)):=FX (JD hu) Kn ha hb (Cz _)
theorem BE (ha:DE X a ma) (hb:DE X b mb) (hs:Hn b:=by exact fun _ _=>rfl):DE X (.Subscript a b pos) (mOp gIx ma mb):=QS Py R0 ha hb hs
open Ev (Nm)
variable {mg:Str->Option Value}
theorem Gw (T:Nm X.mg) (ha:DA X (e::es) ms) (hg:Gl X "list":=by rfl) (he:starEach (e::es) X.env=(false,eval e X.env)::starEach es X.env:=by rfl) (hpl:(backTo pos (starEach es X.env)).any (·.1)=false:=by rfl):DF X (.Call (.Name "list" p) (e::es) [] pos) (BL CP ms):=
 OZ KL Qx hg T.list PyProof.Rows.boot_list ha (by decide) (by decide) he hpl
theorem Bp (T:Nm X.mg) (ha:DA X (e::es) ms) (hg:Gl X "len":=by rfl) (he:starEach (e::es) X.env=(false,eval e X.env)::starEach es X.env:=by rfl) (hpl:(backTo pos (starEach es X.env)).any (·.1)=false:=by rfl):DE X (.Call (.Name "len" p) (e::es) [] pos) (AQ Ap ms):=
 FK Re PN hg T.len PySem.boot_len ha (by decide) (by decide) he hpl
theorem RI (T:Nm X.mg) (ha:DA X (e::es) ms) (hc:X.calm=true:=by rfl) (hg:Gl X "max":=by rfl) (he:starEach (e::es) X.env=(false,eval e X.env)::starEach es X.env:=by rfl) (hpl:(backTo pos (starEach es X.env)).any (·.1)=false:=by rfl):DE X (.Call (.Name "max" p) (e::es) [] pos) (AQ EM ms):=
 FK (Rk hc) NT hg T.max PyProof.Rows.boot_max ha (by decide) (by decide) he hpl
theorem Qj (T:Nm X.mg) (ha:DA X (e::es) ms) (hc:X.calm=true:=by rfl) (hg:Gl X "min":=by rfl) (he:starEach (e::es) X.env=(false,eval e X.env)::starEach es X.env:=by rfl) (hpl:(backTo pos (starEach es X.env)).any (·.1)=false:=by rfl):DE X (.Call (.Name "min" p) (e::es) [] pos) (AQ EO ms):=
 FK (TZ hc) Tt hg T.min PyProof.Rows.boot_min ha (by decide) (by decide) he hpl
theorem HC (T:Nm X.mg) (ha:DA X (e::es) ms) (hg:Gl X "int":=by rfl) (he:starEach (e::es) X.env=(false,eval e X.env)::starEach es X.env:=by rfl) (hpl:(backTo pos (starEach es X.env)).any (·.1)=false:=by rfl):DE X (.Call (.Name "int" p) (e::es) [] pos) (AQ CD ms):=
 ON OH R7 hg T.int PyProof.Rows.boot_int ha (by decide) (by decide) he hpl
theorem Eh {o:Expr} {mo me:ME} (ho:DE X o mo) (he:DE X e me) (hbase:attributeBase o "append" X.env (eval o X.env)=eval o X.env:=by rfl)
  (hfew:((backTo cp (starEach [e] X.env)).all (fun x=>!x.1) && (backToKw cp (keywordEach [] X.env)).all (fun x=>x.1.isSome)
   && decide ([e].length+([]:List Keyword).length+(if ([]:List Keyword).isEmpty then 0 else 1)<30))=true:=by rfl)
  (hline:(apos.endLine == cp.line)=true:=by rfl) (hs:starEach [e] X.env=(false,eval e X.env)::starEach [] X.env:=by rfl):DE X (.Call (.Attribute o "append" apos) [e] [] cp) (B6 mo me):=fun f hf=>
 PE.imp (Ex PySem.F.plainAttrs_list PySem.F.slot_list_append PySem.F.type_list_append Ir (ho f hf) (Ax (he f hf) BB hs) hbase hfew hline hs rfl) fun σ H Q h=>NU hf h
end
@[simp] def IS (mo mi me:ME):MS:=fun s=>(me s).bind fun z=>match z.1 with
 | .v d=>(mo z.2).bind fun x=>match x.1 with
  | .b n=>(mi x.2).bind fun y=>match y.1 with
   | .v (.int k)=>match y.2.Γ[n]? with
    | some (some xs)=>(ixN xs.length k).map fun j=>.nx {y.2 with Γ:=y.2.Γ.set n (some (xs.set j d))}
    | _=>none
   | _=>none
  | _=>none
 | _=>none
section
variable {X:Cx} {f:Fr} {α:Nat->Addr} {s:DS} {σ:St} {H:Hp} {o i e:Expr} {mo mi me:ME} {pos p:Pos}
theorem Ln (ho:DE X o mo) (hi:DE X i mi) (he:DE X e me) (hs:swapsWithSole [.Subscript o i p] e pos.line X.env=pure false:=by rfl) (hw:swappedStores [.Subscript o i p] e X.env=pure none:=by rfl)
  (h1:(assignEach [.Subscript o i p] X.env).map (·.2)=[assign (.Subscript o i p) X.env]:=by rfl) (hsub:∀ t,PG X (.Subscript o i p) t->PG X (.Subscript o i p) t:=by exact fun _ h=>h) (hpg:∀ to ti t,PE X o to->PE X i ti->GT X t->PG X (.Subscript o i p) (KH to ti t):=by exact fun to ti t h1 h2 h3=>Ts h1 h2 h3):DSt X (.Assign [.Subscript o i p] e pos) (IS mo mi me):=fun f hf=>
 PS.imp (Ph (he f hf) (hpg _ _ _ (ho f hf) (hi f hf) set_list) hs hw h1) fun E σ H hh_=>by
  obtain ⟨α,s,out,rs,lo,e0,q⟩:=hh_
  obtain ⟨⟨z,s1⟩,h1,e0⟩:=bind_some e0
  simp only at e0
  split at e0
  case h_2=>cases e0
  rename_i d
  obtain ⟨⟨x,s2⟩,h2,e0⟩:=bind_some e0
  simp only at e0
  split at e0
  case h_2=>cases e0
  rename_i n
  obtain ⟨⟨y,s3⟩,h3,e0⟩:=bind_some e0
  simp only at e0
  split at e0
  case h_2=>cases e0
  rename_i k
  split at e0
  case h_2=>cases e0
  rename_i xs hxs
  obtain ⟨j,hj,rfl⟩:=AZ e0
  refine ⟨α,s,_,rs,lo,h1,fun α1 v H1 rs1 l1 x1 hv=>⟨α1,s1,_,rs1,lo_le lo l1 x1,h2,fun α2 u H2 rs2 l2 x2 hu=>⟨α2,s2,_,rs2,lo_le (lo_le lo l1 x1) l2 x2,h3,fun α3 w H3 rs3 l3 x3 hw=>?_⟩⟩⟩
  obtain ⟨us,g1,g2⟩:=rs3.box n xs hxs
  refine ⟨α3 n,us,k,j,by rw[hu.2,x3.al n hu.1],Ai hw,g1,by rw[g2.len];exact hj,?_⟩
  exact q α3 σ _ (rs3.put hxs (Reps.set (Rep.kw (x2.trans x3).kw (show Rep _ d v from hv)) j g2)) (l3.trans (l2.trans l1)) (((x1.trans x2).trans x3).trans (.put hxs))
end
def emp:DS:=⟨[],[],0⟩
def frQ (K:PySem.W.Frag) (H:Hp):Fr:=⟨K,H,fun _=>False,fun _=>False,fun _ h=>h,fun _ h=>h.elim⟩
section
variable {P:Program} {w:World} {K:PySem.W.Frag} {mg:Str->Option Value} {base:Heap} {X:Cx} {pos:Pos}
theorem Q3 {H:Hp}:RS (frQ K H) (fun _=>0) emp [] H where
 len:=rfl
 slot:=fun i d h=>by cases h
 box:=fun n xs h=>by cases h
 own:=fun n xs h=>by cases h
 inj:=fun n m xs ys h=>by cases h
 fr:=fun b o h _=>h
 forb:=fun a h=>h.elim
theorem join_some {o:Option (Option (List D))} {xs:List D} (h:o.join=some xs):o=some (some xs):=by
 cases o with
 | none=>cases h
 | some o=>exact congrArg some h
end
section
variable {P:Program} {w:World} {K:PySem.W.Frag} {mg:Str->Option Value} {base:Heap} {f:Fr} {α α':Nat->Addr} {s s':DS} {σ σ':St} {H H':Hp} {X:Cx} {pos:Pos} {e:Expr}
end
section
variable {X:Cx} {f:Fr} {α:Nat->Addr} {s:DS} {σ:St} {H:Hp} {K:PySem.W.Frag} {a b c e:Expr} {ma mb mc:ME} {pos p p2 cp apos:Pos} {es:List Expr} {ms:MA} {lo hi:Option Expr} {ml mh:Option ME}
abbrev MO:=DS->Option (Option Int×DS)
@[simp] def Hw (o:Option ME):MO:=fun s=>match o with
 | none=>some (none,s)
 | some m=>(m s).bind fun x=>match x.1 with
  | .v (.int i)=>some (some i,x.2)
  | _=>none
def tDO (f:Fr) (m:MO):TO:=fun σ H Q=>∃ α s r,RS f α s σ H/\s.lo<=s.Γ.length/\m s=some r/\∀ α' H',RS f α' r.2 σ H'->r.2.lo=s.lo->Ext f α α' s.Γ r.2.Γ H H'->Q r.1 H'
def DO (X:Cx) (e:Option Expr) (m:Option ME):Prop:=∀ f:Fr,f.K=X.K->PO X e (tDO f (Hw m))
theorem PO.imp {o:Option Expr} {t t':TO} (h:PO X o t) (k:∀ σ H Q,t' σ H Q->t σ H Q):PO X o t':=fun pins s σ H Q I q=>h pins s σ H Q I (k _ _ _ q)
theorem Ho:DO X none none:=fun f hf=>PO.imp Qd fun σ H Q hh_=>by
 obtain ⟨α,s,r,rs,lo,e0,q⟩:=hh_
 cases e0
 exact q α H rs rfl .refl
theorem Er (h:DE X e ma):DO X (some e) (some ma):=fun f hf=>PO.imp (GV (h f hf)) fun σ H Q hh_=>by
 obtain ⟨α,s,r,rs,lo,e0,q⟩:=hh_
 obtain ⟨⟨x,s1⟩,h1,e0⟩:=bind_some (show (ma s).bind _=some r from e0)
 simp only at e0
 split at e0
 ·rename_i i
  cases e0
  exact ⟨α,s,_,rs,lo,h1,fun α' v H' rs' l' x' hv=>⟨i,Ai hv,q α' H' rs' l' x'⟩⟩
 ·cases e0
def Ei (z:Str) (l u:Option Int):Str:=if ((Builtin.Str.strSliceIndices l u 1 z.length).length == z.length)=true then z else ⟨((Builtin.Str.strSliceIndices l u 1 z.length).filterMap (z.cps[·]?)).toArray⟩
theorem NS (z:Str) (l u:Option Int):(Ei z l u).length<=z.length:=by
 unfold Ei
 split
 ·exact Nat.le_refl _
 ·show ((Builtin.Str.strSliceIndices l u 1 z.length).filterMap (z.cps[·]?)).toArray.size<=z.length
  rw[List.size_toArray]
  exact Nat.le_trans (List.length_filterMap_le _ _) (PyProof.Rows.indices_len_le _ _ z.length)
def TN:V->Option Int->Option Int->Hp->VK->Prop:=fun x l u H Q=>∃ z,x=.str z/\z.length<=sizeLine/\Q (.str (Ei z l u)) H
theorem KI {v:Value} {o:Option Int} (h:IsPart v o):∃ l:Option (Int×Tok),v=partValue l/\l.map (·.1)=o:=by
 cases h with
 | none=>exact ⟨none,rfl,rfl⟩
 | int i t=>exact ⟨some (i,t),rfl,rfl⟩
theorem S8:SlR X TN:=by
 intro pins s σ H x v vl vu lo hi sl Q I rx hs pl pu h
 obtain ⟨z,rfl,hz,q⟩:=h
 obtain ⟨t,rfl⟩:=rx
 obtain ⟨l,rfl,hl⟩:=KI pl
 obtain ⟨u,rfl,hu⟩:=KI pu
 obtain ⟨o,ho,hc,hd⟩:=hs
 refine ⟨"str",_,F.slot_str_getitem.lookup,typeIs_str s z t,wpAny_getItem_str_slice (l:=l) (u:=u) (st:=none) ⟨o,ho,hc,hd⟩ rfl ?_⟩
 unfold sliceMade
 have e1:slicePicked z l u none=Builtin.Str.strSliceIndices lo hi 1 z.length:=by unfold slicePicked;rw[hl,hu];rfl
 rw[e1]
 have e2:Ei z lo hi=if ((Builtin.Str.strSliceIndices lo hi 1 z.length).length == z.length)=true then z else ⟨((Builtin.Str.strSliceIndices lo hi 1 z.length).filterMap (z.cps[·]?)).toArray⟩:=rfl
 rw[e2] at q
 by_cases c:((Builtin.Str.strSliceIndices lo hi 1 z.length).length == z.length)=true
 ·rw[if_pos c] at q
  rw[if_pos (by simpa using c)]
  exact ⟨.str z,H,I,⟨_,rfl⟩,q⟩
 ·rw[if_neg c] at q
  rw[if_neg (by simpa using c)]
  refine ⟨?_,.str _,H,I.tok _,⟨_,rfl⟩,q⟩
  have:=NS z lo hi
  rw[e2,if_neg c] at this
  exact Nat.le_trans this hz
def cutD (xs:List D) (l u:Option Int):List D:=(xs.drop (HT.sIx xs.length 0 l)).take (HT.sIx xs.length xs.length u - HT.sIx xs.length 0 l)
theorem L3 {W:Wd} {xs:List D} {vs:List V} (h:Reps W xs vs) (l u:Option Int):Reps W (cutD xs l u) (DX vs l u):=by
 unfold cutD DX
 rw[h.len]
 exact (h.drop _).take _
@[simp] def gSl (Γ:Gm) (x:SV) (l u:Option Int):Option D:=match x with
 | .v (.str z)=>if z.length<=big then some (.str (Ei z l u)) else none
 | x=>(elems Γ x).map fun xs=>.lst (cutD xs l u)
@[simp] def mSl (m:ME) (l u:Option ME):ME:=fun s=>(m s).bind fun x=>(Hw l x.2).bind fun y=>(Hw u y.2).bind fun z=>(gSl z.2.Γ x.1 y.1 z.1).map fun d=>(.v d,z.2)
theorem GE (ha:DE X a ma) (hl:DO X lo ml) (hh:DO X hi mh):DE X (.Subscript a (.Slice lo hi none p2) pos) (mSl ma ml mh):=fun f hf=>
 PE.imp (J4 (sl_list.or S8) (ha f hf) (hl f hf) (hh f hf)) fun σ H Q hh_=>by
  obtain ⟨α,s,r,rs,lo,e0,q⟩:=hh_
  obtain ⟨x,h1,e0⟩:=bind_some e0
  obtain ⟨y,h2,e0⟩:=bind_some e0
  obtain ⟨z,h3,e0⟩:=bind_some e0
  obtain ⟨d,h4,rfl⟩:=AZ e0
  refine ⟨α,s,x,rs,lo,h1,fun α1 v H1 rs1 l1 x1 hv=>⟨α1,x.2,y,rs1,lo_le lo l1 x1,h2,fun α2 H2 rs2 l2 x2=>⟨α2,y.2,z,rs2,lo_le (lo_le lo l1 x1) l2 x2,h3,fun α3 H3 rs3 l3 x3=>?_⟩⟩⟩
  have hv3:=(hv.ext x2).ext x3
  unfold gSl at h4
  split at h4
  ·rename_i str hs
   split at h4
   case isFalse=>cases h4
   rename_i hz
   cases h4
   rw[hs] at hv3
   exact .inr ⟨str,Cw hv3,CM hz,q α3 _ H3 rs3 (l3.trans (l2.trans l1)) ((x1.trans x2).trans x3) (by show Rep (wd f α3 z.2.Γ H3) (.str _) (.str _);unfold Rep;rfl)⟩
  ·obtain ⟨xs,h5,rfl⟩:=AZ h4
   obtain ⟨p,vs,rfl,g1,g2⟩:=BC rs3 h5 hv3
   exact .inl ⟨p,vs,rfl,SqL.of g1,fun t ht=>q α3 _ _ (rs3.new ht) (l3.trans (l2.trans l1)) (((x1.trans x2).trans x3).trans (.new rs3 ht)) (D9 rs3 ht (L3 g2 _ _))⟩
end
end DL
namespace DL
open PySem L2
open Ev (Nm)
section
variable {X:Cx} {f:Fr} {α:Nat->Addr} {s:DS} {σ:St} {H:Hp} {K:PySem.W.Frag} {a b c e o tg:Expr} {ma mb mc mo me:ME} {pos p p2 cp apos tp:Pos} {es:List Expr} {ms:MA}
@[simp] def tyD:SV->String
 | .v .non=>"NoneType" | .v (.bl _)=>"bool" | .v (.int _)=>"int" | .v (.str _)=>"str" | .v (.lst _)=>"list" | .v (.tup _)=>"tuple" | .v (.scr _)=>"list" | .b _=>"list" | .p _ _=>"tuple"
theorem SK {x:SV} {v:V} (rs:RS f α s σ H) (h:RepV f α s.Γ H x v) (hl:∀ n,x=.b n->∃ xs,s.Γ[n]?=some (some xs)) (hs:∀ ns,x≠.v (.scr ns)):TyOf f.K H v (.type (tyD x)):=by
 cases x with
 | v d=>
  cases d with
  | non=>rw[Sf h];exact .non
  | bl b=>rw[Fl h];exact .bl b
  | int i=>rw[Ai h];exact .int i
  | str z=>rw[Cw h];exact .str z
  | lst xs=>
   have h:Rep (wd f α s.Γ H) (.lst xs) v:=h
   unfold Rep at h
   obtain ⟨a,vs,rfl,_,h1,_⟩:=h
   exact .lst h1
  | tup xs=>
   obtain ⟨a,vs,rfl,h1,_⟩:=CV h
   exact .tup h1
  | scr ns=>exact absurd rfl (hs ns)
 | b n=>
  obtain ⟨xs,hx⟩:=hl n rfl
  obtain ⟨vs,h1,_⟩:=rs.box n xs hx
  rw[h.2]
  exact .lst h1
 | p n d=>
  obtain ⟨_,a,w,rfl,_,h1,_⟩:=h
  exact .tup h1
@[simp] def FM (Γ:Gm):SV->Bool
 | .b n=>(Γ[n]?).join.isSome
 | .v (.scr _)=>false
 | _=>true
theorem LY {Γ:Gm} {x:SV} (h:FM Γ x=true):(∀ n,x=.b n->∃ xs,Γ[n]?=some (some xs))/\∀ ns,x≠.v (.scr ns):=by
 refine ⟨fun n e=>?_,fun ns e=>?_⟩
 ·subst e
  obtain ⟨xs,hx⟩:=Option.isSome_iff_exists.mp (show (Γ[n]?).join.isSome=true from h)
  exact ⟨xs,join_some hx⟩
 ·subst e;cases h
@[simp] def isT (T t:String):Option Bool:=
 if T="bool" then some (t == "bool") else if T="int" then some (t == "int" || t == "bool") else if T="str" then some (t == "str") else if T="list" then some (t == "list") else if T="tuple" then some (t == "tuple") else none
theorem SA (K:PySem.W.Frag) (x:SV):∀ (T:String) (b:Bool),isT T (tyD x)=some b->PySem.W.kitOne K (.type (tyD x)) (.type T)=some b:=by
 intro T b h
 unfold isT at h
 have all:∀ t∈["NoneType","bool","int","str","list","tuple"],PySem.W.kitOne K (.type t) (.type "bool")=some (t == "bool")/\PySem.W.kitOne K (.type t) (.type "int")=some (t == "int" || t == "bool")/\PySem.W.kitOne K (.type t) (.type "str")=some (t == "str")/\PySem.W.kitOne K (.type t) (.type "list")=some (t == "list")/\PySem.W.kitOne K (.type t) (.type "tuple")=some (t == "tuple"):=by
  intro t ht
  simp only[List.mem_cons,List.not_mem_nil,or_false] at ht
  rcases ht with rfl | rfl | rfl | rfl | rfl | rfl<;>exact ⟨by kernel_rfl,by kernel_rfl,by kernel_rfl,by kernel_rfl,by kernel_rfl⟩
 have mem:tyD x∈["NoneType","bool","int","str","list","tuple"]:=by
  cases x with
  | v d=>cases d<;>simp[tyD]
  | b n=>simp[tyD]
  | p n d=>simp[tyD]
 obtain ⟨h1,h2,h3,h4,h5⟩:=all _ mem
 split at h
 ·rename_i e;subst e;cases h;exact h1
 ·split at h
  ·rename_i e;subst e;cases h;exact h2
  ·split at h
   ·rename_i e;subst e;cases h;exact h3
   ·split at h
    ·rename_i e;subst e;cases h;exact h4
    ·split at h
     ·rename_i e;subst e;cases h;exact h5
     ·cases h
@[simp] def DU (T:String) (m:ME):ME:=fun s=>(m s).bind fun x=>if FM x.2.Γ x.1=true then (isT T (tyD x.1)).map fun b=>(.v (.bl b),x.2) else none
theorem UH (T:String) {y:Str} (N:Nm X.mg) (ha:DE X a ma) (hT:PE X (.Name y p2) (tC (.ty T))) (hg:Gl X "isinstance":=by rfl) (he:starEach [a,.Name y p2] X.env=(false,eval a X.env)::starEach [.Name y p2] X.env:=by rfl) (he2:starEach [.Name y p2] X.env=(false,eval (.Name y p2) X.env)::starEach [] X.env:=by rfl) (hpl:(backTo pos (starEach [.Name y p2] X.env)).any (·.1)=false:=by rfl) :
  DE X (.Call (.Name "isinstance" p) [a,.Name y p2] [] pos) (DU T ma):=fun f hf=>
 PE.imp (Fi Pm hg N.isi PyProof.Rows.boot_isinstance (Ax (ha f hf) (Ax hT BB he2) he) (by decide) (by decide) he hpl) fun σ H Q hh_=>by
  obtain ⟨α,s,r,rs,lo,e0,q⟩:=hh_
  obtain ⟨x,h1,e0⟩:=bind_some e0
  split at e0
  case isFalse=>cases e0
  rename_i hl
  obtain ⟨k,h2,rfl⟩:=AZ e0
  refine ⟨α,s,x,rs,lo,h1,fun α1 v H1 rs1 l1 x1 hv=>?_⟩
  refine ⟨v,T,tyD x.1,k,rfl,?_,SA X.K x.1 T k h2,q α1 _ H1 rs1 l1 x1 QH⟩
  rw[<-hf]
  exact SK rs1 hv (LY hl).1 (LY hl).2
theorem Lu (N:Nm X.mg) (ha:DE X a ma) (hg:Gl X "isinstance":=by rfl) (hg2:Gl X "list":=by rfl) (he:starEach [a,.Name "list" p2] X.env=(false,eval a X.env)::starEach [.Name "list" p2] X.env:=by rfl) (he2:starEach [.Name "list" p2] X.env=(false,eval (.Name "list" p2) X.env)::starEach [] X.env:=by rfl) (hpl:(backTo pos (starEach [.Name "list" p2] X.env)).any (·.1)=false:=by rfl):DE X (.Call (.Name "isinstance" p) [a,.Name "list" p2] [] pos) (DU "list" ma):=UH "list" N ha (QE (v:=.ty "list") hg2 N.list PyProof.Rows.boot_list rfl) hg he he2 hpl
@[simp] def Ed (mo me:ME):ME:=fun s=>(mo s).bind fun x=>match x.1 with
 | .b n=>match x.2.Γ[n]? with
  | some (some _)=>(me x.2).bind fun y=>match y.1 with
   | .v (.lst zs)=>match y.2.Γ[n]? with
    | some (some xs)=>if xs.length+zs.length<=big then some (.v .non,{y.2 with Γ:=y.2.Γ.set n (some (xs++zs))}) else none
    | _=>none
   | _=>none
  | _=>none
 | _=>none
theorem Mz (ho:DE X o mo) (he:DE X e me) (hbase:attributeBase o "extend" X.env (eval o X.env)=eval o X.env:=by rfl)
  (hfew:((backTo cp (starEach [e] X.env)).all (fun x=>!x.1) && (backToKw cp (keywordEach [] X.env)).all (fun x=>x.1.isSome)
   && decide ([e].length+([]:List Keyword).length+(if ([]:List Keyword).isEmpty then 0 else 1)<30))=true:=by rfl)
  (hline:(apos.endLine == cp.line)=true:=by rfl) (hs:starEach [e] X.env=(false,eval e X.env)::starEach [] X.env:=by rfl):DE X (.Call (.Attribute o "extend" apos) [e] [] cp) (Ed mo me):=fun f hf=>
 PE.imp (Ex PySem.F.plainAttrs_list PySem.F.slot_list_extend PySem.F.type_list_extend LQ (ho f hf) (Ax (he f hf) BB hs) hbase hfew hline hs rfl) fun σ H Q hh_=>by
  obtain ⟨α,s,r,rs,lo,e0,q⟩:=hh_
  obtain ⟨⟨x,s1⟩,h1,e0⟩:=bind_some e0
  simp only at e0
  split at e0
  case h_2=>cases e0
  rename_i n
  split at e0
  case h_2=>cases e0
  rename_i ys hys
  obtain ⟨⟨y,s2⟩,h2,e0⟩:=bind_some e0
  simp only at e0
  split at e0
  case h_2=>cases e0
  rename_i zs
  split at e0
  case h_2=>cases e0
  rename_i xs hxs
  split at e0
  case isFalse=>cases e0
  rename_i hz
  cases e0
  refine ⟨α,s,_,rs,lo,h1,fun α1 u H1 rs1 l1 x1 hu=>?_⟩
  obtain ⟨us,g1,g2⟩:=rs1.box n ys hys
  refine ⟨?_,α1,s1,_,rs1,lo_le lo l1 x1,h2,fun α2 v H2 rs2 l2 x2 hv=>?_⟩
  ·rw[hu.2]
   exact .inl ⟨rfl,us,SqL.of g1⟩
  ·have hn:n<s1.Γ.length:=hu.1
   obtain ⟨ws,g3,g4⟩:=rs2.box n xs hxs
   have hv:Rep (wd f α2 s2.Γ H2) (.lst zs) v:=hv
   unfold Rep at hv
   obtain ⟨b,bs,rfl,_,b1,b2⟩:=hv
   refine ⟨α2 n,b,ws,bs,by rw[hu.2,x2.al n hn],rfl,g3,b1,by rw[g4.len,b2.len];exact CM hz,?_⟩
   exact q α2 .non _ (rs2.put hxs (g4.append b2)) (l2.trans l1) ((x1.trans x2).trans (.put hxs)) L4
abbrev FA:=gI0 fun i j=>i+j
theorem PJ:OpD X FA (ipI fun i j=>i+j):=by
 intro f α s σ H x y u v z Q hf rs hu hv e q
 unfold FA gI0 at e
 split at e
 ·rename_i i j
  cases e
  exact ⟨i,j,Ai hu,Ai hv,q _ H rs .refl Ba⟩
 ·cases e
end
mutual
def toP:D->PyData
 | .non=>.none
 | .bl b=>.bool b
 | .int i=>.int i
 | .str x=>.str x
 | .lst xs=>.list (Bu xs)
 | .tup xs=>.tuple (Bu xs)
 | .scr ns=>.list (ns.map .int)
def Bu:List D->List PyData
 | []=>[]
 | d::ds=>toP d::Bu ds
end
def Af:Nat->D->Bool
 | _,.non=>true
 | _,.bl _=>true
 | _,.int _=>true
 | _,.str x=>PyData.canLay0 (.str x)
 | 0,.lst _=>false
 | 0,.tup _=>false
 | 0,.scr _=>false
 | n+1,.lst xs=>xs.all (Af n)
 | n+1,.tup xs=>xs.all (Af n)
 | _+1,.scr _=>true
theorem MQ:∀ ns:List Int,PyData.canLayAll0 (ns.map .int)=true/\PyData.depthAll (ns.map .int)=0
 | []=>⟨by simp[PyData.canLayAll0],by simp[PyData.depthAll]⟩
 | n::ns=>by
  obtain ⟨h1,h2⟩:=MQ ns
  exact ⟨by simp[PyData.canLayAll0,PyData.canLay0,h1],by simp[PyData.depthAll,PyData.depth,h2]⟩
theorem Gx {n:Nat} (ih:∀ d,Af n d=true->(toP d).canLay0=true/\(toP d).depth<=n):∀ xs:List D,xs.all (Af n)=true->PyData.canLayAll0 (Bu xs)=true/\PyData.depthAll (Bu xs)<=n
 | [],_=>⟨by simp[Bu,PyData.canLayAll0],by simp[Bu,PyData.depthAll]⟩
 | d::ds,h=>by
  rw[List.all_cons,Bool.and_eq_true] at h
  obtain ⟨a1,a2⟩:=ih d h.1
  obtain ⟨b1,b2⟩:=Gx ih ds h.2
  exact ⟨by simp[Bu,PyData.canLayAll0,a1,b1],by simp only[Bu,PyData.depthAll];lia⟩
theorem Dm:∀ (n:Nat) (d:D),Af n d=true->(toP d).canLay0=true/\(toP d).depth<=n
 | n,.non,_=>⟨by simp[toP,PyData.canLay0],by simp[toP,PyData.depth]⟩
 | n,.bl _,_=>⟨by simp[toP,PyData.canLay0],by simp[toP,PyData.depth]⟩
 | n,.int _,_=>⟨by simp[toP,PyData.canLay0],by simp[toP,PyData.depth]⟩
 | n,.str x,h=>⟨by unfold Af at h;unfold toP;exact h,by simp[toP,PyData.depth]⟩
 | 0,.lst _,h=>by unfold Af at h;cases h
 | 0,.tup _,h=>by unfold Af at h;cases h
 | 0,.scr _,h=>by unfold Af at h;cases h
 | n+1,.lst xs,h=>by
  unfold Af at h
  obtain ⟨a,b⟩:=Gx (Dm n) xs h
  exact ⟨by simpa [toP,PyData.canLay0] using a,by simp only[toP,PyData.depth];lia⟩
 | n+1,.tup xs,h=>by
  unfold Af at h
  obtain ⟨a,b⟩:=Gx (Dm n) xs h
  exact ⟨by simpa [toP,PyData.canLay0] using a,by simp only[toP,PyData.depth];lia⟩
 | n+1,.scr ns,h=>by
  obtain ⟨a,b⟩:=MQ ns
  exact ⟨by simpa [toP,PyData.canLay0] using a,by simp only[toP,PyData.depth];lia⟩
section
variable {X:Cx} {pins:List (Addr×Obj)} {σ:St} {s:Shared} {W:Wd}
theorem KC:∀ {ns:List Int} {us:List Value},Vals (ns.map V.int) us->∃ as,ReadsAll s.heap us (ns.map PyData.int) as
 | [],_,h=>by cases h;exact ⟨_,.nil⟩
 | n::ns,_,h=>by
  cases h with
  | cons r t=>
   obtain ⟨k,rfl⟩:=r
   obtain ⟨as,h⟩:=KC t
   exact ⟨_,.cons (.int n k) h⟩
mutual
theorem Ej (I:Inv X pins σ W.H s) (hk:W.K=X.K):∀ {d:D} {v:V} {u:Value},Rep W d v->RelV v u->∃ as,Reads s.heap u (toP d) as
 | .non,v,u,h,r=>by
  unfold Rep at h;subst h;cases (show u=_ from r);unfold toP;exact ⟨_,.none⟩
 | .bl b,v,u,h,r=>by
  unfold Rep at h;subst h;cases (show u=_ from r);unfold toP;exact ⟨_,.bool b⟩
 | .int i,v,u,h,r=>by
  unfold Rep at h;subst h;obtain ⟨t,rfl⟩:=(show ∃ t,u=Value.int i t from r);unfold toP;exact ⟨_,.int i t⟩
 | .str i,v,u,h,r=>by
  unfold Rep at h;subst h;obtain ⟨t,rfl⟩:=(show ∃ t,u=Value.str i t from r);unfold toP;exact ⟨_,.str i t⟩
 | .lst xs,v,u,h,r=>by
  unfold Rep at h
  obtain ⟨a,vs,rfl,_,h1,h2⟩:=h
  cases (show u=_ from r)
  obtain ⟨its,ri,⟨o,n,e1,e2,_,e3⟩,_⟩:=I.list (SqL.of h1)
  obtain ⟨as,q⟩:=Hv I hk h2 ri
  unfold toP
  exact ⟨_,.list e1 e2 e3 q⟩
 | .tup xs,v,u,h,r=>by
  unfold Rep at h
  obtain ⟨a,vs,rfl,_,h1,h2⟩:=h
  cases (show u=_ from r)
  obtain ⟨its,ri,⟨o,e1,e2,n,e3⟩,_⟩:=I.tuple (SqT.of h1)
  obtain ⟨as,q⟩:=Hv I hk h2 ri
  unfold toP
  exact ⟨_,.tuple e1 e2 e3 q⟩
 | .scr ns,v,u,h,r=>by
  unfold Rep at h
  obtain ⟨a,rfl,h⟩:=h
  cases (show u=_ from r)
  have hs:SqL X.K W.H a (ns.map V.int):=by
   rcases h with ⟨_,h⟩ | h
   ·exact .inl h
   ·rw[<-hk];exact h _
  obtain ⟨its,ri,⟨o,n,e1,e2,_,e3⟩,_⟩:=I.list hs
  obtain ⟨as,q⟩:=KC (s:=s) ri
  unfold toP
  exact ⟨_,.list e1 e2 e3 q⟩
theorem Hv (I:Inv X pins σ W.H s) (hk:W.K=X.K):∀ {ds:List D} {vs:List V} {us:List Value},Reps W ds vs->Vals vs us->∃ as,ReadsAll s.heap us (Bu ds) as
 | [],vs,us,h,r=>by
  cases h.nil_inv;cases r;unfold Bu;exact ⟨_,.nil⟩
 | d::ds,vs,us,h,r=>by
  obtain ⟨v,q,rfl,h1,h2⟩:=h.cons_inv
  cases r with
  | cons r1 r2=>
   obtain ⟨as,a⟩:=Ej I hk h1 r1
   obtain ⟨bs,b⟩:=Hv I hk h2 r2
   unfold Bu
   exact ⟨_,.cons a b⟩
end
end
def deq (d e:D):Bool:=PyData.eqv (toP d) (toP e)
@[simp] def treeOf (Γ:Gm):SV->Option D
 | .v d=>some d
 | .b n=>((Γ[n]?).join).map .lst
 | .p n d=>((Γ[n]?).join).map fun xs=>.tup [.lst xs,d]
@[simp] def El:Gm->SV->SV->Option Bool:=fun Γ x y=>match treeOf Γ x,treeOf Γ y with
 | some d,some e=>if Af 6 d && Af 6 e then some (deq d e) else none
 | _,_=>none
@[simp] def HI:Gm->SV->SV->Option D:=fun Γ x y=>(El Γ x y).map .bl
@[simp] def Gz:Gm->SV->SV->Option D:=fun Γ x y=>(El Γ x y).map fun b=>.bl !b
def Fh (K:PySem.W.Frag):R2:=fun x y H Q=>∃ (W:Wd) (d e:D),W.K=K/\W.H=H/\Rep W d x/\Rep W e y/\Af 6 d=true/\Af 6 e=true/\Q (.bl (deq d e)) H
def Fy (K:PySem.W.Frag):R2:=fun x y H Q=>∃ (W:Wd) (d e:D),W.K=K/\W.H=H/\Rep W d x/\Rep W e y/\Af 6 d=true/\Af 6 e=true/\Q (.bl (!deq d e)) H
section
variable {X:Cx} {f:Fr} {α:Nat->Addr} {s:DS} {σ:St} {H:Hp} {a b:Expr} {ma mb:ME} {pos:Pos}
theorem O7 (hu:X.A.units+64<cLine):OpR X (compareOp .Eq) (Fh X.K):=by
 intro pins s σ H x y v u Q I rx ry h
 obtain ⟨W,d,e,hk,rfl,hd,he,s1,s2,k⟩:=h
 obtain ⟨as,r1⟩:=Ej I hk hd rx
 obtain ⟨bs,r2⟩:=Ej I hk he ry
 obtain ⟨a1,a2⟩:=Dm _ _ s1
 obtain ⟨b1,b2⟩:=Dm _ _ s2
 exact SeqAt.compareEq_reads r1 r2 a1 b1 (by lia) ⟨.bl (deq d e),W.H,I,rfl,k⟩
theorem RU (hu:X.A.units+64<cLine):OpR X (compareOp .NotEq) (Fy X.K):=by
 intro pins s σ H x y v u Q I rx ry h
 obtain ⟨W,d,e,hk,rfl,hd,he,s1,s2,k⟩:=h
 obtain ⟨as,r1⟩:=Ej I hk hd rx
 obtain ⟨bs,r2⟩:=Ej I hk he ry
 obtain ⟨a1,a2⟩:=Dm _ _ s1
 obtain ⟨b1,b2⟩:=Dm _ _ s2
 exact SeqAt.rcNeAt_reads r1 r2 a1 b1 (by lia) X.prog X.w _ _ ⟨.bl (!deq d e),W.H,I,rfl,k⟩
theorem E2 (W:Wd):Kw W ⟨W.K,fun _=>False,W.H⟩:=⟨rfl,fun _ _ _ e=>⟨e,fun h=>h⟩⟩
theorem KF {x:SV} {d:D} {v:V} (rs:RS f α s σ H) (h:treeOf s.Γ x=some d) (r:RepV f α s.Γ H x v):Rep ⟨f.K,fun _=>False,H⟩ d v:=by
 unfold treeOf at h
 split at h
 ·cases h
  exact Rep.kw (E2 (wd f α s.Γ H)) r
 ·rename_i n
  obtain ⟨xs,hx,rfl⟩:=AZ h
  obtain ⟨p,vs,rfl,h1,h2⟩:=BC (d:=.b n) rs hx r
  unfold Rep
  exact ⟨p,vs,rfl,fun h=>h,h1,Reps.kw (E2 (wd f α s.Γ H)) h2⟩
 ·rename_i n e
  obtain ⟨xs,hx,rfl⟩:=AZ h
  obtain ⟨hn,p,w,rfl,_,h1,h2⟩:=r
  obtain ⟨q,vs,hq,h3,h4⟩:=BC (d:=.b n) rs hx ⟨hn,rfl⟩
  unfold Rep
  refine ⟨p,_,rfl,fun h=>h,h1,.cons ?_ (.cons (Rep.kw (E2 (wd f α s.Γ H)) h2) .nil)⟩
  unfold Rep
  exact ⟨q,vs,hq,fun h=>h,h3,Reps.kw (E2 (wd f α s.Γ H)) h4⟩
theorem Jf {x y:SV} {b:Bool} {u v:V} (hf:f.K=X.K) (rs:RS f α s σ H) (hu:RepV f α s.Γ H x u) (hv:RepV f α s.Γ H y v) (h:El s.Γ x y=some b) :
  ∃ (W:Wd) (d e:D),W.K=X.K/\W.H=H/\Rep W d u/\Rep W e v/\Af 6 d=true/\Af 6 e=true/\deq d e=b:=by
 unfold El at h
 split at h
 ·rename_i d e h1 h2
  split at h
  ·rename_i hs
   cases h
   rw[Bool.and_eq_true] at hs
   exact ⟨_,d,e,hf,rfl,KF rs h1 hu,KF rs h2 hv,hs.1,hs.2,rfl⟩
  ·cases h
 ·cases h
theorem Ot:OpD X HI (Fh X.K):=by
 intro f α s σ H x y u v z Q hf rs hu hv e q
 obtain ⟨b,hb,rfl⟩:=AZ e
 obtain ⟨W,d,c,h1,h2,h3,h4,h5,h6,rfl⟩:=Jf hf rs hu hv hb
 exact ⟨W,d,c,h1,h2,h3,h4,h5,h6,q _ H rs .refl Bv⟩
theorem PU:OpD X Gz (Fy X.K):=by
 intro f α s σ H x y u v z Q hf rs hu hv e q
 obtain ⟨b,hb,rfl⟩:=AZ e
 obtain ⟨W,d,c,h1,h2,h3,h4,h5,h6,rfl⟩:=Jf hf rs hu hv hb
 exact ⟨W,d,c,h1,h2,h3,h4,h5,h6,q _ H rs .refl Bv⟩
@[simp] def BP:Gm->SV->SV->Option D:=fun Γ x y=>match gEq Γ x y with
 | some z=>some z
 | none=>HI Γ x y
@[simp] def BX:Gm->SV->SV->Option D:=fun Γ x y=>match gNe Γ x y with
 | some z=>some z
 | none=>Gz Γ x y
theorem KR:OpD X BP (fun x y H Q=>E9 X.K x y H Q\/Fh X.K x y H Q):=by
 intro f α s σ H x y u v z Q hf rs hu hv e q
 unfold BP at e
 split at e
 ·rename_i z' hz
  cases e
  exact .inl (Np f α s σ H x y u v z Q hf rs hu hv hz q)
 ·exact .inr (Ot f α s σ H x y u v z Q hf rs hu hv e q)
theorem Qc:OpD X BX (fun x y H Q=>E3 X.K x y H Q\/Fy X.K x y H Q):=by
 intro f α s σ H x y u v z Q hf rs hu hv e q
 unfold BX at e
 split at e
 ·rename_i z' hz
  cases e
  exact .inl (UC f α s σ H x y u v z Q hf rs hu hv hz q)
 ·exact .inr (PU f α s σ H x y u v z Q hf rs hu hv e q)
theorem L7 (hu:X.A.units+64<cLine):OpR X (compareOp .Eq) (fun x y H Q=>E9 X.K x y H Q\/Fh X.K x y H Q):=(Tj (by lia)).or (O7 hu)
theorem Rl (hu:X.A.units+64<cLine):OpR X (compareOp .NotEq) (fun x y H Q=>E3 X.K x y H Q\/Fy X.K x y H Q):=(N2 (by lia)).or (RU hu)
theorem Je (hu:X.A.units+64<cLine) (ha:DE X a ma) (hb:DE X b mb):DE X (.Compare a [.Eq] [b] pos) (mOp BP ma mb):=Il (L7 hu) KR ha hb (Cz _)
theorem JE (hu:X.A.units+64<cLine) (ha:DE X a ma) (hb:DE X b mb):DT X (.Compare a [.Eq] [b] pos) (Aw (mOp BP ma mb)):=FX (L7 hu) KR ha hb (Cz _)
theorem C2 (hu:X.A.units+64<cLine) (ha:DE X a ma) (hb:DE X b mb):DT X (.Compare a [.NotEq] [b] pos) (Aw (mOp BX ma mb)):=FX (Rl hu) Qc ha hb (Cz _)
end
theorem RL {n:Nat} {d:D} (h:Af n d=true):deq d d=true:=SeqAt.eqv_refl _ (Dm n d h).1
end DL
namespace DL
open PySem L2
open Ev (Nm)
section
variable {X:Cx} {f:Fr} {α:Nat->Addr} {s:DS} {σ:St} {H:Hp} {a b e:Expr} {ma mb:ME} {pos p:Pos} {es:List Expr} {ms:MA}
end
end DL
namespace DL
open PySem L2
open PyProof.Rows (IntsAre boot_sum)
section
variable {X:Cx} {f:Fr} {α:Nat->Addr} {s:DS} {σ:St} {H:Hp} {a b e:Expr} {ma mb:ME} {pos p:Pos} {es:List Expr} {ms:MA}
theorem intsAre_of:∀ {ns:List Int} {us:List Value},Vals (ns.map V.int) us->IntsAre us ns
 | [],_,h=>by cases h;exact .nil
 | n::ns,_,h=>by
  cases h with
  | cons r t=>
   obtain ⟨k,rfl⟩:=r
   exact .cons n k (intsAre_of t)
theorem Nq (hc:X.calm=true):CallR X (.builtin "sum") (fun xs H Q=>∃ (p:Addr) (ns:List Int),xs=[.ref p]/\SqL X.K H p (ns.map V.int)/\Q (.int ns.sum) H):=by
 intro pins s σ H xs us Q I r h
 obtain ⟨p,ns,rfl,hq,q⟩:=h
 obtain ⟨u,rfl,rx⟩:=vals1 r
 cases rx
 obtain ⟨its,ri,pl,hz⟩:=I.list hq
 have hi:=intsAre_of ri
 have hn:=hi.numsOf
 obtain ⟨xs,hx⟩:=hi.allInts.items
 have hl:=pl.isList
 rw[hx] at hl
 refine sum_intListG (I.ok.hd hc) hl fun h' tk t' hk=>⟨.int ns.sum,H,I.kept hk,⟨t',?_⟩,q⟩
 rw[preSum_eq,List.take_of_length_le (by simp),<-hn]
 have:its=(intItems xs).toList:=by rw[<-hx]
 rw[this,nums_intItems]
@[simp] def De:Gm->List SV->Option D:=fun Γ xs=>match xs with
 | [x]=>match elems Γ x with
  | some xs=>(intsOf xs).map fun ns=>.int ns.sum
  | _=>none
 | _=>none
theorem QG:CaD X De (fun xs H Q=>∃ (p:Addr) (ns:List Int),xs=[.ref p]/\SqL X.K H p (ns.map V.int)/\Q (.int ns.sum) H):=by
 intro f α s σ H xs us z Q hf rs hu e q
 unfold De at e
 split at e
 ·rename_i x
  split at e
  ·rename_i ys hy
   obtain ⟨ns,hn,rfl⟩:=AZ e
   obtain ⟨v,r,rfl,h1,h2⟩:=hu.cons_inv
   rw[h2.nil_inv]
   obtain ⟨a,vs,rfl,h3,h4⟩:=BC rs hy h1
   rw[CK hn] at h4
   rw[h4.ints] at h3
   exact ⟨a,ns,rfl,SqL.of h3,q _ H rs .refl Ba⟩
  ·cases e
 ·cases e
theorem QM (hn:X.mg "sum"=none) (ha:DA X (e::es) ms) (hc:X.calm=true:=by rfl) (hg:Gl X "sum":=by rfl) (he:starEach (e::es) X.env=(false,eval e X.env)::starEach es X.env:=by rfl) (hpl:(backTo pos (starEach es X.env)).any (·.1)=false:=by rfl):DE X (.Call (.Name "sum" p) (e::es) [] pos) (AQ De ms):=
 FK (Nq hc) QG hg hn boot_sum ha (by decide) (by decide) he hpl
end
end DL
namespace L2
open PySem PySem.SeqAt
open PySem.AutoSeq1 (wpAny_loadPart')
open PySem.MeetsSeq PySem.MeetsSeq2 PySem.MeetsSeq3
open PyProof.Rows (IntsAre IsTup)
theorem Pn (l b:Addr) (items items2:Array Value) (n n2:Nat) (dd dd2:Option Addr) (sl sl2:Array (Option Value)) (ns ms:List Int) (hi:IntsAre items.toList ns) (hj:IntsAre items2.toList ms) :
  Meets (Builtin.«tuple.__ge__» ⟨[.ref l,.ref b],[]⟩)
   (fun _ R s=>s.heap.get? l=some {cls:=.type "tuple",dict:=dd,data:=.seq items n,slots:=sl}/\s.heap.get? b=some {cls:=.type "tuple",dict:=dd2,data:=.seq items2 n2,slots:=sl2} /\
    R (.ok (.ret (.bool (!HT.lexLt ns ms)))) s):=
 .of_wp fun prog w A R s h=>by
  obtain ⟨hp,g,d,tk,os⟩:=s
  obtain ⟨hl,hb,h⟩:=h
  have f2:=AutoSeq1.sub_tuple_tuple
  have z1:ns.length=items.size:=by rw[<-hi.length];simp
  have z2:ms.length=items2.size:=by rw[<-hj.length];simp
  wp_walk using wpAny_loadPart' hl,wpAny_loadPart' hb,wpAny_forIn_list _ (fun left r s'=>∃ (us vs:List Value) (ps qs:List Int),left=us.zip vs/\IntsAre us ps/\IntsAre vs qs /\
   ps.length+ms.length=qs.length+ns.length/\R (.ok (.ret (.bool (!HT.lexLt ps qs)))) ⟨hp,g,d,tk,os⟩/\r.1=none/\s'=⟨hp,g,d,tk,os⟩) _
  case turn=>
   rintro ⟨y,x⟩ left r s' ⟨us,vs,ps,qs,hz,iu,iv,hn,hR,hr,rfl⟩
   cases iu with
   | nil=>cases hz
   | cons i t iu=>
    cases iv with
    | nil=>cases hz
    | cons j k iv=>
     obtain ⟨⟨rfl,rfl⟩,rfl⟩:(y=.int i t/\x=.int j k)/\left=_:=by
      rw[List.zip_cons_cons] at hz
      injection hz with p q
      injection p with p1 p2
      exact ⟨⟨p1,p2⟩,q⟩
     rw[HT.Cf] at hR
     simp only[List.length_cons] at hn
     refine wpAny_bind (SeqAt.EqAt.int_int i t j k prog w _ _ ?_)
     by_cases c:i=j
     ·rw[if_pos c] at hR
      subst c
      rw[beq_self_eq_true]
      wp_walk
      exact ⟨_,_,_,_,rfl,iu,iv,by lia,hR,rfl,rfl⟩
     ·rw[if_neg c] at hR
      rw[show (i == j)=false from beq_false_of_ne c]
      have hge:∀ (E:Value->Shared->Prop) (Q:Value->Shared->Prop),Q (.bool (decide (j<=i))) ⟨hp,g,d,tk,os⟩->wpAny (model prog w) A.in1 (richCompare .GtE (.int i t) (.int j k)) Q E ⟨hp,g,d,tk,os⟩:=
       fun E Q h=>(PyProof.Rows.ge_int h:wpAny (model prog w) A.in1 (compareOp .GtE (.int i t) (.int j k)) Q E _)
      wp_walk using hge
      refine ⟨_,rfl,?_⟩
      have e:(!decide (i<j))=decide (j<=i):=by
       by_cases c':i<j
       ·rw[decide_eq_true c',decide_eq_false (by lia)];rfl
       ·rw[decide_eq_false c',decide_eq_true (by lia)];rfl
      rw[e] at hR
      simpa using hR
  case fin=>
   rintro ⟨b1,b2⟩ s' ⟨us,vs,ps,qs,hz,iu,iv,hn,hR,hr,rfl⟩
   simp only at hr
   subst hr
   have e:(!HT.lexLt ps qs)=decide (items2.size<=items.size):=by
    cases iu with
    | nil=>
     cases iv with
     | nil=>rw[HT.HJ,decide_eq_true (by simp at hn;lia)];rfl
     | cons _ _ _=>rw[HT.Hf,decide_eq_false (by simp at hn;lia)];rfl
    | cons _ _ _=>
     cases iv with
     | nil=>rw[HT.GU,decide_eq_true (by simp at hn;lia)];rfl
     | cons _ _ _=>cases hz
   rw[e] at hR
   wp_walk
   exact ⟨_,rfl,by simpa [Builtin.Tuple.tupleCompareSizes] using hR⟩
  case h=>
   exact ⟨_,_,ns,ms,rfl,hi,hj,by lia,h,rfl,rfl⟩
section
variable {X:Cx}
def LH (K:PySem.W.Frag):R2:=fun x y H Q=>∃ (a b:Addr) (ns ms:List Int),x=.ref a/\y=.ref b/\SqT K H a (ns.map V.int)/\SqT K H b (ms.map V.int)/\Q (.bl (!HT.lexLt ns ms)) H
theorem Oa (hu:X.A.units<cLine):OpR X (compareOp .GtE) (LH X.K):=by
 intro pins s σ H x y v u Q I rx ry h
 obtain ⟨a,b,ns,ms,rfl,rfl,ha,hb,q⟩:=h
 cases rx
 cases ry
 obtain ⟨is,r1,⟨⟨cls,dd,data,sl⟩,e1,e2,n,e3⟩,_⟩:=I.tuple ha
 obtain ⟨js,r2,⟨⟨cls',dd',data',sl'⟩,e1',e2',n',e3'⟩,_⟩:=I.tuple hb
 simp only at e2 e3 e2' e3'
 subst e2 e3 e2' e3'
 have i1:IntsAre is.toArray.toList ns:=DL.intsAre_of r1
 have i2:IntsAre js.toArray.toList ms:=DL.intsAre_of r2
 refine richCompare_meets_room (op:=.GtE) ⟨_,e1,rfl⟩ ⟨_,e1',rfl⟩ PySem.F.slot_tuple_ge PySem.F.entry_tuple_ge (PySem.F.args_tuple_ge_2 _ _) (Pn a b _ _ n n' dd dd' sl sl' ns ms i1 i2) ⟨e1,e1',?_⟩ hu
 exact (show Value.bool (!HT.lexLt ns ms)≠Value.notImplemented/\EP X pins σ Q (.bool (!HT.lexLt ns ms)) s from ⟨fun z=>(nomatch z),.bl (!HT.lexLt ns ms),H,I,rfl,q⟩)
end
end L2
namespace DL
open PySem L2
section
variable {X:Cx} {a b:Expr} {ma mb:ME} {pos:Pos}
@[simp] def FB:Gm->SV->SV->Option D:=fun _ x y=>match x,y with
 | .v (.int i),.v (.int j)=>some (.bl (decide (j<=i)))
 | .v (.tup xs),.v (.tup ys)=>(intsOf xs).bind fun ns=>(intsOf ys).map fun ms=>.bl (!HT.lexLt ns ms)
 | _,_=>none
def JK (K:PySem.W.Frag):R2:=fun x y H Q=>rI0 (fun i j=>.bl (decide (j<=i))) x y H Q\/LH K x y H Q
theorem Ry (hu:X.A.units<cLine):OpR X (compareOp .GtE) (JK X.K):=op_ge.or (Oa hu)
theorem NR:OpD X FB (JK X.K):=by
 intro f α s σ H x y u v z Q hf rs hu hv e q
 unfold FB at e
 split at e
 ·rename_i i j
  cases e
  exact .inl ⟨i,j,Ai hu,Ai hv,q _ H rs .refl Bv⟩
 ·rename_i xs ys
  obtain ⟨ns,h1,e⟩:=bind_some e
  obtain ⟨ms,h2,rfl⟩:=AZ e
  have:=CK h1
  subst this
  have:=CK h2
  subst this
  obtain ⟨a,vs,rfl,a1,a2⟩:=CV hu
  obtain ⟨b,us,rfl,b1,b2⟩:=CV hv
  rw[a2.ints] at a1
  rw[b2.ints] at b1
  exact .inr ⟨a,b,ns,ms,rfl,rfl,SqT.of a1,SqT.of b1,q _ H rs .refl Bv⟩
 ·cases e
theorem QO (hu:X.A.units<cLine) (ha:DE X a ma) (hb:DE X b mb):DE X (.Compare a [.GtE] [b] pos) (mOp FB ma mb):=Il (Ry hu) NR ha hb (Cz _)
end
section
variable {X:Cx} {f:Fr} {α:Nat->Addr} {s:DS} {σ:St} {H:Hp} {a b:Expr} {p cp tp:Pos} {ms:MA}
end
section
variable {X:Cx} {f:Fr} {a b c:Expr} {ma mb mc:ME} {pos:Pos} {r r':R2} {g g':Gm->SV->SV->Option D}
end
section
variable {X:Cx} {f:Fr} {e:Expr} {pos p:Pos} {es:List Expr} {ms:MA}
end
section
variable {X:Cx} {f:Fr} {a b c:Expr} {ma mb mc:ME} {pos:Pos} {x:Str} {i:Int}
end
end DL
namespace L2
open PySem
end L2
namespace DL
open PySem L2
section
variable {X:Cx} {f:Fr} {a tg:Expr}
end
end DL
namespace L2
open PySem PySem.Spec PyProof.Rows
section
variable {X:Cx} {tg:Expr}
end
end L2
namespace DL
open PySem L2
section
variable {X:Cx} {f:Fr} {a b c tg:Expr} {pos:Pos}
end
end DL
namespace L2
open PySem PySem.Spec PyProof.Rows
section
variable {X:Cx}
def thV (H:Hp):V->Int×Str
 | .ref a=>match H a with
  | some (.tup [.int k,.str x])=>(k,x)
  | _=>(0,"")
 | _=>(0,"")
def HB (K:PySem.W.Frag):List V->Hp->VK->Prop:=fun xs H Q=>∃ p vs,xs=[.ref p]/\SqL K H p vs/\(∀ v∈vs,∃ a k x,v=.ref a/\H a=some (.tup [.int k,.str x])) /\
 ∀ l (ws:List V),H l=none->ws.Perm vs->ws.Pairwise (fun u v=>EvS.A6 (thV H v) (thV H u)=false)->Q (.ref l) (upd H l (.lst ws))
theorem OR:CallR X (.builtin "sorted") (HB X.K):=by
 intro pins s σ H xs us Q I r h
 obtain ⟨p,vs,rfl,hq,hv,q⟩:=h
 obtain ⟨u,rfl,ru⟩:=vals1 r
 cases ru
 obtain ⟨its,rv,pl,hz⟩:=I.list hq
 have hl:=rv.length
 obtain ⟨e1,e2⟩:=IE rv fun v hvm=>let ⟨a,k,x,e,_⟩:=hv v hvm;⟨a,e⟩
 refine EvS.Q1 (fun u=>thV H (addrOf u)) pl.isList (fun u hu=>?_) (by lia) fun out b1 b2=>?_
 ·have hm:addrOf u∈vs:=by rw[e1];exact List.mem_map.mpr ⟨u,hu,rfl⟩
  obtain ⟨a,k,x,e3,e4⟩:=hv _ hm
  obtain ⟨b,rfl⟩:=e2 u hu
  have:b=a:=by injection e3
  subst this
  obtain ⟨_,its2,r2,o,ho,hc,n,hd⟩:=I.hok b _ e4
  have en:thV H (addrOf (.ref b))=(k,x):=by
   show (match H b with | some (.tup [.int k,.str x])=>(k,x) | _=>(0,""))=(k,x)
   rw[e4]
  cases r2 with
  | cons r1 r3=>
   cases r3 with
   | cons r4 r5=>
    cases r5
    obtain ⟨t,rfl⟩:=r1
    obtain ⟨t',rfl⟩:=r4
    exact ⟨b,o,n,t,t',rfl,ho,hc,by dsimp only;rw[en];exact hd⟩
 ·obtain ⟨e,he⟩:=sortedAll_at s.heap its out
  have hn:H (s.heap.objs.size+1)=none:=I.hok.fresh (Nat.le_succ _)
  have er:∀ u∈out.toList,∃ a,u=.ref a:=fun u hu=>e2 u (b1.mem_iff.mp hu)
  have pw:(out.toList.map addrOf).Perm vs:=by rw[e1];exact b1.map addrOf
  refine ⟨.ref (s.heap.objs.size+1),_,I.laid (t':=s.toks) (o:=.lst (out.toList.map addrOf)) (fun b u q=>sortedAll_old q) (Nat.le_succ _) ⟨?_,out.toList,e,HN er,?_⟩,rfl,q _ _ hn pw ?_⟩
  ·rw[pw.length_eq];exact hz
  ·simpa using he
  ·rw[List.pairwise_map]
   exact b2
end
end L2
namespace DL
open PySem L2
open PyProof.Rows (boot_max)
section
variable {X:Cx} {f:Fr} {α:Nat->Addr} {s:DS} {σ:St} {H:Hp} {a b e:Expr} {ma mb:ME} {pos p:Pos} {es:List Expr} {ms:MA}
def thW (t:Int×Str):D:=.tup [.int t.1,.str t.2]
def Fo:List D->Option (List (Int×Str))
 | []=>some []
 | .tup [.int k,.str x]::r=>(Fo r).map ((k,x)::·)
 | _=>none
theorem JY:∀ {xs:List D} {ts:List (Int×Str)},Fo xs=some ts->xs=ts.map thW
 | [],ts,e=>by cases e;rfl
 | d::r,ts,e=>by
  unfold Fo at e
  split at e
  ·rename_i h;cases h
  ·rename_i k x r' h
   cases h
   obtain ⟨us,h1,rfl⟩:=AZ e
   rw[JY h1]
   rfl
  ·cases e
def D7 (x:Int×Str):List (Int×Str)->List (Int×Str)
 | []=>[x]
 | y::r=>if EvS.A6 y x=true then y::D7 x r else x::y::r
def En:List (Int×Str)->List (Int×Str)
 | []=>[]
 | x::r=>D7 x (En r)
theorem IZ (x:Int×Str):∀ r,(D7 x r).Perm (x::r)
 | []=>.refl _
 | y::r=>by
  unfold D7
  split
  ·exact ((IZ x r).cons y).trans (.swap x y r)
  ·exact .refl _
theorem LI:∀ r,(En r).Perm r
 | []=>.refl _
 | x::r=>(IZ x _).trans ((LI r).cons x)
abbrev EE (r:List (Int×Str)):Prop:=r.Pairwise fun u v=>EvS.A6 v u=false
theorem KU (x:Int×Str):∀ r,EE r->EE (D7 x r)
 | [],_=>List.pairwise_singleton _ _
 | y::r,h=>by
  unfold D7
  obtain ⟨h1,h2⟩:=List.pairwise_cons.mp h
  split
  ·rename_i c
   refine List.pairwise_cons.mpr ⟨fun k hk=>?_,KU x r h2⟩
   rcases List.mem_cons.mp ((IZ x r).mem_iff.mp hk) with rfl | hk
   ·exact EvS.LL c
   ·exact h1 k hk
  ·rename_i c
   have c':EvS.A6 y x=false:=by cases hc:EvS.A6 y x with | false=>rfl | true=>exact absurd hc c
   refine List.pairwise_cons.mpr ⟨fun k hk=>?_,h⟩
   rcases List.mem_cons.mp hk with rfl | hk
   ·exact c'
   ·exact EvS.JH c' (h1 k hk)
theorem Mh:∀ r,EE (En r)
 | []=>.nil
 | x::r=>KU x _ (Mh r)
theorem UN {xs ys:List (Int×Str)} (p:xs.Perm ys) (hx:EE xs) (hy:EE ys):xs=ys:=
 p.eq_of_pairwise (fun a b _ _ h1 h2=>EvS.NM h1 h2) hx hy
@[simp] def Cd:Gm->List SV->Option (List D):=fun Γ xs=>match Dv Γ xs with
 | some z=>some z
 | none=>match xs with
  | [x]=>(elems Γ x).bind fun xs=>(Fo xs).map fun ts=>(En ts).map thW
  | _=>none
theorem Nn:CallR X (.builtin "sorted") (fun xs H Q=>GL X.K xs H Q\/HB X.K xs H Q):=call_sortedA.or OR
theorem J9 {W:Wd} {t:Int×Str} {v:V} (h:Rep W (thW t) v):∃ a,v=.ref a/\W.H a=some (.tup [.int t.1,.str t.2]):=by
 unfold thW Rep at h
 obtain ⟨a,vs,e,_,h1,h2⟩:=h
 obtain ⟨v1,r1,rfl,q1,q2⟩:=h2.cons_inv
 obtain ⟨v2,r2,rfl,q3,q4⟩:=q2.cons_inv
 rw[q4.nil_inv] at h1
 unfold Rep at q1 q3
 subst q1 q3
 exact ⟨a,e,h1⟩
theorem Ld {W:Wd} {t:Int×Str} {v:V} (h:Rep W (thW t) v):thV W.H v=t:=by
 obtain ⟨a,rfl,h1⟩:=J9 h
 show (match W.H a with | some (.tup [.int k,.str x])=>(k,x) | _=>(0,""))=t
 rw[h1]
theorem LU {W:Wd}:∀ {ts:List (Int×Str)} {vs:List V},Reps W (ts.map thW) vs->vs.map (thV W.H)=ts/\∀ v∈vs,Rep W (thW (thV W.H v)) v
 | [],vs,h=>by rw[h.nil_inv];exact ⟨rfl,fun _ h=>nomatch h⟩
 | t::r,vs,h=>by
  obtain ⟨v,q,rfl,h1,h2⟩:=Reps.cons_inv (d:=thW t) (ds:=r.map thW) h
  obtain ⟨h3,h4⟩:=LU h2
  refine ⟨by rw[List.map_cons,h3,Ld h1],fun u hu=>?_⟩
  rcases List.mem_cons.mp hu with rfl | hu
  ·rw[Ld h1];exact h1
  ·exact h4 u hu
theorem Le {W:Wd}:∀ {ws:List V},(∀ v∈ws,Rep W (thW (thV W.H v)) v)->Reps W ((ws.map (thV W.H)).map thW) ws
 | [],_=>.nil
 | w::ws,h=>.cons (h w List.mem_cons_self) (Le fun v hv=>h v (List.mem_cons_of_mem _ hv))
theorem UM:CaF X Cd (fun xs H Q=>GL X.K xs H Q\/HB X.K xs H Q):=by
 intro f α s σ H xs us z Q hf rs hu e q
 unfold Cd at e
 split at e
 ·rename_i z' h0
  cases e
  exact .inl (SJ f α s σ H xs us z Q hf rs hu h0 q)
 ·split at e
  ·obtain ⟨xs,h0,e⟩:=bind_some e
   obtain ⟨ts,h5,rfl⟩:=AZ e
   obtain ⟨v,r,rfl,h1,h2⟩:=hu.cons_inv
   rw[h2.nil_inv]
   obtain ⟨a,vs,rfl,h3,h4⟩:=BC rs h0 h1
   have h6:=JY h5
   subst h6
   obtain ⟨n1,n2⟩:=LU h4
   refine .inr ⟨a,vs,rfl,SqL.of h3,fun v hv=>?_,fun l ws hl hp hs=>q l _ hl ?_⟩
   ·obtain ⟨b,e1,e2⟩:=J9 (n2 v hv)
    exact ⟨b,_,_,e1,e2⟩
   ·have e1:ws.map (thV H)=En ts:=UN (((hp.map (thV H)).trans (by rw[n1])).trans (LI ts).symm) (by rw[EE,List.pairwise_map];exact hs) (Mh ts)
    rw[<-e1]
    exact Le fun v hv=>n2 v (hp.mem_iff.mp hv)
  ·cases e
end
end DL
namespace DL
open PySem L2 Ev
section
variable {X:Cx} {st:Stmt} {pos p:Pos} {e:Expr} {es:List Expr} {ms:MA}
theorem JN (T:Nm X.mg) (ha:DA X (e::es) ms) (hg:Gl X "sorted":=by rfl) (he:starEach (e::es) X.env=(false,eval e X.env)::starEach es X.env:=by rfl) (hpl:(backTo pos (starEach es X.env)).any (·.1)=false:=by rfl):DF X (.Call (.Name "sorted" p) (e::es) [] pos) (BL Cd ms):=
 Nt Nn UM hg T.sorted PyProof.Rows.boot_sorted ha (by decide) (by decide) he hpl
end
end DL
namespace L2
open PySem PySem.SeqAt
open PySem.AutoSeq1 (wpAny_loadPart')
open PySem.MeetsSeq PySem.MeetsSeq2 PySem.MeetsSeq3
open PyProof.Rows (IntsAre IsTup)
theorem Qe (l b:Addr) (items items2:Array Value) (n n2:Nat) (dd dd2:Option Addr) (sl sl2:Array (Option Value)) (ns ms:List Int) (hi:IntsAre items.toList ns) (hj:IntsAre items2.toList ms) :
  Meets (Builtin.«tuple.__gt__» ⟨[.ref l,.ref b],[]⟩)
   (fun _ R s=>s.heap.get? l=some {cls:=.type "tuple",dict:=dd,data:=.seq items n,slots:=sl}/\s.heap.get? b=some {cls:=.type "tuple",dict:=dd2,data:=.seq items2 n2,slots:=sl2} /\
    R (.ok (.ret (.bool (HT.lexLt ms ns)))) s):=
 .of_wp fun prog w A R s h=>by
  obtain ⟨hp,g,d,tk,os⟩:=s
  obtain ⟨hl,hb,h⟩:=h
  have f2:=AutoSeq1.sub_tuple_tuple
  have z1:ns.length=items.size:=by rw[<-hi.length];simp
  have z2:ms.length=items2.size:=by rw[<-hj.length];simp
  wp_walk using wpAny_loadPart' hl,wpAny_loadPart' hb,wpAny_forIn_list _ (fun left r s'=>∃ (us vs:List Value) (ps qs:List Int),left=us.zip vs/\IntsAre us ps/\IntsAre vs qs /\
   ps.length+ms.length=qs.length+ns.length/\R (.ok (.ret (.bool (HT.lexLt qs ps)))) ⟨hp,g,d,tk,os⟩/\r.1=none/\s'=⟨hp,g,d,tk,os⟩) _
  case turn=>
   rintro ⟨y,x⟩ left r s' ⟨us,vs,ps,qs,hz,iu,iv,hn,hR,hr,rfl⟩
   cases iu with
   | nil=>cases hz
   | cons i t iu=>
    cases iv with
    | nil=>cases hz
    | cons j k iv=>
     obtain ⟨⟨rfl,rfl⟩,rfl⟩:(y=.int i t/\x=.int j k)/\left=_:=by
      rw[List.zip_cons_cons] at hz
      injection hz with p q
      injection p with p1 p2
      exact ⟨⟨p1,p2⟩,q⟩
     rw[HT.Cf] at hR
     simp only[List.length_cons] at hn
     refine wpAny_bind (SeqAt.EqAt.int_int i t j k prog w _ _ ?_)
     by_cases c:i=j
     ·rw[if_pos c.symm] at hR
      subst c
      rw[beq_self_eq_true]
      wp_walk
      exact ⟨_,_,_,_,rfl,iu,iv,by lia,hR,rfl,rfl⟩
     ·rw[if_neg (fun z=>c z.symm)] at hR
      rw[show (i == j)=false from beq_false_of_ne c]
      have hgt:∀ (E:Value->Shared->Prop) (Q:Value->Shared->Prop),Q (.bool (decide (j<i))) ⟨hp,g,d,tk,os⟩->wpAny (model prog w) A.in1 (richCompare .Gt (.int i t) (.int j k)) Q E ⟨hp,g,d,tk,os⟩:=
       fun E Q h=>(PyProof.Rows.gt_int h:wpAny (model prog w) A.in1 (compareOp .Gt (.int i t) (.int j k)) Q E _)
      wp_walk using hgt
      refine ⟨_,rfl,?_⟩
      simpa using hR
  case fin=>
   rintro ⟨b1,b2⟩ s' ⟨us,vs,ps,qs,hz,iu,iv,hn,hR,hr,rfl⟩
   simp only at hr
   subst hr
   have e:(HT.lexLt qs ps)=decide (items2.size<items.size):=by
    cases iu with
    | nil=>
     cases iv with
     | nil=>rw[HT.HJ,decide_eq_false (by simp at hn;lia)]
     | cons _ _ _=>rw[HT.GU,decide_eq_false (by simp at hn;lia)]
    | cons _ _ _=>
     cases iv with
     | nil=>rw[HT.Hf,decide_eq_true (by simp at hn;lia)]
     | cons _ _ _=>cases hz
   rw[e] at hR
   wp_walk
   exact ⟨_,rfl,by simpa [Builtin.Tuple.tupleCompareSizes] using hR⟩
  case h=>
   exact ⟨_,_,ns,ms,rfl,hi,hj,by lia,h,rfl,rfl⟩
section
variable {X:Cx}
def MR (K:PySem.W.Frag):R2:=fun x y H Q=>∃ (a b:Addr) (ns ms:List Int),x=.ref a/\y=.ref b/\SqT K H a (ns.map V.int)/\SqT K H b (ms.map V.int)/\Q (.bl (HT.lexLt ms ns)) H
theorem OC (hu:X.A.units<cLine):OpR X (compareOp .Gt) (MR X.K):=by
 intro pins s σ H x y v u Q I rx ry h
 obtain ⟨a,b,ns,ms,rfl,rfl,ha,hb,q⟩:=h
 cases rx
 cases ry
 obtain ⟨is,r1,⟨⟨cls,dd,data,sl⟩,e1,e2,n,e3⟩,_⟩:=I.tuple ha
 obtain ⟨js,r2,⟨⟨cls',dd',data',sl'⟩,e1',e2',n',e3'⟩,_⟩:=I.tuple hb
 simp only at e2 e3 e2' e3'
 subst e2 e3 e2' e3'
 have i1:IntsAre is.toArray.toList ns:=DL.intsAre_of r1
 have i2:IntsAre js.toArray.toList ms:=DL.intsAre_of r2
 refine richCompare_meets_room (op:=.Gt) ⟨_,e1,rfl⟩ ⟨_,e1',rfl⟩ PySem.F.slot_tuple_gt PySem.F.entry_tuple_gt (PySem.F.args_tuple_gt_2 _ _) (Qe a b _ _ n n' dd dd' sl sl' ns ms i1 i2) ⟨e1,e1',?_⟩ hu
 exact (show Value.bool (HT.lexLt ms ns)≠Value.notImplemented/\EP X pins σ Q (.bool (HT.lexLt ms ns)) s from ⟨fun z=>(nomatch z),.bl (HT.lexLt ms ns),H,I,rfl,q⟩)
end
end L2
namespace DL
open PySem L2
section
variable {X:Cx} {a b:Expr} {ma mb:ME} {pos:Pos}
@[simp] def Dn:Gm->SV->SV->Option D:=fun _ x y=>match x,y with
 | .v (.int i),.v (.int j)=>some (.bl (decide (j<i)))
 | .v (.tup xs),.v (.tup ys)=>(intsOf xs).bind fun ns=>(intsOf ys).map fun ms=>.bl (HT.lexLt ms ns)
 | _,_=>none
def L0 (K:PySem.W.Frag):R2:=fun x y H Q=>rI0 (fun i j=>.bl (decide (j<i))) x y H Q\/MR K x y H Q
theorem RD (hu:X.A.units<cLine):OpR X (compareOp .Gt) (L0 X.K):=op_gt.or (OC hu)
theorem Tw:OpD X Dn (L0 X.K):=by
 intro f α s σ H x y u v z Q hf rs hu hv e q
 unfold Dn at e
 split at e
 ·rename_i i j
  cases e
  exact .inl ⟨i,j,Ai hu,Ai hv,q _ H rs .refl Bv⟩
 ·rename_i xs ys
  obtain ⟨ns,h1,e⟩:=bind_some e
  obtain ⟨ms,h2,rfl⟩:=AZ e
  have:=CK h1
  subst this
  have:=CK h2
  subst this
  obtain ⟨a,vs,rfl,a1,a2⟩:=CV hu
  obtain ⟨b,us,rfl,b1,b2⟩:=CV hv
  rw[a2.ints] at a1
  rw[b2.ints] at b1
  exact .inr ⟨a,b,ns,ms,rfl,rfl,SqT.of a1,SqT.of b1,q _ H rs .refl Bv⟩
 ·cases e
theorem OB (hu:X.A.units<cLine) (ha:DE X a ma) (hb:DE X b mb):DT X (.Compare a [.Gt] [b] pos) (Aw (mOp Dn ma mb)):=FX (RD hu) Tw ha hb (Cz _)
variable {c:Expr} {mc:ME}
end
end DL
namespace XL
open PySem PySem.Spec PyProof.Rows L2
abbrev NF (o:Obj):Prop:=∀ vs:Array Value,o.data≠Data.fields vs
abbrev UpS (h h':Heap):Prop:=∀ b o,h.get? b=some o->NF o->∃ sl,h'.get? b=some {o with slots:=sl}
def Trc (h B:Heap) (e:Addr) (cls fl:Value):Prop:=∃ oe vs T oT ts,h.get? e=some oe/\oe.cls=cls/\oe.dict=none/\oe.data=Data.fields vs/\vs[1]?=some (Value.ref T)/\B.get? T=none/\T≠e/\h.get? T=some oT/\oT.data=Data.fields ts/\ts[3]?=some fl
section
variable {M:Model} {A:Around} {E:Value->Shared->Prop} {s:Shared} {B:Heap} {env:Env} {outer:List Env} {L e:Addr} {oe:Obj} {vs:Array Value} {head cls fl:Value} {hadNext:Bool} {Q:Unit->Shared->Prop}
end
section
variable {M:Model} {A:Around} {E:Value->Shared->Prop} {s:Shared} {B:Heap} {env:Env} {outer:List Env} {L e:Addr} {oe:Obj} {vs:Array Value} {head cls fl:Value} {hadNext:Bool} {Q:Unit->Shared->Prop}
structure Step (B:Heap) (l:List Env) (e:Addr) (cls fl:Value) (h h':Heap):Prop where
 st:B.StaysIn h'
 fr:h'.FunFrames B l
 tr:Trc h' B e cls fl
 up:UpS h h'
end
structure Fly (P:Program) (w:World) (l:List Env) (H H':Hp) (h0:Heap) (e:Addr) (cls fl:Value) (h:Heap):Prop where
 B:∃ B:Heap,B.StaysIn h/\B.get? e=none/\h.FunFrames B l/\Trc h B e cls fl/\HOk P w H' B/\(∀ b o,h0.get? b=some o->H b=none->b∉frs l->B.get? b=some o)/\∀ b o,h0.get? b=some o->b∉frs l->∃ o',B.get? b=some o'
 slot:∀ b o,h0.get? b=some o->b∈frs l->∃ sl,h.get? b=some {o with slots:=sl}
 newe:h0.get? e=none
 frf:∀ b∈frs l,H' b=none
 free:∀ b o,h0.get? b=some o->H b=none->H' b=none
 tups:∀ b xs,H b=some (.tup xs)->H' b=some (.tup xs)
 frzs:∀ b o u,H b=some (.frz o u)->H' b=some (.frz o u)
 tbls:∀ b ps,H b=some (.tbl ps)->∃ more,H' b=some (.tbl (ps++more))
section
variable {P:Program} {w:World} {l:List Env} {H H':Hp} {h0 h h':Heap} {e:Addr} {cls fl fl':Value}
end
section
variable {X:Cx} {pins:List (Addr×Obj)} {σ:L2.St} {H H':Hp} {s:Shared} {M:Model} {E:Value->Shared->Prop} {e:Addr} {cls fl:Value} {Q:Unit->Shared->Prop}
structure Own (X:Cx):Prop where
 st:X.stack=X.env::X.outer
 fr:X.env.frame=some X.env.locals
 ex:X.ex=[]
end
abbrev CXF (P:Program) (w:World):CXT:=fun outer H s E e s'=>∃ (a C:Addr) (H':Hp),e=.ref a/\E (.ref C) none H'/\s'.os=s.os/\AllBare s'.gens/\Fly P w outer H H' s.heap a (.ref C) .none s'.heap
section
variable {X:Cx} {E:XK}
end
section
variable {P:Program} {w:World} {l:List Env} {X:Cx} {pins:List (Addr×Obj)} {σ:L2.St} {H H':Hp} {s:Shared} {h0 h:Heap} {e:Addr} {cls fl:Value}
end
section
variable {X:Cx} {k:Nat} {f C CT:Addr} {fd:FuncData} {ps:List Str} {sp:Sp} {x T n:Str} {i:Nat} {p cpos epos tp hpos pos:Pos} {e:Expr} {es:List Expr} {ta:TA} {b₀:Stmt} {suite:List Stmt} {ts:Addr->TS}
end
structure ExcC (K:PySem.W.Frag) (D:Addr):Prop where
 lk:∃ dict cd sl,K.lookup D=some ⟨.type "type",dict,.cls cd,sl⟩
 ga:PySem.W.findIn K (.ref D) "__getattribute__"=some (some (.builtin "BaseException.__getattribute__"))
 gt:PySem.W.findIn K (.ref D) "__getattr__"=some none
 sb:PySem.W.subIn K (.ref D) (.type "BaseException")=some true
 fo:PySem.W.findObj K D none "__class__"=some (.bind (.builtin "getset_descriptor.__get__") (.builtin "object.__class__"))
 mo:PySem.W.mroIn K D (.type "object")=some true
section
variable {X:Cx}
end
end XL
namespace Ev
open PySem
structure CalX (P:Program) (w:World) (K:PySem.W.Frag) (mg:Str->Option Value) (base:Heap) (x:Str) (lv:Nat) (f:Addr) (fd:FuncData) (ps:List Str) (sp:L2.Sp):Prop where
 G:L2.FnOk P w K mg base (XL.CXF P w) lv f fd ps sp
 b:L2.Binds K fd ps []
 k:PySem.W.keepIn K (.ref f)=true
 m:mg x=some (.ref f)
end Ev
namespace XL
open PySem PySem.Spec PyProof.Rows L2 Ev DL
section
variable {X:Cx} {f:Fr} {C:Addr} {E:XK} {pos:Pos}
end
section
variable {P:Program} {w:World} {K:PySem.W.Frag} {mg:Str->Option Value} {base:Heap} {C:Addr}
end
structure ClsF (K:PySem.W.Frag) (mg:Str->Option Value) (cN cL c1 c2 c3 c4:Addr):Prop where
 mN:mg "NoNumber"=some (.ref cN)
 mL:mg "LotError"=some (.ref cL)
 m1:mg "NoDeed"=some (.ref c1)
 m2:mg "NoName"=some (.ref c2)
 m3:mg "NoRow"=some (.ref c3)
 m4:mg "NoText"=some (.ref c4)
 mV:mg "ValueError"=none
 ex:PySem.W.excIn K cN [.type "ValueError",.type "Exception",.type "BaseException",.type "object"] "ValueError.__new__"=true
 exm:PySem.W.exmOne K (.ref cN) (.ref cL)=some true
 ga:PySem.W.findIn K (.ref cN) "__getattribute__"=some (some (.builtin "BaseException.__getattribute__"))
 gt:PySem.W.findIn K (.ref cN) "__getattr__"=some none
 sb:PySem.W.subIn K (.ref cN) (.type "BaseException")=some true
 fo:PySem.W.findObj K cN none "__class__"=some (.bind (.builtin "getset_descriptor.__get__") (.builtin "object.__class__"))
 mo:PySem.W.mroIn K cN (.type "object")=some true
 any:PySem.W.kitAny K (.ref cN) [.ref c1,.ref c2,.ref c3,.ref c4]=some false
 val:PySem.W.kitOne K (.ref cN) (.type "ValueError")=some true
section
variable {X:Cx}
end
section
variable {X:Cx} {f:Fr} {C:Addr} {E:XK} {pos:Pos}
end
end XL
namespace SL
open PySem
def Ris (t:SetTable):Prop:=t.plain=true->t.place.toList.Pairwise (·<·)
end SL
namespace SL
open PySem PySem.Spec PyProof.Rows
def kv:Value->Int
 | .int k _=>k
 | _=>0
structure SG (prog:Program) (w:World) (o:Obj) (ns:List Int) (es:Array (Int×Value)) (ep:Nat) (t:SetTable):Prop where
 ex:o.ExactSet
 dat:o.data=.set es ep t
 el:ElemsOf (intKind prog w) es.toList
 pm:(es.toList.map fun e=>kv e.2).Perm ns
 sz:es.size<scanBound
 fit:t.fits es.size=true
 ris:Ris t
 led:t.led=!w.params.followText "set-order"
def Sz (ns:List Int) (k:Int):List Int:=if k∈ns then ns else ns++[k]
section
variable {prog:Program} {w:World} {A:Around} {E:Value->Shared->Prop} {s:Shared}
end
section
variable {prog:Program} {w:World} {A:Around} {E:Value->Shared->Prop} {s:Shared}
end
section
variable {prog:Program} {w:World} {A:Around} {E:Value->Shared->Prop} {s:Shared}
end
section
variable {prog:Program} {w:World} {A:Around} {E:Value->Shared->Prop} {s:Shared} {it a:Addr} {first:Value} {i n ep:Nat}
end
section
variable {prog:Program} {w:World} {A:Around} {E:Value->Shared->Prop} {s:Shared} {a:Addr} {o:Obj} {es:Array (Int×Value)} {t:SetTable} {slot i ep:Nat}
end
section
variable {prog:Program} {w:World} {A:Around} {E:Value->Shared->Prop} {s:Shared} {a it:Addr} {o:Obj} {es:Array (Int×Value)} {t:SetTable} {i ep:Nat}
end
section
variable {prog:Program} {w:World} {A:Around} {E:Value->Shared->Prop} {s:Shared} {a it p:Addr} {o op:Obj} {es:Array (Int×Value)} {t:SetTable} {i ep m:Nat} {ps:Array Value}
end
section
variable {prog:Program} {w:World} {A:Around} {E:Value->Shared->Prop} {s:Shared} {a it p:Addr} {o op:Obj} {es:Array (Int×Value)} {t:SetTable} {i ep m:Nat} {ps:Array Value} {first:Value}
end
section
variable {prog:Program} {w:World} {A A':Around} {E:Value->Shared->Prop} {s:Shared} {a:Addr}
end
section
variable {prog:Program} {w:World} {A:Around} {E:Value->Shared->Prop} {s:Shared} {a:Addr}
end
end SL
namespace SL
open PySem PySem.Spec PyProof.Rows EvS
section
variable {prog:Program} {w:World} {A:Around} {E:Value->Shared->Prop} {s:Shared} {a:Addr}
end
end SL
namespace SL
open PySem PySem.Spec PyProof.Rows L2 Ev DL
def dd (ns:List Int):List Int:=ns.foldl Sz []
section
variable {X:Cx} {pins:List (Addr×Obj)} {σ:L2.St} {H:Hp} {s:Shared}
end
section
variable {X:Cx} {e:Expr} {es:List Expr} {ms:MA} {p p2 pos pos2:Pos}
end
end SL
namespace L2
open PySem PyProof PyProof.Rows
section
variable {X:Cx}
end
end L2
namespace DL
open PySem L2
@[simp] def Cm:Gm->SV->SV->Option (List D):=fun Γ x y=>match elems Γ x,y with
 | some xs,.v (.int k)=>if k<=100000/\-100000<=k/\xs.length * k.toNat<=big then some (List.replicate k.toNat xs).flatten else none
 | _,_=>none
section
variable {X:Cx} {a b o i e:Expr} {ma mb mo mi me:ME} {pos p:Pos}
theorem JU {W:Wd} {xs:List D} {vs:List V} (h:Reps W xs vs):∀ k:Nat,Reps W (List.replicate k xs).flatten (List.replicate k vs).flatten
 | 0=>.nil
 | k+1=>by
  rw[List.replicate_succ,List.replicate_succ,List.flatten_cons,List.flatten_cons]
  exact h.append (JU h k)
theorem RM:OpF X Cm Ki:=by
 intro f α s σ H x y u v z Q hf rs hu hv e q
 unfold Cm at e
 split at e
 ·rename_i xs k h1
  split at e
  ·rename_i hz
   cases e
   obtain ⟨a,vs,rfl,a1,a2⟩:=BC rs h1 hu
   exact ⟨a,k,vs,rfl,Ai hv,a1,by lia,by lia,by rw[a2.len];exact CM hz.2.2,fun p hp=>q p _ hp (JU a2 _)⟩
  ·cases e
 ·cases e
theorem Fw (ha:DE X a ma) (hb:DE X b mb):DF X (.BinOp a .Mult b pos) (BI Cm ma mb):=Lc Tb RM ha hb
end
section
variable {X:Cx} {st:Stmt}
end
end DL
namespace L2
open PySem PySem.Spec PyProof.Rows
section
variable {κ:Type} [DecidableEq κ]
def Al (kvs:List (κ×V)) (k:κ):Option V:=(kvs.find? fun kv=>decide (kv.1=k)).map (·.2)
def putK (kvs:List (κ×V)) (k:κ) (v:V):List (κ×V):=
 if (kvs.any fun kv=>decide (kv.1=k))=true then kvs.map (fun kv=>if kv.1=k then (kv.1,v) else kv) else kvs++[(k,v)]
theorem B9 {p:κ×V} {r:List (κ×V)} {k:κ} (e:p.1=k):Al (p::r) k=some p.2:=by simp[Al,List.find?_cons,e]
theorem Bz {p:κ×V} {r:List (κ×V)} {k:κ} (e:¬p.1=k):Al (p::r) k=Al r k:=by simp[Al,List.find?_cons,e]
theorem C9 (k:κ):∀ kvs:List (κ×V),(kvs.any fun kv=>decide (kv.1=k))=(Al kvs k).isSome
 | []=>rfl
 | p::r=>by
  rw[List.any_cons]
  by_cases e:p.1=k
  ·simp only[B9 e,decide_eq_true e,Bool.true_or,Option.isSome_some]
  ·rw[Bz e,decide_eq_false e,Bool.false_or];exact C9 k r
theorem Kg (k j:κ) (y:V):∀ kvs:List (κ×V),Al (kvs.map fun kv=>if kv.1=k then (kv.1,y) else kv) j=(Al kvs j).map fun x=>if j=k then y else x
 | []=>rfl
 | p::r=>by
  have ih:=Kg k j y r
  rw[List.map_cons]
  by_cases h:p.1=k
  ·rw[if_pos h]
   by_cases e:p.1=j
   ·rw[B9 (p:=(p.1,y)) e,B9 e,Option.map_some,if_pos (e.symm.trans h)]
   ·rw[Bz (p:=(p.1,y)) e,Bz e,ih]
  ·rw[if_neg h]
   by_cases e:p.1=j
   ·rw[B9 (p:=p) e,B9 e,Option.map_some,if_neg (fun z=>h (e.trans z))]
   ·rw[Bz (p:=p) e,Bz e,ih]
theorem La (k j:κ) (y:V):∀ kvs:List (κ×V),Al kvs k=none->Al (kvs++[(k,y)]) j=if j=k then some y else Al kvs j
 | [],_=>by
  by_cases e:k=j
  ·rw[if_pos e.symm];exact B9 (p:=(k,y)) e
  ·rw[if_neg (fun z=>e z.symm)];exact Bz (p:=(k,y)) e
 | p::r,hn=>by
  rw[List.cons_append]
  have hk:¬p.1=k:=fun z=>by rw[B9 z] at hn;cases hn
  rw[Bz hk] at hn
  have ih:=La k j y r hn
  by_cases e:p.1=j
  ·rw[B9 e,B9 e,if_neg (fun z=>hk (e.trans z))]
  ·rw[Bz e,Bz e,ih]
theorem NW (kvs:List (κ×V)) (k j:κ) (y:V):Al (putK kvs k y) j=if j=k then some y else Al kvs j:=by
 unfold putK
 by_cases a:(kvs.any fun kv=>decide (kv.1=k))=true
 ·rw[if_pos a,Kg]
  rw[C9] at a
  by_cases e:j=k
  ·obtain ⟨x,hx⟩:=Option.isSome_iff_exists.mp a
   rw[if_pos e,e,hx,Option.map_some,if_pos rfl]
  ·rw[if_neg e]
   cases Al kvs j with
   | none=>rfl
   | some x=>rw[Option.map_some,if_neg e]
 ·rw[if_neg a]
  refine La k j y kvs ?_
  rw[C9] at a
  cases q:Al kvs k with
  | none=>rfl
  | some x=>rw[q] at a;exact (a rfl).elim
theorem IY (kvs:List (κ×V)) (k:κ) (v:V):(putK kvs k v).length<=kvs.length+1:=by
 unfold putK
 split
 ·rw[List.length_map];lia
 ·rw[List.length_append,List.length_cons,List.length_nil];lia
theorem LA {kvs:List (κ×V)} {k:κ} (v:V) (h:Al kvs k=none):putK kvs k v=kvs++[(k,v)]:=by
 unfold putK
 rw[C9,h]
 exact if_neg (by decide)
theorem RelO.isSome_eq {o:Option V} {u:Option Value} (r:RelO o u):o.isSome=u.isSome:=by
 cases o with
 | none=>cases u with
  | none=>rfl
  | some _=>exact (show False from r).elim
 | some _=>cases u with
  | none=>exact (show False from r).elim
  | some _=>rfl
theorem RelO.getD {o:Option V} {u:Option Value} {d:V} {d':Value} (r:RelO o u) (rd:RelV d d'):RelV (o.getD d) (u.getD d'):=by
 cases o with
 | none=>cases u with
  | none=>exact rd
  | some _=>exact (show False from r).elim
 | some _=>cases u with
  | none=>exact (show False from r).elim
  | some _=>exact r
theorem KV.val {kvs:List (κ×V)} {vs:List (κ×Value)} (r:KV kvs vs) (k:κ):RelO (Al kvs k) (valueAt vs k):=by
 unfold KV at r
 induction r with
 | nil=>exact True.intro
 | @cons p q ps qs h t ih=>
  obtain ⟨h1,h2⟩:=h
  by_cases e:p.1=k
  ·have e':q.1=k:=h1.symm.trans e
   have b:valueAt (q::qs) k=some q.2:=by simp[valueAt,List.find?_cons,e']
   rw[B9 e,b];exact h2
  ·have e':¬q.1=k:=fun z=>e (h1.trans z)
   have b:valueAt (q::qs) k=valueAt qs k:=by simp[valueAt,List.find?_cons,e']
   rw[Bz e,b];exact ih
theorem KV.any {kvs:List (κ×V)} {vs:List (κ×Value)} (r:KV kvs vs) (k:κ):(kvs.any fun kv=>decide (kv.1=k))=vs.any fun kv=>decide (kv.1=k):=by
 unfold KV at r
 induction r with
 | nil=>rfl
 | cons h t ih=>rw[List.any_cons,List.any_cons,ih,h.1]
theorem KV.repl {kvs:List (κ×V)} {vs:List (κ×Value)} (r:KV kvs vs) (k:κ) {y:V} {u:Value} (ry:RelV y u) :
  KV (kvs.map fun kv=>if kv.1=k then (kv.1,y) else kv) (vs.map fun kv=>if kv.1=k then (kv.1,u) else kv):=by
 unfold KV at r ⊢
 induction r with
 | nil=>exact .nil
 | @cons p q ps qs h t ih=>
  rw[List.map_cons,List.map_cons]
  refine .cons ?_ ih
  obtain ⟨h1,h2⟩:=h
  by_cases e:p.1=k
  ·rw[if_pos e,if_pos (h1.symm.trans e)];exact ⟨h1,ry⟩
  ·rw[if_neg e,if_neg (fun z=>e (h1.trans z))];exact ⟨h1,h2⟩
theorem KV.put {kvs:List (κ×V)} {vs:List (κ×Value)} (r:KV kvs vs) (k:κ) {y:V} {u:Value} (ry:RelV y u):KV (putK kvs k y) (stored vs k u):=by
 unfold putK stored
 rw[r.any k]
 by_cases e:(vs.any fun kv=>decide (kv.1=k))=true
 ·rw[if_pos e,if_pos e];exact r.repl k ry
 ·rw[if_neg e,if_neg e];exact Paired.snoc r ⟨rfl,ry⟩
theorem KV.length {kvs:List (κ×V)} {vs:List (κ×Value)} (r:KV kvs vs):kvs.length=vs.length:=Paired.length r
end
theorem Fe {P:Program} {w:World} {k:Key} {u:Value} (r:RelV (kV k) u):(BS P w).is k u=true:=by
 cases k with
 | inl i=>obtain ⟨t,e⟩:=(show ∃ t,u=Value.int i t from r);subst e;exact OL P w i t
 | inr x=>obtain ⟨t,e⟩:=(show ∃ t,u=Value.str x t from r);subst e;exact QL P w x t
theorem K8 {P:Program} {w:World}:∀ {ks:List Key} {us:List Value},Vals (ks.map kV) us->ItemsAre (BS P w) ks us
 | [],_,r=>by rw[List.map_nil] at r;cases r;exact .nil
 | k::ks,_,r=>by
  rw[List.map_cons] at r
  cases r with
  | cons h t=>exact .cons (Fe h) (K8 t)
abbrev KT (H:Hp):List (List Key×V)->List (List Key×Addr×Value)->Prop:=Paired fun p q=>p.1=q.1/\H q.2.1=some (.tup (p.1.map kV))/\RelV p.2 q.2.2
theorem KT.val {H:Hp} {kvs:List (List Key×V)} {xs:List (List Key×Addr×Value)} (r:KT H kvs xs) (k:List Key):RelO (Al kvs k) ((atKey xs k).map (·.2)):=by
 induction r with
 | nil=>exact True.intro
 | @cons p q ps qs h t ih=>
  obtain ⟨h1,_,h2⟩:=h
  by_cases e:p.1=k
  ·have e':q.1=k:=h1.symm.trans e
   have b:atKey (q::qs) k=some q.2:=by simp[atKey,List.find?_cons,e']
   rw[B9 e,b];exact h2
  ·have e':¬q.1=k:=fun z=>e (h1.trans z)
   have b:atKey (q::qs) k=atKey qs k:=by simp[atKey,List.find?_cons,e']
   rw[Bz e,b];exact ih
theorem KT.repl {H:Hp} {kvs:List (List Key×V)} {xs:List (List Key×Addr×Value)} (r:KT H kvs xs) (k:List Key) {y:V} {u:Value} (ry:RelV y u) :
  KT H (kvs.map fun kv=>if kv.1=k then (kv.1,y) else kv) (xs.map (putAt k u)):=by
 induction r with
 | nil=>exact .nil
 | @cons p q ps qs h t ih=>
  rw[List.map_cons,List.map_cons]
  refine .cons ?_ ih
  obtain ⟨h1,h2,h3⟩:=h
  unfold putAt
  by_cases e:p.1=k
  ·rw[if_pos e,if_pos (h1.symm.trans e)];exact ⟨h1,h2,ry⟩
  ·rw[if_neg e,if_neg (fun z=>e (h1.trans z))];exact ⟨h1,h2,h3⟩
theorem KT.put {H:Hp} {kvs:List (List Key×V)} {xs:List (List Key×Addr×Value)} (r:KT H kvs xs) (k:List Key) {b:Addr} {y:V} {u:Value} (hb:H b=some (.tup (k.map kV))) (ry:RelV y u) :
  KT H (putK kvs k y) (storedH xs k b u):=by
 have e:(kvs.any fun kv=>decide (kv.1=k))=(atKey xs k).isSome:=by
  rw[C9,(r.val k).isSome_eq,Option.isSome_map]
 unfold putK storedH
 rw[e]
 by_cases q:(atKey xs k).isSome=true
 ·rw[if_pos q,if_pos q];exact r.repl k ry
 ·rw[if_neg q,if_neg q];exact Paired.snoc r ⟨rfl,hb,ry⟩
theorem KT.keeps {H H':Hp} {kvs:List (List Key×V)} {xs:List (List Key×Addr×Value)} (r:KT H kvs xs) (ht:∀ b ys,H b=some (.tup ys)->H' b=some (.tup ys)):KT H' kvs xs:=
 Paired.mapP r fun _ _ z=>⟨z.1,ht _ _ z.2.1,z.2.2⟩
section
variable {P:Program} {w:World} {H:Hp} {h:Heap} {a:Addr}
theorem L1 {u:HO} (ok:HOk P w H h) (e:Rd H a u):ObjOk P w H h a u:=e.ok ok
theorem EK {kvs:List (Key×V)} (ok:HOk P w H h) (e:Rd H a (.dK kvs)):kvs.length<=sizeLine/\(a == sysModules)=false/\∃ vs,KV kvs vs/\h.DictOf (BS P w) a vs:=
 show ObjOk P w H h a (.dK kvs) from L1 ok e
theorem N8 {kvs:List (Key×V)} (ok:HOk P w H h) (e:H a=some (.dK kvs)):kvs.length<=sizeLine/\(a == sysModules)=false/\∃ vs,KV kvs vs/\h.DictOf (BS P w) a vs:=EK ok (.inl e)
theorem E8 {ks:List Key} (ok:HOk P w H h) (e:H a=some (.tup (ks.map kV))):(tupleKind (BS P w)).is h ks a:=by
 obtain ⟨_,its,r,o,h1,h2,n,h3⟩:=(show ObjOk P w H h a (.tup (ks.map kV)) from ok a _ e)
 exact ⟨o,its.toArray,n,h1,h2,h3,by simpa using K8 r⟩
theorem ER {kvs:List (List Key×V)} (ok:HOk P w H h) (e:Rd H a (.dT kvs)):kvs.length<=sizeLine/\(a == sysModules)=false /\
  ∃ xs,KT H kvs xs/\h.DictOfH (tupleKind (BS P w)) a xs:=by
 obtain ⟨z,y,xs,r,o,es,ep,h1,h2,h3,h4,h5⟩:=(show ObjOk P w H h a (.dT kvs) from L1 ok e)
 refine ⟨z,y,xs,r,o,es,ep,h1,h2,h3,h4,fun x hx=>?_,h5⟩
 have all:∀ {l:List (List Key×V)} {m:List (List Key×Addr×Value)},KT H l m->∀ x∈m,(tupleKind (BS P w)).is h x.1 x.2.1:=by
  intro l m q
  induction q with
  | nil=>intro x hx;exact nomatch hx
  | @cons p q ps qs hq t ih=>
   intro x hx
   rcases List.mem_cons.mp hx with e | hx
   ·subst e
    exact E8 ok (by rw[<-hq.1];exact hq.2.1)
   ·exact ih x hx
 exact all r x hx
theorem QJ {kvs:List (List Key×V)} (ok:HOk P w H h) (e:H a=some (.dT kvs)):kvs.length<=sizeLine/\(a == sysModules)=false /\
  ∃ xs,KT H kvs xs/\h.DictOfH (tupleKind (BS P w)) a xs:=ER ok (.inl e)
end
def DGet (H:Hp) (a:Addr) (y:V) (r:Option V):Prop:=
 (∃ kvs k,Rd H a (.dK kvs)/\y=kV k/\r=Al kvs k)\/∃ kvs k b,Rd H a (.dT kvs)/\y=.ref b/\H b=some (.tup (k.map kV))/\r=Al kvs k
def DPut (H:Hp) (a:Addr) (y v:V) (H':Hp):Prop:=
 (∃ kvs k,H a=some (.dK kvs)/\y=kV k/\kvs.length<sizeLine/\H'=upd H a (.dK (putK kvs k v))) \/
 ∃ kvs k b,H a=some (.dT kvs)/\y=.ref b/\H b=some (.tup (k.map kV))/\kvs.length<sizeLine/\H'=upd H a (.dT (putK kvs k v))
theorem DGet.t {H:Hp} {a b:Addr} {kvs:List (List Key×V)} {k:List Key} (e:H a=some (.dT kvs)) (eb:H b=some (.tup (k.map kV))):DGet H a (.ref b) (Al kvs k):=.inr ⟨kvs,k,b,.inl e,rfl,eb,rfl⟩
theorem DPut.t {H:Hp} {a b:Addr} {kvs:List (List Key×V)} {k:List Key} {v:V} (e:H a=some (.dT kvs)) (eb:H b=some (.tup (k.map kV))) (hl:kvs.length<sizeLine) :
  DPut H a (.ref b) v (upd H a (.dT (putK kvs k v))):=.inr ⟨kvs,k,b,e,rfl,eb,hl,rfl⟩
section
variable {X:Cx} {pins:List (Addr×Obj)} {σ:St} {H:Hp} {s:Shared} {a:Addr} {y v:V} {u r:Value} {o:Option V} {A:Around} {E:Value->Shared->Prop}
theorem Inv.big (I:Inv X pins σ H s):sysModules<s.heap.objs.size:=by
 have h:mainGlobals<s.heap.objs.size:=(I.mod.glob.keeps I.bk).lt
 exact Nat.lt_trans (by decide) h
theorem Oy {Q:Value->Shared->Prop} (hu:A.units+1<cLine) (I:Inv X pins σ H s) (g:DGet H a y (some v)) (ry:RelV y u) (h:∀ w' s',Inv X pins σ H s'->RelV v w'->Q w' s') :
  wpAny (model X.prog X.w) A (getItem (.ref a) u) Q E s:=by
 rcases g with ⟨kvs,k,e,ey,l⟩ | ⟨kvs,k,b,e,ey,eb,l⟩
 ·subst ey
  obtain ⟨z,hd,vs,rel,dd⟩:=EK I.hok e
  obtain ⟨w',hw,rw'⟩:=RelO.some_of (v:=v) (o:=valueAt vs k) (by rw[l];exact rel.val k)
  exact wpAny_getItem_of (Fe ry) dd.mapOf hw (h w' _ (I.tok _) rw')
 ·subst ey
  cases (show u=Value.ref b from ry)
  obtain ⟨z,hd,xs,rel,dd⟩:=ER I.hok e
  obtain ⟨w',hw,rw'⟩:=RelO.some_of (v:=v) (o:=(atKey xs k).map (·.2)) (by rw[l];exact rel.val k)
  obtain ⟨p,hp,hp2⟩:=Option.map_eq_some_iff.mp hw
  refine wpAny_getItem_heap (tupleKind_room_in1 hu) (E8 I.hok eb) dd hp ?_
  rw[hp2]
  exact h w' _ (I.tok _) rw'
theorem MY {h':Heap} {t':Nat} {ob:HO} (I:Inv X pins σ H s) (mu:Mut (H a)) (hs:Heap.SameBut a s.heap h') (he:∃ q,h'.get? a=some q) (new:ObjOk X.prog X.w (upd H a ob) h' a ob) :
  Inv X pins σ (upd H a ob) {s with heap:=h',toks:=t'}:=
 I.write (x:=a) (e:=a) mu (.inl rfl) (fun b q hb z=>(hs.2 b hb).trans z) he new
theorem O5 {P:Program} {w:World} {H':Hp} {h':Heap} {kvs:List (Key×V)} {vs:List (Key×Value)} (z:kvs.length<=sizeLine) (hd:(a == sysModules)=false) (rel:KV kvs vs) (dd:h'.DictOf (BS P w) a vs) :
  ObjOk P w H' h' a (.dK kvs):=⟨z,hd,vs,rel,dd⟩
theorem Rr {H':Hp} {Q:Unit->Shared->Prop} (hu:A.units+1<cLine) (I:Inv X pins σ H s) (g:DPut H a y v H') (ry:RelV y u) (rv:RelV v r) (h:∀ s',Inv X pins σ H' s'->Q () s') :
  wpAny (model X.prog X.w) A (setItem (.ref a) u r) Q E s:=by
 rcases g with ⟨kvs,k,e,ey,l,eH⟩ | ⟨kvs,k,b,e,ey,eb,l,eH⟩
 ·subst ey eH
  obtain ⟨z,hd,vs,rel,dd⟩:=N8 I.hok e
  have hz:vs.length<=sizeLine:=by rw[<-rel.length];exact z
  have hl:(putK kvs k v).length<=sizeLine:=by have:=IY kvs k v;lia
  refine wpAny_setItem_pairs (hsz:=hz) (Fe ry) dd fun h' dd' hs=>h _ ?_
  have he:∃ q,h'.get? a=some q:=let ⟨q,_,_,hq,_⟩:=dd';⟨q,hq⟩
  exact MY I (by rw[e];exact True.intro) hs he (O5 hl hd (rel.put k rv) dd')
 ·subst ey eH
  cases (show u=Value.ref b from ry)
  obtain ⟨z,hd,xs,rel,dd⟩:=QJ I.hok e
  have hz:xs.length<=sizeLine:=by rw[<-Paired.length rel];exact z
  have hl:(putK kvs k v).length<=sizeLine:=by have:=IY kvs k v;lia
  refine wpAny_setItem_heap (hsz:=hz) (tupleKind_room_in1 hu) (E8 I.hok eb) dd fun h' dd' hs=>h _ ?_
  obtain ⟨q,es,ep,hq,h2,h3,h4,_,h5⟩:=dd'
  refine MY I (by rw[e];exact True.intro) hs ⟨q,hq⟩ ⟨hl,hd,_,(rel.put k eb rv).keeps fun c ys ec=>?_,q,es,ep,hq,h2,h3,h4,h5⟩
  rw[AJ (RT ec e (fun z=>nomatch z))]
  exact ec
end
section
variable {X:Cx} {pins:List (Addr×Obj)} {σ:St} {H:Hp} {s:Shared} {a:Addr} {kvs:List (Key×V)} {k:Key} {u:Value} {A:Around} {E:Value->Shared->Prop}
end
def LX (i:Expr):Prop:=∀ ov iv,subscripted i false ov iv=operate [ov,iv] (getItem ov iv)
theorem N9 {prog:Program} {w:World} {A:Around} {E:Value->Shared->Prop} {s:Shared} {env:Env} {value slice:Expr} {pos:Pos} {T id:String} {Q:Value->Shared->Prop}
  (hl:typeLookup (.type T) "__getitem__"=pure (some (.builtin id))) (hs:LX slice)
  (h:wpAny (model prog w) A (eval value env) (fun o s₁=>wpAny (model prog w) A (eval slice env) (fun i s₂=>s₂.TypeIs o T/\wpAny (model prog w) A (getItem o i) Q E s₂) E s₁) E s) :
  wpAny (model prog w) A (eval (.Subscript value slice pos) env) Q E s:=by
 refine Subscript_ (wpAny_mono h (fun o s₁ h₁=>wpAny_mono h₁ (fun i s₂ h₂=>?_) fun _ _ x=>x) fun _ _ x=>x)
 obtain ⟨hT,h₂⟩:=h₂
 unfold subscriptTail
 refine wpAny_bind ?_
 rw[getitemInPython_of_ne hT.not_modules]
 refine wpAny_bind (wpAny_specialOf hT hl ?_)
 have fin:wpAny (model prog w) A (subscripted slice false o i) (fun r s₃=>wpAny (model prog w) A (letTemporaryGo value o r >>= fun _=>pure r) Q E s₃) E s₂:=by
  rw[hs o i]
  exact wpAny_operating (wpAny_mono h₂ (fun r s₃ h₃=>wpAny_bind (wpAny_letTemporaryGo (wpAny_pure h₃))) fun _ _ x=>x)
 first
  | exact wpAny_pure (wpAny_bind fin)
  | exact wpAny_bind (wpAny_pure (wpAny_bind fin))
  | exact wpAny_bind fin
theorem Rf {X:Cx} {pins:List (Addr×Obj)} {σ:St} {H:Hp} {s:Shared} {a:Addr} {y:V} {o:Option V} (I:Inv X pins σ H s) (g:DGet H a y o):s.TypeIs (.ref a) "dict":=by
 rcases g with ⟨kvs,k,e,_,_⟩ | ⟨kvs,k,b,e,_,_,_⟩
 ·obtain ⟨_,_,vs,_,dd⟩:=EK I.hok e
  exact dd.typeIs
 ·obtain ⟨_,_,xs,_,dd⟩:=ER I.hok e
  exact dd.typeIs
def O0 (td ty:TE):TE:=fun σ H Q=>td σ H fun x H1=>ty σ H1 fun y H2=>∃ a v,x=.ref a/\DGet H2 a y (some v)/\Q v H2
def Qf (td ty tv:TE):TS:=fun D σ H=>tv σ H fun v H1=>td σ H1 fun x H2=>ty σ H2 fun y H3=>∃ a H4,x=.ref a/\DPut H3 a y v H4/\D.nx σ H4
section
variable {X:Cx} {o i e value:Expr} {pos pos' tpos:Pos} {td ty tv:TE}
theorem P0 (hu:X.A.units+1<cLine) (ho:PE X o td) (hi:PE X i ty) (hs:LX i):PE X (.Subscript o i pos) (O0 td ty):=by
 intro pins s σ H Q I h
 refine N9 PySem.F.slot_dict_getitem.lookup hs (thn (ho pins s σ H _ I h) fun u s1 ⟨x,H1,I1,rx,q1⟩=>thn (hi pins s1 σ H1 _ I1 q1) fun iv s2 hh_=>?_)
 obtain ⟨y,H2,I2,ry,a,v,ex,g,q2⟩:=hh_
 subst ex
 obtain rfl:u=Value.ref a:=rx
 exact ⟨Rf I2 g,Oy hu I2 g ry fun w' s3 I3 rw'=>⟨v,H2,I3,rw',q2⟩⟩
theorem PQ (hu:X.A.units+1<cLine) (ho:PE X o td) (hi:PE X i ty) (hv:PE X value tv) (hs:swapsWith value (some (.Subscript o i pos')) pos.line X.env=pure false) :
  PS X (.Assign [.Subscript o i pos'] value pos) (Qf td ty tv):=by
 intro pins s σ H D I h
 refine wpAny_Assign_Subscript (thn (hv pins s σ H _ I h) fun r s1 ⟨v,H1,I1,rv,q1⟩=>thn (ho pins s1 σ H1 _ I1 q1) fun u s2 ⟨x,H2,I2,rx,q2⟩=>thn (hi pins s2 σ H2 _ I2 q2) fun iv s3 hh_=>?_) hs
 obtain ⟨y,H3,I3,ry,a,H4,ex,g,q3⟩:=hh_
 subst ex
 obtain rfl:u=Value.ref a:=rx
 exact Rr hu I3 g ry rv fun s4 I4=>⟨σ,H4,I4,q3⟩
end
theorem Na {P:Program} {w:World} {H:Hp} (h:Heap) (hb:sysModules<h.objs.size):ObjOk P w H (h.push {cls:=.type "dict",data:=.dict #[]}) h.objs.size (.dT []):=
 ⟨Nat.zero_le _,beq_eq_false_iff_ne.mpr (Ne.symm (Nat.ne_of_lt hb)),[],.nil,_,#[],0,Heap.get?_push_size _ rfl,⟨rfl,rfl,rfl⟩,rfl,rfl,List.nodup_nil⟩
def OX:TE:=fun _ H Q=>∀ p,H p=none->Q (.ref p) (upd H p (.dT []))
section
variable {X:Cx} {pos:Pos}
theorem Sh:PE X (.Dict [] [] pos) OX:=fun pins s σ H Q I h=>
 wpAny_Dict_empty ⟨.ref s.heap.objs.size,_,I.laid (a:=s.heap.objs.size) (o:=.dT []) (t':=s.toks) (fun _ _ q=>Heap.get?_push_of_some _ q) (Nat.le_refl _) (Na s.heap I.big),rfl,h _ (I.hok.fresh (Nat.le_refl _))⟩
end
structure M1 (X:Cx) (o:Expr) (m:Str) (apos:Pos) (e:Expr) (cpos:Pos):Prop where
 base:attributeBase o m X.env (eval o X.env)=eval o X.env
 few:((backTo cpos (starEach [e] X.env)).all (fun x=>!x.1) && (backToKw cpos (keywordEach [] X.env)).all (fun x=>x.1.isSome)
  && decide (([e]:List Expr).length+([]:List Keyword).length+(if ([]:List Keyword).isEmpty then 0 else 1)<30))=true
 line:(apos.endLine == cpos.line)=true
 trees:backTo cpos (starEach [e] X.env)=[(false,eval e X.env)]
structure M2 (X:Cx) (o:Expr) (m:Str) (apos:Pos) (e f:Expr) (cpos:Pos):Prop where
 base:attributeBase o m X.env (eval o X.env)=eval o X.env
 few:((backTo cpos (starEach [e,f] X.env)).all (fun x=>!x.1) && (backToKw cpos (keywordEach [] X.env)).all (fun x=>x.1.isSome)
  && decide (([e,f]:List Expr).length+([]:List Keyword).length+(if ([]:List Keyword).isEmpty then 0 else 1)<30))=true
 line:(apos.endLine == cpos.line)=true
 trees:backTo cpos (starEach [e,f] X.env)=[(false,eval e X.env),(false,eval f X.env)]
def IsD (H:Hp) (a:Addr):Prop:=(∃ kvs,Rd H a (.dK kvs))\/∃ kvs,Rd H a (.dT kvs)
theorem PY {X:Cx} {pins:List (Addr×Obj)} {σ:St} {H:Hp} {s:Shared} {a:Addr} (I:Inv X pins σ H s) (d:IsD H a) :
  s.TypeIs (.ref a) "dict"/\(∀ b,Value.ref a=.ref b->∃ ob,s.heap.get? b=some ob/\ob.dict=none)/\(a == sysModules)=false:=by
 rcases d with ⟨kvs,e⟩ | ⟨kvs,e⟩
 ·obtain ⟨_,hd,vs,_,dd⟩:=EK I.hok e
  refine ⟨dd.typeIs,fun b q=>?_,hd⟩
  cases q
  obtain ⟨ob,_,_,h1,h2,_⟩:=dd
  exact ⟨ob,h1,h2.2.1⟩
 ·obtain ⟨_,hd,xs,_,dd⟩:=ER I.hok e
  refine ⟨dd.typeIs,fun b q=>?_,hd⟩
  cases q
  obtain ⟨ob,_,_,h1,h2,_⟩:=dd
  exact ⟨ob,h1,h2.2.1⟩
section
variable {X:Cx} {pins:List (Addr×Obj)} {σ:St} {H:Hp} {s:Shared} {a:Addr} {y d:V} {u r:Value} {o:Option V} {A:Around} {E:Value->Shared->Prop}
theorem OY {Q:Value->Shared->Prop} (hu:A.units+1<cLine) (I:Inv X pins σ H s) (g:DGet H a y o) (ry:RelV y u) (rd:RelV d r) (h:∀ w' s',Inv X pins σ H s'->RelV (o.getD d) w'->Q w' s') :
  wpAny (model X.prog X.w) A (call (.builtin "dict.get") [.ref a,u,r]) Q E s:=by
 rcases g with ⟨kvs,k,e,ey,l⟩ | ⟨kvs,k,b,e,ey,eb,l⟩
 ·subst ey
  obtain ⟨z,hd,vs,rel,dd⟩:=EK I.hok e
  refine call_meetsIn PySem.F.slot_dict_get dd.typeIs PySem.F.entry_dict_get (PySem.F.args_dict_get_3 _ _ _) (meets_dict_get_default (BS X.prog X.w) a (Fe ry) hd r) ⟨_,dd.mapOf,h _ _ (I.tok _) ?_⟩
  rw[l]
  exact (rel.val k).getD rd
 ·subst ey
  cases (show u=Value.ref b from ry)
  obtain ⟨z,hd,xs,rel,dd⟩:=ER I.hok e
  refine call_meetsIn PySem.F.slot_dict_get dd.typeIs PySem.F.entry_dict_get (PySem.F.args_dict_get_3 _ _ _) (meetsH_dict_get_default (tupleKind (BS X.prog X.w)) a b hd r) ⟨tupleKind_room_in1 hu,k,xs,E8 I.hok eb,dd,h _ _ (I.tok _) ?_⟩
  rw[l]
  exact (rel.val k).getD rd
end
def Ob (td ty tx:TE):TE:=fun σ H Q=>td σ H fun x H1=>∃ a,x=.ref a/\IsD H1 a/\ty σ H1 fun y H2=>tx σ H2 fun z H3=>∃ o,DGet H3 a y o/\Q (o.getD z) H3
section
variable {X:Cx} {o e f:Expr} {apos cpos:Pos} {td ty tx:TE}
theorem Od (hu:X.A.units+1<cLine) (ho:PE X o td) (he:PE X e ty) (hf:PE X f tx) (m:M2 X o "get" apos e f cpos):PE X (.Call (.Attribute o "get" apos) [e,f] [] cpos) (Ob td ty tx):=by
 intro pins s σ H Q I h
 refine wpAny_Call_method m.base m.few m.line PySem.F.plainAttrs_dict PySem.F.slot_dict_get PySem.F.type_dict_get (thn (ho pins s σ H _ I h) fun u s1 hh_=>?_)
 obtain ⟨x,H1,I1,rx,a,ex,d,q1⟩:=hh_
 subst ex
 obtain rfl:u=Value.ref a:=rx
 obtain ⟨t1,t2,_⟩:=PY I1 d
 refine ⟨t1,t2,?_⟩
 rw[m.trees]
 refine Calls.callWith_builtin rfl (Calls.evalArgs_plain (Calls.spliced_cons (thn (he pins s1 σ H1 _ I1 q1) fun iv s2 ⟨y,H2,I2,ry,q2⟩=>
  Calls.spliced_cons (thn (hf pins s2 σ H2 _ I2 q2) fun fv s3 ⟨z,H3,I3,rz,ov,g,q3⟩=>Calls.spliced_nil ?_))))
 exact OY hu I3 g ry rz fun w' s4 I4 rw'=>⟨_,H3,I4,rw',q3⟩
end
section
variable {X:Cx} {pins:List (Addr×Obj)} {σ:St} {H:Hp} {s:Shared} {a:Addr} {kvs:List (Key×V)} {A:Around} {E:Value->Shared->Prop}
end
section
variable {X:Cx} {pins:List (Addr×Obj)} {σ:St} {H:Hp} {s:Shared} {a:Addr} {y:V} {u:Value} {A:Around} {E:Value->Shared->Prop}
end
end L2
namespace Att
open PySem PySem.W PySem.Calls PyProof.Rows
end Att
namespace L2
open PySem PySem.Spec PyProof.Rows
section
variable {X:Cx}
end
section
variable {κ:Type} [DecidableEq κ]
theorem QV {kvs:List (κ×V)} {k:κ} (h:Al kvs k=none):¬k∈kvs.map (·.1):=by
 intro m
 obtain ⟨p,hp,e⟩:=List.mem_map.mp m
 have q:(kvs.any fun kv=>decide (kv.1=k))=true:=List.any_eq_true.mpr ⟨p,hp,decide_eq_true e⟩
 rw[C9,h] at q
 exact absurd q (by simp)
theorem Pj {kvs:List (κ×V)} {k:κ} {v:V} (h:Al kvs k=some v):k∈kvs.map (·.1):=by
 have q:(kvs.any fun kv=>decide (kv.1=k))=true:=by
  rw[C9,h]
  all_goals rfl
 obtain ⟨p,hp,e⟩:=List.any_eq_true.mp q
 exact List.mem_map.mpr ⟨p,hp,of_decide_eq_true e⟩
theorem L8:∀ {l:List κ} {k:κ},l.Nodup->¬k∈l->(l++[k]).Nodup
 | [],k,_,_=>by simp
 | a::r,k,h,hk=>by
  obtain ⟨h1,h2⟩:=List.nodup_cons.mp h
  show (a::(r++[k])).Nodup
  refine List.nodup_cons.mpr ⟨fun m=>?_,L8 h2 fun m=>hk (List.mem_cons.mpr (Or.inr m))⟩
  rcases List.mem_append.mp m with q | q
  ·exact h1 q
  ·exact hk (List.mem_cons.mpr (Or.inl (List.mem_singleton.mp q).symm))
theorem S4 {kvs:List (κ×V)} {k:κ} (v:V) (hn:(kvs.map (·.1)).Nodup) (h:Al kvs k=none):((putK kvs k v).map (·.1)).Nodup:=by
 rw[LA v h,List.map_append]
 exact L8 hn (QV h)
end
end L2
namespace SL
open PySem PySem.Spec PyProof.Rows L2 EvS
section
variable {prog:Program} {w:World} {A:Around} {E:Value->Shared->Prop} {s:Shared} {a:Addr}
end
section
variable {X:Cx}
end
end SL
namespace SL
open PySem PySem.Spec PyProof.Rows L2 EvS Ev
section
variable {X:Cx}
variable {e:Expr} {es:List Expr} {ms:DL.MA} {p p2 pos pos2:Pos}
end
end SL
namespace SL
open PySem PySem.Spec PyProof.Rows L2
section
variable {prog:Program} {w:World} {A:Around} {E:Value->Shared->Prop} {s:Shared}
theorem T9 {d:Addr} {o:Obj} {es:Array DictEntry} {ep:Nat} {Q:Value->Shared->Prop} (hd:(d == sysModules)=false) (ho:s.heap.get? d=some o) (hc:o.ExactDict) (hdat:o.data=.dict es ep)
  (hQ:Q (.ref s.heap.objs.size) {s with heap:=s.heap.push {cls:=.type "dict_keyiterator",data:=.fields #[.ref d,.int 0 0,.int es.size 0,.int ep 0]}}) :
  wpAny (model prog w) A (pyIter (.ref d)) Q E s:=by
 have hT:s.TypeIs (.ref d) "dict":=⟨o,ho,hc.1⟩
 refine wpAny_pyIter_slot hT F.slot_dict_iter (wpAny_call_entry F.slot_dict_iter hT F.entry_dict_iter ?_ (F.args_dict_iter_1 _))
 unfold Builtin.«dict.__iter__» Builtin.Dict.dictSlotNone
 refine wpAny_bind (wpAny_bind (wpAny_notOrdered_dict hT ?_))
 show wpAny _ _ (pure (Value.ref d)) _ _ s
 refine wpAny_pure ?_
 show wpAny _ _ (Builtin.Dict.showsAll d >>= _) _ _ s
 unfold Builtin.Dict.showsAll
 rw[if_neg (by rw[hd];exact Bool.false_ne_true)]
 refine wpAny_bind (wpAny_pure (wpAny_bind (wpAny_dictEntries ho hdat (wpAny_bind (wpAny_dictEpoch ho hdat ?_)))))
 refine wpAny_bind (wpAny_newObj_type (wpAny_pure ⟨_,rfl,"dict_keyiterator",_,⟨_,Heap.get?_push_size _ rfl,rfl⟩,F.slot_dict_keyiterator_next.lookup,?_⟩))
 simpa [rawInt] using hQ
theorem UA {it d:Addr} {i ep:Nat} {od:Obj} {es:Array DictEntry} {en:DictEntry} {Q:Option Value->Shared->Prop} (hit:s.heap.IsKeyIter it d i es.size ep) (hod:s.heap.get? d=some od) (hdd:od.data=.dict es ep) (hx:es[i]?=some en)
  (hQ:∀ h',h'.IsKeyIter it d (i+1) es.size ep->Heap.SameBut it s.heap h'->Q (some en.key) {s with heap:=h'}):wpAny (model prog w) A (pyNext (.ref it)) Q E s:=by
 obtain ⟨o,ho,hc,hd⟩:=id hit
 unfold pyNext
 refine wpAny_bind (wpAny_attempt (wpAny_callSpecial?_slot (name:=Str.ofString "__next__") hit.typeIs F.slot_dict_keyiterator_next
  (wpAny_call_entry F.slot_dict_keyiterator_next hit.typeIs F.entry_dict_keyiterator_next ?_ (F.args_dict_keyiterator_next_1 _))))
 refine wpAny_bind (wpAny_pure (wpAny_bind (wpAny_bind (wpAny_bind (wpAny_typeNameOfWhole_keyiter hit.typeIs (wpAny_pure (wpAny_bind (wpAny_fieldsOf ho hd ?_))))))))
 simp only[show Builtin.Dict_items.ownsTuple "dict_keyiterator"=false from by decide,Bool.false_eq_true,if_false]
 show wpAny _ _ (if (Value.ref d == Value.none)=true then _ else _) _ _ s
 rw[if_neg (show ¬((Value.ref d == Value.none)=true) from Bool.false_ne_true)]
 refine wpAny_bind (wpAny_pure (wpAny_bind (wpAny_dictEntries hod hdd ?_)))
 rw[if_neg (by simp)]
 refine wpAny_bind (wpAny_pure (wpAny_bind (wpAny_dictEpoch hod hdd ?_)))
 rw[if_neg (by simp)]
 refine wpAny_pure ?_
 simp only[show ¬((i:Int)<0) from by lia,if_false,Int.toNat_natCast,hx]
 refine wpAny_bind (wpAny_bind (wpAny_typeNameOfWhole_keyiter hit.typeIs (wpAny_pure (wpAny_bind (wpAny_isOneOf_keyiter hit.typeIs ?_)))))
 show wpAny _ _ (setField (.ref it) 1 (rawInt ((i:Int)+1)) >>= _) _ _ s
 refine wpAny_bind (wpAny_setField ho hd (by simp) ?_)
 have hit':(s.heap.update it (Obj.mapFields (·.setIfInBounds 1 (rawInt ((i:Int)+1))))).IsKeyIter it d (i+1) es.size ep:=
  ⟨_,Heap.get?_update_self _ ho (Obj.isFreed_of_fields (Obj.data_mapFields hd _)),(Obj.cls_mapFields ..).trans hc,by rw[Obj.data_mapFields hd];simp[rawInt]⟩
 refine wpAny_bind (wpAny_holding (wpAny_bind (wpAny_isOneOf_keyiter (s:={s with heap:=s.heap.update it (Obj.mapFields (·.setIfInBounds 1 (rawInt ((i:Int)+1))))}) hit'.typeIs ?_)))
 show wpAny _ _ (pure en.key) _ _ _
 exact wpAny_pure (wpAny_pure ⟨_,rfl,wpAny_pure (hQ _ hit' (Heap.SameBut.update ..))⟩)
theorem Sw {it d:Addr} {i ep:Nat} {od:Obj} {es:Array DictEntry} {Q:Option Value->Shared->Prop} (hh:A.handled=none) (hit:s.heap.IsKeyIter it d i es.size ep) (hod:s.heap.get? d=some od) (hdd:od.data=.dict es ep) (hx:es.size<=i)
  (hQ:∀ h',Heap.ExtBut it s.heap h'->Q none {s with heap:=h'}):wpAny (model prog w) A (pyNext (.ref it)) Q E s:=by
 obtain ⟨o,ho,hc,hd⟩:=id hit
 unfold pyNext
 refine wpAny_bind (wpAny_attempt (wpAny_callSpecial?_slot (name:=Str.ofString "__next__") hit.typeIs F.slot_dict_keyiterator_next
  (wpAny_call_entry F.slot_dict_keyiterator_next hit.typeIs F.entry_dict_keyiterator_next ?_ (F.args_dict_keyiterator_next_1 _))))
 refine wpAny_bind (wpAny_pure (wpAny_bind (wpAny_bind (wpAny_bind (wpAny_typeNameOfWhole_keyiter hit.typeIs (wpAny_pure (wpAny_bind (wpAny_fieldsOf ho hd ?_))))))))
 simp only[show Builtin.Dict_items.ownsTuple "dict_keyiterator"=false from by decide,Bool.false_eq_true,if_false]
 show wpAny _ _ (if (Value.ref d == Value.none)=true then _ else _) _ _ s
 rw[if_neg (show ¬((Value.ref d == Value.none)=true) from Bool.false_ne_true)]
 refine wpAny_bind (wpAny_pure (wpAny_bind (wpAny_dictEntries hod hdd ?_)))
 rw[if_neg (by simp)]
 refine wpAny_bind (wpAny_pure (wpAny_bind (wpAny_dictEpoch hod hdd ?_)))
 rw[if_neg (by simp)]
 refine wpAny_pure ?_
 simp only[show ¬((i:Int)<0) from by lia,if_false,Int.toNat_natCast,Array.getElem?_eq_none hx]
 refine wpAny_bind (wpAny_bind (wpAny_typeNameOfWhole_keyiter hit.typeIs (wpAny_pure ?_)))
 show wpAny _ _ (setField (.ref it) 0 .none >>= _) _ _ s
 refine wpAny_bind (wpAny_setField ho hd (by simp) ?_)
 show wpAny _ _ (newExc (.type "StopIteration") [] >>= _) _ _ _
 refine wpAny_bind ?_
 simp only[newExc,newTuple]
 refine wpAny_bind (wpAny_newObj_type ?_ (by size_fits))
 refine wpAny_bind (m:=firstArgMember _ _) (wpAny_of_eq (a:=Value.none) (by first | rfl | (simp only[firstArgMember];rfl)) ?_)
 refine wpAny_newObj_type ?_ (by size_fits)
 simp only[raiseNew]
 refine wpAny_bind (wpAny_handled ?_)
 rw[show A.in1.handled=none from hh]
 refine wpAny_bind (wpAny_pure (wpAny_throw ?_))
 refine wpAny_bind (wpAny_isInstance (T:="StopIteration") (b:=true) ⟨_,Heap.get?_push_size _ rfl,rfl⟩ isSubtype_stop ?_)
 exact wpAny_pure (hQ _ (((Heap.SameBut.update ..).extBut.push _).push _))
end
def Fk:HO->Nat
 | .dK kvs=>kvs.length
 | .dT kvs=>kvs.length
 | _=>0
def Mg (H:Hp):HO->Nat->V->Prop
 | .dK kvs,i,x=>∃ k v,kvs[i]?=some (k,v)/\x=kV k
 | .dT kvs,i,x=>∃ k v b,kvs[i]?=some (k,v)/\x=.ref b/\H b=some (.tup (k.map kV))
 | _,_,_=>False
def HG:HO->Prop
 | .dK _=>True
 | .dT _=>True
 | _=>False
theorem Mq {α β:Type} {R:α->β->Prop}:∀ {xs:List α} {ys:List β} {i:Nat} {y:β},Paired R xs ys->ys[i]?=some y->∃ x,xs[i]?=some x/\R x y:=by
 intro xs ys i y r
 induction r generalizing i with
 | nil=>intro e;cases e
 | cons h t ih=>
  intro e
  cases i with
  | zero=>cases e;exact ⟨_,rfl,h⟩
  | succ i=>exact ih (by simpa using e)
theorem Js {P:Program} {w:World} {H:Hp} {h:Heap} {a:Addr} {u:HO} (hu:HG u) (x:ObjOk P w H h a u) :
  (a == sysModules)=false/\∃ o es ep,h.get? a=some o/\o.ExactDict/\o.data=.dict es ep/\es.size=Fk u/\∀ i en,es[i]?=some en->∃ x,RelV x en.key/\Mg H u i x:=by
 cases u<;>first | exact hu.elim | skip
 case dK kvs=>
  obtain ⟨_,hy,vs,rv,o,es,ep,h1,h2,h3,_,h4,_⟩:=(show _ from x)
  refine ⟨hy,o,es,ep,h1,h2,h3,?_,fun i en e=>?_⟩
  ·show es.size=kvs.length
   rw[rv.length,<-h4.length]
   simp
  ·have e':es.toList[i]?=some en:=by simpa using e
   obtain ⟨⟨k,v⟩,hk⟩:∃ q,vs[i]?=some q:=by
    have hl:=h4.length
    have:i<es.toList.length:=(List.getElem?_eq_some_iff.mp e').1
    exact ⟨vs[i]'(by lia),List.getElem?_eq_getElem _⟩
   obtain ⟨hi,_⟩:=h4.get? e' hk
   obtain ⟨⟨k',v'⟩,hk',r1,_⟩:=Mq rv hk
   have r1:k'=k:=r1
   subst r1
   refine ⟨kV k',?_,k',v',hk',rfl⟩
   rcases CS (show DJ k' en.key=true from hi) with ⟨j,t,z1,z2⟩ | ⟨y,t,z1,z2⟩
   ·rw[z1,z2];exact ⟨t,rfl⟩
   ·rw[z1,z2];exact ⟨t,rfl⟩
 case dT kvs=>
  obtain ⟨_,hy,xs,rv,o,es,ep,h1,h2,h3,h4,_⟩:=(show _ from x)
  refine ⟨hy,o,es,ep,h1,h2,h3,?_,fun i en e=>?_⟩
  ·show es.size=kvs.length
   rw[size_of_entries h4,Paired.length rv]
  ·rw[entry_at h4] at e
   obtain ⟨q,hq,rfl⟩:=Option.map_eq_some_iff.mp e
   obtain ⟨p,hp,r1,r2,r3⟩:=Mq rv hq
   exact ⟨.ref q.2.1,rfl,p.1,p.2,q.2.1,hp,rfl,r2⟩
def Itd (a:Addr) (o:Obj) (u:HO):It:=
 ⟨fun i H=>H a=some (.frz o u)/\i<Fk u,fun i H x H'=>H'=H/\Mg H u i x,fun i H=>H a=some (.frz o u)/\Fk u<=i⟩
theorem Po {P:Program} {w:World} {K:PySem.W.Frag} {tg:Expr} {a it:Addr} {o:Obj} {u:HO} {es:Array DictEntry} {ep:Nat} (hu:HG u) (hdat:o.data=.dict es ep) (hsz:es.size=Fk u):Turn P w K tg (Itd a o u) [it] it (fun i h=>h.IsKeyIter it a i es.size ep) where
 mem:=by simp
 obj:=fun i h st b hb=>by
  have e:b=it:=by simpa using hb
  subst e
  obtain ⟨o,e,c,d⟩:=st
  exact ⟨o,e,fun v z=>by rw[d] at z;cases z⟩
 keep:=fun i h h' st k=>by
  obtain ⟨o,e,r⟩:=st
  exact ⟨o,k it (by simp) o e,r⟩
 item:=by
  intro X hP hw hK hc i pins s σ H E I hf st hg
  subst hP hw hK
  obtain ⟨ha,hi⟩:=hg
  obtain ⟨h0,q⟩:=I.hok a _ ha
  obtain ⟨_,o',es',ep',h1,h2,h3,h4,h5⟩:=Js hu q
  rw[h0] at h1
  cases h1
  rw[hdat] at h3
  cases h3
  obtain ⟨f0,f1,f2,f3,f4,f5⟩:=hf it (by simp)
  have hlt:i<es.size:=by rw[hsz];exact hi
  obtain ⟨x,rx,kx⟩:=h5 i es[i] (Array.getElem?_eq_getElem hlt)
  refine UA st h0 hdat (Array.getElem?_eq_getElem hlt) fun h' st' sb=>?_
  have I1:Inv X pins σ H {s with heap:=h'}:=I.turned (t':=s.toks) (fun b o hb e=>(sb.2 b hb).trans e) f0 f1 f3 f4 f5
  obtain ⟨o2,e,c,d⟩:=id st'
  exact ⟨_,rfl,E1 (s:={s with heap:=h'}) e c d (by decide) ⟨x,H,I1,rx,⟨rfl,kx⟩,st',fun b hb=>(hf b hb).1⟩⟩
 done:=by
  intro X hP hw hK hc i pins s σ H E I hf st hg
  subst hP hw hK
  obtain ⟨ha,hi⟩:=hg
  obtain ⟨h0,q⟩:=I.hok a _ ha
  obtain ⟨f0,f1,f2,f3,f4,f5⟩:=hf it (by simp)
  exact Sw (I.ok.hd hc) st h0 hdat (by rw[hsz];exact hi) fun h' eb=>⟨rfl,I.turned (t':=s.toks) (fun b o hb e=>eb b o hb e) f0 f1 f3 f4 f5⟩
 self:=fun _ _ _ _ _ st h=>wpAny_pyIter_keyiter st h
section
variable {X:Cx} {tg:Expr}
def Pa (tl:TE):TI:=fun σ H R=>tl σ H fun x H1=>∃ a u,x=.ref a/\H1 a=some u/\HG u/\∀ o,R (Itd a o u) (upd H1 a (.frz o u))
theorem Sk {l:Expr} {tl:TE} (hl:PE X l tl):PI X tg l (Pa tl):=by
 intro pins s σ H R I h
 refine thn (hl pins s σ H _ I h) fun v s1 hh_=>?_
 obtain ⟨x,H1,I1,r1,q1⟩:=hh_
 obtain ⟨a,u,e,ha,hu,q⟩:=q1
 subst e
 cases r1
 have ok:=I1.hok a u ha
 obtain ⟨hy,o,es,ep,h1,h2,h3,h4,h5⟩:=Js hu ok
 refine T9 hy h1 h2 h3 ?_
 have mu:Mut (H1 a):=by
  rw[ha]
  cases u<;>first | exact hu.elim | exact trivial
 have I2:Inv X pins σ (upd H1 a (.frz o u)) s1:=I1.write (x:=a) (e:=a) (h':=s1.heap) (t':=s1.toks) mu (.inl rfl) (fun b u' _ e=>e) ⟨o,h1⟩ ⟨h1,ok.stay (fun b u' _ e=>e) (fun b hb=>by
   rw[AJ (fun z=>by rw[z,ha] at hb;cases hb;exact hu.elim)];exact hb) fun b xs hb=>by
   rw[AJ (fun z=>by rw[z,ha] at hb;cases hb;exact hu.elim)];exact hb⟩
 refine ⟨s1.heap.objs.size,[s1.heap.objs.size],_,_,upd H1 a (.frz o u),rfl,I2.kept (t':=s1.toks) fun b o e=>Heap.get?_push_of_some _ e,Po hu h3 h4,⟨_,Heap.get?_push_size _ rfl,rfl,rfl⟩,fun b hb=>?_,q o⟩
 have e:b=s1.heap.objs.size:=by simpa using hb
 subst e
 exact I2.fpOk (Nat.le_refl _) (I2.hok.fresh (Nat.le_refl _))
end
end SL
namespace DL
open PySem L2
def wQ (K:PySem.W.Frag) (H:Hp):Wd:=⟨K,fun _=>False,H⟩
def Grow (H H':Hp):Prop:=∀ b o,H b=some o->H' b=some o
theorem Grow.refl {H:Hp}:Grow H H:=fun _ _ e=>e
theorem Grow.trans {H H1 H2:Hp} (a:Grow H H1) (b:Grow H1 H2):Grow H H2:=fun c o e=>b c o (a c o e)
theorem Grow.new {H:Hp} {a:Addr} {o:HO} (h:H a=none):Grow H (upd H a o):=fun b u e=>by rw[AJ (Ah e h)];exact e
theorem Grow.none {H H':Hp} {a:Addr} (g:Grow H H') (h:H' a=none):H a=none:=by
 cases e:H a with
 | none=>rfl
 | some o=>rw[g a o e] at h;cases h
theorem Grow.kw {K:PySem.W.Frag} {H H':Hp} (g:Grow H H'):Kw (wQ K H) (wQ K H'):=⟨rfl,fun a o _ e=>⟨g a o e,fun z=>z⟩⟩
theorem Gp {f:Fr} {α:Nat->Addr} {Γ:Gm} {H:Hp}:Kw (wd f α Γ H) (wQ f.K H):=⟨rfl,fun a o _ e=>⟨e,fun z=>z⟩⟩
theorem SN {K:PySem.W.Frag} {α:Nat->Addr} {H H0:Hp}:Kw (wQ K H) (wd (frQ K H0) α [] H):=⟨rfl,fun a o _ e=>⟨e,fun z=>by
 rcases z with z | ⟨n,xs,z,_⟩
 ·exact z
 ·cases z⟩⟩
structure Sl (K:PySem.W.Frag) (H:Hp) (ds:List (Option D)) (σ:St):Prop where
 len:ds.length=σ.length
 slot:∀ (i:Nat) (d:D),ds[i]?=some (some d)->∃ v,σ[i]?=some (some v)/\Rep (wQ K H) d v
theorem Sl.nil {K:PySem.W.Frag} {H:Hp}:Sl K H [] []:=⟨rfl,fun i d e=>by cases e⟩
theorem Sl.cons {K:PySem.W.Frag} {H:Hp} {ds:List (Option D)} {σ:St} {d:D} {v:V} (r:Rep (wQ K H) d v) (h:Sl K H ds σ):Sl K H (some d::ds) (some v::σ):=⟨by rw[List.length_cons,List.length_cons,h.len],fun i c e=>by
 cases i with
 | zero=>cases e;exact ⟨v,rfl,r⟩
 | succ i=>exact h.slot i c e⟩
theorem Sl.skip {K:PySem.W.Frag} {H:Hp} {ds:List (Option D)} {σ:St} {v:Option V} (h:Sl K H ds σ):Sl K H (none::ds) (v::σ):=⟨by rw[List.length_cons,List.length_cons,h.len],fun i c e=>by
 cases i with
 | zero=>cases e
 | succ i=>exact h.slot i c e⟩
abbrev slD (ds:List (Option D)):DS:=⟨ds.map (Option.map .v),[],0⟩
theorem Sl.rs {K:PySem.W.Frag} {H:Hp} {ds:List (Option D)} {σ:St} (h:Sl K H ds σ):RS (frQ K H) (fun _=>0) (slD ds) σ H where
 len:=by rw[List.length_map];exact h.len
 slot:=fun i d e=>by
  rw[List.getElem?_map] at e
  cases hd:ds[i]? with
  | none=>rw[hd] at e;cases e
  | some o=>
   cases o with
   | none=>rw[hd] at e;cases e
   | some d'=>
    rw[hd] at e
    cases e
    obtain ⟨v,a,b⟩:=h.slot i d' hd
    exact ⟨v,a,b.kw SN⟩
 box:=fun n xs h=>by cases h
 own:=fun n xs h=>by cases h
 inj:=fun n m xs ys h=>by cases h
 fr:=fun b o h _=>h
 forb:=fun a h=>h.elim
def xF (K:PySem.W.Frag) (m:MF):TE:=fun σ H Q=>∃ f:Fr,f.K=K/\tDF f m σ H Q
theorem DT.x {X:Cx} {e:Expr} {m:MT} (h:DT X e m):PT X e (xT X.K m):=fun pins s σ H Q I ⟨f,hf,q⟩=>h f hf pins s σ H Q I q
theorem DE.xK {X:Cx} {K:PySem.W.Frag} {e:Expr} {m:ME} (hk:X.K=K) (h:DE X e m):PE X e (xD K m):=hk▸DE.x h
theorem DT.xK {X:Cx} {K:PySem.W.Frag} {e:Expr} {m:MT} (hk:X.K=K) (h:DT X e m):PT X e (xT K m):=hk▸DT.x h
theorem Ep {K:PySem.W.Frag} {m:ME} {σ:St} {H:Hp} {Q:VK} {ds:List (Option D)} {d:D} {s':DS} (hs:Sl K H ds σ) (e:m (slD ds)=some (.v d,s')) (q:∀ v H',Grow H H'->Rep (wQ K H') d v->Q v H'):xD K m σ H Q:=
 ⟨frQ K H,rfl,fun _=>0,slD ds,(.v d,s'),hs.rs,Nat.le_refl _,e,fun α' v H' rs' _ _ hv=>q v H' (fun b o z=>rs'.fr b o z fun y=>y) (Rep.kw Gp (show Rep _ d v from hv))⟩
theorem Eo {K:PySem.W.Frag} {m:MT} {σ:St} {H:Hp} {Q:Bool->Hp->Prop} {ds:List (Option D)} {b:Bool} {s':DS} (hs:Sl K H ds σ) (e:m (slD ds)=some (b,s')) (q:∀ H',Grow H H'->Q b H'):xT K m σ H Q:=
 ⟨frQ K H,rfl,fun _=>0,slD ds,(b,s'),hs.rs,Nat.le_refl _,e,fun α' H' rs' _ _=>q H' (fun b o z=>rs'.fr b o z fun y=>y)⟩
theorem Lh {K:PySem.W.Frag} {m:MF} {σ:St} {H:Hp} {Q:VK} {ds:List (Option D)} {xs:List D} {s':DS} (hs:Sl K H ds σ) (e:m (slD ds)=some (xs,s')) (q:∀ a vs H',Grow H H'->H' a=none->Reps (wQ K H') xs vs->Q (.ref a) (upd H' a (.lst vs))):xF K m σ H Q:=
 ⟨frQ K H,rfl,fun _=>0,slD ds,(xs,s'),hs.rs,Nat.le_refl _,e,fun α' a vs H' rs' _ _ ha hx=>q a vs H' (fun b o z=>rs'.fr b o z fun y=>y) ha (hx.kw Gp)⟩
theorem RS.grow {f:Fr} {α:Nat->Addr} {s:DS} {σ:St} {H H':Hp} (r:RS f α s σ H) (g:Grow H H'):RS f α s σ H'/\Ext f α α s.Γ s.Γ H H':=by
 have e:Ext f α α s.Γ s.Γ H H':=⟨⟨rfl,fun a u n z=>⟨g a u z,n⟩⟩,Nat.le_refl _,fun _ _=>rfl,fun _ xs _ z=>⟨xs,z⟩⟩
 exact ⟨r.mv e g,e⟩
theorem RS.tree {f:Fr} {α:Nat->Addr} {s:DS} {σ:St} {H:Hp} (r:RS f α s σ H) {i:Nat} {d:D} (h:s.σ[i]?=some (some (.v d))):∃ v,σ[i]?=some (some v)/\Rep (wQ f.K H) d v:=by
 obtain ⟨v,a,b⟩:=r.slot i _ h
 exact ⟨v,a,Rep.kw Gp (show Rep _ d v from b)⟩
end DL
namespace Ev
open PySem
def top (i:Nat):Stmt:=PySem.Challenge.pw_evenlots_k30_even_rows.main.body.getD i (.Pass ⟨0,0,0,0⟩)
structure Cal (P:Program) (w:World) (K:PySem.W.Frag) (mg:Str->Option Value) (base:Heap) (x:Str) (lv:Nat) (f:Addr) (fd:FuncData) (ps:List Str) (sp:L2.Sp):Prop where
 G:L2.FnOk P w K mg base L2.CX0 lv f fd ps sp
 b:L2.Binds K fd ps []
 k:PySem.W.keepIn K (.ref f)=true
 m:mg x=some (.ref f)
end Ev
namespace DL
open PySem L2 Ev
abbrev Hu:Stmt:=top 1
abbrev P4:List Str:=["many","hands","share","more"]
def Ge:MS:=(AL (AX 2 (mOp BM (AA 0) (AA 1)))
 (AL (AX 3 (mOp Bf (AA 0) (mOp CN (AA 2) (AA 1))))
 (DH (mOp AY (AK (BI Cm (AK (AR (AB (mOp AY (AA 2) (mC (.int 1))) AC))) (AA 3))) (AK (BI Cm (AK (AR (AB (AA 2) AC))) (mOp Bf (AA 1) (AA 3))))))))
theorem sc_even_sizes:FnScope P4 ["many","hands"] (AW Hu):=⟨rfl,rfl,rfl,by decide +kernel,rfl,by decide +kernel,by decide +kernel⟩
theorem Q2 {P:Program} {w:World} {K:PySem.W.Frag} {mg:Str->Option Value} {base:Heap} {fa:Addr} {fd:FuncData} (F:Fun K "even_sizes" "even_sizes" Hu fa fd) (T:Nm mg):FnOk P w K mg base CX0 1 fa fd ["many","hands"] (spD K 2 (mFn 4 (Ge))):=
 IR F sc_even_sizes fun cdv A outer s H E hr=>(AU (A5 (fun te h=>Ad (i:=2) sc_even_sizes.nd rfl (Or.inl rfl) h) (DN (AD (pv 0)) (AD (pv 1))))
 (AU (A5 (fun te h=>Ad (i:=3) sc_even_sizes.nd rfl (Or.inl rfl) h) (Do (AD (pv 0)) (Eu (AD (pv 2)) (AD (pv 1)))))
 (Az (GB (BK (Ab (Fw (Ab (A9 (AF (BK (AD (pv 2)) AM) AI))) (AD (pv 3)))) (Ab (Fw (Ab (A9 (AF (AD (pv 2)) AI))) (Do (AD (pv 1)) (AD (pv 3))))))))))
abbrev Ip:Stmt:=top 2
abbrev Pt:List Str:=["sizes","stretches","start","size"]
def Kl:MS:=(AL (Bj (B6 (AA 1) (BA (AB (AA 2) (AB (mOp AY (AA 2) (AA 3)) AC)))))
 (Ez 2 FA (AA 3)))
def He:MS:=(AL (BF 1 (AR AC))
 (AL (AX 2 (mC (.int 0)))
 (AL (Bd (Aq (AA 0)) (Aj 3) (Kl))
 (A3 (BY 1)))))
theorem sc_stretches_by:FnScope Pt ["sizes"] (AW Ip):=⟨rfl,rfl,rfl,by decide +kernel,rfl,by decide +kernel,by decide +kernel⟩
theorem Nr {P:Program} {w:World} {K:PySem.W.Frag} {mg:Str->Option Value} {base:Heap} {fa:Addr} {fd:FuncData} (F:Fun K "stretches_by" "stretches_by" Ip fa fd) (T:Nm mg):FnOk P w K mg base CX0 1 fa fd ["sizes"] (spF K 1 (Ag 4 (He))):=
 CG F sc_stretches_by fun cdv A outer s H E hr=>(AU (Cg (fun te h=>Ad (i:=1) sc_stretches_by.nd rfl (Or.inl rfl) h) (A9 AI))
 (AU (A5 (fun te h=>Ad (i:=2) sc_stretches_by.nd rfl (Or.inl rfl) h) AM)
 (AU (CB PassesOwn.never rfl (Bt (AD (pv 0))) (Bq (AV (i:=3) sc_stretches_by.nd rfl (Or.inl rfl))) (AU (DK (Eh (AD (pv 1)) (EN (AF (AD (pv 2)) (AF (BK (AD (pv 2)) (AD (pv 3))) AI)))))
 (Az (QP (fun te h=>PP (i:=2) sc_stretches_by.nd rfl (Or.inl rfl) h PR) PJ (AD (pv 3))))))
 (Az (Cb (FO (pv 1)))))))
abbrev HK:Stmt:=top 3
abbrev OF:List Str:=["sizes"]
def IQ (zE:MDF) (zL:MD):MS:=(A3 (Ay zE (AB (Av zL (AB (AQ De (AB (AA 0) AC)) (AB (AQ Ap (AB (AA 0) AC)) AC))) AC)))
theorem Qm:FnScope OF ["sizes"] (AW HK):=⟨rfl,rfl,rfl,by decide +kernel,rfl,by decide +kernel,by decide +kernel⟩
theorem Qy {P:Program} {w:World} {K:PySem.W.Frag} {mg:Str->Option Value} {base:Heap} {fa:Addr} {fd:FuncData} (F:Fun K "even_stretches" "even_stretches" HK fa fd) (T:Nm mg) {zX:Addr} {zY:FuncData} {zE:MDF} (zG:Cal P w K mg base "stretches_by" 1 zX zY ["sizes"] (spF K 1 zE)) {yF:Addr} {yG:FuncData} {zL:MD} (zM:Cal P w K mg base "even_sizes" 1 yF yG ["many","hands"] (spD K 2 zL)):FnOk P w K mg base CX0 2 fa fd ["sizes"] (spF K 1 (Ag 1 (IQ zE zL))):=
 CG F Qm fun cdv A outer s H E hr=>(Az (Cb (Bi zG.G hr rfl zG.m zG.k zG.b (AF (CU zM.G hr rfl zM.m zM.k zM.b (AF (QM T.sum (AF (AD (pv 0)) AI)) (AF (Bp T (AF (AD (pv 0)) AI)) AI)) (Aa (Aa A2))) AI) (Aa A2))))
abbrev IU:Stmt:=top 4
abbrev To:List Str:=["sizes","moves","giver","had","taker","due","many"]
def IJ (zE:MDF) (zC:MDF):MS:=(AL (AX 6 (mOp Bf (AQ EO (AB (mOp gIx (AA 3) (mC (.int 1))) (AB (mOp gIx (AA 5) (mC (.int 1))) AC))) (AQ EM (AB (mOp gIx (AA 3) (mC (.int 0))) (AB (mOp gIx (AA 5) (mC (.int 0))) AC)))))
 (mIf (EF (Aw (mOp BX (AA 2) (AA 4))) (Aw (mOp Dn (AA 6) (mC (.int 0))))) (Bj (B6 (AA 1) (BA (AB (AA 2) (AB (AA 4) (AB (AA 6) AC)))))) Dg))
def JP (zE:MDF) (zC:MDF):MS:=(Bd (BR (AB (AK (Ay zC (AB (AA 0) AC))) AC)) (A0 [4,5]) (IJ zE zC))
def Iu (zE:MDF) (zC:MDF):MS:=(AL (BF 1 (AR AC))
 (AL (Bd (BR (AB (AK (Ay zE (AB (AA 0) AC))) AC)) (A0 [2,3]) (JP zE zC))
 (A3 (BY 1))))
theorem sc_even_moves:FnScope To ["sizes"] (AW IU):=⟨rfl,rfl,rfl,by decide +kernel,rfl,by decide +kernel,by decide +kernel⟩
theorem Rt {P:Program} {w:World} {K:PySem.W.Frag} {mg:Str->Option Value} {base:Heap} {fa:Addr} {fd:FuncData} (F:Fun K "even_moves" "even_moves" IU fa fd) (T:Nm mg) {zX:Addr} {zY:FuncData} {zE:MDF} (zG:Cal P w K mg base "stretches_by" 1 zX zY ["sizes"] (spF K 1 zE)) {zJ:Addr} {zK:FuncData} {zC:MDF} (zD:Cal P w K mg base "even_stretches" 2 zJ zK ["sizes"] (spF K 1 zC)):FnOk P w K mg base CX0 3 fa fd ["sizes"] (spF K 1 (Ag 7 (Iu zE zC))):=
 CG F sc_even_moves fun cdv A outer s H E hr=>(AU (Cg (fun te h=>Ad (i:=1) sc_even_moves.nd rfl (Or.inl rfl) h) (A9 AI))
 (AU (CB PassesOwn.never rfl (Df rfl T.enum (AF (Ab (Bi zG.G (hr.mono (by decide)) rfl zG.m zG.k zG.b (AF (AD (pv 0)) AI) (Aa A2))) AI)) (Cc (is:=[2,3]) (n:=2) rfl (Bl rfl rfl (Am (AV (i:=2) sc_even_moves.nd rfl (Or.inl rfl)) (Am (AV (i:=3) sc_even_moves.nd rfl (Or.inl rfl)) Bk)))) (Az (CB PassesOwn.never rfl (Df rfl T.enum (AF (Ab (Bi zD.G hr rfl zD.m zD.k zD.b (AF (AD (pv 0)) AI) (Aa A2))) AI)) (Cc (is:=[4,5]) (n:=2) rfl (Bl rfl rfl (Am (AV (i:=4) sc_even_moves.nd rfl (Or.inl rfl)) (Am (AV (i:=5) sc_even_moves.nd rfl (Or.inl rfl)) Bk)))) (AU (A5 (fun te h=>Ad (i:=6) sc_even_moves.nd rfl (Or.inl rfl) h) (Do (Qj T (AF (BE (AD (pv 3)) AM) (AF (BE (AD (pv 5)) AM) AI))) (RI T (AF (BE (AD (pv 3)) AM) (AF (BE (AD (pv 5)) AM) AI)))))
 (Az (GC (Fc (Qi (C2 hr.units (AD (pv 2)) (AD (pv 4))) (SQ (OB hr.units0 (AD (pv 6)) AM)))) (Az (DK (Eh (AD (pv 1)) (EN (AF (AD (pv 2)) (AF (AD (pv 4)) (AF (AD (pv 6)) AI))))))) FN))))))
 (Az (Cb (FO (pv 1))))))
abbrev Cu:Stmt:=top 5
abbrev ES:List Str:=["rows","things","row"]
def Kz (zC:MDF):MS:=(Bj (Ed (AA 1) (AA 2)))
def Gi (zC:MDF):MS:=(AL (BF 1 (AR AC))
 (AL (Bd (Aq (AA 0)) (Aj 2) (Kz zC))
 (A3 (A7 (Aq (AK (Ay zC (AB (AK (A7 (Aq (AA 0)) 1 [] (Aj 0) mTT (AQ Ap (AB (AA 0) AC)))) AC)))) 2 [1] (A0 [0,1]) mTT (mSl (AA 2) (some (AA 0)) (some (AA 1)))))))
theorem sc_even_rows:FnScope ES ["rows"] (AW Cu):=⟨rfl,rfl,rfl,by decide +kernel,rfl,by decide +kernel,by decide +kernel⟩
theorem RO {P:Program} {w:World} {K:PySem.W.Frag} {mg:Str->Option Value} {base:Heap} {fa:Addr} {fd:FuncData} (F:Fun K "even_rows" "even_rows" Cu fa fd) (T:Nm mg) {zJ:Addr} {zK:FuncData} {zC:MDF} (zD:Cal P w K mg base "even_stretches" 2 zJ zK ["sizes"] (spF K 1 zC)):FnOk P w K mg base CX0 3 fa fd ["rows"] (spF K 1 (Ag 3 (Gi zC))):=
 CG F sc_even_rows fun cdv A outer s H E hr=>(AU (Cg (fun te h=>Ad (i:=1) sc_even_rows.nd rfl (Or.inr rfl) h) (A9 AI))
 (AU (CB PassesOwn.never rfl (Bt (AD (pv 0))) (Bq (AV (i:=2) sc_even_rows.nd rfl (Or.inl rfl))) (Az (DK (Mz (AD (pv 1)) (AD (pv 2))))))
 (Az (Cb (Cy (esc:=(AW Cu)) (N:=ES) (tn:=["start","end"]) (fn:=["things"]) (ix:=[1]) rfl rfl rfl ⟨rfl,by decide +kernel,by decide +kernel,by decide +kernel,rfl,by decide +kernel⟩ (Bt (Ab (Bi zD.G hr rfl zD.m zD.k zD.b (AF (Ab (Cy (esc:=(AW Cu)) (N:=ES) (tn:=["row"]) (fn:=[]) (ix:=[]) rfl rfl rfl ⟨rfl,by decide +kernel,by decide +kernel,by decide +kernel,rfl,by decide +kernel⟩ (Bt (AD (pv 0))) (fun _ _ _ _ _=>(Bq (AV (i:=0) (show (["row"]:List Str).Nodup by decide +kernel) rfl (Or.inl rfl)))) (fun _ _ _ _ _=>B8) (fun _ _ _ _ _=>(Bp T (AF (AD (pv 0)) AI))))) AI) (Aa A2)))) (fun _ _ _ _ _=>(Cc (is:=[0,1]) (n:=2) rfl (Bl rfl rfl (Am (AV (i:=0) (show (["start","end","things"]:List Str).Nodup by decide +kernel) rfl (Or.inl rfl)) (Am (AV (i:=1) (show (["start","end","things"]:List Str).Nodup by decide +kernel) rfl (Or.inl rfl)) Bk))))) (fun _ _ _ _ _=>B8) (fun _ _ _ _ _=>(GE (AD (pv 2)) (Er (AD (pv 0))) (Er (AD (pv 1))))))))))
abbrev GA:Stmt:=top 7
abbrev L6:List Str:=["row","hand"]
def HZ:MS:=(A3 (BL Cd (AB (AK (A7 (BR (AB (AA 0) AC)) 2 [1] (A0 [0,1]) mTT (BA (AB (mOp gIx (AA 1) (mC (.int 0))) (AB (AA 2) (AB (AA 0) AC)))))) AC)))
theorem RV:FnScope L6 ["row","hand"] (AW GA):=⟨rfl,rfl,rfl,by decide +kernel,rfl,by decide +kernel,by decide +kernel⟩
theorem S6 {P:Program} {w:World} {K:PySem.W.Frag} {mg:Str->Option Value} {base:Heap} {fa:Addr} {fd:FuncData} (F:Fun K "names_of_hand" "names_of_hand" GA fa fd) (T:Nm mg):FnOk P w K mg base CX0 1 fa fd ["row","hand"] (spF K 2 (Ag 2 (HZ))):=
 CG F RV fun cdv A outer s H E hr=>(Az (Cb (JN T (AF (Ab (Cy (esc:=(AW GA)) (N:=L6) (tn:=["place","thing"]) (fn:=["hand"]) (ix:=[1]) rfl rfl rfl ⟨rfl,by decide +kernel,by decide +kernel,by decide +kernel,rfl,by decide +kernel⟩ (Df rfl T.enum (AF (AD (pv 0)) AI)) (fun _ _ _ _ _=>(Cc (is:=[0,1]) (n:=2) rfl (Bl rfl rfl (Am (AV (i:=0) (show (["place","thing","hand"]:List Str).Nodup by decide +kernel) rfl (Or.inl rfl)) (Am (AV (i:=1) (show (["place","thing","hand"]:List Str).Nodup by decide +kernel) rfl (Or.inl rfl)) Bk))))) (fun _ _ _ _ _=>B8) (fun _ _ _ _ _=>(EN (AF (BE (AD (pv 1)) AM) (AF (AD (pv 2)) (AF (AD (pv 0)) AI))))))) AI))))
abbrev IK:Stmt:=top 8
abbrev Qr:List Str:=["rows","names","hand","row"]
def J1 (zI:MDF):MS:=(Bj (Ed (AA 1) (AK (Ay zI (AB (AA 3) (AB (AA 2) AC))))))
def FF (zI:MDF):MS:=(AL (BF 1 (AR AC))
 (AL (Bd (BR (AB (AA 0) AC)) (A0 [2,3]) (J1 zI))
 (A3 (BL Cd (AB (AA 1) AC)))))
theorem sc_names_plainly:FnScope Qr ["rows"] (AW IK):=⟨rfl,rfl,rfl,by decide +kernel,rfl,by decide +kernel,by decide +kernel⟩
theorem S9 {P:Program} {w:World} {K:PySem.W.Frag} {mg:Str->Option Value} {base:Heap} {fa:Addr} {fd:FuncData} (F:Fun K "names_plainly" "names_plainly" IK fa fd) (T:Nm mg) {yH:Addr} {yI:FuncData} {zI:MDF} (zN:Cal P w K mg base "names_of_hand" 1 yH yI ["row","hand"] (spF K 2 zI)):FnOk P w K mg base CX0 2 fa fd ["rows"] (spF K 1 (Ag 4 (FF zI))):=
 CG F sc_names_plainly fun cdv A outer s H E hr=>(AU (Cg (fun te h=>Ad (i:=1) sc_names_plainly.nd rfl (Or.inl rfl) h) (A9 AI))
 (AU (CB PassesOwn.never rfl (Df rfl T.enum (AF (AD (pv 0)) AI)) (Cc (is:=[2,3]) (n:=2) rfl (Bl rfl rfl (Am (AV (i:=2) sc_names_plainly.nd rfl (Or.inl rfl)) (Am (AV (i:=3) sc_names_plainly.nd rfl (Or.inl rfl)) Bk)))) (Az (DK (Mz (AD (pv 1)) (Ab (Bi zN.G hr rfl zN.m zN.k zN.b (AF (AD (pv 3)) (AF (AD (pv 2)) AI)) (Aa (Aa A2))))))))
 (Az (Cb (JN T (AF (AD (pv 1)) AI))))))
abbrev FW:Stmt:=top 9
abbrev K5:List Str:=["rows"]
def Ff (zO:MDF):MS:=(A3 (A7 (Aq (AK (Ay zO (AB (AA 0) AC)))) 3 [0] (A0 [0,1,2]) mTT (mOp gIx (mOp gIx (AA 3) (AA 1)) (AA 2))))
theorem T7:FnScope K5 ["rows"] (AW FW):=⟨rfl,rfl,rfl,by decide +kernel,rfl,by decide +kernel,by decide +kernel⟩
theorem QF {P:Program} {w:World} {K:PySem.W.Frag} {mg:Str->Option Value} {base:Heap} {fa:Addr} {fd:FuncData} (F:Fun K "sorted_plainly" "sorted_plainly" FW fa fd) (T:Nm mg) {yJ:Addr} {yK:FuncData} {zO:MDF} (zP:Cal P w K mg base "names_plainly" 2 yJ yK ["rows"] (spF K 1 zO)):FnOk P w K mg base CX0 3 fa fd ["rows"] (spF K 1 (Ag 1 (Ff zO))):=
 CG F T7 fun cdv A outer s H E hr=>(Az (Cb (Cy (esc:=(AW FW)) (N:=K5) (tn:=["key","hand","place"]) (fn:=["rows"]) (ix:=[0]) rfl rfl rfl ⟨rfl,by decide +kernel,by decide +kernel,by decide +kernel,rfl,by decide +kernel⟩ (Bt (Ab (Bi zP.G hr rfl zP.m zP.k zP.b (AF (AD (pv 0)) AI) (Aa A2)))) (fun _ _ _ _ _=>(Cc (is:=[0,1,2]) (n:=3) rfl (Bl rfl rfl (Am (AV (i:=0) (show (["key","hand","place","rows"]:List Str).Nodup by decide +kernel) rfl (Or.inl rfl)) (Am (AV (i:=1) (show (["key","hand","place","rows"]:List Str).Nodup by decide +kernel) rfl (Or.inl rfl)) (Am (AV (i:=2) (show (["key","hand","place","rows"]:List Str).Nodup by decide +kernel) rfl (Or.inl rfl)) Bk)))))) (fun _ _ _ _ _=>B8) (fun _ _ _ _ _=>(BE (BE (AD (pv 3)) (AD (pv 1))) (AD (pv 2)))))))
abbrev Gh:Stmt:=top 11
abbrev RB:List Str:=["script","k","cell"]
def E6:MS:=(AL (AX 2 (mC (.int 0)))
 (AL (mIf (Aw (mOp Di (AA 1) (AQ Ap (AB (AA 0) AC)))) (AX 2 (mOp gIx (AA 0) (AA 1))) Dg)
 (A3 (AR (AB (AA 2) (AB (AQ CD (AB (mOp FB (AA 2) (mOp Dp (mC (.int 10)) (mC (.int 18)))) AC)) (AB (mOp CN (mC (.int 37)) (AA 1)) AC)))))))
theorem sc__law_pool:FnScope RB ["script","k"] (AW Gh):=⟨rfl,rfl,rfl,by decide +kernel,rfl,by decide +kernel,by decide +kernel⟩
theorem PX {P:Program} {w:World} {K:PySem.W.Frag} {mg:Str->Option Value} {base:Heap} {fa:Addr} {fd:FuncData} (F:Fun K "_law_pool" "_law_pool" Gh fa fd) (T:Nm mg):FnOk P w K mg base CX0 1 fa fd ["script","k"] (spF K 2 (Ag 3 (E6))):=
 CG F sc__law_pool fun cdv A outer s H E hr=>(AU (A5 (fun te h=>Ad (i:=2) sc__law_pool.nd rfl (Or.inl rfl) h) AM)
 (AU (GC (R1 hr.units0 (AD (pv 1)) (Bp T (AF (AD (pv 0)) AI))) (Az (A5 (fun te h=>Ad (i:=2) sc__law_pool.nd rfl (Or.inl rfl) h) (BE (AD (pv 0)) (AD (pv 1))))) FN)
 (Az (Cb (A9 (AF (AD (pv 2)) (AF (HC T (AF (QO hr.units0 (AD (pv 2)) (KG AM AM)) AI)) (AF (Eu AM (AD (pv 1))) AI))))))))
abbrev HU:Stmt:=top 12
abbrev Sy:List Str:=["pool","many","found","x"]
def Ey:MS:=(AL (mIf (Aw (mOp BP (mOp gIx (AA 0) (mC (.int 1))) (mC (.int 1)))) (AL (AX 2 (mOp BH (mOp gIx (AA 0) (mC (.int 0))) (AA 1)))
 (AL (IS (AA 0) (mC (.int 0)) (mOp BM (mOp gIx (AA 0) (mC (.int 0))) (AA 1)))
 (DH (AA 2)))) Dg)
 (AL (IS (AA 0) (mC (.int 2)) (mOp AY (mOp gIx (AA 0) (mC (.int 2))) (mC (.int 1))))
 (AL (AX 3 (mOp BH (mOp AY (mOp BH (mOp gIx (AA 0) (mC (.int 0))) (mC (.int 999999999989))) (mOp CN (mC (.int 420001)) (mOp gIx (AA 0) (mC (.int 2))))) (mC (.int 999999999989))))
 (AL (AX 3 (mOp BH (mOp CN (AA 3) (AA 3)) (mC (.int 1000000000039))))
 (AL (AX 3 (mOp BH (mOp CN (mOp AY (AA 3) (mC (.int 310019))) (AA 3)) (mC (.int 999999999961))))
 (DH (mOp BH (mOp BM (AA 3) (mC (.int 7))) (AA 1))))))))
theorem sc__law_draw:FnScope Sy ["pool","many"] (AW HU):=⟨rfl,rfl,rfl,by decide +kernel,rfl,by decide +kernel,by decide +kernel⟩
theorem UB {P:Program} {w:World} {K:PySem.W.Frag} {mg:Str->Option Value} {base:Heap} {fa:Addr} {fd:FuncData} (F:Fun K "_law_draw" "_law_draw" HU fa fd) (T:Nm mg):FnOk P w K mg base CX0 1 fa fd ["pool","many"] (spD K 2 (mFn 4 (Ey))):=
 IR F sc__law_draw fun cdv A outer s H E hr=>(AU (GC (JE hr.units (BE (AD (pv 0)) AM) AM) (AU (A5 (fun te h=>Ad (i:=2) sc__law_draw.nd rfl (Or.inl rfl) h) (Cp (BE (AD (pv 0)) AM) (AD (pv 1))))
 (AU (Ln (AD (pv 0)) AM (DN (BE (AD (pv 0)) AM) (AD (pv 1))))
 (Az (GB (AD (pv 2)))))) FN)
 (AU (Ln (AD (pv 0)) AM (BK (BE (AD (pv 0)) AM) AM))
 (AU (A5 (fun te h=>Ad (i:=3) sc__law_draw.nd rfl (Or.inl rfl) h) (Cp (BK (Cp (BE (AD (pv 0)) AM) AM) (Eu AM (BE (AD (pv 0)) AM))) AM))
 (AU (A5 (fun te h=>Ad (i:=3) sc__law_draw.nd rfl (Or.inl rfl) h) (Cp (Eu (AD (pv 3)) (AD (pv 3))) AM))
 (AU (A5 (fun te h=>Ad (i:=3) sc__law_draw.nd rfl (Or.inl rfl) h) (Cp (Eu (BK (AD (pv 3)) AM) (AD (pv 3))) AM))
 (Az (GB (Cp (DN (AD (pv 3)) AM) (AD (pv 1))))))))))
abbrev HR:Stmt:=top 13
abbrev TJ:List Str:=["script","hands","most","found","h","pool","kind","row","at","keys","key"]
def Ie (zF:MDF) (zB:MD):MS:=(AL (BF 9 (AR (AB (Av zB (AB (AA 5) (AB (mC (.int 3)) AC))) (AB (mOp Bf (Av zB (AB (AA 5) (AB (mC (.int 50)) AC))) (mC (.int 25))) (AB (mOp BM (AA 8) (mC (.int 3))) (AB (mOp Bf (mC (.int 0)) (mOp BM (AA 8) (mC (.int 2)))) (AB (mC (.int 7)) AC)))))))
 (AL (Bj (B6 (AA 9) (mOp Bf (mOp Dp (mC (.int 10)) (mC (.int 20))) (Av zB (AB (AA 5) (AB (mC (.int 9)) AC))))))
 (AL (AX 10 (mOp gIx (AA 9) (AA 6)))
 (Bj (B6 (AA 7) (BA (AB (AA 10) (AB (mOp AY (mOp AY (mOp gIx (mC (.str "abcdefgh")) (AA 4)) (mOp gIx (mC (.str "xyz")) (mOp BH (AA 8) (mC (.int 3))))) (mOp gIx (mC (.str "pqrst")) (mOp BH (mOp BM (AA 8) (mC (.int 3))) (mC (.int 5))))) AC))))))))
def Gs (zF:MDF) (zB:MD):MS:=(AL (BF 5 (Ay zF (AB (AA 0) (AB (mOp AY (mC (.int 1)) (AA 4)) AC))))
 (AL (AX 6 (Av zB (AB (AA 5) (AB (mC (.int 6)) AC))))
 (AL (BF 7 (AR AC))
 (AL (Bd (C8 (AB (Av zB (AB (AA 5) (AB (mOp AY (AA 2) (mC (.int 1))) AC))) AC)) (Aj 8) (Ie zF zB))
 (Bj (B6 (AA 3) (AK (BY 7))))))))
def FY (zF:MDF) (zB:MD):MS:=(AL (BF 3 (AR AC))
 (AL (Bd (C8 (AB (AA 1) AC)) (Aj 4) (Gs zF zB))
 (A3 (BY 3))))
theorem sc__law_rows:FnScope TJ ["script","hands","most"] (AW HR):=⟨rfl,rfl,rfl,by decide +kernel,rfl,by decide +kernel,by decide +kernel⟩
theorem TY {P:Program} {w:World} {K:PySem.W.Frag} {mg:Str->Option Value} {base:Heap} {fa:Addr} {fd:FuncData} (F:Fun K "_law_rows" "_law_rows" HR fa fd) (T:Nm mg) {zZ:Addr} {yA:FuncData} {zF:MDF} (zH:Cal P w K mg base "_law_pool" 1 zZ yA ["script","k"] (spF K 2 zF)) {yB:Addr} {yC:FuncData} {zB:MD} (zA:Cal P w K mg base "_law_draw" 1 yB yC ["pool","many"] (spD K 2 zB)):FnOk P w K mg base CX0 2 fa fd ["script","hands","most"] (spF K 3 (Ag 11 (FY zF zB))):=
 CG F sc__law_rows fun cdv A outer s H E hr=>(AU (Cg (fun te h=>Ad (i:=3) sc__law_rows.nd rfl (Or.inl rfl) h) (A9 AI))
 (AU (CB PassesOwn.never rfl (Hr rfl T.range (AF (AD (pv 1)) AI)) (Bq (AV (i:=4) sc__law_rows.nd rfl (Or.inl rfl))) (AU (Cg (fun te h=>Ad (i:=5) sc__law_rows.nd rfl (Or.inl rfl) h) (Bi zH.G hr rfl zH.m zH.k zH.b (AF (AD (pv 0)) (AF (BK AM (AD (pv 4))) AI)) (Aa (Aa A2))))
 (AU (A5 (fun te h=>Ad (i:=6) sc__law_rows.nd rfl (Or.inl rfl) h) (CU zA.G hr rfl zA.m zA.k zA.b (AF (AD (pv 5)) (AF AM AI)) (Aa (Aa A2))))
 (AU (Cg (fun te h=>Ad (i:=7) sc__law_rows.nd rfl (Or.inl rfl) h) (A9 AI))
 (AU (CB PassesOwn.never rfl (Hr rfl T.range (AF (CU zA.G hr rfl zA.m zA.k zA.b (AF (AD (pv 5)) (AF (BK (AD (pv 2)) AM) AI)) (Aa (Aa A2))) AI)) (Bq (AV (i:=8) sc__law_rows.nd rfl (Or.inl rfl))) (AU (Cg (fun te h=>Ad (i:=9) sc__law_rows.nd rfl (Or.inl rfl) h) (A9 (AF (CU zA.G hr rfl zA.m zA.k zA.b (AF (AD (pv 5)) (AF AM AI)) (Aa (Aa A2))) (AF (Do (CU zA.G hr rfl zA.m zA.k zA.b (AF (AD (pv 5)) (AF AM AI)) (Aa (Aa A2))) AM) (AF (DN (AD (pv 8)) AM) (AF (Do AM (DN (AD (pv 8)) AM)) (AF AM AI)))))))
 (AU (DK (Eh (AD (pv 9)) (Do (KG AM AM) (CU zA.G hr rfl zA.m zA.k zA.b (AF (AD (pv 5)) (AF AM AI)) (Aa (Aa A2))))))
 (AU (A5 (fun te h=>Ad (i:=10) sc__law_rows.nd rfl (Or.inl rfl) h) (BE (AD (pv 9)) (AD (pv 6))))
 (Az (DK (Eh (AD (pv 7)) (EN (AF (AD (pv 10)) (AF (BK (BK (BE Fg (AD (pv 4))) (BE Fg (Cp (AD (pv 8)) AM))) (BE Fg (Cp (DN (AD (pv 8)) AM) AM))) AI))))))))))
 (Az (DK (Eh (AD (pv 3)) (Ab (FO (pv 7)))))))))))
 (Az (Cb (FO (pv 3))))))
end DL
namespace DL
open PySem L2
theorem B0 {g:MG} {b:MS} {items:List D} (P:Nat->DS->Prop) (hs:∀ i d s,items[i]?=some d->P i s->∃ s1 s2,g d s=some s1/\b s1=some (.nx s2)/\P (i+1) s2) {s:DS} (h0:P 0 s):∃ s',CJ g b items s=some (.nx s')/\P items.length s':=by
 have go:∀ (k:Nat) (s:DS),k<=items.length->P k s->∃ s',CJ g b (items.drop k) s=some (.nx s')/\P items.length s':=by
  intro k
  generalize hj:items.length - k=j
  induction j generalizing k with
  | zero=>
   intro s hk p
   have e:k=items.length:=by lia
   subst e
   exact ⟨s,by rw[List.drop_length];rfl,p⟩
  | succ j ih=>
   intro s hk p
   have hlt:k<items.length:=by lia
   obtain ⟨s1,s2,h1,h2,h3⟩:=hs k _ s (List.getElem?_eq_getElem hlt) p
   obtain ⟨s',h4,h5⟩:=ih (k+1) (by lia) s2 hlt h3
   refine ⟨s',?_,h5⟩
   rw[List.drop_eq_getElem_cons hlt]
   show (g _ s).bind _=_
   rw[h1]
   show (b s1).bind _=_
   rw[h2]
   exact h4
 exact go 0 s (Nat.zero_le _) h0
theorem Mc {g:MG} {t:MT} {e:ME} {items:List D} (P:Nat->List D->List (Option SV)->Gm->Prop)
  (hs:∀ i d acc τ Γ,items[i]?=some d->P i acc τ Γ->∃ s1 b,g d ⟨τ,Γ,Γ.length⟩=some s1/\t s1=some b/\((b.1=true/\∃ y s2,e b.2=some (.v y,s2)/\s2.Γ.length=Γ.length/\P (i+1) (acc++[y]) s2.σ s2.Γ)\/(b.1=false/\b.2.Γ.length=Γ.length/\P (i+1) acc b.2.σ b.2.Γ)))
  {τ:List (Option SV)} {Γ:Gm} (h0:P 0 [] τ Γ):∃ ys τ' Γ',An g t e items τ Γ=some (ys,Γ')/\P items.length ys τ' Γ':=by
 have go:∀ (k:Nat) (acc:List D) (τ:List (Option SV)) (Γ:Gm),k<=items.length->P k acc τ Γ->∃ ys τ' Γ',An g t e (items.drop k) τ Γ=some (ys,Γ')/\P items.length (acc++ys) τ' Γ':=by
  intro k
  generalize hj:items.length - k=j
  induction j generalizing k with
  | zero=>
   intro acc τ Γ hk p
   have e:k=items.length:=by lia
   subst e
   exact ⟨[],τ,Γ,by rw[List.drop_length];rfl,by rw[List.append_nil];exact p⟩
  | succ j ih=>
   intro acc τ Γ hk p
   have hlt:k<items.length:=by lia
   obtain ⟨s1,b,h1,h2,h3⟩:=hs k _ acc τ Γ (List.getElem?_eq_getElem hlt) p
   rw[List.drop_eq_getElem_cons hlt]
   rcases h3 with ⟨hb,y,s2,h4,h5,h6⟩ | ⟨hb,h5,h6⟩
   ·obtain ⟨ys,τ',Γ',h7,h8⟩:=ih (k+1) (by lia) (acc++[y]) s2.σ s2.Γ hlt h6
    refine ⟨y::ys,τ',Γ',?_,by simpa using h8⟩
    show (g _ _).bind _=_
    rw[h1]
    show (t s1).bind _=_
    rw[h2]
    show (if b.1=true then _ else _)=_
    rw[if_pos hb,h4]
    show (if s2.Γ.length=Γ.length then _ else _)=_
    rw[if_pos h5,h7]
    rfl
   ·obtain ⟨ys,τ',Γ',h7,h8⟩:=ih (k+1) (by lia) acc b.2.σ b.2.Γ hlt h6
    refine ⟨ys,τ',Γ',?_,h8⟩
    show (g _ _).bind _=_
    rw[h1]
    show (t s1).bind _=_
    rw[h2]
    show (if b.1=true then _ else _)=_
    rw[if_neg (by rw[hb];exact Bool.false_ne_true),if_pos h5]
    exact h7
 obtain ⟨ys,τ',Γ',h1,h2⟩:=go 0 [] τ Γ (Nat.zero_le _) h0
 exact ⟨ys,τ',Γ',h1,by simpa using h2⟩
theorem MC {α:Type} {xs:List α} {i:Int} (h0:0<=i) (h1:i<(xs.length:Int)):∃ c,atI xs i=some c/\c∈xs:=by
 have e:xs[i.toNat]?=some (xs[i.toNat]'(by lia)):=List.getElem?_eq_getElem (by lia)
 have q:=Gb e
 rw[show ((i.toNat:Nat):Int)=i by lia] at q
 exact ⟨_,q,List.getElem_mem _⟩
theorem HF {lo:Int} {n i:Nat} {d:D} (h:(upTo lo n)[i]?=some d):i<n/\d=.int (lo+i):=by
 have hi:=(List.getElem?_eq_some_iff.mp h).1
 rw[EA] at hi
 rw[MJ lo n i hi] at h
 exact ⟨hi,(Option.some.inj h).symm⟩
def Tg (t:Str):Prop:=1<=t.length/\t.length<=8/\∀ c∈t.cps.toList,97<=c/\c<=122
def thD (t:Int×Str):D:=.tup [.int t.1,.str t.2]
def AE (ts:List (Int×Str)):D:=.lst (ts.map thD)
theorem Ae {m n:MS} {s s1:DS} (h:m s=some (.nx s1)):AL m n s=n s1:=by unfold AL;rw[h];rfl
def Bm {α:Type} (xs:List α) (l u:Option Int):List α:=(xs.drop (HT.sIx xs.length 0 l)).take (HT.sIx xs.length xs.length u - HT.sIx xs.length 0 l)
theorem EI {α:Type} (f:α->D) (xs:List α) (l u:Option Int):cutD (xs.map f) l u=(Bm xs l u).map f:=by
 unfold cutD Bm
 rw[List.length_map,List.map_take,List.map_drop]
theorem Sd {α:Type} (xs:List α) (i:Int) (h0:0<=i) (h1:i<=xs.length):(Bm xs none (some i)).length+(Bm xs (some i) none).length=xs.length:=by
 have e:HT.sIx xs.length xs.length (some i)=i.toNat:=by
  show (if i<0 then (i+(xs.length:Int)).toNat else min i.toNat xs.length)=i.toNat
  rw[if_neg (by lia)]
  lia
 have e0:HT.sIx xs.length 0 (some i)=i.toNat:=by
  show (if i<0 then (i+(xs.length:Int)).toNat else min i.toNat xs.length)=i.toNat
  rw[if_neg (by lia)]
  lia
 unfold Bm
 rw[e,e0,HT.M5,HT.M5]
 simp
 lia
theorem Bw {α β:Type} {f:α->β} {xs:List α} {i:Nat} {d:β} (h:(xs.map f)[i]?=some d):∃ a,xs[i]?=some a/\d=f a:=by
 rw[List.getElem?_map] at h
 cases e:xs[i]? with
 | none=>rw[e] at h;cases h
 | some a=>rw[e] at h;exact ⟨a,rfl,(Option.some.inj h).symm⟩
abbrev Th:=Int×Str
theorem M0 {α:Type} {f:α->D} {xs:List α} {i:Nat} {a:α} (h:xs[i]?=some a):atI (xs.map f) (i:Int)=some (f a):=Gb (by rw[List.getElem?_map,h];rfl)
theorem at0 {x y:D}:atI [x,y] 0=some x:=rfl
theorem Bh {Γ:Gm} {x:Option (List D)}:(Γ++[x])[Γ.length]?=some x:=by simp
theorem FJ {Γ:Gm} {x y:Option (List D)}:(Γ++[x]).set Γ.length y=Γ++[y]:=by simp
theorem E7 {Γ:Gm} {x:List (Option (List D))}:(Γ++x).take Γ.length=Γ:=by simp
theorem Lx {c:MT} {m n:MS} {s s':DS} (h:c s=some (false,s')):mIf c m n s=n s':=by unfold mIf;rw[h];rfl
theorem Ly {c:MT} {m n:MS} {s s':DS} (h:c s=some (true,s')):mIf c m n s=m s':=by unfold mIf;rw[h];rfl
theorem CF {m:ME} {s s':DS} {b:Bool} (h:m s=some (.v (.bl b),s')):Aw m s=some (b,s'):=by unfold Aw;rw[h];rfl
theorem AO {g:Gm->SV->SV->Option D} {a b:ME} {s s1 s2:DS} {x y:SV} {z:D} (h1:a s=some (x,s1)) (h2:b s1=some (y,s2)) (h3:g s2.Γ x y=some z):mOp g a b s=some (.v z,s2):=by
 unfold mOp;rw[h1];show (b s1).bind _=_;rw[h2];show (g s2.Γ x y).map _=_;rw[h3];rfl
theorem FV {g:Gm->SV->SV->Option (List D)} {a b:ME} {s s1 s2:DS} {x y:SV} {z:List D} (h1:a s=some (x,s1)) (h2:b s1=some (y,s2)) (h3:g s2.Γ x y=some z):BI g a b s=some (z,s2):=by
 unfold BI;rw[h1];show (b s1).bind _=_;rw[h2];show (g s2.Γ x y).map _=_;rw[h3];rfl
theorem A1 {m:MF} {s s':DS} {xs:List D} (h:m s=some (xs,s')):AK m s=some (.v (.lst xs),s'):=by unfold AK;rw[h];rfl
theorem CC {mi:MF} {nt:Nat} {ix:List Nat} {g:MG} {t:MT} {e:ME} {s s':DS} {items ys:List D} {Γ':Gm} (h1:mi s=some (items,s')) (hl:items.length<=big) (h2:An g t e items (DY nt ix s'.σ) s'.Γ=some (ys,Γ')):A7 mi nt ix g t e s=some (ys,{s' with Γ:=Γ'}):=by
 unfold A7;rw[h1,Option.bind_some,if_pos hl,h2];rfl
theorem CY {g:Gm->List SV->Option D} {m:ME} {s s':DS} {x:SV} {z:D} (h:m s=some (x,s')) (hg:g s'.Γ [x]=some z):AQ g (AB m AC) s=some (.v z,s'):=by
 unfold AQ AB AC;rw[h];show (g s'.Γ [x]).map _=_;rw[hg];rfl
theorem CZ {M:MDF} {m:ME} {s s':DS} {x:SV} {z:List D} {Γ':Gm} (h:m s=some (x,s')) (hg:M [x] s'.Γ=some (z,Γ')):Ay M (AB m AC) s=some (z,{s' with Γ:=Γ'}):=by
 unfold Ay AB AC;rw[h];show (M [x] s'.Γ).map _=_;rw[hg];rfl
theorem EC {M:MD} {m n:ME} {s s1 s2:DS} {x y:SV} {z:D} {Γ':Gm} (h:m s=some (x,s1)) (h2:n s1=some (y,s2)) (hg:M [x,y] s2.Γ=some (z,Γ')):Av M (AB m (AB n AC)) s=some (.v z,{s2 with Γ:=Γ'}):=by
 unfold Av AB AC;rw[h];show (((n s1).bind _).map _).bind _=_;rw[h2];show (M [x,y] s2.Γ).map _=_;rw[hg];rfl
theorem BJ {i:Nat} {m:ME} {s s':DS} {x:SV} (h:m s=some (x,s')):AX i m s=some (.nx {s' with σ:=s'.σ.set i (some x)}):=by unfold AX;rw[h];rfl
theorem nil_of {s:DS}:AK (AR AC) s=some (.v (.lst []),s):=by simp[show (0:Nat)<=big from Nat.zero_le _]
theorem GW {m n:ME} {s s1 s2:DS} {x y:D} (h1:m s=some (.v x,s1)) (h2:n s1=some (.v y,s2)):BA (AB m (AB n AC)) s=some (.v (.tup [x,y]),s2):=by
 unfold BA AB AC
 rw[h1]
 show (((n s1).bind _).map _).bind _=_
 rw[h2]
 show (if (2:Nat)<=big then some (SV.v (D.tup [x,y]),s2) else none)=_
 rw[if_pos (by decide)]
theorem Q4 {m:ME} {s s':DS} {d:D} (h:m s=some (.v d,s')):DH m s=some (.rt d s'):=by unfold DH;rw[h];rfl
theorem Ao:big=1000000:=rfl
def Pl (Γ:Gm) (n:Nat):Prop:=∃ c f q:Int,Γ[n]?=some (some [.int c,.int f,.int q])
def Pd (n:Nat) (Γ Γ':Gm):Prop:=∃ c f q:Int,Γ'=Γ.set n (some [.int c,.int f,.int q])
theorem Pl.lt {Γ:Gm} {n:Nat} (h:Pl Γ n):n<Γ.length:=by
 obtain ⟨_,_,_,e⟩:=h
 exact (List.getElem?_eq_some_iff.mp e).1
theorem Pd.pl {Γ Γ':Gm} {n:Nat} (p:Pl Γ n) (h:Pd n Γ Γ'):Pl Γ' n:=by
 obtain ⟨c,f,q,rfl⟩:=h
 exact ⟨c,f,q,by rw[List.getElem?_set_self p.lt]⟩
theorem Pd.len {Γ Γ':Gm} {n:Nat} (a:Pd n Γ Γ'):Γ'.length=Γ.length:=by
 obtain ⟨_,_,_,rfl⟩:=a
 rw[List.length_set]
theorem Pd.out {Γ Γ':Gm} {n m:Nat} (a:Pd n Γ Γ') (h:m≠n):Γ'[m]?=Γ[m]?:=by
 obtain ⟨_,_,_,rfl⟩:=a
 rw[List.getElem?_set_ne (Ne.symm h)]
def DP:MD:=mFn 4 Ey
theorem LK {Γ:Gm} {n:Nat} {m:Int} (p:Pl Γ n) (h0:0<m) (h1:m<1000000):∃ r Γ',DP [.b n,.v (.int m)] Γ=some (.int r,Γ')/\0<=r/\r<m/\Pd n Γ Γ':=by
 have hn:=p.lt
 obtain ⟨c,f,q,e⟩:=p
 have bm:∀ x:Int,Cr x m=true:=fun x=>decide_eq_true h0
 have bd:∀ x:Int,C7 x m=true:=fun x=>decide_eq_true ⟨h0,by lia⟩
 have tk:∀ x,(Γ.set n x).take Γ.length=Γ.set n x:=fun x=>List.take_of_length_le (by rw[List.length_set];exact Nat.le_refl _)
 have gs:∀ x,(Γ.set n x)[n]?=some x:=fun x=>by rw[List.getElem?_set_self hn]
 have a0:∀ x y z:D,atI [x,y,z] 0=some x:=fun _ _ _=>rfl
 have a1:∀ x y z:D,atI [x,y,z] 1=some y:=fun _ _ _=>rfl
 have a2:∀ x y z:D,atI [x,y,z] 2=some z:=fun _ _ _=>rfl
 have i0:ixN 3 0=some 0:=rfl
 have i2:ixN 3 2=some 2:=rfl
 by_cases hf:f=1
 ·subst hf
  refine ⟨c % m,Γ.set n (some [.int (c / m),.int 1,.int q]),?_,Int.emod_nonneg _ (by lia),Int.emod_lt_of_pos _ h0,_,_,_,rfl⟩
  simp[DP,Ey,e,a0,a1,a2,i0,i2,bm,bd,tk]
 ·have b1:Dd 420001 (q+1)=true:=decide_eq_true (.inl (by decide))
  have b2:∀ x:Int,Cr x 999999999989=true:=fun _=>rfl
  have b3:∀ x:Int,Cr x 1000000000039=true:=fun _=>rfl
  have b4:∀ x:Int,Cr x 999999999961=true:=fun _=>rfl
  have b5:∀ x:Int,C7 x 7=true:=fun _=>rfl
  have b6:∀ x y:Int,Dd (x % 999999999989) y=true:=fun x y=>decide_eq_true (.inl ⟨by have:=Int.emod_nonneg x (show (999999999989:Int)≠0 by decide);lia,by have:=Int.emod_lt_of_pos x (show (0:Int)<999999999989 by decide);lia⟩)
  have b7:∀ x y:Int,Dd (x % 1000000000039+310019) y=true:=fun x y=>decide_eq_true (.inl ⟨by have:=Int.emod_nonneg x (show (1000000000039:Int)≠0 by decide);lia,by have:=Int.emod_lt_of_pos x (show (0:Int)<1000000000039 by decide);lia⟩)
  have ge:BP Γ (.v (.int f)) (.v (.int 1))=some (.bl (decide (f=1))):=rfl
  refine ⟨?_,Γ.set n (some [.int c,.int f,.int (q+1)]),?_,?_,?_,_,_,_,rfl⟩
  rotate_left
  ·simp[DP,Ey,e,a0,a1,a2,i0,i2,bm,bd,tk,gs,hf,b1,b2,b3,b4,b5,b6,b7]
   rfl
  ·exact Int.emod_nonneg _ (by lia)
  ·exact Int.emod_lt_of_pos _ h0
def Dk:MDF:=Ag 3 E6
theorem Ja {Γ:Gm} {ns:List Int} {k:Nat}:∃ c f q:Int,Dk [.v (.scr ns),.v (.int k)] Γ=some ([.int c,.int f,.int q],Γ):=by
 have tk:Γ.take Γ.length=Γ:=List.take_length
 have b0:(3:Nat)<=big:=by decide
 have bp:GK 10 18=true:=rfl
 have bm:Dd 37 (k:Int)=true:=decide_eq_true (.inl (by decide))
 by_cases hk:k<ns.length
 ·have e:atI ns (k:Int)=some ns[k]:=Gb (List.getElem?_eq_getElem hk)
  have hk':(k:Int)<(ns.length:Int):=by lia
  refine ⟨ns[k],if (10:Int) ^ 18<=ns[k] then 1 else 0,37 * k,?_⟩
  simp[Dk,E6,tk,b0,bp,bm,e,hk,hk']
 ·have hk':¬(k:Int)<(ns.length:Int):=by lia
  refine ⟨0,0,37 * k,?_⟩
  simp[Dk,E6,tk,b0,bp,bm,hk,hk']
def AG (rs:List (List Th)):D:=.lst (rs.map AE)
def BD (h:Int):Int->List Th->List (List Int)
 | _,[]=>[]
 | i,t::r=>[t.1,h,i]::BD h (i+1) r
theorem IF (h:Int):∀ (i:Int) (ts:List Th),(BD h i ts).length=ts.length
 | _,[]=>rfl
 | i,t::r=>by unfold BD;rw[List.length_cons,List.length_cons,IF]
theorem Kx (h:Int):∀ (i:Int) (ts:List Th) (k:Nat) (t:Th),ts[k]?=some t->(BD h i ts)[k]?=some [t.1,h,i+k]
 | _,[],_,_,e=>by cases e
 | i,c::r,0,t,e=>by cases e;unfold BD;simp
 | i,c::r,k+1,t,e=>by
  unfold BD
  rw[List.getElem?_cons_succ,Kx h (i+1) r k t (by simpa using e),show i+1+(k:Int)=i+((k+1:Nat):Int) by lia]
theorem Lz {h i:Int} {ts:List Th}:∀ ns∈BD h i ts,ns≠[]:=by
 induction ts generalizing i with
 | nil=>intro ns hn;cases hn
 | cons t r ih=>
  intro ns hn
  unfold BD at hn
  rcases List.mem_cons.mp hn with rfl | hn
  ·simp
  ·exact ih ns hn
theorem JS {h:Int}:∀ {i:Int} {ts:List Th} {ns:List Int},ns∈BD h i ts->∃ (k:Nat) (t:Th),ts[k]?=some t/\ns=[t.1,h,i+k]
 | i,[],ns,hn=>by cases hn
 | i,t::r,ns,hn=>by
  unfold BD at hn
  rcases List.mem_cons.mp hn with rfl | hn
  ·exact ⟨0,t,rfl,by simp⟩
  ·obtain ⟨k,u,h1,rfl⟩:=JS hn
   exact ⟨k+1,u,by simpa using h1,by congr 3;lia⟩
def BO:Int->List (List Th)->List (List Int)
 | _,[]=>[]
 | h,r::rs=>BD h 0 r++BO (h+1) rs
theorem Jx:∀ {h:Int} {rs:List (List Th)} (ns:List Int),ns∈BO h rs->ns≠[]
 | h,[],ns,hn=>by cases hn
 | h,r::rs,ns,hn=>by
  unfold BO at hn
  rcases List.mem_append.mp hn with hn | hn
  ·exact Lz ns hn
  ·exact Jx ns hn
theorem Me:∀ {h:Int} {rs:List (List Th)} {ns:List Int},ns∈BO h rs->∃ (j k:Nat) (r:List Th) (t:Th),rs[j]?=some r/\r[k]?=some t/\ns=[t.1,h+j,(k:Int)]
 | h,[],ns,hn=>by cases hn
 | h,r::rs,ns,hn=>by
  unfold BO at hn
  rcases List.mem_append.mp hn with hn | hn
  ·obtain ⟨k,t,h1,rfl⟩:=JS hn
   exact ⟨0,k,r,t,rfl,h1,by simp⟩
  ·obtain ⟨j,k,r',t,h1,h2,rfl⟩:=Me hn
   exact ⟨j+1,k,r',t,by simpa using h1,h2,by congr 2;lia⟩
def total (rs:List (List Th)):Nat:=(rs.map List.length).sum
theorem Ic:∀ (h:Int) (rs:List (List Th)),(BO h rs).length=total rs
 | _,[]=>rfl
 | h,r::rs=>by unfold BO;rw[List.length_append,IF,Ic];simp[total]
theorem Qq {ns:List Int} {r:List (List Int)}:intsOf ((ns::r).map tupI)=none:=rfl
theorem K2 {Γ:Gm} {nss:List (List Int)} (hn:∀ ns∈nss,ns≠[]) {x:SV} (hx:elems Γ x=some (nss.map tupI)):Dv Γ [x]=some ((Au nss).map tupI):=by
 unfold Dv
 simp only[hx,Option.bind_some]
 cases nss with
 | nil=>rfl
 | cons ns r=>
  rw[Qq]
  simp only
  rw[Jh hn]
  rfl
def Fx:MDF:=Ag 2 HZ
theorem Hl {α:Type} (f:α->D) (xs:List α):(A8 0 (xs.map f)).length=xs.length:=by rw[C3,List.length_map]
theorem Om {Γ:Gm} {ts:List Th} {h:Int} (hz:ts.length<=big):Fx [.v (AE ts),.v (.int h)] Γ=some ((Au (BD h 0 ts)).map tupI,Γ):=by
 have b3:(3:Nat)<=big:=by decide
 obtain ⟨ys,τ2,Γ2,e2,a2,hΓ,_⟩:=Mc (g:=A0 [0,1]) (t:=mTT) (e:=BA (AB (mOp gIx (AA 1) (mC (.int 0))) (AB (AA 2) (AB (AA 0) AC)))) (items:=A8 0 (ts.map thD))
  (fun i acc τ Γi=>acc=((BD h 0 ts).take i).map tupI/\Γi=Γ/\∃ a b,τ=[a,b,some (.v (.int h))]) (by
   rintro i d acc τ Γi hd ⟨rfl,hΓ,a,b,rfl⟩
   subst Γi
   obtain ⟨x,hx,rfl⟩:=DC 0 _ i d hd
   obtain ⟨t,ht,rfl⟩:=Bw hx
   refine ⟨⟨[some (.v (.int (0+i))),some (.v (thD t)),some (.v (.int h))],Γ,Γ.length⟩,_,rfl,rfl,.inl ⟨rfl,tupI [t.1,h,0+i],⟨[some (.v (.int (0+i))),some (.v (thD t)),some (.v (.int h))],Γ,Γ.length⟩,?_,rfl,?_,rfl,_,_,rfl⟩⟩
   ·simp[thD,at0,b3,tupI]
   ·rw[List.take_add_one,Kx h 0 ts i t ht]
    simp) (τ:=[none,none,some (.v (.int h))]) (Γ:=Γ) ⟨rfl,rfl,none,none,rfl⟩
 rw[Hl,<-IF h 0 ts,List.take_length] at a2
 subst a2
 rw[hΓ] at e2
 have hl:(A8 0 (ts.map thD)).length<=big:=by rw[Hl];exact hz
 have tk:Γ.take Γ.length=Γ:=List.take_length
 have hs:=K2 (Γ:=Γ) (x:=.v (.lst ((BD h 0 ts).map tupI))) (Lz (h:=h) (i:=0) (ts:=ts)) rfl
 unfold Fx Ag HZ
 simp only[A3,BL,AB,AK,A7,BR,AA,AC,D5,AE]
 simp[hl,DY,e2,hs,tk,-Dv]
theorem SY {xs ys:List (List Int)} (p:xs.Perm ys):Au xs=Au ys:=Dx ((B5 xs).trans (p.trans (B5 ys).symm)) (C5 _) (C5 _)
def BZ:Int->List (List Th)->List (List Int)
 | _,[]=>[]
 | h,r::rs=>Au (BD h 0 r)++BZ (h+1) rs
theorem Fv:∀ (h:Int) (rs:List (List Th)),(BZ h rs).Perm (BO h rs)
 | _,[]=>.refl _
 | h,r::rs=>(B5 _).append (Fv (h+1) rs)
theorem M6 (h:Int):∀ (rs:List (List Th)) (i:Nat) (r:List Th),rs[i]?=some r->BZ h (rs.take (i+1))=BZ h (rs.take i)++Au (BD (h+i) 0 r)
 | [],i,r,e=>by cases e
 | c::rs,0,r,e=>by cases e;simp[BZ]
 | c::rs,i+1,r,e=>by
  have:=M6 (h+1) rs i r (by simpa using e)
  rw[List.take_succ_cons,List.take_succ_cons]
  unfold BZ
  rw[this,List.append_assoc,show h+1+(i:Int)=h+((i+1:Nat):Int) by lia]
theorem Ru (a b:List (List Th)):total (a++b)=total a+total b:=by simp[total]
theorem Pi (rs:List (List Th)) (i:Nat):total (rs.take i)<=total rs:=by
 have:=Ru (rs.take i) (rs.drop i)
 rw[List.take_append_drop] at this
 lia
theorem S7 (h:Int) (rs:List (List Th)):(BZ h rs).length=total rs:=(Fv h rs).length_eq.trans (Ic h rs)
theorem Nl {rs:List (List Th)} {r:List Th} (h:r∈rs):r.length<=total rs:=by
 induction rs with
 | nil=>cases h
 | cons c rs ih=>
  rcases List.mem_cons.mp h with rfl | h
  ·simp[total]
  ·have:=ih h
   simp[total] at *
   lia
theorem Ij {rs:List (List Th)}:(Au (BO 0 rs)).length=total rs:=(B5 _).length_eq.trans (Ic 0 rs)
theorem Kf {rs:List (List Th)} {ns:List Int} (h:ns∈Au (BO 0 rs)):∃ (j k:Nat) (r:List Th) (t:Th),rs[j]?=some r/\r[k]?=some t/\ns=[t.1,(j:Int),(k:Int)]:=by
 obtain ⟨j,k,r,t,h1,h2,rfl⟩:=Me ((B5 _).mem_iff.mp h)
 exact ⟨j,k,r,t,h1,h2,by simp⟩
def Ea (rs:List (List Th)):List Int->Th
 | [_,h,p]=>((rs[h.toNat]?).bind (·[p.toNat]?)).getD (0,"")
 | _=>(0,"")
def plainT (rs:List (List Th)):List Th:=(Au (BO 0 rs)).map (Ea rs)
theorem Jm {rs:List (List Th)}:(plainT rs).length=total rs:=by unfold plainT;rw[List.length_map,Ij]
theorem RF {rs:List (List Th)} {Γ:Gm}:An (A0 [0,1,2]) mTT (mOp gIx (mOp gIx (AA 3) (AA 1)) (AA 2)) ((Au (BO 0 rs)).map tupI) [none,none,none,some (.v (AG rs))] Γ=some ((plainT rs).map thD,Γ):=by
 obtain ⟨ys,τ',Γ',e,a,b,c,rfl,hΓ,_⟩:=Mc (g:=A0 [0,1,2]) (t:=mTT) (e:=mOp gIx (mOp gIx (AA 3) (AA 1)) (AA 2)) (items:=(Au (BO 0 rs)).map tupI)
  (fun i acc τ Γi=>∃ (a b c:Option SV),acc=((plainT rs).take i).map thD/\Γi=Γ/\τ=[a,b,c,some (.v (AG rs))]) (by
   rintro i d acc τ Γi hd ⟨a,b,c,rfl,hΓ,rfl⟩
   subst Γi
   obtain ⟨nm,hnm,rfl⟩:=Bw hd
   obtain ⟨j,k,r,t,h1,h2,rfl⟩:=Kf (List.mem_of_getElem? hnm)
   have e1:=M0 (f:=AE) h1
   have e2:=M0 (f:=thD) h2
   have et:Ea rs [t.1,(j:Int),(k:Int)]=t:=by unfold Ea;simp[h1,h2]
   refine ⟨⟨[some (.v (.int t.1)),some (.v (.int j)),some (.v (.int k)),some (.v (AG rs))],Γ,Γ.length⟩,_,rfl,rfl,.inl ⟨rfl,thD t,⟨[some (.v (.int t.1)),some (.v (.int j)),some (.v (.int k)),some (.v (AG rs))],Γ,Γ.length⟩,?_,rfl,_,_,_,?_,rfl,rfl⟩⟩
   ·simp[AG,e1]
    simp[AE,e2]
   ·have hp:(plainT rs)[i]?=some t:=by unfold plainT;rw[List.getElem?_map,hnm];exact congrArg some et
    rw[List.take_add_one,hp]
    simp) (τ:=[none,none,none,some (.v (AG rs))]) (Γ:=Γ) ⟨none,none,none,rfl,rfl,rfl⟩
 rw[e,hΓ,List.length_map,Ij,<-Jm,List.take_length]
theorem Nk {rs:List (List Th)} {j k:Nat} {r:List Th} {t:Th} {x:Int} (h1:rs[j]?=some r) (h2:r[k]?=some t):Ea rs [x,(j:Int),(k:Int)]=t:=by unfold Ea;simp[h1,h2]
abbrev Nam:=List Int
theorem T8 {Γ:Gm} {nss:List (List Int)} (hn:∀ ns∈nss,ns≠[]) {x:SV} (hx:elems Γ x=some (nss.map tupI)):Cd Γ [x]=some ((Au nss).map tupI):=by
 unfold Cd
 rw[K2 hn hx]
def pcN (f:Nat->Nat->Int) (P g:Nat):List (List Int):=(List.range P).flatMap fun t=>if 0<f g t then [[(g:Int),(t:Int),f g t]] else []
def mvN (f:Nat->Nat->Int) (n P:Nat):List (List Int):=(List.range n).flatMap (pcN f P)
theorem pcN_mem {f:Nat->Nat->Int} {P g:Nat} {x:List Int}:x∈pcN f P g↔∃ t,t<P/\0<f g t/\x=[(g:Int),(t:Int),f g t]:=by
 unfold pcN
 rw[List.mem_flatMap]
 constructor
 ·rintro ⟨t,ht,hx⟩
  split at hx
  ·rename_i h
   exact ⟨t,List.mem_range.mp ht,h,List.mem_singleton.mp hx⟩
  ·cases hx
 ·rintro ⟨t,ht,h,rfl⟩
  exact ⟨t,List.mem_range.mpr ht,by rw[if_pos h];exact List.mem_singleton.mpr rfl⟩
theorem mvN_mem {f:Nat->Nat->Int} {n P:Nat} {x:List Int}:x∈mvN f n P↔∃ g t,g<n/\t<P/\0<f g t/\x=[(g:Int),(t:Int),f g t]:=by
 unfold mvN
 rw[List.mem_flatMap]
 constructor
 ·rintro ⟨g,hg,hx⟩
  obtain ⟨t,ht,h,e⟩:=pcN_mem.mp hx
  exact ⟨g,t,List.mem_range.mp hg,ht,h,e⟩
 ·rintro ⟨g,t,hg,ht,h,e⟩
  exact ⟨g,List.mem_range.mpr hg,pcN_mem.mpr ⟨t,ht,h,e⟩⟩
theorem lt3 {a b c a' b' c':Int} (h:a<a'\/a=a'/\b<b'):HT.lexLt [a,b,c] [a',b',c']=true/\HT.lexLt [a',b',c'] [a,b,c]=false:=by
 simp only[HT.lexLt]
 rcases h with h | ⟨rfl,h⟩
 ·rw[if_neg (by lia),if_neg (by lia)]
  exact ⟨decide_eq_true h,decide_eq_false (by lia)⟩
 ·rw[if_pos rfl,if_pos rfl,if_neg (by lia),if_neg (by lia)]
  exact ⟨decide_eq_true h,decide_eq_false (by lia)⟩
theorem LR:∀ x:List Int,HT.lexLt x x=false
 | []=>rfl
 | a::x=>by rw[HT.Cf,if_pos rfl];exact LR x
theorem Jz (f:Nat->Nat->Int) (n P:Nat):(mvN f n P).Pairwise fun u v=>HT.lexLt u v=true/\HT.lexLt v u=false:=by
 unfold mvN
 rw[List.pairwise_flatMap]
 refine ⟨fun g _=>?_,List.pairwise_lt_range.imp fun hab x hx y hy=>?_⟩
 ·unfold pcN
  rw[List.pairwise_flatMap]
  refine ⟨fun t _=>?_,List.pairwise_lt_range.imp fun hab x hx y hy=>?_⟩
  ·split
   ·exact List.pairwise_singleton _ _
   ·exact .nil
  ·split at hx
   ·split at hy
    ·rw[List.mem_singleton.mp hx,List.mem_singleton.mp hy]
     exact lt3 (.inr ⟨rfl,by lia⟩)
    ·cases hy
   ·cases hx
 ·obtain ⟨t,_,_,rfl⟩:=pcN_mem.mp hx
  obtain ⟨t',_,_,rfl⟩:=pcN_mem.mp hy
  exact lt3 (.inl (by lia))
theorem HX (f:Nat->Nat->Int) (n P:Nat):Cv (mvN f n P):=(Jz f n P).imp fun h=>h.2
theorem Iz (f:Nat->Nat->Int) (n P:Nat):(mvN f n P).Nodup:=(Jz f n P).imp fun h e=>by
 rw[e,LR] at h
 exact Bool.false_ne_true h.1
theorem Ht {f:Nat->Nat->Int} {n P:Nat} {X:List (List Int)} (nd:X.Nodup) (h:∀ x,x∈X↔∃ g t,g<n/\t<P/\0<f g t/\x=[(g:Int),(t:Int),f g t]):Au X=mvN f n P:=
 Dx ((B5 X).trans ((List.perm_ext_iff_of_nodup nd (Iz f n P)).mpr fun x=>(h x).trans mvN_mem.symm)) (C5 X) (HX f n P)
theorem Si {f f':Nat->Nat->Int} {n P:Nat} (h:∀ g t,g<n->t<P->(0<f g t↔0<f' g t)/\(0<f g t->f g t=f' g t)):mvN f n P=mvN f' n P:=by
 refine (Dx (B5 (mvN f n P)) (C5 _) (HX f n P)).symm.trans (Ht (Iz f n P) fun x=>?_)
 rw[mvN_mem]
 constructor
 ·rintro ⟨g,t,hg,ht,h0,e⟩
  obtain ⟨h1,h2⟩:=h g t hg ht
  exact ⟨g,t,hg,ht,h1.mp h0,by rw[e,h2 h0]⟩
 ·rintro ⟨g,t,hg,ht,h0,e⟩
  obtain ⟨h1,h2⟩:=h g t hg ht
  exact ⟨g,t,hg,ht,h1.mpr h0,by rw[e,h2 (h1.mpr h0)]⟩
def Sm (zs:List Nat) (g:Nat):Nat:=(zs.take g).sum
theorem Ek (zs:List Nat) (k:Nat):Sm zs (k+1)=Sm zs k+zs.getD k 0:=by
 unfold Sm
 rw[List.take_add_one,List.sum_append,List.getD_eq_getElem?_getD]
 cases zs[k]?<;>simp
theorem CQ (zs:List Nat):∀ {a b:Nat},a<=b->Sm zs a<=Sm zs b:=by
 intro a b h
 induction h with
 | refl=>exact Nat.le_refl _
 | step _ ih=>rw[Ek];lia
theorem Dq (zs:List Nat):Sm zs zs.length=zs.sum:=by unfold Sm;rw[List.take_length]
def Ac (zs:List Nat) (k:Nat):List Nat:=(List.range k).flatMap fun g=>List.replicate (zs.getD g 0) g
theorem FU (zs:List Nat) (k:Nat):Ac zs (k+1)=Ac zs k++List.replicate (zs.getD k 0) k:=by
 unfold Ac
 rw[List.range_succ,List.flatMap_append]
 simp
theorem Bx (zs:List Nat):∀ k,(Ac zs k).length=Sm zs k
 | 0=>by simp[Ac,Sm]
 | k+1=>by rw[FU,List.length_append,List.length_replicate,Bx zs k,Ek]
theorem K6 (zs:List Nat):∀ {k i:Nat},i<Sm zs k->∃ g,g<k/\(Ac zs k)[i]?=some g/\Sm zs g<=i/\i<Sm zs (g+1)
 | 0,i,h=>by simp[Sm] at h
 | k+1,i,h=>by
  rw[FU]
  by_cases c:i<Sm zs k
  ·obtain ⟨g,h1,h2,h3⟩:=K6 zs c
   exact ⟨g,by lia,by rw[List.getElem?_append_left (by rw[Bx];exact c)];exact h2,h3⟩
  ·refine ⟨k,by lia,?_,by lia,h⟩
   have h':=h
   rw[Ek] at h'
   rw[List.getElem?_append_right (by rw[Bx];lia),Bx,List.getElem?_replicate,if_pos (by lia)]
theorem Kv {zs:List Nat} {k i g:Nat} (hi:i<Sm zs k):(Ac zs k).getD i 0=g↔Sm zs g<=i/\i<Sm zs (g+1):=by
 obtain ⟨g',h1,h2,h3,h4⟩:=K6 zs hi
 rw[List.getD_eq_getElem?_getD,h2]
 show g'=g↔_
 constructor
 ·rintro rfl
  exact ⟨h3,h4⟩
 ·rintro ⟨h5,h6⟩
  rcases Nat.lt_trichotomy g' g with c | c | c
  ·have:=CQ zs (show g'+1<=g from c);lia
  ·exact c
  ·have:=CQ zs (show g+1<=g' from c);lia
theorem Lw (a b:Nat):∀ n,(List.range n).countP (fun i=>decide (a<=i/\i<b))=min b n - min a n
 | 0=>by simp
 | n+1=>by
  rw[List.range_succ,List.countP_append,Lw a b n]
  simp only[List.countP_cons,List.countP_nil,decide_eq_true_eq]
  split<;>lia
def prs (zs es:List Nat) (p:Nat):List (Nat×Nat):=((Ac zs p).zip (Ac es p)).filter fun x=>decide (x.1≠x.2)
def fOv (zs es:List Nat) (g t:Nat):Int:=if g=t then 0 else min (Sm zs (g+1):Int) (Sm es (t+1)) - max (Sm zs g:Int) (Sm es t)
theorem NQ {α β:Type} (xs:List α) (ys:List β) (a:α) (b:β) (h:xs.length=ys.length):xs.zip ys=(List.range xs.length).map fun i=>(xs.getD i a,ys.getD i b):=by
 refine List.ext_getElem? fun i=>?_
 rw[List.getElem?_map]
 by_cases c:i<xs.length
 ·rw[List.getElem?_range c,List.getElem?_eq_getElem (by rw[List.length_zip];lia),List.getElem_zip]
  simp[List.getD_eq_getElem?_getD,List.getElem?_eq_getElem c,List.getElem?_eq_getElem (show i<ys.length by lia)]
 ·rw[List.getElem?_eq_none (by rw[List.length_zip];lia),List.getElem?_eq_none (by rw[List.length_range];lia)]
  rfl
theorem Nc {zs es:List Nat} {p g t:Nat} (he:Sm zs p=Sm es p) (hg:g<p) (ht:t<p) (hgt:g≠t):(((prs zs es p).count (g,t):Nat):Int)=max 0 (fOv zs es g t):=by
 have e:(Ac zs p).zip (Ac es p)=(List.range (Sm zs p)).map fun i=>((Ac zs p).getD i 0,(Ac es p).getD i 0):=by
  rw[NQ _ _ 0 0 (by rw[Bx,Bx,he]),Bx]
 unfold prs
 rw[List.count_filter (by simpa using hgt),e,List.count_eq_countP,List.countP_map]
 have e2:(List.range (Sm zs p)).countP ((fun x=>x == (g,t))∘fun i=>((Ac zs p).getD i 0,(Ac es p).getD i 0))=(List.range (Sm zs p)).countP (fun i=>decide (max (Sm zs g) (Sm es t)<=i/\i<min (Sm zs (g+1)) (Sm es (t+1)))):=by
  refine List.countP_congr fun i hi=>?_
  have hi:=List.mem_range.mp hi
  have h1:=Kv (zs:=zs) (g:=g) hi
  have h2:=Kv (zs:=es) (k:=p) (i:=i) (g:=t) (by lia)
  simp only[Function.comp,beq_iff_eq,decide_eq_true_eq,Prod.mk.injEq]
  rw[h1,h2]
  lia
 rw[e2,Lw]
 unfold fOv
 rw[if_neg hgt]
 have m1:=CQ zs (show g+1<=p from hg)
 have m2:=CQ es (show t+1<=p from ht)
 have m3:=CQ zs (show g<=g+1 by lia)
 have m4:=CQ es (show t<=t+1 by lia)
 lia
def evN (m p:Nat):List Nat:=List.replicate (m % p) (m / p+1)++List.replicate (p - m % p) (m / p)
theorem ET {m p:Nat} (hp:1<=p):(evN m p).length=p:=by
 unfold evN
 have:=Nat.mod_lt m hp
 rw[List.length_append,List.length_replicate,List.length_replicate]
 lia
theorem Pw {m p h:Nat} (hh:h<p):(evN m p).getD h 0=m / p+(if h<m % p then 1 else 0):=by
 unfold evN
 have:=Nat.mod_lt m (show 0<p by lia)
 rw[List.getD_eq_getElem?_getD]
 by_cases c:h<m % p
 ·rw[List.getElem?_append_left (by rw[List.length_replicate];exact c),List.getElem?_replicate,if_pos c,if_pos c]
  rfl
 ·rw[List.getElem?_append_right (by rw[List.length_replicate];lia),List.length_replicate,List.getElem?_replicate,if_pos (by lia),if_neg c]
  rfl
theorem Cs {m p:Nat} (hp:1<=p):(evN m p).sum=m:=by
 unfold evN
 have h:=Nat.mod_lt m hp
 rw[List.sum_append,List.sum_replicate_nat,List.sum_replicate_nat,Nat.mul_add,Nat.mul_one]
 have e:=Nat.div_add_mod m p
 have e2:(p - m % p) * (m / p)=p * (m / p) - m % p * (m / p):=Nat.sub_mul _ _ _
 have e3:m % p * (m / p)<=p * (m / p):=Nat.mul_le_mul_right _ (by lia)
 lia
def AN (l:List Nat):List D:=l.map fun (n:Nat)=>D.int (n:Int)
theorem DZ (l:List Nat):(AN l).length=l.length:=List.length_map _
theorem Gv {m:ME} {S S':DS} {d:D} (h:m S=some (.v d,S')):AK (AR (AB m AC)) S=some (.v (.lst [d]),S'):=by
 unfold AK AR AB AC
 rw[h]
 rfl
theorem Jn {m c:ME} {S S1 S2:DS} {d:D} {n:Nat} (h:m S=some (.v d,S1)) (hc:c S1=some (.v (.int n),S2)) (hn:n<=1000):BI Cm (AK (AR (AB m AC))) c S=some (List.replicate n d,S2):=by
 refine FV (Gv h) hc ?_
 show (if (n:Int)<=100000/\-100000<=(n:Int)/\([d]:List D).length * ((n:Int)).toNat<=big then some (List.replicate ((n:Int)).toNat [d]).flatten else none)=_
 rw[if_pos ⟨by lia,by lia,by rw[Int.toNat_natCast,Ao];simp;lia⟩,Int.toNat_natCast]
 simp
theorem CA {mi:MF} {g:MG} {b:MS} {s s':DS} {items:List D} {o:Option Out} (h:mi s=some (items,s')) (e:CJ g b items s'=o):Bd mi g b s=o:=by
 unfold Bd
 rw[h]
 exact e
theorem Eb {i n:Nat} {me:ME} {s s':DS} {d:D} {xs ys:List D} (h1:s.σ[i]?=some (some (.b n))) (h2:s.Γ[n]?=some (some ys)) (h3:me s=some (.v d,s')) (h4:s'.Γ[n]?=some (some xs)) (hl:xs.length<big):Bj (B6 (AA i) me) s=some (.nx {s' with Γ:=s'.Γ.set n (some (xs++[d]))}):=by
 unfold Bj B6 AA
 rw[h1]
 simp only[Option.bind_some]
 rw[h2]
 simp only[]
 rw[h3]
 simp only[Option.bind_some]
 rw[h4]
 simp only[]
 rw[if_pos hl]
 rfl
theorem K3 {m:MF} {S S':DS} {xs:List D} (h:m S=some (xs,S')):Aq (AK m) S=some (xs,S'):=by
 unfold Aq
 rw[A1 h]
 rfl
theorem MM {m:MF} {S S':DS} {xs:List D} (h:m S=some (xs,S')):BR (AB (AK m) AC) S=some (A8 0 xs,S'):=by
 unfold BR AB AC
 rw[A1 h]
 rfl
theorem MZ {g:Gm->List SV->Option D} {m n:ME} {s s1 s2:DS} {x y:SV} {z:D} (h:m s=some (x,s1)) (h2:n s1=some (y,s2)) (hg:g s2.Γ [x,y]=some z):AQ g (AB m (AB n AC)) s=some (.v z,s2):=by
 unfold AQ AB AC;rw[h];show (((n s1).bind _).map _).bind _=_;rw[h2];show (g s2.Γ [x,y]).map _=_;rw[hg];rfl
theorem Tf {m n k:ME} {s s1 s2 s3:DS} {x y z:D} (h1:m s=some (.v x,s1)) (h2:n s1=some (.v y,s2)) (h3:k s2=some (.v z,s3)):BA (AB m (AB n (AB k AC))) s=some (.v (.tup [x,y,z]),s3):=by
 unfold BA AB AC
 rw[h1]
 show ((((n s1).bind _).map _).bind _)=_
 rw[h2]
 show (((((k s2).bind _).map _).map _).bind _)=_
 rw[h3]
 show (if (3:Nat)<=big then some (SV.v (D.tup [x,y,z]),s3) else none)=_
 rw[if_pos (by decide)]
theorem N6 {a b:MT} {s s1 s2:DS} {x y:Bool} (h1:a s=some (x,s1)) (h2:x=true->b s1=some (y,s2)) (h3:x=false->s2=s1):EF a b s=some (x && y,s2):=by
 unfold EF
 rw[h1]
 cases x with
 | false=>rw[h3 rfl];rfl
 | true=>exact h2 rfl
theorem Qn {Γ:Gm} {i j:Int} (h:0<=j) (h2:j<1001):CN Γ (.v (.int i)) (.v (.int j))=some (.int (i * j)):=by simp[show Dd i j=true from decide_eq_true (.inr ⟨by lia,by lia⟩)]
def Mes:MD:=mFn 4 Ge
theorem NN {m p:Nat} {Γ:Gm} (hp:1<=p) (hp2:p<=1000):Mes [.v (.int m),.v (.int p)] Γ=some (.lst (AN (evN m p)),Γ):=by
 have tk:Γ.take Γ.length=Γ:=List.take_length
 have hm:=Nat.mod_lt m hp
 let S0:DS:=⟨[some (.v (.int m)),some (.v (.int p)),none,none],Γ,Γ.length⟩
 let S1:DS:=⟨[some (.v (.int m)),some (.v (.int p)),some (.v (.int (m / p:Nat))),none],Γ,Γ.length⟩
 let S2:DS:=⟨[some (.v (.int m)),some (.v (.int p)),some (.v (.int (m / p:Nat))),some (.v (.int (m % p:Nat)))],Γ,Γ.length⟩
 have g1:AX 2 (mOp BM (AA 0) (AA 1)) S0=some (.nx S1):=by
  refine BJ (AO (x:=.v (.int m)) (y:=.v (.int p)) (s1:=S0) (s2:=S0) rfl rfl ?_)
  have:C7 (m:Int) (p:Int)=true:=decide_eq_true ⟨by lia,by lia⟩
  simp[this]
 have g2:AX 3 (mOp Bf (AA 0) (mOp CN (AA 2) (AA 1))) S1=some (.nx S2):=by
  have w:mOp CN (AA 2) (AA 1) S1=some (.v (.int ((m / p:Nat) * (p:Int))),S1):=by
   exact AO (x:=.v (.int (m / p:Nat))) (y:=.v (.int p)) (s1:=S1) (s2:=S1) rfl rfl (Qn (by lia) (by lia))
  refine (BJ (AO (x:=.v (.int m)) (s1:=S1) rfl w rfl)).trans ?_
  have e:=Nat.div_add_mod m p
  have e2:(m:Int) - ((m / p:Nat):Int) * (p:Int)=((m % p:Nat):Int):=by
   rw[<-Int.natCast_mul,Nat.mul_comm]
   lia
  show some (Out.nx ⟨[some (.v (.int m)),some (.v (.int p)),some (.v (.int (m / p:Nat))),some (.v (.int ((m:Int) - ((m / p:Nat):Int) * (p:Int))))],Γ,Γ.length⟩)=_
  rw[e2]
 have r1:=A1 (Jn (m:=mOp AY (AA 2) (mC (.int 1))) (c:=AA 3) (S:=S2) (S1:=S2) (S2:=S2) (d:=.int ((m / p:Nat)+1)) (n:=m % p) (AO (x:=.v (.int (m / p:Nat))) (y:=.v (.int 1)) (s1:=S2) (s2:=S2) rfl rfl rfl) rfl (by lia))
 have r2:=A1 (Jn (m:=AA 2) (c:=mOp Bf (AA 1) (AA 3)) (S:=S2) (S1:=S2) (S2:=S2) (d:=.int (m / p:Nat)) (n:=p - m % p) rfl (by
  refine (AO (x:=.v (.int p)) (y:=.v (.int (m % p:Nat))) (s1:=S2) (s2:=S2) rfl rfl rfl).trans ?_
  show some (SV.v (D.int ((p:Int) - ((m % p:Nat):Int))),S2)=_
  rw[show (p:Int) - ((m % p:Nat):Int)=((p - m % p:Nat):Int) by lia]) (by lia))
 have g3:=AO (g:=AY) (z:=.lst (AN (evN m p))) r1 r2 (by
  simp only[AY,elems,List.length_replicate]
  rw[if_pos (by rw[Ao];lia)]
  unfold AN evN
  rw[List.map_append,List.map_replicate,List.map_replicate]
  rfl)
 unfold Mes mFn Ge
 show ((AL _ _ S0).bind _)=_
 rw[(Ae g1).trans ((Ae g2).trans (Q4 g3))]
 show some (D.lst _,Γ.take Γ.length)=_
 rw[tk]
def strN (zs:List Nat) (i:Nat):List (List Int):=(List.range i).map fun g=>[(Sm zs g:Int),(Sm zs (g+1):Int)]
theorem Jo {zs:List Nat} {i g:Nat} (h:g<i):(strN zs i)[g]?=some [(Sm zs g:Int),(Sm zs (g+1):Int)]:=by
 unfold strN
 rw[List.getElem?_map,List.getElem?_range h]
 rfl
theorem DV (zs:List Nat) (i:Nat):(strN zs i).length=i:=by unfold strN;rw[List.length_map,List.length_range]
def CL:MDF:=Ag 4 He
theorem KJ {zs:List Nat} {Γ:Gm} (hl:zs.length<=1000):CL [.v (.lst (AN zs))] Γ=some ((strN zs zs.length).map tupI,Γ):=by
 let S0:DS:=⟨[some (.v (.lst (AN zs))),none,none,none],Γ,Γ.length⟩
 let S1:DS:=⟨[some (.v (.lst (AN zs))),some (.b Γ.length),none,none],Γ++[some []],Γ.length⟩
 let S:Nat->Option SV->DS:=fun i v=>⟨[some (.v (.lst (AN zs))),some (.b Γ.length),some (.v (.int (Sm zs i:Nat))),v],Γ++[some ((strN zs i).map tupI)],Γ.length⟩
 have g1:BF 1 (AR AC) S0=some (.nx S1):=by simp[S0,S1,show (0:Nat)<=big from Nat.zero_le _]
 have g2:AX 2 (mC (.int 0)) S1=some (.nx (S 0 none)):=rfl
 obtain ⟨s',e1,v',rfl⟩:=B0 (g:=Aj 3) (b:=Kl) (items:=AN zs) (fun i st=>∃ v,st=S i v) (by
   rintro i d st hd ⟨v,rfl⟩
   obtain ⟨z,hz,rfl⟩:=Bw hd
   have hi:i<zs.length:=(List.getElem?_eq_some_iff.mp hz).1
   let T:DS:=S i (some (.v (.int (z:Int))))
   have es:Sm zs (i+1)=Sm zs i+z:=by rw[Ek,List.getD_eq_getElem?_getD,hz];rfl
   have w:BA (AB (AA 2) (AB (mOp AY (AA 2) (AA 3)) AC)) T=some (.v (tupI [(Sm zs i:Int),(Sm zs (i+1):Int)]),T):=by
    refine (GW (x:=.int (Sm zs i:Nat)) (y:=.int ((Sm zs i:Nat)+(z:Int))) (s1:=T) (s2:=T) rfl (AO (x:=.v (.int (Sm zs i:Nat))) (y:=.v (.int z)) (s1:=T) (s2:=T) rfl rfl rfl)).trans ?_
    rw[es]
    show _=some (SV.v (D.tup [D.int _,D.int _]),T)
    rw[show ((Sm zs i+z:Nat):Int)=(Sm zs i:Int)+(z:Int) by lia]
   let T2:DS:=⟨T.σ,Γ++[some ((strN zs (i+1)).map tupI)],Γ.length⟩
   have a1:Bj (B6 (AA 1) (BA (AB (AA 2) (AB (mOp AY (AA 2) (AA 3)) AC)))) T=some (.nx T2):=by
    refine (Eb (n:=Γ.length) rfl Bh w Bh (by rw[List.length_map,DV,Ao];lia)).trans ?_
    show some (Out.nx ⟨_,(Γ++[_]).set Γ.length _,_⟩)=_
    rw[FJ]
    have:strN zs (i+1)=strN zs i++[[(Sm zs i:Int),(Sm zs (i+1):Int)]]:=by unfold strN;rw[List.range_succ,List.map_append];rfl
    simp only[T2,this,List.map_append]
    rfl
   have a2:Ez 2 FA (AA 3) T2=some (.nx (S (i+1) (some (.v (.int (z:Int)))))):=by
    show some (Out.nx ⟨[some (.v (.lst (AN zs))),some (.b Γ.length),some (.v (.int ((Sm zs i:Nat)+(z:Int)))),some (.v (.int (z:Int)))],Γ++[some ((strN zs (i+1)).map tupI)],Γ.length⟩)=_
    simp only[S,es]
    rw[show ((Sm zs i+z:Nat):Int)=(Sm zs i:Int)+(z:Int) by lia]
   exact ⟨T,_,rfl,(Ae a1).trans a2,_,rfl⟩)
  (s:=S 0 none) ⟨none,rfl⟩
 rw[DZ] at e1
 have q:Aq (AA 0) (S 0 none)=some (AN zs,S 0 none):=rfl
 have g3:=CA q e1
 unfold CL Ag He
 show ((AL _ _ S0).bind _)=_
 rw[(Ae (g1)).trans ((Ae (g2)).trans ((Ae (g3)).trans (rfl)))]
 have hg:∀ x:List D,A3 (BY 1) ⟨[some (.v (.lst (AN zs))),some (.b Γ.length),some (.v (.int (Sm zs zs.length:Nat))),v'],Γ++[some x],Γ.length⟩=some (.rf x ⟨[some (.v (.lst (AN zs))),none,some (.v (.int (Sm zs zs.length:Nat))),v'],Γ++[none],Γ.length⟩):=fun x=>by simp
 rw[show A3 (BY 1) (S zs.length v')=_ from hg _]
 show some (_,(Γ++[none]).take Γ.length)=_
 rw[E7]
theorem Lb (l:List Nat):AN l=(l.map fun (n:Nat)=>(n:Int)).map D.int:=by unfold AN;rw[List.map_map];rfl
theorem LN:∀ l:List Nat,(l.map fun (n:Nat)=>(n:Int)).sum=(l.sum:Int)
 | []=>rfl
 | n::l=>by rw[List.map_cons,List.sum_cons,LN l,List.sum_cons];lia
theorem sum_nat {Γ:Gm} {zs:List Nat} {x:SV} (h:elems Γ x=some (AN zs)):De Γ [x]=some (.int (zs.sum:Nat)):=by
 unfold De
 simp only[h]
 rw[Lb,Gq,Option.map_some,LN]
def Bs:MDF:=Ag 1 (IQ CL Mes)
theorem Ga {zs:List Nat} {Γ:Gm} (h1:1<=zs.length) (hl:zs.length<=1000):Bs [.v (.lst (AN zs))] Γ=some ((strN (evN zs.sum zs.length) zs.length).map tupI,Γ):=by
 have tk:Γ.take Γ.length=Γ:=List.take_length
 let S:DS:=⟨[some (.v (.lst (AN zs)))],Γ,Γ.length⟩
 have w1:AQ De (AB (AA 0) AC) S=some (.v (.int (zs.sum:Nat)),S):=CY (s':=S) (x:=.v (.lst (AN zs))) rfl (sum_nat rfl)
 have w2:AQ Ap (AB (AA 0) AC) S=some (.v (.int (zs.length:Nat)),S):=CY (s':=S) (x:=.v (.lst (AN zs))) rfl (by show some (D.int ((AN zs).length:Nat))=_;rw[DZ])
 have w3:=EC (M:=Mes) w1 w2 (NN (Γ:=Γ) h1 hl)
 have hs:=KJ (zs:=evN zs.sum zs.length) (Γ:=Γ) (by rw[ET h1];exact hl)
 rw[ET h1] at hs
 have w4:=CZ (M:=CL) w3 hs
 unfold Bs Ag IQ
 show ((A3 _ S).bind _)=_
 unfold A3
 rw[w4]
 show some (_,Γ.take Γ.length)=_
 rw[tk]
theorem HH (f:Nat->Nat->Int) (t g:Nat):pcN f (t+1) g=pcN f t g++if 0<f g t then [[(g:Int),(t:Int),f g t]] else []:=by
 unfold pcN
 rw[List.range_succ,List.flatMap_append]
 simp
theorem Kt (f:Nat->Nat->Int) (g P:Nat):mvN f (g+1) P=mvN f g P++pcN f P g:=by
 unfold mvN
 rw[List.range_succ,List.flatMap_append]
 simp
theorem Ig (f:Nat->Nat->Int) (g:Nat):∀ t,(pcN f t g).length<=t
 | 0=>Nat.le_refl _
 | t+1=>by
  have:=Ig f g t
  rw[HH,List.length_append]
  split
  ·simp;lia
  ·simp;lia
theorem Mi (f:Nat->Nat->Int) (P:Nat):∀ g,(mvN f g P).length<=g * P
 | 0=>Nat.zero_le _
 | g+1=>by
  have:=Mi f P g
  have:=Ig f g P
  rw[Kt,List.length_append,Nat.add_mul,Nat.one_mul]
  lia
def Mem:MDF:=Ag 7 (Iu CL Bs)
def mvE (zs:List Nat):List (List Int):=mvN (fOv zs (evN zs.sum zs.length)) zs.length zs.length
section
variable {Ms Mt:MDF} {zs es:List Nat} {p:Nat} {Γ:Gm}
theorem O2 {f:Nat->Nat->Int} (hf:f=fOv zs es) {g:Nat} {Z:Option SV} {B:List D} (hB:B.length<=100000) (hp:p<=1000) (v4 v5 v6:Option SV) :
  ∃ v4' v5' v6',CJ (A0 [4,5]) (IJ Ms Mt) (A8 0 ((strN es p).map tupI)) ⟨[Z,some (.b Γ.length),some (.v (.int g)),some (.v (tupI [(Sm zs g:Int),(Sm zs (g+1):Int)])),v4,v5,v6],Γ++[some B],Γ.length⟩ =
   some (.nx ⟨[Z,some (.b Γ.length),some (.v (.int g)),some (.v (tupI [(Sm zs g:Int),(Sm zs (g+1):Int)])),v4',v5',v6'],Γ++[some (B++(pcN f p g).map tupI)],Γ.length⟩):=by
 subst hf
 let G:Option SV:=some (.v (.int g))
 let A:Option SV:=some (.v (tupI [(Sm zs g:Int),(Sm zs (g+1):Int)]))
 let S:Nat->Option SV->Option SV->Option SV->DS:=fun t v4 v5 v6=>⟨[Z,some (.b Γ.length),G,A,v4,v5,v6],Γ++[some (B++(pcN (fOv zs es) t g).map tupI)],Γ.length⟩
 obtain ⟨s',e1,w4,w5,w6,rfl⟩:=B0 (g:=A0 [4,5]) (b:=IJ Ms Mt) (items:=A8 0 ((strN es p).map tupI)) (fun t st=>∃ v4 v5 v6,st=S t v4 v5 v6) (by
   rintro t d st hd ⟨v4,v5,v6,rfl⟩
   obtain ⟨x,hx,rfl⟩:=DC 0 _ t d hd
   obtain ⟨y,hy,rfl⟩:=Bw hx
   have ht:t<p:=by have:=(List.getElem?_eq_some_iff.mp hy).1;rw[DV] at this;exact this
   rw[Jo ht] at hy
   cases hy
   have e0:(0:Int)+(t:Int)=(t:Int):=by lia
   let I:Option SV:=some (.v (.int (t:Int)))
   let W:Option SV:=some (.v (tupI [(Sm es t:Int),(Sm es (t+1):Int)]))
   let T:DS:=S t I W v6
   let o:Int:=(if (Sm es (t+1):Int)<(Sm zs (g+1):Int) then (Sm es (t+1):Int) else (Sm zs (g+1):Int)) - (if (Sm es t:Int) > (Sm zs g:Int) then (Sm es t:Int) else (Sm zs g:Int))
   have a:∀ (i:Nat) (u v:Int) (j:Int) (z:Int),T.σ[i]?=some (some (.v (tupI [u,v])))->atI [D.int u,D.int v] j=some (.int z)->mOp gIx (AA i) (mC (.int j)) T=some (.v (.int z),T):=fun i u v j z h1 h2=>AO (x:=.v (tupI [u,v])) (y:=.v (.int j)) (s1:=T) (s2:=T) (by unfold AA;rw[h1]) rfl h2
   let T2:DS:=S t I W (some (.v (.int o)))
   have q1:AX 6 (mOp Bf (AQ EO (AB (mOp gIx (AA 3) (mC (.int 1))) (AB (mOp gIx (AA 5) (mC (.int 1))) AC))) (AQ EM (AB (mOp gIx (AA 3) (mC (.int 0))) (AB (mOp gIx (AA 5) (mC (.int 0))) AC)))) T=some (.nx T2):=
    BJ (AO (MZ (a 3 _ _ 1 _ rfl rfl) (a 5 _ _ 1 _ rfl rfl) rfl) (MZ (a 3 _ _ 0 _ rfl rfl) (a 5 _ _ 0 _ rfl rfl) rfl) rfl)
   have ho:g≠t->fOv zs es g t=o:=fun hne=>by
    unfold fOv
    rw[if_neg hne]
    show _=(if _ then _ else _) - (if _ then _ else _)
    split<;>split<;>lia
   have q2:EF (Aw (mOp BX (AA 2) (AA 4))) (Aw (mOp Dn (AA 6) (mC (.int 0)))) T2=some (decide (0<fOv zs es g t),T2):=by
    have t1:Aw (mOp BX (AA 2) (AA 4)) T2=some (!decide ((g:Int)=(t:Int)),T2):=CF (AO (x:=.v (.int g)) (y:=.v (.int t)) (s1:=T2) (s2:=T2) rfl rfl rfl)
    have t2:Aw (mOp Dn (AA 6) (mC (.int 0))) T2=some (decide (o > 0),T2):=CF (AO (x:=.v (.int o)) (y:=.v (.int 0)) (s1:=T2) (s2:=T2) rfl rfl rfl)
    refine (N6 t1 (fun _=>t2) fun _=>rfl).trans ?_
    by_cases c:g=t
    ·subst c
     unfold fOv
     rw[if_pos rfl,decide_eq_true rfl]
     rfl
    ·rw[decide_eq_false (by lia:¬(g:Int)=(t:Int)),ho c]
     rfl
   have q3:∃ B',mIf (EF (Aw (mOp BX (AA 2) (AA 4))) (Aw (mOp Dn (AA 6) (mC (.int 0))))) (Bj (B6 (AA 1) (BA (AB (AA 2) (AB (AA 4) (AB (AA 6) AC)))))) Dg T2=some (.nx ⟨T2.σ,Γ++[some B'],Γ.length⟩)/\B'=B++(pcN (fOv zs es) (t+1) g).map tupI:=by
    by_cases c:0<fOv zs es g t
    ·rw[decide_eq_true c] at q2
     have hne:g≠t:=fun z=>by unfold fOv at c;rw[if_pos z] at c;lia
     refine ⟨(B++(pcN (fOv zs es) t g).map tupI)++[tupI [(g:Int),(t:Int),o]],(Ly q2).trans ?_,?_⟩
     ·refine (Eb (n:=Γ.length) rfl Bh (Tf (x:=.int g) (y:=.int t) (z:=.int o) (s1:=T2) (s2:=T2) (s3:=T2) rfl rfl rfl) Bh (by have:=Ig (fOv zs es) g t;rw[List.length_append,List.length_map,Ao];lia)).trans ?_
      show some (Out.nx ⟨_,(Γ++[_]).set Γ.length _,_⟩)=_
      rw[FJ]
      rfl
     ·rw[HH,if_pos c,List.map_append,ho hne,List.append_assoc]
      rfl
    ·rw[decide_eq_false c] at q2
     exact ⟨_,(Lx q2).trans rfl,by rw[HH,if_neg c,List.append_nil]⟩
   obtain ⟨B',q3,rfl⟩:=q3
   exact ⟨T,_,by rw[e0];rfl,(Ae q1).trans q3,I,W,_,rfl⟩)
  (s:=S 0 v4 v5 v6) ⟨v4,v5,v6,rfl⟩
 rw[C3,List.length_map,DV] at e1
 refine ⟨w4,w5,w6,?_⟩
 have e2:S 0 v4 v5 v6=⟨[Z,some (.b Γ.length),G,A,v4,v5,v6],Γ++[some B],Γ.length⟩:=by
  show (⟨_,Γ++[some (B++[])],_⟩:DS)=_
  rw[List.append_nil]
 rw[<-e2]
 exact e1
end
theorem Pf {zs:List Nat} {Γ:Gm} (h1:1<=zs.length) (hl:zs.length<=100):Mem [.v (.lst (AN zs))] Γ=some ((mvE zs).map tupI,Γ):=by
 let Z:Option SV:=some (.v (.lst (AN zs)))
 let p:=zs.length
 let es:=evN zs.sum p
 let f:=fOv zs es
 let S0:DS:=⟨[Z,none,none,none,none,none,none],Γ,Γ.length⟩
 let S:Nat->Option SV->Option SV->Option SV->Option SV->Option SV->DS:=fun g v2 v3 v4 v5 v6=>⟨[Z,some (.b Γ.length),v2,v3,v4,v5,v6],Γ++[some ((mvN f g p).map tupI)],Γ.length⟩
 have g1:BF 1 (AR AC) S0=some (.nx (S 0 none none none none none)):=by
  refine (show _=some (Out.nx ⟨[Z,some (.b Γ.length),none,none,none,none,none],Γ++[some []],Γ.length⟩) from ?_)
  simp[S0,show (0:Nat)<=big from Nat.zero_le _]
 obtain ⟨s',e1,w2,w3,w4,w5,w6,rfl⟩:=B0 (g:=A0 [2,3]) (b:=JP CL Bs) (items:=A8 0 ((strN zs p).map tupI)) (fun g st=>∃ v2 v3 v4 v5 v6,st=S g v2 v3 v4 v5 v6) (by
   rintro g d st hd ⟨v2,v3,v4,v5,v6,rfl⟩
   obtain ⟨x,hx,rfl⟩:=DC 0 _ g d hd
   obtain ⟨y,hy,rfl⟩:=Bw hx
   have hg:g<p:=by have:=(List.getElem?_eq_some_iff.mp hy).1;rw[DV] at this;exact this
   rw[Jo hg] at hy
   cases hy
   have e0:(0:Int)+(g:Int)=(g:Int):=by lia
   let T:DS:=S g (some (.v (.int g))) (some (.v (tupI [(Sm zs g:Int),(Sm zs (g+1):Int)]))) v4 v5 v6
   have hm:(mvN f g p).length<=10000:=Nat.le_trans (Mi f p g) (Nat.mul_le_mul (show g<=100 by lia) (show p<=100 from hl))
   obtain ⟨u4,u5,u6,q⟩:=O2 (Ms:=CL) (Mt:=Bs) (zs:=zs) (es:=es) (p:=p) (Γ:=Γ) (f:=f) rfl (g:=g) (Z:=Z) (B:=(mvN f g p).map tupI) (by rw[List.length_map];lia) (by lia) v4 v5 v6
   have w:=MM (CZ (M:=Bs) (m:=AA 0) (s:=T) (s':=T) (x:=.v (.lst (AN zs))) rfl (Ga h1 (by lia)))
   refine ⟨T,_,by rw[e0];rfl,(CA w q).trans rfl,some (.v (.int g)),some (.v (tupI [(Sm zs g:Int),(Sm zs (g+1):Int)])),u4,u5,u6,?_⟩
   show (⟨_,Γ++[some ((mvN f g p).map tupI++(pcN f p g).map tupI)],_⟩:DS)=_
   simp only[S,Kt,List.map_append])
  (s:=S 0 none none none none none) ⟨none,none,none,none,none,rfl⟩
 rw[C3,List.length_map,DV] at e1
 have q:BR (AB (AK (Ay CL (AB (AA 0) AC))) AC) (S 0 none none none none none)=some (A8 0 ((strN zs p).map tupI),S 0 none none none none none):=MM (CZ (M:=CL) (m:=AA 0) (x:=.v (.lst (AN zs))) (s':=S 0 none none none none none) rfl (KJ (by lia)))
 have g3:=CA q e1
 unfold Mem Ag Iu
 show ((AL _ _ S0).bind _)=_
 rw[(Ae (g1)).trans ((Ae (g3)).trans (rfl))]
 have hg:∀ x:List D,A3 (BY 1) ⟨[Z,some (.b Γ.length),w2,w3,w4,w5,w6],Γ++[some x],Γ.length⟩=some (.rf x ⟨[Z,none,w2,w3,w4,w5,w6],Γ++[none],Γ.length⟩):=fun x=>by simp
 rw[show A3 (BY 1) (S p w2 w3 w4 w5 w6)=_ from hg _]
 show some (_,(Γ++[none]).take Γ.length)=_
 rw[E7]
 rfl
end DL
namespace DL
open PySem L2 Ev
abbrev kT (x:Nat×Nat):List Key:=[Sum.inl (x.1:Int),Sum.inl (x.2:Int)]
theorem JA {x y:Nat×Nat} (h:kT x=kT y):x=y:=by
 have h1:=List.cons.inj h
 have h2:=List.cons.inj h1.2
 have e1:=Sum.inl.inj h1.1
 have e2:=Sum.inl.inj h2.1
 exact Prod.ext (by lia) (by lia)
structure DokT (kvs:List (List Key×V)) (L:List (Nat×Nat)):Prop where
 val:∀ x:Nat×Nat,Al kvs (kT x)=if L.count x=0 then none else some (.int (L.count x:Nat))
 nd:(kvs.map (·.1)).Nodup
 key:∀ k∈kvs.map (·.1),∃ x∈L,k=kT x
 len:kvs.length<=L.length
theorem DokT.nil:DokT [] []:=⟨fun r=>rfl,.nil,fun k h=>(nomatch h),Nat.le_refl _⟩
theorem Jj {κ:Type} [DecidableEq κ] {kvs:List (κ×V)} {k:κ} {v w:V} (h:Al kvs k=some w):(putK kvs k v).map (·.1)=kvs.map (·.1):=by
 unfold putK
 rw[if_pos (by rw[C9,h];rfl),List.map_map]
 refine List.map_congr_left fun p _=>?_
 show (if p.1=k then (p.1,v) else p).1=p.1
 split<;>rfl
theorem DokT.put {kvs:List (List Key×V)} {L:List (Nat×Nat)} (h:DokT kvs L) (r:Nat×Nat):DokT (putK kvs (kT r) (.int ((L.count r:Nat)+1))) (L++[r]):=by
 have cnt:∀ j,(L++[r]).count j=L.count j+if r=j then 1 else 0:=fun j=>by
  rw[List.count_append,List.count_cons,List.count_nil]
  by_cases e:r=j
  ·rw[if_pos e,if_pos (by simp[e])]
  ·rw[if_neg e,if_neg (by simpa using e)]
 refine ⟨fun j=>?_,?_,?_,?_⟩
 ·rw[NW,cnt]
  by_cases e:r=j
  ·subst e
   rw[if_pos rfl,if_pos rfl,if_neg (by lia)]
   rfl
  ·rw[if_neg (fun z=>e (JA z).symm),if_neg e,Nat.add_zero]
   exact h.val j
 ·cases hv:Al kvs (kT r) with
  | none=>exact S4 _ h.nd hv
  | some w=>rw[Jj hv];exact h.nd
 ·intro k hk
  cases hv:Al kvs (kT r) with
  | none=>
   rw[LA _ hv,List.map_append] at hk
   rcases List.mem_append.mp hk with hk | hk
   ·obtain ⟨q,hq,e⟩:=h.key k hk
    exact ⟨q,List.mem_append_left _ hq,e⟩
   ·rw[List.map_cons,List.map_nil,List.mem_singleton] at hk
    exact ⟨r,List.mem_append_right _ (List.mem_singleton.mpr rfl),hk⟩
  | some w=>
   rw[Jj hv] at hk
   obtain ⟨q,hq,e⟩:=h.key k hk
   exact ⟨q,List.mem_append_left _ hq,e⟩
 ·have:=IY kvs (kT r) (.int ((L.count r:Nat)+1))
  have:=h.len
  rw[List.length_append]
  simp
  lia
theorem DokT.prs {kvs:List (List Key×V)} {L:List (Nat×Nat)} (h:DokT kvs L):∃ ps:List (Nat×Nat),kvs.map (·.1)=ps.map kT/\ps.Nodup/\∀ x,x∈ps↔x∈L:=by
 have key:∀ (ks:List (List Key)),(∀ k∈ks,∃ r∈L,k=kT r)->∃ ps:List (Nat×Nat),ks=ps.map kT:=by
  intro ks
  induction ks with
  | nil=>intro _;exact ⟨[],rfl⟩
  | cons k ks ih=>
   intro hh
   obtain ⟨ns,e⟩:=ih fun q hq=>hh q (List.mem_cons_of_mem _ hq)
   obtain ⟨r,_,rfl⟩:=hh k List.mem_cons_self
   exact ⟨r::ns,by rw[e];rfl⟩
 obtain ⟨ps,e⟩:=key _ h.key
 have nd:=h.nd
 rw[e] at nd
 refine ⟨ps,e,(List.pairwise_map.mp nd).imp fun hne z=>hne (by rw[z]),fun x=>⟨fun hx=>?_,fun hx=>?_⟩⟩
 ·obtain ⟨r,hr,q⟩:=h.key (kT x) (by rw[e];exact List.mem_map.mpr ⟨x,hx,rfl⟩)
  rw[JA q]
  exact hr
 ·have hv:=h.val x
  rw[if_neg (Nat.ne_of_gt (List.count_pos_iff.mpr hx))] at hv
  have:=Pj hv
  rw[e] at this
  obtain ⟨y,hy,q⟩:=List.mem_map.mp this
  rw[<-JA q]
  exact hy
def dif (L:List (Nat×Nat)):List (Nat×Nat):=L.filter fun x=>decide (x.1≠x.2)
def BU (L:List (Nat×Nat)) (g t:Nat):Int:=((L.count (g,t):Nat):Int)
def trp (L:List (Nat×Nat)) (x:Nat×Nat):List Int:=[(x.1:Int),(x.2:Int),BU L x.1 x.2]
theorem PD {L ps:List (Nat×Nat)} {P:Nat} (nd:ps.Nodup) (hm:∀ x,x∈ps↔x∈L) (hP:∀ x∈L,x.1<P/\x.2<P):Au (ps.map (trp L))=mvN (BU L) P P:=by
 have inj:∀ a b,trp L a=trp L b->a=b:=fun a b z=>by
  unfold trp at z
  have h1:=List.cons.inj z
  have h2:=List.cons.inj h1.2
  exact Prod.ext (by have:=h1.1;lia) (by have:=h2.1;lia)
 refine Ht (List.pairwise_map.mpr (nd.imp fun hne z=>hne (inj _ _ z))) fun x=>?_
 ·constructor
  ·intro hx
   obtain ⟨y,hy,rfl⟩:=List.mem_map.mp hx
   have:=hP y ((hm y).mp hy)
   refine ⟨y.1,y.2,this.1,this.2,?_,rfl⟩
   have:=List.count_pos_iff.mpr ((hm y).mp hy)
   unfold BU
   show (0:Int)<((L.count y:Nat):Int)
   lia
  ·rintro ⟨g,t,_,_,h0,rfl⟩
   refine List.mem_map.mpr ⟨(g,t),(hm _).mpr (List.count_pos_iff.mp ?_),rfl⟩
   unfold BU at h0
   lia
theorem Os {f:Nat->Nat->Int} {p P:Nat} (h:∀ g t,0<f g t->g<p/\t<p) (hp:p<=P):mvN f P P=mvN f p p:=by
 refine (Dx (B5 (mvN f P P)) (C5 _) (HX f P P)).symm.trans (Ht (Iz f P P) fun x=>?_)
 rw[mvN_mem]
 constructor
 ·rintro ⟨g,t,_,_,h0,e⟩
  exact ⟨g,t,(h g t h0).1,(h g t h0).2,h0,e⟩
 ·rintro ⟨g,t,hg,ht,h0,e⟩
  exact ⟨g,t,by lia,by lia,h0,e⟩
def natOf:List D->List Nat:=List.map fun d=>match d with | .int i=>i.toNat | _=>0
theorem Ow (l:List Nat):natOf (AN l)=l:=by
 unfold natOf AN
 rw[List.map_map]
 exact (List.map_congr_left fun x _=>by simp).trans (List.map_id l)
abbrev Fp:Stmt:=top 15
abbrev MX:List Str:=["rows","found","owners","h","row","there","counted","one","other"]
open Classical in
def Et:MS:=fun s=>match s.σ with
 | [y0,y1,some (.v (.lst O)),y3,y4,some (.v (.lst U)),_,_,_]=>
  if O=AN (natOf O)/\U=AN (natOf U)/\O.length=U.length/\O.length<=5000/\(∀ x∈natOf O,x<1000)/\(∀ x∈natOf U,x<1000) then
   some (.rf ((mvN (BU (dif ((natOf O).zip (natOf U)))) 1000 1000).map tupI) {s with σ:=[y0,y1,some (.v (.lst O)),y3,y4,some (.v (.lst U)),none,none,none]}) else none
 | _=>none
def My:MS:=(AX 2 (mOp AY (AA 2) (AK (BI Cm (AK (AR (AB (AA 3) AC))) (AQ Ap (AB (AA 4) AC))))))
def Lr:MS:=(AX 5 (mOp AY (AA 5) (AK (BI Cm (AK (AR (AB (AA 3) AC))) (AQ Ap (AB (AA 4) AC))))))
def HA:MS:=(AL (AX 2 (AK (AR AC)))
 (AL (Bd (BR (AB (AA 0) AC)) (A0 [3,4]) (My))
 (AL (AX 5 (AK (AR AC)))
 (AL (Bd (BR (AB (AA 1) AC)) (A0 [3,4]) (Lr))
 Et))))
theorem sc__law_counted:FnScope MX ["rows","found"] (AW Fp):=⟨rfl,rfl,rfl,by decide +kernel,rfl,by decide +kernel,by decide +kernel⟩
theorem Du {x y:V}:([x,y]:List V).length<=sizeLine:=Nat.le_of_lt (CW (show 2<=1000000 by decide))
theorem Sr {x y z:V}:([x,y,z]:List V).length<=sizeLine:=Nat.le_of_lt (CW (show 3<=1000000 by decide))
theorem Q9 {X:Cx} {a b c:Stmt} {ta tb tc:TS} {m:MS} (ha:PS X a ta) (hb:PS X b tb) (hc:PS X c tc)
  (k:∀ (f:Fr),f.K=X.K->∀ E σ H,tDS f m E σ H->CO ta (CO tb tc) E σ H):DSs X [a,b,c] m:=
 fun f hf=>PSs.imp (BW ha (BW hb (Bb hc))) (k f hf)
theorem TQ {P:Program} {w:World} {K:PySem.W.Frag} {mg:Str->Option Value} {base:Heap} {fa:Addr} {fd:FuncData} (F:Fun K "_law_counted" "_law_counted" Fp fa fd) (T:Nm mg):FnOk P w K mg base CX0 1 fa fd ["rows","found"] (spF K 2 (Ag 9 (HA))):=
 CG F sc__law_counted fun cdv A outer s H E hr=>(AU (A5 (fun te h=>Ad (i:=2) sc__law_counted.nd rfl (Or.inl rfl) h) (Ab (A9 AI)))
 (AU (CB PassesOwn.never rfl (Df rfl T.enum (AF (AD (pv 0)) AI)) (Cc (is:=[3,4]) (n:=2) rfl (Bl rfl rfl (Am (AV (i:=3) sc__law_counted.nd rfl (Or.inl rfl)) (Am (AV (i:=4) sc__law_counted.nd rfl (Or.inl rfl)) Bk)))) (Az (A5 (fun te h=>Ad (i:=2) sc__law_counted.nd rfl (Or.inl rfl) h) (BK (AD (pv 2)) (Ab (Fw (Ab (A9 (AF (AD (pv 3)) AI))) (Bp T (AF (AD (pv 4)) AI))))))))
 (AU (A5 (fun te h=>Ad (i:=5) sc__law_counted.nd rfl (Or.inl rfl) h) (Ab (A9 AI)))
 (AU (CB PassesOwn.never rfl (Df rfl T.enum (AF (AD (pv 1)) AI)) (Cc (is:=[3,4]) (n:=2) rfl (Bl rfl rfl (Am (AV (i:=3) sc__law_counted.nd rfl (Or.inl rfl)) (Am (AV (i:=4) sc__law_counted.nd rfl (Or.inl rfl)) Bk)))) (Az (A5 (fun te h=>Ad (i:=5) sc__law_counted.nd rfl (Or.inl rfl) h) (BK (AD (pv 5)) (Ab (Fw (Ab (A9 (AF (AD (pv 3)) AI))) (Bp T (AF (AD (pv 4)) AI))))))))
 (Q9 (m:=Et)
  (Ad (i:=6) sc__law_counted.nd rfl (Or.inr rfl) Sh)
  (EX PassesOwn.never rfl (SX rfl T.zip (Ax (pv 2) (Ax (pv 5) BB))) (Bl (K:=K) (n:=2) rfl rfl (Am (AV (i:=7) sc__law_counted.nd rfl (Or.inl rfl)) (Am (AV (i:=8) sc__law_counted.nd rfl (Or.inl rfl)) Bk)))
   (Bb (Dz (Lv op_ne (pv 7) (pv 8) (Cz _)) (Bb (PQ (Gk hr) (pv 6) (Dw (Ax (pv 7) (Ax (pv 8) BB))) (Hs op_add (Od (Gk hr) (pv 6) (Dw (Ax (pv 7) (Ax (pv 8) BB))) HV ⟨rfl,rfl,rfl,rfl⟩) HV) rfl)) Ds)))
  (Cn (Fi call_sortedA (by rfl) T.sorted PyProof.Rows.boot_sorted (Ax (JC (esc:=(AW Fp)) (N:=MX) (tn:=["one","other"]) (fn:=["counted"]) (ix:=[6]) rfl rfl rfl ⟨rfl,by decide +kernel,by decide +kernel,by decide +kernel,rfl,by decide +kernel⟩ (SL.Sk (pv 6)) (fun _ _ _ _ _=>Bl (K:=K) (n:=2) rfl rfl (Am (AV (i:=0) (show (["one","other","counted"]:List Str).Nodup by decide +kernel) rfl (Or.inl rfl)) (Am (AV (i:=1) (show (["one","other","counted"]:List Str).Nodup by decide +kernel) rfl (Or.inl rfl)) Bk)))
    (fun _ _ _ _ _=>FH) (fun _ _ _ _ _=>Dw (Ax (pv 0) (Ax (pv 1) (Ax (P0 (Gk hr) (pv 2) (Dw (Ax (pv 0) (Ax (pv 1) BB))) (fun _ _=>rfl)) BB))))) BB)))
  (by
   intro f hf E' σ' H' h
   obtain ⟨α,S,o,rS,lo,e,q⟩:=h
   unfold Et at e
   split at e
   case h_2=>cases e
   rename_i y0 y1 O y3 y4 U y6 y7 y8 hS
   split at e
   case isFalse=>cases e
   rename_i hx
   cases e
   obtain ⟨hO,hU,hlen,hl5,hO1,hU1⟩:=hx
   have hfK:f.K=K:=hf
   have hl10:σ'.length=9:=by rw[<-rS.len,hS];rfl
   obtain ⟨z0,z1,z2,z3,z4,z5,z6,z7,z8,rfl⟩:∃ z0 z1 z2 z3 z4 z5 z6 z7 z8,σ'=[z0,z1,z2,z3,z4,z5,z6,z7,z8]:=by
    match σ',hl10 with
    | [z0,z1,z2,z3,z4,z5,z6,z7,z8],_=>exact ⟨_,_,_,_,_,_,_,_,_,rfl⟩
   obtain ⟨v3,hv3,rv3⟩:=rS.tree (i:=2) (d:=.lst O) (by rw[hS];rfl)
   obtain ⟨v6,hv6,rv6⟩:=rS.tree (i:=5) (d:=.lst U) (by rw[hS];rfl)
   cases hv3
   cases hv6
   generalize hos:natOf O=os at hO hO1 q
   generalize hus:natOf U=us at hU hU1 q
   subst hO hU
   rw[DZ,DZ] at hlen
   rw[DZ] at hl5
   rw[Lb] at rv3 rv6
   unfold Rep at rv3 rv6
   obtain ⟨oa,w3,rfl,-,hoa,hw3⟩:=rv3
   obtain ⟨ua,w6,rfl,-,hua,hw6⟩:=rv6
   have e3:=hw3.ints
   have e6:=hw6.ints
   subst e3 e6
   have hoa:H' oa=some (.lst ((os.map fun (n:Nat)=>(n:Int)).map V.int)):=hoa
   have hua:H' ua=some (.lst ((us.map fun (n:Nat)=>(n:Int)).map V.int)):=hua
   have getV:∀ {l:List Nat} {i:Nat} {x:V},((l.map fun (n:Nat)=>(n:Int)).map V.int)[i]?=some x->∃ n,l[i]?=some n/\x=.int (n:Int):=fun {l i x} hh=>by
    obtain ⟨a,ha,rfl⟩:=Bw hh
    obtain ⟨n,hn,rfl⟩:=Bw ha
    exact ⟨n,hn,rfl⟩
   have lenV:∀ l:List Nat,((l.map fun (n:Nat)=>(n:Int)).map V.int).length=l.length:=fun l=>by rw[List.length_map,List.length_map]
   intro m hm
   have hmo:oa≠m:=Ah hoa hm
   have hmu:ua≠m:=Ah hua hm
   refine ⟨_,rfl,_,rfl,oa,ua,rfl,.inl ⟨_,_,by rw[AJ hmo];exact hoa,by rw[AJ hmu];exact hua,?_⟩⟩
   refine FL os.length (fun i σ Hi=>∃ (kvs:List (List Key×V)) (u8 u9:Option V),σ=[z0,z1,some (.ref oa),z3,z4,some (.ref ua),some (.ref m),u8,u9]/\Grow H' Hi/\Hi m=some (.dT kvs)/\DokT kvs (dif ((os.zip us).take i))) ?_ ?_ ?_ ?_ ?_
   ·exact ⟨[],z7,z8,rfl,.new hm,AS,.nil⟩
   ·rintro i σ Hi hi ⟨kvs,u8,u9,rfl,g,hmi,dk⟩
    exact ⟨_,_,_,_,g _ _ hoa,g _ _ hua,List.getElem?_eq_getElem (by rw[lenV];exact hi),List.getElem?_eq_getElem (by rw[lenV];lia)⟩
   ·rintro σ Hi ⟨kvs,u8,u9,rfl,g,hmi,dk⟩
    exact ⟨_,g _ _ hoa,by rw[lenV];exact Nat.le_refl _⟩
   ·rintro i x σ Hi H2 hi ⟨kvs,u8,u9,rfl,g,hmi,dk⟩ ⟨T0,x1,x2,hT0,rfl,rfl,hx1,hx2⟩
    obtain ⟨a,ha,rfl⟩:=getV (hx1 _ (g _ _ hoa))
    obtain ⟨b,hb,rfl⟩:=getV (hx2 _ (g _ _ hua))
    have g0:Grow Hi (upd Hi T0 (.tup [.int (a:Int),.int (b:Int)])):=.new hT0
    refine ⟨T0,_,rfl,SqT.of AS,rfl,_,_,rfl,_,_,rfl,rfl,?_⟩
    have hz:(os.zip us)[i]?=some (a,b):=by rw[List.getElem?_zip_eq_some];exact ⟨ha,hb⟩
    have etk:(os.zip us).take (i+1)=(os.zip us).take i++[(a,b)]:=by rw[List.take_add_one,hz];rfl
    generalize hH1:upd Hi T0 (.tup [.int (a:Int),.int (b:Int)])=H1 at g0
    have hm1:H1 m=some (.dT kvs):=g0 _ _ hmi
    by_cases c:a=b
    ·refine ⟨_,rfl,_,rfl,rfl,_,rfl,?_⟩
     rw[show decide (V.int (a:Int)=V.int (b:Int))=true from decide_eq_true (by rw[c])]
     refine Cq ⟨kvs,_,_,rfl,g.trans g0,hm1,?_⟩
     rw[etk]
     unfold dif at dk ⊢
     rw[List.filter_append,List.filter_cons_of_neg (by simpa using c)]
     simpa using dk
    ·refine ⟨_,rfl,_,rfl,rfl,_,rfl,?_⟩
     rw[show decide (V.int (a:Int)=V.int (b:Int))=false from decide_eq_false (fun z=>by cases z;exact c (by lia))]
     refine O6 ?_
     refine ⟨_,rfl,m,rfl,.inr ⟨kvs,.inl hm1⟩,_,rfl,_,rfl,Du,fun T1 hT1=>?_⟩
     have g1:Grow H1 (upd H1 T1 (.tup [.int (a:Int),.int (b:Int)])):=.new hT1
     have hT1':(upd H1 T1 (.tup [.int (a:Int),.int (b:Int)])) T1=some (.tup ((kT (a,b)).map kV)):=AS
     generalize upd H1 T1 (.tup [.int (a:Int),.int (b:Int)])=H2 at g1 hT1'
     have hm2:H2 m=some (.dT kvs):=g1 _ _ hm1
     have hget:(Al kvs (kT (a,b))).getD (.int 0)=.int ((dif ((os.zip us).take i)).count (a,b):Nat):=by
      rw[dk.val]
      by_cases c0:(dif ((os.zip us).take i)).count (a,b)=0
      ·rw[if_pos c0,c0];rfl
      ·rw[if_neg c0];rfl
     have hkl:kvs.length<=5000:=by
      have:=dk.len
      have h2:(dif ((os.zip us).take i)).length<=((os.zip us).take i).length:=List.length_filter_le _ _
      rw[List.length_take] at h2
      lia
     refine ⟨_,DGet.t hm2 hT1',_,_,hget,rfl,_,rfl,_,rfl,_,rfl,Du,fun T2 hT2=>?_⟩
     have g2:Grow H2 (upd H2 T2 (.tup [.int (a:Int),.int (b:Int)])):=.new hT2
     have hT2':(upd H2 T2 (.tup [.int (a:Int),.int (b:Int)])) T2=some (.tup ((kT (a,b)).map kV)):=AS
     generalize upd H2 T2 (.tup [.int (a:Int),.int (b:Int)])=H3 at g2 hT2'
     have hm3:H3 m=some (.dT kvs):=g2 _ _ hm2
     refine ⟨m,_,rfl,DPut.t hm3 hT2' (CW (by lia)),_,_,_,rfl,fun b' o eb=>?_,AS,?_⟩
     ·rw[AJ (fun z=>by rw[z,hm] at eb;cases eb)]
      exact g2 _ _ (g1 _ _ (g0 _ _ (g b' o eb)))
     ·rw[etk]
      have:=dk.put (a,b)
      unfold dif at this ⊢
      rw[List.filter_append,List.filter_cons_of_pos (by simpa using c)]
      exact this
   ·rintro σ Hi ⟨kvs,u8,u9,rfl,g,hmi,dk⟩
    have hzl:(os.zip us).length=os.length:=by rw[List.length_zip];lia
    rw[List.take_of_length_le (by rw[hzl];exact Nat.le_refl _)] at dk
    generalize hL:dif (os.zip us)=L at dk q
    obtain ⟨ps,ek,nd,hmem⟩:=dk.prs
    have hpl:ps.length=kvs.length:=by have:=congrArg List.length ek;rw[List.length_map,List.length_map] at this;exact this.symm
    have hLm:∀ x∈L,x.1<1000/\x.2<1000:=fun x hx=>by
     rw[<-hL] at hx
     have hz:=(List.mem_filter.mp hx).1
     obtain ⟨h1,h2⟩:=List.of_mem_zip (a:=x.1) (b:=x.2) hz
     exact ⟨hO1 _ h1,hU1 _ h2⟩
    have hkl:kvs.length<=5000:=by
     have:=dk.len
     have h2:(dif (os.zip us)).length<=(os.zip us).length:=List.length_filter_le _ _
     rw[hL,hzl] at h2
     lia
    refine ⟨_,rfl,m,_,rfl,hmi,trivial,fun ob l2 hl2=>?_⟩
    have hml:m≠l2:=fun z=>by rw[<-z,AS] at hl2;cases hl2
    have g7:Grow H' (upd Hi m (.frz ob (.dT kvs))):=fun b o eb=>by
     rw[AJ (fun z=>by rw[z,hm] at eb;cases eb)]
     exact g b o eb
    have hm7:(upd Hi m (.frz ob (.dT kvs))) m=some (.frz ob (.dT kvs)):=AS
    generalize upd Hi m (.frz ob (.dT kvs))=H7 at hl2 g7 hm7
    refine FI kvs.length (fun i τ Hc=>∃ (ws:List V) (u0 u1:Option V),τ=[u0,u1,some (.ref m)]/\Hc l2=some (.lst ws)/\ws.length=i/\(∀ b o,b≠l2->H7 b=some o->Hc b=some o)/\Reps ⟨K,fun a=>H7 a≠none\/a=l2,Hc⟩ (((ps.take i).map (trp L)).map tupI) ws) ?_ ?_ ?_ ?_ ?_
    ·exact ⟨[],none,none,rfl,AS,rfl,fun b o hb eb=>by rw[AJ hb];exact eb,.nil⟩
    ·rintro i τ Hc hi ⟨ws,u0,u1,rfl,hl,hw,gc,hr⟩
     exact ⟨gc _ _ hml hm7,hi⟩
    ·rintro τ Hc ⟨ws,u0,u1,rfl,hl,hw,gc,hr⟩
     exact ⟨gc _ _ hml hm7,Nat.le_refl _⟩
    ·rintro i x τ Hc H8 hi ⟨ws,u0,u1,rfl,hl,hw,gc,hr⟩ ⟨rfl,k,v,b,hk,rfl,hb⟩
     obtain ⟨y,hy⟩:∃ y,ps[i]?=some y:=⟨_,List.getElem?_eq_getElem (by rw[hpl];exact hi)⟩
     have ek':k=kT y:=by
      have:=congrArg (fun z=>z[i]?) ek
      simp only[List.getElem?_map,hk,hy,Option.map_some] at this
      exact Option.some.inj this
     subst ek'
     have hb:H8 b=some (.tup [.int (y.1:Int),.int (y.2:Int)]):=hb
     have hyL:y∈L:=(hmem y).mp (List.mem_of_getElem? hy)
     have hv:Al kvs (kT y)=some (.int (BU L y.1 y.2)):=by
      rw[dk.val,if_neg (Nat.ne_of_gt (List.count_pos_iff.mpr hyL))]
      rfl
     refine ⟨b,_,rfl,SqT.of hb,rfl,_,_,rfl,_,_,rfl,rfl,?_⟩
     dsimp only[F0]
     rw[if_pos rfl]
     refine ⟨_,rfl,_,rfl,_,rfl,_,rfl,_,rfl,Du,fun T1 hT1=>?_⟩
     have hT1l:l2≠T1:=Ah hl hT1
     have g1:Grow H8 (upd H8 T1 (.tup [.int (y.1:Int),.int (y.2:Int)])):=.new hT1
     have hT1':(upd H8 T1 (.tup [.int (y.1:Int),.int (y.2:Int)])) T1=some (.tup ((kT y).map kV)):=AS
     generalize upd H8 T1 (.tup [.int (y.1:Int),.int (y.2:Int)])=H9 at g1 hT1'
     have hm9:H9 m=some (.frz ob (.dT kvs)):=g1 _ _ (gc _ _ hml hm7)
     refine ⟨m,_,rfl,.inr ⟨kvs,kT y,T1,.inr ⟨ob,hm9⟩,rfl,hT1',hv.symm⟩,Sr,fun T2 hT2=>?_⟩
     have hT2l:l2≠T2:=Ah (g1 _ _ hl) hT2
     have hT27:H7 T2=none:=by
      cases e7:H7 T2 with
      | none=>rfl
      | some o=>
       have:=g1 _ _ (gc _ _ (Ne.symm hT2l) e7)
       rw[hT2] at this
       cases this
     refine ⟨ws,by rw[AJ hT2l];exact g1 _ _ hl,CW (by lia),ws++[.ref T2],_,_,rfl,AS,by rw[List.length_append,hw];rfl,fun b' o hb' eb=>?_,?_⟩
     ·rw[AJ hb']
      by_cases z:b'=T2
      ·rw[z,hT27] at eb
       cases eb
      ·rw[AJ z]
       exact g1 _ _ (gc _ _ hb' eb)
     ·rw[List.take_add_one,hy]
      simp only[Option.toList_some,List.map_append,List.map_cons,List.map_nil]
      have kw:Kw ⟨K,fun a=>H7 a≠none\/a=l2,H8⟩ ⟨K,fun a=>H7 a≠none\/a=l2,upd (upd H9 T2 (.tup [.int (y.1:Int),.int (y.2:Int),.int (BU L y.1 y.2)])) l2 (.lst (ws++[.ref T2]))⟩:=⟨rfl,fun a o na ea=>⟨by
       show (upd _ l2 _) a=_
       rw[AJ (fun z=>na (.inr z))]
       by_cases z:a=T2
       ·have:=g1 _ _ ea
        rw[z,hT2] at this
        cases this
       ·rw[AJ z]
        exact g1 _ _ ea,na⟩⟩
      refine (hr.kw kw).append (.cons ?_ .nil)
      unfold tupI Rep
      refine ⟨T2,[.int (y.1:Int),.int (y.2:Int),.int (BU L y.1 y.2)],rfl,fun z=>?_,?_,Reps.of_ints⟩
      ·rcases z with z | z
       ·exact z hT27
       ·exact hT2l z.symm
      ·show (upd _ l2 _) T2=_
       rw[AJ (Ne.symm hT2l),AS]
    ·rintro τ Hc ⟨ws,u0,u1,rfl,hl,hw,gc,hr⟩
     rw[List.take_of_length_le (by rw[hpl];exact Nat.le_refl _)] at hr
     obtain ⟨n1,n2⟩:=Iq hr
     have gF:Grow H' Hc:=fun b o eb=>gc b o (fun z=>by
      have:=g7 b o eb
      rw[z,hl2] at this
      cases this) (g7 b o eb)
     have n1:ws.map (BV Hc)=ps.map (trp L):=n1
     have n2:∀ v∈ws,Rep ⟨K,fun a=>H7 a≠none\/a=l2,Hc⟩ (tupI (BV Hc v)) v:=n2
     refine .inr ⟨l2,ws,rfl,SqL.of hl,fun v hv=>?_,fun l us' hl' hp hs=>?_⟩
     ·obtain ⟨b,e1,e2⟩:=Hm (n2 v hv)
      refine ⟨b,_,e1,e2,fun z=>?_⟩
      have:BV Hc v∈ps.map (trp L):=by rw[<-n1];exact List.mem_map.mpr ⟨v,hv,rfl⟩
      rw[z] at this
      obtain ⟨y,_,hy⟩:=List.mem_map.mp this
      cases hy
     ·obtain ⟨rS5,ex5⟩:=rS.grow gF
      have e1:us'.map (BV Hc)=mvN (BU L) 1000 1000:=by
       rw[<-PD nd hmem hLm]
       exact Dx (((hp.map (BV Hc)).trans (by rw[n1])).trans (B5 _).symm) (by rw[Cv,List.pairwise_map];exact hs) (C5 _)
      have kwf:Kw ⟨K,fun a=>H7 a≠none\/a=l2,Hc⟩ (wd f α S.Γ Hc):=⟨hfK,fun a o na ea=>⟨ea,fun z=>by
       have h7:H7 a=none:=by
        cases e7:H7 a with
        | none=>rfl
        | some o=>exact absurd (.inl (by rw[e7];exact fun z=>nomatch z)) na
       have h':H' a=none:=g7.none h7
       rcases z with z | ⟨n,xs,z1,z2⟩
       ·exact rS.forb a z h'
       ·obtain ⟨vs,z3,_⟩:=rS.box n xs z1
        rw[z2,h'] at z3
        cases z3⟩⟩
      refine q α [z0,z1,some (.ref oa),z3,z4,some (.ref ua),some (.ref m),u8,u9] l us' Hc (rS5.slots (τ:=[y0,y1,some (.v (.lst (AN os))),y3,y4,some (.v (.lst (AN us))),none,none,none]) rfl ?_) rfl ex5 hl' ?_
      ·intro i d hd
       have hs:=fun (hh:S.σ[i]?=some (some d))=>rS5.slot i d hh
       rw[hS] at hs
       match i,hd with
       | 0,hd=>exact hs hd
       | 1,hd=>exact hs hd
       | 2,hd=>exact hs hd
       | 3,hd=>exact hs hd
       | 4,hd=>exact hs hd
       | 5,hd=>exact hs hd
       | 6,hd=>cases hd
       | 7,hd=>cases hd
       | 8,hd=>cases hd
       | i+9,hd=>cases hd
      ·rw[<-e1]
       exact Gr (W:=wd f α S.Γ Hc) fun v hv=>(n2 v (hp.mem_iff.mp hv)).kw kwf))))))
theorem Fd {zs:List Nat} {k x:Nat} (h:x∈Ac zs k):x<k:=by
 unfold Ac at h
 obtain ⟨g,hg,hx⟩:=List.mem_flatMap.mp h
 rw[List.eq_of_mem_replicate hx]
 exact List.mem_range.mp hg
theorem SS {zs:List Nat} (h1:1<=zs.length) (hl:zs.length<=1000):mvN (BU (dif ((Ac zs zs.length).zip (Ac (evN zs.sum zs.length) zs.length)))) 1000 1000=mvE zs:=by
 let p:=zs.length
 let es:=evN zs.sum p
 have hs:Sm zs p=Sm es p:=by
  rw[Dq]
  have:=Dq es
  rw[show es.length=p from ET h1,show es.sum=zs.sum from Cs h1] at this
  exact this.symm
 have hin:∀ g t,0<BU (dif ((Ac zs p).zip (Ac es p))) g t->g<p/\t<p/\g≠t:=fun g t h0=>by
  have hm:(g,t)∈dif ((Ac zs p).zip (Ac es p)):=List.count_pos_iff.mp (by unfold BU at h0;lia)
  obtain ⟨hz,hne⟩:=List.mem_filter.mp hm
  obtain ⟨a,b⟩:=List.of_mem_zip hz
  exact ⟨Fd a,Fd b,by simpa using hne⟩
 refine (Os (p:=p) (fun g t h0=>⟨(hin g t h0).1,(hin g t h0).2.1⟩) hl).trans ?_
 refine Si fun g t hg ht=>?_
 by_cases c:g=t
 ·subst c
  have e0:¬0<BU (dif ((Ac zs p).zip (Ac es p))) g g:=fun z=>(hin g g z).2.2 rfl
  have e1:fOv zs es g g=0:=if_pos rfl
  refine ⟨⟨fun z=>absurd z e0,fun z=>?_⟩,fun z=>absurd z e0⟩
  have z:0<fOv zs es g g:=z
  lia
 ·have e:=Nc (zs:=zs) (es:=es) (p:=p) hs hg ht c
  have e2:BU (dif ((Ac zs p).zip (Ac es p))) g t=max 0 (fOv zs es g t):=e
  rw[e2]
  have e3:fOv zs (evN zs.sum zs.length) g t=fOv zs es g t:=rfl
  rw[e3]
  exact ⟨⟨fun z=>by lia,fun z=>by lia⟩,fun z=>by lia⟩
theorem OG {zs:List Nat} {m:Nat} (h:∀ z∈zs,z<=m):zs.sum<=zs.length * m:=by
 induction zs with
 | nil=>simp
 | cons z zs ih=>
  have:=ih fun x hx=>h x (List.mem_cons_of_mem _ hx)
  have:=h z List.mem_cons_self
  rw[List.sum_cons,List.length_cons,Nat.add_mul]
  lia
theorem LV {Γ:Gm} {xs ys:List Nat} (h:xs.length+ys.length<=100000):AY Γ (.v (.lst (AN xs))) (.v (.lst (AN ys)))=some (.lst (AN (xs++ys))):=by
 simp only[AY,elems,DZ]
 rw[if_pos (by rw[Ao];lia)]
 unfold AN
 rw[List.map_append]
theorem Kd (n g:Nat):List.replicate n (D.int (g:Int))=AN (List.replicate n g):=by unfold AN;rw[List.map_replicate]
theorem EG (zs:List Nat) (i:Nat):Sm zs i<=zs.sum:=by
 rw[<-Dq]
 rcases Nat.le_total i zs.length with h | h
 ·exact CQ zs h
 ·unfold Sm
  rw[List.take_of_length_le h,List.take_length]
  exact Nat.le_refl _
def AH (rs:List (List Th)):List Nat:=rs.map List.length
theorem Iy {rs:List (List Th)} {i:Nat} {r:List Th} (h:rs[i]?=some r):(AH rs).getD i 0=r.length:=by
 unfold AH
 rw[List.getD_eq_getElem?_getD,List.getElem?_map,h]
 rfl
theorem P3 {os us:List Nat} {R:List D} {y0 y1 y3 y4:Option SV} {Γ:Gm} {lo:Nat} (h1:os.length=us.length) (h2:os.length<=5000) (h3:∀ x∈os,x<1000) (h4:∀ x∈us,x<1000) (hR:(mvN (BU (dif (os.zip us))) 1000 1000).map tupI=R) :
  Et ⟨[y0,y1,some (.v (.lst (AN os))),y3,y4,some (.v (.lst (AN us))),none,none,none],Γ,lo⟩=some (.rf R ⟨[y0,y1,some (.v (.lst (AN os))),y3,y4,some (.v (.lst (AN us))),none,none,none],Γ,lo⟩):=by
 subst hR
 unfold Et
 simp only[Ow,DZ]
 rw[if_pos ⟨trivial,trivial,h1,h2,h3,h4⟩]
theorem LJ {m c:ME} {S S1 S2:DS} {d:D} {n:Nat} (h:m S=some (.v d,S1)) (hc:c S1=some (.v (.int n),S2)) (hn:n<=2000):BI Cm (AK (AR (AB m AC))) c S=some (List.replicate n d,S2):=by
 refine FV (Gv h) hc ?_
 show (if (n:Int)<=100000/\-100000<=(n:Int)/\([d]:List D).length * ((n:Int)).toNat<=big then some (List.replicate ((n:Int)).toNat [d]).flatten else none)=_
 rw[if_pos ⟨by lia,by lia,by rw[Int.toNat_natCast,Ao];simp;lia⟩,Int.toNat_natCast]
 simp
def Da:MDF:=Ag 9 HA
theorem Pz {rs fs:List (List Th)} {R:List (List Int)} {Γ:Gm} (hl:fs.length=rs.length) (h6:rs.length<=900) (hz:∀ r∈rs,r.length<=2000) (hz':∀ r∈fs,r.length<=2000) (hs:(AH rs).sum<=5000) (he:(AH fs).sum=(AH rs).sum)
  (hR:mvN (BU (dif ((Ac (AH rs) rs.length).zip (Ac (AH fs) rs.length)))) 1000 1000=R):Da [.v (AG rs),.v (AG fs)] Γ=some (R.map tupI,Γ):=by
 have tk:Γ.take Γ.length=Γ:=List.take_length
 let A:Option SV:=some (.v (AG rs))
 let B:Option SV:=some (.v (AG fs))
 let zs:=AH rs
 let es:=AH fs
 let p:=rs.length
 let S0:DS:=⟨[A,B,none,none,none,none,none,none,none],Γ,Γ.length⟩
 let S:Nat->Option SV->Option SV->DS:=fun i v w=>⟨[A,B,some (.v (.lst (AN (Ac zs i)))),v,w,none,none,none,none],Γ,Γ.length⟩
 have g1:AX 2 (AK (AR AC)) S0=some (.nx (S 0 none none)):=BJ nil_of
 obtain ⟨s',e1,v',w',rfl⟩:=B0 (g:=A0 [3,4]) (b:=My) (items:=A8 0 (rs.map AE)) (fun i st=>∃ v w,st=S i v w) (by
   rintro i d st hd ⟨v,w,rfl⟩
   obtain ⟨x,hx,rfl⟩:=DC 0 _ i d hd
   obtain ⟨r,hr,rfl⟩:=Bw hx
   have e0:(0:Int)+(i:Int)=(i:Int):=by lia
   have hz2:=hz r (List.mem_of_getElem? hr)
   let T:DS:=S i (some (.v (.int (i:Int)))) (some (.v (AE r)))
   have wl:AQ Ap (AB (AA 4) AC) T=some (.v (.int (r.length:Nat)),T):=CY (s':=T) (x:=.v (AE r)) rfl (by show some (D.int ((r.map thD).length:Nat))=_;rw[List.length_map])
   have q1:=A1 (LJ (m:=AA 3) (S:=T) (S1:=T) (S2:=T) (d:=.int (i:Int)) (n:=r.length) rfl wl hz2)
   rw[Kd] at q1
   have hs':=EG zs i
   have q:=BJ (i:=2) (AO (g:=AY) (a:=AA 2) (s:=T) (s1:=T) (x:=.v (.lst (AN (Ac zs i)))) rfl q1 (LV (by rw[Bx,List.length_replicate];have:zs.sum=(AH rs).sum:=rfl;lia)))
   refine ⟨T,_,by rw[e0];rfl,q,some (.v (.int (i:Int))),some (.v (AE r)),?_⟩
   have hg:zs.getD i 0=r.length:=Iy hr
   simp only[S,FU,hg]
   rfl)
  (s:=S 0 none none) ⟨none,none,rfl⟩
 rw[C3,List.length_map] at e1
 have g2:=CA (mi:=BR (AB (AA 0) AC)) (s:=S 0 none none) (s':=S 0 none none) rfl e1
 let U:Nat->Option SV->Option SV->DS:=fun i v w=>⟨[A,B,some (.v (.lst (AN (Ac zs p)))),v,w,some (.v (.lst (AN (Ac es i)))),none,none,none],Γ,Γ.length⟩
 have g3:AX 5 (AK (AR AC)) (S p v' w')=some (.nx (U 0 v' w')):=BJ nil_of
 obtain ⟨s'',e2,v2,w2,rfl⟩:=B0 (g:=A0 [3,4]) (b:=Lr) (items:=A8 0 (fs.map AE)) (fun i st=>∃ v w,st=U i v w) (by
   rintro i d st hd ⟨v,w,rfl⟩
   obtain ⟨x,hx,rfl⟩:=DC 0 _ i d hd
   obtain ⟨r,hr,rfl⟩:=Bw hx
   have e0:(0:Int)+(i:Int)=(i:Int):=by lia
   have hz2:=hz' r (List.mem_of_getElem? hr)
   let T:DS:=U i (some (.v (.int (i:Int)))) (some (.v (AE r)))
   have wl:AQ Ap (AB (AA 4) AC) T=some (.v (.int (r.length:Nat)),T):=CY (s':=T) (x:=.v (AE r)) rfl (by show some (D.int ((r.map thD).length:Nat))=_;rw[List.length_map])
   have q1:=A1 (LJ (m:=AA 3) (S:=T) (S1:=T) (S2:=T) (d:=.int (i:Int)) (n:=r.length) rfl wl hz2)
   rw[Kd] at q1
   have hs':=EG es i
   have q:=BJ (i:=5) (AO (g:=AY) (a:=AA 5) (s:=T) (s1:=T) (x:=.v (.lst (AN (Ac es i)))) rfl q1 (LV (by rw[Bx,List.length_replicate];have:es.sum=(AH fs).sum:=rfl;lia)))
   refine ⟨T,_,by rw[e0];rfl,q,some (.v (.int (i:Int))),some (.v (AE r)),?_⟩
   have hg:es.getD i 0=r.length:=Iy hr
   simp only[U,FU,hg]
   rfl)
  (s:=U 0 v' w') ⟨v',w',rfl⟩
 rw[C3,List.length_map,hl] at e2
 have g4:=CA (mi:=BR (AB (AA 1) AC)) (s:=U 0 v' w') (s':=U 0 v' w') rfl e2
 have hle:(Ac zs p).length=(Ac es p).length:=by
  have h1:=Dq zs
  have h2:=Dq es
  rw[show zs.length=p from List.length_map _] at h1
  rw[show es.length=p from (List.length_map _).trans hl] at h2
  rw[Bx,Bx,h1,h2]
  exact he.symm
 have g5:=P3 (os:=Ac zs p) (us:=Ac es p) (R:=R.map tupI) (y0:=A) (y1:=B) (y3:=v2) (y4:=w2) (Γ:=Γ) (lo:=Γ.length) hle (by rw[Bx];have:=EG zs p;have:zs.sum=(AH rs).sum:=rfl;lia) (fun x hx=>by have:=Fd hx;lia) (fun x hx=>by have:=Fd hx;lia) (congrArg (List.map tupI) hR)
 unfold Da Ag HA
 show ((AL _ _ S0).bind _)=_
 rw[(Ae (g1)).trans ((Ae (g2)).trans ((Ae (g3)).trans ((Ae (g4)).trans (g5))))]
 show some (_,Γ.take Γ.length)=_
 rw[tk]
def Ltr (z:Str):Prop:=z.length<=1000/\∀ c∈z.cps.toList,97<=c/\c<=122
theorem Iv {Γ:Gm} {z:Str} {i:Int} (hz:Ltr z) (h0:0<=i) (h1:i<(z.cps.toList.length:Int)):∃ c:Nat,gIx Γ (.v (.str z)) (.v (.int i))=some (.str ⟨#[c]⟩)/\97<=c/\c<=122:=by
 obtain ⟨c,e,hc⟩:=MC h0 h1
 refine ⟨c,?_,hz.2 c hc⟩
 show (if z.length<=big then (atI z.cps.toList i).map fun c=>D.str ⟨#[c]⟩ else none)=_
 rw[if_pos (by rw[Ao];have:=hz.1;lia),e]
 rfl
theorem Rn {a b c:Nat} (ha:97<=a/\a<=122) (hb:97<=b/\b<=122) (hc:97<=c/\c<=122):Tg (((⟨#[a]⟩:Str)++⟨#[b]⟩)++⟨#[c]⟩):=by
 refine ⟨?_,?_,fun x hx=>?_⟩
 ·show 1<=3;decide
 ·show 3<=8;decide
 ·have hx:x∈[a,b,c]:=hx
  simp only[List.mem_cons,List.not_mem_nil,or_false] at hx
  rcases hx with rfl | rfl | rfl
  ·exact ha
  ·exact hb
  ·exact hc
theorem KA {Γ:Gm} {a b:Str} (h:a.length+b.length<=1000):AY Γ (.v (.str a)) (.v (.str b))=some (.str (a++b)):=by
 show (if a.length+b.length<=big then some (D.str (a++b)) else none)=_
 rw[if_pos (by rw[Ao];lia)]
theorem Qs:Ltr "abcdefgh":=⟨by decide +kernel,by decide +kernel⟩
theorem Nv:Ltr "xyz":=⟨by decide +kernel,by decide +kernel⟩
theorem NV:Ltr "pqrst":=⟨by decide +kernel,by decide +kernel⟩
theorem Ql {S:DS} {h t:Nat} (hh:S.σ[4]?=some (some (.v (.int (h:Int))))) (ht:S.σ[8]?=some (some (.v (.int (t:Int))))) (h8:h<8) :
  ∃ z:Str,Tg z/\mOp AY (mOp AY (mOp gIx (mC (.str "abcdefgh")) (AA 4)) (mOp gIx (mC (.str "xyz")) (mOp BH (AA 8) (mC (.int 3))))) (mOp gIx (mC (.str "pqrst")) (mOp BH (mOp BM (AA 8) (mC (.int 3))) (mC (.int 5)))) S=some (.v (.str z),S):=by
 have v4:AA 4 S=some (.v (.int (h:Int)),S):=by unfold AA;rw[hh]
 have v8:AA 8 S=some (.v (.int (t:Int)),S):=by unfold AA;rw[ht]
 have md:∀ {Γ:Gm} (i:Int) (m:Int),0<m->BH Γ (.v (.int i)) (.v (.int m))=some (.int (i % m)):=fun i m hm=>by simp[show Cr i m=true from decide_eq_true hm]
 have dv:∀ {Γ:Gm} (i:Int),BM Γ (.v (.int i)) (.v (.int 3))=some (.int (i / 3)):=fun i=>by simp[show C7 i 3=true from rfl]
 obtain ⟨a,ea,ha⟩:=Iv (Γ:=S.Γ) (z:="abcdefgh") (i:=(h:Int)) Qs (by lia) (by rw[show ("abcdefgh":Str).cps.toList.length=8 by decide +kernel];lia)
 obtain ⟨b,eb,hb⟩:=Iv (Γ:=S.Γ) (z:="xyz") (i:=(t:Int) % 3) Nv (by lia) (by rw[show ("xyz":Str).cps.toList.length=3 by decide +kernel];lia)
 obtain ⟨c,ec,hc⟩:=Iv (Γ:=S.Γ) (z:="pqrst") (i:=(t:Int) / 3 % 5) NV (by lia) (by rw[show ("pqrst":Str).cps.toList.length=5 by decide +kernel];lia)
 refine ⟨_,Rn ha hb hc,?_⟩
 have w1:mOp gIx (mC (.str "abcdefgh")) (AA 4) S=some (.v (.str ⟨#[a]⟩),S):=AO (x:=.v (.str "abcdefgh")) (s1:=S) rfl v4 ea
 have w2:mOp gIx (mC (.str "xyz")) (mOp BH (AA 8) (mC (.int 3))) S=some (.v (.str ⟨#[b]⟩),S):=AO (x:=.v (.str "xyz")) (s1:=S) rfl (AO v8 (y:=.v (.int 3)) (s2:=S) rfl (md _ _ (by decide))) eb
 have w3:mOp gIx (mC (.str "pqrst")) (mOp BH (mOp BM (AA 8) (mC (.int 3))) (mC (.int 5))) S=some (.v (.str ⟨#[c]⟩),S):=AO (x:=.v (.str "pqrst")) (s1:=S) rfl (AO (AO v8 (y:=.v (.int 3)) (s2:=S) rfl (dv _)) (y:=.v (.int 5)) (s2:=S) rfl (md _ _ (by decide))) ec
 exact AO (AO w1 w2 (KA (by show 1+1<=1000;decide))) w3 (KA (by show 2+1<=1000;decide))
theorem Ft {M:MDF} {m n:ME} {s s1 s2:DS} {x y:SV} {z:List D} {Γ':Gm} (h:m s=some (x,s1)) (h2:n s1=some (y,s2)) (hg:M [x,y] s2.Γ=some (z,Γ')):Ay M (AB m (AB n AC)) s=some (z,{s2 with Γ:=Γ'}):=by
 unfold Ay AB AC;rw[h];show ((((n s1).bind _).map _).bind _)=_;rw[h2];show ((M [x,y] s2.Γ).map _)=_;rw[hg];rfl
theorem NH {c:ME} {s s':DS} {j:Int} (h:c s=some (.v (.int j),s')) (hr:okR j=true):C8 (AB c AC) s=some (upTo 0 j.toNat,s'):=by simp[h,hr]
theorem Io {c:ME} {s s':DS} {p:Nat} (h:c s=some (.v (.int p),s')) (hb:p<=1000000):C8 (AB c AC) s=some (upTo 0 p,s'):=NH h (TF (by lia) (by lia))
theorem DB {m:ME} {ms:MA} {S S1 S2:DS} {x:SV} {xs:List SV} (h:m S=some (x,S1)) (h2:ms S1=some (xs,S2)):AB m ms S=some (x::xs,S2):=by
 unfold AB;rw[h];show ((ms S1).map _)=_;rw[h2];rfl
theorem LP:∀ ds:List D,trees (ds.map .v)=some ds
 | []=>rfl
 | d::ds=>by
  show (trees (ds.map .v)).map _=_
  rw[LP ds]
  rfl
theorem ED {ms:MA} {S S':DS} {ds:List D} (h:ms S=some (ds.map .v,S')) (hl:ds.length<=1000):AR ms S=some (ds,S'):=by
 unfold AR
 rw[h]
 show ((trees (ds.map .v)).bind _)=_
 rw[LP]
 show (if _ then _ else _)=_
 rw[if_pos (by rw[Ao];lia)]
theorem D4 {i:Nat} {m:MF} {s s':DS} {xs:List D} (h:m s=some (xs,s')):BF i m s=some (.nx ⟨s'.σ.set i (some (.b s'.Γ.length)),s'.Γ++[some xs],s'.lo⟩):=by unfold BF;rw[h];rfl
theorem Qv {a b:ME} {S:DS} {x y:D} (h1:a S=some (.v x,S)) (h2:b S=some (.v y,S)):BA (AB a (AB b AC)) S=some (.v (.tup [x,y]),S):=GW h1 h2
def Kp (n r:Nat) (G G':Gm):Prop:=G.length<=G'.length/\∀ j,j<G.length->j≠n->j≠r->G'[j]?=G[j]?
theorem Kp.refl {n r:Nat} {G:Gm}:Kp n r G G:=⟨Nat.le_refl _,fun _ _ _ _=>rfl⟩
theorem Kp.trans {n r:Nat} {G G1 G2:Gm} (a:Kp n r G G1) (b:Kp n r G1 G2):Kp n r G G2:=⟨Nat.le_trans a.1 b.1,fun j h1 h2 h3=>(b.2 j (Nat.lt_of_lt_of_le h1 a.1) h2 h3).trans (a.2 j h1 h2 h3)⟩
theorem Kp.pd {n r:Nat} {G G':Gm} (p:Pd n G G'):Kp n r G G':=⟨by rw[p.len];exact Nat.le_refl _,fun j _ h _=>p.out h⟩
theorem Pl.app {G:Gm} {n:Nat} {x:Option (List D)} (p:Pl G n):Pl (G++[x]) n:=by
 have hn:=p.lt
 obtain ⟨c,f,q,e⟩:=p
 exact ⟨c,f,q,by rw[List.getElem?_append_left hn];exact e⟩
theorem Pl.set {G:Gm} {n m:Nat} {x:Option (List D)} (p:Pl G n) (h:n≠m):Pl (G.set m x) n:=by
 obtain ⟨c,f,q,e⟩:=p
 exact ⟨c,f,q,by rw[List.getElem?_set_ne (Ne.symm h)];exact e⟩
section
variable {Mp:MDF} {Md:MD} (FD:∀ {Γ:Gm} {n:Nat} {m:Int},Pl Γ n->0<m->m<1000000->∃ r Γ',Md [.b n,.v (.int m)] Γ=some (.int r,Γ')/\0<=r/\r<m/\Pd n Γ Γ')
include FD
theorem EJ {σ:List (Option SV)} {G:Gm} {lo n:Nat} {c:ME} {m:Int} (h5:σ[5]?=some (some (.b n))) (hc:c ⟨σ,G,lo⟩=some (.v (.int m),⟨σ,G,lo⟩)) (pl:Pl G n) (h0:0<m) (h1:m<1000000) :
  ∃ (r:Int) (G':Gm),Av Md (AB (AA 5) (AB c AC)) ⟨σ,G,lo⟩=some (.v (.int r),⟨σ,G',lo⟩)/\0<=r/\r<m/\Pd n G G':=by
 obtain ⟨r,G',e,a,b,p⟩:=FD pl h0 h1
 exact ⟨r,G',EC (x:=.b n) (s1:=⟨σ,G,lo⟩) (by unfold AA;rw[h5]) hc e,a,b,p⟩
theorem UG {c0 c1 c2 c3:Option SV} {h t n r lo:Nat} {k:Int} {row:List Th} {v9 v10:Option SV} {G:Gm} (h8:h<8) (k0:0<=k) (k6:k<6) (pl:Pl G n) (hr:G[r]?=some (some (row.map thD))) (hnr:n≠r) (hl:row.length<=1000) :
  ∃ (x:Th) (w9 w10:Option SV) (G':Gm),Ie Mp Md ⟨[c0,c1,c2,c3,some (.v (.int (h:Int))),some (.b n),some (.v (.int k)),some (.b r),some (.v (.int (t:Int))),v9,v10],G,lo⟩=some (.nx ⟨[c0,c1,c2,c3,some (.v (.int (h:Int))),some (.b n),some (.v (.int k)),some (.b r),some (.v (.int (t:Int))),w9,w10],G',lo⟩) /\
   Tg x.2/\Pl G' n/\G'[r]?=some (some ((row++[x]).map thD))/\Kp n r G G':=by
 have hrl:r<G.length:=(List.getElem?_eq_some_iff.mp hr).1
 let σ:Option SV->Option SV->List (Option SV):=fun a b=>[c0,c1,c2,c3,some (.v (.int (h:Int))),some (.b n),some (.v (.int k)),some (.b r),some (.v (.int (t:Int))),a,b]
 have dv:∀ {Γ:Gm} (i m:Int),0<m->m<100->BM Γ (.v (.int i)) (.v (.int m))=some (.int (i / m)):=fun i m h0 h1=>by simp[show C7 i m=true from decide_eq_true ⟨h0,by lia⟩]
 obtain ⟨a,G1,e1,_,_,p1⟩:=EJ FD (σ:=σ v9 v10) (lo:=lo) (c:=mC (.int 3)) (m:=3) rfl rfl pl (by decide) (by decide)
 have pl1:=p1.pl pl
 obtain ⟨b,G2,e2,_,_,p2⟩:=EJ FD (σ:=σ v9 v10) (lo:=lo) (c:=mC (.int 50)) (m:=50) rfl rfl pl1 (by decide) (by decide)
 have pl2:=p2.pl pl1
 let T2:DS:=⟨σ v9 v10,G2,lo⟩
 let ks:List Int:=[a,b - 25,(t:Int) / 3,0 - (t:Int) / 2,7]
 have m1:=D4 (i:=9) (ED (ds:=ks.map .int) (DB e1 (DB (AO (g:=Bf) e2 (b:=mC (.int 25)) (y:=.v (.int 25)) (s2:=T2) (z:=.int (b - 25)) rfl rfl) (DB (AO (g:=BM) (a:=AA 8) (b:=mC (.int 3)) (s:=T2) (x:=.v (.int (t:Int))) (y:=.v (.int 3)) (s1:=T2) (s2:=T2) rfl rfl (dv _ _ (by decide) (by decide))) (DB (AO (g:=Bf) (a:=mC (.int 0)) (x:=.v (.int 0)) (s1:=T2) rfl (AO (g:=BM) (a:=AA 8) (b:=mC (.int 2)) (x:=.v (.int (t:Int))) (y:=.v (.int 2)) (s1:=T2) (s2:=T2) rfl rfl (dv _ _ (by decide) (by decide))) (z:=.int (0 - (t:Int) / 2)) rfl) (DB (m:=mC (.int 7)) (ms:=AC) (S:=T2) (S1:=T2) (S2:=T2) (x:=.v (.int 7)) (xs:=[]) rfl rfl))))) (Nat.le_of_ble_eq_true rfl))
 let g:=G2.length
 let G3:Gm:=G2++[some (ks.map .int)]
 have pl3:Pl G3 n:=pl2.app
 have hng:n≠g:=by have:=pl2.lt;show n≠G2.length;lia
 have hgl:r<G2.length:=by rw[p2.len,p1.len];exact hrl
 have hrg:r≠g:=by show r≠G2.length;lia
 obtain ⟨c,G4,e4,_,_,p4⟩:=EJ FD (σ:=σ (some (.b g)) v10) (lo:=lo) (c:=mC (.int 9)) (m:=9) rfl rfl pl3 (by decide) (by decide)
 have pl4:=p4.pl pl3
 let T3:DS:=⟨σ (some (.b g)) v10,G3,lo⟩
 let T4:DS:=⟨σ (some (.b g)) v10,G4,lo⟩
 have w4:mOp Bf (mOp Dp (mC (.int 10)) (mC (.int 20))) (Av Md (AB (AA 5) (AB (mC (.int 9)) AC))) T3=some (.v (.int (10 ^ 20 - c)),T4):=AO (g:=Bf) (x:=.v (.int (10 ^ 20))) (s1:=T3) (AO (g:=Dp) (x:=.v (.int 10)) (y:=.v (.int 20)) (s1:=T3) (s2:=T3) rfl rfl (by simp[show GK 10 20=true from rfl])) e4 rfl
 have hg4:G4[g]?=some (some (ks.map .int)):=by rw[p4.out (Ne.symm hng)];exact Bh
 have m2:=Eb (i:=9) (n:=g) (s:=T3) (s':=T4) rfl Bh w4 hg4 (by rw[List.length_map,Ao];show 5<1000000;decide)
 let G5:Gm:=G4.set g (some (ks.map .int++[.int (10 ^ 20 - c)]))
 have hg5:G5[g]?=some (some ((ks++[10 ^ 20 - c]).map .int)):=by
  show (G4.set g _)[g]?=_
  rw[List.getElem?_set_self (List.getElem?_eq_some_iff.mp hg4).1,List.map_append]
  rfl
 obtain ⟨key,hk⟩:∃ key:Int,atI ((ks++[10 ^ 20 - c]).map D.int) k=some (.int key):=by
  obtain ⟨d,hd,hm⟩:=MC (xs:=(ks++[10 ^ 20 - c]).map D.int) k0 (by rw[List.length_map];exact k6)
  obtain ⟨i,_,rfl⟩:=List.mem_map.mp hm
  exact ⟨i,hd⟩
 let T5:DS:=⟨σ (some (.b g)) v10,G5,lo⟩
 let T6:DS:=⟨σ (some (.b g)) (some (.v (.int key))),G5,lo⟩
 have m3:AX 10 (mOp gIx (AA 9) (AA 6)) T5=some (.nx T6):=BJ (AO (x:=.b g) (y:=.v (.int k)) (s1:=T5) (s2:=T5) rfl rfl (by
  have he:elems G5 (.b g)=some ((ks++[10 ^ 20 - c]).map .int):=by simp[hg5]
  show ((elems G5 (.b g)).bind fun xs=>atI xs k)=_
  rw[he]
  exact hk))
 obtain ⟨z,hz,wz⟩:=Ql (S:=T6) (h:=h) (t:=t) rfl rfl h8
 have hr5:G5[r]?=some (some (row.map thD)):=by
  show (G4.set g _)[r]?=_
  rw[List.getElem?_set_ne (Ne.symm hrg),p4.out (Ne.symm hnr)]
  show (G2++_)[r]?=_
  rw[List.getElem?_append_left hgl,p2.out (Ne.symm hnr),p1.out (Ne.symm hnr)]
  exact hr
 have m4:=Eb (i:=7) (n:=r) (s:=T6) (s':=T6) rfl hr5 (Qv (a:=AA 10) (x:=.int key) rfl wz) hr5 (by rw[List.length_map,Ao];lia)
 refine ⟨(key,z),some (.b g),some (.v (.int key)),_,(Ae (m1)).trans ((Ae (m2)).trans ((Ae (m3)).trans (m4))),hz,?_,?_,?_⟩
 ·exact ((pl4.set hng).set hnr)
 ·show (G5.set r _)[r]?=_
  rw[List.getElem?_set_self (List.getElem?_eq_some_iff.mp hr5).1,List.map_append]
  rfl
 ·have k1:Kp n r G G2:=(Kp.pd p1).trans (Kp.pd p2)
  have hG:G2.length=G.length:=by rw[p2.len,p1.len]
  refine ⟨?_,fun j hj h1 h2=>?_⟩
  ·show _<=(G5.set r _).length
   rw[List.length_set]
   show _<=(G4.set g _).length
   rw[List.length_set,p4.len]
   show _<=(G2++_).length
   rw[List.length_append]
   lia
  ·show (G5.set r _)[j]?=_
   rw[List.getElem?_set_ne (Ne.symm h2)]
   show (G4.set g _)[j]?=_
   rw[List.getElem?_set_ne (by show G2.length≠j;lia),p4.out h1]
   show (G2++_)[j]?=_
   rw[List.getElem?_append_left (by lia)]
   exact k1.2 j hj h1 h2
theorem SU (FP:∀ {Γ:Gm} {ns:List Int} {k:Nat},∃ c f q:Int,Mp [.v (.scr ns),.v (.int k)] Γ=some ([.int c,.int f,.int q],Γ)) {ns:List Int} {c1:Option SV} {h b lo:Nat} {m:Int} {F:List (List Th)} {v5 v6 v7 v8 v9 v10:Option SV} {G:Gm} (h8:h<8) (m0:0<=m) (m1:m<=200) (hb:G[b]?=some (some (F.map AE))) (hF:F.length<=1000) (hlo:lo<=G.length) :
  ∃ (row:List Th) (w5 w6 w7 w8 w9 w10:Option SV) (G':Gm),Gs Mp Md ⟨[some (.v (.scr ns)),c1,some (.v (.int m)),some (.b b),some (.v (.int (h:Int))),v5,v6,v7,v8,v9,v10],G,lo⟩=some (.nx ⟨[some (.v (.scr ns)),c1,some (.v (.int m)),some (.b b),some (.v (.int (h:Int))),w5,w6,w7,w8,w9,w10],G',lo⟩) /\
   row.length<=200/\(∀ t∈row,Tg t.2)/\G'[b]?=some (some ((F++[row]).map AE))/\G.length<=G'.length/\∀ j,j<G.length->j≠b->G'[j]?=G[j]?:=by
 have hbl:b<G.length:=(List.getElem?_eq_some_iff.mp hb).1
 let H:Option SV:=some (.v (.int (h:Int)))
 let K:Option SV:=some (.v (.scr ns))
 let M:Option SV:=some (.v (.int m))
 let B:Option SV:=some (.b b)
 let S0:DS:=⟨[K,c1,M,B,H,v5,v6,v7,v8,v9,v10],G,lo⟩
 obtain ⟨c,f,q,ep⟩:=FP (Γ:=G) (ns:=ns) (k:=1+h)
 have wa:mOp AY (mC (.int 1)) (AA 4) S0=some (.v (.int ((1+h:Nat):Int)),S0):=by
  refine (AO (g:=AY) (x:=.v (.int 1)) (y:=.v (.int (h:Int))) (s1:=S0) (s2:=S0) rfl rfl rfl).trans ?_
  show some (SV.v (D.int (1+(h:Int))),S0)=_
  rw[show (1+(h:Int))=((1+h:Nat):Int) by lia]
 have g1:=D4 (i:=5) (Ft (M:=Mp) (m:=AA 0) (s:=S0) (s1:=S0) (x:=.v (.scr ns)) rfl wa ep)
 let n:=G.length
 let N:Option SV:=some (.b n)
 let G1:Gm:=G++[some [.int c,.int f,.int q]]
 have pl1:Pl G1 n:=⟨c,f,q,Bh⟩
 obtain ⟨k,G2,e2,k0,k6,p2⟩:=EJ FD (σ:=[K,c1,M,B,H,N,v6,v7,v8,v9,v10]) (G:=G1) (lo:=lo) (c:=mC (.int 6)) (m:=6) rfl rfl pl1 (by decide) (by decide)
 have pl2:=p2.pl pl1
 have g2:=BJ (i:=6) e2
 let KD:Option SV:=some (.v (.int k))
 let S2:DS:=⟨[K,c1,M,B,H,N,KD,v7,v8,v9,v10],G2,lo⟩
 have g3:BF 7 (AR AC) S2=some (.nx ⟨[K,c1,M,B,H,N,KD,some (.b G2.length),v8,v9,v10],G2++[some []],lo⟩):=D4 (ED (ds:=[]) (S':=S2) rfl (Nat.zero_le _))
 let r:=G2.length
 have hr2:G2.length=G.length+1:=by rw[p2.len];simp[G1]
 have hnr:n≠r:=by show G.length≠G2.length;lia
 let R:Option SV:=some (.b r)
 let G3:Gm:=G2++[some []]
 have pl3:Pl G3 n:=pl2.app
 have wm:mOp AY (AA 2) (mC (.int 1)) (⟨[K,c1,M,B,H,N,KD,R,v8,v9,v10],G3,lo⟩:DS)=some (.v (.int (m+1)),⟨[K,c1,M,B,H,N,KD,R,v8,v9,v10],G3,lo⟩):=AO (g:=AY) (x:=.v (.int m)) (y:=.v (.int 1)) (s1:=⟨[K,c1,M,B,H,N,KD,R,v8,v9,v10],G3,lo⟩) (s2:=⟨[K,c1,M,B,H,N,KD,R,v8,v9,v10],G3,lo⟩) rfl rfl rfl
 obtain ⟨j,G4,e4,j0,j1,p4⟩:=EJ FD (σ:=[K,c1,M,B,H,N,KD,R,v8,v9,v10]) (G:=G3) (lo:=lo) (m:=m+1) rfl wm pl3 (by lia) (by lia)
 have pl4:=p4.pl pl3
 obtain ⟨u,rfl⟩:∃ u:Nat,j=(u:Int):=⟨j.toNat,by lia⟩
 have hr4:G4[r]?=some (some []):=by rw[p4.out (Ne.symm hnr)];exact Bh
 let S:Option SV->Option SV->Option SV->Gm->DS:=fun a b c G=>⟨[K,c1,M,B,H,N,KD,R,a,b,c],G,lo⟩
 obtain ⟨s',e5,row,a8,a9,a10,G5,rfl,hl5,ht5,pl5,hr5,kp5⟩:=B0 (g:=Aj 8) (b:=Ie Mp Md) (items:=upTo 0 u) (fun i st=>∃ (row:List Th) (a b c:Option SV) (G':Gm),st=S a b c G'/\row.length=i/\(∀ t∈row,Tg t.2)/\Pl G' n/\G'[r]?=some (some (row.map thD))/\Kp n r G4 G') (by
   rintro i d st hd ⟨row,a,b',c',G',rfl,hl,ht,pl',hr',kp⟩
   obtain ⟨hi,rfl⟩:=HF hd
   obtain ⟨x,w9,w10,G'',e,hx,pl'',hr'',kp'⟩:=UG (Mp:=Mp) FD (c0:=K) (c1:=c1) (c2:=M) (c3:=B) (h:=h) (t:=i) (n:=n) (r:=r) (lo:=lo) (k:=k) (row:=row) (v9:=b') (v10:=c') (G:=G') h8 k0 k6 pl' hr' hnr (by lia)
   refine ⟨S (some (.v (.int (i:Int)))) b' c' G',_,by rw[show (0:Int)+(i:Int)=(i:Int) by lia];rfl,e,row++[x],_,w9,w10,G'',rfl,by rw[List.length_append,hl];rfl,fun t' ht'=>?_,pl'',hr'',kp.trans kp'⟩
   rcases List.mem_append.mp ht' with h | h
   ·exact ht t' h
   ·rw[List.mem_singleton.mp h];exact hx)
  (s:=S v8 v9 v10 G4) ⟨[],v8,v9,v10,G4,rfl,rfl,(fun t h=>nomatch h),pl4,hr4,.refl⟩
 rw[EA] at hl5
 have q5:C8 (AB (Av Md (AB (AA 5) (AB (mOp AY (AA 2) (mC (.int 1))) AC))) AC) (S v8 v9 v10 G3)=some (upTo 0 u,S v8 v9 v10 G4):=Io e4 (by lia)
 have g5:=CA q5 e5
 have hG3:G3.length=G.length+2:=by show (G2++[some []]).length=_;rw[List.length_append,hr2];rfl
 have hG4:G4.length=G.length+2:=by rw[p4.len];exact hG3
 have old:∀ j,j<G.length->G5[j]?=G[j]?:=fun j hj=>by
  rw[kp5.2 j (by lia) (by show j≠G.length;lia) (by show j≠G2.length;lia),p4.out (by show j≠G.length;lia)]
  show (G2++_)[j]?=_
  rw[List.getElem?_append_left (by lia),p2.out (by show j≠G.length;lia)]
  show (G++_)[j]?=_
  rw[List.getElem?_append_left hj]
 have hb5:G5[b]?=some (some (F.map AE)):=(old b hbl).trans hb
 let G6:Gm:=G5.set r none
 let T5:DS:=S a8 a9 a10 G5
 let T6:DS:=⟨[K,c1,M,B,H,N,KD,none,a8,a9,a10],G6,lo⟩
 have hrb:b≠r:=by show b≠G2.length;lia
 have hb6:G6[b]?=some (some (F.map AE)):=by show (G5.set r none)[b]?=_;rw[List.getElem?_set_ne (Ne.symm hrb)];exact hb5
 have wf:AK (BY 7) T5=some (.v (AE row),T6):=A1 (by
  have:BY 7 T5=some (row.map thD,T6):=by
   unfold BY
   show (match G5[r]? with | some (some xs)=>if lo<=r then some (xs,(⟨T5.σ.set 7 none,G5.set r none,lo⟩:DS)) else none | _=>none)=_
   rw[hr5]
   show (if lo<=r then _ else _)=_
   rw[if_pos (by show lo<=G2.length;lia)]
   rfl
  exact this)
 have g6:=Eb (i:=3) (n:=b) (s:=T5) (s':=T6) rfl hb5 wf hb6 (by rw[List.length_map,Ao];lia)
 refine ⟨row,N,KD,none,a8,a9,a10,_,(Ae (g1)).trans ((Ae (g2)).trans ((Ae (g3)).trans ((Ae (g5)).trans (g6)))),by lia,ht5,?_,?_,fun j hj hjb=>?_⟩
 ·show (G6.set b _)[b]?=_
  rw[List.getElem?_set_self (List.getElem?_eq_some_iff.mp hb6).1,List.map_append]
  rfl
 ·show _<=(G6.set b _).length
  rw[List.length_set]
  show _<=(G5.set r none).length
  rw[List.length_set]
  have:=kp5.1
  lia
 ·show (G6.set b _)[j]?=_
  rw[List.getElem?_set_ne (Ne.symm hjb)]
  show (G5.set r none)[j]?=_
  rw[List.getElem?_set_ne (by show G2.length≠j;lia)]
  exact old j hj
end
def FS:MDF:=Ag 11 (FY Dk DP)
theorem Rw {Mp:MDF} {Md:MD} (FP:∀ {Γ:Gm} {ns:List Int} {k:Nat},∃ c f q:Int,Mp [.v (.scr ns),.v (.int k)] Γ=some ([.int c,.int f,.int q],Γ)) (FD:∀ {Γ:Gm} {n:Nat} {m:Int},Pl Γ n->0<m->m<1000000->∃ r Γ',Md [.b n,.v (.int m)] Γ=some (.int r,Γ')/\0<=r/\r<m/\Pd n Γ Γ')
  {ns:List Int} {p:Nat} {m:Int} {Γ:Gm} (hp:p<=6) (m0:0<=m) (m1:m<=200):∃ rs:List (List Th),Ag 11 (FY Mp Md) [.v (.scr ns),.v (.int p),.v (.int m)] Γ=some (rs.map AE,Γ)/\rs.length=p/\∀ r∈rs,r.length<=200/\∀ t∈r,Tg t.2:=by
 let K:Option SV:=some (.v (.scr ns))
 let P:Option SV:=some (.v (.int p))
 let M:Option SV:=some (.v (.int m))
 let S0:DS:=⟨[K,P,M,none,none,none,none,none,none,none,none],Γ,Γ.length⟩
 let B:Option SV:=some (.b Γ.length)
 let S1:DS:=⟨[K,P,M,B,none,none,none,none,none,none,none],Γ++[some []],Γ.length⟩
 have g1:BF 3 (AR AC) S0=some (.nx S1):=D4 (ED (ds:=[]) (S':=S0) rfl (Nat.zero_le _))
 obtain ⟨s',e1,rs,u4,u5,u6,u7,u8,u9,u10,G,rfl,hl,hr,hb,hlen,hold⟩:=B0 (g:=Aj 4) (b:=Gs Mp Md) (items:=upTo 0 p) (fun i st=>∃ (rs:List (List Th)) (v4 v5 v6 v7 v8 v9 v10:Option SV) (G:Gm),st=⟨[K,P,M,B,v4,v5,v6,v7,v8,v9,v10],G,Γ.length⟩/\rs.length=i/\(∀ r∈rs,r.length<=200/\∀ t∈r,Tg t.2)/\G[Γ.length]?=some (some (rs.map AE))/\Γ.length<G.length/\∀ j,j<Γ.length->G[j]?=Γ[j]?) (by
   rintro i d st hd ⟨rs,v4,v5,v6,v7,v8,v9,v10,G,rfl,hl,hr,hb,hlen,hold⟩
   obtain ⟨hi,rfl⟩:=HF hd
   obtain ⟨row,w5,w6,w7,w8,w9,w10,G',e,h1,h2,h3,h4,h5⟩:=SU FD FP (ns:=ns) (c1:=P) (h:=i) (b:=Γ.length) (lo:=Γ.length) (m:=m) (F:=rs) (v5:=v5) (v6:=v6) (v7:=v7) (v8:=v8) (v9:=v9) (v10:=v10) (G:=G) (by lia) m0 m1 hb (by lia) (by lia)
   refine ⟨⟨[K,P,M,B,some (.v (.int (i:Int))),v5,v6,v7,v8,v9,v10],G,Γ.length⟩,_,by rw[show (0:Int)+(i:Int)=(i:Int) by lia];rfl,e,rs++[row],_,w5,w6,w7,w8,w9,w10,G',rfl,by rw[List.length_append,hl];rfl,fun r hr'=>?_,h3,by lia,fun j hj=>(h5 j (by lia) (by lia)).trans (hold j hj)⟩
   rcases List.mem_append.mp hr' with h | h
   ·exact hr r h
   ·rw[List.mem_singleton.mp h];exact ⟨h1,h2⟩)
  (s:=S1) ⟨[],none,none,none,none,none,none,none,Γ++[some []],rfl,rfl,(fun r h=>nomatch h),Bh,by rw[List.length_append];simp,fun j hj=>List.getElem?_append_left hj⟩
 rw[EA] at hl
 have g2:=CA (Io (c:=AA 1) (s:=S1) (s':=S1) (p:=p) rfl (by lia)) e1
 refine ⟨rs,?_,hl,hr⟩
 have hf:A3 (BY 3) ⟨[K,P,M,B,u4,u5,u6,u7,u8,u9,u10],G,Γ.length⟩=some (.rf (rs.map AE) ⟨[K,P,M,none,u4,u5,u6,u7,u8,u9,u10],G.set Γ.length none,Γ.length⟩):=by
  have:BY 3 ⟨[K,P,M,B,u4,u5,u6,u7,u8,u9,u10],G,Γ.length⟩=some (rs.map AE,⟨[K,P,M,none,u4,u5,u6,u7,u8,u9,u10],G.set Γ.length none,Γ.length⟩):=by
   unfold BY
   show (match G[Γ.length]? with | some (some xs)=>if Γ.length<=Γ.length then some (xs,(⟨[K,P,M,none,u4,u5,u6,u7,u8,u9,u10],G.set Γ.length none,Γ.length⟩:DS)) else none | _=>none)=_
   rw[hb]
   show (if Γ.length<=Γ.length then _ else _)=_
   rw[if_pos (Nat.le_refl _)]
  unfold A3
  rw[this]
  rfl
 unfold Ag FY
 show ((AL _ _ S0).bind _)=_
 rw[(Ae (g1)).trans ((Ae (g2)).trans (hf))]
 show some (_,(G.set Γ.length none).take Γ.length)=_
 have:(G.set Γ.length none).take Γ.length=Γ:=by
  refine List.ext_getElem? fun j=>?_
  by_cases c:j<Γ.length
  ·rw[List.getElem?_take_of_lt c,List.getElem?_set_ne (by lia)]
   exact hold j c
  ·rw[List.getElem?_eq_none (by rw[List.length_take];lia),List.getElem?_eq_none (by lia)]
 rw[this]
theorem Pq {ns:List Int} {p:Nat} {m:Int} {Γ:Gm} (hp:p<=6) (m0:0<=m) (m1:m<=200):∃ rs:List (List Th),FS [.v (.scr ns),.v (.int p),.v (.int m)] Γ=some (rs.map AE,Γ)/\rs.length=p/\∀ r∈rs,r.length<=200/\∀ t∈r,Tg t.2:=Rw Ja LK hp m0 m1
theorem Ji {i n:Nat} {me:ME} {s s':DS} {zs xs ys:List D} (h1:s.σ[i]?=some (some (.b n))) (h2:s.Γ[n]?=some (some ys)) (h3:me s=some (.v (.lst zs),s')) (h4:s'.Γ[n]?=some (some xs)) (hl:xs.length+zs.length<=big):Bj (Ed (AA i) me) s=some (.nx {s' with Γ:=s'.Γ.set n (some (xs++zs))}):=by
 unfold Bj Ed AA
 rw[h1]
 simp only[Option.bind_some]
 rw[h2]
 simp only[]
 rw[h3]
 simp only[Option.bind_some]
 rw[h4]
 simp only[]
 rw[if_pos hl]
 rfl
theorem JG {α:Type} (xs:List α) {a b:Nat} (h:a<=b) (hb:b<=xs.length):Bm xs (some (a:Int)) (some (b:Int))=(xs.drop a).take (b - a):=by
 unfold Bm
 rw[HT.GZ,HT.GZ,Nat.min_eq_left hb,Nat.min_eq_left (Nat.le_trans h hb)]
theorem Lg {Γ:Gm} {k:Nat} {ts:List Th} (hk:Γ[k]?=some (some (ts.map thD))):∀ (L:List (Nat×Nat)) (u v:Option SV),(∀ x∈L,x.1<=x.2/\x.2<=ts.length) ->
  An (A0 [0,1]) mTT (mSl (AA 2) (some (AA 0)) (some (AA 1))) (L.map fun x=>tupI [(x.1:Int),(x.2:Int)]) [u,v,some (.b k)] Γ=some (L.map fun x=>AE ((ts.drop x.1).take (x.2 - x.1)),Γ)
 | [],_,_,_=>rfl
 | x::L,u,v,h=>by
  have i:=Lg hk L (some (.v (.int (x.1:Int)))) (some (.v (.int (x.2:Int)))) fun y hy=>h y (List.mem_cons_of_mem _ hy)
  obtain ⟨h1,h2⟩:=h x List.mem_cons_self
  let T:DS:=⟨[some (.v (.int (x.1:Int))),some (.v (.int (x.2:Int))),some (.b k)],Γ,Γ.length⟩
  have he:elems Γ (.b k)=some (ts.map thD):=by simp[hk]
  have w:mSl (AA 2) (some (AA 0)) (some (AA 1)) T=some (.v (AE ((ts.drop x.1).take (x.2 - x.1))),T):=by
   show ((elems Γ (.b k)).map fun xs=>D.lst (cutD xs (some (x.1:Int)) (some (x.2:Int)))).map (fun d=>(SV.v d,T))=_
   rw[he]
   show some (SV.v (D.lst (cutD (ts.map thD) (some (x.1:Int)) (some (x.2:Int)))),T)=_
   rw[EI,JG ts h1 h2]
   rfl
  rw[List.map_cons]
  show An _ _ _ (tupI [(x.1:Int),(x.2:Int)]::L.map _) _ _=_
  unfold An
  rw[show A0 [0,1] (tupI [(x.1:Int),(x.2:Int)]) ⟨[u,v,some (.b k)],Γ,Γ.length⟩=some T from rfl]
  simp only[Option.bind_some,mTT,if_true,w]
  rw[show An _ _ _ _ T.σ T.Γ=_ from i,if_pos rfl]
  rfl
def C4 (ts:List Th) (es:List Nat) (i:Nat):List Th:=(ts.drop (Sm es i)).take (Sm es (i+1) - Sm es i)
def evR (rs:List (List Th)):List (List Th):=(List.range rs.length).map fun i=>C4 rs.flatten (evN (AH rs).sum rs.length) i
theorem Bn:∀ rs:List (List Th),rs.flatten.length=(AH rs).sum
 | []=>rfl
 | r::rs=>by
  rw[List.flatten_cons,List.length_append,Bn rs]
  rfl
theorem Fs {Γ:Gm}:∀ (rs:List (List Th)) (v:Option SV),An (Aj 0) mTT (AQ Ap (AB (AA 0) AC)) (rs.map AE) [v] Γ=some (AN (AH rs),Γ)
 | [],_=>rfl
 | r::rs,v=>by
  have i:=Fs (Γ:=Γ) rs (some (.v (AE r)))
  let T:DS:=⟨[some (.v (AE r))],Γ,Γ.length⟩
  have w:AQ Ap (AB (AA 0) AC) T=some (.v (.int (r.length:Nat)),T):=CY (s':=T) (x:=.v (AE r)) rfl (by show some (D.int ((r.map thD).length:Nat))=_;rw[List.length_map])
  rw[List.map_cons]
  show An _ _ _ (AE r::rs.map AE) _ _=_
  unfold An
  rw[show Aj 0 (AE r) (⟨[v],Γ,Γ.length⟩:DS)=some T from rfl]
  simp only[Option.bind_some,mTT,if_true,w]
  rw[show An _ _ _ _ T.σ T.Γ=_ from i,if_pos rfl]
  rfl
def Mer:MDF:=Ag 3 (Gi Bs)
theorem TV {rs:List (List Th)} {Γ:Gm} (h1:1<=rs.length) (hl:rs.length<=1000) (hs:(AH rs).sum<=10000):Mer [.v (AG rs)] Γ=some ((evR rs).map AE,Γ):=by
 let A:Option SV:=some (.v (AG rs))
 let S0:DS:=⟨[A,none,none],Γ,Γ.length⟩
 let S:Nat->Option SV->DS:=fun i v=>⟨[A,some (.b Γ.length),v],Γ++[some ((rs.take i).flatten.map thD)],Γ.length⟩
 have g1:BF 1 (AR AC) S0=some (.nx (S 0 none)):=D4 (ED (ds:=[]) (S':=S0) rfl (Nat.zero_le _))
 have tl:∀ i,(rs.take i).flatten.length<=(AH rs).sum:=fun i=>by
  rw[Bn,<-Bn rs]
  have:rs.flatten=(rs.take i).flatten++(rs.drop i).flatten:=by rw[<-List.flatten_append,List.take_append_drop]
  rw[this,List.length_append,Bn]
  lia
 obtain ⟨s',e1,v',rfl⟩:=B0 (g:=Aj 2) (b:=Kz Bs) (items:=rs.map AE) (fun i st=>∃ v,st=S i v) (by
   rintro i d st hd ⟨v,rfl⟩
   obtain ⟨r,hr,rfl⟩:=Bw hd
   let T:DS:=S i (some (.v (AE r)))
   have et:(rs.take (i+1)).flatten=(rs.take i).flatten++r:=by rw[List.take_add_one,hr,List.flatten_append];simp
   have ht:=tl (i+1)
   rw[et,List.length_append] at ht
   refine ⟨T,_,rfl,Ji (n:=Γ.length) (s:=T) (s':=T) rfl Bh (zs:=r.map thD) rfl Bh (by rw[List.length_map,List.length_map,Ao];lia),some (.v (AE r)),?_⟩
   show (⟨_,(Γ++[_]).set Γ.length _,_⟩:DS)=_
   rw[FJ,<-List.map_append,<-et])
  (s:=S 0 none) ⟨none,rfl⟩
 rw[List.length_map] at e1
 have g2:=CA (mi:=Aq (AA 0)) (s:=S 0 none) (s':=S 0 none) rfl e1
 let T:DS:=S rs.length v'
 let es:=evN (AH rs).sum rs.length
 have hll:(AH rs).length=rs.length:=List.length_map _
 have w1:=A1 (CC (mi:=Aq (AA 0)) (nt:=1) (ix:=[]) (s:=T) (s':=T) (items:=rs.map AE) (Γ':=T.Γ) rfl (by rw[List.length_map,Ao];lia) (Fs rs none))
 have he:=Ga (zs:=AH rs) (Γ:=T.Γ) (by rw[hll];exact h1) (by rw[hll];exact hl)
 rw[hll] at he
 have w2:=K3 (CZ (M:=Bs) w1 he)
 have hes:es.sum=(AH rs).sum:=Cs h1
 have hitems:(strN es rs.length).map tupI=((List.range rs.length).map fun i=>(Sm es i,Sm es (i+1))).map fun x=>tupI [(x.1:Int),(x.2:Int)]:=by
  unfold strN
  rw[List.map_map,List.map_map]
  rfl
 have hfl:(rs.take rs.length).flatten=rs.flatten:=by rw[List.take_length]
 have w3:=Lg (Γ:=T.Γ) (k:=Γ.length) (ts:=(rs.take rs.length).flatten) Bh ((List.range rs.length).map fun i=>(Sm es i,Sm es (i+1))) none none (fun x hx=>by
  obtain ⟨i,_,rfl⟩:=List.mem_map.mp hx
  refine ⟨CQ es (by lia),?_⟩
  rw[hfl,Bn,<-hes]
  exact EG es (i+1))
 have w4:=CC (nt:=2) (ix:=[1]) (g:=A0 [0,1]) (t:=mTT) (e:=mSl (AA 2) (some (AA 0)) (some (AA 1))) w2 (by rw[List.length_map,DV,Ao];lia) (by rw[hitems];exact w3)
 unfold Mer Ag Gi
 show ((AL _ _ S0).bind _)=_
 rw[(Ae (g1)).trans ((Ae (g2)).trans (rfl))]
 unfold A3
 rw[w4]
 show some (_,(Γ++[some _]).take Γ.length)=_
 rw[E7,hfl,List.map_map]
 unfold evR
 rw[List.map_map]
 rfl
theorem Be (rs:List (List Th)):(evR rs).length=rs.length:=by unfold evR;rw[List.length_map,List.length_range]
theorem Lo (ts:List Th) (es:List Nat):∀ k,((List.range k).map (C4 ts es)).flatten=ts.take (Sm es k)
 | 0=>by simp[Sm]
 | k+1=>by
  have hm:=CQ es (show k<=k+1 by lia)
  rw[List.range_succ,List.map_append,List.flatten_append,Lo ts es k]
  show ts.take (Sm es k)++([C4 ts es k]).flatten=_
  rw[List.flatten_singleton]
  unfold C4
  have e:Sm es (k+1)=Sm es k+(Sm es (k+1) - Sm es k):=by lia
  conv=>rhs;rw[e,List.take_add]
theorem HW {rs:List (List Th)} (h1:1<=rs.length):(evR rs).flatten=rs.flatten:=by
 have hs:=Dq (evN (AH rs).sum rs.length)
 rw[ET h1,Cs h1] at hs
 have:=Lo rs.flatten (evN (AH rs).sum rs.length) rs.length
 rw[hs,<-Bn rs,List.take_length,Bn rs] at this
 exact this
theorem RN {ts:List Th} {es:List Nat} (h:es.sum<=ts.length) (i:Nat):(C4 ts es i).length=es.getD i 0:=by
 have:=EG es (i+1)
 have e:=Ek es i
 unfold C4
 rw[List.length_take,List.length_drop]
 lia
theorem EY {rs:List (List Th)} (h1:1<=rs.length):AH (evR rs)=evN (AH rs).sum rs.length:=by
 unfold AH evR
 rw[List.map_map]
 refine List.ext_getElem? fun i=>?_
 rw[List.getElem?_map]
 have hl:(evN (AH rs).sum rs.length).length=rs.length:=ET h1
 by_cases c:i<rs.length
 ·rw[List.getElem?_range c]
  show some ((C4 rs.flatten (evN (AH rs).sum rs.length) i).length)=(evN (AH rs).sum rs.length)[i]?
  rw[RN (by rw[Cs h1,Bn];exact Nat.le_refl _) i,List.getD_eq_getElem?_getD,List.getElem?_eq_getElem (by lia)]
  rfl
 ·rw[List.getElem?_eq_none (by rw[List.length_range];lia)]
  exact (List.getElem?_eq_none (show (evN (AH rs).sum rs.length).length<=i by lia)).symm
theorem OV {rs:List (List Th)} (h1:1<=rs.length):evR (evR rs)=evR rs:=by
 have e1:=HW h1
 have e2:=EY h1
 have e3:=Be rs
 have e4:(AH (evR rs)).sum=(AH rs).sum:=by rw[e2,Cs h1]
 show (List.range (evR rs).length).map (fun i=>C4 (evR rs).flatten (evN (AH (evR rs)).sum (evR rs).length) i)=_
 rw[e1,e3,e4]
 rfl
theorem Nb {rs:List (List Th)} {Γ:Gm} (h1:1<=rs.length) (h6:rs.length<=900) (hz:∀ r∈rs,r.length<=2000) (hz':∀ r∈evR rs,r.length<=2000) (hs:(AH rs).sum<=5000):Da [.v (AG rs),.v (AG (evR rs))] Γ=some ((mvE (AH rs)).map tupI,Γ):=by
 have hl:(AH rs).length=rs.length:=List.length_map _
 refine Pz (Be rs) h6 hz hz' hs (by rw[EY h1,Cs h1]) ?_
 rw[EY h1]
 have:=SS (zs:=AH rs) (by lia) (by lia)
 rw[hl] at this
 exact this
end DL
namespace DL
open PySem L2
def Mnp:MDF:=Ag 4 (FF Fx)
theorem RX {Mn:MDF} {rs:List (List Th)} {Γ:Gm} (hm:∀ {Γ:Gm} {ts:List Th} {h:Int},ts.length<=big->Mn [.v (AE ts),.v (.int h)] Γ=some ((Au (BD h 0 ts)).map tupI,Γ)) (hz:total rs<=100000):Ag 4 (FF Mn) [.v (AG rs)] Γ=some ((Au (BO 0 rs)).map tupI,Γ):=by
 let S0:DS:=⟨[some (.v (AG rs)),none,none,none],Γ,Γ.length⟩
 let S:List Nam->Option SV->Option SV->DS:=fun xs v w=>⟨[some (.v (AG rs)),some (.b Γ.length),v,w],Γ++[some (xs.map tupI)],Γ.length⟩
 have g2:BF 1 (AR AC) S0=some (.nx (S [] none none)):=by simp[S,S0,show (0:Nat)<=big from Nat.zero_le _]
 have q:BR (AB (AA 0) AC) (S [] none none)=some (A8 0 (rs.map AE),S [] none none):=rfl
 obtain ⟨s',e1,v',w',rfl⟩:=B0 (g:=A0 [2,3]) (b:=J1 Mn) (items:=A8 0 (rs.map AE)) (fun i st=>∃ v w,st=S (BZ 0 (rs.take i)) v w) (by
   rintro i d st hd ⟨v,w,rfl⟩
   obtain ⟨x,hx,rfl⟩:=DC 0 _ i d hd
   obtain ⟨r,hr,rfl⟩:=Bw hx
   have hrt:=Nl (List.mem_of_getElem? hr)
   let T:DS:=S (BZ 0 (rs.take i)) (some (.v (.int (0+i)))) (some (.v (AE r)))
   have hb:r.length<=big:=by rw[Ao];lia
   have w1:AK (Ay Mn (AB (AA 3) (AB (AA 2) AC))) T=some (.v (.lst ((Au (BD (0+(i:Int)) 0 r)).map tupI)),T):=A1 (Ft (x:=.v (AE r)) (y:=.v (.int (0+i))) (s1:=T) (s2:=T) rfl rfl (hm hb))
   have hlen:=S7 0 (rs.take (i+1))
   have htt:=Pi rs (i+1)
   have et:=M6 0 rs i r hr
   have hl:((BZ 0 (rs.take i)).map tupI).length+((Au (BD (0+(i:Int)) 0 r)).map tupI).length<=big:=by
    rw[et,List.length_append] at hlen
    rw[List.length_map,List.length_map,Ao]
    lia
   refine ⟨T,_,rfl,Ji (n:=Γ.length) (s:=T) (s':=T) rfl Bh w1 Bh hl,some (.v (.int (0+i))),some (.v (AE r)),?_⟩
   show (⟨_,(Γ++[_]).set Γ.length _,_⟩:DS)=_
   rw[FJ,et,<-List.map_append])
  (s:=S [] none none) ⟨none,none,rfl⟩
 rw[Hl,List.take_length] at e1
 have hs:=T8 (Γ:=Γ++[some ((BZ 0 rs).map tupI)]) (x:=.b Γ.length) (nss:=BZ 0 rs) (fun ns hn=>Jx ns ((Fv 0 rs).mem_iff.mp hn)) (by simp)
 rw[SY (Fv 0 rs)] at hs
 have q3:BL Cd (AB (AA 1) AC) (S (BZ 0 rs) v' w')=some ((Au (BO 0 rs)).map tupI,S (BZ 0 rs) v' w'):=by
  unfold BL
  show (Cd (Γ++[some ((BZ 0 rs).map tupI)]) [.b Γ.length]).map _=_
  rw[hs]
  rfl
 unfold Ag FF
 show (AL _ _ S0).bind _=_
 rw[Ae g2,Ae (CA q e1)]
 unfold A3
 rw[q3]
 show some (_,(Γ++[_]).take Γ.length)=_
 rw[E7]
theorem N4 {rs:List (List Th)} {Γ:Gm} (hz:total rs<=100000):Mnp [.v (AG rs)] Γ=some ((Au (BO 0 rs)).map tupI,Γ):=RX Om hz
def Mpl:MDF:=Ag 1 (Ff Mnp)
theorem Te {Mn:MDF} {rs:List (List Th)} {Γ:Gm} (hn:∀ {Γ:Gm},Mn [.v (AG rs)] Γ=some ((Au (BO 0 rs)).map tupI,Γ)) (hz:total rs<=100000):Ag 1 (Ff Mn) [.v (AG rs)] Γ=some ((plainT rs).map thD,Γ):=by
 have tk:Γ.take Γ.length=Γ:=List.take_length
 let S:DS:=⟨[some (.v (AG rs))],Γ,Γ.length⟩
 have w:=K3 (CZ (M:=Mn) (m:=AA 0) (x:=.v (AG rs)) (s:=S) (s':=S) rfl hn)
 unfold Ag Ff
 show (A3 _ S).bind _=_
 unfold A3
 rw[CC (nt:=3) (ix:=[0]) w (by rw[List.length_map,Ij,Ao];lia) RF]
 show some (_,Γ.take Γ.length)=_
 rw[tk]
theorem Oh {rs:List (List Th)} {Γ:Gm} (hz:total rs<=100000):Mpl [.v (AG rs)] Γ=some ((plainT rs).map thD,Γ):=Te (fun {Γ}=>N4 hz) hz
theorem Sv {rs:List (List Th)} (h:∀ r∈rs,∀ t∈r,Tg t.2):∀ t∈plainT rs,Tg t.2:=fun t ht=>by
 obtain ⟨x,hx,rfl⟩:=List.mem_map.mp ht
 obtain ⟨j,k,r,t,h1,h2,rfl⟩:=Kf hx
 rw[Nk h1 h2]
 exact h r (List.mem_of_getElem? h1) t (List.mem_of_getElem? h2)
theorem LB {d:D} {b:Bool} (h:Dj (.v d) (.v d)=some b):b=true:=by
 cases d<;>simp at h<;>exact h
theorem Lj {Γ:Gm} {d:D} {b:Bool} (h:DQ Γ (.v d) (.v d)=some b):b=true:=by
 cases d with
 | lst xs=>cases xs<;>simp at h<;>exact h
 | _=>simp at h
theorem Mu {Γ:Gm} {d:D} (h:Af 6 d=true):El Γ (.v d) (.v d)=some true:=by simp[h,RL h]
theorem PH {Γ:Gm} {d:D} (h:Af 6 d=true):BP Γ (.v d) (.v d)=some (.bl true):=by
 have e:=Mu (Γ:=Γ) h
 unfold BP gEq HI
 cases h1:Dj (.v d) (.v d) with
 | some b=>rw[LB h1]
 | none=>
  cases h2:DQ Γ (.v d) (.v d) with
  | some b=>rw[Lj h2];rfl
  | none=>rw[e];rfl
theorem DD {Γ:Gm} {d:D} (h:Af 6 d=true):BX Γ (.v d) (.v d)=some (.bl false):=by
 have e:=Mu (Γ:=Γ) h
 unfold BX gNe Gz
 cases h1:Dj (.v d) (.v d) with
 | some b=>rw[LB h1];rfl
 | none=>
  cases h2:DQ Γ (.v d) (.v d) with
  | some b=>rw[Lj h2];rfl
  | none=>rw[e];rfl
theorem RY {t:Str} (h:Tg t):PyData.strOk t=true:=by
 unfold PyData.strOk
 refine Array.all_eq_true'.mpr fun c hc=>?_
 have:=h.2.2 c (Array.mem_toList_iff.mpr hc)
 simp
 lia
theorem UF {t:Th} (h:Tg t.2) (n:Nat):Af (n+1) (thD t)=true:=by
 have e:=RY h
 unfold thD Af
 simp[Af,PyData.canLay0,e]
theorem J2 {ts:List Th} (h:∀ t∈ts,Tg t.2) (n:Nat):Af (n+2) (AE ts)=true:=by
 unfold AE Af
 rw[List.all_eq_true]
 intro x hx
 obtain ⟨t,ht,rfl⟩:=List.mem_map.mp hx
 exact UF (h t ht) n
end DL
namespace DL
open PySem L2 Ev
structure NewR (K:PySem.W.Frag) (H H':Hp) (a:Addr) (as:List Addr) (E:List (List Th)):Prop where
 mono:Grow H H'
 fa:H a=none
 fs:∀ b∈as,H b=none
 nd:as.Nodup
 na:a∉as
 hd:H' a=some (.lst (as.map V.ref))
 len:as.length=E.length
 it:∀ (i:Nat) (b:Addr) (e:List Th),as[i]?=some b->E[i]?=some e->∃ vs,H' b=some (.lst vs)/\Reps (wQ K H) (e.map thD) vs
def O8 (rs:List (List Th)):Prop:=1<=rs.length/\rs.length<=100/\(AH rs).sum<=10000
def Hj (K:PySem.W.Frag):Sp:=fun vs H Q _=>∃ (rs:List (List Th)) (v:V),vs=[v]/\Rep (wQ K H) (AG rs) v/\O8 rs/\∀ a as H',NewR K H H' a as (evR rs)->Q (.ref a) H'
theorem TL {X:Cx} {K:PySem.W.Frag} (h:X.K=K):SlR X (JL K):=h▸sl_list
theorem Px {W:Wd} {ts:List Th} {vs:List V} (h:Reps W (ts.map thD) vs) {a b:Nat} (hab:a<=b) (hb:b<=ts.length):Reps W (((ts.drop a).take (b - a)).map thD) (DX vs (some (a:Int)) (some (b:Int))):=by
 have e:=L3 h (some (a:Int)) (some (b:Int))
 rw[EI,JG ts hab hb] at e
 exact e
theorem LM {rs:List (List Th)} {i:Nat} (hi:i<rs.length):(evR rs)[i]?=some ((rs.flatten.drop (Sm (evN (AH rs).sum rs.length) i)).take (Sm (evN (AH rs).sum rs.length) (i+1) - Sm (evN (AH rs).sum rs.length) i)):=by
 unfold evR
 rw[List.getElem?_map,List.getElem?_range hi]
 rfl
theorem Ni {rs:List (List Th)} {u:Option D} (h1:1<=rs.length) (hl:rs.length<=100) :
  AK (Ay Bs (AB (AK (A7 (Aq (AA 0)) 1 [] (Aj 0) mTT (AQ Ap (AB (AA 0) AC)))) AC)) (slD [some (AG rs),none,u])=some (.v (.lst ((strN (evN (AH rs).sum rs.length) rs.length).map tupI)),slD [some (AG rs),none,u]):=by
 let S:DS:=slD [some (AG rs),none,u]
 have hll:(AH rs).length=rs.length:=List.length_map _
 have w1:=A1 (CC (mi:=Aq (AA 0)) (nt:=1) (ix:=[]) (s:=S) (s':=S) (items:=rs.map AE) (Γ':=S.Γ) rfl (by rw[List.length_map,Ao];lia) (Fs rs none))
 have he:=Ga (zs:=AH rs) (Γ:=S.Γ) (by rw[hll];exact h1) (by rw[hll];lia)
 rw[hll] at he
 exact A1 (CZ (M:=Bs) w1 he)
theorem TU {P:Program} {w:World} {K:PySem.W.Frag} {mg:Str->Option Value} {base:Heap} {fa:Addr} {fd:FuncData} (F:Fun K "even_rows" "even_rows" Cu fa fd) (T:Nm mg) {zJ:Addr} {zK:FuncData} (zD:Cal P w K mg base "even_stretches" 2 zJ zK ["sizes"] (spF K 1 Bs)):FnOk P w K mg base CX0 3 fa fd ["rows"] (Hj K):=by
 refine F.ok sc_even_rows (fun vs H Q E h=>?_) (fun cdv A outer sh H vs Q E hr h=>?_)
 ·obtain ⟨rs,v,rfl,_⟩:=h
  rfl
 obtain ⟨rs,v,rfl,hv,⟨h1,hn,hz⟩,q⟩:=h
 refine ⟨_,BW (Ad (i:=1) sc_even_rows.nd rfl (Or.inr rfl) (KZ BB))
  (BW (EX PassesOwn.never rfl (IA (K:=K) rfl (pv 0)) (AV (i:=2) sc_even_rows.nd rfl (Or.inl rfl)) (Bb (IT (Ex PySem.F.plainAttrs_list PySem.F.slot_list_extend PySem.F.type_list_extend LQ (pv 1) (Ax (pv 2) BB)))))
  (Bb (Cn (JC (esc:=(AW Cu)) (N:=ES) (tn:=["start","end"]) (fn:=["things"]) (ix:=[1]) rfl rfl rfl ⟨rfl,by decide +kernel,by decide +kernel,by decide +kernel,rfl,by decide +kernel⟩
   (IA (K:=K) rfl (DE.xK (K:=K) rfl (Ab (Bi zD.G hr rfl zD.m zD.k zD.b (AF (Ab (Cy (esc:=(AW Cu)) (N:=ES) (tn:=["row"]) (fn:=[]) (ix:=[]) rfl rfl rfl ⟨rfl,by decide +kernel,by decide +kernel,by decide +kernel,rfl,by decide +kernel⟩ (Bt (AD (pv 0))) (fun _ _ _ _ _=>(Bq (AV (i:=0) (show (["row"]:List Str).Nodup by decide +kernel) rfl (Or.inl rfl)))) (fun _ _ _ _ _=>B8) (fun _ _ _ _ _=>(Bp T (AF (AD (pv 0)) AI))))) AI) (Aa A2)))))
   (fun _ _ _ _ _=>(Bl (K:=K) (n:=2) rfl rfl (Am (AV (i:=0) (show (["start","end","things"]:List Str).Nodup by decide +kernel) rfl (Or.inl rfl)) (Am (AV (i:=1) (show (["start","end","things"]:List Str).Nodup by decide +kernel) rfl (Or.inl rfl)) Bk)))) (fun _ _ _ _ _=>FH)
   (fun _ _ _ _ _=>J4 (TL (K:=K) rfl) (pv 2) (GV (pv 0)) (GV (pv 1))))))),?_⟩
 refine ⟨Ev.small (Nat.zero_le _),fun t ht=>?_⟩
 have hv2:=hv
 unfold AG Rep at hv2
 obtain ⟨ra,rvs,rfl,-,hra,hrvs⟩:=hv2
 have hra:H ra=some (.lst rvs):=hra
 have hrl:rvs.length=rs.length:=by rw[hrvs.len,List.length_map]
 have hrt:ra≠t:=Ah hra ht
 have hkp:∀ us b o,H b=some o->upd H t (.lst us) b=some o:=fun us b o e=>by rw[AJ (Ah e ht)];exact e
 refine ⟨_,rfl,ra,rfl,⟨rvs,SqL.of (hkp _ _ _ hra)⟩,?_⟩
 refine Oi (xs:=rvs) (fun i σ Hi=>∃ (us:List V) (x:Option V),σ=[some (.ref ra),some (.ref t),x]/\Hi=upd H t (.lst us)/\Reps (wQ K H) ((rs.take i).flatten.map thD) us) ?_ ?_ ?_ ?_
 ·exact ⟨[],none,rfl,rfl,.nil⟩
 ·rintro i σ Hi _ ⟨us,x,rfl,rfl,_⟩
  exact SqL.of (hkp _ _ _ hra)
 ·rintro i x σ Hi hx ⟨us,x0,rfl,rfl,hus⟩
  have hi:i<rs.length:=by have:=(List.getElem?_eq_some_iff.mp hx).1;lia
  have hr:rs[i]?=some rs[i]:=List.getElem?_eq_getElem hi
  obtain ⟨d,hd1,hd2⟩:=hrvs.get' hx
  rw[List.getElem?_map,hr] at hd1
  cases hd1
  unfold AE Rep at hd2
  obtain ⟨b,zs,rfl,-,hb,hzs⟩:=hd2
  have hb:H b=some (.lst zs):=hb
  have et:(rs.take (i+1)).flatten=(rs.take i).flatten++rs[i]:=by rw[List.take_add_one,hr,List.flatten_append];simp
  have hle:(rs.take (i+1)).flatten.length<=(AH rs).sum:=by
   rw[<-Bn rs]
   have:rs.flatten=(rs.take (i+1)).flatten++(rs.drop (i+1)).flatten:=by rw[<-List.flatten_append,List.take_append_drop]
   rw[this,List.length_append]
   lia
  rw[et,List.length_append] at hle
  have l1:=hus.len
  have l2:=hzs.len
  rw[List.length_map] at l1 l2
  refine ⟨_,rfl,.inl ⟨rfl,_,SqL.of AS⟩,_,rfl,t,b,us,zs,rfl,rfl,AS,hkp _ _ _ hb,Ev.small (by lia),us++zs,_,rfl,SZ,?_⟩
  rw[et,List.map_append]
  exact hus.append hzs
 rintro σ Hi ⟨us,x,rfl,rfl,hus⟩
 rw[hrl,List.take_length] at hus
 have g0:Grow H (upd H t (.lst us)):=.new ht
 have hvt:=hv.kw g0.kw
 refine Ep (H:=upd H t (.lst us)) (ds:=[some (AG rs),none,none]) (.cons hvt (.skip (.skip .nil))) (Ni h1 hn) fun sv H1 g1 hs=>?_
 unfold Rep at hs
 obtain ⟨sa,svs,rfl,-,hsa,hsvs⟩:=hs
 have hsa:H1 sa=some (.lst svs):=hsa
 have hsl:svs.length=rs.length:=by rw[hsvs.len,List.length_map,DV]
 refine ⟨sa,rfl,⟨svs,SqL.of hsa⟩,fun l hl=>?_⟩
 have ht1:H1 t=some (.lst us):=g1 _ _ AS
 have G1:=g0.trans g1
 refine FI rs.length (fun i τ Hi=>∃ (as:List Addr) (u x:Option V),τ=[u,x,some (.ref t)]/\Grow H1 Hi/\Hi l=some (.lst (as.map V.ref))/\as.length=i/\(∀ b∈as,H1 b=none/\b≠l)/\as.Nodup/\∀ (j:Nat) (b:Addr) (e:List Th),as[j]?=some b->(evR rs)[j]?=some e->∃ vs,Hi b=some (.lst vs)/\Reps (wQ K H) (e.map thD) vs) ?_ ?_ ?_ ?_ ?_
 ·exact ⟨[],none,none,rfl,.new hl,AS,rfl,fun b z=>(nomatch z),.nil,fun j b e z=>by cases z⟩
 ·rintro i τ Hi hi ⟨as,u,x,rfl,g,_⟩
  exact ⟨svs,svs[i]'(by lia),SqL.of (g _ _ hsa),List.getElem?_eq_getElem _⟩
 ·rintro τ Hi ⟨as,u,x,rfl,g,_⟩
  exact ⟨svs,SqL.of (g _ _ hsa),by lia⟩
 ·rintro i x τ Hi H' hi ⟨as,u,x0,rfl,g,hl2,hal,hfr,hnd,hit⟩ ⟨rfl,hy⟩
  have hxx:=hy svs (SqL.of (g _ _ hsa))
  obtain ⟨d,hd1,hd2⟩:=hsvs.get' hxx
  have hd1':((strN (evN (AH rs).sum rs.length) rs.length).map tupI)[i]?=some (tupI [(Sm (evN (AH rs).sum rs.length) i:Int),(Sm (evN (AH rs).sum rs.length) (i+1):Int)]):=by
   unfold strN
   rw[List.map_map,List.getElem?_map,List.getElem?_range hi]
   rfl
  rw[hd1'] at hd1
  cases hd1
  unfold tupI Rep at hd2
  obtain ⟨b,tvs,rfl,-,hb,htv⟩:=hd2
  have hb:H1 b=some (.tup tvs):=hb
  have htv:=htv.ints
  subst htv
  have hes:(evN (AH rs).sum rs.length).sum=(AH rs).sum:=Cs h1
  have hmono:=CQ (evN (AH rs).sum rs.length) (show i<=i+1 by lia)
  have hle:=EG (evN (AH rs).sum rs.length) (i+1)
  refine ⟨b,_,rfl,SqT.of (g _ _ hb),rfl,_,_,rfl,_,_,rfl,rfl,?_⟩
  dsimp only[F0]
  rw[if_pos rfl]
  refine ⟨_,rfl,_,rfl,_,rfl,_,rfl,_,rfl,t,us,rfl,SqL.of (g _ _ ht1),fun p hp=>?_⟩
  have hlp:l≠p:=Ah hl2 hp
  refine ⟨as.map V.ref,by rw[AJ hlp];exact hl2,CW (by rw[List.length_map];lia),as++[p],_,_,rfl,?_,?_,by rw[List.length_append,hal];rfl,?_,?_,?_⟩
  ·intro b o e
   have hb:b≠l:=fun z=>by rw[z,hl] at e;cases e
   have h4:=g b o e
   rw[AJ hb,AJ (Ah h4 hp)]
   exact h4
  ·rw[AS,List.map_append];rfl
  ·intro b hb
   rcases List.mem_append.mp hb with hb | hb
   ·exact hfr b hb
   ·rw[List.mem_singleton] at hb
    subst hb
    exact ⟨g.none hp,Ne.symm hlp⟩
  ·rw[List.nodup_append]
   refine ⟨hnd,by simp,fun b hb c hc=>?_⟩
   rw[List.mem_singleton] at hc
   subst hc
   obtain ⟨j,hj⟩:=List.getElem?_of_mem hb
   have hjl:j<rs.length:=by
    have:=(List.getElem?_eq_some_iff.mp hj).1
    lia
   obtain ⟨vs,h4,_⟩:=hit j b _ hj (LM hjl)
   exact Ah h4 hp
  ·intro j b e hj he
   by_cases c:j<as.length
   ·rw[List.getElem?_append_left c] at hj
    obtain ⟨vs,h0,h5⟩:=hit j b e hj he
    refine ⟨vs,?_,h5⟩
    rw[AJ (hfr b (List.mem_of_getElem? hj)).2,AJ (Ah h0 hp)]
    exact h0
   ·rw[List.getElem?_append_right (by lia)] at hj
    have hj0:j=i:=by
     have:=(List.getElem?_eq_some_iff.mp hj).1
     simp at this
     lia
    subst hj0
    rw[hal,Nat.sub_self] at hj
    cases hj
    rw[LM hi] at he
    cases he
    refine ⟨_,by rw[AJ (Ne.symm hlp),AS],?_⟩
    exact Px hus hmono (by rw[Bn];exact Nat.le_trans hle (Nat.le_of_eq hes))
 ·rintro τ Hi ⟨as,u,x,rfl,g,hl2,hal,hfr,hnd,hit⟩
  exact q l as Hi ⟨G1.trans g,G1.none hl,fun b hb=>G1.none (hfr b hb).1,hnd,fun z=>(hfr l z).2 rfl,hl2,by rw[Be,hal],hit⟩
abbrev EZ:Stmt:=top 14
abbrev IG:List Str:=["found","kept","at","row"]
theorem sc__law_marked:FnScope IG ["found"] (AW EZ):=⟨rfl,rfl,rfl,by decide +kernel,rfl,by decide +kernel,by decide +kernel⟩
def wB (K:PySem.W.Frag) (as:List Addr) (H:Hp):Wd:=⟨K,fun b=>b∈as,H⟩
structure OwnR (K:PySem.W.Frag) (H:Hp) (a:Addr) (as:List Addr) (E:List (List D)):Prop where
 nd:as.Nodup
 na:a∉as
 hd:H a=some (.lst (as.map V.ref))
 len:as.length=E.length
 it:∀ (i:Nat) (b:Addr) (e:List D),as[i]?=some b->E[i]?=some e->∃ vs,H b=some (.lst vs)/\Reps (wB K as H) e vs
def Off (as:List Addr) (H H':Hp):Prop:=∀ b o,b∉as->H b=some o->H' b=some o
theorem Off.kw {K:PySem.W.Frag} {as:List Addr} {H H':Hp} (h:Off as H H'):Kw (wB K as H) (wB K as H'):=⟨rfl,fun a o n e=>⟨h a o n e,n⟩⟩
theorem Off.trans {as:List Addr} {H H1 H2:Hp} (a:Off as H H1) (b:Off as H1 H2):Off as H H2:=fun c o n e=>b c o n (a c o n e)
theorem Off.of {as:List Addr} {H H':Hp} (g:Grow H H'):Off as H H':=fun b o _ e=>g b o e
theorem LS {K:PySem.W.Frag} {as:List Addr} {H:Hp}:Kw (wB K as H) (wQ K H):=⟨rfl,fun a o n e=>⟨e,fun z=>z⟩⟩
theorem OwnR.grow {K:PySem.W.Frag} {H H':Hp} {a:Addr} {as:List Addr} {E:List (List D)} (h:OwnR K H a as E) (g:Grow H H'):OwnR K H' a as E:=
 ⟨h.nd,h.na,g _ _ h.hd,h.len,fun i b e h1 h2=>let ⟨vs,q1,q2⟩:=h.it i b e h1 h2;⟨vs,g _ _ q1,q2.kw (Off.of g).kw⟩⟩
theorem Hq {K:PySem.W.Frag} {H:Hp}:∀ (X:List (List D)) (as:List Addr),as.length=X.length->(∀ (i:Nat) (b:Addr) (x:List D),as[i]?=some b->X[i]?=some x->∃ vs,H b=some (.lst vs)/\Reps (wQ K H) x vs)->Reps (wQ K H) (X.map D.lst) (as.map V.ref)
 | [],[],_,_=>.nil
 | x::X,a::as,hl,h=>by
  refine .cons ?_ (Hq X as (by simpa using hl) fun i b y e1 e2=>h (i+1) b y e1 e2)
  obtain ⟨vs,h1,h2⟩:=h 0 a x rfl rfl
  unfold Rep
  exact ⟨a,vs,rfl,fun z=>z,h1,h2⟩
 | [],_::_,hl,_=>by cases hl
 | _::_,[],hl,_=>by cases hl
theorem OwnR.rep {K:PySem.W.Frag} {H:Hp} {a:Addr} {as:List Addr} {E:List (List D)} (h:OwnR K H a as E):Rep (wQ K H) (.lst (E.map D.lst)) (.ref a):=by
 unfold Rep
 exact ⟨a,_,rfl,fun z=>z,h.hd,Hq E as h.len fun i b x h1 h2=>let ⟨vs,q1,q2⟩:=h.it i b x h1 h2;⟨vs,q1,q2.kw LS⟩⟩
theorem NewR.own {K:PySem.W.Frag} {H H':Hp} {a:Addr} {as:List Addr} {E:List (List Th)} (h:NewR K H H' a as E):OwnR K H' a as (E.map fun e=>e.map thD):=
 ⟨h.nd,h.na,h.hd,by rw[List.length_map];exact h.len,fun i b e h1 h2=>by
  rw[List.getElem?_map] at h2
  cases he:E[i]? with
  | none=>rw[he] at h2;cases h2
  | some x=>
   rw[he] at h2
   cases h2
   obtain ⟨vs,q1,q2⟩:=h.it i b x h1 he
   have kw:Kw (wQ K H) (wB K as H'):=⟨rfl,fun c o _ e=>⟨h.mono c o e,fun z=>by
    have e:H c=some o:=e
    rw[h.fs c z] at e
    cases e⟩⟩
   exact ⟨vs,q1,q2.kw kw⟩⟩
def mrk (j:Nat):Th:=((j:Int),"mark")
def mkE (E:List (List Th)) (i:Nat):List (List Th):=(List.range E.length).map fun j=>E.getD j []++if j<i then [mrk j] else []
theorem Ec {E:List (List Th)} {i j:Nat} {e:List Th} (h:E[j]?=some e):(mkE E i)[j]?=some (e++if j<i then [mrk j] else []):=by
 have hj:=(List.getElem?_eq_some_iff.mp h).1
 unfold mkE
 rw[List.getElem?_map,List.getElem?_range hj,Option.map_some,List.getD_eq_getElem?_getD,h]
 rfl
theorem Rm:Tg "mark":=⟨by decide +kernel,by decide +kernel,by decide +kernel⟩
theorem GR {rs:List (List Th)} (h:∀ r∈rs,∀ t∈r,Tg t.2):Af 6 (AG rs)=true:=by
 unfold AG Af
 rw[List.all_eq_true]
 intro x hx
 obtain ⟨r,hr,rfl⟩:=List.mem_map.mp hx
 exact J2 (h r hr) 3
theorem L9 {Γ:Gm} {E:List (List Th)}:∀ (k:Nat) (L:List (List Th)) (u v:Option SV),(∀ e∈L,e.length<=10000) ->
  An (A0 [0,1]) mTT (AK (BI Ci (AA 1) (AK (AR (AB (BA (AB (AA 0) (AB (mC (.str "mark")) AC))) AC))))) (A8 (k:Int) (L.map AE)) [u,v] Γ=some (((List.range L.length).map fun j=>AE (L.getD j []++[mrk (k+j)])),Γ)
 | k,[],_,_,_=>rfl
 | k,e::L,u,v,h=>by
  have ih:=L9 (Γ:=Γ) (E:=E) (k+1) L (some (.v (.int (k:Int)))) (some (.v (AE e))) fun y hy=>h y (List.mem_cons_of_mem _ hy)
  have he:=h e List.mem_cons_self
  let T:DS:=⟨[some (.v (.int (k:Int))),some (.v (AE e))],Γ,Γ.length⟩
  have w0:BA (AB (AA 0) (AB (mC (.str "mark")) AC)) T=some (.v (thD (mrk k)),T):=GW rfl rfl
  have w1:AK (AR (AB (BA (AB (AA 0) (AB (mC (.str "mark")) AC))) AC)) T=some (.v (.lst [thD (mrk k)]),T):=Gv w0
  have w:AK (BI Ci (AA 1) (AK (AR (AB (BA (AB (AA 0) (AB (mC (.str "mark")) AC))) AC)))) T=some (.v (AE (e++[mrk k])),T):=by
   refine (A1 (FV (s1:=T) (x:=.v (AE e)) rfl w1 (z:=(e++[mrk k]).map thD) ?_))
   show (if (e.map thD).length+([thD (mrk k)]:List D).length<=big then some ((e.map thD)++[thD (mrk k)]) else none)=_
   rw[if_pos (by rw[List.length_map,Ao];simp;lia),List.map_append]
   rfl
  show An _ _ _ (D.tup [.int (k:Int),AE e]::A8 ((k:Int)+1) (L.map AE)) _ _=_
  unfold An
  rw[show A0 [0,1] (D.tup [.int (k:Int),AE e]) (⟨[u,v],Γ,Γ.length⟩:DS)=some T from rfl]
  simp only[Option.bind_some,mTT,if_true,w]
  rw[show ((k:Int)+1)=((k+1:Nat):Int) by lia]
  rw[show An _ _ _ _ T.σ T.Γ=_ from ih,if_pos rfl]
  rw[List.length_cons,List.range_succ_eq_map,List.map_cons,List.map_map]
  show some (_::_,_)=_
  congr 3
  refine List.map_congr_left fun j _=>?_
  show AE (L.getD j []++[mrk (k+1+j)])=AE ((e::L).getD (j+1) []++[mrk (k+(j+1))])
  rw[show k+1+j=k+(j+1) by lia]
  rfl
theorem N1 {E:List (List Th)} (hl:E.length<=10000) (hE:∀ e∈E,e.length<=10000) (ht:∀ e∈E,∀ t∈e,Tg t.2) {u v:Option D} :
  mOp BP (AA 0) (AK (A7 (BR (AB (AA 1) AC)) 2 [] (A0 [0,1]) mTT (AK (BI Ci (AA 1) (AK (AR (AB (BA (AB (AA 0) (AB (mC (.str "mark")) AC))) AC))))))) (slD [some (AG (mkE E E.length)),some (AG E),u,v])=some (.v (.bl true),slD [some (AG (mkE E E.length)),some (AG E),u,v]):=by
 let S:DS:=slD [some (AG (mkE E E.length)),some (AG E),u,v]
 have w:=A1 (CC (mi:=BR (AB (AA 1) AC)) (nt:=2) (ix:=[]) (s:=S) (s':=S) (items:=A8 0 (E.map AE)) (Γ':=S.Γ) rfl (by rw[C3,List.length_map,Ao];lia) (L9 (E:=E) 0 E none none hE))
 have e:D.lst ((List.range E.length).map fun j=>AE (E.getD j []++[mrk (0+j)]))=AG (mkE E E.length):=by
  unfold AG mkE
  rw[List.map_map]
  congr 1
  refine List.map_congr_left fun j hj=>?_
  rw[List.mem_range] at hj
  show _=AE (E.getD j []++if j<E.length then [mrk j] else [])
  rw[if_pos hj,Nat.zero_add]
 rw[e] at w
 refine AO (x:=.v (AG (mkE E E.length))) (s1:=S) rfl w (PH (GR fun r hr t htt=>?_))
 unfold mkE at hr
 obtain ⟨j,hj,rfl⟩:=List.mem_map.mp hr
 rw[List.mem_range] at hj
 rw[if_pos hj,List.getD_eq_getElem?_getD,List.getElem?_eq_getElem hj] at htt
 rcases List.mem_append.mp htt with h | h
 ·exact ht _ (List.getElem_mem hj) t h
 ·rw[List.mem_singleton.mp h]
  exact Rm
def Gc (K:PySem.W.Frag):Sp:=fun vs H Q _=>∃ (E:List (List Th)) (a:Addr) (as:List Addr),vs=[.ref a]/\OwnR K H a as (E.map fun e=>e.map thD)/\E.length<=1000/\(∀ e∈E,e.length<=9000)/\(∀ e∈E,∀ t∈e,Tg t.2)/\∀ H',Off as H H'->Q (.bl true) H'
theorem PV {X:Cx} {K:PySem.W.Frag} (h:X.K=K):CallR X (.type "list") (fun xs H Q=>∃ p ys,xs=[.ref p]/\(SqL K H p ys\/SqT K H p ys)/\∀ l,H l=none->Q (.ref l) (upd H l (.lst ys))):=h▸KL
theorem QA {x y:V}:([x,y]:List V).length<=sizeLine:=Ev.small (show 2<=1000000 by decide)
theorem RE {l:List Addr} {i j:Nat} {b:Addr} (h:l.Nodup) (h1:l[i]?=some b) (h2:l[j]?=some b):i=j:=by
 induction l generalizing i j with
 | nil=>cases h1
 | cons a l ih=>
  rw[List.nodup_cons] at h
  cases i with
  | zero=>
   cases j with
   | zero=>rfl
   | succ j=>cases h1;exact absurd (List.mem_of_getElem? (show l[j]?=some b from h2)) h.1
  | succ i=>
   cases j with
   | zero=>cases h2;exact absurd (List.mem_of_getElem? (show l[i]?=some b from h1)) h.1
   | succ j=>exact congrArg (·+1) (ih h.2 (show l[i]?=some b from h1) (show l[j]?=some b from h2))
theorem NP {P:Program} {w:World} {K:PySem.W.Frag} {mg:Str->Option Value} {base:Heap} {fa:Addr} {fd:FuncData} (F:Fun K "_law_marked" "_law_marked" EZ fa fd) (T:Nm mg):FnOk P w K mg base CX0 1 fa fd ["found"] (Gc K):=by
 refine F.ok sc__law_marked (fun vs H Q E h=>?_) (fun cdv A outer sh H vs Q E hr h=>?_)
 ·obtain ⟨E,a,as,rfl,_⟩:=h
  rfl
 obtain ⟨E,a,as,rfl,ow,hE,he,ht,q⟩:=h
 refine ⟨_,BW (Im (i:=1) sc__law_marked.nd rfl rfl (esc:=(AW EZ)) (N:=IG) (tn:=["row"]) (fn:=[]) (ix:=[]) rfl rfl rfl ⟨rfl,by decide +kernel,by decide +kernel,by decide +kernel,rfl,by decide +kernel⟩ (IA (K:=K) rfl (pv 0)) (fun _ _ _ _ _=>(AV (i:=0) (show (["row"]:List Str).Nodup by decide +kernel) rfl (Or.inl rfl))) (fun _ _ _ _ _=>FH) (fun _ _ _ _ _=>Ia (PV (K:=K) rfl) (by rfl) T.list PyProof.Rows.boot_list (Ax (pv 0) BB)))
  (BW (EX PassesOwn.never rfl (IP rfl T.enum (Ax (pv 0) BB)) (Bl (K:=K) (n:=2) rfl rfl (Am (AV (i:=2) sc__law_marked.nd rfl (Or.inl rfl)) (Am (AV (i:=3) sc__law_marked.nd rfl (Or.inl rfl)) Bk))) (Bb (IT (Ex PySem.F.plainAttrs_list PySem.F.slot_list_append PySem.F.type_list_append Ir (pv 3) (Ax (Dw (Ax (pv 2) (Ax Kk BB))) BB)))))
  (Bb (Cn (DE.xK (K:=K) rfl (Je hr.units (AD (pv 0)) (Ab (Cy (esc:=(AW EZ)) (N:=IG) (tn:=["at","row"]) (fn:=[]) (ix:=[]) rfl rfl rfl ⟨rfl,by decide +kernel,by decide +kernel,by decide +kernel,rfl,by decide +kernel⟩ (Df rfl T.enum (AF (AD (pv 1)) AI)) (fun _ _ _ _ _=>(Cc (is:=[0,1]) (n:=2) rfl (Bl rfl rfl (Am (AV (i:=0) (show (["at","row"]:List Str).Nodup by decide +kernel) rfl (Or.inl rfl)) (Am (AV (i:=1) (show (["at","row"]:List Str).Nodup by decide +kernel) rfl (Or.inl rfl)) Bk))))) (fun _ _ _ _ _=>B8) (fun _ _ _ _ _=>(Ab (JR (AD (pv 1)) (Ab (A9 (AF (EN (AF (AD (pv 0)) (AF Fg AI))) AI))))))))))))),?_⟩
 have hal:as.length=E.length:=by rw[ow.len,List.length_map]
 have hat:∀ {i:Nat} {e:List Th},E[i]?=some e->(E.map fun e=>e.map thD)[i]?=some (e.map thD):=fun {i e} h=>by rw[List.getElem?_map,h];rfl
 refine ⟨_,rfl,a,rfl,⟨_,SqL.of ow.hd⟩,fun l hl=>?_⟩
 have hla:a≠l:=Ah ow.hd hl
 refine FI E.length (fun i τ Hi=>∃ (ks:List Addr) (u:Option V),τ=[u]/\Grow H Hi/\Hi l=some (.lst (ks.map V.ref))/\ks.length=i/\(∀ b∈ks,H b=none/\b≠l)/\∀ (j:Nat) (b:Addr) (e:List Th),ks[j]?=some b->E[j]?=some e->∃ vs,Hi b=some (.lst vs)/\Reps (wB K as H) (e.map thD) vs) ?_ ?_ ?_ ?_ ?_
 ·exact ⟨[],none,rfl,.new hl,AS,rfl,fun b z=>(nomatch z),fun j b e z=>by cases z⟩
 ·rintro i τ Hi hi ⟨ks,u,rfl,g,_⟩
  exact ⟨_,(as.map V.ref)[i]'(by rw[List.length_map];lia),SqL.of (g _ _ ow.hd),List.getElem?_eq_getElem _⟩
 ·rintro τ Hi ⟨ks,u,rfl,g,_⟩
  exact ⟨_,SqL.of (g _ _ ow.hd),by rw[List.length_map];lia⟩
 ·rintro i x τ Hi H' hi ⟨ks,u,rfl,g,hl2,hkl,hfr,hit⟩ ⟨rfl,hy⟩
  have hx:=hy _ (SqL.of (g _ _ ow.hd))
  have hai:as[i]?=some (as[i]'(by lia)):=List.getElem?_eq_getElem _
  rw[List.getElem?_map,hai] at hx
  cases hx
  have hei:E[i]?=some E[i]:=List.getElem?_eq_getElem hi
  obtain ⟨vs,hb,hvs⟩:=ow.it i _ _ hai (hat hei)
  dsimp only[F0,Dh]
  rw[if_pos rfl]
  refine ⟨_,rfl,_,vs,rfl,.inl (SqL.of (g _ _ hb)),fun p hp=>?_⟩
  have hlp:l≠p:=Ah hl2 hp
  refine ⟨ks.map V.ref,by rw[AJ hlp];exact hl2,CW (by rw[List.length_map];lia),ks++[p],_,rfl,?_,?_,by rw[List.length_append,hkl];rfl,?_,?_⟩
  ·intro b o e
   have hb:b≠l:=fun z=>by rw[z,hl] at e;cases e
   have h4:=g b o e
   rw[AJ hb,AJ (Ah h4 hp)]
   exact h4
  ·rw[AS,List.map_append];rfl
  ·intro b hb
   rcases List.mem_append.mp hb with hb | hb
   ·exact hfr b hb
   ·rw[List.mem_singleton] at hb
    subst hb
    exact ⟨g.none hp,Ne.symm hlp⟩
  ·intro j b e hj hej
   by_cases c:j<ks.length
   ·rw[List.getElem?_append_left c] at hj
    obtain ⟨vs,h0,h5⟩:=hit j b e hj hej
    refine ⟨vs,?_,h5⟩
    rw[AJ (hfr b (List.mem_of_getElem? hj)).2,AJ (Ah h0 hp)]
    exact h0
   ·rw[List.getElem?_append_right (by lia)] at hj
    have hj0:j=i:=by
     have:=(List.getElem?_eq_some_iff.mp hj).1
     simp at this
     lia
    subst hj0
    rw[hkl,Nat.sub_self] at hj
    cases hj
    rw[hei] at hej
    cases hej
    exact ⟨vs,by rw[AJ (Ne.symm hlp),AS],hvs⟩
 rintro τ H1 ⟨ks,u,rfl,g1,hl1,hkl,hfr,hit⟩
 have ow1:=ow.grow g1
 have hAs:∀ b∈as,H b≠none:=fun b hb=>by
  obtain ⟨i,hi⟩:=List.getElem?_of_mem hb
  have hil:=(List.getElem?_eq_some_iff.mp hi).1
  obtain ⟨vs,h1,_⟩:=ow.it i b _ hi (hat (List.getElem?_eq_getElem (show i<E.length by lia)))
  rw[h1]
  exact fun z=>nomatch z
 have hlas:l∉as:=fun z=>hAs l z hl
 have hkas:∀ b∈ks,b∉as:=fun b hb z=>hAs b z (hfr b hb).1
 refine ⟨_,rfl,a,as.map V.ref,rfl,SqL.of ow1.hd,?_⟩
 refine FL E.length (fun i σ Hi=>∃ (x y:Option V),σ=[some (.ref a),some (.ref l),x,y]/\Off as H1 Hi/\OwnR K Hi a as ((mkE E i).map fun e=>e.map thD)) ?_ ?_ ?_ ?_ ?_
 ·refine ⟨none,none,rfl,fun b o _ e=>e,?_⟩
  have:mkE E 0=E:=by
   refine List.ext_getElem? fun j=>?_
   cases hj:E[j]? with
   | none=>
    refine List.getElem?_eq_none ?_
    have:=List.getElem?_eq_none_iff.mp hj
    unfold mkE
    rw[List.length_map,List.length_range]
    exact this
   | some e=>rw[Ec hj,if_neg (Nat.not_lt_zero _),List.append_nil]
  rw[this]
  exact ow1
 ·rintro i σ Hi hi ⟨x,y,rfl,off,ow2⟩
  exact ⟨_,(as.map V.ref)[i]'(by rw[List.length_map];lia),SqL.of ow2.hd,List.getElem?_eq_getElem _⟩
 ·rintro σ Hi ⟨x,y,rfl,off,ow2⟩
  exact ⟨_,SqL.of ow2.hd,by rw[List.length_map];lia⟩
 ·rintro i v σ Hi H' hi ⟨x,y,rfl,off,ow2⟩ ⟨T',z,hT,rfl,rfl,hz⟩
  have hzz:=hz _ (SqL.of ow2.hd)
  have hai:as[i]?=some (as[i]'(by lia)):=List.getElem?_eq_getElem _
  rw[List.getElem?_map,hai] at hzz
  cases hzz
  have hei:E[i]?=some E[i]:=List.getElem?_eq_getElem hi
  have hmi:((mkE E i).map fun e=>e.map thD)[i]?=some (E[i].map thD):=by
   rw[List.getElem?_map,Ec hei,if_neg (Nat.lt_irrefl _),List.append_nil];rfl
  obtain ⟨vs,hb,hvs⟩:=ow2.it i _ _ hai hmi
  have g':Grow Hi (upd Hi T' (.tup [.int i,.ref as[i]])):=.new hT
  refine ⟨T',_,rfl,SqT.of AS,rfl,_,_,rfl,_,_,rfl,rfl,?_⟩
  refine ⟨_,rfl,.inl ⟨rfl,_,SqL.of (g' _ _ hb)⟩,_,rfl,QA,fun T2 hT2=>?_⟩
  have g2:Grow (upd Hi T' (.tup [.int i,.ref as[i]])) (upd (upd Hi T' (.tup [.int i,.ref as[i]])) T2 (.tup [.int i,.str "mark"])):=.new hT2
  have hT2m:(upd (upd Hi T' (.tup [.int i,.ref as[i]])) T2 (.tup [.int i,.str "mark"])) T2=some (.tup [.int i,.str "mark"]):=AS
  have hvl:vs.length<=9000:=by rw[hvs.len,List.length_map];exact he _ (List.getElem_mem hi)
  have G:=g'.trans g2
  have hTas:T2∉as:=fun z=>by
   obtain ⟨j,hj⟩:=List.getElem?_of_mem z
   have hjl:=(List.getElem?_eq_some_iff.mp hj).1
   have hej:E[j]?=some (E[j]'(by lia)):=List.getElem?_eq_getElem _
   obtain ⟨us,h1,_⟩:=ow2.it j T2 _ hj (by rw[List.getElem?_map,Ec hej];rfl)
   have:=g' _ _ h1
   rw[hT2] at this
   cases this
  generalize upd (upd Hi T' (.tup [.int i,.ref as[i]])) T2 (.tup [.int i,.str "mark"])=H2 at G hT2m
  refine ⟨as[i],vs,_,rfl,rfl,G _ _ hb,CW (by lia),?_⟩
  have of2:Off as Hi (upd H2 as[i] (.lst (vs++[.ref T2]))):=fun b o hb' ho=>by
   rw[AJ (fun z=>hb' (by rw[z];exact List.getElem_mem _))]
   exact G _ _ ho
  refine ⟨_,_,rfl,off.trans of2,ow2.nd,ow2.na,of2 _ _ ow2.na ow2.hd,by rw[List.length_map];unfold mkE;rw[List.length_map,List.length_range];exact hal,fun j b e hj hje=>?_⟩
  have hjl:=(List.getElem?_eq_some_iff.mp hj).1
  have hej:E[j]?=some (E[j]'(by lia)):=List.getElem?_eq_getElem _
  rw[List.getElem?_map,Ec hej] at hje
  cases hje
  by_cases c:j=i
  ·subst c
   rw[hai] at hj
   cases hj
   refine ⟨_,AS,?_⟩
   rw[if_pos (Nat.lt_succ_self _)]
   show Reps _ ((E[j]++[mrk j]).map thD) _
   rw[List.map_append]
   refine (hvs.kw of2.kw).append (.cons ?_ .nil)
   unfold mrk thD Rep
   refine ⟨T2,_,rfl,hTas,?_,.cons (by unfold Rep;rfl) (.cons (by unfold Rep;rfl) .nil)⟩
   show (upd H2 _ _) T2=_
   rw[AJ (fun z=>hTas (by rw[z];exact List.getElem_mem _))]
   exact hT2m
  ·have hne:b≠as[i]:=fun z=>by
    rw[z] at hj
    exact c (RE ow2.nd hj hai)
   obtain ⟨us,h1,h2⟩:=ow2.it j b _ hj (by rw[List.getElem?_map,Ec hej];rfl)
   refine ⟨us,by rw[AJ hne];exact G _ _ h1,?_⟩
   have e2:(if j<i+1 then [mrk j] else [])=if j<i then [mrk j] else []:=by
    by_cases d:j<i
    ·rw[if_pos d,if_pos (by lia)]
    ·rw[if_neg d,if_neg (by lia)]
   rw[e2]
   exact h2.kw of2.kw
 rintro σ H3 ⟨x,y,rfl,off,ow3⟩
 have rf:Rep (wQ K H3) (AG (mkE E E.length)) (.ref a):=by
  have:=ow3.rep
  rw[List.map_map] at this
  exact this
 have rk:Rep (wQ K H3) (AG E) (.ref l):=by
  have:=Hq (K:=K) (H:=H3) (E.map fun e=>e.map thD) ks (by rw[List.length_map];exact hkl) fun i b x h1 h2=>by
   rw[List.getElem?_map] at h2
   cases he:E[i]? with
   | none=>rw[he] at h2;cases h2
   | some e=>
    rw[he] at h2
    cases h2
    obtain ⟨vs,q1,q2⟩:=hit i b e h1 he
    exact ⟨vs,off _ _ (hkas b (List.mem_of_getElem? h1)) q1,(q2.kw ((Off.of g1).trans off).kw).kw LS⟩
  rw[List.map_map] at this
  unfold AG Rep
  exact ⟨l,_,rfl,fun z=>z,off _ _ hlas hl1,this⟩
 refine Ep (ds:=[some (AG (mkE E E.length)),some (AG E),none,none]) (.cons rf (.cons rk (.skip (.skip .nil)))) (N1 (by lia) (fun e h=>by have:=he e h;lia) ht) fun v H4 g4 hv=>?_
 unfold Rep at hv
 subst hv
 exact q H4 (((Off.of g1).trans off).trans (Off.of g4))
def C30 (rs:List (List Th)):Prop:=1<=rs.length/\rs.length<=6/\(AH rs).sum<=1200/\∀ r∈rs,∀ t∈r,Tg t.2
open Classical in
def D6:MS:=fun s=>match s.σ with
 | [y0,y1,some (.v R),some (.v W),y4,some (.v R'),_,some (.v (.int k)),y8,_,_,_,_,_,_]=>
  if ∃ rs:List (List Th),k=(rs.length:Int)/\R=AG rs/\R'=AG rs/\W=AE rs.flatten/\C30 rs then
   some (.nx {s with σ:=[y0,y1,some (.v R),some (.v W),y4,some (.v R'),none,some (.v (.int k)),y8,none,none,none,none,none,none]}) else none
 | _=>none
theorem GH {a b:MT} {S S1 S2:DS} (h1:a S=some (false,S1)) (h2:b S1=some (false,S2)):mOr a b S=some (false,S2):=by
 unfold mOr
 rw[h1]
 exact h2
theorem KW {T:String} {m:ME} {S S':DS} {x:SV} (h:m S=some (x,S')) (hl:FM S'.Γ x=true) (ht:isT T (tyD x)=some true):EW (EL (DU T m)) S=some (false,S'):=by
 have:DU T m S=some (.v (.bl true),S'):=by
  unfold DU
  rw[h]
  show (if FM S'.Γ x=true then (isT T (tyD x)).map fun b=>(SV.v (.bl b),S') else none)=_
  rw[if_pos hl,ht]
  rfl
 unfold EW EL
 rw[this]
 rfl
theorem FZ {rs:List (List Th)} {r:List Th} (h:r∈rs):r.length<=(AH rs).sum:=by
 induction rs with
 | nil=>cases h
 | cons c rs ih=>
  show r.length<=c.length+(AH rs).sum
  rcases List.mem_cons.mp h with rfl | h
  ·lia
  ·have:=ih h
   lia
theorem Sb {l:List Int} (n:Nat):(l.map D.int).all (Af n)=true:=by
 rw[List.all_eq_true]
 intro x hx
 obtain ⟨i,_,rfl⟩:=List.mem_map.mp hx
 cases n<;>rfl
theorem SE (l:List (List Int)):Af 6 (.lst (l.map tupI))=true:=by
 show (l.map tupI).all (Af 5)=true
 rw[List.all_eq_true]
 intro x hx
 obtain ⟨ns,_,rfl⟩:=List.mem_map.mp hx
 show (ns.map D.int).all (Af 4)=true
 exact Sb 4
theorem K4 {Γ:Gm} {xs ys:List Th} (h:xs.length+ys.length<=100000):AY Γ (.v (AE xs)) (.v (AE ys))=some (AE (xs++ys)):=by
 show (if (xs.map thD).length+(ys.map thD).length<=big then some (D.lst ((xs.map thD)++(ys.map thD))) else none)=_
 rw[if_pos (by rw[List.length_map,List.length_map,Ao];lia),<-List.map_append]
 rfl
theorem HS {S:DS} {m:ME} {xs:List Th} (h:m S=some (.v (AE xs),S)):AQ Ap (AB m AC) S=some (.v (.int (xs.length:Nat)),S):=CY h (by show some (D.int ((xs.map thD).length:Nat))=_;rw[List.length_map])
theorem LW {S:DS} {m:ME} {xs:List (List Th)} (h:m S=some (.v (AG xs),S)):AQ Ap (AB m AC) S=some (.v (.int (xs.length:Nat)),S):=CY h (by show some (D.int ((xs.map AE).length:Nat))=_;rw[List.length_map])
theorem OS {a b:ME} {T:DS} {m p:Nat} (ha:a T=some (.v (.int m),T)) (hb:b T=some (.v (.int p),T)) (h1:1<=p) (h2:p<=1000):mOp BM a b T=some (.v (.int (m / p:Nat)),T):=by
 refine AO ha hb ?_
 show (if C7 (m:Int) (p:Int)=true then _ else _)=_
 rw[if_pos (show C7 (m:Int) (p:Int)=true from decide_eq_true ⟨by lia,by lia⟩)]
 show some (D.int ((m:Int) / (p:Int)))=_
 rw[<-Int.natCast_ediv]
theorem NL {a b:ME} {T:DS} {m p:Nat} (ha:a T=some (.v (.int m),T)) (hb:b T=some (.v (.int p),T)) (h1:1<=p):mOp BH a b T=some (.v (.int (m % p:Nat)),T):=by
 refine AO ha hb ?_
 show (if Cr (m:Int) (p:Int)=true then _ else _)=_
 rw[if_pos (show Cr (m:Int) (p:Int)=true from decide_eq_true (by lia))]
 show some (D.int ((m:Int) % (p:Int)))=_
 rw[<-Int.natCast_emod]
theorem Fu {Γ:Gm}:∀ (rs:List (List Th)) (v:Option SV),An (Aj 0) mTT (AK (BL CP (AB (AA 0) AC))) (rs.map AE) [v] Γ=some (rs.map AE,Γ)
 | [],_=>rfl
 | r::rs,v=>by
  have i:=Fu (Γ:=Γ) rs (some (.v (AE r)))
  let T:DS:=⟨[some (.v (AE r))],Γ,Γ.length⟩
  have w:AK (BL CP (AB (AA 0) AC)) T=some (.v (AE r),T):=rfl
  rw[List.map_cons]
  show An _ _ _ (AE r::rs.map AE) _ _=_
  unfold An
  rw[show Aj 0 (AE r) (⟨[v],Γ,Γ.length⟩:DS)=some T from rfl]
  simp only[Option.bind_some,mTT,if_true,w]
  rw[show An _ _ _ _ T.σ T.Γ=_ from i,if_pos rfl]
  rfl
section
variable {rs:List (List Th)} (C:C30 rs)
abbrev dsK (rs:List (List Th)) (row tog h many sizes evened:Option D):List (Option D):=[none,none,some (AG rs),some (AE rs.flatten),none,some (AG rs),row,some (.int (rs.length:Nat)),none,some (AG (evR rs)),tog,h,many,sizes,evened]
include C
theorem JT:∀ r∈evR rs,∀ t∈r,Tg t.2:=fun r hr t ht=>by
 have h1:t∈(evR rs).flatten:=List.mem_flatten.mpr ⟨r,hr,ht⟩
 rw[HW C.1] at h1
 obtain ⟨q,hq,hqt⟩:=List.mem_flatten.mp h1
 exact C.2.2.2 q hq t hqt
theorem Eg:(AH (evR rs)).sum=(AH rs).sum:=by rw[EY C.1,Cs C.1]
theorem Pr:∀ t∈rs.flatten,Tg t.2:=fun t ht=>by
 obtain ⟨q,hq,hqt⟩:=List.mem_flatten.mp ht
 exact C.2.2.2 q hq t hqt
theorem Q0 (a b c d e f:Option D):mOr (EW (EL (DU "list" (AA 9)))) (mOr (Aw (mOp BX (AQ Ap (AB (AA 9) AC)) (AA 7))) (Aw (mOp BX (AA 5) (AA 2)))) (slD (dsK rs a b c d e f))=some (false,slD (dsK rs a b c d e f)):=by
 let S:DS:=slD (dsK rs a b c d e f)
 have w:=LW (S:=S) (m:=AA 9) (xs:=evR rs) rfl
 rw[Be] at w
 refine GH (S1:=S) (KW (x:=.v (AG (evR rs))) (S':=S) rfl rfl rfl) (GH (S1:=S) (CF (AO w (y:=.v (.int (rs.length:Nat))) (s2:=S) rfl (DD rfl))) (CF (AO (x:=.v (AG rs)) (y:=.v (AG rs)) (s1:=S) (s2:=S) rfl rfl (DD (GR C.2.2.2)))))
theorem NY {i:Nat} (a b c e f:Option D):mOp AY (mOp BM (AQ Ap (AB (AA 3) AC)) (AA 7)) (AQ CD (AB (mOp Di (AA 11) (mOp BH (AQ Ap (AB (AA 3) AC)) (AA 7))) AC)) (slD (dsK rs a b (some (.int (i:Int))) c e f))=some (.v (.int (((AH rs).sum / rs.length+(if i<(AH rs).sum % rs.length then 1 else 0):Nat):Int)),slD (dsK rs a b (some (.int (i:Int))) c e f)):=by
 let S:DS:=slD (dsK rs a b (some (.int (i:Int))) c e f)
 have w:=HS (S:=S) (m:=AA 3) (xs:=rs.flatten) rfl
 rw[Bn] at w
 have w1:=OS (b:=AA 7) (p:=rs.length) w rfl C.1 (by have:=C.2.1;lia)
 have w2:=NL (b:=AA 7) (p:=rs.length) w rfl C.1
 have w3:mOp Di (AA 11) (mOp BH (AQ Ap (AB (AA 3) AC)) (AA 7)) S=some (.v (.bl (decide ((i:Int)<(((AH rs).sum % rs.length:Nat):Int)))),S):=AO (x:=.v (.int (i:Int))) (s1:=S) rfl w2 rfl
 have w4:=CY (g:=CD) w3 rfl
 refine AO w1 w4 ?_
 show some (D.int (_+(if decide ((i:Int)<(((AH rs).sum % rs.length:Nat):Int))=true then 1 else 0)))=_
 by_cases c:i<(AH rs).sum % rs.length
 ·rw[if_pos c,if_pos (decide_eq_true (by lia))];simp
 ·rw[if_neg c,if_neg (by rw[decide_eq_false (by lia)];exact Bool.false_ne_true)];simp
theorem OQ {i:Nat} {r:List Th} (hr:(evR rs)[i]?=some r) (b c e f:Option D):mOr (EW (EL (DU "list" (AA 6)))) (Aw (mOp BX (AQ Ap (AB (AA 6) AC)) (AA 12))) (slD (dsK rs (some (AE r)) b c (some (.int (((AH rs).sum / rs.length+(if i<(AH rs).sum % rs.length then 1 else 0):Nat):Int))) e f))=some (false,slD (dsK rs (some (AE r)) b c (some (.int (((AH rs).sum / rs.length+(if i<(AH rs).sum % rs.length then 1 else 0):Nat):Int))) e f)):=by
 let S:DS:=slD (dsK rs (some (AE r)) b c (some (.int (((AH rs).sum / rs.length+(if i<(AH rs).sum % rs.length then 1 else 0):Nat):Int))) e f)
 have hi:i<rs.length:=by have:=(List.getElem?_eq_some_iff.mp hr).1;rw[Be] at this;exact this
 have hlen:r.length=(AH rs).sum / rs.length+(if i<(AH rs).sum % rs.length then 1 else 0):=by
  rw[<-Pw hi,<-EY C.1]
  exact (Iy hr).symm
 have w:=HS (S:=S) (m:=AA 6) (xs:=r) rfl
 rw[hlen] at w
 exact GH (S1:=S) (KW (x:=.v (AE r)) (S':=S) rfl rfl rfl) (CF (AO w (y:=.v (.int (((AH rs).sum / rs.length+(if i<(AH rs).sum % rs.length then 1 else 0):Nat):Int))) (s2:=S) rfl (DD rfl)))
theorem P9 (a b c d e f:Option D):A7 (Aq (AA 2)) 1 [] (Aj 0) mTT (AQ Ap (AB (AA 0) AC)) (slD (dsK rs a b c d e f))=some (AN (AH rs),slD (dsK rs a b c d e f)):=by
 let S:DS:=slD (dsK rs a b c d e f)
 exact CC (mi:=Aq (AA 2)) (nt:=1) (ix:=[]) (s:=S) (s':=S) (items:=rs.map AE) (Γ':=S.Γ) rfl (by have:=C.2.1;rw[List.length_map,Ao];lia) (Fs rs none)
theorem Nh (a b c d e f:Option D):A7 (Aq (AA 9)) 1 [] (Aj 0) mTT (AK (BL CP (AB (AA 0) AC))) (slD (dsK rs a b c d e f))=some ((evR rs).map AE,slD (dsK rs a b c d e f)):=by
 let S:DS:=slD (dsK rs a b c d e f)
 exact CC (mi:=Aq (AA 9)) (nt:=1) (ix:=[]) (s:=S) (s':=S) (items:=(evR rs).map AE) (Γ':=S.Γ) rfl (by have:=C.2.1;rw[List.length_map,Be,Ao];lia) (Fu (evR rs) none)
theorem Q5 (a c d f:Option D):mOr (Aw (mOp BX (AA 10) (AA 3))) (Aw (mOp BX (AK (Ay Da (AB (AA 2) (AB (AA 9) AC)))) (AK (Ay Mem (AB (AA 13) AC))))) (slD (dsK rs a (some (AE rs.flatten)) c d (some (.lst (AN (AH rs)))) f))=some (false,slD (dsK rs a (some (AE rs.flatten)) c d (some (.lst (AN (AH rs)))) f)):=by
 let S:DS:=slD (dsK rs a (some (AE rs.flatten)) c d (some (.lst (AN (AH rs)))) f)
 have hsum:=C.2.2.1
 have w1:=A1 (Ft (M:=Da) (m:=AA 2) (n:=AA 9) (x:=.v (AG rs)) (y:=.v (AG (evR rs))) (s:=S) (s1:=S) (s2:=S) rfl rfl (Nb (Γ:=S.Γ) C.1 (by have:=C.2.1;lia) (fun r hr=>by have:=FZ hr;lia) (fun r hr=>by have:=FZ hr;rw[Eg C] at this;lia) (by lia)))
 have hll:(AH rs).length=rs.length:=List.length_map _
 have w2:=A1 (CZ (M:=Mem) (m:=AA 13) (x:=.v (.lst (AN (AH rs)))) (s:=S) (s':=S) rfl (Pf (zs:=AH rs) (Γ:=S.Γ) (by rw[hll];exact C.1) (by have:=C.2.1;lia)))
 refine GH (S1:=S) (CF (AO (x:=.v (AE rs.flatten)) (y:=.v (AE rs.flatten)) (s1:=S) (s2:=S) rfl rfl (DD (J2 (Pr C) 4)))) (CF (AO w1 w2 (DD (SE _))))
theorem QB (a b c d e:Option D):Aw (mOp BX (AK (Ay Mer (AB (AA 14) AC))) (AA 9)) (slD (dsK rs a b c d e (some (AG (evR rs)))))=some (false,slD (dsK rs a b c d e (some (AG (evR rs))))):=by
 let S:DS:=slD (dsK rs a b c d e (some (AG (evR rs))))
 have e:=TV (rs:=evR rs) (Γ:=S.Γ) (by rw[Be];exact C.1) (by rw[Be];have:=C.2.1;lia) (by rw[Eg C];have:=C.2.2.1;lia)
 rw[OV C.1] at e
 have w:=A1 (CZ (M:=Mer) (m:=AA 14) (x:=.v (AG (evR rs))) (s:=S) (s':=S) rfl e)
 exact CF (AO w (y:=.v (AG (evR rs))) (s2:=S) rfl (DD (GR (JT C))))
theorem NB {u:Option D} (a b c d e f:Option D):Aw (mOp BX (AA 5) (AA 2)) (slD [none,none,some (AG rs),some (AE rs.flatten),none,some (AG rs),a,some (.int (rs.length:Nat)),none,u,b,c,d,e,f])=some (false,slD [none,none,some (AG rs),some (AE rs.flatten),none,some (AG rs),a,some (.int (rs.length:Nat)),none,u,b,c,d,e,f]):=by
 let S:DS:=slD [none,none,some (AG rs),some (AE rs.flatten),none,some (AG rs),a,some (.int (rs.length:Nat)),none,u,b,c,d,e,f]
 exact CF (AO (x:=.v (AG rs)) (y:=.v (AG rs)) (s1:=S) (s2:=S) rfl rfl (DD (GR C.2.2.2)))
end
theorem RJ {rs:List (List Th)} {xs ys:List Th} (h:xs.length+ys.length<=100000) (c d e f:Option D):mOp AY (AA 10) (AA 6) (slD (dsK rs (some (AE ys)) (some (AE xs)) c d e f))=some (.v (AE (xs++ys)),slD (dsK rs (some (AE ys)) (some (AE xs)) c d e f)):=by
 let S:DS:=slD (dsK rs (some (AE ys)) (some (AE xs)) c d e f)
 exact AO (x:=.v (AE xs)) (y:=.v (AE ys)) (s1:=S) (s2:=S) rfl rfl (K4 h)
abbrev Ct:Stmt:=top 16
abbrev D1:List Str:=["script","pool","rows","whole","cut","handed","row","hands","again","found","together","h","many","sizes","evened"]
theorem sc_law:FnScope D1 ["script"] (AW Ct):=⟨rfl,rfl,rfl,by decide +kernel,rfl,by decide +kernel,by decide +kernel⟩
theorem Cq {p q:Prop} (h:q):if false=true then p else q:=by rw[if_neg Bool.false_ne_true];exact h
theorem PL {X:Cx} {a b c d e g h i:Stmt} {ta tb tc td te tg th ti:TS} {m:MS} (ha:PS X a ta) (hb:PS X b tb) (hc:PS X c tc) (hd:PS X d td) (he:PS X e te) (hg:PS X g tg) (hh:PS X h th) (hi:PS X i ti)
  (k:∀ (f:Fr),f.K=X.K->∀ E σ H,tDS f m E σ H->CO ta (CO tb (CO tc (CO td (CO te (CO tg (CO th ti)))))) E σ H):DSs X [a,b,c,d,e,g,h,i] m:=
 fun f hf=>PSs.imp (BW ha (BW hb (BW hc (BW hd (BW he (BW hg (BW hh (Bb hi)))))))) (k f hf)
theorem Jk {X:Cx} {K:PySem.W.Frag} {i:Nat} {y:Str} {py sp:Pos} {elt tg src:Expr} {tests:List Expr} {sc esc:Scope} {cp:Pos} {N tn fn:List Str} {ix:List Nat} {mi:MF} {g:MG} {t:MT} {e:ME} (hk:X.K=K) (hnd:X.N.Nodup) (hiy:X.N[i]?=some y) (hy:X.env.scope.names.lookup y=some .local) (hc:X.calm=true) (hsc:X.env.scope=esc) (hN:X.N=N) (ok:CompOk sc esc N fn ix) (hi:DI X tg src mi)
  (hg:∀ s2 H2 cl C fp,DG (As X (tn++fn) sc s2 H2 cl C fp) tg g)
  (ht:∀ s2 H2 cl C fp,DTs (As X (tn++fn) sc s2 H2 cl C fp) tests t)
  (he:∀ s2 H2 cl C fp,DE (As X (tn++fn) sc s2 H2 cl C fp) elt e)
  (hsw:swapsWith (.ListComp elt [⟨tg,src,tests,0⟩] sc cp) (some (.Name y py)) sp.line X.env=pure true:=by rfl)
  (hs:∀ x,foldedSetIterable src X.env x=pure x:=by intro _;rfl):PS X (.Assign [.Name y py] (.ListComp elt [⟨tg,src,tests,0⟩] sc cp) sp) (fun D σ H=>xF K (A7 mi tn.length ix g t e) σ H fun v H'=>D.nx (σ.set i (some v)) H'):=fun pins s σ H D I hh_=>by
 obtain ⟨f,hf,q⟩:=hh_
 subst hk
 refine Im (g:=xG X.K g) (tc:=xT X.K t) (te:=xD X.K e) hnd hiy hy hc hsc hN ok (hi f hf) (fun s2 H2 cl C fp=>(hg s2 H2 cl C fp).x) (fun s2 H2 cl C fp=>(ht s2 H2 cl C fp).x) (fun s2 H2 cl C fp=>(he s2 H2 cl C fp).x) hsw hs pins s σ H D I ?_
 rw[<-hf]
 exact Gf q
def LO:MS:=(AX 3 (mOp AY (AA 3) (AA 6)))
def Ef (zF:MDF) (zQ:MDF) (zB:MD) (zR:MDF):MS:=(AL (BF 1 (Ay zF (AB (AA 0) (AB (mC (.int 0)) AC))))
 (AL (AX 2 (AK (Ay zQ (AB (AA 0) (AB (mOp AY (mC (.int 1)) (Av zB (AB (AA 1) (AB (mC (.int 6)) AC)))) (AB (mOp gIx (AK (AR (AB (mC (.int 12)) (AB (mC (.int 200)) AC)))) (AQ CD (AB (mOp BP (Av zB (AB (AA 1) (AB (mC (.int 8)) AC))) (mC (.int 1))) AC))) AC))))))
 (AL (mIf (Aw (mOp BP (Av zB (AB (AA 1) (AB (mC (.int 2)) AC))) (mC (.int 0)))) (AL (AX 3 (AK (Ay zR (AB (AK (A7 (Aq (AA 2)) 1 [] (Aj 0) mTT (AK (BL CP (AB (AA 0) AC))))) AC))))
 (AL (AX 4 (Av zB (AB (AA 1) (AB (mOp AY (AQ Ap (AB (AA 3) AC)) (mC (.int 1))) AC))))
 (AX 2 (AK (BI Ci (AK (AR (AB (mSl (AA 3) none (some (AA 4))) (AB (mSl (AA 3) (some (AA 4)) none) AC)))) (AK (A7 (Aq (mSl (AA 2) (some (mC (.int 2))) none)) 1 [] (Aj 0) mTT (AK (AR AC))))))))) Dg)
 (AL (AX 5 (AK (A7 (Aq (AA 2)) 1 [] (Aj 0) mTT (AK (BL CP (AB (AA 0) AC))))))
 (AL (AX 3 (AK (AR AC)))
 (AL (Bd (Aq (AA 2)) (Aj 6) LO)
 (AL (AX 7 (AQ Ap (AB (AA 2) AC)))
 (AL (Bd (C8 (AB (mC (.int 2)) AC)) (Aj 8) D6)
 (DH (mC (.bl true)))))))))))
theorem RK {P:Program} {w:World} {K:PySem.W.Frag} {mg:Str->Option Value} {base:Heap} {fa:Addr} {fd:FuncData} (F:Fun K "law" "law" Ct fa fd) (T:Nm mg) {zZ:Addr} {yA:FuncData} {zF:MDF} (zH:Cal P w K mg base "_law_pool" 1 zZ yA ["script","k"] (spF K 2 zF)) {yL:Addr} {yM:FuncData} {zQ:MDF} (zS:Cal P w K mg base "_law_rows" 2 yL yM ["script","hands","most"] (spF K 3 zQ)) {yB:Addr} {yC:FuncData} {zB:MD} (zA:Cal P w K mg base "_law_draw" 1 yB yC ["pool","many"] (spD K 2 zB)) {yN:Addr} {yO:FuncData} {zR:MDF} (zT:Cal P w K mg base "sorted_plainly" 3 yN yO ["rows"] (spF K 1 zR)) {yD:Addr} {yE:FuncData} (zU:Cal P w K mg base "even_rows" 3 yD yE ["rows"] (spF K 1 Mer)) (cn_even_rows:Cal P w K mg base "even_rows" 3 yD yE ["rows"] (Hj K)) {yP:Addr} {yQ:FuncData} (zV:Cal P w K mg base "_law_counted" 1 yP yQ ["rows","found"] (spF K 2 Da)) {yR:Addr} {yS:FuncData} (zW:Cal P w K mg base "even_moves" 3 yR yS ["sizes"] (spF K 1 Mem)) {yT:Addr} {yU:FuncData} (cn__law_marked:Cal P w K mg base "_law_marked" 1 yT yU ["found"] (Gc K)):FnOk P w K mg base CX0 4 fa fd ["script"] (spD K 1 (mFn 15 (Ef zF zQ zB zR))):=
 IR F sc_law fun cdv A outer s H E hr=>(AU (Cg (fun te h=>Ad (i:=1) sc_law.nd rfl (Or.inl rfl) h) (Bi zH.G (hr.mono (by decide)) rfl zH.m zH.k zH.b (AF (AD (pv 0)) (AF AM AI)) (Aa (Aa A2))))
 (AU (A5 (fun te h=>Ad (i:=2) sc_law.nd rfl (Or.inl rfl) h) (Ab (Bi zS.G (hr.mono (by decide)) rfl zS.m zS.k zS.b (AF (AD (pv 0)) (AF (BK AM (CU zA.G (hr.mono (by decide)) rfl zA.m zA.k zA.b (AF (AD (pv 1)) (AF AM AI)) (Aa (Aa A2)))) (AF (BE (Ab (A9 (AF AM (AF AM AI)))) (HC T (AF (Je hr.units (CU zA.G (hr.mono (by decide)) rfl zA.m zA.k zA.b (AF (AD (pv 1)) (AF AM AI)) (Aa (Aa A2))) AM) AI))) AI))) (Aa (Aa (Aa A2))))))
 (AU (GC (JE hr.units (CU zA.G (hr.mono (by decide)) rfl zA.m zA.k zA.b (AF (AD (pv 1)) (AF AM AI)) (Aa (Aa A2))) AM) (AU (A5 (fun te h=>Ad (i:=3) sc_law.nd rfl (Or.inl rfl) h) (Ab (Bi zT.G hr rfl zT.m zT.k zT.b (AF (Ab (Cy (esc:=(AW Ct)) (N:=D1) (tn:=["row"]) (fn:=[]) (ix:=[]) rfl rfl rfl ⟨rfl,by decide +kernel,by decide +kernel,by decide +kernel,rfl,by decide +kernel⟩ (Bt (AD (pv 2))) (fun _ _ _ _ _=>(Bq (AV (i:=0) (show (["row"]:List Str).Nodup by decide +kernel) rfl (Or.inl rfl)))) (fun _ _ _ _ _=>B8) (fun _ _ _ _ _=>(Ab (Gw T (AF (AD (pv 0)) AI)))))) AI) (Aa A2))))
 (AU (A5 (fun te h=>Ad (i:=4) sc_law.nd rfl (Or.inl rfl) h) (CU zA.G (hr.mono (by decide)) rfl zA.m zA.k zA.b (AF (AD (pv 1)) (AF (BK (Bp T (AF (AD (pv 3)) AI)) AM) AI)) (Aa (Aa A2))))
 (Az (A5 (fun te h=>Ad (i:=2) sc_law.nd rfl (Or.inl rfl) h) (Ab (JR (Ab (A9 (AF (GE (AD (pv 3)) Ho (Er (AD (pv 4)))) (AF (GE (AD (pv 3)) (Er (AD (pv 4))) Ho) AI)))) (Ab (Cy (esc:=(AW Ct)) (N:=D1) (tn:=["row"]) (fn:=[]) (ix:=[]) rfl rfl rfl ⟨rfl,by decide +kernel,by decide +kernel,by decide +kernel,rfl,by decide +kernel⟩ (Bt (GE (AD (pv 2)) (Er AM) Ho)) (fun _ _ _ _ _=>(Bq (AV (i:=0) (show (["row"]:List Str).Nodup by decide +kernel) rfl (Or.inl rfl)))) (fun _ _ _ _ _=>B8) (fun _ _ _ _ _=>(Ab (A9 AI))))))))))) FN)
 (AU (SR (i:=5) sc_law.nd rfl rfl (esc:=(AW Ct)) (N:=D1) (tn:=["row"]) (fn:=[]) (ix:=[]) rfl rfl rfl ⟨rfl,by decide +kernel,by decide +kernel,by decide +kernel,rfl,by decide +kernel⟩ (Bt (AD (pv 2))) (fun _ _ _ _ _=>(Bq (AV (i:=0) (show (["row"]:List Str).Nodup by decide +kernel) rfl (Or.inl rfl)))) (fun _ _ _ _ _=>B8) (fun _ _ _ _ _=>(Ab (Gw T (AF (AD (pv 0)) AI)))))
 (AU (A5 (fun te h=>Ad (i:=3) sc_law.nd rfl (Or.inl rfl) h) (Ab (A9 AI)))
 (AU (CB PassesOwn.never rfl (Bt (AD (pv 2))) (Bq (AV (i:=6) sc_law.nd rfl (Or.inl rfl))) (Az (A5 (fun te h=>Ad (i:=3) sc_law.nd rfl (Or.inl rfl) h) (BK (AD (pv 3)) (AD (pv 6))))))
 (AU (A5 (fun te h=>Ad (i:=7) sc_law.nd rfl (Or.inl rfl) h) (Bp T (AF (AD (pv 2)) AI)))
 (AU (CB PassesOwn.never rfl (Hr rfl T.range (AF AM AI)) (Bq (AV (i:=8) sc_law.nd rfl (Or.inl rfl))) (PL (m:=D6)
  (Ad (i:=9) sc_law.nd rfl (Or.inl rfl) (GQ cn_even_rows.G hr rfl cn_even_rows.m cn_even_rows.k cn_even_rows.b .nil FC (Ax (pv 5) BB)))
  (Dz (DT.xK (K:=K) rfl (Fc (FQ (K1 (Jb (Lu T (AD (pv 9))))) (FQ (C2 hr.units (Bp T (AF (AD (pv 9)) AI)) (AD (pv 7))) (Ha (C2 hr.units (AD (pv 5)) (AD (pv 2)))))))) (Bb (Cn Em)) Ds)
  (Ad (i:=10) sc_law.nd rfl (Or.inl rfl) (DE.xK (K:=K) rfl (Ab (A9 AI))))
  (EX PassesOwn.never rfl (IP rfl T.enum (Ax (pv 9) BB)) (Bl (K:=K) (n:=2) rfl rfl (Am (AV (i:=11) sc_law.nd rfl (Or.inl rfl)) (Am (AV (i:=6) sc_law.nd rfl (Or.inl rfl)) Bk)))
   (BW (Ad (i:=12) sc_law.nd rfl (Or.inl rfl) (DE.xK (K:=K) rfl (BK (DN (Bp T (AF (AD (pv 3)) AI)) (AD (pv 7))) (HC T (AF (Tc hr.units0 (AD (pv 11)) (Cp (Bp T (AF (AD (pv 3)) AI)) (AD (pv 7)))) AI)))))
   (BW (Dz (DT.xK (K:=K) rfl (Fc (FQ (K1 (Jb (Lu T (AD (pv 6))))) (Ha (C2 hr.units (Bp T (AF (AD (pv 6)) AI)) (AD (pv 12))))))) (Bb (Cn Em)) Ds)
   (Bb (Ad (i:=10) sc_law.nd rfl (Or.inl rfl) (DE.xK (K:=K) rfl (BK (AD (pv 10)) (AD (pv 6)))))))))
  (Jk (K:=K) (i:=13) rfl sc_law.nd rfl rfl (esc:=(AW Ct)) (N:=D1) (tn:=["row"]) (fn:=[]) (ix:=[]) rfl rfl rfl ⟨rfl,by decide +kernel,by decide +kernel,by decide +kernel,rfl,by decide +kernel⟩ (Bt (AD (pv 2))) (fun _ _ _ _ _=>(Bq (AV (i:=0) (show (["row"]:List Str).Nodup by decide +kernel) rfl (Or.inl rfl)))) (fun _ _ _ _ _=>B8) (fun _ _ _ _ _=>(Bp T (AF (AD (pv 0)) AI))))
  (Dz (DT.xK (K:=K) rfl (Fc (FQ (C2 hr.units (AD (pv 10)) (AD (pv 3))) (Ha (C2 hr.units (Ab (Bi zV.G (hr.mono (by decide)) rfl zV.m zV.k zV.b (AF (AD (pv 2)) (AF (AD (pv 9)) AI)) (Aa (Aa A2)))) (Ab (Bi zW.G hr rfl zW.m zW.k zW.b (AF (AD (pv 13)) AI) (Aa A2)))))))) (Bb (Cn Em)) Ds)
  (Jk (K:=K) (i:=14) rfl sc_law.nd rfl rfl (esc:=(AW Ct)) (N:=D1) (tn:=["row"]) (fn:=[]) (ix:=[]) rfl rfl rfl ⟨rfl,by decide +kernel,by decide +kernel,by decide +kernel,rfl,by decide +kernel⟩ (Bt (AD (pv 9))) (fun _ _ _ _ _=>(Bq (AV (i:=0) (show (["row"]:List Str).Nodup by decide +kernel) rfl (Or.inl rfl)))) (fun _ _ _ _ _=>B8) (fun _ _ _ _ _=>(Ab (Gw T (AF (AD (pv 0)) AI)))))
  (Dz (PW.pt (Hg (DT.xK (K:=K) rfl (C2 hr.units (Ab (Bi zU.G hr rfl zU.m zU.k zU.b (AF (AD (pv 14)) AI) (Aa A2))) (AD (pv 9)))) (Hg (MN (P5 (GQ cn__law_marked.G (hr.mono (by decide)) rfl cn__law_marked.m cn__law_marked.k cn__law_marked.b .nil FC (Ax (pv 9) BB)))) (Jl (DT.xK (K:=K) rfl (C2 hr.units (AD (pv 5)) (AD (pv 2)))))))) (Bb (Cn Em)) Ds)
  (by
   intro f hf E' σ' H' h
   obtain ⟨α,S,o,rS,lo,e,q⟩:=h
   unfold D6 at e
   split at e
   case h_2=>cases e
   rename_i y0 y1 R W y4 R' y6 k y8 y9 y10 y11 y12 y13 y14 hS
   split at e
   case isFalse=>cases e
   rename_i hx
   cases e
   obtain ⟨rs,rfl,rfl,rfl,rfl,C⟩:=hx
   have hfK:f.K=K:=hf
   have hl15:σ'.length=15:=by rw[<-rS.len,hS];rfl
   obtain ⟨z0,z1,z2,z3,z4,z5,z6,z7,z8,z9,z10,z11,z12,z13,z14,rfl⟩:∃ z0 z1 z2 z3 z4 z5 z6 z7 z8 z9 z10 z11 z12 z13 z14,σ'=[z0,z1,z2,z3,z4,z5,z6,z7,z8,z9,z10,z11,z12,z13,z14]:=by
    match σ',hl15 with
    | [z0,z1,z2,z3,z4,z5,z6,z7,z8,z9,z10,z11,z12,z13,z14],_=>exact ⟨_,_,_,_,_,_,_,_,_,_,_,_,_,_,_,rfl⟩
   obtain ⟨v2,hv2,rv2⟩:=rS.tree (i:=2) (d:=AG rs) (by rw[hS];rfl)
   obtain ⟨v3,hv3,rv3⟩:=rS.tree (i:=3) (d:=AE rs.flatten) (by rw[hS];rfl)
   obtain ⟨v5,hv5,rv5⟩:=rS.tree (i:=5) (d:=AG rs) (by rw[hS];rfl)
   obtain ⟨v7,hv7,rv7⟩:=rS.tree (i:=7) (d:=.int (rs.length:Nat)) (by rw[hS];rfl)
   rw[hfK] at rv2 rv3 rv5 rv7
   cases hv2
   cases hv3
   cases hv5
   cases hv7
   unfold Rep at rv7
   subst rv7
   have hC1:=C.1
   have hC2:=C.2.1
   have hC3:=C.2.2.1
   refine ⟨_,rfl,rs,v5,rfl,rv5,⟨C.1,by lia,by lia⟩,fun a as H1 hN=>?_⟩
   have ow:=hN.own
   have g1:=hN.mono
   have rf1:Rep (wQ K H1) (AG (evR rs)) (.ref a):=by
    have:=ow.rep
    rw[List.map_map] at this
    exact this
   have mk:∀ {H2:Hp} {a6 a10 a11 a12 a13 a14:Option V} {d6 d10 d11 d12 d13 d14:Option D},Grow H1 H2->Sl K H2 [d6,d10,d11,d12,d13,d14] [a6,a10,a11,a12,a13,a14] ->
     Sl K H2 (dsK rs d6 d10 d11 d12 d13 d14) [z0,z1,some v2,some v3,z4,some v5,a6,some (.int (rs.length:Nat)),z8,some (.ref a),a10,a11,a12,a13,a14]:=fun {H2 a6 a10 a11 a12 a13 a14 d6 d10 d11 d12 d13 d14} g h=>by
    have G:=g1.trans g
    refine ⟨rfl,fun i d e=>?_⟩
    match i,e with
    | 2,e=>cases e;exact ⟨v2,rfl,rv2.kw G.kw⟩
    | 3,e=>cases e;exact ⟨v3,rfl,rv3.kw G.kw⟩
    | 5,e=>cases e;exact ⟨v5,rfl,rv5.kw G.kw⟩
    | 6,e=>exact h.slot 0 d e
    | 7,e=>cases e;exact ⟨_,rfl,by unfold Rep;rfl⟩
    | 9,e=>cases e;exact ⟨_,rfl,rf1.kw g.kw⟩
    | 10,e=>exact h.slot 1 d e
    | 11,e=>exact h.slot 2 d e
    | 12,e=>exact h.slot 3 d e
    | 13,e=>exact h.slot 4 d e
    | 14,e=>exact h.slot 5 d e
    | i+15,e=>cases e
   refine Eo (mk .refl (.skip (.skip (.skip (.skip (.skip (.skip .nil))))))) (Q0 C none none none none none none) fun H2 g2=>Cq ?_
   refine Ep (mk g2 (.skip (.skip (.skip (.skip (.skip (.skip .nil))))))) (nil_of (s:=slD (dsK rs none none none none none none))) fun tv H3 g3 rt=>?_
   have G3:=g2.trans g3
   have rf2:=rf1
   unfold AG Rep at rf2
   obtain ⟨a',fvs,ea,-,hfa,hfv⟩:=rf2
   cases ea
   have hfa:H1 a=some (.lst fvs):=hfa
   have hfl:fvs.length=rs.length:=by rw[hfv.len,List.length_map,Be]
   refine ⟨_,rfl,a,fvs,rfl,SqL.of (G3 _ _ hfa),?_⟩
   refine FL rs.length (fun i σ Hi=>∃ (x6 x11 x12:Option V) (tv:V),σ=[z0,z1,some v2,some v3,z4,some v5,x6,some (.int (rs.length:Nat)),z8,some (.ref a),some tv,x11,x12,z13,z14]/\Grow H3 Hi/\Rep (wQ K Hi) (AE ((evR rs).take i).flatten) tv) ?_ ?_ ?_ ?_ ?_
   ·exact ⟨_,_,_,tv,rfl,.refl,rt⟩
   ·rintro i σ Hi hi ⟨x6,x11,x12,tv,rfl,g,rt⟩
    exact ⟨fvs,fvs[i]'(by lia),SqL.of (g _ _ (G3 _ _ hfa)),List.getElem?_eq_getElem _⟩
   ·rintro σ Hi ⟨x6,x11,x12,tv,rfl,g,rt⟩
    exact ⟨fvs,SqL.of (g _ _ (G3 _ _ hfa)),by lia⟩
   ·rintro i v σ Hi H'' hi ⟨x6,x11,x12,tv,rfl,g,rt⟩ ⟨T',z,hT,rfl,rfl,hz⟩
    have hzz:=hz _ (SqL.of (g _ _ (G3 _ _ hfa)))
    obtain ⟨d,hd1,hd2⟩:=hfv.get' hzz
    have hir:(evR rs)[i]?=some ((evR rs)[i]'(by rw[Be];exact hi)):=List.getElem?_eq_getElem _
    rw[List.getElem?_map,hir] at hd1
    cases hd1
    have g4:Grow Hi (upd Hi T' (.tup [.int i,z])):=.new hT
    have G4:=(G3.trans g).trans g4
    refine ⟨T',_,rfl,SqT.of AS,rfl,_,_,rfl,_,_,rfl,rfl,?_⟩
    refine Ep (mk G4 (.cons (hd2.kw G4.kw) (.cons (rt.kw g4.kw) (.cons (d:=.int (i:Int)) (by unfold Rep;rfl) (.skip (.skip (.skip .nil))))))) (NY C _ _ none none none) fun mv H5 g5 rm=>?_
    unfold Rep at rm
    subst rm
    have G5:=G4.trans g5
    refine Eo (mk G5 (.cons (hd2.kw G5.kw) (.cons ((rt.kw g4.kw).kw g5.kw) (.skip (.cons (by unfold Rep;rfl) (.skip (.skip .nil))))))) (OQ C hir _ none none none) fun H6 g6=>Cq ?_
    have G6:=G5.trans g6
    have hle:=FZ (List.getElem_mem (show i<(evR rs).length by rw[Be];exact hi))
    rw[Eg C] at hle
    have hle2:((evR rs).take i).flatten.length<=(AH rs).sum:=by
     have e2:(evR rs).flatten=((evR rs).take i).flatten++((evR rs).drop i).flatten:=by rw[<-List.flatten_append,List.take_append_drop]
     have e3:=Bn (evR rs)
     rw[Eg C,e2,List.length_append] at e3
     lia
    refine Ep (mk G6 (.cons (hd2.kw G6.kw) (.cons (((rt.kw g4.kw).kw g5.kw).kw g6.kw) (.skip (.skip (.skip (.skip .nil))))))) (RJ (by lia) none none none none) fun tw H7 g7 rw7=>?_
    refine ⟨_,_,_,tw,rfl,(((g.trans g4).trans g5).trans g6).trans g7,?_⟩
    rw[show ((evR rs).take (i+1)).flatten=((evR rs).take i).flatten++(evR rs)[i]'(by rw[Be];exact hi) by rw[List.take_add_one,hir,List.flatten_append];simp]
    exact rw7
   rintro σ H4 ⟨x6,x11,x12,tv,rfl,g4,rt⟩
   rw[<-Be rs,List.take_length,HW C.1] at rt
   have G4:=G3.trans g4
   refine Lh (mk G4 (.skip (.cons rt (.skip (.skip (.skip (.skip .nil))))))) (xs:=AN (AH rs)) (s':=slD (dsK rs none (some (AE rs.flatten)) none none none none)) (P9 C none (some (AE rs.flatten)) none none none none) fun sa svs H5 g5 hsa hsv=>?_
   have g5':Grow H4 (upd H5 sa (.lst svs)):=g5.trans (.new hsa)
   have G5:=G4.trans g5'
   have rs5:Rep (wQ K (upd H5 sa (.lst svs))) (.lst (AN (AH rs))) (.ref sa):=by
    unfold Rep
    exact ⟨sa,svs,rfl,fun z=>z,AS,hsv.kw (Grow.new hsa).kw⟩
   refine Eo (mk G5 (.skip (.cons (rt.kw g5'.kw) (.skip (.skip (.cons rs5 (.skip .nil))))))) (Q5 C none none none none) fun H6 g6=>Cq ?_
   have G6:=G5.trans g6
   refine Lh (mk G6 (.skip (.skip (.skip (.skip (.skip (.skip .nil))))))) (xs:=(evR rs).map AE) (s':=slD (dsK rs none none none none none none)) (Nh C none none none none none none) fun ea evs H7 g7 hea hev=>?_
   have g7':Grow H6 (upd H7 ea (.lst evs)):=g7.trans (.new hea)
   have G7:=G6.trans g7'
   have re7:Rep (wQ K (upd H7 ea (.lst evs))) (AG (evR rs)) (.ref ea):=by
    unfold AG Rep
    exact ⟨ea,evs,rfl,fun z=>z,AS,hev.kw (Grow.new hea).kw⟩
   refine Eo (mk G7 (.skip (.skip (.skip (.skip (.skip (.cons re7 .nil))))))) (QB C none none none none none) fun H8 g8=>Cq ?_
   have G8:=G7.trans g8
   refine ⟨_,rfl,evR rs,a,as,rfl,ow.grow G8,by rw[Be];lia,fun e he=>by have:=FZ he;rw[Eg C] at this;lia,JT C,fun H9 off=>⟨true,rfl,Cq ?_⟩⟩
   have hoff:∀ b o,H' b=some o->b∉as:=fun b o e z=>by rw[hN.fs b z] at e;cases e
   have G9:Grow H' H9:=fun b o e=>off b o (hoff b o e) (G8 b o (g1 b o e))
   refine Eo (ds:=[none,none,some (AG rs),some (AE rs.flatten),none,some (AG rs),none,some (.int (rs.length:Nat)),none,none,none,none,none,none,none]) (.skip (.skip (.cons (rv2.kw G9.kw) (.cons (rv3.kw G9.kw) (.skip (.cons (rv5.kw G9.kw) (.skip (.cons (by unfold Rep;rfl) (.skip (.skip (.skip (.skip (.skip (.skip (.skip .nil))))))))))))))) (NB C none none none none none none) fun H10 g10=>Cq ?_
   have G10:=G9.trans g10
   obtain ⟨rS5,ex5⟩:=rS.grow G10
   refine q α _ _ (rS5.slots (τ:=[y0,y1,some (.v (AG rs)),some (.v (AE rs.flatten)),y4,some (.v (AG rs)),none,some (.v (.int (rs.length:Nat))),y8,none,none,none,none,none,none]) rfl ?_) rfl ex5
   intro i d hd
   have hs:=fun (hh:S.σ[i]?=some (some d))=>rS5.slot i d hh
   rw[hS] at hs
   match i,hd with
   | 0,hd=>exact hs hd
   | 1,hd=>exact hs hd
   | 2,hd=>exact hs hd
   | 3,hd=>exact hs hd
   | 4,hd=>exact hs hd
   | 5,hd=>exact hs hd
   | 6,hd=>cases hd
   | 7,hd=>exact hs hd
   | 8,hd=>exact hs hd
   | 9,hd=>cases hd
   | 10,hd=>cases hd
   | 11,hd=>cases hd
   | 12,hd=>cases hd
   | 13,hd=>cases hd
   | 14,hd=>cases hd
   | i+15,hd=>cases hd)))
 (Az (GB SI))))))))))
theorem SF {M:MDF} {a b c:ME} {s s1 s2 s3:DS} {x y w:SV} {z:List D} {Γ':Gm} (h1:a s=some (x,s1)) (h2:b s1=some (y,s2)) (h3:c s2=some (w,s3)) (hg:M [x,y,w] s3.Γ=some (z,Γ')):Ay M (AB a (AB b (AB c AC))) s=some (z,{s3 with Γ:=Γ'}):=by
 unfold Ay AB AC;rw[h1];show (((b s1).bind _).map _).bind _=_;rw[h2];show ((((c s2).bind _).map _).map _).bind _=_;rw[h3];show (M [x,y,w] s3.Γ).map _=_;rw[hg];rfl
theorem MP {α:Type} {xs:List α} {l u:Option Int} {x:α} (h:x∈Bm xs l u):x∈xs:=List.mem_of_mem_drop (List.mem_of_mem_take h)
theorem Mo {Γ:Gm}:∀ (rs:List (List Th)) (v:Option SV),An (Aj 0) mTT (AK (AR AC)) (rs.map AE) [v] Γ=some ((rs.map fun _=>([]:List Th)).map AE,Γ)
 | [],_=>rfl
 | r::rs,v=>by
  have i:=Mo (Γ:=Γ) rs (some (.v (AE r)))
  let T:DS:=⟨[some (.v (AE r))],Γ,Γ.length⟩
  have w:AK (AR AC) T=some (.v (AE []),T):=nil_of
  rw[List.map_cons]
  show An _ _ _ (AE r::rs.map AE) _ _=_
  unfold An
  rw[show Aj 0 (AE r) (⟨[v],Γ,Γ.length⟩:DS)=some T from rfl]
  simp only[Option.bind_some,mTT,if_true,w]
  rw[show An _ _ _ _ T.σ T.Γ=_ from i,if_pos rfl]
  rfl
theorem PK (rs:List (List Th)):(AH (rs.map fun _=>([]:List Th))).sum=0:=by
 induction rs with
 | nil=>rfl
 | cons r rs ih=>
  show 0+(AH (rs.map fun _=>([]:List Th))).sum=0
  lia
abbrev fill (K N R W C:Option SV) (r:List (Option SV)):List (Option SV):=K::N::R::W::C::r
abbrev n10:List (Option SV):=[none,none,none,none,none,none,none,none,none,none]
section
variable (ns:List Int) {Mp Mr Ml:MDF} {Md:MD}
structure F30 (Mp Mr Ml:MDF) (Md:MD):Prop where
 pool:∀ {Γ:Gm} {ns:List Int} {k:Nat},∃ c f q:Int,Mp [.v (.scr ns),.v (.int k)] Γ=some ([.int c,.int f,.int q],Γ)
 draw:∀ {Γ:Gm} {n:Nat} {m:Int},Pl Γ n->0<m->m<1000000->∃ r Γ',Md [.b n,.v (.int m)] Γ=some (.int r,Γ')/\0<=r/\r<m/\Pd n Γ Γ'
 rows:∀ {ns:List Int} {p:Nat} {m:Int} {Γ:Gm},p<=6->0<=m->m<=200->∃ rs:List (List Th),Mr [.v (.scr ns),.v (.int p),.v (.int m)] Γ=some (rs.map AE,Γ)/\rs.length=p/\∀ r∈rs,r.length<=200/\∀ t∈r,Tg t.2
 plain:∀ {rs:List (List Th)} {Γ:Gm},total rs<=100000->Ml [.v (AG rs)] Γ=some ((plainT rs).map thD,Γ)
variable (F:F30 Mp Mr Ml Md)
include F
theorem Tx {K:Option SV} {rs:List (List Th)} {Γ:Gm} (C:C30 rs) (pl:Pl Γ 0):∃ (rs':List (List Th)) (v3 v4:Option SV) (Γ':Gm),
  (mIf (Aw (mOp BP (Av Md (AB (AA 1) (AB (mC (.int 2)) AC))) (mC (.int 0)))) (AL (AX 3 (AK (Ay Ml (AB (AK (A7 (Aq (AA 2)) 1 [] (Aj 0) mTT (AK (BL CP (AB (AA 0) AC))))) AC))))
 (AL (AX 4 (Av Md (AB (AA 1) (AB (mOp AY (AQ Ap (AB (AA 3) AC)) (mC (.int 1))) AC))))
 (AX 2 (AK (BI Ci (AK (AR (AB (mSl (AA 3) none (some (AA 4))) (AB (mSl (AA 3) (some (AA 4)) none) AC)))) (AK (A7 (Aq (mSl (AA 2) (some (mC (.int 2))) none)) 1 [] (Aj 0) mTT (AK (AR AC))))))))) Dg) ⟨fill K (some (.b 0)) (some (.v (AG rs))) none none n10,Γ,0⟩=some (.nx ⟨fill K (some (.b 0)) (some (.v (AG rs'))) v3 v4 n10,Γ',0⟩)/\C30 rs':=by
 let S:Gm->DS:=fun Γ=>⟨fill K (some (.b 0)) (some (.v (AG rs))) none none n10,Γ,0⟩
 obtain ⟨r,G1,f1,r0,r1,pd1⟩:=F.draw (m:=2) pl (by decide) (by decide)
 have q1:Av Md (AB (AA 1) (AB (mC (.int 2)) AC)) (S Γ)=some (.v (.int r),S G1):=EC (x:=.b 0) (y:=.v (.int 2)) (s1:=S Γ) (s2:=S Γ) rfl rfl f1
 obtain ⟨b,hb⟩:∃ b,BP G1 (.v (.int r)) (.v (.int 0))=some (.bl b):=⟨_,rfl⟩
 have t1:=CF (AO (b:=mC (.int 0)) (s2:=S G1) (y:=.v (.int 0)) q1 rfl hb)
 cases b with
 | false=>exact ⟨rs,none,none,G1,(Lx t1).trans rfl,C⟩
 | true=>
  have hz:total rs<=1200:=C.2.2.1
  have w1:=A1 (CC (mi:=Aq (AA 2)) (nt:=1) (ix:=[]) (s:=S G1) (s':=S G1) (items:=rs.map AE) (Γ':=G1) rfl (by have:=C.2.1;rw[List.length_map,Ao];lia) (Fu rs none))
  have g1:=BJ (i:=3) (A1 (CZ (M:=Ml) w1 (F.plain (rs:=rs) (Γ:=G1) (by lia))))
  let W:=plainT rs
  have hW:W.length=total rs:=Jm
  let S2:Option SV->Gm->DS:=fun c Γ=>⟨fill K (some (.b 0)) (some (.v (AG rs))) (some (.v (AE W))) c n10,Γ,0⟩
  have pl1:=pd1.pl pl
  obtain ⟨c,G2,f2,c0,c1,pd2⟩:=F.draw (m:=(W.length:Int)+1) pl1 (by lia) (by lia)
  have w2:mOp AY (AQ Ap (AB (AA 3) AC)) (mC (.int 1)) (S2 none G1)=some (.v (.int ((W.length:Int)+1)),S2 none G1):=AO (HS (S:=S2 none G1) (m:=AA 3) (xs:=W) rfl) (y:=.v (.int 1)) (s2:=S2 none G1) rfl rfl
  have g2:AX 4 (Av Md (AB (AA 1) (AB (mOp AY (AQ Ap (AB (AA 3) AC)) (mC (.int 1))) AC))) (S2 none G1)=some (.nx (S2 (some (.v (.int c))) G2)):=BJ (EC (x:=.b 0) (s1:=S2 none G1) rfl w2 f2)
  let T:DS:=S2 (some (.v (.int c))) G2
  let A:=Bm W none (some c)
  let B:=Bm W (some c) none
  let R:=Bm rs (some 2) none
  have wA:mSl (AA 3) none (some (AA 4)) T=some (.v (AE A),T):=by
   show some (SV.v (D.lst (cutD (W.map thD) none (some c))),T)=_
   rw[EI]
   rfl
  have wB:mSl (AA 3) (some (AA 4)) none T=some (.v (AE B),T):=by
   show some (SV.v (D.lst (cutD (W.map thD) (some c) none)),T)=_
   rw[EI]
   rfl
  have wR:Aq (mSl (AA 2) (some (mC (.int 2))) none) T=some (R.map AE,T):=by
   show some (cutD (rs.map AE) (some 2) none,T)=_
   rw[EI]
  have hRl:R.length<=rs.length - 2:=by
   show (Bm rs (some ((2:Nat):Int)) none).length<=_
   unfold Bm
   rw[HT.GZ,List.length_take,List.length_drop]
   lia
  have hC2:=C.2.1
  have wAB:AK (AR (AB (mSl (AA 3) none (some (AA 4))) (AB (mSl (AA 3) (some (AA 4)) none) AC))) T=some (.v (.lst ([A,B].map AE)),T):=A1 (ED (ds:=[AE A,AE B]) (DB wA (DB (ms:=AC) (xs:=[]) wB rfl)) (show 2<=1000 by decide))
  have wN:=A1 (CC (nt:=1) (ix:=[]) (g:=Aj 0) (t:=mTT) (e:=AK (AR AC)) wR (by rw[List.length_map,Ao];lia) (Mo R none))
  have g3:=BJ (i:=2) (A1 (FV (g:=Ci) wAB wN (z:=(A::B::R.map fun _=>[]).map AE) (by
   show (if _<=big then some _ else none)=_
   rw[if_pos (by simp only[List.length_map,Ao];simp;lia)]
   rfl)))
  refine ⟨A::B::R.map fun _=>[],_,_,G2,(Ly t1).trans ((Ae g1).trans ((Ae g2).trans g3)),by simp,by simp only[List.length_cons,List.length_map];lia,?_,?_⟩
  ·show A.length+(B.length+(AH (R.map fun _=>([]:List Th))).sum)<=1200
   have:=Sd W c c0 (by lia)
   have e:A.length+B.length=W.length:=this
   rw[PK]
   lia
  ·intro x hx t ht
   have hw:∀ t∈W,Tg t.2:=Sv C.2.2.2
   rcases List.mem_cons.mp hx with rfl | hx
   ·exact hw t (MP ht)
   rcases List.mem_cons.mp hx with rfl | hx
   ·exact hw t (MP ht)
   obtain ⟨_,_,rfl⟩:=List.mem_map.mp hx
   cases ht
theorem So {Γ:Gm} (pl:Pl Γ 0):∃ (rs:List (List Th)) (Γ':Gm),
  AX 2 (AK (Ay Mr (AB (AA 0) (AB (mOp AY (mC (.int 1)) (Av Md (AB (AA 1) (AB (mC (.int 6)) AC)))) (AB (mOp gIx (AK (AR (AB (mC (.int 12)) (AB (mC (.int 200)) AC)))) (AQ CD (AB (mOp BP (Av Md (AB (AA 1) (AB (mC (.int 8)) AC))) (mC (.int 1))) AC))) AC))))) ⟨fill (some (.v (.scr ns))) (some (.b 0)) none none none n10,Γ,0⟩=some (.nx ⟨fill (some (.v (.scr ns))) (some (.b 0)) (some (.v (AG rs))) none none n10,Γ',0⟩)/\C30 rs/\Pl Γ' 0:=by
 let S:Gm->DS:=fun Γ=>⟨fill (some (.v (.scr ns))) (some (.b 0)) none none none n10,Γ,0⟩
 obtain ⟨r,G1,f1,r0,r1,pd1⟩:=F.draw (m:=6) pl (by decide) (by decide)
 have pl1:=pd1.pl pl
 obtain ⟨u,G2,f2,u0,u1,pd2⟩:=F.draw (m:=8) pl1 (by decide) (by decide)
 have q1:Av Md (AB (AA 1) (AB (mC (.int 6)) AC)) (S Γ)=some (.v (.int r),S G1):=EC (x:=.b 0) (y:=.v (.int 6)) (s1:=S Γ) (s2:=S Γ) rfl rfl f1
 have q2:Av Md (AB (AA 1) (AB (mC (.int 8)) AC)) (S G1)=some (.v (.int u),S G2):=EC (x:=.b 0) (y:=.v (.int 8)) (s1:=S G1) (s2:=S G1) rfl rfl f2
 obtain ⟨t,rfl⟩:∃ t:Nat,r=(t:Int):=⟨r.toNat,by lia⟩
 have w1:mOp AY (mC (.int 1)) (Av Md (AB (AA 1) (AB (mC (.int 6)) AC))) (S Γ)=some (.v (.int ((1+t:Nat):Int)),S G1):=AO (x:=.v (.int 1)) (s1:=S Γ) rfl q1 (by show some (D.int (1+(t:Int)))=_;rw[show 1+(t:Int)=((1+t:Nat):Int) by lia])
 obtain ⟨b,hb⟩:∃ b,BP G2 (.v (.int u)) (.v (.int 1))=some (.bl b):=⟨_,rfl⟩
 have w2:=CY (g:=CD) (AO (g:=BP) (b:=mC (.int 1)) (s2:=S G2) (y:=.v (.int 1)) q2 rfl hb) rfl
 have w3:mOp gIx (AK (AR (AB (mC (.int 12)) (AB (mC (.int 200)) AC)))) (AQ CD (AB (mOp BP (Av Md (AB (AA 1) (AB (mC (.int 8)) AC))) (mC (.int 1))) AC)) (S G1)=some (.v (.int (if b=true then 200 else 12)),S G2):=AO (x:=.v (.lst [.int 12,.int 200])) (s1:=S G1) (A1 (ED (ds:=[.int 12,.int 200]) (S':=S G1) rfl (show 2<=1000 by decide))) w2 (by cases b<;>rfl)
 obtain ⟨rs,f3,hl,hr⟩:=F.rows (ns:=ns) (p:=1+t) (m:=if b=true then 200 else 12) (Γ:=G2) (by lia) (by split<;>decide) (by split<;>decide)
 have w4:=BJ (i:=2) (A1 (SF (M:=Mr) (a:=AA 0) (x:=.v (.scr ns)) (s:=S Γ) (s1:=S Γ) rfl w1 w3 f3))
 refine ⟨rs,G2,w4,⟨by lia,by lia,?_,fun r hr'=>(hr r hr').2⟩,pd2.pl pl1⟩
 have:=OG (zs:=AH rs) (m:=200) (fun z hz=>by
  obtain ⟨r,hr',rfl⟩:=List.mem_map.mp hz
  exact (hr r hr').1)
 have hll:(AH rs).length=rs.length:=List.length_map _
 rw[hll] at this
 lia
theorem QC {K N C c6 c8 c9 c10 c11 c12 c13 c14:Option SV} {rs:List (List Th)} {Γ:Gm} (h:C30 rs):D6 ⟨[K,N,some (.v (AG rs)),some (.v (AE rs.flatten)),C,some (.v (AG rs)),c6,some (.v (.int (rs.length:Nat))),c8,c9,c10,c11,c12,c13,c14],Γ,0⟩=some (.nx ⟨[K,N,some (.v (AG rs)),some (.v (AE rs.flatten)),C,some (.v (AG rs)),none,some (.v (.int (rs.length:Nat))),c8,none,none,none,none,none,none],Γ,0⟩):=by
 unfold D6
 simp only[]
 rw[if_pos ⟨rs,rfl,rfl,rfl,rfl,h⟩]
theorem Q7:mFn 15 (Ef Mp Mr Md Ml) [.v (.scr ns)] []=some (.bl true,[]):=by
 let K:Option SV:=some (.v (.scr ns))
 let S0:DS:=⟨fill K none none none none n10,[],0⟩
 obtain ⟨c,f,q,fp⟩:=F.pool (Γ:=[]) (ns:=ns) (k:=0)
 let G0:Gm:=[some [.int c,.int f,.int q]]
 have g1:BF 1 (Ay Mp (AB (AA 0) (AB (mC (.int 0)) AC))) S0=some (.nx ⟨fill K (some (.b 0)) none none none n10,G0,0⟩):=D4 (Ft (x:=.v (.scr ns)) (y:=.v (.int 0)) (s1:=S0) (s2:=S0) rfl rfl fp)
 obtain ⟨rs0,G1,g2,C0,pl1⟩:=So ns F (Γ:=G0) ⟨c,f,q,rfl⟩
 obtain ⟨rs,v3,v4,G2,g3,C⟩:=Tx F (K:=K) C0 pl1
 let N:Option SV:=some (.b 0)
 let R:Option SV:=some (.v (AG rs))
 have hC2:=C.2.1
 have hC3:=C.2.2.1
 let S:Option SV->Option SV->DS:=fun a b=>⟨[K,N,R,a,v4,R,b,none,none,none,none,none,none,none,none],G2,0⟩
 let S3:DS:=⟨fill K N R v3 v4 n10,G2,0⟩
 have g4:AX 5 (AK (A7 (Aq (AA 2)) 1 [] (Aj 0) mTT (AK (BL CP (AB (AA 0) AC))))) S3=some (.nx (S v3 none)):=BJ (A1 (CC (mi:=Aq (AA 2)) (nt:=1) (ix:=[]) (s:=S3) (s':=S3) (items:=rs.map AE) (Γ':=G2) rfl (by rw[List.length_map,Ao];lia) (Fu rs none)))
 have g5:AX 3 (AK (AR AC)) (S v3 none)=some (.nx (S (some (.v (AE []))) none)):=BJ nil_of
 obtain ⟨s',e6,b,rfl⟩:=B0 (g:=Aj 6) (b:=LO) (items:=rs.map AE) (fun i st=>∃ b,st=S (some (.v (AE (rs.take i).flatten))) b) (by
   rintro i d st hd ⟨b,rfl⟩
   obtain ⟨r,hr,rfl⟩:=Bw hd
   let T:DS:=S (some (.v (AE (rs.take i).flatten))) (some (.v (AE r)))
   have et:(rs.take (i+1)).flatten=(rs.take i).flatten++r:=by rw[List.take_add_one,hr,List.flatten_append];simp
   have hle:(rs.take (i+1)).flatten.length<=(AH rs).sum:=by
    rw[<-Bn rs]
    have:rs.flatten=(rs.take (i+1)).flatten++(rs.drop (i+1)).flatten:=by rw[<-List.flatten_append,List.take_append_drop]
    rw[this,List.length_append]
    lia
   rw[et,List.length_append] at hle
   refine ⟨T,_,rfl,BJ (AO (x:=.v (AE (rs.take i).flatten)) (y:=.v (AE r)) (s1:=T) (s2:=T) rfl rfl (K4 (by lia))),some (.v (AE r)),?_⟩
   rw[et]
   rfl)
  (s:=S (some (.v (AE []))) none) ⟨none,rfl⟩
 rw[List.length_map,List.take_length] at e6
 have g6:=CA (mi:=Aq (AA 2)) (s:=S (some (.v (AE []))) none) (s':=S (some (.v (AE []))) none) rfl e6
 let L:Option SV:=some (.v (AE rs.flatten))
 let H:Option SV:=some (.v (.int (rs.length:Nat)))
 let U:Option SV->Option SV->DS:=fun b d=>⟨[K,N,R,L,v4,R,b,H,d,none,none,none,none,none,none],G2,0⟩
 have g7:AX 7 (AQ Ap (AB (AA 2) AC)) (S L b)=some (.nx (U b none)):=BJ (LW (S:=S L b) (m:=AA 2) (xs:=rs) rfl)
 obtain ⟨s'',e8,b',d',rfl⟩:=B0 (g:=Aj 8) (b:=D6) (items:=upTo 0 2) (fun _ st=>∃ b d,st=U b d) (by
   rintro i x st hd ⟨b,d,rfl⟩
   obtain ⟨hi,rfl⟩:=HF hd
   exact ⟨U b (some (.v (.int (0+(i:Int))))),_,rfl,QC F C,none,_,rfl⟩)
  (s:=U b none) ⟨b,none,rfl⟩
 have g8:=CA (mi:=C8 (AB (mC (.int 2)) AC)) (s:=U b none) (s':=U b none) (Io (c:=mC (.int 2)) (p:=2) rfl (by decide)) e8
 unfold mFn Ef
 show ((AL _ _ S0).bind _)=_
 rw[(Ae (g1)).trans ((Ae (g2)).trans ((Ae (g3)).trans ((Ae (g4)).trans ((Ae (g5)).trans ((Ae (g6)).trans ((Ae (g7)).trans ((Ae (g8)).trans (rfl))))))))]
 rfl
end
theorem Rg (ns:List Int) (hl:ns.length<=63):mFn 15 (Ef Dk FS DP Mpl) [.v (.scr ns)] []=some (.bl true,[]):=Q7 ns ⟨Ja,LK,Pq,Oh⟩
end DL
namespace DL
open PySem L2
theorem Nu {K:PySem.W.Frag} {M:MD} {ns:List Int} {H:Hp} {a:Addr} {Γ:Gm} (h:M [.v (.scr ns)] []=some (.bl true,Γ)) (hS:SqL K H a (ns.map V.int)):spD K 1 M [.ref a] H (fun v _=>v=.bl true) fun _ _ _=>False:=by
 refine ⟨frQ K H,fun _=>0,emp,[],[.v (.scr ns)],_,rfl,rfl,Q3,.cons ?_ .nil,h,fun α' v H' _ _ hv=>?_⟩
 ·show Rep _ (.scr ns) (.ref a)
  unfold Rep
  refine ⟨a,rfl,?_⟩
  rcases hS with h | h
  ·refine .inl ⟨fun z=>?_,h⟩
   rcases z with z | ⟨n,xs,z,_⟩
   ·exact z
   ·cases z
  ·exact .inr fun H'=>.inr h
 ·unfold Rep at hv
  exact hv
def Gn:MD:=mFn 15 (Ef Dk FS DP Mpl)
theorem QK (ns:List Int) (hl:ns.length<=63):Gn [.v (.scr ns)] []=some (.bl true,[]):=Rg ns hl
end DL
namespace L2
open PySem
theorem Fun.bi1 {K:PySem.W.Frag} {x qual:Str} {st:Stmt} {f:Addr} {fd:FuncData} {p1:Str} (F:Fun K x qual st f fd) (h:∀ (kV doc pm:Value) (an:Option Addr) (cdv ct a1:Value),bindArgs (PySem.W.fnOf x qual (Dc st) (CH st) (AW st) .none kV doc pm an cdv ct) ⟨[a1],[]⟩=pure [(p1,a1)]):Binds K fd [p1] []:=
 F.binds fun kV doc pm an cdv ct us hl=>match us,hl with | [a1],_=>h kV doc pm an cdv ct a1
theorem Fun.bi2 {K:PySem.W.Frag} {x qual:Str} {st:Stmt} {f:Addr} {fd:FuncData} {p1 p2:Str} (F:Fun K x qual st f fd) (h:∀ (kV doc pm:Value) (an:Option Addr) (cdv ct a1 a2:Value),bindArgs (PySem.W.fnOf x qual (Dc st) (CH st) (AW st) .none kV doc pm an cdv ct) ⟨[a1,a2],[]⟩=pure [(p1,a1),(p2,a2)]):Binds K fd [p1,p2] []:=
 F.binds fun kV doc pm an cdv ct us hl=>match us,hl with | [a1,a2],_=>h kV doc pm an cdv ct a1 a2
theorem Fun.bi3 {K:PySem.W.Frag} {x qual:Str} {st:Stmt} {f:Addr} {fd:FuncData} {p1 p2 p3:Str} (F:Fun K x qual st f fd) (h:∀ (kV doc pm:Value) (an:Option Addr) (cdv ct a1 a2 a3:Value),bindArgs (PySem.W.fnOf x qual (Dc st) (CH st) (AW st) .none kV doc pm an cdv ct) ⟨[a1,a2,a3],[]⟩=pure [(p1,a1),(p2,a2),(p3,a3)]):Binds K fd [p1,p2,p3] []:=
 F.binds fun kV doc pm an cdv ct us hl=>match us,hl with | [a1,a2,a3],_=>h kV doc pm an cdv ct a1 a2 a3
end L2
namespace DL
open PySem L2 Ev HD PySem.W
theorem all_mk {l:OpenLaw} {w:World} {K:Frag} {h:Heap} {mg:Str->Option Value} {fa:Addr} (O:ob K=vl) (X:K.In h) (G:h.Ns mainGlobals mg) (hfa:mg "law"=some (.ref fa)) :
  ∃ fd:FuncData,(∀ (s:Shared) (v:Value),BindsTo s fd ⟨[v],[]⟩ [("script",v)])/\∀ base:Heap,K.In base->base.Ns mainGlobals mg->FnOk l.prog w K mg base CX0 4 fa fd ["script"] (spD K 1 Gn):=by
 have oF:fns.map (fun p=>E4 K p.1)=fns.map Ew:=congrArg Prod.fst O
 have oB:bls.map (fun x=>nsIn K mainGlobals x)=bls.map fun _=>some none:=congrArg (·.2.1) O
 have oN:nts.map (fun p=>J6 K p.1)=nts.map fun p=>some p.2:=congrArg (·.2.2.1) O
 obtain ⟨f1,d1,a1,F1⟩:=Bc (x:="_law_pool") (st:=Gh) (BQ (i:=0) oF rfl)
 obtain ⟨f2,d2,a2,F2⟩:=Bc (x:="_law_draw") (st:=HU) (BQ (i:=1) oF rfl)
 obtain ⟨f3,d3,a3,F3⟩:=Bc (x:="_law_rows") (st:=HR) (BQ (i:=2) oF rfl)
 obtain ⟨f4,d4,a4,F4⟩:=Bc (x:="names_of_hand") (st:=GA) (BQ (i:=3) oF rfl)
 obtain ⟨f5,d5,a5,F5⟩:=Bc (x:="names_plainly") (st:=IK) (BQ (i:=4) oF rfl)
 obtain ⟨f6,d6,a6,F6⟩:=Bc (x:="sorted_plainly") (st:=FW) (BQ (i:=5) oF rfl)
 obtain ⟨f7,d7,a7,F7⟩:=Bc (x:="stretches_by") (st:=Ip) (BQ (i:=6) oF rfl)
 obtain ⟨f8,d8,a8,F8⟩:=Bc (x:="even_sizes") (st:=Hu) (BQ (i:=7) oF rfl)
 obtain ⟨f9,d9,a9,F9⟩:=Bc (x:="even_stretches") (st:=HK) (BQ (i:=8) oF rfl)
 obtain ⟨f10,d10,a10,F10⟩:=Bc (x:="even_rows") (st:=Cu) (BQ (i:=9) oF rfl)
 obtain ⟨f11,d11,a11,F11⟩:=Bc (x:="_law_counted") (st:=Fp) (BQ (i:=10) oF rfl)
 obtain ⟨f12,d12,a12,F12⟩:=Bc (x:="even_moves") (st:=IU) (BQ (i:=11) oF rfl)
 obtain ⟨f13,d13,a13,F13⟩:=Bc (x:="_law_marked") (st:=EZ) (BQ (i:=12) oF rfl)
 obtain ⟨f14,d14,a14,F14⟩:=Bc (x:="law") (st:=Ct) (BQ (i:=13) oF rfl)
 have e:=hfa.symm.trans (mg_of X G a14)
 cases e
 have b1:=F1.bi2 (p1:="script") (p2:="k") fun _ _ _ _ _ _ _ _=>rfl
 have m1:=mg_of X G a1
 have k1:=F1.kp
 have b2:=F2.bi2 (p1:="pool") (p2:="many") fun _ _ _ _ _ _ _ _=>rfl
 have m2:=mg_of X G a2
 have k2:=F2.kp
 have b3:=F3.bi3 (p1:="script") (p2:="hands") (p3:="most") fun _ _ _ _ _ _ _ _ _=>rfl
 have m3:=mg_of X G a3
 have k3:=F3.kp
 have b4:=F4.bi2 (p1:="row") (p2:="hand") fun _ _ _ _ _ _ _ _=>rfl
 have m4:=mg_of X G a4
 have k4:=F4.kp
 have b5:=F5.bi1 (p1:="rows") fun _ _ _ _ _ _ _=>rfl
 have m5:=mg_of X G a5
 have k5:=F5.kp
 have b6:=F6.bi1 (p1:="rows") fun _ _ _ _ _ _ _=>rfl
 have m6:=mg_of X G a6
 have k6:=F6.kp
 have b7:=F7.bi1 (p1:="sizes") fun _ _ _ _ _ _ _=>rfl
 have m7:=mg_of X G a7
 have k7:=F7.kp
 have b8:=F8.bi2 (p1:="many") (p2:="hands") fun _ _ _ _ _ _ _ _=>rfl
 have m8:=mg_of X G a8
 have k8:=F8.kp
 have b9:=F9.bi1 (p1:="sizes") fun _ _ _ _ _ _ _=>rfl
 have m9:=mg_of X G a9
 have k9:=F9.kp
 have b10:=F10.bi1 (p1:="rows") fun _ _ _ _ _ _ _=>rfl
 have m10:=mg_of X G a10
 have k10:=F10.kp
 have b11:=F11.bi2 (p1:="rows") (p2:="found") fun _ _ _ _ _ _ _ _=>rfl
 have m11:=mg_of X G a11
 have k11:=F11.kp
 have b12:=F12.bi1 (p1:="sizes") fun _ _ _ _ _ _ _=>rfl
 have m12:=mg_of X G a12
 have k12:=F12.kp
 have b13:=F13.bi1 (p1:="found") fun _ _ _ _ _ _ _=>rfl
 have m13:=mg_of X G a13
 have k13:=F13.kp
 have b14:=F14.bi1 (p1:="script") fun _ _ _ _ _ _ _=>rfl
 have B:=fun i x (z:bls[i]?=some x)=>mg_none_of X G (BQ oB z)
 have T:Nm mg:=⟨B 0 _ rfl,B 1 _ rfl,B 2 _ rfl,B 3 _ rfl,B 4 _ rfl,B 5 _ rfl,B 6 _ rfl,B 7 _ rfl,B 8 _ rfl,B 9 _ rfl,B 10 _ rfl,B 11 _ rfl,B 12 _ rfl,B 13 _ rfl,B 14 _ rfl,B 15 _ rfl,B 16 _ rfl,B 17 _ rfl⟩
 refine ⟨d14,fun s v=>?_,fun base _ _=>?_⟩
 ·obtain ⟨_,_,_,_,_,_,_,_,_,z,_⟩:=F14.ex
  subst z
  exact .of_eq rfl
 have h1:Cal l.prog w K mg base "_law_pool" 1 f1 _ ["script","k"] (spF K 2 Dk):=⟨PX F1 T,b1,k1,m1⟩
 have h2:Cal l.prog w K mg base "_law_draw" 1 f2 _ ["pool","many"] (spD K 2 DP):=⟨UB F2 T,b2,k2,m2⟩
 have h3:Cal l.prog w K mg base "_law_rows" 2 f3 _ ["script","hands","most"] (spF K 3 FS):=⟨TY F3 T h1 h2,b3,k3,m3⟩
 have h4:Cal l.prog w K mg base "names_of_hand" 1 f4 _ ["row","hand"] (spF K 2 Fx):=⟨S6 F4 T,b4,k4,m4⟩
 have h5:Cal l.prog w K mg base "names_plainly" 2 f5 _ ["rows"] (spF K 1 Mnp):=⟨S9 F5 T h4,b5,k5,m5⟩
 have h6:Cal l.prog w K mg base "sorted_plainly" 3 f6 _ ["rows"] (spF K 1 Mpl):=⟨QF F6 T h5,b6,k6,m6⟩
 have h7:Cal l.prog w K mg base "stretches_by" 1 f7 _ ["sizes"] (spF K 1 CL):=⟨Nr F7 T,b7,k7,m7⟩
 have h8:Cal l.prog w K mg base "even_sizes" 1 f8 _ ["many","hands"] (spD K 2 Mes):=⟨Q2 F8 T,b8,k8,m8⟩
 have h9:Cal l.prog w K mg base "even_stretches" 2 f9 _ ["sizes"] (spF K 1 Bs):=⟨Qy F9 T h7 h8,b9,k9,m9⟩
 have h10:Cal l.prog w K mg base "even_rows" 3 f10 _ ["rows"] (spF K 1 Mer):=⟨RO F10 T h9,b10,k10,m10⟩
 have h11:Cal l.prog w K mg base "_law_counted" 1 f11 _ ["rows","found"] (spF K 2 Da):=⟨TQ F11 T,b11,k11,m11⟩
 have h12:Cal l.prog w K mg base "even_moves" 3 f12 _ ["sizes"] (spF K 1 Mem):=⟨Rt F12 T h7 h9,b12,k12,m12⟩
 have hn:Cal l.prog w K mg base "even_rows" 3 f10 _ ["rows"] (Hj K):=⟨TU F10 T h9,b10,k10,m10⟩
 have hm:Cal l.prog w K mg base "_law_marked" 1 f13 _ ["found"] (Gc K):=⟨NP F13 T,b13,k13,m13⟩
 exact RK F14 T h1 h3 h2 h6 h10 hn h11 h12 hm
end DL
open PySem PySem.W PyProof.Rows
theorem PySem.Challenge.cw_evenlots_k30_even_rows_holds : PySem.Challenge.rw_evenlots_k30_even_rows.Holds := by
 w_on
 o_law
 refine HD.Qg (l:=PySem.Challenge.rw_evenlots_k30_even_rows) (q:=DL.qv) (loose:=DL.lse) (N:=100000) (obs:=DL.ob) (val:=DL.vl) (by assumption) rfl rfl (fun _=>rfl) (fun w os=>congrFun (congrFun DL.TC w) os) (fun w os=>congrFun (congrFun DL.Pc w) os) (fun w os=>congrFun (congrFun DL.Sg w) os) (by rfl) (by rfl) (by rfl) rfl (by decide +kernel) ⟨rfl,rfl,rfl,rfl,rfl,by decide +kernel⟩ ?hw ?hc
 case hw=>w_witness2
 case hc=>exact HD.Pb (n:=63) (k:=4) (x:="script") (sp:=fun K=>DL.spD K 1 DL.Gn) rfl (by decide) rfl ⟨rfl,by decide,by decide⟩ (fun _ _ _ _ _ O X G m=>DL.all_mk O X G m) fun _ _ _ ns hl _ hS=>DL.Nu (DL.QK ns hl) hS
