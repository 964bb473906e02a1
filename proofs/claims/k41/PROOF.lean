import PyProof.Rows.All
import Wide.All
import OpenK.AllK
import Wide.FinOn
import Lean
import PyProof.EqAt
import PyProof.EqKinds
import PyProof.TupleCall
import PyProof.Rows.SortRuns
import PyProof.Rows.SortShell
import PyProof.NeKinds
import KE.KSortTup
import PyProof.NeData
import PyProof.P3In
import PyProof.Rows.SumAny
import PyProof.FString5
import PyProof.StrWalks
import PyProof.Rows.Range3
import PyProof.DictKinds
import PyProof.StrOps
import PyProof.SeqI3
import PySem.Challenge.RW_evenlots_k41_the_kth_by_counts
set_option Elab.async false
set_option linter.all false
set_option maxRecDepth 100000
set_option maxHeartbeats 0
noncomputable section
namespace L2
open PySem PySem.Spec PyProof.Rows
abbrev Key:=Sum Int Str
def G7:Key->Value->Bool
 | .inl k,v=>Value.isInt k v
 | .inr x,v=>Value.isStrOf x v
def Qc (w:World):Key->Int
 | .inl k=>hashInt k
 | .inr x=>hashStr w x
theorem CU:∀ {k:Key} {v:Value},G7 k v=true->(∃ i t,k=Sum.inl i/\v=Value.int i t)\/(∃ x t,k=Sum.inr x/\v=Value.str x t)
 | .inl i,v,h=>by
  obtain ⟨t,e⟩:=Value.isInt_shape (k:=i) (v:=v) h
  exact .inl ⟨i,t,rfl,e⟩
 | .inr x,v,h=>by
  obtain ⟨t,e⟩:=Value.isStrOf_shape (x:=x) (v:=v) h
  exact .inr ⟨x,t,rfl,e⟩
theorem UL (a b:Int):decide ((Sum.inl a:Key)=Sum.inl b)=(a == b):=by
 by_cases e:a=b
 ·subst e;simp
 ·have h:¬(Sum.inl a:Key)=Sum.inl b:=fun q=>e (Sum.inl.inj q)
  rw[decide_eq_false h]
  exact (beq_eq_false_iff_ne.mpr e).symm
theorem Od (a b:Str):decide ((Sum.inr a:Key)=Sum.inr b)=decide (a=b):=by
 by_cases e:a=b
 ·subst e;simp
 ·have h:¬(Sum.inr a:Key)=Sum.inr b:=fun q=>e (Sum.inr.inj q)
  rw[decide_eq_false h,decide_eq_false e]
theorem Tw (a:Int) (b:Str):decide ((Sum.inl a:Key)=Sum.inr b)=false:=decide_eq_false (fun q=>nomatch q)
theorem Sh (a:Str) (b:Int):decide ((Sum.inr a:Key)=Sum.inl b)=false:=decide_eq_false (fun q=>nomatch q)
def Fl (prog:Program) (w:World):PySem.KeyKind prog w Key where
 is:=G7
 hash:=Qc w
 inj:=fun v a b ha hb=>by
  rcases CU ha with ⟨i,t,rfl,rfl⟩ | ⟨x,t,rfl,rfl⟩
  ·rcases CU hb with ⟨j,u,rfl,e⟩ | ⟨y,u,rfl,e⟩
   ·injection e with e1 _;rw[e1]
   ·exact nomatch e
  ·rcases CU hb with ⟨j,u,rfl,e⟩ | ⟨y,u,rfl,e⟩
   ·exact nomatch e
   ·injection e with e1 _;rw[e1]
 byValue:=fun k v h=>by
  rcases CU h with ⟨i,t,rfl,rfl⟩ | ⟨x,t,rfl,rfl⟩<;>rfl
 pyHash:=fun hv h=>by
  rcases CU hv with ⟨i,t,rfl,rfl⟩ | ⟨x,t,rfl,rfl⟩
  ·exact wpAny_pyHash_int h
  ·exact wpAny_pyHash_str h
 eqBool:=fun hu hv h=>by
  rcases CU hu with ⟨i,t,rfl,rfl⟩ | ⟨x,t,rfl,rfl⟩
  ·rcases CU hv with ⟨j,u,rfl,rfl⟩ | ⟨y,u,rfl,rfl⟩
   ·rw[UL] at h;exact wpAny_eqBool_int h
   ·rw[Tw] at h;exact SeqAt.EqAt.int_str i t y u _ _ _ _ h
  ·rcases CU hv with ⟨j,u,rfl,rfl⟩ | ⟨y,u,rfl,rfl⟩
   ·rw[Sh] at h;exact SeqAt.EqAt.str_int x t j u _ _ _ _ h
   ·rw[Od] at h;exact wpAny_eqBool_str h
 «strs»:=fun k x t v h=>by
  rcases CU h with ⟨i,u,rfl,e⟩ | ⟨y,u,rfl,e⟩
  ·exact nomatch e
  ·injection e with e1 _
   subst e1
   cases v<;>rfl
inductive V where
 | non | bl (b:Bool) | int (i:Int) | str (x:Str) | byt (b:Array UInt8) | flt (b:UInt64) | ref (a:Addr) | ty (n:String)
 deriving DecidableEq
def RelV:V->Value->Prop
 | .non,u=>u=Value.none
 | .bl b,u=>u=Value.bool b
 | .int i,u=>∃ t,u=Value.int i t
 | .str x,u=>∃ t,u=Value.str x t
 | .byt b,u=>∃ t,u=Value.bytes b t
 | .flt b,u=>∃ t,u=Value.float b t
 | .ref a,u=>u=Value.ref a
 | .ty n,u=>u=Value.type n
abbrev Vals:List V->List Value->Prop:=Paired RelV
theorem Vals.length {xs:List V} {us:List Value} (r:Vals xs us):xs.length=us.length:=Paired.length r
theorem Vals.get:∀ {xs:List V} {us:List Value} {i:Nat} {x:V},Vals xs us->xs[i]?=some x->∃ u,us[i]?=some u/\RelV x u
 | _,_,_,_,.nil,e=>by simp at e
 | _,_,0,_,.cons r _,e=>by simp at e;subst e;exact ⟨_,rfl,r⟩
 | _,_,i+1,x,.cons _ t,e=>by
  obtain ⟨u,h1,h2⟩:=Vals.get (i:=i) (x:=x) t (by simpa using e)
  exact ⟨u,by simpa using h1,h2⟩
theorem Vals.append:∀ {xs ys:List V} {us ws:List Value},Vals xs us->Vals ys ws->Vals (xs++ys) (us++ws)
 | _,_,_,_,.nil,s=>s
 | _,_,_,_,.cons r t,s=>.cons r (Vals.append t s)
theorem Vals.take:∀ {xs:List V} {us:List Value} (n:Nat),Vals xs us->Vals (xs.take n) (us.take n)
 | _,_,0,_=>.nil
 | _,_,_+1,.nil=>.nil
 | _,_,n+1,.cons r t=>.cons r (Vals.take n t)
theorem Vals.drop:∀ {xs:List V} {us:List Value} (n:Nat),Vals xs us->Vals (xs.drop n) (us.drop n)
 | _,_,0,r=>r
 | _,_,_+1,.nil=>.nil
 | _,_,n+1,.cons _ t=>Vals.drop n t
def Ht:Option V->Option Value->Prop
 | some v,some u=>RelV v u
 | none,none=>True
 | _,_=>False
def KV {κ:Type}:List (κ×V)->List (κ×Value)->Prop:=Paired fun (p:κ×V) (q:κ×Value)=>p.1=q.1/\RelV p.2 q.2
def kV:Key->V
 | .inl i=>.int i
 | .inr x=>.str x
inductive HO where
 | lst (xs:List V)
 | tup (xs:List V)
 | dK (kvs:List (Key×V)) | dT (kvs:List (List Key×V))
 | set (S:Int->Bool) (n:Nat)
 | ins (C dx:Addr) (fs:List (Str×V))
 | own (x:Addr)
 | xd (fs:List (Str×V))
 | met (f x:Addr)
 | rng (lo hi:Int)
 | frz (o:Obj) (u:HO)
 | tbl (ps:Array Value)
 | ext (φ:Heap->Prop)
abbrev Hp:=Addr->Option HO
def upd (H:Hp) (a:Addr) (o:HO):Hp:=fun b=>if b=a then some o else H b
theorem BA {H:Hp} {a:Addr} {o:HO}:upd H a o a=some o:=by unfold upd;rw[if_pos rfl]
theorem AR {H:Hp} {a b:Addr} {o:HO} (h:b≠a):upd H a o b=H b:=by unfold upd;rw[if_neg h]
theorem BU {H:Hp} {a b:Addr} {o:HO} (h:H a=some o) (h':H b=none):a≠b:=by
 intro e;subst e;rw[h] at h';cases h'
section
variable (P:Program) (w:World)
def ObjOk (H:Hp) (h:Heap) (a:Addr):HO->Prop
 | .lst xs=>xs.length<=sizeLine/\∃ (its:List Value) (n:Nat),Vals xs its/\h.get? a=some {cls:=.type "list",data:=.seq its.toArray n}
 | .tup xs=>xs.length<=sizeLine/\∃ its:List Value,Vals xs its/\IsTup h a its.toArray
 | .dK kvs=>kvs.length<=sizeLine/\(a == sysModules)=false/\∃ vs,KV kvs vs/\h.DictOf (Fl P w) a vs
 | .dT kvs=>kvs.length<=sizeLine/\(a == sysModules)=false/\∃ xs:List (List Key×Addr×Value),
   Paired (fun (p:List Key×V) (q:List Key×Addr×Value)=>p.1=q.1/\H q.2.1=some (.tup (p.1.map kV))/\RelV p.2 q.2.2) kvs xs /\
   ∃ o es ep,h.get? a=some o/\o.ExactDict/\o.data=.dict es ep/\es.toList=xs.map (entryOfKey (tupleKind (Fl P w)))/\(xs.map (·.1)).Nodup
 | .set S n=>h.SetOf (intKind P w) a S n
 | .ins C dx fs=>H dx=some (.own a)/\fs.length<=1000/\dx≠a/\h.get? a=some (PySem.W.instObj C dx) /\
   ∃ mA,h.Ns1 dx mA/\(∀ f,Ht (fs.lookup f) (mA f))/\PySem.Within mA (fs.map (·.1))
 | .own _=>∃ o,h.get? a=some o
 | .xd fs=>∃ mA,h.Ns1 a mA/\∀ f,Ht (fs.lookup f) (mA f)
 | .rng lo hi=>∃ t u v,h.get? a=some {cls:=.type "range",data:=.fields #[.int lo t,.int hi u,.int 1 v]}
 | .frz o u=>h.get? a=some o/\ObjOk H h a u
 | .tbl ps=>h.get? a=some {cls:=.none,data:=.fields ps}
 | .met f x=>h.get? a=some (PySem.W.methodObj (.ref f) (.ref x))
 | .ext φ=>φ h/\(∃ o,h.get? a=some o)/\∀ h1 h2:Heap,φ h1->(∀ o,h1.get? a=some o->h2.get? a=some o)->φ h2
def HOk (H:Hp) (h:Heap):Prop:=∀ a o,H a=some o->ObjOk P w H h a o
end
section
variable {P:Program} {w:World} {H H':Hp} {h h':Heap} {a:Addr} {o:HO}
theorem ObjOk.lt (x:ObjOk P w H h a o):a<h.objs.size:=by
 cases o with
 | lst xs=>obtain ⟨_,_,_,_,e⟩:=x;exact Heap.lt_size e
 | tup xs=>obtain ⟨_,_,_,p⟩:=x;exact p.lt
 | dK kvs=>obtain ⟨_,_,_,_,o,_,_,e,_⟩:=x;exact Heap.lt_size e
 | dT kvs=>obtain ⟨_,_,_,_,o,_,_,e,_⟩:=x;exact Heap.lt_size e
 | set S n=>obtain ⟨o,_,_,_,e,_⟩:=x;exact Heap.lt_size e
 | ins C dx fs=>obtain ⟨_,_,_,e,_⟩:=x;exact Heap.lt_size e
 | own y=>obtain ⟨_,e⟩:=x;exact Heap.lt_size e
 | xd fs=>obtain ⟨_,⟨_,_,_,e,_⟩,_⟩:=x;exact Heap.lt_size e
 | rng lo hi=>obtain ⟨_,_,_,e⟩:=x;exact Heap.lt_size e
 | frz ob u=>obtain ⟨e,_⟩:=x;exact Heap.lt_size e
 | tbl ps=>exact Heap.lt_size (show h.get? a=some _ from x)
 | met f y=>exact Heap.lt_size (show h.get? a=some _ from x)
 | ext φ=>obtain ⟨_,⟨_,e⟩,_⟩:=x;exact Heap.lt_size e
theorem Paired.mapP {α β:Type} {F G:α->β->Prop}:∀ {l₁:List α} {l₂:List β},Paired F l₁ l₂->(∀ a b,F a b->G a b)->Paired G l₁ l₂
 | _,_,.nil,_=>.nil
 | _,_,.cons r t,f=>.cons (f _ _ r) (Paired.mapP t f)
theorem ObjOk.stay (x:ObjOk P w H h a o) (k:∀ b u,(b=a\/H b=some (.own a))->h.get? b=some u->h'.get? b=some u)
  (ho:∀ b,H b=some (.own a)->H' b=some (.own a)) (ht:∀ b xs,H b=some (.tup xs)->H' b=some (.tup xs)):ObjOk P w H' h' a o:=by
 induction o with
 | lst xs=>obtain ⟨z,its,n,r,e⟩:=x;exact ⟨z,its,n,r,k _ _ (.inl rfl) e⟩
 | tup xs=>obtain ⟨z,its,r,ob,e,c⟩:=x;exact ⟨z,its,r,ob,k _ _ (.inl rfl) e,c⟩
 | dK kvs=>obtain ⟨z,y,vs,r,ob,es,ep,e,c⟩:=x;exact ⟨z,y,vs,r,ob,es,ep,k _ _ (.inl rfl) e,c⟩
 | dT kvs=>
  obtain ⟨z,y,xs,r,ob,es,ep,e,c⟩:=x
  exact ⟨z,y,xs,Paired.mapP r fun p q z=>⟨z.1,ht _ _ z.2.1,z.2.2⟩,ob,es,ep,k _ _ (.inl rfl) e,c⟩
 | set S n=>obtain ⟨ob,es,ep,t,e,c⟩:=x;exact ⟨ob,es,ep,t,k _ _ (.inl rfl) e,c⟩
 | ins C dx fs=>
  obtain ⟨d,z,ne,e,mA,⟨od,es,ep,e2,c⟩,r⟩:=x
  exact ⟨ho _ d,z,ne,k _ _ (.inl rfl) e,mA,⟨od,es,ep,k _ _ (.inr d) e2,c⟩,r⟩
 | own y=>obtain ⟨ob,e⟩:=x;exact ⟨ob,k _ _ (.inl rfl) e⟩
 | xd fs=>obtain ⟨mA,⟨od,es,ep,e,c⟩,r⟩:=x;exact ⟨mA,⟨od,es,ep,k _ _ (.inl rfl) e,c⟩,r⟩
 | rng lo hi=>obtain ⟨t,u,v,e⟩:=x;exact ⟨t,u,v,k _ _ (.inl rfl) e⟩
 | frz ob u ih=>obtain ⟨e,q⟩:=x;exact ⟨k _ _ (.inl rfl) e,ih q⟩
 | tbl ps=>
  have e:h.get? a=some {cls:=.none,data:=.fields ps}:=x
  show h'.get? a=some {cls:=.none,data:=.fields ps}
  exact k a _ (.inl rfl) e
 | met f y=>
  have e:h.get? a=some (PySem.W.methodObj (.ref f) (.ref y)):=x
  show h'.get? a=some (PySem.W.methodObj (.ref f) (.ref y))
  exact k a _ (.inl rfl) e
 | ext φ=>obtain ⟨p,⟨o,e⟩,st⟩:=x;exact ⟨st _ _ p fun o q=>k _ _ (.inl rfl) q,⟨o,k _ _ (.inl rfl) e⟩,st⟩
theorem HOk.lt (x:HOk P w H h) (e:H a=some o):a<h.objs.size:=(x a o e).lt
theorem HOk.fresh (x:HOk P w H h) (e:h.objs.size<=a):H a=none:=by
 cases q:H a with
 | none=>rfl
 | some u=>exact absurd (Nat.lt_of_lt_of_le (x.lt q) e) (Nat.lt_irrefl _)
theorem HOk.kept (x:HOk P w H h) (k:∀ b u,h.get? b=some u->h'.get? b=some u):HOk P w H h':=fun a o e=>
 (x a o e).stay (fun b u _ q=>k b u q) (fun _ q=>q) fun _ _ q=>q
theorem HOk.laid (x:HOk P w H h) (k:∀ b u,h.get? b=some u->h'.get? b=some u) (hp:h.objs.size<=a) (new:ObjOk P w (upd H a o) h' a o):HOk P w (upd H a o) h':=fun b u e=>by
 have hn:=x.fresh hp
 by_cases hb:b=a
 ·subst hb;rw[BA] at e;cases e;exact new
 ·rw[AR hb] at e
  exact (x b u e).stay (fun c v _ q=>k c v q) (fun c q=>by rw[AR (BU q hn)];exact q) fun c xs q=>by rw[AR (BU q hn)];exact q
end
def Rd (H:Hp) (a:Addr) (u:HO):Prop:=H a=some u\/∃ o,H a=some (.frz o u)
theorem Rd.ok {P:Program} {w:World} {H:Hp} {h:Heap} {a:Addr} {u:HO} (r:Rd H a u) (x:HOk P w H h):ObjOk P w H h a u:=by
 rcases r with r | ⟨o,r⟩
 ·exact x a u r
 ·obtain ⟨_,q⟩:=x a _ r
  exact q
def Mut:Option HO->Prop
 | some (.lst _)=>True
 | some (.dK _)=>True
 | some (.dT _)=>True
 | some (.set _ _)=>True
 | some (.ins _ _ _)=>True
 | some (.ext _)=>True
 | _=>False
section
variable {P:Program} {w:World} {H:Hp} {h h':Heap} {x e:Addr} {o':HO}
theorem HOk.write (ok:HOk P w H h) (mu:Mut (H x)) (he:e=x\/H e=some (.own x)) (k:∀ b u,b≠e->h.get? b=some u->h'.get? b=some u) (heo:∃ u,h'.get? e=some u)
  (new:ObjOk P w (upd H x o') h' x o'):HOk P w (upd H x o') h':=fun b u q=>by
 have nown:∀ c y,H c=some (.own y)->c≠x:=fun c y r z=>by subst z;rw[r] at mu;exact mu
 have ntup:∀ c xs,H c=some (.tup xs)->c≠x:=fun c xs r z=>by subst z;rw[r] at mu;exact mu
 by_cases hb:b=x
 ·subst hb;rw[BA] at q;cases q;exact new
 ·rw[AR hb] at q
  by_cases hbe:b=e
  ·have q':H b=some (.own x):=by
    rcases he with z | z
    ·exact absurd (hbe.trans z) hb
    ·rw[hbe];exact z
   rw[q] at q';cases q'
   obtain ⟨v,hv⟩:=heo
   exact ⟨v,by rw[hbe];exact hv⟩
  ·refine (ok b u q).stay (fun c v hc r=>k c v ?_ r) (fun c r=>by rw[AR (nown c b r)];exact r) fun c xs r=>by rw[AR (ntup c xs r)];exact r
   rcases hc with rfl | hc
   ·exact hbe
   ·rintro rfl
    rcases he with z | z
    ·exact nown c b hc z
    ·rw[hc] at z;cases z;exact hb rfl
end
structure Un (fs ex:List Addr) (H H':Hp) (h h':Heap):Prop where
 keep:∀ b o,h.get? b=some o->H b=none->b∉fs->b∉ex->h'.get? b=some o
 slot:∀ b o,h.get? b=some o->H b=none->b∈fs->b∉ex->∃ sl,h'.get? b=some {o with slots:=sl}
 free:∀ b o,h.get? b=some o->H b=none->b∉ex->H' b=none
 there:∀ b o,h.get? b=some o->b∉ex->∃ o',h'.get? b=some o'
 tups:∀ b xs,H b=some (.tup xs)->H' b=some (.tup xs)
 frzs:∀ b o u,H b=some (.frz o u)->H' b=some (.frz o u)
 tbls:∀ b ps,H b=some (.tbl ps)->∃ more,H' b=some (.tbl (ps++more))
section
variable {fs fs' ex ex':List Addr} {H H1 H2:Hp} {h h1 h2 h':Heap} {a x e:Addr} {o:HO}
theorem Un.any (u:Un fs ex H H1 h h1) {b:Addr} {ob:Obj} (q:h.get? b=some ob) (n:H b=none) (hx:b∉ex):∃ sl,h1.get? b=some {ob with slots:=sl}:=by
 by_cases hb:b∈fs
 ·exact u.slot b ob q n hb hx
 ·exact ⟨ob.slots,u.keep b ob q n hb hx⟩
theorem Un.kept (k:∀ b u,h.get? b=some u->h'.get? b=some u):Un fs ex H H h h':=
 ⟨fun b ob q _ _ _=>k b ob q,fun b ob q _ _ _=>⟨ob.slots,k b ob q⟩,fun _ _ _ n _=>n,fun b ob q _=>⟨ob,k b ob q⟩,fun _ _ q=>q,fun _ _ _ q=>q,fun _ ps q=>⟨#[],by rw[q];simp⟩⟩
theorem Un.refl:Un fs ex H H h h:=Un.kept fun _ _ q=>q
theorem Un.laid (k:∀ b u,h.get? b=some u->h'.get? b=some u) (hp:h.objs.size<=a) (hn:H a=none):Un fs ex H (upd H a o) h h' where
 keep:=fun b u q _ _ _=>k b u q
 slot:=fun b u q _ _ _=>⟨u.slots,k b u q⟩
 free:=fun b u q n _=>by rw[AR (Nat.ne_of_lt (Nat.lt_of_lt_of_le (Heap.lt_size q) hp))];exact n
 there:=fun b u q _=>⟨u,k b u q⟩
 tups:=fun b xs q=>by rw[AR (BU q hn)];exact q
 frzs:=fun b u xs q=>by rw[AR (BU q hn)];exact q
 tbls:=fun b ps q=>⟨#[],by rw[AR (BU q hn),q];simp⟩
theorem Un.write (mu:Mut (H x)) (he:e=x\/H e=some (.own x)) (k:∀ b u,b≠e->h.get? b=some u->h'.get? b=some u) (heo:∃ u,h'.get? e=some u):Un fs ex H (upd H x o) h h':=by
 have hx:∀ b,H b=none->b≠x:=fun b n z=>by subst z;rw[n] at mu;exact mu
 have hb:∀ b,H b=none->b≠e:=fun b n z=>by
  subst z
  rcases he with r | r
  ·exact hx b n r
  ·rw[n] at r;cases r
 have hm:∀ b u,H b=some u->¬Mut (some u)->b≠x:=fun b u q nm z=>by subst z;rw[q] at mu;exact nm mu
 refine ⟨fun b u q n _ _=>k b u (hb b n) q,fun b u q n _ _=>⟨u.slots,k b u (hb b n) q⟩,fun b u q n _=>by rw[AR (hx b n)];exact n,fun b u q _=>?_,
  fun b xs q=>by rw[AR (hm b _ q fun z=>z)];exact q,fun b u xs q=>by rw[AR (hm b _ q fun z=>z)];exact q,fun b ps q=>⟨#[],by rw[AR (hm b _ q fun z=>z),q];simp⟩⟩
 by_cases hbe:b=e
 ·subst hbe;exact heo
 ·exact ⟨u,k b u hbe q⟩
end
def trk (h:Heap) (H:Hp):List Addr:=(List.range h.objs.size).filter fun a=>(H a).isSome
def Cn (h:Heap) (H:Hp):Heap:=PySem.W.hideAll h (trk h H)
theorem Tq (h:Heap) (H:Hp):(Cn h H).objs.size=h.objs.size:=PySem.W.hideAll_size _ _
theorem Qt {h:Heap} {H:Hp} {b:Addr} {o:Obj} (e:h.get? b=some o) (n:H b=none):(Cn h H).get? b=some o:=
 PySem.W.hideAll_get _ e fun hm=>by
  have q:(H b).isSome=true:=(List.mem_filter.mp hm).2
  rw[n] at q;simp at q
theorem OB {h:Heap} {H:Hp} {b:Addr} {o:Obj} (e:(Cn h H).get? b=some o):h.get? b=some o/\H b=none:=by
 have e':h.get? b=some o:=PySem.W.of_hideAll (trk h H) e
 refine ⟨e',?_⟩
 cases q:H b with
 | none=>rfl
 | some x=>
  have hm:b∈trk h H:=List.mem_filter.mpr ⟨List.mem_range.mpr (Heap.lt_size e'),by simp[q]⟩
  have z:(Cn h H).get? b=none:=PySem.W.hideAll_none (trk h H) hm
  rw[z] at e;cases e
def Tt (g h:Heap) (L:Addr):List (Addr×Obj):=(List.range h.objs.size).filterMap fun a=>if a=L\/(g.get? a).isSome=true then none else (h.get? a).map fun o=>(a,o)
def rest (g h:Heap) (L d:Addr):List (Addr×Obj):=(Tt g h L).filter fun p=>decide (p.1≠d)
structure Mod (K:PySem.W.Frag) (mg:Str->Option Value) (base:Heap):Prop where
 kin:K.In base
 glob:base.Ns mainGlobals mg
 blt:∃ mb,base.Ns builtinsNs mb/\∀ x:Str,x≠"__name__"->mb x=bootBuiltins x
 nolimit:base.NoLimit
structure Cx where
 prog:Program
 w:World
 K:PySem.W.Frag
 mg:Str->Option Value
 base:Heap
 A:Around
 N:List Str
 s₀:Shared
 H₀:Hp
 env:Env
 outer:List Env
 stack:List Env
 ex:List Addr
 fn:Str->Bool
 calm:Bool
 pn:List (Addr×Obj)
 xe:Value->Shared->Prop
def frs (l:List Env):List Addr:=l.filterMap (·.frame)
abbrev Cx.fs (X:Cx):List Addr:=frs X.outer
def Vis (sc:Scope) (x:Str):Prop:=sc.names.lookup x=some .local\/sc.names.lookup x=some .cell\/sc.names.lookup x=some .free
def Loc (sc:Scope) (x:Str):Prop:=sc.names.lookup x=some .local\/sc.names.lookup x=some .cell
def Look (env:Env) (h:Heap) (m:Str->Option Value) (x:Str) (u:Value):Prop:=
 (env.kindOf x=some .local/\m x=some u)\/((env.kindOf x=some .cell\/env.kindOf x=some .free)/\∃ c,env.cells.lookup x=some c/\h.IsCell c (some u))
structure Cx.Ok (X:Cx):Prop where
 mod:Mod X.K X.mg X.base
 kind:X.env.scope.kind=.function
 glob:X.env.globals=mainGlobals
 blt:X.env.builtins=builtinsNs
 above:X.s₀.heap.objs.size<=X.env.locals
 inj:∀ x y c,X.env.cells.lookup x=some c->X.env.cells.lookup y=some c->x=y
 has:∀ x,(X.env.kindOf x=some .cell\/X.env.kindOf x=some .free)->∃ c,X.env.cells.lookup x=some c
 cab:∀ x c,X.fn x=true->X.env.cells.lookup x=some c->X.s₀.heap.objs.size<=c
 hd:X.calm=true->X.A.handled=none
 frames:X.A.frames=some X.stack
 stk:X.stack=X.outer\/(X.stack=X.env::X.outer/\X.env.frame=some X.env.locals)
 exf:∀ b∈X.ex,b≠X.env.locals/\∀ x c,X.env.cells.lookup x=some c->c≠b
 bs:∀ b o,X.base.get? b=some o->X.s₀.heap.get? b=some o/\X.H₀ b=none
 bsz:X.base.objs.size<=X.s₀.heap.objs.size
 noex:∀ b o,X.base.get? b=some o->b∉X.ex
 exfs:∀ b∈X.ex,b∉X.fs
 funs:X.s₀.heap.FunFrames X.base X.outer
 frf:∀ b∈X.fs,X.H₀ b=none
structure Inv (X:Cx) (pins:List (Addr×Obj)) (σ:List (Option V)) (H:Hp) (s:Shared):Prop where
 ok:X.Ok
 os:s.os=X.s₀.os
 bare:AllBare s.gens
 base:Un X.fs X.ex X.H₀ H X.s₀.heap s.heap
 loc:∃ m,s.heap.Ns X.env.locals m/\∀ (i:Nat) (x:Str) (v:V),X.N[i]?=some x->σ[i]?=some (some v)->Vis X.env.scope x->∃ u,RelV v u/\Look X.env s.heap m x u
 cell:∀ x c,X.env.cells.lookup x=some c->∃ v,s.heap.IsCell c v
 free:H X.env.locals=none
 freeC:∀ x c,X.env.cells.lookup x=some c->H c=none
 pin:∀ p∈X.pn++pins,s.heap.get? p.1=some p.2/\H p.1=none/\p.1≠X.env.locals/\p.1∉X.fs/\∀ v,p.2.data≠.cell v
 hok:HOk X.prog X.w H s.heap
 len:σ.length=X.N.length
section
variable {X:Cx} {pins:List (Addr×Obj)} {σ:List (Option V)} {H H':Hp} {s:Shared} {h':Heap}
theorem Cx.Ok.nofr (ok:X.Ok) {b:Addr} {o:Obj} (e:X.base.get? b=some o):b∉X.fs:=fun hb=>by
 have:=(ok.funs.mem hb).1
 rw[e] at this;cases this
theorem Inv.bs (I:Inv X pins σ H s):∀ b o,X.base.get? b=some o->s.heap.get? b=some o/\H b=none:=fun b o e=>
 ⟨I.base.keep b o (I.ok.bs b o e).1 (I.ok.bs b o e).2 (I.ok.nofr e) (I.ok.noex b o e),I.base.free b o (I.ok.bs b o e).1 (I.ok.bs b o e).2 (I.ok.noex b o e)⟩
theorem Inv.bk (I:Inv X pins σ H s):∀ b o,X.base.get? b=some o->s.heap.get? b=some o:=fun b o e=>(I.bs b o e).1
theorem Inv.mod (I:Inv X pins σ H s):Mod X.K X.mg X.base:=I.ok.mod
theorem Inv.kIn (I:Inv X pins σ H s):X.K.In s.heap:=I.ok.mod.kin.keeps I.bk
theorem Inv.fr (I:Inv X pins σ H s):∃ m,Fr X.base X.env.locals s.heap m:=
 let ⟨m,hn,_⟩:=I.loc
 ⟨m,hn,I.bk,Nat.le_trans I.ok.bsz I.ok.above⟩
theorem Inv.lt (I:Inv X pins σ H s):X.env.locals<s.heap.objs.size:=let ⟨_,hn,_⟩:=I.loc;hn.lt
theorem Inv.sz (I:Inv X pins σ H s):X.s₀.heap.objs.size<=s.heap.objs.size:=Nat.le_trans I.ok.above (Nat.le_of_lt I.lt)
theorem Inv.nofs (I:Inv X pins σ H s) {a:Addr} (h:s.heap.objs.size<=a):a∉X.fs:=fun hb=>by
 obtain ⟨_,o,ho,_⟩:=I.ok.funs.mem hb
 exact absurd (Nat.lt_of_lt_of_le (Heap.lt_size ho) (Nat.le_trans I.sz h)) (Nat.lt_irrefl _)
theorem Inv.cne (I:Inv X pins σ H s):∀ x c,X.env.cells.lookup x=some c->c≠X.env.locals:=fun x c e z=>by
 obtain ⟨v,o,ho,hd⟩:=I.cell x c e
 obtain ⟨m,⟨o',es,ep,ho',hd',_⟩,_⟩:=I.loc
 rw[z,ho'] at ho;cases ho;rw[hd'] at hd;cases hd
theorem Inv.funs (I:Inv X pins σ H s):s.heap.FunFrames X.base X.outer:=by
 have all:∀ (l:List Env),(∀ b∈frs l,b∈X.fs)->X.s₀.heap.FunFrames X.base l->s.heap.FunFrames X.base l:=by
  intro l
  induction l with
  | nil=>intro _ _;trivial
  | cons env r ih=>
   intro hs hl
   obtain ⟨hk,⟨L,o,hf,hn,ho,hd⟩,hr⟩:=hl
   have hL:L∈X.fs:=hs L (by unfold frs;rw[List.filterMap_cons,hf];exact List.mem_cons_self)
   obtain ⟨sl,e⟩:=I.base.slot L o ho (I.ok.frf L hL) hL fun z=>I.ok.exfs L z hL
   exact ⟨hk,⟨L,_,hf,hn,e,hd⟩,ih (fun b hb=>hs b (by unfold frs;rw[List.filterMap_cons,hf];exact List.mem_cons_of_mem _ hb)) hr⟩
 exact all X.outer (fun _ hb=>hb) I.ok.funs
theorem Inv.stack (I:Inv X pins σ H s):s.heap.FunFrames X.base X.stack:=by
 rcases I.ok.stk with e | ⟨e,hf⟩
 ·rw[e];exact I.funs
 ·rw[e]
  obtain ⟨m,hn,_⟩:=I.loc
  refine .cons (by rw[I.ok.kind];decide) hf hn ?_ I.funs
  exact Heap.get?_none_of_le (Nat.le_trans I.ok.bsz I.ok.above)
theorem Inv.stkSub (I:Inv X pins σ H s):∀ b∈frs X.stack,b∈X.env.locals::X.fs:=fun b hb=>by
 rcases I.ok.stk with e | ⟨e,hf⟩
 ·rw[e] at hb;exact List.mem_cons_of_mem _ hb
 ·rw[e] at hb
  unfold frs at hb
  rw[List.filterMap_cons,hf] at hb
  exact hb
theorem Inv.stkFree (I:Inv X pins σ H s):∀ b∈frs X.stack,H b=none:=fun b hb=>by
 rcases List.mem_cons.mp (I.stkSub b hb) with e | hb
 ·rw[e];exact I.free
 ·obtain ⟨_,o,ho,_⟩:=I.ok.funs.mem hb
  exact I.base.free b o ho (I.ok.frf b hb) fun z=>I.ok.exfs b z hb
theorem Inv.step {g':Array GenState} {t':Nat} {d':Drawn} {ch:List Addr} (I:Inv X pins σ H s)
  (hch:∀ b∈ch,(b∈X.ex\/X.s₀.heap.objs.size<=b)/\b≠X.env.locals/\(∀ x c,X.env.cells.lookup x=some c->c≠b)/\∀ p∈X.pn++pins,p.1≠b)
  (keep:∀ b o,b≠X.env.locals->b∉X.fs->b∉ch->s.heap.get? b=some o->H b=none->h'.get? b=some o)
  (slot:∀ b o,b≠X.env.locals->b∈X.fs->b∉ch->s.heap.get? b=some o->H b=none->∃ sl,h'.get? b=some {o with slots:=sl}) (free:∀ b o,b∉ch->s.heap.get? b=some o->H b=none->H' b=none)
  (there:∀ b o,b∉ch->s.heap.get? b=some o->∃ o',h'.get? b=some o')
  (tups:∀ b xs,H b=some (.tup xs)->H' b=some (.tup xs)) (frzs:∀ b o u,H b=some (.frz o u)->H' b=some (.frz o u)) (tbls:∀ b ps,H b=some (.tbl ps)->∃ more,H' b=some (.tbl (ps++more)))
  (ns:∀ m,s.heap.Ns X.env.locals m->h'.Ns X.env.locals m) (hok:HOk X.prog X.w H' h') (hg:AllBare g') :
  Inv X pins σ H' {s with heap:=h',gens:=g',drawn:=d',toks:=t'}:=by
 have neL:∀ b o,X.s₀.heap.get? b=some o->b≠X.env.locals:=fun b o e=>Nat.ne_of_lt (Nat.lt_of_lt_of_le (Heap.lt_size e) I.ok.above)
 have neC:∀ b o,X.s₀.heap.get? b=some o->b∉X.ex->b∉ch:=fun b o e hx hb=>by
  rcases (hch b hb).1 with z | z
  ·exact hx z
  ·exact absurd (Nat.lt_of_lt_of_le (Heap.lt_size e) z) (Nat.lt_irrefl _)
 have cellK:∀ x c,X.env.cells.lookup x=some c->∀ v,s.heap.IsCell c v->h'.IsCell c v:=fun x c e v hh_=>by
  obtain ⟨o,ho,hd⟩:=hh_
  have nch:c∉ch:=fun z=>(hch c z).2.2.1 x c e rfl
  by_cases hc:c∈X.fs
  ·obtain ⟨sl,q⟩:=slot c o (I.cne x c e) hc nch ho (I.freeC x c e)
   exact ⟨_,q,hd⟩
  ·exact ⟨o,keep c o (I.cne x c e) hc nch ho (I.freeC x c e),hd⟩
 refine ⟨I.ok,I.os,hg,⟨fun b o e n hb hx=>?_,fun b o e n hb hx=>?_,fun b o e n hx=>?_,fun b o e hx=>?_,fun b xs e=>tups b xs (I.base.tups b xs e),fun b o xs e=>frzs b o xs (I.base.frzs b o xs e),fun b ps e=>?_⟩,?_,fun x c e=>?_,?_,fun x c e=>?_,fun p hp=>?_,hok,I.len⟩
 ·exact keep b o (neL b o e) hb (neC b o e hx) (I.base.keep b o e n hb hx) (I.base.free b o e n hx)
 ·obtain ⟨sl,e1⟩:=I.base.slot b o e n hb hx
  obtain ⟨sl',e2⟩:=slot b _ (neL b o e) hb (neC b o e hx) e1 (I.base.free b o e n hx)
  exact ⟨sl',e2⟩
 ·obtain ⟨o',e1⟩:=I.base.there b o e hx
  exact free b o' (neC b o e hx) e1 (I.base.free b o e n hx)
 ·obtain ⟨o',e1⟩:=I.base.there b o e hx
  exact there b o' (neC b o e hx) e1
 ·obtain ⟨m1,e1⟩:=I.base.tbls b ps e
  obtain ⟨m2,e2⟩:=tbls b _ e1
  exact ⟨m1++m2,by rw[e2,Array.append_assoc]⟩
 ·obtain ⟨m,hn,hl⟩:=I.loc
  refine ⟨m,ns m hn,fun i x v e1 e2 e3=>?_⟩
  obtain ⟨u,r,l⟩:=hl i x v e1 e2 e3
  refine ⟨u,r,?_⟩
  rcases l with l | ⟨k,c,e,z⟩
  ·exact .inl l
  ·exact .inr ⟨k,c,e,cellK x c e _ z⟩
 ·obtain ⟨v,z⟩:=I.cell x c e
  exact ⟨v,cellK x c e v z⟩
 ·obtain ⟨m,⟨o,_,_,ho,_⟩,_⟩:=I.loc
  exact free _ o (fun z=>(hch _ z).2.1 rfl) ho I.free
 ·obtain ⟨v,o,ho,hd⟩:=I.cell x c e
  exact free c o (fun z=>(hch c z).2.2.1 x c e rfl) ho (I.freeC x c e)
 ·obtain ⟨e,n,ne,nf,d⟩:=I.pin p hp
  have nch:p.1∉ch:=fun z=>(hch p.1 z).2.2.2 p hp rfl
  exact ⟨keep p.1 p.2 ne nf nch e n,free p.1 p.2 nch e n,ne,nf,d⟩
theorem Inv.un {t':Nat} (I:Inv X pins σ H s) (u:Un X.fs [] H H' s.heap h') (hok:HOk X.prog X.w H' h'):Inv X pins σ H' {s with heap:=h',toks:=t'}:=by
 obtain ⟨m,⟨o,es,ep,ho,r⟩,_⟩:=id I.loc
 obtain ⟨sl,hL⟩:=u.any ho I.free (by simp)
 exact I.step (g':=s.gens) (d':=s.drawn) (ch:=[]) (fun _ z=>nomatch z) (fun b o _ hb _ e n=>u.keep b o e n hb (by simp)) (fun b o _ hb _ e n=>u.slot b o e n hb (by simp)) (fun b o _ e n=>u.free b o e n (by simp)) (fun b o _ e=>u.there b o e (by simp)) u.tups u.frzs u.tbls (fun m' hm=>by
  obtain ⟨o',es',ep',ho',r'⟩:=hm
  rw[ho] at ho';cases ho'
  exact ⟨_,es',ep',hL,r'⟩) hok I.bare
theorem Inv.call {g':Array GenState} {t':Nat} {d':Drawn} {ch:List Addr} (I:Inv X pins σ H s) (u:Un (frs X.stack) ch H H' s.heap h') (hok:HOk X.prog X.w H' h') (hg:AllBare g')
  (hch:∀ b∈ch,(b∈X.ex\/X.s₀.heap.objs.size<=b)/\b≠X.env.locals/\(∀ x c,X.env.cells.lookup x=some c->c≠b)/\∀ p∈X.pn++pins,p.1≠b) :
  Inv X pins σ H' {s with heap:=h',gens:=g',drawn:=d',toks:=t'}:=by
 obtain ⟨m,⟨o,es,ep,ho,r⟩,_⟩:=id I.loc
 obtain ⟨sl,hL⟩:=u.any ho I.free fun z=>(hch _ z).2.1 rfl
 exact I.step (ch:=ch) hch (fun b o hL hb hc e n=>u.keep b o e n (fun z=>(List.mem_cons.mp (I.stkSub b z)).elim hL hb) hc) (fun b o _ _ hc e n=>u.any e n hc) (fun b o hc e n=>u.free b o e n hc) (fun b o hc e=>u.there b o e hc) u.tups u.frzs u.tbls (fun m' hm=>by
  obtain ⟨o',es',ep',ho',r'⟩:=hm
  rw[ho] at ho';cases ho'
  exact ⟨_,es',ep',hL,r'⟩) hok hg
theorem Inv.turned {t':Nat} {it:Addr} (I:Inv X pins σ H s) (k:∀ b o,b≠it->s.heap.get? b=some o->h'.get? b=some o) (hn:H it=none) (hL:it≠X.env.locals)
  (h1:it∈X.ex\/X.s₀.heap.objs.size<=it) (h2:∀ x c,X.env.cells.lookup x=some c->c≠it) (h3:∀ p∈X.pn++pins,p.1≠it):Inv X pins σ H {s with heap:=h',toks:=t'}:=by
 have nit:∀ b u,H b=some u->b≠it:=fun b u e z=>by rw[z,hn] at e;cases e
 refine I.step (g':=s.gens) (d':=s.drawn) (ch:=[it]) (fun b hb=>?_) (fun b o _ _ hc e _=>k b o (fun z=>hc (by simp[z])) e) (fun b o _ _ hc e _=>⟨o.slots,k b o (fun z=>hc (by simp[z])) e⟩) (fun _ _ _ _ n=>n)
  (fun b o hc e=>⟨o,k b o (fun z=>hc (by simp[z])) e⟩) (fun _ _ e=>e) (fun _ _ _ e=>e) (fun b ps e=>⟨#[],by rw[e];simp⟩) (fun m hm=>?_) (fun b u e=>?_) I.bare
 ·have e:b=it:=by simpa using hb
  subst e
  exact ⟨h1,hL,h2,h3⟩
 ·obtain ⟨o,es,ep,ho,r⟩:=hm
  exact ⟨o,es,ep,k _ o (Ne.symm hL) ho,r⟩
 ·refine (I.hok b u e).stay (fun c v hc q=>k c v ?_ q) (fun _ q=>q) fun _ _ q=>q
  rcases hc with z | z
  ·rw[z];exact nit b u e
  ·exact nit c _ z
theorem Inv.tok (I:Inv X pins σ H s) (t:Nat):Inv X pins σ H {s with toks:=t}:=I.un (h':=s.heap) (t':=t) Un.refl I.hok
theorem Inv.kept {t':Nat} (I:Inv X pins σ H s) (k:∀ b u,s.heap.get? b=some u->h'.get? b=some u):Inv X pins σ H {s with heap:=h',toks:=t'}:=I.un (Un.kept k) (I.hok.kept k)
theorem Inv.laid {a:Addr} {o:HO} {t':Nat} (I:Inv X pins σ H s) (k:∀ b u,s.heap.get? b=some u->h'.get? b=some u) (hp:s.heap.objs.size<=a) (new:ObjOk X.prog X.w (upd H a o) h' a o) :
  Inv X pins σ (upd H a o) {s with heap:=h',toks:=t'}:=I.un (Un.laid k hp (I.hok.fresh hp)) (I.hok.laid k hp new)
theorem Inv.write {x e:Addr} {o:HO} {t':Nat} (I:Inv X pins σ H s) (mu:Mut (H x)) (he:e=x\/H e=some (.own x)) (k:∀ b u,b≠e->s.heap.get? b=some u->h'.get? b=some u) (heo:∃ u,h'.get? e=some u)
  (new:ObjOk X.prog X.w (upd H x o) h' x o):Inv X pins σ (upd H x o) {s with heap:=h',toks:=t'}:=I.un (Un.write mu he k heo) (I.hok.write mu he k heo new)
theorem Inv.pins_of {pins':List (Addr×Obj)} (I:Inv X pins σ H s) (h:∀ p∈pins',s.heap.get? p.1=some p.2/\H p.1=none/\p.1≠X.env.locals/\p.1∉X.fs/\∀ v,p.2.data≠.cell v):Inv X pins' σ H s:=
 ⟨I.ok,I.os,I.bare,I.base,I.loc,I.cell,I.free,I.freeC,fun p hp=>(List.mem_append.mp hp).elim (fun z=>I.pin p (List.mem_append_left _ z)) (h p),I.hok,I.len⟩
theorem IS {N:List Str} (hN:N.Nodup) {i j:Nat} {x:Str} (a:N[i]?=some x) (b:N[j]?=some x):i=j:=by
 obtain ⟨h1,e1⟩:=List.getElem?_eq_some_iff.mp a
 obtain ⟨h2,e2⟩:=List.getElem?_eq_some_iff.mp b
 exact (List.getElem_inj hN).mp (e1.trans e2.symm)
theorem LO {M:Model} {A:Around} {E:Value->Shared->Prop} {i:Nat} {x:Str} {v:V} {u:Value} {Q:Unit->Shared->Prop} (I:Inv X pins σ H s) (hN:X.N.Nodup) (hi:X.N[i]?=some x) (hx:Loc X.env.scope x) (r:RelV v u)
  (h:∀ s',Inv X pins (σ.set i (some v)) H s'->(∃ a,Heap.SameBut a s.heap s'.heap/\(a=X.env.locals\/X.env.cells.lookup x=some a))->Q () s') (hf:X.fn x=true\/X.env.scope.names.lookup x=some .local:=by first | exact .inl rfl | exact .inr rfl | assumption):wpAny M A (storeName X.env x u) Q E s:=by
 obtain ⟨m,hn,hl⟩:=id I.loc
 have hcls:(X.env.scope.kind == .class || (X.env.scope.kind == .module && X.env.locals != X.env.globals))=false:=by rw[I.ok.kind];rfl
 have hiσ:i<σ.length:=by rw[I.len];exact (List.getElem?_eq_some_iff.mp hi).1
 have cne:=I.cne
 have tracked:∀ {a:Addr} {h':Heap},(∃ o,s.heap.get? a=some o/\H a=none)->Heap.SameBut a s.heap h'->HOk X.prog X.w H h':=fun {a h'} ha hs b ob e=>by
  obtain ⟨_,_,hfree⟩:=ha
  refine (I.hok b ob e).stay (fun c w' hc q=>(hs.2 c ?_).trans q) (fun _ q=>q) fun _ _ q=>q
  rintro rfl
  rcases hc with rfl | hc
  ·rw[hfree] at e;cases e
  ·rw[hfree] at hc;cases hc
 rcases hx with hk | hk
 ·refine wpAny_storeName_local hk hn (fun h' hn' hs=>?_) hcls
  obtain ⟨oL,_,_,hoL,_⟩:=id hn
  refine h _ ⟨I.ok,I.os,I.bare,⟨fun b o e n hb hx=>?_,fun b o e n hb hx=>?_,I.base.free,fun b o e hx=>?_,I.base.tups,I.base.frzs,I.base.tbls⟩,⟨_,hn',fun j y v' e1 e2 e3=>?_⟩,fun y c e=>?_,I.free,I.freeC,fun p hp=>?_,tracked ⟨oL,hoL,I.free⟩ hs,by simpa using I.len⟩ ⟨_,hs,.inl rfl⟩
  ·exact (hs.2 b (Nat.ne_of_lt (Nat.lt_of_lt_of_le (Heap.lt_size e) I.ok.above))).trans (I.base.keep b o e n hb hx)
  ·obtain ⟨sl,e1⟩:=I.base.slot b o e n hb hx
   exact ⟨sl,(hs.2 b (Nat.ne_of_lt (Nat.lt_of_lt_of_le (Heap.lt_size e) I.ok.above))).trans e1⟩
  ·obtain ⟨o',e1⟩:=I.base.there b o e hx
   exact ⟨o',(hs.2 b (Nat.ne_of_lt (Nat.lt_of_lt_of_le (Heap.lt_size e) I.ok.above))).trans e1⟩
  ·by_cases hj:j=i
   ·subst hj
    rw[hi] at e1;cases e1
    rw[List.getElem?_set_self hiσ] at e2
    cases e2
    exact ⟨u,r,.inl ⟨hk,by simp⟩⟩
   ·rw[List.getElem?_set_ne (Ne.symm hj)] at e2
    obtain ⟨u',r',q⟩:=hl j y v' e1 e2 e3
    refine ⟨u',r',?_⟩
    rcases q with ⟨k,e⟩ | ⟨k,c,e,z⟩
    ·refine .inl ⟨k,?_⟩
     have:y≠x:=fun e=>hj (IS hN e1 (e▸hi))
     simp[this,e]
    ·exact .inr ⟨k,c,e,z.sameBut hs (cne y c e)⟩
  ·obtain ⟨w',z⟩:=I.cell y c e
   exact ⟨w',z.sameBut hs (cne y c e)⟩
  ·obtain ⟨e,n,ne,nf,d⟩:=I.pin p hp
   exact ⟨(hs.2 p.1 ne).trans e,n,ne,nf,d⟩
 ·have hfn:X.fn x=true:=by
   rcases hf with z | z
   ·exact z
   ·rw[z] at hk;cases hk
  obtain ⟨c,hc⟩:=I.ok.has x (.inl hk)
  obtain ⟨w',z⟩:=I.cell x c hc
  refine wpAny_storeName_cell I.ok.kind hk hc z (fun h' hc' hs=>?_)
  obtain ⟨oc,hoc,hocd⟩:=id z
  refine h {s with heap:=h'} ⟨I.ok,I.os,I.bare,⟨fun b o e n hb hx=>?_,fun b o e n hb hx=>?_,I.base.free,fun b o e hx=>?_,I.base.tups,I.base.frzs,I.base.tbls⟩,⟨m,hn.sameBut hs (Ne.symm (cne x c hc)),fun j y v' e1 e2 e3=>?_⟩,fun y c' e=>?_,I.free,I.freeC,fun p hp=>?_,tracked ⟨oc,hoc,I.freeC x c hc⟩ hs,by simpa using I.len⟩ ⟨c,hs,.inr hc⟩
  ·exact (hs.2 b (Nat.ne_of_lt (Nat.lt_of_lt_of_le (Heap.lt_size e) (I.ok.cab x c hfn hc)))).trans (I.base.keep b o e n hb hx)
  ·obtain ⟨sl,e1⟩:=I.base.slot b o e n hb hx
   exact ⟨sl,(hs.2 b (Nat.ne_of_lt (Nat.lt_of_lt_of_le (Heap.lt_size e) (I.ok.cab x c hfn hc)))).trans e1⟩
  ·obtain ⟨o',e1⟩:=I.base.there b o e hx
   exact ⟨o',(hs.2 b (Nat.ne_of_lt (Nat.lt_of_lt_of_le (Heap.lt_size e) (I.ok.cab x c hfn hc)))).trans e1⟩
  ·by_cases hj:j=i
   ·subst hj
    rw[hi] at e1;cases e1
    rw[List.getElem?_set_self hiσ] at e2
    cases e2
    exact ⟨u,r,.inr ⟨.inl hk,c,hc,hc'⟩⟩
   ·rw[List.getElem?_set_ne (Ne.symm hj)] at e2
    obtain ⟨u',r',q⟩:=hl j y v' e1 e2 e3
    refine ⟨u',r',?_⟩
    rcases q with q | ⟨k,c',e,z'⟩
    ·exact .inl q
    ·refine .inr ⟨k,c',e,z'.sameBut hs ?_⟩
     rintro rfl
     exact hj (IS hN e1 (I.ok.inj _ _ _ e hc▸hi))
  ·by_cases hcc:c'=c
   ·subst hcc;exact ⟨_,hc'⟩
   ·obtain ⟨w2,z2⟩:=I.cell y c' e
    exact ⟨w2,z2.sameBut hs hcc⟩
  ·obtain ⟨e,n,ne,nf,d⟩:=I.pin p hp
   refine ⟨(hs.2 p.1 ?_).trans e,n,ne,nf,d⟩
   intro q
   rw[q,hoc] at e
   have q':oc=p.2:=Option.some.inj e
   exact d w' (by rw[<-q'];exact hocd)
theorem Fq {M:Model} {A:Around} {E:Value->Shared->Prop} {i:Nat} {x:Str} {v:V} {u:Value} {Q:Unit->Shared->Prop} (I:Inv X pins σ H s) (hN:X.N.Nodup) (hi:X.N[i]?=some x) (hx:Loc X.env.scope x) (r:RelV v u)
  (h:∀ s',Inv X pins (σ.set i (some v)) H s'->Q () s') (hf:X.fn x=true\/X.env.scope.names.lookup x=some .local:=by first | exact .inl rfl | exact .inr rfl | assumption):wpAny M A (storeName X.env x u) Q E s:=
 LO I hN hi hx r (fun s' I' _=>h s' I') hf
theorem Inv.call' {s':Shared} {ch:List Addr} (I:Inv X pins σ H s) (ho:s'.os=s.os) (u:Un (frs X.stack) ch H H' s.heap s'.heap) (hok:HOk X.prog X.w H' s'.heap) (hg:AllBare s'.gens)
  (hch:∀ b∈ch,(b∈X.ex\/X.s₀.heap.objs.size<=b)/\b≠X.env.locals/\(∀ x c,X.env.cells.lookup x=some c->c≠b)/\∀ p∈X.pn++pins,p.1≠b):Inv X pins σ H' s':=by
 obtain ⟨h',g',d',t',o'⟩:=s'
 have e:o'=s.os:=ho
 subst e
 exact I.call (g':=g') (t':=t') (d':=d') u hok hg hch
end
abbrev XK:=Value->Option Addr->Hp->Prop
abbrev St:=List (Option V)
abbrev VK:=V->Hp->Prop
abbrev TE:=St->Hp->VK->Prop
abbrev TT:=St->Hp->(Bool->Hp->Prop)->Prop
abbrev TA:=St->Hp->(List V->Hp->Prop)->Prop
structure Ends where
 nx:St->Hp->Prop
 rt:VK
 bk:St->Hp->Prop:=fun _ _=>False
 ct:St->Hp->Prop:=fun _ _=>False
abbrev TS:=Ends->St->Hp->Prop
def EP (X:Cx) (pins:List (Addr×Obj)) (σ:St) (Q:VK) (u:Value) (s':Shared):Prop:=∃ v H',Inv X pins σ H' s'/\RelV v u/\Q v H'
def TP (X:Cx) (pins:List (Addr×Obj)) (σ:St) (Q:Bool->Hp->Prop) (b:Bool) (s':Shared):Prop:=∃ H',Inv X pins σ H' s'/\Q b H'
def AP (X:Cx) (pins:List (Addr×Obj)) (σ:St) (Q:List V->Hp->Prop) (us:List Value) (s':Shared):Prop:=∃ vs H',Inv X pins σ H' s'/\Vals vs us/\Q vs H'
def SP (X:Cx) (pins:List (Addr×Obj)) (D:Ends) (f:Flow) (s':Shared):Prop:=
 match f with
 | .next=>∃ σ' H',Inv X pins σ' H' s'/\D.nx σ' H'
 | .brk=>∃ σ' H',Inv X pins σ' H' s'/\D.bk σ' H'
 | .cont=>∃ σ' H',Inv X pins σ' H' s'/\D.ct σ' H'
 | .ret u=>∃ v σ' H',Inv X pins σ' H' s'/\RelV v u/\D.rt v H'
def PE (X:Cx) (e:Expr) (t:TE):Prop:=
 ∀ (pins:List (Addr×Obj)) (s:Shared) (σ:St) (H:Hp) (Q:VK),Inv X pins σ H s->t σ H Q->wpAny (model X.prog X.w) X.A (eval e X.env) (EP X pins σ Q) X.xe s
def PT (X:Cx) (e:Expr) (t:TT):Prop:=
 ∀ (pins:List (Addr×Obj)) (s:Shared) (σ:St) (H:Hp) (Q:Bool->Hp->Prop),Inv X pins σ H s->t σ H Q->wpAny (model X.prog X.w) X.A (isTrue e X.env (eval e X.env)) (TP X pins σ Q) X.xe s
def PW (X:Cx) (e:Expr) (t:TT):Prop:=
 ∀ (whole:Sem Value) (pins:List (Addr×Obj)) (s:Shared) (σ:St) (H:Hp) (Q:Bool->Hp->Prop),Inv X pins σ H s->t σ H Q->wpAny (model X.prog X.w) X.A (isTrue e X.env whole) (TP X pins σ Q) X.xe s
theorem PW.pt {X:Cx} {e:Expr} {t:TT} (h:PW X e t):PT X e t:=h _
def PA (X:Cx) (es:List Expr) (t:TA):Prop:=
 ∀ (pos:Pos) (pins:List (Addr×Obj)) (s:Shared) (σ:St) (H:Hp) (Q:List V->Hp->Prop),Inv X pins σ H s->t σ H Q->wpAny (model X.prog X.w) X.A (spliced (backTo pos (starEach es X.env))) (AP X pins σ Q) X.xe s
def PS (X:Cx) (st:Stmt) (t:TS):Prop:=
 ∀ (pins:List (Addr×Obj)) (s:Shared) (σ:St) (H:Hp) (D:Ends),Inv X pins σ H s->t D σ H->wpAny (model X.prog X.w) X.A (exec st X.env) (SP X pins D) X.xe s
def PSs (X:Cx) (st:List Stmt) (t:TS):Prop:=
 ∀ (pins:List (Addr×Obj)) (s:Shared) (σ:St) (H:Hp) (D:Ends),Inv X pins σ H s->t D σ H->wpAny (model X.prog X.w) X.A (execs st X.env) (SP X pins D) X.xe s
theorem thn {α:Type} {t:Sem α} {Q Q':α->Shared->Prop} {M:Model} {A:Around} {E:Value->Shared->Prop} {s:Shared} (h:wpAny M A t Q E s) (hQ:∀ a s,Q a s->Q' a s):wpAny M A t Q' E s:=wpAny_mono h hQ fun _ _ x=>x
section
variable {X:Cx}
def EJ (i:Nat):TE:=fun σ H Q=>∃ v,σ[i]?=some (some v)/\Q v H
def tC (v:V):TE:=fun _ H Q=>Q v H
theorem MZ {i:Nat} {x:Str} {pos:Pos} (hN:X.N[i]?=some x) (hv:Vis X.env.scope x) (hd:(x == ("__debug__":Str))=false:=by decide) (hcd:(x == ("__classdict__":Str))=false:=by decide):PE X (.Name x pos) (EJ i):=by
 intro pins s σ H Q I h
 obtain ⟨v,e,h⟩:=h
 obtain ⟨m,hn,hl⟩:=I.loc
 obtain ⟨u,r,l⟩:=hl i x v hN e hv
 have fin:EP X pins σ Q u s:=⟨v,H,I,r,h⟩
 rcases l with ⟨hk,hm⟩ | ⟨hk,c,hc,hcell⟩
 ·exact wpAny_Name (wpAny_loadName_local I.ok.kind hk hn hm fin) hd
 ·rcases hk with hk | hk
  ·exact wpAny_Name (wpAny_loadName_cell I.ok.kind hk hc hcell fin) hd
  ·exact wpAny_Name (wpAny_loadName_free I.ok.kind hk hc hcell fin hcd) hd
theorem My {i j pos}:PE X (.Constant (.int i) j pos) (tC (.int i)):=fun _ _ _ H _ I h=>wpAny_Constant_int ⟨.int i,H,I.tok _,⟨_,rfl⟩,h⟩
theorem Sy {b j pos}:PE X (.Constant (.bool b) j pos) (tC (.bl b)):=fun _ _ _ H _ I h=>Constant_bool ⟨.bl b,H,I,rfl,h⟩
theorem Ox {j pos}:PE X (.Constant .none j pos) (tC .non):=fun _ _ _ H _ I h=>Constant_none ⟨.non,H,I,rfl,h⟩
theorem KC {x j pos}:PE X (.Constant (.str x) j pos) (tC (.str x)):=fun _ _ _ H _ I h=>Calls.Constant_str ⟨.str x,H,I.tok _,⟨_,rfl⟩,h⟩
def Gl (X:Cx) (x:Str):Prop:=X.env.kindOf x=some .globalImplicit
theorem Fc {E:Value->Shared->Prop} {pins:List (Addr×Obj)} {s:Shared} {σ:St} {H:Hp} {x:Str} {u:Value} {pos:Pos} {Q:Value->Shared->Prop} (I:Inv X pins σ H s) (hg:Gl X x) (hm:X.mg x=some u) (h:Q u s)
  (hd:(x == ("__debug__":Str))=false:=by decide):wpAny (model X.prog X.w) X.A (eval (.Name x pos) X.env) Q E s:=
 Calls.Name_function_global I.ok.kind hg (Calls.loadGlobal_global (by rw[I.ok.glob];exact I.mod.glob.keeps I.bk) hm h) hd
theorem Ez {E:Value->Shared->Prop} {pins:List (Addr×Obj)} {s:Shared} {σ:St} {H:Hp} {x:Str} {u:Value} {pos:Pos} {Q:Value->Shared->Prop} (I:Inv X pins σ H s) (hg:Gl X x) (hm:X.mg x=none) (hv:bootBuiltins x=some u) (h:Q u s)
  (hn:x≠"__name__":=by decide) (hd:(x == ("__debug__":Str))=false:=by decide):wpAny (model X.prog X.w) X.A (eval (.Name x pos) X.env) Q E s:=by
 obtain ⟨mb,h1,h2⟩:=I.mod.blt
 exact Calls.Name_function_global I.ok.kind hg (Calls.loadGlobal_builtin (by rw[I.ok.glob];exact I.mod.glob.keeps I.bk) hm (by rw[I.ok.blt];exact h1.keeps I.bk) ((h2 x hn).trans hv) h) hd
theorem Ee {x:Str} {v:V} {u:Value} {pos:Pos} (hg:Gl X x) (hm:X.mg x=some u) (r:RelV v u) (hd:(x == ("__debug__":Str))=false:=by decide):PE X (.Name x pos) (tC v):=
 fun _ _ _ H _ I h=>Fc I hg hm ⟨v,H,I,r,h⟩ hd
theorem C3 {x:Str} {v:V} {u:Value} {pos:Pos} (hg:Gl X x) (hm:X.mg x=none) (hv:bootBuiltins x=some u) (r:RelV v u) (hn:x≠"__name__":=by decide) (hd:(x == ("__debug__":Str))=false:=by decide):PE X (.Name x pos) (tC v):=
 fun _ _ _ H _ I h=>Ez I hg hm hv ⟨v,H,I,r,h⟩ hn hd
variable {a b:Expr} {ta tb:TE} {pos:Pos}
variable {tA tB':TT} {rest:List Expr}
def tOr (t u:TT):TT:=fun σ H Q=>t σ H fun c H1=>if c=true then Q true H1 else u σ H1 Q
def Nf (t:TT):TT:=fun σ H Q=>t σ H fun c H1=>Q (!c) H1
theorem RU (ha:PT X a tA):PW X (.BoolOp .Or [a] pos) tA:=by
 intro wh pins s σ H Q I h
 refine isTrue_or (thn (ha pins s σ H Q I h) fun c s1 e=>?_)
 cases c with
 | false=>exact isTrue_or_nil e
 | true=>exact e
theorem TK (ha:PT X a tA) (hb:PW X (.BoolOp .Or (b::rest) pos) tB'):PW X (.BoolOp .Or (a::b::rest) pos) (tOr tA tB'):=by
 intro wh pins s σ H Q I h
 refine isTrue_or (thn (ha pins s σ H _ I h) fun c s1 hh_=>?_)
 obtain ⟨H1,I1,q1⟩:=hh_
 cases c with
 | true=>exact ⟨H1,I1,q1⟩
 | false=>exact hb wh pins s1 σ H1 Q I1 q1
theorem RP (ha:PT X a tA):PT X (.UnaryOp .Not a pos) (Nf tA):=by
 intro pins s σ H Q I h
 exact isTrue_not (ha pins s σ H (fun c H1=>Q (!c) H1) I h)
def Nc (ta tb:TE):TE:=fun σ H Q=>ta σ H fun x H1=>∃ c,x=.bl c/\if c=true then tb σ H1 Q else Q (.bl false) H1
def Ny (ta:TE):TE:=fun σ H Q=>ta σ H fun x H1=>∃ c,x=.bl c/\Q (.bl (!c)) H1
theorem KB {op} {t:TE} (h:PE X a t):PE X (.BoolOp op [a] pos) t:=fun pins s σ H Q I hw=>BoolOp_one (h pins s σ H Q I hw)
theorem Ih (ha:PE X a ta) (hb:PE X (.BoolOp .And (b::rest) pos) tb):PE X (.BoolOp .And (a::b::rest) pos) (Nc ta tb):=by
 intro pins s σ H Q I h
 refine BoolOp_and (thn (ha pins s σ H _ I h) fun v s1 hh_=>?_)
 obtain ⟨x,H1,I1,r1,q1⟩:=hh_
 obtain ⟨c,rfl,q1⟩:=q1
 cases r1
 refine wpAny_truthy_bool ?_
 cases c with
 | true=>exact hb pins s1 σ H1 Q I1 q1
 | false=>exact ⟨.bl false,H1,I1,rfl,q1⟩
theorem Jr (ha:PE X a ta):PE X (.UnaryOp .Not a pos) (Ny ta):=by
 intro pins s σ H Q I h
 refine UnaryOp_ (thn (ha pins s σ H _ I h) fun v s1 hh_=>?_)
 obtain ⟨x,H1,I1,r1,q1⟩:=hh_
 obtain ⟨c,rfl,q1⟩:=q1
 cases r1
 exact not_of (wpAny_truthy_bool ⟨.bl (!c),H1,I1,rfl,q1⟩)
end
def SqL (K:PySem.W.Frag) (H:Hp) (a:Addr) (xs:List V):Prop:=
 Rd H a (.lst xs) \/
  ∃ (o:Obj) (its:Array Value) (n:Nat),K.lookup a=some o/\o.cls=.type "list"/\o.dict=none/\o.data=.seq its n/\its.size<=sizeLine/\Vals xs its.toList
def SqT (K:PySem.W.Frag) (H:Hp) (a:Addr) (xs:List V):Prop:=
 Rd H a (.tup xs) \/
  ∃ (o:Obj) (its:Array Value) (n:Nat),K.lookup a=some o/\o.cls=.type "tuple"/\o.data=.seq its n/\its.size<=sizeLine/\Vals xs its.toList
def UB:Value->Option V
 | .none=>some .non
 | .bool b=>some (.bl b)
 | .int i _=>some (.int i)
 | .str x _=>some (.str x)
 | .bytes b _=>some (.byt b)
 | .float b _=>some (.flt b)
 | .ref a=>some (.ref a)
 | .type n=>some (.ty n)
 | _=>none
theorem RelV.abs {x:V} {u:Value} (r:RelV x u):UB u=some x:=by
 cases x with
 | non=>cases r;rfl
 | bl _=>cases r;rfl
 | int _=>obtain ⟨t,rfl⟩:=r;rfl
 | str _=>obtain ⟨t,rfl⟩:=r;rfl
 | byt _=>obtain ⟨t,rfl⟩:=r;rfl
 | flt _=>obtain ⟨t,rfl⟩:=r;rfl
 | ref _=>cases r;rfl
 | ty _=>cases r;rfl
theorem RelV.inj {x y:V} {u:Value} (r:RelV x u) (q:RelV y u):x=y:=Option.some.inj (r.abs.symm.trans q.abs)
theorem Vals.inj:∀ {xs ys:List V} {us:List Value},Vals xs us->Vals ys us->xs=ys
 | _,_,_,.nil,.nil=>rfl
 | _,_,_,.cons r t,.cons r' t'=>by rw[r.inj r',Vals.inj t t']
section
variable {X:Cx} {pins:List (Addr×Obj)} {σ:St} {H:Hp} {s:Shared} {a:Addr} {xs ys:List V}
theorem SqL.of {K:PySem.W.Frag} (h:H a=some (.lst xs)):SqL K H a xs:=.inl (.inl h)
theorem SqT.of {K:PySem.W.Frag} (h:H a=some (.tup xs)):SqT K H a xs:=.inl (.inl h)
theorem Inv.list (I:Inv X pins σ H s) (h:SqL X.K H a xs):∃ its:List Value,Vals xs its/\PlainL s.heap a its.toArray/\xs.length<=sizeLine:=by
 rcases h with h | ⟨o,its,n,hk,hc,hd,hs,hz,r⟩
 ·obtain ⟨z,its,n,r,e⟩:=h.ok I.hok
  exact ⟨its,r,⟨_,n,e,rfl,rfl,rfl⟩,z⟩
 ·refine ⟨its.toList,r,⟨o,n,I.kIn a o hk,hc,hd,by simpa using hs⟩,?_⟩
  have e:=r.length
  simp only[Array.length_toList] at e
  lia
theorem Inv.tuple (I:Inv X pins σ H s) (h:SqT X.K H a xs):∃ its:List Value,Vals xs its/\IsTup s.heap a its.toArray/\xs.length<=sizeLine:=by
 rcases h with h | ⟨o,its,n,hk,hc,hs,hz,r⟩
 ·obtain ⟨z,its,r,p⟩:=h.ok I.hok
  exact ⟨its,r,p,z⟩
 ·refine ⟨its.toList,r,⟨o,I.kIn a o hk,hc,n,by simpa using hs⟩,?_⟩
  have e:=r.length
  simp only[Array.length_toList] at e
  lia
theorem Inv.list_inj (I:Inv X pins σ H s) (h:SqL X.K H a xs) (h':SqL X.K H a ys):xs=ys:=by
 obtain ⟨its,r,⟨o,n,e,_,_,d⟩,_⟩:=I.list h
 obtain ⟨its',r',⟨o',n',e',_,_,d'⟩,_⟩:=I.list h'
 rw[e] at e';cases e'
 rw[d] at d'
 injection d' with d1 _
 have:its=its':=by simpa using congrArg Array.toList d1
 subst this
 exact r.inj r'
theorem Inv.tuple_inj (I:Inv X pins σ H s) (h:SqT X.K H a xs) (h':SqT X.K H a ys):xs=ys:=by
 obtain ⟨its,r,⟨o,e,_,n,d⟩,_⟩:=I.tuple h
 obtain ⟨its',r',⟨o',e',_,n',d'⟩,_⟩:=I.tuple h'
 rw[e] at e';cases e'
 rw[d] at d'
 injection d' with d1 _
 have:its=its':=by simpa using congrArg Array.toList d1
 subst this
 exact r.inj r'
end
abbrev Cx.wish (X:Cx) (E:Value->Shared->Prop):Cx:={X with xe:=E}
abbrev Cx.nox (X:Cx):Cx:=X.wish fun _ _=>False
theorem Cx.Ok.wish {X:Cx} (ok:X.Ok) (E:Value->Shared->Prop):(X.wish E).Ok:=
 ⟨ok.mod,ok.kind,ok.glob,ok.blt,ok.above,ok.inj,ok.has,ok.cab,ok.hd,ok.frames,ok.stk,ok.exf,ok.bs,ok.bsz,ok.noex,ok.exfs,ok.funs,ok.frf⟩
theorem Cx.Ok.unwish {X:Cx} {E:Value->Shared->Prop} (ok:(X.wish E).Ok):X.Ok:=
 ⟨ok.mod,ok.kind,ok.glob,ok.blt,ok.above,ok.inj,ok.has,ok.cab,ok.hd,ok.frames,ok.stk,ok.exf,ok.bs,ok.bsz,ok.noex,ok.exfs,ok.funs,ok.frf⟩
section
variable {X:Cx} {pins:List (Addr×Obj)} {σ:St} {H:Hp} {s:Shared} {E:Value->Shared->Prop}
theorem Inv.wish (I:Inv X pins σ H s) (E:Value->Shared->Prop):Inv (X.wish E) pins σ H s:=⟨I.ok.wish E,I.os,I.bare,I.base,I.loc,I.cell,I.free,I.freeC,I.pin,I.hok,I.len⟩
theorem Inv.unwish (I:Inv (X.wish E) pins σ H s):Inv X pins σ H s:=⟨I.ok.unwish,I.os,I.bare,I.base,I.loc,I.cell,I.free,I.freeC,I.pin,I.hok,I.len⟩
theorem SP.unwish {D:Ends} {f:Flow} {s':Shared} (h:SP (X.wish E) pins D f s'):SP X pins D f s':=by
 cases f with
 | next=>obtain ⟨σ',H',I,q⟩:=h;exact ⟨σ',H',I.unwish,q⟩
 | brk=>obtain ⟨σ',H',I,q⟩:=h;exact ⟨σ',H',I.unwish,q⟩
 | cont=>obtain ⟨σ',H',I,q⟩:=h;exact ⟨σ',H',I.unwish,q⟩
 | ret u=>obtain ⟨v,σ',H',I,r,q⟩:=h;exact ⟨v,σ',H',I.unwish,r,q⟩
theorem PSs.nox {st:List Stmt} {t:TS} (h:PSs X.nox st t):PSs X st t:=fun pins s σ H D I hw=>
 wpAny_mono (h pins s σ H D (I.wish _) hw) (fun _ _ q=>q.unwish) fun _ _ z=>False.elim z
end
section
variable {X:Cx} {st:Stmt} {rest:List Stmt} {t u:TS} {e:Expr} {te:TE} {pos:Pos}
def OP:TS:=fun D σ H=>D.nx σ H
def IQ (t u:TS):TS:=fun D σ H=>t {D with nx:=u D} σ H
theorem JP:PSs X [] OP:=fun _ _ σ H _ I h=>wpAny_execs_nil ⟨σ,H,I,h⟩
theorem Dc (h1:PS X st t) (h2:PSs X rest u):PSs X (st::rest) (IQ t u):=by
 intro pins s σ H D I h
 refine wpAny_execs_cons (thn (h1 pins s σ H {D with nx:=u D} I h) fun f s1 q=>?_)
 cases f with
 | next=>
  obtain ⟨σ',H',I',q⟩:=q
  exact h2 pins s1 σ' H' D I' q
 | ret v=>exact q
 | brk=>exact q
 | cont=>exact q
theorem GA (h1:PS X st t):PSs X [st] t:=by
 intro pins s σ H D I h
 refine wpAny_execs_cons (thn (h1 pins s σ H D I h) fun f s1 q=>?_)
 cases f with
 | next=>exact wpAny_execs_nil q
 | ret v=>exact q
 | brk=>exact q
 | cont=>exact q
theorem Inv.quiet {pins:List (Addr×Obj)} {σ:St} {H:Hp} {s:Shared} (I:Inv X pins σ H s):interactive X.env=false:=by simp[interactive,I.ok.kind]
def Nq (te:TE):TS:=fun D σ H=>te σ H fun _ H1=>D.nx σ H1
theorem M8 (he:PE X e te) (hs:swapsWith e none pos.line X.env=pure false:=by rfl):PS X (.Expr e pos) (Nq te):=by
 intro pins s σ H D I h
 exact wpAny_Expr_any (thn (he pins s σ H _ I h) fun v s1 ⟨x,H1,I1,r1,q1⟩=>⟨σ,H1,I1,q1⟩) I.quiet hs
def K5 (te:TE):TS:=fun D σ H=>te σ H D.rt
theorem FJ (he:PE X e te):PS X (.Return (some e) pos) (K5 te):=by
 intro pins s σ H D I h
 exact wpAny_Return_some (thn (he pins s σ H _ I h) fun v s1 ⟨x,H1,I1,r1,q1⟩=>⟨x,σ,H1,I1,r1,q1⟩)
def OY (c:TT) (t u:TS):TS:=fun D σ H=>c σ H fun b H1=>if b=true then t D σ H1 else u D σ H1
theorem JH {c:Expr} {a b:List Stmt} {tc:TT} (hc:PT X c tc) (ha:PSs X a t) (hb:PSs X b u):PS X (.If c a b pos) (OY tc t u):=by
 intro pins s σ H D I h
 refine wpAny_If (thn (hc pins s σ H _ I h) fun d s1 hh_=>?_)
 obtain ⟨H1,I1,q1⟩:=hh_
 cases d with
 | true=>exact ha pins s1 σ H1 D I1 q1
 | false=>exact hb pins s1 σ H1 D I1 q1
def Iz:TS:=fun _ _ _=>False
theorem N4:PS X st Iz:=fun _ _ _ _ _ _ h=>h.elim
theorem G9 {sts:List Stmt}:PSs X sts Iz:=fun _ _ _ _ _ _ h=>h.elim
end
abbrev TG:=V->St->Hp->(St->Hp->Prop)->Prop
abbrev TGs:=List V->St->Hp->(St->Hp->Prop)->Prop
def PG (X:Cx) (target:Expr) (t:TG):Prop:=
 ∀ (pins:List (Addr×Obj)) (s:Shared) (σ:St) (H:Hp) (v:V) (u:Value) (Q:St->Hp->Prop),Inv X pins σ H s->RelV v u->t v σ H Q ->
  wpAny (model X.prog X.w) X.A (assign target X.env u) (fun _ s'=>∃ σ' H',Inv X pins σ' H' s'/\Q σ' H') X.xe s
def PGs (X:Cx) (ts:List Expr) (t:TGs):Prop:=
 ∀ (pins:List (Addr×Obj)) (s:Shared) (σ:St) (H:Hp) (vs:List V) (us:List Value) (Q:St->Hp->Prop),Inv X pins σ H s->Vals vs us->t vs σ H Q ->
  wpAny (model X.prog X.w) X.A (assignInOrder ((assignEach ts X.env).map (·.2)) us) (fun _ s'=>∃ σ' H',Inv X pins σ' H' s'/\Q σ' H') X.xe s
abbrev TIp:=V->V->Hp->VK->Prop
def PIp (X:Cx) (op:Operator) (t:TIp):Prop:=
 ∀ (pins:List (Addr×Obj)) (s:Shared) (σ:St) (H:Hp) (x y:V) (v u:Value) (Q:VK),Inv X pins σ H s->RelV x v->RelV y u->t x y H Q ->
  wpAny (model X.prog X.w) X.A (inplaceOp op v u) (EP X pins σ Q) X.xe s
section
variable {X:Cx} {pos:Pos}
def Cz (i:Nat):TG:=fun v σ H Q=>Q (σ.set i (some v)) H
theorem Ap {i:Nat} {x:Str} (hN:X.N.Nodup) (hi:X.N[i]?=some x) (hx:Loc X.env.scope x) (hf:X.fn x=true\/X.env.scope.names.lookup x=some .local:=by first | exact .inl rfl | exact .inr rfl | assumption):PG X (.Name x pos) (Cz i):=by
 intro pins s σ H v u Q I r h
 exact wpAny_assign_Name (Fq I hN hi hx r (fun s' I'=>⟨_,H,I',h⟩) hf)
def JB:TGs:=fun vs σ H Q=>vs=[]/\Q σ H
def JT (t:TG) (u:TGs):TGs:=fun vs σ H Q=>∃ v r,vs=v::r/\t v σ H fun σ' H'=>u r σ' H' Q
theorem J4:PGs X [] JB:=by
 intro pins s σ H vs us Q I r h
 obtain ⟨e,h⟩:=h
 subst e
 cases r
 exact assignInOrder_nil ⟨σ,H,I,h⟩
theorem Fv {e:Expr} {es:List Expr} {t:TG} {u:TGs} (h1:PG X e t) (h2:PGs X es u)
  (hs:(assignEach (e::es) X.env).map (·.2)=assign e X.env::(assignEach es X.env).map (·.2):=by rfl):PGs X (e::es) (JT t u):=by
 intro pins s σ H vs us Q I r h
 obtain ⟨v,vr,e1,h⟩:=h
 subst e1
 cases r with
 | cons r rr=>
  rw[hs]
  refine assignInOrder_cons (thn (h1 pins s σ H _ _ _ I r h) fun _ s1 hh_=>?_)
  obtain ⟨σ1,H1,I1,q1⟩:=hh_
  exact h2 pins s1 σ1 H1 _ _ Q I1 rr q1
def CL (K:PySem.W.Frag) (n:Nat) (t:TGs):TG:=fun v σ H Q=>∃ a xs,v=.ref a/\SqT K H a xs/\xs.length=n/\t xs σ H Q
theorem OC {es:List Expr} {k:Nat} {t:TGs} {n:Nat} (hc:X.calm=true) (h:PGs X es t)
  (hn:(assignEach es X.env).length=n:=by rfl) (hst:(assignEach es X.env).findIdx? (·.1)=none:=by rfl):PG X (.Tuple es k pos) (CL X.K n t):=by
 intro pins s σ H v u Q I r hw
 obtain ⟨a,xs,e1,hq,hl,hw⟩:=hw
 subst e1
 cases r
 obtain ⟨its,rv,ht,hz⟩:=I.tuple hq
 refine assign_Tuple_tuple (I.ok.hd hc) ht (by simp[hn,<-hl,rv.length]) hst fun h' hx=>?_
 have I1:Inv X pins σ H {s with heap:=h'}:=I.kept (t':=s.toks) fun b o e=>hx b o (Nat.ne_of_lt (Heap.lt_size e)) e
 exact h pins _ σ H xs _ Q I1 (by simpa using rv) hw
def E2 (te:TE) (g:TG):TS:=fun D σ H=>te σ H fun x H1=>g x σ H1 D.nx
theorem En {i:Nat} {x:Str} {e:Expr} {te:TE} {pos':Pos} (hN:X.N.Nodup) (hi:X.N[i]?=some x) (hx:Loc X.env.scope x) (he:PE X e te) (hs:swapsWith e (some (.Name x pos')) pos.line X.env=pure false:=by rfl) (hf:X.fn x=true\/X.env.scope.names.lookup x=some .local:=by first | exact .inl rfl | exact .inr rfl | assumption) :
  PS X (.Assign [.Name x pos'] e pos) (E2 te (Cz i)):=by
 intro pins s σ H D I h
 refine wpAny_Assign_Name (thn (he pins s σ H _ I h) fun v s1 hh_=>?_) hs
 obtain ⟨y,H1,I1,r1,q1⟩:=hh_
 exact Fq I1 hN hi hx r1 (fun s2 I2=>⟨_,H1,I2,q1⟩) hf
def Lr (i:Nat) (te:TE) (ti:TIp):TS:=fun D σ H=>∃ x,σ[i]?=some (some x)/\te σ H fun y H1=>ti x y H1 fun z H2=>D.nx (σ.set i (some z)) H2
theorem JL {i:Nat} {x:Str} {e:Expr} {te:TE} {op:Operator} {ti:TIp} {pos':Pos} (hN:X.N.Nodup) (hi:X.N[i]?=some x) (hx:Loc X.env.scope x) (he:PE X e te) (ho:PIp X op ti) (hf:X.fn x=true\/X.env.scope.names.lookup x=some .local:=by first | exact .inl rfl | exact .inr rfl | assumption) :
  PS X (.AugAssign (.Name x pos') op e pos) (Lr i te ti):=by
 intro pins s σ H D I h
 obtain ⟨v,e1,h⟩:=h
 obtain ⟨m,hn,hl⟩:=I.loc
 have vis:Vis X.env.scope x:=by rcases hx with k | k;exact .inl k;exact .inr (.inl k)
 obtain ⟨u,r,l⟩:=hl i x v hi e1 vis
 refine wpAny_AugAssign_Name ?_
 have go:wpAny (model X.prog X.w) X.A (eval e X.env) (fun w s₂=>wpAny (model X.prog X.w) X.A (inplaceOp op u w) (fun r s₃=>wpAny (model X.prog X.w) X.A (storeName X.env x r) (fun _=>SP X pins D .next) X.xe s₃) X.xe s₂) X.xe s:=by
  refine thn (he pins s σ H _ I h) fun w s1 hh_=>?_
  obtain ⟨y,H1,I1,r1,q1⟩:=hh_
  refine thn (ho pins s1 σ H1 v y u w _ I1 r r1 q1) fun z s2 hh_=>?_
  obtain ⟨zv,H2,I2,r2,q2⟩:=hh_
  exact Fq I2 hN hi hx r2 (fun s3 I3=>⟨_,H2,I3,q2⟩) hf
 rcases l with ⟨hk,hm⟩ | ⟨hk,c,hc,hcell⟩
 ·exact wpAny_loadName_local I.ok.kind hk hn hm go
 ·rcases hk with hk | hk
  ·exact wpAny_loadName_cell I.ok.kind hk hc hcell go
  ·rcases hx with k | k
   ·have:X.env.scope.names.lookup x=some .free:=hk
    rw[k] at this;cases this
   ·have:X.env.scope.names.lookup x=some .free:=hk
    rw[k] at this;cases this
def ipI (f:Int->Int->Int):TIp:=fun x y H Q=>∃ i j,x=.int i/\y=.int j/\Q (.int (f i j)) H
theorem SD:PIp X .Add (ipI fun i j=>i+j):=by
 intro pins s σ H x y v u Q I r1 r2 h
 obtain ⟨i,j,e1,e2,q⟩:=h
 subst e1;subst e2
 obtain ⟨t,rfl⟩:=r1
 obtain ⟨t',rfl⟩:=r2
 exact iadd_int ⟨.int _,H,I.tok _,⟨_,rfl⟩,q⟩
theorem P6:PIp X .Sub (ipI fun i j=>i - j):=by
 intro pins s σ H x y v u Q I r1 r2 h
 obtain ⟨i,j,e1,e2,q⟩:=h
 subst e1;subst e2
 obtain ⟨t,rfl⟩:=r1
 obtain ⟨t',rfl⟩:=r2
 exact isub_int ⟨.int _,H,I.tok _,⟨_,rfl⟩,q⟩
end
section
variable {X:Cx} {pos:Pos}
def SC (c:TT) (tb:TS):TS:=fun D σ H=>∃ W:Nat->St->Hp->Prop,(∃ m,W m σ H)/\∀ m σ H,W m σ H ->
 c σ H fun b H1=>if b=true then ∃ N:St->Hp->Prop,(∀ σ' H',N σ' H'->∃ m',m'<m/\W m' σ' H')/\tb {D with nx:=N,ct:=N,bk:=D.nx} σ H1 else D.nx σ H1
theorem PR {c:Expr} {body:List Stmt} {tc:TT} {tb:TS} (hp:PassesOwn (model X.prog X.w) X.A X.env X.xe) (hc:PT X c tc) (hb:PSs X body tb):PS X (.While c body [] pos) (SC tc tb):=by
 intro pins s σ H D I h
 obtain ⟨W,⟨m0,w0⟩,turn⟩:=h
 refine wpAny_While (codeAny_whileLoop (fun n s'=>∃ σ' H',Inv X pins σ' H' s'/\W n σ' H') ?_ m0 ⟨σ,H,I,w0⟩)
 rintro n s1 ⟨σ1,H1,I1,w1⟩
 refine wpAny_passesOwn hp (thn (hc pins s1 σ1 H1 _ I1 (turn n σ1 H1 w1)) fun b s2 hh_=>?_)
 obtain ⟨H2,I2,q2⟩:=hh_
 cases b with
 | true=>
  obtain ⟨N,hN,q2⟩:=q2
  rw[if_pos rfl]
  refine wpAny_passesOwn hp (thn (hb pins s2 σ1 H2 _ I2 q2) fun f s3 q3=>?_)
  cases f with
  | next=>
   obtain ⟨σ3,H3,I3,n3⟩:=q3
   obtain ⟨m',hm,w3⟩:=hN σ3 H3 n3
   exact ⟨m',hm,σ3,H3,I3,w3⟩
  | cont=>
   obtain ⟨σ3,H3,I3,n3⟩:=q3
   obtain ⟨m',hm,w3⟩:=hN σ3 H3 n3
   exact ⟨m',hm,σ3,H3,I3,w3⟩
  | brk=>exact q3
  | ret v=>exact q3
 | false=>
  rw[if_neg Bool.false_ne_true]
  exact wpAny_execs_nil ⟨σ1,H2,I2,q2⟩
end
structure It where
 go:Nat->Hp->Prop
 yld:Nat->Hp->V->Hp->Prop
 stop:Nat->Hp->Prop
def B5 (X:Cx) (pins:List (Addr×Obj)) (H:Hp) (b:Addr):Prop:=
 H b=none/\b≠X.env.locals/\b∉X.fs/\(b∈X.ex\/X.s₀.heap.objs.size<=b)/\(∀ x c,X.env.cells.lookup x=some c->c≠b)/\∀ p∈X.pn++pins,p.1≠b
theorem Inv.fpOk {X:Cx} {pins:List (Addr×Obj)} {σ:St} {H H':Hp} {s:Shared} {b:Addr} (I:Inv X pins σ H s) (hb:s.heap.objs.size<=b) (hn:H' b=none):B5 X pins H' b:=by
 refine ⟨hn,Nat.ne_of_gt (Nat.lt_of_lt_of_le I.lt hb),I.nofs hb,.inr (Nat.le_trans I.sz hb),fun x c e z=>?_,fun p hp z=>?_⟩
 ·obtain ⟨v,q⟩:=I.cell x c e
  exact absurd (Nat.lt_of_lt_of_le q.lt (by rw[z];exact hb)) (Nat.lt_irrefl _)
 ·exact absurd (Nat.lt_of_lt_of_le (Heap.lt_size (I.pin p hp).1) (by rw[z];exact hb)) (Nat.lt_irrefl _)
structure Turn (P:Program) (w:World) (K:PySem.W.Frag) (tg:Expr) (J:It) (fp:List Addr) (it:Addr) (tn:Nat->Heap->Prop):Prop where
 mem:it∈fp
 obj:∀ i h,tn i h->∀ b∈fp,∃ o,h.get? b=some o/\∀ v,o.data≠.cell v
 keep:∀ i h h',tn i h->(∀ b∈fp,∀ o,h.get? b=some o->h'.get? b=some o)->tn i h'
 item:∀ (X:Cx),X.prog=P->X.w=w->X.K=K->X.calm=true->∀ (i:Nat) (pins:List (Addr×Obj)) (s:Shared) (σ:St) (H:Hp) (E:Value->Shared->Prop),Inv X pins σ H s->(∀ b∈fp,B5 X pins H b)->tn i s.heap->J.go i H ->
  wpAny (model P w) X.A (pyNext (.ref it)) (fun r s1=>∃ u,r=some u /\
   wpAny (model P w) X.A (letOwnedTupleGo tg (.ref it) u) (fun _ s2=>∃ x H',Inv X pins σ H' s2/\RelV x u/\J.yld i H x H'/\tn (i+1) s2.heap/\∀ b∈fp,H' b=none) E s1) E s
 done:∀ (X:Cx),X.prog=P->X.w=w->X.K=K->X.calm=true->∀ (i:Nat) (pins:List (Addr×Obj)) (s:Shared) (σ:St) (H:Hp) (E:Value->Shared->Prop),Inv X pins σ H s->(∀ b∈fp,B5 X pins H b)->tn i s.heap->J.stop i H ->
  wpAny (model P w) X.A (pyNext (.ref it)) (fun r s1=>r=none/\Inv X pins σ H s1) E s
 self:∀ (A:Around) (i:Nat) (s:Shared) (Q:Value->Shared->Prop) (E:Value->Shared->Prop),tn i s.heap->Q (.ref it) s->wpAny (model P w) A (pyIter (.ref it)) Q E s
abbrev TI:=St->Hp->(It->Hp->Prop)->Prop
def PIE (X:Cx) (pins:List (Addr×Obj)) (σ:St) (tg:Expr) (R:It->Hp->Prop) (itv:Value) (s2:Shared):Prop:=
 ∃ (it:Addr) (fp:List Addr) (tn:Nat->Heap->Prop) (J:It) (H':Hp),itv=.ref it/\Inv X pins σ H' s2/\Turn X.prog X.w X.K tg J fp it tn/\tn 0 s2.heap/\(∀ b∈fp,B5 X pins H' b)/\R J H'
def PI (X:Cx) (tg iter:Expr) (wi:TI):Prop:=
 ∀ (pins:List (Addr×Obj)) (s:Shared) (σ:St) (H:Hp) (R:It->Hp->Prop),Inv X pins σ H s->wi σ H R ->
  wpAny (model X.prog X.w) X.A (eval iter X.env) (fun v s1=>wpAny (model X.prog X.w) X.A (pyIter v) (PIE X pins σ tg R) X.xe s1) X.xe s
theorem HQ {M:Model} {A:Around} {E:Value->Shared->Prop} {s:Shared} {tg:Expr} {it:Addr} {u:Value} {o:Obj} {n:String} {vs:Array Value} {Q:Unit->Shared->Prop} (ho:s.heap.get? it=some o) (hc:o.cls=.type n) (hd:o.data=.fields vs)
  (hn:["enumerate","zip","dict_itemiterator","dict_reverseitemiterator","odict_iterator","itertools.zip_longest","itertools.pairwise"].contains n=false) (hQ:Q () s):wpAny M A (letOwnedTupleGo tg (.ref it) u) Q E s:=by
 unfold letOwnedTupleGo
 cases tg<;>first
  | exact wpAny_pure hQ
  | (cases u<;>first
    | exact wpAny_pure hQ
    | (refine wpAny_bind (wpAny_load ho ?_)
       rw[hc,hd]
       show wpAny M A (if (["enumerate","zip","dict_itemiterator","dict_reverseitemiterator","odict_iterator","itertools.zip_longest","itertools.pairwise"].contains n && vs[0]? == some (rawInt _))=true then _ else _) Q E s
       rw[if_neg (by intro h;rw[hn,Bool.false_and] at h;cases h)]
       exact wpAny_pure hQ))
def Itl (K:PySem.W.Frag) (a:Addr):It:=
 ⟨fun i H=>∃ xs x,SqL K H a xs/\xs[i]?=some x,fun i H x H'=>H'=H/\∀ xs,SqL K H a xs->xs[i]?=some x,fun i H=>∃ xs,SqL K H a xs/\xs.length<=i⟩
def Itt (K:PySem.W.Frag) (a:Addr):It:=
 ⟨fun i H=>∃ xs x,SqT K H a xs/\xs[i]?=some x,fun i H x H'=>H'=H/\∀ xs,SqT K H a xs->xs[i]?=some x,fun i H=>∃ xs,SqT K H a xs/\xs.length<=i⟩
def Itr (lo:Int) (n:Nat):It:=⟨fun i _=>i<n,fun i H x H'=>H'=H/\x=.int (lo+i),fun i _=>n<=i⟩
theorem SY {P:Program} {w:World} {K:PySem.W.Frag} {tg:Expr} (a it:Addr):Turn P w K tg (Itl K a) [it] it (fun i h=>h.IsListIter it a i) where
 mem:=by simp
 obj:=fun i h st b hb=>by
  have e:b=it:=by simpa using hb
  subst e
  obtain ⟨o,e,c,d⟩:=st
  exact ⟨o,e,fun v z=>by rw[d] at z;cases z⟩
 keep:=fun i h h' st k=>st.at fun o e=>k it (by simp) o e
 item:=by
  intro X hP hw hK hc i pins s σ H E I hf st hg
  subst hP hw hK
  obtain ⟨xs,x,hq,hx⟩:=hg
  obtain ⟨its,rv,p,hz⟩:=I.list hq
  obtain ⟨u,hu,ru⟩:=rv.get hx
  obtain ⟨f0,f1,f2,f3,f4,f5⟩:=hf it (by simp)
  refine wpAny_pyNext_list_item st p.isList (x:=u) (by simpa using hu) fun h' st' sb=>?_
  have I1:Inv X pins σ H {s with heap:=h'}:=I.turned (t':=s.toks) (fun b o hb e=>(sb.2 b hb).trans e) f0 f1 f3 f4 f5
  obtain ⟨o,e,c,d⟩:=id st'
  exact ⟨u,rfl,HQ (s:={s with heap:=h'}) e c d (by decide) ⟨x,H,I1,ru,⟨rfl,fun ys hy=>by rw[I.list_inj hy hq];exact hx⟩,st',fun b hb=>(hf b hb).1⟩⟩
 done:=by
  intro X hP hw hK hc i pins s σ H E I hf st hg
  subst hP hw hK
  obtain ⟨xs,hq,hx⟩:=hg
  obtain ⟨its,rv,p,hz⟩:=I.list hq
  obtain ⟨f0,f1,f2,f3,f4,f5⟩:=hf it (by simp)
  have hl:=rv.length
  exact wpAny_pyNext_list_end (I.ok.hd hc) st p.isList (by simp;lia) fun h' eb=>⟨rfl,I.turned (t':=s.toks) (fun b o hb e=>eb b o hb e) f0 f1 f3 f4 f5⟩
 self:=fun _ _ _ _ _ st h=>wpAny_pyIter_listiter st h
theorem NY {P:Program} {w:World} {K:PySem.W.Frag} {tg:Expr} (a it:Addr):Turn P w K tg (Itt K a) [it] it (fun i h=>h.IsTupleIter it a i) where
 mem:=by simp
 obj:=fun i h st b hb=>by
  have e:b=it:=by simpa using hb
  subst e
  obtain ⟨o,e,c,d⟩:=st
  exact ⟨o,e,fun v z=>by rw[d] at z;cases z⟩
 keep:=fun i h h' st k=>st.at fun o e=>k it (by simp) o e
 item:=by
  intro X hP hw hK hc i pins s σ H E I hf st hg
  subst hP hw hK
  obtain ⟨xs,x,hq,hx⟩:=hg
  obtain ⟨its,rv,p,hz⟩:=I.tuple hq
  obtain ⟨u,hu,ru⟩:=rv.get hx
  obtain ⟨f0,f1,f2,f3,f4,f5⟩:=hf it (by simp)
  refine wpAny_pyNext_tuple_item st (show s.heap.IsTuple a its.toArray from p) (x:=u) (by simpa using hu) fun h' st' sb=>?_
  have I1:Inv X pins σ H {s with heap:=h'}:=I.turned (t':=s.toks) (fun b o hb e=>(sb.2 b hb).trans e) f0 f1 f3 f4 f5
  obtain ⟨o,e,c,d⟩:=id st'
  exact ⟨u,rfl,HQ (s:={s with heap:=h'}) e c d (by decide) ⟨x,H,I1,ru,⟨rfl,fun ys hy=>by rw[I.tuple_inj hy hq];exact hx⟩,st',fun b hb=>(hf b hb).1⟩⟩
 done:=by
  intro X hP hw hK hc i pins s σ H E I hf st hg
  subst hP hw hK
  obtain ⟨xs,hq,hx⟩:=hg
  obtain ⟨its,rv,p,hz⟩:=I.tuple hq
  obtain ⟨f0,f1,f2,f3,f4,f5⟩:=hf it (by simp)
  have hl:=rv.length
  exact wpAny_pyNext_tuple_end (I.ok.hd hc) st (show s.heap.IsTuple a its.toArray from p) (by simp;lia) fun h' eb=>⟨rfl,I.turned (t':=s.toks) (fun b o hb e=>eb b o hb e) f0 f1 f3 f4 f5⟩
 self:=fun _ _ _ _ _ st h=>wpAny_pyIter_tupleiter st h
theorem RJ {P:Program} {w:World} {K:PySem.W.Frag} {tg:Expr} (it:Addr) (lo:Int) (n:Nat):Turn P w K tg (Itr lo n) [it] it (fun i h=>IsRangeIter h it (lo+(i:Nat) * 1) ((n:Int) - (i:Nat)) 1) where
 mem:=by simp
 obj:=fun i h st b hb=>by
  have e:b=it:=by simpa using hb
  subst e
  exact ⟨_,st,fun v z=>by
   have z':Data.fields _=Data.cell v:=z
   cases z'⟩
 keep:=fun i h h' st k=>k it (by simp) _ st
 item:=by
  intro X hP hw hK hc i pins s σ H E I hf st hg
  subst hP hw hK
  obtain ⟨f0,f1,f2,f3,f4,f5⟩:=hf it (by simp)
  have W:=Walks.range (prog:=X.prog) (w:=X.w) (I.ok.hd hc) it lo 1 n
  refine W.item i s _ _ hg st fun v h' tk hv st' kk=>?_
  obtain ⟨t,rfl⟩:=hv
  have I1:Inv X pins σ H {s with heap:=h',toks:=tk}:=I.turned (fun b o hb e=>kk b o (by simpa using hb) e) f0 f1 f3 f4 f5
  refine ⟨_,rfl,HQ (s:={s with heap:=h',toks:=tk}) (n:="range_iterator") st' rfl rfl (by decide) ⟨.int (lo+i),H,I1,⟨t,?_⟩,⟨rfl,rfl⟩,st',fun b hb=>(hf b hb).1⟩⟩
  rw[Int.mul_one]
 done:=by
  intro X hP hw hK hc i pins s σ H E I hf st hg
  subst hP hw hK
  obtain ⟨f0,f1,f2,f3,f4,f5⟩:=hf it (by simp)
  exact wpAny_pyNext_range_end (I.ok.hd hc) st (by have:n<=i:=hg;lia) fun h' eb=>⟨rfl,I.turned (t':=s.toks) (fun b o hb e=>eb b o hb e) f0 f1 f3 f4 f5⟩
 self:=fun _ _ _ _ _ st h=>wpAny_pyIter_rangeiter st h
section
variable {X:Cx} {tg:Expr}
def TC (K:PySem.W.Frag) (tl:TE):TI:=fun σ H R=>tl σ H fun x H1=>∃ a,x=.ref a/\(∃ xs,SqL K H1 a xs)/\R (Itl K a) H1
def Ng (K:PySem.W.Frag) (tl:TE):TI:=fun σ H R=>tl σ H fun x H1=>∃ a,x=.ref a/\(∃ xs,SqT K H1 a xs)/\R (Itt K a) H1
theorem TU {l:Expr} {tl:TE} (hl:PE X l tl):PI X tg l (TC X.K tl):=by
 intro pins s σ H R I h
 refine thn (hl pins s σ H _ I h) fun v s1 hh_=>?_
 obtain ⟨x,H1,I1,r1,q1⟩:=hh_
 obtain ⟨a,e,⟨xs,hq⟩,q⟩:=q1
 subst e
 cases r1
 obtain ⟨its,rv,p,hz⟩:=I1.list hq
 refine wpAny_pyIter_list p.isList ?_
 refine ⟨s1.heap.objs.size,[s1.heap.objs.size],_,_,H1,rfl,I1.kept (t':=s1.toks) fun b o e=>Heap.get?_push_of_some _ e,SY a _,⟨_,Heap.get?_push_size _ rfl,rfl,rfl⟩,fun b hb=>?_,q⟩
 have e:b=s1.heap.objs.size:=by simpa using hb
 subst e
 exact I1.fpOk (Nat.le_refl _) (I1.hok.fresh (Nat.le_refl _))
theorem Qq {l:Expr} {tl:TE} (hl:PE X l tl):PI X tg l (Ng X.K tl):=by
 intro pins s σ H R I h
 refine thn (hl pins s σ H _ I h) fun v s1 hh_=>?_
 obtain ⟨x,H1,I1,r1,q1⟩:=hh_
 obtain ⟨a,e,⟨xs,hq⟩,q⟩:=q1
 subst e
 cases r1
 obtain ⟨its,rv,p,hz⟩:=I1.tuple hq
 refine wpAny_pyIter_tuple (show s1.heap.IsTuple a its.toArray from p) ?_
 refine ⟨s1.heap.objs.size,[s1.heap.objs.size],_,_,H1,rfl,I1.kept (t':=s1.toks) fun b o e=>Heap.get?_push_of_some _ e,NY a _,⟨_,Heap.get?_push_size _ rfl,rfl,rfl⟩,fun b hb=>?_,q⟩
 have e:b=s1.heap.objs.size:=by simpa using hb
 subst e
 exact I1.fpOk (Nat.le_refl _) (I1.hok.fresh (Nat.le_refl _))
theorem Pr {pins:List (Addr×Obj)} {σ:St} {H:Hp} {s:Shared} {R:It->Hp->Prop} {E:Value->Shared->Prop} {lo hi:Int} {t u v:Tok} {tk:Nat} (I:Inv X pins σ H s) (h1:-(2 ^ 62)<=lo) (h2:lo<2 ^ 62) (h3:-(2 ^ 62)<=hi) (h4:hi<2 ^ 62)
  (q:R (Itr lo (hi - lo).toNat) H):wpAny (model X.prog X.w) X.A (pyIter (.ref s.heap.objs.size)) (PIE X pins σ tg R) E {s with heap:=s.heap.push {cls:=.type "range",data:=.fields #[.int lo t,.int hi u,.int 1 v]},toks:=tk}:=by
 refine wpAny_pyIter_range (IsRange.new ..) (small_one h1 h2 h3 h4) ?_
 have I1:Inv X pins σ H {s with heap:=s.heap.push {cls:=.type "range",data:=.fields #[.int lo t,.int hi u,.int 1 v]},toks:=tk}:=I.kept fun b o e=>Heap.get?_push_of_some _ e
 refine ⟨(s.heap.push {cls:=.type "range",data:=.fields #[.int lo t,.int hi u,.int 1 v]}).objs.size,[(s.heap.push {cls:=.type "range",data:=.fields #[.int lo t,.int hi u,.int 1 v]}).objs.size],_,_,H,rfl,
  I1.kept (t':=tk) fun b o e=>Heap.get?_push_of_some _ e,RJ _ lo (hi - lo).toNat,?_,fun b hb=>?_,q⟩
 ·have e1:lo+((0:Nat):Int) * 1=lo:=by simp
  have e2:(((hi - lo).toNat:Nat):Int) - ((0:Nat):Int)=Builtin.Range.rangeSize lo hi 1:=by rw[rangeSize_one];split<;>lia
  show IsRangeIter _ _ (lo+((0:Nat):Int) * 1) ((((hi - lo).toNat:Nat):Int) - ((0:Nat):Int)) 1
  rw[e1,e2]
  exact Heap.get?_push_size _ rfl
 ·have e:b=(s.heap.push {cls:=.type "range",data:=.fields #[.int lo t,.int hi u,.int 1 v]}).objs.size:=by simpa using hb
  subst e
  exact I1.fpOk (Nat.le_refl _) (I1.hok.fresh (Nat.le_refl _))
def Pp (ta:TA):TI:=fun σ H R=>ta σ H fun vs H1=>∃ j:Int,vs=[.int j]/\-(2 ^ 62)<=j/\j<2 ^ 62/\R (Itr 0 j.toNat) H1
theorem PN {a:Expr} {ta:TA} {p pos:Pos} (hg:Gl X "range") (hm:X.mg "range"=none) (ha:PA X [a] ta) (hs:starEach [a] X.env=[(false,eval a X.env)]:=by rfl):PI X tg (.Call (.Name "range" p) [a] [] pos) (Pp ta):=by
 intro pins s σ H R I h
 refine Call_ (Ez I hg hm boot_range (PyProof.Rows.callWith_type1 (thn (ha pos pins s σ H _ I h) fun us s1 hh_=>?_) hs rfl))
 obtain ⟨vs,H1,I1,r1,q1⟩:=hh_
 obtain ⟨j,e,q1,q2,q⟩:=q1
 subst e
 cases r1 with
 | cons r rr=>
  cases rr
  obtain ⟨t,rfl⟩:=r
  exact call_range_1 (Pr I1 (by lia) (by lia) q1 q2 (by simpa using q))
def O9 (wi:TI) (g:TG) (tb:TS):TS:=fun D σ H=>wi σ H fun J H1=>∃ W:Nat->Nat->St->Hp->Prop,(∃ m,W 0 m σ H1)/\∀ i m σ H,W i m σ H ->
 (J.stop i H/\D.nx σ H)\/(J.go i H/\∃ N:St->Hp->Prop,(∀ σ' H',N σ' H'->∃ m',m'<m/\W (i+1) m' σ' H')/\∀ x H',J.yld i H x H'->g x σ H' fun σ2 H2=>tb {D with nx:=N,ct:=N,bk:=D.nx} σ2 H2)
def FA (fp:List Addr) (h:Heap):List (Addr×Obj):=fp.filterMap fun b=>(h.get? b).map fun o=>(b,o)
theorem FV {fp:List Addr} {h:Heap} {b:Addr} {o:Obj} (hb:b∈fp) (e:h.get? b=some o):(b,o)∈FA fp h:=List.mem_filterMap.mpr ⟨b,hb,by rw[e];rfl⟩
theorem NK {fp:List Addr} {h:Heap} {p:Addr×Obj} (hp:p∈FA fp h):p.1∈fp/\h.get? p.1=some p.2:=by
 obtain ⟨b,hb,e⟩:=List.mem_filterMap.mp hp
 cases q:h.get? b with
 | none=>rw[q] at e;cases e
 | some o=>
  rw[q] at e
  have e':(b,o)=p:=Option.some.inj e
  subst e'
  exact ⟨hb,q⟩
theorem Inv.pinned {pins:List (Addr×Obj)} {σ:St} {H:Hp} {s:Shared} {fp:List Addr} (I:Inv X pins σ H s) (hf:∀ b∈fp,B5 X pins H b) (ho:∀ b∈fp,∃ o,s.heap.get? b=some o/\∀ v,o.data≠.cell v):Inv X (pins++FA fp s.heap) σ H s:=
 I.pins_of fun p hp=>(List.mem_append.mp hp).elim (fun z=>I.pin p (List.mem_append_right _ z)) fun z=>by
  obtain ⟨hb,e⟩:=NK z
  obtain ⟨f0,f1,f2,_⟩:=hf p.1 hb
  obtain ⟨o,e',d⟩:=ho p.1 hb
  rw[e] at e';cases e'
  exact ⟨e,f0,f1,f2,d⟩
theorem Inv.unpinned {pins pl:List (Addr×Obj)} {σ:St} {H:Hp} {s:Shared} (I:Inv X (pins++pl) σ H s):Inv X pins σ H s:=I.pins_of fun p hp=>I.pin p (List.mem_append_right _ (List.mem_append_left _ hp))
theorem On {iter:Expr} {body:List Stmt} {wi:TI} {g:TG} {tb:TS} {pos:Pos} (hp:PassesOwn (model X.prog X.w) X.A X.env X.xe) (hc:X.calm=true) (hi:PI X tg iter wi) (hg:PG X tg g) (hb:PSs X body tb)
  (hs:∀ x,foldedSetIterable iter X.env x=pure x:=by intro _;rfl):PS X (.For tg iter body [] pos) (O9 wi g tb):=by
 intro pins s σ H D I h
 refine wpAny_For (thn (hi pins s σ H _ I h) fun v s1 h1=>thn h1 fun itv s2 h2=>?_) hs
 obtain ⟨it,fp,tn,J,H2,e,I2,T,st2,f2,W,⟨m0,w0⟩,turn⟩:=h2
 subst e
 have stat:∀ {H':Hp},(∀ b∈fp,H' b=none)->∀ b∈fp,B5 X pins H' b:=fun hn b hb=>⟨hn b hb,(f2 b hb).2⟩
 refine codeAny_forLoop_any (fun n s'=>∃ i σ' H',Inv X pins σ' H' s'/\tn i s'.heap/\(∀ b∈fp,H' b=none)/\W i n σ' H') ?_ m0 ⟨0,σ,H2,I2,st2,fun b hb=>(f2 b hb).1,w0⟩
 rintro n s3 ⟨i,σ3,H3,I3,st3,fr3,w3⟩
 rcases turn i n σ3 H3 w3 with ⟨stop,qn⟩ | ⟨go,N,hN,step⟩
 ·refine wpAny_passesOwn hp (thn (T.done X rfl rfl rfl hc i pins s3 σ3 H3 X.xe I3 (stat fr3) st3 stop) fun r s4 hh_=>?_)
  obtain ⟨hr,I4⟩:=hh_
  subst hr
  exact wpAny_execs_nil ⟨σ3,H3,I4,qn⟩
 ·refine wpAny_passesOwn hp (thn (T.item X rfl rfl rfl hc i pins s3 σ3 H3 X.xe I3 (stat fr3) st3 go) fun r s4 hh_=>?_)
  obtain ⟨u,hr,h4⟩:=hh_
  subst hr
  refine wpAny_passesOwn hp (thn h4 fun _ s5 hh_=>?_)
  obtain ⟨x,H5,I5,r5,y5,st5,fr5⟩:=hh_
  have I5':=I5.pinned (stat fr5) (T.obj _ _ st5)
  refine wpAny_passesOwn hp (thn (hg _ s5 σ3 H5 x u _ I5' r5 (step x H5 y5)) fun _ s6 hh_=>?_)
  obtain ⟨σ6,H6,I6,q6⟩:=hh_
  refine wpAny_passesOwn hp (thn (hb _ s6 σ6 H6 _ I6 q6) fun f s7 q7=>?_)
  have again:∀ {σ7:St} {H7:Hp},Inv X (pins++FA fp s5.heap) σ7 H7 s7->N σ7 H7->∃ m,m<n/\∃ i σ' H',Inv X pins σ' H' s7/\tn i s7.heap/\(∀ b∈fp,H' b=none)/\W i m σ' H':=fun {σ7 H7} I7 n7=>by
   obtain ⟨m',hm,w7⟩:=hN σ7 H7 n7
   refine ⟨m',hm,i+1,σ7,H7,I7.unpinned,T.keep _ _ _ st5 fun b hb o e=>(I7.pin (b,o) (List.mem_append_right _ (List.mem_append_right _ (FV hb e)))).1,fun b hb=>?_,w7⟩
   obtain ⟨o,e,d⟩:=T.obj _ _ st5 b hb
   exact (I7.pin (b,o) (List.mem_append_right _ (List.mem_append_right _ (FV hb e)))).2.1
  cases f with
  | next=>obtain ⟨σ7,H7,I7,n7⟩:=q7;exact again I7 n7
  | cont=>obtain ⟨σ7,H7,I7,n7⟩:=q7;exact again I7 n7
  | brk=>obtain ⟨σ7,H7,I7,q7⟩:=q7;exact ⟨σ7,H7,I7.unpinned,q7⟩
  | ret v=>obtain ⟨x7,σ7,H7,I7,r7,q7⟩:=q7;exact ⟨x7,σ7,H7,I7.unpinned,r7,q7⟩
end
abbrev R2:=V->V->Hp->VK->Prop
def OpR (X:Cx) (f:Value->Value->Sem Value) (r:R2):Prop:=
 ∀ (pins:List (Addr×Obj)) (s:Shared) (σ:St) (H:Hp) (x y:V) (v u:Value) (Q:VK),Inv X pins σ H s->RelV x v->RelV y u->r x y H Q ->
  wpAny (model X.prog X.w) X.A (f v u) (EP X pins σ Q) X.xe s
def UnR (X:Cx) (f:Value->Sem Value) (r:V->Hp->VK->Prop):Prop:=
 ∀ (pins:List (Addr×Obj)) (s:Shared) (σ:St) (H:Hp) (x:V) (v:Value) (Q:VK),Inv X pins σ H s->RelV x v->r x H Q ->
  wpAny (model X.prog X.w) X.A (f v) (EP X pins σ Q) X.xe s
def CallR (X:Cx) (f:Value) (r:List V->Hp->VK->Prop):Prop:=
 ∀ (pins:List (Addr×Obj)) (s:Shared) (σ:St) (H:Hp) (xs:List V) (us:List Value) (Q:VK),Inv X pins σ H s->Vals xs us->r xs H Q ->
  wpAny (model X.prog X.w) X.A (call f us) (EP X pins σ Q) X.xe s
def Sf (X:Cx) (r:V->Hp->(Bool->Hp->Prop)->Prop):Prop:=
 ∀ (pins:List (Addr×Obj)) (s:Shared) (σ:St) (H:Hp) (x:V) (v:Value) (Q:Bool->Hp->Prop),Inv X pins σ H s->RelV x v->r x H Q ->
  wpAny (model X.prog X.w) X.A (truthy v) (TP X pins σ Q) X.xe s
def tOp (r:R2) (ta tb:TE):TE:=fun σ H Q=>ta σ H fun x H1=>tb σ H1 fun y H2=>r x y H2 Q
def tUn (r:V->Hp->VK->Prop) (ta:TE):TE:=fun σ H Q=>ta σ H fun x H1=>r x H1 Q
def rI (C:Int->Int->Prop) (g:Int->Int->V):R2:=fun x y H Q=>∃ i j,x=.int i/\y=.int j/\C i j/\Q (g i j) H
def rI0 (g:Int->Int->V):R2:=fun x y H Q=>∃ i j,x=.int i/\y=.int j/\Q (g i j) H
def rU (g:Int->V):V->Hp->VK->Prop:=fun x H Q=>∃ i,x=.int i/\Q (g i) H
section
variable {X:Cx} {a b c:Expr} {ta tb tc:TE} {pos:Pos}
theorem Gr (ha:PE X a ta) (hb:PE X b tb) {pins:List (Addr×Obj)} {s:Shared} {σ:St} {H:Hp} {R:V->V->Hp->Prop} (I:Inv X pins σ H s)
  (h:ta σ H fun x H1=>tb σ H1 fun y H2=>R x y H2) {Q:Value->Shared->Prop} {f:Value->Value->Sem Value}
  (hf:∀ v u s2 x y H2,Inv X pins σ H2 s2->RelV x v->RelV y u->R x y H2->wpAny (model X.prog X.w) X.A (f v u) Q X.xe s2) :
  wpAny (model X.prog X.w) X.A (eval a X.env) (fun v s₁=>wpAny (model X.prog X.w) X.A (eval b X.env) (fun u s₂=>wpAny (model X.prog X.w) X.A (f v u) Q X.xe s₂) X.xe s₁) X.xe s:=by
 refine thn (ha pins s σ H _ I h) fun v s1 hh_=>?_
 obtain ⟨x,H1,I1,r1,q1⟩:=hh_
 refine thn (hb pins s1 σ H1 _ I1 q1) fun u s2 hh_=>?_
 obtain ⟨y,H2,I2,r2,q2⟩:=hh_
 exact hf v u s2 x y H2 I2 r1 r2 q2
theorem T8 {op:Operator} {r:R2} (ho:OpR X (binaryOp op) r) (ha:PE X a ta) (hb:PE X b tb):PE X (.BinOp a op b pos) (tOp r ta tb):=by
 intro pins s σ H Q I h
 exact wpAny_BinOp (Gr ha hb I h fun v u s2 x y H2 I2 rx ry q=>ho pins s2 σ H2 x y v u Q I2 rx ry q)
theorem JU {op:UnaryOp} {r:V->Hp->VK->Prop} (ho:UnR X (unaryOp op) r) (ha:PE X a ta):PE X (.UnaryOp op a pos) (tUn r ta):=by
 intro pins s σ H Q I h
 exact UnaryOp_ (thn (ha pins s σ H _ I h) fun v s1 ⟨x,H1,I1,r1,q1⟩=>ho pins s1 σ H1 x v Q I1 r1 q1)
theorem opI {f:Value->Value->Sem Value} {C:Int->Int->Prop} {g:Int->Int->Int}
  (rule:∀ (i j:Int) (t u:Tok) (s:Shared) (Q:Value->Shared->Prop) (E:Value->Shared->Prop),C i j->Q (.int (g i j) s.toks) {s with toks:=s.toks+1}->wpAny (model X.prog X.w) X.A (f (.int i t) (.int j u)) Q E s) :
  OpR X f (rI C fun i j=>.int (g i j)):=by
 intro pins s σ H x y v u Q I rx ry h
 obtain ⟨i,j,rfl,rfl,hc,q⟩:=h
 obtain ⟨t,rfl⟩:=rx
 obtain ⟨t',rfl⟩:=ry
 exact rule i j t t' s _ _ hc ⟨.int (g i j),H,I.tok _,⟨_,rfl⟩,q⟩
theorem J3 {f:Value->Value->Sem Value} {g:Int->Int->Int}
  (rule:∀ (i j:Int) (t u:Tok) (s:Shared) (Q:Value->Shared->Prop) (E:Value->Shared->Prop),Q (.int (g i j) s.toks) {s with toks:=s.toks+1}->wpAny (model X.prog X.w) X.A (f (.int i t) (.int j u)) Q E s) :
  OpR X f (rI0 fun i j=>.int (g i j)):=by
 intro pins s σ H x y v u Q I rx ry h
 obtain ⟨i,j,rfl,rfl,q⟩:=h
 obtain ⟨t,rfl⟩:=rx
 obtain ⟨t',rfl⟩:=ry
 exact rule i j t t' s _ _ ⟨.int (g i j),H,I.tok _,⟨_,rfl⟩,q⟩
theorem GB {f:Value->Value->Sem Value} {g:Int->Int->Bool}
  (rule:∀ (i j:Int) (t u:Tok) (s:Shared) (Q:Value->Shared->Prop) (E:Value->Shared->Prop),Q (.bool (g i j)) s->wpAny (model X.prog X.w) X.A (f (.int i t) (.int j u)) Q E s) :
  OpR X f (rI0 fun i j=>.bl (g i j)):=by
 intro pins s σ H x y v u Q I rx ry h
 obtain ⟨i,j,rfl,rfl,q⟩:=h
 obtain ⟨t,rfl⟩:=rx
 obtain ⟨t',rfl⟩:=ry
 exact rule i j t t' s _ _ ⟨.bl (g i j),H,I,rfl,q⟩
def HP (i j:Int):Prop:=0<=j/\j<=1000000/\i.natAbs<2 ^ 64
def CMul (i j:Int):Prop:=(-(2 ^ 64)<i/\i<2 ^ 64)\/(-(2 ^ 64)<j/\j<2 ^ 64)
theorem CMul.ok {i j:Int} (h:CMul i j):IntMulOk i j:=by
 rcases h with ⟨h1,h2⟩ | ⟨h1,h2⟩
 ·exact .of_left (intBits_le_64 h1 h2)
 ·exact .of_right (intBits_le_64 h1 h2)
theorem op_add:OpR X (binaryOp .Add) (rI0 fun i j=>.int (i+j)):=J3 fun _ _ _ _ _ _ _ q=>add_int q
theorem Rt:OpR X (binaryOp .Sub) (rI0 fun i j=>.int (i - j)):=J3 fun _ _ _ _ _ _ _ q=>sub_int q
theorem Nz:OpR X (binaryOp .Mult) (rI CMul fun i j=>.int (i * j)):=opI fun _ _ _ _ _ _ _ hc q=>mul_int q hc.ok
theorem SN:OpR X (binaryOp .Mod) (rI (fun _ j=>0<j) fun i j=>.int (i % j)):=opI fun i j _ _ _ _ _ hc q=>by
 have h1:(0:Int)<j:=hc
 exact mod_int' (by lia) (by rw[Int.fmod_eq_emod_of_nonneg i (by lia)];exact q)
theorem N0:OpR X (binaryOp .Pow) (rI HP fun i j=>.int (i ^ j.toNat)):=opI fun _ _ _ _ _ _ _ hc q=>pow_int_small hc.1 hc.2.1 hc.2.2 q
theorem unI {f:Value->Sem Value} {g:Int->Int}
  (rule:∀ (i:Int) (t:Tok) (s:Shared) (Q:Value->Shared->Prop) (E:Value->Shared->Prop),Q (.int (g i) s.toks) {s with toks:=s.toks+1}->wpAny (model X.prog X.w) X.A (f (.int i t)) Q E s) :
  UnR X f (rU fun i=>.int (g i)):=by
 intro pins s σ H x v Q I rx h
 obtain ⟨i,rfl,q⟩:=h
 obtain ⟨t,rfl⟩:=rx
 exact rule i t s _ _ ⟨.int (g i),H,I.tok _,⟨_,rfl⟩,q⟩
theorem Kt:UnR X (unaryOp .USub) (rU fun i=>.int (-i)):=unI fun _ _ _ _ _ q=>neg_int q
end
def IU:V->V->Bool
 | .non,.non=>true | .non,.int _=>true | .int _,.non=>true | .non,.bl _=>true | .bl _,.non=>true | .non,.str _=>true | .str _,.non=>true
 | .int _,.int _=>true | .bl _,.bl _=>true | .str _,.str _=>true | .byt _,.byt _=>true
 | .int _,.str _=>true | .str _,.int _=>true | .bl _,.str _=>true | .str _,.bl _=>true
 | _,_=>false
def rEq:R2:=fun x y H Q=>IU x y=true/\Q (.bl (decide (x=y))) H
def rNe:R2:=fun x y H Q=>IU x y=true/\Q (.bl (!decide (x=y))) H
theorem Lo {i j:Int}:decide (V.int i=V.int j)=(i == j):=by
 rw[Bool.eq_iff_iff]
 simp
theorem Jp {i j:Bool}:decide (V.bl i=V.bl j)=(i == j):=by
 rw[Bool.eq_iff_iff]
 simp
theorem M3 {i j:Str}:decide (V.str i=V.str j)=(i == j):=by
 rw[Bool.eq_iff_iff]
 simp
theorem Lp {i j:Array UInt8}:decide (V.byt i=V.byt j)=(i.toList == j.toList):=by
 rw[Bool.eq_iff_iff]
 cases i
 cases j
 simp
section
variable {X:Cx} {a b c:Expr} {ta tb tc:TE} {pos:Pos}
theorem Ao {pins:List (Addr×Obj)} {σ:St} {H:Hp} {s:Shared} {Q:VK} {k k':Bool} (I:Inv X pins σ H s) (q:Q (.bl k) H) (e:k=k'):EP X pins σ Q (.bool k') s:=by
 subst e
 exact ⟨.bl k,H,I,rfl,q⟩
theorem op_eq:OpR X (compareOp .Eq) rEq:=by
 intro pins s σ H x y v u Q I rx ry h
 obtain ⟨hs,q⟩:=h
 cases x with
 | non=>
  cases rx
  cases y with
  | non=>cases ry;exact PySem.EqNone.eq_none_none (Ao I q (by simp))
  | bl j=>cases ry;exact PySem.EqNone.eq_none_bool (Ao I q (by simp))
  | int j=>obtain ⟨t',rfl⟩:=ry;exact PySem.EqNone.eq_none_int (Ao I q (by simp))
  | str j=>obtain ⟨t',rfl⟩:=ry;exact PySem.EqNone.eq_none_str (Ao I q (by simp))
  | _=>exact absurd (show false=true from hs) Bool.false_ne_true
 | bl i=>
  cases rx
  cases y with
  | non=>cases ry;exact PySem.EqNone.eq_bool_none (Ao I q (by simp))
  | bl j=>cases ry;exact eq_bool (Ao I q Jp)
  | str j=>obtain ⟨t',rfl⟩:=ry;exact PySem.EqMixed.eq_bool_str (Ao I q (by simp))
  | _=>exact absurd (show false=true from hs) Bool.false_ne_true
 | int i=>
  obtain ⟨t,rfl⟩:=rx
  cases y with
  | non=>cases ry;exact PySem.EqNone.eq_int_none (Ao I q (by simp))
  | int j=>obtain ⟨t',rfl⟩:=ry;exact eq_int (Ao I q Lo)
  | str j=>obtain ⟨t',rfl⟩:=ry;exact PySem.EqMixed.eq_int_str (Ao I q (by simp))
  | _=>exact absurd (show false=true from hs) Bool.false_ne_true
 | str i=>
  obtain ⟨t,rfl⟩:=rx
  cases y with
  | non=>cases ry;exact PySem.EqNone.eq_str_none (Ao I q (by simp))
  | bl j=>cases ry;exact PySem.EqMixed.eq_str_bool (Ao I q (by simp))
  | int j=>obtain ⟨t',rfl⟩:=ry;exact PySem.EqMixed.eq_str_int (Ao I q (by simp))
  | str j=>obtain ⟨t',rfl⟩:=ry;exact eq_str (Ao I q M3)
  | _=>exact absurd (show false=true from hs) Bool.false_ne_true
 | byt i=>
  obtain ⟨t,rfl⟩:=rx
  cases y with
  | byt j=>obtain ⟨t',rfl⟩:=ry;exact PySem.W.eq_bytes (Ao I q Lp)
  | _=>exact absurd (show false=true from hs) Bool.false_ne_true
 | _=>cases y<;>exact absurd (show false=true from hs) Bool.false_ne_true
theorem op_ne:OpR X (compareOp .NotEq) rNe:=by
 intro pins s σ H x y v u Q I rx ry h
 obtain ⟨hs,q⟩:=h
 cases x with
 | non=>
  cases rx
  cases y with
  | non=>cases ry;exact PySem.EqNone.ne_none_none (Ao I q (by simp))
  | bl j=>cases ry;exact PySem.EqNone.ne_none_bool (Ao I q (by simp))
  | int j=>obtain ⟨t',rfl⟩:=ry;exact PySem.EqNone.ne_none_int (Ao I q (by simp))
  | str j=>obtain ⟨t',rfl⟩:=ry;exact PySem.EqNone.ne_none_str (Ao I q (by simp))
  | _=>exact absurd (show false=true from hs) Bool.false_ne_true
 | bl i=>
  cases rx
  cases y with
  | non=>cases ry;exact PySem.EqNone.ne_bool_none (Ao I q (by simp))
  | bl j=>cases ry;exact ne_bool (Ao I q (congrArg not Jp))
  | str j=>obtain ⟨t',rfl⟩:=ry;exact PySem.EqMixed.ne_bool_str (Ao I q (by simp))
  | _=>exact absurd (show false=true from hs) Bool.false_ne_true
 | int i=>
  obtain ⟨t,rfl⟩:=rx
  cases y with
  | non=>cases ry;exact PySem.EqNone.ne_int_none (Ao I q (by simp))
  | int j=>obtain ⟨t',rfl⟩:=ry;exact ne_int (Ao I q (congrArg not Lo))
  | str j=>obtain ⟨t',rfl⟩:=ry;exact PySem.EqMixed.ne_int_str (Ao I q (by simp))
  | _=>exact absurd (show false=true from hs) Bool.false_ne_true
 | str i=>
  obtain ⟨t,rfl⟩:=rx
  cases y with
  | non=>cases ry;exact PySem.EqNone.ne_str_none (Ao I q (by simp))
  | bl j=>cases ry;exact PySem.EqMixed.ne_str_bool (Ao I q (by simp))
  | int j=>obtain ⟨t',rfl⟩:=ry;exact PySem.EqMixed.ne_str_int (Ao I q (by simp))
  | str j=>obtain ⟨t',rfl⟩:=ry;exact ne_str (Ao I q (congrArg not M3))
  | _=>exact absurd (show false=true from hs) Bool.false_ne_true
 | byt i=>
  obtain ⟨t,rfl⟩:=rx
  cases y with
  | byt j=>obtain ⟨t',rfl⟩:=ry;exact PySem.W.ne_bytes (Ao I q (congrArg not Lp))
  | _=>exact absurd (show false=true from hs) Bool.false_ne_true
 | _=>cases y<;>exact absurd (show false=true from hs) Bool.false_ne_true
theorem op_lt:OpR X (compareOp .Lt) (rI0 fun i j=>.bl (decide (i<j))):=GB fun _ _ _ _ _ _ _ q=>lt_int q
theorem op_le:OpR X (compareOp .LtE) (rI0 fun i j=>.bl (decide (i<=j))):=GB fun _ _ _ _ _ _ _ q=>le_int q
theorem op_gt:OpR X (compareOp .Gt) (rI0 fun i j=>.bl (decide (j<i))):=GB fun _ _ _ _ _ _ _ q=>gt_int q
theorem op_ge:OpR X (compareOp .GtE) (rI0 fun i j=>.bl (decide (j<=i))):=GB fun _ _ _ _ _ _ _ q=>ge_int q
theorem OpR.or {f:Value->Value->Sem Value} {r r':R2} (h:OpR X f r) (h':OpR X f r'):OpR X f (fun x y H Q=>r x y H Q\/r' x y H Q):=by
 intro pins s σ H x y v u Q I rx ry q
 rcases q with q | q
 ·exact h pins s σ H x y v u Q I rx ry q
 ·exact h' pins s σ H x y v u Q I rx ry q
theorem D1 (b:Expr) {op:CmpOp} (h:op≠.In:=by decide) (h2:op≠.NotIn:=by decide):behindInMarks op b=false:=by
 have e1:(op == CmpOp.In)=false:=by cases op<;>first | rfl | exact absurd rfl h
 have e2:(op == CmpOp.NotIn)=false:=by cases op<;>first | rfl | exact absurd rfl h2
 cases b<;>simp[behindInMarks,e1,e2]
theorem N9 {op:CmpOp} {r:R2} (ho:OpR X (compareOp op) r) (ha:PE X a ta) (hb:PE X b tb) (hm:behindInMarks op b=false):PE X (.Compare a [op] [b] pos) (tOp r ta tb):=by
 intro pins s σ H Q I h
 exact wpAny_Compare1 (Gr ha hb I h fun v u s2 x y H2 I2 rx ry q=>ho pins s2 σ H2 x y v u Q I2 rx ry q) hm
def J9 (t:TE):TT:=fun σ H Q=>t σ H fun x H'=>∃ k,x=.bl k/\Q k H'
theorem RT {op:CmpOp} {r:R2} (ho:OpR X (compareOp op) r) (ha:PE X a ta) (hb:PE X b tb) (hm:behindInMarks op b=false):PT X (.Compare a [op] [b] pos) (J9 (tOp r ta tb)):=by
 intro pins s σ H Q I h
 refine wpAny_isTrue_Compare1 (thn (ha pins s σ H _ I h) fun v s1 ⟨x,H1,I1,r1,q1⟩=>thn (hb pins s1 σ H1 _ I1 q1) fun u s2 ⟨y,H2,I2,r2,q2⟩=>
  thn (ho pins s2 σ H2 x y v u _ I2 r1 r2 q2) fun c s3 ⟨z,H3,I3,r3,k,e,q3⟩=>?_) hm
 subst e
 cases r3
 exact wpAny_truthy_bool ⟨H3,I3,q3⟩
def Lc (r r':R2) (ta tb tc:TE):TE:=fun σ H Q=>ta σ H fun x H1=>tb σ H1 fun y H2=>r x y H2 fun z H3=>∃ k,z=.bl k /\
 (if k=true then tc σ H3 fun w' H4=>r' y w' H4 Q else Q (.bl false) H3)
theorem PM {op op':CmpOp} {r r':R2} (ho:OpR X (compareOp op) r) (ho':OpR X (compareOp op') r') (ha:PE X a ta) (hb:PE X b tb) (hc:PE X c tc)
  (hm:lastMarks [op,op'] [b,c]=false:=by with_unfolding_all rfl):PT X (.Compare a [op,op'] [b,c] pos) (J9 (Lc r r' ta tb tc)):=by
 intro pins s σ H Q I h
 refine isTrue_chain (thn (ha pins s σ H _ I h) fun v s1 ⟨x,H1,I1,r1,q1⟩=>test_link (thn (hb pins s1 σ H1 _ I1 q1) fun u s2 ⟨y,H2,I2,r2,q2⟩=>
  thn (ho pins s2 σ H2 x y v u _ I2 r1 r2 q2) fun d s3 ⟨z,H3,I3,r3,k,e,q3⟩=>?_)) hm
 subst e
 cases r3
 refine wpAny_truthy_bool ?_
 cases k with
 | false=>
  obtain ⟨k',e',q'⟩:=q3
  cases e'
  exact ite_ff ⟨H3,I3,q'⟩
 | true=>
  refine ite_tt (test_last (thn (hc pins s3 σ H3 _ I3 q3) fun w' s4 ⟨z',H4,I4,r4,q4⟩=>thn (ho' pins s4 σ H4 y z' u w' _ I4 r2 r4 q4) fun d' s5 hh_=>?_))
  obtain ⟨z2,H5,I5,r5,k2,e2,q5⟩:=hh_
  subst e2
  cases r5
  exact wpAny_truthy_bool ⟨H5,I5,q5⟩
def HI (K:PySem.W.Frag) (x:V) (H:Hp) (k:Bool):Prop:=
 match x with
 | .non=>k=false
 | .bl b=>k=b
 | .int i=>k=(i != 0)
 | .str y=>y.length<=sizeLine/\k=((y.length:Int) != 0)
 | .byt y=>y.size<=sizeLine/\k=((y.size:Int) != 0)
 | .ref p=>(∃ xs,SqL K H p xs/\k=!xs.isEmpty)\/(∃ xs,SqT K H p xs/\k=!xs.isEmpty)\/∃ kvs,H p=some (.dK kvs)/\k=!kvs.isEmpty
 | _=>False
theorem Qp {κ:Type} {kvs:List (κ×V)} {vs:List (κ×Value)} (r:KV kvs vs):(!vs.isEmpty)=!kvs.isEmpty:=by
 cases r<;>rfl
theorem Mz {xs:List V} {its:List Value} (r:Vals xs its):(!its.toArray.isEmpty)=!xs.isEmpty:=by
 cases r<;>simp
theorem Ex:(sizeLine:Nat)<2 ^ 63:=by rw[sizeLine_eq];decide
theorem Qe:Sf X (fun x H Q=>∃ k,HI X.K x H k/\Q k H):=by
 intro pins s σ H x v Q I rx h
 obtain ⟨k,e,q⟩:=h
 have hl:=Ex
 have hs:sizeLine=16777216:=sizeLine_eq
 cases x with
 | non=>
  cases rx
  have e':k=false:=e
  subst e'
  exact truthy_none ⟨H,I,q⟩
 | bl b=>
  cases rx
  have e':k=b:=e
  subst e'
  exact wpAny_truthy_bool ⟨H,I,q⟩
 | int i=>
  obtain ⟨t,rfl⟩:=rx
  have e':k=(i != 0):=e
  subst e'
  exact PySem.P.truthy_int ⟨H,I,q⟩
 | str y=>
  obtain ⟨t,rfl⟩:=rx
  obtain ⟨hy,e'⟩:y.length<=sizeLine/\k=((y.length:Int) != 0):=e
  subst e'
  exact PySem.P.truthy_str (by lia) ⟨H,I.tok _,q⟩
 | byt y=>
  obtain ⟨t,rfl⟩:=rx
  obtain ⟨hy,e'⟩:y.size<=sizeLine/\k=((y.size:Int) != 0):=e
  subst e'
  exact PySem.W.truthy_bytes (by lia) ⟨H,I.tok _,q⟩
 | ref p=>
  cases rx
  have e':(∃ xs,SqL X.K H p xs/\k=!xs.isEmpty)\/(∃ xs,SqT X.K H p xs/\k=!xs.isEmpty)\/∃ kvs,H p=some (.dK kvs)/\k=!kvs.isEmpty:=e
  rcases e' with ⟨xs,hx,e'⟩ | ⟨xs,hx,e'⟩ | ⟨kvs,hx,e'⟩
  ·subst e'
   obtain ⟨its,r,pl,hz⟩:=I.list hx
   have hlen:=r.length
   exact wpAny_truthy_list pl.isList (by simp only[List.size_toArray];lia) ⟨H,I.tok _,by rw[Mz r];exact q⟩
  ·subst e'
   obtain ⟨its,r,pl,hz⟩:=I.tuple hx
   have hlen:=r.length
   exact truthy_tuple pl (by simp only[List.size_toArray];lia) ⟨H,I.tok _,by rw[Mz r];exact q⟩
  ·subst e'
   obtain ⟨hz,hS,vs,r,m⟩:kvs.length<=sizeLine/\(p == sysModules)=false/\∃ vs,KV kvs vs/\s.heap.DictOf (Fl X.prog X.w) p vs:=I.hok p _ hx
   have hlen:kvs.length=vs.length:=Paired.length r
   exact wpAny_truthy_dict hS m (by lia) ⟨H,I.tok _,by rw[Qp r];exact q⟩
 | _=>exact (show False from e).elim
theorem RV (ha:PE X a ta) (he:∀ whole,isTrue a X.env whole=(do let v <-whole;standAt a.pos;holding [v] (truthy v))) :
  PT X a (fun σ H Q=>ta σ H fun x H'=>∃ k,HI X.K x H' k/\Q k H'):=by
 intro pins s σ H Q I h
 exact isTrue_plain (thn (ha pins s σ H _ I h) fun v s1 ⟨x,H1,I1,r1,q1⟩=>Qe pins s1 σ H1 x v Q I1 r1 q1) (he _)
theorem op_add_str:OpR X (binaryOp .Add) (fun x y H Q=>∃ i j,x=.str i/\y=.str j/\i.length+j.length<=sizeLine/\Q (.str (i++j)) H):=by
 intro pins s σ H x y v u Q I rx ry h
 obtain ⟨i,j,rfl,rfl,hz,q⟩:=h
 obtain ⟨t,rfl⟩:=rx
 obtain ⟨t',rfl⟩:=ry
 exact add_str (fun t' tk=>⟨.str (i++j),H,I.tok _,⟨_,rfl⟩,q⟩) hz
theorem vals1 {x:V} {us:List Value} (r:Vals [x] us):∃ u,us=[u]/\RelV x u:=by
 cases r with
 | cons r1 r2=>cases r2;exact ⟨_,rfl,r1⟩
theorem vals2 {x y:V} {us:List Value} (r:Vals [x,y] us):∃ u w',us=[u,w']/\RelV x u/\RelV y w':=by
 cases r with
 | cons r1 r2=>
  cases r2 with
  | cons r3 r4=>cases r4;exact ⟨_,_,rfl,r1,r3⟩
theorem Tb (hc:X.calm=true):CallR X (.builtin "max") (fun xs H Q=>∃ i j,xs=[.int i,.int j]/\Q (.int (if j > i then j else i)) H):=by
 intro pins s σ H xs us Q I r h
 obtain ⟨i,j,rfl,q⟩:=h
 obtain ⟨u,w',rfl,⟨t,rfl⟩,⟨t',rfl⟩⟩:=vals2 r
 refine max_two_ints (I.ok.hd hc) fun h' tk k=>⟨_,H,I.kept k,?_,q⟩
 by_cases hj:j > i
 ·rw[if_pos hj,if_pos hj];exact ⟨_,rfl⟩
 ·rw[if_neg hj,if_neg hj];exact ⟨_,rfl⟩
theorem Qg (hc:X.calm=true):CallR X (.builtin "min") (fun xs H Q=>∃ i j,xs=[.int i,.int j]/\Q (.int (if j<i then j else i)) H):=by
 intro pins s σ H xs us Q I r h
 obtain ⟨i,j,rfl,q⟩:=h
 obtain ⟨u,w',rfl,⟨t,rfl⟩,⟨t',rfl⟩⟩:=vals2 r
 refine min_two_ints (I.ok.hd hc) fun h' tk k=>⟨_,H,I.kept k,?_,q⟩
 by_cases hj:j<i
 ·rw[if_pos hj,if_pos hj];exact ⟨_,rfl⟩
 ·rw[if_neg hj,if_neg hj];exact ⟨_,rfl⟩
def Lk (K:PySem.W.Frag) (x:V) (H:Hp) (n:Nat):Prop:=
 match x with
 | .str y=>y.length<=sizeLine/\n=y.length
 | .byt y=>y.size<=sizeLine/\n=y.size
 | .ref p=>(∃ xs,SqL K H p xs/\n=xs.length)\/∃ xs,SqT K H p xs/\n=xs.length
 | _=>False
theorem UC:CallR X (.builtin "len") (fun xs H Q=>∃ x n,xs=[x]/\Lk X.K x H n/\Q (.int n) H):=by
 intro pins s σ H xs us Q I r h
 obtain ⟨x,n,rfl,e,q⟩:=h
 obtain ⟨u,rfl,rx⟩:=vals1 r
 have hl:=Ex
 have hs:sizeLine=16777216:=sizeLine_eq
 cases x with
 | str y=>
  obtain ⟨t,rfl⟩:=rx
  obtain ⟨hy,e'⟩:y.length<=sizeLine/\n=y.length:=e
  subst e'
  exact len_str (by lia) ⟨.int _,H,I.tok _,⟨_,rfl⟩,q⟩
 | byt y=>
  obtain ⟨t,rfl⟩:=rx
  obtain ⟨hy,e'⟩:y.size<=sizeLine/\n=y.size:=e
  subst e'
  exact PySem.W.len_bytes (by lia) ⟨.int _,H,I.tok _,⟨_,rfl⟩,q⟩
 | ref p=>
  cases rx
  have e':(∃ xs,SqL X.K H p xs/\n=xs.length)\/∃ xs,SqT X.K H p xs/\n=xs.length:=e
  rcases e' with ⟨xs,hx,e'⟩ | ⟨xs,hx,e'⟩
  ·subst e'
   obtain ⟨its,r',pl,hz⟩:=I.list hx
   have hlen:=r'.length
   exact Calls.call_len_list pl.isList (by simp only[List.size_toArray];lia) ⟨.int xs.length,H,I.tok _,⟨_,by simp only[List.size_toArray];rw[hlen]⟩,q⟩
  ·subst e'
   obtain ⟨its,r',pl,hz⟩:=I.tuple hx
   have hlen:=r'.length
   exact len_tuple pl (by simp only[List.size_toArray];lia) ⟨.int xs.length,H,I.tok _,⟨_,by simp only[List.size_toArray];rw[hlen]⟩,q⟩
 | _=>exact (show False from e).elim
end
structure ObjM (h:Heap) (x dx C:Addr) (mA:Str->Option Value):Prop where
 obj:h.get? x=some (PySem.W.instObj C dx)
 ns:h.Ns1 dx mA
 ne:dx≠x
theorem Sm {h:Heap} {dx:Addr} {mA:Str->Option Value} (n:h.Ns1 dx mA):∃ od,h.get? dx=some od/\∀ name,PySem.W.lookIn name od=some (mA name):=by
 obtain ⟨o,es,ep,ho,hd,hk,_,hm⟩:=n
 refine ⟨o,ho,fun name=>?_⟩
 have e:=hm name
 unfold nsFind findBy at e
 rw[<-Array.find?_toList] at e
 unfold PySem.W.lookIn
 rw[hd]
 dsimp only
 split
 ·rename_i y q
  rw[q] at e
  exact congrArg some e
 ·rename_i q
  rw[q] at e
  have a:es.toList.any (·.refKey)=false:=by
   rw[List.any_eq_false]
   intro y hy
   obtain ⟨z,t,hkey⟩:=hk y (Array.mem_toList_iff.mp hy)
   simp[DictEntry.refKey,hkey]
  have a':¬es.toList.any (·.refKey)=true:=by rw[a];exact Bool.false_ne_true
  rw[if_neg a']
  exact congrArg some e
theorem ObjM.look {h:Heap} {x dx C:Addr} {mA:Str->Option Value} (I:ObjM h x dx C mA):∃ od,PySem.W.InstAt h x (PySem.W.instObj C dx) C (some od)/\∀ name,PySem.W.lookIn name od=some (mA name):=
 let ⟨od,ho,hl⟩:=Sm I.ns
 ⟨od,⟨I.obj,rfl,rfl,ho⟩,hl⟩
section
variable {prog:Program} {w:World} {A:Around} {E:Value->Shared->Prop} {s:Shared} {K:PySem.W.Frag} {x dx C f:Addr} {mA:Str->Option Value} {name:Str} {v:Value}
end
section
variable {P:Program} {w:World} {H H':Hp} {h h':Heap} {a C dx:Addr} {fs fs':List (Str×V)}
theorem NW (hok:HOk P w H h) (e:H a=some (.ins C dx fs)):∃ mA,ObjM h a dx C mA/\(∀ f,Ht (fs.lookup f) (mA f))/\PySem.Within mA (fs.map (·.1))/\fs.length<=1000/\H dx=some (.own a):=by
 obtain ⟨d,z,ne,ob,mA,n,r,q⟩:=(show ObjOk P w H h a (.ins C dx fs) from hok a _ e)
 exact ⟨mA,⟨ob,n,ne⟩,r,q,z,d⟩
end
structure Cls (K:PySem.W.Frag) (C:Addr):Prop where
 pg:PySem.W.plainGet K C Str.empty=true
 hd:PySem.W.hasDictIn K C=true
 po:PySem.W.plainOver K C=true
 sa:PySem.W.findIn K (.ref C) "__setattr__"=some (some (.builtin "object.__setattr__"))
theorem Cls.get {K:PySem.W.Frag} {C:Addr} (c:Cls K C) (f:Str):PySem.W.plainGet K C f=true:=c.pg
structure Con (K:PySem.W.Frag) (C:Addr) (f:Str) (v:V) (u:Value):Prop where
 at_:PySem.W.findIn K (.ref C) f=some (some u)
 rel:RelV v u
 get:PySem.W.specialIn K u "__get__"=some none
 cp:PySem.W.copiedNames.contains f=false
structure Meth (K:PySem.W.Frag) (C:Addr) (m:Str) (f:Addr):Prop where
 at_:PySem.W.findIn K (.ref C) m=some (some (.ref f))
 fn:PySem.W.isFn K (.ref f)=true
 kp:PySem.W.keepIn K (.ref f)=true
section
variable {X:Cx} {pins:List (Addr×Obj)} {σ:St} {H:Hp} {s:Shared} {a C dx:Addr} {fs:List (Str×V)} {f:Str} {v:V} {A:Around} {E:Value->Shared->Prop}
end
section
variable {X:Cx} {o e value:Expr} {f:Str} {pos pos' tpos:Pos} {ta tv:TE}
end
section
variable {X:Cx} {pins:List (Addr×Obj)} {σ:St} {H:Hp} {s:Shared} {A:Around} {E:Value->Shared->Prop} {Q:Value->Shared->Prop} {c:Value} {b:Bool}
inductive TyOf (K:PySem.W.Frag) (H:Hp):V->Value->Prop where
 | non:TyOf K H .non (.type "NoneType")
 | bl (x:Bool):TyOf K H (.bl x) (.type "bool")
 | int (i:Int):TyOf K H (.int i) (.type "int")
 | str (x:Str):TyOf K H (.str x) (.type "str")
 | flt (x:UInt64):TyOf K H (.flt x) (.type "float")
 | lst {a:Addr} {xs:List V} (e:H a=some (.lst xs)):TyOf K H (.ref a) (.type "list")
 | frz {a:Addr} {o:Obj} {xs:List V} (e:H a=some (.frz o (.lst xs))):TyOf K H (.ref a) (.type "list")
 | tup {a:Addr} {xs:List V} (e:H a=some (.tup xs)):TyOf K H (.ref a) (.type "tuple")
 | dK {a:Addr} {kvs:List (Key×V)} (e:H a=some (.dK kvs)):TyOf K H (.ref a) (.type "dict")
 | dT {a:Addr} {kvs:List (List Key×V)} (e:H a=some (.dT kvs)):TyOf K H (.ref a) (.type "dict")
 | ins {a C dx:Addr} {fs:List (Str×V)} (e:H a=some (.ins C dx fs)) (cl:Cls K C) (ha:PySem.W.findIn K (.ref C) "__class__"=some (some (.builtin "object.__class__")))
   (hn:PySem.W.specialIn K (.builtin "object.__class__") "__get__"=some (some (.builtin "getset_descriptor.__get__"))) (htk:PySem.W.takesIn K (.builtin "object.__class__")=some true)
   (hm:PySem.W.mroIn K C (.type "object")=some true):TyOf K H (.ref a) (.ref C)
theorem PF {x:V} {u t:Value} (I:Inv X pins σ H s) (rx:RelV x u) (ty:TyOf X.K H x t) (e:PySem.W.kitOne X.K t c=some b) (h:∀ tk,Q (.bool b) {s with toks:=tk}) :
  wpAny (model X.prog X.w) A (call (.builtin "isinstance") [u,c]) Q E s:=by
 cases ty with
 | non=>cases (show u=Value.none from rx);exact PySem.W.kia_one PySem.W.kitx_none I.kIn True.intro e (fun z=>nomatch z) h
 | bl y=>cases (show u=Value.bool y from rx);exact PySem.W.kia_one PySem.W.kitx_bool I.kIn True.intro e (fun z=>nomatch z) h
 | int i=>obtain ⟨t,q⟩:=(show ∃ t,u=Value.int i t from rx);cases q;exact PySem.W.kia_one PySem.W.kitx_int I.kIn True.intro e (fun z=>nomatch z) h
 | str y=>obtain ⟨t,q⟩:=(show ∃ t,u=Value.str y t from rx);cases q;exact PySem.W.kia_one PySem.W.kitx_str I.kIn True.intro e (fun z=>nomatch z) h
 | flt y=>obtain ⟨t,q⟩:=(show ∃ t,u=Value.float y t from rx);cases q;exact PySem.W.kia_one PySem.W.kitx_float I.kIn True.intro e (fun z=>nomatch z) h
 | @lst a xs ea=>
  cases (show u=Value.ref a from rx)
  obtain ⟨_,_,n,_,h1⟩:=(show ObjOk X.prog X.w H s.heap a (.lst xs) from I.hok a _ ea)
  exact PySem.W.kia_one PySem.W.kitx_list I.kIn ⟨_,h1,rfl⟩ e (fun z=>nomatch z) h
 | @frz a ob xs ea=>
  cases (show u=Value.ref a from rx)
  obtain ⟨_,_,_,n,_,h1⟩:=(show ObjOk X.prog X.w H s.heap a (.frz ob (.lst xs)) from I.hok a _ ea)
  exact PySem.W.kia_one PySem.W.kitx_list I.kIn ⟨_,h1,rfl⟩ e (fun z=>nomatch z) h
 | @tup a xs ea=>
  cases (show u=Value.ref a from rx)
  obtain ⟨_,_,_,p⟩:=(show ObjOk X.prog X.w H s.heap a (.tup xs) from I.hok a _ ea)
  obtain ⟨o,h1,h2,_⟩:=p
  exact PySem.W.kia_one PySem.W.kitx_tuple I.kIn ⟨o,h1,h2⟩ e (fun z=>nomatch z) h
 | @dK a kvs ea=>
  cases (show u=Value.ref a from rx)
  obtain ⟨_,_,vs,_,p⟩:=(show ObjOk X.prog X.w H s.heap a (.dK kvs) from I.hok a _ ea)
  obtain ⟨o,es,ep,h1,h2,_⟩:=p
  exact PySem.W.kia_one PySem.W.kitx_dict I.kIn ⟨o,h1,h2.1⟩ e (fun z=>nomatch z) h
 | @dT a kvs ea=>
  cases (show u=Value.ref a from rx)
  obtain ⟨_,_,xs,_,o,es,ep,h1,h2,_⟩:=(show ObjOk X.prog X.w H s.heap a (.dT kvs) from I.hok a _ ea)
  exact PySem.W.kia_one PySem.W.kitx_dict I.kIn ⟨o,h1,h2.1⟩ e (fun z=>nomatch z) h
 | @ins a C dx fs ea cl ha hn htk hm=>
  cases (show u=Value.ref a from rx)
  obtain ⟨mA,O,_⟩:=NW I.hok ea
  obtain ⟨od,J,_⟩:=O.look
  exact PySem.W.kia_one (PySem.W.kitx_own (cl.get _) cl.hd ha hn htk hm) I.kIn J e (fun z=>nomatch z) h
end
structure Room (k:Nat) (A:Around):Prop where
 hd:A.handled=none
 dp:A.depth+3 * k+5<recursionLimit
 un:A.units+16 * k+200<cLine
 gd:A.guards=some []
theorem Room.mono {j k:Nat} {A:Around} (r:Room k A) (h:j<=k):Room j A:=⟨r.hd,by have:=r.dp;lia,by have:=r.un;lia,r.gd⟩
theorem Room.deeper {k:Nat} {A:Around} (r:Room (k+1) A) (env:Env):Room k (A.deeper env):=
 ⟨r.hd,by have:=r.dp;show A.depth+1+3 * k+5<_;lia,by have:=r.un;show A.units+3+16 * k+200<_;lia,r.gd⟩
theorem Room.depth {k:Nat} {A:Around} (r:Room k A):A.depth<recursionLimit:=by have:=r.dp;lia
theorem Room.units {k:Nat} {A:Around} (r:Room k A):A.units+64<cLine:=by have:=r.un;lia
theorem Room.units0 {k:Nat} {A:Around} (r:Room k A):A.units<cLine:=by have:=r.un;lia
def HV:TA:=fun _ H Q=>Q [] H
def Ha (ta:TE) (tr:TA):TA:=fun σ H Q=>ta σ H fun x H1=>tr σ H1 fun xs H2=>Q (x::xs) H2
section
variable {X:Cx} {e:Expr} {es:List Expr} {te:TE} {t:TA} {pos:Pos}
theorem CD:PA X [] HV:=fun _ _ _ _ H Q I h=>Calls.spliced_nil ⟨[],H,I,.nil,h⟩
theorem BN (ha:PE X e te) (hr:PA X es t) (hs:starEach (e::es) X.env=(false,eval e X.env)::starEach es X.env:=by rfl):PA X (e::es) (Ha te t):=by
 intro pos pins s σ H Q I h
 rw[hs]
 show wpAny _ _ (spliced ((false,eval e X.env)::backTo pos (starEach es X.env))) _ _ s
 refine Calls.spliced_cons (thn (ha pins s σ H _ I h) fun u s1 hh_=>?_)
 obtain ⟨x,H1,I1,r1,q1⟩:=hh_
 exact thn (hr pos pins s1 σ H1 _ I1 q1) fun us s2 ⟨xs,H2,I2,r2,q2⟩=>⟨x::xs,H2,I2,.cons r1 r2,q2⟩
def P2 (t:TA):TE:=fun σ H Q=>t σ H fun xs H1=>xs.length<=sizeLine/\∀ p,H1 p=none->Q (.ref p) (upd H1 p (.tup xs))
def NO (t:TA):TE:=fun σ H Q=>t σ H fun xs H1=>xs.length<=sizeLine/\∀ p,H1 p=none->Q (.ref p) (upd H1 p (.lst xs))
theorem Hu {x1} (h:PA X es t):PE X (.Tuple es x1 pos) (P2 t):=by
 intro pins s σ H Q I hq
 refine wpAny_Tuple_spliced (thn (h pos pins s σ H _ I hq) fun us s1 ⟨xs,H1,I1,r,z,q⟩=>⟨by rw[<-r.length];exact z,?_⟩)
 have hf:H1 s1.heap.objs.size=none:=I1.hok.fresh (Nat.le_refl _)
 refine ⟨.ref s1.heap.objs.size,upd H1 s1.heap.objs.size (.tup xs),I1.laid (t':=s1.toks) (fun b u e=>Heap.get?_push_of_some _ e) (Nat.le_refl _) ?_,rfl,q _ hf⟩
 exact ⟨z,us,r,⟨_,Heap.get?_push_size _ rfl,rfl,_,rfl⟩⟩
theorem Tn (h:PA X es t):PE X (.List es pos) (NO t):=by
 intro pins s σ H Q I hq
 refine wpAny_List_spliced (thn (h pos pins s σ H _ I hq) fun us s1 ⟨xs,H1,I1,r,z,q⟩=>⟨by rw[<-r.length];exact z,?_⟩)
 have hf:H1 s1.heap.objs.size=none:=I1.hok.fresh (Nat.le_refl _)
 refine ⟨.ref s1.heap.objs.size,upd H1 s1.heap.objs.size (.lst xs),I1.laid (t':=s1.toks) (fun b u e=>Heap.get?_push_of_some _ e) (Nat.le_refl _) ?_,rfl,q _ hf⟩
 exact ⟨z,us,0,r,Heap.get?_push_size _ rfl⟩
end
abbrev Sp:=List V->Hp->VK->XK->Prop
abbrev CXT:=List Env->Hp->Shared->XK->Value->Shared->Prop
structure Env0 (P:Program) (w:World) (K:PySem.W.Frag) (mg:Str->Option Value) (base:Heap) (A:Around) (outer:List Env) (s:Shared) (H:Hp):Prop where
 frames:A.frames=some outer
 mod:Mod K mg base
 bs:∀ b o,base.get? b=some o->s.heap.get? b=some o/\H b=none
 bsz:base.objs.size<=s.heap.objs.size
 funs:s.heap.FunFrames base outer
 frf:∀ b∈frs outer,H b=none
 hok:HOk P w H s.heap
 bare:AllBare s.gens
def CE (outer:List Env) (P:Program) (w:World) (H:Hp) (s:Shared) (Q:VK) (u:Value) (s':Shared):Prop:=
 ∃ v H',s'.os=s.os/\AllBare s'.gens/\Un (frs outer) [] H H' s.heap s'.heap/\HOk P w H' s'.heap/\RelV v u/\Q v H'
def CR (CX:CXT) (outer:List Env) (P:Program) (w:World) (H:Hp) (s:Shared) (Q:VK) (E:XK) (r:Result) (s':Shared):Prop:=
 match r with
 | .ok (.ret u)=>CE outer P w H s Q u s'
 | .ok _=>False
 | .error e=>CX outer H s E e s'
structure FnOk (P:Program) (w:World) (K:PySem.W.Frag) (mg:Str->Option Value) (base:Heap) (CX:CXT) (k:Nat) (f:Addr) (fd:FuncData) (ps:List Str) (sp:Sp):Prop where
 len:∀ vs H Q E,sp vs H Q E->vs.length=ps.length
 run:∀ (A:Around) (outer:List Env) (s:Shared) (H:Hp) (args:Args) (us:List Value) (vs:List V) (Q:VK) (E:XK),Room k A->Env0 P w K mg base A outer s H->BindsTo s fd args (ps.zip us)->Vals vs us->sp vs H Q E ->
  codeAny (model P w) A (.call (.ref f) args) (CR CX outer P w H s Q E) s
theorem FnOk.imp {P:Program} {w:World} {K:PySem.W.Frag} {mg:Str->Option Value} {base:Heap} {CX:CXT} {k:Nat} {f:Addr} {fd:FuncData} {ps:List Str} {sp sp':Sp} (F:FnOk P w K mg base CX k f fd ps sp)
  (h:∀ vs H Q E,sp' vs H Q E->sp vs H Q E):FnOk P w K mg base CX k f fd ps sp':=
 ⟨fun vs H Q E q=>F.len vs H Q E (h _ _ _ _ q),fun A outer s H args us vs Q E hr he hb hv hs=>F.run A outer s H args us vs Q E hr he hb hv (h _ _ _ _ hs)⟩
section
variable {X:Cx} {pins:List (Addr×Obj)} {σ:St} {H:Hp} {s s':Shared}
theorem Inv.env0 (I:Inv X pins σ H s):Env0 X.prog X.w X.K X.mg X.base X.A X.stack s H:=
 ⟨I.ok.frames,I.ok.mod,I.bs,Nat.le_trans I.ok.bsz I.sz,I.stack,I.stkFree,I.hok,I.bare⟩
theorem Inv.after {Q:VK} {u:Value} (I:Inv X pins σ H s) (h:CE X.stack X.prog X.w H s Q u s'):EP X pins σ Q u s':=by
 obtain ⟨v,H',os,bare,un,hok,r,q⟩:=h
 obtain ⟨hh,g,d,t,os'⟩:=s'
 obtain rfl:os'=s.os:=os
 exact ⟨v,H',I.call (h':=hh) (g':=g) (d':=d) (t':=t) (ch:=[]) un hok bare (fun b z=>absurd z (by simp)),r,q⟩
end
def Lg (sp:Sp) (dvs:List V) (E:XK) (t:TA):TE:=fun σ H Q=>t σ H fun vs H1=>sp (vs++dvs) H1 Q E
def Binds (K:PySem.W.Frag) (fd:FuncData) (ps:List Str) (ds:List Value):Prop:=
 ∀ (s:Shared) (us:List Value),K.In s.heap->(us++ds).length=ps.length->BindsTo s fd ⟨us,[]⟩ (ps.zip (us++ds))
theorem Binds.all {K:PySem.W.Frag} {fd:FuncData} {ps:List Str} (h:∀ us:List Value,us.length=ps.length->bindArgs fd ⟨us,[]⟩=pure (ps.zip us)):Binds K fd ps []:=fun s us _ hl=>by
 rw[List.append_nil] at hl ⊢
 exact .of_eq (h us hl)
def GP (CX:CXT) (X:Cx) (E:XK):Prop:=∀ (pins:List (Addr×Obj)) (σ:St) (H:Hp) (s:Shared) (e:Value) (s':Shared),Inv X pins σ H s->CX X.stack H s E e s'->X.xe e s'
section
variable {X:Cx} {CX:CXT} {k:Nat} {f C:Addr} {fd:FuncData} {ps:List Str} {sp:Sp} {dvs:List V} {ds:List Value} {E:XK} {x m:Str} {p pos apos:Pos} {e o:Expr} {es:List Expr} {ta:TE} {t:TA}
theorem P3 {pins:List (Addr×Obj)} {σ:St} {H:Hp} {s:Shared} {Q:VK} {us:List Value} {vs:List V} (F:FnOk X.prog X.w X.K X.mg X.base CX k f fd ps sp) (hr:Room k X.A) (hb:Binds X.K fd ps ds) (hd:Vals dvs ds) (hx:GP CX X E)
  (I:Inv X pins σ H s) (r:Vals vs us) (h:sp (vs++dvs) H Q E):wpAny (model X.prog X.w) X.A (call (.ref f) us) (EP X pins σ Q) X.xe s:=by
 have r2:Vals (vs++dvs) (us++ds):=r.append hd
 have hl:(us++ds).length=ps.length:=by rw[<-r2.length];exact F.len _ _ _ _ h
 refine wpAny_call (codeAny_mono (F.run X.A X.stack s H ⟨us,[]⟩ (us++ds) (vs++dvs) Q E hr I.env0 (hb s us I.kIn hl) r2 h) fun r s' hq=>?_)
 cases r with
 | error e=>exact hx pins σ H s e s' I hq
 | ok fl=>
  cases fl with
  | ret u=>exact I.after hq
  | next=>exact False.elim hq
  | brk=>exact False.elim hq
  | cont=>exact False.elim hq
theorem E6 (F:FnOk X.prog X.w X.K X.mg X.base CX k f fd ps sp) (hr:Room k X.A) (hg:Gl X x) (hm:X.mg x=some (.ref f)) (hk:PySem.W.keepIn X.K (.ref f)=true) (hb:Binds X.K fd ps ds) (hd:Vals dvs ds) (hx:GP CX X E)
  (ha:PA X (e::es) t) (hdb:(x == ("__debug__":Str))=false:=by decide) (he:starEach (e::es) X.env=(false,eval e X.env)::starEach es X.env:=by rfl) (hpl:(backTo pos (starEach es X.env)).any (·.1)=false:=by rfl) :
  PE X (.Call (.Name x p) (e::es) [] pos) (Lg sp dvs E t):=by
 intro pins s σ H Q I h
 refine wpAny_Call_Name_kw (Fc I hg hm ?_ hdb)
 refine PySem.W.callWith_K (h₀:=X.base) I.ok.mod.kin hk (thn (ha pos pins s σ H _ I h) fun us s1 ⟨vs,H1,I1,r,q⟩=>⟨I1.kIn,?_⟩) he hpl
 exact P3 F hr hb hd hx I1 r q
structure Mk (K:PySem.W.Frag) (C f:Addr):Prop where
 makes:PySem.W.makesIn K C=true
 init:PySem.W.findIn K (.ref C) "__init__"=some (some (.ref f))
 fn:PySem.W.isFn K (.ref f)=true
 kp:PySem.W.keepIn K (.ref C)=true
end
section
variable {X:Cx} {CX:CXT} {k:Nat} {f C:Addr} {fd:FuncData} {ps ks:List Str} {sp:Sp} {E:XK} {x m:Str} {p pos apos kpos:Pos} {e o:Expr} {es:List Expr} {kws:List Keyword} {te ta:TE} {t tk:TA} {nm:Option Str}
structure KBinds (K:PySem.W.Frag) (fd:FuncData) (ps ks:List Str) (g:List Value->List Value->List Value) (gV:List V->List V->List V):Prop where
 to:∀ (s:Shared) (us ws:List Value),K.In s.heap->(g us ws).length=ps.length->BindsTo s fd ⟨us,ks.zip ws⟩ (ps.zip (g us ws))
 rel:∀ {vs:List V} {us:List Value} {zs:List V} {ws:List Value},Vals vs us->Vals zs ws->Vals (gV vs zs) (g us ws)
variable {g:List Value->List Value->List Value} {gV:List V->List V->List V}
end
structure FnScope (N P:List Str) (sc:Scope):Prop where
 kind:sc.kind=.function
 co:sc.isCoroutine=false
 gen:sc.isGenerator=false
 nd:N.Nodup
 pre:N.take P.length=P
 par:∀ x∈P,sc.names.lookup x=some .local\/sc.names.lookup x=some .cell
 nofree:∀ y∈sc.names,y.2≠.free
theorem K1 {kindOf:Str->Option NameKind} {x:Str}:∀ {binds:List (Str×Value)} {m:Str->Option Value},(∀ v,(x,v)∉binds)->bindL kindOf binds m x=m x
 | [],_,_=>rfl
 | (n,v)::r,m,h=>by
  unfold bindL
  rw[K1 fun w hw=>h w (List.mem_cons_of_mem _ hw)]
  split
  ·have:x≠n:=by rintro rfl;exact h v List.mem_cons_self
   simp[this]
  ·rfl
theorem L9 {kindOf:Str->Option NameKind} {x:Str}:∀ {binds:List (Str×Value)} {m:Str->Option Value},(∀ v,(x,v)∉binds)->bindC kindOf binds m x=m x
 | [],_,_=>rfl
 | (n,v)::r,m,h=>by
  unfold bindC
  rw[L9 fun w hw=>h w (List.mem_cons_of_mem _ hw)]
  split
  ·rfl
  ·have:x≠n:=by rintro rfl;exact h v List.mem_cons_self
   simp[this]
theorem JK {kindOf:Str->Option NameKind} {x:Str} {v:Value}:∀ {P:List Str} {vs:List Value} {i:Nat} {m:Str->Option Value},P.Nodup->P[i]?=some x->vs[i]?=some v->kindOf x=some .local ->
  bindL kindOf (P.zip vs) m x=some v
 | [],_,_,_,_,h,_,_=>by simp at h
 | _::_,[],_,_,_,_,h,_=>by simp at h
 | p::P,w::vs,0,m,nd,h1,h2,hk=>by
  simp at h1 h2;subst h1;subst h2
  show bindL kindOf ((p,w)::P.zip vs) m p=_
  unfold bindL
  rw[K1 fun v hv=>(List.nodup_cons.mp nd).1 (List.of_mem_zip hv).1,if_pos hk]
  simp
 | p::P,w::vs,i+1,m,nd,h1,h2,hk=>by
  show bindL kindOf ((p,w)::P.zip vs) m x=_
  unfold bindL
  exact JK (i:=i) (List.nodup_cons.mp nd).2 (by simpa using h1) (by simpa using h2) hk
theorem Iu {kindOf:Str->Option NameKind} {x:Str} {v:Value}:∀ {P:List Str} {vs:List Value} {i:Nat} {m:Str->Option Value},P.Nodup->P[i]?=some x->vs[i]?=some v->kindOf x≠some .local ->
  bindC kindOf (P.zip vs) m x=some v
 | [],_,_,_,_,h,_,_=>by simp at h
 | _::_,[],_,_,_,_,h,_=>by simp at h
 | p::P,w::vs,0,m,nd,h1,h2,hk=>by
  simp at h1 h2;subst h1;subst h2
  show bindC kindOf ((p,w)::P.zip vs) m p=_
  unfold bindC
  rw[L9 fun v hv=>(List.nodup_cons.mp nd).1 (List.of_mem_zip hv).1,if_neg hk]
  simp
 | p::P,w::vs,i+1,m,nd,h1,h2,hk=>by
  show bindC kindOf ((p,w)::P.zip vs) m x=_
  unfold bindC
  exact Iu (i:=i) (List.nodup_cons.mp nd).2 (by simpa using h1) (by simpa using h2) hk
def start (N:List Str) (vs:List V):St:=vs.map some++List.replicate (N.length - vs.length) none
def Cc (CX:CXT) (P:Program) (w:World) (K:PySem.W.Frag) (mg:Str->Option Value) (base:Heap) (N:List Str) (qual:Str) (scope:Scope) (f:Addr) (cd:Value) (A:Around) (outer:List Env) (s:Shared) (H:Hp) (E:XK):Cx where
 prog:=P
 w:=w
 K:=K
 mg:=mg
 base:=base
 A:=A.deeper (envOfC qual scope s.heap.objs.size f cd)
 N:=N
 s₀:=s
 H₀:=H
 env:=envOfC qual scope s.heap.objs.size f cd
 outer:=outer
 stack:=envOfC qual scope s.heap.objs.size f cd::outer
 ex:=[]
 calm:=true
 fn:=fun _=>true
 pn:=[]
 xe:=fun e s'=>wpAny (model P w) (A.deeper (envOfC qual scope s.heap.objs.size f cd)) (leaving (envOfC qual scope s.heap.objs.size f cd) e) (fun _ s''=>CX outer H s E e s'') (fun e' s''=>CX outer H s E e' s'') s'
theorem MC {sc:Scope} {n:Nat} {x:Str} (h:sc.names.lookup x=some .cell):∃ c,(cellsFrom n sc.names []).lookup x=some c:=by
 have q:=PySem.W.cellsFrom_some sc.names n [] (.inl h)
 exact Option.isSome_iff_exists.mp q
theorem O8 {CX:CXT} {P:Program} {w:World} {K:PySem.W.Frag} {mg:Str->Option Value} {base:Heap} {N ps:List Str} {qual:Str} {scope:Scope} {f:Addr} {cd:Value} {A:Around} {outer:List Env} {s s1:Shared} {H:Hp} {E:XK} {us:List Value} {vs:List V}
  (S:FnScope N ps scope) (hd:A.handled=none) (e0:Env0 P w K mg base A outer s H) (hl:vs.length=ps.length) (r:Vals vs us)
  (x:InCallC s s.heap.objs.size (bindL (envOfC qual scope s.heap.objs.size f cd).kindOf (ps.zip us) fun _=>none) (cellsFrom (s.heap.objs.size+1) scope.names []) (bindC (envOfC qual scope s.heap.objs.size f cd).kindOf (ps.zip us) fun _=>none) s1) :
  Inv (Cc CX P w K mg base N qual scope f cd A outer s H E) [] (start N vs) H s1:=by
 have hpl:ps.length<=N.length:=by have:=congrArg List.length S.pre;rw[List.length_take] at this;lia
 obtain ⟨h1,tk,rfl,hk⟩:=x.done
 have noA:∀ b:Addr,b∉(Cc CX P w K mg base N qual scope f cd A outer s H E).ex:=fun b z=>absurd (show b∈([]:List Addr) from z) (by simp)
 refine ⟨⟨e0.mod,S.kind,rfl,rfl,Nat.le_refl _,fun y z c h1 h2=>?_,fun y hy=>?_,fun y c _ h=>?_,fun _=>hd,Around.frames_deeper e0.frames,.inr ⟨rfl,rfl⟩,fun b z=>absurd z (noA b),e0.bs,e0.bsz,fun b _ _=>noA b,fun b z=>absurd z (noA b),e0.funs,e0.frf⟩,
  rfl,e0.bare,Un.kept hk,⟨_,x.toInCall.ns,fun i y v h1 h2 h3=>?_⟩,fun y c h=>⟨_,x.cell y c h⟩,e0.hok.fresh (Nat.le_refl _),fun y c h=>?_,fun p hp=>absurd (show p∈([]:List (Addr×Obj)) from hp) (by simp),e0.hok.kept hk,?_⟩
 ·exact name_of_addr x.apart (PySem.mem_of_lookup h1) (PySem.mem_of_lookup h2)
 ·have hy:scope.names.lookup y=some .cell\/scope.names.lookup y=some .free:=hy
  rcases hy with hy | hy
  ·exact MC hy
  ·exact absurd rfl (S.nofree _ (PySem.mem_of_lookup hy))
 ·exact Nat.le_of_lt (x.above y c (PySem.mem_of_lookup h))
 ·have hi:i<vs.length:=by
   unfold start at h2
   by_cases hi:i<vs.length
   ·exact hi
   ·rw[List.getElem?_append_right (by simpa using hi)] at h2
    rw[List.getElem?_replicate] at h2
    split at h2<;>cases h2
  have ha:vs[i]?=some v:=by
   unfold start at h2
   rw[List.getElem?_append_left (by simpa using hi),List.getElem?_map] at h2
   cases e:vs[i]? with
   | none=>rw[e] at h2;cases h2
   | some a=>rw[e] at h2;cases h2;rfl
  obtain ⟨u,hu,rv⟩:=r.get ha
  have hp:ps[i]?=some y:=by
   rw[<-S.pre,List.getElem?_take_of_lt (by lia)];exact h1
  have ndP:ps.Nodup:=by rw[<-S.pre];exact S.nd.sublist (List.take_sublist _ _)
  refine ⟨u,rv,?_⟩
  rcases S.par y (List.mem_of_getElem? hp) with k | k
  ·exact .inl ⟨k,JK ndP hp hu k⟩
  ·obtain ⟨c,e⟩:=MC (n:=s.heap.objs.size+1) k
   refine .inr ⟨.inl k,c,e,?_⟩
   have q:=x.cell y c e
   rw[Iu ndP hp hu (by show scope.names.lookup y≠_;rw[k];decide)] at q
   exact q
 ·exact e0.hok.fresh (Nat.le_of_lt (x.above y c (PySem.mem_of_lookup h)))
 ·unfold start
  show _=N.length
  rw[List.length_append,List.length_map,List.length_replicate]
  lia
theorem MV {CX:CXT} {P:Program} {w:World} {K:PySem.W.Frag} {mg:Str->Option Value} {base:Heap} {k:Nat} {f:Addr} {name qual:Str} {params:Arguments} {body:List Stmt} {scope:Scope} {dV kV doc pm cdv ct oc:Value} {an od:Option Addr}
  {osl:Array (Option Value)} {N ps:List Str} {sp:Sp} (lk:K.lookup f=some ⟨oc,od,.func (PySem.W.fnOf name qual params body scope dV kV doc pm an cdv ct),osl⟩) (hcd:PySem.W.codeIn K cdv qual=true) (S:FnScope N ps scope)
  (len:∀ vs H Q E,sp vs H Q E->vs.length=ps.length)
  (hbody:∀ (A:Around) (outer:List Env) (s:Shared) (H:Hp) (vs:List V) (Q:VK) (E:XK),Room k (A.deeper (envOfC qual scope s.heap.objs.size f cdv))->sp vs H Q E ->
   ∃ t,PSs (Cc CX P w K mg base N qual scope f cdv A outer s H E) body t/\t {nx:=fun _ H'=>Q .non H',rt:=Q} (start N vs) H) :
  FnOk P w K mg base CX (k+1) f (PySem.W.fnOf name qual params body scope dV kV doc pm an cdv ct) ps sp:=by
 refine ⟨len,fun A outer s H args us vs Q E hr e0 hb r hsp=>?_⟩
 have hl:=len _ _ _ _ hsp
 have KX:K.In s.heap:=e0.mod.kin.keeps fun b o e=>(e0.bs b o e).1
 have lim:s.heap.NoLimit:=e0.mod.nolimit.keeps fun b o e=>(e0.bs b o e).1
 have hkind:∀ y∈ps.zip us,scope.names.lookup y.1=some .local\/(scope.names.lookup y.1=some .cell/\((cellsFrom (s.heap.objs.size+1) scope.names []).lookup y.1).isSome=true):=fun ⟨n,v⟩ hy=>by
  rcases S.par n (List.of_mem_zip hy).1 with q | q
  ·exact .inl q
  ·exact .inr ⟨q,PySem.W.cellsFrom_some _ _ _ (.inl q)⟩
 refine codeAny_call_function hr.depth (KX _ _ lk) rfl S.co S.gen rfl (PySem.W.codeRec_of KX hcd) (hb _ _ _ _ ?_)
 refine wpAny_newFunctionEnv_cells S.kind hkind fun env he s1 x=>?_
 subst he
 refine ⟨lim.keeps x.toInCall.keep,codeAny_func ?_⟩
 obtain ⟨t,ht,hq⟩:=hbody A outer s H vs Q E (hr.deeper _) hsp
 have I:Inv (Cc CX P w K mg base N qual scope f cdv A outer s H E) [] (start N vs) H s1:=O8 S hr.hd e0 hl r x
 refine wpAny_mono (ht [] s1 (start N vs) H _ I hq) (fun fl s' hs=>?_) fun e s' hs=>hs
 have fin:∀ {σ':St} {H':Hp} {v:V} {u:Value},Inv (Cc CX P w K mg base N qual scope f cdv A outer s H E) [] σ' H' s'->RelV v u->Q v H'->CE outer P w H s Q u s':=
  fun {σ' H' v u} J rv q=>⟨v,H',J.os,J.bare,J.base,J.hok,rv,q⟩
 cases fl with
 | ret u=>
  obtain ⟨v,σ',H',J,rv,q⟩:=hs
  exact fin J rv q
 | next=>
  obtain ⟨σ',H',J,q⟩:=hs
  exact fin (v:=V.non) (u:=Value.none) J rfl q
 | brk=>
  obtain ⟨_,_,_,q⟩:=hs
  exact False.elim q
 | cont=>
  obtain ⟨_,_,_,q⟩:=hs
  exact False.elim q
section
variable {X:Cx} {x:Str} {p pos:Pos} {e:Expr} {es:List Expr} {t:TA} {id T:String} {r:List V->Hp->VK->Prop}
def tCB (r:List V->Hp->VK->Prop) (t:TA):TE:=fun σ H Q=>t σ H fun vs H1=>r vs H1 Q
theorem DR (hc:CallR X (.builtin id) r) (hg:Gl X x) (hm:X.mg x=none) (hv:bootBuiltins x=some (.builtin id)) (ha:PA X (e::es) t) (hn:x≠"__name__":=by decide) (hdb:(x == ("__debug__":Str))=false:=by decide)
  (he:starEach (e::es) X.env=(false,eval e X.env)::starEach es X.env:=by rfl) (hpl:(backTo pos (starEach es X.env)).any (·.1)=false:=by rfl):PE X (.Call (.Name x p) (e::es) [] pos) (tCB r t):=by
 intro pins s σ H Q I h
 refine wpAny_Call_Name_kw (Ez I hg hm hv ?_ hn hdb)
 exact PyProof.Rows.callWith_builtin1 (thn (ha pos pins s σ H _ I h) fun us s1 ⟨vs,H1,I1,r1,q1⟩=>hc pins s1 σ H1 vs us Q I1 r1 q1) he hpl
theorem Tx (hc:CallR X (.type T) r) (hg:Gl X x) (hm:X.mg x=none) (hv:bootBuiltins x=some (.type T)) (ha:PA X (e::es) t) (hn:x≠"__name__":=by decide) (hdb:(x == ("__debug__":Str))=false:=by decide)
  (he:starEach (e::es) X.env=(false,eval e X.env)::starEach es X.env:=by rfl) (hpl:(backTo pos (starEach es X.env)).any (·.1)=false:=by rfl):PE X (.Call (.Name x p) (e::es) [] pos) (tCB r t):=by
 intro pins s σ H Q I h
 refine wpAny_Call_Name_kw (Ez I hg hm hv ?_ hn hdb)
 exact PyProof.Rows.callWith_type1 (thn (ha pos pins s σ H _ I h) fun us s1 ⟨vs,H1,I1,r1,q1⟩=>hc pins s1 σ H1 vs us Q I1 r1 q1) he hpl
end
end L2
namespace HT
open PySem PyProof.Rows
def lexLt:List Int->List Int->Bool
 | [],[]=>false
 | [],_::_=>true
 | _::_,[]=>false
 | x::xs,y::ys=>if x=y then lexLt xs ys else decide (x<y)
theorem Cf (x y:Int) (xs ys:List Int):lexLt (x::xs) (y::ys)=if x=y then lexLt xs ys else decide (x<y):=rfl
theorem IG:lexLt [] []=false:=rfl
theorem IJ (y:Int) (ys:List Int):lexLt [] (y::ys)=true:=rfl
theorem HH (x:Int) (xs:List Int):lexLt (x::xs) []=false:=rfl
theorem QO (A:Around) (s:Shared) (a:Int) (t:Tok) (c:Int) (u:Tok):∃ e,SeqAt.EqAt A s (.int a t) (.int c u) e/\(e=true↔a=c):=
 ⟨(a == c),SeqAt.EqAt.int_int a t c u,by simp⟩
theorem Pa (A:Around) (s:Shared) (a:Int) (t:Tok) (c:Int) (u:Tok) (prog:Program) (w:World) (E:Value->Shared->Prop) (Q:Value->Shared->Prop) (h:Q (.bool (decide (a<c))) s) :
  wpAny (model prog w) A (richCompare .Lt (.int a t) (.int c u)) Q E s:=
 (PyProof.Rows.lt_int h:wpAny (model prog w) A (compareOp .Lt (.int a t) (.int c u)) Q E s)
section
open PySem.SeqAt
open PySem.AutoSeq1 (wpAny_loadPart')
open PySem.MeetsSeq PySem.MeetsSeq2 PySem.MeetsSeq3
theorem NT (l b:Addr) (items items2:Array Value) (n n2:Nat) (dd dd2:Option Addr) (sl sl2:Array (Option Value)) (ns ms:List Int) (hi:IntsAre items.toList ns) (hj:IntsAre items2.toList ms) :
  Meets (Builtin.«tuple.__lt__» ⟨[.ref l,.ref b],[]⟩)
   (fun _ R s=>s.heap.get? l=some {cls:=.type "tuple",dict:=dd,data:=.seq items n,slots:=sl}/\s.heap.get? b=some {cls:=.type "tuple",dict:=dd2,data:=.seq items2 n2,slots:=sl2} /\
    R (.ok (.ret (.bool (lexLt ns ms)))) s):=
 .of_wp fun prog w A R s h=>by
  obtain ⟨hp,g,d,tk,os⟩:=s;obtain ⟨hl,hb,h⟩:=h
  have f2:=AutoSeq1.sub_tuple_tuple
  have z1:items.size=ns.length:=by rw[<-hi.length];simp
  have z2:items2.size=ms.length:=by rw[<-hj.length];simp
  wp_walk using wpAny_loadPart' hl,wpAny_loadPart' hb,wpAny_forIn_list _ (fun rest b s'=>b.1=none/\s'=⟨hp,g,d,tk,os⟩/\∃ (vs ws:List Value) (ns' ms':List Int),rest=vs.zip ws /\
   IntsAre vs ns'/\IntsAre ws ms'/\ns'.length+items2.size=ms'.length+items.size/\R (.ok (.ret (.bool (lexLt ns' ms')))) ⟨hp,g,d,tk,os⟩) _
  case turn=>
   rintro ⟨y,x⟩ rest b s' ⟨hb',rfl,vs,ws,ns',ms',hz,hvi,hwi,hlen,hR⟩
   cases hvi with
   | nil=>rw[List.zip_nil_left] at hz;cases hz
   | cons a t hvi'=>
    cases hwi with
    | nil=>rw[List.zip_nil_right] at hz;cases hz
    | cons c u hwi'=>
     rw[List.zip_cons_cons] at hz
     injection hz with hyx hrest
     injection hyx with hy hx
     subst hy hx
     rw[Cf] at hR
     simp only[List.length_cons] at hlen
     obtain ⟨e,he,hiff⟩:=QO A.in1 ⟨hp,g,d,tk,os⟩ a t c u
     refine wpAny_bind (he prog w _ _ ?_)
     cases e with
     | true=>
      rw[if_pos (hiff.mp rfl)] at hR
      wp_walk
      exact ⟨rfl,rfl,_,_,_,_,hrest,hvi',hwi',by lia,hR⟩
     | false=>
      rw[if_neg (fun q=>absurd (hiff.mpr q) Bool.false_ne_true)] at hR
      have hri:=Pa A.in1 ⟨hp,g,d,tk,os⟩ a t c u prog w
      wp_walk using hri
      exact ⟨_,rfl,by simpa using hR⟩
  case fin=>
   rintro ⟨b1,b2⟩ s' ⟨hb',rfl,vs,ws,ns',ms',hz,hvi,hwi,hlen,hR⟩
   simp only at hb'
   subst hb'
   have hv:lexLt ns' ms'=decide (items.size<items2.size):=by
    cases hvi with
    | nil=>
     cases hwi with
     | nil=>
      simp only[List.length_nil] at hlen
      rw[IG]
      exact (decide_eq_false (by lia)).symm
     | cons c u hw=>
      simp only[List.length_nil,List.length_cons] at hlen
      rw[IJ]
      exact (decide_eq_true (by lia)).symm
    | cons a t hv=>
     cases hwi with
     | nil=>
      simp only[List.length_nil,List.length_cons] at hlen
      rw[HH]
      exact (decide_eq_false (by lia)).symm
     | cons c u hw=>
      rw[List.zip_cons_cons] at hz
      cases hz
   rw[hv] at hR
   wp_walk
   exact ⟨_,rfl,by simpa [Builtin.Tuple.tupleCompareSizes] using hR⟩
  case h=>
   exact ⟨rfl,rfl,items.toList,items2.toList,ns,ms,rfl,hi,hj,by lia,h⟩
end
section
variable {prog:Program} {w:World} {A:Around} {E:Value->Shared->Prop} {s:Shared}
theorem PP {l b:Addr} {items items2:Array Value} {ns ms:List Int} {Q:Value->Shared->Prop} (hl:IsTup s.heap l items) (hb:IsTup s.heap b items2) (hi:IntsAre items.toList ns) (hj:IntsAre items2.toList ms)
  (hu:A.units<cLine) (h:Q (.bool (lexLt ns ms)) s):wpAny (model prog w) A (compareOp .Lt (.ref l) (.ref b)) Q E s:=by
 obtain ⟨⟨cls,dd,data,sl⟩,ho,hc,n,hd⟩:=id hl
 obtain ⟨⟨cls2,dd2,data2,sl2⟩,ho2,hc2,n2,hd2⟩:=id hb
 simp only at hc hd hc2 hd2
 subst hc hd hc2 hd2
 exact richCompare_meets_room (op:=.Lt) ⟨_,ho,rfl⟩ ⟨_,ho2,rfl⟩ PySem.F.slot_tuple_lt PySem.F.entry_tuple_lt (PySem.F.args_tuple_lt_2 _ _) (NT l b items items2 n n2 dd dd2 sl sl2 ns ms hi hj)
  ⟨ho,ho2,show Value.bool (lexLt ns ms)≠Value.notImplemented/\Q (.bool (lexLt ns ms)) s from ⟨(fun x=>nomatch x),h⟩⟩ hu
def sIx (n d:Nat):Option Int->Nat
 | none=>d
 | some v=>if v<0 then (v+(n:Int)).toNat else min v.toNat n
theorem O6 (n d:Nat):sIx n d none=d:=rfl
theorem T2 (n d k:Nat):sIx n d (some (k:Int))=min k n:=by
 show (if (k:Int)<0 then ((k:Int)+(n:Int)).toNat else min (k:Int).toNat n)=min k n
 rw[if_neg (by lia),Int.toNat_natCast]
end
end HT
namespace L2
open PySem PySem.Spec PyProof.Rows
abbrev TO:=St->Hp->(Option Int->Hp->Prop)->Prop
def PO (X:Cx) (e:Option Expr) (t:TO):Prop:=
 ∀ (pins:List (Addr×Obj)) (s:Shared) (σ:St) (H:Hp) (Q:Option Int->Hp->Prop),Inv X pins σ H s->t σ H Q ->
  wpAny (model X.prog X.w) X.A (evalPart e X.env) (fun u s'=>∃ o H',Inv X pins σ H' s'/\IsPart u o/\Q o H') X.xe s
def O0:TO:=fun _ H Q=>Q none H
def Qb (t:TE):TO:=fun σ H Q=>t σ H fun x H1=>∃ i,x=.int i/\Q (some i) H1
theorem intsAre_of {ns:List Int}:∀ {us:List Value},Vals (ns.map V.int) us->IntsAre us ns:=by
 induction ns with
 | nil=>intro us r;rw[List.map_nil] at r;cases r;exact .nil
 | cons n ns ih=>
  intro us r
  rw[List.map_cons] at r
  cases r with
  | cons r1 r2=>
   obtain ⟨t,e⟩:=r1
   subst e
   exact .cons n t (ih r2)
section
variable {X:Cx} {e:Expr} {te:TE} {lo hi:Option Expr} {tl th:TO} {pos p2:Pos}
theorem R3:PO X none O0:=by
 intro pins s σ H Q I h
 rw[evalPart_none]
 exact wpAny_pure ⟨none,H,I,.none,h⟩
theorem UE (h:PE X e te):PO X (some e) (Qb te):=by
 intro pins s σ H Q I hw
 rw[evalPart_some]
 refine thn (h pins s σ H _ I hw) fun u s1 hh_=>?_
 obtain ⟨x,H1,I1,r1,q1⟩:=hh_
 obtain ⟨i,rfl,q⟩:=q1
 obtain ⟨t,rfl⟩:=r1
 exact ⟨some i,H1,I1,.int i t,q⟩
def SlR (X:Cx) (r:V->Option Int->Option Int->Hp->VK->Prop):Prop:=
 ∀ (pins:List (Addr×Obj)) (s:Shared) (σ:St) (H:Hp) (x:V) (v vl vu:Value) (lo hi:Option Int) (sl:Addr) (Q:VK),Inv X pins σ H s->RelV x v->s.heap.IsSliceOf sl vl vu .none->IsPart vl lo->IsPart vu hi->r x lo hi H Q ->
  ∃ T id,typeLookup (.type T) "__getitem__"=pure (some (.builtin id))/\s.TypeIs v T/\wpAny (model X.prog X.w) X.A (getItem v (.ref sl)) (EP X pins σ Q) X.xe s
theorem SlR.or {r r':V->Option Int->Option Int->Hp->VK->Prop} (h:SlR X r) (h':SlR X r'):SlR X (fun x lo hi H Q=>r x lo hi H Q\/r' x lo hi H Q):=by
 intro pins s σ H x v vl vu lo hi sl Q I rx hs pl pu q
 rcases q with q | q
 ·exact h pins s σ H x v vl vu lo hi sl Q I rx hs pl pu q
 ·exact h' pins s σ H x v vl vu lo hi sl Q I rx hs pl pu q
def tSl (r:V->Option Int->Option Int->Hp->VK->Prop) (te:TE) (tl th:TO):TE:=fun σ H Q=>te σ H fun x H1=>tl σ H1 fun l H2=>th σ H2 fun u H3=>r x l u H3 Q
theorem ON {r:V->Option Int->Option Int->Hp->VK->Prop} (hr:SlR X r) (he:PE X e te) (hl:PO X lo tl) (hu:PO X hi th):PE X (.Subscript e (.Slice lo hi none p2) pos) (tSl r te tl th):=by
 intro pins s σ H Q I h
 refine Subscript_ (thn (he pins s σ H _ I h) fun v s1 hh_=>?_)
 obtain ⟨x,H1,I1,r1,q1⟩:=hh_
 refine wpAny_Slice (thn (hl pins s1 σ H1 _ I1 q1) fun vl s2 ⟨l,H2,I2,pl,q2⟩=>thn (hu pins s2 σ H2 _ I2 q2) fun vu s3 hh_=>?_)
 obtain ⟨u,H3,I3,pu,q3⟩:=hh_
 rw[evalPart_none]
 refine wpAny_pure ?_
 have I4:Inv X pins σ H3 {s3 with heap:=s3.heap.push {cls:=.type "slice",data:=.fields #[vl,vu,.none]}}:=I3.kept (t':=s3.toks) fun b ob q=>Heap.get?_push_of_some _ q
 obtain ⟨T,id,hT,ht,hg⟩:=hr pins {s3 with heap:=s3.heap.push {cls:=.type "slice",data:=.fields #[vl,vu,.none]}} σ H3 x v vl vu l u s3.heap.objs.size Q I4 r1 (Heap.IsSliceOf.new ..) pl pu q3
 show wpAny (model X.prog X.w) X.A (subscriptTail e (.Slice lo hi none p2) v (.ref s3.heap.objs.size)) (EP X pins σ Q) X.xe {s3 with heap:=s3.heap.push {cls:=.type "slice",data:=.fields #[vl,vu,.none]}}
 exact tail_any (ops:=[.ref s3.heap.objs.size,v]) ht hT hg (by with_unfolding_all rfl)
def D8 (xs:List V) (lo hi:Option Int):List V:=(xs.drop (HT.sIx xs.length 0 lo)).take (HT.sIx xs.length xs.length hi - HT.sIx xs.length 0 lo)
theorem Np (xs:List V) (lo hi:Option Int):(D8 xs lo hi).length<=xs.length:=by
 unfold D8
 rw[List.length_take,List.length_drop]
 lia
def KI (K:PySem.W.Frag):R2:=fun x y H Q=>∃ a b ns ms,x=.ref a/\y=.ref b/\SqT K H a (ns.map V.int)/\SqT K H b (ms.map V.int)/\Q (.bl (HT.lexLt ns ms)) H
theorem Ra (hu:X.A.units<cLine):OpR X (compareOp .Lt) (KI X.K):=by
 intro pins s σ H x y v u Q I rx ry h
 obtain ⟨a,b,ns,ms,rfl,rfl,ha,hb,q⟩:=h
 cases rx
 cases ry
 obtain ⟨its,r1,p1,_⟩:=I.tuple ha
 obtain ⟨its2,r2,p2,_⟩:=I.tuple hb
 have i1:IntsAre its.toArray.toList ns:=intsAre_of r1
 have i2:IntsAre its2.toArray.toList ms:=intsAre_of r2
 exact HT.PP p1 p2 i1 i2 hu ⟨.bl (HT.lexLt ns ms),H,I,rfl,q⟩
end
def ixN (n:Nat) (i:Int):Option Nat:=if 0<=i then (if i<n then some i.toNat else none) else if -(n:Int)<=i then some (i+n).toNat else none
def atI {α:Type} (xs:List α) (i:Int):Option α:=(ixN xs.length i).bind fun j=>xs[j]?
theorem OT {n:Nat} {i:Int} {j:Nat} (h:ixN n i=some j):seqIndex? i n=some j/\j<n/\-(n:Int)<=i/\i<n:=by
 unfold ixN at h
 by_cases h0:0<=i
 ·rw[if_pos h0] at h
  by_cases h1:i<n
  ·rw[if_pos h1] at h
   have e:i.toNat=j:=Option.some.inj h
   exact ⟨by rw[seqIndex_of h0 h1,e],by lia,by lia,h1⟩
  ·rw[if_neg h1] at h;cases h
 ·rw[if_neg h0] at h
  by_cases h1:-(n:Int)<=i
  ·rw[if_pos h1] at h
   have e:(i+n).toNat=j:=Option.some.inj h
   exact ⟨by rw[seqIndex_neg (by lia) h1,e],by lia,h1,by lia⟩
  ·rw[if_neg h1] at h;cases h
theorem Gq {α:Type} {xs:List α} {i:Int} {v:α} (h:atI xs i=some v):∃ j,seqIndex? i xs.length=some j/\xs[j]?=some v/\j<xs.length/\-(xs.length:Int)<=i/\i<xs.length:=by
 unfold atI at h
 cases e:ixN xs.length i with
 | none=>rw[e] at h;cases h
 | some j=>
  rw[e] at h
  obtain ⟨h1,h2,h3,h4⟩:=OT e
  exact ⟨j,h1,h,h2,h3,h4⟩
theorem IK {α:Type} {xs:List α} {j:Nat} {v:α} (h:xs[j]?=some v):atI xs (j:Int)=some v:=by
 have hj:j<xs.length:=(List.getElem?_eq_some_iff.mp h).1
 have e:ixN xs.length (j:Int)=some j:=by
  unfold ixN
  rw[if_pos (by lia),if_pos (by lia)];simp
 unfold atI;rw[e];exact h
def Ib (b:Expr):Prop:=∀ o i,subscripted b false o i=operate [o,i] (getItem o i)
def IxR (X:Cx) (r:R2):Prop:=
 ∀ (value slice:Expr) (pins:List (Addr×Obj)) (s:Shared) (σ:St) (H:Hp) (x y:V) (v u:Value) (Q:VK),Inv X pins σ H s->RelV x v->RelV y u->r x y H Q ->
  subscripted slice false v u=operate [v,u] (getItem v u)->wpAny (model X.prog X.w) X.A (subscriptTail value slice v u) (EP X pins σ Q) X.xe s
def MtR (X:Cx) (id:String) (r:V->List V->Hp->VK->Prop):Prop:=
 ∀ (pins:List (Addr×Obj)) (s:Shared) (σ:St) (H:Hp) (x:V) (xs:List V) (v:Value) (us:List Value) (Q:VK),Inv X pins σ H s->RelV x v->Vals xs us->r x xs H Q ->
  wpAny (model X.prog X.w) X.A (call (.builtin id) (v::us)) (EP X pins σ Q) X.xe s
section
variable {X:Cx} {a b:Expr} {ta tb:TE} {pos:Pos}
theorem IxR.or {r r':R2} (h:IxR X r) (h':IxR X r'):IxR X (fun x y H Q=>r x y H Q\/r' x y H Q):=by
 intro value slice pins s σ H x y v u Q I rx ry q hs
 rcases q with q | q
 ·exact h value slice pins s σ H x y v u Q I rx ry q hs
 ·exact h' value slice pins s σ H x y v u Q I rx ry q hs
theorem Nr {r:R2} (hr:IxR X r) (ha:PE X a ta) (hb:PE X b tb) (hs:Ib b):PE X (.Subscript a b pos) (tOp r ta tb):=by
 intro pins s σ H Q I h
 exact Subscript_ (Gr ha hb I h fun v u s2 x y H2 I2 rx ry q=>hr a b pins s2 σ H2 x y v u Q I2 rx ry q (hs _ _))
def LD (K:PySem.W.Frag):R2:=fun x y H Q=>∃ p xs i v,x=.ref p/\y=.int i/\SqL K H p xs/\atI xs i=some v/\Q v H
def Lb (K:PySem.W.Frag):R2:=fun x y H Q=>∃ p xs i v,x=.ref p/\y=.int i/\SqT K H p xs/\atI xs i=some v/\Q v H
def Kp:R2:=fun x y H Q=>∃ z i c,x=.str z/\y=.int i/\z.length<=sizeLine/\atI z.cps.toList i=some c/\Q (.str ⟨#[c]⟩) H
theorem ix_list:IxR X (LD X.K):=by
 intro value slice pins s σ H x y v u Q I rx ry h hs
 obtain ⟨p,xs,i,z,rfl,rfl,hq,he,q⟩:=h
 cases rx
 obtain ⟨t,rfl⟩:=ry
 obtain ⟨its,r,pl,hz⟩:=I.list hq
 obtain ⟨j,h1,h2,h3,h4,h5⟩:=Gq he
 obtain ⟨w,ew,rw'⟩:=r.get h2
 have hl:=r.length
 have hn:=Ex
 have fin:EP X pins σ Q w s:=⟨z,H,I,rw',q⟩
 by_cases h0:0<=i
 ·have hj:i.toNat=j:=by
   rw[seqIndex_of h0 h5] at h1
   exact Option.some.inj h1
  exact item_listR pl.isList h0 (by lia) (by rw[hj];simpa using ew) fin hs
 ·have hj:(i+(its.toArray.size:Int)).toNat=j:=by
   rw[seqIndex_neg (by lia) h4] at h1
   rw[List.size_toArray,<-hl]
   exact Option.some.inj h1
  exact subscriptTail_builtinR (x:=w) pl.isList.typeIs slot_list_getitem.lookup
   (wpAny_getItem_list_neg (Q:=fun r s'=>r=w/\EP X pins σ Q r s') pl.isList (by lia) (by rw[List.size_toArray]<;>lia) (by lia) (by rw[hj];simpa using ew) ⟨rfl,fin⟩) hs
theorem ix_tup:IxR X (Lb X.K):=by
 intro value slice pins s σ H x y v u Q I rx ry h hs
 obtain ⟨p,xs,i,z,rfl,rfl,hq,he,q⟩:=h
 cases rx
 obtain ⟨t,rfl⟩:=ry
 obtain ⟨its,r,pl,hz⟩:=I.tuple hq
 obtain ⟨j,h1,h2,h3,h4,h5⟩:=Gq he
 obtain ⟨w,ew,rw'⟩:=r.get h2
 have hl:=r.length
 have hn:=Ex
 have fin:EP X pins σ Q w s:=⟨z,H,I,rw',q⟩
 exact subscriptTail_builtinR (x:=w) pl.typeIs slot_tuple_getitem.lookup
  (getItem_tuple (j:=j) (Q:=fun r s'=>r=w/\EP X pins σ Q r s') pl (by lia) (by lia) (by rw[List.size_toArray,<-hl];exact h1) (by simpa using ew) ⟨rfl,fin⟩) hs
theorem S5:IxR X Kp:=by
 intro value slice pins s σ H x y v u Q I rx ry h hs
 obtain ⟨z,i,c,rfl,rfl,hz,he,q⟩:=h
 obtain ⟨t,rfl⟩:=rx
 obtain ⟨t',rfl⟩:=ry
 obtain ⟨j,h1,h2,h3,h4,h5⟩:=Gq he
 have hl:z.cps.toList.length=z.length:=by simp[Str.length]
 rw[hl] at h1 h4 h5
 have hn:=Ex
 exact tail_any (typeIs_str s z t) slot_str_getitem.lookup (getItem_str (c:=c) (by
  have e1:decide (i < -(2 ^ 63:Int))=false:=decide_eq_false (by lia)
  have e2:decide (i>=2 ^ 63)=false:=decide_eq_false (by lia)
  rw[e1,e2,Bool.or_false]) (by rw[h1];simpa using h2) ⟨.str ⟨#[c]⟩,H,I.tok _,⟨_,rfl⟩,q⟩) hs
def rIx (K:PySem.W.Frag):R2:=fun x y H Q=>LD K x y H Q\/Lb K x y H Q\/Kp x y H Q
theorem Oj:IxR X (rIx X.K):=ix_list.or (ix_tup.or S5)
theorem Pn (lo hi:Option Int) (n:Nat):(sliceBounds lo hi none n).1=((HT.sIx n 0 lo:Nat):Int)/\(sliceBounds lo hi none n).2.1=((HT.sIx n n hi:Nat):Int)/\(sliceBounds lo hi none n).2.2=1:=by
 refine ⟨?_,?_,rfl⟩
 ·cases lo with
  | none=>simp[sliceBounds,HT.sIx]
  | some i=>
   simp only[sliceBounds,HT.sIx,Option.getD_none,show (1:Int) > 0 by decide,if_true]
   by_cases h:i<0
   ·simp only[h,if_true]<;>lia
   ·simp only[h,if_false]<;>lia
 ·cases hi with
  | none=>simp[sliceBounds,HT.sIx]
  | some i=>
   simp only[sliceBounds,HT.sIx,Option.getD_none,show (1:Int) > 0 by decide,if_true]
   by_cases h:i<0
   ·simp only[h,if_true]<;>lia
   ·simp only[h,if_false]<;>lia
theorem Rf (its:List Value) (lo hi:Option Int):slicePick its.toArray lo hi none=((its.drop (HT.sIx its.length 0 lo)).take (HT.sIx its.length its.length hi - HT.sIx its.length 0 lo)).toArray:=by
 obtain ⟨h1,h2,h3⟩:=Pn lo hi its.toArray.size
 unfold slicePick
 rw[h1,h2,h3]
 simp only[sliceRange_one,pick_run,List.size_toArray]<;>rfl
def TN (K:PySem.W.Frag):V->Option Int->Option Int->Hp->VK->Prop:=fun x lo hi H Q=>∃ a xs,x=.ref a/\SqL K H a xs/\∀ p,H p=none->Q (.ref p) (upd H p (.lst (D8 xs lo hi)))
theorem sl_list:SlR X (TN X.K):=by
 intro pins s σ H x v vl vu lo hi sl Q I rx hs pl pu h
 obtain ⟨a,xs,rfl,hx,q⟩:=h
 cases rx
 obtain ⟨its,r,ht,hz⟩:=I.list hx
 have hlen:=r.length
 refine ⟨"list",_,slot_list_getitem.lookup,ht.isList.typeIs,?_⟩
 refine wpAny_getItem_list_slice ht.isList hs pl pu .none (by simp) ?_ (by rw[List.size_toArray]<;>lia)
 rw[Rf,<-hlen]
 refine ⟨.ref s.heap.objs.size,_,I.laid (t':=s.toks) (o:=.lst (D8 xs lo hi)) (fun b ob q=>Heap.get?_push_of_some _ q) (Nat.le_refl _) ?_,rfl,q _ (I.hok.fresh (Nat.le_refl _))⟩
 exact ⟨Nat.le_trans (Np xs lo hi) hz,_,0,(r.drop (HT.sIx xs.length 0 lo)).take (HT.sIx xs.length xs.length hi - HT.sIx xs.length 0 lo),Heap.get?_push_size _ rfl⟩
theorem CallR.or {f:Value} {r r':List V->Hp->VK->Prop} (h:CallR X f r) (h':CallR X f r'):CallR X f (fun xs H Q=>r xs H Q\/r' xs H Q):=by
 intro pins s σ H xs us Q I rs q
 rcases q with q | q
 ·exact h pins s σ H xs us Q I rs q
 ·exact h' pins s σ H xs us Q I rs q
theorem PC:CallR X (.type "list") (fun xs H Q=>∃ p ys,xs=[.ref p]/\(SqL X.K H p ys\/SqT X.K H p ys)/\∀ l,H l=none->Q (.ref l) (upd H l (.lst ys))):=by
 intro pins s σ H xs us Q I r h
 obtain ⟨p,ys,rfl,hq,q⟩:=h
 obtain ⟨u,rfl,rx⟩:=vals1 r
 cases rx
 have fin:∀ (its:List Value),Vals ys its->ys.length<=sizeLine->∀ (h':Heap) (c':Nat),(∀ b o',s.heap.get? b=some o'->h'.get? b=some o') ->
   h'.get? s.heap.objs.size=some {cls:=.type "list",dict:=none,data:=.seq its.toArray c',slots:=#[]}->EP X pins σ Q (.ref s.heap.objs.size) {s with heap:=h'}:=fun its r' hz h' c' kp e=>
  ⟨.ref s.heap.objs.size,_,I.laid (t':=s.toks) kp (Nat.le_refl _) (show ObjOk X.prog X.w _ h' _ (.lst ys) from ⟨hz,its,c',r',e⟩),rfl,q _ (I.hok.fresh (Nat.le_refl _))⟩
 rcases hq with hq | hq
 ·obtain ⟨its,r',pl,hz⟩:=I.list hq
  have hlen:=r'.length
  obtain ⟨o,ho,hc,n,hd⟩:=pl.isList
  exact call_list_seq p (.inl rfl) ho hc hd (fun h' c' kp e=>fin its r' hz h' c' kp e) (by simp only[List.size_toArray]<;>lia)
 ·obtain ⟨its,r',pl,hz⟩:=I.tuple hq
  have hlen:=r'.length
  obtain ⟨o,ho,hc,n,hd⟩:=pl
  exact call_list_seq p (.inr rfl) ho hc hd (fun h' c' kp e=>fin its r' hz h' c' kp e) (by simp only[List.size_toArray]<;>lia)
def tyV (K:PySem.W.Frag) (T:String) (x:V) (H:Hp):Prop:=match x with
 | .str _=>T="str"
 | .int _=>T="int"
 | .ref p=>(T="list"/\∃ xs,SqL K H p xs)\/(T="tuple"/\∃ o,K.lookup p=some o/\o.cls=.type "tuple"/\o.dict=none) \/
   (T="dict"/\((∃ kvs,H p=some (.dK kvs))\/∃ kvs,H p=some (.dT kvs)))\/(T="set"/\∃ S n,H p=some (.set S n))
 | _=>False
theorem K2 {pins:List (Addr×Obj)} {σ:St} {H:Hp} {s:Shared} {T:String} {x:V} {v:Value} (I:Inv X pins σ H s) (r:RelV x v) (ty:tyV X.K T x H) :
  s.TypeIs v T/\∀ a,v=.ref a->∃ ob,s.heap.get? a=some ob/\ob.dict=none:=by
 cases x with
 | str z=>
  obtain ⟨t,rfl⟩:=r
  cases (show T="str" from ty)
  exact ⟨typeIs_str s z t,fun _ e=>nomatch e⟩
 | int i=>
  obtain ⟨t,rfl⟩:=r
  cases (show T="int" from ty)
  exact ⟨typeIs_int s i t,fun _ e=>nomatch e⟩
 | ref p=>
  cases r
  rcases ty with ⟨rfl,xs,hq⟩ | ⟨rfl,o,hk,hc,hd⟩ | ⟨rfl,hk⟩ | ⟨rfl,S,n,hk⟩
  ·obtain ⟨its,_,pl,_⟩:=I.list hq
   refine ⟨pl.isList.typeIs,fun a e=>?_⟩
   cases e
   obtain ⟨o,n,e,c,hd,_⟩:=pl
   exact ⟨o,e,hd⟩
  ·refine ⟨⟨o,I.kIn p o hk,hc⟩,fun a e=>?_⟩
   cases e
   exact ⟨o,I.kIn _ o hk,hd⟩
  ·have z:∃ o,s.heap.get? p=some o/\o.ExactDict:=by
    rcases hk with ⟨kvs,hk⟩ | ⟨kvs,hk⟩
    ·obtain ⟨_,_,_,_,o,_,_,e,ex,_⟩:=I.hok p _ hk
     exact ⟨o,e,ex⟩
    ·obtain ⟨_,_,_,_,o,_,_,e,ex,_⟩:=I.hok p _ hk
     exact ⟨o,e,ex⟩
   obtain ⟨o,e,ex⟩:=z
   refine ⟨⟨o,e,ex.1⟩,fun a e2=>?_⟩
   cases e2
   exact ⟨o,e,ex.2.1⟩
  ·obtain ⟨o,_,_,_,e,ex,_⟩:=I.hok p _ hk
   refine ⟨⟨o,e,ex.1⟩,fun a e2=>?_⟩
   cases e2
   exact ⟨o,e,ex.2.1⟩
 | _=>exact False.elim ty
def SX (K:PySem.W.Frag) (T:String) (r:V->List V->Hp->VK->Prop) (to:TE):TE:=fun σ H Q=>to σ H fun x H1=>tyV K T x H1/\r x [] H1 Q
def tBM (K:PySem.W.Frag) (T:String) (r:V->List V->Hp->VK->Prop) (to:TE) (t:TA):TE:=fun σ H Q=>to σ H fun x H1=>tyV K T x H1/\t σ H1 fun xs H2=>r x xs H2 Q
variable {o e:Expr} {es:List Expr} {to:TE} {t:TA} {name:Str} {apos cpos:Pos} {T id:String} {r:V->List V->Hp->VK->Prop}
theorem PV (pa:PlainAttrs T) (slot:Slot T name id) (hty:typeOf (.builtin id)=pure (.type "method_descriptor")) (hm:MtR X id r) (ho:PE X o to)
  (hbase:attributeBase o name X.env (eval o X.env)=eval o X.env:=by rfl) (hline:(apos.endLine == cpos.line)=true:=by rfl):PE X (.Call (.Attribute o name apos) [] [] cpos) (SX X.K T r to):=by
 intro pins s σ H Q I h
 refine wpAny_Call_method0_late hbase hline (thn (ho pins s σ H _ I h) fun v s1 hh_=>?_)
 obtain ⟨x,H1,I1,r1,ty,q1⟩:=hh_
 obtain ⟨h1,h2⟩:=K2 I1 r1 ty
 exact ⟨T,id,pa,slot,hty,h1,h2,Calls.callWith_builtin rfl (PySem.evalArgs_none (hm pins s1 σ H1 x [] v [] Q I1 r1 .nil q1))⟩
theorem SZ (pa:PlainAttrs T) (slot:Slot T name id) (hty:typeOf (.builtin id)=pure (.type "method_descriptor")) (hm:MtR X id r) (ho:PE X o to) (ha:PA X (e::es) t)
  (hbase:attributeBase o name X.env (eval o X.env)=eval o X.env:=by rfl)
  (hfew:((backTo cpos (starEach (e::es) X.env)).all (fun x=>!x.1) && (backToKw cpos (keywordEach [] X.env)).all (fun x=>x.1.isSome)
   && decide ((e::es).length+([]:List Keyword).length+(if ([]:List Keyword).isEmpty then 0 else 1)<30))=true:=by rfl)
  (hline:(apos.endLine == cpos.line)=true:=by rfl) (hs:starEach (e::es) X.env=(false,eval e X.env)::starEach es X.env:=by rfl) (hplain:(backTo cpos (starEach es X.env)).any (·.1)=false:=by rfl) :
  PE X (.Call (.Attribute o name apos) (e::es) [] cpos) (tBM X.K T r to t):=by
 intro pins s σ H Q I h
 refine wpAny_Call_method_late hbase hfew hline rfl (thn (ho pins s σ H _ I h) fun v s1 hh_=>?_)
 obtain ⟨x,H1,I1,r1,ty,q1⟩:=hh_
 obtain ⟨h1,h2⟩:=K2 I1 r1 ty
 refine ⟨T,id,pa,slot,hty,h1,h2,?_⟩
 have hA:=ha cpos pins s1 σ H1 _ I1 q1
 rw[hs] at hA ⊢
 refine Calls.callWith_builtin (by show (false || (backTo cpos (starEach es X.env)).any (·.1))=false;rw[hplain]<;>rfl) (Calls.evalArgs_plain ?_)
 exact thn hA fun us s2 ⟨vs,H2,I2,r2,q2⟩=>hm pins s2 σ H2 x vs v us Q I2 r1 r2 q2
end
def MtM (X:Cx) (id:String) (r:V->List V->Hp->VK->Prop):Prop:=
 ∀ (pins:List (Addr×Obj)) (s:Shared) (σ:St) (H:Hp) (x:V) (xs:List V) (v:Value) (us:List Value) (Q:VK),Inv X pins σ H s->RelV x v->Vals xs us->r x xs H Q ->
  wpAny (model X.prog X.w) X.A (call (.builtin id) (v::us)) (EP X pins σ Q) X.xe s
theorem Vals.one:∀ {x:V} {us:List Value},Vals [x] us->∃ u,us=[u]/\RelV x u
 | _,_,.cons r .nil=>⟨_,rfl,r⟩
theorem Vals.zero:∀ {us:List Value},Vals [] us->us=[]
 | _,.nil=>rfl
theorem Vals.dropLast {xs:List V} {us:List Value} (h:Vals xs us):Vals xs.dropLast us.dropLast:=by
 induction h with
 | nil=>exact .nil
 | cons r t ih=>
  cases t with
  | nil=>exact .nil
  | cons q t'=>exact .cons r ih
theorem Vals.reverse {xs:List V} {us:List Value} (h:Vals xs us):Vals xs.reverse us.reverse:=by
 induction h with
 | nil=>exact .nil
 | cons r t ih=>rw[List.reverse_cons,List.reverse_cons];exact Vals.append ih (.cons r .nil)
theorem Sa {α:Type} (l:List α):l.eraseIdx (l.length - 1)=l.dropLast:=by
 induction l with
 | nil=>rfl
 | cons a r ih=>
  cases r with
  | nil=>rfl
  | cons b r=>
   have e:(a::b::r).length - 1=((b::r).length - 1)+1:=by
    have h1:(a::b::r).length=r.length+2:=rfl
    have h2:(b::r).length=r.length+1:=rfl
    lia
   rw[e,List.eraseIdx_cons_succ,ih]
   all_goals rfl
section
variable {X:Cx} {pins:List (Addr×Obj)} {σ:St} {H:Hp} {s:Shared} {l b:Addr} {xs ys zs:List V}
theorem Inv.lset {its its':List Value} {n:Nat} {f:Array Value->Array Value} {t':Nat} (I:Inv X pins σ H s) (hH:H l=some (.lst xs))
  (e:s.heap.get? l=some {cls:=.type "list",data:=.seq its.toArray n}) (hf:f its.toArray=its'.toArray) (hv:Vals ys its') (hz:ys.length<=sizeLine) :
  Inv X pins σ (upd H l (.lst ys)) {s with heap:=s.heap.update l (Obj.mapSeq f),toks:=t'}:=by
 have q:=PySem.IsL.update e f
 rw[hf] at q
 refine I.write (x:=l) (e:=l) (by rw[hH];exact trivial) (.inl rfl) (fun b' u hb hu=>(Heap.get?_update_other s.heap (Obj.mapSeq f) (Ne.symm hb)).trans hu) ⟨_,q⟩ ?_
 exact ⟨hz,its',_,hv,q⟩
theorem Inv.lnew {its:List Value} {t':Nat} (I:Inv X pins σ H s) (hv:Vals ys its) (hz:ys.length<=sizeLine) :
  Inv X pins σ (upd H s.heap.objs.size (.lst ys)) {s with heap:=s.heap.push {cls:=.type "list",data:=.seq its.toArray},toks:=t'}:=
 I.laid (fun _ _ q=>Heap.get?_push_of_some _ q) (Nat.le_refl _) ⟨hz,its,0,hv,Heap.get?_push_size _ rfl⟩
theorem Inv.fresh (I:Inv X pins σ H s):H s.heap.objs.size=none:=I.hok.fresh (Nat.le_refl _)
theorem Inv.lstM (I:Inv X pins σ H s) (hH:H l=some (.lst xs)):xs.length<=sizeLine/\∃ (its:List Value) (n:Nat),Vals xs its/\xs.length=its.length/\s.heap.get? l=some {cls:=.type "list",data:=.seq its.toArray n}:=by
 obtain ⟨z,its,n,r,e⟩:=I.hok l _ hH
 exact ⟨z,its,n,r,r.length,e⟩
end
section
variable {X:Cx}
def Iq:V->List V->Hp->VK->Prop:=fun x vs H Q=>∃ l xs y,x=.ref l/\vs=[y]/\H l=some (.lst xs)/\xs.length<sizeLine/\Q .non (upd H l (.lst (xs++[y])))
theorem JW:MtM X "list.append" Iq:=by
 intro pins s σ H x vs v us Q I rx rv h
 obtain ⟨l,xs,y,rfl,rfl,hH,hz,q⟩:=h
 cases rx
 obtain ⟨u,rfl,ru⟩:=rv.one
 obtain ⟨z,its,n,r,hl,e⟩:=I.lstM hH
 refine call_meets F.slot_list_append ⟨_,e,rfl⟩ F.entry_list_append (F.args_list_append_2 _ _) (PySem.list_append l its.toArray n u (by rw[List.size_toArray];lia)) ⟨e,?_⟩
 refine ⟨.non,_,I.lset (its':=its++[u]) hH e (by simp) (r.append (.cons ru .nil)) ?_,rfl,q⟩
 rw[List.length_append,List.length_singleton]
 lia
def Oi:V->List V->Hp->VK->Prop:=fun x vs H Q=>∃ l xs y,x=.ref l/\vs=[]/\H l=some (.lst xs)/\xs[xs.length - 1]?=some y/\Q y (upd H l (.lst xs.dropLast))
theorem OS:MtM X "list.pop" Oi:=by
 intro pins s σ H x vs v us Q I rx rv h
 obtain ⟨l,xs,y,rfl,rfl,hH,hy,q⟩:=h
 cases rx
 have hus:=rv.zero
 subst hus
 obtain ⟨z,its,n,r,hl,e⟩:=I.lstM hH
 obtain ⟨u,hu,ru⟩:=r.get hy
 have hy':its.toArray[its.toArray.size - 1]?=some u:=by
  show its.toArray[its.length - 1]?=some u
  rw[<-Array.getElem?_toList,<-hl]
  exact hu
 refine call_meets F.slot_list_pop ⟨_,e,rfl⟩ F.entry_list_pop (F.args_list_pop_1 _) (MeetsSeq.list_pop_last l its.toArray n u hy' (by rw[List.size_toArray];lia)) ⟨e,?_⟩
 refine ⟨y,_,I.lset (its':=its.dropLast) hH e ?_ r.dropLast ?_,ru,q⟩
 ·show its.toArray.eraseIdxIfInBounds (its.toArray.size - 1)=its.dropLast.toArray
  rw[List.size_toArray,List.eraseIdxIfInBounds_toArray,Sa]
 ·rw[List.length_dropLast]
  lia
def J5:R2:=fun x y H Q=>∃ l b xs zs,x=.ref l/\y=.ref b/\H l=some (.lst xs)/\H b=some (.lst zs)/\xs.length+zs.length<=sizeLine/\∀ p,H p=none->Q (.ref p) (upd H p (.lst (xs++zs)))
theorem R5:OpR X (binaryOp .Add) J5:=by
 intro pins s σ H x y v u Q I rx ry h
 obtain ⟨l,b,xs,zs,rfl,rfl,hH,hB,hz,q⟩:=h
 cases rx
 cases ry
 obtain ⟨z,its,n,r,hl,e⟩:=I.lstM hH
 obtain ⟨z2,its2,n2,r2,hl2,e2⟩:=I.lstM hB
 refine PySem.P.add_list e e2 ?_ (by rw[List.size_toArray,List.size_toArray];lia)
 have ea:its.toArray++its2.toArray=(its++its2).toArray:=by simp
 rw[ea]
 exact ⟨.ref _,_,I.lnew (t':=s.toks) (r.append r2) (by rw[List.length_append];lia),rfl,q _ I.fresh⟩
end
section
variable {prog:Program} {w:World} {A:Around} {E:Value->Shared->Prop} {s:Shared}
end
section
variable {X:Cx}
end
end L2
namespace Att
open PySem PySem.W PySem.Calls PyProof.Rows
theorem UF {P:Params} {h:Heap}:∀ (ns:List Int) (vs:List Value),WellAll P h vs (ns.map WData.int)->IntsAre vs ns:=by
 intro ns
 induction ns with
 | nil=>
  intro vs w
  rw[List.map_nil] at w
  cases w
  exact .nil
 | cons n ns ih=>
  intro vs w
  rw[List.map_cons] at w
  cases w with
  | cons a b=>
   cases a
   exact .cons _ _ (ih _ b)
theorem NV {l:OpenLaw} {n:Nat} (hn:l.most=some n) {P:Params} {h:Heap} {args:List WData} {vals:List Value}
  (hpre:l.row.toRowW.claim.pre args=true) (hwl:WellAll P h vals args) :
  ∃ a vs ns,vals=[Value.ref a]/\args=[WData.list (ns.map WData.int)]/\h.get? a=some {cls:=.type "list",data:=.seq vs.toArray}/\IntsAre vs ns/\ns.length<=n:=by
 have hsh:WShape.hasAll [] args [.list .int]=true:=(pre_splitW hpre).1
 have hc:l.pre.holds [] {args:=args}=true:=(pre_splitW hpre).2
 obtain ⟨d,r,rfl,h1,h2⟩:=hasAllW_cons hsh
 obtain rfl:=hasAllW_nil h2
 obtain ⟨xs,rfl,h3⟩:=hasW_list h1
 obtain ⟨ns,rfl⟩:=items_int h3
 have hlen:ns.length<=n:=by
  unfold OpenLaw.pre at hc
  have h4:(WTm.not (.lt (.lit (.int (n:Int))) (.len (.arg 0)))).holds [] {args:=[.list (ns.map .int)]}=true:=by
   have h4:=(holds_andW hc).1
   rw[hn] at h4
   exact h4
  have h5:=condW_of h4 (w_not (w_lt w_lit (w_len_list (w_arg rfl))))
  rw[List.length_map] at h5
  refine Nat.le_of_not_lt fun q=>?_
  have q':(n:Int)<((ns.length:Nat):Int):=by lia
  first
   | (rw[decide_eq_true q'] at h5;exact absurd h5 (by decide))
   | (simp at h5;lia)
 cases hwl with
 | cons w1 w2=>
  cases w2
  cases w1 with
  | list ho hall=>exact ⟨_,_,ns,rfl,rfl,ho,UF ns _ hall,hlen⟩
theorem Na (l:OpenLaw) (args:List WData):l.row.toRowW.claim.post args (.bool true) args=true:=
 postW_of (r:=l.row.toRowW) (X:=(true == true))
  (show WShape.has [] (.bool true) .bool=true by first | rfl | decide | simp[WShape.has,WShape.arms,WShape.armsAll])
  (show (WTm.eq .res (.lit (.bool true))).value [] {args:=args,res:=some (.bool true),after:=args}=some (.bool (true == true)) from w_eq_bool (w_res rfl) w_lit) rfl
theorem S8 {l:OpenLaw} {n:Nat} {q:Program} {loose:List Str} {XP:(Str->Option Value)->Heap->Prop} {YP:World->Heap->Prop} {d:DefRec}
  (hn:l.most=some n) (hdf:d.params.defaults=[])
  (call:∀ (w:World) (s₀ s₁:Shared) (mg mb:Str->Option Value) (fa:Addr) (o:Obj) (pm cd doc:Value) (a:Addr) (vs:List Value) (ns:List Int),
   Ground q loose [] XP w s₀ mg mb s₁.heap->YP w s₁.heap ->
   s₁.heap.get? fa=some o->o.data=.func (docDef d.name d.params d.body d.scope pm cd doc)->s₁.heap.CodeRec cd d.name->mg d.name=some (.ref fa) ->
   s₁.heap.get? a=some {cls:=.type "list",data:=.seq vs.toArray}->IntsAre vs ns->ns.length<=n->s₁.gens=#[] ->
   codeAny (model l.prog w) callerA (.call (.ref fa) ⟨[.ref a],[]⟩) (fun r s'=>r=.ok (.ret (.bool true))/\OldK s₁.heap s'.heap/\s'.os=s₁.os/\AllBare s'.gens) s₁) :
  WalkO q loose XP YP l.row.toRowW d [] (fun f vs=>PySem.call f vs):=by
 intro w s₀ s₁ mg mb G Y fa o pm cd doc dV kV ho hd hcd hD hmg hg args vals as hpre hlay hrd hwl hlo
 obtain rfl:dV=.none:=Dflts.none hD hdf
 obtain rfl:kV=.none:=Dflts.noKw hD
 obtain ⟨a,vs,ns,rfl,rfl,hobj,hints,hlen⟩:=NV hn hpre hwl
 refine enter_call (codeAny_mono (call w s₀ s₁ mg mb fa o pm cd doc a vs ns G Y ho (fd_plain hd) hcd hmg hobj hints hlen hg) fun r s' hq=>?_)
 obtain ⟨rfl,h2,h3,h4⟩:=hq
 exact ⟨.inl ⟨.bool true,.bool true,[],rfl,fun _=>rfl,.bool true,Na l _,fun _=>⟨List.Pairwise.nil,fun _ hm=>(nomatch hm)⟩⟩,h2,h3,h4⟩
section
variable {prog:Program} {w:World} {A:Around} {E:Value->Shared->Prop} {s:Shared} {K:Frag}
end
end Att
namespace L2
open PySem PySem.Spec PyProof.Rows
theorem Hd:∀ {vs:List Value} {ns:List Int},IntsAre vs ns->Vals (ns.map V.int) vs
 | _,_,.nil=>.nil
 | _,_,.cons n t h=>.cons ⟨t,rfl⟩ (Hd h)
def IC (H:Hp):Prop:=∀ b,H b=none\/∃ o xs,H b=some (.frz o (.lst xs))
theorem QB {P:Program} {w:World} {K:PySem.W.Frag} {mg mb:Str->Option Value} {CX:CXT} {k:Nat} {fa a:Addr} {fd:FuncData} {x:Str} {sp:Sp} {s₁:Shared} {vs:List Value} {ns:List Int}
  (KX:K.In s₁.heap) (hns:s₁.heap.Ns mainGlobals mg) (hb:s₁.heap.Ns builtinsNs mb) (hbb:∀ x:Str,x≠"__name__"->mb x=bootBuiltins x) (hlim:s₁.heap.NoLimit) (hg:s₁.gens=#[])
  (ha:s₁.heap.get? a=some {cls:=.type "list",data:=.seq vs.toArray}) (hi:IntsAre vs ns) (hl:ns.length<=sizeLine) (hr:Room k callerA)
  (F:∀ base:Heap,K.In base->base.Ns mainGlobals mg->FnOk P w K mg base CX k fa fd [x] sp) (hbind:∀ (s:Shared) (u:Value),BindsTo s fd ⟨[u],[]⟩ [(x,u)])
  (hsp:∀ H:Hp,IC H->SqL K H a (ns.map V.int)->sp [.ref a] H (fun v _=>v=.bl true) fun _ _ _=>False)
  (hCX:∀ H e s',CX [] H s₁ (fun _ _ _=>False) e s'->False) :
  codeAny (model P w) callerA (.call (.ref fa) ⟨[.ref a],[]⟩) (fun r s'=>r=.ok (.ret (.bool true))/\OldK s₁.heap s'.heap/\s'.os=s₁.os/\AllBare s'.gens) s₁:=by
 have rv:=Hd hi
 have lenV:=hi.length
 have core:∀ H:Hp,IC H->SqL K H a (ns.map V.int)->HOk P w H s₁.heap->(∀ b,H b≠none->b=a)->(H a≠none->K.lookup a=none) ->
   codeAny (model P w) callerA (.call (.ref fa) ⟨[.ref a],[]⟩) (fun r s'=>r=.ok (.ret (.bool true))/\OldK s₁.heap s'.heap/\s'.os=s₁.os/\AllBare s'.gens) s₁:=by
  intro H hO hS hok hA hK
  have base_of:∀ {b:Addr} {o:Obj},s₁.heap.get? b=some o->H b=none->(Cn s₁.heap H).get? b=some o:=fun e n=>Qt e n
  have noA:∀ {b:Addr} {o:Obj} {es:Array DictEntry} {ep:Nat},s₁.heap.get? b=some o->o.data=.dict es ep->H b=none:=fun {b o es ep} e d=>by
   cases q:H b with
   | none=>rfl
   | some u=>
    have e':b=a:=hA b (by rw[q];simp)
    subst e'
    rw[ha] at e;cases e
    have d':Data.seq vs.toArray _=Data.dict es ep:=d
    cases d'
  have nsK:∀ {b:Addr} {m:Str->Option Value},s₁.heap.Ns b m->(Cn s₁.heap H).Ns b m:=fun {b m} ⟨o,es,ep,e,d,r⟩=>⟨o,es,ep,base_of e (noA e d),d,r⟩
  have hKb:K.In (Cn s₁.heap H):=fun b o e=>base_of (KX b o e) (by
   cases q:H b with
   | none=>rfl
   | some u=>
    have e':b=a:=hA b (by rw[q];simp)
    subst e'
    rw[hK (by rw[q];simp)] at e;cases e)
  have hM:Mod K mg (Cn s₁.heap H):=⟨hKb,nsK hns,⟨mb,nsK hb,hbb⟩,let ⟨mc,h1,h2⟩:=hlim;⟨mc,nsK h1,h2⟩⟩
  have e0:Env0 P w K mg (Cn s₁.heap H) callerA [] s₁ H:=⟨rfl,hM,fun b o e=>OB e,Nat.le_of_eq (Tq _ _),trivial,fun b hb=>absurd (show b∈([]:List Addr) from hb) (by simp),hok,.of_eq hg⟩
  refine codeAny_mono ((F _ hKb (nsK hns)).run callerA [] s₁ H ⟨[.ref a],[]⟩ [.ref a] [.ref a] _ _ hr e0 (hbind s₁ (.ref a)) (.cons rfl .nil) (hsp H hO hS)) fun r s' h=>?_
  cases r with
  | error e=>exact (hCX H e s' h).elim
  | ok fl=>
   cases fl with
   | next=>exact False.elim h
   | brk=>exact False.elim h
   | cont=>exact False.elim h
   | ret u=>
    obtain ⟨v,H',os,bare,un,hok',r',q⟩:=h
    have q':v=.bl true:=q
    subst q'
    obtain rfl:u=Value.bool true:=r'
    refine ⟨rfl,OldK.of_keep fun b o e=>?_,os,bare⟩
    cases q:H b with
    | none=>exact un.keep b o e q (by intro z;exact absurd (show b∈([]:List Addr) from z) (by simp)) (by simp)
    | some u=>
     rcases hO b with z | ⟨ob,xs,z⟩
     ·rw[q] at z;cases z
     ·have z2:=un.frzs b ob _ z
      obtain ⟨e1,_⟩:=hok b _ z
      obtain ⟨e2,_⟩:=hok' b _ z2
      rw[e] at e1;cases e1
      exact e2
 cases hk:K.lookup a with
 | some o=>
  have e:=KX a o hk
  rw[ha] at e
  cases e
  refine core (fun _=>none) (fun _=>.inl rfl) (.inr ⟨_,vs.toArray,_,hk,rfl,rfl,rfl,by rw[List.size_toArray,lenV];exact hl,by simpa using rv⟩) (fun b u z=>by have z':(none:Option HO)=some u:=z;cases z') (fun b z=>absurd rfl z) fun z=>absurd rfl z
 | none=>
  refine core (fun b=>if b=a then some (.frz {cls:=.type "list",data:=.seq vs.toArray} (.lst (ns.map V.int))) else none) (fun b=>?_) (.inl (.inr ⟨{cls:=.type "list",data:=.seq vs.toArray},if_pos rfl⟩)) (fun b u z=>?_) (fun b z=>?_) fun _=>hk
  ·by_cases hb:b=a
   ·exact .inr ⟨_,_,if_pos hb⟩
   ·exact .inl (if_neg hb)
  ·by_cases hb:b=a
   ·have z':=(if_pos hb).symm.trans z
    cases z'
    subst hb
    exact ⟨ha,by rw[List.length_map];exact hl,vs,_,rv,ha⟩
   ·have z':=(if_neg hb).symm.trans z
    cases z'
  ·by_cases hb:b=a
   ·exact hb
   ·exact absurd (if_neg hb) z
def Dx (s:Stmt):Arguments:=match s with
 | .FunctionDef _ a _ _ _ _ _ _ _ _=>a
 | _=>{posonlyargs:=[],args:=[],vararg:=none,kwonlyargs:=[],kw_defaults:=[],kwarg:=none,defaults:=[]}
def CM (s:Stmt):List Stmt:=match s with
 | .FunctionDef _ _ b _ _ _ _ _ _ _=>b
 | _=>[]
def AU (s:Stmt):Scope:=match s with
 | .FunctionDef _ _ _ _ _ _ sc _ _ _=>sc
 | _=>{kind:=.function,names:=[],isGenerator:=false,isCoroutine:=false}
abbrev CX0:CXT:=fun _ _ _ _ _ _=>False
abbrev E0:XK:=fun _ _ _=>False
theorem FO {X:Cx}:GP CX0 X E0:=fun _ _ _ _ _ _ _ h=>h.elim
structure Fun (K:PySem.W.Frag) (x qual:Str) (st:Stmt) (f:Addr) (fd:FuncData):Prop where
 ex:∃ (oc:Value) (od:Option Addr) (kV doc pm:Value) (an:Option Addr) (cdv ct:Value) (osl:Array (Option Value)),
  fd=PySem.W.fnOf x qual (Dx st) (CM st) (AU st) .none kV doc pm an cdv ct/\K.lookup f=some ⟨oc,od,.func fd,osl⟩/\PySem.W.codeIn K cdv qual=true
 kp:PySem.W.keepIn K (.ref f)=true
section
variable {P:Program} {w:World} {K:PySem.W.Frag} {mg:Str->Option Value} {base:Heap}
theorem Fun.ok {x qual:Str} {st:Stmt} {f:Addr} {fd:FuncData} {N ps:List Str} {k:Nat} {sp:Sp} (F:Fun K x qual st f fd) (S:FnScope N ps (AU st)) (len:∀ vs H Q E,sp vs H Q E->vs.length=ps.length)
  (hbody:∀ (cdv:Value) (A:Around) (outer:List Env) (s:Shared) (H:Hp) (vs:List V) (Q:VK) (E:XK),Room k (A.deeper (envOfC qual (AU st) s.heap.objs.size f cdv))->sp vs H Q E ->
   ∃ t,PSs (Cc CX0 P w K mg base N qual (AU st) f cdv A outer s H E).nox (CM st) t/\t {nx:=fun _ H'=>Q .non H',rt:=Q} (start N vs) H):FnOk P w K mg base CX0 (k+1) f fd ps sp:=by
 obtain ⟨oc,od,kV,doc,pm,an,cdv,ct,osl,rfl,lk,hcd⟩:=F.ex
 refine MV lk hcd S len fun A outer s H vs Q E hr hsp=>?_
 obtain ⟨t,h,q⟩:=hbody cdv A outer s H vs Q E hr hsp
 exact ⟨t,h.nox,q⟩
theorem Fun.binds {x qual:Str} {st:Stmt} {f:Addr} {fd:FuncData} {ps:List Str} (F:Fun K x qual st f fd)
  (h:∀ (kV doc pm:Value) (an:Option Addr) (cdv ct:Value) (us:List Value),us.length=ps.length->bindArgs (PySem.W.fnOf x qual (Dx st) (CM st) (AU st) .none kV doc pm an cdv ct) ⟨us,[]⟩=pure (ps.zip us)):Binds K fd ps []:=by
 obtain ⟨oc,od,kV,doc,pm,an,cdv,ct,osl,rfl,lk,hcd⟩:=F.ex
 exact .all (h kV doc pm an cdv ct)
end
section
variable {X:Cx}
theorem pv (i:Nat) {x:Str} {pos:Pos} (hN:X.N[i]?=some x:=by rfl) (hv:Vis X.env.scope x:=by first | exact Or.inl rfl | exact Or.inr (Or.inl rfl) | exact Or.inr (Or.inr rfl)) (hd:(x == ("__debug__":Str))=false:=by decide)
  (hcd:(x == ("__classdict__":Str))=false:=by decide):PE X (.Name x pos) (EJ i):=MZ hN hv hd hcd
end
theorem QT {A B:Prop} (h:B):if false=true then A else B:=by
 rw[if_neg Bool.false_ne_true]
 exact h
theorem He {A B:Prop} (h:A):if true=true then A else B:=by
 rw[if_pos rfl]
 exact h
end L2
namespace HD
open PySem PySem.W PySem.Calls PyProof.Rows L2
def FR (h:Heap):Frag:=(List.range h.objs.size).filterMap fun a=>(h.get? a).map fun o=>(a,o)
theorem K6 {β:Type} {a:Nat} {o:β}:∀ {l:List (Nat×β)},l.lookup a=some o->(a,o)∈l
 | [],h=>by cases h
 | (b,x)::l,h=>by
  rw[List.lookup_cons] at h
  by_cases e:a=b
  ·subst e
   rw[beq_self_eq_true] at h
   cases h
   exact .head _
  ·rw[beq_false_of_ne e] at h
   exact .tail _ (K6 h)
theorem NS (h:Heap):(FR h).In h:=by
 intro a o e
 obtain ⟨b,_,hb⟩:=List.mem_filterMap.mp (K6 e)
 obtain ⟨o',h1,h2⟩:=Option.map_eq_some_iff.mp hb
 cases h2
 exact h1
abbrev Sn:=Option (Str×Str×Arguments×FuncBody×Scope×Addr×List (Str×Addr)×Value×Addr×Bool)
def GS (K:Frag) (x:Str):Sn:=match nsIn K mainGlobals x with
 | some (some (.ref f))=>(match K.lookup f with
  | some ⟨_,_,.func d,_⟩=>some (d.name,d.qualname,d.params,d.body,d.scope,d.globals,d.closure,d.defaults,d.builtins,codeIn K d.code x)
  | _=>none)
 | _=>none
def GG (p:Str×Stmt):Sn:=some (p.1,p.1,Dx p.2,.stmts (CM p.2),AU p.2,mainGlobals,[],.none,builtinsNs,true)
theorem BQ {K:Frag} {x:Str} {st:Stmt} (h:GS K x=GG (x,st)):∃ (f:Addr) (fd:FuncData),nsIn K mainGlobals x=some (some (.ref f))/\Fun K x x st f fd:=by
 unfold GS at h
 split at h
 ·rename_i f hn
  split at h
  ·rename_i oc od d sl hl
   simp only[GG,Option.some.injEq,Prod.mk.injEq] at h
   obtain ⟨d1,d2,d3,d4,d5,d6,d7,d8,d9,c⟩:=h
   have z:d=fnOf x x (Dx st) (CM st) (AU st) .none d.kwdefaults d.doc d.pyModule d.annotations d.code d.closureTuple:=by
    cases d
    simp only[FuncData.mk.injEq]
    exact ⟨d1,d2,d3,d4,d5,d6,d7,d8,trivial,trivial,trivial,trivial,trivial,trivial,d9⟩
   refine ⟨f,d,hn,⟨?_,?_⟩⟩
   ·exact ⟨oc,od,d.kwdefaults,d.doc,d.pyModule,d.annotations,d.code,d.closureTuple,sl,z,hl,c⟩
   ·show (match K.lookup f with | some ⟨_,_,.func _,_⟩=>true | some ⟨_,_,.cls _,_⟩=>_ | _=>false)=true
    rw[hl]
  ·cases h
 ·cases h
theorem BH {α β:Type} {g h:α->β}:∀ {L:List α} {i:Nat} {x:α},L.map g=L.map h->L[i]?=some x->g x=h x
 | [],_,_,_,e=>by cases e
 | y::L,0,x,m,e=>by cases e;exact (List.cons.inj m).1
 | y::L,i+1,x,m,e=>BH (List.cons.inj m).2 e
def Lq (K:Frag) (x:Str):Option Int:=match nsIn K mainGlobals x with
 | some (some (.int n _))=>some n
 | _=>none
def stp (p:Program) (N:Nat) (w:World) (os:OsState):Option Shared:=
 topRun treeTable p w (boot_heap w.params).objs.size ((boot_heap w.params).nsMap mainGlobals "__annotations__") N ⟨boot_heap w.params,Array.mk [],boot_drawn,boot_toks,os⟩ (topStub p)
theorem T5:(fun P=>(boot_heap P).isNs mainGlobals && (Array.mk []:Array GenState).size == 0)=fun _=>true:=by kernel_rfl
def Je (p q:Program) (loose:List Str) (N:Nat) (w:World) (os:OsState):=(stp p N w os).map fun s=>openSeen q loose (importedModules p.main.body) (fun _=>true) true s
def JM {α:Type} (p:Program) (N:Nat) (obs:Frag->α) (w:World) (os:OsState):=(stp p N w os).map fun s=>obs (FR s.heap)
def runC (p:Program) (N:Nat) (w:World) (os:OsState):=(stp p N w os).map fun s=>staticsOk (importedModules p.main.body) (boot_heap w.params) s.heap && namesBound p s.heap && gensDone s && laidKept (boot_heap w.params) s.heap
theorem Rb {α:Type} {p q:Program} {loose:List Str} {N:Nat} {obs:Frag->α} {val:α} (e:opening p=plainProg p.main.scope.names) (hN:Nat.ble 600 N=true) (f:∀ s,fenceModules? p s=some s)
  (hA:∀ w os,Je p q loose N w os=some (openGood q loose)) (hB:∀ w os,JM p N obs w os=some val) (hC:∀ w os,runC p N w os=some true):LeftO p q loose (fun _=>true) (fun s=>obs (FR s.heap)) (fun _=>val) N:=fun w=>by
 obtain ⟨⟨H,gs,d,k,os⟩,e1,e2⟩:=Option.map_eq_some_iff.mp (boot_open e hN f w)
 simp only[Prod.mk.injEq] at e2
 obtain ⟨rfl,rfl,rfl,rfl⟩:=e2
 obtain ⟨s,h1,h2⟩:=Option.map_eq_some_iff.mp (hA w os)
 obtain ⟨s',h3,h4⟩:=Option.map_eq_some_iff.mp (hB w os)
 obtain ⟨s2,h5,h6⟩:=Option.map_eq_some_iff.mp (hC w os)
 rw[h1] at h3 h5
 cases h3
 cases h5
 unfold openEnds
 rw[e1]
 have z:topFrom treeTable p w N ⟨boot_heap w.params,Array.mk [],boot_drawn,boot_toks,os⟩=some s:=by
  unfold topFrom
  dsimp only
  rw[congrFun T5 w.params]
  show (stp p N w os).bind _=_
  rw[h1]
  show (match _ with | true=>some s | false=>none)=_
  rw[h6]
 show (topFrom treeTable p w N _).map _=_
 rw[z,Option.map_some,h2]
 exact congrArg (fun z=>some (openGood q loose,z)) h4
theorem NR {α:Type} {l:OpenLaw} {n k:Nat} {q:Program} {loose:List Str} {XP:(Str->Option Value)->Heap->Prop} {d:DefRec} {obs:Frag->α} {val:α} {x:Str} {sp:Frag->Sp}
  (hn:l.most=some n) (hn2:n<=sizeLine) (hdf:d.params.defaults=[]) (hr:Room k callerA)
  (F:∀ (w:World) (K:Frag) (mg:Str->Option Value) (fa:Addr) (h:Heap),obs K=val->K.In h->h.Ns mainGlobals mg->mg d.name=some (.ref fa) ->
   ∃ fd:FuncData,(∀ (s:Shared) (u:Value),BindsTo s fd ⟨[u],[]⟩ [(x,u)])/\∀ base:Heap,K.In base->base.Ns mainGlobals mg->FnOk l.prog w K mg base CX0 k fa fd [x] (sp K))
  (hsp:∀ (K:Frag) (H:Hp) (a:Addr) (ns:List Int),ns.length<=n->IC H->SqL K H a (ns.map V.int)->sp K [.ref a] H (fun v _=>v=.bl true) fun _ _ _=>False) :
  WalkO q loose XP (fun _ h=>∃ K:Frag,obs K=val/\K.In h) l.row.toRowW d [] (fun f vs=>PySem.call f vs):=by
 refine Att.S8 hn hdf fun w s0 s1 mg mb fa o pm cd doc a vs ns G Y ho hd hcd hmg hobj hints hlen hg=>?_
 obtain ⟨K,hK,KX⟩:=Y
 obtain ⟨fd,hb,hF⟩:=F w K mg fa _ hK KX G.T.g hmg
 exact QB KX G.T.g G.T.b G.T.builtins G.T.nolimit hg hobj hints (Nat.le_trans hlen hn2) hr hF hb (fun H hO hS=>hsp K H a ns hlen hO hS) fun _ _ _ z=>z
theorem UK {α:Type} {l:OpenLaw} {q:Program} {loose:List Str} {N:Nat} {obs:Frag->α} {val:α} {d:DefRec} {kwd:List (Str×Expr)} (said:l.row.wellSaid=true)
  (e:opening l.prog=plainProg l.prog.main.scope.names) (hN:Nat.ble 600 N=true) (f:∀ s,fenceModules? l.prog s=some s) (hA:∀ w os,Je l.prog q loose N w os=some (openGood q loose)) (hB:∀ w os,JM l.prog N obs w os=some val) (hC:∀ w os,runC l.prog N w os=some true)
  (hdef:defOf q l.name=some (d,kwd)) (hp:l.prog.theDef l.name=some (d.params,d.body,d.scope)) (hk:kwWritten? d.params.kwonlyargs d.params.kw_defaults=some kwd)
  (hwr:(!l.row.writes || l.row.records.isEmpty)=true) (ok:(chainsOk q && opensWell l.prog && (frees l.row.toRowW && l.row.within.isEmpty))=true) (hb:l.prog.bare) (hw:l.row.toRowW.promised)
  (call:WalkO q loose (fun _ _=>True) (fun _ h=>∃ K:Frag,obs K=val/\K.In h) l.row.toRowW d kwd fun f vs=>PySem.call f vs):l.row.Holds:=
 holds_open (r:=l.row) (q:=q) (loose:=loose) (Xt:=fun _=>true) (XP:=fun _ _=>True) (YP:=fun _ h=>∃ K:Frag,obs K=val/\K.In h) (N:=N) (Rb e hN f hA hB hC)
  (fun _ s y=>⟨_,y,NS s.heap⟩) (fun _ _ _ ⟨K,a,b⟩ k=>⟨K,a,b.keeps k⟩) (fun _ _=>trivial) (fun _ _ _ _ _=>trivial) hdef hp hk (fun _ _=>⟨fun _ z=>(nomatch z),fun _ z=>(nomatch z),fun _ _ _ z=>(nomatch z),fun _ _ z=>(nomatch z)⟩) hwr said ok hb hw call
end HD
namespace L2
open PySem PySem.Spec PyProof.Rows
section
variable {prog:Program} {w:World} {A:Around} {R:Result->Shared->Prop} {s:Shared}
theorem Pb {elt tg src:Expr} {tests:List Expr} {sc:Scope} {cp:Pos} {it acc:Value} {ev:Env} {Xn:Value->Shared->Prop} (J:Nat->Shared->Prop) (hX:∀ e s,Xn e s->notedBy (model prog w) A ev (fun e s'=>R (.error e) s') e s)
  (turn:∀ n s,J n s->wpAny (model prog w) A (pyNext it) (fun r s1=>match r with
   | none=>R (.ok .next) s1
   | some v=>wpAny (model prog w) A (letOwnedTupleGo tg it v) (fun _ s2=>wpAny (model prog w) A (assign tg ev v) (fun _ s3=>
     wpAny (model prog w) A (forIn tests true fun c r=>if r=true then do let ok <-isTrue c ev (eval c ev);pure (ForInStep.yield ok) else pure (ForInStep.yield r)) (fun ok s4=>
      if ok=true then wpAny (model prog w) A (eval elt ev) (fun x s5=>wpAny (model prog w) A (call (.builtin "list.append") [acc,x]) (fun _ s6=>∃ m,m<n/\J m s6) Xn s5) Xn s4
      else ∃ m,m<n/\J m s4) Xn s3) Xn s2) Xn s1) Xn s)
  (n:Nat) (h:J n s):codeAny (model prog w) A (.compLoop (.ListComp elt [⟨tg,src,tests,0⟩] sc cp) 0 it acc ev) R s:=by
 refine codeAny_loop rfl J (fun n s hJ=>?_) n h
 show wpAny _ A ((compTurn (.ListComp elt [⟨tg,src,tests,0⟩] sc cp) 0 it acc ev).onRaise (fun x=>do noteFrame x ev;theTreesLotGoes x)) _ _ s
 refine wpAny_noted ?_
 rw[compTurn_list]
 refine wpAny_bind (wpAny_standAt (wpAny_bind (wpAny_mono (turn n s hJ) (fun r s1 h1=>?_) hX)))
 cases r with
 | none=>exact wpAny_pure h1
 | some v=>
  refine wpAny_bind (wpAny_mono h1 (fun _ s2 h2=>?_) hX)
  refine wpAny_bind (wpAny_mono h2 (fun _ s3 h3=>wpAny_bind (wpAny_mono h3 (fun ok s4 h4=>?_) hX)) hX)
  cases ok with
  | false=>exact wpAny_pure ⟨rfl,h4⟩
  | true=>exact wpAny_bind (wpAny_bind (wpAny_mono h4 (fun x s5 h5=>wpAny_bind (wpAny_mono h5 (fun _ s6 h6=>wpAny_pure (wpAny_pure ⟨rfl,h6⟩)) hX)) hX))
end
theorem Hy {ev:Env} {F:Str×NameKind->List (Str×Addr)->Sem (ForInStep (List (Str×Addr)))}
  (hF:∀ n k cs,F (n,k) cs=if (k == NameKind.free)=true then (do let c <-cellOf ev n;pure (ForInStep.yield ((n,c)::cs))) else pure (ForInStep.yield cs)) :
  ∀ (ns:List (Str×NameKind)) (cs:List (Str×Addr)),(∀ x c,cs.lookup x=some c->ev.cells.lookup x=some c)->(∀ x∈ns,x.2=.free->∃ c,ev.cells.lookup x.1=some c) ->
   ∃ cl,(forIn ns cs F:Sem (List (Str×Addr)))=pure cl/\(∀ x c,cl.lookup x=some c->ev.cells.lookup x=some c)/\(∀ x c,cs.lookup x=some c->∃ d,cl.lookup x=some d) /\
    ∀ x∈ns,x.2=.free->∃ c,cl.lookup x.1=some c
 | [],cs,h1,_=>⟨cs,by rw[List.forIn_nil],h1,fun _ c e=>⟨c,e⟩,fun _ hx=>nomatch hx⟩
 | (n,k)::ns,cs,h1,h2=>by
  have h2':∀ x∈ns,x.2=.free->∃ c,ev.cells.lookup x.1=some c:=fun x hx=>h2 x (List.mem_cons_of_mem _ hx)
  by_cases hk:k=NameKind.free
  ·subst hk
   obtain ⟨c,hc⟩:=h2 (n,.free) List.mem_cons_self rfl
   have h1':∀ x d,((n,c)::cs).lookup x=some d->ev.cells.lookup x=some d:=fun x d e=>by
    rw[List.lookup_cons] at e
    cases hx:x == n with
    | true=>rw[hx] at e;cases e;rw[eq_of_beq hx];exact hc
    | false=>rw[hx] at e;exact h1 x d e
   obtain ⟨cl,e1,e2,e3,e4⟩:=Hy hF ns ((n,c)::cs) h1' h2'
   refine ⟨cl,?_,e2,fun x d e=>?_,fun x hx hf=>?_⟩
   ·rw[List.forIn_cons,hF]
    have hcell:cellOf ev n=pure c:=by unfold cellOf;rw[hc]
    rw[if_pos (by decide),hcell]
    exact e1
   ·cases hx:x == n with
    | true=>exact e3 x c (by rw[List.lookup_cons,hx])
    | false=>exact e3 x d (by rw[List.lookup_cons,hx];exact e)
   ·rcases List.mem_cons.mp hx with rfl | hx
    ·exact e3 n c (by rw[List.lookup_cons,beq_self_eq_true])
    ·exact e4 x hx hf
  ·obtain ⟨cl,e1,e2,e3,e4⟩:=Hy hF ns cs h1 h2'
   refine ⟨cl,?_,e2,e3,fun x hx hf=>?_⟩
   ·rw[List.forIn_cons,hF,if_neg (fun z=>hk (eq_of_beq z))]
    exact e1
   ·rcases List.mem_cons.mp hx with rfl | hx
    ·exact absurd hf hk
    ·exact e4 x hx hf
theorem Lm {sc:Scope} {ev:Env} (h:∀ x∈sc.names,x.2=.free->∃ c,ev.cells.lookup x.1=some c) :
  ∃ cl,closureFor sc ev=pure cl/\(∀ x c,cl.lookup x=some c->ev.cells.lookup x=some c)/\∀ x∈sc.names,x.2=.free->∃ c,cl.lookup x.1=some c:=by
 obtain ⟨cl,e1,e2,_,e4⟩:=Hy (ev:=ev) (F:=fun x cs=>match x with
  | (n,k)=>if (k == NameKind.free)=true then (do let c <-cellOf ev n;pure (ForInStep.yield ((n,c)::cs))) else pure (ForInStep.yield cs)) (fun _ _ _=>rfl) sc.names [] (fun x c e=>nomatch e) h
 refine ⟨cl,?_,e2,e4⟩
 show ((forIn sc.names [] (fun x cs=>match x with
  | (n,k)=>if (k == NameKind.free)=true then (do let c <-cellOf ev n;pure (ForInStep.yield ((n,c)::cs))) else pure (ForInStep.yield cs)):Sem (List (Str×Addr))) >>= fun z=>pure z)=pure cl
 rw[e1]
 rfl
theorem lookup_map2 (g:Str->NameKind->NameKind):∀ (l:List (Str×NameKind)) (x:Str),(l.map fun p=>(p.1,g p.1 p.2)).lookup x=(l.lookup x).map (g x)
 | [],_=>rfl
 | (n,k)::l,x=>by
  rw[List.map_cons,List.lookup_cons,List.lookup_cons]
  cases hx:x == n with
  | true=>rw[eq_of_beq hx];rfl
  | false=>exact lookup_map2 g l x
theorem Hc:∀ {l:List (Str×NameKind)} {x:Str} {k:NameKind},l.lookup x=some k->(x,k)∈l
 | (n,k')::l,x,k,h=>by
  rw[List.lookup_cons] at h
  cases hx:x == n with
  | true=>rw[hx] at h;cases h;rw[eq_of_beq hx];exact List.mem_cons_self
  | false=>rw[hx] at h;exact List.mem_cons_of_mem _ (Hc h)
def DB (ev:Env) (n:Str) (k:NameKind):NameKind:=if (k == .free && ev.scope.kind == .function && ev.kindOf n == some .cell)=true then .cell else k
theorem Jq (sc:Scope) (ev:Env) (x:Str):(relabel sc ev).names.lookup x=(sc.names.lookup x).map (DB ev x):=by
 have e:(relabel sc ev).names=sc.names.map fun p=>(p.1,DB ev p.1 p.2):=by
  unfold relabel
  refine List.map_congr_left fun p _=>?_
  obtain ⟨n,k⟩:=p
  show (if (k == .free && ev.scope.kind == .function && ev.kindOf n == some .cell)=true then (n,NameKind.cell) else (n,k))=(n,DB ev n k)
  unfold DB
  split<;>rfl
 rw[e]
 exact lookup_map2 _ _ _
structure CompOk (sc esc:Scope) (N fn:List Str) (ix:List Nat):Prop where
 kind:sc.kind=.function
 cells:∀ x∈sc.names,x.2=.cell->sc.names.lookup x.1=some .cell
 locs:∀ x∈sc.names,x.2=.local->sc.names.lookup x.1=some .local
 frees:∀ x∈sc.names,x.2=.free->esc.names.lookup x.1=some .cell\/esc.names.lookup x.1=some .free
 ixs:ix.map (fun i=>N[i]?)=fn.map some
 fns:∀ x∈fn,sc.names.lookup x=some .free
def CK (sc:Scope) (C:Addr):List (Str×Addr):=cellsFrom (C+1) sc.names []
theorem HG:∀ (names:List (Str×NameKind)) (n:Nat) (a b:List (Str×Addr)),cellsFrom n names (a++b)=cellsFrom n names a++b
 | [],_,_,_=>rfl
 | (x,k)::r,n,a,b=>by
  unfold cellsFrom
  split
  ·exact HG r (n+1) ((x,n)::a) b
  ·exact HG r n a b
theorem IZ:∀ (names:List (Str×NameKind)) (n:Nat) (acc:List (Str×Addr)) (x:Str) (c:Addr),(x,c)∈cellsFrom n names acc->(x,c)∈acc\/(x,NameKind.cell)∈names
 | [],_,_,_,_,h=>.inl h
 | (y,k)::r,n,acc,x,c,h=>by
  unfold cellsFrom at h
  by_cases hk:(k == .cell)=true
  ·rw[if_pos hk] at h
   rcases IZ r (n+1) _ x c h with h | h
   ·rcases List.mem_cons.mp h with h | h
    ·cases h
     rw[beq_iff_eq.mp hk]
     exact .inr List.mem_cons_self
    ·exact .inl h
   ·exact .inr (List.mem_cons_of_mem _ h)
  ·rw[if_neg hk] at h
   rcases IZ r n acc x c h with h | h
   ·exact .inl h
   ·exact .inr (List.mem_cons_of_mem _ h)
theorem LG {α:Type}:∀ {l:List (Str×α)} {x:Str},(∀ c,(x,c)∉l)->l.lookup x=none
 | [],_,_=>rfl
 | (y,v)::r,x,h=>by
  have hne:(x == y)=false:=by
   cases z:(x == y) with
   | false=>rfl
   | true=>
    have e:=beq_iff_eq.mp z
    subst e
    exact absurd List.mem_cons_self (h v)
  rw[List.lookup_cons,hne]
  exact LG fun c hc=>h c (List.mem_cons_of_mem _ hc)
theorem Hz {α:Type}:∀ {a b:List (Str×α)} {x:Str},a.lookup x=none->(a++b).lookup x=b.lookup x
 | [],_,_,_=>rfl
 | (y,v)::r,b,x,h=>by
  rw[List.lookup_cons] at h
  rw[List.cons_append,List.lookup_cons]
  cases z:(x == y) with
  | true=>rw[z] at h;cases h
  | false=>
   rw[z] at h
   exact Hz (a:=r) h
theorem Di {α:Type}:∀ {a b:List (Str×α)} {x:Str} {c:α},(a++b).lookup x=some c->a.lookup x=some c\/(a.lookup x=none/\b.lookup x=some c)
 | [],_,_,_,h=>.inr ⟨rfl,h⟩
 | (y,v)::r,b,x,c,h=>by
  rw[List.cons_append,List.lookup_cons] at h
  rw[List.lookup_cons]
  cases z:(x == y) with
  | true=>rw[z] at h;exact .inl h
  | false=>
   rw[z] at h
   exact Di (a:=r) h
theorem LQ {α:Type}:∀ {a b:List (Str×α)} {x:Str} {c:α},a.lookup x=some c->(a++b).lookup x=some c
 | (y,v)::r,b,x,c,h=>by
  rw[List.lookup_cons] at h
  rw[List.cons_append,List.lookup_cons]
  cases z:(x == y) with
  | true=>rw[z] at h;exact h
  | false=>
   rw[z] at h
   exact LQ (a:=r) h
theorem KM {sc esc:Scope} {N fn:List Str} {ix:List Nat} {x:Str} {k:NameKind} {C:Addr} (ok:CompOk sc esc N fn ix) (h:sc.names.lookup x=some k) (hk:k≠.cell):(CK sc C).lookup x=none:=
 LG fun c hc=>by
  rcases IZ _ _ _ _ _ hc with z | z
  ·cases z
  ·rw[ok.cells _ z rfl] at h
   exact hk (Option.some.inj h).symm
section
variable {M:Model} {A:Around} {E:Value->Shared->Prop} {s:Shared}
theorem Nd {scope:Scope} {globals:Addr} {cl:List (Str×Addr)} {qual:Str} {code:Value} {env:Env} {Q:Env->Shared->Prop} (hk:scope.kind=.function)
  (h:Q {scope,locals:=s.heap.objs.size,globals,cells:=CK scope s.heap.objs.size++cl,qual,func:=none,code:=env.code,frame:=env.frame,builtins:=env.builtins} {s with heap:=pushCells (s.heap.push {cls:=.type "dict",data:=.dict #[]}) scope.names}) :
  wpAny M A (newFunctionEnv scope globals cl [] qual none code (some env)) Q E s:=by
 simp only[newFunctionEnv,Option.isSome_some,if_true]
 refine wpAny_bind (wpAny_alloc ?_)
 refine wpAny_bind (wpAny_layCells _ (fun name kind cells=>by cases hkc:kind == NameKind.cell<;>simp[hkc]) _ _ _ _ ?_)
 rw[show ({s with heap:=s.heap.push {cls:=.type "dict",data:=.dict #[]}}:Shared).heap.objs.size=s.heap.objs.size+1 from Heap.size_push ..]
 have e:cellsFrom (s.heap.objs.size+1) scope.names cl=CK scope s.heap.objs.size++cl:=HG scope.names _ [] cl
 rw[e]
 refine wpAny_bind ?_
 rw[List.forIn_nil]
 exact wpAny_pure (wpAny_pure h)
end
def Bx (xe:Value->Shared->Prop) (X:Cx) (N':List Str) (sc:Scope) (s2:Shared) (H2:Hp) (cl:List (Str×Addr)) (C:Addr) (fp:List Addr):Cx where
 prog:=X.prog
 w:=X.w
 K:=X.K
 mg:=X.mg
 base:=X.base
 A:=X.A
 N:=N'
 s₀:=s2
 H₀:=H2
 env:=compEnvC sc (CK sc C++cl) C X.env
 outer:=X.stack
 stack:=X.stack
 ex:=fp
 fn:=fun x=>sc.names.lookup x == some .cell
 calm:=X.calm
 pn:=[]
 xe:=xe
abbrev B0 (X:Cx) (N':List Str) (sc:Scope) (s2:Shared) (H2:Hp) (cl:List (Str×Addr)) (C:Addr) (fp:List Addr):Cx:=Bx (fun _ _=>False) X N' sc s2 H2 cl C fp
def cSt (nt:Nat) (ix:List Nat) (σ:St):St:=List.replicate nt none++ix.map fun k=>(σ[k]?).join
def Ig (J:It) (g:TG) (tc:TT) (te:TE) (l:Addr) (q:Hp->Prop) (σ0:St) (H0:Hp):Prop:=
 ∃ W:Nat->Nat->St->Hp->Prop,(∃ m,W 0 m σ0 H0)/\∀ i m σ H,W i m σ H ->
  (J.stop i H/\q H)\/(J.go i H/\∃ N:St->Hp->Prop,(∀ σ' H',N σ' H'->∃ m',m'<m/\W (i+1) m' σ' H')/\∀ x H',J.yld i H x H'->g x σ H' fun σ2 H2=>tc σ2 H2 fun b H3=>
   if b=true then te σ2 H3 fun v H4=>∃ xs,H4 l=some (.lst xs)/\xs.length<sizeLine/\N σ2 (upd H4 l (.lst (xs++[v]))) else N σ2 H3)
def II (wi:TI) (nt:Nat) (ix:List Nat) (g:TG) (tc:TT) (te:TE):TE:=fun σ H Q=>wi σ H fun J H1=>∀ l,H1 l=none->Ig J g tc te l (fun H'=>Q (.ref l) H') (cSt nt ix σ) (upd H1 l (.lst []))
def PTs (X:Cx) (tests:List Expr) (tc:TT):Prop:=
 ∀ (pins:List (Addr×Obj)) (s:Shared) (σ:St) (H:Hp) (Q:Bool->Hp->Prop),Inv X pins σ H s->tc σ H Q ->
  wpAny (model X.prog X.w) X.A (forIn tests true fun c r=>if r=true then do let ok <-isTrue c X.env (eval c X.env);pure (ForInStep.yield ok) else pure (ForInStep.yield r)) (TP X pins σ Q) X.xe s
def QP:TT:=fun _ H Q=>Q true H
theorem Of {X:Cx}:PTs X [] QP:=fun _ _ _ H _ I h=>wpAny_tests_nil ⟨H,I,h⟩
theorem N8 {X:Cx} {c:Expr} {tc:TT} (h:PT X c tc):PTs X [c] tc:=fun pins s σ H Q I hw=>wpAny_tests_one (h pins s σ H Q I hw)
section
variable {X:Cx} {elt tg src:Expr} {tests:List Expr} {sc esc:Scope} {cp:Pos} {g:TG} {tc:TT} {te:TE} {N tn fn:List Str} {ix:List Nat}
theorem Rx {xe:Value->Shared->Prop} {cl:List (Str×Addr)} {pins:List (Addr×Obj)} {σ:St} {s2:Shared} {H2:Hp} {C:Addr} {fp:List Addr} (hsc:X.env.scope=esc) (ok:CompOk sc esc N fn ix)
  (hsub:∀ x c,cl.lookup x=some c->X.env.cells.lookup x=some c) (hall:∀ x∈sc.names,x.2=.free->∃ c,cl.lookup x.1=some c)
  (I2:Inv X pins σ H2 s2) (f2:∀ b∈fp,B5 X pins H2 b) (lt:∀ b∈fp,b<s2.heap.objs.size) (hC:s2.heap.objs.size<=C)
  (own:∀ x c,(CK sc C).lookup x=some c->C+1<=c) (apart:(CK sc C).Pairwise fun x y=>x.2≠y.2):(Bx xe X (tn++fn) sc s2 H2 cl C fp).Ok where
 mod:=I2.ok.mod
 kind:=ok.kind
 glob:=I2.ok.glob
 blt:=I2.ok.blt
 above:=hC
 inj:=fun x y c e1 e2=>by
  have low:∀ x c,cl.lookup x=some c->c<s2.heap.objs.size:=fun x c e=>by
   obtain ⟨v,hv⟩:=I2.cell x c (hsub x c e)
   exact hv.lt
  rcases Di e1 with a | ⟨_,a⟩<;>rcases Di e2 with b | ⟨_,b⟩
  ·exact name_of_addr apart (PySem.mem_of_lookup a) (PySem.mem_of_lookup b)
  ·exact absurd (low _ _ b) (Nat.not_lt.mpr (Nat.le_trans hC (Nat.le_trans (Nat.le_succ _) (own _ _ a))))
  ·exact absurd (low _ _ a) (Nat.not_lt.mpr (Nat.le_trans hC (Nat.le_trans (Nat.le_succ _) (own _ _ b))))
  ·exact I2.ok.inj x y c (hsub x c a) (hsub y c b)
 has:=fun x hx=>by
  have hx':(relabel sc X.env).names.lookup x=some .cell\/(relabel sc X.env).names.lookup x=some .free:=hx
  rw[Jq] at hx'
  show ∃ c,(CK sc C++cl).lookup x=some c
  cases e:sc.names.lookup x with
  | none=>rw[e] at hx';rcases hx' with z | z<;>cases z
  | some k=>
   have hm:=Hc e
   by_cases hkc:k=.cell
   ·subst hkc
    obtain ⟨c,hc⟩:=Option.isSome_iff_exists.mp (PySem.W.cellsFrom_some (x:=x) sc.names (C+1) [] (.inl e))
    exact ⟨c,LQ hc⟩
   have hk:k=.free:=by
    by_cases z:k=.free
    ·exact z
    ·exfalso
     have hr:DB X.env x k=k:=by
      unfold DB
      rw[if_neg]
      intro q
      rw[Bool.and_eq_true,Bool.and_eq_true] at q
      exact z (eq_of_beq q.1.1)
     rw[e,Option.map_some,hr] at hx'
     rcases hx' with q | q
     ·exact hkc (Option.some.inj q)
     ·exact z (Option.some.inj q)
   subst hk
   obtain ⟨c,hc⟩:=hall _ hm rfl
   exact ⟨c,by rw[Hz (KM ok e (fun z=>nomatch z))];exact hc⟩
 cab:=fun x c e hc=>by
  have e:sc.names.lookup x=some .cell:=beq_iff_eq.mp e
  rcases Di hc with a | ⟨a,_⟩
  ·exact Nat.le_trans hC (Nat.le_trans (Nat.le_succ _) (own _ _ a))
  ·obtain ⟨c',hc'⟩:=Option.isSome_iff_exists.mp (PySem.W.cellsFrom_some (x:=x) sc.names (C+1) [] (.inl e))
   have a:(cellsFrom (C+1) sc.names []).lookup x=none:=a
   rw[a] at hc'
   cases hc'
 hd:=I2.ok.hd
 frames:=I2.ok.frames
 stk:=.inl rfl
 exf:=fun b hb=>⟨Nat.ne_of_lt (Nat.lt_of_lt_of_le (lt b hb) hC),fun x c e=>by
  rcases Di e with a | ⟨_,a⟩
  ·exact Nat.ne_of_gt (Nat.lt_of_lt_of_le (lt b hb) (Nat.le_trans hC (Nat.le_trans (Nat.le_succ _) (own _ _ a))))
  ·exact (f2 b hb).2.2.2.2.1 x c (hsub x c a)⟩
 bs:=I2.bs
 bsz:=Nat.le_trans I2.ok.bsz I2.sz
 noex:=fun b o e hb=>by
  rcases (f2 b hb).2.2.2.1 with z | z
  ·exact I2.ok.noex b o e z
  ·exact absurd (Nat.lt_of_lt_of_le (Heap.lt_size e) (Nat.le_trans I2.ok.bsz z)) (Nat.lt_irrefl _)
 exfs:=fun b hb hf=>by
  rcases List.mem_cons.mp (I2.stkSub b hf) with z | z
  ·exact (f2 b hb).2.1 z
  ·exact (f2 b hb).2.2.1 z
 funs:=I2.stack
 frf:=I2.stkFree
theorem Ot (nt:Nat) (ix:List Nat) (σ:St):(cSt nt ix σ).length=nt+ix.length:=by
 unfold cSt
 rw[List.length_append,List.length_replicate,List.length_map]
theorem JN {xe:Shared->Hp->List (Str×Addr)->Addr->List Addr->Value->Shared->Prop} {cl:List (Str×Addr)} {pins:List (Addr×Obj)} {σ:St} {s2:Shared} {H2:Hp} {it:Addr} {fp:List Addr} {tu:Nat->Heap->Prop} {J:It} {E:Value->Shared->Prop} {q:Addr->Hp->Prop}
  {RR:Value->Addr->Result->Shared->Prop} (hc:X.calm=true) (hsc:X.env.scope=esc) (hN:X.N=N) (ok:CompOk sc esc N fn ix)
  (hsub:∀ x c,cl.lookup x=some c->X.env.cells.lookup x=some c) (hall:∀ x∈sc.names,x.2=.free->∃ c,cl.lookup x.1=some c)
  (hg:∀ s2 H2 cl C fp,PG (Bx (xe s2 H2 cl C fp) X (tn++fn) sc s2 H2 cl C fp) tg g)
  (ht:∀ s2 H2 cl C fp,PTs (Bx (xe s2 H2 cl C fp) X (tn++fn) sc s2 H2 cl C fp) tests tc)
  (he:∀ s2 H2 cl C fp,PE (Bx (xe s2 H2 cl C fp) X (tn++fn) sc s2 H2 cl C fp) elt te)
  (I2:Inv X pins σ H2 s2) (T:Turn X.prog X.w X.K tg J fp it tu) (st2:tu 0 s2.heap) (f2:∀ b∈fp,B5 X pins H2 b)
  (h:∀ l,H2 l=none->Ig J g tc te l (q l) (cSt tn.length ix σ) (upd H2 l (.lst [])))
  (hXX:∀ (C l:Addr) (e:Value) (s8:Shared),s2.heap.objs.size<=C->xe s2 H2 cl C fp e s8->notedBy (model X.prog X.w) X.A (compEnvC sc (CK sc C++cl) C X.env) (fun e s'=>RR (.ref l) C (.error e) s') e s8)
  (hRR:∀ (C l:Addr) (s4:Shared) (H3:Hp) (m:Str->Option Value),Inv X pins σ H3 s4->s4.heap.Ns C m->B5 X pins H3 C->q l H3->RR (.ref l) C (.ok .next) s4) :
  wpAny (model X.prog X.w) X.A (newList []) (fun acc s3=>wpAny (model X.prog X.w) X.A (newFunctionEnv sc X.env.globals cl [] X.env.qual none .none (some X.env)) (fun cenv s4=>
   codeAny (model X.prog X.w) X.A (.compStart (.ListComp elt [⟨tg,src,tests,0⟩] sc cp) 0 (.ref it) acc {cenv with scope:=relabel sc X.env}) (RR acc cenv.locals) s4) E s3) E s2:=by
 refine wpAny_newObj_type (Nd ok.kind ?_)
 dsimp only
 generalize hL:s2.heap.push {cls:=.type "list",dict:=none,data:=.seq ([]:List Value).toArray}=g1
 have hC:g1.objs.size=s2.heap.objs.size+1:=by rw[<-hL,Heap.size_push]
 have hlC:s2.heap.objs.size≠g1.objs.size:=by rw[hC];exact Nat.ne_of_lt (Nat.lt_succ_self _)
 have hCle:s2.heap.objs.size<=g1.objs.size:=by rw[hC];exact Nat.le_succ _
 have okc:CellsOk (pushCells (g1.push {cls:=.type "dict",data:=.dict #[]}) sc.names) (g1.objs.size+1) (CK sc g1.objs.size):=by
  have z:=cellsFrom_ok sc.names (g1.push {cls:=.type "dict",data:=.dict #[]}) (g1.objs.size+1) [] ⟨fun _ _ hm=>(nomatch hm),List.Pairwise.nil⟩ (by rw[Heap.size_push];exact Nat.le_refl _)
  rw[Heap.size_push] at z
  exact z
 have hns:(pushCells (g1.push {cls:=.type "dict",data:=.dict #[]}) sc.names).Ns g1.objs.size fun _=>none:=(Heap.Ns.new g1 (.type "dict")).keeps (pushCells_keeps _ _)
 have old1:∀ b o,g1.get? b=some o->(pushCells (g1.push {cls:=.type "dict",data:=.dict #[]}) sc.names).get? b=some o:=fun b o e=>pushCells_keeps _ _ b o (Heap.get?_push_of_some _ e)
 generalize pushCells (g1.push {cls:=.type "dict",data:=.dict #[]}) sc.names=h1 at okc hns old1
 have old:∀ b o,s2.heap.get? b=some o->h1.get? b=some o:=fun b o e=>old1 b o (hL▸Heap.get?_push_of_some _ e)
 have hnew:h1.get? s2.heap.objs.size=some {cls:=.type "list",data:=.seq ([]:List Value).toArray}:=old1 _ _ (hL▸Heap.get?_push_size _ rfl)
 have lt:∀ b∈fp,b<s2.heap.objs.size:=fun b hb=>by
  obtain ⟨o,e,_⟩:=T.obj 0 _ st2 b hb
  exact Heap.lt_size e
 have hl0:H2 s2.heap.objs.size=none:=I2.fresh
 have cok:(Bx (xe s2 H2 cl g1.objs.size fp) X (tn++fn) sc s2 H2 cl g1.objs.size fp).Ok:=Rx hsc ok hsub hall I2 f2 lt hCle (fun x c e=>(okc.empty x c (PySem.mem_of_lookup e)).2) okc.apart
 have hixl:ix.length=fn.length:=by
  have z:=congrArg List.length ok.ixs
  rwa [List.length_map,List.length_map] at z
 have YI:Inv (Bx (xe s2 H2 cl g1.objs.size fp) X (tn++fn) sc s2 H2 cl g1.objs.size fp) [] (cSt tn.length ix σ) (upd H2 s2.heap.objs.size (.lst [])) {s2 with heap:=h1}:=by
  refine ⟨cok,rfl,I2.bare,Un.laid old (Nat.le_refl _) hl0,⟨_,hns,fun i x v e1 e2 e3=>?_⟩,fun x c e=>?_,?_,fun x c e=>?_,fun p hp=>?_,?_,?_⟩
  ·
   have hi:tn.length<=i:=by
    by_cases z:i<tn.length
    ·exfalso
     have e2':(cSt tn.length ix σ)[i]?=some none:=by
      unfold cSt
      rw[List.getElem?_append_left (by rw[List.length_replicate];exact z),List.getElem?_replicate,if_pos z]
     rw[e2'] at e2
     cases e2
    ·lia
   have e1':fn[i - tn.length]?=some x:=by
    have z:(tn++fn)[i]?=some x:=e1
    rwa [List.getElem?_append_right hi] at z
   have e2':(ix.map fun k=>(σ[k]?).join)[i - tn.length]?=some (some v):=by
    unfold cSt at e2
    rwa [List.getElem?_append_right (by rw[List.length_replicate];exact hi),List.length_replicate] at e2
   rw[List.getElem?_map] at e2'
   cases ek:ix[i - tn.length]? with
   | none=>rw[ek] at e2';cases e2'
   | some k=>
    rw[ek] at e2'
    have ev:(σ[k]?).join=some v:=Option.some.inj e2'
    have ev':σ[k]?=some (some v):=by
     cases z:σ[k]? with
     | none=>rw[z] at ev;cases ev
     | some w'=>rw[z] at ev;exact congrArg some ev
    have eN:X.N[k]?=some x:=by
     have z:=congrArg (fun l=>l[i - tn.length]?) ok.ixs
     rw[List.getElem?_map,List.getElem?_map,ek,e1'] at z
     rw[hN]
     exact Option.some.inj z
    have hfx:sc.names.lookup x=some .free:=ok.fns x (List.mem_of_getElem? e1')
    have hmem:=Hc hfx
    have hkind:X.env.scope.names.lookup x=some .cell\/X.env.scope.names.lookup x=some .free:=by rw[hsc];exact ok.frees _ hmem rfl
    obtain ⟨m,hn,hl⟩:=I2.loc
    obtain ⟨u,r,lk⟩:=hl k x v eN ev' (.inr hkind)
    refine ⟨u,r,.inr ⟨?_,?_⟩⟩
    ·show (relabel sc X.env).names.lookup x=some .cell\/(relabel sc X.env).names.lookup x=some .free
     rw[Jq,hfx,Option.map_some]
     unfold DB
     split
     ·exact .inl rfl
     ·exact .inr rfl
    ·rcases lk with ⟨z,_⟩ | ⟨_,c,ec,o,ho,hd⟩
     ·have z':X.env.scope.names.lookup x=some .local:=z
      rw[z'] at hkind
      rcases hkind with w' | w'<;>cases w'
     ·obtain ⟨c',hc'⟩:=hall _ hmem rfl
      have ecc:=hsub _ _ hc'
      rw[ec] at ecc
      cases ecc
      refine ⟨c,?_,o,old _ _ ho,hd⟩
      show (CK sc g1.objs.size++cl).lookup x=some c
      rw[Hz (KM ok hfx (fun z=>nomatch z))]
      exact hc'
  ·rcases Di e with e | ⟨_,e⟩
   ·exact ⟨_,(okc.empty x c (PySem.mem_of_lookup e)).1⟩
   ·obtain ⟨v,o,ho,hd⟩:=I2.cell x c (hsub x c e)
    exact ⟨v,o,old _ _ ho,hd⟩
  ·show (upd H2 s2.heap.objs.size (.lst [])) g1.objs.size=none
   rw[AR (Ne.symm hlC)]
   exact I2.hok.fresh hCle
  ·show (upd H2 s2.heap.objs.size (.lst [])) c=none
   rcases Di e with e | ⟨_,e⟩
   ·have hc:=(okc.empty x c (PySem.mem_of_lookup e)).2
    rw[hC] at hc
    rw[AR (Nat.ne_of_gt (Nat.lt_of_lt_of_le (Nat.lt_of_lt_of_le (Nat.lt_succ_self _) (Nat.le_succ _)) hc))]
    exact I2.hok.fresh (Nat.le_trans (Nat.le_trans (Nat.le_succ _) (Nat.le_succ _)) hc)
   ·have hfc:=I2.freeC x c (hsub x c e)
    obtain ⟨v,o,ho,_⟩:=I2.cell x c (hsub x c e)
    rw[AR (Nat.ne_of_lt (Heap.lt_size ho))]
    exact hfc
  ·exact nomatch hp
  ·exact I2.hok.laid old (Nat.le_refl _) ⟨Nat.zero_le _,[],_,.nil,hnew⟩
  ·rw[Ot,hixl]
   show _=(tn++fn).length
   rw[List.length_append]
 have fpY:∀ {H':Hp},(∀ b∈fp,H' b=none)->∀ b∈fp,B5 (Bx (xe s2 H2 cl g1.objs.size fp) X (tn++fn) sc s2 H2 cl g1.objs.size fp) [] H' b:=fun hn b hb=>
  ⟨hn b hb,(cok.exf b hb).1,cok.exfs b hb,.inl hb,fun x c e=>(cok.exf b hb).2 x c e,fun p hp=>nomatch hp⟩
 have fr0:∀ b∈fp,(upd H2 s2.heap.objs.size (.lst [])) b=none:=fun b hb=>by
  rw[AR (Nat.ne_of_lt (lt b hb))]
  exact (f2 b hb).1
 have loop:codeAny (model X.prog X.w) X.A (.compLoop (.ListComp elt [⟨tg,src,tests,0⟩] sc cp) 0 (.ref it) (.ref s2.heap.objs.size) (compEnvC sc (CK sc g1.objs.size++cl) g1.objs.size X.env)) (RR (.ref s2.heap.objs.size) g1.objs.size)
   {s2 with heap:=h1}:=by
  obtain ⟨W,⟨m0,w0⟩,turn⟩:=h s2.heap.objs.size hl0
  refine Pb (Xn:=xe s2 H2 cl g1.objs.size fp) (fun n s'=>∃ i σ' H',Inv (Bx (xe s2 H2 cl g1.objs.size fp) X (tn++fn) sc s2 H2 cl g1.objs.size fp) [] σ' H' s'/\tu i s'.heap/\(∀ b∈fp,H' b=none)/\W i n σ' H') (fun e s8 z=>hXX g1.objs.size _ e s8 hCle z) ?_ m0
   ⟨0,_,_,YI,T.keep _ _ _ st2 fun b _ o e=>old b o e,fr0,w0⟩
  rintro n s3 ⟨i,σ3,H3,I3,st3,fr3,w3⟩
  rcases turn i n σ3 H3 w3 with ⟨stop,qn⟩ | ⟨go,Nx,hNx,step⟩
  ·refine thn (T.done (Bx (xe s2 H2 cl g1.objs.size fp) X (tn++fn) sc s2 H2 cl g1.objs.size fp) rfl rfl rfl hc i [] s3 σ3 H3 _ I3 (fpY fr3) st3 stop) fun r s4 hh_=>?_
   obtain ⟨hr,I4⟩:=hh_
   subst hr
   obtain ⟨m,hn,_⟩:=I4.loc
   have IX:Inv X pins σ H3 s4:=I2.call' (ch:=fp) I4.os I4.base I4.hok I4.bare fun b hb=>by
    obtain ⟨_,a1,_,a3,a4,a5⟩:=f2 b hb
    exact ⟨a3,a1,a4,a5⟩
   exact hRR _ _ s4 H3 m IX hn (I2.fpOk hCle I4.free) qn
  ·refine thn (T.item (Bx (xe s2 H2 cl g1.objs.size fp) X (tn++fn) sc s2 H2 cl g1.objs.size fp) rfl rfl rfl hc i [] s3 σ3 H3 _ I3 (fpY fr3) st3 go) fun r s4 hh_=>?_
   obtain ⟨u,hr,h4⟩:=hh_
   subst hr
   refine thn h4 fun _ s5 hh_=>?_
   obtain ⟨x,H5,I5,r5,y5,st5,fr5⟩:=hh_
   have I5':=I5.pinned (fpY fr5) (T.obj _ _ st5)
   refine thn (hg _ _ _ _ _ _ s5 σ3 H5 x u _ I5' r5 (step x H5 y5)) fun _ s6 hh_=>?_
   obtain ⟨σ6,H6,I6,q6⟩:=hh_
   refine thn (ht _ _ _ _ _ _ s6 σ6 H6 _ I6 q6) fun b s7 hh_=>?_
   obtain ⟨H7,I7,q7⟩:=hh_
   have again:∀ {s8:Shared} {H8:Hp},Inv (Bx (xe s2 H2 cl g1.objs.size fp) X (tn++fn) sc s2 H2 cl g1.objs.size fp) ([]++FA fp s5.heap) σ6 H8 s8->Nx σ6 H8 ->
     ∃ m,m<n/\∃ i σ' H',Inv (Bx (xe s2 H2 cl g1.objs.size fp) X (tn++fn) sc s2 H2 cl g1.objs.size fp) [] σ' H' s8/\tu i s8.heap/\(∀ b∈fp,H' b=none)/\W i m σ' H':=fun {s8 H8} I8 n8=>by
    obtain ⟨m',hm,w8⟩:=hNx σ6 H8 n8
    refine ⟨m',hm,i+1,σ6,H8,I8.unpinned,T.keep _ _ _ st5 fun b hb o e=>(I8.pin (b,o) (List.mem_append_right _ (List.mem_append_right _ (FV hb e)))).1,fun b hb=>?_,w8⟩
    obtain ⟨o,e,_⟩:=T.obj _ _ st5 b hb
    exact (I8.pin (b,o) (List.mem_append_right _ (List.mem_append_right _ (FV hb e)))).2.1
   cases b with
   | false=>
    rw[if_neg Bool.false_ne_true] at q7 ⊢
    exact again I7 q7
   | true=>
    rw[if_pos rfl] at q7 ⊢
    refine thn (he _ _ _ _ _ _ s7 σ6 H7 _ I7 q7) fun y s8 hh_=>?_
    obtain ⟨v,H8,I8,r8,xs,hx,hz,n8⟩:=hh_
    refine thn (JW _ s8 σ6 H8 (.ref s2.heap.objs.size) [v] (.ref s2.heap.objs.size) [y] (fun _ H9=>Nx σ6 H9) I8 rfl (.cons r8 .nil) ⟨_,xs,v,rfl,rfl,hx,hz,n8⟩) fun _ s9 ⟨_,H9,I9,_,q9⟩=>again I9 q9
 exact codeAny_compStart_list loop (T.self _ 0 _ _ _ (T.keep _ _ _ st2 fun b _ o e=>old b o e) loop)
variable {wi:TI}
theorem ND (hc:X.calm=true) (hsc:X.env.scope=esc) (hN:X.N=N) (ok:CompOk sc esc N fn ix) (hi:PI X tg src wi)
  (hg:∀ s2 H2 cl C fp,PG (B0 X (tn++fn) sc s2 H2 cl C fp) tg g)
  (ht:∀ s2 H2 cl C fp,PTs (B0 X (tn++fn) sc s2 H2 cl C fp) tests tc)
  (he:∀ s2 H2 cl C fp,PE (B0 X (tn++fn) sc s2 H2 cl C fp) elt te)
  (hs:∀ x,foldedSetIterable src X.env x=pure x:=by intro _;rfl):PE X (.ListComp elt [⟨tg,src,tests,0⟩] sc cp) (II wi tn.length ix g tc te):=by
 intro pins s σ H Q I h
 rw[eval_ListComp]
 obtain ⟨cl,hcl,hsub,hall⟩:=Lm (sc:=sc) (ev:=X.env) fun x hx hf=>I.ok.has x.1 (by have z:=ok.frees x hx hf;rw[<-hsc] at z;exact z)
 refine wpAny_comprehension_free (use:=none) rfl hs hcl ok.kind ok.locs (thn (hi pins s σ H _ I h) fun xv s1 h1=>thn h1 fun itv s2 h2=>?_)
 obtain ⟨it,fp,tu,J,H2,e,I2,T,st2,f2,hq⟩:=h2
 subst e
 refine JN (xe:=fun _ _ _ _ _ _ _=>False) (q:=fun l H'=>Q (.ref l) H') (RR:=fun acc C=>compPost (model X.prog X.w) X.A X.xe none (EP X pins σ Q) acc C) hc hsc hN ok hsub hall hg ht he I2 T st2 f2 hq (fun _ _ _ _ _ z=>z.elim) fun C l s4 H3 m I4 hn fC q4=>?_
 obtain ⟨a0,a1,_,a3,a4,a5⟩:=fC
 exact ⟨m,hn,fun h' sb=>⟨.ref l,H3,I4.turned (t':=s4.toks) (fun b o hb e=>(sb.2 b hb).trans e) a0 a1 a3 a4 a5,rfl,q4⟩⟩
theorem OV {i:Nat} {y:Str} {py sp:Pos} (hnd:X.N.Nodup) (hiy:X.N[i]?=some y) (hy:X.env.scope.names.lookup y=some .local) (hc:X.calm=true) (hsc:X.env.scope=esc) (hN:X.N=N) (ok:CompOk sc esc N fn ix) (hi:PI X tg src wi)
  (hg:∀ s2 H2 cl C fp,PG (B0 X (tn++fn) sc s2 H2 cl C fp) tg g)
  (ht:∀ s2 H2 cl C fp,PTs (B0 X (tn++fn) sc s2 H2 cl C fp) tests tc)
  (he:∀ s2 H2 cl C fp,PE (B0 X (tn++fn) sc s2 H2 cl C fp) elt te)
  (hsw:swapsWith (.ListComp elt [⟨tg,src,tests,0⟩] sc cp) (some (.Name y py)) sp.line X.env=pure true:=by rfl)
  (hs:∀ x,foldedSetIterable src X.env x=pure x:=by intro _;rfl) :
  PS X (.Assign [.Name y py] (.ListComp elt [⟨tg,src,tests,0⟩] sc cp) sp) (fun D σ H=>II wi tn.length ix g tc te σ H fun v H'=>D.nx (σ.set i (some v)) H'):=by
 intro pins s σ H D I h
 rw[exec_Assign_Name_used _ _ _ _ hsw]
 obtain ⟨cl,hcl,hsub,hall⟩:=Lm (sc:=sc) (ev:=X.env) fun x hx hf=>I.ok.has x.1 (by have z:=ok.frees x hx hf;rw[<-hsc] at z;exact z)
 refine wpAny_bind (wpAny_standAt (wpAny_bind ?_))
 show wpAny _ X.A (do let _ <-comprehension (.ListComp elt [⟨tg,src,tests,0⟩] sc cp) sc X.env _ (newList []) false (eval src X.env) (some (assign (.Name y py) X.env))) _ _ s
 refine wpAny_bind (wpAny_mono (wpAny_comprehension_free (use:=some (assign (.Name y py) X.env)) (Q:=fun _ s'=>SP X pins D .next s') rfl hs hcl ok.kind ok.locs
  (thn (hi pins s σ H _ I h) fun xv s1 h1=>thn h1 fun itv s2 h2=>?_)) (fun _ s' hq=>wpAny_pure (wpAny_pure hq)) fun _ _ e=>e)
 obtain ⟨it,fp,tu,J,H2,e,I2,T,st2,f2,hq⟩:=h2
 subst e
 refine JN (xe:=fun _ _ _ _ _ _ _=>False) (q:=fun l H'=>D.nx (σ.set i (some (.ref l))) H') (RR:=fun acc C=>compPost (model X.prog X.w) X.A X.xe (some (assign (.Name y py) X.env)) (fun _ s'=>SP X pins D .next s') acc C) hc hsc hN ok hsub hall hg ht he I2 T st2 f2 hq (fun _ _ _ _ _ z=>z.elim) fun C l s4 H3 m I4 hn fC q4=>?_
 obtain ⟨a0,a1,_,a3,a4,a5⟩:=fC
 refine wpAny_assign_Name (LO I4 hnd hiy (.inl hy) (v:=.ref l) rfl (fun s5 I5 hh_=>?_) (.inr hy))
 obtain ⟨a,sb,ha⟩:=hh_
 have hCa:C≠a:=by
  rcases ha with z | z
  ·rw[z];exact a1
  ·exact Ne.symm (a4 y a z)
 refine ⟨m,hn.sameBut sb hCa,fun h' sb'=>⟨_,H3,I5.turned (t':=s5.toks) (fun b o hb e=>(sb'.2 b hb).trans e) a0 a1 a3 a4 a5,q4⟩⟩
end
theorem Oy {J:It} {g:TG} {tc:TT} {te:TE} {l:Addr} {q:Hp->Prop} {σ:St} {H:Hp} (n:Nat) (Pv:Nat->St->Hp->Prop) (h0:Pv 0 σ H) (hgo:∀ i σ H,i<n->Pv i σ H->J.go i H) (hstop:∀ σ H,Pv n σ H->J.stop n H)
  (hs:∀ i x σ H H',i<n->Pv i σ H->J.yld i H x H'->g x σ H' fun σ2 H2=>tc σ2 H2 fun b H3=>
   if b=true then te σ2 H3 fun v H4=>∃ xs,H4 l=some (.lst xs)/\xs.length<sizeLine/\Pv (i+1) σ2 (upd H4 l (.lst (xs++[v]))) else Pv (i+1) σ2 H3)
  (hd:∀ σ H,Pv n σ H->q H):Ig J g tc te l q σ H:=by
 refine ⟨fun i m σ H=>m=n - i/\i<=n/\Pv i σ H,⟨n,by simp,Nat.zero_le _,h0⟩,?_⟩
 rintro i m σ H ⟨rfl,hi,p⟩
 by_cases hlt:i<n
 ·exact .inr ⟨hgo i σ H hlt p,Pv (i+1),fun σ' H' p'=>⟨n - (i+1),by lia,rfl,hlt,p'⟩,fun x H' y=>hs i x σ H H' hlt p y⟩
 ·have e:i=n:=by lia
  subst e
  exact .inl ⟨hstop σ H p,hd σ H p⟩
theorem Rq {J:It} {g:TG} {tb:TS} {D:Ends} {σ:St} {H:Hp} (n:Nat) (Pv:Nat->St->Hp->Prop) (h0:Pv 0 σ H) (hgo:∀ i σ H,i<n->Pv i σ H->J.go i H) (hstop:∀ σ H,Pv n σ H->J.stop n H)
  (hs:∀ i x σ H H',i<n->Pv i σ H->J.yld i H x H'->g x σ H' fun σ2 H2=>tb {D with nx:=Pv (i+1),ct:=Pv (i+1),bk:=D.nx} σ2 H2) (hd:∀ σ H,Pv n σ H->D.nx σ H) :
  ∃ W:Nat->Nat->St->Hp->Prop,(∃ m,W 0 m σ H)/\∀ i m σ H,W i m σ H ->
   (J.stop i H/\D.nx σ H)\/(J.go i H/\∃ N:St->Hp->Prop,(∀ σ' H',N σ' H'->∃ m',m'<m/\W (i+1) m' σ' H')/\∀ x H',J.yld i H x H'->g x σ H' fun σ2 H2=>tb {D with nx:=N,ct:=N,bk:=D.nx} σ2 H2):=by
 refine ⟨fun i m σ H=>m=n - i/\i<=n/\Pv i σ H,⟨n,by simp,Nat.zero_le _,h0⟩,?_⟩
 rintro i m σ H ⟨rfl,hi,p⟩
 by_cases hlt:i<n
 ·exact .inr ⟨hgo i σ H hlt p,Pv (i+1),fun σ' H' p'=>⟨n - (i+1),by lia,rfl,hlt,p'⟩,fun x H' y=>hs i x σ H H' hlt p y⟩
 ·have e:i=n:=by lia
  subst e
  exact .inl ⟨hstop σ H p,hd σ H p⟩
section
variable {X:Cx} {pins:List (Addr×Obj)} {σ:St} {H:Hp} {s:Shared} {g:Heap}
theorem Inv.turnL {ch:List Addr} {t':Nat} (I:Inv X pins σ H s) (hf:∀ b∈ch,B5 X pins H b) (k:∀ b o,b∉ch->s.heap.get? b=some o->g.get? b=some o):Inv X pins σ H {s with heap:=g,toks:=t'}:=by
 refine I.step (g':=s.gens) (d':=s.drawn) (ch:=ch) (fun b hb=>?_) (fun b o _ _ hc e _=>k b o hc e) (fun b o _ _ hc e _=>⟨o.slots,k b o hc e⟩) (fun _ _ _ _ n=>n)
  (fun b o hc e=>⟨o,k b o hc e⟩) (fun _ _ e=>e) (fun _ _ _ e=>e) (fun b ps e=>⟨#[],by rw[e];simp⟩) (fun m hm=>?_) (fun b u e=>?_) I.bare
 ·obtain ⟨_,a1,_,a3,a4,a5⟩:=hf b hb
  exact ⟨a3,a1,a4,a5⟩
 ·obtain ⟨o,es,ep,ho,r⟩:=hm
  exact ⟨o,es,ep,k _ o (fun z=>(hf _ z).2.1 rfl) ho,r⟩
 ·refine (I.hok b u e).stay (fun c v hc q=>k c v (fun z=>?_) q) (fun _ q=>q) fun _ _ q=>q
  have n:=(hf c z).1
  rcases hc with y | y
  ·rw[y,e] at n;cases n
  ·rw[n] at y;cases y
theorem Inv.turnLay {ch:List Addr} {T:Addr} {o:HO} {t':Nat} (I:Inv X pins σ H s) (hf:∀ b∈ch,B5 X pins H b) (k:∀ b u,b∉ch->s.heap.get? b=some u->g.get? b=some u) (hT:s.heap.objs.size<=T)
  (new:ObjOk X.prog X.w (upd H T o) g T o):Inv X pins σ (upd H T o) {s with heap:=g,toks:=t'}:=by
 have hn:H T=none:=I.hok.fresh hT
 have lt:∀ b u,s.heap.get? b=some u->b≠T:=fun b u e=>Nat.ne_of_lt (Nat.lt_of_lt_of_le (Heap.lt_size e) hT)
 refine I.step (g':=s.gens) (d':=s.drawn) (ch:=ch) (fun b hb=>?_) (fun b o _ _ hc e _=>k b o hc e) (fun b o _ _ hc e _=>⟨o.slots,k b o hc e⟩) (fun b u _ e n=>by rw[AR (lt b u e)];exact n)
  (fun b o hc e=>⟨o,k b o hc e⟩) (fun b xs e=>by rw[AR (BU e hn)];exact e) (fun b _ xs e=>by rw[AR (BU e hn)];exact e) (fun b ps e=>⟨#[],by rw[AR (BU e hn),e];simp⟩) (fun m hm=>?_) (fun b u e=>?_) I.bare
 ·obtain ⟨_,a1,_,a3,a4,a5⟩:=hf b hb
  exact ⟨a3,a1,a4,a5⟩
 ·obtain ⟨o,es,ep,ho,r⟩:=hm
  exact ⟨o,es,ep,k _ o (fun z=>(hf _ z).2.1 rfl) ho,r⟩
 ·by_cases hb:b=T
  ·subst hb;rw[BA] at e;cases e;exact new
  ·rw[AR hb] at e
   refine (I.hok b u e).stay (fun c v hc q=>k c v (fun z=>?_) q) (fun c q=>by rw[AR (BU q hn)];exact q) fun c xs q=>by rw[AR (BU q hn)];exact q
   have n:=(hf c z).1
   rcases hc with y | y
   ·rw[y,e] at n;cases n
   ·rw[n] at y;cases y
theorem LH:(2:Nat)<=sizeLine:=by decide
theorem PI.or {tg src:Expr} {w1 w2:TI} (a:PI X tg src w1) (b:PI X tg src w2):PI X tg src (fun σ H R=>w1 σ H R\/w2 σ H R):=fun pins s σ H R I h=>
 h.elim (fun z=>a pins s σ H R I z) fun z=>b pins s σ H R I z
end
def Ite (K:PySem.W.Frag) (l:Addr):It:=
 ⟨fun i H=>∃ xs x,SqL K H l xs/\xs[i]?=some x,fun i H v H'=>∃ T x,H T=none/\v=.ref T/\H'=upd H T (.tup [.int i,x])/\∀ xs,SqL K H l xs->xs[i]?=some x,fun i H=>∃ xs,SqL K H l xs/\xs.length<=i⟩
theorem Qf {P:Program} {w:World} {K:PySem.W.Frag} {elts:List Expr} {k:Nat} {tp:Pos} (l e it:Addr) (hne:e≠it) :
  Turn P w K (.Tuple elts k tp) (Ite K l) [e,it] e (fun i h=>(∃ old,IsEnum h e it (i:Nat) old)/\h.IsListIter it l i) where
 mem:=by simp
 obj:=fun i h st b hb=>by
  obtain ⟨⟨old,he⟩,hi⟩:=st
  rcases List.mem_cons.mp hb with z | z
  ·subst z
   exact ⟨_,he,fun v q=>by
    have q':Data.fields _=Data.cell v:=q
    cases q'⟩
  ·have z':b=it:=by simpa using z
   subst z'
   obtain ⟨o,e,c,d⟩:=hi
   exact ⟨o,e,fun v q=>by rw[d] at q;cases q⟩
 keep:=fun i h h' st kk=>by
  obtain ⟨⟨old,he⟩,hi⟩:=st
  exact ⟨⟨old,kk e (by simp) _ he⟩,hi.at fun o q=>kk it (by simp) o q⟩
 item:=by
  intro X hP hw hK hc i pins s σ H E I hf st hg
  subst hP hw hK
  obtain ⟨xs,x,hq,hx⟩:=hg
  obtain ⟨its,rv,p,hz⟩:=I.list hq
  obtain ⟨u,hu,ru⟩:=rv.get hx
  obtain ⟨⟨old,he⟩,hit⟩:=st
  have le:e<s.heap.objs.size:=Heap.lt_size he
  have li:it<s.heap.objs.size:=by obtain ⟨_,q,_⟩:=hit;exact Heap.lt_size q
  refine wpAny_pyNext_enum_item he hit p.isList (x:=u) (by simpa using hu) hne fun h1 ho hit1 hT hsz hk=>?_
  refine ⟨_,rfl,wpAny_letOwnedTupleGo_enum ho fun h2 he2 hs2=>?_⟩
  replace hs2:Heap.SameBut e h1 h2:=hs2
  have up:∀ b o,b∉[e,it]->s.heap.get? b=some o->h2.get? b=some o:=fun b o hb q=>(hs2.2 b (fun z=>hb (by simp[z]))).trans (hk b o (fun z=>hb (by simp[z])) (fun z=>hb (by simp[z])) q)
  have hT2:h2.get? s.heap.objs.size=some {cls:=.type "tuple",data:=.seq #[.int i s.toks,u]}:=(hs2.2 _ (Nat.ne_of_gt le)).trans hT
  refine ⟨.ref s.heap.objs.size,upd H s.heap.objs.size (.tup [.int i,x]),I.turnLay (ch:=[e,it]) (t':=s.toks+1) hf up (Nat.le_refl _) ⟨LH,[.int i s.toks,u],.cons ⟨_,rfl⟩ (.cons ru .nil),⟨_,hT2,rfl,_,rfl⟩⟩,rfl,
   ⟨_,x,I.fresh,rfl,rfl,fun ys hy=>by rw[I.list_inj hy hq];exact hx⟩,⟨⟨u,by simpa using he2⟩,hit1.at fun o q=>(hs2.2 it (Ne.symm hne)).trans q⟩,fun b hb=>?_⟩
  have hlt:b<s.heap.objs.size:=by
   rcases List.mem_cons.mp hb with z | z
   ·rw[z];exact le
   ·have z':b=it:=by simpa using z
    rw[z'];exact li
  rw[AR (Nat.ne_of_lt hlt)]
  exact (hf b hb).1
 done:=by
  intro X hP hw hK hc i pins s σ H E I hf st hg
  subst hP hw hK
  obtain ⟨xs,hq,hx⟩:=hg
  obtain ⟨its,rv,p,hz⟩:=I.list hq
  obtain ⟨⟨old,he⟩,hit⟩:=st
  have hl:=rv.length
  exact wpAny_pyNext_enum_end (I.ok.hd hc) he hit p.isList (by simp;lia) fun h1 eb=>⟨rfl,I.turnL (ch:=[e,it]) (t':=s.toks) hf fun b o hb q=>eb b o (fun z=>hb (by simp[z])) q⟩
 self:=fun A i s Q E st h=>by
  obtain ⟨⟨old,he⟩,_⟩:=st
  exact wpAny_pyIter_enum he h
def Nk (K:PySem.W.Frag) (ta:TA):TI:=fun σ H R=>ta σ H fun vs H1=>∃ l xs,vs=[.ref l]/\SqL K H1 l xs/\R (Ite K l) H1
theorem PH {X:Cx} {a:Expr} {ta:TA} {p cp tp:Pos} {elts:List Expr} {k:Nat} (hg:Gl X "enumerate") (hm:X.mg "enumerate"=none) (ha:PA X [a] ta) (hs:starEach [a] X.env=[(false,eval a X.env)]:=by rfl) :
  PI X (.Tuple elts k tp) (.Call (.Name "enumerate" p) [a] [] cp) (Nk X.K ta):=by
 intro pins s σ H R I h
 refine Call_ (Ez I hg hm boot_enumerate (PyProof.Rows.callWith_type1 (thn (ha cp pins s σ H _ I h) fun us s1 hh_=>?_) hs rfl))
 obtain ⟨vs,H1,I1,r1,q1⟩:=hh_
 obtain ⟨l,xs,e,hq,q⟩:=q1
 subst e
 cases r1 with
 | cons r rr=>
  cases rr
  cases r
  obtain ⟨its,rv,pl,hz⟩:=I1.list hq
  refine call_enumerate_list pl.isList fun h1 he hit hsz hk=>wpAny_pyIter_enum he ?_
  refine ⟨s1.heap.objs.size+1,[s1.heap.objs.size+1,s1.heap.objs.size],_,_,H1,rfl,I1.kept (t':=s1.toks) hk,Qf l _ _ (Nat.succ_ne_self _),⟨⟨_,by simpa using he⟩,hit⟩,fun b hb=>?_,q⟩
  have hle:s1.heap.objs.size<=b:=by
   rcases List.mem_cons.mp hb with z | z
   ·rw[z];exact Nat.le_succ _
   ·have z':b=s1.heap.objs.size:=by simpa using z
    rw[z'];exact Nat.le_refl _
  exact I1.fpOk hle (I1.hok.fresh hle)
section
variable {prog:Program} {w:World} {A:Around} {E:Value->Shared->Prop} {s:Shared}
end
section
variable {prog:Program} {w:World} {A:Around} {E:Value->Shared->Prop} {s:Shared}
end
structure SeqK (P:Program) (w:World) (c:List V->HO) (IsS:Heap->Addr->Array Value->Prop) (IsI:Heap->Addr->Addr->Nat->Prop):Prop where
 inj:∀ xs ys,c xs=c ys->xs=ys
 rd:∀ {H:Hp} {h:Heap} {a:Addr} {xs:List V},HOk P w H h->H a=some (c xs)->∃ its:List Value,Vals xs its/\IsS h a its.toArray
 at_:∀ {h g:Heap} {a:Addr} {v:Array Value},IsS h a v->(∀ o,h.get? a=some o->g.get? a=some o)->IsS g a v
 iat:∀ {h g:Heap} {a l:Addr} {i:Nat},IsI h a l i->(∀ o,h.get? a=some o->g.get? a=some o)->IsI g a l i
 iob:∀ {h:Heap} {a l:Addr} {i:Nat},IsI h a l i->∃ o,h.get? a=some o/\∀ v,o.data≠.cell v
 nx:∀ {A:Around} {s:Shared} {E:Value->Shared->Prop} {Q:Value->Shared->Prop} {it l:Addr} {i:Nat} {its:Array Value} {x:Value},IsI s.heap it l i->IsS s.heap l its->its[i]?=some x ->
  (∀ g,IsI g it l (i+1)->Heap.SameBut it s.heap g->Q x {s with heap:=g})->wpAny (model P w) A (Builtin.SmallTypes.nextOf (.ref it)) Q E s
 nd:∀ {A:Around} {s:Shared} {E:Value->Shared->Prop} {Q:Value->Shared->Prop} {it l:Addr} {i:Nat} {its:Array Value},A.handled=none->IsI s.heap it l i->IsS s.heap l its->its[i]?=none ->
  (∀ g e,Heap.ExtBut it s.heap g->(∃ o,g.get? e=some o/\o.cls=.type "StopIteration")->E (.ref e) {s with heap:=g})->wpAny (model P w) A (Builtin.SmallTypes.nextOf (.ref it)) Q E s
end L2
namespace EvS
open PySem PyProof.Rows
abbrev SM:=StateT SortSt Sem
def gal:Bool->Keyed->Array Keyed->Nat->Nat->Nat->SM (Option Nat):=sortPriv% PySem.Builtin.gallop
def mLo:Array Keyed->Array Keyed->SM (Array Keyed):=sortPriv% PySem.Builtin.mergeLo
def mHi:Array Keyed->Array Keyed->SM (Array Keyed):=sortPriv% PySem.Builtin.mergeHi
abbrev setG (st:SortSt) (g:Nat):SortSt:=SortSt.mk' (kindOf st) (arrOf st) (pendingOf st) g (failedOf st)
def byd (left:Bool) (key:Keyed) (xs:Array Keyed) (b i:Nat):SM (Option Bool):=do
 let x <-elem' xs (b+i)
 if left then lt' x key else return (<-lt' key x).map (!·)
def KZ (left:Bool) (key:Keyed) (xs:Array Keyed) (b n lo0 hi0:Nat):SM (Option Nat):=do
 let mut lo:=lo0
 let mut hi:=hi0
 for _ in [0:n] do
  if lo>=hi then break
  let m:=lo+(hi - lo) / 2
  let some mo <-byd left key xs b m | return none
  if mo then lo:=m+1 else hi:=m
 return some hi
theorem Tv (left:Bool) (key:Keyed) (xs:Array Keyed) (b n h:Nat):gal left key xs b n h=(do
 let mut la:=0
 let mut of:=1
 let mut lo:=0
 let mut hi:=0
 let some right <-byd left key xs b h | return none
 if right then
  let mx:=n - h
  for _ in [0:n] do
   if of>=mx then break
   let some mo <-byd left key xs b (h+of) | return none
   if !mo then break
   la:=of
   of:=2 * of+1
  lo:=h+la+1
  hi:=h+min of mx
 else
  let mx:=h+1
  for _ in [0:n] do
   if of>=mx then break
   let some fo <-byd left key xs b (h - of) | return none
   if fo then break
   la:=of
   of:=2 * of+1
  lo:=h+1 - min of mx
  hi:=h - la
 for _ in [0:n] do
  if lo>=hi then break
  let m:=lo+(hi - lo) / 2
  let some mo <-byd left key xs b m | return none
  if mo then lo:=m+1 else hi:=m
 return some hi):=rfl
structure Cmp (prog:Program) (w:World) (A:Around) (E:Value->Shared->Prop) (s:Shared) (kd:SortKind) (good:Keyed->Prop) (lt:Keyed->Keyed->Bool):Prop where
 run:∀ {st:SortSt} {x y:Keyed} {Q:Option Bool->SortSt->Prop},kindOf st=kd->good x->good y->Q (some (lt x y)) st->wpS (model prog w) A E s (lt' x y) Q st
def bq (lt:Keyed->Keyed->Bool) (left:Bool) (key x:Keyed):Bool:=if left then lt x key else !lt key x
section
variable {prog:Program} {w:World} {A:Around} {E:Value->Shared->Prop} {s:Shared} {kd:SortKind} {good:Keyed->Prop} {lt:Keyed->Keyed->Bool} {st:SortSt}
theorem BB {xs:Array Keyed} {i:Nat} {x:Keyed} {Q:Keyed->SortSt->Prop} (hx:xs[i]?=some x) (h:Q x st):wpS (model prog w) A E s (elem' xs i) Q st:=by
 rw[elem'_eq,hx]
 exact wpS_pure h
theorem Ff (C:Cmp prog w A E s kd good lt) {left:Bool} {key x:Keyed} {xs:Array Keyed} {b i:Nat} {Q:Option Bool->SortSt->Prop} (hk:kindOf st=kd) (hg:good key) (hx:xs[b+i]?=some x) (hgx:good x)
  (h:Q (some (bq lt left key x)) st):wpS (model prog w) A E s (byd left key xs b i) Q st:=by
 unfold byd
 refine wpS_bind (BB hx ?_)
 cases left with
 | true=>
  simp only[if_true]
  exact C.run hk hgx hg h
 | false=>
  simp only[Bool.false_eq_true,if_false]
  exact wpS_bind (C.run hk hg hgx (wpS_pure h))
variable {left:Bool} {key:Keyed} {xs:Array Keyed} {b n:Nat} {B:Nat->Bool} {Q:Option Nat->SortSt->Prop}
theorem Lu (C:Cmp prog w A E s kd good lt) (hk:kindOf st=kd) (hg:good key) (hall:∀ i,i<n->∃ x,xs[b+i]?=some x/\good x/\bq lt left key x=B i)
  (hB:∀ i j,i<=j->j<n->B j=true->B i=true) {lo hi:Nat} (h1:lo<=hi) (h2:hi<=n) (hlo:∀ i,i<lo->B i=true) (hhi:∀ i,hi<=i->i<n->B i=false)
  (hQ:∀ k,k<=n->(∀ i,i<k->B i=true)->(∀ i,k<=i->i<n->B i=false)->Q (some k) st):wpS (model prog w) A E s (KZ left key xs b n lo hi) Q st:=by
 unfold KZ
 refine wpS_bind (wpS_mono (wpS_forRange (I:=fun x c st'=>st'=st/\∃ l r,c=(none,l,r)/\l<=r/\r<=n/\r - l<=n - x/\(∀ i,i<l->B i=true)/\(∀ i,r<=i->i<n->B i=false))
  (Q:=fun c st'=>st'=st/\∃ r,c.1=none/\c.2.2=r/\r<=n/\(∀ i,i<r->B i=true)/\(∀ i,r<=i->i<n->B i=false)) ?step ?fin ⟨rfl,lo,hi,rfl,h1,h2,by lia,hlo,hhi⟩) ?post)
 case fin=>
  rintro c st' ⟨rfl,l,r,rfl,a1,a2,a3,a4,a5⟩
  have:l=r:=by lia
  subst this
  exact ⟨rfl,l,rfl,rfl,a2,a4,a5⟩
 case step=>
  rintro x c st' _ hx ⟨rfl,l,r,rfl,a1,a2,a3,a4,a5⟩
  dsimp only
  by_cases hge:l>=r
  ·rw[if_pos hge]
   have:l=r:=by lia
   subst this
   exact wpS_pure ⟨rfl,l,rfl,rfl,a2,a4,a5⟩
  ·rw[if_neg hge]
   obtain ⟨y,e1,e2,e3⟩:=hall (l+(r - l) / 2) (by lia)
   refine wpS_bind (Ff C hk hg e1 e2 ?_)
   rw[e3]
   cases hb:B (l+(r - l) / 2) with
   | true=>
    simp only[if_true]
    refine wpS_pure ⟨rfl,_,r,rfl,by lia,a2,by lia,fun i hi=>?_,a5⟩
    exact hB i (l+(r - l) / 2) (by lia) (by lia) hb
   | false=>
    simp only[Bool.false_eq_true,if_false]
    refine wpS_pure ⟨rfl,l,_,rfl,by lia,by lia,by lia,a4,fun i hi1 hi2=>?_⟩
    cases hbi:B i with
    | false=>rfl
    | true=>rw[hB _ i hi1 hi2 hbi] at hb;cases hb
 case post=>
  rintro ⟨c1,c2,c3⟩ st' ⟨rfl,r,e1,e2,a2,a4,a5⟩
  dsimp only at e1 e2
  subst e1 e2
  exact wpS_pure (hQ _ a2 a4 a5)
theorem Q1 (C:Cmp prog w A E s kd good lt) (hk:kindOf st=kd) (hg:good key) (hall:∀ i,i<n->∃ x,xs[b+i]?=some x/\good x/\bq lt left key x=B i)
  (hB:∀ i j,i<=j->j<n->B j=true->B i=true) {h:Nat} (hh:h<n)
  (hQ:∀ k,k<=n->(∀ i,i<k->B i=true)->(∀ i,k<=i->i<n->B i=false)->Q (some k) st):wpS (model prog w) A E s (gal left key xs b n h) Q st:=by
 rw[Tv]
 dsimp only
 have hF:∀ i j,i<=j->j<n->B i=false->B j=false:=fun i j h1 h2 h3=>by
  cases hbj:B j with
  | false=>rfl
  | true=>rw[hB i j h1 h2 hbj] at h3;cases h3
 obtain ⟨y,e1,e2,e3⟩:=hall h hh
 refine wpS_bind (Ff C hk hg e1 e2 ?_)
 rw[e3]
 cases hbh:B h with
 | true=>
  simp only[if_true]
  refine wpS_bind (wpS_mono (wpS_forRange (I:=fun x c st'=>st'=st/\∃ la of,c=(none,la,of)/\la<of/\x+1<=of/\h+la<n/\B (h+la)=true)
   (Q:=fun c st'=>st'=st/\∃ la of,c=(none,la,of)/\la<of/\h+la<n/\B (h+la)=true/\(n - h<=of\/(h+of<n/\B (h+of)=false))) ?step ?fin ⟨rfl,0,1,rfl,by lia,by lia,by lia,hbh⟩) ?post)
  case fin=>
   rintro c st' ⟨rfl,la,of,rfl,a1,a2,a3,a4⟩
   exact ⟨rfl,la,of,rfl,a1,a3,a4,.inl (by lia)⟩
  case step=>
   rintro x c st' _ hx ⟨rfl,la,of,rfl,a1,a2,a3,a4⟩
   dsimp only
   by_cases hge:of>=n - h
   ·rw[if_pos hge]
    exact wpS_pure ⟨rfl,la,of,rfl,a1,a3,a4,.inl hge⟩
   ·rw[if_neg hge]
    obtain ⟨z,f1,f2,f3⟩:=hall (h+of) (by lia)
    refine wpS_bind (Ff C hk hg f1 f2 ?_)
    rw[f3]
    cases hb:B (h+of) with
    | true=>
     simp only[Bool.not_true,Bool.false_eq_true,if_false]
     exact wpS_pure ⟨rfl,of,2 * of+1,rfl,by lia,by lia,by lia,hb⟩
    | false=>
     simp only[Bool.not_false,if_true]
     exact wpS_pure ⟨rfl,la,of,rfl,a1,a3,a4,.inr ⟨by lia,hb⟩⟩
  case post=>
   rintro c st' ⟨rfl,la,of,rfl,a1,a3,a4,a5⟩
   dsimp only
   refine Lu (lo:=h+la+1) (hi:=h+min of (n - h)) C hk hg hall hB (by lia) (by lia) (fun i hi=>hB i (h+la) (by lia) a3 a4) (fun i h1 h2=>?_) hQ
   rcases a5 with z | ⟨z1,z2⟩
   ·lia
   ·exact hF (h+of) i (by lia) h2 z2
 | false=>
  simp only[Bool.false_eq_true,if_false]
  refine wpS_bind (wpS_mono (wpS_forRange (I:=fun x c st'=>st'=st/\∃ la of,c=(none,la,of)/\la<of/\x+1<=of/\la<=h/\B (h - la)=false)
   (Q:=fun c st'=>st'=st/\∃ la of,c=(none,la,of)/\la<of/\la<=h/\B (h - la)=false/\(h+1<=of\/(of<=h/\B (h - of)=true))) ?step ?fin ⟨rfl,0,1,rfl,by lia,by lia,by lia,hbh⟩) ?post)
  case fin=>
   rintro c st' ⟨rfl,la,of,rfl,a1,a2,a3,a4⟩
   exact ⟨rfl,la,of,rfl,a1,a3,a4,.inl (by lia)⟩
  case step=>
   rintro x c st' _ hx ⟨rfl,la,of,rfl,a1,a2,a3,a4⟩
   dsimp only
   by_cases hge:of>=h+1
   ·rw[if_pos hge]
    exact wpS_pure ⟨rfl,la,of,rfl,a1,a3,a4,.inl hge⟩
   ·rw[if_neg hge]
    obtain ⟨z,f1,f2,f3⟩:=hall (h - of) (by lia)
    refine wpS_bind (Ff C hk hg f1 f2 ?_)
    rw[f3]
    cases hb:B (h - of) with
    | true=>
     simp only[if_true]
     exact wpS_pure ⟨rfl,la,of,rfl,a1,a3,a4,.inr ⟨by lia,hb⟩⟩
    | false=>
     simp only[Bool.false_eq_true,if_false]
     exact wpS_pure ⟨rfl,of,2 * of+1,rfl,by lia,by lia,by lia,hb⟩
  case post=>
   rintro c st' ⟨rfl,la,of,rfl,a1,a3,a4,a5⟩
   dsimp only
   refine Lu (lo:=h+1 - min of (h+1)) (hi:=h - la) C hk hg hall hB (by lia) (by lia) (fun i hi=>?_) (fun i h1 h2=>hF (h - la) i h1 h2 a4) hQ
   rcases a5 with z | ⟨z1,z2⟩
   ·lia
   ·exact hB i (h - of) (by lia) (by lia) z2
end
def Cg:Nat->SM Unit:=sortPriv% PySem.Builtin.setMinGallop
theorem GJ (g:Nat):Cg g=modify fun s=>setG s g:=rfl
abbrev dnA (a b o:Array Keyed) (p q:Nat):Array Keyed:=o++a.extract p a.size++b.extract q b.size
abbrev lAA (a b o:Array Keyed) (p q:Nat):Array Keyed:=o++b.extract q b.size++a.extract p a.size
theorem TR (a b:Array Keyed):mLo a b=(do
 rule "list.sort.merge-lo"
 let mut o:Array Keyed:=#[<-elem' b 0]
 let mut p:=0
 let mut q:=1
 if q == b.size then return dnA a b o p q
 if p+1 == a.size then return lAA a b o p q
 let mut mg:=gallopOf (<-get)
 for _ in [0:a.size+b.size] do
  let mut ac:=0
  let mut bc:=0
  for _ in [0:a.size+b.size] do
   let some bw <-lt' (<-elem' b q) (<-elem' a p) | return dnA a b o p q
   if bw then
    o:=o.push (<-elem' b q);q:=q+1;bc:=bc+1;ac:=0
    if q == b.size then return dnA a b o p q
    if bc>=mg then break
   else
    o:=o.push (<-elem' a p);p:=p+1;ac:=ac+1;bc:=0
    if p+1 == a.size then return lAA a b o p q
    if ac>=mg then break
  rule "list.sort.gallop"
  mg:=mg+1
  for _ in [0:a.size+b.size] do
   if mg > 1 then mg:=mg - 1
   Cg mg
   let some k <-gal false (<-elem' b q) a p (a.size - p) 0 | return dnA a b o p q
   ac:=k
   if k > 0 then
    o:=o++a.extract p (p+k);p:=p+k
    if p+1 == a.size then return lAA a b o p q
    if p == a.size then return dnA a b o p q
   o:=o.push (<-elem' b q);q:=q+1
   if q == b.size then return dnA a b o p q
   let some k <-gal true (<-elem' a p) b q (b.size - q) 0 | return dnA a b o p q
   bc:=k
   if k > 0 then
    o:=o++b.extract q (q+k);q:=q+k
    if q == b.size then return dnA a b o p q
   o:=o.push (<-elem' a p);p:=p+1
   if p+1 == a.size then return lAA a b o p q
   if ac<7 && bc<7 then break
  mg:=mg+1
  Cg mg
 unsupported "internal:list.sort.merge-bound"):=rfl
structure Ord (good:Keyed->Prop) (lt:Keyed->Keyed->Bool):Prop where
 tr:∀ {x y z},good x->good y->good z->lt y x=false->lt z y=false->lt z x=false
 tot:∀ {x y},good x->good y->lt x y=true->lt y x=false
abbrev LE (lt:Keyed->Keyed->Bool) (x y:Keyed):Prop:=lt y x=false
structure SL (good:Keyed->Prop) (lt:Keyed->Keyed->Bool) (l:List Keyed):Prop where
 all:∀ x∈l,good x
 srt:l.Pairwise (LE lt)
structure MI (good:Keyed->Prop) (lt:Keyed->Keyed->Bool) (a b o:List Keyed) (p q:Nat):Prop where
 perm:(o++(a.drop p++b.drop q)).Perm (a++b)
 srt:o.Pairwise (LE lt)
 low:∀ x∈o,∀ y∈a.drop p++b.drop q,LE lt x y
 pa:p<=a.length
 qb:q<=b.length
section
variable {good:Keyed->Prop} {lt:Keyed->Keyed->Bool} {a b o:List Keyed} {p q k:Nat} {x:Keyed}
theorem MI.size (m:MI good lt a b o p q):o.length=p+q:=by
 have e:=m.perm.length_eq
 have:=m.pa
 have:=m.qb
 rw[List.length_append,List.length_append,List.length_append,List.length_drop,List.length_drop] at e
 lia
theorem Do {l:List Keyed} {i:Nat} (h:l[i]?=some x):l.drop i=x::l.drop (i+1):=by
 obtain ⟨hi,e⟩:=List.getElem?_eq_some_iff.mp h
 rw[List.drop_eq_getElem_cons hi,e]
theorem SL.from (s:SL good lt a) {i:Nat} (h:a[i]?=some x):∀ y∈a.drop i,y=x\/LE lt x y:=fun y hy=>by
 rw[Do h] at hy
 rcases List.mem_cons.mp hy with z | z
 ·exact .inl z
 ·have hp:(a.drop i).Pairwise (LE lt):=s.srt.sublist (List.drop_sublist _ _)
  rw[Do h] at hp
  exact .inr ((List.pairwise_cons.mp hp).1 y z)
theorem SL.up (s:SL good lt a) {i j:Nat} {y:Keyed} (h:a[i]?=some x) (h':a[j]?=some y) (hij:i<j):LE lt x y:=by
 obtain ⟨hi,e⟩:=List.getElem?_eq_some_iff.mp h
 obtain ⟨hj,e'⟩:=List.getElem?_eq_some_iff.mp h'
 rw[<-e,<-e']
 exact List.pairwise_iff_getElem.mp s.srt i j hi hj hij
theorem SL.good_at (s:SL good lt a) {i:Nat} (h:a[i]?=some x):good x:=s.all x (List.mem_of_getElem? h)
theorem MI.pushA (m:MI good lt a b o p q) (sa:SL good lt a) (h:a[p]?=some x) (hb:∀ y∈b.drop q,LE lt x y):MI good lt a b (o++[x]) (p+1) q:=by
 have hd:=Do h
 obtain ⟨hp,_⟩:=List.getElem?_eq_some_iff.mp h
 refine ⟨?_,?_,?_,hp,m.qb⟩
 ·have e:=m.perm
  rw[hd] at e
  simpa [List.append_assoc] using e
 ·refine List.pairwise_append.mpr ⟨m.srt,List.pairwise_singleton _ _,fun y hy z hz=>?_⟩
  rw[List.mem_singleton] at hz
  subst hz
  exact m.low y hy z (by rw[hd];simp)
 ·intro y hy z hz
  rcases List.mem_append.mp hy with hy | hy
  ·exact m.low y hy z (by rw[hd];rcases List.mem_append.mp hz with w | w<;>simp[w])
  ·rw[List.mem_singleton] at hy
   subst hy
   rcases List.mem_append.mp hz with w | w
   ·have hp2:(a.drop p).Pairwise (LE lt):=sa.srt.sublist (List.drop_sublist _ _)
    rw[hd] at hp2
    exact (List.pairwise_cons.mp hp2).1 z w
   ·exact hb z w
theorem MI.pushB (m:MI good lt a b o p q) (sb:SL good lt b) (h:b[q]?=some x) (ha:∀ y∈a.drop p,LE lt x y):MI good lt a b (o++[x]) p (q+1):=by
 have hd:=Do h
 obtain ⟨hq,_⟩:=List.getElem?_eq_some_iff.mp h
 refine ⟨?_,?_,?_,m.pa,hq⟩
 ·have e:=m.perm
  rw[hd] at e
  refine List.Perm.trans ?_ e
  rw[List.append_assoc]
  refine List.Perm.append_left _ ?_
  show (x::(a.drop p++b.drop (q+1))).Perm (a.drop p++x::b.drop (q+1))
  exact List.perm_middle.symm
 ·refine List.pairwise_append.mpr ⟨m.srt,List.pairwise_singleton _ _,fun y hy z hz=>?_⟩
  rw[List.mem_singleton] at hz
  subst hz
  exact m.low y hy z (by rw[hd];simp)
 ·intro y hy z hz
  rcases List.mem_append.mp hy with hy | hy
  ·exact m.low y hy z (by rw[hd];rcases List.mem_append.mp hz with w | w<;>simp[w])
  ·rw[List.mem_singleton] at hy
   subst hy
   rcases List.mem_append.mp hz with w | w
   ·exact ha z w
   ·have hp2:(b.drop q).Pairwise (LE lt):=sb.srt.sublist (List.drop_sublist _ _)
    rw[hd] at hp2
    exact (List.pairwise_cons.mp hp2).1 z w
theorem MQ {l:List Keyed} {i k:Nat} {x:Keyed} (h:l[i+k]?=some x):(l.drop i).take (k+1)=(l.drop i).take k++[x]:=by
 rw[List.take_add_one,List.getElem?_drop,h]
 rfl
theorem MI.blockA (m:MI good lt a b o p q) (sa:SL good lt a):∀ k,p+k<=a.length->(∀ i y,i<k->a[p+i]?=some y->∀ z∈b.drop q,LE lt y z)->MI good lt a b (o++(a.drop p).take k) (p+k) q
 | 0,_,_=>by simpa using m
 | k+1,hk,h=>by
  have ih:=MI.blockA m sa k (by lia) fun i y hi=>h i y (by lia)
  have e:a[p+k]?=some a[p+k]:=List.getElem?_eq_getElem (by lia)
  have r:=ih.pushA sa e (h k _ (by lia) e)
  rw[List.append_assoc,<-MQ e] at r
  exact r
theorem MI.blockB (m:MI good lt a b o p q) (sb:SL good lt b):∀ k,q+k<=b.length->(∀ i y,i<k->b[q+i]?=some y->∀ z∈a.drop p,LE lt y z)->MI good lt a b (o++(b.drop q).take k) p (q+k)
 | 0,_,_=>by simpa using m
 | k+1,hk,h=>by
  have ih:=MI.blockB m sb k (by lia) fun i y hi=>h i y (by lia)
  have e:b[q+k]?=some b[q+k]:=List.getElem?_eq_getElem (by lia)
  have r:=ih.pushB sb e (h k _ (by lia) e)
  rw[List.append_assoc,<-MQ e] at r
  exact r
def Good (lt:Keyed->Keyed->Bool) (a b:List Keyed) (r:List Keyed):Prop:=r.Perm (a++b)/\r.Pairwise (LE lt)
theorem MI.done (m:MI good lt a b o p q) (sa:SL good lt a) (sb:SL good lt b) (h:a.drop p=[]\/b.drop q=[]):Good lt a b (o++a.drop p++b.drop q):=by
 refine ⟨by rw[List.append_assoc];exact m.perm,?_⟩
 rw[List.append_assoc]
 refine List.pairwise_append.mpr ⟨m.srt,?_,m.low⟩
 rcases h with h | h
 ·rw[h,List.nil_append];exact sb.srt.sublist (List.drop_sublist _ _)
 ·rw[h,List.append_nil];exact sa.srt.sublist (List.drop_sublist _ _)
theorem MI.last (m:MI good lt a b o p q) (sb:SL good lt b) (h:a[p]?=some x) (hp:p+1=a.length) (hx:∀ y∈b,LE lt y x):Good lt a b (o++b.drop q++a.drop p):=by
 have hd:a.drop p=[x]:=by rw[Do h,List.drop_eq_nil_of_le (by lia)]
 constructor
 ·refine List.Perm.trans ?_ m.perm
  rw[List.append_assoc]
  exact List.Perm.append_left _ List.perm_append_comm
 ·rw[List.append_assoc]
  refine List.pairwise_append.mpr ⟨m.srt,?_,fun y hy z hz=>m.low y hy z (by rcases List.mem_append.mp hz with w | w<;>simp[w])⟩
  refine List.pairwise_append.mpr ⟨sb.srt.sublist (List.drop_sublist _ _),by rw[hd];exact List.pairwise_singleton _ _,fun y hy z hz=>?_⟩
  rw[hd,List.mem_singleton] at hz
  subst hz
  exact hx y (List.mem_of_mem_drop hy)
end
structure SG (st st':SortSt):Prop where
 kind:kindOf st'=kindOf st
 arr:arrOf st'=arrOf st
 pend:pendingOf st'=pendingOf st
 fail:failedOf st'=failedOf st
theorem SG.refl (st:SortSt):SG st st:=⟨rfl,rfl,rfl,rfl⟩
theorem SG.setG {st st':SortSt} (h:SG st st') (g:Nat):SG st (setG st' g):=⟨h.kind,h.arr,h.pend,h.fail⟩
theorem Fz (xs:Array Keyed) (i:Nat):(xs.extract i xs.size).toList=xs.toList.drop i:=by
 rw[Array.toList_extract]
 exact List.take_of_length_le (by rw[List.length_drop,Array.length_toList];exact Nat.le_refl _)
theorem Ld (xs:Array Keyed) (i k:Nat):(xs.extract i (i+k)).toList=(xs.toList.drop i).take k:=by simp[List.extract]
abbrev LoS:=Option (Array Keyed)×Array Keyed×Nat×Nat×Nat×Nat×Nat
def Fx (a b:Array Keyed) (p mg ac bc:Nat) (o:Array Keyed) (q:Nat):SM (ForInStep LoS):=do
 let x <-elem' a p
 if (p+1+1 == a.size)=true then pure (.done (some (lAA a b (o.push x) (p+1) q),o.push x,p+1,q,mg,ac,bc))
 else if (decide (ac<7) && decide (bc<7))=true then pure (.done (none,o.push x,p+1,q,mg,ac,bc))
 else pure (.yield (none,o.push x,p+1,q,mg,ac,bc))
def FX (a b:Array Keyed) (q mg ac bc:Nat) (o:Array Keyed) (p:Nat):SM (ForInStep LoS):=do
 let x <-elem' b q
 if (q+1 == b.size)=true then pure (.done (some (dnA a b (o.push x) p (q+1)),o.push x,p,q+1,mg,ac,bc))
 else do
  let y <-elem' a p
  let r <-gal true y b (q+1) (b.size - (q+1)) 0
  match r with
  | some k=>
   if k > 0 then
    if (q+1+k == b.size)=true then pure (.done (some (dnA a b (o.push x++b.extract (q+1) (q+1+k)) p (q+1+k)),o.push x++b.extract (q+1) (q+1+k),p,q+1+k,mg,ac,k))
    else Fx a b p mg ac k (o.push x++b.extract (q+1) (q+1+k)) (q+1+k)
   else Fx a b p mg ac k (o.push x) (q+1)
  | _=>pure (.done (some (dnA a b (o.push x) p (q+1)),o.push x,p,q+1,mg,ac,bc))
def GC (a b:Array Keyed) (q ac bc:Nat) (o:Array Keyed) (p mg:Nat):SM (ForInStep LoS):=do
 Cg mg
 let x <-elem' b q
 let r <-gal false x a p (a.size - p) 0
 match r with
 | some k=>
  if k > 0 then
   if (p+k+1 == a.size)=true then pure (.done (some (lAA a b (o++a.extract p (p+k)) (p+k) q),o++a.extract p (p+k),p+k,q,mg,k,bc))
   else if (p+k == a.size)=true then pure (.done (some (dnA a b (o++a.extract p (p+k)) (p+k) q),o++a.extract p (p+k),p+k,q,mg,k,bc))
   else FX a b q mg k bc (o++a.extract p (p+k)) (p+k)
  else FX a b q mg k bc o p
 | _=>pure (.done (some (dnA a b o p q),o,p,q,mg,ac,bc))
def loG (a b o:Array Keyed) (p q mg ac bc:Nat):SM (ForInStep LoS):=if mg > 1 then GC a b q ac bc o p (mg - 1) else GC a b q ac bc o p mg
abbrev LoI:=Option (Array Keyed)×Array Keyed×Nat×Nat×Nat×Nat
abbrev LoO:=Option (Array Keyed)×Array Keyed×Nat×Nat×Nat
def loI (a b:Array Keyed) (mg:Nat) (o:Array Keyed) (p q ac bc:Nat):SM (ForInStep LoI):=do
 let y <-elem' b q
 let x <-elem' a p
 let r <-lt' y x
 match r with
 | some bw=>
  if bw=true then do
   let z <-elem' b q
   if (q+1 == b.size)=true then pure (.done (some (dnA a b (o.push z) p (q+1)),o.push z,p,q+1,0,bc+1))
   else if bc+1>=mg then pure (.done (none,o.push z,p,q+1,0,bc+1)) else pure (.yield (none,o.push z,p,q+1,0,bc+1))
  else do
   let z <-elem' a p
   if (p+1+1 == a.size)=true then pure (.done (some (lAA a b (o.push z) (p+1) q),o.push z,p+1,q,ac+1,0))
   else if ac+1>=mg then pure (.done (none,o.push z,p+1,q,ac+1,0)) else pure (.yield (none,o.push z,p+1,q,ac+1,0))
 | _=>pure (.done (some (dnA a b o p q),o,p,q,ac,bc))
def loO (a b o:Array Keyed) (p q mg:Nat):SM (ForInStep LoO):=do
 let s <-forIn [0:a.size+b.size] ((none,o,p,q,0,0):LoI) fun _ c=>loI a b mg c.2.1 c.2.2.1 c.2.2.2.1 c.2.2.2.2.1 c.2.2.2.2.2
 match s.1 with
 | some r=>pure (.done (some r,s.2.1,s.2.2.1,s.2.2.2.1,mg))
 | none=>do
  rule "list.sort.gallop"
  let t <-forIn [0:a.size+b.size] ((none,s.2.1,s.2.2.1,s.2.2.2.1,mg+1,s.2.2.2.2.1,s.2.2.2.2.2):LoS) fun _ c=>loG a b c.2.1 c.2.2.1 c.2.2.2.1 c.2.2.2.2.1 c.2.2.2.2.2.1 c.2.2.2.2.2.2
  match t.1 with
  | some r=>pure (.done (some r,t.2.1,t.2.2.1,t.2.2.2.1,t.2.2.2.2.1))
  | none=>do
   Cg (t.2.2.2.2.1+1)
   pure (.yield (none,t.2.1,t.2.2.1,t.2.2.2.1,t.2.2.2.2.1+1))
def IV (a b:Array Keyed):SM (Array Keyed):=do
 rule "list.sort.merge-lo"
 let x <-elem' b 0
 if (1 == b.size)=true then pure (dnA a b #[x] 0 1)
 else if (0+1 == a.size)=true then pure (lAA a b #[x] 0 1)
 else do
  let st <-get
  let s <-forIn [0:a.size+b.size] ((none,#[x],0,1,gallopOf st):LoO) fun _ c=>loO a b c.2.1 c.2.2.1 c.2.2.2.1 c.2.2.2.2
  match s.1 with
  | some r=>pure r
  | none=>unsupported "internal:list.sort.merge-bound"
theorem NH (a b:Array Keyed):mLo a b=IV a b:=by
 rw[TR]
 unfold IV
 refine congrArg (fun k=>(liftM (rule "list.sort.merge-lo"):SM _) >>= k) (funext fun _=>?_)
 refine congrArg (fun k=>elem' b 0 >>= k) (funext fun x=>?_)
 dsimp only
 refine congrArg (fun k=>ite _ _ (ite _ _ k)) ?_
 refine congrArg (fun k=>get >>= k) (funext fun st=>?_)
 refine congr (congrArg (fun f k=>forIn _ _ f >>= k) (funext fun _=>funext fun c=>?_)) (funext fun s=>?_)
 ·unfold loO
  refine congr (congrArg (fun f k=>forIn _ _ f >>= k) (funext fun _=>funext fun d=>?_)) (funext fun s=>?_)
  ·unfold loI
   rfl
  ·cases h:s.1 with
   | some r=>rfl
   | none=>
    refine congrArg (fun k=>(liftM (rule "list.sort.gallop"):SM _) >>= k) (funext fun _=>?_)
    refine congr (congrArg (fun f k=>forIn _ _ f >>= k) (funext fun _=>funext fun d=>?_)) (funext fun t=>?_)
    ·rfl
    ·cases t.1<;>rfl
 ·cases s.1<;>rfl
section
variable {prog:Program} {w:World} {A:Around} {E:Value->Shared->Prop} {s:Shared} {kd:SortKind} {good:Keyed->Prop} {lt:Keyed->Keyed->Bool} {st:SortSt} {a b:Array Keyed} {Q:Array Keyed->SortSt->Prop}
theorem at_of {xs:Array Keyed} {i:Nat} (h:i<xs.size):xs[i]?=some xs[i]/\xs.toList[i]?=some xs[i]:=⟨Array.getElem?_eq_getElem h,by simp[h]⟩
theorem Dz (C:Cmp prog w A E s kd good lt) (O:Ord good lt) (hk:kindOf st=kd) {left:Bool} {key:Keyed} {xs:Array Keyed} {bs n h:Nat} {Q:Option Nat->SortSt->Prop} (hg:good key) (hn:bs+n<=xs.size)
  (hgs:∀ i,i<n->∀ x,xs.toList[bs+i]?=some x->good x) (hsrt:∀ i j x y,i<j->j<n->xs.toList[bs+i]?=some x->xs.toList[bs+j]?=some y->LE lt x y) (hh:h<n)
  (hQ:∀ k,k<=n->(∀ i x,i<k->xs.toList[bs+i]?=some x->LE lt x key)->(∀ i x,k<=i->i<n->xs.toList[bs+i]?=some x->LE lt key x)->Q (some k) st):wpS (model prog w) A E s (gal left key xs bs n h) Q st:=by
 refine Q1 (B:=fun i=>bq lt left key (xs[bs+i]?.getD key)) C hk hg (fun i hi=>?_) (fun i j hij hj hb=>?_) hh fun k k1 k2 k3=>hQ k k1 (fun i x hi hx=>?_) fun i x hi1 hi2 hx=>?_
 ·obtain ⟨e,l⟩:=at_of (xs:=xs) (i:=bs+i) (by lia)
  exact ⟨_,e,hgs i hi _ l,by rw[e];rfl⟩
 ·obtain ⟨e1,l1⟩:=at_of (xs:=xs) (i:=bs+i) (by lia)
  obtain ⟨e2,l2⟩:=at_of (xs:=xs) (i:=bs+j) (by lia)
  rw[e1,Option.getD_some]
  rw[e2,Option.getD_some] at hb
  by_cases hh:i=j
  ·subst hh;exact hb
  have hs:=hsrt i j _ _ (by lia) hj l1 l2
  have g1:=hgs i (by lia) _ l1
  have g2:=hgs j hj _ l2
  cases left with
  | true=>
   have hb':lt xs[bs+j] key=true:=hb
   show lt xs[bs+i] key=true
   cases q:lt xs[bs+i] key with
   | true=>rfl
   | false=>
    have:=O.tr hg g1 g2 q hs
    rw[hb'] at this
    cases this
  | false=>
   have hb':(!lt key xs[bs+j])=true:=hb
   show (!lt key xs[bs+i])=true
   rw[Bool.not_eq_true'] at hb' ⊢
   exact O.tr g1 g2 hg hs hb'
 ·have hlt:bs+i<xs.size:=by
   have:=(List.getElem?_eq_some_iff.mp hx).1
   simpa using this
  obtain ⟨e,l⟩:=at_of hlt
  rw[l] at hx
  have z:=k2 i hi
  rw[e,Option.getD_some] at z
  have hx':xs[bs+i]=x:=Option.some.inj hx
  rw[hx'] at z l
  have gx:=hgs i (by lia) _ l
  cases left with
  | true=>exact O.tot gx hg z
  | false=>
   have z':(!lt key x)=true:=z
   rwa [Bool.not_eq_true'] at z'
 ·have hlt:bs+i<xs.size:=by lia
  obtain ⟨e,l⟩:=at_of hlt
  rw[l] at hx
  have z:=k3 i hi1 hi2
  rw[e,Option.getD_some] at z
  have hx':xs[bs+i]=x:=Option.some.inj hx
  rw[hx'] at z l
  have gx:=hgs i hi2 _ l
  cases left with
  | true=>exact z
  | false=>
   have z':(!lt key x)=false:=z
   rw[Bool.not_eq_false'] at z'
   exact O.tot hg gx z'
theorem Kv {l:List Keyed} {i:Nat} {z:Keyed} (h:z∈l.drop i):∃ j,l[i+j]?=some z:=by
 obtain ⟨j,hj⟩:=List.mem_iff_getElem?.mp h
 exact ⟨j,by rw[<-List.getElem?_drop];exact hj⟩
theorem Cm {l:List Keyed} {i:Nat} {z:Keyed} (h:l[i]?=some z):i<l.length:=(List.getElem?_eq_some_iff.mp h).1
structure LoL (good:Keyed->Prop) (lt:Keyed->Keyed->Bool) (a b:Array Keyed):Prop where
 sa:SL good lt a.toList
 sb:SL good lt b.toList
 lowB:∀ {p q:Nat} {x y:Keyed},a.toList[p]?=some x->b.toList[q]?=some y->LE lt y x->∀ z∈a.toList.drop p,LE lt y z
 lowA:∀ {p q:Nat} {x y:Keyed},a.toList[p]?=some x->b.toList[q]?=some y->LE lt x y->∀ z∈b.toList.drop q,LE lt x z
structure LoR (good:Keyed->Prop) (lt:Keyed->Keyed->Bool) (a b:Array Keyed) (n:Nat) (R:ForInStep LoS->SortSt->Prop) (st:SortSt):Prop where
 fin:∀ {o:Array Keyed} {p q:Nat} {z},MI good lt a.toList b.toList o.toList p q->(p=a.size\/q=b.size)->R (.done (some (dnA a b o p q),z)) st
 las:∀ {o:Array Keyed} {p q:Nat} {z},MI good lt a.toList b.toList o.toList p q->p+1=a.size->R (.done (some (lAA a b o p q),z)) st
 don:∀ {o:Array Keyed} {p q mg ac bc:Nat},MI good lt a.toList b.toList o.toList p q->p+1<a.size->q<b.size->n<=o.size->R (.done (none,o,p,q,mg,ac,bc)) st
 yie:∀ {o:Array Keyed} {p q mg ac bc:Nat},MI good lt a.toList b.toList o.toList p q->p+1<a.size->q<b.size->n<=o.size->R (.yield (none,o,p,q,mg,ac,bc)) st
theorem Bo {i j:Nat} (h:¬(i == j)=true):¬i=j:=fun z=>h (by rw[z];simp)
theorem MB {R:ForInStep LoS->SortSt->Prop} {n p q mg ac bc:Nat} {o:Array Keyed} (L:LoR good lt a b n R st) (sa:SL good lt a.toList) (hp:p+1<a.size) {x:Keyed} (ex:a[p]?=some x) (lx:a.toList[p]?=some x)
  (m:MI good lt a.toList b.toList o.toList p q) (al:∀ z∈b.toList.drop q,LE lt x z) (hq:q<b.size) (hn:n<=o.size):wpS (model prog w) A E s (Fx a b p mg ac bc o q) R st:=by
 unfold Fx
 refine wpS_bind (BB ex ?_)
 have mc:MI good lt a.toList b.toList (o.push x).toList (p+1) q:=by rw[Array.toList_push];exact m.pushA sa lx al
 have hn':n<=(o.push x).size:=by rw[Array.size_push];lia
 by_cases f1:(p+1+1 == a.size)=true
 ·rw[if_pos f1]
  exact wpS_pure (L.las mc (eq_of_beq f1))
 rw[if_neg f1]
 have f2:=Bo f1
 split
 ·exact wpS_pure (L.don mc (by lia) hq hn')
 ·exact wpS_pure (L.yie mc (by lia) hq hn')
theorem Jx {R:ForInStep LoS->SortSt->Prop} {n p q mg ac bc:Nat} {o:Array Keyed} (C:Cmp prog w A E s kd good lt) (O:Ord good lt) (hk:kindOf st=kd) (L:LoR good lt a b n R st) (W:LoL good lt a b)
  (hp:p+1<a.size) (hq:q<b.size) {y:Keyed} (ey:b[q]?=some y) (ly:b.toList[q]?=some y) (m:MI good lt a.toList b.toList o.toList p q) (bl:∀ z∈a.toList.drop p,LE lt y z) (hn:n<=o.size) :
  wpS (model prog w) A E s (FX a b q mg ac bc o p) R st:=by
 unfold FX
 obtain ⟨sa,sb,lowB,lowA⟩:=id W
 refine wpS_bind (BB ey ?_)
 have mb:MI good lt a.toList b.toList (o.push y).toList p (q+1):=by rw[Array.toList_push];exact m.pushB sb ly bl
 have hn':n<=(o.push y).size:=by rw[Array.size_push];lia
 by_cases d1:(q+1 == b.size)=true
 ·rw[if_pos d1]
  exact wpS_pure (L.fin mb (.inr (eq_of_beq d1)))
 rw[if_neg d1]
 have d2:=Bo d1
 obtain ⟨eaX,laX⟩:=at_of (xs:=a) (i:=p) (by lia)
 refine wpS_bind (BB eaX (wpS_bind (Dz (xs:=b) (bs:=q+1) (n:=b.size - (q+1)) (h:=0) C O hk (sa.good_at laX) (by lia) (fun i _ x hx=>sb.good_at hx) (fun i j x y hij _ hx hy=>sb.up hx hy (by lia)) (by lia) fun k j1 j2 j3=>?_)))
 have al:∀ z∈b.toList.drop (q+1+k),LE lt a[p] z:=fun z hz=>by
  obtain ⟨j,hj⟩:=Kv hz
  rw[Nat.add_assoc (q+1)] at hj
  have:=Cm hj
  rw[Array.length_toList] at this
  exact j3 (k+j) z (by lia) (by lia) hj
 dsimp only
 by_cases e3:k > 0
 ·rw[if_pos e3]
  have mk2:MI good lt a.toList b.toList (o.push y++b.extract (q+1) (q+1+k)).toList p (q+1+k):=by
   rw[Array.toList_append,Ld]
   exact mb.blockB sb k (by rw[Array.length_toList];lia) fun i y hi hy=>lowB laX hy (j2 i y hi hy)
  by_cases e4:(q+1+k == b.size)=true
  ·rw[if_pos e4]
   exact wpS_pure (L.fin mk2 (.inr (eq_of_beq e4)))
  rw[if_neg e4]
  have e5:=Bo e4
  exact MB L sa hp eaX laX mk2 al (by lia) (by rw[Array.size_append];lia)
 ·rw[if_neg e3]
  have k0:k=0:=by lia
  rw[k0] at al
  exact MB L sa hp eaX laX mb al (by lia) hn'
theorem M0 {R:ForInStep LoS->SortSt->Prop} {n p q mg ac bc:Nat} {o:Array Keyed} (C:Cmp prog w A E s kd good lt) (O:Ord good lt) (hk:kindOf (setG st mg)=kd) (L:LoR good lt a b n R (setG st mg)) (W:LoL good lt a b)
  (hp:p+1<a.size) (hq:q<b.size) (m:MI good lt a.toList b.toList o.toList p q) (hn:n<=o.size) :
  wpS (model prog w) A E s (GC a b q ac bc o p mg) R st:=by
 unfold GC
 obtain ⟨sa,sb,lowB,lowA⟩:=id W
 rw[GJ]
 refine wpS_bind (wpS_modify ?_)
 obtain ⟨eb,lb⟩:=at_of hq
 refine wpS_bind (BB eb (wpS_bind (Dz (xs:=a) (bs:=p) (n:=a.size - p) (h:=0) C O hk (sb.good_at lb) (by lia) (fun i _ x hx=>sa.good_at hx) (fun i j x y hij _ hx hy=>sa.up hx hy (by lia)) (by lia) fun k k1 k2 k3=>?_)))
 have bl:∀ z∈a.toList.drop (p+k),LE lt b[q] z:=fun z hz=>by
  obtain ⟨j,hj⟩:=Kv hz
  rw[Nat.add_assoc] at hj
  have:=Cm hj
  rw[Array.length_toList] at this
  exact k3 (k+j) z (by lia) (by lia) hj
 dsimp only
 by_cases c3:k > 0
 ·rw[if_pos c3]
  have mk:MI good lt a.toList b.toList (o++a.extract p (p+k)).toList (p+k) q:=by
   rw[Array.toList_append,Ld]
   exact m.blockA sa k (by rw[Array.length_toList];lia) fun i x hi hx=>lowA hx lb (k2 i x hi hx)
  by_cases c4:(p+k+1 == a.size)=true
  ·rw[if_pos c4]
   exact wpS_pure (L.las mk (eq_of_beq c4))
  rw[if_neg c4]
  have c4':=Bo c4
  by_cases c5:(p+k == a.size)=true
  ·rw[if_pos c5]
   exact wpS_pure (L.fin mk (.inl (eq_of_beq c5)))
  rw[if_neg c5]
  have c5':=Bo c5
  exact Jx C O hk L W (by lia) hq eb lb mk bl (by rw[Array.size_append];lia)
 ·rw[if_neg c3]
  have k0:k=0:=by lia
  rw[k0] at bl
  exact Jx C O hk L W hp hq eb lb m bl hn
theorem QI {R:ForInStep LoS->SortSt->Prop} {n p q mg ac bc:Nat} {o:Array Keyed} (C:Cmp prog w A E s kd good lt) (O:Ord good lt) (hk:∀ g,kindOf (setG st g)=kd) (L:∀ g,LoR good lt a b n R (setG st g)) (W:LoL good lt a b)
  (hp:p+1<a.size) (hq:q<b.size) (m:MI good lt a.toList b.toList o.toList p q) (hn:n<=o.size) :
  wpS (model prog w) A E s (loG a b o p q mg ac bc) R st:=by
 unfold loG
 split
 ·exact M0 C O (hk _) (L _) W hp hq m hn
 ·exact M0 C O (hk _) (L _) W hp hq m hn
theorem TQ {R:ForInStep LoI->SortSt->Prop} {n mg p q ac bc:Nat} {o:Array Keyed} (C:Cmp prog w A E s kd good lt) (O:Ord good lt) (hk:kindOf st=kd) (W:LoL good lt a b)
  (fin:∀ {o:Array Keyed} {p q:Nat} {z},MI good lt a.toList b.toList o.toList p q->(p=a.size\/q=b.size)->R (.done (some (dnA a b o p q),z)) st)
  (las:∀ {o:Array Keyed} {p q:Nat} {z},MI good lt a.toList b.toList o.toList p q->p+1=a.size->R (.done (some (lAA a b o p q),z)) st)
  (don:∀ {o:Array Keyed} {p q ac bc:Nat},MI good lt a.toList b.toList o.toList p q->p+1<a.size->q<b.size->n+1<=o.size->R (.done (none,o,p,q,ac,bc)) st)
  (yie:∀ {o:Array Keyed} {p q ac bc:Nat},MI good lt a.toList b.toList o.toList p q->p+1<a.size->q<b.size->n+1<=o.size->R (.yield (none,o,p,q,ac,bc)) st)
  (hp:p+1<a.size) (hq:q<b.size) (m:MI good lt a.toList b.toList o.toList p q) (hn:n<=o.size):wpS (model prog w) A E s (loI a b mg o p q ac bc) R st:=by
 unfold loI
 obtain ⟨sa,sb,lowB,lowA⟩:=id W
 obtain ⟨eb,lb⟩:=at_of hq
 obtain ⟨ea,la⟩:=at_of (xs:=a) (i:=p) (by lia)
 refine wpS_bind (BB eb (wpS_bind (BB ea (wpS_bind (C.run hk (sb.good_at lb) (sa.good_at la) ?_)))))
 dsimp only
 cases hlt:lt b[q] a[p] with
 | true=>
  rw[if_pos rfl]
  have mm:MI good lt a.toList b.toList (o.push b[q]).toList p (q+1):=by rw[Array.toList_push];exact m.pushB sb lb (lowB la lb (O.tot (sb.good_at lb) (sa.good_at la) hlt))
  have hn':n+1<=(o.push b[q]).size:=by rw[Array.size_push];lia
  refine wpS_bind (BB eb ?_)
  by_cases d1:(q+1 == b.size)=true
  ·rw[if_pos d1]
   exact wpS_pure (fin mm (.inr (eq_of_beq d1)))
  ·rw[if_neg d1]
   have d2:=Bo d1
   split
   ·exact wpS_pure (don mm hp (by lia) hn')
   ·exact wpS_pure (yie mm hp (by lia) hn')
 | false=>
  rw[if_neg Bool.false_ne_true]
  have mm:MI good lt a.toList b.toList (o.push a[p]).toList (p+1) q:=by rw[Array.toList_push];exact m.pushA sa la (lowA la lb hlt)
  have hn':n+1<=(o.push a[p]).size:=by rw[Array.size_push];lia
  refine wpS_bind (BB ea ?_)
  by_cases d1:(p+1+1 == a.size)=true
  ·rw[if_pos d1]
   exact wpS_pure (las mm (eq_of_beq d1))
  ·rw[if_neg d1]
   have d2:=Bo d1
   split
   ·exact wpS_pure (don mm (by lia) hq hn')
   ·exact wpS_pure (yie mm (by lia) hq hn')
theorem Q2 {R:ForInStep LoO->SortSt->Prop} {st1:SortSt} {mg p q:Nat} {o:Array Keyed} (C:Cmp prog w A E s kd good lt) (O:Ord good lt) (hk:kindOf st=kd) (W:LoL good lt a b)
  (fin:∀ {st':SortSt} {o:Array Keyed} {p q:Nat},SG st st'->MI good lt a.toList b.toList o.toList p q->(p=a.size\/q=b.size)->Q (dnA a b o p q) st')
  (las:∀ {st':SortSt} {o:Array Keyed} {p q:Nat},SG st st'->MI good lt a.toList b.toList o.toList p q->p+1=a.size->Q (lAA a b o p q) st')
  (r1:∀ {st':SortSt} {r z},SG st st'->Q r st'->R (.done (some r,z)) st')
  (r2:∀ {st':SortSt} {o':Array Keyed} {p q mg:Nat},SG st st'->MI good lt a.toList b.toList o'.toList p q->p+1<a.size->q<b.size->o.size+1<=o'.size->R (.yield (none,o',p,q,mg)) st')
  (g1:SG st st1) (hp:p+1<a.size) (hq:q<b.size) (m:MI good lt a.toList b.toList o.toList p q):wpS (model prog w) A E s (loO a b o p q mg) R st1:=by
 unfold loO
 refine wpS_bind (wpS_mono (wpS_forRange
  (I:=fun y c st2=>SG st st2/\∃ o' p' q' ac bc,c=(none,o',p',q',ac,bc)/\MI good lt a.toList b.toList o'.toList p' q'/\p'+1<a.size/\q'<b.size/\o.size+y<=o'.size)
  (Q:=fun c st2=>SG st st2/\((∃ r z,c=(some r,z)/\Q r st2)\/∃ o' p' q' ac bc,c=(none,o',p',q',ac,bc)/\MI good lt a.toList b.toList o'.toList p' q'/\p'+1<a.size/\q'<b.size/\o.size+1<=o'.size))
  ?istep ?ifin ⟨g1,o,p,q,0,0,rfl,m,hp,hq,Nat.le_refl _⟩) ?ipost)
 case ifin=>
  rintro c st2 ⟨g2,o',p',q',ac,bc,rfl,m',hp',hq',ho'⟩
  exact ⟨g2,.inr ⟨o',p',q',ac,bc,rfl,m',hp',hq',by lia⟩⟩
 case istep=>
  rintro y c st2 _ hy ⟨g2,o',p',q',ac,bc,rfl,m',hp',hq',ho'⟩
  exact TQ (n:=o.size+y) C O (g2.kind.trans hk) W (fun m h=>⟨g2,.inl ⟨_,_,rfl,fin g2 m h⟩⟩) (fun m h=>⟨g2,.inl ⟨_,_,rfl,las g2 m h⟩⟩) (fun m h1 h2 h3=>⟨g2,.inr ⟨_,_,_,_,_,rfl,m,h1,h2,by lia⟩⟩) (fun m h1 h2 h3=>⟨g2,_,_,_,_,_,rfl,m,h1,h2,h3⟩) hp' hq' m' ho'
 case ipost=>
  rintro c st2 ⟨g2,⟨r,z,rfl,hr⟩ | ⟨o',p',q',ac,bc,rfl,m',hp',hq',ho'⟩⟩
  ·exact wpS_pure (r1 g2 hr)
  ·refine wpS_bind (wpS_lift (wpAny_rule ⟨rfl,?_⟩))
   refine wpS_bind (wpS_mono (wpS_forRange
    (I:=fun y c st3=>SG st st3/\∃ o2 p2 q2 mg2 ac2 bc2,c=(none,o2,p2,q2,mg2,ac2,bc2)/\MI good lt a.toList b.toList o2.toList p2 q2/\p2+1<a.size/\q2<b.size/\o'.size<=o2.size)
    (Q:=fun c st3=>SG st st3/\((∃ r z,c=(some r,z)/\Q r st3)\/∃ o2 p2 q2 mg2 ac2 bc2,c=(none,o2,p2,q2,mg2,ac2,bc2)/\MI good lt a.toList b.toList o2.toList p2 q2/\p2+1<a.size/\q2<b.size/\o'.size<=o2.size))
    ?gstep ?gfin ⟨g2,o',p',q',_,ac,bc,rfl,m',hp',hq',Nat.le_refl _⟩) ?gpost)
   case gfin=>
    rintro c st3 ⟨g3,o2,p2,q2,mg2,ac2,bc2,rfl,m2,hp2,hq2,ho2⟩
    exact ⟨g3,.inr ⟨o2,p2,q2,mg2,ac2,bc2,rfl,m2,hp2,hq2,ho2⟩⟩
   case gpost=>
    rintro c st3 ⟨g3,⟨r,z,rfl,hr⟩ | ⟨o2,p2,q2,mg2,ac2,bc2,rfl,m2,hp2,hq2,ho2⟩⟩
    ·exact wpS_pure (r1 g3 hr)
    ·dsimp only
     rw[GJ]
     exact wpS_bind (wpS_modify (wpS_pure (r2 (g3.setG _) m2 hp2 hq2 (by lia))))
   case gstep=>
    rintro y c st3 _ hy ⟨g3,o2,p2,q2,mg2,ac2,bc2,rfl,m2,hp2,hq2,ho2⟩
    exact QI C O (fun g=>(g3.setG g).kind.trans hk) (fun g=>⟨fun m h=>⟨g3.setG _,.inl ⟨_,_,rfl,fin (g3.setG _) m h⟩⟩,fun m h=>⟨g3.setG _,.inl ⟨_,_,rfl,las (g3.setG _) m h⟩⟩,fun m h1 h2 h3=>⟨g3.setG _,.inr ⟨_,_,_,_,_,_,rfl,m,h1,h2,h3⟩⟩,fun m h1 h2 h3=>⟨g3.setG _,_,_,_,_,_,_,rfl,m,h1,h2,h3⟩⟩) W hp2 hq2 m2 ho2
theorem OG (C:Cmp prog w A E s kd good lt) (O:Ord good lt) (hk:kindOf st=kd) (sa:SL good lt a.toList) (sb:SL good lt b.toList) (ha:0<a.size) (hb:0<b.size)
  (h0:∀ x y,a.toList[0]?=some x->b.toList[0]?=some y->LE lt y x) (h1:∀ x,a.toList[a.size - 1]?=some x->∀ y∈b.toList,LE lt y x)
  (hQ:∀ r st',SG st st'->Good lt a.toList b.toList r.toList->Q r st'):wpS (model prog w) A E s (mLo a b) Q st:=by
 rw[NH]
 unfold IV
 refine wpS_bind (wpS_lift (wpAny_rule ⟨rfl,?_⟩))
 obtain ⟨eb0,lb0⟩:=at_of hb
 obtain ⟨ea0,la0⟩:=at_of ha
 refine wpS_bind (BB eb0 ?_)
 have m0:MI good lt a.toList b.toList [] 0 0:=⟨by simp,List.Pairwise.nil,fun x hx=>(nomatch hx),Nat.zero_le _,Nat.zero_le _⟩
 have lowB:∀ {p q:Nat} {x y:Keyed},a.toList[p]?=some x->b.toList[q]?=some y->LE lt y x->∀ z∈a.toList.drop p,LE lt y z:=fun {p q x y} hx hy hl z hz=>by
  rcases sa.from hx z hz with e | e
  ·rw[e];exact hl
  ·exact O.tr (sb.good_at hy) (sa.good_at hx) (sa.all z (List.mem_of_mem_drop hz)) hl e
 have lowA:∀ {p q:Nat} {x y:Keyed},a.toList[p]?=some x->b.toList[q]?=some y->LE lt x y->∀ z∈b.toList.drop q,LE lt x z:=fun {p q x y} hx hy hl z hz=>by
  rcases sb.from hy z hz with e | e
  ·rw[e];exact hl
  ·exact O.tr (sa.good_at hx) (sb.good_at hy) (sb.all z (List.mem_of_mem_drop hz)) hl e
 have W:LoL good lt a b:=⟨sa,sb,lowB,lowA⟩
 have m1:MI good lt a.toList b.toList [b[0]] 0 1:=m0.pushB sb lb0 (lowB la0 lb0 (h0 _ _ la0 lb0))
 have fin:∀ {st':SortSt} {o:Array Keyed} {p q:Nat},SG st st'->MI good lt a.toList b.toList o.toList p q->(p=a.size\/q=b.size)->Q (o++a.extract p a.size++b.extract q b.size) st':=fun {st' o p q} g m h=>by
  refine hQ _ st' g ?_
  rw[Array.toList_append,Array.toList_append,Fz,Fz]
  refine m.done sa sb ?_
  rcases h with h | h
  ·exact .inl (List.drop_eq_nil_of_le (by rw[h];simp))
  ·exact .inr (List.drop_eq_nil_of_le (by rw[h];simp))
 have las:∀ {st':SortSt} {o:Array Keyed} {p q:Nat},SG st st'->MI good lt a.toList b.toList o.toList p q->p+1=a.size->Q (o++b.extract q b.size++a.extract p a.size) st':=fun {st' o p q} g m h=>by
  refine hQ _ st' g ?_
  rw[Array.toList_append,Array.toList_append,Fz,Fz]
  obtain ⟨_,l⟩:=at_of (xs:=a) (i:=p) (by lia)
  refine m.last sb l (by simpa using h) (h1 _ ?_)
  rw[show a.size - 1=p by lia]
  exact l
 by_cases c1:(1 == b.size)=true
 ·rw[if_pos c1]
  exact wpS_pure (fin (SG.refl _) m1 (.inr (eq_of_beq c1)))
 rw[if_neg c1]
 have nb:1<b.size:=by
  have:¬1=b.size:=fun z=>c1 (by rw[<-z];rfl)
  lia
 by_cases c2:(0+1 == a.size)=true
 ·rw[if_pos c2]
  exact wpS_pure (las (SG.refl _) m1 (eq_of_beq c2))
 rw[if_neg c2]
 have na:1<a.size:=by
  have:¬0+1=a.size:=fun z=>c2 (by rw[<-z];rfl)
  lia
 refine wpS_bind (wpS_get ?_)
 refine wpS_bind (wpS_mono (wpS_forRange
  (I:=fun x c st'=>SG st st'/\∃ o p q mg,c=(none,o,p,q,mg)/\MI good lt a.toList b.toList o.toList p q/\p+1<a.size/\q<b.size/\x+1<=o.size)
  (Q:=fun c st'=>SG st st'/\∃ r o,c=(some r,o)/\Q r st') ?ostep ?ofin ⟨SG.refl _,#[b[0]],0,1,_,rfl,m1,by lia,nb,by simp⟩) ?opost)
 case ofin=>
  rintro c st' ⟨g,o,p,q,mg,rfl,m,hp,hq,ho⟩
  have:=m.size
  rw[Array.length_toList] at this
  lia
 case opost=>
  rintro c st' ⟨g,r,o,rfl,hq⟩
  exact wpS_pure hq
 case ostep=>
  rintro x c st1 _ hx ⟨g1,o,p,q,mg,rfl,m,hp,hq,ho⟩
  exact Q2 C O hk W fin las (fun g h=>⟨g,_,_,rfl,h⟩) (fun g m h1 h2 h3=>⟨g,_,_,_,_,rfl,m,h1,h2,Nat.le_trans (Nat.succ_le_succ ho) h3⟩) g1 hp hq m
end
abbrev dnB (a b o:Array Keyed) (p q:Nat):Array Keyed:=a.extract 0 p++b.extract 0 q++o.reverse
abbrev fBB (a b o:Array Keyed) (p q:Nat):Array Keyed:=b.extract 0 q++a.extract 0 p++o.reverse
theorem UD (a b:Array Keyed):mHi a b=(do
 rule "list.sort.merge-hi"
 let mut p:=a.size - 1
 let mut q:=b.size
 let mut o:Array Keyed:=#[<-elem' a p]
 if p == 0 then return dnB a b o p q
 if q == 1 then return fBB a b o p q
 let mut mg:=gallopOf (<-get)
 for _ in [0:a.size+b.size] do
  let mut ac:=0
  let mut bc:=0
  for _ in [0:a.size+b.size] do
   let some aw <-lt' (<-elem' b (q - 1)) (<-elem' a (p - 1)) | return dnB a b o p q
   if aw then
    p:=p - 1;o:=o.push (<-elem' a p);ac:=ac+1;bc:=0
    if p == 0 then return dnB a b o p q
    if ac>=mg then break
   else
    q:=q - 1;o:=o.push (<-elem' b q);bc:=bc+1;ac:=0
    if q == 1 then return fBB a b o p q
    if bc>=mg then break
  rule "list.sort.gallop"
  mg:=mg+1
  for _ in [0:a.size+b.size] do
   if mg > 1 then mg:=mg - 1
   Cg mg
   let some u <-gal false (<-elem' b (q - 1)) a 0 p (p - 1) | return dnB a b o p q
   let k:=p - u
   ac:=k
   if k > 0 then
    o:=o++(a.extract u p).reverse;p:=u
    if p == 0 then return dnB a b o p q
   q:=q - 1;o:=o.push (<-elem' b q)
   if q == 1 then return fBB a b o p q
   let some u <-gal true (<-elem' a (p - 1)) b 0 q (q - 1) | return dnB a b o p q
   let k:=q - u
   bc:=k
   if k > 0 then
    o:=o++(b.extract u q).reverse;q:=u
    if q == 1 then return fBB a b o p q
    if q == 0 then return dnB a b o p q
   p:=p - 1;o:=o.push (<-elem' a p)
   if p == 0 then return dnB a b o p q
   if ac<7 && bc<7 then break
  mg:=mg+1
  Cg mg
 unsupported "internal:list.sort.merge-bound"):=rfl
structure MH (good:Keyed->Prop) (lt:Keyed->Keyed->Bool) (a b o:List Keyed) (p q:Nat):Prop where
 perm:(a.take p++(b.take q++o.reverse)).Perm (a++b)
 srt:o.reverse.Pairwise (LE lt)
 low:∀ x∈o,∀ y∈a.take p++b.take q,LE lt y x
 pa:p<=a.length
 qb:q<=b.length
section
variable {good:Keyed->Prop} {lt:Keyed->Keyed->Bool} {a b o:List Keyed} {p q k:Nat} {x:Keyed}
theorem MH.size (m:MH good lt a b o p q):o.length+p+q=a.length+b.length:=by
 have e:=m.perm.length_eq
 have:=m.pa
 have:=m.qb
 rw[List.length_append,List.length_append,List.length_append,List.length_take,List.length_take,List.length_reverse] at e
 lia
theorem Gn {l:List Keyed} {i:Nat} (h:l[i]?=some x):l.take (i+1)=l.take i++[x]:=by
 rw[List.take_add_one,h]
 rfl
theorem SL.under (s:SL good lt a) (h:a[p]?=some x):∀ y∈a.take p,LE lt y x:=fun y hy=>by
 obtain ⟨j,hj⟩:=List.mem_iff_getElem?.mp hy
 have hlt:j<p:=by
  have:=Cm hj
  rw[List.length_take] at this
  lia
 rw[List.getElem?_take_of_lt hlt] at hj
 exact s.up hj h hlt
theorem MH.pushA (m:MH good lt a b o (p+1) q) (sa:SL good lt a) (h:a[p]?=some x) (hb:∀ y∈b.take q,LE lt y x):MH good lt a b (o++[x]) p q:=by
 have hd:=Gn h
 have hp:=Cm h
 refine ⟨?_,?_,?_,by lia,m.qb⟩
 ·have e:=m.perm
  rw[hd] at e
  refine List.Perm.trans ?_ e
  rw[List.reverse_append,List.append_assoc]
  refine List.Perm.append_left _ ?_
  show (b.take q++x::o.reverse).Perm (x::(b.take q++o.reverse))
  exact List.perm_middle
 ·rw[List.reverse_append]
  refine List.pairwise_cons.mpr ⟨fun y hy=>m.low y (List.mem_reverse.mp hy) x (by rw[hd];simp),m.srt⟩
 ·intro y hy z hz
  rcases List.mem_append.mp hy with hy | hy
  ·exact m.low y hy z (by rw[hd];rcases List.mem_append.mp hz with w | w<;>simp[w])
  ·rw[List.mem_singleton] at hy
   subst hy
   rcases List.mem_append.mp hz with w | w
   ·exact sa.under h z w
   ·exact hb z w
theorem MH.pushB (m:MH good lt a b o p (q+1)) (sb:SL good lt b) (h:b[q]?=some x) (ha:∀ y∈a.take p,LE lt y x):MH good lt a b (o++[x]) p q:=by
 have hd:=Gn h
 have hq:=Cm h
 refine ⟨?_,?_,?_,m.pa,by lia⟩
 ·have e:=m.perm
  rw[hd] at e
  refine List.Perm.trans ?_ e
  rw[List.reverse_append,List.append_assoc (b.take q)]
  exact List.Perm.refl _
 ·rw[List.reverse_append]
  refine List.pairwise_cons.mpr ⟨fun y hy=>m.low y (List.mem_reverse.mp hy) x (by rw[hd];simp),m.srt⟩
 ·intro y hy z hz
  rcases List.mem_append.mp hy with hy | hy
  ·exact m.low y hy z (by rw[hd];rcases List.mem_append.mp hz with w | w<;>simp[w])
  ·rw[List.mem_singleton] at hy
   subst hy
   rcases List.mem_append.mp hz with w | w
   ·exact ha z w
   ·exact sb.under h z w
theorem Lj {l:List Keyed} {u k:Nat} (h:l[u]?=some x):(l.drop u).take (k+1)=x::(l.drop (u+1)).take k:=by rw[Do h,List.take_succ_cons]
theorem MH.blockA (sa:SL good lt a):∀ (k u:Nat) (o:List Keyed),MH good lt a b o (u+k) q->(∀ i y,u<=i->i<u+k->a[i]?=some y->∀ z∈b.take q,LE lt z y)->MH good lt a b (o++((a.drop u).take k).reverse) u q
 | 0,u,o,m,_=>by simpa using m
 | k+1,u,o,m,h=>by
  have hlen:=m.pa
  have ih:=MH.blockA sa k (u+1) o (by rw[show u+1+k=u+(k+1) by lia];exact m) fun i y h1 h2=>h i y (by lia) (by lia)
  have e:a[u]?=some a[u]:=List.getElem?_eq_getElem (by lia)
  have r:=ih.pushA sa e (h u _ (Nat.le_refl _) (by lia) e)
  rw[Lj e,List.reverse_cons,<-List.append_assoc]
  exact r
theorem MH.blockB (sb:SL good lt b):∀ (k u:Nat) (o:List Keyed),MH good lt a b o p (u+k)->(∀ i y,u<=i->i<u+k->b[i]?=some y->∀ z∈a.take p,LE lt z y)->MH good lt a b (o++((b.drop u).take k).reverse) p u
 | 0,u,o,m,_=>by simpa using m
 | k+1,u,o,m,h=>by
  have hlen:=m.qb
  have ih:=MH.blockB sb k (u+1) o (by rw[show u+1+k=u+(k+1) by lia];exact m) fun i y h1 h2=>h i y (by lia) (by lia)
  have e:b[u]?=some b[u]:=List.getElem?_eq_getElem (by lia)
  have r:=ih.pushB sb e (h u _ (Nat.le_refl _) (by lia) e)
  rw[Lj e,List.reverse_cons,<-List.append_assoc]
  exact r
theorem MH.done (m:MH good lt a b o p q) (sa:SL good lt a) (sb:SL good lt b) (h:a.take p=[]\/b.take q=[]):Good lt a b (a.take p++b.take q++o.reverse):=by
 refine ⟨by rw[List.append_assoc];exact m.perm,?_⟩
 refine List.pairwise_append.mpr ⟨?_,m.srt,fun x hx y hy=>m.low y (List.mem_reverse.mp hy) x hx⟩
 rcases h with h | h
 ·rw[h,List.nil_append];exact sb.srt.sublist (List.take_sublist _ _)
 ·rw[h,List.append_nil];exact sa.srt.sublist (List.take_sublist _ _)
theorem MH.first (m:MH good lt a b o p 1) (sa:SL good lt a) (h:b[0]?=some x) (hx:∀ y∈a,LE lt x y):Good lt a b (b.take 1++a.take p++o.reverse):=by
 have hd:b.take 1=[x]:=Gn (i:=0) h
 constructor
 ·refine List.Perm.trans ?_ m.perm
  rw[List.append_assoc]
  exact List.perm_append_comm_assoc _ _ _
 ·refine List.pairwise_append.mpr ⟨?_,m.srt,fun y hy z hz=>m.low z (List.mem_reverse.mp hz) y (by rcases List.mem_append.mp hy with w | w<;>simp[w])⟩
  refine List.pairwise_append.mpr ⟨by rw[hd];exact List.pairwise_singleton _ _,sa.srt.sublist (List.take_sublist _ _),fun y hy z hz=>?_⟩
  rw[hd,List.mem_singleton] at hy
  subst hy
  exact hx z (List.mem_of_mem_take hz)
end
theorem FF (xs:Array Keyed) (i:Nat):(xs.extract 0 i).toList=xs.toList.take i:=by simp[List.extract]
theorem DQ (xs:Array Keyed) (u p:Nat):(xs.extract u p).toList=(xs.toList.drop u).take (p - u):=by simp[List.extract]
section
variable {good:Keyed->Prop} {lt:Keyed->Keyed->Bool} {a b o:List Keyed} {p q u:Nat} {x:Keyed}
theorem MH.pushA' (m:MH good lt a b o p q) (hp:0<p) (sa:SL good lt a) (h:a[p - 1]?=some x) (hb:∀ y∈b.take q,LE lt y x):MH good lt a b (o++[x]) (p - 1) q:=
 MH.pushA (by rw[show p - 1+1=p by lia];exact m) sa h hb
theorem MH.pushB' (m:MH good lt a b o p q) (hq:0<q) (sb:SL good lt b) (h:b[q - 1]?=some x) (ha:∀ y∈a.take p,LE lt y x):MH good lt a b (o++[x]) p (q - 1):=
 MH.pushB (by rw[show q - 1+1=q by lia];exact m) sb h ha
theorem MH.blockA' (m:MH good lt a b o p q) (hu:u<=p) (sa:SL good lt a) (h:∀ i y,u<=i->i<p->a[i]?=some y->∀ z∈b.take q,LE lt z y):MH good lt a b (o++((a.drop u).take (p - u)).reverse) u q:=
 MH.blockA sa (p - u) u o (by rw[show u+(p - u)=p by lia];exact m) fun i y h1 h2=>h i y h1 (by lia)
theorem MH.blockB' (m:MH good lt a b o p q) (hu:u<=q) (sb:SL good lt b) (h:∀ i y,u<=i->i<q->b[i]?=some y->∀ z∈a.take p,LE lt z y):MH good lt a b (o++((b.drop u).take (q - u)).reverse) p u:=
 MH.blockB sb (q - u) u o (by rw[show u+(q - u)=q by lia];exact m) fun i y h1 h2=>h i y h1 (by lia)
theorem FG {l:List Keyed} {i:Nat} {z:Keyed} (h:z∈l.take i):∃ j,j<i/\l[j]?=some z:=by
 obtain ⟨j,hj⟩:=List.mem_iff_getElem?.mp h
 have hlt:j<i:=by
  have:=Cm hj
  rw[List.length_take] at this
  lia
 exact ⟨j,hlt,by rwa [List.getElem?_take_of_lt hlt] at hj⟩
end
abbrev HiS:=Option (Array Keyed)×Nat×Nat×Array Keyed×Nat×Nat×Nat
abbrev HiI:=Option (Array Keyed)×Nat×Nat×Array Keyed×Nat×Nat
abbrev HiO:=Option (Array Keyed)×Nat×Nat×Array Keyed×Nat
def FK (a b:Array Keyed) (p mg ac bc:Nat) (o:Array Keyed) (q:Nat):SM (ForInStep HiS):=do
 let x <-elem' a (p - 1)
 if (p - 1 == 0)=true then pure (.done (some (dnB a b (o.push x) (p - 1) q),p - 1,q,o.push x,mg,ac,bc))
 else if (decide (ac<7) && decide (bc<7))=true then pure (.done (none,p - 1,q,o.push x,mg,ac,bc))
 else pure (.yield (none,p - 1,q,o.push x,mg,ac,bc))
def Gc (a b:Array Keyed) (q mg ac bc:Nat) (o:Array Keyed) (p:Nat):SM (ForInStep HiS):=do
 let x <-elem' b (q - 1)
 if (q - 1 == 1)=true then pure (.done (some (fBB a b (o.push x) p (q - 1)),p,q - 1,o.push x,mg,ac,bc))
 else do
  let y <-elem' a (p - 1)
  let r <-gal true y b 0 (q - 1) (q - 1 - 1)
  match r with
  | some u=>
   if q - 1 - u > 0 then
    if (u == 1)=true then pure (.done (some (fBB a b (o.push x++(b.extract u (q - 1)).reverse) p u),p,u,o.push x++(b.extract u (q - 1)).reverse,mg,ac,q - 1 - u))
    else if (u == 0)=true then pure (.done (some (dnB a b (o.push x++(b.extract u (q - 1)).reverse) p u),p,u,o.push x++(b.extract u (q - 1)).reverse,mg,ac,q - 1 - u))
    else FK a b p mg ac (q - 1 - u) (o.push x++(b.extract u (q - 1)).reverse) u
   else FK a b p mg ac (q - 1 - u) (o.push x) (q - 1)
  | _=>pure (.done (some (dnB a b (o.push x) p (q - 1)),p,q - 1,o.push x,mg,ac,bc))
def FH (a b:Array Keyed) (q ac bc:Nat) (o:Array Keyed) (p mg:Nat):SM (ForInStep HiS):=do
 Cg mg
 let x <-elem' b (q - 1)
 let r <-gal false x a 0 p (p - 1)
 match r with
 | some u=>
  if p - u > 0 then
   if (u == 0)=true then pure (.done (some (dnB a b (o++(a.extract u p).reverse) u q),u,q,o++(a.extract u p).reverse,mg,p - u,bc))
   else Gc a b q mg (p - u) bc (o++(a.extract u p).reverse) u
  else Gc a b q mg (p - u) bc o p
 | _=>pure (.done (some (dnB a b o p q),p,q,o,mg,ac,bc))
def hiG (a b o:Array Keyed) (p q mg ac bc:Nat):SM (ForInStep HiS):=if mg > 1 then FH a b q ac bc o p (mg - 1) else FH a b q ac bc o p mg
def hiI (a b:Array Keyed) (mg:Nat) (o:Array Keyed) (p q ac bc:Nat):SM (ForInStep HiI):=do
 let y <-elem' b (q - 1)
 let x <-elem' a (p - 1)
 let r <-lt' y x
 match r with
 | some aw=>
  if aw=true then do
   let z <-elem' a (p - 1)
   if (p - 1 == 0)=true then pure (.done (some (dnB a b (o.push z) (p - 1) q),p - 1,q,o.push z,ac+1,0))
   else if ac+1>=mg then pure (.done (none,p - 1,q,o.push z,ac+1,0)) else pure (.yield (none,p - 1,q,o.push z,ac+1,0))
  else do
   let z <-elem' b (q - 1)
   if (q - 1 == 1)=true then pure (.done (some (fBB a b (o.push z) p (q - 1)),p,q - 1,o.push z,0,bc+1))
   else if bc+1>=mg then pure (.done (none,p,q - 1,o.push z,0,bc+1)) else pure (.yield (none,p,q - 1,o.push z,0,bc+1))
 | _=>pure (.done (some (dnB a b o p q),p,q,o,ac,bc))
def hiO (a b o:Array Keyed) (p q mg:Nat):SM (ForInStep HiO):=do
 let s <-forIn [0:a.size+b.size] ((none,p,q,o,0,0):HiI) fun _ c=>hiI a b mg c.2.2.2.1 c.2.1 c.2.2.1 c.2.2.2.2.1 c.2.2.2.2.2
 match s.1 with
 | some r=>pure (.done (some r,s.2.1,s.2.2.1,s.2.2.2.1,mg))
 | none=>do
  rule "list.sort.gallop"
  let t <-forIn [0:a.size+b.size] ((none,s.2.1,s.2.2.1,s.2.2.2.1,mg+1,s.2.2.2.2.1,s.2.2.2.2.2):HiS) fun _ c=>hiG a b c.2.2.2.1 c.2.1 c.2.2.1 c.2.2.2.2.1 c.2.2.2.2.2.1 c.2.2.2.2.2.2
  match t.1 with
  | some r=>pure (.done (some r,t.2.1,t.2.2.1,t.2.2.2.1,t.2.2.2.2.1))
  | none=>do
   Cg (t.2.2.2.2.1+1)
   pure (.yield (none,t.2.1,t.2.2.1,t.2.2.2.1,t.2.2.2.2.1+1))
def IW (a b:Array Keyed):SM (Array Keyed):=do
 rule "list.sort.merge-hi"
 let x <-elem' a (a.size - 1)
 if (a.size - 1 == 0)=true then pure (dnB a b #[x] (a.size - 1) b.size)
 else if (b.size == 1)=true then pure (fBB a b #[x] (a.size - 1) b.size)
 else do
  let st <-get
  let s <-forIn [0:a.size+b.size] ((none,a.size - 1,b.size,#[x],gallopOf st):HiO) fun _ c=>hiO a b c.2.2.2.1 c.2.1 c.2.2.1 c.2.2.2.2
  match s.1 with
  | some r=>pure r
  | none=>unsupported "internal:list.sort.merge-bound"
theorem Ph (a b:Array Keyed):mHi a b=IW a b:=by
 rw[UD]
 unfold IW
 refine congrArg (fun k=>(liftM (rule "list.sort.merge-hi"):SM _) >>= k) (funext fun _=>?_)
 refine congrArg (fun k=>elem' a (a.size - 1) >>= k) (funext fun x=>?_)
 dsimp only
 refine congrArg (fun k=>ite _ _ (ite _ _ k)) ?_
 refine congrArg (fun k=>get >>= k) (funext fun st=>?_)
 refine congr (congrArg (fun f k=>forIn _ _ f >>= k) (funext fun _=>funext fun c=>?_)) (funext fun s=>?_)
 ·unfold hiO
  refine congr (congrArg (fun f k=>forIn _ _ f >>= k) (funext fun _=>funext fun d=>?_)) (funext fun s=>?_)
  ·unfold hiI
   rfl
  ·cases h:s.1 with
   | some r=>rfl
   | none=>
    refine congrArg (fun k=>(liftM (rule "list.sort.gallop"):SM _) >>= k) (funext fun _=>?_)
    refine congr (congrArg (fun f k=>forIn _ _ f >>= k) (funext fun _=>funext fun d=>?_)) (funext fun t=>?_)
    ·rfl
    ·cases t.1<;>rfl
 ·cases s.1<;>rfl
section
variable {prog:Program} {w:World} {A:Around} {E:Value->Shared->Prop} {s:Shared} {kd:SortKind} {good:Keyed->Prop} {lt:Keyed->Keyed->Bool} {st:SortSt} {a b:Array Keyed} {Q:Array Keyed->SortSt->Prop}
structure HiL (good:Keyed->Prop) (lt:Keyed->Keyed->Bool) (a b:Array Keyed):Prop where
 sa:SL good lt a.toList
 sb:SL good lt b.toList
 upA:∀ {p q:Nat} {x y:Keyed},0<q->a.toList[p]?=some x->b.toList[q - 1]?=some y->LE lt y x->∀ z∈b.toList.take q,LE lt z x
 upB:∀ {p q:Nat} {x y:Keyed},0<p->a.toList[p - 1]?=some x->b.toList[q]?=some y->LE lt x y->∀ z∈a.toList.take p,LE lt z y
structure HiR (good:Keyed->Prop) (lt:Keyed->Keyed->Bool) (a b:Array Keyed) (n:Nat) (R:ForInStep HiS->SortSt->Prop) (st:SortSt):Prop where
 fin:∀ {o:Array Keyed} {p q:Nat} {z},MH good lt a.toList b.toList o.toList p q->(p=0\/q=0)->R (.done (some (dnB a b o p q),z)) st
 fst:∀ {o:Array Keyed} {p q:Nat} {z},MH good lt a.toList b.toList o.toList p q->q=1->R (.done (some (fBB a b o p q),z)) st
 don:∀ {o:Array Keyed} {p q mg ac bc:Nat},MH good lt a.toList b.toList o.toList p q->0<p->1<q->n<=o.size->R (.done (none,p,q,o,mg,ac,bc)) st
 yie:∀ {o:Array Keyed} {p q mg ac bc:Nat},MH good lt a.toList b.toList o.toList p q->0<p->1<q->n<=o.size->R (.yield (none,p,q,o,mg,ac,bc)) st
theorem Kz {R:ForInStep HiS->SortSt->Prop} {n p q mg ac bc:Nat} {o:Array Keyed} (L:HiR good lt a b n R st) (sa:SL good lt a.toList) (hp:0<p) {x:Keyed} (ex:a[p - 1]?=some x) (lx:a.toList[p - 1]?=some x)
  (m:MH good lt a.toList b.toList o.toList p q) (al:∀ z∈b.toList.take q,LE lt z x) (hq:1<q) (hn:n<=o.size):wpS (model prog w) A E s (FK a b p mg ac bc o q) R st:=by
 unfold FK
 refine wpS_bind (BB ex ?_)
 have mc:MH good lt a.toList b.toList (o.push x).toList (p - 1) q:=by rw[Array.toList_push];exact m.pushA' hp sa lx al
 have hn':n<=(o.push x).size:=by rw[Array.size_push];lia
 by_cases f1:(p - 1 == 0)=true
 ·rw[if_pos f1]
  exact wpS_pure (L.fin mc (.inl (eq_of_beq f1)))
 rw[if_neg f1]
 have f2:=Bo f1
 split
 ·exact wpS_pure (L.don mc (by lia) hq hn')
 ·exact wpS_pure (L.yie mc (by lia) hq hn')
theorem J2 {R:ForInStep HiS->SortSt->Prop} {n p q mg ac bc:Nat} {o:Array Keyed} (C:Cmp prog w A E s kd good lt) (O:Ord good lt) (hk:kindOf st=kd) (L:HiR good lt a b n R st) (W:HiL good lt a b)
  (hp:0<p) (hq:1<q) {y:Keyed} (ey:b[q - 1]?=some y) (ly:b.toList[q - 1]?=some y) (m:MH good lt a.toList b.toList o.toList p q) (bl:∀ z∈a.toList.take p,LE lt z y) (hn:n<=o.size) :
  wpS (model prog w) A E s (Gc a b q mg ac bc o p) R st:=by
 unfold Gc
 obtain ⟨sa,sb,upA,upB⟩:=id W
 have hpl:=m.pa
 have hql:=m.qb
 rw[Array.length_toList] at hpl hql
 refine wpS_bind (BB ey ?_)
 have mb:MH good lt a.toList b.toList (o.push y).toList p (q - 1):=by rw[Array.toList_push];exact m.pushB' (by lia) sb ly bl
 have hn':n<=(o.push y).size:=by rw[Array.size_push];lia
 by_cases d1:(q - 1 == 1)=true
 ·rw[if_pos d1]
  exact wpS_pure (L.fst mb (eq_of_beq d1))
 rw[if_neg d1]
 have d2:=Bo d1
 obtain ⟨eaX,laX⟩:=at_of (xs:=a) (i:=p - 1) (by lia)
 refine wpS_bind (BB eaX (wpS_bind (Dz (xs:=b) (bs:=0) (n:=q - 1) (h:=q - 1 - 1) C O hk (sa.good_at laX) (by lia) (fun i _ x hx=>sb.good_at hx) (fun i j x y hij _ hx hy=>sb.up hx hy (by lia)) (by lia) fun v j1 j2 j3=>?_)))
 simp only[Nat.zero_add] at j2 j3
 have al:∀ z∈b.toList.take v,LE lt z a[p - 1]:=fun z hz=>by
  obtain ⟨j,hj,ej⟩:=FG hz
  exact j2 j z hj ej
 dsimp only
 by_cases e3:q - 1 - v > 0
 ·rw[if_pos e3]
  have mk2:MH good lt a.toList b.toList (o.push y++(b.extract v (q - 1)).reverse).toList p v:=by
   rw[Array.toList_append,Array.toList_reverse,DQ]
   exact mb.blockB' j1 sb fun i x h1 h2 hx=>upB hp laX hx (j3 i x h1 h2 hx)
  by_cases e4:(v == 1)=true
  ·rw[if_pos e4]
   exact wpS_pure (L.fst mk2 (eq_of_beq e4))
  rw[if_neg e4]
  by_cases e5:(v == 0)=true
  ·rw[if_pos e5]
   exact wpS_pure (L.fin mk2 (.inr (eq_of_beq e5)))
  rw[if_neg e5]
  have e6:=Bo e4
  have e7:=Bo e5
  exact Kz L sa hp eaX laX mk2 al (by lia) (by rw[Array.size_append];lia)
 ·rw[if_neg e3]
  have k0:v=q - 1:=by lia
  rw[k0] at al
  exact Kz L sa hp eaX laX mb al (by lia) hn'
theorem LN {R:ForInStep HiS->SortSt->Prop} {n p q mg ac bc:Nat} {o:Array Keyed} (C:Cmp prog w A E s kd good lt) (O:Ord good lt) (hk:kindOf (setG st mg)=kd) (L:HiR good lt a b n R (setG st mg)) (W:HiL good lt a b)
  (hp:0<p) (hq:1<q) (m:MH good lt a.toList b.toList o.toList p q) (hn:n<=o.size):wpS (model prog w) A E s (FH a b q ac bc o p mg) R st:=by
 unfold FH
 obtain ⟨sa,sb,upA,upB⟩:=id W
 have hpl:=m.pa
 have hql:=m.qb
 rw[Array.length_toList] at hpl hql
 rw[GJ]
 refine wpS_bind (wpS_modify ?_)
 obtain ⟨eb,lb⟩:=at_of (xs:=b) (i:=q - 1) (by lia)
 refine wpS_bind (BB eb (wpS_bind (Dz (xs:=a) (bs:=0) (n:=p) (h:=p - 1) C O hk (sb.good_at lb) (by lia) (fun i _ x hx=>sa.good_at hx) (fun i j x y hij _ hx hy=>sa.up hx hy (by lia)) (by lia) fun u k1 k2 k3=>?_)))
 simp only[Nat.zero_add] at k2 k3
 have bl:∀ z∈a.toList.take u,LE lt z b[q - 1]:=fun z hz=>by
  obtain ⟨j,hj,ej⟩:=FG hz
  exact k2 j z hj ej
 dsimp only
 by_cases c3:p - u > 0
 ·rw[if_pos c3]
  have mk:MH good lt a.toList b.toList (o++(a.extract u p).reverse).toList u q:=by
   rw[Array.toList_append,Array.toList_reverse,DQ]
   exact m.blockA' k1 sa fun i x h1 h2 hx=>upA (by lia) hx lb (k3 i x h1 h2 hx)
  by_cases c4:(u == 0)=true
  ·rw[if_pos c4]
   exact wpS_pure (L.fin mk (.inl (eq_of_beq c4)))
  rw[if_neg c4]
  have c5:=Bo c4
  exact J2 C O hk L W (by lia) hq eb lb mk bl (by rw[Array.size_append];lia)
 ·rw[if_neg c3]
  have k0:u=p:=by lia
  rw[k0] at bl
  exact J2 C O hk L W hp hq eb lb m bl hn
theorem Qj {R:ForInStep HiS->SortSt->Prop} {n p q mg ac bc:Nat} {o:Array Keyed} (C:Cmp prog w A E s kd good lt) (O:Ord good lt) (hk:∀ g,kindOf (setG st g)=kd) (L:∀ g,HiR good lt a b n R (setG st g)) (W:HiL good lt a b)
  (hp:0<p) (hq:1<q) (m:MH good lt a.toList b.toList o.toList p q) (hn:n<=o.size):wpS (model prog w) A E s (hiG a b o p q mg ac bc) R st:=by
 unfold hiG
 split
 ·exact LN C O (hk _) (L _) W hp hq m hn
 ·exact LN C O (hk _) (L _) W hp hq m hn
theorem Qk {R:ForInStep HiI->SortSt->Prop} {n mg p q ac bc:Nat} {o:Array Keyed} (C:Cmp prog w A E s kd good lt) (O:Ord good lt) (hk:kindOf st=kd) (W:HiL good lt a b)
  (fin:∀ {o:Array Keyed} {p q:Nat} {z},MH good lt a.toList b.toList o.toList p q->(p=0\/q=0)->R (.done (some (dnB a b o p q),z)) st)
  (fst:∀ {o:Array Keyed} {p q:Nat} {z},MH good lt a.toList b.toList o.toList p q->q=1->R (.done (some (fBB a b o p q),z)) st)
  (don:∀ {o:Array Keyed} {p q ac bc:Nat},MH good lt a.toList b.toList o.toList p q->0<p->1<q->n+1<=o.size->R (.done (none,p,q,o,ac,bc)) st)
  (yie:∀ {o:Array Keyed} {p q ac bc:Nat},MH good lt a.toList b.toList o.toList p q->0<p->1<q->n+1<=o.size->R (.yield (none,p,q,o,ac,bc)) st)
  (hp:0<p) (hq:1<q) (m:MH good lt a.toList b.toList o.toList p q) (hn:n<=o.size):wpS (model prog w) A E s (hiI a b mg o p q ac bc) R st:=by
 unfold hiI
 obtain ⟨sa,sb,upA,upB⟩:=id W
 have hpl:=m.pa
 have hql:=m.qb
 rw[Array.length_toList] at hpl hql
 obtain ⟨eb,lb⟩:=at_of (xs:=b) (i:=q - 1) (by lia)
 obtain ⟨ea,la⟩:=at_of (xs:=a) (i:=p - 1) (by lia)
 refine wpS_bind (BB eb (wpS_bind (BB ea (wpS_bind (C.run hk (sb.good_at lb) (sa.good_at la) ?_)))))
 dsimp only
 cases hlt:lt b[q - 1] a[p - 1] with
 | true=>
  rw[if_pos rfl]
  have mm:MH good lt a.toList b.toList (o.push a[p - 1]).toList (p - 1) q:=by rw[Array.toList_push];exact m.pushA' hp sa la (upA (by lia) la lb (O.tot (sb.good_at lb) (sa.good_at la) hlt))
  have hn':n+1<=(o.push a[p - 1]).size:=by rw[Array.size_push];lia
  refine wpS_bind (BB ea ?_)
  by_cases d1:(p - 1 == 0)=true
  ·rw[if_pos d1]
   exact wpS_pure (fin mm (.inl (eq_of_beq d1)))
  ·rw[if_neg d1]
   have d2:=Bo d1
   split
   ·exact wpS_pure (don mm (by lia) hq hn')
   ·exact wpS_pure (yie mm (by lia) hq hn')
 | false=>
  rw[if_neg Bool.false_ne_true]
  have mm:MH good lt a.toList b.toList (o.push b[q - 1]).toList p (q - 1):=by rw[Array.toList_push];exact m.pushB' (by lia) sb lb (upB hp la lb hlt)
  have hn':n+1<=(o.push b[q - 1]).size:=by rw[Array.size_push];lia
  refine wpS_bind (BB eb ?_)
  by_cases d1:(q - 1 == 1)=true
  ·rw[if_pos d1]
   exact wpS_pure (fst mm (eq_of_beq d1))
  ·rw[if_neg d1]
   have d2:=Bo d1
   split
   ·exact wpS_pure (don mm hp (by lia) hn')
   ·exact wpS_pure (yie mm hp (by lia) hn')
theorem Tj {R:ForInStep HiO->SortSt->Prop} {st1:SortSt} {mg p q:Nat} {o:Array Keyed} (C:Cmp prog w A E s kd good lt) (O:Ord good lt) (hk:kindOf st=kd) (W:HiL good lt a b)
  (fin:∀ {st':SortSt} {o:Array Keyed} {p q:Nat},SG st st'->MH good lt a.toList b.toList o.toList p q->(p=0\/q=0)->Q (dnB a b o p q) st')
  (fst:∀ {st':SortSt} {o:Array Keyed} {p q:Nat},SG st st'->MH good lt a.toList b.toList o.toList p q->q=1->Q (fBB a b o p q) st')
  (r1:∀ {st':SortSt} {r z},SG st st'->Q r st'->R (.done (some r,z)) st')
  (r2:∀ {st':SortSt} {o':Array Keyed} {p q mg:Nat},SG st st'->MH good lt a.toList b.toList o'.toList p q->0<p->1<q->o.size+1<=o'.size->R (.yield (none,p,q,o',mg)) st')
  (g1:SG st st1) (hp:0<p) (hq:1<q) (m:MH good lt a.toList b.toList o.toList p q):wpS (model prog w) A E s (hiO a b o p q mg) R st1:=by
 unfold hiO
 refine wpS_bind (wpS_mono (wpS_forRange
  (I:=fun y c st2=>SG st st2/\∃ p' q' o' ac bc,c=(none,p',q',o',ac,bc)/\MH good lt a.toList b.toList o'.toList p' q'/\0<p'/\1<q'/\o.size+y<=o'.size)
  (Q:=fun c st2=>SG st st2/\((∃ r z,c=(some r,z)/\Q r st2)\/∃ p' q' o' ac bc,c=(none,p',q',o',ac,bc)/\MH good lt a.toList b.toList o'.toList p' q'/\0<p'/\1<q'/\o.size+1<=o'.size))
  ?istep ?ifin ⟨g1,p,q,o,0,0,rfl,m,hp,hq,Nat.le_refl _⟩) ?ipost)
 case ifin=>
  rintro c st2 ⟨g2,p',q',o',ac,bc,rfl,m',hp',hq',ho'⟩
  have hpl:=m.pa
  rw[Array.length_toList] at hpl
  exact ⟨g2,.inr ⟨p',q',o',ac,bc,rfl,m',hp',hq',by lia⟩⟩
 case istep=>
  rintro y c st2 _ hy ⟨g2,p',q',o',ac,bc,rfl,m',hp',hq',ho'⟩
  exact Qk (n:=o.size+y) C O (g2.kind.trans hk) W (fun m h=>⟨g2,.inl ⟨_,_,rfl,fin g2 m h⟩⟩) (fun m h=>⟨g2,.inl ⟨_,_,rfl,fst g2 m h⟩⟩) (fun m h1 h2 h3=>⟨g2,.inr ⟨_,_,_,_,_,rfl,m,h1,h2,by lia⟩⟩) (fun m h1 h2 h3=>⟨g2,_,_,_,_,_,rfl,m,h1,h2,h3⟩) hp' hq' m' ho'
 case ipost=>
  rintro c st2 ⟨g2,⟨r,z,rfl,hr⟩ | ⟨p',q',o',ac,bc,rfl,m',hp',hq',ho'⟩⟩
  ·exact wpS_pure (r1 g2 hr)
  ·refine wpS_bind (wpS_lift (wpAny_rule ⟨rfl,?_⟩))
   refine wpS_bind (wpS_mono (wpS_forRange
    (I:=fun y c st3=>SG st st3/\∃ p2 q2 o2 mg2 ac2 bc2,c=(none,p2,q2,o2,mg2,ac2,bc2)/\MH good lt a.toList b.toList o2.toList p2 q2/\0<p2/\1<q2/\o'.size<=o2.size)
    (Q:=fun c st3=>SG st st3/\((∃ r z,c=(some r,z)/\Q r st3)\/∃ p2 q2 o2 mg2 ac2 bc2,c=(none,p2,q2,o2,mg2,ac2,bc2)/\MH good lt a.toList b.toList o2.toList p2 q2/\0<p2/\1<q2/\o'.size<=o2.size))
    ?gstep ?gfin ⟨g2,p',q',o',_,ac,bc,rfl,m',hp',hq',Nat.le_refl _⟩) ?gpost)
   case gfin=>
    rintro c st3 ⟨g3,p2,q2,o2,mg2,ac2,bc2,rfl,m2,hp2,hq2,ho2⟩
    exact ⟨g3,.inr ⟨p2,q2,o2,mg2,ac2,bc2,rfl,m2,hp2,hq2,ho2⟩⟩
   case gpost=>
    rintro c st3 ⟨g3,⟨r,z,rfl,hr⟩ | ⟨p2,q2,o2,mg2,ac2,bc2,rfl,m2,hp2,hq2,ho2⟩⟩
    ·exact wpS_pure (r1 g3 hr)
    ·dsimp only
     rw[GJ]
     exact wpS_bind (wpS_modify (wpS_pure (r2 (g3.setG _) m2 hp2 hq2 (by lia))))
   case gstep=>
    rintro y c st3 _ hy ⟨g3,p2,q2,o2,mg2,ac2,bc2,rfl,m2,hp2,hq2,ho2⟩
    exact Qj C O (fun g=>(g3.setG g).kind.trans hk) (fun g=>⟨fun m h=>⟨g3.setG _,.inl ⟨_,_,rfl,fin (g3.setG _) m h⟩⟩,fun m h=>⟨g3.setG _,.inl ⟨_,_,rfl,fst (g3.setG _) m h⟩⟩,fun m h1 h2 h3=>⟨g3.setG _,.inr ⟨_,_,_,_,_,_,rfl,m,h1,h2,h3⟩⟩,fun m h1 h2 h3=>⟨g3.setG _,_,_,_,_,_,_,rfl,m,h1,h2,h3⟩⟩) W hp2 hq2 m2 ho2
theorem R8 (C:Cmp prog w A E s kd good lt) (O:Ord good lt) (hk:kindOf st=kd) (sa:SL good lt a.toList) (sb:SL good lt b.toList) (ha:0<a.size) (hb:0<b.size)
  (h0:∀ y,b.toList[0]?=some y->∀ x∈a.toList,LE lt y x) (h1:∀ x,a.toList[a.size - 1]?=some x->∀ y∈b.toList,LE lt y x)
  (hQ:∀ r st',SG st st'->Good lt a.toList b.toList r.toList->Q r st'):wpS (model prog w) A E s (mHi a b) Q st:=by
 rw[Ph]
 unfold IW
 refine wpS_bind (wpS_lift (wpAny_rule ⟨rfl,?_⟩))
 obtain ⟨ea1,la1⟩:=at_of (xs:=a) (i:=a.size - 1) (by lia)
 obtain ⟨eb0,lb0⟩:=at_of hb
 refine wpS_bind (BB ea1 ?_)
 have upA:∀ {p q:Nat} {x y:Keyed},0<q->a.toList[p]?=some x->b.toList[q - 1]?=some y->LE lt y x->∀ z∈b.toList.take q,LE lt z x:=fun {p q x y} hq hx hy hl z hz=>by
  obtain ⟨j,hj,ej⟩:=FG hz
  by_cases e:j=q - 1
  ·rw[e,hy] at ej;cases ej;exact hl
  ·exact O.tr (sb.good_at ej) (sb.good_at hy) (sa.good_at hx) (sb.up ej hy (by lia)) hl
 have upB:∀ {p q:Nat} {x y:Keyed},0<p->a.toList[p - 1]?=some x->b.toList[q]?=some y->LE lt x y->∀ z∈a.toList.take p,LE lt z y:=fun {p q x y} hp hx hy hl z hz=>by
  obtain ⟨j,hj,ej⟩:=FG hz
  by_cases e:j=p - 1
  ·rw[e,hx] at ej;cases ej;exact hl
  ·exact O.tr (sa.good_at ej) (sa.good_at hx) (sb.good_at hy) (sa.up ej hx (by lia)) hl
 have W:HiL good lt a b:=⟨sa,sb,upA,upB⟩
 have m0:MH good lt a.toList b.toList [] a.size b.size:=⟨by rw[List.take_of_length_le (by simp),List.take_of_length_le (by simp)];simp,List.Pairwise.nil,fun x hx=>(nomatch hx),by simp,by simp⟩
 have m1:MH good lt a.toList b.toList [a[a.size - 1]] (a.size - 1) b.size:=m0.pushA' ha sa la1 fun y hy=>h1 _ la1 y (List.mem_of_mem_take hy)
 have fin:∀ {st':SortSt} {o:Array Keyed} {p q:Nat},SG st st'->MH good lt a.toList b.toList o.toList p q->(p=0\/q=0)->Q (a.extract 0 p++b.extract 0 q++o.reverse) st':=fun {st' o p q} g m h=>by
  refine hQ _ st' g ?_
  rw[Array.toList_append,Array.toList_append,FF,FF,Array.toList_reverse]
  refine m.done sa sb ?_
  rcases h with h | h
  ·exact .inl (by rw[h];rfl)
  ·exact .inr (by rw[h];rfl)
 have fst:∀ {st':SortSt} {o:Array Keyed} {p q:Nat},SG st st'->MH good lt a.toList b.toList o.toList p q->q=1->Q (b.extract 0 q++a.extract 0 p++o.reverse) st':=fun {st' o p q} g m h=>by
  subst h
  refine hQ _ st' g ?_
  rw[Array.toList_append,Array.toList_append,FF,FF,Array.toList_reverse]
  exact m.first sa lb0 (h0 _ lb0)
 by_cases c1:(a.size - 1 == 0)=true
 ·rw[if_pos c1]
  exact wpS_pure (fin (SG.refl _) m1 (.inl (eq_of_beq c1)))
 rw[if_neg c1]
 have na:0<a.size - 1:=by
  have:¬a.size - 1=0:=fun z=>c1 (by rw[z];rfl)
  lia
 by_cases c2:(b.size == 1)=true
 ·rw[if_pos c2]
  exact wpS_pure (fst (SG.refl _) m1 (eq_of_beq c2))
 rw[if_neg c2]
 have nb:1<b.size:=by
  have:¬b.size=1:=fun z=>c2 (by rw[z];rfl)
  lia
 refine wpS_bind (wpS_get ?_)
 refine wpS_bind (wpS_mono (wpS_forRange
  (I:=fun x c st'=>SG st st'/\∃ p q o mg,c=(none,p,q,o,mg)/\MH good lt a.toList b.toList o.toList p q/\0<p/\1<q/\x+1<=o.size)
  (Q:=fun c st'=>SG st st'/\∃ r o,c=(some r,o)/\Q r st') ?ostep ?ofin ⟨SG.refl _,a.size - 1,b.size,#[a[a.size - 1]],_,rfl,m1,na,nb,by simp⟩) ?opost)
 case ofin=>
  rintro c st' ⟨g,p,q,o,mg,rfl,m,hp,hq,ho⟩
  have:=m.size
  rw[Array.length_toList,Array.length_toList,Array.length_toList] at this
  lia
 case opost=>
  rintro c st' ⟨g,r,o,rfl,hq⟩
  exact wpS_pure hq
 case ostep=>
  rintro x c st1 _ hx ⟨g1,p,q,o,mg,rfl,m,hp,hq,ho⟩
  exact Tj C O hk W fin fst (fun g h=>⟨g,_,_,rfl,h⟩) (fun g m h1 h2 h3=>⟨g,_,_,_,_,rfl,m,h1,h2,Nat.le_trans (Nat.succ_le_succ ho) h3⟩) g1 hp hq m
end
def G (xs:Array Keyed) (k:Nat):Keyed:=xs[k]?.getD (.none,.none)
theorem CF {xs ys:Array Keyed} {i j:Nat} (h:xs[i]?=ys[j]?):G xs i=G ys j:=by unfold G;rw[h]
theorem Eg {xs:Array Keyed} {i:Nat} (h:i<xs.size):xs[i]?=some (G xs i):=by
 unfold G
 rw[Array.getElem?_eq_getElem h]
 rfl
def Out (lo hi:Nat) (xs ys:Array Keyed):Prop:=∀ k,(k<lo\/hi<=k)->ys[k]?=xs[k]?
theorem Out.refl {lo hi:Nat} (xs:Array Keyed):Out lo hi xs xs:=fun _ _=>rfl
theorem Out.trans {lo hi:Nat} {xs ys zs:Array Keyed} (a:Out lo hi xs ys) (b:Out lo hi ys zs):Out lo hi xs zs:=fun k h=>(b k h).trans (a k h)
structure SB (kd:SortKind) (a₀:Array Keyed) (st:SortSt):Prop where
 perm:(arrOf st).Perm a₀
 kind:kindOf st=kd
 fail:failedOf st=none
theorem SB.size {kd:SortKind} {a₀:Array Keyed} {st:SortSt} (h:SB kd a₀ st):(arrOf st).size=a₀.size:=h.perm.size_eq
theorem SB.put {kd:SortKind} {a₀:Array Keyed} {st:SortSt} (h:SB kd a₀ st) {xs:Array Keyed} (hp:xs.Perm (arrOf st)):SB kd a₀ (setArr st xs):=⟨hp.trans h.perm,h.kind,h.fail⟩
section
variable {prog:Program} {w:World} {A:Around} {E:Value->Shared->Prop} {s:Shared} {kd:SortKind} {good:Keyed->Prop} {lt:Keyed->Keyed->Bool} {st:SortSt} {a₀:Array Keyed}
theorem SB.ok (h:SB kd a₀ st) (hg:∀ x∈a₀.toList,good x) {i:Nat} (hi:i<a₀.size):good (G (arrOf st) i):=by
 have hi':i<(arrOf st).size:=by rw[h.size];exact hi
 have e:G (arrOf st) i=(arrOf st)[i]:=by unfold G;rw[Array.getElem?_eq_getElem hi'];rfl
 rw[e]
 exact hg _ ((Array.perm_iff_toList_perm.mp h.perm).mem_iff.mp (by simp))
theorem Dl (C:Cmp prog w A E s kd good lt) (h:SB kd a₀ st) (hg:∀ x∈a₀.toList,good x) {i j:Nat} {Q:Option Bool->SortSt->Prop} (hi:i<a₀.size) (hj:j<a₀.size)
  (hQ:Q (some (lt (G (arrOf st) i) (G (arrOf st) j))) st):wpS (model prog w) A E s (ltAt' i j) Q st:=by
 rw[ltAt'_eq]
 refine wpS_bind (wpS_get ?_)
 exact wpS_bind (BB (Eg (by rw[h.size];exact hi)) (wpS_bind (BB (Eg (by rw[h.size];exact hj)) (C.run h.kind (h.ok hg hi) (h.ok hg hj) hQ))))
def Asc (lt:Keyed->Keyed->Bool) (xs:Array Keyed) (lo n:Nat):Prop:=∀ i j,lo<=i->i<=j->j<lo+n->LE lt (G xs i) (G xs j)
def Dsc (lt:Keyed->Keyed->Bool) (xs:Array Keyed) (lo n:Nat):Prop:=∀ i j,lo<=i->i<=j->j<lo+n->LE lt (G xs j) (G xs i)
theorem Ord.rf (O:Ord good lt) {x:Keyed} (h:good x):LE lt x x:=by
 show lt x x=false
 cases q:lt x x with
 | false=>rfl
 | true=>
  have z:=O.tot h h q
  rw[q] at z
  cases z
theorem Asc.more (O:Ord good lt) (h:SB kd a₀ st) (hg:∀ x∈a₀.toList,good x) {lo n:Nat} (hn:1<=n) (hs:lo+n<a₀.size) (a:Asc lt (arrOf st) lo n) (hl:LE lt (G (arrOf st) (lo+n - 1)) (G (arrOf st) (lo+n))):Asc lt (arrOf st) lo (n+1):=fun i j h1 h2 h3=>by
 by_cases e:j<lo+n
 ·exact a i j h1 h2 e
 have e':j=lo+n:=by lia
 subst e'
 by_cases e:i=lo+n
 ·subst e;exact O.rf (h.ok hg (by lia))
 ·exact O.tr (h.ok hg (by lia)) (h.ok hg (by lia)) (h.ok hg (by lia)) (a i (lo+n - 1) h1 (by lia) (by lia)) hl
theorem Dsc.more (O:Ord good lt) (h:SB kd a₀ st) (hg:∀ x∈a₀.toList,good x) {lo n:Nat} (hn:1<=n) (hs:lo+n<a₀.size) (a:Dsc lt (arrOf st) lo n) (hl:LE lt (G (arrOf st) (lo+n)) (G (arrOf st) (lo+n - 1))):Dsc lt (arrOf st) lo (n+1):=fun i j h1 h2 h3=>by
 by_cases e:j<lo+n
 ·exact a i j h1 h2 e
 have e':j=lo+n:=by lia
 subst e'
 by_cases e:i=lo+n
 ·subst e;exact O.rf (h.ok hg (by lia))
 ·exact O.tr (h.ok hg (by lia)) (h.ok hg (by lia)) (h.ok hg (by lia)) hl (a i (lo+n - 1) h1 (by lia) (by lia))
theorem HN {xs:Array Keyed} {i j:Nat} (hj:j<=xs.size) (k:Nat):G (mirror xs i j ((j - i) / 2)) k=if i<=k/\k<j then G xs (i+j - 1 - k) else G xs k:=by
 have e:=getElem?_mirror_all (i:=i) hj k
 by_cases h1:i<=k/\k<j
 ·rw[if_pos h1] at e ⊢;exact CF e
 ·rw[if_neg h1] at e ⊢;exact CF e
theorem EW {xs:Array Keyed} {i j lo hi:Nat} (hj:j<=xs.size) (h1:lo<=i) (h2:j<=hi):Out lo hi xs (mirror xs i j ((j - i) / 2)):=fun k hk=>by
 rw[getElem?_mirror_all hj,if_neg (by lia)]
theorem Dsc.same (O:Ord good lt) {xs:Array Keyed} {lo n i j:Nat} (hj:j<=xs.size) (hg:∀ k,k<xs.size->good (G xs k)) (d:Dsc lt xs lo n) (hlo:lo<=i) (hjn:j<=lo+n) (hn:lo+n<=xs.size)
  (eq:∀ p q,i<=p->p<j->i<=q->q<j->LE lt (G xs p) (G xs q)):Dsc lt (mirror xs i j ((j - i) / 2)) lo n:=fun p q h1 h2 h3=>by
 have like:∀ k,k<lo+n->LE lt (G xs k) (G (mirror xs i j ((j - i) / 2)) k)/\LE lt (G (mirror xs i j ((j - i) / 2)) k) (G xs k)/\good (G (mirror xs i j ((j - i) / 2)) k):=fun k hk=>by
  rw[HN hj]
  by_cases c:i<=k/\k<j
  ·rw[if_pos c]
   exact ⟨eq _ _ c.1 c.2 (by lia) (by lia),eq _ _ (by lia) (by lia) c.1 c.2,hg _ (by lia)⟩
  ·rw[if_neg c]
   exact ⟨O.rf (hg _ (by lia)),O.rf (hg _ (by lia)),hg _ (by lia)⟩
 obtain ⟨a1,a2,a3⟩:=like p (by lia)
 obtain ⟨b1,b2,b3⟩:=like q (by lia)
 exact O.tr b3 (hg _ (by lia)) a3 b2 (O.tr (hg _ (by lia)) (hg _ (by lia)) a3 (d p q h1 h2 h3) a1)
theorem Dsc.turn {xs:Array Keyed} {lo n:Nat} (hn:lo+n<=xs.size) (d:Dsc lt xs lo n):Asc lt (mirror xs lo (lo+n) ((lo+n - lo) / 2)) lo n:=fun p q h1 h2 h3=>by
 rw[HN hn,HN hn,if_pos (by lia),if_pos (by lia)]
 exact d _ _ (by lia) (by lia) (by lia)
end
def Kf (lo n1 nrem:Nat):SM (Option Nat):=do
 let mut n:=n1
 for _ in [n:nrem] do
  let some sm <-ltAt' (lo+n) (lo+n - 1) | return none
  if sm then break
  n:=n+1
 return some n
def KJ (lo n0 nrem:Nat):SM (Option Nat):=do
 rule "list.sort.descending-run"
 let mut n:=n0+1
 let mut e:=0
 for _ in [n:nrem] do
  let some sm <-ltAt' (lo+n) (lo+n - 1) | return none
  if sm then
   if e > 0 then reverseSlice' (lo+n - (e+1)) (lo+n)
   e:=0
  else
   let some la <-ltAt' (lo+n - 1) (lo+n) | return none
   if la then break
   e:=e+1
  n:=n+1
 if e > 0 then reverseSlice' (lo+n - (e+1)) (lo+n)
 reverseSlice' lo (lo+n)
 for _ in [n:nrem] do
  let some sm <-ltAt' (lo+n) (lo+n - 1) | return none
  if sm then break
  n:=n+1
 return some n
section
variable {prog:Program} {w:World} {A:Around} {E:Value->Shared->Prop} {s:Shared} {kd:SortKind} {good:Keyed->Prop} {lt:Keyed->Keyed->Bool} {st:SortSt} {a₀:Array Keyed} {lo nrem:Nat} {Q:Option Nat->SortSt->Prop}
theorem SB.gs (h:SB kd a₀ st) (hg:∀ x∈a₀.toList,good x):∀ k,k<(arrOf st).size->good (G (arrOf st) k):=fun k hk=>h.ok hg (by rw[<-h.size];exact hk)
theorem Mv (C:Cmp prog w A E s kd good lt) (O:Ord good lt) (h:SB kd a₀ st) (hg:∀ x∈a₀.toList,good x) (hs:lo+nrem<=a₀.size) {n0:Nat} (h1:1<=n0) (h2:n0+1<=nrem) (hd:Dsc lt (arrOf st) lo (n0+1))
  (hQ:∀ n st',SB kd a₀ st'->pendingOf st'=pendingOf st->1<=n->n<=nrem->Asc lt (arrOf st') lo n->Out lo (lo+nrem) (arrOf st) (arrOf st')->Q (some n) st'):wpS (model prog w) A E s (KJ lo n0 nrem) Q st:=by
 unfold KJ
 dsimp only
 refine wpS_bind (wpS_lift (wpAny_rule ⟨rfl,?_⟩))
 have asc:∀ {st':SortSt} {n1:Nat},SB kd a₀ st'->pendingOf st'=pendingOf st->1<=n1->n1<=nrem->Asc lt (arrOf st') lo n1->Out lo (lo+nrem) (arrOf st) (arrOf st') ->
   wpS (model prog w) A E s (Kf lo n1 nrem) Q st':=fun {st' n1} B p0 p1 p2 p3 p4=>by
  unfold Kf
  dsimp only
  refine wpS_bind (wpS_mono (wpS_forRange (I:=fun x c st''=>st''=st'/\c=(none,x)/\1<=x/\x<=nrem/\Asc lt (arrOf st') lo x) (Q:=fun c st''=>st''=st'/\∃ n,c=(none,n)/\1<=n/\n<=nrem/\Asc lt (arrOf st') lo n) ?step ?fin ⟨rfl,rfl,p1,p2,p3⟩) ?post)
  case fin=>
   rintro c st'' ⟨rfl,rfl,a1,a2,a3⟩
   exact ⟨rfl,_,rfl,a1,a2,a3⟩
  case post=>
   rintro c st'' ⟨rfl,n,rfl,a1,a2,a3⟩
   exact wpS_pure (hQ n _ B p0 a1 a2 a3 p4)
  case step=>
   rintro x c st'' h3 h4 ⟨rfl,rfl,a1,a2,a3⟩
   dsimp only
   refine wpS_bind (Dl C B hg (by lia) (by lia) ?_)
   cases q:lt (G (arrOf st'') (lo+x)) (G (arrOf st'') (lo+x - 1)) with
   | true=>
    simp only[if_true]
    exact wpS_pure ⟨rfl,x,rfl,a1,a2,a3⟩
   | false=>
    simp only[Bool.false_eq_true,if_false]
    exact wpS_pure ⟨rfl,rfl,by lia,h4,a3.more O B hg a1 (by lia) q⟩
 refine wpS_bind (wpS_mono (wpS_forRange
  (I:=fun x c st'=>SB kd a₀ st'/\pendingOf st'=pendingOf st/\Out lo (lo+nrem) (arrOf st) (arrOf st')/\∃ e,c=(none,x,e)/\2<=x/\x<=nrem/\e+2<=x/\Dsc lt (arrOf st') lo x/\∀ p q,lo+x - (e+1)<=p->p<lo+x->lo+x - (e+1)<=q->q<lo+x->LE lt (G (arrOf st') p) (G (arrOf st') q))
  (Q:=fun c st'=>SB kd a₀ st'/\pendingOf st'=pendingOf st/\Out lo (lo+nrem) (arrOf st) (arrOf st')/\∃ x e,c=(none,x,e)/\2<=x/\x<=nrem/\e+2<=x/\Dsc lt (arrOf st') lo x/\∀ p q,lo+x - (e+1)<=p->p<lo+x->lo+x - (e+1)<=q->q<lo+x->LE lt (G (arrOf st') p) (G (arrOf st') q)) ?step ?fin ?init) ?post)
 case init=>
  refine ⟨h,rfl,Out.refl _,0,rfl,by lia,by lia,by lia,hd,fun p q a1 a2 a3 a4=>?_⟩
  have:p=q:=by lia
  subst this
  exact O.rf (h.ok hg (by lia))
 case fin=>
  rintro c st' ⟨B,p0,ou,e,rfl,a1,a2,a3,a4,a5⟩
  exact ⟨B,p0,ou,_,e,rfl,a1,a2,a3,a4,a5⟩
 case post=>
  rintro c st' ⟨B,p0,ou,x,e,rfl,a1,a2,a3,a4,a5⟩
  dsimp only
  have sz:=B.size
  by_cases c1:e > 0
  ·rw[if_pos c1,reverseSlice'_eq,reverseSlice'_eq]
   refine wpS_bind (wpS_modify (wpS_bind (wpS_modify ?_)))
   have d1:=a4.same O (i:=lo+x - (e+1)) (j:=lo+x) (by lia) (B.gs hg) (by lia) (by lia) (by lia) a5
   have B1:=B.put (mirror_perm (arrOf st') (lo+x - (e+1)) (lo+x) ((lo+x - (lo+x - (e+1))) / 2))
   have d2:=d1.turn (by rw[mirror_size];lia)
   exact asc (B1.put (mirror_perm _ _ _ _)) p0 (by lia) a2 d2 ((ou.trans (EW (by lia) (by lia) (by lia))).trans (EW (by rw[mirror_size];lia) (by lia) (by lia)))
  ·rw[if_neg c1,reverseSlice'_eq]
   refine wpS_bind (wpS_modify ?_)
   exact asc (B.put (mirror_perm _ _ _ _)) p0 (by lia) a2 (a4.turn (by lia)) (ou.trans (EW (by lia) (by lia) (by lia)))
 case step=>
  rintro x c st' h3 h4 ⟨B,p0,ou,e,rfl,a1,a2,a3,a4,a5⟩
  dsimp only
  have sz:=B.size
  refine wpS_bind (Dl C B hg (by lia) (by lia) ?_)
  cases q:lt (G (arrOf st') (lo+x)) (G (arrOf st') (lo+x - 1)) with
  | true=>
   simp only[if_true]
   have le1:=O.tot (B.ok hg (by lia)) (B.ok hg (by lia)) q
   by_cases c1:e > 0
   ·rw[if_pos c1,reverseSlice'_eq]
    refine wpS_bind (wpS_modify (wpS_pure ?_))
    have d0:=a4.more O B hg (by lia) (by lia) le1
    have d1:=d0.same O (i:=lo+x - (e+1)) (j:=lo+x) (by lia) (B.gs hg) (by lia) (by lia) (by lia) a5
    have B1:=B.put (mirror_perm (arrOf st') (lo+x - (e+1)) (lo+x) ((lo+x - (lo+x - (e+1))) / 2))
    refine ⟨B1,p0,ou.trans (EW (by lia) (by lia) (by lia)),0,rfl,by lia,h4,by lia,d1,fun p q b1 b2 b3 b4=>?_⟩
    have:p=q:=by lia
    subst this
    exact O.rf (B1.ok hg (by lia))
   ·rw[if_neg c1]
    refine wpS_pure ⟨B,p0,ou,0,rfl,by lia,h4,by lia,a4.more O B hg (by lia) (by lia) le1,fun p q b1 b2 b3 b4=>?_⟩
    have:p=q:=by lia
    subst this
    exact O.rf (B.ok hg (by lia))
  | false=>
   simp only[Bool.false_eq_true,if_false]
   refine wpS_bind (Dl C B hg (by lia) (by lia) ?_)
   cases q2:lt (G (arrOf st') (lo+x - 1)) (G (arrOf st') (lo+x)) with
   | true=>
    simp only[if_true]
    exact wpS_pure ⟨B,p0,ou,x,e,rfl,a1,a2,a3,a4,a5⟩
   | false=>
    simp only[Bool.false_eq_true,if_false]
    refine wpS_pure ⟨B,p0,ou,e+1,rfl,by lia,h4,by lia,a4.more O B hg (by lia) (by lia) q2,fun p q' b1 b2 b3 b4=>?_⟩
    by_cases f1:p=lo+x
    ·subst f1
     by_cases f2:q'=lo+x
     ·subst f2;exact O.rf (B.ok hg (by lia))
     ·exact O.tr (B.ok hg (by lia)) (B.ok hg (by lia)) (B.ok hg (by lia)) q2 (a5 _ _ (by lia) (by lia) (by lia) (by lia))
    ·by_cases f2:q'=lo+x
     ·subst f2
      exact O.tr (B.ok hg (by lia)) (B.ok hg (by lia)) (B.ok hg (by lia)) (a5 p (lo+x - 1) (by lia) (by lia) (by lia) (by lia)) q
     ·exact a5 _ _ (by lia) (by lia) (by lia) (by lia)
end
section
variable {prog:Program} {w:World} {A:Around} {E:Value->Shared->Prop} {s:Shared} {kd:SortKind} {good:Keyed->Prop} {lt:Keyed->Keyed->Bool} {st:SortSt} {a₀:Array Keyed} {lo nrem:Nat}
theorem Nw {Q:Option Nat->SortSt->Prop} (C:Cmp prog w A E s kd good lt) (O:Ord good lt) (h:SB kd a₀ st) (hg:∀ x∈a₀.toList,good x) (hs:lo+nrem<=a₀.size) (h1:1<=nrem)
  (hQ:∀ n st',SB kd a₀ st'->pendingOf st'=pendingOf st->1<=n->n<=nrem->Asc lt (arrOf st') lo n->Out lo (lo+nrem) (arrOf st) (arrOf st')->Q (some n) st'):wpS (model prog w) A E s (countRun' lo nrem) Q st:=by
 rw[countRun'_eq]
 dsimp only
 have sz:=h.size
 refine wpS_bind (wpS_mono (wpS_forRange (I:=fun x c st'=>st'=st/\c=(none,x)/\1<=x/\x<=nrem/\Asc lt (arrOf st) lo x)
  (Q:=fun c st'=>st'=st/\∃ n,c=(none,n)/\1<=n/\n<=nrem/\Asc lt (arrOf st) lo n/\(n<nrem->lt (G (arrOf st) (lo+n)) (G (arrOf st) (lo+n - 1))=true)) ?step ?fin ⟨rfl,rfl,Nat.le_refl _,h1,?init⟩) ?post)
 case init=>
  intro i j a1 a2 a3
  have:i=j:=by lia
  subst this
  exact O.rf (h.ok hg (by lia))
 case fin=>
  rintro c st' ⟨rfl,rfl,a1,a2,a3⟩
  exact ⟨rfl,_,rfl,a1,a2,a3,fun z=>by lia⟩
 case step=>
  rintro x c st' h3 h4 ⟨rfl,rfl,a1,a2,a3⟩
  dsimp only
  refine wpS_bind (Dl C h hg (by lia) (by lia) ?_)
  cases q:lt (G (arrOf st') (lo+x)) (G (arrOf st') (lo+x - 1)) with
  | true=>
   simp only[if_true]
   exact wpS_pure ⟨rfl,x,rfl,a1,a2,a3,fun _=>q⟩
  | false=>
   simp only[Bool.false_eq_true,if_false]
   exact wpS_pure ⟨rfl,rfl,by lia,h4,a3.more O h hg a1 (by lia) q⟩
 case post=>
  rintro c st' ⟨rfl,n,rfl,a1,a2,a3,a4⟩
  dsimp only
  by_cases c1:(n == nrem)=true
  ·rw[if_pos c1]
   exact wpS_pure (hQ n _ h rfl a1 a2 a3 (Out.refl _))
  rw[if_neg c1]
  have hn:n<nrem:=by
   have:¬n=nrem:=fun z=>c1 (by rw[z];simp)
   lia
  have sm:=a4 hn
  have sm':=O.tot (h.ok hg (by lia)) (h.ok hg (by lia)) sm
  by_cases c2:n > 1
  ·rw[if_pos c2]
   refine wpS_bind (Dl C h hg (by lia) (by lia) ?_)
   cases q:lt (G (arrOf st') lo) (G (arrOf st') (lo+n - 1)) with
   | true=>
    simp only[if_true]
    exact wpS_pure (hQ n _ h rfl a1 a2 a3 (Out.refl _))
   | false=>
    simp only[Bool.false_eq_true,if_false]
    rw[reverseSlice'_eq]
    refine wpS_bind (wpS_modify ?_)
    have like:∀ p q',lo<=p->p<lo+n->lo<=q'->q'<lo+n->LE lt (G (arrOf st') p) (G (arrOf st') q'):=fun p q' b1 b2 b3 b4=>
     O.tr (h.ok hg (by lia)) (h.ok hg (by lia)) (h.ok hg (by lia)) (a3 p (lo+n - 1) b1 (by lia) (by lia)) (O.tr (h.ok hg (by lia)) (h.ok hg (by lia)) (h.ok hg (by lia)) q (a3 lo q' (Nat.le_refl _) b3 b4))
    have d0:Dsc lt (arrOf st') lo n:=fun p q' b1 b2 b3=>like q' p (by lia) (by lia) b1 (by lia)
    have d1:Dsc lt (arrOf st') lo (n+1):=d0.more O h hg a1 (by lia) sm'
    have d2:=d1.same O (i:=lo) (j:=lo+n) (by lia) (h.gs hg) (Nat.le_refl _) (by lia) (by lia) fun p q' b1 b2 b3 b4=>like p q' b1 b2 b3 b4
    refine Mv (st:=setArr st' (mirror (arrOf st') lo (lo+n) ((lo+n - lo) / 2))) C O (h.put (mirror_perm _ _ _ _)) hg hs a1 hn d2 fun m st2 B p0 p1 p2 p3 p4=>hQ m st2 B p0 p1 p2 p3 ?_
    exact (EW (hi:=lo+nrem) (by lia) (Nat.le_refl _) (by lia)).trans p4
  ·rw[if_neg c2]
   have e:n=1:=by lia
   subst e
   have d0:Dsc lt (arrOf st') lo 1:=fun p q' b1 b2 b3=>by
    have:p=q':=by lia
    subst this
    exact O.rf (h.ok hg (by lia))
   exact Mv C O h hg hs (Nat.le_refl _) hn (d0.more O h hg (Nat.le_refl _) (by lia) sm') hQ
theorem Ku {xs:Array Keyed} {src d:Nat} (hs:src<xs.size) (hd:d<=src) (k:Nat):G (bubble xs src d) k=if k=src - d then G xs src else if src - d<k/\k<=src then G xs (k - 1) else G xs k:=by
 have e:=getElem?_bubble hs d hd k
 by_cases h1:k=src - d
 ·rw[if_pos h1] at e ⊢;exact CF e
 ·rw[if_neg h1] at e ⊢
  by_cases h2:src - d<k/\k<=src
  ·rw[if_pos h2] at e ⊢;exact CF e
  ·rw[if_neg h2] at e ⊢;exact CF e
theorem Px {xs:Array Keyed} {src d lo hi:Nat} (hs:src<xs.size) (hd:d<=src) (h1:lo<=src - d) (h2:src<hi):Out lo hi xs (bubble xs src d):=fun k hk=>by
 rw[getElem?_bubble hs d hd,if_neg (by lia),if_neg (by lia)]
theorem T4 {Q:Bool->SortSt->Prop} (C:Cmp prog w A E s kd good lt) (O:Ord good lt) (h:SB kd a₀ st) (hg:∀ x∈a₀.toList,good x) {n ok:Nat} (hs:lo+n<=a₀.size) (h1:1<=ok) (h2:ok<=n) (ha:Asc lt (arrOf st) lo ok)
  (hQ:∀ st',SB kd a₀ st'->pendingOf st'=pendingOf st->Asc lt (arrOf st') lo n->Out lo (lo+n) (arrOf st) (arrOf st')->Q true st'):wpS (model prog w) A E s (binarySort' lo n ok) Q st:=by
 rw[binarySort'_eq]
 refine wpS_bind (wpS_mono (wpS_forRange (I:=fun k c st'=>c=(none,())/\SB kd a₀ st'/\pendingOf st'=pendingOf st/\Asc lt (arrOf st') lo k/\Out lo (lo+n) (arrOf st) (arrOf st'))
  (Q:=fun c st'=>c=(none,())/\SB kd a₀ st'/\pendingOf st'=pendingOf st/\Asc lt (arrOf st') lo n/\Out lo (lo+n) (arrOf st) (arrOf st')) ?step ?fin ?init) ?post)
 case post=>
  rintro c st' ⟨rfl,B,p0,a,ou⟩
  exact wpS_pure (hQ st' B p0 a ou)
 case init=>
  refine ⟨rfl,h,rfl,?_,Out.refl _⟩
  rwa [show max ok 1=ok by lia]
 case fin=>
  rintro c st' ⟨hc,B,p0,a,ou⟩
  refine ⟨hc,B,p0,?_,ou⟩
  rwa [show max (max ok 1) n=n by lia] at a
 case step=>
  rintro k c st' hak hkn ⟨rfl,B,p0,a,ou⟩
  have sz:=B.size
  refine wpS_bind (wpS_mono (wpS_forRange (I:=fun x c st''=>st''=st'/\∃ l r,c=(none,l,r)/\l<=r/\r<=k/\r - l<=k - x /\
    (∀ i,i<l->LE lt (G (arrOf st') (lo+i)) (G (arrOf st') (lo+k)))/\(∀ i,r<=i->i<k->LE lt (G (arrOf st') (lo+k)) (G (arrOf st') (lo+i))))
   (Q:=fun c st''=>st''=st'/\∃ l r,c=(none,l,r)/\l<=k /\
    (∀ i,i<l->LE lt (G (arrOf st') (lo+i)) (G (arrOf st') (lo+k)))/\(∀ i,l<=i->i<k->LE lt (G (arrOf st') (lo+k)) (G (arrOf st') (lo+i)))) ?istep ?ifin ?iinit) ?ipost)
  case iinit=>exact ⟨rfl,0,k,rfl,by lia,by lia,by lia,fun i hi=>by lia,fun i b1 b2=>by lia⟩
  case ifin=>
   rintro c st'' ⟨rfl,l,r,rfl,b1,b2,b3,b4,b5⟩
   have:l=r:=by lia
   subst this
   exact ⟨rfl,l,l,rfl,b2,b4,b5⟩
  case istep=>
   rintro x c st'' _ hxk ⟨rfl,l,r,rfl,b1,b2,b3,b4,b5⟩
   dsimp only
   by_cases hge:l>=r
   ·rw[if_pos hge]
    have:l=r:=by lia
    subst this
    exact wpS_pure ⟨rfl,l,l,rfl,b2,b4,b5⟩
   ·rw[if_neg hge]
    refine wpS_bind (Dl C B hg (by lia) (by lia) ?_)
    cases q:lt (G (arrOf st'') (lo+k)) (G (arrOf st'') (lo+(l+r) / 2)) with
    | true=>
     simp only[if_true]
     have q':=O.tot (B.ok hg (by lia)) (B.ok hg (by lia)) q
     exact wpS_pure ⟨rfl,l,(l+r) / 2,rfl,by lia,by lia,by lia,b4,fun i c1 c2=>O.tr (B.ok hg (by lia)) (B.ok hg (by lia)) (B.ok hg (by lia)) q' (a _ _ (by lia) (by lia) (by lia))⟩
    | false=>
     simp only[Bool.false_eq_true,if_false]
     exact wpS_pure ⟨rfl,(l+r) / 2+1,r,rfl,by lia,by lia,by lia,fun i c1=>O.tr (B.ok hg (by lia)) (B.ok hg (by lia)) (B.ok hg (by lia)) (a (lo+i) (lo+(l+r) / 2) (by lia) (by lia) (by lia)) q,b5⟩
  case ipost=>
   rintro c st'' ⟨rfl,l,r,rfl,b1,b4,b5⟩
   show wpS _ _ _ _ (do moveDown' (lo+k) (lo+l);pure (ForInStep.yield (none,()))) _ _
   rw[moveDown'_eq]
   have hks:lo+k<(arrOf st'').size:=by lia
   refine wpS_bind (wpS_modify (wpS_pure ⟨rfl,B.put (bubble_perm _ _ _),p0,?_,ou.trans (Px hks (by lia) (by lia) (by lia))⟩))
   intro i j hi hij hj
   show LE lt (G (bubble (arrOf st'') (lo+k) (lo+k - (lo+l))) i) (G (bubble (arrOf st'') (lo+k) (lo+k - (lo+l))) j)
   rw[Ku hks (by lia),Ku hks (by lia),show lo+k - (lo+k - (lo+l))=lo+l by lia]
   have e4:∀ m,lo<=m->m<lo+l->LE lt (G (arrOf st'') m) (G (arrOf st'') (lo+k)):=fun m m1 m2=>by
    have:=b4 (m - lo) (by lia)
    rwa [show lo+(m - lo)=m by lia] at this
   have e5:∀ m,lo+l<=m->m<lo+k->LE lt (G (arrOf st'') (lo+k)) (G (arrOf st'') m):=fun m m1 m2=>by
    have:=b5 (m - lo) (by lia) (by lia)
    rwa [show lo+(m - lo)=m by lia] at this
   repeat' split
   all_goals first
    | (exfalso;lia)
    | exact O.rf (B.ok hg (by lia))
    | exact e4 _ (by lia) (by lia)
    | exact e5 _ (by lia) (by lia)
    | exact a _ _ (by lia) (by lia) (by lia)
end
theorem Rr (i:Nat):mergeAt' i=(do
 let s <-get
 let (some (sa,na,pw),some (sb,nb,_)):=((pendingOf s)[i]?,(pendingOf s)[i+1]?) | unsupported "internal:list.sort.pending"
 set (setPending s (((pendingOf s).setIfInBounds i (sa,na+nb,pw)).eraseIdxIfInBounds (i+1)))
 let some k <-gal false (<-elem' (arrOf s) sb) (arrOf s) sa na 0 | return false
 let (sa,na):=(sa+k,na - k)
 if na == 0 then return true
 let some nb <-gal true (<-elem' (arrOf s) (sa+na - 1)) (arrOf s) sb nb (nb - 1) | return false
 if nb == 0 then return true
 let x:=(arrOf s).extract sa sb
 let y:=(arrOf s).extract sb (sb+nb)
 let m <-if na<=nb then mLo x y else mHi x y
 modify fun s=>setArr s (m.toList.zipIdx.foldl (fun a (p,j)=>a.setIfInBounds (sa+j) p) (arrOf s))
 return (failedOf (<-get)).isNone):=rfl
theorem Le {f:Array Keyed->Keyed×Nat->Array Keyed} {o:Nat} (hf:∀ a p j,f a (p,j)=a.setIfInBounds (o+j) p):∀ (m:List Keyed) (j0:Nat) (xs:Array Keyed),o+j0+m.length<=xs.size ->
  ((m.zipIdx j0).foldl f xs).size=xs.size/\∀ k,((m.zipIdx j0).foldl f xs)[k]?=if o+j0<=k/\k<o+j0+m.length then m[k - (o+j0)]? else xs[k]?
 | [],j0,xs,_=>⟨rfl,fun k=>by rw[if_neg (by rw[List.length_nil];lia)];rfl⟩
 | x::m,j0,xs,h=>by
  rw[List.length_cons] at h
  have ih:=Le hf m (j0+1) (f xs (x,j0)) (by rw[hf,Array.size_setIfInBounds];lia)
  rw[List.zipIdx_cons,List.foldl_cons]
  refine ⟨by rw[ih.1,hf,Array.size_setIfInBounds],fun k=>?_⟩
  rw[ih.2 k,hf,List.length_cons]
  by_cases c:k=o+j0
  ·subst c
   rw[if_neg (by lia),if_pos (by lia),Nat.sub_self,Array.getElem?_setIfInBounds_self_of_lt (by lia)]
   rfl
  ·rw[Array.getElem?_setIfInBounds_ne (by lia)]
   by_cases c2:o+(j0+1)<=k/\k<o+(j0+1)+m.length
   ·rw[if_pos c2,if_pos (by lia),show k - (o+j0)=(k - (o+(j0+1)))+1 by lia,List.getElem?_cons_succ]
   ·rw[if_neg c2,if_neg (by lia)]
section
variable {prog:Program} {w:World} {A:Around} {E:Value->Shared->Prop} {s:Shared} {kd:SortKind} {good:Keyed->Prop} {lt:Keyed->Keyed->Bool} {st:SortSt} {a₀:Array Keyed}
theorem Cj {xs:Array Keyed} {i:Nat} {x:Keyed} (h:xs.toList[i]?=some x):G xs i=x:=by
 unfold G
 rw[<-Array.getElem?_toList,h]
 rfl
theorem Fn {xs:Array Keyed} {i:Nat} (h:i<xs.size):xs.toList[i]?=some (G xs i):=by
 rw[Array.getElem?_toList]
 exact Eg h
theorem Asc.sl {lo n u v:Nat} {xs:Array Keyed} (hg:∀ k,k<xs.size->good (G xs k)) (a:Asc lt xs lo n) (h1:lo<=u) (h2:v<=lo+n) (h3:v<=xs.size):SL good lt (xs.extract u v).toList:=by
 have at_:∀ i x,(xs.extract u v).toList[i]?=some x->x=G xs (u+i)/\u+i<v:=fun i x hx=>by
  rw[DQ] at hx
  have hl:=Cm hx
  rw[List.length_take,List.length_drop,Array.length_toList] at hl
  rw[List.getElem?_take_of_lt (by lia),List.getElem?_drop] at hx
  exact ⟨(Cj hx).symm,by lia⟩
 refine ⟨fun x hx=>?_,List.pairwise_iff_getElem.mpr fun i j hi hj hij=>?_⟩
 ·obtain ⟨i,hi⟩:=List.mem_iff_getElem?.mp hx
  obtain ⟨e,l⟩:=at_ i x hi
  rw[e]
  exact hg _ (by lia)
 ·obtain ⟨e1,l1⟩:=at_ i _ (List.getElem?_eq_getElem hi)
  obtain ⟨e2,l2⟩:=at_ j _ (List.getElem?_eq_getElem hj)
  rw[e1,e2]
  exact a _ _ (by lia) (by lia) (by lia)
theorem Q3 {Q:Bool->SortSt->Prop} (C:Cmp prog w A E s kd good lt) (O:Ord good lt) (h:SB kd a₀ st) (hg:∀ x∈a₀.toList,good x) {i s1 n1 p1 n2 p2:Nat} (e1:(pendingOf st)[i]?=some (s1,n1,p1)) (e2:(pendingOf st)[i+1]?=some (s1+n1,n2,p2))
  (l1:1<=n1) (l2:1<=n2) (hs:s1+n1+n2<=a₀.size) (a1:Asc lt (arrOf st) s1 n1) (a2:Asc lt (arrOf st) (s1+n1) n2)
  (hQ:∀ st',SB kd a₀ st'->pendingOf st'=((pendingOf st).setIfInBounds i (s1,n1+n2,p1)).eraseIdxIfInBounds (i+1)->Asc lt (arrOf st') s1 (n1+n2)->Out s1 (s1+n1+n2) (arrOf st) (arrOf st')->Q true st') :
  wpS (model prog w) A E s (mergeAt' i) Q st:=by
 rw[Rr]
 refine wpS_bind (wpS_get ?_)
 rw[e1,e2]
 dsimp only
 have sz:=h.size
 have gs:=h.gs hg
 refine wpS_bind (m:=set _) ?_
 show wpS (model prog w) A E s (modify fun _=>setPending st (((pendingOf st).setIfInBounds i (s1,n1+n2,p1)).eraseIdxIfInBounds (i+1))) _ st
 refine wpS_modify ?_
 have B1:SB kd a₀ (setPending st (((pendingOf st).setIfInBounds i (s1,n1+n2,p1)).eraseIdxIfInBounds (i+1))):=⟨h.perm,h.kind,h.fail⟩
 refine wpS_bind (BB (Eg (by lia)) (wpS_bind (Dz (xs:=arrOf st) (bs:=s1) (n:=n1) (h:=0) C O B1.kind (gs _ (by lia)) (by lia) (fun i hi x hx=>?_) (fun i j x y hij hj hx hy=>?_) (by lia) fun k k1 k2 k3=>?_)))
 ·rw[<-Cj hx];exact gs _ (by lia)
 ·rw[<-Cj hx,<-Cj hy];exact a1 _ _ (by lia) (by lia) (by lia)
 have k2':∀ m,s1<=m->m<s1+k->LE lt (G (arrOf st) m) (G (arrOf st) (s1+n1)):=fun m m1 m2=>k2 (m - s1) _ (by lia) (by rw[show s1+(m - s1)=m by lia];exact Fn (by lia))
 have k3':∀ m,s1+k<=m->m<s1+n1->LE lt (G (arrOf st) (s1+n1)) (G (arrOf st) m):=fun m m1 m2=>k3 (m - s1) _ (by lia) (by lia) (by rw[show s1+(m - s1)=m by lia];exact Fn (by lia))
 dsimp only
 by_cases c1:(n1 - k == 0)=true
 ·rw[if_pos c1]
  have c1':n1 - k=0:=eq_of_beq c1
  refine wpS_pure (hQ _ B1 rfl (fun p q b1 b2 b3=>?_) (Out.refl _))
  by_cases d1:q<s1+n1
  ·exact a1 p q b1 b2 d1
  ·by_cases d2:p<s1+n1
   ·exact O.tr (gs _ (by lia)) (gs _ (by lia)) (gs _ (by lia)) (k2' p b1 (by lia)) (a2 _ q (Nat.le_refl _) (by lia) (by lia))
   ·exact a2 p q (by lia) b2 (by lia)
 rw[if_neg c1]
 have c1':k<n1:=by
  have:¬n1 - k=0:=fun z=>c1 (by rw[z];rfl)
  lia
 rw[show s1+k+(n1 - k) - 1=s1+n1 - 1 by lia]
 refine wpS_bind (BB (Eg (by lia)) (wpS_bind (Dz (xs:=arrOf st) (bs:=s1+n1) (n:=n2) (h:=n2 - 1) C O B1.kind (gs _ (by lia)) (by lia) (fun i hi x hx=>?_) (fun i j x y hij hj hx hy=>?_) (by lia) fun u j1 j2 j3=>?_)))
 ·rw[<-Cj hx];exact gs _ (by lia)
 ·rw[<-Cj hx,<-Cj hy];exact a2 _ _ (by lia) (by lia) (by lia)
 have j2':∀ m,s1+n1<=m->m<s1+n1+u->LE lt (G (arrOf st) m) (G (arrOf st) (s1+n1 - 1)):=fun m m1 m2=>j2 (m - (s1+n1)) _ (by lia) (by rw[show s1+n1+(m - (s1+n1))=m by lia];exact Fn (by lia))
 have j3':∀ m,s1+n1+u<=m->m<s1+n1+n2->LE lt (G (arrOf st) (s1+n1 - 1)) (G (arrOf st) m):=fun m m1 m2=>j3 (m - (s1+n1)) _ (by lia) (by lia) (by rw[show s1+n1+(m - (s1+n1))=m by lia];exact Fn (by lia))
 dsimp only
 by_cases c2:(u == 0)=true
 ·rw[if_pos c2]
  have c2':u=0:=eq_of_beq c2
  refine wpS_pure (hQ _ B1 rfl (fun p q b1 b2 b3=>?_) (Out.refl _))
  by_cases d1:q<s1+n1
  ·exact a1 p q b1 b2 d1
  ·by_cases d2:p<s1+n1
   ·exact O.tr (gs _ (by lia)) (gs _ (by lia)) (gs _ (by lia)) (a1 p (s1+n1 - 1) b1 (by lia) (by lia)) (j3' q (by lia) (by lia))
   ·exact a2 p q (by lia) b2 (by lia)
 rw[if_neg c2]
 have c2':0<u:=by
  have:¬u=0:=fun z=>c2 (by rw[z];rfl)
  lia
 have sx:SL good lt ((arrOf st).extract (s1+k) (s1+n1)).toList:=a1.sl gs (by lia) (by lia) (by lia)
 have sy:SL good lt ((arrOf st).extract (s1+n1) (s1+n1+u)).toList:=a2.sl gs (by lia) (by lia) (by lia)
 have zx:((arrOf st).extract (s1+k) (s1+n1)).size=n1 - k:=by rw[Array.size_extract];lia
 have zy:((arrOf st).extract (s1+n1) (s1+n1+u)).size=u:=by rw[Array.size_extract];lia
 have gx:∀ i x,((arrOf st).extract (s1+k) (s1+n1)).toList[i]?=some x->x=G (arrOf st) (s1+k+i)/\s1+k+i<s1+n1:=fun i x hx=>by
  have hl:=Cm hx
  rw[Array.length_toList,zx] at hl
  rw[DQ,List.getElem?_take_of_lt (by lia),List.getElem?_drop] at hx
  exact ⟨(Cj hx).symm,by lia⟩
 have gy:∀ i x,((arrOf st).extract (s1+n1) (s1+n1+u)).toList[i]?=some x->x=G (arrOf st) (s1+n1+i)/\i<u:=fun i x hx=>by
  have hl:=Cm hx
  rw[Array.length_toList,zy] at hl
  rw[DQ,List.getElem?_take_of_lt (by lia),List.getElem?_drop] at hx
  exact ⟨(Cj hx).symm,hl⟩
 have fin:∀ (m:Array Keyed) (st2:SortSt),SG (setPending st (((pendingOf st).setIfInBounds i (s1,n1+n2,p1)).eraseIdxIfInBounds (i+1))) st2 ->
   Good lt ((arrOf st).extract (s1+k) (s1+n1)).toList ((arrOf st).extract (s1+n1) (s1+n1+u)).toList m.toList ->
   wpS (model prog w) A E s (do
    modify fun s=>setArr s (m.toList.zipIdx.foldl (fun a (p,j)=>a.setIfInBounds (s1+k+j) p) (arrOf s))
    return (failedOf (<-get)).isNone) Q st2:=fun m st2 g gd=>by
  refine wpS_bind (wpS_modify (wpS_bind (wpS_get (wpS_pure ?_))))
  have hm:m.toList.length=(n1 - k)+u:=by
   have:=gd.1.length_eq
   rw[List.length_append] at this
   simp only[Array.length_toList,zx,zy] at this ⊢
   exact this
  have garr:arrOf st2=arrOf st:=g.arr
  obtain ⟨w1,w2⟩:=Le (f:=fun a (p,j)=>a.setIfInBounds (s1+k+j) p) (o:=s1+k) (fun _ _ _=>rfl) m.toList 0 (arrOf st2) (by rw[garr,hm];lia)
  rw[garr] at w1 w2
  simp only[Nat.add_zero] at w2
  have hf:(failedOf (setArr st2 (m.toList.zipIdx.foldl (fun a (p,j)=>a.setIfInBounds (s1+k+j) p) (arrOf st2)))).isNone=true:=by
   show (failedOf st2).isNone=true
   rw[g.fail]
   show (failedOf st).isNone=true
   rw[h.fail]
   rfl
  rw[hf]
  have elist:(m.toList.zipIdx.foldl (fun a (p,j)=>a.setIfInBounds (s1+k+j) p) (arrOf st)).toList=(arrOf st).toList.take (s1+k)++(m.toList++(arrOf st).toList.drop (s1+n1+u)):=by
   refine List.ext_getElem? fun j=>?_
   rw[Array.getElem?_toList,w2 j]
   have ht:((arrOf st).toList.take (s1+k)).length=s1+k:=by rw[List.length_take,Array.length_toList];lia
   by_cases d1:j<s1+k
   ·rw[if_neg (by lia),List.getElem?_append_left (by lia),List.getElem?_take_of_lt d1,Array.getElem?_toList]
   ·rw[List.getElem?_append_right (by lia),ht]
    by_cases d2:j<s1+k+m.toList.length
    ·rw[if_pos (by lia),List.getElem?_append_left (by lia)]
    ·rw[if_neg (by lia),List.getElem?_append_right (by lia),List.getElem?_drop,Array.getElem?_toList]
     congr 1
     lia
  have orig:(arrOf st).toList=(arrOf st).toList.take (s1+k)++((((arrOf st).extract (s1+k) (s1+n1)).toList++((arrOf st).extract (s1+n1) (s1+n1+u)).toList)++(arrOf st).toList.drop (s1+n1+u)):=by
   refine List.ext_getElem? fun j=>?_
   have ht:((arrOf st).toList.take (s1+k)).length=s1+k:=by rw[List.length_take,Array.length_toList];lia
   by_cases d1:j<s1+k
   ·rw[List.getElem?_append_left (by lia),List.getElem?_take_of_lt d1]
   ·rw[List.getElem?_append_right (by lia),ht,List.append_assoc]
    by_cases d2:j<s1+n1
    ·rw[List.getElem?_append_left (by rw[Array.length_toList,zx];lia),DQ,List.getElem?_take_of_lt (by lia),List.getElem?_drop]
     congr 1
     lia
    ·rw[List.getElem?_append_right (by rw[Array.length_toList,zx];lia),Array.length_toList,zx]
     by_cases d3:j<s1+n1+u
     ·rw[List.getElem?_append_left (by rw[Array.length_toList,zy];lia),DQ,List.getElem?_take_of_lt (by lia),List.getElem?_drop]
      congr 1
      lia
     ·rw[List.getElem?_append_right (by rw[Array.length_toList,zy];lia),Array.length_toList,zy,List.getElem?_drop]
      congr 1
      lia
  have hp:(m.toList.zipIdx.foldl (fun a (p,j)=>a.setIfInBounds (s1+k+j) p) (arrOf st)).Perm (arrOf st):=by
   refine Array.perm_iff_toList_perm.mpr ?_
   rw[elist]
   exact List.Perm.trans (List.Perm.append_left _ (List.Perm.append_right _ gd.1)) (List.Perm.of_eq orig.symm)
  have nw:arrOf (setArr st2 (m.toList.zipIdx.foldl (fun a (p,j)=>a.setIfInBounds (s1+k+j) p) (arrOf st2)))=m.toList.zipIdx.foldl (fun a (p,j)=>a.setIfInBounds (s1+k+j) p) (arrOf st):=by rw[garr]
  refine hQ _ ⟨?_,g.kind.trans h.kind,g.fail.trans h.fail⟩ g.pend ?_ ?_
  ·rw[nw]
   exact hp.trans h.perm
  ·rw[nw]
   have gm:∀ j,s1+k<=j->j<s1+n1+u->∃ z,m.toList[j - (s1+k)]?=some z/\G (m.toList.zipIdx.foldl (fun a (p,j)=>a.setIfInBounds (s1+k+j) p) (arrOf st)) j=z/\z∈m.toList:=fun j b1 b2=>by
    have e:m.toList[j - (s1+k)]?=some m.toList[j - (s1+k)]:=List.getElem?_eq_getElem (by lia)
    refine ⟨_,e,?_,List.mem_of_getElem? e⟩
    unfold G
    rw[w2 j,if_pos (by lia),e]
    rfl
   have go:∀ j,(j<s1+k\/s1+n1+u<=j)->G (m.toList.zipIdx.foldl (fun a (p,j)=>a.setIfInBounds (s1+k+j) p) (arrOf st)) j=G (arrOf st) j:=fun j b=>CF (by rw[w2 j,if_neg (by lia)])
   have mem:∀ z∈m.toList,good z/\(∀ j,s1<=j->j<s1+k->LE lt (G (arrOf st) j) z)/\∀ j,s1+n1+u<=j->j<s1+n1+n2->LE lt z (G (arrOf st) j):=fun z hz=>by
    rcases List.mem_append.mp (gd.1.mem_iff.mp hz) with hz | hz
    ·obtain ⟨i',hi'⟩:=List.mem_iff_getElem?.mp hz
     obtain ⟨rfl,l⟩:=gx i' z hi'
     refine ⟨gs _ (by lia),fun j b1 b2=>a1 _ _ b1 (by lia) (by lia),fun j b1 b2=>?_⟩
     exact O.tr (gs _ (by lia)) (gs _ (by lia)) (gs _ (by lia)) (a1 _ (s1+n1 - 1) (by lia) (by lia) (by lia)) (j3' j b1 b2)
    ·obtain ⟨i',hi'⟩:=List.mem_iff_getElem?.mp hz
     obtain ⟨rfl,l⟩:=gy i' z hi'
     refine ⟨gs _ (by lia),fun j b1 b2=>?_,fun j b1 b2=>a2 _ _ (by lia) (by lia) (by lia)⟩
     exact O.tr (gs _ (by lia)) (gs _ (by lia)) (gs _ (by lia)) (k2' j b1 b2) (a2 _ _ (Nat.le_refl _) (by lia) (by lia))
   intro p q b1 b2 b3
   by_cases d1:p<s1+k
   ·rw[go p (.inl d1)]
    by_cases d2:q<s1+k
    ·rw[go q (.inl d2)];exact a1 _ _ b1 b2 (by lia)
    by_cases d3:q<s1+n1+u
    ·obtain ⟨z,_,e,hz⟩:=gm q (by lia) d3
     rw[e];exact (mem z hz).2.1 p b1 d1
    ·rw[go q (.inr (by lia))]
     exact O.tr (gs _ (by lia)) (gs _ (by lia)) (gs _ (by lia)) (k2' p b1 d1) (a2 _ _ (Nat.le_refl _) (by lia) (by lia))
   by_cases d3:p<s1+n1+u
   ·obtain ⟨z,ez,e,hz⟩:=gm p (by lia) d3
    rw[e]
    by_cases d4:q<s1+n1+u
    ·obtain ⟨z',ez',e',hz'⟩:=gm q (by lia) d4
     rw[e']
     by_cases d5:p=q
     ·subst d5
      rw[ez] at ez'
      cases ez'
      exact O.rf (mem z hz).1
     ·obtain ⟨h1',q1⟩:=List.getElem?_eq_some_iff.mp ez
      obtain ⟨h2',q2⟩:=List.getElem?_eq_some_iff.mp ez'
      rw[<-q1,<-q2]
      exact List.pairwise_iff_getElem.mp gd.2 _ _ h1' h2' (by lia)
    ·rw[go q (.inr (by lia))]
     exact (mem z hz).2.2 q (by lia) (by lia)
   ·rw[go p (.inr (by lia)),go q (.inr (by lia))]
    exact a2 _ _ (by lia) b2 (by lia)
  ·intro j hj
   rw[nw,w2 j,if_neg (by lia)]
 have h1':∀ x,((arrOf st).extract (s1+k) (s1+n1)).toList[((arrOf st).extract (s1+k) (s1+n1)).size - 1]?=some x->∀ y∈((arrOf st).extract (s1+n1) (s1+n1+u)).toList,LE lt y x:=fun x hx y hy=>by
  obtain ⟨rfl,l⟩:=gx _ x hx
  obtain ⟨i',hi'⟩:=List.mem_iff_getElem?.mp hy
  obtain ⟨rfl,l'⟩:=gy i' y hi'
  rw[zx,show s1+k+(n1 - k - 1)=s1+n1 - 1 by lia]
  exact j2' _ (by lia) (by lia)
 have h0':∀ y,((arrOf st).extract (s1+n1) (s1+n1+u)).toList[0]?=some y->∀ x∈((arrOf st).extract (s1+k) (s1+n1)).toList,LE lt y x:=fun y hy x hx=>by
  obtain ⟨rfl,l⟩:=gy _ y hy
  obtain ⟨i',hi'⟩:=List.mem_iff_getElem?.mp hx
  obtain ⟨rfl,l'⟩:=gx i' x hi'
  exact k3' _ (by lia) (by lia)
 by_cases c3:n1 - k<=u
 ·rw[if_pos c3]
  exact wpS_bind (OG C O B1.kind sx sy (by lia) (by lia) (fun x y hx hy=>h0' y hy x (List.mem_of_getElem? hx)) h1' fun r st' g gd=>fin r st' g gd)
 ·rw[if_neg c3]
  exact wpS_bind (R8 C O B1.kind sx sy (by lia) (by lia) h0' h1' fun r st' g gd=>fin r st' g gd)
end
def Ch (lt:Keyed->Keyed->Bool) (xs:Array Keyed):Nat->List (Nat×Nat×Nat)->Nat->Prop
 | s,[],e=>s=e
 | s,(t,n,_)::r,e=>t=s/\1<=n/\Asc lt xs s n/\Ch lt xs (s+n) r e
section
variable {lt:Keyed->Keyed->Bool} {xs ys:Array Keyed}
theorem Ch.app:∀ {P R:List (Nat×Nat×Nat)} {s e:Nat},Ch lt xs s (P++R) e->∃ m,Ch lt xs s P m/\Ch lt xs m R e
 | [],_,s,_,h=>⟨s,rfl,h⟩
 | (t,n,p)::P,R,s,e,h=>by
  obtain ⟨h1,h2,h3,h4⟩:=h
  obtain ⟨m,a,b⟩:=Ch.app (P:=P) h4
  exact ⟨m,⟨h1,h2,h3,a⟩,b⟩
theorem Ch.join:∀ {P R:List (Nat×Nat×Nat)} {s m e:Nat},Ch lt xs s P m->Ch lt xs m R e->Ch lt xs s (P++R) e
 | [],_,s,m,_,h,k=>by
  have h':s=m:=h
  subst h'
  exact k
 | (t,n,p)::P,R,s,m,e,h,k=>by
  obtain ⟨h1,h2,h3,h4⟩:=h
  exact ⟨h1,h2,h3,Ch.join (P:=P) h4 k⟩
theorem Ch.le:∀ {P:List (Nat×Nat×Nat)} {s e:Nat},Ch lt xs s P e->s+P.length<=e
 | [],s,e,h=>by
  have h':s=e:=h
  simp[h']
 | (t,n,p)::P,s,e,h=>by
  obtain ⟨h1,h2,h3,h4⟩:=h
  have:=Ch.le (P:=P) h4
  rw[List.length_cons]
  lia
theorem Asc.keep {lo n:Nat} (a:Asc lt xs lo n) (h:∀ k,lo<=k->k<lo+n->G ys k=G xs k):Asc lt ys lo n:=fun i j h1 h2 h3=>by
 rw[h i h1 (by lia),h j (by lia) h3]
 exact a i j h1 h2 h3
theorem Ch.keep:∀ {P:List (Nat×Nat×Nat)} {s e:Nat},Ch lt xs s P e->(∀ k,s<=k->k<e->G ys k=G xs k)->Ch lt ys s P e
 | [],_,_,h,_=>h
 | (t,n,p)::P,s,e,h,k=>by
  obtain ⟨h1,h2,h3,h4⟩:=h
  have:=Ch.le h4
  exact ⟨h1,h2,h3.keep fun i a b=>k i a (by lia),Ch.keep (P:=P) h4 fun i a b=>k i (by lia) b⟩
end
theorem KW {α:Type} (a b x:α) (l2:List α):∀ l1:List α,((l1++a::b::l2).set l1.length x).eraseIdx (l1.length+1)=l1++x::l2
 | []=>rfl
 | c::l1=>by
  show c::(((l1++a::b::l2).set l1.length x).eraseIdx (l1.length+1))=c::(l1++x::l2)
  rw[KW a b x l2 l1]
section
variable {prog:Program} {w:World} {A:Around} {E:Value->Shared->Prop} {s:Shared} {kd:SortKind} {good:Keyed->Prop} {lt:Keyed->Keyed->Bool} {st:SortSt} {a₀:Array Keyed}
theorem Kk {Q:Bool->SortSt->Prop} (C:Cmp prog w A E s kd good lt) (O:Ord good lt) (h:SB kd a₀ st) (hg:∀ x∈a₀.toList,good x) {i e:Nat} (hc:Ch lt (arrOf st) 0 (pendingOf st).toList e) (he:e<=a₀.size) (hi:i+1<(pendingOf st).size)
  (hQ:∀ st',SB kd a₀ st'->Ch lt (arrOf st') 0 (pendingOf st').toList e->(pendingOf st').size+1=(pendingOf st).size->(∀ k,e<=k->G (arrOf st') k=G (arrOf st) k)->Q true st'):wpS (model prog w) A E s (mergeAt' i) Q st:=by
 obtain ⟨x,d1⟩:∃ x,(pendingOf st).toList[i]?=some x:=⟨_,List.getElem?_eq_getElem (by rw[Array.length_toList];lia)⟩
 obtain ⟨y,d2⟩:∃ x,(pendingOf st).toList[i+1]?=some x:=⟨_,List.getElem?_eq_getElem (by rw[Array.length_toList];lia)⟩
 have split:(pendingOf st).toList=(pendingOf st).toList.take i++x::y::(pendingOf st).toList.drop (i+2):=by
  obtain ⟨g1,e1⟩:=List.getElem?_eq_some_iff.mp d1
  obtain ⟨g2,e2⟩:=List.getElem?_eq_some_iff.mp d2
  rw[<-e1,<-e2,<-List.drop_eq_getElem_cons g2,<-List.drop_eq_getElem_cons g1,List.take_append_drop]
 have lt1:((pendingOf st).toList.take i).length=i:=by rw[List.length_take,Array.length_toList];lia
 obtain ⟨s1,n1,p1⟩:=x
 obtain ⟨s2,n2,p2⟩:=y
 have hc':=hc
 rw[split] at hc'
 obtain ⟨m,c1,c2⟩:=Ch.app hc'
 obtain ⟨rfl,l1,a1,rfl,l2,a2,c3⟩:=c2
 have hle:=Ch.le c3
 refine Q3 C O h hg (by rw[<-Array.getElem?_toList];exact d1) (by rw[<-Array.getElem?_toList];exact d2) l1 l2 (by lia) a1 a2 fun st' B pe as ou=>?_
 have ep:(pendingOf st').toList=(pendingOf st).toList.take i++(s1,n1+n2,p1)::(pendingOf st).toList.drop (i+2):=by
  rw[pe,Array.toList_eraseIdxIfInBounds,Array.toList_setIfInBounds]
  have q:=KW (s1,n1,p1) (s1+n1,n2,p2) (s1,n1+n2,p1) ((pendingOf st).toList.drop (i+2)) ((pendingOf st).toList.take i)
  rw[<-split,lt1] at q
  exact q
 refine hQ st' B ?_ ?_ fun k hk=>CF (ou k (.inr (by lia)))
 ·rw[ep]
  have hm:=Ch.le c1
  refine Ch.join (m:=s1) (c1.keep fun k b1 b2=>CF (ou k (.inl b2))) ⟨rfl,by lia,as,?_⟩
  rw[<-Nat.add_assoc]
  exact c3.keep fun k b1 b2=>CF (ou k (.inr b1))
 ·have z1:=congrArg List.length ep
  have z2:=congrArg List.length split
  rw[List.length_append,List.length_cons] at z1 z2
  rw[List.length_cons] at z2
  rw[Array.length_toList] at z1 z2
  lia
theorem Ch.last {xs:Array Keyed} {P:List (Nat×Nat×Nat)} {e:Nat} {f:Nat×Nat×Nat->Nat×Nat×Nat} (hf:∀ t n p,∃ q,f (t,n,p)=(t,n,q)):∀ {s:Nat} (i:Nat),Ch lt xs s P e->Ch lt xs s (P.modify i f) e:=by
 induction P with
 | nil=>intro s i h;cases i<;>exact h
 | cons x P ih=>
  intro s i h
  obtain ⟨t,n,p⟩:=x
  obtain ⟨h1,h2,h3,h4⟩:=h
  cases i with
  | zero=>
   obtain ⟨q,e⟩:=hf t n p
   show Ch lt xs s (f (t,n,p)::P) _
   rw[e]
   exact ⟨h1,h2,h3,h4⟩
  | succ i=>exact ⟨h1,h2,h3,ih i h4⟩
theorem Gs {Q:Unit->SortSt->Prop} (C:Cmp prog w A E s kd good lt) (O:Ord good lt) (h:SB kd a₀ st) (hp:pendingOf st=#[]) (hg:∀ x∈a₀.toList,good x) (h2:2<=a₀.size)
  (hQ:∀ st',SB kd a₀ st'->Asc lt (arrOf st') 0 a₀.size->Q () st'):wpS (model prog w) A E s sortRuns' Q st:=by
 rw[sortRuns'_eq]
 refine wpS_bind (wpS_get ?_)
 dsimp only
 have sz:=h.size
 rw[sz]
 generalize minRun' a₀.size a₀.size 0=mr
 refine wpS_bind (wpS_mono (wpS_forRange
  (I:=fun x c st'=>∃ lo,c=(none,lo)/\x<=lo/\lo<=a₀.size/\SB kd a₀ st'/\Ch lt (arrOf st') 0 (pendingOf st').toList lo)
  (Q:=fun c st'=>∃ lo,c=(none,lo)/\lo=a₀.size/\SB kd a₀ st'/\Ch lt (arrOf st') 0 (pendingOf st').toList lo) ?step ?fin ⟨0,rfl,Nat.le_refl _,Nat.zero_le _,h,by rw[hp];rfl⟩) ?post)
 case fin=>
  rintro c st' ⟨lo,rfl,a1,a2,B,hc⟩
  exact ⟨lo,rfl,by lia,B,hc⟩
 case step=>
  rintro x c st1 _ hx ⟨lo,rfl,a1,a2,B,hc⟩
  dsimp only
  by_cases c1:lo>=a₀.size
  ·rw[if_pos c1]
   exact wpS_pure ⟨lo,rfl,by lia,B,hc⟩
  rw[if_neg c1]
  refine wpS_bind (Nw C O B hg (by lia) (by lia) fun n st2 B2 p0 q1 q2 q3 q4=>?_)
  have hc2:Ch lt (arrOf st2) 0 (pendingOf st2).toList lo:=by
   rw[p0]
   exact hc.keep fun k _ b2=>CF (q4 k (.inl b2))
  dsimp only
  have rest:∀ (n:Nat) (st3:SortSt),SB kd a₀ st3->Ch lt (arrOf st3) 0 (pendingOf st3).toList lo->1<=n->lo+n<=a₀.size->Asc lt (arrOf st3) lo n ->
    (∃ lo',(none,lo+n)=((none,lo'):Option Unit×Nat)/\x+1<=lo'/\lo'<=a₀.size/\SB kd a₀ (setPending st3 ((pendingOf st3).push (lo,n,0)))/\Ch lt (arrOf st3) 0 ((pendingOf st3).push (lo,n,0)).toList lo'):=fun n st3 B3 hc3 r1 r2 r3=>by
   refine ⟨lo+n,rfl,by lia,r2,⟨B3.perm,B3.kind,B3.fail⟩,?_⟩
   rw[Array.toList_push]
   exact Ch.join hc3 ⟨rfl,r1,r3,rfl⟩
  by_cases c2:n<mr
  case' pos=>
   rw[if_pos c2]
   refine wpS_bind (wpS_lift (wpAny_rule ⟨rfl,?_⟩))
   refine wpS_bind (T4 (n:=min (a₀.size - lo) mr) C O B2 hg (by lia) q1 (by lia) q3 fun st2 B2 p3 q3 ou=>?_)
   simp only[Bool.not_true,Bool.false_eq_true,if_false]
   replace hc2:Ch lt (arrOf st2) 0 (pendingOf st2).toList lo:=by
    rw[p3]
    exact hc2.keep fun k _ b=>CF (ou k (.inl b))
   have q1:1<=min (a₀.size - lo) mr:=by lia
   have q2':lo+min (a₀.size - lo) mr<=a₀.size:=by lia
   clear ou
   revert q3 q1 q2'
   generalize min (a₀.size - lo) mr=n
   intro q3 q1 q2'
  case' neg=>
   rw[if_neg c2]
   have q2':lo+n<=a₀.size:=by lia
  all_goals
   refine wpS_bind (wpS_get ?_)
   cases eb:(pendingOf st2).back? with
   | none=>
    dsimp only
    exact wpS_bind (wpS_modify (wpS_pure (rest n st2 B2 hc2 q1 q2' q3)))
   | some y=>
    obtain ⟨s1,n1,pz⟩:=y
    dsimp only
    generalize power' a₀.size (2 * s1+n1) (2 * s1+n1+n1+n) a₀.size=pw
    refine wpS_bind (wpS_mono (wpS_forRange
     (I:=fun _ c st3=>c=(none,())/\SB kd a₀ st3/\Ch lt (arrOf st3) 0 (pendingOf st3).toList lo/\Asc lt (arrOf st3) lo n)
     (Q:=fun c st3=>c=(none,())/\SB kd a₀ st3/\Ch lt (arrOf st3) 0 (pendingOf st3).toList lo/\Asc lt (arrOf st3) lo n) ?istep ?ifin ⟨rfl,B2,hc2,q3⟩) ?ipost)
    case ifin=>exact fun c st3 z=>z
    case ipost=>
     rintro c st3 ⟨rfl,B3,hc3,as3⟩
     refine wpS_bind (wpS_modify (wpS_bind (wpS_modify (wpS_pure ?_))))
     refine rest n (setPending st3 ((pendingOf st3).modify ((pendingOf st3).size - 1) fun x=>(x.fst,x.2.fst,pw))) ⟨B3.perm,B3.kind,B3.fail⟩ ?_ q1 q2' as3
     show Ch lt (arrOf st3) 0 ((pendingOf st3).modify ((pendingOf st3).size - 1) fun x=>(x.fst,x.2.fst,pw)).toList lo
     rw[Array.toList_modify]
     exact Ch.last (fun t n p=>⟨_,rfl⟩) _ hc3
    case istep=>
     rintro z c st3 _ hz ⟨rfl,B3,hc3,as3⟩
     refine wpS_bind (wpS_get ?_)
     by_cases c3:(pendingOf st3).size > 1
     ·rw[if_pos c3]
      have e3:(pendingOf st3)[(pendingOf st3).size - 2]?=some (pendingOf st3)[(pendingOf st3).size - 2]:=Array.getElem?_eq_getElem (by lia)
      rw[e3]
      generalize (pendingOf st3)[(pendingOf st3).size - 2]=y3
      obtain ⟨t3,n3,p3'⟩:=y3
      dsimp only
      by_cases c4:p3'<=pw
      ·rw[if_pos c4]
       exact wpS_pure ⟨rfl,B3,hc3,as3⟩
      ·rw[if_neg c4]
       refine wpS_bind (Kk C O B3 hg hc3 a2 (by lia) fun st4 B4 hc4 _ kp=>?_)
       simp only[Bool.not_true,Bool.false_eq_true,if_false]
       exact wpS_pure ⟨rfl,B4,hc4,as3.keep fun k b1 _=>kp k b1⟩
     ·rw[if_neg c3]
      exact wpS_pure ⟨rfl,B3,hc3,as3⟩
 case post=>
  rintro c st' ⟨lo,rfl,rfl,B,hc⟩
  dsimp only
  have hl:=Ch.le hc
  rw[Array.length_toList] at hl
  refine wpS_bind (wpS_mono (wpS_forRange
   (I:=fun x c st''=>c=(none,())/\SB kd a₀ st''/\Ch lt (arrOf st'') 0 (pendingOf st'').toList a₀.size/\(pendingOf st'').size+x<=a₀.size)
   (Q:=fun c st''=>c=(none,())/\SB kd a₀ st''/\Ch lt (arrOf st'') 0 (pendingOf st'').toList a₀.size/\(pendingOf st'').size<=1) ?step ?fin ⟨rfl,B,hc,by lia⟩) ?post)
  case fin=>
   rintro c st'' ⟨rfl,B',hc',l'⟩
   exact ⟨rfl,B',hc',by lia⟩
  case post=>
   rintro c st'' ⟨rfl,B',hc',l'⟩
   refine wpS_pure (hQ st'' B' ?_)
   cases e:(pendingOf st'').toList with
   | nil=>
    rw[e] at hc'
    have z:0=a₀.size:=hc'
    lia
   | cons y r=>
    have hr:r=[]:=by
     have z:=congrArg List.length e
     rw[Array.length_toList,List.length_cons] at z
     cases r with
     | nil=>rfl
     | cons _ _=>rw[List.length_cons] at z;lia
    subst hr
    obtain ⟨t,n,p⟩:=y
    rw[e] at hc'
    obtain ⟨_,_,b3,b4⟩:=hc'
    have z:0+n=a₀.size:=b4
    rw[<-z,Nat.zero_add]
    exact b3
  case step=>
   rintro x c st'' _ hx ⟨rfl,B',hc',l'⟩
   refine wpS_bind (wpS_get ?_)
   by_cases c1:(pendingOf st'').size<=1
   ·rw[if_pos c1]
    exact wpS_pure ⟨rfl,B',hc',c1⟩
   ·rw[if_neg c1]
    refine wpS_bind (Kk C O B' hg hc' (Nat.le_refl _) ?_ fun st3 B3 hc3 l3 _=>?_)
    ·have hidx:∀ c:Bool,(if c=true then (pendingOf st'').size - 2 - 1 else (pendingOf st'').size - 2)+1<(pendingOf st'').size:=fun c=>by
      cases c with
      | true=>rw[if_pos rfl];lia
      | false=>rw[if_neg Bool.false_ne_true];lia
     exact hidx _
    ·simp only[Bool.not_true,Bool.false_eq_true,if_false]
     exact wpS_pure ⟨rfl,B3,hc3,by lia⟩
end
section
variable {prog:Program} {w:World} {A:Around} {E:Value->Shared->Prop} {s:Shared}
def JE (x:Keyed):Prop:=∃ n t,x.1=Value.int n t
def Cu (x y:Keyed):Bool:=decide (numOf x.1<numOf y.1)
theorem O7:Cmp prog w A E s oneType' JE Cu where
 run:=fun {st x y Q} hk gx gy hq=>by
  obtain ⟨n,t,e1⟩:=gx
  obtain ⟨m,u,e2⟩:=gy
  unfold Cu at hq
  rw[e1,e2] at hq
  rw[lt'_eq]
  refine wpS_bind (wpS_get ?_)
  rw[hk,keyLt'_oneType,e1,e2]
  exact wpS_bind (wpS_lift (wpAny_attempt (oneLt_int ⟨rfl,wpS_pure hq⟩)))
theorem PY:Ord JE Cu where
 tr:=fun {x y z} _ _ _ h1 h2=>by
  unfold Cu at *
  rw[decide_eq_false_iff_not] at *
  lia
 tot:=fun {x y} _ _ h=>by
  unfold Cu at *
  rw[decide_eq_true_iff] at h
  rw[decide_eq_false_iff_not]
  lia
theorem K_G (xs:Array Keyed) (i:Nat):K xs i=numOf (G xs i).1:=by
 unfold K G
 cases xs[i]? with
 | none=>rfl
 | some p=>rfl
theorem Ry {a:Addr} {vs:List Value} {ns:List Int} {n:Nat} {P:Fin->Shared->Prop} (ho:s.heap.get? a=some (seqObj "list" vs.toArray n)) (hI:IntsAre vs ns) (hz:vs.length<=sizeLine)
  (hP:∀ (out:Array Value) (ms:List Int),IntsAre out.toList ms->ms.Perm ns->ms.Pairwise (·<=·)->P (.done (.ret .none)) {s with heap:=sortedHeap s.heap a vs out}):wpAny (model prog w) A (Builtin.«list.sort» ⟨[.ref a],[]⟩) P E s:=by
 rw[list_sort_plain]
 have la:a<s.heap.objs.size:=Heap.lt_size ho
 refine wpAny_bind (listItems_at ho rfl (wpAny_bind (listUpdate_at ho rfl ?_ (by rw[List.size_toArray];exact hz))))
 obtain ⟨c1,o1⟩:∃ c1,(s.heap.update a (Obj.mapSeq fun _=>#[])).get? a=some (seqObj "list" #[] c1):=⟨_,get?_update_seq ho (fun _=>#[])⟩
 refine wpAny_bind (seqEpoch_at o1 rfl (wpAny_bind (wpAny_newTuple (wpAny_bind (wpAny_newList (wpAny_holding ?_))))))
 have o6:(((s.heap.update a (Obj.mapSeq fun _=>#[])).push (seqObj "tuple" vs.toArray 0)).push (seqObj "list" #[] 0)).get? a=some (seqObj "list" #[] c1):=by
  rw[Heap.get?_push_ne _ _ _ (by rw[size_push',Heap.size_update];exact Nat.ne_of_lt (Nat.lt_succ_of_lt la)),Heap.get?_push_ne _ _ _ (by rw[Heap.size_update];exact Nat.ne_of_lt la)]
  exact o1
 show wpAny (model prog w) A _ P E {s with heap:=((s.heap.update a (Obj.mapSeq fun _=>#[])).push (seqObj "tuple" vs.toArray 0)).push (seqObj "list" #[] 0)}
 dsimp only
 have zs:vs.toArray.size=vs.length:=by simp
 have fin:∀ st':SortSt,(arrOf st').Perm (pairsOf vs)->SortedTo (arrOf st') (pairsOf vs).size->P (.done (.ret .none)) {s with heap:=sortedHeap s.heap a vs ((arrOf st').map (·.2))}:=fun st' hp hs=>by
  obtain ⟨ms,q1,q2,q3⟩:=sorted_out hI hp hs
  exact hP _ ms q1 q2 q3
 by_cases h2:vs.toArray.size<2
 ·rw[if_pos h2,if_pos h2]
  refine wpAny_bind (wpAny_pure ?_)
  rw[StateT.run_pure]
  refine wpAny_bind (wpAny_pure ?_)
  dsimp only
  refine wpAny_bind (seqEpoch_at o6 rfl (wpAny_bind (listUpdate_at o6 rfl ?_ (hsz2:=by rw[Array.size_map];show (pairsOf vs).size<=_;rw[pairsOf_size];lia))))
  simp only[bne_self_eq_false,Bool.false_eq_true,if_false]
  refine wpAny_pure (fin (SortSt.mk' general' (vs.toArray.zip vs.toArray) #[] 7 none) (Array.Perm.refl _) fun i j hij hj=>?_)
  have:i=j:=by rw[pairsOf_size] at hj;lia
  subst this
  exact Int.le_refl _
 ·rw[if_neg h2,if_neg h2]
  obtain ⟨v,v',r,rfl⟩:∃ v v' r,vs=v::v'::r:=by
   cases vs with
   | nil=>simp at h2
   | cons v r=>
    cases r with
    | nil=>simp at h2
    | cons v' r=>exact ⟨v,v',r,rfl⟩
  rw[keyKind_ints hI]
  refine wpAny_bind (wpAny_pure ?_)
  refine wpAny_bind (wpAny_mono (Gs (a₀:=pairsOf (v::v'::r)) (st:=SortSt.mk' oneType' ((v::v'::r).toArray.zip (v::v'::r).toArray) #[] 7 none)
   (Q:=fun _ st'=>SB oneType' (pairsOf (v::v'::r)) st'/\Asc Cu (arrOf st') 0 (pairsOf (v::v'::r)).size)
   O7 PY ⟨Array.Perm.refl _,rfl,rfl⟩ rfl (fun x hx=>hI.intKeys x hx) (by rw[pairsOf_size];simp) fun st' B as=>⟨B,as⟩) ?_ fun _ _ e=>e)
  rintro ⟨⟨⟩,st'⟩ s' ⟨rfl,B,as⟩
  dsimp only
  refine wpAny_bind (seqEpoch_at o6 rfl (wpAny_bind (listUpdate_at o6 rfl ?_ (hsz2:=by refine Nat.le_trans (Nat.le_of_eq ((Array.size_map ..).trans (B.perm.size_eq.trans (pairsOf_size _)))) ?_;lia))))
  rw[B.fail]
  simp only[bne_self_eq_false,Bool.false_eq_true,if_false]
  refine wpAny_pure (fin st' B.perm fun i j hij hj=>?_)
  have q:Cu (G (arrOf st') j) (G (arrOf st') i)=false:=as i j (Nat.zero_le _) hij (by lia)
  unfold Cu at q
  rw[decide_eq_false_iff_not] at q
  rw[K_G,K_G]
  lia
theorem TH {l:Addr} {vs:List Value} {ns:List Int} {Q:Value->Shared->Prop} (hl:s.heap.IsList l vs.toArray) (hI:IntsAre vs ns) (hz:vs.length<=sizeLine)
  (h:∀ (out:Array Value) (ms:List Int),IntsAre out.toList ms->ms.Perm ns->ms.Pairwise (·<=·)->Q (.ref (s.heap.objs.size+1)) {s with heap:=sortedAll s.heap vs out}):wpAny (model prog w) A (call (.builtin "sorted") [.ref l]) Q E s:=by
 refine Calls.call_function_entry kind_sorted plain_sorted entry_sorted (args_sorted1 _) ?_
 unfold Builtin.«sorted»
 refine wpAny_bind (m:=checkCount "sorted" 1 1 _) (wpAny_pure (wpAny_bind (collect_list hl ?_ hz)))
 refine wpAny_bind (wpAny_newList ?_)
 have sz:((s.heap.push (seqObj "list" #[] 0)).update s.heap.objs.size (Obj.mapSeq (·++vs.toArray))).objs.size=s.heap.objs.size+1:=by rw[Heap.size_update,size_push']
 have oL:(((s.heap.push (seqObj "list" #[] 0)).update s.heap.objs.size (Obj.mapSeq (·++vs.toArray))).push (seqObj "list" vs.toArray 0)).get? (s.heap.objs.size+1)=some (seqObj "list" vs.toArray 0):=by
  rw[<-sz]
  exact Heap.get?_push_size _ rfl
 show wpAny _ _ _ _ _ {s with heap:=((s.heap.push (seqObj "list" #[] 0)).update s.heap.objs.size (Obj.mapSeq (·++vs.toArray))).push (seqObj "list" vs.toArray 0)}
 rw[sz]
 refine wpAny_bind (wpAny_holding (wpAny_call_entry slot_list_sort ⟨_,oL,rfl⟩ entry_list_sort (Ry oL hI hz fun out ms b1 b2 b3=>⟨_,rfl,?_⟩) (args_list_sort _)))
 exact wpAny_pure ⟨_,rfl,h out ms b1 b2 b3⟩
end
end EvS
namespace L2
open PySem PySem.Spec PyProof.Rows
section
variable {X:Cx}
theorem call_sorted:CallR X (.builtin "sorted") (fun xs H Q=>∃ p ns,xs=[.ref p]/\SqL X.K H p (ns.map V.int)/\∀ l (ms:List Int),H l=none->ms.Perm ns->ms.Pairwise (·<=·)->Q (.ref l) (upd H l (.lst (ms.map V.int)))):=by
 intro pins s σ H xs us Q I r h
 obtain ⟨p,ns,rfl,hq,q⟩:=h
 obtain ⟨u,rfl,ru⟩:=vals1 r
 cases ru
 obtain ⟨its,rv,pl,hz⟩:=I.list hq
 have hl:=rv.length
 refine EvS.TH pl.isList (intsAre_of rv) (by lia) fun out ms b1 b2 b3=>?_
 obtain ⟨e,he⟩:=sortedAll_at s.heap its out
 have hn:H (s.heap.objs.size+1)=none:=I.hok.fresh (Nat.le_succ _)
 refine ⟨.ref (s.heap.objs.size+1),_,I.laid (t':=s.toks) (o:=.lst (ms.map V.int)) (fun b u q=>sortedAll_old q) (Nat.le_succ _) ⟨?_,out.toList,e,Hd b1,?_⟩,rfl,q _ ms hn b2 b3⟩
 ·rw[List.length_map,b2.length_eq]
  rw[List.length_map] at hz
  exact hz
 ·simpa using he
def QV (K:PySem.W.Frag):List V->Hp->VK->Prop:=fun xs H Q=>∃ x T t b,xs=[x,.ty T]/\TyOf K H x (.type t)/\PySem.W.kitOne K (.type t) (.type T)=some b/\Q (.bl b) H
theorem Tc:CallR X (.builtin "isinstance") (QV X.K):=by
 intro pins s σ H xs us Q I r h
 obtain ⟨x,T,t,b,rfl,ty,e,q⟩:=h
 obtain ⟨u,u',rfl,ru,ru'⟩:=vals2 r
 cases (show u'=Value.type T from ru')
 exact PF I ru ty e fun tk=>⟨.bl b,H,I.tok tk,rfl,q⟩
def RW (K:PySem.W.Frag):List V->Hp->VK->Prop:=fun xs H Q=>∃ (x:V) (p:Addr) (Ts:List String) (t:String) (b:Bool),xs=[x,.ref p]/\H p=some (.tup (Ts.map V.ty))/\TyOf K H x (.type t)/\PySem.W.kitAny K (.type t) (Ts.map Value.type)=some b/\Q (.bl b) H
theorem JC:∀ {Ts:List String} {us:List Value},Vals (Ts.map V.ty) us->us=Ts.map Value.type
 | [],_,.nil=>rfl
 | _::_,_,.cons r t=>by
  rw[List.map_cons,<-JC t]
  exact congrArg (·::_) r
theorem Tr:CallR X (.builtin "isinstance") (RW X.K):=by
 intro pins s σ H xs us Q I r h
 obtain ⟨x,p,Ts,t,b,rfl,hp,ty,e,q⟩:=h
 obtain ⟨u,u',rfl,ru,ru'⟩:=vals2 r
 cases (show u'=Value.ref p from ru')
 obtain ⟨_,its,rv,o,ho,hc,n,hd⟩:=I.hok p _ hp
 have ei:=JC rv
 subst ei
 obtain ⟨oc,od,odt,osl⟩:=o
 cases (show oc=.type "tuple" from hc)
 cases (show odt=.seq (Ts.map Value.type).toArray n from hd)
 have fin:∀ tk,EP X pins σ Q (.bool b) {s with toks:=tk}:=fun tk=>⟨.bl b,H,I.tok tk,rfl,q⟩
 cases ty with
 | non=>cases (show u=Value.none from ru);exact PySem.W.kia_tup PySem.W.kitx_none I.kIn True.intro ho e (fun z=>nomatch z) fin
 | bl y=>cases (show u=Value.bool y from ru);exact PySem.W.kia_tup PySem.W.kitx_bool I.kIn True.intro ho e (fun z=>nomatch z) fin
 | int i=>obtain ⟨t,q'⟩:=(show ∃ t,u=Value.int i t from ru);cases q';exact PySem.W.kia_tup PySem.W.kitx_int I.kIn True.intro ho e (fun z=>nomatch z) fin
 | str y=>obtain ⟨t,q'⟩:=(show ∃ t,u=Value.str y t from ru);cases q';exact PySem.W.kia_tup PySem.W.kitx_str I.kIn True.intro ho e (fun z=>nomatch z) fin
 | flt y=>obtain ⟨t,q'⟩:=(show ∃ t,u=Value.float y t from ru);cases q';exact PySem.W.kia_tup PySem.W.kitx_float I.kIn True.intro ho e (fun z=>nomatch z) fin
 | @lst a ys ea=>
  cases (show u=Value.ref a from ru)
  obtain ⟨_,_,m,_,h1⟩:=(show ObjOk X.prog X.w H s.heap a (.lst ys) from I.hok a _ ea)
  exact PySem.W.kia_tup PySem.W.kitx_list I.kIn ⟨_,h1,rfl⟩ ho e (fun z=>nomatch z) fin
 | @frz a ob ys ea=>
  cases (show u=Value.ref a from ru)
  obtain ⟨_,_,_,m,_,h1⟩:=(show ObjOk X.prog X.w H s.heap a (.frz ob (.lst ys)) from I.hok a _ ea)
  exact PySem.W.kia_tup PySem.W.kitx_list I.kIn ⟨_,h1,rfl⟩ ho e (fun z=>nomatch z) fin
 | @tup a ys ea=>
  cases (show u=Value.ref a from ru)
  obtain ⟨_,_,_,p'⟩:=(show ObjOk X.prog X.w H s.heap a (.tup ys) from I.hok a _ ea)
  obtain ⟨o',h1,h2,_⟩:=p'
  exact PySem.W.kia_tup PySem.W.kitx_tuple I.kIn ⟨o',h1,h2⟩ ho e (fun z=>nomatch z) fin
 | @dK a kvs ea=>
  cases (show u=Value.ref a from ru)
  obtain ⟨_,_,vs,_,p'⟩:=(show ObjOk X.prog X.w H s.heap a (.dK kvs) from I.hok a _ ea)
  obtain ⟨o',es,ep,h1,h2,_⟩:=p'
  exact PySem.W.kia_tup PySem.W.kitx_dict I.kIn ⟨o',h1,h2.1⟩ ho e (fun z=>nomatch z) fin
 | @dT a kvs ea=>
  cases (show u=Value.ref a from ru)
  obtain ⟨_,_,ys,_,o',es,ep,h1,h2,_⟩:=(show ObjOk X.prog X.w H s.heap a (.dT kvs) from I.hok a _ ea)
  exact PySem.W.kia_tup PySem.W.kitx_dict I.kIn ⟨o',h1,h2.1⟩ ho e (fun z=>nomatch z) fin
def Me (K:PySem.W.Frag):R2:=fun x y H Q=>∃ p q xs ys,x=.ref p/\y=.ref q/\SqL K H p xs/\SqL K H q ys/\(xs=[]\/ys=[])/\Q (.bl (decide (xs=ys))) H
theorem SF (hu:X.A.units<cLine):OpR X (compareOp .Eq) (Me X.K):=by
 intro pins s σ H x y v u Q I rx ry h
 obtain ⟨p,q,xs,ys,rfl,rfl,hp,hq,hor,k⟩:=h
 cases rx
 cases ry
 obtain ⟨i1,r1,l1,z1⟩:=I.list hp
 obtain ⟨i2,r2,l2,z2⟩:=I.list hq
 have e1:=r1.length
 have e2:=r2.length
 by_cases c:xs.length=ys.length
 ·have exy:xs=ys:=by
   rcases hor with z | z
   ·subst z;exact (List.eq_nil_of_length_eq_zero (by rw[<-c];rfl)).symm
   ·subst z;exact List.eq_nil_of_length_eq_zero (by rw[c];rfl)
  have x0:xs.length=0:=by
   rcases hor with z | z
   ·rw[z];rfl
   ·rw[c,z];rfl
  refine SeqAt.eq_listAt (e:=fun _=>true) l1.isList l2.isList (by rw[List.size_toArray,List.size_toArray];lia) hu (fun j h1 _=>?_) ?_
  ·rw[List.size_toArray] at h1;lia
  ·rw[decide_eq_true exy] at k
   refine ⟨.bl true,H,I,?_,k⟩
   have:(List.range i1.toArray.size).all (fun _=>true)=true:=List.all_eq_true.mpr fun _ _=>rfl
   rw[this]
   rfl
 ·refine SeqAt.eq_list_lengthsAt l1.isList l2.isList (by rw[List.size_toArray,List.size_toArray];exact bne_iff_ne.mpr (by lia)) hu ?_
  rw[decide_eq_false (fun z=>c (by rw[z]))] at k
  exact ⟨.bl false,H,I,rfl,k⟩
theorem Js {α β:Type} {f:α->Option β} {g:α->β}:∀ {l:List α},(∀ x∈l,f x=some (g x))->l.filterMap f=l.map g
 | [],_=>rfl
 | a::l,h=>by rw[List.filterMap_cons,h a List.mem_cons_self,List.map_cons,Js fun x hx=>h x (List.mem_cons_of_mem _ hx)]
theorem RX (items:List Value):slicePick items.toArray none none (some (-1))=items.reverse.toArray:=by
 have hc:(sliceRange ((items.length:Int) - 1) (-1) (-1))=(List.range items.length).map fun (k:Nat)=>items.length - 1 - k:=by
  unfold sliceRange
  rw[if_neg (by decide)]
  have e:(if (items.length:Int) - 1 > -1 then ((items.length:Int) - 1 - -1 - -1 - 1) / - -1 else 0)=(items.length:Int):=by
   split
   ·rw[show (- -1:Int)=1 by rfl,Int.ediv_one];lia
   ·lia
  dsimp only
  rw[e]
  refine List.map_congr_left fun k hk=>?_
  have:=List.mem_range.mp hk
  lia
 have hb:slicePick items.toArray none none (some (-1))=((sliceRange ((items.length:Int) - 1) (-1) (-1)).filterMap (items.toArray[·]?)).toArray:=by
  unfold slicePick sliceBounds
  simp
 rw[hb,hc]
 congr 1
 rw[List.filterMap_map]
 have hf:(List.range items.length).filterMap ((fun x=>items.toArray[x]?)∘fun (k:Nat)=>items.length - 1 - k)=(List.range items.length).map fun (k:Nat)=>items.getD (items.length - 1 - k) .none:=by
  refine Js fun k hk=>?_
  have:=List.mem_range.mp hk
  show items.toArray[items.length - 1 - k]?=some (items.getD (items.length - 1 - k) .none)
  rw[List.getElem?_toArray,List.getD_eq_getElem?_getD,List.getElem?_eq_getElem (by lia)]
  rfl
 rw[hf]
 refine List.ext_getElem? fun j=>?_
 rw[List.getElem?_map]
 by_cases hj:j<items.length
 ·rw[List.getElem?_range hj,List.getElem?_reverse hj,Option.map_some,List.getD_eq_getElem?_getD,List.getElem?_eq_getElem (by lia)]
  rfl
 ·rw[List.getElem?_eq_none (by rw[List.length_range];lia),List.getElem?_eq_none (by rw[List.length_reverse];lia)]
  rfl
def RY (K:PySem.W.Frag) (te ts:TE):TE:=fun σ H Q=>te σ H fun x H1=>ts σ H1 fun y H2=>∃ a xs,x=.ref a/\y=.int (-1)/\SqL K H2 a xs/\∀ p,H2 p=none->Q (.ref p) (upd H2 p (.lst xs.reverse))
theorem Ri {e st:Expr} {te ts:TE} {p2 ep:Pos} (he:PE X e te) (hst:PE X st ts):PE X (.Subscript e (.Slice none none (some st) p2) ep) (RY X.K te ts):=by
 intro pins s σ H Q I h
 refine Subscript_ (thn (he pins s σ H _ I h) fun v s1 hh_=>?_)
 obtain ⟨x,H1,I1,r1,q1⟩:=hh_
 refine wpAny_Slice ?_
 rw[evalPart_none]
 refine wpAny_pure (wpAny_pure ?_)
 rw[evalPart_some]
 refine thn (hst pins s1 σ H1 _ I1 q1) fun w s3 hh_=>?_
 obtain ⟨y,H3,I3,r3,a,xs,ex,ey,hq,q3⟩:=hh_
 subst ex ey
 cases r1
 obtain ⟨tk,rfl⟩:=r3
 have I4:Inv X pins σ H3 {s3 with heap:=s3.heap.push {cls:=.type "slice",data:=.fields #[.none,.none,.int (-1) tk]}}:=I3.kept (t':=s3.toks) fun b ob q=>Heap.get?_push_of_some _ q
 obtain ⟨its,r,ht,hz⟩:=I4.list hq
 have hlen:=r.length
 show wpAny (model X.prog X.w) X.A (subscriptTail e (.Slice none none (some st) p2) (.ref a) (.ref s3.heap.objs.size)) (EP X pins σ Q) X.xe {s3 with heap:=s3.heap.push {cls:=.type "slice",data:=.fields #[.none,.none,.int (-1) tk]}}
 refine tail_any (ops:=[.ref a,.ref s3.heap.objs.size]) ht.isList.typeIs slot_list_getitem.lookup (wpAny_getItem_list_slice ht.isList (Heap.IsSliceOf.new ..) .none .none (.int (-1) tk) (by decide) ?_ (by rw[List.size_toArray];lia)) (by with_unfolding_all rfl)
 rw[RX]
 refine ⟨.ref _,_,I4.laid (t':=s3.toks) (o:=.lst xs.reverse) (fun b ob q=>Heap.get?_push_of_some _ q) (Nat.le_refl _) ?_,rfl,q3 _ (I4.hok.fresh (Nat.le_refl _))⟩
 exact ⟨by rw[List.length_reverse];exact hz,_,0,r.reverse,Heap.get?_push_size _ rfl⟩
theorem R7:OpR X (binaryOp .FloorDiv) (rI (fun _ j=>0<j/\j<2 ^ 64) fun i j=>.int (i / j)):=opI fun i j _ _ _ _ _ hc q=>by
 have h1:(0:Int)<j:=hc.1
 refine floordiv_int (by lia) (by rw[Int.fdiv_eq_ediv_of_nonneg i (by lia)];exact q) (.inl (PyProof.noPylong_of_log2 ?_))
 have h2:j.natAbs<2 ^ 64:=by have:=hc.2;lia
 have h3:j.natAbs.log2<64:=(Nat.log2_lt (by lia)).mpr h2
 lia
end
end L2
namespace Ev
open PySem L2
theorem small {n:Nat} (h:n<=1000000):n<=sizeLine:=Nat.le_trans h (by decide)
theorem MU {n:Nat} (h:n<=1000000):n<sizeLine:=Nat.lt_of_le_of_lt h (by decide)
structure Nm (mg:Str->Option Value):Prop where
 len:mg "len"=none
 range:mg "range"=none
 isi:mg "isinstance"=none
 bool:mg "bool"=none
 int:mg "int"=none
 str:mg "str"=none
 list:mg "list"=none
 tuple:mg "tuple"=none
 zip:mg "zip"=none
 enum:mg "enumerate"=none
 sorted:mg "sorted"=none
 max:mg "max"=none
 min:mg "min"=none
 abs:mg "abs"=none
 sum:mg "sum"=none
 all:mg "all"=none
 any:mg "any"=none
 set:mg "set"=none
end Ev
namespace L2
open PySem
variable {X:Cx} {K:PySem.W.Frag}
theorem Lw {es:List Expr} {k:Nat} {t:TGs} {n:Nat} {tp:Pos} (hk:X.K=K) (hc:X.calm=true) (h:PGs X es t) (hn:(assignEach es X.env).length=n:=by rfl) (hst:(assignEach es X.env).findIdx? (·.1)=none:=by rfl):PG X (.Tuple es k tp) (CL K n t):=hk▸OC hc h hn hst
end L2
namespace DL
open PySem L2
inductive D where
 | non | bl (b:Bool) | int (i:Int) | str (x:Str) | lst (xs:List D) | tup (xs:List D) | scr (ns:List Int) | dic (ks:List Key) (vs:List D)
inductive SV where
 | v (d:D) | b (n:Nat) | p (n:Nat) (d:D)
structure Wd where
 K:PySem.W.Frag
 B:Addr->Prop
 H:Hp
mutual
def Rep (W:Wd):D->V->Prop
 | .non,v=>v=.non
 | .bl b,v=>v=.bl b
 | .int i,v=>v=.int i
 | .str x,v=>v=.str x
 | .lst xs,v=>∃ a vs,v=.ref a/\¬W.B a/\W.H a=some (.lst vs)/\Reps W xs vs
 | .tup xs,v=>∃ a vs,v=.ref a/\¬W.B a/\W.H a=some (.tup vs)/\Reps W xs vs
 | .scr ns,v=>∃ a,v=.ref a/\((¬W.B a/\Rd W.H a (.lst (ns.map V.int)))\/∀ H,SqL W.K H a (ns.map V.int))
 | .dic ks xs,v=>∃ a vs,v=.ref a/\¬W.B a/\W.H a=some (.dK (ks.zip vs))/\ks.length=vs.length/\Reps W xs vs
def Reps (W:Wd):List D->List V->Prop
 | [],vs=>vs=[]
 | d::ds,vs=>∃ v r,vs=v::r/\Rep W d v/\Reps W ds r
end
structure Kw (W W':Wd):Prop where
 k:W'.K=W.K
 keep:∀ a o,¬W.B a->W.H a=some o->W'.H a=some o/\¬W'.B a
theorem Kw.refl (W:Wd):Kw W W:=⟨rfl,fun _ _ n e=>⟨e,n⟩⟩
theorem Kw.trans {W W1 W2:Wd} (a:Kw W W1) (b:Kw W1 W2):Kw W W2:=⟨b.k.trans a.k,fun c o n e=>let ⟨h,n'⟩:=a.keep c o n e;b.keep c o n' h⟩
mutual
theorem Rep.kw {W W':Wd} (k:Kw W W'):∀ {d:D} {v:V},Rep W d v->Rep W' d v
 | .non,v,h=>by unfold Rep at *;exact h
 | .bl b,v,h=>by unfold Rep at *;exact h
 | .int i,v,h=>by unfold Rep at *;exact h
 | .str x,v,h=>by unfold Rep at *;exact h
 | .lst xs,v,h=>by
  unfold Rep at *
  obtain ⟨a,vs,e,n,h1,h2⟩:=h
  obtain ⟨h3,n'⟩:=k.keep a _ n h1
  exact ⟨a,vs,e,n',h3,Reps.kw k h2⟩
 | .tup xs,v,h=>by
  unfold Rep at *
  obtain ⟨a,vs,e,n,h1,h2⟩:=h
  obtain ⟨h3,n'⟩:=k.keep a _ n h1
  exact ⟨a,vs,e,n',h3,Reps.kw k h2⟩
 | .scr ns,v,h=>by
  unfold Rep at *
  obtain ⟨a,e,h⟩:=h
  refine ⟨a,e,?_⟩
  rcases h with ⟨n,h | ⟨o,h⟩⟩ | h
  ·obtain ⟨h3,n'⟩:=k.keep a _ n h
   exact .inl ⟨n',.inl h3⟩
  ·obtain ⟨h3,n'⟩:=k.keep a _ n h
   exact .inl ⟨n',.inr ⟨o,h3⟩⟩
  ·exact .inr (by rw[k.k];exact h)
 | .dic ks xs,v,h=>by
  unfold Rep at *
  obtain ⟨a,vs,e,n,h1,hl,h2⟩:=h
  obtain ⟨h3,n'⟩:=k.keep a _ n h1
  exact ⟨a,vs,e,n',h3,hl,Reps.kw k h2⟩
theorem Reps.kw {W W':Wd} (k:Kw W W'):∀ {ds:List D} {vs:List V},Reps W ds vs->Reps W' ds vs
 | [],vs,h=>by unfold Reps at *;exact h
 | d::ds,vs,h=>by
  unfold Reps at *
  obtain ⟨v,r,e,h1,h2⟩:=h
  exact ⟨v,r,e,Rep.kw k h1,Reps.kw k h2⟩
end
theorem Reps.len {W:Wd}:∀ {ds:List D} {vs:List V},Reps W ds vs->vs.length=ds.length
 | [],vs,h=>by unfold Reps at h;subst h;rfl
 | d::ds,vs,h=>by
  unfold Reps at h
  obtain ⟨v,r,rfl,_,h⟩:=h
  rw[List.length_cons,List.length_cons,h.len]
theorem Reps.nil {W:Wd}:Reps W [] []:=by unfold Reps;rfl
theorem Reps.cons {W:Wd} {d:D} {v:V} {ds:List D} {vs:List V} (h:Rep W d v) (t:Reps W ds vs):Reps W (d::ds) (v::vs):=by unfold Reps;exact ⟨v,vs,rfl,h,t⟩
theorem Reps.nil_inv {W:Wd} {vs:List V} (h:Reps W [] vs):vs=[]:=by unfold Reps at h;exact h
theorem Reps.cons_inv {W:Wd} {d:D} {ds:List D} {vs:List V} (h:Reps W (d::ds) vs):∃ v r,vs=v::r/\Rep W d v/\Reps W ds r:=by unfold Reps at h;exact h
theorem Reps.append {W:Wd}:∀ {ds es:List D} {vs us:List V},Reps W ds vs->Reps W es us->Reps W (ds++es) (vs++us)
 | [],es,vs,us,h,g=>by rw[h.nil_inv];exact g
 | d::ds,es,vs,us,h,g=>by
  obtain ⟨v,r,rfl,h1,h2⟩:=h.cons_inv
  exact .cons h1 (h2.append g)
theorem Reps.get {W:Wd}:∀ {ds:List D} {vs:List V} {i:Nat} {d:D},Reps W ds vs->ds[i]?=some d->∃ v,vs[i]?=some v/\Rep W d v
 | [],_,_,_,_,e=>by cases e
 | c::ds,vs,0,d,h,e=>by
  obtain ⟨v,r,rfl,h1,h2⟩:=h.cons_inv
  cases e
  exact ⟨v,rfl,h1⟩
 | c::ds,vs,i+1,d,h,e=>by
  obtain ⟨v,r,rfl,h1,h2⟩:=h.cons_inv
  obtain ⟨u,a,b⟩:=h2.get (i:=i) (d:=d) (by simpa using e)
  exact ⟨u,by simpa using a,b⟩
theorem Reps.take {W:Wd}:∀ {ds:List D} {vs:List V} (n:Nat),Reps W ds vs->Reps W (ds.take n) (vs.take n)
 | [],vs,n,h=>by rw[h.nil_inv];simp;exact .nil
 | d::ds,vs,0,h=>by simp;exact .nil
 | d::ds,vs,n+1,h=>by
  obtain ⟨v,r,rfl,h1,h2⟩:=h.cons_inv
  exact .cons h1 (h2.take n)
theorem Reps.drop {W:Wd}:∀ {ds:List D} {vs:List V} (n:Nat),Reps W ds vs->Reps W (ds.drop n) (vs.drop n)
 | [],vs,n,h=>by rw[h.nil_inv];simp;exact .nil
 | d::ds,vs,0,h=>h
 | d::ds,vs,n+1,h=>by
  obtain ⟨v,r,rfl,h1,h2⟩:=h.cons_inv
  exact h2.drop n
theorem Reps.reverse {W:Wd}:∀ {ds:List D} {vs:List V},Reps W ds vs->Reps W ds.reverse vs.reverse
 | [],vs,h=>by rw[h.nil_inv];exact .nil
 | d::ds,vs,h=>by
  obtain ⟨v,r,rfl,h1,h2⟩:=h.cons_inv
  rw[List.reverse_cons,List.reverse_cons]
  exact h2.reverse.append (.cons h1 .nil)
theorem Reps.ints {W:Wd}:∀ {ns:List Int} {vs:List V},Reps W (ns.map D.int) vs->vs=ns.map V.int
 | [],vs,h=>h.nil_inv
 | n::ns,vs,h=>by
  obtain ⟨v,r,rfl,h1,h2⟩:=Reps.cons_inv (d:=D.int n) (ds:=ns.map D.int) h
  unfold Rep at h1
  rw[h1,h2.ints]
  rfl
theorem Reps.of_ints {W:Wd}:∀ {ns:List Int},Reps W (ns.map D.int) (ns.map V.int)
 | []=>.nil
 | n::ns=>.cons (by unfold Rep;rfl) Reps.of_ints
abbrev Gm:=List (Option (List D))
structure DS where
 σ:List (Option SV)
 Γ:Gm
 lo:Nat
structure Fr where
 K:PySem.W.Frag
 H₀:Hp
 F:Addr->Prop
 L:Addr->Prop
 sub:∀ a,L a->F a
 dom:∀ a,F a->H₀ a≠none
def BZ (Γ:Gm) (α:Nat->Addr) (a:Addr):Prop:=∃ (n:Nat) (xs:List D),Γ[n]?=some (some xs)/\α n=a
abbrev wd (f:Fr) (α:Nat->Addr) (Γ:Gm) (H:Hp):Wd:=⟨f.K,fun a=>f.F a\/BZ Γ α a,H⟩
def RepV (f:Fr) (α:Nat->Addr) (Γ:Gm) (H:Hp):SV->V->Prop
 | .v d,v=>Rep (wd f α Γ H) d v
 | .b n,v=>n<Γ.length/\v=.ref (α n)
 | .p n d,v=>n<Γ.length/\∃ a w,v=.ref a/\¬(f.F a\/BZ Γ α a)/\H a=some (.tup [.ref (α n),w])/\Rep (wd f α Γ H) d w
structure RS (f:Fr) (α:Nat->Addr) (s:DS) (σ:St) (H:Hp):Prop where
 len:s.σ.length=σ.length
 slot:∀ (i:Nat) (d:SV),s.σ[i]?=some (some d)->∃ v,σ[i]?=some (some v)/\RepV f α s.Γ H d v
 box:∀ (n:Nat) (xs:List D),s.Γ[n]?=some (some xs)->∃ vs,H (α n)=some (.lst vs)/\Reps (wd f α s.Γ H) xs vs
 own:∀ (n:Nat) (xs:List D),s.Γ[n]?=some (some xs)->if n<s.lo then f.L (α n) else f.H₀ (α n)=none
 inj:∀ (n m:Nat) (xs ys:List D),s.Γ[n]?=some (some xs)->s.Γ[m]?=some (some ys)->α n=α m->n=m
 fr:∀ (b:Addr) (o:HO),f.H₀ b=some o->¬f.L b->H b=some o
 forb:∀ a,f.F a->H a≠none
structure Ext (f:Fr) (α α':Nat->Addr) (Γ Γ':Gm) (H H':Hp):Prop where
 kw:Kw (wd f α Γ H) (wd f α' Γ' H')
 m:Γ.length<=Γ'.length
 al:∀ n,n<Γ.length->α' n=α n
 lv:∀ (n:Nat) (xs:List D),n<Γ.length->Γ'[n]?=some (some xs)->∃ ys,Γ[n]?=some (some ys)
section
variable {f:Fr} {α α' α'':Nat->Addr} {Γ Γ' Γ'':Gm} {H H' H'':Hp} {s s':DS} {σ σ':St}
theorem Ext.refl:Ext f α α Γ Γ H H:=⟨.refl _,Nat.le_refl _,fun _ _=>rfl,fun _ xs _ e=>⟨xs,e⟩⟩
theorem Ext.trans (a:Ext f α α' Γ Γ' H H') (b:Ext f α' α'' Γ' Γ'' H' H''):Ext f α α'' Γ Γ'' H H'':=
 ⟨a.kw.trans b.kw,Nat.le_trans a.m b.m,fun n h=>(b.al n (Nat.lt_of_lt_of_le h a.m)).trans (a.al n h),fun n xs h e=>let ⟨ys,e'⟩:=b.lv n xs (Nat.lt_of_lt_of_le h a.m) e;a.lv n ys h e'⟩
theorem RepV.ext (e:Ext f α α' Γ Γ' H H'):∀ {d:SV} {v:V},RepV f α Γ H d v->RepV f α' Γ' H' d v
 | .v d,v,h=>Rep.kw e.kw (show Rep (wd f α Γ H) d v from h)
 | .b n,v,h=>⟨Nat.lt_of_lt_of_le h.1 e.m,by rw[e.al n h.1];exact h.2⟩
 | .p n d,v,⟨h,a,w,h1,h2,h3,h4⟩=>⟨Nat.lt_of_lt_of_le h e.m,a,w,h1,(e.kw.keep a _ h2 h3).2,by rw[e.al n h];exact (e.kw.keep a _ h2 h3).1,h4.kw e.kw⟩
theorem RS.live (r:RS f α s σ H) {a:Addr} (h:BZ s.Γ α a):H a≠none:=by
 obtain ⟨n,xs,e,rfl⟩:=h
 obtain ⟨vs,h,_⟩:=r.box n xs e
 rw[h]
 exact fun z=>nomatch z
theorem RS.fresh (r:RS f α s σ H) {a:Addr} (h:H a=none):¬(f.F a\/BZ s.Γ α a):=fun z=>by
 rcases z with z | z
 ·exact r.forb a z h
 ·exact r.live z h
theorem RS.fresh0 (r:RS f α s σ H) {a:Addr} (h:H a=none):f.H₀ a=none:=by
 cases e:f.H₀ a with
 | none=>rfl
 | some o=>
  by_cases c:f.L a
  ·exact absurd h (r.forb a (f.sub a c))
  ·rw[r.fr a o e c] at h
   cases h
theorem Ext.new (r:RS f α s σ H) {p:Addr} {o:HO} (h:H p=none):Ext f α α s.Γ s.Γ H (upd H p o):=
 ⟨⟨rfl,fun a u n e=>⟨by show upd H p o a=some u;rw[AR (BU e h)];exact e,n⟩⟩,Nat.le_refl _,fun _ _=>rfl,fun _ xs _ e=>⟨xs,e⟩⟩
theorem RS.mv (r:RS f α s σ H) (e:Ext f α α s.Γ s.Γ H H') (k:∀ b o,H b=some o->H' b=some o):RS f α s σ H' where
 len:=r.len
 slot:=fun i d h=>let ⟨v,a,b⟩:=r.slot i d h;⟨v,a,b.ext e⟩
 box:=fun n xs h=>let ⟨vs,a,b⟩:=r.box n xs h;⟨vs,k _ _ a,b.kw e.kw⟩
 own:=r.own
 inj:=r.inj
 fr:=fun b o h n=>k _ _ (r.fr b o h n)
 forb:=fun a h=>by
  cases e:H a with
  | none=>exact absurd e (r.forb a h)
  | some o=>rw[k _ _ e];exact fun z=>nomatch z
theorem RS.new (r:RS f α s σ H) {p:Addr} {o:HO} (h:H p=none):RS f α s σ (upd H p o):=
 r.mv (.new r h) fun b u e=>by rw[AR (BU e h)];exact e
theorem RS.set (r:RS f α s σ H) {i:Nat} {d:SV} {v:V} (h:RepV f α s.Γ H d v):RS f α {s with σ:=s.σ.set i (some d)} (σ.set i (some v)) H where
 len:=by rw[List.length_set,List.length_set];exact r.len
 slot:=fun j c e=>by
  have e:(s.σ.set i (some d))[j]?=some (some c):=e
  rw[List.getElem?_set] at e
  rw[List.getElem?_set]
  by_cases hij:i=j
  ·rw[if_pos hij] at e ⊢
   by_cases hl:i<s.σ.length
   ·rw[if_pos hl] at e
    cases e
    rw[if_pos (by rw[<-r.len];exact hl)]
    exact ⟨v,rfl,h⟩
   ·rw[if_neg hl] at e
    cases e
  ·rw[if_neg hij] at e ⊢
   exact r.slot j c e
 box:=r.box
 own:=r.own
 inj:=r.inj
 fr:=r.fr
 forb:=r.forb
theorem RS.slots (r:RS f α s σ H) {τ:List (Option SV)} {τ':St} (h:τ.length=τ'.length) (k:∀ (i:Nat) (d:SV),τ[i]?=some (some d)->∃ v,τ'[i]?=some (some v)/\RepV f α s.Γ H d v):RS f α {s with σ:=τ} τ' H:=
 ⟨h,k,r.box,r.own,r.inj,r.fr,r.forb⟩
theorem Ext.put {n:Nat} {xs ys:List D} {o:HO} (hn:Γ[n]?=some (some xs)):Ext f α α Γ (Γ.set n (some ys)) H (upd H (α n) o) where
 kw:=⟨rfl,fun a u h e=>by
  have na:a≠α n:=fun z=>h (.inr ⟨n,xs,hn,z.symm⟩)
  refine ⟨by show upd H (α n) o a=some u;rw[AR na];exact e,fun z=>?_⟩
  rcases z with z | ⟨m,zs,e1,e2⟩
  ·exact h (.inl z)
  ·rw[List.getElem?_set] at e1
   by_cases hm:n=m
   ·subst hm
    exact na e2.symm
   ·rw[if_neg hm] at e1
    exact h (.inr ⟨m,zs,e1,e2⟩)⟩
 m:=by rw[List.length_set];exact Nat.le_refl _
 al:=fun _ _=>rfl
 lv:=fun m zs _ e=>by
  rw[List.getElem?_set] at e
  by_cases hm:n=m
  ·subst hm;exact ⟨xs,hn⟩
  ·rw[if_neg hm] at e;exact ⟨zs,e⟩
theorem EF {n:Nat} {xs:List D} {y:Option (List D)} {m:Nat} {z:Option (List D)} (hn:Γ[n]?=some (some xs)) (h:(Γ.set n y)[m]?=some z):(m=n/\z=y)\/(m≠n/\Γ[m]?=some z):=by
 rw[List.getElem?_set] at h
 by_cases hm:n=m
 ·rw[if_pos hm] at h
  subst hm
  rw[if_pos (List.getElem?_eq_some_iff.mp hn).1] at h
  cases h
  exact .inl ⟨rfl,rfl⟩
 ·rw[if_neg hm] at h
  exact .inr ⟨fun z=>hm z.symm,h⟩
theorem RS.put (r:RS f α s σ H) {n:Nat} {xs ys:List D} {vs:List V} (hn:s.Γ[n]?=some (some xs)) (h:Reps (wd f α s.Γ H) ys vs) :
  RS f α {s with Γ:=s.Γ.set n (some ys)} σ (upd H (α n) (.lst vs)):=by
 have e:Ext f α α s.Γ (s.Γ.set n (some ys)) H (upd H (α n) (.lst vs)):=.put hn
 refine ⟨r.len,fun i d h=>let ⟨v,a,b⟩:=r.slot i d h;⟨v,a,b.ext e⟩,fun m zs hm=>?_,fun m zs hm=>?_,fun m k zs us hm hk q=>?_,fun b o h1 h2=>?_,fun a h1=>?_⟩
 ·rcases EF hn hm with ⟨rfl,z⟩ | ⟨hne,hm⟩
  ·cases z
   exact ⟨vs,BA,h.kw e.kw⟩
  ·obtain ⟨us,a,b⟩:=r.box m zs hm
   exact ⟨us,by rw[AR (fun z=>hne (r.inj m n _ _ hm hn z))];exact a,b.kw e.kw⟩
 ·rcases EF hn hm with ⟨rfl,z⟩ | ⟨hne,hm⟩
  ·exact r.own _ _ hn
  ·exact r.own _ _ hm
 ·have g:∀ {m zs},(s.Γ.set n (some ys))[m]?=some (some zs)->∃ ws,s.Γ[m]?=some (some ws):=fun {m zs} hm=>by
   rcases EF hn hm with ⟨rfl,z⟩ | ⟨hne,hm⟩
   ·exact ⟨_,hn⟩
   ·exact ⟨_,hm⟩
  obtain ⟨_,g1⟩:=g hm
  obtain ⟨_,g2⟩:=g hk
  exact r.inj _ _ _ _ g1 g2 q
 ·have hb:=r.fr b o h1 h2
  rw[AR ?_]
  ·exact hb
  ·intro z
   have ow:=r.own n xs hn
   split at ow
   ·exact h2 (z▸ow)
   ·rw[<-z,h1] at ow;cases ow
 ·by_cases z:a=α n
  ·rw[z,BA];exact fun z=>nomatch z
  ·rw[AR z];exact r.forb a h1
def Bu (α:Nat->Addr) (n:Nat) (a:Addr):Nat->Addr:=fun k=>if k=n then a else α k
theorem Ext.add (r:RS f α s σ H) {a:Addr} {xs:List D} {o:HO} (h:H a=none):Ext f α (Bu α s.Γ.length a) s.Γ (s.Γ++[some xs]) H (upd H a o) where
 kw:=⟨rfl,fun b u n e=>by
  have nb:b≠a:=BU e h
  refine ⟨by show upd H a o b=some u;rw[AR nb];exact e,fun z=>?_⟩
  rcases z with z | ⟨m,zs,e1,e2⟩
  ·exact n (.inl z)
  ·by_cases hm:m<s.Γ.length
   ·rw[List.getElem?_append_left hm] at e1
    have e2:Bu α s.Γ.length a m=b:=e2
    unfold Bu at e2
    rw[if_neg (Nat.ne_of_lt hm)] at e2
    exact n (.inr ⟨m,zs,e1,e2⟩)
   ·have:m=s.Γ.length:=by
     have:=(List.getElem?_eq_some_iff.mp e1).1
     rw[List.length_append] at this
     simp at this
     lia
    subst this
    have e2:Bu α s.Γ.length a s.Γ.length=b:=e2
    unfold Bu at e2
    rw[if_pos rfl] at e2
    exact nb e2.symm⟩
 m:=by rw[List.length_append];lia
 al:=fun n h=>by unfold Bu;rw[if_neg (Nat.ne_of_lt h)]
 lv:=fun n zs h e=>by rw[List.getElem?_append_left h] at e;exact ⟨zs,e⟩
theorem RS.add (r:RS f α s σ H) (hlo:s.lo<=s.Γ.length) {a:Addr} {xs:List D} {vs:List V} (h:H a=none) (hx:Reps (wd f α s.Γ H) xs vs) :
  RS f (Bu α s.Γ.length a) {s with Γ:=s.Γ++[some xs]} σ (upd H a (.lst vs)):=by
 have e:Ext f α (Bu α s.Γ.length a) s.Γ (s.Γ++[some xs]) H (upd H a (.lst vs)):=.add r h
 have old:∀ {m zs},(s.Γ++[some xs])[m]?=some (some zs)->(m<s.Γ.length/\s.Γ[m]?=some (some zs)/\Bu α s.Γ.length a m=α m)\/(m=s.Γ.length/\zs=xs/\Bu α s.Γ.length a m=a):=fun {m zs} hm=>by
  by_cases c:m<s.Γ.length
  ·rw[List.getElem?_append_left c] at hm
   exact .inl ⟨c,hm,e.al m c⟩
  ·have hl:=(List.getElem?_eq_some_iff.mp hm).1
   rw[List.length_append] at hl
   simp at hl
   have:m=s.Γ.length:=by lia
   subst this
   rw[List.getElem?_append_right (Nat.le_refl _)] at hm
   simp at hm
   exact .inr ⟨rfl,hm.symm,by unfold Bu;rw[if_pos rfl]⟩
 refine ⟨r.len,fun i d h=>let ⟨v,a,b⟩:=r.slot i d h;⟨v,a,b.ext e⟩,fun m zs hm=>?_,fun m zs hm=>?_,fun m k zs us hm hk q=>?_,fun b o h1 h2=>?_,fun b h1=>?_⟩
 ·rcases old hm with ⟨c,g,z⟩ | ⟨c,rfl,z⟩
  ·obtain ⟨us,g1,g2⟩:=r.box m zs g
   refine ⟨us,?_,g2.kw e.kw⟩
   rw[z,AR (BU g1 h)]
   exact g1
  ·exact ⟨vs,by rw[z,BA],hx.kw e.kw⟩
 ·rcases old hm with ⟨c,g,z⟩ | ⟨c,_,z⟩
  ·rw[z];exact r.own m zs g
  ·rw[z,if_neg (by show ¬m<s.lo;lia)];exact r.fresh0 h
 ·rcases old hm with ⟨c,g,z⟩ | ⟨c,_,z⟩<;>rcases old hk with ⟨c',g',z'⟩ | ⟨c',_,z'⟩
  ·rw[z,z'] at q;exact r.inj _ _ _ _ g g' q
  ·rw[z,z'] at q
   obtain ⟨us,g1,_⟩:=r.box m _ g
   rw[q,h] at g1;cases g1
  ·rw[z,z'] at q
   obtain ⟨us,g1,_⟩:=r.box k _ g'
   rw[<-q,h] at g1;cases g1
  ·rw[c,c']
 ·have hb:=r.fr b o h1 h2
  rw[AR (BU hb h)]
  exact hb
 ·by_cases z:b=a
  ·rw[z,BA];exact fun z=>nomatch z
  ·rw[AR z];exact r.forb b h1
end
end DL
namespace DL
open PySem L2
abbrev ME:=DS->Option (SV×DS)
abbrev MF:=DS->Option (List D×DS)
abbrev MT:=DS->Option (Bool×DS)
abbrev MA:=DS->Option (List SV×DS)
def RepVs (f:Fr) (α:Nat->Addr) (Γ:Gm) (H:Hp):List SV->List V->Prop
 | [],vs=>vs=[]
 | d::ds,vs=>∃ v r,vs=v::r/\RepV f α Γ H d v/\RepVs f α Γ H ds r
def tD (f:Fr) (m:ME):TE:=fun σ H Q=>∃ α s r,RS f α s σ H/\s.lo<=s.Γ.length/\m s=some r/\∀ α' v H',RS f α' r.2 σ H'->r.2.lo=s.lo->Ext f α α' s.Γ r.2.Γ H H'->RepV f α' r.2.Γ H' r.1 v->Q v H'
def tDF (f:Fr) (m:MF):TE:=fun σ H Q=>∃ α s r,RS f α s σ H/\s.lo<=s.Γ.length/\m s=some r/\∀ α' a vs H',RS f α' r.2 σ H'->r.2.lo=s.lo->Ext f α α' s.Γ r.2.Γ H H'->H' a=none->Reps (wd f α' r.2.Γ H') r.1 vs->Q (.ref a) (upd H' a (.lst vs))
def tDT (f:Fr) (m:MT):TT:=fun σ H Q=>∃ α s r,RS f α s σ H/\s.lo<=s.Γ.length/\m s=some r/\∀ α' H',RS f α' r.2 σ H'->r.2.lo=s.lo->Ext f α α' s.Γ r.2.Γ H H'->Q r.1 H'
def tDA (f:Fr) (m:MA):TA:=fun σ H Q=>∃ α s r,RS f α s σ H/\s.lo<=s.Γ.length/\m s=some r/\∀ α' vs H',RS f α' r.2 σ H'->r.2.lo=s.lo->Ext f α α' s.Γ r.2.Γ H H'->RepVs f α' r.2.Γ H' r.1 vs->Q vs H'
structure DE (X:Cx) (e:Expr) (m:ME):Prop where
 h:∀ f:Fr,f.K=X.K->PE X e (tD f m)
instance {X:Cx} {e:Expr} {m:ME}:CoeFun (DE X e m) fun _=>∀ f:Fr,f.K=X.K->PE X e (tD f m):=⟨DE.h⟩
structure DF (X:Cx) (e:Expr) (m:MF):Prop where
 h:∀ f:Fr,f.K=X.K->PE X e (tDF f m)
instance {X:Cx} {e:Expr} {m:MF}:CoeFun (DF X e m) fun _=>∀ f:Fr,f.K=X.K->PE X e (tDF f m):=⟨DF.h⟩
structure DT (X:Cx) (e:Expr) (m:MT):Prop where
 h:∀ f:Fr,f.K=X.K->PT X e (tDT f m)
instance {X:Cx} {e:Expr} {m:MT}:CoeFun (DT X e m) fun _=>∀ f:Fr,f.K=X.K->PT X e (tDT f m):=⟨DT.h⟩
structure DW (X:Cx) (e:Expr) (m:MT):Prop where
 h:∀ f:Fr,f.K=X.K->PW X e (tDT f m)
instance {X:Cx} {e:Expr} {m:MT}:CoeFun (DW X e m) fun _=>∀ f:Fr,f.K=X.K->PW X e (tDT f m):=⟨DW.h⟩
structure DA (X:Cx) (es:List Expr) (m:MA):Prop where
 h:∀ f:Fr,f.K=X.K->PA X es (tDA f m)
instance {X:Cx} {es:List Expr} {m:MA}:CoeFun (DA X es m) fun _=>∀ f:Fr,f.K=X.K->PA X es (tDA f m):=⟨DA.h⟩
section
variable {X:Cx} {e a b c:Expr} {t t':TE} {pos:Pos}
theorem PE.imp (h:PE X e t) (k:∀ σ H Q,t' σ H Q->t σ H Q):PE X e t':=fun pins s σ H Q I q=>h pins s σ H Q I (k _ _ _ q)
theorem PT.imp {t t':TT} (h:PT X e t) (k:∀ σ H Q,t' σ H Q->t σ H Q):PT X e t':=fun pins s σ H Q I q=>h pins s σ H Q I (k _ _ _ q)
theorem PW.imp {t t':TT} (h:PW X e t) (k:∀ σ H Q,t' σ H Q->t σ H Q):PW X e t':=fun wh pins s σ H Q I q=>h wh pins s σ H Q I (k _ _ _ q)
theorem PA.imp {es:List Expr} {t t':TA} (h:PA X es t) (k:∀ σ H Q,t' σ H Q->t σ H Q):PA X es t':=fun pos pins s σ H Q I q=>h pos pins s σ H Q I (k _ _ _ q)
@[simp] def AA (i:Nat):ME:=fun s=>match s.σ[i]? with
 | some (some d)=>some (d,s)
 | _=>none
theorem QH {i:Nat} {x:Str} (h:PE X (.Name x pos) (EJ i)):DE X (.Name x pos) (AA i):=.mk fun f hf=>PE.imp h fun σ H Q hh_=>by
 obtain ⟨α,s,r,rs,lo,e,q⟩:=hh_
 unfold AA at e
 split at e
 ·rename_i d hd
  cases e
  obtain ⟨v,h1,h2⟩:=rs.slot i d hd
  exact ⟨v,h1,q α v H rs rfl .refl h2⟩
 ·cases e
theorem dv (i:Nat) {x:Str} (hN:X.N[i]?=some x:=by rfl) (hv:Vis X.env.scope x:=by first | exact Or.inl rfl | exact Or.inr (Or.inl rfl) | exact Or.inr (Or.inr rfl)) (hd:(x == ("__debug__":Str))=false:=by decide) (hcd:(x == ("__classdict__":Str))=false:=by decide):DE X (.Name x pos) (AA i):=QH (MZ hN hv hd hcd)
@[simp] def Ci (i:Nat):MF:=fun s=>match s.σ[i]? with
 | some (some (.b n))=>match s.Γ[n]? with
  | some (some xs)=>if s.lo<=n then some (xs,{s with σ:=s.σ.set i none,Γ:=s.Γ.set n none}) else none
  | _=>none
 | _=>none
@[simp] def mC (d:D):ME:=fun s=>some (.v d,s)
theorem HW {d:D} {v:V} (h:PE X e (tC v)) (r:∀ W,Rep W d v):DE X e (mC d):=.mk fun f hf=>PE.imp h fun σ H Q hh_=>by
 obtain ⟨α,s,r',rs,lo,e,q⟩:=hh_
 cases e
 exact q α v H rs rfl .refl (r _)
theorem AL {i j}:DE X (.Constant (.int i) j pos) (mC (.int i)):=HW My fun W=>by unfold Rep;rfl
theorem C2 {i j}:DE X (.Constant (.bool i) j pos) (mC (.bl i)):=HW Sy fun W=>by unfold Rep;rfl
theorem Qh {i j}:DE X (.Constant (.str i) j pos) (mC (.str i)):=HW KC fun W=>by unfold Rep;rfl
theorem EE {f:Fr} {α:Nat->Addr} {s:DS} {σ:St} {H:Hp} {p:Addr} {xs:List D} {vs:List V} (r:RS f α s σ H) (h:H p=none) (hx:Reps (wd f α s.Γ H) xs vs):Rep (wd f α s.Γ (upd H p (.lst vs))) (.lst xs) (.ref p):=by
 unfold Rep
 exact ⟨p,vs,rfl,r.fresh h,BA,hx.kw (Ext.new r h).kw⟩
theorem IH {f:Fr} {α:Nat->Addr} {s:DS} {σ:St} {H:Hp} {p:Addr} {xs:List D} {vs:List V} (r:RS f α s σ H) (h:H p=none) (hx:Reps (wd f α s.Γ H) xs vs):Rep (wd f α s.Γ (upd H p (.tup vs))) (.tup xs) (.ref p):=by
 unfold Rep
 exact ⟨p,vs,rfl,r.fresh h,BA,hx.kw (Ext.new r h).kw⟩
@[simp] def AE (m:MF):ME:=fun s=>(m s).map fun r=>(.v (.lst r.1),r.2)
theorem Ah {m:MF} (h:DF X e m):DE X e (AE m):=.mk fun f hf=>PE.imp (h f hf) fun σ H Q hh_=>by
 obtain ⟨α,s,r,rs,lo,e,q⟩:=hh_
 unfold AE at e
 cases hm:m s with
 | none=>rw[hm] at e;cases e
 | some r'=>
  rw[hm] at e
  cases e
  exact ⟨α,s,r',rs,lo,hm,fun α' p vs H' rs' l' ex hp hx=>q α' _ _ (rs'.new hp) l' (ex.trans (.new rs' hp)) (EE rs' hp hx)⟩
@[simp] def AC:MA:=fun s=>some ([],s)
@[simp] def AB (m:ME) (ms:MA):MA:=fun s=>(m s).bind fun r=>(ms r.2).map fun q=>(r.1::q.1,q.2)
theorem RepVs.nil {f:Fr} {α:Nat->Addr} {Γ:Gm} {H:Hp}:RepVs f α Γ H [] []:=by unfold RepVs;rfl
theorem RepVs.cons {f:Fr} {α:Nat->Addr} {Γ:Gm} {H:Hp} {d:SV} {v:V} {ds:List SV} {vs:List V} (h:RepV f α Γ H d v) (t:RepVs f α Γ H ds vs):RepVs f α Γ H (d::ds) (v::vs):=by unfold RepVs;exact ⟨v,vs,rfl,h,t⟩
theorem RepVs.cons_inv {f:Fr} {α:Nat->Addr} {Γ:Gm} {H:Hp} {d:SV} {ds:List SV} {vs:List V} (h:RepVs f α Γ H (d::ds) vs):∃ v r,vs=v::r/\RepV f α Γ H d v/\RepVs f α Γ H ds r:=by unfold RepVs at h;exact h
theorem RepVs.nil_inv {f:Fr} {α:Nat->Addr} {Γ:Gm} {H:Hp} {vs:List V} (h:RepVs f α Γ H [] vs):vs=[]:=by unfold RepVs at h;exact h
theorem RepVs.len {f:Fr} {α:Nat->Addr} {Γ:Gm} {H:Hp}:∀ {ds:List SV} {vs:List V},RepVs f α Γ H ds vs->vs.length=ds.length
 | [],vs,h=>by rw[h.nil_inv];rfl
 | d::ds,vs,h=>by
  obtain ⟨v,r,rfl,_,h2⟩:=h.cons_inv
  rw[List.length_cons,List.length_cons,h2.len]
theorem AG:DA X [] AC:=.mk fun f hf=>PA.imp CD fun σ H Q hh_=>by
 obtain ⟨α,s,r,rs,lo,e,q⟩:=hh_
 cases e
 exact q α [] H rs rfl .refl .nil
theorem AD {es:List Expr} {m:ME} {ms:MA} (h:DE X e m) (hs:DA X es ms) (hst:starEach (e::es) X.env=(false,eval e X.env)::starEach es X.env:=by rfl):DA X (e::es) (AB m ms):=.mk fun f hf=>
 PA.imp (BN (h f hf) (hs f hf) hst) fun σ H Q hh_=>by
  obtain ⟨α,s,r,rs,lo,e,q⟩:=hh_
  unfold AB at e
  cases h1:m s with
  | none=>rw[h1] at e;cases e
  | some r1=>
   rw[h1] at e
   cases h2:ms r1.2 with
   | none=>simp[h2] at e
   | some r2=>
    simp[h2] at e
    subst e
    refine ⟨α,s,r1,rs,lo,h1,fun α1 v H1 rs1 l1 e1 hv=>⟨α1,r1.2,r2,rs1,by rw[l1];exact Nat.le_trans lo e1.m,h2,fun α2 vs H2 rs2 l2 e2 hvs=>?_⟩⟩
    exact q α2 _ H2 rs2 (l2.trans l1) (e1.trans e2) (.cons (hv.ext e2) hvs)
@[simp] def trees:List SV->Option (List D)
 | []=>some []
 | .v d::r=>(trees r).map (d::·)
 | _=>none
theorem HM {f:Fr} {α:Nat->Addr} {Γ:Gm} {H:Hp}:∀ {ds:List SV} {xs:List D} {vs:List V},trees ds=some xs->RepVs f α Γ H ds vs->Reps (wd f α Γ H) xs vs
 | [],xs,vs,e,h=>by cases e;rw[h.nil_inv];exact .nil
 | .v d::r,xs,vs,e,h=>by
  obtain ⟨v,q,rfl,h1,h2⟩:=h.cons_inv
  unfold trees at e
  cases ht:trees r with
  | none=>rw[ht] at e;cases e
  | some ys=>
   rw[ht] at e
   cases e
   exact .cons h1 (HM ht h2)
 | .b n::r,xs,vs,e,h=>by unfold trees at e;cases e
 | .p n d::r,xs,vs,e,h=>by unfold trees at e;cases e
def big:Nat:=1000000
theorem Dg {n:Nat} (h:n<=big):n<=sizeLine:=Ev.small h
theorem Sl {n:Nat} (h:n<=big):n<sizeLine:=Ev.MU h
@[simp] def Al (ms:MA):MF:=fun s=>(ms s).bind fun r=>(trees r.1).bind fun xs=>if xs.length<=big then some (xs,r.2) else none
@[simp] def A4 (ms:MA):ME:=fun s=>(ms s).bind fun r=>(trees r.1).bind fun xs=>if xs.length<=big then some (.v (.tup xs),r.2) else none
theorem bind_some {α β:Type} {o:Option α} {g:α->Option β} {z:β} (h:o.bind g=some z):∃ y,o=some y/\g y=some z:=by
 cases o with
 | none=>cases h
 | some y=>exact ⟨y,rfl,h⟩
theorem AZ {α β:Type} {o:Option α} {g:α->β} {z:β} (h:o.map g=some z):∃ y,o=some y/\g y=z:=by
 cases o with
 | none=>cases h
 | some y=>exact ⟨y,rfl,Option.some.inj h⟩
theorem CN {es:List Expr} {ms:MA} (h:DA X es ms):DF X (.List es pos) (Al ms):=.mk fun f hf=>PE.imp (Tn (h f hf)) fun σ H Q hh_=>by
 obtain ⟨α,s,r,rs,lo,e,q⟩:=hh_
 obtain ⟨r1,h1,e⟩:=bind_some e
 obtain ⟨xs,h2,e⟩:=bind_some e
 split at e
 ·rename_i hz
  cases e
  refine ⟨α,s,r1,rs,lo,h1,fun α1 vs H1 rs1 l1 e1 hvs=>?_⟩
  have hx:=HM h2 hvs
  have hz':vs.length<=sizeLine:=by rw[hx.len];exact Dg hz
  exact ⟨hz',fun p hp=>q α1 p vs H1 rs1 l1 e1 hp hx⟩
 ·cases e
theorem Dq {es:List Expr} {ms:MA} {k} (h:DA X es ms):DE X (.Tuple es k pos) (A4 ms):=.mk fun f hf=>PE.imp (Hu (h f hf)) fun σ H Q hh_=>by
 obtain ⟨α,s,r,rs,lo,e,q⟩:=hh_
 obtain ⟨r1,h1,e⟩:=bind_some e
 obtain ⟨xs,h2,e⟩:=bind_some e
 split at e
 ·rename_i hz
  cases e
  refine ⟨α,s,r1,rs,lo,h1,fun α1 vs H1 rs1 l1 e1 hvs=>?_⟩
  have hx:=HM h2 hvs
  exact ⟨by rw[hx.len];exact Dg hz,fun p hp=>q α1 _ _ (rs1.new hp) l1 (e1.trans (.new rs1 hp)) (IH rs1 hp hx)⟩
 ·cases e
def OpD (X:Cx) (g:Gm->SV->SV->Option D) (r:R2):Prop:=∀ (f:Fr) (α:Nat->Addr) (s:DS) (σ:St) (H:Hp) (x y:SV) (u v:V) (z:D) (Q:VK),f.K=X.K->RS f α s σ H->RepV f α s.Γ H x u->RepV f α s.Γ H y v->g s.Γ x y=some z ->
 (∀ w H',RS f α s σ H'->Ext f α α s.Γ s.Γ H H'->Rep (wd f α s.Γ H') z w->Q w H')->r u v H Q
@[simp] def mOp (g:Gm->SV->SV->Option D) (ma mb:ME):ME:=fun s=>(ma s).bind fun x=>(mb x.2).bind fun y=>(g y.2.Γ x.1 y.1).map fun z=>(.v z,y.2)
variable {g:Gm->SV->SV->Option D} {gF:Gm->SV->SV->Option (List D)} {r:R2} {ma mb mc:ME}
theorem Fd {f:Fr} {σ:St} {H:Hp} {Q:VK} (hf:f.K=X.K) (hg:OpD X g r) (h:tD f (mOp g ma mb) σ H Q):tOp r (tD f ma) (tD f mb) σ H Q:=by
 obtain ⟨α,s,r',rs,lo,e,q⟩:=h
 obtain ⟨x,h1,e⟩:=bind_some e
 obtain ⟨y,h2,e⟩:=bind_some e
 obtain ⟨z,h3,rfl⟩:=AZ e
 refine ⟨α,s,x,rs,lo,h1,fun α1 u H1 rs1 l1 e1 hu=>⟨α1,x.2,y,rs1,by rw[l1];exact Nat.le_trans lo e1.m,h2,fun α2 v H2 rs2 l2 e2 hv=>?_⟩⟩
 exact hg f α2 y.2 σ H2 x.1 y.1 u v z Q hf rs2 (hu.ext e2) hv h3 fun w H3 rs3 e3 hw=>q α2 w H3 rs3 (l2.trans l1) ((e1.trans e2).trans e3) hw
theorem Dw {op:Operator} (ho:OpR X (binaryOp op) r) (hg:OpD X g r) (ha:DE X a ma) (hb:DE X b mb):DE X (.BinOp a op b pos) (mOp g ma mb):=.mk fun f hf=>PE.imp (T8 ho (ha f hf) (hb f hf)) fun σ H Q h=>Fd hf hg h
theorem Pd (ho:IxR X r) (hg:OpD X g r) (ha:DE X a ma) (hb:DE X b mb) (hs:Ib b):DE X (.Subscript a b pos) (mOp g ma mb):=.mk fun f hf=>PE.imp (Nr ho (ha f hf) (hb f hf) hs) fun σ H Q h=>Fd hf hg h
theorem NL {op:CmpOp} (ho:OpR X (compareOp op) r) (hg:OpD X g r) (ha:DE X a ma) (hb:DE X b mb) (hm:behindInMarks op b=false):DE X (.Compare a [op] [b] pos) (mOp g ma mb):=.mk fun f hf=>PE.imp (N9 ho (ha f hf) (hb f hf) hm) fun σ H Q h=>Fd hf hg h
@[simp] def Eu:SV->Option Bool
 | .v (.bl b)=>some b
 | _=>none
@[simp] def AK (m:ME):MT:=fun s=>(m s).bind fun x=>(Eu x.1).map fun b=>(b,x.2)
theorem FN {f:Fr} {α:Nat->Addr} {Γ:Gm} {H:Hp} {d:SV} {b:Bool} {v:V} (h:Eu d=some b) (r:RepV f α Γ H d v):v=.bl b:=by
 unfold Eu at h
 split at h
 ·cases h
  have r:Rep (wd f α Γ H) (.bl b) v:=r
  unfold Rep at r
  exact r
 ·cases h
theorem E8 {op:CmpOp} (ho:OpR X (compareOp op) r) (hg:OpD X g r) (ha:DE X a ma) (hb:DE X b mb) (hm:behindInMarks op b=false):DT X (.Compare a [op] [b] pos) (AK (mOp g ma mb)):=.mk fun f hf=>PT.imp (RT ho (ha f hf) (hb f hf) hm) fun σ H Q hh_=>by
 obtain ⟨α,s,r',rs,lo,e,q⟩:=hh_
 obtain ⟨x,h1,e⟩:=bind_some e
 obtain ⟨k,h2,rfl⟩:=AZ e
 exact Fd hf hg ⟨α,s,x,rs,lo,h1,fun α' v H' rs' l' ex hv=>⟨k,FN h2 hv,q α' H' rs' l' ex⟩⟩
@[simp] def elems (Γ:Gm):SV->Option (List D)
 | .v (.lst xs)=>some xs
 | .b n=>(Γ[n]?).join
 | _=>none
theorem Ba {f:Fr} {α:Nat->Addr} {s:DS} {σ:St} {H:Hp} {d:SV} {xs:List D} {v:V} (rs:RS f α s σ H) (h:elems s.Γ d=some xs) (r:RepV f α s.Γ H d v):∃ a vs,v=.ref a/\H a=some (.lst vs)/\Reps (wd f α s.Γ H) xs vs:=by
 unfold elems at h
 split at h
 ·rename_i ys
  cases h
  have r:Rep (wd f α s.Γ H) (.lst xs) v:=r
  unfold Rep at r
  obtain ⟨a,vs,e,_,h1,h2⟩:=r
  exact ⟨a,vs,e,h1,h2⟩
 ·rename_i n
  have h:s.Γ[n]?=some (some xs):=by
   cases hg:s.Γ[n]? with
   | none=>rw[hg] at h;cases h
   | some o=>rw[hg] at h;exact congrArg some h
  obtain ⟨vs,h1,h2⟩:=rs.box n xs h
  exact ⟨α n,vs,r.2,h1,h2⟩
 ·cases h
@[simp] def Ec (Γ:Gm):SV->Option Bool
 | .v .non=>some false
 | .v (.bl b)=>some b
 | .v (.int i)=>some (i != 0)
 | .v (.tup xs)=>some (!xs.isEmpty)
 | d=>(elems Γ d).map fun xs=>!xs.isEmpty
theorem isE {W:Wd} {xs:List D} {vs:List V} (h:Reps W xs vs):(!xs.isEmpty)=!vs.isEmpty:=by
 cases xs with
 | nil=>rw[h.nil_inv];rfl
 | cons d ds=>obtain ⟨v,r,rfl,_⟩:=h.cons_inv;rfl
theorem SE {f:Fr} {α:Nat->Addr} {s:DS} {σ:St} {H:Hp} {d:SV} {b:Bool} {v:V} (rs:RS f α s σ H) (h:Ec s.Γ d=some b) (r:RepV f α s.Γ H d v):HI f.K v H b:=by
 unfold Ec at h
 split at h
 ·cases h
  have r:Rep (wd f α s.Γ H) .non v:=r
  unfold Rep at r
  rw[r];rfl
 ·cases h
  have r:Rep (wd f α s.Γ H) (.bl b) v:=r
  unfold Rep at r
  rw[r];rfl
 ·rename_i i
  cases h
  have r:Rep (wd f α s.Γ H) (.int i) v:=r
  unfold Rep at r
  rw[r];rfl
 ·rename_i xs
  cases h
  have r:Rep (wd f α s.Γ H) (.tup xs) v:=r
  unfold Rep at r
  obtain ⟨a,vs,e,_,h1,h2⟩:=r
  rw[e]
  exact .inr (.inl ⟨vs,SqT.of h1,isE h2⟩)
 ·obtain ⟨xs,h1,rfl⟩:=AZ h
  obtain ⟨a,vs,e,h2,h3⟩:=Ba rs h1 r
  rw[e]
  exact .inl ⟨vs,SqL.of h2,isE h3⟩
@[simp] def Ak (m:ME):MT:=fun s=>(m s).bind fun x=>(Ec x.2.Γ x.1).map fun b=>(b,x.2)
theorem CH (h:DE X e ma) (he:∀ whole,isTrue e X.env whole=(do let v <-whole;standAt e.pos;holding [v] (truthy v)):=by intro _;rfl):DT X e (Ak ma):=.mk fun f hf=>PT.imp (RV (h f hf) he) fun σ H Q hh_=>by
 obtain ⟨α,s,r',rs,lo,e,q⟩:=hh_
 obtain ⟨x,h1,e⟩:=bind_some e
 obtain ⟨k,h2,rfl⟩:=AZ e
 exact ⟨α,s,x,rs,lo,h1,fun α' v H' rs' l' ex hv=>⟨k,by rw[<-hf];exact SE rs' h2 hv,q α' H' rs' l' ex⟩⟩
@[simp] def A7 (m:MT):MT:=fun s=>(m s).map fun x=>(!x.1,x.2)
@[simp] def mOr (m n:MT):MT:=fun s=>(m s).bind fun x=>if x.1=true then some (true,x.2) else n x.2
variable {ta tb:MT}
theorem Cr (h:DT X e ta):DT X (.UnaryOp .Not e pos) (A7 ta):=.mk fun f hf=>PT.imp (RP (h f hf)) fun σ H Q hh_=>by
 obtain ⟨α,s,r',rs,lo,e,q⟩:=hh_
 obtain ⟨x,h1,rfl⟩:=AZ e
 exact ⟨α,s,x,rs,lo,h1,fun α' H' rs' l' ex=>q α' H' rs' l' ex⟩
theorem FP (h:DT X a ta):DW X (.BoolOp .Or [a] pos) ta:=.mk fun f hf=>RU (h f hf)
theorem Ga {rest:List Expr} (h:DT X a ta) (h2:DW X (.BoolOp .Or (b::rest) pos) tb):DW X (.BoolOp .Or (a::b::rest) pos) (mOr ta tb):=.mk fun f hf=>PW.imp (TK (h f hf) (h2 f hf)) fun σ H Q hh_=>by
 obtain ⟨α,s,r',rs,lo,e,q⟩:=hh_
 obtain ⟨x,h1,e⟩:=bind_some e
 refine ⟨α,s,x,rs,lo,h1,fun α' H' rs' l' ex=>?_⟩
 split at e
 ·rename_i c
  cases e
  rw[if_pos c]
  exact q α' H' rs' l' ex
 ·rename_i c
  rw[if_neg c]
  exact ⟨α',x.2,r',rs',by rw[l'];exact Nat.le_trans lo ex.m,e,fun α2 H2 rs2 l2 e2=>q α2 H2 rs2 (l2.trans l') (ex.trans e2)⟩
theorem Fj (h:DW X e ta):DT X e ta:=.mk fun f hf=>PW.pt (h f hf)
@[simp] def Hg (m:ME):ME:=fun s=>(m s).bind fun x=>(Eu x.1).map fun b=>(.v (.bl (!b)),x.2)
@[simp] def Eo (m n:ME):ME:=fun s=>(m s).bind fun x=>(Eu x.1).bind fun b=>if b=true then n x.2 else some (.v (.bl false),x.2)
theorem GU {f:Fr} {α:Nat->Addr} {Γ:Gm} {H:Hp} {b:Bool}:RepV f α Γ H (.v (.bl b)) (.bl b):=by show Rep _ _ _;unfold Rep;rfl
theorem Ly (h:DE X e ma):DE X (.UnaryOp .Not e pos) (Hg ma):=.mk fun f hf=>PE.imp (Jr (h f hf)) fun σ H Q hh_=>by
 obtain ⟨α,s,r',rs,lo,e,q⟩:=hh_
 obtain ⟨x,h1,e⟩:=bind_some e
 obtain ⟨k,h2,rfl⟩:=AZ e
 exact ⟨α,s,x,rs,lo,h1,fun α' v H' rs' l' ex hv=>⟨k,FN h2 hv,q α' _ H' rs' l' ex GU⟩⟩
theorem G8 {op} (h:DE X a ma):DE X (.BoolOp op [a] pos) ma:=.mk fun f hf=>KB (h f hf)
theorem Fw {rest:List Expr} (h:DE X a ma) (h2:DE X (.BoolOp .And (b::rest) pos) mb):DE X (.BoolOp .And (a::b::rest) pos) (Eo ma mb):=.mk fun f hf=>PE.imp (Ih (h f hf) (h2 f hf)) fun σ H Q hh_=>by
 obtain ⟨α,s,r',rs,lo,e,q⟩:=hh_
 obtain ⟨x,h1,e⟩:=bind_some e
 obtain ⟨k,h2,e⟩:=bind_some e
 refine ⟨α,s,x,rs,lo,h1,fun α' v H' rs' l' ex hv=>⟨k,FN h2 hv,?_⟩⟩
 split at e
 ·rename_i c
  rw[if_pos c]
  exact ⟨α',x.2,r',rs',by rw[l'];exact Nat.le_trans lo ex.m,e,fun α2 v2 H2 rs2 l2 e2=>q α2 v2 H2 rs2 (l2.trans l') (ex.trans e2)⟩
 ·rename_i c
  cases e
  rw[if_neg c]
  exact q α' _ H' rs' l' ex GU
def CaD (X:Cx) (g:Gm->List SV->Option D) (r:List V->Hp->VK->Prop):Prop:=∀ (f:Fr) (α:Nat->Addr) (s:DS) (σ:St) (H:Hp) (xs:List SV) (us:List V) (z:D) (Q:VK),f.K=X.K->RS f α s σ H->RepVs f α s.Γ H xs us->g s.Γ xs=some z ->
 (∀ w H',RS f α s σ H'->Ext f α α s.Γ s.Γ H H'->Rep (wd f α s.Γ H') z w->Q w H')->r us H Q
def CaF (X:Cx) (g:Gm->List SV->Option (List D)) (r:List V->Hp->VK->Prop):Prop:=∀ (f:Fr) (α:Nat->Addr) (s:DS) (σ:St) (H:Hp) (xs:List SV) (us:List V) (z:List D) (Q:VK),f.K=X.K->RS f α s σ H->RepVs f α s.Γ H xs us->g s.Γ xs=some z ->
 (∀ a vs,H a=none->Reps (wd f α s.Γ H) z vs->Q (.ref a) (upd H a (.lst vs)))->r us H Q
@[simp] def AH (g:Gm->List SV->Option D) (ms:MA):ME:=fun s=>(ms s).bind fun x=>(g x.2.Γ x.1).map fun z=>(.v z,x.2)
@[simp] def Au (g:Gm->List SV->Option (List D)) (ms:MA):MF:=fun s=>(ms s).bind fun x=>(g x.2.Γ x.1).map fun z=>(z,x.2)
variable {gc:Gm->List SV->Option D} {gcF:Gm->List SV->Option (List D)} {rc:List V->Hp->VK->Prop} {ms:MA} {es:List Expr} {x:Str} {p:Pos} {id T:String}
theorem P5 {f:Fr} {σ:St} {H:Hp} {Q:VK} (hf:f.K=X.K) (hg:CaD X gc rc) (h:tD f (AH gc ms) σ H Q):tCB rc (tDA f ms) σ H Q:=by
 obtain ⟨α,s,r',rs,lo,e,q⟩:=h
 obtain ⟨x,h1,e⟩:=bind_some e
 obtain ⟨z,h3,rfl⟩:=AZ e
 refine ⟨α,s,x,rs,lo,h1,fun α1 us H1 rs1 l1 e1 hu=>?_⟩
 exact hg f α1 x.2 σ H1 x.1 us z Q hf rs1 hu h3 fun w H3 rs3 e3 hw=>q α1 w H3 rs3 l1 (e1.trans e3) hw
theorem KO {f:Fr} {σ:St} {H:Hp} {Q:VK} (hf:f.K=X.K) (hg:CaF X gcF rc) (h:tDF f (Au gcF ms) σ H Q):tCB rc (tDA f ms) σ H Q:=by
 obtain ⟨α,s,r',rs,lo,e,q⟩:=h
 obtain ⟨x,h1,e⟩:=bind_some e
 obtain ⟨z,h3,rfl⟩:=AZ e
 refine ⟨α,s,x,rs,lo,h1,fun α1 us H1 rs1 l1 e1 hu=>?_⟩
 exact hg f α1 x.2 σ H1 x.1 us z Q hf rs1 hu h3 fun a vs ha hx=>q α1 a vs H1 rs1 l1 e1 ha hx
theorem FW (hc:CallR X (.builtin id) rc) (hgc:CaD X gc rc) (hg:Gl X x) (hm:X.mg x=none) (hv:bootBuiltins x=some (.builtin id)) (ha:DA X (e::es) ms) (hn:x≠"__name__":=by decide) (hdb:(x == ("__debug__":Str))=false:=by decide)
  (he:starEach (e::es) X.env=(false,eval e X.env)::starEach es X.env:=by rfl) (hpl:(backTo pos (starEach es X.env)).any (·.1)=false:=by rfl):DE X (.Call (.Name x p) (e::es) [] pos) (AH gc ms):=.mk fun f hf=>
 PE.imp (DR hc hg hm hv (ha f hf) hn hdb he hpl) fun σ H Q h=>P5 hf hgc h
theorem LU (hc:CallR X (.builtin id) rc) (hgc:CaF X gcF rc) (hg:Gl X x) (hm:X.mg x=none) (hv:bootBuiltins x=some (.builtin id)) (ha:DA X (e::es) ms) (hn:x≠"__name__":=by decide) (hdb:(x == ("__debug__":Str))=false:=by decide)
  (he:starEach (e::es) X.env=(false,eval e X.env)::starEach es X.env:=by rfl) (hpl:(backTo pos (starEach es X.env)).any (·.1)=false:=by rfl):DF X (.Call (.Name x p) (e::es) [] pos) (Au gcF ms):=.mk fun f hf=>
 PE.imp (DR hc hg hm hv (ha f hf) hn hdb he hpl) fun σ H Q h=>KO hf hgc h
theorem QX (hc:CallR X (.type T) rc) (hgc:CaF X gcF rc) (hg:Gl X x) (hm:X.mg x=none) (hv:bootBuiltins x=some (.type T)) (ha:DA X (e::es) ms) (hn:x≠"__name__":=by decide) (hdb:(x == ("__debug__":Str))=false:=by decide)
  (he:starEach (e::es) X.env=(false,eval e X.env)::starEach es X.env:=by rfl) (hpl:(backTo pos (starEach es X.env)).any (·.1)=false:=by rfl):DF X (.Call (.Name x p) (e::es) [] pos) (Au gcF ms):=.mk fun f hf=>
 PE.imp (Tx hc hg hm hv (ha f hf) hn hdb he hpl) fun σ H Q h=>KO hf hgc h
end
section
variable {f:Fr} {α α':Nat->Addr} {s s':DS} {σ σ':St} {H H' Hh H1:Hp}
def inn (f:Fr) (α:Nat->Addr) (Γ:Gm) (E:Addr->Prop) (Hh:Hp) (hd:∀ a,f.F a\/BZ Γ α a\/E a->Hh a≠none):Fr where
 K:=f.K
 H₀:=Hh
 F:=fun a=>f.F a\/BZ Γ α a\/E a
 L:=BZ Γ α
 sub:=fun a h=>.inr (.inl h)
 dom:=hd
structure Over (E:Addr->Prop) (H Hh:Hp):Prop where
 out:∀ a,¬E a->Hh a=H a
 new:∀ a,E a->H a=none
 there:∀ a,E a->Hh a≠none
theorem Over.sup {E:Addr->Prop} (o:Over E H Hh) {a:Addr} {u:HO} (h:H a=some u):Hh a=some u:=by
 rw[o.out a fun z=>by rw[o.new a z] at h;cases h]
 exact h
theorem BS (r:RS f α s σ H) {E:Addr->Prop} (o:Over E H Hh):∀ a,f.F a\/BZ s.Γ α a\/E a->Hh a≠none:=fun a h=>by
 have up:H a≠none->Hh a≠none:=fun h=>by
  cases e:H a with
  | none=>exact absurd e h
  | some u=>rw[o.sup e];exact fun z=>nomatch z
 rcases h with h | h | h
 ·exact up (r.forb a h)
 ·exact up (r.live h)
 ·exact o.there a h
theorem Ej (r:RS f α s σ H) {E:Addr->Prop} (o:Over E H Hh):Kw (wd f α s.Γ H) (wd (inn f α s.Γ E Hh (BS r o)) α s.Γ Hh):=⟨rfl,fun a u n e=>⟨o.sup e,fun z=>by
 rcases z with (z | z | z) | z
 ·exact n (.inl z)
 ·exact n (.inr z)
 ·have e':H a=some u:=e
  rw[o.new a z] at e'
  cases e'
 ·exact n (.inr z)⟩⟩
theorem Qy (r:RS f α s σ H) {E:Addr->Prop} (o:Over E H Hh) {d:SV} {v:V} (h:RepV f α s.Γ H d v):RepV (inn f α s.Γ E Hh (BS r o)) α s.Γ Hh d v:=by
 cases d with
 | v d=>exact Rep.kw (Ej r o) (show Rep _ d v from h)
 | b n=>exact h
 | p n d=>
  obtain ⟨h0,a,w,h1,h2,h3,h4⟩:=h
  obtain ⟨k1,k2⟩:=(Ej r o).keep a _ h2 h3
  exact ⟨h0,a,w,h1,k2,k1,h4.kw (Ej r o)⟩
theorem RS.enter (r:RS f α s σ H) {E:Addr->Prop} (o:Over E H Hh) {τ:List (Option SV)} {τ':St} (hl:τ.length=τ'.length) (hs:∀ (i:Nat) (d:SV),τ[i]?=some (some d)->∃ v,τ'[i]?=some (some v)/\RepV f α s.Γ H d v) :
  RS (inn f α s.Γ E Hh (BS r o)) α ⟨τ,s.Γ,s.Γ.length⟩ τ' Hh where
 len:=hl
 slot:=fun i d h=>let ⟨v,a,b⟩:=hs i d h;⟨v,a,Qy r o b⟩
 box:=fun n xs h=>let ⟨vs,a,b⟩:=r.box n xs h;⟨vs,o.sup a,b.kw (Ej r o)⟩
 own:=fun n xs h=>by
  rw[if_pos (show n<s.Γ.length from (List.getElem?_eq_some_iff.mp h).1)]
  exact ⟨n,xs,h,rfl⟩
 inj:=r.inj
 fr:=fun b u h _=>h
 forb:=BS r o
theorem RS.leave (r:RS f α s σ H) {E:Addr->Prop} (o:Over E H Hh) (q:RS (inn f α s.Γ E Hh (BS r o)) α' s' σ' H') (hlo:s'.lo=s.Γ.length) (ex:Ext (inn f α s.Γ E Hh (BS r o)) α α' s.Γ s'.Γ Hh H')
  (h1:∀ a,¬E a->H1 a=H' a) :
  RS f α' {s with Γ:=s'.Γ.take s.Γ.length} σ H1/\Ext f α α' s.Γ (s'.Γ.take s.Γ.length) H H1/\Kw (wd (inn f α s.Γ E Hh (BS r o)) α' s'.Γ H') (wd f α' (s'.Γ.take s.Γ.length) H1):=by
 have tk:∀ {n:Nat} {z:Option (List D)},(s'.Γ.take s.Γ.length)[n]?=some z->n<s.Γ.length/\s'.Γ[n]?=some z:=fun {n z} h=>by
  rw[List.getElem?_take] at h
  split at h
  ·rename_i c;exact ⟨c,h⟩
  ·cases h
 have lv:∀ {a},BZ (s'.Γ.take s.Γ.length) α' a->BZ s.Γ α a/\BZ s'.Γ α' a:=fun {a} hh_=>by
  obtain ⟨n,xs,e1,e2⟩:=hh_
  obtain ⟨c,e⟩:=tk e1
  obtain ⟨ys,e3⟩:=ex.lv n xs c e
  exact ⟨⟨n,ys,e3,by rw[<-ex.al n c];exact e2⟩,n,xs,e,e2⟩
 have kept:∀ b u,H b=some u->¬BZ s.Γ α b->H1 b=some u:=fun b u e n=>by
  have ne:¬E b:=fun z=>by rw[o.new b z] at e;cases e
  rw[h1 b ne]
  exact q.fr b u (o.sup e) n
 have kw1:Kw (wd f α s.Γ H) (wd f α' (s'.Γ.take s.Γ.length) H1):=⟨rfl,fun a u n e=>⟨kept a u e fun z=>n (.inr z),fun z=>by
  rcases z with z | z
  ·exact n (.inl z)
  ·exact n (.inr (lv z).1)⟩⟩
 have kw2:Kw (wd (inn f α s.Γ E Hh (BS r o)) α' s'.Γ H') (wd f α' (s'.Γ.take s.Γ.length) H1):=⟨rfl,fun a u n e=>⟨by
  show H1 a=some u
  rw[h1 a fun z=>n (.inl (.inr (.inr z)))]
  exact e,fun z=>by
  rcases z with z | z
  ·exact n (.inl (.inl z))
  ·exact n (.inr (lv z).2)⟩⟩
 have ex1:Ext f α α' s.Γ (s'.Γ.take s.Γ.length) H H1:=⟨kw1,by rw[List.length_take];have:=ex.m;lia,ex.al,fun n xs c e=>ex.lv n xs c (tk e).2⟩
 refine ⟨⟨r.len,fun i d h=>let ⟨v,a,b⟩:=r.slot i d h;⟨v,a,b.ext ex1⟩,fun n xs h=>?_,fun n xs h=>?_,fun n m xs ys hn hm e=>?_,fun b u h n=>?_,fun a h=>?_⟩,ex1,kw2⟩
 ·obtain ⟨c,e⟩:=tk h
  obtain ⟨vs,a,b⟩:=q.box n xs e
  refine ⟨vs,?_,b.kw kw2⟩
  have ne:¬E (α' n):=fun z=>by
   obtain ⟨ys,e3⟩:=ex.lv n xs c e
   obtain ⟨us,g,_⟩:=r.box n ys e3
   have:=o.new _ z
   rw[ex.al n c,g] at this
   cases this
  rw[h1 _ ne]
  exact a
 ·obtain ⟨c,e⟩:=tk h
  obtain ⟨ys,e3⟩:=ex.lv n xs c e
  rw[ex.al n c]
  exact r.own n ys e3
 ·exact q.inj n m xs ys (tk hn).2 (tk hm).2 e
 ·refine kept b u (r.fr b u h n) fun hh_=>?_
  obtain ⟨m,ys,e1,e2⟩:=hh_
  have ow:=r.own m ys e1
  rw[e2] at ow
  split at ow
  ·exact n ow
  ·rw[h] at ow;cases ow
 ·have hb:=r.forb a h
  have ne:¬E a:=fun z=>hb (o.new a z)
  rw[h1 a ne]
  exact q.forb a (.inl h)
end
section
variable {f:Fr} {α α':Nat->Addr} {s s':DS} {σ σ':St} {H H':Hp} {X:Cx} {pos:Pos}
def del (H:Hp) (a:Addr):Hp:=fun b=>if b=a then none else H b
theorem Hs {H:Hp} {a:Addr}:del H a a=none:=by unfold del;rw[if_pos rfl]
theorem Dh {H:Hp} {a b:Addr} (h:b≠a):del H a b=H b:=by unfold del;rw[if_neg h]
theorem Kl {H:Hp} {a:Addr} {o:HO} (h:H a=some o):upd (del H a) a o=H:=by
 funext b
 by_cases e:b=a
 ·subst e;rw[BA,h]
 ·rw[AR e,Dh e]
theorem RS.cut (r:RS f α s σ H) {n:Nat} {xs:List D} (hn:s.Γ[n]?=some (some xs)) (hlo:s.lo<=n) {τ:List (Option SV)} (hl:τ.length=s.σ.length) (hτ:∀ (i:Nat) (d:SV),τ[i]?=some (some d)->s.σ[i]?=some (some d)) :
  RS f α {s with σ:=τ,Γ:=s.Γ.set n none} σ (del H (α n))/\Ext f α α s.Γ (s.Γ.set n none) H (del H (α n)):=by
 have lv:∀ {a},BZ (s.Γ.set n none) α a->BZ s.Γ α a:=fun {a} hh_=>by
  obtain ⟨m,zs,e1,e2⟩:=hh_
  rcases EF hn e1 with ⟨_,z⟩ | ⟨_,hm⟩
  ·cases z
  ·exact ⟨m,zs,hm,e2⟩
 have me:BZ s.Γ α (α n):=⟨n,xs,hn,rfl⟩
 have e:Ext f α α s.Γ (s.Γ.set n none) H (del H (α n)):=⟨⟨rfl,fun a u h e=>⟨by show del H (α n) a=some u;rw[Dh fun (z:a=α n)=>h (.inr (by rw[z];exact me))];exact e,fun z=>by
  rcases z with z | z
  ·exact h (.inl z)
  ·exact h (.inr (lv z))⟩⟩,by rw[List.length_set];exact Nat.le_refl _,fun _ _=>rfl,fun m zs _ e1=>by
  rcases EF hn e1 with ⟨_,z⟩ | ⟨_,hm⟩
  ·cases z
  ·exact ⟨zs,hm⟩⟩
 have old:∀ {m zs},(s.Γ.set n none)[m]?=some (some zs)->m≠n/\s.Γ[m]?=some (some zs):=fun {m zs} hm=>by
  rcases EF hn hm with ⟨_,z⟩ | h
  ·cases z
  ·exact h
 have ow0:f.H₀ (α n)=none:=by
  have ow:=r.own n xs hn
  rw[if_neg (Nat.not_lt.mpr hlo)] at ow
  exact ow
 refine ⟨⟨hl.trans r.len,fun i d h=>let ⟨v,a,b⟩:=r.slot i d (hτ i d h);⟨v,a,b.ext e⟩,fun m zs hm=>?_,fun m zs hm=>r.own m zs (old hm).2,fun m k zs us hm hk q=>r.inj m k _ _ (old hm).2 (old hk).2 q,fun b o h1 h2=>?_,fun a h1=>?_⟩,e⟩
 ·obtain ⟨us,a,b⟩:=r.box m zs (old hm).2
  exact ⟨us,by rw[Dh fun z=>(old hm).1 (r.inj m n _ _ (old hm).2 hn z)];exact a,b.kw e.kw⟩
 ·rw[Dh fun z=>by rw[z,ow0] at h1;cases h1]
  exact r.fr b o h1 h2
 ·rw[Dh fun z=>f.dom a h1 (by rw[z];exact ow0)]
  exact r.forb a h1
theorem IP {i:Nat} {x:Str} (h:PE X (.Name x pos) (EJ i)):DF X (.Name x pos) (Ci i):=.mk fun f hf=>PE.imp h fun σ H Q hh_=>by
 obtain ⟨α,s,r,rs,lo,e,q⟩:=hh_
 unfold Ci at e
 split at e
 ·rename_i n hd
  split at e
  ·rename_i xs hn
   split at e
   ·rename_i hlo
    cases e
    obtain ⟨v,h1,h2⟩:=rs.slot i _ hd
    obtain ⟨vs,h3,h4⟩:=rs.box n xs hn
    obtain ⟨c1,c2⟩:=rs.cut hn hlo (τ:=s.σ.set i none) (List.length_set ..) fun j d hj=>by
     rw[List.getElem?_set] at hj
     by_cases z:i=j
     ·rw[if_pos z] at hj
      split at hj<;>cases hj
     ·rw[if_neg z] at hj;exact hj
    refine ⟨v,h1,?_⟩
    have hq:=q α (α n) vs (del H (α n)) c1 rfl c2 Hs (h4.kw c2.kw)
    rw[Kl h3] at hq
    rw[h2.2]
    exact hq
   ·cases e
  ·cases e
 ·cases e
end
inductive Out where
 | nx (s:DS) | rt (d:D) (s:DS) | rf (xs:List D) (s:DS) | rp (xs:List D) (d:D) (s:DS) | bk (s:DS) | ct (s:DS)
abbrev MS:=DS->Option Out
def Post (f:Fr) (α:Nat->Addr) (s:DS) (H:Hp) (E:Ends):Out->Prop
 | .nx s'=>∀ α' σ' H',RS f α' s' σ' H'->s'.lo=s.lo->Ext f α α' s.Γ s'.Γ H H'->E.nx σ' H'
 | .rt d s'=>∀ α' σ' v H',RS f α' s' σ' H'->s'.lo=s.lo->Ext f α α' s.Γ s'.Γ H H'->Rep (wd f α' s'.Γ H') d v->E.rt v H'
 | .rf xs s'=>∀ α' σ' a vs H',RS f α' s' σ' H'->s'.lo=s.lo->Ext f α α' s.Γ s'.Γ H H'->H' a=none->Reps (wd f α' s'.Γ H') xs vs->E.rt (.ref a) (upd H' a (.lst vs))
 | .rp xs d s'=>∀ α' σ' a t vs w H',RS f α' s' σ' H'->s'.lo=s.lo->Ext f α α' s.Γ s'.Γ H H'->H' a=none->Reps (wd f α' s'.Γ H') xs vs->Rep (wd f α' s'.Γ H') d w->H' t=none->t≠a->E.rt (.ref t) (upd (upd H' a (.lst vs)) t (.tup [.ref a,w]))
 | .bk s'=>∀ α' σ' H',RS f α' s' σ' H'->s'.lo=s.lo->Ext f α α' s.Γ s'.Γ H H'->E.bk σ' H'
 | .ct s'=>∀ α' σ' H',RS f α' s' σ' H'->s'.lo=s.lo->Ext f α α' s.Γ s'.Γ H H'->E.ct σ' H'
def tDS (f:Fr) (m:MS):TS:=fun E σ H=>∃ α s o,RS f α s σ H/\s.lo<=s.Γ.length/\m s=some o/\Post f α s H E o
structure DSt (X:Cx) (st:Stmt) (m:MS):Prop where
 h:∀ f:Fr,f.K=X.K->PS X st (tDS f m)
instance {X:Cx} {st:Stmt} {m:MS}:CoeFun (DSt X st m) fun _=>∀ f:Fr,f.K=X.K->PS X st (tDS f m):=⟨DSt.h⟩
structure DSs (X:Cx) (sts:List Stmt) (m:MS):Prop where
 h:∀ f:Fr,f.K=X.K->PSs X sts (tDS f m)
instance {X:Cx} {sts:List Stmt} {m:MS}:CoeFun (DSs X sts m) fun _=>∀ f:Fr,f.K=X.K->PSs X sts (tDS f m):=⟨DSs.h⟩
section
variable {X:Cx} {st:Stmt} {sts:List Stmt} {f:Fr} {α α':Nat->Addr} {s s':DS} {σ:St} {H H':Hp} {E:Ends} {pos:Pos} {e:Expr}
theorem PS.imp {t t':TS} (h:PS X st t) (k:∀ E σ H,t' E σ H->t E σ H):PS X st t':=fun pins s σ H D I q=>h pins s σ H D I (k _ _ _ q)
theorem PSs.imp {t t':TS} (h:PSs X sts t) (k:∀ E σ H,t' E σ H->t E σ H):PSs X sts t':=fun pins s σ H D I q=>h pins s σ H D I (k _ _ _ q)
theorem Post.ext {o:Out} (h:Post f α s H E o) (hl:s'.lo=s.lo) (e:Ext f α α' s.Γ s'.Γ H H'):Post f α' s' H' E o:=by
 cases o with
 | nx t=>exact fun α2 σ2 H2 r l x=>h α2 σ2 H2 r (l.trans hl) (e.trans x)
 | rt d t=>exact fun α2 σ2 v H2 r l x w=>h α2 σ2 v H2 r (l.trans hl) (e.trans x) w
 | rf xs t=>exact fun α2 σ2 a vs H2 r l x w y=>h α2 σ2 a vs H2 r (l.trans hl) (e.trans x) w y
 | rp xs d t=>exact fun α2 σ2 a t vs w H2 r l x=>h α2 σ2 a t vs w H2 r (l.trans hl) (e.trans x)
 | bk t=>exact fun α2 σ2 H2 r l x=>h α2 σ2 H2 r (l.trans hl) (e.trans x)
 | ct t=>exact fun α2 σ2 H2 r l x=>h α2 σ2 H2 r (l.trans hl) (e.trans x)
theorem lo_le {f:Fr} (lo:s.lo<=s.Γ.length) (hl:s'.lo=s.lo) (e:Ext f α α' s.Γ s'.Γ H H'):s'.lo<=s'.Γ.length:=by rw[hl];exact Nat.le_trans lo e.m
@[simp] def A9:MS:=fun s=>some (.nx s)
@[simp] def AI (m n:MS):MS:=fun s=>(m s).bind fun o=>match o with
 | .nx s'=>n s'
 | .rt d s'=>some (.rt d s')
 | .rf d s'=>some (.rf d s')
 | .rp xs d s'=>some (.rp xs d s')
 | .bk s'=>some (.bk s')
 | .ct s'=>some (.ct s')
variable {m n:MS}
theorem Be:DSs X [] A9:=.mk fun f hf=>PSs.imp JP fun E σ H hh_=>by
 obtain ⟨α,s,o,rs,lo,e,q⟩:=hh_
 cases e
 exact q α σ H rs rfl .refl
theorem AS (h1:DSt X st m) (h2:DSs X sts n):DSs X (st::sts) (AI m n):=.mk fun f hf=>PSs.imp (Dc (h1 f hf) (h2 f hf)) fun E σ H hh_=>by
 obtain ⟨α,s,o,rs,lo,e,q⟩:=hh_
 obtain ⟨o1,e1,e⟩:=bind_some e
 refine ⟨α,s,o1,rs,lo,e1,?_⟩
 cases o1 with
 | nx s1=>exact fun α' σ' H' rs' l' x=>⟨α',s1,o,rs',lo_le lo l' x,e,q.ext l' x⟩
 | rt d s1=>cases e;exact q
 | rf d s1=>cases e;exact q
 | rp xs d s1=>cases e;exact q
 | bk s1=>cases e;exact q
 | ct s1=>cases e;exact q
theorem Ad (h1:DSt X st m):DSs X [st] m:=.mk fun f hf=>GA (h1 f hf)
@[simp] def CB (m:ME):MS:=fun s=>(m s).map fun r=>.nx r.2
theorem EO {m:ME} (he:DE X e m) (hs:swapsWith e none pos.line X.env=pure false:=by rfl):DSt X (.Expr e pos) (CB m):=.mk fun f hf=>PS.imp (M8 (he f hf) hs) fun E σ H hh_=>by
 obtain ⟨α,s,o,rs,lo,e,q⟩:=hh_
 obtain ⟨r,h1,rfl⟩:=AZ e
 exact ⟨α,s,r,rs,lo,h1,fun α' v H' rs' l' x _=>q α' σ H' rs' l' x⟩
@[simp] def As (m:ME):MS:=fun s=>(m s).bind fun r=>match r.1 with
 | .v d=>some (.rt d r.2)
 | _=>none
theorem BK {m:ME} (he:DE X e m):DSt X (.Return (some e) pos) (As m):=.mk fun f hf=>PS.imp (FJ (he f hf)) fun E σ H hh_=>by
 obtain ⟨α,s,o,rs,lo,e,q⟩:=hh_
 obtain ⟨⟨x,r⟩,h1,e⟩:=bind_some e
 cases x with
 | b n=>cases e
 | p n d=>cases e
 | v d=>
  cases e
  exact ⟨α,s,_,rs,lo,h1,fun α' v H' rs' l' x hv=>q α' σ v H' rs' l' x hv⟩
@[simp] def CO (m:MF):MS:=fun s=>(m s).map fun r=>.rf r.1 r.2
theorem ES {m:MF} (he:DF X e m):DSt X (.Return (some e) pos) (CO m):=.mk fun f hf=>PS.imp (FJ (he f hf)) fun E σ H hh_=>by
 obtain ⟨α,s,o,rs,lo,e,q⟩:=hh_
 obtain ⟨r,h1,rfl⟩:=AZ e
 exact ⟨α,s,r,rs,lo,h1,fun α' a vs H' rs' l' x ha hx=>q α' σ a vs H' rs' l' x ha hx⟩
@[simp] def mIf (c:MT) (m n:MS):MS:=fun s=>(c s).bind fun b=>if b.1=true then m b.2 else n b.2
theorem BV {c:Expr} {mc:MT} {a b:List Stmt} (hc:DT X c mc) (ha:DSs X a m) (hb:DSs X b n):DSt X (.If c a b pos) (mIf mc m n):=.mk fun f hf=>PS.imp (JH (hc f hf) (ha f hf) (hb f hf)) fun E σ H hh_=>by
 obtain ⟨α,s,o,rs,lo,e,q⟩:=hh_
 obtain ⟨k,h1,e⟩:=bind_some e
 refine ⟨α,s,k,rs,lo,h1,fun α' H' rs' l' x=>?_⟩
 split at e
 ·rename_i c
  rw[if_pos c]
  exact ⟨α',k.2,o,rs',lo_le lo l' x,e,q.ext l' x⟩
 ·rename_i c
  rw[if_neg c]
  exact ⟨α',k.2,o,rs',lo_le lo l' x,e,q.ext l' x⟩
@[simp] def AM (i:Nat) (m:ME):MS:=fun s=>(m s).map fun r=>.nx {r.2 with σ:=r.2.σ.set i (some r.1)}
theorem Pg {i:Nat} {tg:Expr} {m:ME} (h:∀ te,PE X e te->PS X (.Assign [tg] e pos) (E2 te (Cz i))) (he:DE X e m):DSt X (.Assign [tg] e pos) (AM i m):=.mk fun f hf=>PS.imp (h _ (he f hf)) fun E σ H hh_=>by
 obtain ⟨α,s,o,rs,lo,e,q⟩:=hh_
 obtain ⟨r,h1,rfl⟩:=AZ e
 exact ⟨α,s,r,rs,lo,h1,fun α' v H' rs' l' x hv=>q α' _ H' (rs'.set hv) l' x⟩
theorem Aj {i:Nat} {x:Str} {pos':Pos} {m:ME} (hN:X.N.Nodup) (hi:X.N[i]?=some x) (hx:Loc X.env.scope x) (he:DE X e m) (hs:swapsWith e (some (.Name x pos')) pos.line X.env=pure false:=by rfl) (hf:X.fn x=true\/X.env.scope.names.lookup x=some .local:=by first | exact .inl rfl | exact .inr rfl | assumption):DSt X (.Assign [.Name x pos'] e pos) (AM i m):=Pg (fun te h=>En hN hi hx h hs hf) he
@[simp] def BY (i:Nat) (m:MF):MS:=fun s=>(m s).map fun r=>.nx {r.2 with σ:=r.2.σ.set i (some (.b r.2.Γ.length)),Γ:=r.2.Γ++[some r.1]}
theorem R6 {i:Nat} {tg:Expr} {m:MF} (h:∀ te,PE X e te->PS X (.Assign [tg] e pos) (E2 te (Cz i))) (he:DF X e m):DSt X (.Assign [tg] e pos) (BY i m):=.mk fun f hf=>PS.imp (h _ (he f hf)) fun E σ H hh_=>by
 obtain ⟨α,s,o,rs,lo,e,q⟩:=hh_
 obtain ⟨r,h1,rfl⟩:=AZ e
 refine ⟨α,s,r,rs,lo,h1,fun α' a vs H' rs' l' x ha hx=>?_⟩
 have x2:=Ext.add (xs:=r.1) (o:=.lst vs) rs' ha
 refine q (Bu α' r.2.Γ.length a) _ _ (RS.set (rs'.add (lo_le lo l' x) ha hx) (d:=.b r.2.Γ.length) ⟨by show r.2.Γ.length<(r.2.Γ++[some r.1]).length;rw[List.length_append];simp,by unfold Bu;rw[if_pos rfl]⟩) l' (x.trans x2)
theorem DV {i:Nat} {x:Str} {pos':Pos} {m:MF} (hN:X.N.Nodup) (hi:X.N[i]?=some x) (hx:Loc X.env.scope x) (he:DF X e m) (hs:swapsWith e (some (.Name x pos')) pos.line X.env=pure false:=by rfl) (hf:X.fn x=true\/X.env.scope.names.lookup x=some .local:=by first | exact .inl rfl | exact .inr rfl | assumption):DSt X (.Assign [.Name x pos'] e pos) (BY i m):=R6 (fun te h=>En hN hi hx h hs hf) he
@[simp] def Hl (σ:List (Option SV)):List Nat->List D->List (Option SV)
 | i::is,d::ds=>Hl (σ.set i (some (.v d))) is ds
 | _,_=>σ
abbrev MG:=D->DS->Option DS
def ID:List Nat->TGs
 | []=>JB
 | i::is=>JT (Cz i) (ID is)
def tDG (f:Fr) (m:MG):TG:=fun v σ H Q=>∃ α s d s',RS f α s σ H/\s.lo<=s.Γ.length/\Rep (wd f α s.Γ H) d v/\m d s=some s'/\∀ σ',RS f α s' σ' H->s'.lo=s.lo->s'.Γ=s.Γ->Q σ' H
structure DG (X:Cx) (tg:Expr) (m:MG):Prop where
 h:∀ f:Fr,f.K=X.K->PG X tg (tDG f m)
instance {X:Cx} {tg:Expr} {m:MG}:CoeFun (DG X tg m) fun _=>∀ f:Fr,f.K=X.K->PG X tg (tDG f m):=⟨DG.h⟩
theorem PG.imp {tg:Expr} {t t':TG} (h:PG X tg t) (k:∀ v σ H Q,t' v σ H Q->t v σ H Q):PG X tg t':=fun pins s σ H v u Q I r q=>h pins s σ H v u Q I r (k _ _ _ _ q)
@[simp] def AF (i:Nat):MG:=fun d s=>some {s with σ:=s.σ.set i (some (.v d))}
theorem Aw {i:Nat} {tg:Expr} (h:PG X tg (Cz i)):DG X tg (AF i):=.mk fun f hf=>PG.imp h fun v σ H Q hh_=>by
 obtain ⟨α,s,d,s',rs,lo,hd,e,q⟩:=hh_
 cases e
 exact q _ (rs.set (d:=.v d) hd) rfl rfl
@[simp] def Cw (is:List Nat):MG:=fun d s=>match d with
 | .tup xs=>if xs.length=is.length then some {s with σ:=Hl s.σ is xs} else none
 | _=>none
theorem LF {H:Hp} {Q:St->Hp->Prop}:∀ {is:List Nat} {xs:List D} {vs:List V} {s:DS} {σ:St},RS f α s σ H->Reps (wd f α s.Γ H) xs vs->xs.length=is.length->(∀ σ',RS f α {s with σ:=Hl s.σ is xs} σ' H->Q σ' H)->ID is vs σ H Q
 | [],xs,vs,s,σ,rs,hx,hl,q=>by
  have:xs=[]:=List.eq_nil_of_length_eq_zero hl
  subst this
  exact ⟨hx.nil_inv,q σ rs⟩
 | i::is,[],vs,s,σ,rs,hx,hl,q=>by cases hl
 | i::is,x::xs,vs,s,σ,rs,hx,hl,q=>by
  obtain ⟨v,r,rfl,h1,h2⟩:=hx.cons_inv
  exact ⟨v,r,rfl,LF (rs.set (i:=i) (d:=.v x) (v:=v) h1) h2 (Nat.succ.inj hl) q⟩
theorem JD {is:List Nat} {tg:Expr} {n:Nat} (hn:is.length=n) (h:PG X tg (CL X.K n (ID is))):DG X tg (Cw is):=.mk fun f hf=>PG.imp h fun v σ H Q hh_=>by
 obtain ⟨α,s,d,s',rs,lo,hd,e,q⟩:=hh_
 unfold Cw at e
 split at e
 ·rename_i xs
  split at e
  ·rename_i hl
   cases e
   unfold Rep at hd
   obtain ⟨a,vs,rfl,_,h1,h2⟩:=hd
   exact ⟨a,vs,rfl,SqT.of h1,by rw[h2.len,hl,hn],LF rs h2 hl fun σ' r=>q σ' r rfl rfl⟩
  ·cases e
 ·cases e
@[simp] def DM (i:Nat) (g:Gm->SV->SV->Option D) (m:ME):MS:=fun s=>match s.σ[i]? with
 | some (some x)=>(m s).bind fun y=>(g y.2.Γ x y.1).map fun z=>.nx {y.2 with σ:=y.2.σ.set i (some (.v z))}
 | _=>none
theorem Jk {i:Nat} {x:Str} {p:Pos} {op:Operator} {g:Gm->SV->SV->Option D} {r:TIp} {m:ME} (h:∀ te,PE X e te->PS X (.AugAssign (.Name x p) op e pos) (Lr i te r)) (hg:OpD X g r) (he:DE X e m):DSt X (.AugAssign (.Name x p) op e pos) (DM i g m):=.mk fun f hf=>PS.imp (h _ (he f hf)) fun E σ H hh_=>by
 obtain ⟨α,s,o,rs,lo,e,q⟩:=hh_
 unfold DM at e
 split at e
 ·rename_i d hd
  obtain ⟨y,h1,e⟩:=bind_some e
  obtain ⟨z,h2,rfl⟩:=AZ e
  obtain ⟨u,h3,h4⟩:=rs.slot i d hd
  refine ⟨u,h3,α,s,y,rs,lo,h1,fun α' v H' rs' l' x hv=>?_⟩
  exact hg f α' y.2 σ H' d y.1 u v z _ hf rs' (h4.ext x) hv h2 fun w H2 r2 e2 hw=>q α' _ H2 (r2.set (d:=.v z) hw) l' (x.trans e2)
 ·cases e
structure DIt (f:Fr) (J:It) (items:List D) (α0:Nat->Addr) (Γ0:Gm) (H0:Hp):Prop where
 go:∀ i α s σ H Hh,i<items.length->RS f α s σ H->Ext f α0 α Γ0 s.Γ H0 H->(∀ a o,H a=some o->Hh a=some o)->J.go i Hh
 yl:∀ i d x α s σ H Hh H',items[i]?=some d->RS f α s σ H->Ext f α0 α Γ0 s.Γ H0 H->(∀ a o,H a=some o->Hh a=some o)->J.yld i Hh x H' ->
  (H'=Hh/\Rep (wd f α s.Γ H) d x)\/∃ T o,Hh T=none/\H'=upd Hh T o/\Rep (wd f α s.Γ (upd H T o)) d x
 stop:∀ α s σ H Hh,RS f α s σ H->Ext f α0 α Γ0 s.Γ H0 H->(∀ a o,H a=some o->Hh a=some o)->J.stop items.length Hh
def tDI (f:Fr) (m:MF):TI:=fun σ H R=>∃ α s r,RS f α s σ H/\s.lo<=s.Γ.length/\m s=some r/\∀ J α' H',RS f α' r.2 σ H'->r.2.lo=s.lo->Ext f α α' s.Γ r.2.Γ H H'->DIt f J r.1 α' r.2.Γ H'->R J H'
structure DI (X:Cx) (tg src:Expr) (m:MF):Prop where
 h:∀ f:Fr,f.K=X.K->PI X tg src (tDI f m)
instance {X:Cx} {tg src:Expr} {m:MF}:CoeFun (DI X tg src m) fun _=>∀ f:Fr,f.K=X.K->PI X tg src (tDI f m):=⟨DI.h⟩
def Cb (g:MG) (b:MS):List D->DS->Option Out
 | [],s=>some (.nx s)
 | d::r,s=>(g d s).bind fun s1=>(b s1).bind fun o=>match o with
  | .nx s2=>Cb g b r s2
  | .ct s2=>Cb g b r s2
  | .bk s2=>some (.nx s2)
  | .rt d s2=>some (.rt d s2)
  | .rf d s2=>some (.rf d s2)
  | .rp xs d s2=>some (.rp xs d s2)
@[simp] def BX (mi:MF) (g:MG) (b:MS):MS:=fun s=>(mi s).bind fun r=>Cb g b r.1 r.2
theorem DD {tg iter:Expr} {body:List Stmt} {mi:MF} {g:MG} {b:MS} (hp:PassesOwn (model X.prog X.w) X.A X.env X.xe) (hc:X.calm=true) (hi:DI X tg iter mi) (hg:DG X tg g) (hb:DSs X body b)
  (hs:∀ x,foldedSetIterable iter X.env x=pure x:=by intro _;rfl):DSt X (.For tg iter body [] pos) (BX mi g b):=.mk fun f hf=>PS.imp (On hp hc (hi f hf) (hg f hf) (hb f hf) hs) fun E σ H hh_=>by
 obtain ⟨α,s,o,rs,lo,e,q⟩:=hh_
 obtain ⟨⟨items,s1⟩,h1,e⟩:=bind_some e
 refine ⟨α,s,_,rs,lo,h1,fun J α1 H1 rs1 l1 x1 it=>?_⟩
 refine Rq items.length (fun i σ H=>∃ αi si,RS f αi si σ H/\si.lo=s1.lo/\Ext f α1 αi s1.Γ si.Γ H1 H/\Cb g b (items.drop i) si=some o) ⟨α1,s1,rs1,rfl,.refl,e⟩ ?_ ?_ ?_ ?_
 ·rintro i σ2 H2 hi ⟨αi,si,ri,li,xi,ei⟩
  exact it.go i αi si σ2 H2 H2 hi ri xi fun _ _ h=>h
 ·rintro σ2 H2 ⟨αi,si,ri,li,xi,ei⟩
  exact it.stop αi si σ2 H2 H2 ri xi fun _ _ h=>h
 ·rintro i x σ2 H2 H3 hi ⟨αi,si,ri,li,xi,ei⟩ y
  have hd:items[i]?=some items[i]:=List.getElem?_eq_getElem hi
  rw[List.drop_eq_getElem_cons hi] at ei
  obtain ⟨s2,g2,ei⟩:=bind_some ei
  obtain ⟨o2,b2,ei⟩:=bind_some ei
  have fin:∀ {H3},RS f αi si σ2 H3->Ext f αi αi si.Γ si.Γ H2 H3->Rep (wd f αi si.Γ H3) items[i] x->tDG f g x σ2 H3 fun σ4 H4=>tDS f b {E with nx:=fun σ H=>∃ αi si,RS f αi si σ H/\si.lo=s1.lo/\Ext f α1 αi s1.Γ si.Γ H1 H/\Cb g b (items.drop (i+1)) si=some o,ct:=fun σ H=>∃ αi si,RS f αi si σ H/\si.lo=s1.lo/\Ext f α1 αi s1.Γ si.Γ H1 H/\Cb g b (items.drop (i+1)) si=some o,bk:=E.nx} σ4 H4:=fun {H3} r3 x3 hr=>by
   refine ⟨αi,si,_,s2,r3,by rw[li];exact Nat.le_trans (lo_le lo l1 x1) xi.m,hr,g2,fun σ4 r4 l4 G4=>⟨αi,s2,o2,r4,by rw[l4,li,G4];exact Nat.le_trans (lo_le lo l1 x1) xi.m,b2,?_⟩⟩
   have x13:Ext f α1 αi s1.Γ s2.Γ H1 H3:=by rw[G4];exact xi.trans x3
   cases o2 with
   | nx s5=>exact fun α5 σ5 H5 r5 l5 x5=>⟨α5,s5,r5,l5.trans (l4.trans li),x13.trans x5,ei⟩
   | ct s5=>exact fun α5 σ5 H5 r5 l5 x5=>⟨α5,s5,r5,l5.trans (l4.trans li),x13.trans x5,ei⟩
   | bk s5=>cases ei;exact fun α5 σ5 H5 r5 l5 x5=>q α5 σ5 H5 r5 (l5.trans (l4.trans (li.trans l1))) (x1.trans (x13.trans x5))
   | rt d s5=>cases ei;exact fun α5 σ5 v H5 r5 l5 x5 w=>q α5 σ5 v H5 r5 (l5.trans (l4.trans (li.trans l1))) (x1.trans (x13.trans x5)) w
   | rf d s5=>cases ei;exact fun α5 σ5 a vs H5 r5 l5 x5 w y=>q α5 σ5 a vs H5 r5 (l5.trans (l4.trans (li.trans l1))) (x1.trans (x13.trans x5)) w y
   | rp xs d s5=>cases ei;exact fun α5 σ5 a t vs w H5 r5 l5 x5=>q α5 σ5 a t vs w H5 r5 (l5.trans (l4.trans (li.trans l1))) (x1.trans (x13.trans x5))
  rcases it.yl i _ x αi si σ2 H2 H2 H3 hd ri xi (fun _ _ h=>h) y with ⟨rfl,hr⟩ | ⟨T,u,hT,rfl,hr⟩
  ·exact fin ri .refl hr
  ·exact fin (ri.new hT) (.new ri hT) hr
 ·rintro σ2 H2 ⟨αi,si,ri,li,xi,ei⟩
  rw[List.drop_length] at ei
  cases ei
  exact q αi σ2 H2 ri (li.trans l1) (x1.trans xi)
def BL (c:MT) (b:MS):Nat->DS->Option Out
 | 0,_=>none
 | k+1,s=>(c s).bind fun t=>if t.1=true then (b t.2).bind fun o=>match o with
   | .nx s2=>BL c b k s2
   | .ct s2=>BL c b k s2
   | .bk s2=>some (.nx s2)
   | .rt d s2=>some (.rt d s2)
   | .rf d s2=>some (.rf d s2)
   | .rp xs d s2=>some (.rp xs d s2)
  else some (.nx t.2)
open Classical in
def DN (c:MT) (b:MS):MS:=fun s=>if h:∃ k,(BL c b k s).isSome=true then BL c b (choose h) s else none
theorem Gy {c:MT} {b:MS}:∀ {k:Nat} {s:DS} {o:Out},BL c b k s=some o->BL c b (k+1) s=some o
 | 0,s,o,e=>by cases e
 | k+1,s,o,e=>by
  obtain ⟨t,h1,e⟩:=bind_some e
  unfold BL
  rw[h1]
  show (if t.1=true then _ else _)=_
  split at e
  ·rename_i c
   rw[if_pos c]
   obtain ⟨o1,h2,e⟩:=bind_some e
   rw[h2]
   cases o1 with
   | nx s2=>exact Gy (k:=k) e
   | ct s2=>exact Gy (k:=k) e
   | bk s2=>exact e
   | rt d s2=>exact e
   | rf d s2=>exact e
   | rp xs d s2=>exact e
  ·rename_i c
   rw[if_neg c]
   exact e
theorem Mf {c:MT} {b:MS} {s:DS} {o:Out} {k j:Nat} (h:k<=j) (e:BL c b k s=some o):BL c b j s=some o:=by
 induction h with
 | refl=>exact e
 | step _ ih=>exact Gy ih
theorem LZ {c:MT} {b:MS} {s:DS} {o:Out} {k:Nat} (e:BL c b k s=some o):DN c b s=some o:=by
 have h:∃ k,(BL c b k s).isSome=true:=⟨k,by rw[e];rfl⟩
 unfold DN
 rw[dif_pos h]
 have hs:=Classical.choose_spec h
 obtain ⟨o',e'⟩:=Option.isSome_iff_exists.mp hs
 rw[e']
 have a:=Mf (Nat.le_max_left k (Classical.choose h)) e
 have b':=Mf (Nat.le_max_right k (Classical.choose h)) e'
 rw[a] at b'
 exact b'.symm
theorem NQ {c:MT} {b:MS} {s:DS} {o:Out} (e:DN c b s=some o):∃ k,BL c b k s=some o:=by
 unfold DN at e
 split at e
 ·exact ⟨_,e⟩
 ·cases e
theorem L7 {c:Expr} {body:List Stmt} {mc:MT} {b:MS} (hp:PassesOwn (model X.prog X.w) X.A X.env X.xe) (hc:DT X c mc) (hb:DSs X body b):DSt X (.While c body [] pos) (DN mc b):=.mk fun f hf=>PS.imp (PR hp (hc f hf) (hb f hf)) fun E σ H hh_=>by
 obtain ⟨α,s,o,rs,lo,e,q⟩:=hh_
 obtain ⟨k0,e0⟩:=NQ e
 refine ⟨fun k σ' H'=>∃ αi si,RS f αi si σ' H'/\si.lo=s.lo/\Ext f α αi s.Γ si.Γ H H'/\BL mc b k si=some o,⟨k0,α,s,rs,rfl,.refl,e0⟩,?_⟩
 rintro k σ2 H2 ⟨αi,si,ri,li,xi,ei⟩
 cases k with
 | zero=>cases ei
 | succ k=>
  obtain ⟨t,h1,ei⟩:=bind_some ei
  refine ⟨αi,si,t,ri,by rw[li];exact Nat.le_trans lo xi.m,h1,fun α3 H3 r3 l3 x3=>?_⟩
  split at ei
  ·rename_i ct
   rw[if_pos ct]
   obtain ⟨o1,h2,ei⟩:=bind_some ei
   refine ⟨fun σ' H'=>∃ αi si,RS f αi si σ' H'/\si.lo=s.lo/\Ext f α αi s.Γ si.Γ H H'/\BL mc b k si=some o,fun σ' H' h=>⟨k,Nat.lt_succ_self _,h⟩,α3,t.2,o1,r3,by rw[l3,li];exact Nat.le_trans (Nat.le_trans lo xi.m) x3.m,h2,?_⟩
   cases o1 with
   | nx s5=>exact fun α5 σ5 H5 r5 l5 x5=>⟨α5,s5,r5,l5.trans (l3.trans li),xi.trans (x3.trans x5),ei⟩
   | ct s5=>exact fun α5 σ5 H5 r5 l5 x5=>⟨α5,s5,r5,l5.trans (l3.trans li),xi.trans (x3.trans x5),ei⟩
   | bk s5=>cases ei;exact fun α5 σ5 H5 r5 l5 x5=>q α5 σ5 H5 r5 (l5.trans (l3.trans li)) (xi.trans (x3.trans x5))
   | rt d s5=>cases ei;exact fun α5 σ5 v H5 r5 l5 x5 w=>q α5 σ5 v H5 r5 (l5.trans (l3.trans li)) (xi.trans (x3.trans x5)) w
   | rf d s5=>cases ei;exact fun α5 σ5 a vs H5 r5 l5 x5 w y=>q α5 σ5 a vs H5 r5 (l5.trans (l3.trans li)) (xi.trans (x3.trans x5)) w y
   | rp xs d s5=>cases ei;exact fun α5 σ5 a t vs w H5 r5 l5 x5=>q α5 σ5 a t vs w H5 r5 (l5.trans (l3.trans li)) (xi.trans (x3.trans x5))
  ·rename_i ct
   rw[if_neg ct]
   cases ei
   exact q α3 σ2 H3 r3 (l3.trans li) (xi.trans x3)
end
def xD (K:PySem.W.Frag) (m:ME):TE:=fun σ H Q=>∃ f:Fr,f.K=K/\tD f m σ H Q
def xT (K:PySem.W.Frag) (m:MT):TT:=fun σ H Q=>∃ f:Fr,f.K=K/\tDT f m σ H Q
def xG (K:PySem.W.Frag) (m:MG):TG:=fun v σ H Q=>∃ f:Fr,f.K=K/\tDG f m v σ H Q
theorem DE.x {X:Cx} {e:Expr} {m:ME} (h:DE X e m):PE X e (xD X.K m):=fun pins s σ H Q I ⟨f,hf,q⟩=>h f hf pins s σ H Q I q
theorem DG.x {X:Cx} {e:Expr} {m:MG} (h:DG X e m):PG X e (xG X.K m):=fun pins s σ H v u Q I r ⟨f,hf,q⟩=>h f hf pins s σ H v u Q I r q
structure DTs (X:Cx) (tests:List Expr) (m:MT):Prop where
 h:∀ f:Fr,f.K=X.K->PTs X tests (tDT f m)
instance {X:Cx} {tests:List Expr} {m:MT}:CoeFun (DTs X tests m) fun _=>∀ f:Fr,f.K=X.K->PTs X tests (tDT f m):=⟨DTs.h⟩
theorem DTs.x {X:Cx} {e:List Expr} {m:MT} (h:DTs X e m):PTs X e (xT X.K m):=fun pins s σ H Q I ⟨f,hf,q⟩=>h f hf pins s σ H Q I q
@[simp] def mTT:MT:=fun s=>some (true,s)
theorem Bp {X:Cx}:DTs X [] mTT:=.mk fun f hf pins s σ H Q I hh_=>by
 obtain ⟨α,s',r,rs,lo,e,q⟩:=hh_
 cases e
 exact Of pins s σ H Q I (q α H rs rfl .refl)
theorem Cp {X:Cx} {c:Expr} {m:MT} (h:DT X c m):DTs X [c] m:=.mk fun f hf=>N8 (h f hf)
def Aq (g:MG) (t:MT) (e:ME):List D->List (Option SV)->Gm->Option (List D×Gm)
 | [],_,Γ=>some ([],Γ)
 | d::r,τ,Γ=>(g d ⟨τ,Γ,Γ.length⟩).bind fun s1=>(t s1).bind fun b=>
  if b.1=true then (e b.2).bind fun x=>match x.1 with
   | .v y=>if x.2.Γ.length=Γ.length then (Aq g t e r x.2.σ x.2.Γ).map fun q=>(y::q.1,q.2) else none
   | _=>none
  else if b.2.Γ.length=Γ.length then Aq g t e r b.2.σ b.2.Γ else none
@[simp] def Dj (nt:Nat) (ix:List Nat) (σ:List (Option SV)):List (Option SV):=List.replicate nt none++ix.map fun k=>(σ[k]?).join
@[simp] def AN (mi:MF) (nt:Nat) (ix:List Nat) (g:MG) (t:MT) (e:ME):MF:=fun s=>(mi s).bind fun r=>
 if r.1.length<=big then (Aq g t e r.1 (Dj nt ix r.2.σ) r.2.Γ).map fun q=>(q.1,{r.2 with Γ:=q.2}) else none
section
variable {f:Fr} {α α':Nat->Addr} {s s':DS} {σ σ':St} {H H' Hh H1:Hp} {X:Cx} {pos:Pos}
theorem take_all {Γ:Gm} {n:Nat} (h:Γ.length=n):Γ.take n=Γ:=by rw[<-h];exact List.take_length
theorem Jv (rs:RS f α s σ H) (nt:Nat) (ix:List Nat):(Dj nt ix s.σ).length=(cSt nt ix σ).length/\∀ (i:Nat) (d:SV),(Dj nt ix s.σ)[i]?=some (some d)->∃ v,(cSt nt ix σ)[i]?=some (some v)/\RepV f α s.Γ H d v:=by
 unfold Dj cSt
 refine ⟨by simp,fun i d h=>?_⟩
 by_cases c:i<nt
 ·rw[List.getElem?_append_left (by simpa using c)] at h
  simp[c] at h
 ·rw[List.getElem?_append_right (by simpa using c)] at h ⊢
  simp only[List.length_replicate,List.getElem?_map] at h ⊢
  cases e:ix[i - nt]? with
  | none=>rw[e] at h;cases h
  | some k=>
   rw[e] at h
   simp only[Option.map_some] at h ⊢
   have hk:s.σ[k]?=some (some d):=by
    cases hz:s.σ[k]? with
    | none=>rw[hz] at h;cases h
    | some o=>rw[hz] at h;exact congrArg some (Option.some.inj h)
   obtain ⟨v,h1,h2⟩:=rs.slot k d hk
   exact ⟨v,by rw[h1];rfl,h2⟩
inductive CI (f:Fr) (α1:Nat->Addr) (s1:DS) (σ:St) (H1:Hp) (g:MG) (t:MT) (e:ME) (items ys:List D) (Γ':Gm) (l:Addr) (i:Nat) (τ':St) (Hi:Hp):Prop
 | mk (αi:Nat->Addr) (Γi:Gm) (τ:List (Option SV)) (H2:Hp) (acc:List D) (vs:List V) (rest:List D):Hi=upd H2 l (.lst vs)->H2 l=none->RS f αi {s1 with Γ:=Γi} σ H2->Ext f α1 αi s1.Γ Γi H1 H2->Γi.length=s1.Γ.length->Reps (wd f αi Γi H2) acc vs->acc.length<=i ->
   τ.length=τ'.length->(∀ (j:Nat) (d:SV),τ[j]?=some (some d)->∃ v,τ'[j]?=some (some v)/\RepV f αi Γi H2 d v)->Aq g t e (items.drop i) τ Γi=some (rest,Γ')->ys=acc++rest->CI f α1 s1 σ H1 g t e items ys Γ' l i τ' Hi
theorem Lf {mi:MF} {nt:Nat} {ix:List Nat} {g:MG} {t:MT} {e:ME} {Q:VK} (h:tDF f (AN mi nt ix g t e) σ H Q):II (tDI f mi) nt ix (xG f.K g) (xT f.K t) (xD f.K e) σ H Q:=by
 obtain ⟨α,s,r,rs,lo,e0,q⟩:=h
 obtain ⟨⟨items,s1⟩,h1,e0⟩:=bind_some e0
 split at e0
 case isFalse=>cases e0
 rename_i hbig
 obtain ⟨⟨ys,Γ'⟩,h2,rfl⟩:=AZ e0
 refine ⟨α,s,_,rs,lo,h1,fun J α1 H1 rs1 l1 x1 it l hl=>?_⟩
 refine Oy items.length (fun i τ' Hi=>CI f α1 s1 σ H1 g t e items ys Γ' l i τ' Hi) ?_ ?_ ?_ ?_ ?_
 ·exact ⟨α1,s1.Γ,Dj nt ix s1.σ,H1,[],[],ys,rfl,hl,rs1,.refl,rfl,.nil,Nat.le_refl _,(Jv rs1 nt ix).1,(Jv rs1 nt ix).2,h2,rfl⟩
 ·rintro i τ' Hi hi ⟨αi,Γi,τ,H2,acc,vs,rest,rfl,hl2,ri,xi,lenΓ,hacc,hai,hτl,hτ,hgo,hys⟩
  exact it.go i αi _ σ H2 _ hi ri xi fun a o h=>by rw[AR (BU h hl2)];exact h
 ·rintro τ' Hi ⟨αi,Γi,τ,H2,acc,vs,rest,rfl,hl2,ri,xi,lenΓ,hacc,hai,hτl,hτ,hgo,hys⟩
  exact it.stop αi _ σ H2 _ ri xi fun a o h=>by rw[AR (BU h hl2)];exact h
 ·rintro i x τ' Hi H3 hi ⟨αi,Γi,τ,H2,acc,vs,rest,rfl,hl2,ri,xi,lenΓ,hacc,hai,hτl,hτ,hgo,hys⟩ y
  have hd:items[i]?=some items[i]:=List.getElem?_eq_getElem hi
  rw[List.drop_eq_getElem_cons hi] at hgo
  obtain ⟨s2,g2,hgo⟩:=bind_some hgo
  obtain ⟨b,t2,hgo⟩:=bind_some hgo
  have fin:∀ {H2':Hp},H2' l=none->RS f αi {s1 with Γ:=Γi} σ H2'->Ext f αi αi Γi Γi H2 H2'->Rep (wd f αi Γi H2') items[i] x ->
    xG f.K g x τ' (upd H2' l (.lst vs)) fun σ2 H2=>xT f.K t σ2 H2 fun b H3=>if b=true then xD f.K e σ2 H3 fun v H4=>∃ xs,H4 l=some (.lst xs)/\xs.length<sizeLine/\CI f α1 s1 σ H1 g t e items ys Γ' l (i+1) σ2 (upd H4 l (.lst (xs++[v]))) else CI f α1 s1 σ H1 g t e items ys Γ' l (i+1) σ2 H3:=fun {H2'} hl2' ri' x2' hr=>by
   have ov:Over (fun a=>a=l) H2' (upd H2' l (.lst vs)):=⟨fun a h=>AR h,fun a h=>by rw[h];exact hl2',fun a h=>by rw[h,BA];exact fun z=>nomatch z⟩
   have en:=ri'.enter ov hτl fun j d h=>let ⟨v,a,b⟩:=hτ j d h;⟨v,a,b.ext x2'⟩
   have back:∀ {s5:DS} {α5:Nat->Addr} {σ5:St} {H5:Hp},RS (inn f αi Γi (fun a=>a=l) (upd H2' l (.lst vs)) (BS ri' ov)) α5 s5 σ5 H5->s5.lo=Γi.length->Ext (inn f αi Γi (fun a=>a=l) (upd H2' l (.lst vs)) (BS ri' ov)) αi α5 Γi s5.Γ (upd H2' l (.lst vs)) H5->s5.Γ.length=Γi.length ->
     H5 l=some (.lst vs)/\RS f α5 {s1 with Γ:=s5.Γ} σ (del H5 l)/\Ext f α1 α5 s1.Γ s5.Γ H1 (del H5 l)/\Reps (wd f α5 s5.Γ (del H5 l)) acc vs/\(∀ (j:Nat) (d:SV),s5.σ[j]?=some (some d)->∃ v,σ5[j]?=some (some v)/\RepV f α5 s5.Γ (del H5 l) d v) /\
     ∀ d v,Rep (wd (inn f αi Γi (fun a=>a=l) (upd H2' l (.lst vs)) (BS ri' ov)) α5 s5.Γ H5) d v->Rep (wd f α5 s5.Γ (del H5 l)) d v:=fun {s5 α5 σ5 H5} r5 l5 x5 len5=>by
    obtain ⟨lv1,lv2,lv3⟩:=ri'.leave ov r5 l5 x5 (H1:=del H5 l) fun a h=>Dh h
    have tk:s5.Γ.take Γi.length=s5.Γ:=take_all len5
    simp only at lv1 lv2 lv3
    rw[tk] at lv1 lv2 lv3
    refine ⟨r5.fr l _ BA fun ⟨n,xs,e1,e2⟩=>?_,lv1,(xi.trans x2').trans lv2,(hacc.kw x2'.kw).kw lv2.kw,fun j d h=>?_,fun d v h=>h.kw lv3⟩
    ·obtain ⟨us,z,_⟩:=ri'.box n xs e1
     rw[e2,hl2'] at z
     cases z
    ·obtain ⟨v,a,b⟩:=r5.slot j d h
     refine ⟨v,a,?_⟩
     cases d with
     | v d=>exact Rep.kw lv3 (show Rep _ d v from b)
     | b n=>exact b
     | p n d=>
      obtain ⟨h0,a',w,h1,h2,h3,h4⟩:=b
      obtain ⟨k1,k2⟩:=lv3.keep a' _ h2 h3
      exact ⟨h0,a',w,h1,k2,k1,h4.kw lv3⟩
   refine ⟨(inn f αi Γi (fun a=>a=l) (upd H2' l (.lst vs)) (BS ri' ov)),rfl,αi,_,_,s2,en,Nat.le_refl _,Rep.kw (Ej ri' ov) hr,g2,fun σ2 r2 l2 G2=>?_⟩
   refine ⟨(inn f αi Γi (fun a=>a=l) (upd H2' l (.lst vs)) (BS ri' ov)),rfl,αi,s2,b,r2,by rw[l2,G2];exact Nat.le_refl _,t2,fun α3 H3 r3 l3 x3=>?_⟩
   have x3':Ext (inn f αi Γi (fun a=>a=l) (upd H2' l (.lst vs)) (BS ri' ov)) αi α3 Γi b.2.Γ (upd H2' l (.lst vs)) H3:=by
    have z:=x3
    rw[G2] at z
    exact z
   split at hgo
   ·rename_i cb
    dsimp only
    rw[if_pos cb]
    obtain ⟨⟨xv,s4⟩,e4,hgo⟩:=bind_some hgo
    refine ⟨(inn f αi Γi (fun a=>a=l) (upd H2' l (.lst vs)) (BS ri' ov)),rfl,α3,b.2,_,r3,by rw[l3,l2];exact x3'.m,e4,fun α4 v H4 r4 l4 x4 hv=>?_⟩
    cases xv with
    | b n=>cases hgo
    | p n d=>cases hgo
    | v yv=>
     simp only at hgo
     split at hgo
     case isFalse=>cases hgo
     rename_i len4
     obtain ⟨⟨rest2,_⟩,h5,e5⟩:=AZ hgo
     cases e5
     obtain ⟨b1,b2,b3,b4,b5,b6⟩:=back r4 (l4.trans (l3.trans l2)) (x3'.trans x4) len4
     refine ⟨vs,b1,Nat.lt_of_le_of_lt (by rw[hacc.len];exact Nat.le_of_lt (Nat.lt_of_le_of_lt hai hi)) (Sl hbig),α4,s4.Γ,s4.σ,del H4 l,acc++[yv],vs++[v],rest2,?_,Hs,b2,b3,len4.trans lenΓ,b4.append (.cons (b6 _ _ hv) .nil),by rw[List.length_append];simpa using hai,r4.len,b5,h5,by rw[hys];simp⟩
     funext a
     by_cases z:a=l
     ·rw[z,BA,BA]
     ·rw[AR z,AR z,Dh z]
   ·rename_i cb
    dsimp only
    rw[if_neg cb]
    split at hgo
    case isFalse=>cases hgo
    rename_i len4
    obtain ⟨b1,b2,b3,b4,b5,b6⟩:=back r3 (l3.trans l2) x3' len4
    exact ⟨α3,b.2.Γ,b.2.σ,del H3 l,acc,vs,rest,(Kl b1).symm,Hs,b2,b3,len4.trans lenΓ,b4,Nat.le_succ_of_le hai,r3.len,b5,hgo,hys⟩
  rcases it.yl i _ x αi _ σ H2 _ H3 hd ri xi (fun a o h=>by rw[AR (BU h hl2)];exact h) y with ⟨rfl,hr⟩ | ⟨T,u,hT,rfl,hr⟩
  ·exact fin hl2 ri .refl hr
  ·have lT:l≠T:=fun z=>by rw[<-z,BA] at hT;cases hT
   have hT2:H2 T=none:=by rw[AR (Ne.symm lT)] at hT;exact hT
   have z:=fin (H2':=upd H2 T u) (by rw[AR lT];exact hl2) (ri.new hT2) (.new ri hT2) hr
   have e2:upd (upd H2 l (.lst vs)) T u=upd (upd H2 T u) l (.lst vs):=by
    funext a
    by_cases z1:a=T
    ·rw[z1,BA,AR (Ne.symm lT),BA]
    ·by_cases z2:a=l
     ·rw[z2,AR lT,BA,BA]
     ·rw[AR z1,AR z2,AR z2,AR z1]
   rw[e2]
   exact z
 ·rintro τ' Hi ⟨αi,Γi,τ,H2,acc,vs,rest,rfl,hl2,ri,xi,lenΓ,hacc,hai,hτl,hτ,hgo,hys⟩
  rw[List.drop_length] at hgo
  cases hgo
  rw[List.append_nil] at hys
  subst hys
  exact q αi l vs H2 ri l1 (x1.trans xi) hl2 hacc
theorem Bb {elt tg src:Expr} {tests:List Expr} {sc esc:Scope} {cp:Pos} {N tn fn:List Str} {ix:List Nat} {mi:MF} {g:MG} {t:MT} {e:ME} (hc:X.calm=true) (hsc:X.env.scope=esc) (hN:X.N=N) (ok:CompOk sc esc N fn ix) (hi:DI X tg src mi)
  (hg:∀ s2 H2 cl C fp,DG (B0 X (tn++fn) sc s2 H2 cl C fp) tg g)
  (ht:∀ s2 H2 cl C fp,DTs (B0 X (tn++fn) sc s2 H2 cl C fp) tests t)
  (he:∀ s2 H2 cl C fp,DE (B0 X (tn++fn) sc s2 H2 cl C fp) elt e)
  (hs:∀ x,foldedSetIterable src X.env x=pure x:=by intro _;rfl):DF X (.ListComp elt [⟨tg,src,tests,0⟩] sc cp) (AN mi tn.length ix g t e):=.mk fun f hf=>
 PE.imp (ND (g:=xG X.K g) (tc:=xT X.K t) (te:=xD X.K e) hc hsc hN ok (hi f hf) (fun s2 H2 cl C fp=>(hg s2 H2 cl C fp).x) (fun s2 H2 cl C fp=>(ht s2 H2 cl C fp).x) (fun s2 H2 cl C fp=>(he s2 H2 cl C fp).x) hs) fun σ H Q h=>by
  rw[<-hf]
  exact Lf h
theorem FB {i:Nat} {y:Str} {py sp:Pos} {elt tg src:Expr} {tests:List Expr} {sc esc:Scope} {cp:Pos} {N tn fn:List Str} {ix:List Nat} {mi:MF} {g:MG} {t:MT} {e:ME} (hnd:X.N.Nodup) (hiy:X.N[i]?=some y) (hy:X.env.scope.names.lookup y=some .local) (hc:X.calm=true) (hsc:X.env.scope=esc) (hN:X.N=N) (ok:CompOk sc esc N fn ix) (hi:DI X tg src mi)
  (hg:∀ s2 H2 cl C fp,DG (B0 X (tn++fn) sc s2 H2 cl C fp) tg g)
  (ht:∀ s2 H2 cl C fp,DTs (B0 X (tn++fn) sc s2 H2 cl C fp) tests t)
  (he:∀ s2 H2 cl C fp,DE (B0 X (tn++fn) sc s2 H2 cl C fp) elt e)
  (hsw:swapsWith (.ListComp elt [⟨tg,src,tests,0⟩] sc cp) (some (.Name y py)) sp.line X.env=pure true:=by rfl)
  (hs:∀ x,foldedSetIterable src X.env x=pure x:=by intro _;rfl):DSt X (.Assign [.Name y py] (.ListComp elt [⟨tg,src,tests,0⟩] sc cp) sp) (AM i (AE (AN mi tn.length ix g t e))):=.mk fun f hf=>
 PS.imp (OV (g:=xG X.K g) (tc:=xT X.K t) (te:=xD X.K e) hnd hiy hy hc hsc hN ok (hi f hf) (fun s2 H2 cl C fp=>(hg s2 H2 cl C fp).x) (fun s2 H2 cl C fp=>(ht s2 H2 cl C fp).x) (fun s2 H2 cl C fp=>(he s2 H2 cl C fp).x) hsw hs) fun E σ H hh_=>by
  obtain ⟨α,s,o,rs,lo,e0,q⟩:=hh_
  rw[<-hf]
  obtain ⟨r,h1,rfl⟩:=AZ e0
  obtain ⟨r2,h2,rfl⟩:=AZ h1
  exact Lf ⟨α,s,r2,rs,lo,h2,fun α' a vs H' rs' l' x ha hx=>q α' _ _ ((rs'.new ha).set (d:=.v (.lst r2.1)) (EE rs' ha hx)) l' (x.trans (.new rs' ha))⟩
end
abbrev MD:=List SV->Gm->Option (D×Gm)
abbrev MDF:=List SV->Gm->Option (List D×Gm)
def spD (K:PySem.W.Frag) (np:Nat) (M:MD):Sp:=fun vs H Q _=>∃ (f:Fr) (α:Nat->Addr) (s:DS) (σ:St) (ds:List SV) (r:D×Gm),f.K=K/\ds.length=np/\RS f α s σ H/\RepVs f α s.Γ H ds vs/\M ds s.Γ=some r /\
 ∀ α' v H',RS f α' {s with Γ:=r.2} σ H'->Ext f α α' s.Γ r.2 H H'->Rep (wd f α' r.2 H') r.1 v->Q v H'
def spF (K:PySem.W.Frag) (np:Nat) (M:MDF):Sp:=fun vs H Q _=>∃ (f:Fr) (α:Nat->Addr) (s:DS) (σ:St) (ds:List SV) (r:List D×Gm),f.K=K/\ds.length=np/\RS f α s σ H/\RepVs f α s.Γ H ds vs/\M ds s.Γ=some r /\
 ∀ α' a vs H',RS f α' {s with Γ:=r.2} σ H'->Ext f α α' s.Γ r.2 H H'->H' a=none->Reps (wd f α' r.2 H') r.1 vs->Q (.ref a) (upd H' a (.lst vs))
@[simp] def Da (n:Nat) (ds:List SV):List (Option SV):=ds.map some++List.replicate (n - ds.length) none
@[simp] def mFn (n:Nat) (m:MS):MD:=fun ds Γ=>(m ⟨Da n ds,Γ,Γ.length⟩).bind fun o=>match o with
 | .rt d s=>some (d,s.Γ.take Γ.length)
 | .rf xs s=>some (.lst xs,s.Γ.take Γ.length)
 | .rp xs d s=>some (.tup [.lst xs,d],s.Γ.take Γ.length)
 | .nx s=>some (.non,s.Γ.take Γ.length)
 | .bk _=>none
 | .ct _=>none
@[simp] def BW (n:Nat) (m:MS):MDF:=fun ds Γ=>(m ⟨Da n ds,Γ,Γ.length⟩).bind fun o=>match o with
 | .rf xs s=>some (xs,s.Γ.take Γ.length)
 | _=>none
section
variable {P:Program} {w:World} {K:PySem.W.Frag} {mg:Str->Option Value} {base:Heap} {f:Fr} {α α':Nat->Addr} {s s':DS} {σ σ':St} {H H':Hp} {X:Cx} {pos:Pos}
theorem Oh {ds:List SV} {vs:List V}:RepVs f α s.Γ H ds vs->∀ (i:Nat) (d:SV),(ds.map some)[i]?=some (some d)->∃ v,(vs.map some)[i]?=some (some v)/\RepV f α s.Γ H d v:=by
 induction ds generalizing vs with
 | nil=>intro _ i d h;cases h
 | cons c ds ih=>
  intro h i d hi
  obtain ⟨v,r,rfl,h1,h2⟩:=h.cons_inv
  cases i with
  | zero=>cases hi;exact ⟨v,rfl,h1⟩
  | succ i=>exact ih h2 i d hi
theorem CG:Over (fun _=>False) H H:=⟨fun _ _=>rfl,fun _ h=>h.elim,fun _ h=>h.elim⟩
theorem IT {N:List Str} {ds:List SV} {vs:List V} (rs:RS f α s σ H) (h:RepVs f α s.Γ H ds vs):RS (inn f α s.Γ (fun _=>False) H (BS rs CG)) α ⟨Da N.length ds,s.Γ,s.Γ.length⟩ (L2.start N vs) H:=by
 have hl:=h.len
 refine rs.enter CG (by unfold Da L2.start;simp[hl]) fun i d e=>?_
 unfold Da at e
 unfold L2.start
 by_cases c:i<ds.length
 ·rw[List.getElem?_append_left (by simpa using c)] at e
  rw[List.getElem?_append_left (by rw[List.length_map,hl];exact c)]
  exact Oh h i d e
 ·rw[List.getElem?_append_right (by simpa using c)] at e
  rw[List.getElem?_replicate] at e
  split at e<;>cases e
theorem Br {x qual:Str} {st:Stmt} {fa:Addr} {fd:FuncData} {N ps:List Str} {k:Nat} {m:MS} (F:Fun K x qual st fa fd) (S:FnScope N ps (AU st))
  (hb:∀ (cdv:Value) (A:Around) (outer:List Env) (s:Shared) (H:Hp) (E:XK),Room k (A.deeper (PyProof.Rows.envOfC qual (AU st) s.heap.objs.size fa cdv))->DSs (Cc CX0 P w K mg base N qual (AU st) fa cdv A outer s H E).nox (CM st) m) :
  FnOk P w K mg base CX0 (k+1) fa fd ps (spD K ps.length (mFn N.length m)):=by
 refine F.ok S (fun vs H Q E h=>?_) (fun cdv A outer sh H vs Q E hr h=>?_)
 ·obtain ⟨f,α,s,σ,ds,r,_,hl,_,hv,_⟩:=h
  rw[hv.len,hl]
 obtain ⟨f,α,s,σ,ds,r,hK,hl,rs,hv,hM,q⟩:=h
 obtain ⟨o,h1,h2⟩:=bind_some hM
 refine ⟨_,hb cdv A outer sh H E hr (inn f α s.Γ (fun _=>False) H (BS rs CG)) hK,α,_,o,IT rs hv,Nat.le_refl _,h1,?_⟩
 cases o with
 | bk s'=>cases h2
 | ct s'=>cases h2
 | nx s'=>
  cases h2
  intro α' σ' H' r' l' x'
  obtain ⟨a1,a2,a3⟩:=rs.leave CG r' l' x' (H1:=H') fun _ _=>rfl
  exact q α' .non H' a1 a2 (by unfold Rep;rfl)
 | rt d s'=>
  cases h2
  intro α' σ' v H' r' l' x' hw
  obtain ⟨a1,a2,a3⟩:=rs.leave CG r' l' x' (H1:=H') fun _ _=>rfl
  exact q α' v H' a1 a2 (hw.kw a3)
 | rf xs s'=>
  cases h2
  intro α' σ' a vs' H' r' l' x' ha hx
  obtain ⟨a1,a2,a3⟩:=rs.leave CG r' l' x' (H1:=H') fun _ _=>rfl
  exact q α' _ _ (a1.new ha) (a2.trans (.new a1 ha)) (EE a1 ha (hx.kw a3))
 | rp xs d s'=>
  cases h2
  intro α' σ' a t vs' w H' r' l' x' ha hx hw ht hta
  obtain ⟨a1,a2,a3⟩:=rs.leave CG r' l' x' (H1:=H') fun _ _=>rfl
  have ht':(upd H' a (.lst vs')) t=none:=by rw[AR hta];exact ht
  have r1:=a1.new (o:=.lst vs') ha
  have e1:=Ext.new (o:=.lst vs') a1 ha
  exact q α' _ _ (r1.new ht') ((a2.trans e1).trans (.new r1 ht')) (IH r1 ht' (.cons (EE a1 ha (hx.kw a3)) (.cons ((hw.kw a3).kw e1.kw) .nil)))
theorem E9 {x qual:Str} {st:Stmt} {fa:Addr} {fd:FuncData} {N ps:List Str} {k:Nat} {m:MS} (F:Fun K x qual st fa fd) (S:FnScope N ps (AU st))
  (hb:∀ (cdv:Value) (A:Around) (outer:List Env) (s:Shared) (H:Hp) (E:XK),Room k (A.deeper (PyProof.Rows.envOfC qual (AU st) s.heap.objs.size fa cdv))->DSs (Cc CX0 P w K mg base N qual (AU st) fa cdv A outer s H E).nox (CM st) m) :
  FnOk P w K mg base CX0 (k+1) fa fd ps (spF K ps.length (BW N.length m)):=by
 refine F.ok S (fun vs H Q E h=>?_) (fun cdv A outer sh H vs Q E hr h=>?_)
 ·obtain ⟨f,α,s,σ,ds,r,_,hl,_,hv,_⟩:=h
  rw[hv.len,hl]
 obtain ⟨f,α,s,σ,ds,r,hK,hl,rs,hv,hM,q⟩:=h
 obtain ⟨o,h1,h2⟩:=bind_some hM
 refine ⟨_,hb cdv A outer sh H E hr (inn f α s.Γ (fun _=>False) H (BS rs CG)) hK,α,_,o,IT rs hv,Nat.le_refl _,h1,?_⟩
 cases o with
 | bk s'=>cases h2
 | ct s'=>cases h2
 | nx s'=>cases h2
 | rt d s'=>cases h2
 | rp xs d s'=>cases h2
 | rf xs s'=>
  cases h2
  intro α' σ' a vs' H' r' l' x' ha hx
  obtain ⟨a1,a2,a3⟩:=rs.leave CG r' l' x' (H1:=H') fun _ _=>rfl
  exact q α' _ _ _ a1 a2 ha (hx.kw a3)
@[simp] def AJ (M:MD) (ms:MA):ME:=fun s=>(ms s).bind fun x=>(M x.1 x.2.Γ).map fun r=>(.v r.1,{x.2 with Γ:=r.2})
@[simp] def Bk (M:MDF) (ms:MA):MF:=fun s=>(ms s).bind fun x=>(M x.1 x.2.Γ).map fun r=>(r.1,{x.2 with Γ:=r.2})
def Ar (ms:MA) (n:Nat):Prop:=∀ s r,ms s=some r->r.1.length=n
theorem Ai:Ar AC 0:=fun s r e=>by cases e;rfl
theorem Ab {m:ME} {ms:MA} {n:Nat} (h:Ar ms n):Ar (AB m ms) (n+1):=fun s r e=>by
 obtain ⟨x,h1,e⟩:=bind_some e
 obtain ⟨y,h2,rfl⟩:=AZ e
 show (x.1::y.1).length=n+1
 rw[List.length_cons,h _ _ h2]
theorem BC {x:Str} {p:Pos} {e:Expr} {es:List Expr} {fa:Addr} {fd:FuncData} {ps:List Str} {k np:Nat} {M:MD} {ms:MA} (F:FnOk X.prog X.w X.K X.mg X.base CX0 k fa fd ps (spD X.K np M)) (hr:Room k X.A) (hg:Gl X x) (hm:X.mg x=some (.ref fa)) (hk:PySem.W.keepIn X.K (.ref fa)=true) (hb:Binds X.K fd ps [])
  (ha:DA X (e::es) ms) (hn:Ar ms np) (hdb:(x == ("__debug__":Str))=false:=by decide) (he:starEach (e::es) X.env=(false,eval e X.env)::starEach es X.env:=by rfl) (hpl:(backTo pos (starEach es X.env)).any (·.1)=false:=by rfl) :
  DE X (.Call (.Name x p) (e::es) [] pos) (AJ M ms):=.mk fun f hf=>PE.imp (E6 F hr hg hm hk hb .nil FO (ha f hf) hdb he hpl) fun σ H Q hh_=>by
 obtain ⟨α,s,r,rs,lo,e0,q⟩:=hh_
 obtain ⟨y,h1,e0⟩:=bind_some e0
 obtain ⟨z,h2,rfl⟩:=AZ e0
 refine ⟨α,s,y,rs,lo,h1,fun α1 vs H1 rs1 l1 x1 hv=>?_⟩
 dsimp only
 rw[List.append_nil]
 exact ⟨f,α1,y.2,σ,y.1,z,hf,hn _ _ h1,rs1,hv,h2,fun α2 v H2 rs2 x2 hw=>q α2 v H2 rs2 l1 (x1.trans x2) hw⟩
theorem E1 {x:Str} {p:Pos} {e:Expr} {es:List Expr} {fa:Addr} {fd:FuncData} {ps:List Str} {k np:Nat} {M:MDF} {ms:MA} (F:FnOk X.prog X.w X.K X.mg X.base CX0 k fa fd ps (spF X.K np M)) (hr:Room k X.A) (hg:Gl X x) (hm:X.mg x=some (.ref fa)) (hk:PySem.W.keepIn X.K (.ref fa)=true) (hb:Binds X.K fd ps [])
  (ha:DA X (e::es) ms) (hn:Ar ms np) (hdb:(x == ("__debug__":Str))=false:=by decide) (he:starEach (e::es) X.env=(false,eval e X.env)::starEach es X.env:=by rfl) (hpl:(backTo pos (starEach es X.env)).any (·.1)=false:=by rfl) :
  DF X (.Call (.Name x p) (e::es) [] pos) (Bk M ms):=.mk fun f hf=>PE.imp (E6 F hr hg hm hk hb .nil FO (ha f hf) hdb he hpl) fun σ H Q hh_=>by
 obtain ⟨α,s,r,rs,lo,e0,q⟩:=hh_
 obtain ⟨y,h1,e0⟩:=bind_some e0
 obtain ⟨z,h2,rfl⟩:=AZ e0
 refine ⟨α,s,y,rs,lo,h1,fun α1 vs H1 rs1 l1 x1 hv=>?_⟩
 dsimp only
 rw[List.append_nil]
 exact ⟨f,α1,y.2,σ,y.1,z,hf,hn _ _ h1,rs1,hv,h2,fun α2 a us H2 rs2 x2 ha hx=>q α2 a us H2 rs2 l1 (x1.trans x2) ha hx⟩
end
end DL
namespace L2
open PySem PySem.Spec PyProof.Rows
section
variable {X:Cx}
def Mu (K:PySem.W.Frag):R2:=fun x y H Q=>∃ p q xs ys,x=.ref p/\y=.ref q/\SqL K H p xs/\SqL K H q ys/\(xs=[]\/ys=[])/\Q (.bl (!decide (xs=ys))) H
theorem Ss (hu:X.A.units<cLine):OpR X (compareOp .NotEq) (Mu X.K):=by
 intro pins s σ H x y v u Q I rx ry h
 obtain ⟨p,q,xs,ys,rfl,rfl,hp,hq,hor,k⟩:=h
 cases rx
 cases ry
 obtain ⟨i1,r1,l1,z1⟩:=I.list hp
 obtain ⟨i2,r2,l2,z2⟩:=I.list hq
 have e1:=r1.length
 have e2:=r2.length
 by_cases c:xs.length=ys.length
 ·have exy:xs=ys:=by
   rcases hor with z | z
   ·subst z;exact (List.eq_nil_of_length_eq_zero (by rw[<-c];rfl)).symm
   ·subst z;exact List.eq_nil_of_length_eq_zero (by rw[c];rfl)
  have x0:xs.length=0:=by
   rcases hor with z | z
   ·rw[z];rfl
   ·rw[c,z];rfl
  rw[decide_eq_true exy] at k
  refine SeqAt.RcNeAt.lists (e:=fun _=>true) l1.isList l2.isList (by rw[List.size_toArray,List.size_toArray];lia) hu (fun j h1 _=>?_) X.prog X.w _ _ ?_
  ·rw[List.size_toArray] at h1;lia
  ·refine ⟨.bl false,H,I,?_,k⟩
   have:(List.range i1.toArray.size).all (fun _=>true)=true:=List.all_eq_true.mpr fun _ _=>rfl
   rw[this]
   rfl
 ·rw[decide_eq_false (fun z=>c (by rw[z]))] at k
  exact SeqAt.RcNeAt.lists_lengths l1.isList l2.isList (by rw[List.size_toArray,List.size_toArray];exact bne_iff_ne.mpr (by lia)) hu X.prog X.w _ _ ⟨.bl true,H,I,rfl,k⟩
end
end L2
namespace EvS
open PySem PyProof.Rows
theorem Jj:∀ ns:List Int,HT.lexLt ns ns=false
 | []=>rfl
 | n::ns=>by rw[HT.Cf,if_pos rfl,Jj ns]
theorem EZ:∀ {ns ms:List Int},HT.lexLt ns ms=true->HT.lexLt ms ns=false
 | [],[],h=>by cases h
 | [],_::_,_=>rfl
 | _::_,[],h=>by cases h
 | n::ns,m::ms,h=>by
  rw[HT.Cf] at *
  split at h
  ·rename_i e
   rw[if_pos e.symm]
   exact EZ h
  ·rename_i e
   rw[if_neg (fun z=>e z.symm)]
   have:=of_decide_eq_true h
   exact decide_eq_false (by lia)
theorem G5:∀ {x y z:List Int},HT.lexLt y x=false->HT.lexLt z y=false->HT.lexLt z x=false
 | [],y,z,_,_=>by cases z<;>rfl
 | _::_,[],z,h,_=>by cases h
 | x::xs,y::ys,[],_,h=>by cases h
 | x::xs,y::ys,z::zs,h1,h2=>by
  rw[HT.Cf] at *
  split at h1
  ·rename_i e1
   subst e1
   split at h2
   ·rename_i e2
    rw[if_pos e2]
    exact G5 h1 h2
   ·rename_i e2
    rw[if_neg e2]
    exact h2
  ·rename_i e1
   have a1:=of_decide_eq_false h1
   split at h2
   ·rename_i e2
    subst e2
    rw[if_neg e1]
    exact h1
   ·rename_i e2
    have a2:=of_decide_eq_false h2
    rw[if_neg (by lia)]
    exact decide_eq_false (by lia)
theorem Fb:∀ {x y:List Int},HT.lexLt y x=false->HT.lexLt x y=false->x=y
 | [],[],_,_=>rfl
 | [],_::_,_,h=>by cases h
 | _::_,[],h,_=>by cases h
 | x::xs,y::ys,h1,h2=>by
  rw[HT.Cf] at *
  split at h1
  ·rename_i e
   subst e
   rw[if_pos rfl] at h2
   rw[Fb h1 h2]
  ·rename_i e
   rw[if_neg (fun z=>e z.symm)] at h2
   have:=of_decide_eq_false h1
   have:=of_decide_eq_false h2
   exact absurd (by lia:y=x) e
section
variable {prog:Program} {w:World} {A:Around} {E:Value->Shared->Prop} {s:Shared}
def CL (h:Heap) (ν:Value->List Int) (v:Value):Prop:=∃ a o xs n,v=.ref a/\h.get? a=some o/\o.cls=.type "tuple"/\o.data=.seq xs n/\IntsAre xs.toList (ν v)/\ν v≠[]
def Ft (ν:Value->List Int) (x y:Keyed):Bool:=HT.lexLt (ν x.1) (ν y.1)
theorem JY {b:Bool} {Q:Bool->Shared->Prop}:∀ {xs ys:List Value} {ns ms:List Int} {i:Nat} {fin:Bool},IntsAre xs ns->IntsAre ys ms->fin=decide (ns.length<ms.length)->Q (HT.lexLt ns ms) s->PySem.W.KatLex prog w A b fin Q (xs.zip ys) i s
 | _,_,_,_,_,_,.nil,.nil,hf,h=>by subst hf;exact PySem.W.kat_nil h
 | _,_,_,_,_,_,.nil,.cons c u hw,hf,h=>by subst hf;exact PySem.W.kat_nil h
 | _,_,_,_,_,_,.cons a t hv,.nil,hf,h=>by subst hf;exact PySem.W.kat_nil h
 | _,_,_,_,i,fin,.cons a t hv,.cons c u hw,hf,h=>by
  rw[List.zip_cons_cons]
  refine PySem.W.kat_cons (wpAny_eqBool_int ?_)
  by_cases e:a=c
  ·subst e
   rw[show (a == a)=true by simp]
   refine PySem.W.kat_yes (JY hv hw (by rw[hf];simp) ?_)
   rw[HT.Cf,if_pos rfl] at h
   exact h
  ·rw[show (a == c)=false by simpa using e]
   refine PySem.W.kat_no ?_
   have hq:=h
   rw[HT.Cf,if_neg e] at hq
   cases hb:(b && i == 0) with
   | false=>exact PySem.W.kat_one _ _ (lt_int hq)
   | true=>exact oneLt_int hq
theorem Oo {ν:Value->List Int}:Cmp prog w A E s (tuples' true) (fun x=>CL s.heap ν x.1) (Ft ν) where
 run:=fun {st x y Q} hk gx gy hq=>by
  obtain ⟨a,o,xs,n,e1,ho,hc,hd,hi,_⟩:=gx
  obtain ⟨a',o',xs',n',e1',ho',hc',hd',hi',_⟩:=gy
  unfold Ft at hq
  rw[lt'_eq]
  refine wpS_bind (wpS_get ?_)
  rw[hk,e1,e1']
  refine wpS_bind (wpS_lift (wpAny_attempt (PySem.W.kat_lt ho hd ho' hd' ?_)))
  exact JY hi hi' (by rw[<-hi.length,<-hi'.length];simp) ⟨rfl,wpS_pure hq⟩
theorem Ti {h:Heap} {ν:Value->List Int}:Ord (fun x=>CL h ν x.1) (Ft ν) where
 tr:=fun {x y z} _ _ _ h1 h2=>G5 h1 h2
 tot:=fun {x y} _ _ h=>EZ h
theorem JI {h:Heap} {ν:Value->List Int}:∀ {vs:List Value},(∀ v∈vs,CL h ν v)->∃ fs,PySem.W.KatTups h vs fs/\fs.length=vs.length/\∀ v∈fs,∃ n t,v=Value.int n t
 | [],_=>⟨[],.nil,rfl,fun _ h=>nomatch h⟩
 | v::vs,hg=>by
  obtain ⟨fs,h1,h2,h3⟩:=JI (vs:=vs) fun u hu=>hg u (List.mem_cons_of_mem _ hu)
  obtain ⟨a,o,xs,n,rfl,ho,hc,hd,hi,hne⟩:=hg v List.mem_cons_self
  cases hx:xs.toList with
  | nil=>
   rw[hx] at hi
   cases hq:ν (.ref a) with
   | nil=>exact absurd hq hne
   | cons m ms=>rw[hq] at hi;cases hi
  | cons y ys=>
   rw[hx] at hi
   cases hq:ν (.ref a) with
   | nil=>exact absurd hq hne
   | cons m ms=>
    rw[hq] at hi
    cases hi with
    | cons _ t hi'=>
     have h0:xs[0]?=some (Value.int m t):=by
      have:xs.toList[0]?=some (Value.int m t):=by rw[hx];rfl
      simpa using this
     exact ⟨.int m t::fs,.cons ho hc hd h0 h1,by simp[h2],fun u hu=>by
      rcases List.mem_cons.mp hu with rfl | hu
      ·exact ⟨m,t,rfl⟩
      ·exact h3 u hu⟩
theorem N7 {a:Addr} {vs:List Value} {n:Nat} {P:Fin->Shared->Prop} (ν:Value->List Int) (ho:s.heap.get? a=some (seqObj "list" vs.toArray n)) (hI:∀ v∈vs,CL s.heap ν v) (hz:vs.length<=sizeLine)
  (hP:∀ (out:Array Value),out.toList.Perm vs->out.toList.Pairwise (fun u v=>HT.lexLt (ν v) (ν u)=false)->P (.done (.ret .none)) {s with heap:=sortedHeap s.heap a vs out}):wpAny (model prog w) A (Builtin.«list.sort» ⟨[.ref a],[]⟩) P E s:=by
 rw[list_sort_plain]
 have la:a<s.heap.objs.size:=Heap.lt_size ho
 refine wpAny_bind (listItems_at ho rfl (wpAny_bind (listUpdate_at ho rfl ?_ (by rw[List.size_toArray];exact hz))))
 obtain ⟨c1,o1⟩:∃ c1,(s.heap.update a (Obj.mapSeq fun _=>#[])).get? a=some (seqObj "list" #[] c1):=⟨_,get?_update_seq ho (fun _=>#[])⟩
 refine wpAny_bind (seqEpoch_at o1 rfl (wpAny_bind (wpAny_newTuple (wpAny_bind (wpAny_newList (wpAny_holding ?_))))))
 have o6:(((s.heap.update a (Obj.mapSeq fun _=>#[])).push (seqObj "tuple" vs.toArray 0)).push (seqObj "list" #[] 0)).get? a=some (seqObj "list" #[] c1):=by
  rw[Heap.get?_push_ne _ _ _ (by rw[size_push',Heap.size_update];exact Nat.ne_of_lt (Nat.lt_succ_of_lt la)),Heap.get?_push_ne _ _ _ (by rw[Heap.size_update];exact Nat.ne_of_lt la)]
  exact o1
 show wpAny (model prog w) A _ P E {s with heap:=((s.heap.update a (Obj.mapSeq fun _=>#[])).push (seqObj "tuple" vs.toArray 0)).push (seqObj "list" #[] 0)}
 dsimp only
 have hI6:∀ v∈vs,CL (((s.heap.update a (Obj.mapSeq fun _=>#[])).push (seqObj "tuple" vs.toArray 0)).push (seqObj "list" #[] 0)) ν v:=fun v hv=>by
  obtain ⟨b,o,xs,n',rfl,hb,hc,hd,hi,hne⟩:=hI v hv
  have nb:b≠a:=fun z=>by
   rw[z,ho] at hb
   cases hb
   have hc':Value.type "list"=Value.type "tuple":=hc
   exact absurd hc' (by decide)
  refine ⟨b,o,xs,n',rfl,?_,hc,hd,hi,hne⟩
  refine Heap.get?_push_of_some _ (Heap.get?_push_of_some _ ?_)
  rw[Heap.get?_update_ne _ _ _ _ nb]
  exact hb
 have zs:vs.toArray.size=vs.length:=by simp
 have fin:∀ st':SortSt,(arrOf st').Perm (pairsOf vs)->(∀ i j:Nat,i<j->j<(arrOf st').size->HT.lexLt (ν (G (arrOf st') j).1) (ν (G (arrOf st') i).1)=false)->P (.done (.ret .none)) {s with heap:=sortedHeap s.heap a vs ((arrOf st').map (·.2))}:=fun st' hp hs=>by
  have hl:(arrOf st').toList.Perm (vs.zip vs):=by rw[<-pairsOf_toList];exact Array.perm_iff_toList_perm.mp hp
  have hmem:∀ p,p∈(arrOf st').toList->p.1=p.2/\p.1∈vs:=fun p hp'=>mem_zip_self (hl.mem_iff.mp hp')
  have e:((arrOf st').map (·.2)).toList=(arrOf st').toList.map (·.1):=by
   rw[Array.toList_map];exact List.map_congr_left fun p hp'=>(hmem p hp').1.symm
  refine hP _ ?_ ?_
  ·rw[e]
   have h1:=hl.map Prod.fst
   rwa [List.map_fst_zip (Nat.le_refl _)] at h1
  ·rw[e,List.pairwise_iff_getElem]
   intro i j hi hj hij
   rw[List.getElem_map,List.getElem_map]
   have hj':j<(arrOf st').size:=by simpa using hj
   have hi':i<(arrOf st').size:=by lia
   have q:=hs i j hij hj'
   have gi:G (arrOf st') i=(arrOf st')[i]:=by unfold G;rw[getElem?_pos _ i hi'];rfl
   have gj:G (arrOf st') j=(arrOf st')[j]:=by unfold G;rw[getElem?_pos _ j hj'];rfl
   rw[gi,gj] at q
   simpa using q
 by_cases h2:vs.toArray.size<2
 ·rw[if_pos h2,if_pos h2]
  refine wpAny_bind (wpAny_pure ?_)
  rw[StateT.run_pure]
  refine wpAny_bind (wpAny_pure ?_)
  dsimp only
  refine wpAny_bind (seqEpoch_at o6 rfl (wpAny_bind (listUpdate_at o6 rfl ?_ (hsz2:=by rw[Array.size_map];show (pairsOf vs).size<=_;rw[pairsOf_size];lia))))
  simp only[bne_self_eq_false,Bool.false_eq_true,if_false]
  refine wpAny_pure (fin (SortSt.mk' general' (vs.toArray.zip vs.toArray) #[] 7 none) (Array.Perm.refl _) fun i j hij hj=>?_)
  have hj':j<(pairsOf vs).size:=hj
  rw[pairsOf_size] at hj'
  lia
 ·rw[if_neg h2,if_neg h2]
  obtain ⟨fs,t1,t2,t3⟩:=JI hI6
  refine wpAny_bind (PySem.W.kat_kind (T:=Value.type "int") t1 (by lia) (fun v hv=>by obtain ⟨k,t,rfl⟩:=t3 v hv;exact .of_pure rfl) (by decide) ?_)
  have kd:tuples' ((Value.type "int") != Value.type "tuple")=tuples' true:=by congr 1
  rw[kd]
  refine wpAny_bind (wpAny_mono (Gs (a₀:=pairsOf vs) (st:=SortSt.mk' (tuples' true) (vs.toArray.zip vs.toArray) #[] 7 none)
   (Q:=fun _ st'=>SB (tuples' true) (pairsOf vs) st'/\Asc (Ft ν) (arrOf st') 0 (pairsOf vs).size)
   Oo Ti ⟨Array.Perm.refl _,rfl,rfl⟩ rfl (fun x hx=>by
    have hx':x∈vs.zip vs:=by rw[<-pairsOf_toList];exact hx
    exact hI6 _ (mem_zip_self hx').2) (by rw[pairsOf_size];lia) fun st' B as=>⟨B,as⟩) ?_ fun _ _ e=>e)
  rintro ⟨⟨⟩,st'⟩ s' ⟨rfl,B,as⟩
  dsimp only
  refine wpAny_bind (seqEpoch_at o6 rfl (wpAny_bind (listUpdate_at o6 rfl ?_ (hsz2:=by refine Nat.le_trans (Nat.le_of_eq ((Array.size_map ..).trans (B.perm.size_eq.trans (pairsOf_size _)))) ?_;lia))))
  rw[B.fail]
  simp only[bne_self_eq_false,Bool.false_eq_true,if_false]
  refine wpAny_pure (fin st' B.perm fun i j hij hj=>?_)
  exact as i j (Nat.zero_le _) (by lia) (by have z:(arrOf st').size=(pairsOf vs).size:=B.perm.size_eq;lia)
theorem Oq {l:Addr} {vs:List Value} {Q:Value->Shared->Prop} (ν:Value->List Int) (hl:s.heap.IsList l vs.toArray) (hI:∀ v∈vs,CL s.heap ν v) (hz:vs.length<=sizeLine)
  (h:∀ (out:Array Value),out.toList.Perm vs->out.toList.Pairwise (fun u v=>HT.lexLt (ν v) (ν u)=false)->Q (.ref (s.heap.objs.size+1)) {s with heap:=sortedAll s.heap vs out}):wpAny (model prog w) A (call (.builtin "sorted") [.ref l]) Q E s:=by
 refine Calls.call_function_entry kind_sorted plain_sorted entry_sorted (args_sorted1 _) ?_
 unfold Builtin.«sorted»
 refine wpAny_bind (m:=checkCount "sorted" 1 1 _) (wpAny_pure (wpAny_bind (collect_list hl ?_ hz)))
 refine wpAny_bind (wpAny_newList ?_)
 have sz:((s.heap.push (seqObj "list" #[] 0)).update s.heap.objs.size (Obj.mapSeq (·++vs.toArray))).objs.size=s.heap.objs.size+1:=by rw[Heap.size_update,size_push']
 have oL:(((s.heap.push (seqObj "list" #[] 0)).update s.heap.objs.size (Obj.mapSeq (·++vs.toArray))).push (seqObj "list" vs.toArray 0)).get? (s.heap.objs.size+1)=some (seqObj "list" vs.toArray 0):=by
  rw[<-sz]
  exact Heap.get?_push_size _ rfl
 have hI2:∀ v∈vs,CL (((s.heap.push (seqObj "list" #[] 0)).update s.heap.objs.size (Obj.mapSeq (·++vs.toArray))).push (seqObj "list" vs.toArray 0)) ν v:=fun v hv=>by
  obtain ⟨b,o,xs,n',rfl,hb,hc,hd,hi,hne⟩:=hI v hv
  have lb:b<s.heap.objs.size:=Heap.lt_size hb
  refine ⟨b,o,xs,n',rfl,?_,hc,hd,hi,hne⟩
  refine Heap.get?_push_of_some _ ?_
  rw[Heap.get?_update_ne _ _ _ _ (Nat.ne_of_lt lb)]
  exact Heap.get?_push_of_some _ hb
 show wpAny _ _ _ _ _ {s with heap:=((s.heap.push (seqObj "list" #[] 0)).update s.heap.objs.size (Obj.mapSeq (·++vs.toArray))).push (seqObj "list" vs.toArray 0)}
 rw[sz]
 refine wpAny_bind (wpAny_holding (wpAny_call_entry slot_list_sort ⟨_,oL,rfl⟩ entry_list_sort (N7 ν oL hI2 hz fun out b1 b2=>⟨_,rfl,?_⟩) (args_list_sort _)))
 exact wpAny_pure ⟨_,rfl,h out b1 b2⟩
end
end EvS
namespace L2
open PySem PySem.Spec PyProof.Rows
section
variable {X:Cx}
def Fy:V->Int
 | .int i=>i
 | _=>0
def CC (H:Hp):V->List Int
 | .ref a=>match H a with
  | some (.tup xs)=>xs.map Fy
  | _=>[]
 | _=>[]
theorem M7 (ns:List Int):(ns.map V.int).map Fy=ns:=by
 rw[List.map_map]
 exact (List.map_congr_left fun _ _=>rfl).trans (List.map_id ns)
def addrOf:Value->V
 | .ref a=>.ref a
 | _=>.non
theorem Dr:∀ {vs:List V} {its:List Value},Vals vs its->(∀ v∈vs,∃ a,v=.ref a)->vs=its.map addrOf/\∀ u∈its,∃ a,u=.ref a
 | [],_,.nil,_=>⟨rfl,fun _ h=>nomatch h⟩
 | v::vs,_,.cons (b:=u) r t,h=>by
  obtain ⟨a,rfl⟩:=h v List.mem_cons_self
  cases r
  obtain ⟨h1,h2⟩:=Dr t fun w hw=>h w (List.mem_cons_of_mem _ hw)
  refine ⟨by rw[List.map_cons,<-h1];rfl,fun w hw=>?_⟩
  rcases List.mem_cons.mp hw with rfl | hw
  ·exact ⟨a,rfl⟩
  ·exact h2 w hw
theorem HK:∀ {its:List Value},(∀ u∈its,∃ a,u=.ref a)->Vals (its.map addrOf) its
 | [],_=>.nil
 | u::us,h=>by
  obtain ⟨a,rfl⟩:=h u List.mem_cons_self
  exact .cons rfl (HK fun w hw=>h w (List.mem_cons_of_mem _ hw))
def Jz (K:PySem.W.Frag):List V->Hp->VK->Prop:=fun xs H Q=>∃ p vs,xs=[.ref p]/\SqL K H p vs/\(∀ v∈vs,∃ a ns,v=.ref a/\H a=some (.tup (ns.map V.int))/\ns≠[]) /\
 ∀ l (ws:List V),H l=none->ws.Perm vs->ws.Pairwise (fun u v=>HT.lexLt (CC H v) (CC H u)=false)->Q (.ref l) (upd H l (.lst ws))
theorem Pe:CallR X (.builtin "sorted") (Jz X.K):=by
 intro pins s σ H xs us Q I r h
 obtain ⟨p,vs,rfl,hq,hv,q⟩:=h
 obtain ⟨u,rfl,ru⟩:=vals1 r
 cases ru
 obtain ⟨its,rv,pl,hz⟩:=I.list hq
 have hl:=rv.length
 obtain ⟨e1,e2⟩:=Dr rv fun v hvm=>let ⟨a,ns,e,_⟩:=hv v hvm;⟨a,e⟩
 refine EvS.Oq (fun u=>CC H (addrOf u)) pl.isList (fun u hu=>?_) (by lia) fun out b1 b2=>?_
 ·have hm:addrOf u∈vs:=by rw[e1];exact List.mem_map.mpr ⟨u,hu,rfl⟩
  obtain ⟨a,ns,e3,e4,e5⟩:=hv _ hm
  obtain ⟨b,rfl⟩:=e2 u hu
  have:b=a:=by injection e3
  subst this
  obtain ⟨_,its2,r2,o,ho,hc,n,hd⟩:=I.hok b _ e4
  have en:CC H (addrOf (.ref b))=ns:=by
   show (match H b with | some (.tup xs)=>xs.map Fy | _=>[])=ns
   rw[e4]
   exact M7 ns
  exact ⟨b,o,_,n,rfl,ho,hc,hd,by dsimp only;rw[en];exact intsAre_of r2,by dsimp only;rw[en];exact e5⟩
 ·obtain ⟨e,he⟩:=sortedAll_at s.heap its out
  have hn:H (s.heap.objs.size+1)=none:=I.hok.fresh (Nat.le_succ _)
  have er:∀ u∈out.toList,∃ a,u=.ref a:=fun u hu=>e2 u (b1.mem_iff.mp hu)
  have pw:(out.toList.map addrOf).Perm vs:=by rw[e1];exact b1.map addrOf
  refine ⟨.ref (s.heap.objs.size+1),_,I.laid (t':=s.toks) (o:=.lst (out.toList.map addrOf)) (fun b u q=>sortedAll_old q) (Nat.le_succ _) ⟨?_,out.toList,e,HK er,?_⟩,rfl,q _ _ hn pw ?_⟩
  ·rw[pw.length_eq];exact hz
  ·simpa using he
  ·rw[List.pairwise_map]
   exact b2
end
end L2
namespace DL
open PySem L2
section
variable {X:Cx} {f:Fr} {α:Nat->Addr} {s:DS} {σ:St} {H:Hp} {K:PySem.W.Frag}
theorem Am {Γ:Gm} {i:Int} {v:V} (h:RepV f α Γ H (.v (.int i)) v):v=.int i:=by
 have h:Rep (wd f α Γ H) (.int i) v:=h
 unfold Rep at h;exact h
theorem CQ {Γ:Gm} {i:Str} {v:V} (h:RepV f α Γ H (.v (.str i)) v):v=.str i:=by
 have h:Rep (wd f α Γ H) (.str i) v:=h
 unfold Rep at h;exact h
theorem Hq {Γ:Gm} {i:Bool} {v:V} (h:RepV f α Γ H (.v (.bl i)) v):v=.bl i:=by
 have h:Rep (wd f α Γ H) (.bl i) v:=h
 unfold Rep at h;exact h
theorem T1 {Γ:Gm} {v:V} (h:RepV f α Γ H (.v .non) v):v=.non:=by
 have h:Rep (wd f α Γ H) .non v:=h
 unfold Rep at h;exact h
theorem CV {Γ:Gm} {xs:List D} {v:V} (h:RepV f α Γ H (.v (.tup xs)) v):∃ a vs,v=.ref a/\H a=some (.tup vs)/\Reps (wd f α Γ H) xs vs:=by
 have h:Rep (wd f α Γ H) (.tup xs) v:=h
 unfold Rep at h
 obtain ⟨a,vs,e,_,h1,h2⟩:=h
 exact ⟨a,vs,e,h1,h2⟩
theorem Bn {W:Wd} {i:Int}:Rep W (.int i) (.int i):=by unfold Rep;rfl
theorem Bg {W:Wd} {i:Bool}:Rep W (.bl i) (.bl i):=by unfold Rep;rfl
theorem KR {W:Wd} {i:Str}:Rep W (.str i) (.str i):=by unfold Rep;rfl
theorem QD {Γ:Gm}:RepV f α Γ H (.v .non) .non:=by show Rep (wd f α Γ H) .non .non;unfold Rep;rfl
theorem T9 {Γ:Gm} {i:Int}:RepV f α Γ H (.v (.int i)) (.int i):=by show Rep (wd f α Γ H) (.int i) (.int i);unfold Rep;rfl
@[simp] def gI (c:Int->Int->Bool) (h:Int->Int->Int):Gm->SV->SV->Option D:=fun _ x y=>match x,y with
 | .v (.int i),.v (.int j)=>if c i j=true then some (.int (h i j)) else none
 | _,_=>none
theorem GO {C:Int->Int->Prop} {c:Int->Int->Bool} {h:Int->Int->Int} (hc:∀ i j,c i j=true->C i j):OpD X (gI c h) (rI C fun i j=>.int (h i j)):=by
 intro f α s σ H x y u v z Q hf rs hu hv e q
 unfold gI at e
 split at e
 ·rename_i i j
  split at e
  ·rename_i hk
   cases e
   exact ⟨i,j,Am hu,Am hv,hc i j hk,q _ H rs .refl Bn⟩
  ·cases e
 ·cases e
@[simp] def gI0 (h:Int->Int->Int):Gm->SV->SV->Option D:=fun _ x y=>match x,y with
 | .v (.int i),.v (.int j)=>some (.int (h i j))
 | _,_=>none
theorem Q4 {h:Int->Int->Int}:OpD X (gI0 h) (rI0 fun i j=>.int (h i j)):=by
 intro f α s σ H x y u v z Q hf rs hu hv e q
 unfold gI0 at e
 split at e
 ·rename_i i j
  cases e
  exact ⟨i,j,Am hu,Am hv,q _ H rs .refl Bn⟩
 ·cases e
abbrev A5:=gI0 fun i j=>i - j
def Cd (i j:Int):Bool:=decide ((-(2 ^ 64)<i/\i<2 ^ 64)\/(-(2 ^ 64)<j/\j<2 ^ 64))
def Dn (i j:Int):Bool:=decide (0<j/\j<2 ^ 64)
def Bm (i j:Int):Bool:=decide (0<j)
def Ds (i j:Int):Bool:=decide (0<=j/\j<=1000000/\i.natAbs<2 ^ 64)
abbrev Bl:=gI Cd fun i j=>i * j
abbrev Az:=gI Dn fun i j=>i / j
abbrev Ag:=gI Bm fun i j=>i % j
abbrev CP:=gI Ds fun i j=>i ^ j.toNat
theorem Os:OpD X Bl (rI CMul fun i j=>.int (i * j)):=GO fun i j h=>by unfold Cd at h;unfold CMul;exact of_decide_eq_true h
theorem QE:OpD X Az (rI (fun _ j=>0<j/\j<2 ^ 64) fun i j=>.int (i / j)):=GO fun i j h=>of_decide_eq_true h
theorem Pi:OpD X Ag (rI (fun _ j=>0<j) fun i j=>.int (i % j)):=GO fun i j h=>of_decide_eq_true h
theorem P0:OpD X CP (rI HP fun i j=>.int (i ^ j.toNat)):=GO fun i j h=>by unfold Ds at h;unfold HP;exact of_decide_eq_true h
@[simp] def Ay:Gm->SV->SV->Option D:=fun Γ x y=>match x,y with
 | .v (.int i),.v (.int j)=>some (.int (i+j))
 | .v (.str a),.v (.str b)=>if a.length+b.length<=big then some (.str (a++b)) else none
 | x,y=>match elems Γ x,elems Γ y with
  | some xs,some ys=>if xs.length+ys.length<=big then some (.lst (xs++ys)) else none
  | _,_=>none
def M9:R2:=fun x y H Q=>rI0 (fun i j=>.int (i+j)) x y H Q\/(∃ i j,x=.str i/\y=.str j/\i.length+j.length<=sizeLine/\Q (.str (i++j)) H)\/J5 x y H Q
theorem UG:OpR X (binaryOp .Add) M9:=op_add.or (op_add_str.or R5)
theorem Q9:OpD X Ay M9:=by
 intro f α s σ H x y u v z Q hf rs hu hv e q
 unfold Ay at e
 split at e
 ·rename_i i j
  cases e
  exact .inl ⟨i,j,Am hu,Am hv,q _ H rs .refl Bn⟩
 ·rename_i a b
  split at e
  ·rename_i hz
   cases e
   exact .inr (.inl ⟨a,b,CQ hu,CQ hv,Dg hz,q _ H rs .refl KR⟩)
  ·cases e
 ·split at e
  ·rename_i xs ys h1 h2
   split at e
   ·rename_i hz
    cases e
    obtain ⟨a,vs,rfl,a1,a2⟩:=Ba rs h1 hu
    obtain ⟨b,us,rfl,b1,b2⟩:=Ba rs h2 hv
    exact .inr (.inr ⟨a,b,vs,us,rfl,rfl,a1,b1,by rw[a2.len,b2.len];exact Dg hz,fun p hp=>q _ _ (rs.new hp) (.new rs hp) (EE rs hp (a2.append b2))⟩)
   ·cases e
  ·cases e
@[simp] def Dt:SV->SV->Option Bool:=fun x y=>match x,y with
 | .v (.int i),.v (.int j)=>some (decide (i=j))
 | .v (.str i),.v (.str j)=>some (decide (i=j))
 | .v (.bl i),.v (.bl j)=>some (decide (i=j))
 | _,_=>none
@[simp] def D6:Gm->SV->SV->Option Bool:=fun Γ x y=>match elems Γ x,elems Γ y with
 | some [],some ys=>some ys.isEmpty
 | some xs,some []=>some xs.isEmpty
 | _,_=>none
@[simp] def gEq:Gm->SV->SV->Option D:=fun Γ x y=>match Dt x y with
 | some b=>some (.bl b)
 | none=>(D6 Γ x y).map .bl
@[simp] def gNe:Gm->SV->SV->Option D:=fun Γ x y=>match Dt x y with
 | some b=>some (.bl !b)
 | none=>(D6 Γ x y).map fun b=>.bl !b
theorem Ka {Γ:Gm} {x y:SV} {u v:V} {b:Bool} (h:Dt x y=some b) (hu:RepV f α Γ H x u) (hv:RepV f α Γ H y v):IU u v=true/\decide (u=v)=b:=by
 unfold Dt at h
 split at h
 ·cases h;rw[Am hu,Am hv];exact ⟨rfl,by simp⟩
 ·cases h;rw[CQ hu,CQ hv];exact ⟨rfl,by simp⟩
 ·cases h;rw[Hq hu,Hq hv];exact ⟨rfl,by simp⟩
 ·cases h
theorem K0 {x y:SV} {u v:V} {b:Bool} (rs:RS f α s σ H) (h:D6 s.Γ x y=some b) (hu:RepV f α s.Γ H x u) (hv:RepV f α s.Γ H y v):∃ p q xs ys,u=.ref p/\v=.ref q/\H p=some (.lst xs)/\H q=some (.lst ys)/\(xs=[]\/ys=[])/\decide (xs=ys)=b:=by
 unfold D6 at h
 split at h
 ·rename_i ys h1 h2
  cases h
  obtain ⟨a,vs,rfl,a1,a2⟩:=Ba rs h1 hu
  obtain ⟨c,us,rfl,b1,b2⟩:=Ba rs h2 hv
  refine ⟨a,c,vs,us,rfl,rfl,a1,b1,.inl a2.nil_inv,?_⟩
  rw[a2.nil_inv]
  cases ys with
  | nil=>rw[b2.nil_inv];rfl
  | cons d ds=>obtain ⟨w,r,rfl,_⟩:=b2.cons_inv;rfl
 ·rename_i xs _ h1 h2
  cases h
  obtain ⟨a,vs,rfl,a1,a2⟩:=Ba rs h1 hu
  obtain ⟨c,us,rfl,b1,b2⟩:=Ba rs h2 hv
  refine ⟨a,c,vs,us,rfl,rfl,a1,b1,.inr b2.nil_inv,?_⟩
  rw[b2.nil_inv]
  cases xs with
  | nil=>rw[a2.nil_inv];rfl
  | cons d ds=>obtain ⟨w,r,rfl,_⟩:=a2.cons_inv;rfl
 ·cases h
def GW (K:PySem.W.Frag):R2:=fun x y H Q=>rEq x y H Q\/Me K x y H Q
def Gg (K:PySem.W.Frag):R2:=fun x y H Q=>rNe x y H Q\/Mu K x y H Q
theorem UI (hu:X.A.units<cLine):OpR X (compareOp .Eq) (GW X.K):=op_eq.or (SF hu)
theorem SO (hu:X.A.units<cLine):OpR X (compareOp .NotEq) (Gg X.K):=op_ne.or (Ss hu)
theorem OW:OpD X gEq (GW X.K):=by
 intro f α s σ H x y u v z Q hf rs hu hv e q
 unfold gEq at e
 split at e
 ·rename_i b hb
  cases e
  obtain ⟨h1,h2⟩:=Ka hb hu hv
  exact .inl ⟨h1,by rw[h2];exact q _ H rs .refl Bg⟩
 ·obtain ⟨b,hb,rfl⟩:=AZ e
  obtain ⟨p,q',xs,ys,rfl,rfl,h1,h2,h3,h4⟩:=K0 rs hb hu hv
  exact .inr ⟨p,q',xs,ys,rfl,rfl,SqL.of h1,SqL.of h2,h3,by rw[h4];exact q _ H rs .refl Bg⟩
theorem N1:OpD X gNe (Gg X.K):=by
 intro f α s σ H x y u v z Q hf rs hu hv e q
 unfold gNe at e
 split at e
 ·rename_i b hb
  cases e
  obtain ⟨h1,h2⟩:=Ka hb hu hv
  exact .inl ⟨h1,by rw[h2];exact q _ H rs .refl Bg⟩
 ·obtain ⟨b,hb,rfl⟩:=AZ e
  obtain ⟨p,q',xs,ys,rfl,rfl,h1,h2,h3,h4⟩:=K0 rs hb hu hv
  exact .inr ⟨p,q',xs,ys,rfl,rfl,SqL.of h1,SqL.of h2,h3,by rw[h4];exact q _ H rs .refl Bg⟩
def intsOf:List D->Option (List Int)
 | []=>some []
 | .int i::r=>(intsOf r).map (i::·)
 | _=>none
theorem CW:∀ {xs:List D} {ns:List Int},intsOf xs=some ns->xs=ns.map .int
 | [],ns,e=>by cases e;rfl
 | .int i::r,ns,e=>by
  obtain ⟨ms,h,rfl⟩:=AZ (show (intsOf r).map (i::·)=some ns from e)
  rw[CW h];rfl
theorem C4:∀ {ns:List Int},intsOf (ns.map .int)=some ns
 | []=>rfl
 | i::r=>by show (intsOf (r.map D.int)).map (i::·)=_;rw[C4];rfl
@[simp] def Af:Gm->SV->SV->Option D:=fun _ x y=>match x,y with
 | .v (.int i),.v (.int j)=>some (.bl (decide (i<j)))
 | .v (.tup xs),.v (.tup ys)=>(intsOf xs).bind fun ns=>(intsOf ys).map fun ms=>.bl (HT.lexLt ns ms)
 | _,_=>none
def Mj (K:PySem.W.Frag):R2:=fun x y H Q=>rI0 (fun i j=>.bl (decide (i<j))) x y H Q\/KI K x y H Q
theorem Iv (hu:X.A.units<cLine):OpR X (compareOp .Lt) (Mj X.K):=op_lt.or (Ra hu)
theorem JG:OpD X Af (Mj X.K):=by
 intro f α s σ H x y u v z Q hf rs hu hv e q
 unfold Af at e
 split at e
 ·rename_i i j
  cases e
  exact .inl ⟨i,j,Am hu,Am hv,q _ H rs .refl Bg⟩
 ·rename_i xs ys
  obtain ⟨ns,h1,e⟩:=bind_some e
  obtain ⟨ms,h2,rfl⟩:=AZ e
  have:=CW h1
  subst this
  have:=CW h2
  subst this
  obtain ⟨a,vs,rfl,a1,a2⟩:=CV hu
  obtain ⟨b,us,rfl,b1,b2⟩:=CV hv
  rw[a2.ints] at a1
  rw[b2.ints] at b1
  exact .inr ⟨a,b,ns,ms,rfl,rfl,SqT.of a1,SqT.of b1,q _ H rs .refl Bg⟩
 ·cases e
@[simp] def gIx:Gm->SV->SV->Option D:=fun Γ x y=>match y with
 | .v (.int i)=>match x with
  | .v (.tup xs)=>atI xs i
  | .v (.str z)=>if z.length<=big then (atI z.cps.toList i).map fun c=>.str ⟨#[c]⟩ else none
  | .v (.scr ns)=>(atI ns i).map .int
  | x=>(elems Γ x).bind fun xs=>atI xs i
 | _=>none
theorem KA {W:Wd} {xs:List D} {vs:List V} {i:Int} {d:D} (h:Reps W xs vs) (e:atI xs i=some d):∃ v,atI vs i=some v/\Rep W d v:=by
 unfold atI at *
 rw[h.len]
 obtain ⟨j,h1,h2⟩:=bind_some e
 obtain ⟨v,h3,h4⟩:=h.get h2
 exact ⟨v,by rw[h1];exact h3,h4⟩
theorem Rh {ns:List Int} {i n:Int} (e:atI ns i=some n):atI (ns.map V.int) i=some (.int n):=by
 unfold atI at *
 rw[List.length_map]
 obtain ⟨j,h1,h2⟩:=bind_some e
 rw[h1]
 show (ns.map V.int)[j]?=_
 rw[List.getElem?_map,h2]
 rfl
theorem Ir {Γ:Gm} {ns:List Int} {v:V} (h:RepV f α Γ H (.v (.scr ns)) v):∃ a,v=.ref a/\SqL f.K H a (ns.map V.int):=by
 have h:Rep (wd f α Γ H) (.scr ns) v:=h
 unfold Rep at h
 obtain ⟨a,e,h⟩:=h
 refine ⟨a,e,?_⟩
 rcases h with ⟨_,h⟩ | h
 ·exact .inl h
 ·exact h H
theorem QR:OpD X gIx (rIx X.K):=by
 intro f α s σ H x y u v z Q hf rs hu hv e q
 unfold gIx at e
 split at e
 ·rename_i i
  split at e
  ·rename_i xs
   obtain ⟨a,vs,rfl,h1,h2⟩:=CV hu
   obtain ⟨w,h3,h4⟩:=KA h2 e
   exact .inr (.inl ⟨a,vs,i,w,rfl,Am hv,SqT.of h1,h3,q w H rs .refl h4⟩)
  ·rename_i str
   split at e
   ·rename_i hz
    obtain ⟨c,h1,rfl⟩:=AZ e
    exact .inr (.inr ⟨str,i,c,CQ hu,Am hv,Dg hz,h1,q _ H rs .refl KR⟩)
   ·cases e
  ·rename_i ns
   obtain ⟨n,h1,rfl⟩:=AZ e
   obtain ⟨a,rfl,h2⟩:=Ir hu
   exact .inl ⟨a,_,i,_,rfl,Am hv,by rw[<-hf];exact h2,Rh h1,q _ H rs .refl Bn⟩
  ·obtain ⟨xs,h1,e⟩:=bind_some e
   obtain ⟨a,vs,rfl,h3,h2⟩:=Ba rs h1 hu
   obtain ⟨w,h4,h5⟩:=KA h2 e
   exact .inl ⟨a,vs,i,w,rfl,Am hv,SqL.of h3,h4,q w H rs .refl h5⟩
 ·cases e
@[simp] def AX:Gm->List SV->Option D:=fun Γ xs=>match xs with
 | [.v (.tup xs)]=>some (.int xs.length)
 | [.v (.str z)]=>if z.length<=big then some (.int z.length) else none
 | [.v (.scr ns)]=>some (.int ns.length)
 | [x]=>(elems Γ x).map fun xs=>.int xs.length
 | _=>none
theorem S9:CaD X AX (fun xs H Q=>∃ x n,xs=[x]/\Lk X.K x H n/\Q (.int n) H):=by
 intro f α s σ H xs us z Q hf rs hu e q
 unfold AX at e
 split at e
 ·rename_i xs
  cases e
  obtain ⟨v,r,rfl,h1,h2⟩:=hu.cons_inv
  rw[h2.nil_inv]
  obtain ⟨a,vs,rfl,h3,h4⟩:=CV h1
  exact ⟨_,xs.length,rfl,.inr ⟨vs,SqT.of h3,h4.len.symm⟩,q _ H rs .refl Bn⟩
 ·rename_i z
  split at e
  ·rename_i hz
   cases e
   obtain ⟨v,r,rfl,h1,h2⟩:=hu.cons_inv
   rw[h2.nil_inv,CQ h1]
   exact ⟨_,z.length,rfl,⟨Dg hz,rfl⟩,q _ H rs .refl Bn⟩
  ·cases e
 ·rename_i ns
  cases e
  obtain ⟨v,r,rfl,h1,h2⟩:=hu.cons_inv
  rw[h2.nil_inv]
  obtain ⟨a,rfl,h3⟩:=Ir h1
  exact ⟨_,ns.length,rfl,.inl ⟨_,by rw[<-hf];exact h3,by rw[List.length_map]⟩,q _ H rs .refl Bn⟩
 ·rename_i x _ _ _
  obtain ⟨xs,h0,rfl⟩:=AZ e
  obtain ⟨v,r,rfl,h1,h2⟩:=hu.cons_inv
  rw[h2.nil_inv]
  obtain ⟨a,vs,rfl,h3,h4⟩:=Ba rs h0 h1
  exact ⟨_,xs.length,rfl,.inl ⟨vs,SqL.of h3,h4.len.symm⟩,q _ H rs .refl Bn⟩
 ·cases e
@[simp] def C1:Gm->List SV->Option D:=fun _ xs=>match xs with
 | [.v (.int i),.v (.int j)]=>some (.int (if j > i then j else i))
 | _=>none
@[simp] def Ey:Gm->List SV->Option D:=fun _ xs=>match xs with
 | [.v (.int i),.v (.int j)]=>some (.int (if j<i then j else i))
 | _=>none
theorem Pq:CaD X C1 (fun xs H Q=>∃ i j,xs=[.int i,.int j]/\Q (.int (if j > i then j else i)) H):=by
 intro f α s σ H xs us z Q hf rs hu e q
 unfold C1 at e
 split at e
 ·rename_i i j
  cases e
  obtain ⟨v,r,rfl,h1,h2⟩:=hu.cons_inv
  obtain ⟨v',r',rfl,h3,h4⟩:=h2.cons_inv
  rw[h4.nil_inv,Am h1,Am h3]
  exact ⟨i,j,rfl,q _ H rs .refl Bn⟩
 ·cases e
theorem PQ:CaD X Ey (fun xs H Q=>∃ i j,xs=[.int i,.int j]/\Q (.int (if j<i then j else i)) H):=by
 intro f α s σ H xs us z Q hf rs hu e q
 unfold Ey at e
 split at e
 ·rename_i i j
  cases e
  obtain ⟨v,r,rfl,h1,h2⟩:=hu.cons_inv
  obtain ⟨v',r',rfl,h3,h4⟩:=h2.cons_inv
  rw[h4.nil_inv,Am h1,Am h3]
  exact ⟨i,j,rfl,q _ H rs .refl Bn⟩
 ·cases e
@[simp] def C9:Gm->List SV->Option (List D):=fun Γ xs=>match xs with
 | [.v (.tup xs)]=>some xs
 | [x]=>elems Γ x
 | _=>none
theorem Ro:CaF X C9 (fun xs H Q=>∃ p ys,xs=[.ref p]/\(SqL X.K H p ys\/SqT X.K H p ys)/\∀ l,H l=none->Q (.ref l) (upd H l (.lst ys))):=by
 intro f α s σ H xs us z Q hf rs hu e q
 unfold C9 at e
 split at e
 ·rename_i xs
  cases e
  obtain ⟨v,r,rfl,h1,h2⟩:=hu.cons_inv
  rw[h2.nil_inv]
  obtain ⟨a,vs,rfl,h3,h4⟩:=CV h1
  exact ⟨a,vs,rfl,.inr (SqT.of h3),fun l hl=>q l vs hl h4⟩
 ·obtain ⟨v,r,rfl,h1,h2⟩:=hu.cons_inv
  rw[h2.nil_inv]
  obtain ⟨a,vs,rfl,h3,h4⟩:=Ba rs e h1
  exact ⟨a,vs,rfl,.inl (SqL.of h3),fun l hl=>q l vs hl h4⟩
 ·cases e
def insI (i:Int):List Int->List Int
 | []=>[i]
 | j::r=>if i<=j then i::j::r else j::insI i r
def sortI:List Int->List Int
 | []=>[]
 | i::r=>insI i (sortI r)
theorem insI_perm (i:Int):∀ r:List Int,(insI i r).Perm (i::r)
 | []=>.refl _
 | j::r=>by
  unfold insI
  split
  ·exact .refl _
  ·exact ((insI_perm i r).cons j).trans (.swap i j r)
theorem sortI_perm:∀ r:List Int,(sortI r).Perm r
 | []=>.refl _
 | i::r=>(insI_perm i _).trans ((sortI_perm r).cons i)
theorem Kn (i:Int):∀ r:List Int,r.Pairwise (·<=·)->(insI i r).Pairwise (·<=·)
 | [],_=>List.pairwise_singleton _ _
 | j::r,h=>by
  unfold insI
  obtain ⟨h1,h2⟩:=List.pairwise_cons.mp h
  split
  ·rename_i c
   refine List.pairwise_cons.mpr ⟨fun k hk=>?_,h⟩
   rcases List.mem_cons.mp hk with rfl | hk
   ·exact c
   ·have:=h1 k hk;lia
  ·rename_i c
   refine List.pairwise_cons.mpr ⟨fun k hk=>?_,Kn i r h2⟩
   rcases List.mem_cons.mp ((insI_perm i r).mem_iff.mp hk) with rfl | hk
   ·lia
   ·exact h1 k hk
theorem MR:∀ r:List Int,(sortI r).Pairwise (·<=·)
 | []=>.nil
 | i::r=>Kn i _ (MR r)
theorem Tu {xs ys:List Int} (p:xs.Perm ys) (hx:xs.Pairwise (·<=·)) (hy:ys.Pairwise (·<=·)):xs=ys:=
 p.eq_of_pairwise (fun a b _ _ h1 h2=>by lia) hx hy
def tupI (ns:List Int):D:=.tup (ns.map .int)
def Gf:List D->Option (List (List Int))
 | []=>some []
 | .tup xs::r=>(intsOf xs).bind fun ns=>if ns=[] then none else (Gf r).map (ns::·)
 | _=>none
theorem ML:∀ {xs:List D} {nss:List (List Int)},Gf xs=some nss->xs=nss.map tupI/\∀ ns∈nss,ns≠[]
 | [],nss,e=>by cases e;exact ⟨rfl,fun _ h=>nomatch h⟩
 | .tup xs::r,nss,e=>by
  obtain ⟨ns,h1,e⟩:=bind_some (show (intsOf xs).bind _=some nss from e)
  split at e
  ·cases e
  ·rename_i hne
   obtain ⟨mss,h2,rfl⟩:=AZ e
   obtain ⟨h3,h4⟩:=ML h2
   refine ⟨by rw[h3,CW h1];rfl,fun ks hk=>?_⟩
   rcases List.mem_cons.mp hk with rfl | hk
   ·exact hne
   ·exact h4 ks hk
 | .non::r,nss,e=>by cases e
 | .bl _::r,nss,e=>by cases e
 | .int _::r,nss,e=>by cases e
 | .str _::r,nss,e=>by cases e
 | .lst _::r,nss,e=>by cases e
 | .scr _::r,nss,e=>by cases e
 | .dic _ _::r,nss,e=>by cases e
theorem LA:∀ {nss:List (List Int)},(∀ ns∈nss,ns≠[])->Gf (nss.map tupI)=some nss
 | [],_=>rfl
 | ns::r,h=>by
  show (intsOf (ns.map .int)).bind _=_
  rw[C4]
  show (if ns=[] then none else _)=_
  rw[if_neg (h ns List.mem_cons_self),LA fun ks hk=>h ks (List.mem_cons_of_mem _ hk)]
  rfl
def EG (x:List Int):List (List Int)->List (List Int)
 | []=>[x]
 | y::r=>if HT.lexLt y x=true then y::EG x r else x::y::r
def A6:List (List Int)->List (List Int)
 | []=>[]
 | x::r=>EG x (A6 r)
theorem HA (x:List Int):∀ r,(EG x r).Perm (x::r)
 | []=>.refl _
 | y::r=>by
  unfold EG
  split
  ·exact ((HA x r).cons y).trans (.swap x y r)
  ·exact .refl _
theorem El:∀ r,(A6 r).Perm r
 | []=>.refl _
 | x::r=>(HA x _).trans ((El r).cons x)
abbrev Dy (r:List (List Int)):Prop:=r.Pairwise fun u v=>HT.lexLt v u=false
theorem Kj (x:List Int):∀ r,Dy r->Dy (EG x r)
 | [],_=>List.pairwise_singleton _ _
 | y::r,h=>by
  unfold EG
  obtain ⟨h1,h2⟩:=List.pairwise_cons.mp h
  split
  ·rename_i c
   refine List.pairwise_cons.mpr ⟨fun k hk=>?_,Kj x r h2⟩
   rcases List.mem_cons.mp ((HA x r).mem_iff.mp hk) with rfl | hk
   ·exact EvS.EZ c
   ·exact h1 k hk
  ·rename_i c
   have c':HT.lexLt y x=false:=by cases hc:HT.lexLt y x with | false=>rfl | true=>exact absurd hc c
   refine List.pairwise_cons.mpr ⟨fun k hk=>?_,h⟩
   rcases List.mem_cons.mp hk with rfl | hk
   ·exact c'
   ·exact EvS.G5 c' (h1 k hk)
theorem JA:∀ r,Dy (A6 r)
 | []=>.nil
 | x::r=>Kj x _ (JA r)
theorem R4 {xs ys:List (List Int)} (p:xs.Perm ys) (hx:Dy xs) (hy:Dy ys):xs=ys:=
 p.eq_of_pairwise (fun a b _ _ h1 h2=>EvS.Fb h1 h2) hx hy
@[simp] def CA:Gm->List SV->Option (List D):=fun Γ xs=>match xs with
 | [x]=>(elems Γ x).bind fun xs=>match intsOf xs with
  | some ns=>some ((sortI ns).map .int)
  | none=>(Gf xs).map fun nss=>(A6 nss).map tupI
 | _=>none
def GK (K:PySem.W.Frag):List V->Hp->VK->Prop:=fun xs H Q=>(∃ p ns,xs=[.ref p]/\SqL K H p (ns.map V.int)/\∀ l (ms:List Int),H l=none->ms.Perm ns->ms.Pairwise (·<=·)->Q (.ref l) (upd H l (.lst (ms.map V.int))))\/Jz K xs H Q
theorem call_sortedA:CallR X (.builtin "sorted") (GK X.K):=call_sorted.or Pe
theorem Ks {W:Wd} {ns:List Int} {v:V} (h:Rep W (tupI ns) v):∃ a,v=.ref a/\W.H a=some (.tup (ns.map V.int)):=by
 unfold tupI Rep at h
 obtain ⟨a,vs,e,_,h1,h2⟩:=h
 rw[h2.ints] at h1
 exact ⟨a,e,h1⟩
theorem JR {W:Wd} {ns:List Int} {v:V} (h:Rep W (tupI ns) v):CC W.H v=ns:=by
 obtain ⟨a,rfl,h1⟩:=Ks h
 show (match W.H a with | some (.tup xs)=>xs.map Fy | _=>[])=ns
 rw[h1]
 exact M7 ns
theorem Ml {W:Wd}:∀ {nss:List (List Int)} {vs:List V},Reps W (nss.map tupI) vs->vs.map (CC W.H)=nss/\∀ v∈vs,Rep W (tupI (CC W.H v)) v
 | [],vs,h=>by rw[h.nil_inv];exact ⟨rfl,fun _ h=>nomatch h⟩
 | ns::r,vs,h=>by
  obtain ⟨v,q,rfl,h1,h2⟩:=Reps.cons_inv (d:=tupI ns) (ds:=r.map tupI) h
  obtain ⟨h3,h4⟩:=Ml h2
  refine ⟨by rw[List.map_cons,h3,JR h1],fun u hu=>?_⟩
  rcases List.mem_cons.mp hu with rfl | hu
  ·rw[JR h1];exact h1
  ·exact h4 u hu
theorem Jf {W:Wd}:∀ {ws:List V},(∀ v∈ws,Rep W (tupI (CC W.H v)) v)->Reps W ((ws.map (CC W.H)).map tupI) ws
 | [],_=>.nil
 | w::ws,h=>.cons (h w List.mem_cons_self) (Jf fun v hv=>h v (List.mem_cons_of_mem _ hv))
theorem Kd:CaF X CA (GK X.K):=by
 intro f α s σ H xs us z Q hf rs hu e q
 unfold CA at e
 split at e
 ·obtain ⟨xs,h0,e⟩:=bind_some e
  obtain ⟨v,r,rfl,h1,h2⟩:=hu.cons_inv
  rw[h2.nil_inv]
  obtain ⟨a,vs,rfl,h3,h4⟩:=Ba rs h0 h1
  split at e
  ·rename_i ns h00
   cases e
   have:=CW h00
   subst this
   have:=h4.ints
   subst this
   refine .inl ⟨a,ns,rfl,SqL.of h3,fun l ms hl hp hs=>q l _ hl ?_⟩
   rw[Tu (hp.trans (sortI_perm ns).symm) hs (MR ns)]
   exact Reps.of_ints
  ·obtain ⟨nss,h5,rfl⟩:=AZ e
   obtain ⟨h6,h7⟩:=ML h5
   subst h6
   obtain ⟨n1,n2⟩:=Ml h4
   refine .inr ⟨a,vs,rfl,SqL.of h3,fun v hv=>?_,fun l ws hl hp hs=>q l _ hl ?_⟩
   ·obtain ⟨b,e1,e2⟩:=Ks (n2 v hv)
    exact ⟨b,_,e1,e2,h7 _ (by rw[<-n1];exact List.mem_map.mpr ⟨v,hv,rfl⟩)⟩
   ·have e1:ws.map (CC H)=A6 nss:=R4 (((hp.map (CC H)).trans (by rw[n1])).trans (El nss).symm) (by rw[Dy,List.pairwise_map];exact hs) (JA nss)
    rw[<-e1]
    exact Jf fun v hv=>n2 v (hp.mem_iff.mp hv)
 ·cases e
@[simp] def AO (m:ME):MF:=fun s=>(m s).bind fun r=>match r.1 with
 | .v (.lst xs)=>some (xs,r.2)
 | .v (.tup xs)=>some (xs,r.2)
 | _=>none
variable {tg a b:Expr} {pos:Pos}
theorem PI.imp {src:Expr} {t t':TI} (h:PI X tg src t) (k:∀ σ H R,t' σ H R->t σ H R):PI X tg src t':=fun pins s σ H R I q=>h pins s σ H R I (k _ _ _ q)
theorem EM {f:Fr} {α0 α:Nat->Addr} {Γ0 Γ:Gm} {H0 H Hh:Hp} {p:Addr} {vs:List V} {xs:List D} (x:Ext f α0 α Γ0 Γ H0 H) (hb:¬(f.F p\/BZ Γ0 α0 p)) (h:H0 p=some (.lst vs)) (hx:Reps (wd f α0 Γ0 H0) xs vs) (sup:∀ a o,H a=some o->Hh a=some o) :
  Hh p=some (.lst vs)/\Reps (wd f α Γ H) xs vs:=⟨sup _ _ (x.kw.keep p _ hb h).1,hx.kw x.kw⟩
theorem Hb {f:Fr} {α0 α:Nat->Addr} {Γ0 Γ:Gm} {H0 H Hh:Hp} {p:Addr} {vs:List V} {xs:List D} (x:Ext f α0 α Γ0 Γ H0 H) (hb:¬(f.F p\/BZ Γ0 α0 p)) (h:H0 p=some (.tup vs)) (hx:Reps (wd f α0 Γ0 H0) xs vs) (sup:∀ a o,H a=some o->Hh a=some o) :
  Hh p=some (.tup vs)/\Reps (wd f α Γ H) xs vs:=⟨sup _ _ (x.kw.keep p _ hb h).1,hx.kw x.kw⟩
theorem BP {m:ME} (h:DE X a m):DI X tg a (AO m):=.mk fun f hf=>PI.imp (L2.PI.or (TU (h f hf)) (Qq (h f hf))) fun σ H R hh_=>by
 obtain ⟨α,s,r,rs,lo,e,q⟩:=hh_
 obtain ⟨⟨x,s1⟩,h1,e⟩:=bind_some e
 simp only at e
 split at e
 ·rename_i xs
  cases e
  refine .inl ⟨α,s,_,rs,lo,h1,fun α' v H' rs' l' x' hv=>?_⟩
  have hv:Rep (wd f α' s1.Γ H') (.lst xs) v:=hv
  unfold Rep at hv
  obtain ⟨p,vs,rfl,hb,h2,h3⟩:=hv
  refine ⟨p,rfl,⟨vs,SqL.of h2⟩,q _ α' H' rs' l' x' ⟨?_,?_,?_⟩⟩
  ·intro i α2 s2 σ2 H2 Hh hi r2 x2 sup
   obtain ⟨g1,_⟩:=EM x2 hb h2 h3 sup
   exact ⟨vs,vs[i]'(by rw[h3.len];exact hi),SqL.of g1,List.getElem?_eq_getElem _⟩
  ·intro i d y α2 s2 σ2 H2 Hh H3 hd r2 x2 sup yl
   obtain ⟨g1,g2⟩:=EM x2 hb h2 h3 sup
   obtain ⟨rfl,yl⟩:=yl
   obtain ⟨w,w1,w2⟩:=g2.get hd
   have:=yl vs (SqL.of g1)
   rw[w1] at this
   cases this
   exact .inl ⟨rfl,w2⟩
  ·intro α2 s2 σ2 H2 Hh r2 x2 sup
   obtain ⟨g1,_⟩:=EM x2 hb h2 h3 sup
   exact ⟨vs,SqL.of g1,by rw[h3.len];exact Nat.le_refl _⟩
 ·rename_i xs
  cases e
  refine .inr ⟨α,s,_,rs,lo,h1,fun α' v H' rs' l' x' hv=>?_⟩
  have hv:Rep (wd f α' s1.Γ H') (.tup xs) v:=hv
  unfold Rep at hv
  obtain ⟨p,vs,rfl,hb,h2,h3⟩:=hv
  refine ⟨p,rfl,⟨vs,SqT.of h2⟩,q _ α' H' rs' l' x' ⟨?_,?_,?_⟩⟩
  ·intro i α2 s2 σ2 H2 Hh hi r2 x2 sup
   obtain ⟨g1,_⟩:=Hb x2 hb h2 h3 sup
   exact ⟨vs,vs[i]'(by rw[h3.len];exact hi),SqT.of g1,List.getElem?_eq_getElem _⟩
  ·intro i d y α2 s2 σ2 H2 Hh H3 hd r2 x2 sup yl
   obtain ⟨g1,g2⟩:=Hb x2 hb h2 h3 sup
   obtain ⟨rfl,yl⟩:=yl
   obtain ⟨w,w1,w2⟩:=g2.get hd
   have:=yl vs (SqT.of g1)
   rw[w1] at this
   cases this
   exact .inl ⟨rfl,w2⟩
  ·intro α2 s2 σ2 H2 Hh r2 x2 sup
   obtain ⟨g1,_⟩:=Hb x2 hb h2 h3 sup
   exact ⟨vs,SqT.of g1,by rw[h3.len];exact Nat.le_refl _⟩
 ·cases e
def upTo (lo:Int):Nat->List D
 | 0=>[]
 | n+1=>.int lo::upTo (lo+1) n
theorem CS (lo:Int):∀ n,(upTo lo n).length=n:=by
 intro n
 induction n generalizing lo with
 | zero=>rfl
 | succ n ih=>unfold upTo;rw[List.length_cons,ih]
theorem LL (lo:Int):∀ (n i:Nat),i<n->(upTo lo n)[i]?=some (.int (lo+i)):=by
 intro n
 induction n generalizing lo with
 | zero=>intro i h;exact absurd h (Nat.not_lt_zero _)
 | succ n ih=>
  intro i h
  cases i with
  | zero=>unfold upTo;simp
  | succ i=>
   unfold upTo
   rw[List.getElem?_cons_succ,ih (lo+1) i (Nat.lt_of_succ_lt_succ h)]
   congr 2
   lia
theorem P9 {α0:Nat->Addr} {Γ0:Gm} {H0:Hp} (lo:Int) (n:Nat):DIt f (Itr lo n) (upTo lo n) α0 Γ0 H0:=by
 refine ⟨fun i _ _ _ _ _ hi _ _ _=>by rw[CS] at hi;exact hi,fun i d y α2 s2 σ2 H2 Hh H3 hd r2 x2 sup yl=>?_,fun _ _ _ _ _ _ _ _=>by show n<=(upTo lo n).length;rw[CS];exact Nat.le_refl _⟩
 obtain ⟨rfl,rfl⟩:=yl
 have hi:=(List.getElem?_eq_some_iff.mp hd).1
 rw[CS] at hi
 rw[LL lo n i hi] at hd
 cases hd
 exact .inl ⟨rfl,Bn⟩
def okR (j:Int):Bool:=decide (j<2 ^ 62/\-(2 ^ 62)<=j)
theorem Fh {j:Int} (h:-1000000<=j) (h2:j<=1000000):okR j=true:=decide_eq_true ⟨by lia,by lia⟩
@[simp] def BE (ms:MA):MF:=fun s=>(ms s).bind fun r=>match r.1 with
 | [.v (.int j)]=>if okR j=true then some (upTo 0 j.toNat,r.2) else none
 | _=>none
theorem C7 {ms:MA} {p:Pos} (hg:Gl X "range") (hm:X.mg "range"=none) (ha:DA X [a] ms) (hs:starEach [a] X.env=[(false,eval a X.env)]:=by rfl):DI X tg (.Call (.Name "range" p) [a] [] pos) (BE ms):=.mk fun f hf=>PI.imp (PN hg hm (ha f hf) hs) fun σ H R hh_=>by
 obtain ⟨α,s,r,rs,lo,e,q⟩:=hh_
 obtain ⟨⟨x,s1⟩,h1,e⟩:=bind_some e
 simp only at e
 split at e
 ·rename_i j
  split at e
  ·rename_i hj
   cases e
   refine ⟨α,s,_,rs,lo,h1,fun α' vs H' rs' l' x' hv=>?_⟩
   obtain ⟨v,r,rfl,h2,h3⟩:=hv.cons_inv
   rw[h3.nil_inv,Am h2]
   have hj:=of_decide_eq_true hj
   exact ⟨j,rfl,hj.2,hj.1,q _ α' H' rs' l' x' (P9 0 _)⟩
  ·cases e
 ·cases e
def B6 (i:Int):List D->List D
 | []=>[]
 | d::r=>.tup [.int i,d]::B6 (i+1) r
theorem Fg (i:Int):∀ xs,(B6 i xs).length=xs.length:=by
 intro xs
 induction xs generalizing i with
 | nil=>rfl
 | cons d r ih=>unfold B6;rw[List.length_cons,List.length_cons,ih]
theorem LK (i:Int):∀ (xs:List D) (k:Nat) (d:D),(B6 i xs)[k]?=some d->∃ x,xs[k]?=some x/\d=.tup [.int (i+k),x]:=by
 intro xs
 induction xs generalizing i with
 | nil=>intro k d h;cases h
 | cons c r ih=>
  intro k d h
  cases k with
  | zero=>cases h;exact ⟨c,rfl,by simp⟩
  | succ k=>
   unfold B6 at h
   rw[List.getElem?_cons_succ] at h
   obtain ⟨x,h1,h2⟩:=ih (i+1) k d h
   refine ⟨x,h1,?_⟩
   rw[h2]
   congr 3
   lia
@[simp] def Dm (ms:MA):MF:=fun s=>(ms s).bind fun r=>match r.1 with
 | [.v (.lst xs)]=>some (B6 0 xs,r.2)
 | _=>none
theorem Jl {ms:MA} {p cp tp:Pos} {elts:List Expr} {k:Nat} (hg:Gl X "enumerate") (hm:X.mg "enumerate"=none) (ha:DA X [a] ms) (hs:starEach [a] X.env=[(false,eval a X.env)]:=by rfl):DI X (.Tuple elts k tp) (.Call (.Name "enumerate" p) [a] [] cp) (Dm ms):=.mk fun f hf=>PI.imp (PH hg hm (ha f hf) hs) fun σ H R hh_=>by
 obtain ⟨α,s,r,rs,lo,e,q⟩:=hh_
 obtain ⟨⟨x,s1⟩,h1,e⟩:=bind_some e
 simp only at e
 split at e
 ·rename_i xs
  cases e
  refine ⟨α,s,_,rs,lo,h1,fun α' vs H' rs' l' x' hv=>?_⟩
  obtain ⟨v,r,rfl,hv,h3⟩:=hv.cons_inv
  rw[h3.nil_inv]
  have hv:Rep (wd f α' s1.Γ H') (.lst xs) v:=hv
  unfold Rep at hv
  obtain ⟨p,vs,rfl,hb,h2,h3⟩:=hv
  refine ⟨p,vs,rfl,SqL.of h2,q _ α' H' rs' l' x' ⟨?_,?_,?_⟩⟩
  ·intro i α2 s2 σ2 H2 Hh hi r2 x2 sup
   obtain ⟨g1,_⟩:=EM x2 hb h2 h3 sup
   rw[Fg] at hi
   exact ⟨vs,vs[i]'(by rw[h3.len];exact hi),SqL.of g1,List.getElem?_eq_getElem _⟩
  ·intro i d y α2 s2 σ2 H2 Hh H3 hd r2 x2 sup yl
   obtain ⟨g1,g2⟩:=EM x2 hb h2 h3 sup
   obtain ⟨T,w,hT,rfl,rfl,yl⟩:=yl
   obtain ⟨c,hc,rfl⟩:=LK 0 xs i d hd
   obtain ⟨w',w1,w2⟩:=g2.get hc
   have:=yl vs (SqL.of g1)
   rw[w1] at this
   cases this
   have hT2:H2 T=none:=by
    cases z:H2 T with
    | none=>rfl
    | some o=>rw[sup _ _ z] at hT;cases hT
   refine .inr ⟨T,_,hT,rfl,IH r2 hT2 (.cons ?_ (.cons w2 .nil))⟩
   unfold Rep
   simp
  ·intro α2 s2 σ2 H2 Hh r2 x2 sup
   obtain ⟨g1,_⟩:=EM x2 hb h2 h3 sup
   exact ⟨vs,SqL.of g1,by rw[Fg,h3.len];exact Nat.le_refl _⟩
 ·cases e
@[simp] def CY (mo me:ME):ME:=fun s=>(mo s).bind fun x=>match x.1 with
 | .b n=>match x.2.Γ[n]? with
  | some (some _)=>(me x.2).bind fun y=>match y.1 with
   | .v d=>match y.2.Γ[n]? with
    | some (some xs)=>if xs.length<big then some (.v .non,{y.2 with Γ:=y.2.Γ.set n (some (xs++[d]))}) else none
    | _=>none
   | _=>none
  | _=>none
 | _=>none
theorem Q8 {mo me:ME} {Q:VK} (hf:f.K=X.K) (h:tD f (CY mo me) σ H Q):tBM X.K "list" Iq (tD f mo) (Ha (tD f me) HV) σ H Q:=by
 obtain ⟨α,s,r,rs,lo,e,q⟩:=h
 obtain ⟨⟨x,s1⟩,h1,e⟩:=bind_some e
 simp only at e
 split at e
 case h_2=>cases e
 rename_i n
 split at e
 case h_2=>cases e
 rename_i ys hys
 obtain ⟨⟨y,s2⟩,h2,e⟩:=bind_some e
 simp only at e
 split at e
 case h_2=>cases e
 rename_i d
 split at e
 case h_2=>cases e
 rename_i xs hxs
 split at e
 case isFalse=>cases e
 rename_i hz
 cases e
 refine ⟨α,s,_,rs,lo,h1,fun α1 u H1 rs1 l1 x1 hu=>?_⟩
 obtain ⟨us,g1,g2⟩:=rs1.box n ys hys
 refine ⟨?_,α1,s1,_,rs1,lo_le lo l1 x1,h2,fun α2 v H2 rs2 l2 x2 hv=>?_⟩
 ·rw[hu.2]
  exact .inl ⟨rfl,us,SqL.of g1⟩
 ·have hn:n<s1.Γ.length:=hu.1
  obtain ⟨ws,g3,g4⟩:=rs2.box n xs hxs
  refine ⟨α2 n,ws,v,by rw[hu.2,x2.al n hn],rfl,g3,by rw[g4.len];exact Ev.MU (Nat.le_of_lt hz),?_⟩
  exact q α2 .non _ (rs2.put hxs (g4.append (.cons hv .nil))) (l2.trans l1) ((x1.trans x2).trans (.put hxs)) (show RepV f α2 _ _ (.v .non) .non from QD)
end
section
variable {X:Cx} {f:Fr} {α:Nat->Addr} {s:DS} {σ:St} {H:Hp} {K:PySem.W.Frag} {a b c e:Expr} {ma mb mc:ME} {pos p cp apos:Pos} {es:List Expr} {ms:MA}
theorem CJ (ha:DE X a ma) (hb:DE X b mb):DE X (.BinOp a .Add b pos) (mOp Ay ma mb):=Dw UG Q9 ha hb
theorem EB (ha:DE X a ma) (hb:DE X b mb):DE X (.BinOp a .Sub b pos) (mOp A5 ma mb):=Dw Rt Q4 ha hb
theorem Ct (ha:DE X a ma) (hb:DE X b mb):DE X (.BinOp a .Mult b pos) (mOp Bl ma mb):=Dw Nz Os ha hb
theorem ED (ha:DE X a ma) (hb:DE X b mb):DE X (.BinOp a .FloorDiv b pos) (mOp Az ma mb):=Dw R7 QE ha hb
theorem Bh (ha:DE X a ma) (hb:DE X b mb):DE X (.BinOp a .Mod b pos) (mOp Ag ma mb):=Dw SN Pi ha hb
theorem GX (ha:DE X a ma) (hb:DE X b mb):DE X (.BinOp a .Pow b pos) (mOp CP ma mb):=Dw N0 P0 ha hb
theorem C0 (hu:X.A.units<cLine) (ha:DE X a ma) (hb:DE X b mb):DT X (.Compare a [.Lt] [b] pos) (AK (mOp Af ma mb)):=E8 (Iv hu) JG ha hb (D1 _)
theorem BD (ha:DE X a ma) (hb:DE X b mb) (hs:Ib b:=by exact fun _ _=>rfl):DE X (.Subscript a b pos) (mOp gIx ma mb):=Pd Oj QR ha hb hs
@[simp] def DZ (m:ME):ME:=fun s=>(m s).bind fun x=>match x.1 with
 | .v (.int i)=>some (.v (.int (-i)),x.2)
 | _=>none
theorem Jg (ha:DE X a ma):DE X (.UnaryOp .USub a pos) (DZ ma):=.mk fun f hf=>PE.imp (JU Kt (ha f hf)) fun σ H Q hh_=>by
 obtain ⟨α,s,r,rs,lo,e,q⟩:=hh_
 obtain ⟨⟨x,s1⟩,h1,e⟩:=bind_some e
 simp only at e
 split at e
 ·rename_i i
  cases e
  exact ⟨α,s,_,rs,lo,h1,fun α' v H' rs' l' x' hv=>⟨i,Am hv,q α' _ H' rs' l' x' T9⟩⟩
 ·cases e
open Ev (Nm)
variable {mg:Str->Option Value}
theorem Rg (T:Nm X.mg) (ha:DA X (e::es) ms) (hg:Gl X "sorted":=by rfl) (he:starEach (e::es) X.env=(false,eval e X.env)::starEach es X.env:=by rfl) (hpl:(backTo pos (starEach es X.env)).any (·.1)=false:=by rfl):DF X (.Call (.Name "sorted" p) (e::es) [] pos) (Au CA ms):=
 LU call_sortedA Kd hg T.sorted PyProof.Rows.boot_sorted ha (by decide) (by decide) he hpl
theorem NM (T:Nm X.mg) (ha:DA X (e::es) ms) (hg:Gl X "list":=by rfl) (he:starEach (e::es) X.env=(false,eval e X.env)::starEach es X.env:=by rfl) (hpl:(backTo pos (starEach es X.env)).any (·.1)=false:=by rfl):DF X (.Call (.Name "list" p) (e::es) [] pos) (Au C9 ms):=
 QX PC Ro hg T.list PyProof.Rows.boot_list ha (by decide) (by decide) he hpl
theorem Bi (T:Nm X.mg) (ha:DA X (e::es) ms) (hg:Gl X "len":=by rfl) (he:starEach (e::es) X.env=(false,eval e X.env)::starEach es X.env:=by rfl) (hpl:(backTo pos (starEach es X.env)).any (·.1)=false:=by rfl):DE X (.Call (.Name "len" p) (e::es) [] pos) (AH AX ms):=
 FW UC S9 hg T.len PySem.boot_len ha (by decide) (by decide) he hpl
theorem K4 (T:Nm X.mg) (ha:DA X (e::es) ms) (hc:X.calm=true:=by rfl) (hg:Gl X "max":=by rfl) (he:starEach (e::es) X.env=(false,eval e X.env)::starEach es X.env:=by rfl) (hpl:(backTo pos (starEach es X.env)).any (·.1)=false:=by rfl):DE X (.Call (.Name "max" p) (e::es) [] pos) (AH C1 ms):=
 FW (Tb hc) Pq hg T.max PyProof.Rows.boot_max ha (by decide) (by decide) he hpl
theorem OO (T:Nm X.mg) (ha:DA X (e::es) ms) (hc:X.calm=true:=by rfl) (hg:Gl X "min":=by rfl) (he:starEach (e::es) X.env=(false,eval e X.env)::starEach es X.env:=by rfl) (hpl:(backTo pos (starEach es X.env)).any (·.1)=false:=by rfl):DE X (.Call (.Name "min" p) (e::es) [] pos) (AH Ey ms):=
 FW (Qg hc) PQ hg T.min PyProof.Rows.boot_min ha (by decide) (by decide) he hpl
theorem Fi {o:Expr} {mo me:ME} (ho:DE X o mo) (he:DE X e me) (hbase:attributeBase o "append" X.env (eval o X.env)=eval o X.env:=by rfl)
  (hfew:((backTo cp (starEach [e] X.env)).all (fun x=>!x.1) && (backToKw cp (keywordEach [] X.env)).all (fun x=>x.1.isSome)
   && decide ([e].length+([]:List Keyword).length+(if ([]:List Keyword).isEmpty then 0 else 1)<30))=true:=by rfl)
  (hline:(apos.endLine == cp.line)=true:=by rfl) (hs:starEach [e] X.env=(false,eval e X.env)::starEach [] X.env:=by rfl):DE X (.Call (.Attribute o "append" apos) [e] [] cp) (CY mo me):=.mk fun f hf=>
 PE.imp (SZ PySem.F.plainAttrs_list PySem.F.slot_list_append PySem.F.type_list_append JW (ho f hf) (BN (he f hf) CD hs) hbase hfew hline hs rfl) fun σ H Q h=>Q8 hf h
@[simp] def KY (mo:ME):ME:=fun s=>(mo s).bind fun x=>match x.1 with
 | .b n=>match x.2.Γ[n]? with
  | some (some xs)=>(xs[xs.length - 1]?).map fun d=>(.v d,{x.2 with Γ:=x.2.Γ.set n (some xs.dropLast)})
  | _=>none
 | _=>none
theorem UJ {W:Wd} {xs:List D} {vs:List V} (h:Reps W xs vs):Reps W xs.dropLast vs.dropLast:=by
 rw[List.dropLast_eq_take,List.dropLast_eq_take,h.len]
 exact h.take _
theorem NP {o:Expr} {mo:ME} (ho:DE X o mo) (hbase:attributeBase o "pop" X.env (eval o X.env)=eval o X.env:=by rfl) (hline:(apos.endLine == cp.line)=true:=by rfl):DE X (.Call (.Attribute o "pop" apos) [] [] cp) (KY mo):=.mk fun f hf=>
 PE.imp (PV PySem.F.plainAttrs_list PySem.F.slot_list_pop PySem.F.type_list_pop OS (ho f hf) hbase hline) fun σ H Q hh_=>by
  obtain ⟨α,s,r,rs,lo,e,q⟩:=hh_
  obtain ⟨⟨x,s1⟩,h1,e⟩:=bind_some e
  simp only at e
  split at e
  case h_2=>cases e
  rename_i n
  split at e
  case h_2=>cases e
  rename_i xs hxs
  obtain ⟨d,hd,rfl⟩:=AZ e
  refine ⟨α,s,_,rs,lo,h1,fun α1 u H1 rs1 l1 x1 hu=>?_⟩
  obtain ⟨us,g1,g2⟩:=rs1.box n xs hxs
  obtain ⟨v,w1,w2⟩:=g2.get hd
  rw[hu.2]
  refine ⟨.inl ⟨rfl,us,SqL.of g1⟩,α1 n,us,v,rfl,rfl,g1,by rw[g2.len];exact w1,?_⟩
  exact q α1 v _ (rs1.put hxs (UJ g2)) l1 (x1.trans (.put hxs)) (w2.kw (Ext.put hxs).kw)
end
section
variable {X:Cx} {f:Fr} {α:Nat->Addr} {s:DS} {σ:St} {H:Hp} {o i e:Expr} {mo mi me:ME} {pos p:Pos}
end
def emp:DS:=⟨[],[],0⟩
@[simp] def scalar:D->Bool
 | .non=>true | .bl _=>true | .int _=>true | .str _=>true | _=>false
def spQ (K:PySem.W.Frag) (np:Nat) (M:List D->Option D):Sp:=fun vs H Q _=>∃ (ds:List D) (r:D),ds.length=np/\Reps ⟨K,fun _=>False,H⟩ ds vs/\M ds=some r/\scalar r=true/\∀ v H',(∀ b o,H b=some o->H' b=some o)->Rep ⟨K,fun _=>False,H'⟩ r v->Q v H'
def frQ (K:PySem.W.Frag) (H:Hp):Fr:=⟨K,H,fun _=>False,fun _=>False,fun _ h=>h,fun _ h=>h.elim⟩
section
variable {P:Program} {w:World} {K:PySem.W.Frag} {mg:Str->Option Value} {base:Heap} {X:Cx} {pos:Pos}
theorem LV {f:Fr} {α:Nat->Addr} {Γ:Gm} {H:Hp}:∀ {ds:List D} {vs:List V},Reps (wd f α Γ H) ds vs->RepVs f α Γ H (ds.map .v) vs
 | [],vs,h=>by rw[h.nil_inv];exact .nil
 | d::ds,vs,h=>by
  obtain ⟨v,r,rfl,h1,h2⟩:=h.cons_inv
  exact .cons h1 (LV h2)
theorem Ls {H:Hp}:RS (frQ K H) (fun _=>0) emp [] H where
 len:=rfl
 slot:=fun i d h=>by cases h
 box:=fun n xs h=>by cases h
 own:=fun n xs h=>by cases h
 inj:=fun n m xs ys h=>by cases h
 fr:=fun b o h _=>h
 forb:=fun a h=>h.elim
theorem Te {fa:Addr} {fd:FuncData} {ps:List Str} {k np:Nat} {M:MD} {M':List D->Option D} (F:FnOk P w K mg base CX0 k fa fd ps (spD K np M)) (h:∀ ds r,ds.length=np->M' ds=some r->scalar r=true->∃ Γ,M (ds.map .v) []=some (r,Γ)):FnOk P w K mg base CX0 k fa fd ps (spQ K np M'):=
 F.imp fun vs H Q E hh_=>by
  obtain ⟨ds,r,a1,a2,a3,a4,a5⟩:=hh_
  obtain ⟨Γ,e⟩:=h ds r a1 a3 a4
  have kw:Kw ⟨K,fun _=>False,H⟩ (wd (frQ K H) (fun _=>0) [] H):=⟨rfl,fun a o _ e=>⟨e,fun z=>by
   rcases z with z | ⟨n,xs,z,_⟩
   ·exact z
   ·cases z⟩⟩
  refine ⟨frQ K H,fun _=>0,emp,[],ds.map .v,(r,Γ),rfl,by rw[List.length_map];exact a1,Ls,LV (a2.kw kw),e,fun α' v H' rs' x' hv=>a5 v H' (fun b o e=>rs'.fr b o e fun z=>z) ?_⟩
  have kw2:Kw (wd (frQ K H) α' Γ H') ⟨K,fun _=>False,H'⟩:=⟨rfl,fun a o _ e=>⟨e,fun z=>z⟩⟩
  exact Rep.kw kw2 hv
@[simp] def dOf (Γ:Gm):SV->Option D
 | .v d=>some d
 | .b n=>((Γ[n]?).join).map .lst
 | .p n d=>((Γ[n]?).join).map fun xs=>.tup [.lst xs,d]
@[simp] def GD (Γ:Gm):List SV->Option (List D)
 | []=>some []
 | x::r=>(dOf Γ x).bind fun d=>(GD Γ r).map (d::·)
theorem join_some {o:Option (Option (List D))} {xs:List D} (h:o.join=some xs):o=some (some xs):=by
 cases o with
 | none=>cases h
 | some o=>exact congrArg some h
theorem NJ {f:Fr} {α:Nat->Addr} {s:DS} {σ:St} {H:Hp} (rs:RS f α s σ H) {x:SV} {d:D} {v:V} (h:dOf s.Γ x=some d) (r:RepV f α s.Γ H x v):Rep ⟨f.K,fun _=>False,H⟩ d v:=by
 have kw:Kw (wd f α s.Γ H) ⟨f.K,fun _=>False,H⟩:=⟨rfl,fun a o _ e=>⟨e,fun z=>z⟩⟩
 cases x with
 | v d=>cases h;exact Rep.kw kw (show Rep _ d v from r)
 | b n=>
  obtain ⟨xs,h1,rfl⟩:=AZ h
  obtain ⟨vs,h2,h3⟩:=rs.box n xs (join_some h1)
  rw[r.2]
  unfold Rep
  exact ⟨α n,vs,rfl,fun z=>z,h2,h3.kw kw⟩
 | p n d=>
  obtain ⟨xs,h1,rfl⟩:=AZ h
  obtain ⟨vs,h2,h3⟩:=rs.box n xs (join_some h1)
  obtain ⟨h0,a,w,rfl,_,h4,h5⟩:=r
  unfold Rep
  refine ⟨a,_,rfl,fun z=>z,h4,.cons ?_ (.cons (h5.kw kw) .nil)⟩
  unfold Rep
  exact ⟨α n,vs,rfl,fun z=>z,h2,h3.kw kw⟩
theorem Ki {f:Fr} {α:Nat->Addr} {s:DS} {σ:St} {H:Hp} (rs:RS f α s σ H):∀ {xs:List SV} {ds:List D} {vs:List V},GD s.Γ xs=some ds->RepVs f α s.Γ H xs vs->Reps ⟨f.K,fun _=>False,H⟩ ds vs
 | [],ds,vs,h,r=>by cases h;rw[r.nil_inv];exact .nil
 | x::xs,ds,vs,h,r=>by
  obtain ⟨d,h1,h⟩:=bind_some h
  obtain ⟨es,h2,rfl⟩:=AZ h
  obtain ⟨v,q,rfl,h3,h4⟩:=r.cons_inv
  exact .cons (NJ rs h1 h3) (Ki rs h2 h4)
theorem Kh:∀ {Γ:Gm} {xs:List SV} {ds:List D},GD Γ xs=some ds->ds.length=xs.length
 | Γ,[],ds,h=>by cases h;rfl
 | Γ,x::xs,ds,h=>by
  obtain ⟨d,h1,h⟩:=bind_some h
  obtain ⟨es,h2,rfl⟩:=AZ h
  rw[List.length_cons,List.length_cons,Kh h2]
@[simp] def Bw (M:List D->Option D) (ms:MA):ME:=fun s=>(ms s).bind fun x=>(GD x.2.Γ x.1).bind fun ds=>(M ds).bind fun r=>if scalar r=true then some (.v r,x.2) else none
theorem NX {W W':Wd} {r:D} {v:V} (h:scalar r=true) (hv:Rep W r v):Rep W' r v:=by
 cases r with
 | non=>unfold Rep at *;exact hv
 | bl b=>unfold Rep at *;exact hv
 | int i=>unfold Rep at *;exact hv
 | str x=>unfold Rep at *;exact hv
 | lst xs=>cases h
 | tup xs=>cases h
 | scr xs=>cases h
 | dic ks xs=>cases h
theorem IB {x:Str} {p:Pos} {e:Expr} {es:List Expr} {fa:Addr} {fd:FuncData} {ps:List Str} {k np:Nat} {M:List D->Option D} {ms:MA} (F:FnOk X.prog X.w X.K X.mg X.base CX0 k fa fd ps (spQ X.K np M)) (hr:Room k X.A) (hg:Gl X x) (hm:X.mg x=some (.ref fa)) (hk:PySem.W.keepIn X.K (.ref fa)=true) (hb:Binds X.K fd ps [])
  (ha:DA X (e::es) ms) (hn:Ar ms np) (hdb:(x == ("__debug__":Str))=false:=by decide) (he:starEach (e::es) X.env=(false,eval e X.env)::starEach es X.env:=by rfl) (hpl:(backTo pos (starEach es X.env)).any (·.1)=false:=by rfl) :
  DE X (.Call (.Name x p) (e::es) [] pos) (Bw M ms):=.mk fun f hf=>PE.imp (E6 F hr hg hm hk hb .nil FO (ha f hf) hdb he hpl) fun σ H Q hh_=>by
 obtain ⟨α,s,r,rs,lo,e0,q⟩:=hh_
 obtain ⟨y,h1,e0⟩:=bind_some e0
 obtain ⟨ds,h2,e0⟩:=bind_some e0
 obtain ⟨z,h3,e0⟩:=bind_some e0
 split at e0
 case isFalse=>cases e0
 rename_i hz
 cases e0
 refine ⟨α,s,y,rs,lo,h1,fun α1 vs H1 rs1 l1 x1 hv=>?_⟩
 dsimp only
 rw[List.append_nil]
 refine ⟨ds,z,by rw[Kh h2];exact hn _ _ h1,by rw[<-hf];exact Ki rs1 h2 hv,h3,hz,fun v H2 sm hw=>?_⟩
 have e2:Ext f α1 α1 y.2.Γ y.2.Γ H1 H2:=⟨⟨rfl,fun a o n e=>⟨sm a o e,n⟩⟩,Nat.le_refl _,fun _ _=>rfl,fun _ xs _ e=>⟨xs,e⟩⟩
 exact q α1 v H2 (rs1.mv e2 sm) l1 (x1.trans e2) (NX hz hw)
end
abbrev MP:=DS->Option ((List D×D)×DS)
def tDP (f:Fr) (m:MP):TE:=fun σ H Q=>∃ α s r,RS f α s σ H/\s.lo<=s.Γ.length/\m s=some r/\∀ α' a t vs w H',RS f α' r.2 σ H'->r.2.lo=s.lo->Ext f α α' s.Γ r.2.Γ H H'->H' a=none->Reps (wd f α' r.2.Γ H') r.1.1 vs->Rep (wd f α' r.2.Γ H') r.1.2 w->H' t=none->t≠a->Q (.ref t) (upd (upd H' a (.lst vs)) t (.tup [.ref a,w]))
structure DP (X:Cx) (e:Expr) (m:MP):Prop where
 h:∀ f:Fr,f.K=X.K->PE X e (tDP f m)
instance {X:Cx} {e:Expr} {m:MP}:CoeFun (DP X e m) fun _=>∀ f:Fr,f.K=X.K->PE X e (tDP f m):=⟨DP.h⟩
section
variable {P:Program} {w:World} {K:PySem.W.Frag} {mg:Str->Option Value} {base:Heap} {f:Fr} {α α':Nat->Addr} {s s':DS} {σ σ':St} {H H':Hp} {X:Cx} {pos:Pos} {e:Expr}
end
section
variable {X:Cx} {f:Fr} {α:Nat->Addr} {s:DS} {σ:St} {H:Hp} {K:PySem.W.Frag} {a b c e:Expr} {ma mb mc:ME} {pos p p2 cp apos:Pos} {es:List Expr} {ms:MA} {lo hi:Option Expr} {ml mh:Option ME}
abbrev MO:=DS->Option (Option Int×DS)
@[simp] def EH (o:Option ME):MO:=fun s=>match o with
 | none=>some (none,s)
 | some m=>(m s).bind fun x=>match x.1 with
  | .v (.int i)=>some (some i,x.2)
  | _=>none
def tDO (f:Fr) (m:MO):TO:=fun σ H Q=>∃ α s r,RS f α s σ H/\s.lo<=s.Γ.length/\m s=some r/\∀ α' H',RS f α' r.2 σ H'->r.2.lo=s.lo->Ext f α α' s.Γ r.2.Γ H H'->Q r.1 H'
structure DO (X:Cx) (e:Option Expr) (m:Option ME):Prop where
 h:∀ f:Fr,f.K=X.K->PO X e (tDO f (EH m))
instance {X:Cx} {e:Option Expr} {m:Option ME}:CoeFun (DO X e m) fun _=>∀ f:Fr,f.K=X.K->PO X e (tDO f (EH m)):=⟨DO.h⟩
theorem PO.imp {o:Option Expr} {t t':TO} (h:PO X o t) (k:∀ σ H Q,t' σ H Q->t σ H Q):PO X o t':=fun pins s σ H Q I q=>h pins s σ H Q I (k _ _ _ q)
theorem KL:DO X none none:=.mk fun f hf=>PO.imp R3 fun σ H Q hh_=>by
 obtain ⟨α,s,r,rs,lo,e0,q⟩:=hh_
 cases e0
 exact q α H rs rfl .refl
theorem L6 (h:DE X e ma):DO X (some e) (some ma):=.mk fun f hf=>PO.imp (UE (h f hf)) fun σ H Q hh_=>by
 obtain ⟨α,s,r,rs,lo,e0,q⟩:=hh_
 obtain ⟨⟨x,s1⟩,h1,e0⟩:=bind_some (show (ma s).bind _=some r from e0)
 simp only at e0
 split at e0
 ·rename_i i
  cases e0
  exact ⟨α,s,_,rs,lo,h1,fun α' v H' rs' l' x' hv=>⟨i,Am hv,q α' H' rs' l' x'⟩⟩
 ·cases e0
def By (z:Str) (l u:Option Int):Str:=if ((Builtin.Str.strSliceIndices l u 1 z.length).length == z.length)=true then z else ⟨((Builtin.Str.strSliceIndices l u 1 z.length).filterMap (z.cps[·]?)).toArray⟩
theorem Kq (z:Str) (l u:Option Int):(By z l u).length<=z.length:=by
 unfold By
 split
 ·exact Nat.le_refl _
 ·show ((Builtin.Str.strSliceIndices l u 1 z.length).filterMap (z.cps[·]?)).toArray.size<=z.length
  rw[List.size_toArray]
  exact Nat.le_trans (List.length_filterMap_le _ _) (PyProof.Rows.indices_len_le _ _ z.length)
def Oa:V->Option Int->Option Int->Hp->VK->Prop:=fun x l u H Q=>∃ z,x=.str z/\z.length<=sizeLine/\Q (.str (By z l u)) H
theorem M4 {v:Value} {o:Option Int} (h:IsPart v o):∃ l:Option (Int×Tok),v=partValue l/\l.map (·.1)=o:=by
 cases h with
 | none=>exact ⟨none,rfl,rfl⟩
 | int i t=>exact ⟨some (i,t),rfl,rfl⟩
theorem OL:SlR X Oa:=by
 intro pins s σ H x v vl vu lo hi sl Q I rx hs pl pu h
 obtain ⟨z,rfl,hz,q⟩:=h
 obtain ⟨t,rfl⟩:=rx
 obtain ⟨l,rfl,hl⟩:=M4 pl
 obtain ⟨u,rfl,hu⟩:=M4 pu
 obtain ⟨o,ho,hc,hd⟩:=hs
 refine ⟨"str",_,F.slot_str_getitem.lookup,typeIs_str s z t,wpAny_getItem_str_slice (l:=l) (u:=u) (st:=none) ⟨o,ho,hc,hd⟩ rfl ?_⟩
 unfold sliceMade
 have e1:slicePicked z l u none=Builtin.Str.strSliceIndices lo hi 1 z.length:=by unfold slicePicked;rw[hl,hu];rfl
 rw[e1]
 have e2:By z lo hi=if ((Builtin.Str.strSliceIndices lo hi 1 z.length).length == z.length)=true then z else ⟨((Builtin.Str.strSliceIndices lo hi 1 z.length).filterMap (z.cps[·]?)).toArray⟩:=rfl
 rw[e2] at q
 by_cases c:((Builtin.Str.strSliceIndices lo hi 1 z.length).length == z.length)=true
 ·rw[if_pos c] at q
  rw[if_pos (by simpa using c)]
  exact ⟨.str z,H,I,⟨_,rfl⟩,q⟩
 ·rw[if_neg c] at q
  rw[if_neg (by simpa using c)]
  refine ⟨?_,.str _,H,I.tok _,⟨_,rfl⟩,q⟩
  have:=Kq z lo hi
  rw[e2,if_neg c] at this
  exact Nat.le_trans this hz
def cutD (xs:List D) (l u:Option Int):List D:=(xs.drop (HT.sIx xs.length 0 l)).take (HT.sIx xs.length xs.length u - HT.sIx xs.length 0 l)
theorem NN {W:Wd} {xs:List D} {vs:List V} (h:Reps W xs vs) (l u:Option Int):Reps W (cutD xs l u) (D8 vs l u):=by
 unfold cutD D8
 rw[h.len]
 exact (h.drop _).take _
@[simp] def gSl (Γ:Gm) (x:SV) (l u:Option Int):Option D:=match x with
 | .v (.str z)=>if z.length<=big then some (.str (By z l u)) else none
 | x=>(elems Γ x).map fun xs=>.lst (cutD xs l u)
@[simp] def mSl (m:ME) (l u:Option ME):ME:=fun s=>(m s).bind fun x=>(EH l x.2).bind fun y=>(EH u y.2).bind fun z=>(gSl z.2.Γ x.1 y.1 z.1).map fun d=>(.v d,z.2)
theorem Ip (ha:DE X a ma) (hl:DO X lo ml) (hh:DO X hi mh):DE X (.Subscript a (.Slice lo hi none p2) pos) (mSl ma ml mh):=.mk fun f hf=>
 PE.imp (ON (sl_list.or OL) (ha f hf) (hl f hf) (hh f hf)) fun σ H Q hh_=>by
  obtain ⟨α,s,r,rs,lo,e0,q⟩:=hh_
  obtain ⟨x,h1,e0⟩:=bind_some e0
  obtain ⟨y,h2,e0⟩:=bind_some e0
  obtain ⟨z,h3,e0⟩:=bind_some e0
  obtain ⟨d,h4,rfl⟩:=AZ e0
  refine ⟨α,s,x,rs,lo,h1,fun α1 v H1 rs1 l1 x1 hv=>⟨α1,x.2,y,rs1,lo_le lo l1 x1,h2,fun α2 H2 rs2 l2 x2=>⟨α2,y.2,z,rs2,lo_le (lo_le lo l1 x1) l2 x2,h3,fun α3 H3 rs3 l3 x3=>?_⟩⟩⟩
  have hv3:=(hv.ext x2).ext x3
  unfold gSl at h4
  split at h4
  ·rename_i str hs
   split at h4
   case isFalse=>cases h4
   rename_i hz
   cases h4
   rw[hs] at hv3
   exact .inr ⟨str,CQ hv3,Dg hz,q α3 _ H3 rs3 (l3.trans (l2.trans l1)) ((x1.trans x2).trans x3) (by show Rep (wd f α3 z.2.Γ H3) (.str _) (.str _);unfold Rep;rfl)⟩
  ·obtain ⟨xs,h5,rfl⟩:=AZ h4
   obtain ⟨p,vs,rfl,g1,g2⟩:=Ba rs3 h5 hv3
   exact .inl ⟨p,vs,rfl,SqL.of g1,fun t ht=>q α3 _ _ (rs3.new ht) (l3.trans (l2.trans l1)) (((x1.trans x2).trans x3).trans (.new rs3 ht)) (EE rs3 ht (NN g2 _ _))⟩
@[simp] def FC (m:ME):MF:=fun s=>(m s).bind fun x=>(elems x.2.Γ x.1).map fun xs=>(xs.reverse,x.2)
theorem L8 {i} {p3:Pos} (ha:DE X a ma):DF X (.Subscript a (.Slice none none (some (.UnaryOp .USub (.Constant (.int 1) i p3) p2)) p) pos) (FC ma):=.mk fun f hf=>
 PE.imp (Ri (ha f hf) (JU Kt My)) fun σ H Q hh_=>by
  obtain ⟨α,s,r,rs,lo,e0,q⟩:=hh_
  obtain ⟨x,h1,e0⟩:=bind_some e0
  obtain ⟨xs,h2,rfl⟩:=AZ e0
  refine ⟨α,s,x,rs,lo,h1,fun α1 v H1 rs1 l1 x1 hv=>?_⟩
  obtain ⟨p,vs,rfl,g1,g2⟩:=Ba rs1 h2 hv
  exact ⟨1,rfl,p,vs,rfl,rfl,SqL.of g1,fun t ht=>q α1 t _ H1 rs1 l1 x1 ht g2.reverse⟩
end
end DL
namespace DL
open PySem L2
open Ev (Nm)
section
variable {X:Cx} {f:Fr} {α:Nat->Addr} {s:DS} {σ:St} {H:Hp} {K:PySem.W.Frag} {a b c e o tg:Expr} {ma mb mc mo me:ME} {pos p p2 cp apos tp:Pos} {es:List Expr} {ms:MA}
@[simp] def tyD:SV->String
 | .v .non=>"NoneType" | .v (.bl _)=>"bool" | .v (.int _)=>"int" | .v (.str _)=>"str" | .v (.lst _)=>"list" | .v (.tup _)=>"tuple" | .v (.scr _)=>"list" | .v (.dic _ _)=>"dict" | .b _=>"list" | .p _ _=>"tuple"
theorem KS {x:SV} {v:V} (rs:RS f α s σ H) (h:RepV f α s.Γ H x v) (hl:∀ n,x=.b n->∃ xs,s.Γ[n]?=some (some xs)) (hs:∀ ns,x≠.v (.scr ns)):TyOf f.K H v (.type (tyD x)):=by
 cases x with
 | v d=>
  cases d with
  | non=>rw[T1 h];exact .non
  | bl b=>rw[Hq h];exact .bl b
  | int i=>rw[Am h];exact .int i
  | str z=>rw[CQ h];exact .str z
  | lst xs=>
   have h:Rep (wd f α s.Γ H) (.lst xs) v:=h
   unfold Rep at h
   obtain ⟨a,vs,rfl,_,h1,_⟩:=h
   exact .lst h1
  | tup xs=>
   obtain ⟨a,vs,rfl,h1,_⟩:=CV h
   exact .tup h1
  | scr ns=>exact absurd rfl (hs ns)
  | dic ks xs=>
   have h:Rep (wd f α s.Γ H) (.dic ks xs) v:=h
   unfold Rep at h
   obtain ⟨a,vs,rfl,_,h1,_⟩:=h
   exact .dK h1
 | b n=>
  obtain ⟨xs,hx⟩:=hl n rfl
  obtain ⟨vs,h1,_⟩:=rs.box n xs hx
  rw[h.2]
  exact .lst h1
 | p n d=>
  obtain ⟨_,a,w,rfl,_,h1,_⟩:=h
  exact .tup h1
@[simp] def IF (Γ:Gm):SV->Bool
 | .b n=>(Γ[n]?).join.isSome
 | .v (.scr _)=>false
 | _=>true
theorem Fp {Γ:Gm} {x:SV} (h:IF Γ x=true):(∀ n,x=.b n->∃ xs,Γ[n]?=some (some xs))/\∀ ns,x≠.v (.scr ns):=by
 refine ⟨fun n e=>?_,fun ns e=>?_⟩
 ·subst e
  obtain ⟨xs,hx⟩:=Option.isSome_iff_exists.mp (show (Γ[n]?).join.isSome=true from h)
  exact ⟨xs,join_some hx⟩
 ·subst e;cases h
@[simp] def isT (T t:String):Option Bool:=
 if T="bool" then some (t == "bool") else if T="int" then some (t == "int" || t == "bool") else if T="str" then some (t == "str") else if T="list" then some (t == "list") else if T="tuple" then some (t == "tuple") else none
theorem Qu (K:PySem.W.Frag) (x:SV):∀ (T:String) (b:Bool),isT T (tyD x)=some b->PySem.W.kitOne K (.type (tyD x)) (.type T)=some b:=by
 intro T b h
 unfold isT at h
 have all:∀ t∈["NoneType","bool","int","str","list","tuple","dict"],PySem.W.kitOne K (.type t) (.type "bool")=some (t == "bool")/\PySem.W.kitOne K (.type t) (.type "int")=some (t == "int" || t == "bool")/\PySem.W.kitOne K (.type t) (.type "str")=some (t == "str")/\PySem.W.kitOne K (.type t) (.type "list")=some (t == "list")/\PySem.W.kitOne K (.type t) (.type "tuple")=some (t == "tuple"):=by
  intro t ht
  simp only[List.mem_cons,List.not_mem_nil,or_false] at ht
  rcases ht with rfl | rfl | rfl | rfl | rfl | rfl | rfl<;>exact ⟨by kernel_rfl,by kernel_rfl,by kernel_rfl,by kernel_rfl,by kernel_rfl⟩
 have mem:tyD x∈["NoneType","bool","int","str","list","tuple","dict"]:=by
  cases x with
  | v d=>cases d<;>simp[tyD]
  | b n=>simp[tyD]
  | p n d=>simp[tyD]
 obtain ⟨h1,h2,h3,h4,h5⟩:=all _ mem
 split at h
 ·rename_i e;subst e;cases h;exact h1
 ·split at h
  ·rename_i e;subst e;cases h;exact h2
  ·split at h
   ·rename_i e;subst e;cases h;exact h3
   ·split at h
    ·rename_i e;subst e;cases h;exact h4
    ·split at h
     ·rename_i e;subst e;cases h;exact h5
     ·cases h
@[simp] def BM (T:String) (m:ME):ME:=fun s=>(m s).bind fun x=>if IF x.2.Γ x.1=true then (isT T (tyD x.1)).map fun b=>(.v (.bl b),x.2) else none
theorem E3 (T:String) {y:Str} (N:Nm X.mg) (ha:DE X a ma) (hT:PE X (.Name y p2) (tC (.ty T))) (hg:Gl X "isinstance":=by rfl) (he:starEach [a,.Name y p2] X.env=(false,eval a X.env)::starEach [.Name y p2] X.env:=by rfl) (he2:starEach [.Name y p2] X.env=(false,eval (.Name y p2) X.env)::starEach [] X.env:=by rfl) (hpl:(backTo pos (starEach [.Name y p2] X.env)).any (·.1)=false:=by rfl) :
  DE X (.Call (.Name "isinstance" p) [a,.Name y p2] [] pos) (BM T ma):=.mk fun f hf=>
 PE.imp (DR Tc hg N.isi PyProof.Rows.boot_isinstance (BN (ha f hf) (BN hT CD he2) he) (by decide) (by decide) he hpl) fun σ H Q hh_=>by
  obtain ⟨α,s,r,rs,lo,e0,q⟩:=hh_
  obtain ⟨x,h1,e0⟩:=bind_some e0
  split at e0
  case isFalse=>cases e0
  rename_i hl
  obtain ⟨k,h2,rfl⟩:=AZ e0
  refine ⟨α,s,x,rs,lo,h1,fun α1 v H1 rs1 l1 x1 hv=>?_⟩
  refine ⟨v,T,tyD x.1,k,rfl,?_,Qu X.K x.1 T k h2,q α1 _ H1 rs1 l1 x1 GU⟩
  rw[<-hf]
  exact KS rs1 hv (Fp hl).1 (Fp hl).2
theorem La (N:Nm X.mg) (ha:DE X a ma) (hg:Gl X "isinstance":=by rfl) (hg2:Gl X "bool":=by rfl) (he:starEach [a,.Name "bool" p2] X.env=(false,eval a X.env)::starEach [.Name "bool" p2] X.env:=by rfl) (he2:starEach [.Name "bool" p2] X.env=(false,eval (.Name "bool" p2) X.env)::starEach [] X.env:=by rfl) (hpl:(backTo pos (starEach [.Name "bool" p2] X.env)).any (·.1)=false:=by rfl):DE X (.Call (.Name "isinstance" p) [a,.Name "bool" p2] [] pos) (BM "bool" ma):=E3 "bool" N ha (C3 (v:=.ty "bool") hg2 N.bool PyProof.Rows.boot_bool rfl) hg he he2 hpl
theorem LC (N:Nm X.mg) (ha:DE X a ma) (hg:Gl X "isinstance":=by rfl) (hg2:Gl X "int":=by rfl) (he:starEach [a,.Name "int" p2] X.env=(false,eval a X.env)::starEach [.Name "int" p2] X.env:=by rfl) (he2:starEach [.Name "int" p2] X.env=(false,eval (.Name "int" p2) X.env)::starEach [] X.env:=by rfl) (hpl:(backTo pos (starEach [.Name "int" p2] X.env)).any (·.1)=false:=by rfl):DE X (.Call (.Name "isinstance" p) [a,.Name "int" p2] [] pos) (BM "int" ma):=E3 "int" N ha (C3 (v:=.ty "int") hg2 N.int PyProof.Rows.boot_int rfl) hg he he2 hpl
theorem JV (N:Nm X.mg) (ha:DE X a ma) (hg:Gl X "isinstance":=by rfl) (hg2:Gl X "str":=by rfl) (he:starEach [a,.Name "str" p2] X.env=(false,eval a X.env)::starEach [.Name "str" p2] X.env:=by rfl) (he2:starEach [.Name "str" p2] X.env=(false,eval (.Name "str" p2) X.env)::starEach [] X.env:=by rfl) (hpl:(backTo pos (starEach [.Name "str" p2] X.env)).any (·.1)=false:=by rfl):DE X (.Call (.Name "isinstance" p) [a,.Name "str" p2] [] pos) (BM "str" ma):=E3 "str" N ha (C3 (v:=.ty "str") hg2 N.str PyProof.Rows.boot_str rfl) hg he he2 hpl
theorem Kr (N:Nm X.mg) (ha:DE X a ma) (hg:Gl X "isinstance":=by rfl) (hg2:Gl X "list":=by rfl) (he:starEach [a,.Name "list" p2] X.env=(false,eval a X.env)::starEach [.Name "list" p2] X.env:=by rfl) (he2:starEach [.Name "list" p2] X.env=(false,eval (.Name "list" p2) X.env)::starEach [] X.env:=by rfl) (hpl:(backTo pos (starEach [.Name "list" p2] X.env)).any (·.1)=false:=by rfl):DE X (.Call (.Name "isinstance" p) [a,.Name "list" p2] [] pos) (BM "list" ma):=E3 "list" N ha (C3 (v:=.ty "list") hg2 N.list PyProof.Rows.boot_list rfl) hg he he2 hpl
theorem Ju (N:Nm X.mg) (ha:DE X a ma) (hg:Gl X "isinstance":=by rfl) (hg2:Gl X "tuple":=by rfl) (he:starEach [a,.Name "tuple" p2] X.env=(false,eval a X.env)::starEach [.Name "tuple" p2] X.env:=by rfl) (he2:starEach [.Name "tuple" p2] X.env=(false,eval (.Name "tuple" p2) X.env)::starEach [] X.env:=by rfl) (hpl:(backTo pos (starEach [.Name "tuple" p2] X.env)).any (·.1)=false:=by rfl):DE X (.Call (.Name "isinstance" p) [a,.Name "tuple" p2] [] pos) (BM "tuple" ma):=E3 "tuple" N ha (C3 (v:=.ty "tuple") hg2 N.tuple PyProof.Rows.boot_tuple rfl) hg he he2 hpl
@[simp] def HB (Ts:List String) (m:ME):ME:=fun s=>(m s).bind fun x=>if IF x.2.Γ x.1=true/\Ts=["list","tuple"] then some (.v (.bl (tyD x.1 == "list" || tyD x.1 == "tuple")),x.2) else none
theorem OH (K:PySem.W.Frag) (x:SV):PySem.W.kitAny K (.type (tyD x)) (["list","tuple"].map Value.type)=some (tyD x == "list" || tyD x == "tuple"):=by
 have all:∀ t∈["NoneType","bool","int","str","list","tuple","dict"],PySem.W.kitAny K (.type t) (["list","tuple"].map Value.type)=some (t == "list" || t == "tuple"):=by
  intro t ht
  simp only[List.mem_cons,List.not_mem_nil,or_false] at ht
  rcases ht with rfl | rfl | rfl | rfl | rfl | rfl | rfl<;>kernel_rfl
 apply all
 cases x with
 | v d=>cases d<;>simp[tyD]
 | b n=>simp[tyD]
 | p n d=>simp[tyD]
theorem N6 {k} {p3 p4:Pos} (N:Nm X.mg) (ha:DE X a ma) (hg:Gl X "isinstance":=by rfl) (hg2:Gl X "list":=by rfl) (hg3:Gl X "tuple":=by rfl) (he:starEach [a,.Tuple [.Name "list" p2,.Name "tuple" p3] k p4] X.env=(false,eval a X.env)::starEach [.Tuple [.Name "list" p2,.Name "tuple" p3] k p4] X.env:=by rfl) (he2:starEach [.Tuple [.Name "list" p2,.Name "tuple" p3] k p4] X.env=(false,eval (.Tuple [.Name "list" p2,.Name "tuple" p3] k p4) X.env)::starEach [] X.env:=by rfl)
  (he3:starEach [.Name "list" p2,.Name "tuple" p3] X.env=(false,eval (.Name "list" p2) X.env)::starEach [.Name "tuple" p3] X.env:=by rfl) (he4:starEach [.Name "tuple" p3] X.env=(false,eval (.Name "tuple" p3) X.env)::starEach [] X.env:=by rfl) (hpl:(backTo pos (starEach [.Tuple [.Name "list" p2,.Name "tuple" p3] k p4] X.env)).any (·.1)=false:=by rfl) :
  DE X (.Call (.Name "isinstance" p) [a,.Tuple [.Name "list" p2,.Name "tuple" p3] k p4] [] pos) (HB ["list","tuple"] ma):=.mk fun f hf=>
 PE.imp (DR Tr hg N.isi PyProof.Rows.boot_isinstance (BN (ha f hf) (BN (Hu (BN (C3 (v:=.ty "list") hg2 N.list PyProof.Rows.boot_list rfl) (BN (C3 (v:=.ty "tuple") hg3 N.tuple PyProof.Rows.boot_tuple rfl) CD he4) he3)) CD he2) he) (by decide) (by decide) he hpl) fun σ H Q hh_=>by
  obtain ⟨α,s,r,rs,lo,e0,q⟩:=hh_
  obtain ⟨x,h1,e0⟩:=bind_some e0
  split at e0
  case isFalse=>cases e0
  rename_i hl
  cases e0
  refine ⟨α,s,x,rs,lo,h1,fun α1 v H1 rs1 l1 x1 hv=>⟨LH,fun t ht=>?_⟩⟩
  have e2:=Ext.new (o:=.tup [.ty "list",.ty "tuple"]) rs1 ht
  refine ⟨v,t,["list","tuple"],tyD x.1,_,rfl,BA,?_,OH X.K x.1,q α1 _ _ (rs1.new ht) l1 (x1.trans e2) GU⟩
  rw[<-hf]
  exact KS (rs1.new ht) (hv.ext e2) (Fp hl.1).1 (Fp hl.1).2
abbrev FY:=gI0 fun i j=>i+j
theorem OU:OpD X FY (ipI fun i j=>i+j):=by
 intro f α s σ H x y u v z Q hf rs hu hv e q
 unfold FY gI0 at e
 split at e
 ·rename_i i j
  cases e
  exact ⟨i,j,Am hu,Am hv,q _ H rs .refl Bn⟩
 ·cases e
end
def Ge:Key->PyData
 | .inl i=>.int i
 | .inr x=>.str x
mutual
def toP:D->PyData
 | .non=>.none
 | .bl b=>.bool b
 | .int i=>.int i
 | .str x=>.str x
 | .lst xs=>.list (Bc xs)
 | .tup xs=>.tuple (Bc xs)
 | .scr ns=>.list (ns.map .int)
 | .dic ks xs=>.dict ((ks.map Ge).zip (Bc xs))
def Bc:List D->List PyData
 | []=>[]
 | d::ds=>toP d::Bc ds
end
def An:Nat->D->Bool
 | _,.non=>true
 | _,.bl _=>true
 | _,.int _=>true
 | _,.str x=>PyData.canLay0 (.str x)
 | 0,.lst _=>false
 | 0,.tup _=>false
 | 0,.scr _=>false
 | n+1,.lst xs=>xs.all (An n)
 | n+1,.tup xs=>xs.all (An n)
 | _+1,.scr _=>true
 | 0,.dic _ _=>false
 | _+1,.dic _ _=>false
theorem Jc:∀ ns:List Int,PyData.canLayAll0 (ns.map .int)=true/\PyData.depthAll (ns.map .int)=0
 | []=>⟨by simp[PyData.canLayAll0],by simp[PyData.depthAll]⟩
 | n::ns=>by
  obtain ⟨h1,h2⟩:=Jc ns
  exact ⟨by simp[PyData.canLayAll0,PyData.canLay0,h1],by simp[PyData.depthAll,PyData.depth,h2]⟩
theorem IR {n:Nat} (ih:∀ d,An n d=true->(toP d).canLay0=true/\(toP d).depth<=n):∀ xs:List D,xs.all (An n)=true->PyData.canLayAll0 (Bc xs)=true/\PyData.depthAll (Bc xs)<=n
 | [],_=>⟨by simp[Bc,PyData.canLayAll0],by simp[Bc,PyData.depthAll]⟩
 | d::ds,h=>by
  rw[List.all_cons,Bool.and_eq_true] at h
  obtain ⟨a1,a2⟩:=ih d h.1
  obtain ⟨b1,b2⟩:=IR ih ds h.2
  exact ⟨by simp[Bc,PyData.canLayAll0,a1,b1],by simp only[Bc,PyData.depthAll];lia⟩
theorem C8:∀ (n:Nat) (d:D),An n d=true->(toP d).canLay0=true/\(toP d).depth<=n
 | n,.non,_=>⟨by simp[toP,PyData.canLay0],by simp[toP,PyData.depth]⟩
 | n,.bl _,_=>⟨by simp[toP,PyData.canLay0],by simp[toP,PyData.depth]⟩
 | n,.int _,_=>⟨by simp[toP,PyData.canLay0],by simp[toP,PyData.depth]⟩
 | n,.str x,h=>⟨by unfold An at h;unfold toP;exact h,by simp[toP,PyData.depth]⟩
 | 0,.lst _,h=>by unfold An at h;cases h
 | 0,.tup _,h=>by unfold An at h;cases h
 | 0,.scr _,h=>by unfold An at h;cases h
 | n+1,.lst xs,h=>by
  unfold An at h
  obtain ⟨a,b⟩:=IR (C8 n) xs h
  exact ⟨by simpa [toP,PyData.canLay0] using a,by simp only[toP,PyData.depth];lia⟩
 | n+1,.tup xs,h=>by
  unfold An at h
  obtain ⟨a,b⟩:=IR (C8 n) xs h
  exact ⟨by simpa [toP,PyData.canLay0] using a,by simp only[toP,PyData.depth];lia⟩
 | 0,.dic _ _,h=>by unfold An at h;cases h
 | n+1,.dic _ _,h=>by unfold An at h;cases h
 | n+1,.scr ns,h=>by
  obtain ⟨a,b⟩:=Jc ns
  exact ⟨by simpa [toP,PyData.canLay0] using a,by simp only[toP,PyData.depth];lia⟩
section
variable {X:Cx} {pins:List (Addr×Obj)} {σ:St} {s:Shared} {W:Wd}
theorem Kg:∀ {ns:List Int} {us:List Value},Vals (ns.map V.int) us->∃ as,ReadsAll s.heap us (ns.map PyData.int) as
 | [],_,h=>by cases h;exact ⟨_,.nil⟩
 | n::ns,_,h=>by
  cases h with
  | cons r t=>
   obtain ⟨k,rfl⟩:=r
   obtain ⟨as,h⟩:=Kg t
   exact ⟨_,.cons (.int n k) h⟩
theorem Ln {P:Program} {w:World}:∀ {ks:List Key} {vs:List V} {ws:List (Key×Value)} {es:List DictEntry},ks.length=vs.length->KV (ks.zip vs) ws->Pairs (Fl P w) es ws->Vals vs (es.map (·.val))/\∀ h:Heap,∃ as,ReadsAll h (es.map (·.key)) (ks.map Ge) as
 | [],[],_,_,_,k,p=>by
  cases k
  cases p
  exact ⟨.nil,fun h=>⟨_,.nil⟩⟩
 | k::ks,v::vs,_,_,l,k',p=>by
  cases k' with
  | cons r t=>
   cases p with
   | cons p1 p2 p3=>
    obtain ⟨a1,a2⟩:=Ln (by simpa using l) t p3
    obtain ⟨r1,r2⟩:=r
    refine ⟨.cons (by show RelV v (DictEntry.val _);rw[p2];exact r2) a1,fun h=>?_⟩
    obtain ⟨as,q⟩:=a2 h
    have r1:k=_:=r1
    rw[<-r1] at p1
    rename_i en _ _
    have z:G7 k en.key=true:=p1
    have e:∃ bs,Reads h en.key (Ge k) bs:=by
     rcases CU z with ⟨i,t,rfl,e⟩ | ⟨x,t,rfl,e⟩
     ·exact ⟨_,by rw[e];exact .int i t⟩
     ·exact ⟨_,by rw[e];exact .str x t⟩
    obtain ⟨bs,e⟩:=e
    exact ⟨_,.cons e q⟩
 | [],_::_,_,_,l,_,_=>by cases l
 | _::_,[],_,_,l,_,_=>by cases l
mutual
theorem EN (I:Inv X pins σ W.H s) (hk:W.K=X.K):∀ {d:D} {v:V} {u:Value},Rep W d v->RelV v u->∃ as,Reads s.heap u (toP d) as
 | .non,v,u,h,r=>by
  unfold Rep at h;subst h;cases (show u=_ from r);unfold toP;exact ⟨_,.none⟩
 | .bl b,v,u,h,r=>by
  unfold Rep at h;subst h;cases (show u=_ from r);unfold toP;exact ⟨_,.bool b⟩
 | .int i,v,u,h,r=>by
  unfold Rep at h;subst h;obtain ⟨t,rfl⟩:=(show ∃ t,u=Value.int i t from r);unfold toP;exact ⟨_,.int i t⟩
 | .str i,v,u,h,r=>by
  unfold Rep at h;subst h;obtain ⟨t,rfl⟩:=(show ∃ t,u=Value.str i t from r);unfold toP;exact ⟨_,.str i t⟩
 | .lst xs,v,u,h,r=>by
  unfold Rep at h
  obtain ⟨a,vs,rfl,_,h1,h2⟩:=h
  cases (show u=_ from r)
  obtain ⟨its,ri,⟨o,n,e1,e2,_,e3⟩,_⟩:=I.list (SqL.of h1)
  obtain ⟨as,q⟩:=Gh I hk h2 ri
  unfold toP
  exact ⟨_,.list e1 e2 e3 q⟩
 | .tup xs,v,u,h,r=>by
  unfold Rep at h
  obtain ⟨a,vs,rfl,_,h1,h2⟩:=h
  cases (show u=_ from r)
  obtain ⟨its,ri,⟨o,e1,e2,n,e3⟩,_⟩:=I.tuple (SqT.of h1)
  obtain ⟨as,q⟩:=Gh I hk h2 ri
  unfold toP
  exact ⟨_,.tuple e1 e2 e3 q⟩
 | .scr ns,v,u,h,r=>by
  unfold Rep at h
  obtain ⟨a,rfl,h⟩:=h
  cases (show u=_ from r)
  have hs:SqL X.K W.H a (ns.map V.int):=by
   rcases h with ⟨_,h⟩ | h
   ·exact .inl h
   ·rw[<-hk];exact h _
  obtain ⟨its,ri,⟨o,n,e1,e2,_,e3⟩,_⟩:=I.list hs
  obtain ⟨as,q⟩:=Kg (s:=s) ri
  unfold toP
  exact ⟨_,.list e1 e2 e3 q⟩
 | .dic ks xs,v,u,h,r=>by
  unfold Rep at h
  obtain ⟨a,vs,rfl,_,h1,h2,h3⟩:=h
  cases (show u=_ from r)
  obtain ⟨_,_,ws,kv,o,es,ep,e1,⟨e2,_,_⟩,e3,_,pr,_⟩:=I.hok a _ h1
  obtain ⟨a1,a2⟩:=Ln h2 kv pr
  obtain ⟨as,q1⟩:=a2 s.heap
  obtain ⟨bs,q2⟩:=Gh I hk h3 a1
  have hl:(ks.map Ge).length=(Bc xs).length:=by
   have z:∀ l:List D,(Bc l).length=l.length:=by
    intro l
    induction l with
    | nil=>rfl
    | cons d l ih=>unfold Bc;rw[List.length_cons,List.length_cons,ih]
   rw[List.length_map,z,h2,h3.len]
  unfold toP
  exact ⟨_,.dict e1 e2 e3 (by rw[List.map_fst_zip (Nat.le_of_eq hl)];exact q1) (by rw[List.map_snd_zip (Nat.le_of_eq hl.symm)];exact q2)⟩
theorem Gh (I:Inv X pins σ W.H s) (hk:W.K=X.K):∀ {ds:List D} {vs:List V} {us:List Value},Reps W ds vs->Vals vs us->∃ as,ReadsAll s.heap us (Bc ds) as
 | [],vs,us,h,r=>by
  cases h.nil_inv;cases r;unfold Bc;exact ⟨_,.nil⟩
 | d::ds,vs,us,h,r=>by
  obtain ⟨v,q,rfl,h1,h2⟩:=h.cons_inv
  cases r with
  | cons r1 r2=>
   obtain ⟨as,a⟩:=EN I hk h1 r1
   obtain ⟨bs,b⟩:=Gh I hk h2 r2
   unfold Bc
   exact ⟨_,.cons a b⟩
end
end
def deq (d e:D):Bool:=PyData.eqv (toP d) (toP e)
@[simp] def treeOf (Γ:Gm):SV->Option D
 | .v d=>some d
 | .b n=>((Γ[n]?).join).map .lst
 | .p n d=>((Γ[n]?).join).map fun xs=>.tup [.lst xs,d]
@[simp] def ET:Gm->SV->SV->Option Bool:=fun Γ x y=>match treeOf Γ x,treeOf Γ y with
 | some d,some e=>if An 6 d && An 6 e then some (deq d e) else none
 | _,_=>none
@[simp] def LS:Gm->SV->SV->Option D:=fun Γ x y=>(ET Γ x y).map .bl
@[simp] def Ij:Gm->SV->SV->Option D:=fun Γ x y=>(ET Γ x y).map fun b=>.bl !b
def F0 (K:PySem.W.Frag):R2:=fun x y H Q=>∃ (W:Wd) (d e:D),W.K=K/\W.H=H/\Rep W d x/\Rep W e y/\An 6 d=true/\An 6 e=true/\Q (.bl (deq d e)) H
def FQ (K:PySem.W.Frag):R2:=fun x y H Q=>∃ (W:Wd) (d e:D),W.K=K/\W.H=H/\Rep W d x/\Rep W e y/\An 6 d=true/\An 6 e=true/\Q (.bl (!deq d e)) H
section
variable {X:Cx} {f:Fr} {α:Nat->Addr} {s:DS} {σ:St} {H:Hp} {a b:Expr} {ma mb:ME} {pos:Pos}
theorem Pu (hu:X.A.units+64<cLine):OpR X (compareOp .Eq) (F0 X.K):=by
 intro pins s σ H x y v u Q I rx ry h
 obtain ⟨W,d,e,hk,rfl,hd,he,s1,s2,k⟩:=h
 obtain ⟨as,r1⟩:=EN I hk hd rx
 obtain ⟨bs,r2⟩:=EN I hk he ry
 obtain ⟨a1,a2⟩:=C8 _ _ s1
 obtain ⟨b1,b2⟩:=C8 _ _ s2
 exact SeqAt.compareEq_reads r1 r2 a1 b1 (by lia) ⟨.bl (deq d e),W.H,I,rfl,k⟩
theorem OQ (hu:X.A.units+64<cLine):OpR X (compareOp .NotEq) (FQ X.K):=by
 intro pins s σ H x y v u Q I rx ry h
 obtain ⟨W,d,e,hk,rfl,hd,he,s1,s2,k⟩:=h
 obtain ⟨as,r1⟩:=EN I hk hd rx
 obtain ⟨bs,r2⟩:=EN I hk he ry
 obtain ⟨a1,a2⟩:=C8 _ _ s1
 obtain ⟨b1,b2⟩:=C8 _ _ s2
 exact SeqAt.rcNeAt_reads r1 r2 a1 b1 (by lia) X.prog X.w _ _ ⟨.bl (!deq d e),W.H,I,rfl,k⟩
theorem Gi (W:Wd):Kw W ⟨W.K,fun _=>False,W.H⟩:=⟨rfl,fun _ _ _ e=>⟨e,fun h=>h⟩⟩
theorem JF {x:SV} {d:D} {v:V} (rs:RS f α s σ H) (h:treeOf s.Γ x=some d) (r:RepV f α s.Γ H x v):Rep ⟨f.K,fun _=>False,H⟩ d v:=by
 unfold treeOf at h
 split at h
 ·cases h
  exact Rep.kw (Gi (wd f α s.Γ H)) r
 ·rename_i n
  obtain ⟨xs,hx,rfl⟩:=AZ h
  obtain ⟨p,vs,rfl,h1,h2⟩:=Ba (d:=.b n) rs hx r
  unfold Rep
  exact ⟨p,vs,rfl,fun h=>h,h1,Reps.kw (Gi (wd f α s.Γ H)) h2⟩
 ·rename_i n e
  obtain ⟨xs,hx,rfl⟩:=AZ h
  obtain ⟨hn,p,w,rfl,_,h1,h2⟩:=r
  obtain ⟨q,vs,hq,h3,h4⟩:=Ba (d:=.b n) rs hx ⟨hn,rfl⟩
  unfold Rep
  refine ⟨p,_,rfl,fun h=>h,h1,.cons ?_ (.cons (Rep.kw (Gi (wd f α s.Γ H)) h2) .nil)⟩
  unfold Rep
  exact ⟨q,vs,hq,fun h=>h,h3,Reps.kw (Gi (wd f α s.Γ H)) h4⟩
theorem Li {x y:SV} {b:Bool} {u v:V} (hf:f.K=X.K) (rs:RS f α s σ H) (hu:RepV f α s.Γ H x u) (hv:RepV f α s.Γ H y v) (h:ET s.Γ x y=some b) :
  ∃ (W:Wd) (d e:D),W.K=X.K/\W.H=H/\Rep W d u/\Rep W e v/\An 6 d=true/\An 6 e=true/\deq d e=b:=by
 unfold ET at h
 split at h
 ·rename_i d e h1 h2
  split at h
  ·rename_i hs
   cases h
   rw[Bool.and_eq_true] at hs
   exact ⟨_,d,e,hf,rfl,JF rs h1 hu,JF rs h2 hv,hs.1,hs.2,rfl⟩
  ·cases h
 ·cases h
theorem Ov:OpD X LS (F0 X.K):=by
 intro f α s σ H x y u v z Q hf rs hu hv e q
 obtain ⟨b,hb,rfl⟩:=AZ e
 obtain ⟨W,d,c,h1,h2,h3,h4,h5,h6,rfl⟩:=Li hf rs hu hv hb
 exact ⟨W,d,c,h1,h2,h3,h4,h5,h6,q _ H rs .refl Bg⟩
theorem N5:OpD X Ij (FQ X.K):=by
 intro f α s σ H x y u v z Q hf rs hu hv e q
 obtain ⟨b,hb,rfl⟩:=AZ e
 obtain ⟨W,d,c,h1,h2,h3,h4,h5,h6,rfl⟩:=Li hf rs hu hv hb
 exact ⟨W,d,c,h1,h2,h3,h4,h5,h6,q _ H rs .refl Bg⟩
@[simp] def BI:Gm->SV->SV->Option D:=fun Γ x y=>match gEq Γ x y with
 | some z=>some z
 | none=>LS Γ x y
@[simp] def BO:Gm->SV->SV->Option D:=fun Γ x y=>match gNe Γ x y with
 | some z=>some z
 | none=>Ij Γ x y
theorem JQ:OpD X BI (fun x y H Q=>GW X.K x y H Q\/F0 X.K x y H Q):=by
 intro f α s σ H x y u v z Q hf rs hu hv e q
 unfold BI at e
 split at e
 ·rename_i z' hz
  cases e
  exact .inl (OW f α s σ H x y u v z Q hf rs hu hv hz q)
 ·exact .inr (Ov f α s σ H x y u v z Q hf rs hu hv e q)
theorem Nn:OpD X BO (fun x y H Q=>Gg X.K x y H Q\/FQ X.K x y H Q):=by
 intro f α s σ H x y u v z Q hf rs hu hv e q
 unfold BO at e
 split at e
 ·rename_i z' hz
  cases e
  exact .inl (N1 f α s σ H x y u v z Q hf rs hu hv hz q)
 ·exact .inr (N5 f α s σ H x y u v z Q hf rs hu hv e q)
theorem NA (hu:X.A.units+64<cLine):OpR X (compareOp .Eq) (fun x y H Q=>GW X.K x y H Q\/F0 X.K x y H Q):=(UI (by lia)).or (Pu hu)
theorem Rp (hu:X.A.units+64<cLine):OpR X (compareOp .NotEq) (fun x y H Q=>Gg X.K x y H Q\/FQ X.K x y H Q):=(SO (by lia)).or (OQ hu)
theorem Hk (hu:X.A.units+64<cLine) (ha:DE X a ma) (hb:DE X b mb):DE X (.Compare a [.Eq] [b] pos) (mOp BI ma mb):=NL (NA hu) JQ ha hb (D1 _)
theorem EU (hu:X.A.units+64<cLine) (ha:DE X a ma) (hb:DE X b mb):DT X (.Compare a [.Eq] [b] pos) (AK (mOp BI ma mb)):=E8 (NA hu) JQ ha hb (D1 _)
theorem Eh (hu:X.A.units+64<cLine) (ha:DE X a ma) (hb:DE X b mb):DT X (.Compare a [.NotEq] [b] pos) (AK (mOp BO ma mb)):=E8 (Rp hu) Nn ha hb (D1 _)
end
theorem Qa {n:Nat} {d:D} (h:An n d=true):deq d d=true:=SeqAt.eqv_refl _ (C8 n d h).1
end DL
namespace DL
open PySem L2
open Ev (Nm)
section
variable {X:Cx} {f:Fr} {α:Nat->Addr} {s:DS} {σ:St} {H:Hp} {a b e:Expr} {ma mb:ME} {pos p:Pos} {es:List Expr} {ms:MA}
end
end DL
namespace DL
open PySem L2
open PyProof.Rows (IntsAre boot_sum)
section
variable {X:Cx} {f:Fr} {α:Nat->Addr} {s:DS} {σ:St} {H:Hp} {a b e:Expr} {ma mb:ME} {pos p:Pos} {es:List Expr} {ms:MA}
theorem intsAre_of:∀ {ns:List Int} {us:List Value},Vals (ns.map V.int) us->IntsAre us ns
 | [],_,h=>by cases h;exact .nil
 | n::ns,_,h=>by
  cases h with
  | cons r t=>
   obtain ⟨k,rfl⟩:=r
   exact .cons n k (intsAre_of t)
theorem UA (hc:X.calm=true):CallR X (.builtin "sum") (fun xs H Q=>∃ (p:Addr) (ns:List Int),xs=[.ref p]/\SqL X.K H p (ns.map V.int)/\Q (.int ns.sum) H):=by
 intro pins s σ H xs us Q I r h
 obtain ⟨p,ns,rfl,hq,q⟩:=h
 obtain ⟨u,rfl,rx⟩:=vals1 r
 cases rx
 obtain ⟨its,ri,pl,hz⟩:=I.list hq
 have hi:=intsAre_of ri
 have hn:=hi.numsOf
 obtain ⟨xs,hx⟩:=hi.allInts.items
 have hl:=pl.isList
 rw[hx] at hl
 refine sum_intListG (I.ok.hd hc) hl fun h' tk t' hk=>⟨.int ns.sum,H,I.kept hk,⟨t',?_⟩,q⟩
 rw[preSum_eq,List.take_of_length_le (by simp),<-hn]
 have:its=(intItems xs).toList:=by rw[<-hx]
 rw[this,nums_intItems]
@[simp] def BJ:Gm->List SV->Option D:=fun Γ xs=>match xs with
 | [x]=>match elems Γ x with
  | some xs=>(intsOf xs).map fun ns=>.int ns.sum
  | _=>none
 | _=>none
theorem Qn:CaD X BJ (fun xs H Q=>∃ (p:Addr) (ns:List Int),xs=[.ref p]/\SqL X.K H p (ns.map V.int)/\Q (.int ns.sum) H):=by
 intro f α s σ H xs us z Q hf rs hu e q
 unfold BJ at e
 split at e
 ·rename_i x
  split at e
  ·rename_i ys hy
   obtain ⟨ns,hn,rfl⟩:=AZ e
   obtain ⟨v,r,rfl,h1,h2⟩:=hu.cons_inv
   rw[h2.nil_inv]
   obtain ⟨a,vs,rfl,h3,h4⟩:=Ba rs hy h1
   rw[CW hn] at h4
   rw[h4.ints] at h3
   exact ⟨a,ns,rfl,SqL.of h3,q _ H rs .refl Bn⟩
  ·cases e
 ·cases e
theorem Ew (hn:X.mg "sum"=none) (ha:DA X (e::es) ms) (hc:X.calm=true:=by rfl) (hg:Gl X "sum":=by rfl) (he:starEach (e::es) X.env=(false,eval e X.env)::starEach es X.env:=by rfl) (hpl:(backTo pos (starEach es X.env)).any (·.1)=false:=by rfl):DE X (.Call (.Name "sum" p) (e::es) [] pos) (AH BJ ms):=
 FW (UA hc) Qn hg hn boot_sum ha (by decide) (by decide) he hpl
end
end DL
namespace L2
open PySem PySem.SeqAt
open PySem.AutoSeq1 (wpAny_loadPart')
open PySem.MeetsSeq PySem.MeetsSeq2 PySem.MeetsSeq3
open PyProof.Rows (IntsAre IsTup)
theorem OI (l b:Addr) (items items2:Array Value) (n n2:Nat) (dd dd2:Option Addr) (sl sl2:Array (Option Value)) (ns ms:List Int) (hi:IntsAre items.toList ns) (hj:IntsAre items2.toList ms) :
  Meets (Builtin.«tuple.__ge__» ⟨[.ref l,.ref b],[]⟩)
   (fun _ R s=>s.heap.get? l=some {cls:=.type "tuple",dict:=dd,data:=.seq items n,slots:=sl}/\s.heap.get? b=some {cls:=.type "tuple",dict:=dd2,data:=.seq items2 n2,slots:=sl2} /\
    R (.ok (.ret (.bool (!HT.lexLt ns ms)))) s):=
 .of_wp fun prog w A R s h=>by
  obtain ⟨hp,g,d,tk,os⟩:=s
  obtain ⟨hl,hb,h⟩:=h
  have f2:=AutoSeq1.sub_tuple_tuple
  have z1:ns.length=items.size:=by rw[<-hi.length];simp
  have z2:ms.length=items2.size:=by rw[<-hj.length];simp
  wp_walk using wpAny_loadPart' hl,wpAny_loadPart' hb,wpAny_forIn_list _ (fun left r s'=>∃ (us vs:List Value) (ps qs:List Int),left=us.zip vs/\IntsAre us ps/\IntsAre vs qs /\
   ps.length+ms.length=qs.length+ns.length/\R (.ok (.ret (.bool (!HT.lexLt ps qs)))) ⟨hp,g,d,tk,os⟩/\r.1=none/\s'=⟨hp,g,d,tk,os⟩) _
  case turn=>
   rintro ⟨y,x⟩ left r s' ⟨us,vs,ps,qs,hz,iu,iv,hn,hR,hr,rfl⟩
   cases iu with
   | nil=>cases hz
   | cons i t iu=>
    cases iv with
    | nil=>cases hz
    | cons j k iv=>
     obtain ⟨⟨rfl,rfl⟩,rfl⟩:(y=.int i t/\x=.int j k)/\left=_:=by
      rw[List.zip_cons_cons] at hz
      injection hz with p q
      injection p with p1 p2
      exact ⟨⟨p1,p2⟩,q⟩
     rw[HT.Cf] at hR
     simp only[List.length_cons] at hn
     refine wpAny_bind (SeqAt.EqAt.int_int i t j k prog w _ _ ?_)
     by_cases c:i=j
     ·rw[if_pos c] at hR
      subst c
      rw[beq_self_eq_true]
      wp_walk
      exact ⟨_,_,_,_,rfl,iu,iv,by lia,hR,rfl,rfl⟩
     ·rw[if_neg c] at hR
      rw[show (i == j)=false from beq_false_of_ne c]
      have hge:∀ (E:Value->Shared->Prop) (Q:Value->Shared->Prop),Q (.bool (decide (j<=i))) ⟨hp,g,d,tk,os⟩->wpAny (model prog w) A.in1 (richCompare .GtE (.int i t) (.int j k)) Q E ⟨hp,g,d,tk,os⟩:=
       fun E Q h=>(PyProof.Rows.ge_int h:wpAny (model prog w) A.in1 (compareOp .GtE (.int i t) (.int j k)) Q E _)
      wp_walk using hge
      refine ⟨_,rfl,?_⟩
      have e:(!decide (i<j))=decide (j<=i):=by
       by_cases c':i<j
       ·rw[decide_eq_true c',decide_eq_false (by lia)];rfl
       ·rw[decide_eq_false c',decide_eq_true (by lia)];rfl
      rw[e] at hR
      simpa using hR
  case fin=>
   rintro ⟨b1,b2⟩ s' ⟨us,vs,ps,qs,hz,iu,iv,hn,hR,hr,rfl⟩
   simp only at hr
   subst hr
   have e:(!HT.lexLt ps qs)=decide (items2.size<=items.size):=by
    cases iu with
    | nil=>
     cases iv with
     | nil=>rw[HT.IG,decide_eq_true (by simp at hn;lia)];rfl
     | cons _ _ _=>rw[HT.IJ,decide_eq_false (by simp at hn;lia)];rfl
    | cons _ _ _=>
     cases iv with
     | nil=>rw[HT.HH,decide_eq_true (by simp at hn;lia)];rfl
     | cons _ _ _=>cases hz
   rw[e] at hR
   wp_walk
   exact ⟨_,rfl,by simpa [Builtin.Tuple.tupleCompareSizes] using hR⟩
  case h=>
   exact ⟨_,_,ns,ms,rfl,hi,hj,by lia,h,rfl,rfl⟩
section
variable {X:Cx}
def MM (K:PySem.W.Frag):R2:=fun x y H Q=>∃ (a b:Addr) (ns ms:List Int),x=.ref a/\y=.ref b/\SqT K H a (ns.map V.int)/\SqT K H b (ms.map V.int)/\Q (.bl (!HT.lexLt ns ms)) H
theorem SR (hu:X.A.units<cLine):OpR X (compareOp .GtE) (MM X.K):=by
 intro pins s σ H x y v u Q I rx ry h
 obtain ⟨a,b,ns,ms,rfl,rfl,ha,hb,q⟩:=h
 cases rx
 cases ry
 obtain ⟨is,r1,⟨⟨cls,dd,data,sl⟩,e1,e2,n,e3⟩,_⟩:=I.tuple ha
 obtain ⟨js,r2,⟨⟨cls',dd',data',sl'⟩,e1',e2',n',e3'⟩,_⟩:=I.tuple hb
 simp only at e2 e3 e2' e3'
 subst e2 e3 e2' e3'
 have i1:IntsAre is.toArray.toList ns:=DL.intsAre_of r1
 have i2:IntsAre js.toArray.toList ms:=DL.intsAre_of r2
 refine richCompare_meets_room (op:=.GtE) ⟨_,e1,rfl⟩ ⟨_,e1',rfl⟩ PySem.F.slot_tuple_ge PySem.F.entry_tuple_ge (PySem.F.args_tuple_ge_2 _ _) (OI a b _ _ n n' dd dd' sl sl' ns ms i1 i2) ⟨e1,e1',?_⟩ hu
 exact (show Value.bool (!HT.lexLt ns ms)≠Value.notImplemented/\EP X pins σ Q (.bool (!HT.lexLt ns ms)) s from ⟨fun z=>(nomatch z),.bl (!HT.lexLt ns ms),H,I,rfl,q⟩)
end
end L2
namespace DL
open PySem L2
section
variable {X:Cx} {a b:Expr} {ma mb:ME} {pos:Pos}
@[simp] def GQ:Gm->SV->SV->Option D:=fun _ x y=>match x,y with
 | .v (.int i),.v (.int j)=>some (.bl (decide (j<=i)))
 | .v (.tup xs),.v (.tup ys)=>(intsOf xs).bind fun ns=>(intsOf ys).map fun ms=>.bl (!HT.lexLt ns ms)
 | _,_=>none
def Jw (K:PySem.W.Frag):R2:=fun x y H Q=>rI0 (fun i j=>.bl (decide (j<=i))) x y H Q\/MM K x y H Q
theorem Ru (hu:X.A.units<cLine):OpR X (compareOp .GtE) (Jw X.K):=op_ge.or (SR hu)
theorem QM:OpD X GQ (Jw X.K):=by
 intro f α s σ H x y u v z Q hf rs hu hv e q
 unfold GQ at e
 split at e
 ·rename_i i j
  cases e
  exact .inl ⟨i,j,Am hu,Am hv,q _ H rs .refl Bg⟩
 ·rename_i xs ys
  obtain ⟨ns,h1,e⟩:=bind_some e
  obtain ⟨ms,h2,rfl⟩:=AZ e
  have:=CW h1
  subst this
  have:=CW h2
  subst this
  obtain ⟨a,vs,rfl,a1,a2⟩:=CV hu
  obtain ⟨b,us,rfl,b1,b2⟩:=CV hv
  rw[a2.ints] at a1
  rw[b2.ints] at b1
  exact .inr ⟨a,b,ns,ms,rfl,rfl,SqT.of a1,SqT.of b1,q _ H rs .refl Bg⟩
 ·cases e
theorem Sg (hu:X.A.units<cLine) (ha:DE X a ma) (hb:DE X b mb):DT X (.Compare a [.GtE] [b] pos) (AK (mOp GQ ma mb)):=E8 (Ru hu) QM ha hb (D1 _)
end
end DL
namespace L2
open PySem PySem.Spec PyProof.Rows
section
variable {prog:Program} {w:World} {A:Around} {E:Value->Shared->Prop} {s:Shared}
end
end L2
namespace DL
open PySem L2
section
variable {X:Cx} {f:Fr} {α:Nat->Addr} {s:DS} {σ:St} {H:Hp} {a b:Expr} {p cp tp:Pos} {ms:MA}
end
section
variable {X:Cx} {f:Fr} {a b c:Expr} {ma mb mc:ME} {pos:Pos} {r r':R2} {g g':Gm->SV->SV->Option D}
@[simp] def Bt (g g':Gm->SV->SV->Option D) (ma mb mc:ME):ME:=fun s=>(ma s).bind fun x=>(mb x.2).bind fun y=>(g y.2.Γ x.1 y.1).bind fun z=>match z with
 | .bl true=>(mc y.2).bind fun w=>(g' w.2.Γ y.1 w.1).map fun z=>(.v z,w.2)
 | .bl false=>some (.v (.bl false),y.2)
 | _=>none
theorem Py {σ:St} {H:Hp} {Q:VK} (hf:f.K=X.K) (hg:OpD X g r) (hg':OpD X g' r') (h:tD f (Bt g g' ma mb mc) σ H Q):Lc r r' (tD f ma) (tD f mb) (tD f mc) σ H Q:=by
 obtain ⟨α,s,out,rs,lo,e,q⟩:=h
 obtain ⟨⟨x,s1⟩,h1,e⟩:=bind_some e
 obtain ⟨⟨y,s2⟩,h2,e⟩:=bind_some e
 obtain ⟨z,hz,e⟩:=bind_some e
 refine ⟨α,s,_,rs,lo,h1,fun α1 u H1 rs1 l1 x1 hu=>⟨α1,s1,_,rs1,lo_le lo l1 x1,h2,fun α2 v H2 rs2 l2 x2 hv=>?_⟩⟩
 refine hg f α2 s2 σ H2 x y u v z _ hf rs2 (hu.ext x2) hv hz fun w H3 rs3 x3 hw=>?_
 split at e
 ·have hw':w=.bl true:=by unfold Rep at hw;exact hw
  refine ⟨true,hw',?_⟩
  rw[if_pos rfl]
  obtain ⟨⟨t,s4⟩,h4,e⟩:=bind_some e
  obtain ⟨z',hz',rfl⟩:=AZ e
  have lo2:=lo_le (lo_le lo l1 x1) l2 x2
  refine ⟨α2,s2,_,rs3,lo2,h4,fun α4 v4 H4 rs4 l4 x4 hv4=>?_⟩
  refine hg' f α4 s4 σ H4 y t v v4 z' _ hf rs4 ((hv.ext x3).ext x4) hv4 hz' fun w5 H5 rs5 x5 hw5=>?_
  exact q α4 w5 H5 rs5 (l4.trans (l2.trans l1)) ((((x1.trans x2).trans x3).trans x4).trans x5) hw5
 ·have hw':w=.bl false:=by unfold Rep at hw;exact hw
  cases e
  refine ⟨false,hw',?_⟩
  rw[if_neg Bool.false_ne_true]
  exact q α2 _ H3 rs3 (l2.trans l1) ((x1.trans x2).trans x3) (show Rep (wd f α2 s2.Γ H3) (.bl false) (.bl false) from Bg)
 ·cases e
theorem QQ {op op':CmpOp} (ho:OpR X (compareOp op) r) (ho':OpR X (compareOp op') r') (hg:OpD X g r) (hg':OpD X g' r') (ha:DE X a ma) (hb:DE X b mb) (hc:DE X c mc) (hm:lastMarks [op,op'] [b,c]=false):DT X (.Compare a [op,op'] [b,c] pos) (AK (Bt g g' ma mb mc)):=.mk fun f hf=>
 PT.imp (PM ho ho' (ha f hf) (hb f hf) (hc f hf) hm) fun σ H Q hh_=>by
  obtain ⟨α,s,r',rs,lo,e,q⟩:=hh_
  obtain ⟨x,h1,e⟩:=bind_some e
  obtain ⟨k,h2,rfl⟩:=AZ e
  exact Py hf hg hg' ⟨α,s,x,rs,lo,h1,fun α' v H' rs' l' ex hv=>⟨k,FN h2 hv,q α' H' rs' l' ex⟩⟩
end
section
variable {X:Cx} {f:Fr} {e:Expr} {pos p:Pos} {es:List Expr} {ms:MA}
end
section
variable {X:Cx} {f:Fr} {a b c:Expr} {ma mb mc:ME} {pos:Pos} {x:Str} {i:Int}
theorem P1:OpR X (compareOp .LtE) (fun x y H Q=>∃ i j:Str,x=.str i/\y=.str j/\Q (.bl (!decide (j.cps.toList<i.cps.toList))) H):=by
 intro pins s σ H x y v u Q I rx ry h
 obtain ⟨i,j,rfl,rfl,q⟩:=h
 obtain ⟨t,rfl⟩:=rx
 obtain ⟨t',rfl⟩:=ry
 exact PySem.P.le_str (Ao I q rfl)
@[simp] def Cq:Gm->SV->SV->Option D:=fun _ x y=>match x,y with
 | .v (.int i),.v (.int j)=>some (.bl (decide (i<=j)))
 | .v (.str i),.v (.str j)=>some (.bl (!decide (j.cps.toList<i.cps.toList)))
 | _,_=>none
abbrev LM:R2:=fun x y H Q=>rI0 (fun i j=>.bl (decide (i<=j))) x y H Q\/(∃ i j:Str,x=.str i/\y=.str j/\Q (.bl (!decide (j.cps.toList<i.cps.toList))) H)
theorem Oc:OpR X (compareOp .LtE) LM:=op_le.or P1
theorem Pc:OpD X Cq LM:=by
 intro f α s σ H x y u v z Q hf rs hu hv e q
 unfold Cq at e
 split at e
 ·rename_i i j
  cases e
  exact .inl ⟨i,j,Am hu,Am hv,q _ H rs .refl Bg⟩
 ·rename_i i j
  cases e
  exact .inr ⟨i,j,CQ hu,CQ hv,q _ H rs .refl Bg⟩
 ·cases e
end
end DL
namespace L2
open PySem
end L2
namespace DL
open PySem L2
section
variable {X:Cx} {f:Fr} {a tg:Expr}
end
end DL
namespace L2
open PySem PySem.Spec PyProof.Rows
section
variable {X:Cx} {tg:Expr}
end
end L2
namespace DL
open PySem L2
section
variable {X:Cx} {f:Fr} {a b c tg:Expr} {pos:Pos}
end
end DL
namespace EvS
open PySem PySem.Spec PyProof.Rows
def sLt (a b:Str):Bool:=decide (a.cps.toList<b.cps.toList)
def BG (x y:Int×Str):Bool:=if x.1=y.1 then sLt x.2 y.2 else decide (x.1<y.1)
theorem OJ {a b:Str} (h1:sLt a b=false) (h2:sLt b a=false):a=b:=by
 have h1:=of_decide_eq_false h1
 have h2:=of_decide_eq_false h2
 have e:a.cps.toList=b.cps.toList:=List.le_antisymm (List.not_lt.mp h2) (List.not_lt.mp h1)
 cases a;cases b
 simp only at e
 rw[Array.toList_inj.mp e]
theorem PB {a b:Str} (h:sLt a b=true):sLt b a=false:=decide_eq_false (List.lt_asymm (of_decide_eq_true h))
theorem QY {x y z:Str} (h1:sLt y x=false) (h2:sLt z y=false):sLt z x=false:=decide_eq_false (List.not_lt.mpr (List.le_trans (List.not_lt.mp (of_decide_eq_false h1)) (List.not_lt.mp (of_decide_eq_false h2))))
theorem RK (x:Str):sLt x x=false:=decide_eq_false (List.lt_irrefl _)
theorem Iw {x y:Int×Str} (h:BG x y=true):BG y x=false:=by
 unfold BG at *
 split at h
 ·rename_i e
  rw[if_pos e.symm]
  exact PB h
 ·rename_i e
  rw[if_neg (fun z=>e z.symm)]
  have:=of_decide_eq_true h
  exact decide_eq_false (by lia)
theorem Ll {x y z:Int×Str} (h1:BG y x=false) (h2:BG z y=false):BG z x=false:=by
 unfold BG at *
 split at h1
 ·rename_i e1
  split at h2
  ·rename_i e2
   rw[if_pos (e2.trans e1)]
   exact QY h1 h2
  ·rename_i e2
   rw[if_neg (by lia)]
   have:=of_decide_eq_false h2
   exact decide_eq_false (by lia)
 ·rename_i e1
  have a1:=of_decide_eq_false h1
  split at h2
  ·rename_i e2
   rw[if_neg (by lia)]
   exact decide_eq_false (by lia)
  ·rename_i e2
   have a2:=of_decide_eq_false h2
   rw[if_neg (by lia)]
   exact decide_eq_false (by lia)
theorem P7 {x y:Int×Str} (h1:BG y x=false) (h2:BG x y=false):x=y:=by
 unfold BG at *
 split at h1
 ·rename_i e
  rw[if_pos e.symm] at h2
  exact Prod.ext e.symm (OJ h2 h1)
 ·rename_i e
  rw[if_neg (fun z=>e z.symm)] at h2
  have:=of_decide_eq_false h1
  have:=of_decide_eq_false h2
  exact absurd (by lia) e
section
variable {prog:Program} {w:World} {A:Around} {E:Value->Shared->Prop} {s:Shared}
def gTh (h:Heap) (ν:Value->Int×Str) (v:Value):Prop:=∃ a o n t u,v=.ref a/\h.get? a=some o/\o.cls=.type "tuple"/\o.data=.seq #[.int (ν v).1 t,.str (ν v).2 u] n
def lTh (ν:Value->Int×Str) (x y:Keyed):Bool:=BG (ν x.1) (ν y.1)
theorem S4 {Q:Bool->Shared->Prop} {a c:Int} {x y:Str} {t u t' u':Tok} (h:Q (BG (a,x) (c,y)) s):PySem.W.KatLex prog w A true false Q [(.int a t,.int c t'),(.str x u,.str y u')] 0 s:=by
 refine PySem.W.kat_cons (wpAny_eqBool_int ?_)
 by_cases e:a=c
 ·subst e
  rw[show (a == a)=true by simp]
  refine PySem.W.kat_yes (PySem.W.kat_cons (wpAny_eqBool_str ?_))
  have h:Q (sLt x y) s:=by unfold BG at h;rw[if_pos rfl] at h;exact h
  by_cases e2:x=y
  ·subst e2
   rw[decide_eq_true rfl]
   rw[RK] at h
   exact PySem.W.kat_yes (PySem.W.kat_nil h)
  ·rw[decide_eq_false e2]
   exact PySem.W.kat_no (PySem.W.kat_one _ _ (P.lt_str h))
 ·rw[show (a == c)=false by simpa using e]
  refine PySem.W.kat_no ?_
  have h:Q (decide (a<c)) s:=by unfold BG at h;rw[if_neg e] at h;exact h
  exact oneLt_int h
theorem Q5 {ν:Value->Int×Str}:Cmp prog w A E s (tuples' true) (fun x=>gTh s.heap ν x.1) (lTh ν) where
 run:=fun {st x y Q} hk gx gy hq=>by
  obtain ⟨a,o,n,t,u,e1,ho,hc,hd⟩:=gx
  obtain ⟨a',o',n',t',u',e1',ho',hc',hd'⟩:=gy
  unfold lTh at hq
  rw[lt'_eq]
  refine wpS_bind (wpS_get ?_)
  rw[hk,e1,e1']
  refine wpS_bind (wpS_lift (wpAny_attempt (PySem.W.kat_lt ho hd ho' hd' ?_)))
  exact S4 ⟨rfl,wpS_pure hq⟩
theorem Qv {h:Heap} {ν:Value->Int×Str}:Ord (fun x=>gTh h ν x.1) (lTh ν) where
 tr:=fun {x y z} _ _ _ h1 h2=>Ll h1 h2
 tot:=fun {x y} _ _ h=>Iw h
theorem JX {h:Heap} {ν:Value->Int×Str}:∀ {vs:List Value},(∀ v∈vs,gTh h ν v)->∃ fs,PySem.W.KatTups h vs fs/\fs.length=vs.length/\∀ v∈fs,∃ n t,v=Value.int n t
 | [],_=>⟨[],.nil,rfl,fun _ h=>nomatch h⟩
 | v::vs,hg=>by
  obtain ⟨fs,h1,h2,h3⟩:=JX (vs:=vs) fun u hu=>hg u (List.mem_cons_of_mem _ hu)
  obtain ⟨a,o,n,t,u,rfl,ho,hc,hd⟩:=hg v List.mem_cons_self
  exact ⟨.int _ t::fs,.cons ho hc hd rfl h1,by simp[h2],fun u hu=>by
   rcases List.mem_cons.mp hu with rfl | hu
   ·exact ⟨_,t,rfl⟩
   ·exact h3 u hu⟩
theorem Sx {a:Addr} {vs:List Value} {n:Nat} {P:Fin->Shared->Prop} (ν:Value->Int×Str) (ho:s.heap.get? a=some (seqObj "list" vs.toArray n)) (hI:∀ v∈vs,gTh s.heap ν v) (hz:vs.length<=sizeLine)
  (hP:∀ (out:Array Value),out.toList.Perm vs->out.toList.Pairwise (fun u v=>BG (ν v) (ν u)=false)->P (.done (.ret .none)) {s with heap:=sortedHeap s.heap a vs out}):wpAny (model prog w) A (Builtin.«list.sort» ⟨[.ref a],[]⟩) P E s:=by
 rw[list_sort_plain]
 have la:a<s.heap.objs.size:=Heap.lt_size ho
 refine wpAny_bind (listItems_at ho rfl (wpAny_bind (listUpdate_at ho rfl ?_ (by rw[List.size_toArray];exact hz))))
 obtain ⟨c1,o1⟩:∃ c1,(s.heap.update a (Obj.mapSeq fun _=>#[])).get? a=some (seqObj "list" #[] c1):=⟨_,get?_update_seq ho (fun _=>#[])⟩
 refine wpAny_bind (seqEpoch_at o1 rfl (wpAny_bind (wpAny_newTuple (wpAny_bind (wpAny_newList (wpAny_holding ?_))))))
 have o6:(((s.heap.update a (Obj.mapSeq fun _=>#[])).push (seqObj "tuple" vs.toArray 0)).push (seqObj "list" #[] 0)).get? a=some (seqObj "list" #[] c1):=by
  rw[Heap.get?_push_ne _ _ _ (by rw[size_push',Heap.size_update];exact Nat.ne_of_lt (Nat.lt_succ_of_lt la)),Heap.get?_push_ne _ _ _ (by rw[Heap.size_update];exact Nat.ne_of_lt la)]
  exact o1
 show wpAny (model prog w) A _ P E {s with heap:=((s.heap.update a (Obj.mapSeq fun _=>#[])).push (seqObj "tuple" vs.toArray 0)).push (seqObj "list" #[] 0)}
 dsimp only
 have hI6:∀ v∈vs,gTh (((s.heap.update a (Obj.mapSeq fun _=>#[])).push (seqObj "tuple" vs.toArray 0)).push (seqObj "list" #[] 0)) ν v:=fun v hv=>by
  obtain ⟨b,o,n',t,u,rfl,hb,hc,hd⟩:=hI v hv
  have nb:b≠a:=fun z=>by
   rw[z,ho] at hb
   cases hb
   have hc':Value.type "list"=Value.type "tuple":=hc
   exact absurd hc' (by decide)
  refine ⟨b,o,n',t,u,rfl,?_,hc,hd⟩
  refine Heap.get?_push_of_some _ (Heap.get?_push_of_some _ ?_)
  rw[Heap.get?_update_ne _ _ _ _ nb]
  exact hb
 have zs:vs.toArray.size=vs.length:=by simp
 have fin:∀ st':SortSt,(arrOf st').Perm (pairsOf vs)->(∀ i j:Nat,i<j->j<(arrOf st').size->BG (ν (G (arrOf st') j).1) (ν (G (arrOf st') i).1)=false)->P (.done (.ret .none)) {s with heap:=sortedHeap s.heap a vs ((arrOf st').map (·.2))}:=fun st' hp hs=>by
  have hl:(arrOf st').toList.Perm (vs.zip vs):=by rw[<-pairsOf_toList];exact Array.perm_iff_toList_perm.mp hp
  have hmem:∀ p,p∈(arrOf st').toList->p.1=p.2/\p.1∈vs:=fun p hp'=>mem_zip_self (hl.mem_iff.mp hp')
  have e:((arrOf st').map (·.2)).toList=(arrOf st').toList.map (·.1):=by
   rw[Array.toList_map];exact List.map_congr_left fun p hp'=>(hmem p hp').1.symm
  refine hP _ ?_ ?_
  ·rw[e]
   have h1:=hl.map Prod.fst
   rwa [List.map_fst_zip (Nat.le_refl _)] at h1
  ·rw[e,List.pairwise_iff_getElem]
   intro i j hi hj hij
   rw[List.getElem_map,List.getElem_map]
   have hj':j<(arrOf st').size:=by simpa using hj
   have hi':i<(arrOf st').size:=by lia
   have q:=hs i j hij hj'
   have gi:G (arrOf st') i=(arrOf st')[i]:=by unfold G;rw[getElem?_pos _ i hi'];rfl
   have gj:G (arrOf st') j=(arrOf st')[j]:=by unfold G;rw[getElem?_pos _ j hj'];rfl
   rw[gi,gj] at q
   simpa using q
 by_cases h2:vs.toArray.size<2
 ·rw[if_pos h2,if_pos h2]
  refine wpAny_bind (wpAny_pure ?_)
  rw[StateT.run_pure]
  refine wpAny_bind (wpAny_pure ?_)
  dsimp only
  refine wpAny_bind (seqEpoch_at o6 rfl (wpAny_bind (listUpdate_at o6 rfl ?_ (hsz2:=by rw[Array.size_map];show (pairsOf vs).size<=_;rw[pairsOf_size];lia))))
  simp only[bne_self_eq_false,Bool.false_eq_true,if_false]
  refine wpAny_pure (fin (SortSt.mk' general' (vs.toArray.zip vs.toArray) #[] 7 none) (Array.Perm.refl _) fun i j hij hj=>?_)
  have hj':j<(pairsOf vs).size:=hj
  rw[pairsOf_size] at hj'
  lia
 ·rw[if_neg h2,if_neg h2]
  obtain ⟨fs,t1,t2,t3⟩:=JX hI6
  refine wpAny_bind (PySem.W.kat_kind (T:=Value.type "int") t1 (by lia) (fun v hv=>by obtain ⟨k,t,rfl⟩:=t3 v hv;exact .of_pure rfl) (by decide) ?_)
  have kd:tuples' ((Value.type "int") != Value.type "tuple")=tuples' true:=by congr 1
  rw[kd]
  refine wpAny_bind (wpAny_mono (Gs (a₀:=pairsOf vs) (st:=SortSt.mk' (tuples' true) (vs.toArray.zip vs.toArray) #[] 7 none)
   (Q:=fun _ st'=>SB (tuples' true) (pairsOf vs) st'/\Asc (lTh ν) (arrOf st') 0 (pairsOf vs).size)
   Q5 Qv ⟨Array.Perm.refl _,rfl,rfl⟩ rfl (fun x hx=>by
    have hx':x∈vs.zip vs:=by rw[<-pairsOf_toList];exact hx
    exact hI6 _ (mem_zip_self hx').2) (by rw[pairsOf_size];lia) fun st' B as=>⟨B,as⟩) ?_ fun _ _ e=>e)
  rintro ⟨⟨⟩,st'⟩ s' ⟨rfl,B,as⟩
  dsimp only
  refine wpAny_bind (seqEpoch_at o6 rfl (wpAny_bind (listUpdate_at o6 rfl ?_ (hsz2:=by refine Nat.le_trans (Nat.le_of_eq ((Array.size_map ..).trans (B.perm.size_eq.trans (pairsOf_size _)))) ?_;lia))))
  rw[B.fail]
  simp only[bne_self_eq_false,Bool.false_eq_true,if_false]
  refine wpAny_pure (fin st' B.perm fun i j hij hj=>?_)
  exact as i j (Nat.zero_le _) (by lia) (by have z:(arrOf st').size=(pairsOf vs).size:=B.perm.size_eq;lia)
theorem Re {l:Addr} {vs:List Value} {Q:Value->Shared->Prop} (ν:Value->Int×Str) (hl:s.heap.IsList l vs.toArray) (hI:∀ v∈vs,gTh s.heap ν v) (hz:vs.length<=sizeLine)
  (h:∀ (out:Array Value),out.toList.Perm vs->out.toList.Pairwise (fun u v=>BG (ν v) (ν u)=false)->Q (.ref (s.heap.objs.size+1)) {s with heap:=sortedAll s.heap vs out}):wpAny (model prog w) A (call (.builtin "sorted") [.ref l]) Q E s:=by
 refine Calls.call_function_entry kind_sorted plain_sorted entry_sorted (args_sorted1 _) ?_
 unfold Builtin.«sorted»
 refine wpAny_bind (m:=checkCount "sorted" 1 1 _) (wpAny_pure (wpAny_bind (collect_list hl ?_ hz)))
 refine wpAny_bind (wpAny_newList ?_)
 have sz:((s.heap.push (seqObj "list" #[] 0)).update s.heap.objs.size (Obj.mapSeq (·++vs.toArray))).objs.size=s.heap.objs.size+1:=by rw[Heap.size_update,size_push']
 have oL:(((s.heap.push (seqObj "list" #[] 0)).update s.heap.objs.size (Obj.mapSeq (·++vs.toArray))).push (seqObj "list" vs.toArray 0)).get? (s.heap.objs.size+1)=some (seqObj "list" vs.toArray 0):=by
  rw[<-sz]
  exact Heap.get?_push_size _ rfl
 have hI2:∀ v∈vs,gTh (((s.heap.push (seqObj "list" #[] 0)).update s.heap.objs.size (Obj.mapSeq (·++vs.toArray))).push (seqObj "list" vs.toArray 0)) ν v:=fun v hv=>by
  obtain ⟨b,o,n',t,u,rfl,hb,hc,hd⟩:=hI v hv
  have lb:b<s.heap.objs.size:=Heap.lt_size hb
  refine ⟨b,o,n',t,u,rfl,?_,hc,hd⟩
  refine Heap.get?_push_of_some _ ?_
  rw[Heap.get?_update_ne _ _ _ _ (Nat.ne_of_lt lb)]
  exact Heap.get?_push_of_some _ hb
 show wpAny _ _ _ _ _ {s with heap:=((s.heap.push (seqObj "list" #[] 0)).update s.heap.objs.size (Obj.mapSeq (·++vs.toArray))).push (seqObj "list" vs.toArray 0)}
 rw[sz]
 refine wpAny_bind (wpAny_holding (wpAny_call_entry slot_list_sort ⟨_,oL,rfl⟩ entry_list_sort (Sx ν oL hI2 hz fun out b1 b2=>⟨_,rfl,?_⟩) (args_list_sort _)))
 exact wpAny_pure ⟨_,rfl,h out b1 b2⟩
end
end EvS
namespace L2
open PySem PySem.Spec PyProof.Rows
section
variable {X:Cx}
def thV (H:Hp):V->Int×Str
 | .ref a=>match H a with
  | some (.tup [.int k,.str x])=>(k,x)
  | _=>(0,"")
 | _=>(0,"")
def Im (K:PySem.W.Frag):List V->Hp->VK->Prop:=fun xs H Q=>∃ p vs,xs=[.ref p]/\SqL K H p vs/\(∀ v∈vs,∃ a k x,v=.ref a/\H a=some (.tup [.int k,.str x])) /\
 ∀ l (ws:List V),H l=none->ws.Perm vs->ws.Pairwise (fun u v=>EvS.BG (thV H v) (thV H u)=false)->Q (.ref l) (upd H l (.lst ws))
theorem Td:CallR X (.builtin "sorted") (Im X.K):=by
 intro pins s σ H xs us Q I r h
 obtain ⟨p,vs,rfl,hq,hv,q⟩:=h
 obtain ⟨u,rfl,ru⟩:=vals1 r
 cases ru
 obtain ⟨its,rv,pl,hz⟩:=I.list hq
 have hl:=rv.length
 obtain ⟨e1,e2⟩:=Dr rv fun v hvm=>let ⟨a,k,x,e,_⟩:=hv v hvm;⟨a,e⟩
 refine EvS.Re (fun u=>thV H (addrOf u)) pl.isList (fun u hu=>?_) (by lia) fun out b1 b2=>?_
 ·have hm:addrOf u∈vs:=by rw[e1];exact List.mem_map.mpr ⟨u,hu,rfl⟩
  obtain ⟨a,k,x,e3,e4⟩:=hv _ hm
  obtain ⟨b,rfl⟩:=e2 u hu
  have:b=a:=by injection e3
  subst this
  obtain ⟨_,its2,r2,o,ho,hc,n,hd⟩:=I.hok b _ e4
  have en:thV H (addrOf (.ref b))=(k,x):=by
   show (match H b with | some (.tup [.int k,.str x])=>(k,x) | _=>(0,""))=(k,x)
   rw[e4]
  cases r2 with
  | cons r1 r3=>
   cases r3 with
   | cons r4 r5=>
    cases r5
    obtain ⟨t,rfl⟩:=r1
    obtain ⟨t',rfl⟩:=r4
    exact ⟨b,o,n,t,t',rfl,ho,hc,by dsimp only;rw[en];exact hd⟩
 ·obtain ⟨e,he⟩:=sortedAll_at s.heap its out
  have hn:H (s.heap.objs.size+1)=none:=I.hok.fresh (Nat.le_succ _)
  have er:∀ u∈out.toList,∃ a,u=.ref a:=fun u hu=>e2 u (b1.mem_iff.mp hu)
  have pw:(out.toList.map addrOf).Perm vs:=by rw[e1];exact b1.map addrOf
  refine ⟨.ref (s.heap.objs.size+1),_,I.laid (t':=s.toks) (o:=.lst (out.toList.map addrOf)) (fun b u q=>sortedAll_old q) (Nat.le_succ _) ⟨?_,out.toList,e,HK er,?_⟩,rfl,q _ _ hn pw ?_⟩
  ·rw[pw.length_eq];exact hz
  ·simpa using he
  ·rw[List.pairwise_map]
   exact b2
end
end L2
namespace DL
open PySem L2
open PyProof.Rows (boot_max)
section
variable {X:Cx} {f:Fr} {α:Nat->Addr} {s:DS} {σ:St} {H:Hp} {a b e:Expr} {ma mb:ME} {pos p:Pos} {es:List Expr} {ms:MA}
def thW (t:Int×Str):D:=.tup [.int t.1,.str t.2]
def DC:List D->Option (List (Int×Str))
 | []=>some []
 | .tup [.int k,.str x]::r=>(DC r).map ((k,x)::·)
 | _=>none
theorem JZ:∀ {xs:List D} {ts:List (Int×Str)},DC xs=some ts->xs=ts.map thW
 | [],ts,e=>by cases e;rfl
 | d::r,ts,e=>by
  unfold DC at e
  split at e
  ·rename_i h;cases h
  ·rename_i k x r' h
   cases h
   obtain ⟨us,h1,rfl⟩:=AZ e
   rw[JZ h1]
   rfl
  ·cases e
theorem Ky:∀ ts:List (Int×Str),DC (ts.map thW)=some ts
 | []=>rfl
 | t::ts=>by
  show (DC (ts.map thW)).map _=_
  rw[Ky ts]
  rfl
def EL (x:Int×Str):List (Int×Str)->List (Int×Str)
 | []=>[x]
 | y::r=>if EvS.BG y x=true then y::EL x r else x::y::r
def CZ:List (Int×Str)->List (Int×Str)
 | []=>[]
 | x::r=>EL x (CZ r)
theorem HE (x:Int×Str):∀ r,(EL x r).Perm (x::r)
 | []=>.refl _
 | y::r=>by
  unfold EL
  split
  ·exact ((HE x r).cons y).trans (.swap x y r)
  ·exact .refl _
theorem Fu:∀ r,(CZ r).Perm r
 | []=>.refl _
 | x::r=>(HE x _).trans ((Fu r).cons x)
abbrev EI (r:List (Int×Str)):Prop:=r.Pairwise fun u v=>EvS.BG v u=false
theorem Mi (x:Int×Str):∀ r,EI r->EI (EL x r)
 | [],_=>List.pairwise_singleton _ _
 | y::r,h=>by
  unfold EL
  obtain ⟨h1,h2⟩:=List.pairwise_cons.mp h
  split
  ·rename_i c
   refine List.pairwise_cons.mpr ⟨fun k hk=>?_,Mi x r h2⟩
   rcases List.mem_cons.mp ((HE x r).mem_iff.mp hk) with rfl | hk
   ·exact EvS.Iw c
   ·exact h1 k hk
  ·rename_i c
   have c':EvS.BG y x=false:=by cases hc:EvS.BG y x with | false=>rfl | true=>exact absurd hc c
   refine List.pairwise_cons.mpr ⟨fun k hk=>?_,h⟩
   rcases List.mem_cons.mp hk with rfl | hk
   ·exact c'
   ·exact EvS.Ll c' (h1 k hk)
theorem Jn:∀ r,EI (CZ r)
 | []=>.nil
 | x::r=>Mi x _ (Jn r)
theorem RO {xs ys:List (Int×Str)} (p:xs.Perm ys) (hx:EI xs) (hy:EI ys):xs=ys:=
 p.eq_of_pairwise (fun a b _ _ h1 h2=>EvS.P7 h1 h2) hx hy
@[simp] def BF:Gm->List SV->Option (List D):=fun Γ xs=>match CA Γ xs with
 | some z=>some z
 | none=>match xs with
  | [x]=>(elems Γ x).bind fun xs=>(DC xs).map fun ts=>(CZ ts).map thW
  | _=>none
theorem O5:CallR X (.builtin "sorted") (fun xs H Q=>GK X.K xs H Q\/Im X.K xs H Q):=call_sortedA.or Td
theorem LX {W:Wd} {t:Int×Str} {v:V} (h:Rep W (thW t) v):∃ a,v=.ref a/\W.H a=some (.tup [.int t.1,.str t.2]):=by
 unfold thW Rep at h
 obtain ⟨a,vs,e,_,h1,h2⟩:=h
 obtain ⟨v1,r1,rfl,q1,q2⟩:=h2.cons_inv
 obtain ⟨v2,r2,rfl,q3,q4⟩:=q2.cons_inv
 rw[q4.nil_inv] at h1
 unfold Rep at q1 q3
 subst q1 q3
 exact ⟨a,e,h1⟩
theorem LW {W:Wd} {t:Int×Str} {v:V} (h:Rep W (thW t) v):thV W.H v=t:=by
 obtain ⟨a,rfl,h1⟩:=LX h
 show (match W.H a with | some (.tup [.int k,.str x])=>(k,x) | _=>(0,""))=t
 rw[h1]
theorem K9 {W:Wd}:∀ {ts:List (Int×Str)} {vs:List V},Reps W (ts.map thW) vs->vs.map (thV W.H)=ts/\∀ v∈vs,Rep W (thW (thV W.H v)) v
 | [],vs,h=>by rw[h.nil_inv];exact ⟨rfl,fun _ h=>nomatch h⟩
 | t::r,vs,h=>by
  obtain ⟨v,q,rfl,h1,h2⟩:=Reps.cons_inv (d:=thW t) (ds:=r.map thW) h
  obtain ⟨h3,h4⟩:=K9 h2
  refine ⟨by rw[List.map_cons,h3,LW h1],fun u hu=>?_⟩
  rcases List.mem_cons.mp hu with rfl | hu
  ·rw[LW h1];exact h1
  ·exact h4 u hu
theorem I0 {W:Wd}:∀ {ws:List V},(∀ v∈ws,Rep W (thW (thV W.H v)) v)->Reps W ((ws.map (thV W.H)).map thW) ws
 | [],_=>.nil
 | w::ws,h=>.cons (h w List.mem_cons_self) (I0 fun v hv=>h v (List.mem_cons_of_mem _ hv))
theorem SW:CaF X BF (fun xs H Q=>GK X.K xs H Q\/Im X.K xs H Q):=by
 intro f α s σ H xs us z Q hf rs hu e q
 unfold BF at e
 split at e
 ·rename_i z' h0
  cases e
  exact .inl (Kd f α s σ H xs us z Q hf rs hu h0 q)
 ·split at e
  ·obtain ⟨xs,h0,e⟩:=bind_some e
   obtain ⟨ts,h5,rfl⟩:=AZ e
   obtain ⟨v,r,rfl,h1,h2⟩:=hu.cons_inv
   rw[h2.nil_inv]
   obtain ⟨a,vs,rfl,h3,h4⟩:=Ba rs h0 h1
   have h6:=JZ h5
   subst h6
   obtain ⟨n1,n2⟩:=K9 h4
   refine .inr ⟨a,vs,rfl,SqL.of h3,fun v hv=>?_,fun l ws hl hp hs=>q l _ hl ?_⟩
   ·obtain ⟨b,e1,e2⟩:=LX (n2 v hv)
    exact ⟨b,_,_,e1,e2⟩
   ·have e1:ws.map (thV H)=CZ ts:=RO (((hp.map (thV H)).trans (by rw[n1])).trans (Fu ts).symm) (by rw[EI,List.pairwise_map];exact hs) (Jn ts)
    rw[<-e1]
    exact I0 fun v hv=>n2 v (hp.mem_iff.mp hv)
  ·cases e
end
end DL
namespace DL
open PySem L2 Ev
section
variable {X:Cx} {st:Stmt} {pos p:Pos} {e:Expr} {es:List Expr} {ms:MA}
theorem Ed (T:Nm X.mg) (ha:DA X (e::es) ms) (hg:Gl X "sorted":=by rfl) (he:starEach (e::es) X.env=(false,eval e X.env)::starEach es X.env:=by rfl) (hpl:(backTo pos (starEach es X.env)).any (·.1)=false:=by rfl):DF X (.Call (.Name "sorted" p) (e::es) [] pos) (Au BF ms):=
 LU O5 SW hg T.sorted PyProof.Rows.boot_sorted ha (by decide) (by decide) he hpl
theorem Ow:DSt X st fun _=>none:=.mk fun f hf=>PS.imp N4 fun E σ H ⟨α,s,o,rs,lo,e,q⟩=>by cases e
end
end DL
namespace L2
open PySem PySem.SeqAt
open PySem.AutoSeq1 (wpAny_loadPart')
open PySem.MeetsSeq PySem.MeetsSeq2 PySem.MeetsSeq3
open PyProof.Rows (IntsAre IsTup)
theorem P4 (l b:Addr) (items items2:Array Value) (n n2:Nat) (dd dd2:Option Addr) (sl sl2:Array (Option Value)) (ns ms:List Int) (hi:IntsAre items.toList ns) (hj:IntsAre items2.toList ms) :
  Meets (Builtin.«tuple.__gt__» ⟨[.ref l,.ref b],[]⟩)
   (fun _ R s=>s.heap.get? l=some {cls:=.type "tuple",dict:=dd,data:=.seq items n,slots:=sl}/\s.heap.get? b=some {cls:=.type "tuple",dict:=dd2,data:=.seq items2 n2,slots:=sl2} /\
    R (.ok (.ret (.bool (HT.lexLt ms ns)))) s):=
 .of_wp fun prog w A R s h=>by
  obtain ⟨hp,g,d,tk,os⟩:=s
  obtain ⟨hl,hb,h⟩:=h
  have f2:=AutoSeq1.sub_tuple_tuple
  have z1:ns.length=items.size:=by rw[<-hi.length];simp
  have z2:ms.length=items2.size:=by rw[<-hj.length];simp
  wp_walk using wpAny_loadPart' hl,wpAny_loadPart' hb,wpAny_forIn_list _ (fun left r s'=>∃ (us vs:List Value) (ps qs:List Int),left=us.zip vs/\IntsAre us ps/\IntsAre vs qs /\
   ps.length+ms.length=qs.length+ns.length/\R (.ok (.ret (.bool (HT.lexLt qs ps)))) ⟨hp,g,d,tk,os⟩/\r.1=none/\s'=⟨hp,g,d,tk,os⟩) _
  case turn=>
   rintro ⟨y,x⟩ left r s' ⟨us,vs,ps,qs,hz,iu,iv,hn,hR,hr,rfl⟩
   cases iu with
   | nil=>cases hz
   | cons i t iu=>
    cases iv with
    | nil=>cases hz
    | cons j k iv=>
     obtain ⟨⟨rfl,rfl⟩,rfl⟩:(y=.int i t/\x=.int j k)/\left=_:=by
      rw[List.zip_cons_cons] at hz
      injection hz with p q
      injection p with p1 p2
      exact ⟨⟨p1,p2⟩,q⟩
     rw[HT.Cf] at hR
     simp only[List.length_cons] at hn
     refine wpAny_bind (SeqAt.EqAt.int_int i t j k prog w _ _ ?_)
     by_cases c:i=j
     ·rw[if_pos c.symm] at hR
      subst c
      rw[beq_self_eq_true]
      wp_walk
      exact ⟨_,_,_,_,rfl,iu,iv,by lia,hR,rfl,rfl⟩
     ·rw[if_neg (fun z=>c z.symm)] at hR
      rw[show (i == j)=false from beq_false_of_ne c]
      have hgt:∀ (E:Value->Shared->Prop) (Q:Value->Shared->Prop),Q (.bool (decide (j<i))) ⟨hp,g,d,tk,os⟩->wpAny (model prog w) A.in1 (richCompare .Gt (.int i t) (.int j k)) Q E ⟨hp,g,d,tk,os⟩:=
       fun E Q h=>(PyProof.Rows.gt_int h:wpAny (model prog w) A.in1 (compareOp .Gt (.int i t) (.int j k)) Q E _)
      wp_walk using hgt
      refine ⟨_,rfl,?_⟩
      simpa using hR
  case fin=>
   rintro ⟨b1,b2⟩ s' ⟨us,vs,ps,qs,hz,iu,iv,hn,hR,hr,rfl⟩
   simp only at hr
   subst hr
   have e:(HT.lexLt qs ps)=decide (items2.size<items.size):=by
    cases iu with
    | nil=>
     cases iv with
     | nil=>rw[HT.IG,decide_eq_false (by simp at hn;lia)]
     | cons _ _ _=>rw[HT.HH,decide_eq_false (by simp at hn;lia)]
    | cons _ _ _=>
     cases iv with
     | nil=>rw[HT.IJ,decide_eq_true (by simp at hn;lia)]
     | cons _ _ _=>cases hz
   rw[e] at hR
   wp_walk
   exact ⟨_,rfl,by simpa [Builtin.Tuple.tupleCompareSizes] using hR⟩
  case h=>
   exact ⟨_,_,ns,ms,rfl,hi,hj,by lia,h,rfl,rfl⟩
section
variable {X:Cx}
def Io (K:PySem.W.Frag):R2:=fun x y H Q=>∃ (a b:Addr) (ns ms:List Int),x=.ref a/\y=.ref b/\SqT K H a (ns.map V.int)/\SqT K H b (ms.map V.int)/\Q (.bl (HT.lexLt ms ns)) H
theorem Nt (hu:X.A.units<cLine):OpR X (compareOp .Gt) (Io X.K):=by
 intro pins s σ H x y v u Q I rx ry h
 obtain ⟨a,b,ns,ms,rfl,rfl,ha,hb,q⟩:=h
 cases rx
 cases ry
 obtain ⟨is,r1,⟨⟨cls,dd,data,sl⟩,e1,e2,n,e3⟩,_⟩:=I.tuple ha
 obtain ⟨js,r2,⟨⟨cls',dd',data',sl'⟩,e1',e2',n',e3'⟩,_⟩:=I.tuple hb
 simp only at e2 e3 e2' e3'
 subst e2 e3 e2' e3'
 have i1:IntsAre is.toArray.toList ns:=DL.intsAre_of r1
 have i2:IntsAre js.toArray.toList ms:=DL.intsAre_of r2
 refine richCompare_meets_room (op:=.Gt) ⟨_,e1,rfl⟩ ⟨_,e1',rfl⟩ PySem.F.slot_tuple_gt PySem.F.entry_tuple_gt (PySem.F.args_tuple_gt_2 _ _) (P4 a b _ _ n n' dd dd' sl sl' ns ms i1 i2) ⟨e1,e1',?_⟩ hu
 exact (show Value.bool (HT.lexLt ms ns)≠Value.notImplemented/\EP X pins σ Q (.bool (HT.lexLt ms ns)) s from ⟨fun z=>(nomatch z),.bl (HT.lexLt ms ns),H,I,rfl,q⟩)
end
end L2
namespace DL
open PySem L2
section
variable {X:Cx} {a b:Expr} {ma mb:ME} {pos:Pos}
@[simp] def B9:Gm->SV->SV->Option D:=fun _ x y=>match x,y with
 | .v (.int i),.v (.int j)=>some (.bl (decide (j<i)))
 | .v (.tup xs),.v (.tup ys)=>(intsOf xs).bind fun ns=>(intsOf ys).map fun ms=>.bl (HT.lexLt ms ns)
 | _,_=>none
def KP (K:PySem.W.Frag):R2:=fun x y H Q=>rI0 (fun i j=>.bl (decide (j<i))) x y H Q\/Io K x y H Q
theorem Sk (hu:X.A.units<cLine):OpR X (compareOp .Gt) (KP X.K):=op_gt.or (Nt hu)
theorem O1:OpD X B9 (KP X.K):=by
 intro f α s σ H x y u v z Q hf rs hu hv e q
 unfold B9 at e
 split at e
 ·rename_i i j
  cases e
  exact .inl ⟨i,j,Am hu,Am hv,q _ H rs .refl Bg⟩
 ·rename_i xs ys
  obtain ⟨ns,h1,e⟩:=bind_some e
  obtain ⟨ms,h2,rfl⟩:=AZ e
  have:=CW h1
  subst this
  have:=CW h2
  subst this
  obtain ⟨a,vs,rfl,a1,a2⟩:=CV hu
  obtain ⟨b,us,rfl,b1,b2⟩:=CV hv
  rw[a2.ints] at a1
  rw[b2.ints] at b1
  exact .inr ⟨a,b,ns,ms,rfl,rfl,SqT.of a1,SqT.of b1,q _ H rs .refl Bg⟩
 ·cases e
theorem K7 (hu:X.A.units<cLine) (ha:DE X a ma) (hb:DE X b mb):DT X (.Compare a [.Gt] [b] pos) (AK (mOp B9 ma mb)):=E8 (Sk hu) O1 ha hb (D1 _)
variable {c:Expr} {mc:ME}
theorem Jy (hu:X.A.units<cLine) (ha:DE X a ma) (hb:DE X b mb) (hc:DE X c mc) (hm:lastMarks [.LtE,.Lt] [b,c]=false:=by with_unfolding_all rfl):DT X (.Compare a [.LtE,.Lt] [b,c] pos) (AK (Bt Cq Af ma mb mc)):=QQ Oc (Iv hu) Pc JG ha hb hc hm
theorem RB:OpD X A5 (ipI fun i j=>i - j):=by
 intro f α s σ H x y u v z Q hf rs hu hv e q
 unfold A5 gI0 at e
 split at e
 ·rename_i i j
  cases e
  exact ⟨i,j,Am hu,Am hv,q _ H rs .refl Bn⟩
 ·cases e
end
end DL
namespace XL
open PySem PySem.Spec PyProof.Rows L2
def hole (h:Heap) (fs:List Addr):Heap:={h with objs:=h.objs.mapIdx fun i o=>if i∈fs then {o with data:=.freed} else o}
theorem Du (h:Heap) (fs:List Addr) (b:Addr):(hole h fs).get? b=if b∈fs then none else h.get? b:=by
 unfold hole Heap.get?
 simp only[Array.getElem?_mapIdx]
 by_cases hb:b∈fs
 ·simp only[hb,if_true]
  cases e:h.objs[b]? with
  | none=>rfl
  | some o=>rfl
 ·simp only[hb,if_false]
  cases e:h.objs[b]? with
  | none=>rfl
  | some o=>rfl
theorem KF {h h' base base':Heap} (k:∀ b o,h.get? b=some o->∃ sl,h'.get? b=some {o with slots:=sl}):∀ {l:List Env},h.FunFrames base l->(∀ b∈frs l,base'.get? b=none)->h'.FunFrames base' l
 | [],_,_=>trivial
 | env::l,⟨h1,⟨L,o,e1,e2,e3,e4⟩,h2⟩,hb=>by
  have hm:∀ b∈frs l,b∈frs (env::l):=fun b hb=>by
   unfold frs at *
   rw[List.filterMap_cons,e1]
   exact List.mem_cons_of_mem _ hb
  have hL:L∈frs (env::l):=by
   unfold frs
   rw[List.filterMap_cons,e1]
   exact List.mem_cons_self
  obtain ⟨sl,e5⟩:=k L o e3
  exact ⟨h1,⟨L,_,e1,hb L hL,e5,e4⟩,KF k h2 fun b hb'=>hb b (hm b hb')⟩
theorem D9 {h base:Heap}:∀ {l:List Env},h.FunFrames base l->∀ b∈frs l,∃ o,h.get? b=some o/\∀ vs:Array Value,o.data≠Data.fields vs
 | [],_,b,hb=>nomatch hb
 | env::l,⟨h1,⟨L,o,e1,e2,e3,e4⟩,h2⟩,b,hb=>by
  unfold frs at hb
  rw[List.filterMap_cons,e1] at hb
  rcases List.mem_cons.mp hb with rfl | hb
  ·exact ⟨o,e3,e4⟩
  ·exact D9 h2 b hb
abbrev NF (o:Obj):Prop:=∀ vs:Array Value,o.data≠Data.fields vs
abbrev UpS (h h':Heap):Prop:=∀ b o,h.get? b=some o->NF o->∃ sl,h'.get? b=some {o with slots:=sl}
theorem Il {h h' base:Heap} (k:UpS h h'):∀ {l:List Env},h.FunFrames base l->h'.FunFrames base l
 | [],_=>trivial
 | env::l,⟨h1,⟨L,o,e1,e2,e3,e4⟩,h2⟩=>by
  obtain ⟨sl,e5⟩:=k L o e3 e4
  exact ⟨h1,⟨L,_,e1,e2,e5,e4⟩,Il k h2⟩
theorem Jt {h base:Heap}:∀ {l:List Env},h.FunFrames base l->∀ b∈frs l,base.get? b=none
 | [],_,b,hb=>nomatch hb
 | env::l,⟨h1,⟨L,o,e1,e2,e3,e4⟩,h2⟩,b,hb=>by
  unfold frs at hb
  rw[List.filterMap_cons,e1] at hb
  rcases List.mem_cons.mp hb with rfl | hb
  ·exact e2
  ·exact Jt h2 b hb
def Trc (h B:Heap) (e:Addr) (cls fl:Value):Prop:=∃ oe vs T oT ts,h.get? e=some oe/\oe.cls=cls/\oe.dict=none/\oe.data=Data.fields vs/\vs[1]?=some (Value.ref T)/\B.get? T=none/\T≠e/\h.get? T=some oT/\oT.data=Data.fields ts/\ts[3]?=some fl
section
variable {M:Model} {A:Around} {E:Value->Shared->Prop} {s:Shared} {B:Heap} {env:Env} {outer:List Env} {L e:Addr} {oe:Obj} {vs:Array Value} {head cls fl:Value} {hadNext:Bool} {Q:Unit->Shared->Prop}
theorem MW {o:Obj} {vs:Array Value} {f:Array Value->Array Value} (hd:o.data=Data.fields vs):Obj.mapFields f o={o with data:=Data.fields (f vs)}:=by
 obtain ⟨c,d,dt,sl⟩:=o
 cases (show dt=_ from hd)
 rfl
theorem LP (hfr:A.frames=some (env::outer)) (hl:s.heap.FunFrames B (env::outer)) (hf:env.frame=some L) (he:s.heap.get? e=some oe) (hd:oe.data=.fields vs) (h1:1<vs.size) (hdi:oe.dict=none) (st:B.StaysIn s.heap) (hB:B.get? e=none)
  (h:∀ h',B.StaysIn h'->h'.FunFrames B (env::outer)->Trc h' B e oe.cls (rawInt L)->UpS s.heap h'->Q () {s with heap:=h'}) :
  wpAny M A (do let a <-PySem.frameOf env;let pl <-entryPlaceOf L hadNext;let b <-EntryCells.newEntry head a Value.none (rawInt L) Value.none pl;setField (Value.ref e) 1 b) Q E s:=by
 refine wpAny_bind (wpAny_frameOf_fun hfr hl hf fun h1' so=>?_)
 obtain ⟨sz,s1,s2⟩:=so
 refine wpAny_bind (wpAny_entryPlaceOf fun pl hpl=>?_)
 have hne:e∉frs (env::outer):=fun z=>by
  obtain ⟨o,q1,q2⟩:=D9 hl e z
  rw[he] at q1
  cases q1
  exact q2 vs hd
 have he1:h1'.get? e=some oe:=by rw[s1 e hne];exact he
 refine wpAny_bind ?_
 unfold EntryCells.newEntry newFields
 refine wpAny_newObj_type ?_ (IsPlace.sizeOk5 hpl _ _ _ _ _)
 generalize ho:({cls:=Value.type "traceback",data:=Data.fields ([head,Value.ref L,Value.none,rawInt ↑L,Value.none]++if pl.isEmpty=true then List.replicate 6 Value.none else pl).toArray}:Obj)=o
 have hof:o.isFreed=false:=by rw[<-ho];rfl
 have keep2:∀ b u,h1'.get? b=some u->(h1'.push o).get? b=some u:=fun b u q=>Heap.get?_push_of_some _ q
 have he2:(h1'.push o).get? e=some oe:=keep2 e oe he1
 have hT2:(h1'.push o).get? h1'.objs.size=some o:=Heap.get?_push_size _ hof
 have hTe:h1'.objs.size≠e:=Nat.ne_of_gt (Heap.lt_size he1)
 refine wpAny_setField he2 hd h1 ?_
 have hm:=MW (f:=fun x=>x.setIfInBounds 1 (Value.ref h1'.objs.size)) hd
 have he3:((h1'.push o).update e (Obj.mapFields fun x=>x.setIfInBounds 1 (Value.ref h1'.objs.size))).get? e=some {oe with data:=Data.fields (vs.setIfInBounds 1 (Value.ref h1'.objs.size))}:=by
  rw[Heap.get?_update_self _ he2 (by rw[hm];rfl),hm]
 have other:∀ b,b≠e->((h1'.push o).update e (Obj.mapFields fun x=>x.setIfInBounds 1 (Value.ref h1'.objs.size))).get? b=(h1'.push o).get? b:=fun b hb=>Heap.get?_update_other _ _ (Ne.symm hb)
 have up:UpS s.heap ((h1'.push o).update e (Obj.mapFields fun x=>x.setIfInBounds 1 (Value.ref h1'.objs.size))):=fun b u q nf=>by
  have hb:b≠e:=fun z=>by rw[z,he] at q;cases q;exact nf vs hd
  obtain ⟨sl,q1⟩:=s2 b u q
  exact ⟨sl,by rw[other b hb];exact keep2 b _ q1⟩
 refine h _ (fun b u q=>?_) (Il up hl) ?_ up
 ·have hb:b≠e:=fun z=>by rw[z,hB] at q;cases q
  have hn:b∉frs (env::outer):=fun z=>by rw[Jt hl b z] at q;cases q
  rw[other b hb]
  exact keep2 b u (by rw[s1 b hn];exact st b u q)
 ·refine ⟨_,_,h1'.objs.size,o,_,he3,rfl,hdi,rfl,by simp[h1],?_,hTe,by rw[other _ hTe];exact hT2,by rw[<-ho],by simp⟩
  cases q:B.get? h1'.objs.size with
  | none=>rfl
  | some u=>
   have:=Heap.lt_size (st _ u q)
   rw[sz] at this
   exact absurd this (Nat.lt_irrefl _)
end
section
variable {M:Model} {A:Around} {E:Value->Shared->Prop} {s:Shared} {B:Heap} {env:Env} {outer:List Env} {L e:Addr} {oe:Obj} {vs:Array Value} {head cls fl:Value} {hadNext:Bool} {Q:Unit->Shared->Prop}
structure Step (B:Heap) (l:List Env) (e:Addr) (cls fl:Value) (h h':Heap):Prop where
 st:B.StaysIn h'
 fr:h'.FunFrames B l
 tr:Trc h' B e cls fl
 up:UpS h h'
theorem Ql (hfr:A.frames=some (env::outer)) (hl:s.heap.FunFrames B (env::outer)) (hf:env.frame=some L) (he:s.heap.get? e=some oe) (hd:oe.data=.fields vs) (h1:vs[1]?=some Value.none) (hdi:oe.dict=none) (st:B.StaysIn s.heap) (hB:B.get? e=none)
  (h:∀ h',Step B (env::outer) e oe.cls (rawInt L) s.heap h'->Q () {s with heap:=h'}):wpAny M A (noteFrame (.ref e) env) Q E s:=by
 unfold noteFrame
 rw[hf]
 refine wpAny_bind (wpAny_field he hd h1 ?_)
 exact LP (hadNext:=(Value.none != Value.none)) (head:=Value.none) hfr hl hf he hd (Array.getElem?_eq_some_iff.mp h1).1 hdi st hB fun h' a b c d=>h h' ⟨a,b,c,d⟩
theorem J7 {T:Addr} {oT:Obj} {ts:Array Value} {fl':Value} {h:Heap} {l:List Env} {tv:Array Value} {oe:Obj} (hl:h.FunFrames B l) (st:B.StaysIn h) (hT:h.get? T=some oT) (hdT:oT.data=Data.fields ts) (h3:3<ts.size) (he:h.get? e=some oe) (hc:oe.cls=cls) (hdi:oe.dict=none) (hd:oe.data=Data.fields tv) (h1:tv[1]?=some (Value.ref T)) (hBT:B.get? T=none) (hTe:T≠e) :
  Step B l e cls fl' h (h.update T (Obj.mapFields fun x=>x.setIfInBounds 3 fl')):=by
 have hm:=MW (f:=fun x=>x.setIfInBounds 3 fl') hdT
 have hT':(h.update T (Obj.mapFields fun x=>x.setIfInBounds 3 fl')).get? T=some {oT with data:=Data.fields (ts.setIfInBounds 3 fl')}:=by
  rw[Heap.get?_update_self _ hT (by rw[hm];rfl),hm]
 have other:∀ b,b≠T->(h.update T (Obj.mapFields fun x=>x.setIfInBounds 3 fl')).get? b=h.get? b:=fun b hb=>Heap.get?_update_other _ _ (Ne.symm hb)
 have up:UpS h (h.update T (Obj.mapFields fun x=>x.setIfInBounds 3 fl')):=fun b u q nf=>by
  have hb:b≠T:=fun z=>by rw[z,hT] at q;cases q;exact nf ts hdT
  exact ⟨u.slots,by rw[other b hb];exact q⟩
 refine ⟨fun b u q=>?_,Il up hl,⟨oe,tv,T,_,_,by rw[other e (Ne.symm hTe)];exact he,hc,hdi,hd,h1,hBT,hTe,hT',rfl,by simp[h3]⟩,up⟩
 have hb:b≠T:=fun z=>by rw[z,hBT] at q;cases q
 rw[other b hb]
 exact st b u q
theorem UpS.trans {h1 h2 h3:Heap} (a:UpS h1 h2) (b:UpS h2 h3):UpS h1 h3:=fun c o q nf=>by
 obtain ⟨sl,q1⟩:=a c o q nf
 obtain ⟨sl',q2⟩:=b c _ q1 nf
 exact ⟨sl',q2⟩
theorem MN (hfr:A.frames=some (env::outer)) (hl:s.heap.FunFrames B (env::outer)) (hf:env.frame=some L) (tr:Trc s.heap B e cls .none) (st:B.StaysIn s.heap) (hB:B.get? e=none)
  (h:∀ h',Step B (env::outer) e cls (rawInt L) s.heap h'->Q () {s with heap:=h'}):wpAny M A (noteFrame (.ref e) env) Q E s:=by
 obtain ⟨oe,tv,T,oT,ts,he,hc,hdi,hd,h1,hBT,hTe,hT,hdT,h3⟩:=tr
 unfold noteFrame
 rw[hf]
 refine wpAny_bind (wpAny_field he hd h1 ?_)
 refine wpAny_bind (wpAny_field hT hdT h3 ?_)
 have h3':3<ts.size:=(Array.getElem?_eq_some_iff.mp h3).1
 have z:=J7 (e:=e) (fl':=Value.none) hl st hT hdT h3' he hc hdi hd h1 hBT hTe
 refine wpAny_bind (wpAny_setField hT hdT h3' ?_)
 obtain ⟨oe',tv',T',oT',ts',he',hc',hdi',hd',h1',_⟩:=z.tr
 refine LP (s:={s with heap:=s.heap.update T (Obj.mapFields fun x=>x.setIfInBounds 3 Value.none)}) (hadNext:=(Value.ref T != Value.none)) (head:=Value.ref T) hfr z.fr hf he' hd' (Array.getElem?_eq_some_iff.mp h1').1 hdi' z.st hB fun h' a b c d=>h h' ⟨a,b,hc'▸c,z.up.trans d⟩
theorem MY {l:List Env} (hl:s.heap.FunFrames B l) (tr:Trc s.heap B e cls fl) (st:B.StaysIn s.heap)
  (h:∀ h',Step B l e cls .none s.heap h'->Q () {s with heap:=h'}):wpAny M A (setFlight (.ref e) none) Q E s:=by
 obtain ⟨oe,tv,T,oT,ts,he,hc,hdi,hd,h1,hBT,hTe,hT,hdT,h3⟩:=tr
 unfold setFlight
 refine wpAny_bind (wpAny_field he hd h1 ?_)
 have h3':3<ts.size:=(Array.getElem?_eq_some_iff.mp h3).1
 exact wpAny_setField hT hdT h3' (h _ (J7 (e:=e) (fl':=Value.none) hl st hT hdT h3' he hc hdi hd h1 hBT hTe))
theorem KG (h1:∀ {Q:Unit->Shared->Prop},(∀ h',Step B (env::outer) e cls (rawInt L) s.heap h'->Q () {s with heap:=h'})->wpAny M A (noteFrame (.ref e) env) Q E s)
  (h:∀ h',Step B (env::outer) e cls .none s.heap h'->Q () {s with heap:=h'}):wpAny M A (leaving env (.ref e)) Q E s:=by
 unfold leaving
 refine wpAny_bind (h1 fun h2 z=>?_)
 exact MY (s:={s with heap:=h2}) z.fr z.tr z.st fun h3 y=>h h3 ⟨y.st,y.fr,y.tr,z.up.trans y.up⟩
end
structure Fly (P:Program) (w:World) (l:List Env) (H H':Hp) (h0:Heap) (e:Addr) (cls fl:Value) (h:Heap):Prop where
 B:∃ B:Heap,B.StaysIn h/\B.get? e=none/\h.FunFrames B l/\Trc h B e cls fl/\HOk P w H' B/\(∀ b o,h0.get? b=some o->H b=none->b∉frs l->B.get? b=some o)/\∀ b o,h0.get? b=some o->b∉frs l->∃ o',B.get? b=some o'
 slot:∀ b o,h0.get? b=some o->b∈frs l->∃ sl,h.get? b=some {o with slots:=sl}
 newe:h0.get? e=none
 frf:∀ b∈frs l,H' b=none
 free:∀ b o,h0.get? b=some o->H b=none->H' b=none
 tups:∀ b xs,H b=some (.tup xs)->H' b=some (.tup xs)
 frzs:∀ b o u,H b=some (.frz o u)->H' b=some (.frz o u)
 tbls:∀ b ps,H b=some (.tbl ps)->∃ more,H' b=some (.tbl (ps++more))
section
variable {P:Program} {w:World} {l:List Env} {H H':Hp} {h0 h h':Heap} {e:Addr} {cls fl fl':Value}
theorem Fly.hok (y:Fly P w l H H' h0 e cls fl h):HOk P w H' h:=by
 obtain ⟨B,b1,b2,b3,b4,b5,b6,b7⟩:=y.B
 exact b5.kept b1
theorem TY {a:Addr} {o:HO} (x:ObjOk P w H h a o):∃ ob,h.get? a=some ob:=by
 cases o with
 | lst xs=>obtain ⟨_,_,_,_,e⟩:=x;exact ⟨_,e⟩
 | tup xs=>obtain ⟨_,_,_,ob,e,_⟩:=x;exact ⟨ob,e⟩
 | dK kvs=>obtain ⟨_,_,_,_,o,_,_,e,_⟩:=x;exact ⟨_,e⟩
 | dT kvs=>obtain ⟨_,_,_,_,o,_,_,e,_⟩:=x;exact ⟨_,e⟩
 | set S n=>obtain ⟨o,_,_,_,e,_⟩:=x;exact ⟨_,e⟩
 | ins C dx fs=>obtain ⟨_,_,_,e,_⟩:=x;exact ⟨_,e⟩
 | own y=>exact x
 | xd fs=>obtain ⟨_,⟨_,_,_,e,_⟩,_⟩:=x;exact ⟨_,e⟩
 | rng lo hi=>obtain ⟨_,_,_,e⟩:=x;exact ⟨_,e⟩
 | frz ob u=>obtain ⟨e,_⟩:=x;exact ⟨_,e⟩
 | tbl ps=>exact ⟨_,x⟩
 | met f y=>exact ⟨_,x⟩
 | ext φ=>obtain ⟨_,⟨_,e⟩,_⟩:=x;exact ⟨_,e⟩
theorem Fly.newH (y:Fly P w l H H' h0 e cls fl h):H' e=none:=by
 obtain ⟨B,b1,b2,b3,b4,b5,b6,b7⟩:=y.B
 cases q:H' e with
 | none=>rfl
 | some o=>
  obtain ⟨ob,z⟩:=TY (b5 e o q)
  rw[b2] at z
  cases z
theorem Fly.un (y:Fly P w l H H' h0 e cls fl h):Un (frs l) [] H H' h0 h:=by
 obtain ⟨B,b1,b2,b3,b4,b5,b6,b7⟩:=y.B
 refine ⟨fun b o q n hb _=>b1 b o (b6 b o q n hb),fun b o q n hb _=>y.slot b o q hb,fun b o q n _=>y.free b o q n,fun b o q _=>?_,y.tups,y.frzs,y.tbls⟩
 by_cases hb:b∈frs l
 ·obtain ⟨sl,e⟩:=y.slot b o q hb
  exact ⟨_,e⟩
 ·obtain ⟨o',z⟩:=b7 b o q hb
  exact ⟨o',b1 b o' z⟩
end
section
variable {X:Cx} {pins:List (Addr×Obj)} {σ:L2.St} {H H':Hp} {s:Shared} {M:Model} {E:Value->Shared->Prop} {e:Addr} {cls fl:Value} {Q:Unit->Shared->Prop}
structure Own (X:Cx):Prop where
 st:X.stack=X.env::X.outer
 fr:X.env.frame=some X.env.locals
 ex:X.ex=[]
theorem Own.mem (o:Own X) {b:Addr}:b∈frs X.stack↔b=X.env.locals\/b∈frs X.outer:=by
 rw[o.st]
 unfold frs
 rw[List.filterMap_cons,o.fr]
 exact List.mem_cons
theorem SU (I:Inv X pins σ H s):HOk X.prog X.w H (hole s.heap (frs X.stack)):=fun a o e=>
 (I.hok a o e).stay (fun b u hb q=>by
  have hn:b∉frs X.stack:=fun z=>by
   have:=I.stkFree b z
   rcases hb with rfl | hb
   ·rw[e] at this;cases this
   ·rw[hb] at this;cases this
  rw[Du,if_neg hn]
  exact q) (fun b q=>q) (fun b xs q=>q)
theorem Qw {h h':Heap} (k:∀ b o,h.get? b=some o->h'.get? b=some o):∀ b o,h.get? b=some o->∃ sl,h'.get? b=some {o with slots:=sl}:=fun b o q=>⟨o.slots,k b o q⟩
theorem Own.nst (o:Own X) (I:Inv X pins σ H s) {b:Addr} {ob:Obj} (q:X.s₀.heap.get? b=some ob) (hb:b∉frs X.outer):b∉frs X.stack:=by
 intro z
 rcases o.mem.mp z with z | z
 ·have h1:=Heap.lt_size q
  have h2:=I.ok.above
  rw[z] at h1
  exact absurd h1 (Nat.not_lt.mpr h2)
 ·exact hb z
theorem Own.back (o:Own X) (I:Inv X pins σ H s) {b:Addr} {ob:Obj} (q:X.s₀.heap.get? b=some ob) (n:X.H₀ b=none) (hb:b∉frs X.outer):s.heap.get? b=some ob/\b∉frs X.stack:=
 ⟨I.base.keep b ob q n hb (by rw[o.ex];simp),o.nst I q hb⟩
theorem Own.thr (o:Own X) (I:Inv X pins σ H s) {b:Addr} {ob:Obj} (q:X.s₀.heap.get? b=some ob):∃ o',s.heap.get? b=some o':=I.base.there b ob q (by rw[o.ex];simp)
theorem Own.fre (o:Own X) (I:Inv X pins σ H s) {b:Addr} {ob:Obj} (q:X.s₀.heap.get? b=some ob) (n:X.H₀ b=none):H b=none:=I.base.free b ob q n (by rw[o.ex];simp)
theorem QU (o:Own X) (I:Inv X pins σ H s) {h1:Heap} {vs:List Value} (mk:s.heap.MadeExcOf h1 e cls vs) (hQ:∀ h',Fly X.prog X.w X.outer X.H₀ H X.s₀.heap e cls .none h'->Q () {s with heap:=h'}) :
  wpAny M X.A (leaving X.env (.ref e)) Q E {s with heap:=h1}:=by
 obtain ⟨t,e1,e2,e3⟩:=mk.there
 have hB:∀ b ob,(hole s.heap (frs X.stack)).get? b=some ob->s.heap.get? b=some ob:=fun b ob q=>by
  rw[Du] at q
  split at q
  ·cases q
  ·exact q
 have fB:∀ b∈frs X.stack,(hole s.heap (frs X.stack)).get? b=none:=fun b hb=>by rw[Du,if_pos hb]
 have ff:h1.FunFrames (hole s.heap (frs X.stack)) X.stack:=KF (Qw mk.keeps) I.stack fB
 have hst:=o.st
 have hBe:(hole s.heap (frs X.stack)).get? e=none:=by rw[Du];split;rfl;exact mk.new
 refine KG (B:=hole s.heap (frs X.stack)) (outer:=X.outer) (L:=X.env.locals) (cls:=cls) (s:={s with heap:=h1}) (fun {Q} hq=>Ql (oe:={cls:=cls,data:=Data.fields #[Value.ref t,Value.none,Value.none,Value.none,Value.bool false,Value.none]}) (s:={s with heap:=h1}) (by rw[<-hst];exact I.ok.frames) (by rw[<-hst];exact ff) o.fr e1 rfl rfl rfl (fun b ob q=>mk.keeps b ob (hB b ob q)) hBe hq) fun h' lw=>hQ h' ?_
 obtain ⟨l1,l2,l3,l4⟩:=lw
 refine ⟨⟨hole s.heap (frs X.stack),l1,hBe,l2.2.2,l3,SU I,fun b ob q n hb=>?_,fun b ob q hb=>?_⟩,fun b ob q hb=>?_,?_,fun b hb=>I.stkFree b (o.mem.mpr (.inr hb)),fun b ob q n=>o.fre I q n,I.base.tups,I.base.frzs,I.base.tbls⟩
 ·obtain ⟨g1,g2⟩:=o.back I q n hb
  rw[Du,if_neg g2]
  exact g1
 ·obtain ⟨o',g1⟩:=o.thr I q
  rw[Du,if_neg (o.nst I q hb)]
  exact ⟨o',g1⟩
 ·obtain ⟨sl,g1⟩:=I.base.slot b ob q (I.ok.frf b hb) hb (by rw[o.ex];simp)
  obtain ⟨o',g2,g3⟩:=D9 I.ok.funs b hb
  rw[q] at g2
  cases g2
  obtain ⟨sl',g4⟩:=l4 b _ (mk.keeps b _ g1) g3
  exact ⟨sl',g4⟩
 ·cases q:X.s₀.heap.get? e with
  | none=>rfl
  | some ob=>
   obtain ⟨o',g⟩:=I.base.there e ob q (by rw[o.ex];simp)
   rw[mk.new] at g
   cases g
theorem R9 (o:Own X) (I:Inv X pins σ H s) {s':Shared} (y:Fly X.prog X.w X.stack H H' s.heap e cls .none s'.heap) (hQ:∀ h',Fly X.prog X.w X.outer X.H₀ H' X.s₀.heap e cls .none h'->Q () {s' with heap:=h'}) :
  wpAny M X.A (leaving X.env (.ref e)) Q E s':=by
 obtain ⟨B,b1,b2,b3,b4,b5,b6,b7⟩:=y.B
 have hst:=o.st
 refine KG (B:=B) (outer:=X.outer) (L:=X.env.locals) (cls:=cls) (fun {Q} hq=>MN (by rw[<-hst];exact I.ok.frames) (by rw[<-hst];exact b3) o.fr b4 b1 b2 hq) fun h' lw=>hQ h' ?_
 obtain ⟨l1,l2,l3,l4⟩:=lw
 refine ⟨⟨B,l1,b2,l2.2.2,l3,b5,fun b ob q n hb=>?_,fun b ob q hb=>?_⟩,fun b ob q hb=>?_,?_,fun b hb=>y.frf b (o.mem.mpr (.inr hb)),fun b ob q n=>?_,fun b xs q=>y.tups b xs (I.base.tups b xs q),fun b ob u q=>y.frzs b ob u (I.base.frzs b ob u q),fun b ps q=>?_⟩
 ·obtain ⟨g1,g2⟩:=o.back I q n hb
  exact b6 b ob g1 (o.fre I q n) g2
 ·obtain ⟨o',g1⟩:=o.thr I q
  exact b7 b o' g1 (o.nst I q hb)
 ·obtain ⟨sl,g1⟩:=I.base.slot b ob q (I.ok.frf b hb) hb (by rw[o.ex];simp)
  obtain ⟨o',g2,g3⟩:=D9 I.ok.funs b hb
  rw[q] at g2
  cases g2
  obtain ⟨sl2,g5⟩:=y.slot b _ g1 (o.mem.mpr (.inr hb))
  obtain ⟨sl',g4⟩:=l4 b _ g5 g3
  exact ⟨sl',g4⟩
 ·cases q:X.s₀.heap.get? e with
  | none=>rfl
  | some ob=>
   obtain ⟨o',g⟩:=I.base.there e ob q (by rw[o.ex];simp)
   rw[y.newe] at g
   cases g
 ·obtain ⟨o',g1⟩:=o.thr I q
  exact y.free b o' g1 (o.fre I q n)
 ·obtain ⟨m1,g1⟩:=I.base.tbls b ps q
  obtain ⟨m2,g2⟩:=y.tbls b _ g1
  exact ⟨m1++m2,by rw[<-Array.append_assoc];exact g2⟩
theorem Pt (o:Own X) (I:Inv X pins σ H s) {s':Shared} (y:Fly X.prog X.w X.stack H H' s.heap e cls .none s'.heap) (hQ:∀ h',Fly X.prog X.w X.stack H H' s.heap e cls (rawInt X.env.locals) h'->Q () {s' with heap:=h'}) :
  wpAny M X.A (noteFrame (.ref e) X.env) Q E s':=by
 obtain ⟨B,b1,b2,b3,b4,b5,b6,b7⟩:=y.B
 have hst:=o.st
 refine MN (B:=B) (outer:=X.outer) (L:=X.env.locals) (cls:=cls) (by rw[<-hst];exact I.ok.frames) (by rw[<-hst];exact b3) o.fr b4 b1 b2 fun h' lw=>hQ h' ?_
 obtain ⟨l1,l2,l3,l4⟩:=lw
 rw[<-hst] at l2
 refine ⟨⟨B,l1,b2,l2,l3,b5,b6,b7⟩,fun b ob q hb=>?_,y.newe,y.frf,y.free,y.tups,y.frzs,y.tbls⟩
 obtain ⟨o',g2,g3⟩:=D9 I.stack b hb
 rw[q] at g2
 cases g2
 obtain ⟨sl2,g5⟩:=y.slot b _ q hb
 obtain ⟨sl',g4⟩:=l4 b _ g5 g3
 exact ⟨sl',g4⟩
theorem Lv {A:Around} (I:Inv X pins σ H s) {s':Shared} (y:Fly X.prog X.w X.stack H H' s.heap e cls fl s'.heap) (hQ:∀ h',Fly X.prog X.w X.stack H H' s.heap e cls .none h'->Q () {s' with heap:=h'}) :
  wpAny M A (setFlight (.ref e) none) Q E s':=by
 obtain ⟨B,b1,b2,b3,b4,b5,b6,b7⟩:=y.B
 refine MY b3 b4 b1 fun h' lw=>hQ h' ?_
 obtain ⟨l1,l2,l3,l4⟩:=lw
 refine ⟨⟨B,l1,b2,l2,l3,b5,b6,b7⟩,fun b ob q hb=>?_,y.newe,y.frf,y.free,y.tups,y.frzs,y.tbls⟩
 obtain ⟨o',g2,g3⟩:=D9 I.stack b hb
 rw[q] at g2
 cases g2
 obtain ⟨sl2,g5⟩:=y.slot b _ q hb
 obtain ⟨sl',g4⟩:=l4 b _ g5 g3
 exact ⟨sl',g4⟩
end
abbrev CXF (P:Program) (w:World):CXT:=fun outer H s E e s'=>∃ (a C:Addr) (H':Hp),e=.ref a/\E (.ref C) none H'/\s'.os=s.os/\AllBare s'.gens/\Fly P w outer H H' s.heap a (.ref C) .none s'.heap
theorem S3 {K:PySem.W.Frag} {h:Heap} {C:Addr} {bmB:List Value} {newId:String} (kin:K.In h) (hx:PySem.W.excIn K C bmB newId=true) :
  ∃ bm N nm q bs hdct sn sub ab col dd k0 k1 k2 k3 k5 mN,h.get? C=some (excClassObj nm q C N bs bm hdct sn sub ab col dd k0 k1 k2 k3 k5 newId)/\h.Ns N mN/\mN "__init__"=none/\OwnTail h bmB bm:=by
 unfold PySem.W.excIn at hx
 split at hx
 case h_2=>cases hx
 rename_i dict cd sl hl
 split at hx
 case h_2=>cases hx
 rename_i C' bm k0 k1 k2 k3 n k5 em es
 simp only[Bool.and_eq_true,beq_iff_eq,Bool.not_eq_true'] at hx
 obtain ⟨⟨⟨⟨⟨rfl,rfl⟩,hd⟩,ht⟩,hn⟩,hi⟩:=hx
 obtain ⟨nm,bs,mro,N,q,hdct,sn,sub,ab,col,hdel⟩:=cd
 simp only at em hd ht hn hi
 subst em hd
 have ho:=kin _ _ hl
 have esl:sl=#[k0,k1,k2,k3,some (Value.builtin n),k5]:=by
  apply Array.toList_inj.mp
  rw[es]
 subst esl
 have i1:=PySem.W.isNs_of_in kin hn
 have i2:=PySem.W.nsMap_none_of_in kin hn hi
 exact ⟨bm,N,nm,q,bs,hdct,sn,sub,ab,col,dict,k0,k1,k2,k3,k5,h.nsMap N,ho,Heap.Ns.of_isNs i1,i2,PySem.W.tail_of_in kin ht⟩
section
variable {X:Cx} {E:XK}
def XeF (X:Cx) (E:XK):Prop:=X.xe=fun e s'=>wpAny (model X.prog X.w) X.A (leaving X.env e) (fun _ s''=>CXF X.prog X.w X.outer X.H₀ X.s₀ E e s'') (fun e' s''=>CXF X.prog X.w X.outer X.H₀ X.s₀ E e' s'') s'
theorem RQ (o:Own X) (hx:XeF X E):GP (CXF X.prog X.w) X E:=fun pins σ H s e s' I h=>by
 obtain ⟨a,C,H',rfl,hE,os,bare,y⟩:=h
 rw[hx]
 exact R9 o I y fun h' y'=>⟨a,C,H',rfl,hE,os.trans I.os,bare,y'⟩
def PZ (X:Cx) (C:Addr) (E:XK) (ta:TA):TS:=fun _ σ H=>ta σ H fun vs H1=>vs.length<=sizeLine/\E (.ref C) none H1
theorem Pz {x:Str} {C:Addr} {bmB:List Value} {B newId initId:String} {np cpos pos:Pos} {e₀:Expr} {ta:TA} {name:Str} {scope:Scope} {L a:Addr} {cd:Value} (o:Own X) (hx:XeF X E) (henv:X.env=envOf name scope L a cd) (hk:scope.kind=.function) (hc:X.calm=true)
  (hg:(envOf name scope L a cd).kindOf x=some .globalImplicit) (hm:X.mg x=some (.ref C)) (hC:PySem.W.excIn X.K C bmB newId=true) (hB:ExcBaseFacts B newId initId bmB) (ha:PA X [e₀] ta)
  (hs:starEach [e₀] (envOf name scope L a cd)=(false,eval e₀ (envOf name scope L a cd))::starEach [] (envOf name scope L a cd):=by rfl) (hdb:(x == ("__debug__":Str))=false:=by decide) :
  PS X (.Raise (some (.Call (.Name x np) [e₀] [] cpos)) none pos) (PZ X C E ta):=by
 intro pins s σ H D I h
 obtain ⟨m,fr⟩:=I.fr
 have own:OwnCls x C bmB newId X.mg X.base:=⟨hm,S3 I.mod.kin hC⟩
 have hL:X.env.locals=L:=by rw[henv];rfl
 rw[hL] at fr
 rw[henv]
 have:=ha cpos pins s σ H _ I h
 rw[henv] at this
 refine Raise_own fr I.mod.glob own hB (I.ok.hd hc) (thn this fun us s2 ⟨vs,H1,I2,rv,q1,q3⟩=>⟨by rw[<-rv.length];exact q1,I2.bk,fun h' e mk=>?_⟩) hs rfl hk hg hdb
 rw[hx]
 exact QU o I2 mk fun h'' y=>⟨e,C,H1,rfl,q3,I2.os,I2.bare,y⟩
end
def Co (e:Addr) (cls:Value):HO:=.ext fun h=>∃ o vs,h.get? e=some o/\o.cls=cls/\o.dict=none/\o.data=Data.fields vs
section
variable {P:Program} {w:World} {l:List Env} {X:Cx} {pins:List (Addr×Obj)} {σ:L2.St} {H H':Hp} {s:Shared} {h0 h:Heap} {e:Addr} {cls fl:Value}
theorem Fly.unE (y:Fly P w l H H' h0 e cls fl h) (o:HO):Un (frs l) [] H (upd H' e o) h0 h:=by
 have u:=y.un
 have ne:∀ {b u},H' b=some u->b≠e:=fun {b u} q z=>by
  rw[z,y.newH] at q
  cases q
 refine ⟨u.keep,u.slot,fun b ob q n hb=>?_,u.there,fun b xs q=>by rw[AR (ne (u.tups b xs q))];exact u.tups b xs q,fun b ob v q=>by rw[AR (ne (u.frzs b ob v q))];exact u.frzs b ob v q,fun b ps q=>?_⟩
 ·rw[AR (fun z=>by rw[z,y.newe] at q;cases q)]
  exact u.free b ob q n hb
 ·obtain ⟨more,g⟩:=u.tbls b ps q
  exact ⟨more,by rw[AR (ne g)];exact g⟩
theorem Fly.hokE (y:Fly P w l H H' h0 e cls fl h):HOk P w (upd H' e (Co e cls)) h:=by
 intro b ob q
 by_cases hb:b=e
 ·subst hb
  rw[BA] at q
  cases q
  obtain ⟨B,b1,b2,b3,⟨oe,vs,T,oT,ts,t1,t2,t3,t4,_⟩,b5,b6⟩:=y.B
  exact ⟨⟨oe,vs,t1,t2,t3,t4⟩,⟨oe,t1⟩,fun h1 h2 ⟨o,vs,g1,g2⟩ k=>⟨o,vs,k o g1,g2⟩⟩
 ·rw[AR hb] at q
  have he:=y.newH
  exact (y.hok b ob q).stay (fun _ _ _ z=>z) (fun c z=>by rw[AR (fun r=>by rw[r,he] at z;cases z)];exact z) (fun c xs z=>by rw[AR (fun r=>by rw[r,he] at z;cases z)];exact z)
theorem Fly.invE (I:Inv X pins σ H s) {s':Shared} (y:Fly X.prog X.w X.stack H H' s.heap e cls fl s'.heap) (ho:s'.os=s.os) (hg:AllBare s'.gens):Inv X pins σ (upd H' e (Co e cls)) s':=
 I.call' (ch:=[]) ho (y.unE _) y.hokE hg fun b hb=>absurd hb (by simp)
abbrev Xm (X:Cx) (e:Addr):Cx:={X with A:=X.A.mark (some (.ref e)),calm:=false,xe:=fun _ _=>False}
theorem QK (ok:X.Ok) (e:Addr):(Xm X e).Ok:=
 ⟨ok.mod,ok.kind,ok.glob,ok.blt,ok.above,ok.inj,ok.has,ok.cab,(fun z=>nomatch z),ok.frames,ok.stk,ok.exf,ok.bs,ok.bsz,ok.noex,ok.exfs,ok.funs,ok.frf⟩
theorem Inv.m (I:Inv X pins σ H s) (e:Addr):Inv (Xm X e) pins σ H s:=⟨QK I.ok e,I.os,I.bare,I.base,I.loc,I.cell,I.free,I.freeC,I.pin,I.hok,I.len⟩
theorem Inv.um {e:Addr} (ok:X.Ok) (I:Inv (Xm X e) pins σ H s):Inv X pins σ H s:=⟨ok,I.os,I.bare,I.base,I.loc,I.cell,I.free,I.freeC,I.pin,I.hok,I.len⟩
theorem UH {M:Model} {A:Around} {E:Value->Shared->Prop} {i:Nat} {x:Str} {pos:Pos} {Q:Unit->Shared->Prop} (I:Inv X pins σ H s) (hN:X.N.Nodup) (hi:X.N[i]?=some x) (hk:X.env.scope.names.lookup x=some .local)
  (h:∀ s',Inv X pins (σ.set i none) H s'->Q () s'):wpAny M A (do bindName X.env x .none;unbindBehindTheSuite X.env x pos) Q E s:=by
 obtain ⟨m,hn,hl⟩:=id I.loc
 have hcls:(X.env.scope.kind == .class || (X.env.scope.kind == .module && X.env.locals != X.env.globals))=false:=by rw[I.ok.kind];rfl
 have hiσ:i<σ.length:=by rw[I.len];exact (List.getElem?_eq_some_iff.mp hi).1
 have cne:=I.cne
 refine wpAny_nameGoes_keeps hk hn hcls fun h' v hn' hs=>?_
 obtain ⟨oL,_,_,hoL,_⟩:=id hn
 have tracked:HOk X.prog X.w H h':=fun b ob e=>by
  refine (I.hok b ob e).stay (fun c w' hc q=>(hs.2 c ?_).trans q) (fun _ q=>q) fun _ _ q=>q
  rintro rfl
  rcases hc with rfl | hc
  ·rw[I.free] at e;cases e
  ·rw[I.free] at hc;cases hc
 refine h _ ⟨I.ok,I.os,I.bare,⟨fun b o e n hb hx=>?_,fun b o e n hb hx=>?_,I.base.free,fun b o e hx=>?_,I.base.tups,I.base.frzs,I.base.tbls⟩,⟨_,hn',fun j y v' e1 e2 e3=>?_⟩,fun y c e=>?_,I.free,I.freeC,fun p hp=>?_,tracked,by simpa using I.len⟩
 ·exact (hs.2 b (Nat.ne_of_lt (Nat.lt_of_lt_of_le (Heap.lt_size e) I.ok.above))).trans (I.base.keep b o e n hb hx)
 ·obtain ⟨sl,e1⟩:=I.base.slot b o e n hb hx
  exact ⟨sl,(hs.2 b (Nat.ne_of_lt (Nat.lt_of_lt_of_le (Heap.lt_size e) I.ok.above))).trans e1⟩
 ·obtain ⟨o',e1⟩:=I.base.there b o e hx
  exact ⟨o',(hs.2 b (Nat.ne_of_lt (Nat.lt_of_lt_of_le (Heap.lt_size e) I.ok.above))).trans e1⟩
 ·by_cases hj:j=i
  ·subst hj
   rw[List.getElem?_set_self hiσ] at e2
   cases e2
  ·rw[List.getElem?_set_ne (Ne.symm hj)] at e2
   obtain ⟨u',r',q⟩:=hl j y v' e1 e2 e3
   refine ⟨u',r',?_⟩
   rcases q with ⟨k,e⟩ | ⟨k,c,e,z⟩
   ·refine .inl ⟨k,?_⟩
    have:y≠x:=fun e=>hj (IS hN e1 (e▸hi))
    simp[this,e]
   ·exact .inr ⟨k,c,e,z.sameBut hs (cne y c e)⟩
 ·obtain ⟨w',z⟩:=I.cell y c e
  exact ⟨w',z.sameBut hs (cne y c e)⟩
 ·obtain ⟨e,n,ne,nf,d⟩:=I.pin p hp
  exact ⟨(hs.2 p.1 ne).trans e,n,ne,nf,d⟩
end
theorem Lz {M:Model} {h:Heap} {a:Addr} {o:Obj} {cls:Value} (e:h.get? a=some o) (c:o.cls=cls):PySem.W.Looks M h (typeOf (.ref a)) cls:=by
 intro A Q E s k q
 unfold typeOf
 refine wpAny_bind (wpAny_load (k a o e) ?_)
 rw[<-c] at q
 exact wpAny_pure q
section
variable {X:Cx} {k:Nat} {f C CT:Addr} {fd:FuncData} {ps:List Str} {sp:Sp} {x T n:Str} {i:Nat} {p cpos epos tp hpos pos:Pos} {e:Expr} {es:List Expr} {ta:TA} {b₀:Stmt} {suite:List Stmt} {ts:Addr->TS}
def JO (sp:Sp) (C:Addr) (i:Nat) (ta:TA) (ts:Addr->TS):TS:=fun D σ H=>ta σ H fun vs H1=>sp vs H1 (fun _ _=>False) (fun c _ H2=>c=.ref C /\
 ∀ a:Addr,H2 a=none->ts a {nx:=fun σ' H'=>D.nx (σ'.set i none) H',rt:=fun _ _=>False} (σ.set i (some (.ref a))) (upd H2 a (Co a (.ref C))))
theorem QA (o:Own X) (hxe:X.xe=fun _ _=>False) (F:FnOk X.prog X.w X.K X.mg X.base (CXF X.prog X.w) k f fd ps sp) (hr:Room k X.A) (hg:Gl X x) (hm:X.mg x=some (.ref f)) (hk:PySem.W.keepIn X.K (.ref f)=true) (hb:Binds X.K fd ps [])
  (ha:PA X (e::es) ta) (hgT:Gl X T) (hmT:X.mg T=some (.ref CT)) (hex:PySem.W.exmOne X.K (.ref C) (.ref CT)=some true) (hN:X.N.Nodup) (hi:X.N[i]?=some n) (hn:X.env.scope.names.lookup n=some .local)
  (hsu:∀ a,PSs (Xm X a) (b₀::suite) (ts a)) (hdb:(x == ("__debug__":Str))=false:=by decide) (hdT:(T == ("__debug__":Str))=false:=by decide)
  (he:starEach (e::es) X.env=(false,eval e X.env)::starEach es X.env:=by rfl) (hpl:(backTo cpos (starEach es X.env)).any (·.1)=false:=by rfl) (hsw:swapsWith (.Call (.Name x p) (e::es) [] cpos) none epos.line X.env=pure false:=by rfl) :
  PS X (.Try [.Expr (.Call (.Name x p) (e::es) [] cpos) epos] [.ExceptHandler (some (.Name T tp)) (some n) (b₀::suite) hpos] [] [] pos) (JO sp C i ta ts):=by
 intro pins s σ H D I h
 refine wpAny_Try_except (wpAny_execs_cons (wpAny_Expr_any ?_ I.quiet hsw))
 refine wpAny_Call_Name_kw (Fc I hg hm ?_ hdb)
 refine PySem.W.callWith_K (h₀:=X.base) I.ok.mod.kin hk (wpAny_mono (ha cpos pins s σ H _ I h) (fun us s1 ⟨vs,H1,I1,r,q1⟩=>⟨I1.kIn,?_⟩) (fun _ _ z=>by rw[hxe] at z;exact z.elim)) he hpl
 have hl:us.length=ps.length:=by rw[<-r.length];exact F.len _ _ _ _ q1
 have hb':=hb s1 us I1.kIn (by rw[List.append_nil];exact hl)
 rw[List.append_nil] at hb'
 refine wpAny_call (codeAny_mono (F.run X.A X.stack s1 H1 ⟨us,[]⟩ us vs _ _ hr I1.env0 hb' r q1) fun rr s' hq=>?_)
 cases rr with
 | ok fl=>
  cases fl with
  | ret u=>
   obtain ⟨v,H',_,_,_,_,_,z⟩:=hq
   exact z.elim
  | next=>exact False.elim hq
  | brk=>exact False.elim hq
  | cont=>exact False.elim hq
 | error ev=>
  obtain ⟨a,C',H2,rfl,⟨hC,q2⟩,os,bare,y⟩:=hq
  cases hC
  have hna:H2 a=none:=y.newH
  refine Pt o I1 y fun h2 y2=>Lv I1 (s':={s' with heap:=h2}) y2 fun h3 y3=>?_
  have I3:=y3.invE (s':={s' with heap:=h3}) I1 os bare
  refine wpAny_handleBy_cons (codeAny_handlers_test ?_) (fun z=>nomatch z)
  refine Fc (X:=Xm X a) (XL.Inv.m I3 a) hgT hmT ?_ hdT
  obtain ⟨B,b1,b2,b3,⟨oe,vs',T',oT,tt,t1,t2,_⟩,b5,b6⟩:=y3.B
  refine PySem.W.exm_one I3.kIn (Lz t1 t2) hex _ _ _ _ (fun _ _ z=>z) ?_
  show codeAny _ _ _ _ _
  refine codeAny_handlers_suite_as ?_
  refine Lv I1 (s':={s' with heap:=h3}) y3 fun h4 y4=>?_
  have I4:=y4.invE (s':={s' with heap:=h4}) I1 os bare
  refine Fq I4 hN hi (.inl hn) (v:=.ref a) rfl (fun s5 I5=>?_) (.inr hn)
  refine wpAny_mono (hsu a pins s5 _ _ _ (XL.Inv.m I5 a) (q2 a hna)) (fun fl s6 hf=>?_) (fun _ _ z=>z.elim)
  cases fl with
  | next=>
   obtain ⟨σ',H',I6,q⟩:=hf
   exact UH (XL.Inv.um I.ok I6) hN hi hn fun s7 I7=>⟨_,_,I7,q⟩
  | ret u=>
   obtain ⟨_,_,_,_,_,z⟩:=hf
   exact z.elim
  | brk=>
   obtain ⟨_,_,_,z⟩:=hf
   exact z.elim
  | cont=>
   obtain ⟨_,_,_,z⟩:=hf
   exact z.elim
end
theorem SH {M:Model} {A:Around} {E:Value->Shared->Prop} {h:Heap} {g:Array GenState} {d:Drawn} {t:Nat} {os:OsState} {x D:Addr} {nameV:Value} {Q:Unit->Shared->Prop} (L0:PySem.W.Looks M h (typeOf (.ref x)) (.ref D)) (L1:PySem.W.Looks M h (isSubtype (.ref D) (.type "BaseException")) true)
  (q:Q () ⟨h,g,d,t,os⟩):wpAny M A (checkBuiltinCall "BaseException.__getattribute__" {pos:=[.ref x,nameV]}) Q E ⟨h,g,d,t,os⟩:=by
 have hk:builtinKind "BaseException.__getattribute__"=some Manifest.AttrKind.slot:=by with_unfolding_all rfl
 have hs:splitId "BaseException.__getattribute__"=some ("BaseException","__getattribute__"):=by with_unfolding_all rfl
 have ha:=PySem.F.args_bexc_ga (Value.ref x) nameV
 unfold checkBuiltinCall
 simp only[hk,hs]
 unfold isInstance
 refine wpAny_bind (wpAny_bind (PySem.W.Looks.at L0 (PySem.W.Looks.at L1 ?_)))
 refine wpAny_ite_false rfl ?_
 unfold argsOk at ha
 generalize Manifest.signature? "BaseException.__getattribute__"=sg at ha ⊢
 cases sg with
 | none=>exact wpAny_pure q
 | some sig=>exact wpAny_of_eq ha q
theorem OK {prog:Program} {w:World} {A:Around} {E:Value->Shared->Prop} {s:Shared} {K:PySem.W.Frag} {x D:Addr} {ox:Obj} {Q:Option Value->Shared->Prop} (X:K.In s.heap) (I:PySem.W.InstAt s.heap x ox D none)
  (hga:PySem.W.findIn K (.ref D) "__getattribute__"=some (some (.builtin "BaseException.__getattribute__"))) (hgt:PySem.W.findIn K (.ref D) "__getattr__"=some none) (hsb:PySem.W.subIn K (.ref D) (.type "BaseException")=some true)
  (hfo:PySem.W.findObj K D none "__class__"=some (.bind (.builtin "getset_descriptor.__get__") (.builtin "object.__class__"))) (hmo:PySem.W.mroIn K D (.type "object")=some true)
  (h:Q (some (.ref D)) {s with toks:=s.toks+1}):wpAny (model prog w) A (getAttr? (.ref x) "__class__") Q E s:=by
 obtain ⟨hh,g,d,t,os⟩:=s
 have L0:=fun M=>PySem.W.InstAt.type (M:=M) I
 have L1:=fun M=>PySem.W.looks_findIn (M:=M) X hga
 have L2':=fun M=>PySem.W.looks_findIn (M:=M) X hgt
 have L3:=fun M=>PySem.W.looks_subIn (M:=M) X hsb
 have L4:=fun M=>PySem.W.looks_find (M:=M) X I hfo
 unfold getAttr? getAttrBy?
 refine wpAny_bind (wpAny_mkText (wpAny_bind (wpAny_attempt ?_)))
 unfold getAttrBy
 refine wpAny_holding (wpAny_bind (PySem.W.Looks.at (L0 _) (wpAny_bind (PySem.W.Looks.at (L1 _) ?_))))
 show wpAny _ _ (getAttrByItsOwn _ _ _ _ _ _) _ _ _
 unfold getAttrByItsOwn hookBefore
 refine wpAny_bind (wpAny_ite_true rfl (PySem.W.Looks.at (L2' _) ?_))
 refine wpAny_bind (wpAny_attempt (wpAny_holding ?_))
 unfold callGetattribute
 refine wpAny_ite_false rfl ?_
 unfold boundAndCalled
 refine wpAny_bind (wpAny_of_eq (PySem.F.attrBase_ValueError.ga.bind (Value.ref x)) ?_)
 refine wpAny_call (codeAny_call_builtin PySem.F.attrBase_ValueError.ga.plain PySem.F.entry_bexc_ga (SH (L0 _) (L3 _) ?_))
 unfold Builtin.«object.__getattribute__»
 refine wpAny_bind ?_
 unfold slotArgs
 refine wpAny_ite_false rfl (wpAny_ite_false rfl (wpAny_pure ?_))
 refine wpAny_bind (wpAny_pure ?_)
 refine wpAny_bind (PySem.W.Looks.at (L0 _) ?_)
 refine wpAny_bind (PySem.W.Looks.at (L4 _) ?_)
 show wpAny _ _ (Builtin.ObjectAttr.bindTo _ _ _ _) _ _ _
 unfold Builtin.ObjectAttr.bindTo
 refine wpAny_bind (wpAny_holding (wpAny_call (PySem.W.class_get (s:=⟨hh,g,d,t+1,os⟩) X I hmo ?_)))
 refine wpAny_pure ?_
 exact PySem.W.handed_on rfl (wpAny_pure h)
def ExcAt (x:Addr) (cls:Value) (h:Heap):Prop:=∃ o vs,h.get? x=some o/\o.cls=cls/\o.dict=none/\o.data=Data.fields vs
structure ExcC (K:PySem.W.Frag) (D:Addr):Prop where
 lk:∃ dict cd sl,K.lookup D=some ⟨.type "type",dict,.cls cd,sl⟩
 ga:PySem.W.findIn K (.ref D) "__getattribute__"=some (some (.builtin "BaseException.__getattribute__"))
 gt:PySem.W.findIn K (.ref D) "__getattr__"=some none
 sb:PySem.W.subIn K (.ref D) (.type "BaseException")=some true
 fo:PySem.W.findObj K D none "__class__"=some (.bind (.builtin "getset_descriptor.__get__") (.builtin "object.__class__"))
 mo:PySem.W.mroIn K D (.type "object")=some true
theorem Kb {K:PySem.W.Frag} {x D:Addr} (c:ExcC K D):PySem.W.KitX K (.ref x) (.ref D) (ExcAt x (.ref D)) where
 ty:=fun M h X ⟨o,vs,e1,e2,_⟩=>Lz e1 e2
 it:=fun M h X _=>by
  obtain ⟨dict,cd,sl,lk⟩:=c.lk
  intro A Q E s k q
  unfold isType
  exact wpAny_bind (wpAny_loadPart (k D _ (X D _ lk)) (wpAny_pure q))
 ne:=fun h tp dd its n sl X q=>by
  obtain ⟨dict,cd,sl',lk⟩:=c.lk
  have hD:=X D _ lk
  refine Bool.eq_false_iff.mpr fun z=>?_
  have z:D=tp:=by simpa using z
  rw[z,q] at hD
  simp at hD
 ca:=fun {prog w A E Q s} X ⟨o,vs,e1,e2,e3,e4⟩ h=>by
  have I:PySem.W.InstAt s.heap x o D none:=⟨e1,e2,by unfold PySem.W.notCls;rw[e4],by rw[e3];trivial⟩
  exact OK X I c.ga c.gt c.sb c.fo c.mo h
section
variable {X:Cx}
def Qo (K:PySem.W.Frag):List V->Hp->VK->Prop:=fun xs H Q=>∃ (a D:Addr) (c:V) (u:Value) (b:Bool),xs=[.ref a,c]/\RelV c u/\(∀ u',RelV c u'->u'=u)/\H a=some (Co a (.ref D))/\ExcC K D/\PySem.W.kitOne K (.ref D) u=some b/\Q (.bl b) H
theorem K8:CallR X (.builtin "isinstance") (Qo X.K):=by
 intro pins s σ H xs us Q I r h
 obtain ⟨a,D,c,u,b,rfl,rc,hu,ha,cD,hk,q⟩:=h
 obtain ⟨v,v',rfl,rv,rv'⟩:=vals2 r
 cases (show v=Value.ref a from rv)
 cases hu v' rv'
 have at_:ExcAt a (.ref D) s.heap:=(I.hok a _ ha).1
 exact PySem.W.kia_one (Kb cD) I.kIn at_ hk (fun z=>nomatch z) fun tk=>⟨.bl b,H,I.tok tk,rfl,q⟩
def Ol (K:PySem.W.Frag):List V->Hp->VK->Prop:=fun xs H Q=>∃ (a D p:Addr) (cs:List Addr) (b:Bool),xs=[.ref a,.ref p]/\H p=some (.tup (cs.map V.ref))/\H a=some (Co a (.ref D))/\ExcC K D/\PySem.W.kitAny K (.ref D) (cs.map Value.ref)=some b/\Q (.bl b) H
theorem Dr:∀ {cs:List Addr} {us:List Value},Vals (cs.map V.ref) us->us=cs.map Value.ref
 | [],_,.nil=>rfl
 | _::_,_,.cons r t=>by
  rw[List.map_cons,<-Dr t]
  exact congrArg (·::_) r
theorem Oz:CallR X (.builtin "isinstance") (Ol X.K):=by
 intro pins s σ H xs us Q I r h
 obtain ⟨a,D,p,cs,b,rfl,hp,ha,cD,hk,q⟩:=h
 obtain ⟨v,v',rfl,rv,rv'⟩:=vals2 r
 cases (show v=Value.ref a from rv)
 cases (show v'=Value.ref p from rv')
 have at_:ExcAt a (.ref D) s.heap:=(I.hok a _ ha).1
 obtain ⟨_,its,rv,o,ho,hc,n,hd⟩:=I.hok p _ hp
 have ei:=Dr rv
 subst ei
 obtain ⟨oc,od,odt,osl⟩:=o
 cases (show oc=.type "tuple" from hc)
 cases (show odt=.seq (cs.map Value.ref).toArray n from hd)
 exact PySem.W.kia_tup (Kb cD) I.kIn at_ ho hk (fun z=>nomatch z) fun tk=>⟨.bl b,H,I.tok tk,rfl,q⟩
end
end XL
namespace Ev
open PySem
def top (i:Nat):Stmt:=PySem.Challenge.pw_evenlots_k41_the_kth_by_counts.main.body.getD i (.Pass ⟨0,0,0,0⟩)
structure Cal (P:Program) (w:World) (K:PySem.W.Frag) (mg:Str->Option Value) (base:Heap) (x:Str) (lv:Nat) (f:Addr) (fd:FuncData) (ps:List Str) (sp:L2.Sp):Prop where
 G:L2.FnOk P w K mg base L2.CX0 lv f fd ps sp
 b:L2.Binds K fd ps []
 k:PySem.W.keepIn K (.ref f)=true
 m:mg x=some (.ref f)
end Ev
namespace DL
open PySem L2 Ev
abbrev GM:Stmt:=top 9
abbrev J8:List Str:=["row","hand"]
def Ii:MS:=(CO (Au CA (AB (AE (AN (Dm (AB (AA 0) AC)) 2 [1] (Cw [0,1]) mTT (A4 (AB (mOp gIx (AA 1) (mC (.int 0))) (AB (AA 2) (AB (AA 0) AC)))))) AC)))
theorem RL:FnScope J8 ["row","hand"] (AU GM):=⟨rfl,rfl,rfl,by decide +kernel,rfl,by decide +kernel,by decide +kernel⟩
theorem Nj {P:Program} {w:World} {K:PySem.W.Frag} {mg:Str->Option Value} {base:Heap} {fa:Addr} {fd:FuncData} (F:Fun K "names_of_hand" "names_of_hand" GM fa fd) (T:Nm mg):FnOk P w K mg base CX0 1 fa fd ["row","hand"] (spF K 2 (BW 2 (Ii))):=
 E9 F RL fun cdv A outer s H E hr=>(Ad (ES (Rg T (AD (Ah (Bb (esc:=(AU GM)) (N:=J8) (tn:=["place","thing"]) (fn:=["hand"]) (ix:=[1]) rfl rfl rfl ⟨rfl,by decide +kernel,by decide +kernel,by decide +kernel,rfl,by decide +kernel⟩ (Jl rfl T.enum (AD (dv 0) AG)) (fun _ _ _ _ _=>(JD (is:=[0,1]) (n:=2) rfl (Lw rfl rfl (Fv (Ap (i:=0) (show (["place","thing","hand"]:List Str).Nodup by decide +kernel) rfl (Or.inl rfl)) (Fv (Ap (i:=1) (show (["place","thing","hand"]:List Str).Nodup by decide +kernel) rfl (Or.inl rfl)) J4))))) (fun _ _ _ _ _=>Bp) (fun _ _ _ _ _=>(Dq (AD (BD (dv 1) AL) (AD (dv 2) (AD (dv 0) AG))))))) AG))))
abbrev Ie:Stmt:=top 8
abbrev Po:List Str:=["thing"]
def IM:MS:=(As (Eo (BM "int" (AA 0)) (Hg (BM "bool" (AA 0)))))
theorem OM:FnScope Po ["thing"] (AU Ie):=⟨rfl,rfl,rfl,by decide +kernel,rfl,by decide +kernel,by decide +kernel⟩
theorem Rm {P:Program} {w:World} {K:PySem.W.Frag} {mg:Str->Option Value} {base:Heap} {fa:Addr} {fd:FuncData} (F:Fun K "is_whole" "is_whole" Ie fa fd) (T:Nm mg):FnOk P w K mg base CX0 1 fa fd ["thing"] (spD K 1 (mFn 1 (IM))):=
 Br F OM fun cdv A outer s H E hr=>(Ad (BK (Fw (LC T (dv 0)) (G8 (Ly (La T (dv 0)))))))
abbrev GV:Stmt:=top 11
abbrev Kc:List Str:=["parts","post"]
def HJ:MS:=(As (AH AX (AB (AE (AN (AO (AA 0)) 1 [1] (AF 0) (AK (mOp Af (AA 0) (AA 1))) (AA 0))) AC)))
theorem T3:FnScope Kc ["parts","post"] (AU GV):=⟨rfl,rfl,rfl,by decide +kernel,rfl,by decide +kernel,by decide +kernel⟩
theorem PD {P:Program} {w:World} {K:PySem.W.Frag} {mg:Str->Option Value} {base:Heap} {fa:Addr} {fd:FuncData} (F:Fun K "count_below" "count_below" GV fa fd) (T:Nm mg):FnOk P w K mg base CX0 1 fa fd ["parts","post"] (spD K 2 (mFn 2 (HJ))):=
 Br F T3 fun cdv A outer s H E hr=>(Ad (BK (Bi T (AD (Ah (Bb (esc:=(AU GV)) (N:=Kc) (tn:=["part"]) (fn:=["post"]) (ix:=[1]) rfl rfl rfl ⟨rfl,by decide +kernel,by decide +kernel,by decide +kernel,rfl,by decide +kernel⟩ (BP (dv 0)) (fun _ _ _ _ _=>(Aw (Ap (i:=0) (show (["part","post"]:List Str).Nodup by decide +kernel) rfl (Or.inl rfl)))) (fun _ _ _ _ _=>(Cp (C0 hr.units0 (dv 0) (dv 1)))) (fun _ _ _ _ _=>(dv 0)))) AG))))
abbrev DK:Stmt:=top 13
abbrev HL:List Str:=["rows","k"]
def Hw (zN:MD):MS:=(mIf (mOr (A7 (Ak (AJ zN (AB (AA 1) AC)))) (A7 (AK (Bt Cq Af (mC (.int 0)) (AA 1) (AH BJ (AB (AE (AN (AO (AA 0)) 1 [] (AF 0) mTT (AH AX (AB (AA 0) AC)))) AC)))))) (fun _=>none) A9)
theorem J6:FnScope HL ["rows","k"] (AU DK):=⟨rfl,rfl,rfl,by decide +kernel,rfl,by decide +kernel,by decide +kernel⟩
theorem SI {P:Program} {w:World} {K:PySem.W.Frag} {mg:Str->Option Value} {base:Heap} {fa:Addr} {fd:FuncData} (F:Fun K "check_counted" "check_counted" DK fa fd) (T:Nm mg) {yE:Addr} {yF:FuncData} {zN:MD} (zO:Cal P w K mg base "is_whole" 1 yE yF ["thing"] (spD K 1 zN)):FnOk P w K mg base CX0 2 fa fd ["rows","k"] (spD K 2 (mFn 2 (Hw zN))):=
 Br F J6 fun cdv A outer s H E hr=>(Ad (BV (Fj (Ga (Cr (CH (BC zO.G hr rfl zO.m zO.k zO.b (AD (dv 1) AG) (Ab Ai)))) (FP (Cr (Jy hr.units0 AL (dv 1) (Ew T.sum (AD (Ah (Bb (esc:=(AU DK)) (N:=HL) (tn:=["row"]) (fn:=[]) (ix:=[]) rfl rfl rfl ⟨rfl,by decide +kernel,by decide +kernel,by decide +kernel,rfl,by decide +kernel⟩ (BP (dv 0)) (fun _ _ _ _ _=>(Aw (Ap (i:=0) (show (["row"]:List Str).Nodup by decide +kernel) rfl (Or.inl rfl)))) (fun _ _ _ _ _=>Bp) (fun _ _ _ _ _=>(Bi T (AD (dv 0) AG))))) AG))))))) (Ad Ow) Be))
abbrev HZ:Stmt:=top 14
abbrev P8:List Str:=["names"]
def Gu:MS:=(As (mOp gIx (AA 0) (mOp Az (AH AX (AB (AA 0) AC)) (mC (.int 2)))))
theorem SA:FnScope P8 ["names"] (AU HZ):=⟨rfl,rfl,rfl,by decide +kernel,rfl,by decide +kernel,by decide +kernel⟩
theorem QC {P:Program} {w:World} {K:PySem.W.Frag} {mg:Str->Option Value} {base:Heap} {fa:Addr} {fd:FuncData} (F:Fun K "middle_of" "middle_of" HZ fa fd) (T:Nm mg):FnOk P w K mg base CX0 1 fa fd ["names"] (spD K 1 (mFn 1 (Gu))):=
 Br F SA fun cdv A outer s H E hr=>(Ad (BK (BD (dv 0) (ED (Bi T (AD (dv 0) AG)) AL))))
abbrev GR:Stmt:=top 15
abbrev KH:List Str:=["left"]
def FT (zW:MD):MS:=(As (AJ zW (AB (AE (Au BF (AB (AE (AN (AO (AA 0)) 1 [] (AF 0) (Ak (AA 0)) (AJ zW (AB (AA 0) AC)))) AC))) AC)))
theorem Nh:FnScope KH ["left"] (AU GR):=⟨rfl,rfl,rfl,by decide +kernel,rfl,by decide +kernel,by decide +kernel⟩
theorem QJ {P:Program} {w:World} {K:PySem.W.Frag} {mg:Str->Option Value} {base:Heap} {fa:Addr} {fd:FuncData} (F:Fun K "post_of_left" "post_of_left" GR fa fd) (T:Nm mg) {yQ:Addr} {yR:FuncData} {zW:MD} (zP:Cal P w K mg base "middle_of" 1 yQ yR ["names"] (spD K 1 zW)):FnOk P w K mg base CX0 2 fa fd ["left"] (spD K 1 (mFn 1 (FT zW))):=
 Br F Nh fun cdv A outer s H E hr=>(Ad (BK (BC zP.G hr rfl zP.m zP.k zP.b (AD (Ah (Ed T (AD (Ah (Bb (esc:=(AU GR)) (N:=KH) (tn:=["names"]) (fn:=[]) (ix:=[]) rfl rfl rfl ⟨rfl,by decide +kernel,by decide +kernel,by decide +kernel,rfl,by decide +kernel⟩ (BP (dv 0)) (fun _ _ _ _ _=>(Aw (Ap (i:=0) (show (["names"]:List Str).Nodup by decide +kernel) rfl (Or.inl rfl)))) (fun _ _ _ _ _=>(Cp (CH (dv 0)))) (fun _ _ _ _ _=>(BC zP.G hr rfl zP.m zP.k zP.b (AD (dv 0) AG) (Ab Ai))))) AG))) AG) (Ab Ai))))
abbrev Cy:Stmt:=top 16
abbrev EY:List Str:=["rows","k","left","due","rounds","post","below"]
def C5 (zQ:MD) (zR:MDF) (zS:MD) (zT:MD):MS:=(AI (DM 4 FY (mC (.int 1)))
 (AI (AM 5 (AJ zS (AB (AA 2) AC)))
 (AI (AM 6 (AH BJ (AB (AE (AN (AO (AA 2)) 1 [5] (AF 0) mTT (AJ zT (AB (AA 0) (AB (AA 1) AC))))) AC)))
 (AI (mIf (AK (mOp BI (AA 3) (AA 6))) (As (A4 (AB (mOp gIx (mOp gIx (AA 0) (mOp gIx (AA 5) (mC (.int 1)))) (mOp gIx (AA 5) (mC (.int 2)))) (AB (AA 4) AC)))) A9)
 (mIf (AK (mOp Af (AA 3) (AA 6))) (AM 2 (AE (AN (AO (AA 2)) 1 [5] (AF 0) mTT (AE (AN (AO (AA 0)) 1 [1] (AF 0) (AK (mOp Af (AA 0) (AA 1))) (AA 0)))))) (AI (AM 2 (AE (AN (AO (AA 2)) 1 [5] (AF 0) mTT (AE (AN (AO (AA 0)) 1 [1] (AF 0) (AK (mOp B9 (AA 0) (AA 1))) (AA 0))))))
 (DM 3 A5 (mOp Ay (AA 6) (mC (.int 1))))))))))
def Ea (zQ:MD) (zR:MDF) (zS:MD) (zT:MD):MT:=(Ak (mC (.bl true)))
def GF (zQ:MD) (zR:MDF) (zS:MD) (zT:MD):MS:=(AI (CB (AJ zQ (AB (AA 0) (AB (AA 1) AC))))
 (AI (AM 2 (AE (AN (Dm (AB (AA 0) AC)) 2 [] (Cw [0,1]) mTT (AE (Bk zR (AB (AA 1) (AB (AA 0) AC)))))))
 (AI (AM 3 (AA 1))
 (AI (AM 4 (mC (.int 0)))
 (DN (Ea zQ zR zS zT) (C5 zQ zR zS zT))))))
theorem sc_kth_thing:FnScope EY ["rows","k"] (AU Cy):=⟨rfl,rfl,rfl,by decide +kernel,rfl,by decide +kernel,by decide +kernel⟩
theorem Tf {P:Program} {w:World} {K:PySem.W.Frag} {mg:Str->Option Value} {base:Heap} {fa:Addr} {fd:FuncData} (F:Fun K "kth_thing" "kth_thing" Cy fa fd) (T:Nm mg) {yG:Addr} {yH:FuncData} {zQ:MD} (zX:Cal P w K mg base "check_counted" 2 yG yH ["rows","k"] (spD K 2 zQ)) {yS:Addr} {yT:FuncData} {zR:MDF} (zY:Cal P w K mg base "names_of_hand" 1 yS yT ["row","hand"] (spF K 2 zR)) {yU:Addr} {yV:FuncData} {zS:MD} (zZ:Cal P w K mg base "post_of_left" 2 yU yV ["left"] (spD K 1 zS)) {yW:Addr} {yX:FuncData} {zT:MD} (z0:Cal P w K mg base "count_below" 1 yW yX ["parts","post"] (spD K 2 zT)):FnOk P w K mg base CX0 3 fa fd ["rows","k"] (spD K 2 (mFn 7 (GF zQ zR zS zT))):=
 Br F sc_kth_thing fun cdv A outer s H E hr=>(AS (EO (BC zX.G hr rfl zX.m zX.k zX.b (AD (dv 0) (AD (dv 1) AG)) (Ab (Ab Ai))))
 (AS (FB (i:=2) sc_kth_thing.nd rfl rfl (esc:=(AU Cy)) (N:=EY) (tn:=["hand","row"]) (fn:=[]) (ix:=[]) rfl rfl rfl ⟨rfl,by decide +kernel,by decide +kernel,by decide +kernel,rfl,by decide +kernel⟩ (Jl rfl T.enum (AD (dv 0) AG)) (fun _ _ _ _ _=>(JD (is:=[0,1]) (n:=2) rfl (Lw rfl rfl (Fv (Ap (i:=0) (show (["hand","row"]:List Str).Nodup by decide +kernel) rfl (Or.inl rfl)) (Fv (Ap (i:=1) (show (["hand","row"]:List Str).Nodup by decide +kernel) rfl (Or.inl rfl)) J4))))) (fun _ _ _ _ _=>Bp) (fun _ _ _ _ _=>(Ah (E1 zY.G (hr.mono (by decide)) rfl zY.m zY.k zY.b (AD (dv 1) (AD (dv 0) AG)) (Ab (Ab Ai))))))
 (AS (Aj (i:=3) sc_kth_thing.nd rfl (Or.inl rfl) (dv 1))
 (AS (Aj (i:=4) sc_kth_thing.nd rfl (Or.inl rfl) AL)
 (Ad (L7 PassesOwn.never (CH C2) (AS (Jk (fun te h=>JL (i:=4) sc_kth_thing.nd rfl (Or.inl rfl) h SD) OU AL)
 (AS (Aj (i:=5) sc_kth_thing.nd rfl (Or.inr rfl) (BC zZ.G hr rfl zZ.m zZ.k zZ.b (AD (dv 2) AG) (Ab Ai)))
 (AS (Aj (i:=6) sc_kth_thing.nd rfl (Or.inl rfl) (Ew T.sum (AD (Ah (Bb (esc:=(AU Cy)) (N:=EY) (tn:=["names"]) (fn:=["post"]) (ix:=[5]) rfl rfl rfl ⟨rfl,by decide +kernel,by decide +kernel,by decide +kernel,rfl,by decide +kernel⟩ (BP (dv 2)) (fun _ _ _ _ _=>(Aw (Ap (i:=0) (show (["names","post"]:List Str).Nodup by decide +kernel) rfl (Or.inl rfl)))) (fun _ _ _ _ _=>Bp) (fun _ _ _ _ _=>(BC z0.G (hr.mono (by decide)) rfl z0.m z0.k z0.b (AD (dv 0) (AD (dv 1) AG)) (Ab (Ab Ai)))))) AG)))
 (AS (BV (EU hr.units (dv 3) (dv 6)) (Ad (BK (Dq (AD (BD (BD (dv 0) (BD (dv 5) AL)) (BD (dv 5) AL)) (AD (dv 4) AG))))) Be)
 (Ad (BV (C0 hr.units0 (dv 3) (dv 6)) (Ad (FB (i:=2) sc_kth_thing.nd rfl rfl (esc:=(AU Cy)) (N:=EY) (tn:=["names"]) (fn:=["post"]) (ix:=[5]) rfl rfl rfl ⟨rfl,by decide +kernel,by decide +kernel,by decide +kernel,rfl,by decide +kernel⟩ (BP (dv 2)) (fun _ _ _ _ _=>(Aw (Ap (i:=0) (show (["names","post"]:List Str).Nodup by decide +kernel) rfl (Or.inl rfl)))) (fun _ _ _ _ _=>Bp) (fun _ _ _ _ _=>(Ah (Bb (esc:=({kind:=.function,names:=[(".0",.local),("names",.local),("post",.cell)],isGenerator:=false,isCoroutine:=false}:Scope)) (N:=["names","post"]) (tn:=["name"]) (fn:=["post"]) (ix:=[1]) rfl (by rfl) rfl ⟨rfl,by decide +kernel,by decide +kernel,by decide +kernel,rfl,by decide +kernel⟩ (BP (dv 0)) (fun _ _ _ _ _=>(Aw (Ap (i:=0) (show (["name","post"]:List Str).Nodup by decide +kernel) rfl (Or.inl rfl)))) (fun _ _ _ _ _=>(Cp (C0 hr.units0 (dv 0) (dv 1)))) (fun _ _ _ _ _=>(dv 0))))))) (AS (FB (i:=2) sc_kth_thing.nd rfl rfl (esc:=(AU Cy)) (N:=EY) (tn:=["names"]) (fn:=["post"]) (ix:=[5]) rfl rfl rfl ⟨rfl,by decide +kernel,by decide +kernel,by decide +kernel,rfl,by decide +kernel⟩ (BP (dv 2)) (fun _ _ _ _ _=>(Aw (Ap (i:=0) (show (["names","post"]:List Str).Nodup by decide +kernel) rfl (Or.inl rfl)))) (fun _ _ _ _ _=>Bp) (fun _ _ _ _ _=>(Ah (Bb (esc:=({kind:=.function,names:=[(".0",.local),("names",.local),("post",.cell)],isGenerator:=false,isCoroutine:=false}:Scope)) (N:=["names","post"]) (tn:=["name"]) (fn:=["post"]) (ix:=[1]) rfl (by rfl) rfl ⟨rfl,by decide +kernel,by decide +kernel,by decide +kernel,rfl,by decide +kernel⟩ (BP (dv 0)) (fun _ _ _ _ _=>(Aw (Ap (i:=0) (show (["name","post"]:List Str).Nodup by decide +kernel) rfl (Or.inl rfl)))) (fun _ _ _ _ _=>(Cp (K7 hr.units0 (dv 0) (dv 1)))) (fun _ _ _ _ _=>(dv 0))))))
 (Ad (Jk (fun te h=>JL (i:=3) sc_kth_thing.nd rfl (Or.inl rfl) h P6) RB (CJ (dv 6) AL))))))))))))))))
abbrev Ia:Stmt:=top 18
abbrev O2:List Str:=["script","k"]
def GT:MS:=(AI (mIf (AK (mOp Af (AA 1) (AH AX (AB (AA 0) AC)))) (As (mOp gIx (AA 0) (AA 1))) A9)
 (As (mC (.int 0))))
theorem Pf:FnScope O2 ["script","k"] (AU Ia):=⟨rfl,rfl,rfl,by decide +kernel,rfl,by decide +kernel,by decide +kernel⟩
theorem OX {P:Program} {w:World} {K:PySem.W.Frag} {mg:Str->Option Value} {base:Heap} {fa:Addr} {fd:FuncData} (F:Fun K "_law_cell_at" "_law_cell_at" Ia fa fd) (T:Nm mg):FnOk P w K mg base CX0 1 fa fd ["script","k"] (spD K 2 (mFn 2 (GT))):=
 Br F Pf fun cdv A outer s H E hr=>(AS (BV (C0 hr.units0 (dv 1) (Bi T (AD (dv 0) AG))) (Ad (BK (BD (dv 0) (dv 1)))) Be)
 (Ad (BK AL)))
abbrev Gw:Stmt:=top 19
abbrev QG:List Str:=["cell","k","one"]
def Ic:MS:=(AI (AM 2 (mOp Ag (mOp Bl (mOp Ay (mOp Ay (mOp Ag (AA 0) (mC (.int 2147483629))) (mOp Bl (mC (.int 9973)) (AA 1))) (mC (.int 5))) (mC (.int 48271))) (mC (.int 2147483647))))
 (AI (AM 2 (mOp Ag (mOp Bl (AA 2) (AA 2)) (mC (.int 2147483587))))
 (As (mOp Az (mOp Ag (mOp Bl (mOp Ay (AA 2) (mOp Bl (mC (.int 7919)) (AA 1))) (mC (.int 16807))) (mC (.int 2147483563))) (mC (.int 8))))))
theorem sc__law_stir:FnScope QG ["cell","k"] (AU Gw):=⟨rfl,rfl,rfl,by decide +kernel,rfl,by decide +kernel,by decide +kernel⟩
theorem T7 {P:Program} {w:World} {K:PySem.W.Frag} {mg:Str->Option Value} {base:Heap} {fa:Addr} {fd:FuncData} (F:Fun K "_law_stir" "_law_stir" Gw fa fd) (T:Nm mg):FnOk P w K mg base CX0 1 fa fd ["cell","k"] (spD K 2 (mFn 3 (Ic))):=
 Br F sc__law_stir fun cdv A outer s H E hr=>(AS (Aj (i:=2) sc__law_stir.nd rfl (Or.inl rfl) (Bh (Ct (CJ (CJ (Bh (dv 0) AL) (Ct AL (dv 1))) AL) AL) AL))
 (AS (Aj (i:=2) sc__law_stir.nd rfl (Or.inl rfl) (Bh (Ct (dv 2) (dv 2)) AL))
 (Ad (BK (ED (Bh (Ct (CJ (dv 2) (Ct AL (dv 1))) AL) AL) AL)))))
abbrev HU:Stmt:=top 20
abbrev Tz:List Str:=["cell","many","found","digits","k","number"]
def E7 (zC:MD):MS:=(AI (AM 5 (AJ zC (AB (AA 0) (AB (AA 4) AC))))
 (AI (mIf (AK (mOp GQ (AA 0) (mOp CP (mC (.int 10)) (mC (.int 18))))) (AM 5 (mOp Ag (AA 3) (mC (.int 720720)))) A9)
 (AI (AM 3 (mOp Az (AA 3) (mC (.int 720720))))
 (CB (CY (AA 2) (AA 5))))))
def FE (zC:MD):MS:=(AI (BY 2 (Al AC))
 (AI (AM 3 (AA 0))
 (AI (BX (BE (AB (AA 1) AC)) (AF 4) (E7 zC))
 (CO (FC (AA 2))))))
theorem sc__law_deck:FnScope Tz ["cell","many"] (AU HU):=⟨rfl,rfl,rfl,by decide +kernel,rfl,by decide +kernel,by decide +kernel⟩
theorem Se {P:Program} {w:World} {K:PySem.W.Frag} {mg:Str->Option Value} {base:Heap} {fa:Addr} {fd:FuncData} (F:Fun K "_law_deck" "_law_deck" HU fa fd) (T:Nm mg) {yI:Addr} {yJ:FuncData} {zC:MD} (zE:Cal P w K mg base "_law_stir" 1 yI yJ ["cell","k"] (spD K 2 zC)):FnOk P w K mg base CX0 2 fa fd ["cell","many"] (spF K 2 (BW 6 (FE zC))):=
 E9 F sc__law_deck fun cdv A outer s H E hr=>(AS (DV (i:=2) sc__law_deck.nd rfl (Or.inl rfl) (CN AG))
 (AS (Aj (i:=3) sc__law_deck.nd rfl (Or.inl rfl) (dv 0))
 (AS (DD PassesOwn.never rfl (C7 rfl T.range (AD (dv 1) AG)) (Aw (Ap (i:=4) sc__law_deck.nd rfl (Or.inl rfl))) (AS (Aj (i:=5) sc__law_deck.nd rfl (Or.inl rfl) (BC zE.G hr rfl zE.m zE.k zE.b (AD (dv 0) (AD (dv 4) AG)) (Ab (Ab Ai))))
 (AS (BV (Sg hr.units0 (dv 0) (GX AL AL)) (Ad (Aj (i:=5) sc__law_deck.nd rfl (Or.inl rfl) (Bh (dv 3) AL))) Be)
 (AS (Aj (i:=3) sc__law_deck.nd rfl (Or.inl rfl) (ED (dv 3) AL))
 (Ad (EO (Fi (dv 2) (dv 5))))))))
 (Ad (ES (L8 (dv 2)))))))
abbrev Gz:Stmt:=top 21
abbrev N3:List Str:=["deck"]
def Fm:MS:=(AI (mIf (AK (mOp BI (AA 0) (AE (Al AC)))) (As (mC (.int 0))) A9)
 (As (KY (AA 0))))
theorem O3:FnScope N3 ["deck"] (AU Gz):=⟨rfl,rfl,rfl,by decide +kernel,rfl,by decide +kernel,by decide +kernel⟩
theorem S6 {P:Program} {w:World} {K:PySem.W.Frag} {mg:Str->Option Value} {base:Heap} {fa:Addr} {fd:FuncData} (F:Fun K "_law_next" "_law_next" Gz fa fd) (T:Nm mg):FnOk P w K mg base CX0 1 fa fd ["deck"] (spD K 1 (mFn 1 (Fm))):=
 Br F O3 fun cdv A outer s H E hr=>(AS (BV (EU hr.units (dv 0) (Ah (CN AG))) (Ad (BK AL)) Be)
 (Ad (BK (NP (dv 0)))))
abbrev HY:Stmt:=top 22
abbrev To:List Str:=["deck","hands","most","base","rows","h","many","seed","row","k","number","key","way"]
def Dp (zB:MD) (zC:MD):MS:=(AI (AM 10 (AJ zC (AB (AA 7) (AB (AA 9) AC))))
 (AI (mIf (AK (mOp Af (AA 2) (mC (.int 10)))) (AM 10 (AJ zB (AB (AA 0) AC))) A9)
 (AI (AM 11 (mOp Ay (mOp A5 (mOp Ag (mOp Bl (AA 10) (mOp Ay (mOp CP (mC (.int 10)) (mC (.int 22))) (mC (.int 9)))) (mOp A5 (mOp Bl (mC (.int 2)) (AA 3)) (mC (.int 1)))) (AA 3)) (mC (.int 1))))
 (CB (CY (AA 8) (A4 (AB (AA 11) (AB (mSl (mC (.str "abcdefgh")) none (some (mOp Ay (mC (.int 1)) (mOp Ag (AJ zC (AB (AA 7) (AB (AA 9) AC))) (mC (.int 8)))))) AC))))))))
def Eb (zB:MD) (zC:MD):MS:=(AI (AM 6 (mOp Ag (AJ zB (AB (AA 0) AC)) (mOp Ay (AA 2) (mC (.int 1)))))
 (AI (AM 7 (AJ zB (AB (AA 0) AC)))
 (AI (BY 8 (Al AC))
 (AI (BX (BE (AB (AA 6) AC)) (AF 9) (Dp zB zC))
 (AI (AM 12 (mOp Ag (AA 7) (mC (.int 5))))
 (AI (mIf (AK (mOp BI (AA 12) (mC (.int 1)))) (BY 8 (Au BF (AB (AA 8) AC))) A9)
 (AI (mIf (AK (mOp BI (AA 12) (mC (.int 2)))) (BY 8 (FC (AE (Au BF (AB (AA 8) AC))))) A9)
 (CB (CY (AA 4) (AE (Ci 8)))))))))))
def Gb (zB:MD) (zC:MD):MS:=(AI (AM 1 (mOp Ay (mC (.int 1)) (mOp Ag (AJ zB (AB (AA 0) AC)) (mC (.int 6)))))
 (AI (AM 2 (mOp gIx (AE (Al (AB (mC (.int 3)) (AB (mC (.int 6)) (AB (mC (.int 9)) (AB (mC (.int 9)) (AB (mC (.int 20)) (AB (mC (.int 20)) (AB (mC (.int 40)) (AB (mC (.int 200)) AC)))))))))) (mOp Ag (AJ zB (AB (AA 0) AC)) (mC (.int 8)))))
 (AI (AM 3 (mOp gIx (AE (Al (AB (mC (.int 2)) (AB (mC (.int 4)) (AB (mC (.int 50)) (AB (mOp CP (mC (.int 10)) (mC (.int 30))) AC)))))) (mOp Ag (AJ zB (AB (AA 0) AC)) (mC (.int 4)))))
 (AI (BY 4 (Al AC))
 (AI (BX (BE (AB (AA 1) AC)) (AF 5) (Eb zB zC))
 (CO (Ci 4)))))))
theorem sc__law_rows:FnScope To ["deck"] (AU HY):=⟨rfl,rfl,rfl,by decide +kernel,rfl,by decide +kernel,by decide +kernel⟩
theorem OD {P:Program} {w:World} {K:PySem.W.Frag} {mg:Str->Option Value} {base:Heap} {fa:Addr} {fd:FuncData} (F:Fun K "_law_rows" "_law_rows" HY fa fd) (T:Nm mg) {yK:Addr} {yL:FuncData} {zB:MD} (zA:Cal P w K mg base "_law_next" 1 yK yL ["deck"] (spD K 1 zB)) {yI:Addr} {yJ:FuncData} {zC:MD} (zE:Cal P w K mg base "_law_stir" 1 yI yJ ["cell","k"] (spD K 2 zC)):FnOk P w K mg base CX0 2 fa fd ["deck"] (spF K 1 (BW 13 (Gb zB zC))):=
 E9 F sc__law_rows fun cdv A outer s H E hr=>(AS (Aj (i:=1) sc__law_rows.nd rfl (Or.inl rfl) (CJ AL (Bh (BC zA.G hr rfl zA.m zA.k zA.b (AD (dv 0) AG) (Ab Ai)) AL)))
 (AS (Aj (i:=2) sc__law_rows.nd rfl (Or.inl rfl) (BD (Ah (CN (AD AL (AD AL (AD AL (AD AL (AD AL (AD AL (AD AL (AD AL AG)))))))))) (Bh (BC zA.G hr rfl zA.m zA.k zA.b (AD (dv 0) AG) (Ab Ai)) AL)))
 (AS (Aj (i:=3) sc__law_rows.nd rfl (Or.inl rfl) (BD (Ah (CN (AD AL (AD AL (AD AL (AD (GX AL AL) AG)))))) (Bh (BC zA.G hr rfl zA.m zA.k zA.b (AD (dv 0) AG) (Ab Ai)) AL)))
 (AS (DV (i:=4) sc__law_rows.nd rfl (Or.inl rfl) (CN AG))
 (AS (DD PassesOwn.never rfl (C7 rfl T.range (AD (dv 1) AG)) (Aw (Ap (i:=5) sc__law_rows.nd rfl (Or.inl rfl))) (AS (Aj (i:=6) sc__law_rows.nd rfl (Or.inl rfl) (Bh (BC zA.G hr rfl zA.m zA.k zA.b (AD (dv 0) AG) (Ab Ai)) (CJ (dv 2) AL)))
 (AS (Aj (i:=7) sc__law_rows.nd rfl (Or.inl rfl) (BC zA.G hr rfl zA.m zA.k zA.b (AD (dv 0) AG) (Ab Ai)))
 (AS (DV (i:=8) sc__law_rows.nd rfl (Or.inl rfl) (CN AG))
 (AS (DD PassesOwn.never rfl (C7 rfl T.range (AD (dv 6) AG)) (Aw (Ap (i:=9) sc__law_rows.nd rfl (Or.inl rfl))) (AS (Aj (i:=10) sc__law_rows.nd rfl (Or.inl rfl) (BC zE.G hr rfl zE.m zE.k zE.b (AD (dv 7) (AD (dv 9) AG)) (Ab (Ab Ai))))
 (AS (BV (C0 hr.units0 (dv 2) AL) (Ad (Aj (i:=10) sc__law_rows.nd rfl (Or.inl rfl) (BC zA.G hr rfl zA.m zA.k zA.b (AD (dv 0) AG) (Ab Ai)))) Be)
 (AS (Aj (i:=11) sc__law_rows.nd rfl (Or.inl rfl) (CJ (EB (Bh (Ct (dv 10) (CJ (GX AL AL) AL)) (EB (Ct AL (dv 3)) AL)) (dv 3)) AL))
 (Ad (EO (Fi (dv 8) (Dq (AD (dv 11) (AD (Ip Qh KL (L6 (CJ AL (Bh (BC zE.G hr rfl zE.m zE.k zE.b (AD (dv 7) (AD (dv 9) AG)) (Ab (Ab Ai))) AL)))) AG))))))))))
 (AS (Aj (i:=12) sc__law_rows.nd rfl (Or.inl rfl) (Bh (dv 7) AL))
 (AS (BV (EU hr.units (dv 12) AL) (Ad (DV (i:=8) sc__law_rows.nd rfl (Or.inl rfl) (Ed T (AD (dv 8) AG)))) Be)
 (AS (BV (EU hr.units (dv 12) AL) (Ad (DV (i:=8) sc__law_rows.nd rfl (Or.inl rfl) (L8 (Ah (Ed T (AD (dv 8) AG)))))) Be)
 (Ad (EO (Fi (dv 4) (Ah (IP (pv 8))))))))))))))
 (Ad (ES (IP (pv 4)))))))))
abbrev Fe:Stmt:=top 23
abbrev LJ:List Str:=["rows","found","h"]
def MJ:MS:=(CB (CY (AA 1) (AE (Au BF (AB (AE (AN (BE (AB (AH AX (AB (mOp gIx (AA 0) (AA 2)) AC)) AC)) 1 [0,2] (AF 0) mTT (A4 (AB (mOp gIx (mOp gIx (mOp gIx (AA 1) (AA 2)) (AA 0)) (mC (.int 0))) (AB (AA 2) (AB (AA 0) AC)))))) AC)))))
def Ik:MS:=(AI (BY 1 (Al AC))
 (AI (BX (BE (AB (AH AX (AB (AA 0) AC)) AC)) (AF 2) (MJ))
 (CO (Ci 1))))
theorem sc__law_hands:FnScope LJ ["rows"] (AU Fe):=⟨rfl,rfl,rfl,by decide +kernel,rfl,by decide +kernel,by decide +kernel⟩
theorem PK {P:Program} {w:World} {K:PySem.W.Frag} {mg:Str->Option Value} {base:Heap} {fa:Addr} {fd:FuncData} (F:Fun K "_law_hands" "_law_hands" Fe fa fd) (T:Nm mg):FnOk P w K mg base CX0 1 fa fd ["rows"] (spF K 1 (BW 3 (Ik))):=
 E9 F sc__law_hands fun cdv A outer s H E hr=>(AS (DV (i:=1) sc__law_hands.nd rfl (Or.inl rfl) (CN AG))
 (AS (DD PassesOwn.never rfl (C7 rfl T.range (AD (Bi T (AD (dv 0) AG)) AG)) (Aw (Ap (i:=2) sc__law_hands.nd rfl (Or.inr rfl))) (Ad (EO (Fi (dv 1) (Ah (Ed T (AD (Ah (Bb (esc:=(AU Fe)) (N:=LJ) (tn:=["k"]) (fn:=["rows","h"]) (ix:=[0,2]) rfl rfl rfl ⟨rfl,by decide +kernel,by decide +kernel,by decide +kernel,rfl,by decide +kernel⟩ (C7 rfl T.range (AD (Bi T (AD (BD (dv 0) (dv 2)) AG)) AG)) (fun _ _ _ _ _=>(Aw (Ap (i:=0) (show (["k","rows","h"]:List Str).Nodup by decide +kernel) rfl (Or.inl rfl)))) (fun _ _ _ _ _=>Bp) (fun _ _ _ _ _=>(Dq (AD (BD (BD (BD (dv 1) (dv 2)) (dv 0)) AL) (AD (dv 2) (AD (dv 0) AG))))))) AG)))))))
 (Ad (ES (IP (pv 1))))))
abbrev GI:Stmt:=top 24
abbrev KU:List Str:=["rows"]
def Hj:MS:=(CO (AN (AO (AA 0)) 1 [] (AF 0) mTT (AE (Au C9 (AB (AA 0) AC)))))
theorem OF:FnScope KU ["rows"] (AU GI):=⟨rfl,rfl,rfl,by decide +kernel,rfl,by decide +kernel,by decide +kernel⟩
theorem Rk {P:Program} {w:World} {K:PySem.W.Frag} {mg:Str->Option Value} {base:Heap} {fa:Addr} {fd:FuncData} (F:Fun K "_law_copy" "_law_copy" GI fa fd) (T:Nm mg):FnOk P w K mg base CX0 4 fa fd ["rows"] (spF K 1 (BW 1 (Hj))):=
 E9 F OF fun cdv A outer s H E hr=>(Ad (ES (Bb (esc:=(AU GI)) (N:=KU) (tn:=["row"]) (fn:=[]) (ix:=[]) rfl rfl rfl ⟨rfl,by decide +kernel,by decide +kernel,by decide +kernel,rfl,by decide +kernel⟩ (BP (dv 0)) (fun _ _ _ _ _=>(Aw (Ap (i:=0) (show (["row"]:List Str).Nodup by decide +kernel) rfl (Or.inl rfl)))) (fun _ _ _ _ _=>Bp) (fun _ _ _ _ _=>(Ah (NM T (AD (dv 0) AG)))))))
abbrev Et:Stmt:=top 25
abbrev KD:List Str:=["found","due"]
def Er (zD:(List D->Option D)):MS:=(AI (mIf (Ak (HB ["list","tuple"] (AA 1))) (AI (mIf (mOr (AK (mOp BO (BM "list" (AA 0)) (BM "list" (AA 1)))) (AK (mOp BO (BM "tuple" (AA 0)) (BM "tuple" (AA 1))))) (As (mC (.bl false))) A9)
 (AI (mIf (AK (mOp BO (AH AX (AB (AA 0) AC)) (AH AX (AB (AA 1) AC)))) (As (mC (.bl false))) A9)
 (As (mOp BI (AE (AN (BE (AB (AH AX (AB (AA 1) AC)) AC)) 1 [0,1] (AF 0) (A7 (Ak (Bw zD (AB (mOp gIx (AA 1) (AA 0)) (AB (mOp gIx (AA 2) (AA 0)) AC))))) (AA 0))) (AE (Al AC)))))) A9)
 (AI (mIf (Ak (BM "str" (AA 1))) (As (Eo (BM "str" (AA 0)) (mOp BI (AA 0) (AA 1)))) A9)
 (As (Eo (BM "int" (AA 0)) (Eo (Hg (BM "bool" (AA 0))) (mOp BI (AA 0) (AA 1)))))))
theorem TF:FnScope KD ["found","due"] (AU Et):=⟨rfl,rfl,rfl,by decide +kernel,rfl,by decide +kernel,by decide +kernel⟩
theorem TM {P:Program} {w:World} {K:PySem.W.Frag} {mg:Str->Option Value} {base:Heap} {fa:Addr} {fd:FuncData} (F:Fun K "_law_alike" "_law_alike" Et fa fd) (T:Nm mg) {kk:Nat} {yM:Addr} {yN:FuncData} {zD:(List D->Option D)} (zF:Cal P w K mg base "_law_alike" kk yM yN ["found","due"] (spQ K 2 zD)):FnOk P w K mg base CX0 (kk+1) fa fd ["found","due"] (spD K 2 (mFn 2 (Er zD))):=
 Br F TF fun cdv A outer s H E hr=>(AS (BV (CH (N6 T (dv 1))) (AS (BV (Fj (Ga (Eh hr.units (Kr T (dv 0)) (Kr T (dv 1))) (FP (Eh hr.units (Ju T (dv 0)) (Ju T (dv 1)))))) (Ad (BK C2)) Be)
 (AS (BV (Eh hr.units (Bi T (AD (dv 0) AG)) (Bi T (AD (dv 1) AG))) (Ad (BK C2)) Be)
 (Ad (BK (Hk hr.units (Ah (Bb (esc:=(AU Et)) (N:=KD) (tn:=["k"]) (fn:=["found","due"]) (ix:=[0,1]) rfl rfl rfl ⟨rfl,by decide +kernel,by decide +kernel,by decide +kernel,rfl,by decide +kernel⟩ (C7 rfl T.range (AD (Bi T (AD (dv 1) AG)) AG)) (fun _ _ _ _ _=>(Aw (Ap (i:=0) (show (["k","found","due"]:List Str).Nodup by decide +kernel) rfl (Or.inl rfl)))) (fun _ _ _ _ _=>(Cp (Cr (CH (IB zF.G hr rfl zF.m zF.k zF.b (AD (BD (dv 1) (dv 0)) (AD (BD (dv 2) (dv 0)) AG)) (Ab (Ab Ai))))))) (fun _ _ _ _ _=>(dv 0)))) (Ah (CN AG))))))) Be)
 (AS (BV (CH (JV T (dv 1))) (Ad (BK (Fw (JV T (dv 0)) (G8 (Hk hr.units (dv 0) (dv 1)))))) Be)
 (Ad (BK (Fw (LC T (dv 0)) (Fw (Ly (La T (dv 0))) (G8 (Hk hr.units (dv 0) (dv 1)))))))))
abbrev De:Stmt:=top 28
abbrev E5:List Str:=["rows","k","left","rounds","middles","post","below"]
def Df (zU:MDF):MS:=(AI (AM 3 (mOp Ay (AA 3) (mC (.int 1))))
 (AI (AM 4 (AE (Au BF (AB (AE (AN (AO (AA 2)) 1 [] (AF 0) (AK (mOp BO (AA 0) (AE (Al AC)))) (mOp gIx (AA 0) (mOp Az (AH AX (AB (AA 0) AC)) (mC (.int 2)))))) AC))))
 (AI (AM 5 (mOp gIx (AA 4) (mOp Az (AH AX (AB (AA 4) AC)) (mC (.int 2)))))
 (AI (AM 6 (AH BJ (AB (AE (AN (AO (AA 2)) 1 [5] (AF 0) mTT (AH AX (AB (AE (AN (AO (AA 0)) 1 [1] (AF 0) (AK (mOp Af (AA 0) (AA 1))) (AA 0))) AC)))) AC)))
 (AI (mIf (AK (mOp BI (AA 1) (AA 6))) (As (A4 (AB (mOp gIx (mOp gIx (AA 0) (mOp gIx (AA 5) (mC (.int 1)))) (mOp gIx (AA 5) (mC (.int 2)))) (AB (AA 3) AC)))) A9)
 (mIf (AK (mOp Af (AA 1) (AA 6))) (AM 2 (AE (AN (AO (AA 2)) 1 [5] (AF 0) mTT (AE (AN (AO (AA 0)) 1 [1] (AF 0) (AK (mOp Af (AA 0) (AA 1))) (AA 0)))))) (AI (AM 2 (AE (AN (AO (AA 2)) 1 [5] (AF 0) mTT (AE (AN (AO (AA 0)) 1 [1] (AF 0) (AK (mOp B9 (AA 0) (AA 1))) (AA 0))))))
 (AM 1 (mOp A5 (mOp A5 (AA 1) (AA 6)) (mC (.int 1)))))))))))
def Ef (zU:MDF):MT:=(Ak (mC (.bl true)))
def FU (zU:MDF):MS:=(AI (AM 2 (AE (Bk zU (AB (AA 0) AC))))
 (AI (AM 3 (mC (.int 0)))
 (DN (Ef zU) (Df zU))))
theorem sc__law_kth:FnScope E5 ["rows","k"] (AU De):=⟨rfl,rfl,rfl,by decide +kernel,rfl,by decide +kernel,by decide +kernel⟩
theorem TV {P:Program} {w:World} {K:PySem.W.Frag} {mg:Str->Option Value} {base:Heap} {fa:Addr} {fd:FuncData} (F:Fun K "_law_kth" "_law_kth" De fa fd) (T:Nm mg) {yY:Addr} {yZ:FuncData} {zU:MDF} (z3:Cal P w K mg base "_law_hands" 1 yY yZ ["rows"] (spF K 1 zU)):FnOk P w K mg base CX0 2 fa fd ["rows","k"] (spD K 2 (mFn 7 (FU zU))):=
 Br F sc__law_kth fun cdv A outer s H E hr=>(AS (Aj (i:=2) sc__law_kth.nd rfl (Or.inl rfl) (Ah (E1 z3.G hr rfl z3.m z3.k z3.b (AD (dv 0) AG) (Ab Ai))))
 (AS (Aj (i:=3) sc__law_kth.nd rfl (Or.inl rfl) AL)
 (Ad (L7 PassesOwn.never (CH C2) (AS (Aj (i:=3) sc__law_kth.nd rfl (Or.inl rfl) (CJ (dv 3) AL))
 (AS (Aj (i:=4) sc__law_kth.nd rfl (Or.inl rfl) (Ah (Ed T (AD (Ah (Bb (esc:=(AU De)) (N:=E5) (tn:=["names"]) (fn:=[]) (ix:=[]) rfl rfl rfl ⟨rfl,by decide +kernel,by decide +kernel,by decide +kernel,rfl,by decide +kernel⟩ (BP (dv 2)) (fun _ _ _ _ _=>(Aw (Ap (i:=0) (show (["names"]:List Str).Nodup by decide +kernel) rfl (Or.inl rfl)))) (fun _ _ _ _ _=>(Cp (Eh hr.units (dv 0) (Ah (CN AG))))) (fun _ _ _ _ _=>(BD (dv 0) (ED (Bi T (AD (dv 0) AG)) AL))))) AG))))
 (AS (Aj (i:=5) sc__law_kth.nd rfl (Or.inr rfl) (BD (dv 4) (ED (Bi T (AD (dv 4) AG)) AL)))
 (AS (Aj (i:=6) sc__law_kth.nd rfl (Or.inl rfl) (Ew T.sum (AD (Ah (Bb (esc:=(AU De)) (N:=E5) (tn:=["names"]) (fn:=["post"]) (ix:=[5]) rfl rfl rfl ⟨rfl,by decide +kernel,by decide +kernel,by decide +kernel,rfl,by decide +kernel⟩ (BP (dv 2)) (fun _ _ _ _ _=>(Aw (Ap (i:=0) (show (["names","post"]:List Str).Nodup by decide +kernel) rfl (Or.inl rfl)))) (fun _ _ _ _ _=>Bp) (fun _ _ _ _ _=>(Bi T (AD (Ah (Bb (esc:=({kind:=.function,names:=[(".0",.local),("names",.local),("len",.globalImplicit),("post",.cell)],isGenerator:=false,isCoroutine:=false}:Scope)) (N:=["names","post"]) (tn:=["name"]) (fn:=["post"]) (ix:=[1]) rfl (by rfl) rfl ⟨rfl,by decide +kernel,by decide +kernel,by decide +kernel,rfl,by decide +kernel⟩ (BP (dv 0)) (fun _ _ _ _ _=>(Aw (Ap (i:=0) (show (["name","post"]:List Str).Nodup by decide +kernel) rfl (Or.inl rfl)))) (fun _ _ _ _ _=>(Cp (C0 hr.units0 (dv 0) (dv 1)))) (fun _ _ _ _ _=>(dv 0)))) AG))))) AG)))
 (AS (BV (EU hr.units (dv 1) (dv 6)) (Ad (BK (Dq (AD (BD (BD (dv 0) (BD (dv 5) AL)) (BD (dv 5) AL)) (AD (dv 3) AG))))) Be)
 (Ad (BV (C0 hr.units0 (dv 1) (dv 6)) (Ad (FB (i:=2) sc__law_kth.nd rfl rfl (esc:=(AU De)) (N:=E5) (tn:=["names"]) (fn:=["post"]) (ix:=[5]) rfl rfl rfl ⟨rfl,by decide +kernel,by decide +kernel,by decide +kernel,rfl,by decide +kernel⟩ (BP (dv 2)) (fun _ _ _ _ _=>(Aw (Ap (i:=0) (show (["names","post"]:List Str).Nodup by decide +kernel) rfl (Or.inl rfl)))) (fun _ _ _ _ _=>Bp) (fun _ _ _ _ _=>(Ah (Bb (esc:=({kind:=.function,names:=[(".0",.local),("names",.local),("post",.cell)],isGenerator:=false,isCoroutine:=false}:Scope)) (N:=["names","post"]) (tn:=["name"]) (fn:=["post"]) (ix:=[1]) rfl (by rfl) rfl ⟨rfl,by decide +kernel,by decide +kernel,by decide +kernel,rfl,by decide +kernel⟩ (BP (dv 0)) (fun _ _ _ _ _=>(Aw (Ap (i:=0) (show (["name","post"]:List Str).Nodup by decide +kernel) rfl (Or.inl rfl)))) (fun _ _ _ _ _=>(Cp (C0 hr.units0 (dv 0) (dv 1)))) (fun _ _ _ _ _=>(dv 0))))))) (AS (FB (i:=2) sc__law_kth.nd rfl rfl (esc:=(AU De)) (N:=E5) (tn:=["names"]) (fn:=["post"]) (ix:=[5]) rfl rfl rfl ⟨rfl,by decide +kernel,by decide +kernel,by decide +kernel,rfl,by decide +kernel⟩ (BP (dv 2)) (fun _ _ _ _ _=>(Aw (Ap (i:=0) (show (["names","post"]:List Str).Nodup by decide +kernel) rfl (Or.inl rfl)))) (fun _ _ _ _ _=>Bp) (fun _ _ _ _ _=>(Ah (Bb (esc:=({kind:=.function,names:=[(".0",.local),("names",.local),("post",.cell)],isGenerator:=false,isCoroutine:=false}:Scope)) (N:=["names","post"]) (tn:=["name"]) (fn:=["post"]) (ix:=[1]) rfl (by rfl) rfl ⟨rfl,by decide +kernel,by decide +kernel,by decide +kernel,rfl,by decide +kernel⟩ (BP (dv 0)) (fun _ _ _ _ _=>(Aw (Ap (i:=0) (show (["name","post"]:List Str).Nodup by decide +kernel) rfl (Or.inl rfl)))) (fun _ _ _ _ _=>(Cp (K7 hr.units0 (dv 0) (dv 1)))) (fun _ _ _ _ _=>(dv 0))))))
 (Ad (Aj (i:=1) sc__law_kth.nd rfl (Or.inl rfl) (EB (EB (dv 1) (dv 6)) AL)))))))))))))))
abbrev GL:Stmt:=top 29
abbrev Jd:List Str:=["script","k","cell","deck","rows","kept","many","at","due","far","bad"]
def E4 (zH:MD) (zI:MDF) (zJ:MDF) (zK:MDF) (zB:MD) (zL:MD) (zD:(List D->Option D)) (zG:MD) (zM:MD):MS:=(AI (AM 8 (AJ zL (AB (AA 4) (AB (AA 7) AC))))
 (mIf (mOr (A7 (Ak (Bw zD (AB (AJ zG (AB (AA 4) (AB (AA 7) AC))) (AB (AA 8) AC))))) (A7 (Ak (Bw zD (AB (AJ zG (AB (AA 4) (AB (AA 7) AC))) (AB (AA 8) AC)))))) (As (mC (.bl false))) A9))
def Em (zH:MD) (zI:MDF) (zJ:MDF) (zK:MDF) (zB:MD) (zL:MD) (zD:(List D->Option D)) (zG:MD) (zM:MD):MS:=(mIf (A7 (Ak (AJ zM (AB (AA 4) (AB (AA 10) AC))))) (As (mC (.bl false))) A9)
def FI (zH:MD) (zI:MDF) (zJ:MDF) (zK:MDF) (zB:MD) (zL:MD) (zD:(List D->Option D)) (zG:MD) (zM:MD):MS:=(AI (AM 2 (AJ zH (AB (AA 0) (AB (AA 1) AC))))
 (AI (BY 3 (Bk zI (AB (AA 2) (AB (mC (.int 90)) AC))))
 (AI (AM 4 (AE (Bk zJ (AB (AA 3) AC))))
 (AI (AM 5 (AE (Bk zK (AB (AA 4) AC))))
 (AI (AM 6 (AH BJ (AB (AE (AN (AO (AA 4)) 1 [] (AF 0) mTT (AH AX (AB (AA 0) AC)))) AC)))
 (AI (BX (AO (mSl (AE (Al (AB (mOp Ag (AJ zB (AB (AA 3) AC)) (AH C1 (AB (mC (.int 1)) (AB (AA 6) AC)))) (AB (mOp gIx (AE (Al (AB (mC (.int 0)) (AB (mOp A5 (AA 6) (mC (.int 1))) (AB (mOp Az (AA 6) (mC (.int 2))) AC))))) (mOp Ag (AJ zB (AB (AA 3) AC)) (mC (.int 3)))) AC)))) none (some (mOp Bl (mC (.int 2)) (AA 6))))) (AF 7) (E4 zH zI zJ zK zB zL zD zG zM))
 (AI (AM 9 (mOp Ag (AA 2) (mOp CP (mC (.int 10)) (mC (.int 28)))))
 (AI (BX (AO (A4 (AB (DZ (mC (.int 1))) (AB (AA 6) (AB (mOp Ay (AA 6) (AA 9)) (AB (mOp A5 (DZ (mC (.int 1))) (AA 9)) AC)))))) (AF 10) (Em zH zI zJ zK zB zL zD zG zM))
 (mIf (AK (mOp BO (AA 4) (AA 5))) (As (mC (.bl false))) A9)))))))))
def Ei (zH:MD) (zI:MDF) (zJ:MDF) (zK:MDF) (zB:MD) (zL:MD) (zD:(List D->Option D)) (zG:MD) (zM:MD):MS:=(AI (BX (BE (AB (AH C1 (AB (mC (.int 1)) (AB (AH Ey (AB (AH AX (AB (AA 0) AC)) (AB (mC (.int 4)) AC))) AC))) AC)) (AF 1) (FI zH zI zJ zK zB zL zD zG zM))
 (As (mC (.bl true))))
theorem sc_law:FnScope Jd ["script"] (AU GL):=⟨rfl,rfl,rfl,by decide +kernel,rfl,by decide +kernel,by decide +kernel⟩
theorem SJ {P:Program} {w:World} {K:PySem.W.Frag} {mg:Str->Option Value} {base:Heap} {fa:Addr} {fd:FuncData} (F:Fun K "law" "law" GL fa fd) (T:Nm mg) {y6:Addr} {y7:FuncData} {zH:MD} (z4:Cal P w K mg base "_law_cell_at" 1 y6 y7 ["script","k"] (spD K 2 zH)) {y8:Addr} {y9:FuncData} {zI:MDF} (z5:Cal P w K mg base "_law_deck" 2 y8 y9 ["cell","many"] (spF K 2 zI)) {xA:Addr} {xB:FuncData} {zJ:MDF} (z6:Cal P w K mg base "_law_rows" 2 xA xB ["deck"] (spF K 1 zJ)) {xC:Addr} {xE:FuncData} {zK:MDF} (z7:Cal P w K mg base "_law_copy" 4 xC xE ["rows"] (spF K 1 zK)) {yK:Addr} {yL:FuncData} {zB:MD} (zA:Cal P w K mg base "_law_next" 1 yK yL ["deck"] (spD K 1 zB)) {xF:Addr} {xH:FuncData} {zL:MD} (z8:Cal P w K mg base "_law_kth" 2 xF xH ["rows","k"] (spD K 2 zL)) {yM:Addr} {yN:FuncData} {zD:(List D->Option D)} (zF:Cal P w K mg base "_law_alike" 4 yM yN ["found","due"] (spQ K 2 zD)) {yO:Addr} {yP:FuncData} {zG:MD} (zV:Cal P w K mg base "kth_thing" 3 yO yP ["rows","k"] (spD K 2 zG)) {xI:Addr} {xJ:FuncData} {zM:MD} (z9:Cal P w K mg base "_law_refused" 4 xI xJ ["rows","k"] (spD K 2 zM)):FnOk P w K mg base CX0 5 fa fd ["script"] (spD K 1 (mFn 11 (Ei zH zI zJ zK zB zL zD zG zM))):=
 Br F sc_law fun cdv A outer s H E hr=>(AS (DD PassesOwn.never rfl (C7 rfl T.range (AD (K4 T (AD AL (AD (OO T (AD (Bi T (AD (dv 0) AG)) (AD AL AG))) AG))) AG)) (Aw (Ap (i:=1) sc_law.nd rfl (Or.inl rfl))) (AS (Aj (i:=2) sc_law.nd rfl (Or.inl rfl) (BC z4.G (hr.mono (by decide)) rfl z4.m z4.k z4.b (AD (dv 0) (AD (dv 1) AG)) (Ab (Ab Ai))))
 (AS (DV (i:=3) sc_law.nd rfl (Or.inl rfl) (E1 z5.G (hr.mono (by decide)) rfl z5.m z5.k z5.b (AD (dv 2) (AD AL AG)) (Ab (Ab Ai))))
 (AS (Aj (i:=4) sc_law.nd rfl (Or.inl rfl) (Ah (E1 z6.G (hr.mono (by decide)) rfl z6.m z6.k z6.b (AD (dv 3) AG) (Ab Ai))))
 (AS (Aj (i:=5) sc_law.nd rfl (Or.inl rfl) (Ah (E1 z7.G hr rfl z7.m z7.k z7.b (AD (dv 4) AG) (Ab Ai))))
 (AS (Aj (i:=6) sc_law.nd rfl (Or.inl rfl) (Ew T.sum (AD (Ah (Bb (esc:=(AU GL)) (N:=Jd) (tn:=["row"]) (fn:=[]) (ix:=[]) rfl rfl rfl ⟨rfl,by decide +kernel,by decide +kernel,by decide +kernel,rfl,by decide +kernel⟩ (BP (dv 4)) (fun _ _ _ _ _=>(Aw (Ap (i:=0) (show (["row"]:List Str).Nodup by decide +kernel) rfl (Or.inl rfl)))) (fun _ _ _ _ _=>Bp) (fun _ _ _ _ _=>(Bi T (AD (dv 0) AG))))) AG)))
 (AS (DD PassesOwn.never rfl (BP (Ip (Ah (CN (AD (Bh (BC zA.G (hr.mono (by decide)) rfl zA.m zA.k zA.b (AD (dv 3) AG) (Ab Ai)) (K4 T (AD AL (AD (dv 6) AG)))) (AD (BD (Ah (CN (AD AL (AD (EB (dv 6) AL) (AD (ED (dv 6) AL) AG))))) (Bh (BC zA.G (hr.mono (by decide)) rfl zA.m zA.k zA.b (AD (dv 3) AG) (Ab Ai)) AL)) AG)))) KL (L6 (Ct AL (dv 6))))) (Aw (Ap (i:=7) sc_law.nd rfl (Or.inl rfl))) (AS (Aj (i:=8) sc_law.nd rfl (Or.inl rfl) (BC z8.G (hr.mono (by decide)) rfl z8.m z8.k z8.b (AD (dv 4) (AD (dv 7) AG)) (Ab (Ab Ai))))
 (Ad (BV (Fj (Ga (Cr (CH (IB zF.G hr rfl zF.m zF.k zF.b (AD (BC zV.G (hr.mono (by decide)) rfl zV.m zV.k zV.b (AD (dv 4) (AD (dv 7) AG)) (Ab (Ab Ai))) (AD (dv 8) AG)) (Ab (Ab Ai))))) (FP (Cr (CH (IB zF.G hr rfl zF.m zF.k zF.b (AD (BC zV.G (hr.mono (by decide)) rfl zV.m zV.k zV.b (AD (dv 4) (AD (dv 7) AG)) (Ab (Ab Ai))) (AD (dv 8) AG)) (Ab (Ab Ai)))))))) (Ad (BK C2)) Be))))
 (AS (Aj (i:=9) sc_law.nd rfl (Or.inl rfl) (Bh (dv 2) (GX AL AL)))
 (AS (DD PassesOwn.never rfl (BP (Dq (AD (Jg AL) (AD (dv 6) (AD (CJ (dv 6) (dv 9)) (AD (EB (Jg AL) (dv 9)) AG)))))) (Aw (Ap (i:=10) sc_law.nd rfl (Or.inl rfl))) (Ad (BV (Cr (CH (BC z9.G hr rfl z9.m z9.k z9.b (AD (dv 4) (AD (dv 10) AG)) (Ab (Ab Ai))))) (Ad (BK C2)) Be)))
 (Ad (BV (Eh hr.units (dv 4) (dv 5)) (Ad (BK C2)) Be)))))))))))
 (Ad (BK C2)))
end DL
namespace DL
open PySem L2
theorem C6 {g:MG} {b:MS} {items:List D} (P:Nat->DS->Prop) (hs:∀ i d s,items[i]?=some d->P i s->∃ s1 s2,g d s=some s1/\b s1=some (.nx s2)/\P (i+1) s2) {s:DS} (h0:P 0 s):∃ s',Cb g b items s=some (.nx s')/\P items.length s':=by
 have go:∀ (k:Nat) (s:DS),k<=items.length->P k s->∃ s',Cb g b (items.drop k) s=some (.nx s')/\P items.length s':=by
  intro k
  generalize hj:items.length - k=j
  induction j generalizing k with
  | zero=>
   intro s hk p
   have e:k=items.length:=by lia
   subst e
   exact ⟨s,by rw[List.drop_length];rfl,p⟩
  | succ j ih=>
   intro s hk p
   have hlt:k<items.length:=by lia
   obtain ⟨s1,s2,h1,h2,h3⟩:=hs k _ s (List.getElem?_eq_getElem hlt) p
   obtain ⟨s',h4,h5⟩:=ih (k+1) (by lia) s2 hlt h3
   refine ⟨s',?_,h5⟩
   rw[List.drop_eq_getElem_cons hlt]
   show (g _ s).bind _=_
   rw[h1]
   show (b s1).bind _=_
   rw[h2]
   exact h4
 exact go 0 s (Nat.zero_le _) h0
theorem Gx {g:MG} {t:MT} {e:ME} {items:List D} (P:Nat->List D->List (Option SV)->Gm->Prop)
  (hs:∀ i d acc τ Γ,items[i]?=some d->P i acc τ Γ->∃ s1 b,g d ⟨τ,Γ,Γ.length⟩=some s1/\t s1=some b/\((b.1=true/\∃ y s2,e b.2=some (.v y,s2)/\s2.Γ.length=Γ.length/\P (i+1) (acc++[y]) s2.σ s2.Γ)\/(b.1=false/\b.2.Γ.length=Γ.length/\P (i+1) acc b.2.σ b.2.Γ)))
  {τ:List (Option SV)} {Γ:Gm} (h0:P 0 [] τ Γ):∃ ys τ' Γ',Aq g t e items τ Γ=some (ys,Γ')/\P items.length ys τ' Γ':=by
 have go:∀ (k:Nat) (acc:List D) (τ:List (Option SV)) (Γ:Gm),k<=items.length->P k acc τ Γ->∃ ys τ' Γ',Aq g t e (items.drop k) τ Γ=some (ys,Γ')/\P items.length (acc++ys) τ' Γ':=by
  intro k
  generalize hj:items.length - k=j
  induction j generalizing k with
  | zero=>
   intro acc τ Γ hk p
   have e:k=items.length:=by lia
   subst e
   exact ⟨[],τ,Γ,by rw[List.drop_length];rfl,by rw[List.append_nil];exact p⟩
  | succ j ih=>
   intro acc τ Γ hk p
   have hlt:k<items.length:=by lia
   obtain ⟨s1,b,h1,h2,h3⟩:=hs k _ acc τ Γ (List.getElem?_eq_getElem hlt) p
   rw[List.drop_eq_getElem_cons hlt]
   rcases h3 with ⟨hb,y,s2,h4,h5,h6⟩ | ⟨hb,h5,h6⟩
   ·obtain ⟨ys,τ',Γ',h7,h8⟩:=ih (k+1) (by lia) (acc++[y]) s2.σ s2.Γ hlt h6
    refine ⟨y::ys,τ',Γ',?_,by simpa using h8⟩
    show (g _ _).bind _=_
    rw[h1]
    show (t s1).bind _=_
    rw[h2]
    show (if b.1=true then _ else _)=_
    rw[if_pos hb,h4]
    show (if s2.Γ.length=Γ.length then _ else _)=_
    rw[if_pos h5,h7]
    rfl
   ·obtain ⟨ys,τ',Γ',h7,h8⟩:=ih (k+1) (by lia) acc b.2.σ b.2.Γ hlt h6
    refine ⟨ys,τ',Γ',?_,h8⟩
    show (g _ _).bind _=_
    rw[h1]
    show (t s1).bind _=_
    rw[h2]
    show (if b.1=true then _ else _)=_
    rw[if_neg (by rw[hb];exact Bool.false_ne_true),if_pos h5]
    exact h7
 obtain ⟨ys,τ',Γ',h1,h2⟩:=go 0 [] τ Γ (Nat.zero_le _) h0
 exact ⟨ys,τ',Γ',h1,by simpa using h2⟩
theorem DU {lo:Int} {n i:Nat} {d:D} (h:(upTo lo n)[i]?=some d):i<n/\d=.int (lo+i):=by
 have hi:=(List.getElem?_eq_some_iff.mp h).1
 rw[CS] at hi
 rw[LL lo n i hi] at h
 exact ⟨hi,(Option.some.inj h).symm⟩
def Tg (t:Str):Prop:=1<=t.length/\t.length<=8/\∀ c∈t.cps.toList,97<=c/\c<=122
theorem QZ {z:Str} {l u:Option Int} {c:Nat} (h:c∈(By z l u).cps.toList):c∈z.cps.toList:=by
 unfold By at h
 split at h
 ·exact h
 ·obtain ⟨j,_,hj⟩:=List.mem_filterMap.mp (by simpa using h)
  exact Array.mem_toList_iff.mpr (Array.mem_of_getElem? hj)
theorem OZ {z:Str} {b:Int} (h:1<=z.length) (hb:0<=b):1<=(By z none (some (1+b))).length:=by
 unfold By
 split
 ·exact h
 ·have hz:0<z.cps.size:=h
  have h0:(0:Nat)∈Builtin.Str.strSliceIndices none (some (1+b)) 1 z.length:=by
   unfold Builtin.Str.strSliceIndices
   simp only[show ¬(1+b<0) by lia,if_false,show ((1:Int) > 0)=True by simp,if_true]
   unfold sliceRange
   simp only[show ((1:Int) > 0)=True by simp,if_true]
   rw[if_pos (by lia)]
   refine List.mem_map.mpr ⟨0,List.mem_range.mpr ?_,by simp⟩
   have:(0:Int)<(max 0 (min (1+b) (z.length:Int)) - 0+1 - 1) / 1:=by lia
   lia
  have hm:z.cps[0]∈(Builtin.Str.strSliceIndices none (some (1+b)) 1 z.length).filterMap (z.cps[·]?):=List.mem_filterMap.mpr ⟨0,h0,Array.getElem?_eq_getElem hz⟩
  show 1<=((Builtin.Str.strSliceIndices none (some (1+b)) 1 z.length).filterMap (z.cps[·]?)).toArray.size
  rw[List.size_toArray]
  exact List.length_pos_of_mem hm
theorem RE {t:Str} {b:Int} (h:Tg t) (hb:0<=b):Tg (By t none (some (1+b))):=⟨OZ h.1 hb,Nat.le_trans (Kq _ _ _) h.2.1,fun c hc=>h.2.2 c (QZ hc)⟩
def thD (t:Int×Str):D:=.tup [.int t.1,.str t.2]
def AV (ts:List (Int×Str)):D:=.lst (ts.map thD)
theorem Aa {m n:MS} {s s1:DS} (h:m s=some (.nx s1)):AI m n s=n s1:=by unfold AI;rw[h];rfl
theorem RC {α β:Type} {f:α->β} {xs:List α} {i:Nat} {d:β} (h:(xs.map f)[i]?=some d):∃ a,xs[i]?=some a/\d=f a:=by
 rw[List.getElem?_map] at h
 cases e:xs[i]? with
 | none=>rw[e] at h;cases h
 | some a=>rw[e] at h;exact ⟨a,rfl,(Option.some.inj h).symm⟩
abbrev Th:=Int×Str
theorem Ck {α:Type} {f:α->D} {xs:List α} {i:Nat} {a:α} (h:xs[i]?=some a):atI (xs.map f) (i:Int)=some (f a):=IK (by rw[List.getElem?_map,h];rfl)
theorem at0 {x y:D}:atI [x,y] 0=some x:=rfl
theorem IL {Γ:Gm} {x:Option (List D)}:(Γ++[x])[Γ.length]?=some x:=by simp
theorem Sw {Γ:Gm} {x y:Option (List D)}:(Γ++[x]).set Γ.length y=Γ++[y]:=by simp
theorem Gd {c:MT} {b:MS} {k:Nat} {s s2:DS} (h1:c s=some (true,s)) (h2:b s=some (.nx s2)):BL c b (k+1) s=BL c b k s2:=by
 show (c s).bind _=_
 rw[h1]
 show (b s).bind _=_
 rw[h2]
 rfl
theorem B7 {c:MT} {m n:MS} {s s':DS} (h:c s=some (false,s')):mIf c m n s=n s':=by unfold mIf;rw[h];rfl
theorem DJ {c:MT} {m n:MS} {s s':DS} (h:c s=some (true,s')):mIf c m n s=m s':=by unfold mIf;rw[h];rfl
theorem B8 {m:ME} {s s':DS} {b:Bool} (h:m s=some (.v (.bl b),s')):AK m s=some (b,s'):=by unfold AK;rw[h];rfl
theorem Ac {g:Gm->SV->SV->Option D} {a b:ME} {s s1 s2:DS} {x y:SV} {z:D} (h1:a s=some (x,s1)) (h2:b s1=some (y,s2)) (h3:g s2.Γ x y=some z):mOp g a b s=some (.v z,s2):=by
 unfold mOp;rw[h1];show (b s1).bind _=_;rw[h2];show (g s2.Γ x y).map _=_;rw[h3];rfl
theorem A8 {m:MF} {s s':DS} {xs:List D} (h:m s=some (xs,s')):AE m s=some (.v (.lst xs),s'):=by unfold AE;rw[h];rfl
theorem Bd {mi:MF} {nt:Nat} {ix:List Nat} {g:MG} {t:MT} {e:ME} {s s':DS} {items ys:List D} {Γ':Gm} (h1:mi s=some (items,s')) (hl:items.length<=big) (h2:Aq g t e items (Dj nt ix s'.σ) s'.Γ=some (ys,Γ')):AN mi nt ix g t e s=some (ys,{s' with Γ:=Γ'}):=by
 unfold AN;rw[h1,Option.bind_some,if_pos hl,h2];rfl
theorem Ca {g:Gm->List SV->Option D} {m:ME} {s s':DS} {x:SV} {z:D} (h:m s=some (x,s')) (hg:g s'.Γ [x]=some z):AH g (AB m AC) s=some (.v z,s'):=by
 unfold AH AB AC;rw[h];show (g s'.Γ [x]).map _=_;rw[hg];rfl
theorem Bq {M:MD} {m:ME} {s s':DS} {x:SV} {z:D} {Γ':Gm} (h:m s=some (x,s')) (hg:M [x] s'.Γ=some (z,Γ')):AJ M (AB m AC) s=some (.v z,{s' with Γ:=Γ'}):=by
 unfold AJ AB AC;rw[h];show (M [x] s'.Γ).map _=_;rw[hg];rfl
theorem HF {M:MDF} {m:ME} {s s':DS} {x:SV} {z:List D} {Γ':Gm} (h:m s=some (x,s')) (hg:M [x] s'.Γ=some (z,Γ')):Bk M (AB m AC) s=some (z,{s' with Γ:=Γ'}):=by
 unfold Bk AB AC;rw[h];show (M [x] s'.Γ).map _=_;rw[hg];rfl
theorem Cs {M:MD} {m n:ME} {s s1 s2:DS} {x y:SV} {z:D} {Γ':Gm} (h:m s=some (x,s1)) (h2:n s1=some (y,s2)) (hg:M [x,y] s2.Γ=some (z,Γ')):AJ M (AB m (AB n AC)) s=some (.v z,{s2 with Γ:=Γ'}):=by
 unfold AJ AB AC;rw[h];show (((n s1).bind _).map _).bind _=_;rw[h2];show (M [x,y] s2.Γ).map _=_;rw[hg];rfl
theorem A2 {i:Nat} {m:ME} {s s':DS} {x:SV} (h:m s=some (x,s')):AM i m s=some (.nx {s' with σ:=s'.σ.set i (some x)}):=by unfold AM;rw[h];rfl
theorem nil_of {s:DS}:AE (Al AC) s=some (.v (.lst []),s):=by simp[show (0:Nat)<=big from Nat.zero_le _]
theorem Gj {m n:MS} {s s1:DS} {d:D} (h:m s=some (.rt d s1)):AI m n s=some (.rt d s1):=by unfold AI;rw[h];rfl
theorem Hf {m n:ME} {s s1 s2:DS} {x y:D} (h1:m s=some (.v x,s1)) (h2:n s1=some (.v y,s2)):A4 (AB m (AB n AC)) s=some (.v (.tup [x,y]),s2):=by
 unfold A4 AB AC
 rw[h1]
 show (((n s1).bind _).map _).bind _=_
 rw[h2]
 show (if (2:Nat)<=big then some (SV.v (D.tup [x,y]),s2) else none)=_
 rw[if_pos (by decide)]
theorem EC {m:ME} {s s':DS} {d:D} (h:m s=some (.v d,s')):As m s=some (.rt d s'):=by unfold As;rw[h];rfl
theorem Bj:big=1000000:=rfl
def EX:MD:=mFn 3 Ic
theorem NB {Γ:Gm} {c k:Int} (h0:0<=k) (h1:k<=1000000):∃ r:Int,EX [.v (.int c),.v (.int k)] Γ=some (.int r,Γ)/\0<=r/\r<2 ^ 30:=by
 have tk:Γ.take Γ.length=Γ:=List.take_length
 have a0:0<=c % 2147483629:=Int.emod_nonneg _ (by decide)
 have a1:c % 2147483629<2147483629:=Int.emod_lt_of_pos _ (by decide)
 have m1:Bm c 2147483629=true:=rfl
 have m2:Cd 9973 k=true:=decide_eq_true (.inl (by decide))
 have m3:∀ x:Int,Cd x 48271=true:=fun x=>decide_eq_true (.inr ⟨by decide,by decide⟩)
 have m4:∀ x:Int,Bm x 2147483647=true:=fun _=>rfl
 have m5:∀ x:Int,Cd (x % 2147483647) (x % 2147483647)=true:=fun x=>decide_eq_true (.inl ⟨by have:=Int.emod_nonneg x (show (2147483647:Int)≠0 by decide);lia,by have:=Int.emod_lt_of_pos x (show (0:Int)<2147483647 by decide);lia⟩)
 have m6:∀ x:Int,Bm x 2147483587=true:=fun _=>rfl
 have m7:Cd 7919 k=true:=decide_eq_true (.inl (by decide))
 have m8:∀ x:Int,Cd x 16807=true:=fun x=>decide_eq_true (.inr ⟨by decide,by decide⟩)
 have m9:∀ x:Int,Bm x 2147483563=true:=fun _=>rfl
 have m10:∀ x:Int,Dn x 8=true:=fun _=>rfl
 let u:Int:=(c % 2147483629+9973 * k+5) * 48271
 let v:Int:=(u % 2147483647) * (u % 2147483647)
 let w:Int:=(v % 2147483587+7919 * k) * 16807
 refine ⟨w % 2147483563 / 8,?_,?_,?_⟩
 ·simp[EX,Ic,m1,m2,m3,m4,m5,m6,m7,m8,m9,m10,tk,u,v,w]
 ·have:=Int.emod_nonneg w (show (2147483563:Int)≠0 by decide)
  lia
 ·have:=Int.emod_lt_of_pos w (show (0:Int)<2147483563 by decide)
  have:=Int.emod_nonneg w (show (2147483563:Int)≠0 by decide)
  lia
abbrev DkL (l:List Int):Prop:=∀ x∈l,0<=x/\x<2 ^ 30
def Dk (Γ:Gm) (n:Nat):Prop:=∃ l:List Int,Γ[n]?=some (some (l.map .int))/\DkL l
def Dd (n:Nat) (Γ Γ':Gm):Prop:=∃ l:List Int,Γ'=Γ.set n (some (l.map .int))/\DkL l
theorem Dk.lt {Γ:Gm} {n:Nat} (h:Dk Γ n):n<Γ.length:=by
 obtain ⟨l,e,_⟩:=h
 exact (List.getElem?_eq_some_iff.mp e).1
theorem Dd.dk {Γ Γ':Gm} {n:Nat} (p:Dk Γ n) (h:Dd n Γ Γ'):Dk Γ' n:=by
 obtain ⟨l,rfl,hl⟩:=h
 exact ⟨l,by rw[List.getElem?_set_self p.lt],hl⟩
theorem Dd.trans {Γ Γ' Γ'':Gm} {n:Nat} (a:Dd n Γ Γ') (b:Dd n Γ' Γ''):Dd n Γ Γ'':=by
 obtain ⟨l,rfl,_⟩:=a
 obtain ⟨l',rfl,h⟩:=b
 exact ⟨l',by rw[List.set_set],h⟩
theorem Dd.refl {Γ:Gm} {n:Nat} (p:Dk Γ n):Dd n Γ Γ:=by
 obtain ⟨l,e,hl⟩:=p
 refine ⟨l,?_,hl⟩
 obtain ⟨h,e⟩:=List.getElem?_eq_some_iff.mp e
 rw[<-e,List.set_getElem_self]
theorem Dd.len {Γ Γ':Gm} {n:Nat} (a:Dd n Γ Γ'):Γ'.length=Γ.length:=by
 obtain ⟨l,rfl,_⟩:=a
 rw[List.length_set]
def Cv:MD:=mFn 1 Fm
theorem Jo {Γ:Gm} {n:Nat} (p:Dk Γ n):∃ r Γ',Cv [.b n] Γ=some (.int r,Γ')/\0<=r/\r<2 ^ 30/\Dd n Γ Γ':=by
 have hn:=p.lt
 have p':=p
 obtain ⟨l,e,hl⟩:=p
 have b0:(0:Nat)<=big:=Nat.zero_le _
 have tk:Γ.take Γ.length=Γ:=List.take_length
 rcases List.eq_nil_or_concat l with rfl | ⟨l',x,rfl⟩
 ·refine ⟨0,Γ,?_,by decide,by decide,Dd.refl p'⟩
  simp[Cv,Fm,e,b0,tk]
 ·rw[List.concat_eq_append] at e hl
  have hx:=hl x (by simp)
  refine ⟨x,Γ.set n (some (l'.map .int)),?_,hx.1,hx.2,l',rfl,fun y hy=>hl y (by simp[hy])⟩
  have tk2:(Γ.set n (some (l'.map .int))).take Γ.length=Γ.set n (some (l'.map .int)):=List.take_of_length_le (by rw[List.length_set];exact Nat.le_refl _)
  rw[List.map_append] at e
  have e':Γ[n]?=some (some (l'.map .int++[.int x])):=e
  have ne:l'.map D.int++[D.int x]≠[]:=by simp
  simp[Cv,Fm,e',b0,tk2]
def FD:MDF:=BW 6 (FE EX)
theorem QL {Ms:MD} (F:∀ {Γ:Gm} {c k:Int},0<=k->k<=1000000->∃ r:Int,Ms [.v (.int c),.v (.int k)] Γ=some (.int r,Γ)/\0<=r/\r<2 ^ 30) {Γ:Gm} {c:Int}:∃ l:List Int,BW 6 (FE Ms) [.v (.int c),.v (.int 90)] Γ=some (l.map .int,Γ)/\DkL l:=by
 have b0:(0:Nat)<=big:=Nat.zero_le _
 have bp:Ds 10 18=true:=rfl
 have bd:∀ x:Int,Dn x 720720=true:=fun _=>rfl
 have bm:∀ x:Int,Bm x 720720=true:=fun _=>rfl
 obtain ⟨s',e1,l,dg,v4,v5,rfl,hl,hlen⟩:=C6 (g:=AF 4) (b:=E7 Ms) (items:=upTo 0 90)
  (fun i s=>∃ (l:List Int) (dg:Int) (v4 v5:Option SV),s=⟨[some (.v (.int c)),some (.v (.int 90)),some (.b Γ.length),some (.v (.int dg)),v4,v5],Γ++[some (l.map .int)],Γ.length⟩/\DkL l/\l.length=i) (by
   rintro i d s hd ⟨l,dg,v4,v5,rfl,hl,hlen⟩
   obtain ⟨hi,rfl⟩:=DU hd
   obtain ⟨r,e,r0,r1⟩:=F (Γ:=Γ++[some (l.map .int)]) (c:=c) (k:=0+i) (by lia) (by lia)
   have hb:l.length<big:=by rw[hlen,Bj];lia
   by_cases h:(10:Int) ^ 18<=c
   ·have h':(1000000000000000000:Int)<=c:=h
    refine ⟨_,⟨[some (.v (.int c)),some (.v (.int 90)),some (.b Γ.length),some (.v (.int (dg / 720720))),some (.v (.int (0+i))),some (.v (.int (dg % 720720)))],Γ++[some ((l++[dg % 720720]).map .int)],Γ.length⟩,rfl,?_,_,_,_,_,rfl,?_,by simp[hlen]⟩
    ·simp[E7,show Ms [.v (.int c),.v (.int (i:Int))] (Γ++[some (l.map .int)])=some (.int r,Γ++[some (l.map .int)]) by simpa using e,bp,h',bd,bm,hb]
    ·intro x hx
     rcases List.mem_append.mp hx with hx | hx
     ·exact hl x hx
     ·rw[List.mem_singleton] at hx
      subst hx
      have:=Int.emod_nonneg dg (show (720720:Int)≠0 by decide)
      have:=Int.emod_lt_of_pos dg (show (0:Int)<720720 by decide)
      lia
   ·have h':¬(1000000000000000000:Int)<=c:=h
    refine ⟨_,⟨[some (.v (.int c)),some (.v (.int 90)),some (.b Γ.length),some (.v (.int (dg / 720720))),some (.v (.int (0+i))),some (.v (.int r))],Γ++[some ((l++[r]).map .int)],Γ.length⟩,rfl,?_,_,_,_,_,rfl,?_,by simp[hlen]⟩
    ·simp[E7,show Ms [.v (.int c),.v (.int (i:Int))] (Γ++[some (l.map .int)])=some (.int r,Γ++[some (l.map .int)]) by simpa using e,bp,h',bd,bm,hb]
    ·intro x hx
     rcases List.mem_append.mp hx with hx | hx
     ·exact hl x hx
     ·rw[List.mem_singleton] at hx
      subst hx
      exact ⟨r0,r1⟩) (s:=⟨[some (.v (.int c)),some (.v (.int 90)),some (.b Γ.length),some (.v (.int c)),none,none],Γ++[some []],Γ.length⟩) ⟨[],c,none,none,rfl,(fun x h=>nomatch h),rfl⟩
 have hr:okR 90=true:=rfl
 refine ⟨l.reverse,?_,fun x hx=>hl x (List.mem_reverse.mp hx)⟩
 unfold BW FE
 show (AI _ _ ⟨[some (.v (.int c)),some (.v (.int 90)),none,none,none,none],Γ,Γ.length⟩).bind _=_
 rw[Aa (s1:=⟨[some (.v (.int c)),some (.v (.int 90)),some (.b Γ.length),none,none,none],Γ++[some []],Γ.length⟩) (by simp[b0]),
  Aa (s1:=⟨[some (.v (.int c)),some (.v (.int 90)),some (.b Γ.length),some (.v (.int c)),none,none],Γ++[some []],Γ.length⟩) rfl,
  Aa (show BX (BE (AB (AA 1) AC)) (AF 4) (E7 Ms) ⟨[some (.v (.int c)),some (.v (.int 90)),some (.b Γ.length),some (.v (.int c)),none,none],Γ++[some []],Γ.length⟩=_ by
   unfold BX
   rw[show BE (AB (AA 1) AC) ⟨[some (.v (.int c)),some (.v (.int 90)),some (.b Γ.length),some (.v (.int c)),none,none],Γ++[some []],Γ.length⟩=some (upTo 0 90,⟨[some (.v (.int c)),some (.v (.int 90)),some (.b Γ.length),some (.v (.int c)),none,none],Γ++[some []],Γ.length⟩) by simp[hr],Option.bind_some]
   exact e1)]
 simp
theorem QW {Γ:Gm} {c:Int}:∃ l:List Int,FD [.v (.int c),.v (.int 90)] Γ=some (l.map .int,Γ)/\DkL l:=QL NB
def DY:MD:=mFn 2 GT
theorem NG {Γ:Gm} {ns:List Int} {k:Nat}:∃ c:Int,DY [.v (.scr ns),.v (.int k)] Γ=some (.int c,Γ):=by
 have tk:Γ.take Γ.length=Γ:=List.take_length
 by_cases h:k<ns.length
 ·have e:atI ns (k:Int)=some ns[k]:=IK (List.getElem?_eq_getElem h)
  exact ⟨ns[k],by simp[DY,GT,h,e,tk]⟩
 ·exact ⟨0,by simp[DY,GT,h,tk]⟩
abbrev TgR (ts:List Th):Prop:=∀ t∈ts,Tg t.2
theorem Dd.app {n:Nat} {Γd R G:Gm} (hn:n<Γd.length) (h:Dd n (Γd++R) G):∃ Γd',Dd n Γd Γd'/\G=Γd'++R:=by
 obtain ⟨l,rfl,hl⟩:=h
 exact ⟨Γd.set n (some (l.map .int)),⟨l,rfl,hl⟩,by rw[List.set_append_left _ _ hn]⟩
theorem Dk.app {n:Nat} {Γ R:Gm} (h:Dk Γ n):Dk (Γ++R) n:=by
 have hn:=h.lt
 obtain ⟨l,e,hl⟩:=h
 exact ⟨l,by rw[List.getElem?_append_left hn];exact e,hl⟩
theorem O4:Tg "abcdefgh":=⟨by decide +kernel,by decide +kernel,by decide +kernel⟩
theorem Tp:("abcdefgh":Str).length<=big:=by decide +kernel
theorem RI {Γ:Gm} {x:SV} {ts:List Th} (h:elems Γ x=some (ts.map thD)):BF Γ [x]=some ((CZ ts).map thD):=by
 cases ts with
 | nil=>
  have e:CA Γ [x]=some []:=by unfold CA;simp only[h];rfl
  unfold BF
  rw[e]
  rfl
 | cons t r=>
  have e:CA Γ [x]=none:=by
   unfold CA
   simp only[h,Option.bind_some]
   rw[List.map_cons]
   rfl
  unfold BF
  rw[e]
  show (elems Γ x).bind _=_
  rw[h,Option.bind_some]
  show (DC ((t::r).map thW)).map _=_
  rw[Ky]
  rfl
structure FactsD (Mn Ms:MD):Prop where
 next:∀ {Γ:Gm} {n:Nat},Dk Γ n->∃ r Γ',Mn [.b n] Γ=some (.int r,Γ')/\0<=r/\r<2 ^ 30/\Dd n Γ Γ'
 stir:∀ {Γ:Gm} {c k:Int},0<=k->k<=1000000->∃ r:Int,Ms [.v (.int c),.v (.int k)] Γ=some (.int r,Γ)/\0<=r/\r<2 ^ 30
section
variable {Mn Ms:MD} (F:FactsD Mn Ms)
include F
theorem Qi {n:Nat} {Γd R:Gm} {lo M:Nat} {s1 s4 s5 s6 v10 v11 v12:Option SV} {most base seed:Int} {i:Nat} {ts:List Th} (hM:M=(Γd++R).length) (hd:Dk Γd n) (hb:2<=base) (hb2:base<=10 ^ 30) (hi:i<1000) (hl:ts.length<big) (ht:TgR ts) :
  ∃ (Γd':Gm) (t:Th) (w10 w11:Option SV),Dp Mn Ms ⟨[some (.b n),s1,some (.v (.int most)),some (.v (.int base)),s4,s5,s6,some (.v (.int seed)),some (.b M),some (.v (.int (0+i))),v10,v11,v12],Γd++R++[some (ts.map thD)],lo⟩
   = some (.nx ⟨[some (.b n),s1,some (.v (.int most)),some (.v (.int base)),s4,s5,s6,some (.v (.int seed)),some (.b M),some (.v (.int (0+i))),w10,w11,v12],Γd'++R++[some ((ts++[t]).map thD)],lo⟩)/\Dd n Γd Γd'/\Tg t.2:=by
 obtain ⟨x,e1,x0,x1⟩:=F.stir (Γ:=Γd++R++[some (ts.map thD)]) (c:=seed) (k:=0+i) (by lia) (by lia)
 obtain ⟨Γd',y,f1,hy0,hy1,dd⟩:∃ (Γd':Gm) (y:Int),(mIf (AK (mOp Af (AA 2) (mC (.int 10)))) (AM 10 (AJ Mn (AB (AA 0) AC))) A9) ⟨[some (.b n),s1,some (.v (.int most)),some (.v (.int base)),s4,s5,s6,some (.v (.int seed)),some (.b M),some (.v (.int (0+i))),some (.v (.int x)),v11,v12],Γd++R++[some (ts.map thD)],lo⟩=some (.nx ⟨[some (.b n),s1,some (.v (.int most)),some (.v (.int base)),s4,s5,s6,some (.v (.int seed)),some (.b M),some (.v (.int (0+i))),some (.v (.int y)),v11,v12],Γd'++R++[some (ts.map thD)],lo⟩)/\0<=y/\y<2 ^ 30/\Dd n Γd Γd':=by
  by_cases c:most<10
  ·obtain ⟨y,G,e2,y0,y1,d2⟩:=F.next (Γ:=Γd++R++[some (ts.map thD)]) (n:=n) (by rw[List.append_assoc];exact hd.app)
   rw[List.append_assoc] at d2
   obtain ⟨Γd',d3,rfl⟩:=Dd.app hd.lt d2
   refine ⟨Γd',y,?_,y0,y1,d3⟩
   have g:=A2 (i:=10) (Bq (s:=⟨[some (.b n),s1,some (.v (.int most)),some (.v (.int base)),s4,s5,s6,some (.v (.int seed)),some (.b M),some (.v (.int (0+i))),some (.v (.int x)),v11,v12],Γd++R++[some (ts.map thD)],lo⟩) (m:=AA 0) rfl e2)
   rw[DJ (s':=⟨[some (.b n),s1,some (.v (.int most)),some (.v (.int base)),s4,s5,s6,some (.v (.int seed)),some (.b M),some (.v (.int (0+i))),some (.v (.int x)),v11,v12],Γd++R++[some (ts.map thD)],lo⟩) (B8 (Ac rfl rfl (by show some (D.bl (decide (most<10)))=_;rw[decide_eq_true c]))),g]
   simp
  ·refine ⟨Γd,x,?_,x0,x1,Dd.refl hd⟩
   rw[B7 (s':=⟨[some (.b n),s1,some (.v (.int most)),some (.v (.int base)),s4,s5,s6,some (.v (.int seed)),some (.b M),some (.v (.int (0+i))),some (.v (.int x)),v11,v12],Γd++R++[some (ts.map thD)],lo⟩) (B8 (Ac rfl rfl (by show some (D.bl (decide (most<10)))=_;rw[decide_eq_false c])))]
   rfl
 have hM':M=(Γd'++R).length:=by rw[hM,List.length_append,List.length_append,dd.len]
 obtain ⟨x',e3,_,_⟩:=F.stir (Γ:=Γd'++R++[some (ts.map thD)]) (c:=seed) (k:=0+i) (by lia) (by lia)
 have h8:0<=x' % 8:=Int.emod_nonneg _ (by decide)
 have g0:(AM 10 (AJ Ms (AB (AA 7) (AB (AA 9) AC)))) ⟨[some (.b n),s1,some (.v (.int most)),some (.v (.int base)),s4,s5,s6,some (.v (.int seed)),some (.b M),some (.v (.int (0+i))),v10,v11,v12],Γd++R++[some (ts.map thD)],lo⟩=some (.nx ⟨[some (.b n),s1,some (.v (.int most)),some (.v (.int base)),s4,s5,s6,some (.v (.int seed)),some (.b M),some (.v (.int (0+i))),some (.v (.int x)),v11,v12],Γd++R++[some (ts.map thD)],lo⟩):=
  A2 (Cs (s2:=⟨[some (.b n),s1,some (.v (.int most)),some (.v (.int base)),s4,s5,s6,some (.v (.int seed)),some (.b M),some (.v (.int (0+i))),v10,v11,v12],Γd++R++[some (ts.map thD)],lo⟩) rfl rfl e1)
 let S:DS:=⟨[some (.b n),s1,some (.v (.int most)),some (.v (.int base)),s4,s5,s6,some (.v (.int seed)),some (.b M),some (.v (.int (0+i))),some (.v (.int y)),v11,v12],Γd'++R++[some (ts.map thD)],lo⟩
 have bp:Ds 10 22=true:=rfl
 have m1:Cd y 10000000000000000000009=true:=decide_eq_true (.inl ⟨by lia,by lia⟩)
 have m2:Cd 2 base=true:=decide_eq_true (.inl (by decide))
 have m3:∀ z:Int,Bm z (2 * base - 1)=true:=fun z=>decide_eq_true (by lia)
 let key:Int:=y * 10000000000000000000009 % (2 * base - 1) - base+1
 have g1:AM 11 (mOp Ay (mOp A5 (mOp Ag (mOp Bl (AA 10) (mOp Ay (mOp CP (mC (.int 10)) (mC (.int 22))) (mC (.int 9)))) (mOp A5 (mOp Bl (mC (.int 2)) (AA 3)) (mC (.int 1)))) (AA 3)) (mC (.int 1))) S=some (.nx ⟨[some (.b n),s1,some (.v (.int most)),some (.v (.int base)),s4,s5,s6,some (.v (.int seed)),some (.b M),some (.v (.int (0+i))),some (.v (.int y)),some (.v (.int key)),v12],Γd'++R++[some (ts.map thD)],lo⟩):=by
  simp[S,key,bp,m1,m2,m3]
 let S2:DS:=⟨[some (.b n),s1,some (.v (.int most)),some (.v (.int base)),s4,s5,s6,some (.v (.int seed)),some (.b M),some (.v (.int (0+i))),some (.v (.int y)),some (.v (.int key)),v12],Γd'++R++[some (ts.map thD)],lo⟩
 have q1:AJ Ms (AB (AA 7) (AB (AA 9) AC)) S2=some (.v (.int x'),S2):=Cs (s2:=S2) rfl rfl e3
 have q2:mOp Ay (mC (.int 1)) (mOp Ag (AJ Ms (AB (AA 7) (AB (AA 9) AC))) (mC (.int 8))) S2=some (.v (.int (1+x' % 8)),S2):=Ac (x:=.v (.int 1)) (y:=.v (.int (x' % 8))) rfl (Ac q1 (y:=.v (.int 8)) rfl (by simp[show ∀ z:Int,Bm z 8=true from fun _=>rfl])) rfl
 have q3:mSl (mC (.str "abcdefgh")) none (some (mOp Ay (mC (.int 1)) (mOp Ag (AJ Ms (AB (AA 7) (AB (AA 9) AC))) (mC (.int 8))))) S2=some (.v (.str (By "abcdefgh" none (some (1+x' % 8)))),S2):=by
  unfold mSl EH
  simp only[mC,Option.bind_some]
  rw[q2]
  simp[Tp]
 have q4:=Hf (m:=AA 11) (x:=.int key) (s:=S2) (s1:=S2) rfl q3
 have eg:(Γd'++R++[some (ts.map thD)])[M]?=some (some (ts.map thD)):=by rw[hM'];simp
 have es:∀ z,(Γd'++R++[some (ts.map thD)]).set M z=Γd'++R++[z]:=fun z=>by rw[hM'];simp
 refine ⟨Γd',(key,By "abcdefgh" none (some (1+x' % 8))),some (.v (.int y)),some (.v (.int key)),?_,dd,RE O4 h8⟩
 unfold Dp
 rw[Aa g0,Aa f1,Aa g1]
 unfold CB CY
 rw[show AA 8 S2=some (.b M,S2) from rfl,Option.bind_some]
 simp only[q4,Option.bind_some]
 simp only[S2,eg,List.length_map,hl,if_true,Option.map_some,es]
 simp[thD]
theorem RF {n:Nat} {Γd R:Gm} {lo M:Nat} {s1 s4 s5 s6 v9 v10 v11 v12:Option SV} {most base seed:Int} {m:Nat} (hM:M=(Γd++R).length) (hd:Dk Γd n) (hb:2<=base) (hb2:base<=10 ^ 30) (hm:m<=200) :
  ∃ (Γd':Gm) (ts:List Th) (w9 w10 w11:Option SV),Cb (AF 9) (Dp Mn Ms) (upTo 0 m) ⟨[some (.b n),s1,some (.v (.int most)),some (.v (.int base)),s4,s5,s6,some (.v (.int seed)),some (.b M),v9,v10,v11,v12],Γd++R++[some []],lo⟩
   = some (.nx ⟨[some (.b n),s1,some (.v (.int most)),some (.v (.int base)),s4,s5,s6,some (.v (.int seed)),some (.b M),w9,w10,w11,v12],Γd'++R++[some (ts.map thD)],lo⟩)/\Dd n Γd Γd'/\TgR ts/\ts.length=m:=by
 obtain ⟨s',e1,Γd',ts,w9,w10,w11,rfl,dd,tg,hl⟩:=C6 (g:=AF 9) (b:=Dp Mn Ms) (items:=upTo 0 m)
  (fun i s=>∃ (Γd':Gm) (ts:List Th) (w9 w10 w11:Option SV),s=⟨[some (.b n),s1,some (.v (.int most)),some (.v (.int base)),s4,s5,s6,some (.v (.int seed)),some (.b M),w9,w10,w11,v12],Γd'++R++[some (ts.map thD)],lo⟩/\Dd n Γd Γd'/\TgR ts/\ts.length=i) (by
   rintro i d s hdd ⟨Γd',ts,w9,w10,w11,rfl,dd,tg,hl⟩
   obtain ⟨hi,rfl⟩:=DU hdd
   obtain ⟨Γ2,t,u10,u11,e,d2,ht⟩:=Qi F (n:=n) (Γd:=Γd') (R:=R) (lo:=lo) (M:=M) (s1:=s1) (s4:=s4) (s5:=s5) (s6:=s6) (v10:=w10) (v11:=w11) (v12:=v12) (most:=most) (base:=base) (seed:=seed) (i:=i) (ts:=ts) (by rw[hM,List.length_append,List.length_append,dd.len]) (dd.dk hd) hb hb2 (by lia) (by rw[hl,Bj];lia) tg
   refine ⟨_,_,rfl,e,Γ2,ts++[t],_,_,_,rfl,dd.trans d2,fun x hx=>?_,by simp[hl]⟩
   rcases List.mem_append.mp hx with hx | hx
   ·exact tg x hx
   ·rw[List.mem_singleton.mp hx];exact ht) (s:=⟨[some (.b n),s1,some (.v (.int most)),some (.v (.int base)),s4,s5,s6,some (.v (.int seed)),some (.b M),v9,v10,v11,v12],Γd++R++[some []],lo⟩) ⟨Γd,[],v9,v10,v11,rfl,Dd.refl hd,(fun x h=>nomatch h),rfl⟩
 rw[CS] at hl
 exact ⟨Γd',ts,w9,w10,w11,e1,dd,tg,hl⟩
omit F in
theorem NC {ts:List Th} (h:TgR ts):TgR (CZ ts):=fun t ht=>h t ((Fu ts).mem_iff.mp ht)
omit F in
theorem LB {way:Int} {n:Nat} {G:Gm} {lo M:Nat} {s1 s2 s3 s4 s5 s6 s7 s9 s10 s11:Option SV} {ts:List Th} (hM:M=G.length) (tg:TgR ts) (w:Int) (rev:Bool) :
  ∃ (M':Nat) (G':Gm) (ts':List Th),(mIf (AK (mOp BI (AA 12) (mC (.int w)))) (if rev=true then BY 8 (FC (AE (Au BF (AB (AA 8) AC)))) else BY 8 (Au BF (AB (AA 8) AC))) A9) ⟨[some (.b n),s1,s2,s3,s4,s5,s6,s7,some (.b M),s9,s10,s11,some (.v (.int way))],G++[some (ts.map thD)],lo⟩
   = some (.nx ⟨[some (.b n),s1,s2,s3,s4,s5,s6,s7,some (.b M'),s9,s10,s11,some (.v (.int way))],G++G'++[some (ts'.map thD)],lo⟩)/\M'=(G++G').length/\TgR ts'/\ts'.length=ts.length:=by
 let S:DS:=⟨[some (.b n),s1,s2,s3,s4,s5,s6,s7,some (.b M),s9,s10,s11,some (.v (.int way))],G++[some (ts.map thD)],lo⟩
 have t:AK (mOp BI (AA 12) (mC (.int w))) S=some (decide (way=w),S):=B8 (Ac (x:=.v (.int way)) (y:=.v (.int w)) (s1:=S) (s2:=S) rfl rfl rfl)
 have el:elems S.Γ (.b M)=some (ts.map thD):=by
  show ((G++[some (ts.map thD)])[M]?).join=_
  rw[hM]
  simp
 have sl:=(Fu ts).length_eq
 by_cases c:way=w
 ·rw[decide_eq_true c] at t
  have q:Au BF (AB (AA 8) AC) S=some ((CZ ts).map thD,S):=by
   unfold Au AB AC
   rw[show AA 8 S=some (.b M,S) from rfl]
   show (BF S.Γ [.b M]).map _=_
   rw[RI el]
   rfl
  refine ⟨M+1,[some (ts.map thD)],if rev=true then (CZ ts).reverse else CZ ts,?_,by rw[hM];simp,?_,?_⟩
  ·show mIf _ _ _ S=_
   rw[DJ t]
   cases rev with
   | true=>
    rw[if_pos rfl,if_pos rfl]
    unfold BY FC AE
    rw[q]
    simp[S,hM]
   | false=>
    rw[if_neg (by decide),if_neg (by decide)]
    unfold BY
    rw[q]
    simp[S,hM]
  ·cases rev with
   | true=>rw[if_pos rfl];exact fun x hx=>NC tg x (List.mem_reverse.mp hx)
   | false=>rw[if_neg (by decide)];exact NC tg
  ·cases rev with
   | true=>rw[if_pos rfl,List.length_reverse,sl]
   | false=>rw[if_neg (by decide),sl]
 ·rw[decide_eq_false c] at t
  refine ⟨M,[],ts,?_,by rw[hM];simp,tg,rfl⟩
  show mIf _ _ _ S=_
  rw[B7 t]
  simp[S]
theorem Rw {n:Nat} {Γ Γd J:Gm} {rows:List (List Th)} {s1 v6 v7 v8 v9 v10 v11 v12:Option SV} {most base:Int} {h:Int} (hd:Dk Γd n) (hl:Γd.length=Γ.length) (hm0:0<=most) (hm1:most<=200) (hb:2<=base) (hb2:base<=10 ^ 30) (hr:rows.length<big) :
  ∃ (Γd' J':Gm) (r:List Th) (w6 w7 w8 w9 w10 w11 w12:Option SV),Eb Mn Ms ⟨[some (.b n),s1,some (.v (.int most)),some (.v (.int base)),some (.b Γ.length),some (.v (.int h)),v6,v7,v8,v9,v10,v11,v12],Γd++([some (rows.map AV)]++J),Γ.length⟩
   = some (.nx ⟨[some (.b n),s1,some (.v (.int most)),some (.v (.int base)),some (.b Γ.length),some (.v (.int h)),w6,w7,w8,w9,w10,w11,w12],Γd'++([some ((rows++[r]).map AV)]++J'),Γ.length⟩)/\Dd n Γd Γd'/\TgR r/\(r.length:Int)<=most:=by
 have b0:(0:Nat)<=big:=Nat.zero_le _
 obtain ⟨x1,G1,e1,x10,x11,d1⟩:=F.next (Γ:=Γd++([some (rows.map AV)]++J)) hd.app
 obtain ⟨Γ1,dd1,rfl⟩:=Dd.app hd.lt d1
 have hd1:=dd1.dk hd
 obtain ⟨x2,G2,e2,x20,x21,d2⟩:=F.next (Γ:=Γ1++([some (rows.map AV)]++J)) hd1.app
 obtain ⟨Γ2,dd2,rfl⟩:=Dd.app hd1.lt d2
 have hd2:=dd2.dk hd1
 have D2:=dd1.trans dd2
 let m:Int:=x1 % (most+1)
 have m0:0<=m:=Int.emod_nonneg _ (by lia)
 have m1:m<most+1:=Int.emod_lt_of_pos _ (by lia)
 let R:Gm:=[some (rows.map AV)]++J
 have g1:AM 6 (mOp Ag (AJ Mn (AB (AA 0) AC)) (mOp Ay (AA 2) (mC (.int 1)))) ⟨[some (.b n),s1,some (.v (.int most)),some (.v (.int base)),some (.b Γ.length),some (.v (.int h)),v6,v7,v8,v9,v10,v11,v12],Γd++R,Γ.length⟩=some (.nx ⟨[some (.b n),s1,some (.v (.int most)),some (.v (.int base)),some (.b Γ.length),some (.v (.int h)),some (.v (.int m)),v7,v8,v9,v10,v11,v12],Γ1++R,Γ.length⟩):=by
  have bm:∀ z:Int,Bm z (most+1)=true:=fun z=>decide_eq_true (by lia)
  have q:AJ Mn (AB (AA 0) AC) ⟨[some (.b n),s1,some (.v (.int most)),some (.v (.int base)),some (.b Γ.length),some (.v (.int h)),v6,v7,v8,v9,v10,v11,v12],Γd++R,Γ.length⟩=some (.v (.int x1),⟨[some (.b n),s1,some (.v (.int most)),some (.v (.int base)),some (.b Γ.length),some (.v (.int h)),v6,v7,v8,v9,v10,v11,v12],Γ1++R,Γ.length⟩):=Bq (s':=⟨[some (.b n),s1,some (.v (.int most)),some (.v (.int base)),some (.b Γ.length),some (.v (.int h)),v6,v7,v8,v9,v10,v11,v12],Γd++R,Γ.length⟩) (x:=.b n) rfl e1
  have q2:mOp Ay (AA 2) (mC (.int 1)) ⟨[some (.b n),s1,some (.v (.int most)),some (.v (.int base)),some (.b Γ.length),some (.v (.int h)),v6,v7,v8,v9,v10,v11,v12],Γ1++R,Γ.length⟩=some (.v (.int (most+1)),⟨[some (.b n),s1,some (.v (.int most)),some (.v (.int base)),some (.b Γ.length),some (.v (.int h)),v6,v7,v8,v9,v10,v11,v12],Γ1++R,Γ.length⟩):=rfl
  refine A2 (Ac q q2 ?_)
  show (if Bm x1 (most+1)=true then some (D.int (x1 % (most+1))) else none)=_
  rw[if_pos (bm x1)]
 have g2:AM 7 (AJ Mn (AB (AA 0) AC)) ⟨[some (.b n),s1,some (.v (.int most)),some (.v (.int base)),some (.b Γ.length),some (.v (.int h)),some (.v (.int m)),v7,v8,v9,v10,v11,v12],Γ1++R,Γ.length⟩=some (.nx ⟨[some (.b n),s1,some (.v (.int most)),some (.v (.int base)),some (.b Γ.length),some (.v (.int h)),some (.v (.int m)),some (.v (.int x2)),v8,v9,v10,v11,v12],Γ2++R,Γ.length⟩):=
  A2 (Bq (s':=⟨[some (.b n),s1,some (.v (.int most)),some (.v (.int base)),some (.b Γ.length),some (.v (.int h)),some (.v (.int m)),v7,v8,v9,v10,v11,v12],Γ1++R,Γ.length⟩) (x:=.b n) rfl e2)
 let M:Nat:=(Γ2++R).length
 have g3:BY 8 (Al AC) ⟨[some (.b n),s1,some (.v (.int most)),some (.v (.int base)),some (.b Γ.length),some (.v (.int h)),some (.v (.int m)),some (.v (.int x2)),v8,v9,v10,v11,v12],Γ2++R,Γ.length⟩=some (.nx ⟨[some (.b n),s1,some (.v (.int most)),some (.v (.int base)),some (.b Γ.length),some (.v (.int h)),some (.v (.int m)),some (.v (.int x2)),some (.b M),v9,v10,v11,v12],Γ2++R++[some []],Γ.length⟩):=by simp[b0,M]
 obtain ⟨Γ3,ts,w9,w10,w11,e4,d4,tg,lt⟩:=RF F (n:=n) (Γd:=Γ2) (R:=R) (lo:=Γ.length) (M:=M) (s1:=s1) (s4:=some (.b Γ.length)) (s5:=some (.v (.int h))) (s6:=some (.v (.int m))) (v9:=v9) (v10:=v10) (v11:=v11) (v12:=v12) (most:=most) (base:=base) (seed:=x2) (m:=m.toNat) rfl hd2 hb hb2 (by lia)
 have D4:=D2.trans d4
 have g4:BX (BE (AB (AA 6) AC)) (AF 9) (Dp Mn Ms) ⟨[some (.b n),s1,some (.v (.int most)),some (.v (.int base)),some (.b Γ.length),some (.v (.int h)),some (.v (.int m)),some (.v (.int x2)),some (.b M),v9,v10,v11,v12],Γ2++R++[some []],Γ.length⟩=some (.nx ⟨[some (.b n),s1,some (.v (.int most)),some (.v (.int base)),some (.b Γ.length),some (.v (.int h)),some (.v (.int m)),some (.v (.int x2)),some (.b M),w9,w10,w11,v12],Γ3++R++[some (ts.map thD)],Γ.length⟩):=by
  have hr:okR m=true:=Fh (by lia) (by lia)
  unfold BX
  rw[show BE (AB (AA 6) AC) ⟨[some (.b n),s1,some (.v (.int most)),some (.v (.int base)),some (.b Γ.length),some (.v (.int h)),some (.v (.int m)),some (.v (.int x2)),some (.b M),v9,v10,v11,v12],Γ2++R++[some []],Γ.length⟩=some (upTo 0 m.toNat,⟨[some (.b n),s1,some (.v (.int most)),some (.v (.int base)),some (.b Γ.length),some (.v (.int h)),some (.v (.int m)),some (.v (.int x2)),some (.b M),v9,v10,v11,v12],Γ2++R++[some []],Γ.length⟩) by
   show (if okR m=true then _ else _)=_
   rw[if_pos hr],Option.bind_some]
  exact e4
 have hM3:M=(Γ3++R).length:=by simp only[M,List.length_append,d4.len]
 have g5:AM 12 (mOp Ag (AA 7) (mC (.int 5))) ⟨[some (.b n),s1,some (.v (.int most)),some (.v (.int base)),some (.b Γ.length),some (.v (.int h)),some (.v (.int m)),some (.v (.int x2)),some (.b M),w9,w10,w11,v12],Γ3++R++[some (ts.map thD)],Γ.length⟩=some (.nx ⟨[some (.b n),s1,some (.v (.int most)),some (.v (.int base)),some (.b Γ.length),some (.v (.int h)),some (.v (.int m)),some (.v (.int x2)),some (.b M),w9,w10,w11,some (.v (.int (x2 % 5)))],Γ3++R++[some (ts.map thD)],Γ.length⟩):=
  A2 (Ac (x:=.v (.int x2)) (y:=.v (.int 5)) (s2:=⟨[some (.b n),s1,some (.v (.int most)),some (.v (.int base)),some (.b Γ.length),some (.v (.int h)),some (.v (.int m)),some (.v (.int x2)),some (.b M),w9,w10,w11,v12],Γ3++R++[some (ts.map thD)],Γ.length⟩) rfl rfl rfl)
 obtain ⟨M1,G1,t1,f1,hM1,tg1,l1⟩:=LB (way:=x2 % 5) (n:=n) (G:=Γ3++R) (lo:=Γ.length) (M:=M) (s1:=s1) (s2:=some (.v (.int most))) (s3:=some (.v (.int base))) (s4:=some (.b Γ.length)) (s5:=some (.v (.int h))) (s6:=some (.v (.int m))) (s7:=some (.v (.int x2))) (s9:=w9) (s10:=w10) (s11:=w11) hM3 tg 1 false
 obtain ⟨M2,G2,t2,f2,hM2,tg2,l2⟩:=LB (way:=x2 % 5) (n:=n) (G:=Γ3++R++G1) (lo:=Γ.length) (M:=M1) (s1:=s1) (s2:=some (.v (.int most))) (s3:=some (.v (.int base))) (s4:=some (.b Γ.length)) (s5:=some (.v (.int h))) (s6:=some (.v (.int m))) (s7:=some (.v (.int x2))) (s9:=w9) (s10:=w10) (s11:=w11) hM1 tg1 2 true
 rw[if_neg (by decide)] at f1
 rw[if_pos rfl] at f2
 have h3:Γ3.length=Γ.length:=by rw[D4.len,hl]
 have hlo:Γ.length<=M2:=by rw[hM2];simp only[List.length_append,h3];lia
 have en:(Γ3++R++G1++G2++[some (t2.map thD)])[M2]?=some (some (t2.map thD)):=by rw[hM2];simp
 have es:∀ z,(Γ3++R++G1++G2++[some (t2.map thD)]).set M2 z=Γ3++R++G1++G2++[z]:=fun z=>by rw[hM2];simp
 have eN:∀ z:Option (List D),(Γ3++R++G1++G2++[z])[Γ.length]?=some (some (rows.map AV)):=fun z=>by
  rw[<-h3]
  simp[R]
 have eS:∀ z y:Option (List D),(Γ3++R++G1++G2++[z]).set Γ.length y=Γ3++([y]++(J++G1++G2++[z])):=fun z y=>by
  rw[<-h3]
  simp[R]
 refine ⟨Γ3,J++G1++G2++[none],t2,some (.v (.int m)),some (.v (.int x2)),none,w9,w10,w11,some (.v (.int (x2 % 5))),?_,D4,tg2,by lia⟩
 unfold Eb
 show AI _ _ ⟨[some (.b n),s1,some (.v (.int most)),some (.v (.int base)),some (.b Γ.length),some (.v (.int h)),v6,v7,v8,v9,v10,v11,v12],Γd++R,Γ.length⟩=_
 rw[Aa g1,Aa g2,Aa g3,Aa g4,Aa g5,Aa f1,Aa f2]
 have fin:AE (Ci 8) ⟨[some (.b n),s1,some (.v (.int most)),some (.v (.int base)),some (.b Γ.length),some (.v (.int h)),some (.v (.int m)),some (.v (.int x2)),some (.b M2),w9,w10,w11,some (.v (.int (x2 % 5)))],Γ3++R++G1++G2++[some (t2.map thD)],Γ.length⟩=some (.v (AV t2),⟨[some (.b n),s1,some (.v (.int most)),some (.v (.int base)),some (.b Γ.length),some (.v (.int h)),some (.v (.int m)),some (.v (.int x2)),none,w9,w10,w11,some (.v (.int (x2 % 5)))],Γ3++R++G1++G2++[none],Γ.length⟩):=by
  refine A8 ?_
  unfold Ci
  simp only[List.getElem?_cons_succ,List.getElem?_cons_zero,en,hlo,if_true,es,List.set_cons_succ,List.set_cons_zero]
 unfold CB CY
 rw[show AA 4 ⟨[some (.b n),s1,some (.v (.int most)),some (.v (.int base)),some (.b Γ.length),some (.v (.int h)),some (.v (.int m)),some (.v (.int x2)),some (.b M2),w9,w10,w11,some (.v (.int (x2 % 5)))],Γ3++R++G1++G2++[some (t2.map thD)],Γ.length⟩=some (.b Γ.length,⟨[some (.b n),s1,some (.v (.int most)),some (.v (.int base)),some (.b Γ.length),some (.v (.int h)),some (.v (.int m)),some (.v (.int x2)),some (.b M2),w9,w10,w11,some (.v (.int (x2 % 5)))],Γ3++R++G1++G2++[some (t2.map thD)],Γ.length⟩) from rfl,Option.bind_some]
 simp only[eN,fin,Option.bind_some,List.length_map,hr,if_true,Option.map_some,eS]
 simp
theorem Qz {n:Nat} {Γ:Gm} (hd:Dk Γ n):∃ (rs:List (List Th)) (Γ':Gm),BW 13 (Gb Mn Ms) [.b n] Γ=some (rs.map AV,Γ')/\1<=rs.length/\rs.length<=6/\(∀ r∈rs,r.length<=200/\TgR r)/\Dd n Γ Γ':=by
 have b0:(0:Nat)<=big:=Nat.zero_le _
 have b8:(8:Nat)<=big:=by decide
 have b4:(4:Nat)<=big:=by decide
 have bp:Ds 10 30=true:=rfl
 obtain ⟨x1,Γ1,e1,x10,x11,d1⟩:=F.next hd
 have hd1:=d1.dk hd
 obtain ⟨x2,Γ2,e2,x20,x21,d2⟩:=F.next hd1
 have hd2:=d2.dk hd1
 obtain ⟨x3,Γ3,e3,x30,x31,d3⟩:=F.next hd2
 have hd3:=d3.dk hd2
 have D3:=(d1.trans d2).trans d3
 have bm:∀ z:Int,Bm z 6=true/\Bm z 8=true/\Bm z 4=true:=fun _=>⟨rfl,rfl,rfl⟩
 have p6:0<=x1 % 6/\x1 % 6<6:=⟨Int.emod_nonneg _ (by decide),Int.emod_lt_of_pos _ (by decide)⟩
 obtain ⟨most,hmo,hm0,hm1⟩:∃ most:Int,atI ([.int 3,.int 6,.int 9,.int 9,.int 20,.int 20,.int 40,.int 200]:List D) (x2 % 8)=some (.int most)/\0<=most/\most<=200:=by
  have h0:=Int.emod_nonneg x2 (show (8:Int)≠0 by decide)
  have h1:=Int.emod_lt_of_pos x2 (show (0:Int)<8 by decide)
  have:x2 % 8=0\/x2 % 8=1\/x2 % 8=2\/x2 % 8=3\/x2 % 8=4\/x2 % 8=5\/x2 % 8=6\/x2 % 8=7:=by lia
  rcases this with e | e | e | e | e | e | e | e<;>rw[e]
  ·exact ⟨3,rfl,by decide,by decide⟩
  ·exact ⟨6,rfl,by decide,by decide⟩
  ·exact ⟨9,rfl,by decide,by decide⟩
  ·exact ⟨9,rfl,by decide,by decide⟩
  ·exact ⟨20,rfl,by decide,by decide⟩
  ·exact ⟨20,rfl,by decide,by decide⟩
  ·exact ⟨40,rfl,by decide,by decide⟩
  ·exact ⟨200,rfl,by decide,by decide⟩
 obtain ⟨base,hba,hb1,hb2⟩:∃ base:Int,atI ([.int 2,.int 4,.int 50,.int (10 ^ 30)]:List D) (x3 % 4)=some (.int base)/\2<=base/\base<=10 ^ 30:=by
  have h0:=Int.emod_nonneg x3 (show (4:Int)≠0 by decide)
  have h1:=Int.emod_lt_of_pos x3 (show (0:Int)<4 by decide)
  have:x3 % 4=0\/x3 % 4=1\/x3 % 4=2\/x3 % 4=3:=by lia
  rcases this with e | e | e | e<;>rw[e]
  ·exact ⟨2,rfl,by decide,by decide⟩
  ·exact ⟨4,rfl,by decide,by decide⟩
  ·exact ⟨50,rfl,by decide,by decide⟩
  ·exact ⟨10 ^ 30,rfl,by decide,by decide⟩
 let N:List (Option SV):=[none,none,none,none,none,none,none,none]
 have g1:AM 1 (mOp Ay (mC (.int 1)) (mOp Ag (AJ Mn (AB (AA 0) AC)) (mC (.int 6)))) ⟨[some (.b n),none,none,none,none,none,none,none,none,none,none,none,none],Γ,Γ.length⟩=some (.nx ⟨[some (.b n),some (.v (.int (1+x1 % 6))),none,none,none,none,none,none,none,none,none,none,none],Γ1,Γ.length⟩):=
  by
  have q:AJ Mn (AB (AA 0) AC) ⟨[some (.b n),none,none,none,none,none,none,none,none,none,none,none,none],Γ,Γ.length⟩=some (.v (.int x1),⟨[some (.b n),none,none,none,none,none,none,none,none,none,none,none,none],Γ1,Γ.length⟩):=Bq (s':=⟨[some (.b n),none,none,none,none,none,none,none,none,none,none,none,none],Γ,Γ.length⟩) (x:=.b n) rfl e1
  have q2:mOp Ag (AJ Mn (AB (AA 0) AC)) (mC (.int 6)) ⟨[some (.b n),none,none,none,none,none,none,none,none,none,none,none,none],Γ,Γ.length⟩=some (.v (.int (x1 % 6)),⟨[some (.b n),none,none,none,none,none,none,none,none,none,none,none,none],Γ1,Γ.length⟩):=Ac q (y:=.v (.int 6)) rfl rfl
  exact A2 (Ac (x:=.v (.int 1)) (s1:=⟨[some (.b n),none,none,none,none,none,none,none,none,none,none,none,none],Γ,Γ.length⟩) rfl q2 rfl)
 have l8:∀ {s:DS},AE (Al (AB (mC (.int 3)) (AB (mC (.int 6)) (AB (mC (.int 9)) (AB (mC (.int 9)) (AB (mC (.int 20)) (AB (mC (.int 20)) (AB (mC (.int 40)) (AB (mC (.int 200)) AC))))))))) s=some (.v (.lst [.int 3,.int 6,.int 9,.int 9,.int 20,.int 20,.int 40,.int 200]),s):=by intro s;simp[b8]
 have l4:∀ {s:DS},AE (Al (AB (mC (.int 2)) (AB (mC (.int 4)) (AB (mC (.int 50)) (AB (mOp CP (mC (.int 10)) (mC (.int 30))) AC))))) s=some (.v (.lst [.int 2,.int 4,.int 50,.int (10 ^ 30)]),s):=by intro s;simp[b4,bp]
 let S1:DS:=⟨[some (.b n),some (.v (.int (1+x1 % 6))),none,none,none,none,none,none,none,none,none,none,none],Γ1,Γ.length⟩
 have g2:AM 2 (mOp gIx (AE (Al (AB (mC (.int 3)) (AB (mC (.int 6)) (AB (mC (.int 9)) (AB (mC (.int 9)) (AB (mC (.int 20)) (AB (mC (.int 20)) (AB (mC (.int 40)) (AB (mC (.int 200)) AC)))))))))) (mOp Ag (AJ Mn (AB (AA 0) AC)) (mC (.int 8)))) S1=some (.nx ⟨[some (.b n),some (.v (.int (1+x1 % 6))),some (.v (.int most)),none,none,none,none,none,none,none,none,none,none],Γ2,Γ.length⟩):=
  by
  have q:AJ Mn (AB (AA 0) AC) S1=some (.v (.int x2),⟨[some (.b n),some (.v (.int (1+x1 % 6))),none,none,none,none,none,none,none,none,none,none,none],Γ2,Γ.length⟩):=Bq (s':=S1) (x:=.b n) rfl e2
  have q2:mOp Ag (AJ Mn (AB (AA 0) AC)) (mC (.int 8)) S1=some (.v (.int (x2 % 8)),⟨[some (.b n),some (.v (.int (1+x1 % 6))),none,none,none,none,none,none,none,none,none,none,none],Γ2,Γ.length⟩):=Ac q (y:=.v (.int 8)) rfl rfl
  exact A2 (Ac (s1:=S1) l8 q2 hmo)
 let S2:DS:=⟨[some (.b n),some (.v (.int (1+x1 % 6))),some (.v (.int most)),none,none,none,none,none,none,none,none,none,none],Γ2,Γ.length⟩
 have g3:AM 3 (mOp gIx (AE (Al (AB (mC (.int 2)) (AB (mC (.int 4)) (AB (mC (.int 50)) (AB (mOp CP (mC (.int 10)) (mC (.int 30))) AC)))))) (mOp Ag (AJ Mn (AB (AA 0) AC)) (mC (.int 4)))) S2=some (.nx ⟨[some (.b n),some (.v (.int (1+x1 % 6))),some (.v (.int most)),some (.v (.int base)),none,none,none,none,none,none,none,none,none],Γ3,Γ.length⟩):=
  by
  have q:AJ Mn (AB (AA 0) AC) S2=some (.v (.int x3),⟨[some (.b n),some (.v (.int (1+x1 % 6))),some (.v (.int most)),none,none,none,none,none,none,none,none,none,none],Γ3,Γ.length⟩):=Bq (s':=S2) (x:=.b n) rfl e3
  have q2:mOp Ag (AJ Mn (AB (AA 0) AC)) (mC (.int 4)) S2=some (.v (.int (x3 % 4)),⟨[some (.b n),some (.v (.int (1+x1 % 6))),some (.v (.int most)),none,none,none,none,none,none,none,none,none,none],Γ3,Γ.length⟩):=Ac q (y:=.v (.int 4)) rfl rfl
  exact A2 (Ac (s1:=S2) l4 q2 hba)
 have h3:Γ3.length=Γ.length:=D3.len
 have g4:BY 4 (Al AC) ⟨[some (.b n),some (.v (.int (1+x1 % 6))),some (.v (.int most)),some (.v (.int base)),none,none,none,none,none,none,none,none,none],Γ3,Γ.length⟩=some (.nx ⟨[some (.b n),some (.v (.int (1+x1 % 6))),some (.v (.int most)),some (.v (.int base)),some (.b Γ.length),none,none,none,none,none,none,none,none],Γ3++([some []]++[]),Γ.length⟩):=by simp[b0,h3]
 obtain ⟨s',e5,Γ4,J,rs,w5,w6,w7,w8,w9,w10,w11,w12,rfl,d5,hrl,hrs⟩:=C6 (g:=AF 5) (b:=Eb Mn Ms) (items:=upTo 0 (1+x1 % 6).toNat)
  (fun i s=>∃ (Γ4 J:Gm) (rs:List (List Th)) (w5 w6 w7 w8 w9 w10 w11 w12:Option SV),s=⟨[some (.b n),some (.v (.int (1+x1 % 6))),some (.v (.int most)),some (.v (.int base)),some (.b Γ.length),w5,w6,w7,w8,w9,w10,w11,w12],Γ4++([some (rs.map AV)]++J),Γ.length⟩/\Dd n Γ3 Γ4/\(∀ r∈rs,r.length<=200/\TgR r)/\rs.length=i) (by
   rintro i d s hdd ⟨Γ4,J,rs,w5,w6,w7,w8,w9,w10,w11,w12,rfl,d5,hrl,hrs⟩
   obtain ⟨hi,rfl⟩:=DU hdd
   obtain ⟨Γ5,J',r,u6,u7,u8,u9,u10,u11,u12,e,d6,tr,lr⟩:=Rw F (n:=n) (Γ:=Γ) (Γd:=Γ4) (J:=J) (rows:=rs) (s1:=some (.v (.int (1+x1 % 6)))) (v6:=w6) (v7:=w7) (v8:=w8) (v9:=w9) (v10:=w10) (v11:=w11) (v12:=w12) (most:=most) (base:=base) (h:=0+i) (d5.dk hd3) (by rw[d5.len,h3]) hm0 hm1 hb1 hb2 (by rw[hrs,Bj];lia)
   refine ⟨_,_,rfl,e,Γ5,J',rs++[r],_,_,_,_,_,_,_,_,rfl,d5.trans d6,fun q hq=>?_,by simp[hrs]⟩
   rcases List.mem_append.mp hq with hq | hq
   ·exact hrl q hq
   ·rw[List.mem_singleton.mp hq];exact ⟨by lia,tr⟩) (s:=⟨[some (.b n),some (.v (.int (1+x1 % 6))),some (.v (.int most)),some (.v (.int base)),some (.b Γ.length),none,none,none,none,none,none,none,none],Γ3++([some []]++[]),Γ.length⟩) ⟨Γ3,[],[],_,_,_,_,_,_,_,_,rfl,Dd.refl hd3,(fun q h=>nomatch h),rfl⟩
 rw[CS] at hrs
 have g5:BX (BE (AB (AA 1) AC)) (AF 5) (Eb Mn Ms) ⟨[some (.b n),some (.v (.int (1+x1 % 6))),some (.v (.int most)),some (.v (.int base)),some (.b Γ.length),none,none,none,none,none,none,none,none],Γ3++([some []]++[]),Γ.length⟩=some (.nx ⟨[some (.b n),some (.v (.int (1+x1 % 6))),some (.v (.int most)),some (.v (.int base)),some (.b Γ.length),w5,w6,w7,w8,w9,w10,w11,w12],Γ4++([some (rs.map AV)]++J),Γ.length⟩):=by
  have hr:okR (1+x1 % 6)=true:=Fh (by lia) (by lia)
  unfold BX
  rw[show BE (AB (AA 1) AC) ⟨[some (.b n),some (.v (.int (1+x1 % 6))),some (.v (.int most)),some (.v (.int base)),some (.b Γ.length),none,none,none,none,none,none,none,none],Γ3++([some []]++[]),Γ.length⟩=some (upTo 0 (1+x1 % 6).toNat,⟨[some (.b n),some (.v (.int (1+x1 % 6))),some (.v (.int most)),some (.v (.int base)),some (.b Γ.length),none,none,none,none,none,none,none,none],Γ3++([some []]++[]),Γ.length⟩) by
   show (if okR (1+x1 % 6)=true then _ else _)=_
   rw[if_pos hr],Option.bind_some]
  exact e5
 have D5:=D3.trans d5
 have h4:Γ4.length=Γ.length:=D5.len
 refine ⟨rs,Γ4,?_,by lia,by lia,hrl,D5⟩
 unfold BW Gb
 show (AI _ _ ⟨[some (.b n),none,none,none,none,none,none,none,none,none,none,none,none],Γ,Γ.length⟩).bind _=_
 rw[Aa g1,Aa g2,Aa g3,Aa g4,Aa g5]
 have en:(Γ4++([some (rs.map AV)]++J))[Γ.length]?=some (some (rs.map AV)):=by rw[<-h4];simp
 have et:((Γ4++([some (rs.map AV)]++J)).set Γ.length none).take Γ.length=Γ4:=by rw[<-h4];simp
 unfold CO Ci
 simp only[List.getElem?_cons_succ,List.getElem?_cons_zero,en,Nat.le_refl,if_true,Option.map_some,Option.bind_some,et]
end
def Ek:MDF:=BW 13 (Gb Cv EX)
theorem PJ {n:Nat} {Γ:Gm} (hd:Dk Γ n):∃ (rs:List (List Th)) (Γ':Gm),Ek [.b n] Γ=some (rs.map AV,Γ')/\1<=rs.length/\rs.length<=6/\(∀ r∈rs,r.length<=200/\TgR r)/\Dd n Γ Γ':=Qz ⟨Jo,NB⟩ hd
def AW (rs:List (List Th)):D:=.lst (rs.map AV)
def Av (h:Int):Int->List Th->List (List Int)
 | _,[]=>[]
 | i,t::r=>[t.1,h,i]::Av h (i+1) r
theorem GE (h:Int):∀ (i:Int) (ts:List Th),(Av h i ts).length=ts.length
 | _,[]=>rfl
 | i,t::r=>by unfold Av;rw[List.length_cons,List.length_cons,GE]
theorem Ho (h:Int):∀ (i:Int) (ts:List Th) (k:Nat) (t:Th),ts[k]?=some t->(Av h i ts)[k]?=some [t.1,h,i+k]
 | _,[],_,_,e=>by cases e
 | i,c::r,0,t,e=>by cases e;unfold Av;simp
 | i,c::r,k+1,t,e=>by
  unfold Av
  rw[List.getElem?_cons_succ,Ho h (i+1) r k t (by simpa using e),show i+1+(k:Int)=i+((k+1:Nat):Int) by lia]
theorem G6 {h i:Int} {ts:List Th}:∀ ns∈Av h i ts,ns≠[]:=by
 induction ts generalizing i with
 | nil=>intro ns hn;cases hn
 | cons t r ih=>
  intro ns hn
  unfold Av at hn
  rcases List.mem_cons.mp hn with rfl | hn
  ·simp
  ·exact ih ns hn
theorem GN {h:Int}:∀ {i:Int} {ts:List Th} {ns:List Int},ns∈Av h i ts->∃ (k:Nat) (t:Th),ts[k]?=some t/\ns=[t.1,h,i+k]
 | i,[],ns,hn=>by cases hn
 | i,t::r,ns,hn=>by
  unfold Av at hn
  rcases List.mem_cons.mp hn with rfl | hn
  ·exact ⟨0,t,rfl,by simp⟩
  ·obtain ⟨k,u,h1,rfl⟩:=GN hn
   exact ⟨k+1,u,by simpa using h1,by congr 3;lia⟩
def BR:Int->List (List Th)->List (List Int)
 | _,[]=>[]
 | h,r::rs=>Av h 0 r++BR (h+1) rs
theorem Hn:∀ {h:Int} {rs:List (List Th)} (ns:List Int),ns∈BR h rs->ns≠[]
 | h,[],ns,hn=>by cases hn
 | h,r::rs,ns,hn=>by
  unfold BR at hn
  rcases List.mem_append.mp hn with hn | hn
  ·exact G6 ns hn
  ·exact Hn ns hn
theorem Hr:∀ {h:Int} {rs:List (List Th)} {ns:List Int},ns∈BR h rs->∃ (j k:Nat) (r:List Th) (t:Th),rs[j]?=some r/\r[k]?=some t/\ns=[t.1,h+j,(k:Int)]
 | h,[],ns,hn=>by cases hn
 | h,r::rs,ns,hn=>by
  unfold BR at hn
  rcases List.mem_append.mp hn with hn | hn
  ·obtain ⟨k,t,h1,rfl⟩:=GN hn
   exact ⟨0,k,r,t,rfl,h1,by simp⟩
  ·obtain ⟨j,k,r',t,h1,h2,rfl⟩:=Hr hn
   exact ⟨j+1,k,r',t,by simpa using h1,h2,by congr 2;lia⟩
def total (rs:List (List Th)):Nat:=(rs.map List.length).sum
theorem LR:∀ (h:Int) (rs:List (List Th)),(BR h rs).length=total rs
 | _,[]=>rfl
 | h,r::rs=>by unfold BR;rw[List.length_append,GE,LR];simp[total]
theorem Sz {ns:List Int} {r:List (List Int)}:intsOf ((ns::r).map tupI)=none:=rfl
theorem Lh {Γ:Gm} {nss:List (List Int)} (hn:∀ ns∈nss,ns≠[]) {x:SV} (hx:elems Γ x=some (nss.map tupI)):CA Γ [x]=some ((A6 nss).map tupI):=by
 unfold CA
 simp only[hx,Option.bind_some]
 cases nss with
 | nil=>rfl
 | cons ns r=>
  rw[Sz]
  simp only
  rw[LA hn]
  rfl
def GY:MDF:=BW 2 Ii
theorem Kx {α:Type} (f:α->D) (xs:List α):(B6 0 (xs.map f)).length=xs.length:=by rw[Fg,List.length_map]
theorem S7 {Γ:Gm} {ts:List Th} {h:Int} (hz:ts.length<=big):GY [.v (AV ts),.v (.int h)] Γ=some ((A6 (Av h 0 ts)).map tupI,Γ):=by
 have b3:(3:Nat)<=big:=by decide
 obtain ⟨ys,τ2,Γ2,e2,a2,hΓ,_⟩:=Gx (g:=Cw [0,1]) (t:=mTT) (e:=A4 (AB (mOp gIx (AA 1) (mC (.int 0))) (AB (AA 2) (AB (AA 0) AC)))) (items:=B6 0 (ts.map thD))
  (fun i acc τ Γi=>acc=((Av h 0 ts).take i).map tupI/\Γi=Γ/\∃ a b,τ=[a,b,some (.v (.int h))]) (by
   rintro i d acc τ Γi hd ⟨rfl,hΓ,a,b,rfl⟩
   subst Γi
   obtain ⟨x,hx,rfl⟩:=LK 0 _ i d hd
   obtain ⟨t,ht,rfl⟩:=RC hx
   refine ⟨⟨[some (.v (.int (0+i))),some (.v (thD t)),some (.v (.int h))],Γ,Γ.length⟩,_,rfl,rfl,.inl ⟨rfl,tupI [t.1,h,0+i],⟨[some (.v (.int (0+i))),some (.v (thD t)),some (.v (.int h))],Γ,Γ.length⟩,?_,rfl,?_,rfl,_,_,rfl⟩⟩
   ·simp[thD,at0,b3,tupI]
   ·rw[List.take_add_one,Ho h 0 ts i t ht]
    simp) (τ:=[none,none,some (.v (.int h))]) (Γ:=Γ) ⟨rfl,rfl,none,none,rfl⟩
 rw[Kx,<-GE h 0 ts,List.take_length] at a2
 subst a2
 rw[hΓ] at e2
 have hl:(B6 0 (ts.map thD)).length<=big:=by rw[Kx];exact hz
 have tk:Γ.take Γ.length=Γ:=List.take_length
 have hs:=Lh (Γ:=Γ) (x:=.v (.lst ((Av h 0 ts).map tupI))) (G6 (h:=h) (i:=0) (ts:=ts)) rfl
 unfold GY BW Ii
 simp only[CO,Au,AB,AE,AN,Dm,AA,AC,Da,AV]
 simp[hl,Dj,e2,hs,tk,-CA]
theorem PX {rs:List (List Th)} {r:List Th} (h:r∈rs):r.length<=total rs:=by
 induction rs with
 | nil=>cases h
 | cons c rs ih=>
  rcases List.mem_cons.mp h with rfl | h
  ·simp[total]
  ·have:=ih h
   simp[total] at *
   lia
def Bs (rs:List (List Th)):List Int->Th
 | [_,h,p]=>((rs[h.toNat]?).bind (·[p.toNat]?)).getD (0,"")
 | _=>(0,"")
theorem K3 {rs:List (List Th)} {ns:List Int} (h:ns∈BR 0 rs):∃ (j k:Nat) (r:List Th) (t:Th),rs[j]?=some r/\r[k]?=some t/\ns=[t.1,(j:Int),(k:Int)]:=by
 obtain ⟨j,k,r,t,h1,h2,rfl⟩:=Hr h
 exact ⟨j,k,r,t,h1,h2,by simp⟩
theorem JS {rs:List (List Th)} {j k:Nat} {r:List Th} {t:Th} {x:Int} (h1:rs[j]?=some r) (h2:r[k]?=some t):Bs rs [x,(j:Int),(k:Int)]=t:=by unfold Bs;simp[h1,h2]
theorem LI (h:Int):∀ (i:Int) (ts:List Th),(Av h i ts).Nodup
 | _,[]=>List.nodup_nil
 | i,t::r=>by
  unfold Av
  refine List.nodup_cons.mpr ⟨fun hm=>?_,LI h (i+1) r⟩
  obtain ⟨k,u,_,e⟩:=GN hm
  simp at e
  lia
theorem Ja:∀ (h:Int) (rs:List (List Th)),(BR h rs).Nodup
 | _,[]=>List.nodup_nil
 | h,r::rs=>by
  unfold BR
  refine List.nodup_append.mpr ⟨LI h 0 r,Ja (h+1) rs,fun x hx y hy e=>?_⟩
  subst e
  obtain ⟨k,u,_,rfl⟩:=GN hx
  obtain ⟨j,k',r',u',_,_,e⟩:=Hr hy
  simp at e
  lia
abbrev Nam:=List Int
def szL (left:List (List Nam)):Nat:=left.flatten.length
def mid (l:List Nam):Nam:=l.getD (l.length / 2) []
def DX (left:List (List Nam)):List (List Nam):=left.filter fun l=>!l.isEmpty
def Ax (left:List (List Nam)):List Nam:=(DX left).map mid
def AY (left:List (List Nam)):Nam:=mid (A6 (Ax left))
def loF (p:Nam) (l:List Nam):List Nam:=l.filter fun x=>HT.lexLt x p
def hiF (p:Nam) (l:List Nam):List Nam:=l.filter fun x=>HT.lexLt p x
def loL (p:Nam) (left:List (List Nam)):List (List Nam):=left.map (loF p)
def hiL (p:Nam) (left:List (List Nam)):List (List Nam):=left.map (hiF p)
def A3 (left:List (List Nam)) (p:Nam):Nat:=(left.map fun l=>(loF p l).length).sum
def Bz:Nat->List (List Nam)->Nat->Nat->Option (Nam×Nat)
 | 0,_,_,_=>none
 | n+1,left,due,r=>
  if due=A3 left (AY left) then some (AY left,r+1)
  else if due<A3 left (AY left) then Bz n (loL (AY left) left) due (r+1)
  else Bz n (hiL (AY left) left) (due - (A3 left (AY left)+1)) (r+1)
theorem JJ (left:List (List Nam)) (p:Nam):A3 left p=szL (loL p left):=by
 unfold A3 szL loL
 rw[List.length_flatten,List.map_map]
 rfl
theorem Dv (p:Nam) (left:List (List Nam)):(loL p left).flatten=loF p left.flatten:=by
 unfold loL loF
 rw[List.filter_flatten]
theorem D7 (p:Nam) (left:List (List Nam)):(hiL p left).flatten=hiF p left.flatten:=by
 unfold hiL hiF
 rw[List.filter_flatten]
theorem Jh {l:List Nam} (h:l≠[]):mid l∈l:=by
 have hl:0<l.length:=List.length_pos_iff.mpr h
 unfold mid
 rw[List.getD_eq_getElem?_getD,List.getElem?_eq_getElem (by lia)]
 exact List.getElem_mem _
theorem Rn {left:List (List Nam)} {l:List Nam} (h:l∈DX left):l∈left/\l≠[]:=by
 obtain ⟨h1,h2⟩:=List.mem_filter.mp h
 exact ⟨h1,fun e=>by subst e;simp at h2⟩
theorem Hm {left:List (List Nam)} {x:Nam} (h:x∈Ax left):x∈left.flatten:=by
 obtain ⟨l,hl,rfl⟩:=List.mem_map.mp h
 obtain ⟨h1,h2⟩:=Rn hl
 exact List.mem_flatten.mpr ⟨l,h1,Jh h2⟩
theorem HX {left:List (List Nam)} (h:0<szL left):Ax left≠[]:=by
 intro e
 have:DX left=[]:=List.map_eq_nil_iff.mp e
 have all:∀ l∈left,l=[]:=fun l hl=>by
  have:=List.filter_eq_nil_iff.mp this l hl
  simpa using this
 have:left.flatten=[]:=List.flatten_eq_nil_iff.mpr all
 unfold szL at h
 rw[this] at h
 cases h
theorem G3 {l:List Nam} (h:l≠[]):A6 l≠[]:=fun e=>by
 have:=(El l).length_eq
 rw[e] at this
 exact h (List.length_eq_zero_iff.mp this.symm)
theorem LY {left:List (List Nam)} (h:0<szL left):AY left∈left.flatten:=
 Hm ((El _).mem_iff.mp (Jh (G3 (HX h))))
theorem three {p:Nam}:∀ {L:List Nam},L.Nodup->p∈L->(loF p L).length+1+(hiF p L).length=L.length:=by
 have none_:∀ {L:List Nam},p∉L->(loF p L).length+(hiF p L).length=L.length:=by
  intro L
  induction L with
  | nil=>intro _;rfl
  | cons x L ih=>
   intro h
   have hx:x≠p:=fun e=>h (by rw[e];exact List.mem_cons_self)
   have:=ih fun e=>h (List.mem_cons_of_mem _ e)
   unfold loF hiF at *
   cases c:HT.lexLt x p with
   | true=>
    have c2:=EvS.EZ c
    simp only[List.filter_cons,c,c2,if_true,if_false,Bool.false_eq_true,List.length_cons]
    lia
   | false=>
    cases c2:HT.lexLt p x with
    | true=>
     simp only[List.filter_cons,c,c2,if_true,if_false,Bool.false_eq_true,List.length_cons]
     lia
    | false=>exact absurd (EvS.Fb c2 c) hx
 intro L
 induction L with
 | nil=>intro _ h;cases h
 | cons x L ih=>
  intro nd h
  obtain ⟨n1,n2⟩:=List.nodup_cons.mp nd
  by_cases e:x=p
  ·subst e
   have:=none_ n1
   have r:=EvS.Jj x
   unfold loF hiF at *
   simp only[List.filter_cons,r,if_false,Bool.false_eq_true,List.length_cons]
   lia
  ·have hm:p∈L:=by
    rcases List.mem_cons.mp h with h | h
    ·exact absurd h.symm e
    ·exact h
   have:=ih n2 hm
   unfold loF hiF at *
   cases c:HT.lexLt x p with
   | true=>
    have c2:=EvS.EZ c
    simp only[List.filter_cons,c,c2,if_true,if_false,Bool.false_eq_true,List.length_cons]
    lia
   | false=>
    cases c2:HT.lexLt p x with
    | true=>
     simp only[List.filter_cons,c,c2,if_true,if_false,Bool.false_eq_true,List.length_cons]
     lia
    | false=>exact absurd (EvS.Fb c2 c) e
def Ae:Int->List (List Th)->List (List Nam)
 | _,[]=>[]
 | h,r::rs=>A6 (Av h 0 r)::Ae (h+1) rs
theorem FZ:∀ (h:Int) (rs:List (List Th)),(Ae h rs).flatten.Perm (BR h rs)
 | _,[]=>.refl _
 | h,r::rs=>by
  show (A6 (Av h 0 r)++(Ae (h+1) rs).flatten).Perm _
  exact (El _).append (FZ (h+1) rs)
theorem EK (rs:List (List Th)):szL (Ae 0 rs)=total rs:=(FZ 0 rs).length_eq.trans (LR 0 rs)
theorem L5 (rs:List (List Th)):(Ae 0 rs).flatten.Nodup:=(FZ 0 rs).nodup_iff.mpr (Ja 0 rs)
theorem M6 {rs:List (List Th)} {x:Nam} (h:x∈(Ae 0 rs).flatten):x∈BR 0 rs:=(FZ 0 rs).mem_iff.mp h
def AQ (l:List Nam):D:=.lst (l.map tupI)
def Ce (left:List (List Nam)):D:=.lst (left.map AQ)
theorem Ko {g g':Gm->SV->SV->Option D} {a b c:ME} {s s1 s2 s3:DS} {x y w:SV} {d:D} (h1:a s=some (x,s1)) (h2:b s1=some (y,s2)) (h3:g s2.Γ x y=some (.bl true)) (h4:c s2=some (w,s3)) (h5:g' s3.Γ y w=some d):Bt g g' a b c s=some (.v d,s3):=by
 unfold Bt
 rw[h1]
 show (b s1).bind _=_
 rw[h2]
 show (g s2.Γ x y).bind _=_
 rw[h3]
 show (c s2).bind _=_
 rw[h4]
 show (g' s3.Γ y w).map _=_
 rw[h5]
 rfl
def DH:MD:=mFn 1 IM
theorem Jm {i:Int} {Γ:Gm}:DH [.v (.int i)] Γ=some (.bl true,Γ):=by
 have tk:Γ.take Γ.length=Γ:=List.take_length
 simp[DH,IM,tk]
theorem Sj {τ:List (Option SV)} (h:τ.length=1):∃ v,τ=[v]:=by
 match τ,h with
 | [v],_=>exact ⟨v,rfl⟩
theorem Gp {g:Gm->SV->SV->Option D} {q:Nam->Bool} {p:Nam} {Γ:Gm} (hg:∀ x:Nam,g Γ (.v (tupI x)) (.v (tupI p))=some (.bl (q x))) (l:List Nam) (v:Option SV):Aq (AF 0) (AK (mOp g (AA 0) (AA 1))) (AA 0) (l.map tupI) [v,some (.v (tupI p))] Γ=some ((l.filter q).map tupI,Γ):=by
 induction l generalizing v with
 | nil=>rfl
 | cons x l ih=>
  have t:AK (mOp g (AA 0) (AA 1)) ⟨[some (.v (tupI x)),some (.v (tupI p))],Γ,Γ.length⟩=some (q x,⟨[some (.v (tupI x)),some (.v (tupI p))],Γ,Γ.length⟩):=B8 (Ac (x:=.v (tupI x)) (y:=.v (tupI p)) (s2:=⟨[some (.v (tupI x)),some (.v (tupI p))],Γ,Γ.length⟩) rfl rfl (hg x))
  have i:=ih (some (.v (tupI x)))
  rw[List.map_cons]
  unfold Aq
  simp only[AF,Option.bind_some,List.set_cons_zero,t]
  cases c:q x with
  | true=>
   rw[List.filter_cons_of_pos c]
   simp only[if_true,AA,List.getElem?_cons_zero,Option.bind_some,i,Option.map_some,List.map_cons]
  | false=>
   rw[List.filter_cons_of_neg (by rw[c];decide)]
   simp only[Bool.false_eq_true,if_false,if_true,i]
theorem Fo {Γ:Gm} {x p:Nam}:Af Γ (.v (tupI x)) (.v (tupI p))=some (.bl (HT.lexLt x p)):=by simp[tupI,C4]
theorem Ke {Γ:Gm} {x p:Nam}:B9 Γ (.v (tupI x)) (.v (tupI p))=some (.bl (HT.lexLt p x)):=by simp[tupI,C4]
def Mcb:MD:=mFn 2 HJ
theorem Qr {l:List Nam} {p:Nam} {Γ:Gm} (hl:l.length<=big):Mcb [.v (AQ l),.v (tupI p)] Γ=some (.int (loF p l).length,Γ):=by
 have tk:Γ.take Γ.length=Γ:=List.take_length
 let S:DS:=⟨[some (.v (AQ l)),some (.v (tupI p))],Γ,Γ.length⟩
 have e:=Gp (g:=Af) (q:=fun x=>HT.lexLt x p) (p:=p) (Γ:=Γ) (fun x=>Fo) l none
 have q:AE (AN (AO (AA 0)) 1 [1] (AF 0) (AK (mOp Af (AA 0) (AA 1))) (AA 0)) S=some (.v (AQ (loF p l)),S):=A8 (Bd (s':=S) (items:=l.map tupI) rfl (by rw[List.length_map];exact hl) e)
 unfold Mcb mFn HJ
 show (As (AH AX (AB (AE (AN (AO (AA 0)) 1 [1] (AF 0) (AK (mOp Af (AA 0) (AA 1))) (AA 0))) AC)) S).bind _=_
 rw[EC (Ca q (z:=.int (loF p l).length) (by show some (D.int (((loF p l).map tupI).length:Nat))=_;rw[List.length_map]))]
 show some (_,Γ.take Γ.length)=_
 rw[tk]
theorem Su {rs:List (List Th)} {Γ:Gm} (τ:List (Option SV)) (hτ:τ.length=1):Aq (AF 0) mTT (AH AX (AB (AA 0) AC)) (rs.map AV) τ Γ=some ((rs.map fun r=>(r.length:Int)).map .int,Γ):=by
 induction rs generalizing τ with
 | nil=>rfl
 | cons r rs ih=>
  obtain ⟨v,rfl⟩:=Sj hτ
  have:=ih [some (.v (AV r))] rfl
  rw[List.map_cons,List.map_cons,List.map_cons]
  have ec:AH AX (AB (AA 0) AC) ⟨[some (.v (AV r))],Γ,Γ.length⟩=some (.v (.int r.length),⟨[some (.v (AV r))],Γ,Γ.length⟩):=by simp[AV]
  unfold Aq
  simp only[AF,Option.bind_some,List.set_cons_zero,mTT,if_true,ec,this,Option.map_some]
theorem TZ (rs:List (List Th)):(rs.map fun r=>(r.length:Int)).sum=(total rs:Int):=by
 induction rs with
 | nil=>rfl
 | cons r rs ih=>rw[List.map_cons,List.sum_cons,ih];simp[total]
theorem IA {i:Nat} {rs:List (List Th)} {s:DS} (h:s.σ[i]?=some (some (.v (AW rs)))) (hn:rs.length<=big):AH BJ (AB (AE (AN (AO (AA i)) 1 [] (AF 0) mTT (AH AX (AB (AA 0) AC)))) AC) s=some (.v (.int (total rs)),s):=by
 have q:AO (AA i) s=some (rs.map AV,s):=by unfold AO AA;rw[h];rfl
 have e:=Su (rs:=rs) (Γ:=s.Γ) [none] rfl
 exact Ca (A8 (Bd q (by rw[List.length_map];exact hn) e)) (by simp only[BJ,elems,C4,TZ,Option.map_some])
def GH:MD:=mFn 2 (Hw DH)
theorem Rl {rs:List (List Th)} {k:Nat} {Γ:Gm} (hn:rs.length<=big) (hk:k<total rs):GH [.v (AW rs),.v (.int k)] Γ=some (.non,Γ):=by
 have tk:Γ.take Γ.length=Γ:=List.take_length
 let S:DS:=⟨[some (.v (AW rs)),some (.v (.int k))],Γ,Γ.length⟩
 have q1:AJ DH (AB (AA 1) AC) S=some (.v (.bl true),S):=Bq (s':=S) (x:=.v (.int k)) rfl Jm
 have q2:AH BJ (AB (AE (AN (AO (AA 0)) 1 [] (AF 0) mTT (AH AX (AB (AA 0) AC)))) AC) S=some (.v (.int (total rs)),S):=IA rfl hn
 have c1:(0:Int)<=(k:Int):=by lia
 have c2:(k:Int)<(total rs:Int):=by lia
 have q3:Bt Cq Af (mC (.int 0)) (AA 1) (AH BJ (AB (AE (AN (AO (AA 0)) 1 [] (AF 0) mTT (AH AX (AB (AA 0) AC)))) AC)) S=some (.v (.bl true),S):=by
  exact Ko (x:=.v (.int 0)) (y:=.v (.int k)) (s1:=S) (s2:=S) rfl rfl (by show some (D.bl (decide ((0:Int)<=(k:Int))))=_;rw[decide_eq_true c1]) q2 (by show some (D.bl (decide ((k:Int)<(total rs:Int))))=_;rw[decide_eq_true c2])
 have q4:mOr (A7 (Ak (AJ DH (AB (AA 1) AC)))) (A7 (AK (Bt Cq Af (mC (.int 0)) (AA 1) (AH BJ (AB (AE (AN (AO (AA 0)) 1 [] (AF 0) mTT (AH AX (AB (AA 0) AC)))) AC))))) S=some (false,S):=by
  unfold mOr A7 Ak
  rw[q1]
  simp only[Option.bind_some,Ec,Option.map_some,Bool.not_true,Bool.false_eq_true,if_false,B8 q3]
 unfold GH mFn Hw
 show (mIf _ _ _ S).bind _=_
 rw[B7 q4]
 show some (D.non,Γ.take Γ.length)=_
 rw[tk]
def GZ:MD:=mFn 1 Gu
theorem Ta {l:List Nam} {Γ:Gm} (h:l≠[]):GZ [.v (AQ l)] Γ=some (tupI (mid l),Γ):=by
 have tk:Γ.take Γ.length=Γ:=List.take_length
 have hl:0<l.length:=List.length_pos_iff.mpr h
 let S:DS:=⟨[some (.v (AQ l))],Γ,Γ.length⟩
 have q1:AH AX (AB (AA 0) AC) S=some (.v (.int l.length),S):=Ca (s':=S) (x:=.v (AQ l)) rfl (by show some (D.int ((l.map tupI).length:Nat))=_;rw[List.length_map])
 have gen:∀ j:Int,Az S.Γ (.v (.int j)) (.v (.int 2))=some (.int (j / 2)):=fun j=>by simp[show ∀ i:Int,Dn i 2=true from fun _=>rfl]
 have q2:mOp Az (AH AX (AB (AA 0) AC)) (mC (.int 2)) S=some (.v (.int ((l.length / 2:Nat):Int)),S):=Ac q1 rfl ((gen _).trans (by congr 2))
 have q3:mOp gIx (AA 0) (mOp Az (AH AX (AB (AA 0) AC)) (mC (.int 2))) S=some (.v (tupI (mid l)),S):=by
  refine Ac (x:=.v (AQ l)) (s1:=S) rfl q2 ?_
  show atI (l.map tupI) ((l.length / 2:Nat):Int)=_
  refine Ck ?_
  unfold mid
  rw[List.getD_eq_getElem?_getD,List.getElem?_eq_getElem (by lia)]
  rfl
 unfold GZ mFn Gu
 show (As (mOp gIx (AA 0) (mOp Az (AH AX (AB (AA 0) AC)) (mC (.int 2)))) S).bind _=_
 rw[EC q3]
 show some (_,Γ.take Γ.length)=_
 rw[tk]
def Hv:MD:=mFn 1 (FT GZ)
theorem Pj {Mm:MD} {Γ:Gm} (F:∀ {l:List Nam},l≠[]->Mm [.v (AQ l)] Γ=some (tupI (mid l),Γ)) (left:List (List Nam)) (v:Option SV):Aq (AF 0) (Ak (AA 0)) (AJ Mm (AB (AA 0) AC)) (left.map AQ) [v] Γ=some ((Ax left).map tupI,Γ):=by
 induction left generalizing v with
 | nil=>rfl
 | cons l left ih=>
  have i:=ih (some (.v (AQ l)))
  have t:Ak (AA 0) ⟨[some (.v (AQ l))],Γ,Γ.length⟩=some (!l.isEmpty,⟨[some (.v (AQ l))],Γ,Γ.length⟩):=by
   cases l<;>rfl
  rw[List.map_cons]
  unfold Aq
  simp only[AF,Option.bind_some,List.set_cons_zero,t]
  cases l with
  | nil=>
   have:Ax ([]::left)=Ax left:=by unfold Ax DX;simp
   rw[this]
   simp only[List.isEmpty_nil,Bool.not_true,Bool.false_eq_true,if_false,if_true,i]
  | cons x l=>
   have:Ax ((x::l)::left)=mid (x::l)::Ax left:=by unfold Ax DX;simp
   rw[this]
   have e:=F (l:=x::l) (by simp)
   have q:AJ Mm (AB (AA 0) AC) ⟨[some (.v (AQ (x::l)))],Γ,Γ.length⟩=some (.v (tupI (mid (x::l))),⟨[some (.v (AQ (x::l)))],Γ,Γ.length⟩):=Bq (s':=⟨[some (.v (AQ (x::l)))],Γ,Γ.length⟩) (x:=.v (AQ (x::l))) rfl e
   simp only[List.isEmpty_cons,Bool.not_false,if_true,q,Option.bind_some,i,Option.map_some,List.map_cons]
theorem IE {Γ:Gm} {nss:List (List Int)} (hn:∀ ns∈nss,ns≠[]) {x:SV} (hx:elems Γ x=some (nss.map tupI)):BF Γ [x]=some ((A6 nss).map tupI):=by
 unfold BF
 rw[Lh hn hx]
theorem OA {Mm:MD} {Γ:Gm} (F:∀ {l:List Nam} {Γ:Gm},l≠[]->Mm [.v (AQ l)] Γ=some (tupI (mid l),Γ)) {left:List (List Nam)} (h:0<szL left) (hne:∀ x∈left.flatten,x≠[]) (hl:left.length<=big):mFn 1 (FT Mm) [.v (Ce left)] Γ=some (tupI (AY left),Γ):=by
 have tk:Γ.take Γ.length=Γ:=List.take_length
 let S:DS:=⟨[some (.v (Ce left))],Γ,Γ.length⟩
 have e:=Pj (Mm:=Mm) (Γ:=Γ) (fun h=>F h) left none
 have q1:AE (AN (AO (AA 0)) 1 [] (AF 0) (Ak (AA 0)) (AJ Mm (AB (AA 0) AC))) S=some (.v (.lst ((Ax left).map tupI)),S):=A8 (Bd (s':=S) (items:=left.map AQ) rfl (by rw[List.length_map];exact hl) e)
 have q2:Au BF (AB (AE (AN (AO (AA 0)) 1 [] (AF 0) (Ak (AA 0)) (AJ Mm (AB (AA 0) AC)))) AC) S=some ((A6 (Ax left)).map tupI,S):=by
  unfold Au
  rw[show AB (AE (AN (AO (AA 0)) 1 [] (AF 0) (Ak (AA 0)) (AJ Mm (AB (AA 0) AC)))) AC S=some ([.v (.lst ((Ax left).map tupI))],S) by unfold AB AC;unfold AB AC at q1;rw[q1];rfl,Option.bind_some]
  rw[IE (fun x hx=>hne x (Hm hx)) rfl]
  rfl
 have q3:AJ Mm (AB (AE (Au BF (AB (AE (AN (AO (AA 0)) 1 [] (AF 0) (Ak (AA 0)) (AJ Mm (AB (AA 0) AC)))) AC))) AC) S=some (.v (tupI (AY left)),S):=Bq (A8 q2) (F (G3 (HX h)))
 unfold mFn FT
 show (As _ S).bind _=_
 rw[EC q3]
 show some (_,Γ.take Γ.length)=_
 rw[tk]
theorem Sb {Γ:Gm} {left:List (List Nam)} (h:0<szL left) (hne:∀ x∈left.flatten,x≠[]) (hl:left.length<=big):Hv [.v (Ce left)] Γ=some (tupI (AY left),Γ):=OA Ta h hne hl
structure FactsK (Mc:MD) (Mn:MDF) (Mp Mb:MD):Prop where
 check:∀ {rs:List (List Th)} {k:Nat} {Γ:Gm},rs.length<=big->k<total rs->Mc [.v (AW rs),.v (.int k)] Γ=some (.non,Γ)
 noh:∀ {Γ:Gm} {ts:List Th} {h:Int},ts.length<=big->Mn [.v (AV ts),.v (.int h)] Γ=some ((A6 (Av h 0 ts)).map tupI,Γ)
 post:∀ {Γ:Gm} {left:List (List Nam)},0<szL left->(∀ x∈left.flatten,x≠[])->left.length<=big->Mp [.v (Ce left)] Γ=some (tupI (AY left),Γ)
 below:∀ {l:List Nam} {p:Nam} {Γ:Gm},l.length<=big->Mb [.v (AQ l),.v (tupI p)] Γ=some (.int (loF p l).length,Γ)
section
variable (rs:List (List Th)) (k:Nat) (Γ:Gm) {Mc:MD} {Mn:MDF} {Mp Mb:MD} (F:FactsK Mc Mn Mp Mb)
def sK (left:List (List Nam)) (due r:Nat) (v5 v6:Option SV):DS:=⟨[some (.v (AW rs)),some (.v (.int k)),some (.v (Ce left)),some (.v (.int due)),some (.v (.int r)),v5,v6],Γ,Γ.length⟩
include F
theorem RA {p:Nam} (left:List (List Nam)) (hl:∀ l∈left,l.length<=big) (v:Option SV):Aq (AF 0) mTT (AJ Mb (AB (AA 0) (AB (AA 1) AC))) (left.map AQ) [v,some (.v (tupI p))] Γ=some ((left.map fun l=>((loF p l).length:Int)).map .int,Γ):=by
 induction left generalizing v with
 | nil=>rfl
 | cons l left ih=>
  have i:=ih (fun q hq=>hl q (List.mem_cons_of_mem _ hq)) (some (.v (AQ l)))
  have e:=F.below (l:=l) (p:=p) (Γ:=Γ) (hl l List.mem_cons_self)
  have q:AJ Mb (AB (AA 0) (AB (AA 1) AC)) ⟨[some (.v (AQ l)),some (.v (tupI p))],Γ,Γ.length⟩=some (.v (.int (loF p l).length),⟨[some (.v (AQ l)),some (.v (tupI p))],Γ,Γ.length⟩):=Cs (s2:=⟨[some (.v (AQ l)),some (.v (tupI p))],Γ,Γ.length⟩) rfl rfl e
  rw[List.map_cons,List.map_cons,List.map_cons]
  unfold Aq
  simp only[AF,Option.bind_some,List.set_cons_zero,mTT,if_true,q,i,Option.map_some]
omit F in
theorem Mg (left:List (List Nam)) (p:Nam):(left.map fun l=>((loF p l).length:Int)).sum=(A3 left p:Int):=by
 unfold A3
 induction left with
 | nil=>rfl
 | cons l left ih=>rw[List.map_cons,List.map_cons,List.sum_cons,List.sum_cons,ih];simp
omit F in
theorem FS {g:Gm->SV->SV->Option D} {q:Nam->Bool} {p:Nam} (hg:∀ x:Nam,g Γ (.v (tupI x)) (.v (tupI p))=some (.bl (q x))) (left:List (List Nam)) (hl:∀ l∈left,l.length<=big) (v:Option SV) :
  Aq (AF 0) mTT (AE (AN (AO (AA 0)) 1 [1] (AF 0) (AK (mOp g (AA 0) (AA 1))) (AA 0))) (left.map AQ) [v,some (.v (tupI p))] Γ=some ((left.map fun l=>l.filter q).map AQ,Γ):=by
 induction left generalizing v with
 | nil=>rfl
 | cons l left ih=>
  have i:=ih (fun q hq=>hl q (List.mem_cons_of_mem _ hq)) (some (.v (AQ l)))
  have e:=Gp (g:=g) (q:=q) (p:=p) (Γ:=Γ) hg l none
  have w:AE (AN (AO (AA 0)) 1 [1] (AF 0) (AK (mOp g (AA 0) (AA 1))) (AA 0)) ⟨[some (.v (AQ l)),some (.v (tupI p))],Γ,Γ.length⟩=some (.v (AQ (l.filter q)),⟨[some (.v (AQ l)),some (.v (tupI p))],Γ,Γ.length⟩):=A8 (Bd (s':=⟨[some (.v (AQ l)),some (.v (tupI p))],Γ,Γ.length⟩) (items:=l.map tupI) rfl (by rw[List.length_map];exact hl l List.mem_cons_self) e)
  rw[List.map_cons,List.map_cons,List.map_cons]
  unfold Aq
  simp only[AF,Option.bind_some,List.set_cons_zero,mTT,if_true,w,i,Option.map_some]
omit F in
theorem KN {left:List (List Nam)} {l:List Nam} (h:l∈left):l.length<=szL left:=by
 unfold szL
 rw[List.length_flatten]
 induction left with
 | nil=>cases h
 | cons c left ih=>
  rw[List.map_cons,List.sum_cons]
  rcases List.mem_cons.mp h with rfl | h
  ·lia
  ·have:=ih h;lia
theorem Sd:∀ (n:Nat) (left:List (List Nam)) (due r:Nat) (v5 v6:Option SV),left.flatten.Nodup->due<szL left->szL left<=n->(∀ x∈left.flatten,x∈BR 0 rs)->left.length<=1000->szL left<=100000 ->
  ∃ p r' s',Bz n left due r=some (p,r')/\p∈BR 0 rs/\BL (Ea Mc Mn Mp Mb) (C5 Mc Mn Mp Mb) n (sK rs k Γ left due r v5 v6)=some (.rt (.tup [thD (Bs rs p),.int (r':Nat)]) s')/\s'.Γ=Γ:=by
 intro n
 induction n with
 | zero=>intro left due r v5 v6 _ h1 h2;lia
 | succ n ih=>
  intro left due r v5 v6 nd hd hn hsub hll hsz
  have hp:=LY (left:=left) (by lia)
  have ht:=three nd hp
  have e1:=JJ left (AY left)
  have e2:szL (loL (AY left) left)=(loF (AY left) left.flatten).length:=by unfold szL;rw[Dv]
  have e3:szL (hiL (AY left) left)=(hiF (AY left) left.flatten).length:=by unfold szL;rw[D7]
  have e4:szL left=left.flatten.length:=rfl
  have hbl:∀ l∈left,l.length<=big:=fun l hl=>by have:=KN hl;rw[Bj];lia
  have hlb:left.length<=big:=by rw[Bj];lia
  obtain ⟨j,i,row,t,h1,h2,ep⟩:=K3 (hsub _ hp)
  let P:Nam:=AY left
  let B:Nat:=A3 left P
  have t0:Ea Mc Mn Mp Mb (sK rs k Γ left due r v5 v6)=some (true,sK rs k Γ left due r v5 v6):=rfl
  have g1:DM 4 FY (mC (.int 1)) (sK rs k Γ left due r v5 v6)=some (.nx (sK rs k Γ left due (r+1) v5 v6)):=by
   show some (Out.nx _)=_
   simp[sK]
  have q5:=F.post (Γ:=Γ) (left:=left) (by lia) (fun x hx=>Hn x (hsub x hx)) hlb
  have g2:AM 5 (AJ Mp (AB (AA 2) AC)) (sK rs k Γ left due (r+1) v5 v6)=some (.nx (sK rs k Γ left due (r+1) (some (.v (tupI P))) v6)):=A2 (Bq (s':=sK rs k Γ left due (r+1) v5 v6) (x:=.v (Ce left)) rfl q5)
  have g3:AM 6 (AH BJ (AB (AE (AN (AO (AA 2)) 1 [5] (AF 0) mTT (AJ Mb (AB (AA 0) (AB (AA 1) AC))))) AC)) (sK rs k Γ left due (r+1) (some (.v (tupI P))) v6)=some (.nx (sK rs k Γ left due (r+1) (some (.v (tupI P))) (some (.v (.int B))))):=by
   have e:=RA Γ F (p:=P) left hbl none
   exact A2 (Ca (A8 (Bd (s':=sK rs k Γ left due (r+1) (some (.v (tupI P))) v6) (items:=left.map AQ) rfl (by rw[List.length_map];exact hlb) e)) (by simp only[BJ,elems,C4,Mg,Option.map_some,B]))
  let S:DS:=sK rs k Γ left due (r+1) (some (.v (tupI P))) (some (.v (.int B)))
  have t4:AK (mOp BI (AA 3) (AA 6)) S=some (decide ((due:Int)=(B:Int)),S):=B8 (Ac (x:=.v (.int due)) (y:=.v (.int B)) (s1:=S) (s2:=S) rfl rfl rfl)
  have t5:AK (mOp Af (AA 3) (AA 6)) S=some (decide ((due:Int)<(B:Int)),S):=B8 (Ac (x:=.v (.int due)) (y:=.v (.int B)) (s1:=S) (s2:=S) rfl rfl rfl)
  have body:C5 Mc Mn Mp Mb (sK rs k Γ left due r v5 v6)=AI (mIf (AK (mOp BI (AA 3) (AA 6))) (As (A4 (AB (mOp gIx (mOp gIx (AA 0) (mOp gIx (AA 5) (mC (.int 1)))) (mOp gIx (AA 5) (mC (.int 2)))) (AB (AA 4) AC)))) A9) (mIf (AK (mOp Af (AA 3) (AA 6))) (AM 2 (AE (AN (AO (AA 2)) 1 [5] (AF 0) mTT (AE (AN (AO (AA 0)) 1 [1] (AF 0) (AK (mOp Af (AA 0) (AA 1))) (AA 0)))))) (AI (AM 2 (AE (AN (AO (AA 2)) 1 [5] (AF 0) mTT (AE (AN (AO (AA 0)) 1 [1] (AF 0) (AK (mOp B9 (AA 0) (AA 1))) (AA 0)))))) (DM 3 A5 (mOp Ay (AA 6) (mC (.int 1)))))) S:=by
   unfold C5
   rw[Aa g1,Aa g2,Aa g3]
  have wrt:∀ {d:D} {s2:DS},C5 Mc Mn Mp Mb (sK rs k Γ left due r v5 v6)=some (.rt d s2)->BL (Ea Mc Mn Mp Mb) (C5 Mc Mn Mp Mb) (n+1) (sK rs k Γ left due r v5 v6)=some (.rt d s2):=fun {d s2} e=>by
   show (Ea Mc Mn Mp Mb _).bind _=_
   rw[t0]
   show (C5 Mc Mn Mp Mb _).bind _=_
   rw[e]
   rfl
  unfold Bz
  by_cases c1:due=A3 left (AY left)
  ·rw[if_pos c1]
   rw[decide_eq_true (by show (due:Int)=((A3 left (AY left):Nat):Int);lia)] at t4
   have a1:mOp gIx (AA 5) (mC (.int 1)) S=some (.v (.int j),S):=Ac (x:=.v (tupI P)) (y:=.v (.int 1)) (s1:=S) (s2:=S) rfl rfl (by show atI (P.map D.int) 1=_;show atI ((AY left).map D.int) 1=_;rw[ep];rfl)
   have a2:mOp gIx (AA 5) (mC (.int 2)) S=some (.v (.int i),S):=Ac (x:=.v (tupI P)) (y:=.v (.int 2)) (s1:=S) (s2:=S) rfl rfl (by show atI ((AY left).map D.int) 2=_;rw[ep];rfl)
   have a3:mOp gIx (AA 0) (mOp gIx (AA 5) (mC (.int 1))) S=some (.v (AV row),S):=Ac (x:=.v (AW rs)) (s1:=S) rfl a1 (Ck (f:=AV) h1)
   have a4:mOp gIx (mOp gIx (AA 0) (mOp gIx (AA 5) (mC (.int 1)))) (mOp gIx (AA 5) (mC (.int 2))) S=some (.v (thD t),S):=Ac a3 a2 (Ck (f:=thD) h2)
   have et:Bs rs (AY left)=t:=by rw[ep];exact JS h1 h2
   refine ⟨_,_,S,rfl,hsub _ hp,wrt ?_,rfl⟩
   rw[body,Gj ((DJ t4).trans (EC (Hf (y:=.int ((r+1:Nat):Int)) (s2:=S) a4 rfl))),et]
  ·rw[if_neg c1]
   rw[decide_eq_false (by show ¬(due:Int)=((A3 left (AY left):Nat):Int);lia)] at t4
   have sk:(mIf (AK (mOp BI (AA 3) (AA 6))) (As (A4 (AB (mOp gIx (mOp gIx (AA 0) (mOp gIx (AA 5) (mC (.int 1)))) (mOp gIx (AA 5) (mC (.int 2)))) (AB (AA 4) AC)))) A9) S=some (.nx S):=(B7 t4).trans rfl
   by_cases c2:due<A3 left (AY left)
   ·rw[if_pos c2]
    rw[decide_eq_true (by show (due:Int)<((A3 left (AY left):Nat):Int);lia)] at t5
    have e:=FS Γ (g:=Af) (q:=fun x=>HT.lexLt x P) (p:=P) (fun x=>Fo) left hbl none
    have g6:AM 2 (AE (AN (AO (AA 2)) 1 [5] (AF 0) mTT (AE (AN (AO (AA 0)) 1 [1] (AF 0) (AK (mOp Af (AA 0) (AA 1))) (AA 0))))) S=some (.nx (sK rs k Γ (loL P left) due (r+1) (some (.v (tupI P))) (some (.v (.int B))))):=A2 (A8 (Bd (s':=S) (items:=left.map AQ) rfl (by rw[List.length_map];exact hlb) e))
    have sub:∀ x∈(loL (AY left) left).flatten,x∈left.flatten:=fun x hx=>by rw[Dv] at hx;exact (List.mem_filter.mp hx).1
    obtain ⟨p,r',s',k1,k2,k3,k4⟩:=ih (loL (AY left) left) due (r+1) (some (.v (tupI P))) (some (.v (.int B))) (by rw[Dv];exact nd.sublist (List.filter_sublist ..)) (by lia) (by lia) (fun x hx=>hsub x (sub x hx)) (by unfold loL;rw[List.length_map];exact hll) (by lia)
    refine ⟨p,r',s',k1,k2,?_,k4⟩
    rw[Gd t0 (by rw[body,Aa sk,DJ t5];exact g6)]
    exact k3
   ·rw[if_neg c2]
    rw[decide_eq_false (by show ¬(due:Int)<((A3 left (AY left):Nat):Int);lia)] at t5
    have e:=FS Γ (g:=B9) (q:=fun x=>HT.lexLt P x) (p:=P) (fun x=>Ke) left hbl none
    have g6:AM 2 (AE (AN (AO (AA 2)) 1 [5] (AF 0) mTT (AE (AN (AO (AA 0)) 1 [1] (AF 0) (AK (mOp B9 (AA 0) (AA 1))) (AA 0))))) S=some (.nx (sK rs k Γ (hiL P left) due (r+1) (some (.v (tupI P))) (some (.v (.int B))))):=A2 (A8 (Bd (s':=S) (items:=left.map AQ) rfl (by rw[List.length_map];exact hlb) e))
    have g7:DM 3 A5 (mOp Ay (AA 6) (mC (.int 1))) (sK rs k Γ (hiL P left) due (r+1) (some (.v (tupI P))) (some (.v (.int B))))=some (.nx (sK rs k Γ (hiL P left) (due - (B+1)) (r+1) (some (.v (tupI P))) (some (.v (.int B))))):=by
     have ei:(due:Int) - ((B:Int)+1)=((due - (B+1):Nat):Int):=by
      have:A3 left (AY left)=B:=rfl
      lia
     show some (Out.nx _)=_
     simp only[sK,List.set_cons_succ,List.set_cons_zero,ei]
    have sub:∀ x∈(hiL (AY left) left).flatten,x∈left.flatten:=fun x hx=>by rw[D7] at hx;exact (List.mem_filter.mp hx).1
    obtain ⟨p,r',s',k1,k2,k3,k4⟩:=ih (hiL (AY left) left) (due - (A3 left (AY left)+1)) (r+1) (some (.v (tupI P))) (some (.v (.int B))) (by rw[D7];exact nd.sublist (List.filter_sublist ..)) (by lia) (by lia) (fun x hx=>hsub x (sub x hx)) (by unfold hiL;rw[List.length_map];exact hll) (by lia)
    refine ⟨p,r',s',k1,k2,?_,k4⟩
    rw[Gd t0 (by rw[body,Aa sk,B7 t5,Aa g6];exact g7)]
    exact k3
theorem Mq:∀ (rs:List (List Th)) (h:Int) (v w:Option SV),(∀ r∈rs,r.length<=big)->Aq (Cw [0,1]) mTT (AE (Bk Mn (AB (AA 1) (AB (AA 0) AC)))) (B6 h (rs.map AV)) [v,w] Γ=some ((Ae h rs).map AQ,Γ)
 | [],_,_,_,_=>rfl
 | r::rs,h,v,w,hb=>by
  have i:=Mq rs (h+1) (some (.v (.int h))) (some (.v (AV r))) fun q hq=>hb q (List.mem_cons_of_mem _ hq)
  have e:=F.noh (Γ:=Γ) (ts:=r) (h:=h) (hb r List.mem_cons_self)
  have q:AE (Bk Mn (AB (AA 1) (AB (AA 0) AC))) ⟨[some (.v (.int h)),some (.v (AV r))],Γ,Γ.length⟩=some (.v (AQ (A6 (Av h 0 r))),⟨[some (.v (.int h)),some (.v (AV r))],Γ,Γ.length⟩):=by
   simp[e,AQ]
  rw[List.map_cons]
  show Aq _ _ _ (.tup [.int h,AV r]::B6 (h+1) (rs.map AV)) _ _=_
  unfold Aq
  rw[show Cw [0,1] (.tup [.int h,AV r]) ⟨[v,w],Γ,Γ.length⟩=some ⟨[some (.v (.int h)),some (.v (AV r))],Γ,Γ.length⟩ from rfl]
  simp only[Option.bind_some,mTT,if_true,q,i,Option.map_some]
  rfl
theorem Pw (hn:rs.length<=100) (hz:total rs<=100000) (hk:k<total rs):∃ p r',Bz (total rs) (Ae 0 rs) k 0=some (p,r')/\p∈BR 0 rs/\mFn 7 (GF Mc Mn Mp Mb) [.v (AW rs),.v (.int k)] Γ=some (.tup [thD (Bs rs p),.int (r':Nat)],Γ):=by
 have tk:Γ.take Γ.length=Γ:=List.take_length
 have hnb:rs.length<=big:=by rw[Bj];lia
 have hll:(Ae 0 rs).length=rs.length:=by
  have:∀ (h:Int) (rs:List (List Th)),(Ae h rs).length=rs.length:=by
   intro h rs
   induction rs generalizing h with
   | nil=>rfl
   | cons r rs ih=>show (Ae (h+1) rs).length+1=_;rw[ih];rfl
  exact this 0 rs
 obtain ⟨p,r',s',k1,k2,k3,k4⟩:=Sd rs k Γ F (total rs) (Ae 0 rs) k 0 none none (L5 rs) (by rw[EK];exact hk) (by rw[EK];exact Nat.le_refl _) (fun x hx=>M6 hx) (by rw[hll];lia) (by rw[EK];exact hz)
 refine ⟨p,r',k1,k2,?_⟩
 have w:=LZ k3
 let S0:DS:=⟨[some (.v (AW rs)),some (.v (.int k)),none,none,none,none,none],Γ,Γ.length⟩
 have g1:CB (AJ Mc (AB (AA 0) (AB (AA 1) AC))) S0=some (.nx S0):=by
  unfold CB
  rw[Cs (s2:=S0) (x:=.v (AW rs)) (y:=.v (.int k)) rfl rfl (F.check (Γ:=Γ) hnb hk)]
  rfl
 have hb:∀ r∈rs,r.length<=big:=fun r hr=>by have:=PX hr;rw[Bj];lia
 have e:=Mq Γ F rs 0 none none hb
 have g2:AM 2 (AE (AN (Dm (AB (AA 0) AC)) 2 [] (Cw [0,1]) mTT (AE (Bk Mn (AB (AA 1) (AB (AA 0) AC)))))) S0=some (.nx ⟨[some (.v (AW rs)),some (.v (.int k)),some (.v (Ce (Ae 0 rs))),none,none,none,none],Γ,Γ.length⟩):=by
  have q:Dm (AB (AA 0) AC) S0=some (B6 0 (rs.map AV),S0):=rfl
  exact A2 (A8 (Bd q (by rw[Fg,List.length_map];exact hnb) e))
 unfold mFn GF
 show (AI _ _ S0).bind _=_
 rw[Aa g1,Aa g2,Aa (s1:=⟨[some (.v (AW rs)),some (.v (.int k)),some (.v (Ce (Ae 0 rs))),some (.v (.int k)),none,none,none],Γ,Γ.length⟩) rfl,Aa (s1:=sK rs k Γ (Ae 0 rs) k 0 none none) rfl,w]
 show some (_,s'.Γ.take Γ.length)=_
 rw[k4,tk]
end
def EV:MD:=mFn 7 (GF GH GY Hv Mcb)
theorem Sr {rs:List (List Th)} {k:Nat} {Γ:Gm} (hn:rs.length<=100) (hz:total rs<=100000) (hk:k<total rs):∃ p r',Bz (total rs) (Ae 0 rs) k 0=some (p,r')/\p∈BR 0 rs/\EV [.v (AW rs),.v (.int k)] Γ=some (.tup [thD (Bs rs p),.int (r':Nat)],Γ):=
 Pw rs k Γ ⟨Rl,S7,Sb,Qr⟩ hn hz hk
end DL
namespace Ev
open PySem
structure CalX (P:Program) (w:World) (K:PySem.W.Frag) (mg:Str->Option Value) (base:Heap) (x:Str) (lv:Nat) (f:Addr) (fd:FuncData) (ps:List Str) (sp:L2.Sp):Prop where
 G:L2.FnOk P w K mg base (XL.CXF P w) lv f fd ps sp
 b:L2.Binds K fd ps []
 k:PySem.W.keepIn K (.ref f)=true
 m:mg x=some (.ref f)
end Ev
namespace XL
open PySem PySem.Spec PyProof.Rows L2 Ev DL
abbrev MXs:=DS->Option DS
abbrev MX:=List SV->Gm->Option Gm
def tX (f:Fr) (m:MXs) (C:Addr) (E:XK):TS:=fun _ σ H=>∃ α s s1,RS f α s σ H/\s.lo<=s.Γ.length/\m s=some s1/\∀ α' σ' H',RS f α' s1 σ' H'->s1.lo=s.lo->Ext f α α' s.Γ s1.Γ H H'->E (.ref C) none H'
def teX (f:Fr) (m:MXs) (C:Addr) (E:XK):TE:=fun σ H _=>∃ α s s1,RS f α s σ H/\s.lo<=s.Γ.length/\m s=some s1/\∀ α' σ' H',RS f α' s1 σ' H'->s1.lo=s.lo->Ext f α α' s.Γ s1.Γ H H'->E (.ref C) none H'
def spX (K:PySem.W.Frag) (np:Nat) (C:Addr) (M:MX):Sp:=fun vs H _ E=>∃ (f:Fr) (α:Nat->Addr) (s:DS) (σ:L2.St) (ds:List SV) (Γ':Gm),f.K=K/\ds.length=np/\RS f α s σ H/\RepVs f α s.Γ H ds vs/\M ds s.Γ=some Γ' /\
 ∀ α' H',RS f α' {s with Γ:=Γ'} σ H'->Ext f α α' s.Γ Γ' H H'->E (.ref C) none H'
def MK:MXs:=fun s=>some s
def xIf (mc:MT) (a r:MXs):MXs:=fun s=>(mc s).bind fun x=>if x.1=true then a x.2 else r x.2
def Ep (M:MX) (ms:MA):MXs:=fun s=>(ms s).bind fun x=>(M x.1 x.2.Γ).map fun Γ'=>{x.2 with Γ:=Γ'}
def xNo:MXs:=fun _=>none
def xFn (n:Nat) (m:MXs):MX:=fun ds Γ=>(m ⟨Da n ds,Γ,Γ.length⟩).map fun s=>s.Γ.take Γ.length
section
variable {X:Cx} {f:Fr} {C:Addr} {E:XK} {pos:Pos}
theorem Qs {sts:List Stmt}:PSs X sts (tX f xNo C E):=PSs.imp G9 fun D σ H ⟨α,s,s1,_,_,e,_⟩=>by cases e
theorem x_raise {x:Str} {bmB:List Value} {B newId initId:String} {np cpos rpos p1:Pos} {j:Nat} {a:Str} {rest:List Stmt} {name:Str} {scope:Scope} {L fa:Addr} {cd:Value} (o:Own X) (hx:XeF X E) (henv:X.env=envOf name scope L fa cd) (hk:scope.kind=.function) (hc:X.calm=true)
  (hg:(envOf name scope L fa cd).kindOf x=some .globalImplicit) (hm:X.mg x=some (.ref C)) (hC:PySem.W.excIn X.K C bmB newId=true) (hB:ExcBaseFacts B newId initId bmB)
  (hs:starEach [.Constant (.str a) j p1] (envOf name scope L fa cd)=(false,eval (.Constant (.str a) j p1) (envOf name scope L fa cd))::starEach [] (envOf name scope L fa cd):=by rfl) (hdb:(x == ("__debug__":Str))=false:=by decide) :
  PSs X (.Raise (some (.Call (.Name x np) [.Constant (.str a) j p1] [] cpos)) none rpos::rest) (tX f MK C E):=
 PSs.imp (Dc (Pz o hx henv hk hc hg hm hC hB (BN KC CD) hs hdb) G9) fun D σ H hh_=>by
  obtain ⟨α,s,s1,rs,lo,e,q⟩:=hh_
  cases e
  exact ⟨(small (by decide):1<=sizeLine),q α σ H rs rfl .refl⟩
theorem QF {c:Expr} {mc:MT} {a rest:List Stmt} {ma mr:MXs} (hf:f.K=X.K) (hc:DT X c mc) (ha:PSs X a (tX f ma C E)) (hr:PSs X rest (tX f mr C E)):PSs X (.If c a [] pos::rest) (tX f (xIf mc ma mr) C E):=
 PSs.imp (Dc (JH (hc f hf) ha JP) hr) fun D σ H hh_=>by
  obtain ⟨α,s,s1,rs,lo,e,q⟩:=hh_
  obtain ⟨x,h1,h2⟩:=bind_some e
  refine ⟨α,s,x,rs,lo,h1,fun α' H' rs' l' x'=>?_⟩
  split at h2
  ·rename_i c1
   rw[c1]
   exact He ⟨α',x.2,s1,rs',lo_le lo l' x',h2,fun α2 σ2 H2 r2 l2 x2=>q α2 σ2 H2 r2 (l2.trans l') (x'.trans x2)⟩
  ·rename_i c1
   rw[Bool.eq_false_iff.mpr c1]
   exact QT ⟨α',x.2,s1,rs',lo_le lo l' x',h2,fun α2 σ2 H2 r2 l2 x2=>q α2 σ2 H2 r2 (l2.trans l') (x'.trans x2)⟩
theorem x_call {x:Str} {p:Pos} {e:Expr} {es:List Expr} {fa:Addr} {fd:FuncData} {ps:List Str} {k np:Nat} {M:MX} {ms:MA} (hf:f.K=X.K) (o:Own X) (hx:XeF X E) (F:FnOk X.prog X.w X.K X.mg X.base (CXF X.prog X.w) k fa fd ps (spX X.K np C M)) (hr:Room k X.A) (hg:Gl X x) (hm:X.mg x=some (.ref fa)) (hk:PySem.W.keepIn X.K (.ref fa)=true) (hb:Binds X.K fd ps [])
  (ha:DA X (e::es) ms) (hn:Ar ms np) (hdb:(x == ("__debug__":Str))=false:=by decide) (he:starEach (e::es) X.env=(false,eval e X.env)::starEach es X.env:=by rfl) (hpl:(backTo pos (starEach es X.env)).any (·.1)=false:=by rfl) :
  PE X (.Call (.Name x p) (e::es) [] pos) (teX f (Ep M ms) C E):=PE.imp (E6 F hr hg hm hk hb .nil (RQ (E:=E) o hx) (ha f hf) hdb he hpl) fun σ H Q hh_=>by
 obtain ⟨α,s,s1,rs,lo,e0,q⟩:=hh_
 obtain ⟨y,h1,e0⟩:=bind_some e0
 obtain ⟨z,h2,rfl⟩:=AZ e0
 refine ⟨α,s,y,rs,lo,h1,fun α1 vs H1 rs1 l1 x1 hv=>?_⟩
 dsimp only
 rw[List.append_nil]
 exact ⟨f,α1,y.2,σ,y.1,z,hf,hn _ _ h1,rs1,hv,h2,fun α2 H2 rs2 x2=>q α2 σ H2 rs2 l1 (x1.trans x2)⟩
theorem PU {e:Expr} {m:MXs} {rest:List Stmt} (h:PE X e (teX f m C E)) (hs:swapsWith e none pos.line X.env=pure false:=by rfl):PSs X (.Expr e pos::rest) (tX f m C E):=
 PSs.imp (Dc (M8 h hs) G9) fun D σ H h=>h
end
section
variable {P:Program} {w:World} {K:PySem.W.Frag} {mg:Str->Option Value} {base:Heap} {C:Addr}
theorem okF {x qual:Str} {st:Stmt} {f:Addr} {fd:FuncData} {N ps:List Str} {k:Nat} {sp:Sp} (F:Fun K x qual st f fd) (S:FnScope N ps (AU st)) (len:∀ vs H Q E,sp vs H Q E->vs.length=ps.length)
  (hbody:∀ (cdv:Value) (A:Around) (outer:List Env) (s:Shared) (H:Hp) (vs:List V) (Q:VK) (E:XK),Room k (A.deeper (envOfC qual (AU st) s.heap.objs.size f cdv))->sp vs H Q E ->
   ∃ t,PSs (Cc (CXF P w) P w K mg base N qual (AU st) f cdv A outer s H E) (CM st) t/\t {nx:=fun _ H'=>Q .non H',rt:=Q} (start N vs) H):FnOk P w K mg base (CXF P w) (k+1) f fd ps sp:=by
 obtain ⟨oc,od,kV,doc,pm,an,cdv,ct,osl,rfl,lk,hcd⟩:=F.ex
 exact MV lk hcd S len fun A outer s H vs Q E hr hsp=>hbody cdv A outer s H vs Q E hr hsp
theorem Lx {x qual:Str} {st:Stmt} {fa:Addr} {fd:FuncData} {N ps:List Str} {k:Nat} {m:MXs} (F:Fun K x qual st fa fd) (S:FnScope N ps (AU st))
  (hb:∀ (f:Fr),f.K=K->∀ (cdv:Value) (A:Around) (outer:List Env) (s:Shared) (H:Hp) (E:XK),Room k (A.deeper (PyProof.Rows.envOfC qual (AU st) s.heap.objs.size fa cdv))->PSs (Cc (CXF P w) P w K mg base N qual (AU st) fa cdv A outer s H E) (CM st) (tX f m C E)) :
  FnOk P w K mg base (CXF P w) (k+1) fa fd ps (spX K ps.length C (xFn N.length m)):=by
 refine okF F S (fun vs H Q E h=>?_) (fun cdv A outer sh H vs Q E hr h=>?_)
 ·obtain ⟨f,α,s,σ,ds,r,_,hl,_,hv,_⟩:=h
  rw[hv.len,hl]
 obtain ⟨f,α,s,σ,ds,r,hK,hl,rs,hv,hM,q⟩:=h
 obtain ⟨s1,h1,rfl⟩:=AZ hM
 refine ⟨_,hb (inn f α s.Γ (fun _=>False) H (BS rs CG)) hK cdv A outer sh H E hr,α,_,s1,IT rs hv,Nat.le_refl _,h1,fun α' σ' H' r' l' x'=>?_⟩
 obtain ⟨a1,a2,a3⟩:=rs.leave CG r' l' x' (H1:=H') fun _ _=>rfl
 exact q α' H' a1 a2
end
structure ClsF (K:PySem.W.Frag) (mg:Str->Option Value) (cN cL c1 c2 c3 c4:Addr):Prop where
 mN:mg "NoNumber"=some (.ref cN)
 mL:mg "LotError"=some (.ref cL)
 m1:mg "NoDeed"=some (.ref c1)
 m2:mg "NoName"=some (.ref c2)
 m3:mg "NoRow"=some (.ref c3)
 m4:mg "NoText"=some (.ref c4)
 mV:mg "ValueError"=none
 ex:PySem.W.excIn K cN [.type "ValueError",.type "Exception",.type "BaseException",.type "object"] "ValueError.__new__"=true
 exm:PySem.W.exmOne K (.ref cN) (.ref cL)=some true
 ga:PySem.W.findIn K (.ref cN) "__getattribute__"=some (some (.builtin "BaseException.__getattribute__"))
 gt:PySem.W.findIn K (.ref cN) "__getattr__"=some none
 sb:PySem.W.subIn K (.ref cN) (.type "BaseException")=some true
 fo:PySem.W.findObj K cN none "__class__"=some (.bind (.builtin "getset_descriptor.__get__") (.builtin "object.__class__"))
 mo:PySem.W.mroIn K cN (.type "object")=some true
 any:PySem.W.kitAny K (.ref cN) [.ref c1,.ref c2,.ref c3,.ref c4]=some false
 val:PySem.W.kitOne K (.ref cN) (.type "ValueError")=some true
theorem ClsF.excC {K:PySem.W.Frag} {mg:Str->Option Value} {cN cL c1 c2 c3 c4:Addr} (c:ClsF K mg cN cL c1 c2 c3 c4):ExcC K cN:=by
 refine ⟨?_,c.ga,c.gt,c.sb,c.fo,c.mo⟩
 have h:=c.ex
 unfold PySem.W.excIn at h
 split at h
 ·rename_i dict cd sl hl
  exact ⟨dict,cd,sl,hl⟩
 ·cases h
abbrev HC (cN:Addr):Sp:=fun vs H Q _=>∃ a:Addr,vs=[.ref a]/\H a=some (Co a (.ref cN))/\∀ p o,H p=none->Q (.bl true) (upd H p o)
def Fs (M:MX) (ms:MA) (ci ei:Nat):MS:=fun s=>if ci<s.σ.length/\ei<s.σ.length/\ci≠ei then (Ep M ms {s with σ:=s.σ.set ci (some (.v .non))}).map fun s1=>.rt (.bl true) {s1 with σ:=s1.σ.map fun _=>none} else none
theorem Ou {f:Fr} {K:PySem.W.Frag} {M:MX} {ms:MA} {np ci ei:Nat} {cN:Addr} {E0:XK} (hf:f.K=K) (hn:Ar ms np) (D:Ends) (σ:L2.St) (H:Hp) (h:tDS f (Fs M ms ci ei) D σ H) :
  IQ (E2 (tC .non) (Cz ci)) (IQ (JO (spX K np cN M) cN ei (tDA f ms) (fun _=>E2 (EJ ei) (Cz ci))) (K5 (Lg (HC cN) [] E0 (Ha (EJ ci) HV)))) D σ H:=by
 obtain ⟨α,s,o,rs,lo,e,q⟩:=h
 unfold Fs at e
 split at e
 case isFalse=>cases e
 rename_i hl
 obtain ⟨hl1,hl2,hne⟩:=hl
 obtain ⟨s1,h1,rfl⟩:=AZ e
 obtain ⟨y,h2,h3⟩:=bind_some h1
 obtain ⟨Γ',h4,rfl⟩:=AZ h3
 have hlen:=rs.len
 have rs0:=rs.set (i:=ci) (d:=.v .non) (v:=.non) (show RepV f α s.Γ H (.v .non) .non by show Rep _ _ _;unfold Rep;rfl)
 refine ⟨α,{s with σ:=s.σ.set ci (some (.v .non))},y,rs0,lo,h2,fun α1 vs H1 rs1 l1 x1 hv=>⟨f,α1,y.2,_,y.1,Γ',hf,hn _ _ h2,rs1,hv,h4,fun α2 H2 rs2 x2=>⟨rfl,fun a ha=>?_⟩⟩⟩
 have k1:ei<(σ.set ci (some V.non)).length:=by rw[List.length_set];lia
 have k2:((σ.set ci (some V.non)).set ei (some (V.ref a)))[ei]?=some (some (.ref a)):=List.getElem?_set_self k1
 refine ⟨.ref a,k2,?_⟩
 have k3:((((σ.set ci (some V.non)).set ei (some (V.ref a))).set ci (some (V.ref a))).set ei none)[ci]?=some (some (V.ref a)):=by
  rw[List.getElem?_set_ne (Ne.symm hne),List.getElem?_set_self (by rw[List.length_set,List.length_set];lia)]
 refine ⟨.ref a,k3,a,rfl,BA,fun p o hp=>?_⟩
 have r3:=rs2.new (o:=Co a (.ref cN)) ha
 have r4:=r3.new (o:=o) hp
 have x3:=Ext.new (o:=Co a (.ref cN)) rs2 ha
 have x4:=Ext.new (o:=o) r3 hp
 refine q α2 σ (.bl true) _ (RS.slots r4 (τ:=y.2.σ.map fun _=>none) (τ':=σ) ?_ fun i d e=>?_) l1 (((x1.trans x2).trans x3).trans x4) (by unfold Rep;rfl)
 ·rw[List.length_map,rs1.len,List.length_set]
 ·rw[List.getElem?_map] at e
  cases z:y.2.σ[i]? with
  | none=>rw[z] at e;cases e
  | some u=>rw[z] at e;cases e
section
variable {X:Cx}
end
section
variable {X:Cx} {f:Fr} {C:Addr} {E:XK} {pos:Pos}
end
end XL
namespace DL
open PySem L2 Ev
def FL (zN:MD):XL.MXs:=(XL.xIf (mOr (A7 (Ak (AJ zN (AB (AA 1) AC)))) (A7 (AK (Bt Cq Af (mC (.int 0)) (AA 1) (AH BJ (AB (AE (AN (AO (AA 0)) 1 [] (AF 0) mTT (AH AX (AB (AA 0) AC)))) AC)))))) XL.MK XL.xNo)
theorem Rc {P:Program} {w:World} {K:PySem.W.Frag} {mg:Str->Option Value} {base:Heap} {cN cL c1 c2 c3 c4:Addr} {fa:Addr} {fd:FuncData} (F:Fun K "check_counted" "check_counted" DK fa fd) (T:Nm mg) (cl:XL.ClsF K mg cN cL c1 c2 c3 c4) {yE:Addr} {yF:FuncData} {zN:MD} (zO:Cal P w K mg base "is_whole" 1 yE yF ["thing"] (spD K 1 zN)):FnOk P w K mg base (XL.CXF P w) 2 fa fd ["rows","k"] (XL.spX K 2 cN (XL.xFn 2 (FL zN))):=
 XL.Lx F J6 fun f hf cdv A outer s H E hr=>(XL.QF hf (Fj (Ga (Cr (CH (BC zO.G hr rfl zO.m zO.k zO.b (AD (dv 1) AG) (Ab Ai)))) (FP (Cr (Jy hr.units0 AL (dv 1) (Ew T.sum (AD (Ah (Bb (esc:=(AU DK)) (N:=HL) (tn:=["row"]) (fn:=[]) (ix:=[]) rfl rfl rfl ⟨rfl,by decide +kernel,by decide +kernel,by decide +kernel,rfl,by decide +kernel⟩ (BP (dv 0)) (fun _ _ _ _ _=>(Aw (Ap (i:=0) (show (["row"]:List Str).Nodup by decide +kernel) rfl (Or.inl rfl)))) (fun _ _ _ _ _=>Bp) (fun _ _ _ _ _=>(Bi T (AD (dv 0) AG))))) AG))))))) (XL.x_raise (C:=cN) (E:=E) (name:="check_counted") (scope:=AU DK) (L:=s.heap.objs.size) (fa:=fa) (cd:=cdv) ⟨rfl,rfl,rfl⟩ rfl rfl rfl rfl rfl cl.mN cl.ex PySem.F.excBase_ValueError)
 XL.Qs)
def EA (yA:XL.MX):XL.MXs:=(XL.Ep yA (AB (AA 0) (AB (AA 1) AC)))
theorem Nb {P:Program} {w:World} {K:PySem.W.Frag} {mg:Str->Option Value} {base:Heap} {cN cL c1 c2 c3 c4:Addr} {fa:Addr} {fd:FuncData} (F:Fun K "kth_thing" "kth_thing" Cy fa fd) (T:Nm mg) (cl:XL.ClsF K mg cN cL c1 c2 c3 c4) {yG:Addr} {yH:FuncData} {yA:XL.MX} (yB:CalX P w K mg base "check_counted" 2 yG yH ["rows","k"] (XL.spX K 2 cN yA)):FnOk P w K mg base (XL.CXF P w) 3 fa fd ["rows","k"] (XL.spX K 2 cN (XL.xFn 7 (EA yA))):=
 XL.Lx F sc_kth_thing fun f hf cdv A outer s H E hr=>(XL.PU (XL.x_call hf ⟨rfl,rfl,rfl⟩ rfl yB.G hr rfl yB.m yB.k yB.b (AD (dv 0) (AD (dv 1) AG)) (Ab (Ab Ai))))
abbrev Gv:Stmt:=top 26
abbrev Pk:List Str:=["caught","others"]
theorem sc__law_is_no_number:FnScope Pk ["caught"] (AU Gv):=⟨rfl,rfl,rfl,by decide +kernel,rfl,by decide +kernel,by decide +kernel⟩
theorem RN {P:Program} {w:World} {K:PySem.W.Frag} {mg:Str->Option Value} {base:Heap} {cN cL c1 c2 c3 c4:Addr} {fa:Addr} {fd:FuncData} (F:Fun K "_law_is_no_number" "_law_is_no_number" Gv fa fd) (T:Nm mg) (c:XL.ClsF K mg cN cL c1 c2 c3 c4):FnOk P w K mg base CX0 1 fa fd ["caught"] (XL.HC cN):=by
 refine F.ok sc__law_is_no_number (fun vs H Q E h=>by obtain ⟨a,rfl,_⟩:=h;rfl) (fun cdv A outer s H vs Q E hr h=>?_)
 obtain ⟨a,rfl,ha,q⟩:=h
 refine ⟨_,Dc (En (i:=1) sc__law_is_no_number.nd rfl (Or.inl rfl) (DR XL.Oz rfl T.isi PyProof.Rows.boot_isinstance (BN (pv 0) (BN (Hu (BN (Ee (v:=.ref c1) rfl c.m1 rfl) (BN (Ee (v:=.ref c2) rfl c.m2 rfl) (BN (Ee (v:=.ref c3) rfl c.m3 rfl) (BN (Ee (v:=.ref c4) rfl c.m4 rfl) CD))))) CD))))
  (GA (FJ (Ih (DR XL.K8 rfl T.isi PyProof.Rows.boot_isinstance (BN (pv 0) (BN (Ee (v:=.ref cN) rfl c.mN rfl) CD))) (Ih (DR XL.K8 rfl T.isi PyProof.Rows.boot_isinstance (BN (pv 0) (BN (C3 (v:=.ty "ValueError") rfl c.mV rfl rfl) CD))) (KB (Jr (pv 1))))))),?_⟩
 refine ⟨_,rfl,(small (by decide):4<=sizeLine),fun p hp=>?_⟩
 have hap:a≠p:=BU ha hp
 have ha':upd H p (.tup [.ref c1,.ref c2,.ref c3,.ref c4]) a=some (XL.Co a (.ref cN)):=by rw[AR hap];exact ha
 refine ⟨a,cN,p,[c1,c2,c3,c4],false,rfl,BA,ha',c.excC,c.any,?_⟩
 refine ⟨_,rfl,a,cN,.ref cN,.ref cN,true,rfl,rfl,fun _ z=>z,ha',c.excC,by unfold PySem.W.kitOne;simp,true,rfl,He ?_⟩
 exact ⟨_,rfl,a,cN,.ty "ValueError",.type "ValueError",true,rfl,rfl,fun _ z=>z,ha',c.excC,c.val,true,rfl,He ⟨_,rfl,false,rfl,q p _ hp⟩⟩
abbrev IY:Stmt:=top 27
abbrev RH:List Str:=["rows","k","caught","e"]
theorem sc__law_refused:FnScope RH ["rows","k"] (AU IY):=⟨rfl,rfl,rfl,by decide +kernel,rfl,by decide +kernel,by decide +kernel⟩
def Fk (yC:XL.MX):MS:=XL.Fs yC (AB (AA 0) (AB (AA 1) AC)) 2 3
theorem NI {P:Program} {w:World} {K:PySem.W.Frag} {mg:Str->Option Value} {base:Heap} {cN cL c1 c2 c3 c4:Addr} {fa:Addr} {fd:FuncData} (F:Fun K "_law_refused" "_law_refused" IY fa fd) (c:XL.ClsF K mg cN cL c1 c2 c3 c4) {yO:Addr} {yP:FuncData} {yC:XL.MX} (yD:CalX P w K mg base "kth_thing" 3 yO yP ["rows","k"] (XL.spX K 2 cN yC)) {fn:Addr} {fdn:FuncData} (cn:Cal P w K mg base "_law_is_no_number" 1 fn fdn ["caught"] (XL.HC cN)):FnOk P w K mg base CX0 4 fa fd ["rows","k"] (spD K 2 (mFn 4 (Fk yC))):=
 Br F sc__law_refused fun cdv A outer s H E hr=>.mk fun f hf=>PSs.imp (Dc (En (i:=2) sc__law_refused.nd rfl (Or.inl rfl) Ox)
  (Dc (XL.QA (i:=3) (C:=cN) (CT:=cL) ⟨rfl,rfl,rfl⟩ rfl yD.G hr rfl yD.m yD.k yD.b ((AD (dv 0) (AD (dv 1) AG)) f hf) rfl c.mL c.exm sc__law_refused.nd rfl rfl (fun a=>GA (En (i:=2) sc__law_refused.nd rfl (Or.inl rfl) (pv 3))))
  (GA (FJ (E6 cn.G (hr.mono (by decide)) rfl cn.m cn.k cn.b .nil FO (BN (pv 2) CD)))))) (XL.Ou hf (Ab (Ab Ai)))
end DL
namespace DL
open PySem L2
theorem Hx {c:ME} {s s':DS} {n:Nat} (h:c s=some (.v (.int n),s')) (hn:n<=1000000):BE (AB c AC) s=some (upTo 0 n,s'):=by
 have hh:∀ j:Int,c s=some (.v (.int j),s')->okR j=true->BE (AB c AC) s=some (upTo 0 j.toNat,s'):=fun j g hr=>by
  unfold BE
  rw[show AB c AC s=some ([.v (.int j)],s') by
   show ((c s).bind _)=_
   rw[g]
   rfl,Option.bind_some]
  show (if okR j=true then _ else _)=_
  rw[if_pos hr]
 have:=hh n h (Fh (by lia) (by lia))
 rw[Int.toNat_natCast] at this
 exact this
theorem HR {mi:MF} {g:MG} {b:MS} {s s':DS} {items:List D} {o:Option Out} (h:mi s=some (items,s')) (e:Cb g b items s'=o):BX mi g b s=o:=by
 unfold BX
 rw[h]
 exact e
theorem Pl {i n:Nat} {me:ME} {s s':DS} {d:D} {xs ys:List D} (h1:s.σ[i]?=some (some (.b n))) (h2:s.Γ[n]?=some (some ys)) (h3:me s=some (.v d,s')) (h4:s'.Γ[n]?=some (some xs)) (hl:xs.length<big):CB (CY (AA i) me) s=some (.nx {s' with Γ:=s'.Γ.set n (some (xs++[d]))}):=by
 unfold CB CY AA
 rw[h1]
 simp only[Option.bind_some]
 rw[h2]
 simp only[]
 rw[h3]
 simp only[Option.bind_some]
 rw[h4]
 simp only[]
 rw[if_pos hl]
 rfl
def FM:MDF:=BW 3 Ik
theorem TL {m n k:ME} {s s1 s2 s3:DS} {x y z:D} (h1:m s=some (.v x,s1)) (h2:n s1=some (.v y,s2)) (h3:k s2=some (.v z,s3)):A4 (AB m (AB n (AB k AC))) s=some (.v (.tup [x,y,z]),s3):=by
 unfold A4 AB AC
 rw[h1]
 simp[h2,h3,trees]
 decide
theorem Q6 {rs:List (List Th)} {h:Nat} {r:List Th} {Γ:Gm} (hr:rs[h]?=some r) (hl:r.length<=1000):Aq (AF 0) mTT (A4 (AB (mOp gIx (mOp gIx (mOp gIx (AA 1) (AA 2)) (AA 0)) (mC (.int 0))) (AB (AA 2) (AB (AA 0) AC)))) (upTo 0 r.length) [none,some (.v (AW rs)),some (.v (.int (h:Nat)))] Γ=some ((Av (h:Int) 0 r).map tupI,Γ):=by
 obtain ⟨ys,τ',Γ',e1,h1,hΓ,_⟩:=Gx (g:=AF 0) (t:=mTT) (e:=A4 (AB (mOp gIx (mOp gIx (mOp gIx (AA 1) (AA 2)) (AA 0)) (mC (.int 0))) (AB (AA 2) (AB (AA 0) AC)))) (items:=upTo 0 r.length)
  (fun i acc τ Γi=>acc=((Av (h:Int) 0 r).take i).map tupI/\Γi=Γ/\∃ a,τ=[a,some (.v (AW rs)),some (.v (.int (h:Nat)))]) (by
   rintro i d acc τ Γi hd ⟨rfl,hΓ,u,rfl⟩
   subst Γi
   obtain ⟨hi,rfl⟩:=DU hd
   have ht:r[i]?=some r[i]:=List.getElem?_eq_getElem hi
   have ea:=Ck (f:=thD) ht
   rw[show ((i:Nat):Int)=0+(i:Int) by lia] at ea
   let S:DS:=⟨[some (.v (.int (0+i))),some (.v (AW rs)),some (.v (.int (h:Nat)))],Γ,Γ.length⟩
   have w0:mOp gIx (AA 1) (AA 2) S=some (.v (AV r),S):=Ac (x:=.v (AW rs)) (y:=.v (.int (h:Nat))) (s1:=S) (s2:=S) rfl rfl (Ck (f:=AV) hr)
   have w:mOp gIx (mOp gIx (mOp gIx (AA 1) (AA 2)) (AA 0)) (mC (.int 0)) S=some (.v (.int r[i].1),S):=Ac (Ac w0 (y:=.v (.int (0+i))) (s2:=S) rfl ea) rfl rfl
   refine ⟨S,_,rfl,rfl,.inl ⟨rfl,_,_,TL w (y:=.int (h:Nat)) (z:=.int (0+i)) (s2:=S) (s3:=S) rfl rfl,rfl,?_,rfl,_,rfl⟩⟩
   rw[List.take_add_one,Ho (h:Int) 0 r i _ ht]
   simp[tupI]) (τ:=[none,some (.v (AW rs)),some (.v (.int (h:Nat)))]) (Γ:=Γ) ⟨by simp,rfl,none,rfl⟩
 rw[CS,<-GE (h:Int) 0 r,List.take_length] at h1
 rw[e1,h1,hΓ]
theorem M5 (h:Int):∀ (rs:List (List Th)) (i:Nat) (r:List Th),rs[i]?=some r->Ae h (rs.take (i+1))=Ae h (rs.take i)++[A6 (Av (h+i) 0 r)]
 | [],_,_,e=>by cases e
 | c::rs,0,r,e=>by cases e;simp[Ae]
 | c::rs,i+1,r,e=>by
  have:=M5 (h+1) rs i r (by simpa using e)
  rw[List.take_succ_cons,List.take_succ_cons]
  show A6 (Av h 0 c)::Ae (h+1) (rs.take (i+1))=A6 (Av h 0 c)::Ae (h+1) (rs.take i)++_
  rw[this,show h+1+(i:Int)=h+((i+1:Nat):Int) by lia]
  rfl
theorem Rz {rs:List (List Th)} {Γ:Gm} (hn:rs.length<=1000) (hr:∀ r∈rs,r.length<=1000):FM [.v (AW rs)] Γ=some ((Ae 0 rs).map AQ,Γ):=by
 let S:List D->Option SV->DS:=fun xs v=>⟨[some (.v (AW rs)),some (.b Γ.length),v],Γ++[some xs],Γ.length⟩
 have g1:BY 1 (Al AC) ⟨[some (.v (AW rs)),none,none],Γ,Γ.length⟩=some (.nx (S [] none)):=by simp[S,show (0:Nat)<=big from Nat.zero_le _]
 have q0:AH AX (AB (AA 0) AC) (S [] none)=some (.v (.int rs.length),S [] none):=Ca (s':=S [] none) (x:=.v (AW rs)) rfl (by show some (D.int ((rs.map AV).length:Nat))=_;rw[List.length_map])
 have q1:=Hx q0 (by lia)
 obtain ⟨s',e1,v',rfl⟩:=C6 (g:=AF 2) (b:=MJ) (items:=upTo 0 rs.length) (fun i s=>∃ v,s=S ((Ae 0 (rs.take i)).map AQ) v) (by
   rintro i d s hd ⟨v,rfl⟩
   obtain ⟨hi,rfl⟩:=DU hd
   have hri:rs[i]?=some rs[i]:=List.getElem?_eq_getElem hi
   have hl:=hr _ (List.getElem_mem hi)
   let G:Gm:=Γ++[some ((Ae 0 (rs.take i)).map AQ)]
   let T:DS:=S ((Ae 0 (rs.take i)).map AQ) (some (.v (.int (0+i))))
   rw[show (0:Int)+(i:Int)=((i:Nat):Int) by lia] at *
   have w0:mOp gIx (AA 0) (AA 2) T=some (.v (AV rs[i]),T):=Ac (x:=.v (AW rs)) (y:=.v (.int (i:Nat))) (s1:=T) (s2:=T) rfl (by show some (SV.v (.int (0+i)),T)=_;rw[show (0:Int)+(i:Int)=((i:Nat):Int) by lia]) (Ck (f:=AV) hri)
   have w1:AH AX (AB (mOp gIx (AA 0) (AA 2)) AC) T=some (.v (.int (rs[i]).length),T):=Ca w0 (by show some (D.int ((rs[i].map thD).length:Nat))=_;rw[List.length_map])
   have w2:=Hx w1 (by lia)
   have e:=Q6 (Γ:=G) hri hl
   have w3:AE (AN (BE (AB (AH AX (AB (mOp gIx (AA 0) (AA 2)) AC)) AC)) 1 [0,2] (AF 0) mTT (A4 (AB (mOp gIx (mOp gIx (mOp gIx (AA 1) (AA 2)) (AA 0)) (mC (.int 0))) (AB (AA 2) (AB (AA 0) AC))))) T=some (.v (.lst ((Av (i:Int) 0 rs[i]).map tupI)),T):=A8 (Bd w2 (by rw[CS,Bj];lia) (by
    show Aq _ _ _ _ [none,some (.v (AW rs)),some (.v (.int (0+i)))] G=_
    rw[show (0:Int)+(i:Int)=((i:Nat):Int) by lia];exact e))
   have w4:Au BF (AB (AE (AN (BE (AB (AH AX (AB (mOp gIx (AA 0) (AA 2)) AC)) AC)) 1 [0,2] (AF 0) mTT (A4 (AB (mOp gIx (mOp gIx (mOp gIx (AA 1) (AA 2)) (AA 0)) (mC (.int 0))) (AB (AA 2) (AB (AA 0) AC)))))) AC) T=some ((A6 (Av (i:Int) 0 rs[i])).map tupI,T):=by
    unfold Au
    rw[show AB (AE (AN (BE (AB (AH AX (AB (mOp gIx (AA 0) (AA 2)) AC)) AC)) 1 [0,2] (AF 0) mTT (A4 (AB (mOp gIx (mOp gIx (mOp gIx (AA 1) (AA 2)) (AA 0)) (mC (.int 0))) (AB (AA 2) (AB (AA 0) AC)))))) AC T=some ([.v (.lst ((Av (i:Int) 0 rs[i]).map tupI))],T) by
     show ((AE _ T).bind _)=_
     rw[w3]
     rfl,Option.bind_some]
    rw[IE (fun x hx=>G6 x hx) rfl]
    rfl
   have w5:=A8 w4
   refine ⟨T,_,?_,?_,some (.v (.int (0+i))),rfl⟩
   ·show some _=some _
    simp[S,T]
   ·have et:=M5 0 rs i _ hri
    rw[show (0:Int)+(i:Int)=((i:Nat):Int) by lia] at et
    have hlen:((Ae 0 (rs.take i)).map AQ).length<big:=by
     have:∀ (h:Int) (rs:List (List Th)),(Ae h rs).length=rs.length:=by
      intro h rs
      induction rs generalizing h with
      | nil=>rfl
      | cons r rs ih=>show (Ae (h+1) rs).length+1=_;rw[ih];rfl
     rw[List.length_map,this,List.length_take,Bj];lia
    refine (Pl (n:=Γ.length) (s:=T) (s':=T) rfl IL w5 IL hlen).trans ?_
    show some (Out.nx (⟨_,(Γ++[_]).set Γ.length _,_⟩:DS))=_
    rw[Sw,et,List.map_append]
    rfl)
  (s:=S [] none) ⟨none,by simp[Ae]⟩
 rw[CS,List.take_length] at e1
 unfold FM BW Ik
 show (AI _ _ ⟨[some (.v (AW rs)),none,none],Γ,Γ.length⟩).bind _=_
 rw[Aa g1,Aa (show BX _ _ _ _=_ by unfold BX;rw[q1,Option.bind_some];exact e1)]
 simp[S,CO,Ci]
theorem Ji {i:Nat} {l:List Nam} {s:DS} (h:s.σ[i]?=some (some (.v (AQ l)))) (hne:l≠[]):mOp gIx (AA i) (mOp Az (AH AX (AB (AA i) AC)) (mC (.int 2))) s=some (.v (tupI (mid l)),s):=by
 have hl:0<l.length:=List.length_pos_iff.mpr hne
 have q0:AA i s=some (.v (AQ l),s):=by unfold AA;rw[h]
 have q1:AH AX (AB (AA i) AC) s=some (.v (.int l.length),s):=Ca q0 (by show some (D.int ((l.map tupI).length:Nat))=_;rw[List.length_map])
 have gen:∀ j:Int,Az s.Γ (.v (.int j)) (.v (.int 2))=some (.int (j / 2)):=fun j=>by simp[show ∀ i:Int,Dn i 2=true from fun _=>rfl]
 have q2:mOp Az (AH AX (AB (AA i) AC)) (mC (.int 2)) s=some (.v (.int ((l.length / 2:Nat):Int)),s):=Ac q1 rfl ((gen _).trans (by congr 2))
 refine Ac q0 q2 ?_
 show atI (l.map tupI) ((l.length / 2:Nat):Int)=_
 refine Ck ?_
 unfold mid
 rw[List.getD_eq_getElem?_getD,List.getElem?_eq_getElem (by lia)]
 rfl
theorem Nl {Γ:Gm} (left:List (List Nam)) (v:Option SV):Aq (AF 0) (AK (mOp BO (AA 0) (AE (Al AC)))) (mOp gIx (AA 0) (mOp Az (AH AX (AB (AA 0) AC)) (mC (.int 2)))) (left.map AQ) [v] Γ=some ((Ax left).map tupI,Γ):=by
 induction left generalizing v with
 | nil=>rfl
 | cons l left ih=>
  have i:=ih (some (.v (AQ l)))
  have t:AK (mOp BO (AA 0) (AE (Al AC))) ⟨[some (.v (AQ l))],Γ,Γ.length⟩=some (!l.isEmpty,⟨[some (.v (AQ l))],Γ,Γ.length⟩):=by
   refine B8 (Ac (x:=.v (AQ l)) (s1:=⟨[some (.v (AQ l))],Γ,Γ.length⟩) rfl nil_of ?_)
   cases l<;>simp[AQ]
  rw[List.map_cons]
  unfold Aq
  simp only[AF,Option.bind_some,List.set_cons_zero,t]
  cases l with
  | nil=>
   have:Ax ([]::left)=Ax left:=by unfold Ax DX;simp
   rw[this]
   simp only[List.isEmpty_nil,Bool.not_true,Bool.false_eq_true,if_false,if_true,i]
  | cons x l=>
   have:Ax ((x::l)::left)=mid (x::l)::Ax left:=by unfold Ax DX;simp
   rw[this]
   have q:=Ji (i:=0) (l:=x::l) (s:=⟨[some (.v (AQ (x::l)))],Γ,Γ.length⟩) rfl (by simp)
   simp only[List.isEmpty_cons,Bool.not_false,if_true,q,Option.bind_some,i,Option.map_some,List.map_cons]
theorem T6 {Γ:Gm} {p:Nam} (left:List (List Nam)) (hl:∀ l∈left,l.length<=big) (v:Option SV):Aq (AF 0) mTT (AH AX (AB (AE (AN (AO (AA 0)) 1 [1] (AF 0) (AK (mOp Af (AA 0) (AA 1))) (AA 0))) AC)) (left.map AQ) [v,some (.v (tupI p))] Γ=some ((left.map fun l=>((loF p l).length:Int)).map .int,Γ):=by
 induction left generalizing v with
 | nil=>rfl
 | cons l left ih=>
  have i:=ih (fun q hq=>hl q (List.mem_cons_of_mem _ hq)) (some (.v (AQ l)))
  let S:DS:=⟨[some (.v (AQ l)),some (.v (tupI p))],Γ,Γ.length⟩
  have e:=Gp (g:=Af) (q:=fun x=>HT.lexLt x p) (p:=p) (Γ:=Γ) (fun x=>Fo) l none
  have q0:AE (AN (AO (AA 0)) 1 [1] (AF 0) (AK (mOp Af (AA 0) (AA 1))) (AA 0)) S=some (.v (AQ (loF p l)),S):=A8 (Bd (s':=S) (items:=l.map tupI) rfl (by rw[List.length_map];exact hl l List.mem_cons_self) e)
  have q:AH AX (AB (AE (AN (AO (AA 0)) 1 [1] (AF 0) (AK (mOp Af (AA 0) (AA 1))) (AA 0))) AC) ⟨[some (.v (AQ l)),some (.v (tupI p))],Γ,Γ.length⟩=some (.v (.int (loF p l).length),⟨[some (.v (AQ l)),some (.v (tupI p))],Γ,Γ.length⟩):=Ca q0 (by show some (D.int (((loF p l).map tupI).length:Nat))=_;rw[List.length_map])
  rw[List.map_cons,List.map_cons,List.map_cons]
  unfold Aq
  simp only[AF,Option.bind_some,List.set_cons_zero,mTT,if_true,q,i,Option.map_some]
section
variable (rs:List (List Th)) (Γ:Gm) {Mh:MDF}
def sL (left:List (List Nam)) (due r:Nat) (v4 v5 v6:Option SV):DS:=⟨[some (.v (AW rs)),some (.v (.int due)),some (.v (Ce left)),some (.v (.int r)),v4,v5,v6],Γ,Γ.length⟩
theorem Ni:∀ (n:Nat) (left:List (List Nam)) (due r:Nat) (v4 v5 v6:Option SV),left.flatten.Nodup->due<szL left->szL left<=n->(∀ x∈left.flatten,x∈BR 0 rs)->left.length<=1000->szL left<=100000 ->
  ∃ p r' s',Bz n left due r=some (p,r')/\p∈BR 0 rs/\BL (Ef Mh) (Df Mh) n (sL rs Γ left due r v4 v5 v6)=some (.rt (.tup [thD (Bs rs p),.int (r':Nat)]) s')/\s'.Γ=Γ:=by
 intro n
 induction n with
 | zero=>intro left due r v4 v5 v6 _ h1 h2;lia
 | succ n ih=>
  intro left due r v4 v5 v6 nd hd hn hsub hll hsz
  have hp:=LY (left:=left) (by lia)
  have ht:=three nd hp
  have e1:=JJ left (AY left)
  have e2:szL (loL (AY left) left)=(loF (AY left) left.flatten).length:=by unfold szL;rw[Dv]
  have e3:szL (hiL (AY left) left)=(hiF (AY left) left.flatten).length:=by unfold szL;rw[D7]
  have e4:szL left=left.flatten.length:=rfl
  have hbl:∀ l∈left,l.length<=big:=fun l hl=>by have:=KN hl;rw[Bj];lia
  have hlb:left.length<=big:=by rw[Bj];lia
  obtain ⟨j,i,row,t,h1,h2,ep⟩:=K3 (hsub _ hp)
  let P:Nam:=AY left
  let B:Nat:=A3 left P
  have t0:Ef Mh (sL rs Γ left due r v4 v5 v6)=some (true,sL rs Γ left due r v4 v5 v6):=rfl
  have g1:AM 3 (mOp Ay (AA 3) (mC (.int 1))) (sL rs Γ left due r v4 v5 v6)=some (.nx (sL rs Γ left due (r+1) v4 v5 v6)):=by
   show some (Out.nx _)=_
   simp[sL]
  let A1:DS:=sL rs Γ left due (r+1) v4 v5 v6
  have c2:=Nl (Γ:=Γ) left none
  have q2:AE (AN (AO (AA 2)) 1 [] (AF 0) (AK (mOp BO (AA 0) (AE (Al AC)))) (mOp gIx (AA 0) (mOp Az (AH AX (AB (AA 0) AC)) (mC (.int 2))))) A1=some (.v (.lst ((Ax left).map tupI)),A1):=A8 (Bd (s':=A1) (items:=left.map AQ) rfl (by rw[List.length_map];exact hlb) c2)
  have q3:Au BF (AB (AE (AN (AO (AA 2)) 1 [] (AF 0) (AK (mOp BO (AA 0) (AE (Al AC)))) (mOp gIx (AA 0) (mOp Az (AH AX (AB (AA 0) AC)) (mC (.int 2)))))) AC) A1=some ((A6 (Ax left)).map tupI,A1):=by
   unfold Au
   rw[show AB (AE (AN (AO (AA 2)) 1 [] (AF 0) (AK (mOp BO (AA 0) (AE (Al AC)))) (mOp gIx (AA 0) (mOp Az (AH AX (AB (AA 0) AC)) (mC (.int 2)))))) AC A1=some ([.v (.lst ((Ax left).map tupI))],A1) by
    show ((AE _ A1).bind _)=_
    rw[q2]
    rfl,Option.bind_some]
   rw[IE (fun x hx=>Hn x (hsub x (Hm hx))) rfl]
   rfl
  have g2:AM 4 (AE (Au BF (AB (AE (AN (AO (AA 2)) 1 [] (AF 0) (AK (mOp BO (AA 0) (AE (Al AC)))) (mOp gIx (AA 0) (mOp Az (AH AX (AB (AA 0) AC)) (mC (.int 2)))))) AC))) A1=some (.nx (sL rs Γ left due (r+1) (some (.v (AQ (A6 (Ax left))))) v5 v6)):=A2 (A8 q3)
  have g3:AM 5 (mOp gIx (AA 4) (mOp Az (AH AX (AB (AA 4) AC)) (mC (.int 2)))) (sL rs Γ left due (r+1) (some (.v (AQ (A6 (Ax left))))) v5 v6)=some (.nx (sL rs Γ left due (r+1) (some (.v (AQ (A6 (Ax left))))) (some (.v (tupI P))) v6)):=A2 (Ji rfl (G3 (HX (by lia))))
  let V:Option SV:=some (.v (AQ (A6 (Ax left))))
  have g4:AM 6 (AH BJ (AB (AE (AN (AO (AA 2)) 1 [5] (AF 0) mTT (AH AX (AB (AE (AN (AO (AA 0)) 1 [1] (AF 0) (AK (mOp Af (AA 0) (AA 1))) (AA 0))) AC)))) AC)) (sL rs Γ left due (r+1) V (some (.v (tupI P))) v6)=some (.nx (sL rs Γ left due (r+1) V (some (.v (tupI P))) (some (.v (.int B))))):=by
   have e:=T6 (Γ:=Γ) (p:=P) left hbl none
   exact A2 (Ca (A8 (Bd (s':=sL rs Γ left due (r+1) V (some (.v (tupI P))) v6) (items:=left.map AQ) rfl (by rw[List.length_map];exact hlb) e)) (by simp only[BJ,elems,C4,Mg,Option.map_some,B]))
  let S:DS:=sL rs Γ left due (r+1) V (some (.v (tupI P))) (some (.v (.int B)))
  have t4:AK (mOp BI (AA 1) (AA 6)) S=some (decide ((due:Int)=(B:Int)),S):=B8 (Ac (x:=.v (.int due)) (y:=.v (.int B)) (s1:=S) (s2:=S) rfl rfl rfl)
  have t5:AK (mOp Af (AA 1) (AA 6)) S=some (decide ((due:Int)<(B:Int)),S):=B8 (Ac (x:=.v (.int due)) (y:=.v (.int B)) (s1:=S) (s2:=S) rfl rfl rfl)
  have body:Df Mh (sL rs Γ left due r v4 v5 v6)=AI (mIf (AK (mOp BI (AA 1) (AA 6))) (As (A4 (AB (mOp gIx (mOp gIx (AA 0) (mOp gIx (AA 5) (mC (.int 1)))) (mOp gIx (AA 5) (mC (.int 2)))) (AB (AA 3) AC)))) A9) (mIf (AK (mOp Af (AA 1) (AA 6))) (AM 2 (AE (AN (AO (AA 2)) 1 [5] (AF 0) mTT (AE (AN (AO (AA 0)) 1 [1] (AF 0) (AK (mOp Af (AA 0) (AA 1))) (AA 0)))))) (AI (AM 2 (AE (AN (AO (AA 2)) 1 [5] (AF 0) mTT (AE (AN (AO (AA 0)) 1 [1] (AF 0) (AK (mOp B9 (AA 0) (AA 1))) (AA 0)))))) (AM 1 (mOp A5 (mOp A5 (AA 1) (AA 6)) (mC (.int 1)))))) S:=by
   unfold Df
   rw[Aa g1,Aa g2,Aa g3,Aa g4]
  have wrt:∀ {d:D} {s2:DS},Df Mh (sL rs Γ left due r v4 v5 v6)=some (.rt d s2)->BL (Ef Mh) (Df Mh) (n+1) (sL rs Γ left due r v4 v5 v6)=some (.rt d s2):=fun {d s2} e=>by
   show (Ef Mh _).bind _=_
   rw[t0]
   show (Df Mh _).bind _=_
   rw[e]
   rfl
  unfold Bz
  by_cases c1:due=A3 left (AY left)
  ·rw[if_pos c1]
   rw[decide_eq_true (by show (due:Int)=((A3 left (AY left):Nat):Int);lia)] at t4
   have a1:mOp gIx (AA 5) (mC (.int 1)) S=some (.v (.int j),S):=Ac (x:=.v (tupI P)) (y:=.v (.int 1)) (s1:=S) (s2:=S) rfl rfl (by show atI (P.map D.int) 1=_;show atI ((AY left).map D.int) 1=_;rw[ep];rfl)
   have a2:mOp gIx (AA 5) (mC (.int 2)) S=some (.v (.int i),S):=Ac (x:=.v (tupI P)) (y:=.v (.int 2)) (s1:=S) (s2:=S) rfl rfl (by show atI ((AY left).map D.int) 2=_;rw[ep];rfl)
   have a3:mOp gIx (AA 0) (mOp gIx (AA 5) (mC (.int 1))) S=some (.v (AV row),S):=Ac (x:=.v (AW rs)) (s1:=S) rfl a1 (Ck (f:=AV) h1)
   have a4:mOp gIx (mOp gIx (AA 0) (mOp gIx (AA 5) (mC (.int 1)))) (mOp gIx (AA 5) (mC (.int 2))) S=some (.v (thD t),S):=Ac a3 a2 (Ck (f:=thD) h2)
   have et:Bs rs (AY left)=t:=by rw[ep];exact JS h1 h2
   refine ⟨_,_,S,rfl,hsub _ hp,wrt ?_,rfl⟩
   rw[body,Gj ((DJ t4).trans (EC (Hf (y:=.int ((r+1:Nat):Int)) (s2:=S) a4 rfl))),et]
  ·rw[if_neg c1]
   rw[decide_eq_false (by show ¬(due:Int)=((A3 left (AY left):Nat):Int);lia)] at t4
   have sk:(mIf (AK (mOp BI (AA 1) (AA 6))) (As (A4 (AB (mOp gIx (mOp gIx (AA 0) (mOp gIx (AA 5) (mC (.int 1)))) (mOp gIx (AA 5) (mC (.int 2)))) (AB (AA 3) AC)))) A9) S=some (.nx S):=(B7 t4).trans rfl
   by_cases c2:due<A3 left (AY left)
   ·rw[if_pos c2]
    rw[decide_eq_true (by show (due:Int)<((A3 left (AY left):Nat):Int);lia)] at t5
    have e:=FS Γ (g:=Af) (q:=fun x=>HT.lexLt x P) (p:=P) (fun x=>Fo) left hbl none
    have g6:AM 2 (AE (AN (AO (AA 2)) 1 [5] (AF 0) mTT (AE (AN (AO (AA 0)) 1 [1] (AF 0) (AK (mOp Af (AA 0) (AA 1))) (AA 0))))) S=some (.nx (sL rs Γ (loL P left) due (r+1) V (some (.v (tupI P))) (some (.v (.int B))))):=A2 (A8 (Bd (s':=S) (items:=left.map AQ) rfl (by rw[List.length_map];exact hlb) e))
    have sub:∀ x∈(loL (AY left) left).flatten,x∈left.flatten:=fun x hx=>by rw[Dv] at hx;exact (List.mem_filter.mp hx).1
    obtain ⟨p,r',s',k1,k2,k3,k4⟩:=ih (loL (AY left) left) due (r+1) V (some (.v (tupI P))) (some (.v (.int B))) (by rw[Dv];exact nd.sublist (List.filter_sublist ..)) (by lia) (by lia) (fun x hx=>hsub x (sub x hx)) (by unfold loL;rw[List.length_map];exact hll) (by lia)
    refine ⟨p,r',s',k1,k2,?_,k4⟩
    rw[Gd t0 (by rw[body,Aa sk,DJ t5];exact g6)]
    exact k3
   ·rw[if_neg c2]
    rw[decide_eq_false (by show ¬(due:Int)<((A3 left (AY left):Nat):Int);lia)] at t5
    have e:=FS Γ (g:=B9) (q:=fun x=>HT.lexLt P x) (p:=P) (fun x=>Ke) left hbl none
    have g6:AM 2 (AE (AN (AO (AA 2)) 1 [5] (AF 0) mTT (AE (AN (AO (AA 0)) 1 [1] (AF 0) (AK (mOp B9 (AA 0) (AA 1))) (AA 0))))) S=some (.nx (sL rs Γ (hiL P left) due (r+1) V (some (.v (tupI P))) (some (.v (.int B))))):=A2 (A8 (Bd (s':=S) (items:=left.map AQ) rfl (by rw[List.length_map];exact hlb) e))
    have g7:AM 1 (mOp A5 (mOp A5 (AA 1) (AA 6)) (mC (.int 1))) (sL rs Γ (hiL P left) due (r+1) V (some (.v (tupI P))) (some (.v (.int B))))=some (.nx (sL rs Γ (hiL P left) (due - (B+1)) (r+1) V (some (.v (tupI P))) (some (.v (.int B))))):=by
     have ei:(due:Int) - (B:Int) - 1=((due - (B+1):Nat):Int):=by
      have:A3 left (AY left)=B:=rfl
      lia
     show some (Out.nx _)=_
     simp only[sL,List.set_cons_succ,List.set_cons_zero,ei]
    have sub:∀ x∈(hiL (AY left) left).flatten,x∈left.flatten:=fun x hx=>by rw[D7] at hx;exact (List.mem_filter.mp hx).1
    obtain ⟨p,r',s',k1,k2,k3,k4⟩:=ih (hiL (AY left) left) (due - (A3 left (AY left)+1)) (r+1) V (some (.v (tupI P))) (some (.v (.int B))) (by rw[D7];exact nd.sublist (List.filter_sublist ..)) (by lia) (by lia) (fun x hx=>hsub x (sub x hx)) (by unfold hiL;rw[List.length_map];exact hll) (by lia)
    refine ⟨p,r',s',k1,k2,?_,k4⟩
    rw[Gd t0 (by rw[body,Aa sk,B7 t5,Aa g6];exact g7)]
    exact k3
theorem OR {k:Nat} (hh:∀ {Γ:Gm},Mh [.v (AW rs)] Γ=some ((Ae 0 rs).map AQ,Γ)) (hn:rs.length<=100) (hz:total rs<=100000) (hk:k<total rs):∃ p r',Bz (total rs) (Ae 0 rs) k 0=some (p,r')/\mFn 7 (FU Mh) [.v (AW rs),.v (.int k)] Γ=some (.tup [thD (Bs rs p),.int (r':Nat)],Γ):=by
 have tk:Γ.take Γ.length=Γ:=List.take_length
 have hll:(Ae 0 rs).length=rs.length:=by
  have:∀ (h:Int) (rs:List (List Th)),(Ae h rs).length=rs.length:=by
   intro h rs
   induction rs generalizing h with
   | nil=>rfl
   | cons r rs ih=>show (Ae (h+1) rs).length+1=_;rw[ih];rfl
  exact this 0 rs
 obtain ⟨p,r',s',k1,k2,k3,k4⟩:=Ni rs Γ (Mh:=Mh) (total rs) (Ae 0 rs) k 0 none none none (L5 rs) (by rw[EK];exact hk) (by rw[EK];exact Nat.le_refl _) (fun x hx=>M6 hx) (by rw[hll];lia) (by rw[EK];exact hz)
 refine ⟨p,r',k1,?_⟩
 have w:=LZ k3
 let S0:DS:=⟨[some (.v (AW rs)),some (.v (.int k)),none,none,none,none,none],Γ,Γ.length⟩
 have g1:AM 2 (AE (Bk Mh (AB (AA 0) AC))) S0=some (.nx ⟨[some (.v (AW rs)),some (.v (.int k)),some (.v (Ce (Ae 0 rs))),none,none,none,none],Γ,Γ.length⟩):=A2 (A8 (HF (s':=S0) (x:=.v (AW rs)) rfl hh))
 unfold mFn FU
 show (AI _ _ S0).bind _=_
 rw[Aa g1,Aa (s1:=sL rs Γ (Ae 0 rs) k 0 none none none) rfl,w]
 show some (_,s'.Γ.take Γ.length)=_
 rw[k4,tk]
end
def ER:MD:=mFn 7 (FU FM)
theorem SQ {rs:List (List Th)} {k:Nat} {Γ:Gm} (hn:rs.length<=100) (hr:∀ r∈rs,r.length<=1000) (hz:total rs<=100000) (hk:k<total rs):∃ p r',Bz (total rs) (Ae 0 rs) k 0=some (p,r')/\ER [.v (AW rs),.v (.int k)] Γ=some (.tup [thD (Bs rs p),.int (r':Nat)],Γ):=
 OR rs Γ (fun {Γ}=>Rz (by lia) hr) hn hz hk
def D0:MDF:=BW 1 Hj
theorem QN {rs:List (List Th)} {Γ:Gm} (hn:rs.length<=1000) (hr:∀ r∈rs,r.length<=1000):D0 [.v (AW rs)] Γ=some (rs.map AV,Γ):=by
 have tk:Γ.take Γ.length=Γ:=List.take_length
 let S:DS:=⟨[some (.v (AW rs))],Γ,Γ.length⟩
 have e:Aq (AF 0) mTT (AE (Au C9 (AB (AA 0) AC))) (rs.map AV) [none] Γ=some (rs.map AV,Γ):=by
  have go:∀ (rs:List (List Th)) (v:Option SV),(∀ r∈rs,r.length<=1000)->Aq (AF 0) mTT (AE (Au C9 (AB (AA 0) AC))) (rs.map AV) [v] Γ=some (rs.map AV,Γ):=by
   intro rs
   induction rs with
   | nil=>intro v _;rfl
   | cons r rs ih=>
    intro v h
    have i:=ih (some (.v (AV r))) fun q hq=>h q (List.mem_cons_of_mem _ hq)
    have w:AE (Au C9 (AB (AA 0) AC)) ⟨[some (.v (AV r))],Γ,Γ.length⟩=some (.v (AV r),⟨[some (.v (AV r))],Γ,Γ.length⟩):=by
     simp[AV]
    rw[List.map_cons]
    unfold Aq
    simp only[AF,Option.bind_some,List.set_cons_zero,mTT,if_true,w,i,Option.map_some]
  exact go rs none hr
 unfold D0 BW Hj
 show (CO _ S).bind _=_
 unfold CO
 rw[Bd (s':=S) (items:=rs.map AV) rfl (by rw[List.length_map,Bj];lia) e]
 show some (_,Γ.take Γ.length)=_
 rw[tk]
theorem SK {d:D} {b:Bool} (h:Dt (.v d) (.v d)=some b):b=true:=by
 cases d<;>simp at h<;>exact h
theorem NU {Γ:Gm} {d:D} {b:Bool} (h:D6 Γ (.v d) (.v d)=some b):b=true:=by
 cases d with
 | lst xs=>cases xs<;>simp at h<;>exact h
 | _=>simp at h
theorem Q0 {Γ:Gm} {d:D} (h:An 6 d=true):ET Γ (.v d) (.v d)=some true:=by simp[h,Qa h]
theorem Sv {Γ:Gm} {d:D} (h:An 6 d=true):BO Γ (.v d) (.v d)=some (.bl false):=by
 have e:=Q0 (Γ:=Γ) h
 unfold BO gNe Ij
 cases h1:Dt (.v d) (.v d) with
 | some b=>rw[SK h1];rfl
 | none=>
  cases h2:D6 Γ (.v d) (.v d) with
  | some b=>rw[NU h2];rfl
  | none=>rw[e];rfl
theorem Qx {t:Str} (h:Tg t):PyData.strOk t=true:=by
 unfold PyData.strOk
 refine Array.all_eq_true'.mpr fun c hc=>?_
 have:=h.2.2 c (Array.mem_toList_iff.mpr hc)
 simp
 lia
theorem Oe {t:Th} (h:Tg t.2) (n:Nat):An (n+1) (thD t)=true:=by
 have e:=Qx h
 unfold thD An
 simp[An,PyData.canLay0,e]
theorem RM {ts:List Th} (h:∀ t∈ts,Tg t.2) (n:Nat):An (n+2) (AV ts)=true:=by
 unfold AV An
 rw[List.all_eq_true]
 intro x hx
 obtain ⟨t,ht,rfl⟩:=List.mem_map.mp hx
 exact Oe (h t ht) n
def Good:Nat->D->Prop
 | _,.int _=>True
 | _,.str _=>True
 | n+1,.tup xs=>xs.length<=100000/\∀ x∈xs,Good n x
 | _,_=>False
open Classical in
def Bf:Nat->List D->Option D
 | 0,_=>none
 | n+1,[a,b]=>if a=b/\Good n a then some (.bl true) else none
 | _,_=>none
open Classical in
theorem HS (n:Nat) (a b:D):Bf (n+1) [a,b]=if a=b/\Good n a then some (D.bl true) else none:=by simp[Bf]
theorem Nv {n:Nat} {a:D} {xs:List D} (ha:∀ i:Int,gIx [] (.v a) (.v (.int i))=atI xs i) (hg:∀ x∈xs,Good n x):Aq (AF 0) (A7 (Ak (Bw (Bf (n+1)) (AB (mOp gIx (AA 1) (AA 0)) (AB (mOp gIx (AA 2) (AA 0)) AC))))) (AA 0) (upTo 0 xs.length) [none,some (.v a),some (.v a)] []=some ([],[]):=by
 obtain ⟨ys,τ',Γ',e,rfl,rfl,_⟩:=Gx (g:=AF 0) (t:=A7 (Ak (Bw (Bf (n+1)) (AB (mOp gIx (AA 1) (AA 0)) (AB (mOp gIx (AA 2) (AA 0)) AC))))) (e:=AA 0) (items:=upTo 0 xs.length)
  (fun _ acc τ Γ=>acc=[]/\Γ=[]/\∃ v,τ=[v,some (.v a),some (.v a)]) (by
   rintro i d acc τ Γ hd ⟨rfl,rfl,v,rfl⟩
   obtain ⟨hi,rfl⟩:=DU hd
   let S:DS:=⟨[some (.v (.int (0+i))),some (.v a),some (.v a)],[],0⟩
   have hx:xs[i]?=some xs[i]:=List.getElem?_eq_getElem hi
   have ea:gIx [] (.v a) (.v (.int (0+i)))=some xs[i]:=by rw[ha,show (0:Int)+(i:Int)=((i:Nat):Int) by lia];exact IK hx
   have w1:mOp gIx (AA 1) (AA 0) S=some (.v xs[i],S):=Ac (x:=.v a) (y:=.v (.int (0+i))) (s1:=S) (s2:=S) rfl rfl ea
   have w2:mOp gIx (AA 2) (AA 0) S=some (.v xs[i],S):=Ac (x:=.v a) (y:=.v (.int (0+i))) (s1:=S) (s2:=S) rfl rfl ea
   have e:Bf (n+1) [xs[i],xs[i]]=some (.bl true):=by rw[HS,if_pos ⟨rfl,hg _ (List.getElem_mem hi)⟩]
   have w3:Bw (Bf (n+1)) (AB (mOp gIx (AA 1) (AA 0)) (AB (mOp gIx (AA 2) (AA 0)) AC)) S=some (.v (.bl true),S):=by
    unfold Bw
    rw[show AB (mOp gIx (AA 1) (AA 0)) (AB (mOp gIx (AA 2) (AA 0)) AC) S=some ([.v xs[i],.v xs[i]],S) by
     unfold AB AC
     rw[w1]
     show (((mOp gIx (AA 2) (AA 0) S).bind _).map _)=_
     rw[w2]
     rfl,Option.bind_some]
    show ((Bf (n+1) [xs[i],xs[i]]).bind _)=_
    rw[e]
    rfl
   refine ⟨S,(false,S),rfl,?_,.inr ⟨rfl,rfl,rfl,rfl,_,rfl⟩⟩
   unfold A7 Ak
   rw[w3]
   rfl) (τ:=[none,some (.v a),some (.v a)]) (Γ:=[]) ⟨rfl,rfl,none,rfl⟩
 exact e
theorem QS {n:Nat} {ds:List D} {r:D} (h:Bf (n+1) ds=some r):mFn 2 (Er (Bf n)) (ds.map .v) []=some (r,[]):=by
 match ds,h with
 | [a,b],h=>
  rw[HS] at h
  split at h
  case isFalse=>cases h
  rename_i hg
  obtain ⟨rfl,hg⟩:=hg
  cases h
  cases a with
  | int i=>simp[Er]
  | str i=>simp[Er]
  | non=>cases n<;>exact hg.elim
  | bl b=>cases n<;>exact hg.elim
  | scr ns=>cases n<;>exact hg.elim
  | dic ks xs=>cases n<;>exact hg.elim
  | lst xs=>cases n<;>exact hg.elim
  | tup xs=>
   cases n with
   | zero=>exact hg.elim
   | succ n=>
    obtain ⟨hl,hg⟩:=hg
    let S:DS:=⟨[some (.v (.tup xs)),some (.v (.tup xs))],[],0⟩
    have q0:BE (AB (AH AX (AB (AA 1) AC)) AC) S=some (upTo 0 xs.length,S):=Hx (Ca (s':=S) (x:=.v (.tup xs)) rfl rfl) (by lia)
    have e:=Nv (a:=.tup xs) (xs:=xs) (fun i=>rfl) hg
    have q1:=A8 (Bd (ix:=[0,1]) (nt:=1) q0 (by rw[CS,Bj];lia) e)
    have t1:Ak (HB ["list","tuple"] (AA 1)) S=some (true,S):=by simp[S]
    have t2:mOr (AK (mOp BO (BM "list" (AA 0)) (BM "list" (AA 1)))) (AK (mOp BO (BM "tuple" (AA 0)) (BM "tuple" (AA 1)))) S=some (false,S):=by simp[S]
    have t3:AK (mOp BO (AH AX (AB (AA 0) AC)) (AH AX (AB (AA 1) AC))) S=some (false,S):=by simp[S]
    have q2:=EC (Ac (g:=BI) q1 nil_of (z:=.bl true) rfl)
    unfold mFn Er
    show (AI _ _ S).bind _=_
    rw[Gj ((DJ t1).trans ((Aa ((B7 t2).trans rfl)).trans ((Aa ((B7 t3).trans rfl)).trans q2)))]
    rfl
section
variable {P:Program} {w:World} {K:PySem.W.Frag} {mg:Str->Option Value} {base:Heap}
open Ev (Nm Cal)
theorem Jb {fa:Addr} {fd:FuncData} (F:Fun K "_law_alike" "_law_alike" Et fa fd) (T:Nm mg) (b:Binds K fd ["found","due"] []) (m:mg "_law_alike"=some (.ref fa)):∀ n,FnOk P w K mg base CX0 n fa fd ["found","due"] (spQ K 2 (Bf n))
 | 0=>⟨fun vs H Q E h=>(by obtain ⟨ds,r,_,_,h,_⟩:=h;cases h),fun A outer s H args us vs Q E hr he hb hv h=>(by obtain ⟨ds,r,_,_,h,_⟩:=h;cases h)⟩
 | n+1=>Te (TM F T ⟨Jb F T b m n,b,F.kp,m⟩) fun ds r hl h _=>⟨[],QS h⟩
end
theorem Rv (n:Nat) (t:Th):Good (n+1) (thD t):=by
 refine ⟨by show (2:Nat)<=100000;decide,fun x hx=>?_⟩
 simp only[List.mem_cons,List.not_mem_nil,or_false] at hx
 rcases hx with rfl | rfl
 ·cases n<;>trivial
 ·cases n<;>trivial
theorem RZ {g g':Gm->SV->SV->Option D} {a b c:ME} {s s1 s2:DS} {x y:SV} (h1:a s=some (x,s1)) (h2:b s1=some (y,s2)) (h3:g s2.Γ x y=some (.bl false)):Bt g g' a b c s=some (.v (.bl false),s2):=by
 unfold Bt
 rw[h1]
 show (b s1).bind _=_
 rw[h2]
 show (g s2.Γ x y).bind _=_
 rw[h3]
 rfl
def NZ:XL.MX:=XL.xFn 2 (FL DH)
theorem PL {Mw:MD} (hw:∀ {i:Int} {Γ:Gm},Mw [.v (.int i)] Γ=some (.bl true,Γ)) {rs:List (List Th)} {k:Int} {Γ:Gm} (hn:rs.length<=big) (hk:¬(0<=k/\k<(total rs:Int))):XL.xFn 2 (FL Mw) [.v (AW rs),.v (.int k)] Γ=some Γ:=by
 have tk:Γ.take Γ.length=Γ:=List.take_length
 let S:DS:=⟨[some (.v (AW rs)),some (.v (.int k))],Γ,Γ.length⟩
 have q1:AJ Mw (AB (AA 1) AC) S=some (.v (.bl true),S):=Bq (s':=S) (x:=.v (.int k)) rfl hw
 have q2:AH BJ (AB (AE (AN (AO (AA 0)) 1 [] (AF 0) mTT (AH AX (AB (AA 0) AC)))) AC) S=some (.v (.int (total rs)),S):=IA rfl hn
 have q3:Bt Cq Af (mC (.int 0)) (AA 1) (AH BJ (AB (AE (AN (AO (AA 0)) 1 [] (AF 0) mTT (AH AX (AB (AA 0) AC)))) AC)) S=some (.v (.bl false),S):=by
  by_cases c1:(0:Int)<=k
  ·have c2:¬k<(total rs:Int):=fun z=>hk ⟨c1,z⟩
   exact Ko (x:=.v (.int 0)) (y:=.v (.int k)) (s1:=S) (s2:=S) rfl rfl (by show some (D.bl (decide ((0:Int)<=k)))=_;rw[decide_eq_true c1]) q2 (by show some (D.bl (decide (k<(total rs:Int))))=_;rw[decide_eq_false c2])
  ·exact RZ (x:=.v (.int 0)) (y:=.v (.int k)) (s1:=S) (s2:=S) rfl rfl (by show some (D.bl (decide ((0:Int)<=k)))=_;rw[decide_eq_false c1])
 have q4:mOr (A7 (Ak (AJ Mw (AB (AA 1) AC)))) (A7 (AK (Bt Cq Af (mC (.int 0)) (AA 1) (AH BJ (AB (AE (AN (AO (AA 0)) 1 [] (AF 0) mTT (AH AX (AB (AA 0) AC)))) AC))))) S=some (true,S):=by
  unfold mOr A7 Ak
  rw[q1]
  simp only[Option.bind_some,Ec,Option.map_some,Bool.not_true,Bool.false_eq_true,if_false,B8 q3,Bool.not_false]
 unfold XL.xFn FL XL.xIf
 show ((mOr _ _ S).bind _).map _=_
 rw[q4]
 show some (Γ.take Γ.length)=_
 rw[tk]
def Q7:XL.MX:=XL.xFn 7 (EA NZ)
def Es:MD:=mFn 4 (Fk Q7)
theorem RG {Xc:XL.MX} {a b:SV} {Γ:Gm} (h:Xc [a,b] Γ=some Γ):mFn 4 (Fk (XL.xFn 7 (EA Xc))) [a,b] Γ=some (.bl true,Γ):=by
 have tk:Γ.take Γ.length=Γ:=List.take_length
 have e:XL.xFn 7 (EA Xc) [a,b] Γ=some Γ:=by
  unfold XL.xFn EA XL.Ep
  show ((((Xc [a,b] Γ).map _)).map _)=_
  rw[h]
  show some (Γ.take Γ.length)=_
  rw[tk]
 unfold mFn Fk XL.Fs XL.Ep
 show ((((XL.xFn 7 (EA Xc) [a,b] Γ).map _).map _).bind _)=_
 rw[e]
 show some (D.bl true,Γ.take Γ.length)=_
 rw[tk]
theorem So {rs:List (List Th)} {k:Int} {Γ:Gm} (hn:rs.length<=big) (hk:¬(0<=k/\k<(total rs:Int))):Es [.v (AW rs),.v (.int k)] Γ=some (.bl true,Γ):=RG (PL Jm hn hk)
theorem Iy {rs:List (List Th)} {m:Nat} (h:∀ r∈rs,r.length<=m):total rs<=rs.length * m:=by
 induction rs with
 | nil=>simp[total]
 | cons r rs ih=>
  have i:=ih fun q hq=>h q (List.mem_cons_of_mem _ hq)
  have:=h r List.mem_cons_self
  show (List.map List.length (r::rs)).sum<=(rs.length+1) * m
  rw[List.map_cons,List.sum_cons,Nat.add_mul]
  have e:total rs=(List.map List.length rs).sum:=rfl
  lia
theorem Sq {rs:List (List Th)} (h:∀ r∈rs,∀ t∈r,Tg t.2):An 6 (AW rs)=true:=by
 unfold AW An
 rw[List.all_eq_true]
 intro x hx
 obtain ⟨r,hr,rfl⟩:=List.mem_map.mp hx
 exact RM (h r hr) 3
structure Facts (Mc:MD) (Md Mr Mo:MDF) (Mn Mk:MD) (Ma:List D->Option D) (Mt Mx:MD):Prop where
 cell:∀ {Γ:Gm} {ns:List Int} {k:Nat},∃ c:Int,Mc [.v (.scr ns),.v (.int k)] Γ=some (.int c,Γ)
 deck:∀ {Γ:Gm} {c:Int},∃ l:List Int,Md [.v (.int c),.v (.int 90)] Γ=some (l.map .int,Γ)/\DkL l
 next:∀ {Γ:Gm} {n:Nat},Dk Γ n->∃ r Γ',Mn [.b n] Γ=some (.int r,Γ')/\0<=r/\r<2 ^ 30/\Dd n Γ Γ'
 rows:∀ {n:Nat} {Γ:Gm},Dk Γ n->∃ (rs:List (List Th)) (Γ':Gm),Mr [.b n] Γ=some (rs.map AV,Γ')/\1<=rs.length/\rs.length<=6/\(∀ r∈rs,r.length<=200/\TgR r)/\Dd n Γ Γ'
 copy:∀ {rs:List (List Th)} {Γ:Gm},rs.length<=1000->(∀ r∈rs,r.length<=1000)->Mo [.v (AW rs)] Γ=some (rs.map AV,Γ)
 law:∀ {rs:List (List Th)} {k:Nat} {Γ:Gm},rs.length<=100->(∀ r∈rs,r.length<=1000)->total rs<=100000->k<total rs->∃ p r',Bz (total rs) (Ae 0 rs) k 0=some (p,r')/\Mk [.v (AW rs),.v (.int k)] Γ=some (.tup [thD (Bs rs p),.int (r':Nat)],Γ)
 alike:∀ {t:Th} {r:Nat},Ma [.tup [thD t,.int (r:Nat)],.tup [thD t,.int (r:Nat)]]=some (.bl true)
 kth:∀ {rs:List (List Th)} {k:Nat} {Γ:Gm},rs.length<=100->total rs<=100000->k<total rs->∃ p r',Bz (total rs) (Ae 0 rs) k 0=some (p,r')/\p∈BR 0 rs/\Mt [.v (AW rs),.v (.int k)] Γ=some (.tup [thD (Bs rs p),.int (r':Nat)],Γ)
 ref:∀ {rs:List (List Th)} {k:Int} {Γ:Gm},rs.length<=big->¬(0<=k/\k<(total rs:Int))->Mx [.v (AW rs),.v (.int k)] Γ=some (.bl true,Γ)
theorem Ob {t:Th} {r:Nat}:Bf 4 [.tup [thD t,.int (r:Nat)],.tup [thD t,.int (r:Nat)]]=some (.bl true):=by
 rw[HS,if_pos]
 refine ⟨rfl,by show (2:Nat)<=100000;decide,fun x hx=>?_⟩
 simp only[List.mem_cons,List.not_mem_nil,or_false] at hx
 rcases hx with rfl | rfl
 ·exact Rv 1 t
 ·trivial
theorem R1 {τ:List (Option SV)} (h:τ.length=10):∃ v1 v2 v3 v4 v5 v6 v7 v8 v9 v10,τ=[v1,v2,v3,v4,v5,v6,v7,v8,v9,v10]:=by
 match τ,h with
 | [v1,v2,v3,v4,v5,v6,v7,v8,v9,v10],_=>exact ⟨v1,v2,v3,v4,v5,v6,v7,v8,v9,v10,rfl⟩
section
variable (ns:List Int) {Mc:MD} {Md Mr Mo:MDF} {Mn Mk:MD} {Ma:List D->Option D} {Mt Mx:MD} (F:Facts Mc Md Mr Mo Mn Mk Ma Mt Mx)
include F
theorem Og {v1 v2 v3 v5 v6 v8 v9 v10:Option SV} {rs:List (List Th)} {a:Nat} {Γ:Gm} (hn:rs.length<=6) (hr:∀ r∈rs,r.length<=200) (ha:a<total rs) :
  ∃ w8,E4 Mc Md Mr Mo Mn Mk Ma Mt Mx ⟨[some (.v (.scr ns)),v1,v2,v3,some (.v (AW rs)),v5,v6,some (.v (.int (a:Nat))),v8,v9,v10],Γ,0⟩=some (.nx ⟨[some (.v (.scr ns)),v1,v2,v3,some (.v (AW rs)),v5,v6,some (.v (.int (a:Nat))),w8,v9,v10],Γ,0⟩):=by
 have ht:total rs<=100000:=by have:=Iy hr;have:rs.length * 200<=6 * 200:=Nat.mul_le_mul_right _ hn;lia
 obtain ⟨p,r',e1,e2⟩:=F.law (Γ:=Γ) (by lia) (fun r h=>by have:=hr r h;lia) ht ha
 obtain ⟨p',r2,e3,_,e4⟩:=F.kth (Γ:=Γ) (by lia) ht ha
 rw[e1] at e3
 cases e3
 let T:D:=.tup [thD (Bs rs p),.int (r':Nat)]
 let S:Option SV->DS:=fun w=>⟨[some (.v (.scr ns)),v1,v2,v3,some (.v (AW rs)),v5,v6,some (.v (.int (a:Nat))),w,v9,v10],Γ,0⟩
 have g1:AM 8 (AJ Mk (AB (AA 4) (AB (AA 7) AC))) (S v8)=some (.nx (S (some (.v T)))):=A2 (Cs (x:=.v (AW rs)) (y:=.v (.int (a:Nat))) (s1:=S v8) (s2:=S v8) rfl rfl e2)
 have q1:AJ Mt (AB (AA 4) (AB (AA 7) AC)) (S (some (.v T)))=some (.v T,S (some (.v T))):=Cs (x:=.v (AW rs)) (y:=.v (.int (a:Nat))) (s1:=S (some (.v T))) (s2:=S (some (.v T))) rfl rfl e4
 have q2:Bw Ma (AB (AJ Mt (AB (AA 4) (AB (AA 7) AC))) (AB (AA 8) AC)) (S (some (.v T)))=some (.v (.bl true),S (some (.v T))):=by
  unfold Bw
  rw[show AB (AJ Mt (AB (AA 4) (AB (AA 7) AC))) (AB (AA 8) AC) (S (some (.v T)))=some ([.v T,.v T],S (some (.v T))) by
   show ((AJ Mt _ _).bind _)=_
   rw[q1]
   rfl,Option.bind_some]
  show ((Ma [T,T]).bind _)=_
  rw[F.alike]
  rfl
 have q3:A7 (Ak (Bw Ma (AB (AJ Mt (AB (AA 4) (AB (AA 7) AC))) (AB (AA 8) AC)))) (S (some (.v T)))=some (false,S (some (.v T))):=by
  unfold A7 Ak
  rw[q2]
  rfl
 have q4:mOr (A7 (Ak (Bw Ma (AB (AJ Mt (AB (AA 4) (AB (AA 7) AC))) (AB (AA 8) AC))))) (A7 (Ak (Bw Ma (AB (AJ Mt (AB (AA 4) (AB (AA 7) AC))) (AB (AA 8) AC))))) (S (some (.v T)))=some (false,S (some (.v T))):=by
  unfold mOr
  rw[q3]
  simp only[Option.bind_some,Bool.false_eq_true,if_false,q3]
 refine ⟨some (.v T),?_⟩
 unfold E4
 show AI _ _ (S v8)=_
 rw[Aa g1,B7 q4]
 rfl
theorem Pm {v1 v2 v3 v5 v6 v7 v8 v9:Option SV} {rs:List (List Th)} {k:Int} {Γ:Gm} (hn:rs.length<=6) (hk:¬(0<=k/\k<(total rs:Int))) :
  Em Mc Md Mr Mo Mn Mk Ma Mt Mx ⟨[some (.v (.scr ns)),v1,v2,v3,some (.v (AW rs)),v5,v6,v7,v8,v9,some (.v (.int k))],Γ,0⟩=some (.nx ⟨[some (.v (.scr ns)),v1,v2,v3,some (.v (AW rs)),v5,v6,v7,v8,v9,some (.v (.int k))],Γ,0⟩):=by
 let S:DS:=⟨[some (.v (.scr ns)),v1,v2,v3,some (.v (AW rs)),v5,v6,v7,v8,v9,some (.v (.int k))],Γ,0⟩
 have q1:AJ Mx (AB (AA 4) (AB (AA 10) AC)) S=some (.v (.bl true),S):=Cs (x:=.v (AW rs)) (y:=.v (.int k)) (s1:=S) (s2:=S) rfl rfl (F.ref (by rw[Bj];lia) hk)
 have q2:A7 (Ak (AJ Mx (AB (AA 4) (AB (AA 10) AC)))) S=some (false,S):=by
  unfold A7 Ak
  rw[q1]
  rfl
 unfold Em
 rw[B7 q2]
 rfl
end
theorem cons_of {m:ME} {ms:MA} {s s1 s2:DS} {x:SV} {xs:List SV} (h1:m s=some (x,s1)) (h2:ms s1=some (xs,s2)):AB m ms s=some (x::xs,s2):=by
 unfold AB;rw[h1];show ((ms s1).map _)=_;rw[h2];rfl
theorem KQ {ms:MA} {s s1:DS} {xs:List SV} {ds:List D} (h1:ms s=some (xs,s1)) (h2:trees xs=some ds) (h3:ds.length<=big):Al ms s=some (ds,s1):=by
 unfold Al;rw[h1];show ((trees xs).bind _)=_;rw[h2];show (if _ then _ else _)=_;rw[if_pos h3]
theorem Si {ms:MA} {s s1:DS} {xs:List SV} {ds:List D} (h1:ms s=some (xs,s1)) (h2:trees xs=some ds) (h3:ds.length<=big):A4 ms s=some (.v (.tup ds),s1):=by
 unfold A4;rw[h1];show ((trees xs).bind _)=_;rw[h2];show (if _ then _ else _)=_;rw[if_pos h3]
theorem R0 {g:Gm->List SV->Option D} {m n:ME} {s s1 s2:DS} {x y:SV} {z:D} (h:m s=some (x,s1)) (h2:n s1=some (y,s2)) (hg:g s2.Γ [x,y]=some z):AH g (AB m (AB n AC)) s=some (.v z,s2):=by
 unfold AH;rw[cons_of h (cons_of h2 (show AC s2=some ([],s2) from rfl))];show ((g s2.Γ [x,y]).map _)=_;rw[hg];rfl
theorem Nu {Γ:Gm} (j:Int):Az Γ (.v (.int j)) (.v (.int 2))=some (.int (j / 2)):=by simp[show ∀ i:Int,Dn i 2=true from fun _=>rfl]
theorem Km {Γ:Gm} {j m:Int} (h:0<m):Ag Γ (.v (.int j)) (.v (.int m))=some (.int (j % m)):=by simp[show Bm j m=true from decide_eq_true h]
theorem TX {m u:ME} {s s1 s2:DS} {xs:List D} {i:Int} (h1:m s=some (.v (.lst xs),s1)) (h2:u s1=some (.v (.int i),s2)):mSl m none (some u) s=some (.v (.lst (cutD xs none (some i))),s2):=by
 unfold mSl EH
 rw[h1]
 simp[h2]
theorem TJ {a b:D} (m:Nat):cutD [a,b] none (some (2 * (m:Int)))=if m=0 then [] else [a,b]:=by
 unfold cutD
 rw[show (2 * (m:Int))=((2 * m:Nat):Int) by lia,HT.T2,HT.O6]
 cases m with
 | zero=>rfl
 | succ m=>
  have:min (2 * (m+1)) [a,b].length=2:=by show min (2 * (m+1)) 2=2;lia
  rw[this]
  rfl
section
variable (ns:List Int) {Mc:MD} {Md Mr Mo:MDF} {Mn Mk:MD} {Ma:List D->Option D} {Mt Mx:MD} (F:Facts Mc Md Mr Mo Mn Mk Ma Mt Mx)
include F
theorem Qd {k:Nat} {v2 v3 v4 v5 v6 v7 v8 v9 v10:Option SV} {Γ:Gm} :
  ∃ (τ:List (Option SV)) (Γ':Gm),(FI Mc Md Mr Mo Mn Mk Ma Mt Mx) ⟨[some (.v (.scr ns)),some (.v (.int k)),v2,v3,v4,v5,v6,v7,v8,v9,v10],Γ,0⟩=some (.nx ⟨some (.v (.scr ns))::τ,Γ',0⟩)/\τ.length=10:=by
 obtain ⟨c,e0⟩:=F.cell (Γ:=Γ) (ns:=ns) (k:=k)
 obtain ⟨l,e1,hl⟩:=F.deck (Γ:=Γ) (c:=c)
 let n:Nat:=Γ.length
 let G0:Gm:=Γ++[some (l.map .int)]
 have d0:Dk G0 n:=⟨l,IL,hl⟩
 obtain ⟨rs,Γ3,f3,h1,h6,hr,dd3⟩:=F.rows d0
 have d3:=dd3.dk d0
 have hrl:∀ r∈rs,r.length<=200:=fun r h=>(hr r h).1
 have hrt:∀ r∈rs,∀ t∈r,Tg t.2:=fun r h=>(hr r h).2
 have ht:total rs<=1200:=by have:=Iy hrl;have:rs.length * 200<=6 * 200:=Nat.mul_le_mul_right _ h6;lia
 let K:Option SV:=some (.v (.scr ns))
 let I:Option SV:=some (.v (.int k))
 let C:Option SV:=some (.v (.int c))
 let B:Option SV:=some (.b n)
 let R:Option SV:=some (.v (AW rs))
 let M:Option SV:=some (.v (.int (total rs)))
 have g1:AM 2 (AJ Mc (AB (AA 0) (AB (AA 1) AC))) ⟨[K,I,v2,v3,v4,v5,v6,v7,v8,v9,v10],Γ,0⟩=some (.nx ⟨[K,I,C,v3,v4,v5,v6,v7,v8,v9,v10],Γ,0⟩):=
  A2 (Cs (x:=.v (.scr ns)) (y:=.v (.int k)) (s1:=⟨[K,I,v2,v3,v4,v5,v6,v7,v8,v9,v10],Γ,0⟩) (s2:=⟨[K,I,v2,v3,v4,v5,v6,v7,v8,v9,v10],Γ,0⟩) rfl rfl e0)
 have g2:BY 3 (Bk Md (AB (AA 2) (AB (mC (.int 90)) AC))) ⟨[K,I,C,v3,v4,v5,v6,v7,v8,v9,v10],Γ,0⟩=some (.nx ⟨[K,I,C,B,v4,v5,v6,v7,v8,v9,v10],G0,0⟩):=by simp[K,I,C,B,n,G0,e1]
 have g3:AM 4 (AE (Bk Mr (AB (AA 3) AC))) ⟨[K,I,C,B,v4,v5,v6,v7,v8,v9,v10],G0,0⟩=some (.nx ⟨[K,I,C,B,R,v5,v6,v7,v8,v9,v10],Γ3,0⟩):=
  A2 (A8 (HF (s':=⟨[K,I,C,B,v4,v5,v6,v7,v8,v9,v10],G0,0⟩) (x:=.b n) rfl f3))
 have g4:AM 5 (AE (Bk Mo (AB (AA 4) AC))) ⟨[K,I,C,B,R,v5,v6,v7,v8,v9,v10],Γ3,0⟩=some (.nx ⟨[K,I,C,B,R,R,v6,v7,v8,v9,v10],Γ3,0⟩):=
  A2 (A8 (HF (s':=⟨[K,I,C,B,R,v5,v6,v7,v8,v9,v10],Γ3,0⟩) (x:=.v (AW rs)) rfl (F.copy (by lia) fun r h=>by have:=hrl r h;lia)))
 have g5:AM 6 (AH BJ (AB (AE (AN (AO (AA 4)) 1 [] (AF 0) mTT (AH AX (AB (AA 0) AC)))) AC)) ⟨[K,I,C,B,R,R,v6,v7,v8,v9,v10],Γ3,0⟩=some (.nx ⟨[K,I,C,B,R,R,M,v7,v8,v9,v10],Γ3,0⟩):=
  A2 (IA (s:=⟨[K,I,C,B,R,R,v6,v7,v8,v9,v10],Γ3,0⟩) rfl (by rw[Bj];lia))
 let SS:Gm->Option SV->Option SV->Option SV->Option SV->DS:=fun G a b c d=>⟨[K,I,C,B,R,R,M,a,b,c,d],G,0⟩
 obtain ⟨x1,Γ4,f4,x10,x11,dd4⟩:=F.next d3
 have d4:=dd4.dk d3
 obtain ⟨x2,Γ5,f5,x20,x21,dd5⟩:=F.next d4
 have d5:=dd5.dk d4
 let mx:Int:=if (total rs:Int) > 1 then (total rs:Int) else 1
 have mx0:0<mx:=by show (0:Int)<if (total rs:Int) > 1 then (total rs:Int) else 1;split<;>lia
 let A:Int:=x1 % mx
 have A0:0<=A:=Int.emod_nonneg _ (by lia)
 have A1:A<mx:=Int.emod_lt_of_pos _ mx0
 have qa:mOp Ag (AJ Mn (AB (AA 3) AC)) (AH C1 (AB (mC (.int 1)) (AB (AA 6) AC))) (SS Γ3 v7 v8 v9 v10)=some (.v (.int A),SS Γ4 v7 v8 v9 v10):=by
  exact Ac (Bq (s':=SS Γ3 v7 v8 v9 v10) (x:=.b n) rfl f4) (R0 (x:=.v (.int 1)) (y:=.v (.int (total rs))) (s1:=SS Γ4 v7 v8 v9 v10) (s2:=SS Γ4 v7 v8 v9 v10) (z:=.int mx) rfl rfl rfl) (Km mx0)
 obtain ⟨Bv,ix,eix,hB⟩:∃ (Bv:Int),∃ ix:Int,atI [D.int 0,.int ((total rs:Int) - 1),.int ((total rs:Int) / 2)] (x2 % 3)=some (.int Bv)/\(0<total rs->0<=Bv/\Bv<(total rs:Int)):=by
  have:x2 % 3=0\/x2 % 3=1\/x2 % 3=2:=by lia
  rcases this with h | h | h<;>rw[h]
  ·exact ⟨0,0,rfl,fun z=>⟨by lia,by lia⟩⟩
  ·exact ⟨(total rs:Int) - 1,0,rfl,fun z=>⟨by lia,by lia⟩⟩
  ·exact ⟨(total rs:Int) / 2,0,rfl,fun z=>⟨by lia,by lia⟩⟩
 have b3:(3:Nat)<=big:=by decide
 have b2:(2:Nat)<=big:=by decide
 have qb:mOp gIx (AE (Al (AB (mC (.int 0)) (AB (mOp A5 (AA 6) (mC (.int 1))) (AB (mOp Az (AA 6) (mC (.int 2))) AC))))) (mOp Ag (AJ Mn (AB (AA 3) AC)) (mC (.int 3))) (SS Γ4 v7 v8 v9 v10)=some (.v (.int Bv),SS Γ5 v7 v8 v9 v10):=by
  let S:=SS Γ4 v7 v8 v9 v10
  have w1:mOp A5 (AA 6) (mC (.int 1)) S=some (.v (.int ((total rs:Int) - 1)),S):=Ac (x:=.v (.int (total rs))) (y:=.v (.int 1)) (s1:=S) (s2:=S) rfl rfl rfl
  have w2:mOp Az (AA 6) (mC (.int 2)) S=some (.v (.int ((total rs:Int) / 2)),S):=Ac (x:=.v (.int (total rs))) (y:=.v (.int 2)) (s1:=S) (s2:=S) rfl rfl (Nu _)
  have w3:AE (Al (AB (mC (.int 0)) (AB (mOp A5 (AA 6) (mC (.int 1))) (AB (mOp Az (AA 6) (mC (.int 2))) AC)))) S=some (.v (.lst [.int 0,.int ((total rs:Int) - 1),.int ((total rs:Int) / 2)]),S):=
   A8 (KQ (cons_of (x:=.v (.int 0)) (s1:=S) rfl (cons_of w1 (cons_of w2 (show AC S=some ([],S) from rfl)))) rfl b3)
  have w4:mOp Ag (AJ Mn (AB (AA 3) AC)) (mC (.int 3)) S=some (.v (.int (x2 % 3)),SS Γ5 v7 v8 v9 v10):=Ac (Bq (s':=S) (x:=.b n) rfl f5) (y:=.v (.int 3)) (s2:=SS Γ5 v7 v8 v9 v10) rfl rfl
  exact Ac w3 w4 eix
 have qs:AO (mSl (AE (Al (AB (mOp Ag (AJ Mn (AB (AA 3) AC)) (AH C1 (AB (mC (.int 1)) (AB (AA 6) AC)))) (AB (mOp gIx (AE (Al (AB (mC (.int 0)) (AB (mOp A5 (AA 6) (mC (.int 1))) (AB (mOp Az (AA 6) (mC (.int 2))) AC))))) (mOp Ag (AJ Mn (AB (AA 3) AC)) (mC (.int 3)))) AC)))) none (some (mOp Bl (mC (.int 2)) (AA 6)))) (SS Γ3 v7 v8 v9 v10)=some (if total rs=0 then [] else [.int A,.int Bv],SS Γ5 v7 v8 v9 v10):=by
  let S:=SS Γ5 v7 v8 v9 v10
  have w1:=A8 (KQ (cons_of qa (cons_of qb (show AC S=some ([],S) from rfl))) (ds:=[.int A,.int Bv]) rfl b2)
  have gen:∀ z:Int,Bl Γ5 (.v (.int 2)) (.v (.int z))=some (.int (2 * z)):=fun z=>by simp[show Cd 2 z=true from decide_eq_true (.inl (by decide))]
  have w2:mOp Bl (mC (.int 2)) (AA 6) S=some (.v (.int (2 * (total rs:Int))),S):=Ac (x:=.v (.int 2)) (y:=.v (.int (total rs))) (s1:=S) (s2:=S) rfl rfl (gen _)
  have w3:=TX w1 w2
  rw[TJ] at w3
  unfold AO
  rw[w3]
  rfl
 obtain ⟨s',e6,a,b,rfl⟩:=C6 (g:=AF 7) (b:=E4 Mc Md Mr Mo Mn Mk Ma Mt Mx) (items:=if total rs=0 then [] else [.int A,.int Bv]) (fun _ s=>∃ a b,s=SS Γ5 a b v9 v10) (by
   rintro i d s hd ⟨a,b,rfl⟩
   have hd':∃ z:Nat,d=.int (z:Int)/\z<total rs:=by
    by_cases c0:total rs=0
    ·rw[if_pos c0] at hd;cases hd
    ·rw[if_neg c0] at hd
     have A1':A<if (total rs:Int) > 1 then (total rs:Int) else 1:=A1
     have hA:A<(total rs:Int):=by split at A1'<;>lia
     obtain ⟨hB0,hB1⟩:=hB (by lia)
     have hm:=List.mem_of_getElem? hd
     simp only[List.mem_cons,List.not_mem_nil,or_false] at hm
     rcases hm with rfl | rfl
     ·exact ⟨A.toNat,by rw[Int.toNat_of_nonneg A0],by lia⟩
     ·exact ⟨Bv.toNat,by rw[Int.toNat_of_nonneg hB0],by lia⟩
   obtain ⟨z,rfl,hz⟩:=hd'
   obtain ⟨w8,ee⟩:=Og ns F (v1:=I) (v2:=C) (v3:=B) (v5:=R) (v6:=M) (v8:=b) (v9:=v9) (v10:=v10) (rs:=rs) (a:=z) (Γ:=Γ5) h6 hrl hz
   exact ⟨SS Γ5 (some (.v (.int z))) b v9 v10,SS Γ5 (some (.v (.int z))) w8 v9 v10,rfl,ee,_,_,rfl⟩)
  (s:=SS Γ5 v7 v8 v9 v10) ⟨v7,v8,rfl⟩
 have g6:=HR (g:=AF 7) (b:=E4 Mc Md Mr Mo Mn Mk Ma Mt Mx) qs e6
 let W:Int:=c % 10 ^ 28
 have W0:0<=W:=Int.emod_nonneg _ (by decide)
 have g7:AM 9 (mOp Ag (AA 2) (mOp CP (mC (.int 10)) (mC (.int 28)))) (SS Γ5 a b v9 v10)=some (.nx (SS Γ5 a b (some (.v (.int W))) v10)):=by
  have w1:mOp CP (mC (.int 10)) (mC (.int 28)) (SS Γ5 a b v9 v10)=some (.v (.int (10 ^ 28)),SS Γ5 a b v9 v10):=by simp[show Ds 10 28=true from rfl]
  refine A2 (Ac (x:=.v (.int c)) (s1:=SS Γ5 a b v9 v10) rfl w1 (Km (by decide)))
 let T:=SS Γ5 a b (some (.v (.int W))) v10
 have qt:AO (A4 (AB (DZ (mC (.int 1))) (AB (AA 6) (AB (mOp Ay (AA 6) (AA 9)) (AB (mOp A5 (DZ (mC (.int 1))) (AA 9)) AC))))) T=some ([.int (-1),.int (total rs),.int ((total rs:Int)+W),.int (-1 - W)],T):=by
  have w0:DZ (mC (.int 1)) T=some (.v (.int (-1)),T):=rfl
  have w1:mOp Ay (AA 6) (AA 9) T=some (.v (.int ((total rs:Int)+W)),T):=Ac (x:=.v (.int (total rs))) (y:=.v (.int W)) (s1:=T) (s2:=T) rfl rfl rfl
  have w2:mOp A5 (DZ (mC (.int 1))) (AA 9) T=some (.v (.int (-1 - W)),T):=Ac w0 (y:=.v (.int W)) (s2:=T) rfl rfl
  have w3:=Si (cons_of w0 (cons_of (m:=AA 6) (x:=.v (.int (total rs))) (s1:=T) rfl (cons_of w1 (cons_of w2 (show AC T=some ([],T) from rfl))))) (ds:=[.int (-1),.int (total rs),.int ((total rs:Int)+W),.int (-1 - W)]) rfl (show (4:Nat)<=big by decide)
  unfold AO
  rw[w3]
  rfl
 obtain ⟨s2,e8,q,rfl⟩:=C6 (g:=AF 10) (b:=Em Mc Md Mr Mo Mn Mk Ma Mt Mx) (items:=[.int (-1),.int (total rs),.int ((total rs:Int)+W),.int (-1 - W)]) (fun _ s=>∃ q,s=SS Γ5 a b (some (.v (.int W))) q) (by
   rintro i d s hd ⟨q,rfl⟩
   have hd':∃ z:Int,d=.int z/\¬(0<=z/\z<(total rs:Int)):=by
    have hm:=List.mem_of_getElem? hd
    simp only[List.mem_cons,List.not_mem_nil,or_false] at hm
    rcases hm with rfl | rfl | rfl | rfl
    ·exact ⟨_,rfl,by lia⟩
    ·exact ⟨_,rfl,by lia⟩
    ·exact ⟨_,rfl,by lia⟩
    ·exact ⟨_,rfl,by lia⟩
   obtain ⟨z,rfl,hz⟩:=hd'
   exact ⟨SS Γ5 a b (some (.v (.int W))) (some (.v (.int z))),_,rfl,Pm ns F h6 hz,_,rfl⟩)
  (s:=T) ⟨v10,rfl⟩
 have g8:=HR (g:=AF 10) (b:=Em Mc Md Mr Mo Mn Mk Ma Mt Mx) qt e8
 let U:=SS Γ5 a b (some (.v (.int W))) q
 have t9:AK (mOp BO (AA 4) (AA 5)) U=some (false,U):=B8 (Ac (x:=.v (AW rs)) (y:=.v (AW rs)) (s1:=U) (s2:=U) rfl rfl (Sv (Sq hrt)))
 refine ⟨[I,C,B,R,R,M,a,b,some (.v (.int W)),q],Γ5,?_,rfl⟩
 unfold FI
 show AI _ _ ⟨[K,I,v2,v3,v4,v5,v6,v7,v8,v9,v10],Γ,0⟩=_
 rw[Aa g1,Aa g2,Aa g3,Aa g4,Aa g5,Aa g6,Aa g7,Aa g8,B7 t9]
 rfl
theorem TB (hl:ns.length<=63):mFn 11 (Ei Mc Md Mr Mo Mn Mk Ma Mt Mx) [.v (.scr ns)] []=some (.bl true,[]):=by
 let S0:DS:=⟨[some (.v (.scr ns)),none,none,none,none,none,none,none,none,none,none],[],0⟩
 have hJ:∃ J:Int,0<=J/\J<=10/\BE (AB (AH C1 (AB (mC (.int 1)) (AB (AH Ey (AB (AH AX (AB (AA 0) AC)) (AB (mC (.int 4)) AC))) AC))) AC) S0=some (upTo 0 J.toNat,S0):=by
  have hr:okR (if (if (4:Int)<(ns.length:Int) then 4 else (ns.length:Int)) > 1 then (if (4:Int)<(ns.length:Int) then 4 else (ns.length:Int)) else 1)=true:=Fh (by split<;>split<;>lia) (by split<;>split<;>lia)
  refine ⟨if (if (4:Int)<(ns.length:Int) then 4 else (ns.length:Int)) > 1 then (if (4:Int)<(ns.length:Int) then 4 else (ns.length:Int)) else 1,by split<;>split<;>lia,by split<;>split<;>lia,?_⟩
  simp only[gt_iff_lt] at hr
  simp[S0,hr]
 obtain ⟨J,J0,J1,hJ⟩:=hJ
 obtain ⟨s',e1,τ,Γ',rfl,_⟩:=C6 (g:=AF 1) (b:=(FI Mc Md Mr Mo Mn Mk Ma Mt Mx)) (items:=upTo 0 J.toNat) (fun _ s=>∃ (τ:List (Option SV)) (Γ':Gm),s=⟨some (.v (.scr ns))::τ,Γ',0⟩/\τ.length=10) (by
   rintro i d s hd ⟨τ,Γ',rfl,hτ⟩
   obtain ⟨hi,rfl⟩:=DU hd
   obtain ⟨v1,v2,v3,v4,v5,v6,v7,v8,v9,v10,rfl⟩:=R1 hτ
   obtain ⟨τ2,Γ2,e2,h2⟩:=Qd ns F (k:=i) (v2:=v2) (v3:=v3) (v4:=v4) (v5:=v5) (v6:=v6) (v7:=v7) (v8:=v8) (v9:=v9) (v10:=v10) (Γ:=Γ')
   exact ⟨_,_,rfl,by rw[show ((0:Int)+i)=i by lia];exact e2,τ2,Γ2,rfl,h2⟩)
  (s:=S0) ⟨_,[],rfl,rfl⟩
 unfold mFn Ei
 show (AI _ _ S0).bind _=_
 rw[Aa (HR hJ e1)]
 simp
end
theorem facts:Facts DY FD Ek D0 Cv ER (Bf 4) EV Es:=⟨NG,QW,Jo,PJ,QN,SQ,Ob,Sr,So⟩
theorem Qm (ns:List Int) (hl:ns.length<=63):mFn 11 (Ei DY FD Ek D0 Cv ER (Bf 4) EV Es) [.v (.scr ns)] []=some (.bl true,[]):=TB ns facts hl
end DL
namespace DL
open PySem L2 HD PySem.W
def tp (i:Nat):Stmt:=PySem.Challenge.pw_evenlots_k41_the_kth_by_counts.main.body.getD i (.Pass ⟨0,0,0,0⟩)
def qv:Program:={PySem.Challenge.pw_evenlots_k41_the_kth_by_counts with main:={PySem.Challenge.pw_evenlots_k41_the_kth_by_counts.main with body:=[tp 29]}}
def lse:List Str:=(PySem.Challenge.pw_evenlots_k41_the_kth_by_counts.main.scope.names.map (·.1)).filter fun x=>!(x == "law")
def fns:List (Str×Stmt):=[("_law_cell_at",tp 18),("_law_stir",tp 19),("_law_deck",tp 20),("_law_next",tp 21),("_law_rows",tp 22),("_law_copy",tp 24),("_law_hands",tp 23),("_law_kth",tp 28),("_law_alike",tp 25),("is_whole",tp 8),("check_counted",tp 13),("names_of_hand",tp 9),("middle_of",tp 14),("post_of_left",tp 15),("count_below",tp 11),("kth_thing",tp 16),("_law_is_no_number",tp 26),("_law_refused",tp 27),("law",tp 29)]
def bls:List Str:=["len","range","isinstance","bool","int","str","list","tuple","zip","enumerate","sorted","max","min","abs","sum","all","any","set"]
def nts:List (Str×Int):=[]
def ob (K:Frag):=(fns.map fun p=>GS K p.1,bls.map fun x=>nsIn K mainGlobals x,nts.map fun p=>Lq K p.1,PySem.W.nsIn K mainGlobals "NoNumber",PySem.W.nsIn K mainGlobals "LotError",PySem.W.nsIn K mainGlobals "NoDeed",PySem.W.nsIn K mainGlobals "NoName",PySem.W.nsIn K mainGlobals "NoRow",PySem.W.nsIn K mainGlobals "NoText",PySem.W.nsIn K mainGlobals "ValueError",PySem.W.excIn K 37 [.type "ValueError",.type "Exception",.type "BaseException",.type "object"] "ValueError.__new__",PySem.W.exmOne K (.ref 37) (.ref 24),PySem.W.findIn K (.ref 37) "__getattribute__",PySem.W.findIn K (.ref 37) "__getattr__",PySem.W.subIn K (.ref 37) (.type "BaseException"),PySem.W.findObj K 37 none "__class__",PySem.W.mroIn K 37 (.type "object"),PySem.W.kitAny K (.ref 37) [.ref 49,.ref 73,.ref 85,.ref 61],PySem.W.kitOne K (.ref 37) (.type "ValueError"))
def vl:List Sn×List (Option (Option Value))×List (Option Int)×Option (Option Value)×Option (Option Value)×Option (Option Value)×Option (Option Value)×Option (Option Value)×Option (Option Value)×Option (Option Value)×Bool×Option Bool×Option (Option Value)×Option (Option Value)×Option Bool×Option Builtin.ObjectAttr.Found×Option Bool×Option Bool×Option Bool:=(fns.map GG,bls.map fun _=>some none,nts.map fun p=>some p.2,some (some (.ref 37)),some (some (.ref 24)),some (some (.ref 49)),some (some (.ref 73)),some (some (.ref 85)),some (some (.ref 61)),some none,true,some true,some (some (.builtin "BaseException.__getattribute__")),some none,some true,some (.bind (.builtin "getset_descriptor.__get__") (.builtin "object.__class__")),some true,some false,some true)
def RUA (w:World) (os:OsState):=(topRun treeTable PySem.Challenge.pw_evenlots_k41_the_kth_by_counts w (boot_heap w.params).objs.size ((boot_heap w.params).nsMap mainGlobals "__annotations__") 100000 ⟨boot_heap w.params,Array.mk [],boot_drawn,boot_toks,os⟩ (topStub PySem.Challenge.pw_evenlots_k41_the_kth_by_counts)).map fun (s:Shared)=>openSeen qv lse (importedModules PySem.Challenge.pw_evenlots_k41_the_kth_by_counts.main.body) (fun _=>true) true s
def RUB (w:World) (os:OsState):=(topRun treeTable PySem.Challenge.pw_evenlots_k41_the_kth_by_counts w (boot_heap w.params).objs.size ((boot_heap w.params).nsMap mainGlobals "__annotations__") 100000 ⟨boot_heap w.params,Array.mk [],boot_drawn,boot_toks,os⟩ (topStub PySem.Challenge.pw_evenlots_k41_the_kth_by_counts)).map fun (s:Shared)=>ob (FR s.heap)
def RUC (w:World) (os:OsState):=(topRun treeTable PySem.Challenge.pw_evenlots_k41_the_kth_by_counts w (boot_heap w.params).objs.size ((boot_heap w.params).nsMap mainGlobals "__annotations__") 100000 ⟨boot_heap w.params,Array.mk [],boot_drawn,boot_toks,os⟩ (topStub PySem.Challenge.pw_evenlots_k41_the_kth_by_counts)).map fun (s:Shared)=>staticsOk (importedModules PySem.Challenge.pw_evenlots_k41_the_kth_by_counts.main.body) (boot_heap w.params) s.heap && namesBound PySem.Challenge.pw_evenlots_k41_the_kth_by_counts s.heap && gensDone s && laidKept (boot_heap w.params) s.heap
theorem Om:RUA=fun _ _=>some (openGood qv lse):=by
 have h0:Function.const _ true RUA=true:=by k_qdec
 clear h0
 rw[PySem.W.Fast.te7901502448135333141,PySem.W.Fast.te17113634627043827754,PySem.W.Fast.te11101308186888466343]
 kernel_rfl
theorem N2:RUB=fun _ _=>some vl:=by
 have h0:Function.const _ true RUB=true:=by k_qdec
 have h1:Function.const _ true vl=true:=by k_qdec
 clear h0 h1
 rw[PySem.W.Fast.te2813855401462900763,PySem.W.Fast.te15028064660855214787]
 kernel_rfl
theorem RD:RUC=fun _ _=>some true:=by
 have h0:Function.const _ true RUC=true:=by k_qdec
 clear h0
 rw[PySem.W.Fast.te7225883687914735966]
 kernel_rfl
end DL
namespace DL
open PySem L2
theorem Rj {K:PySem.W.Frag} {M:MD} {ns:List Int} {H:Hp} {a:Addr} {Γ:Gm} (h:M [.v (.scr ns)] []=some (.bl true,Γ)) (hS:SqL K H a (ns.map V.int)):spD K 1 M [.ref a] H (fun v _=>v=.bl true) fun _ _ _=>False:=by
 refine ⟨frQ K H,fun _=>0,emp,[],[.v (.scr ns)],_,rfl,rfl,Ls,.cons ?_ .nil,h,fun α' v H' _ _ hv=>?_⟩
 ·show Rep _ (.scr ns) (.ref a)
  unfold Rep
  refine ⟨a,rfl,?_⟩
  rcases hS with h | h
  ·refine .inl ⟨fun z=>?_,h⟩
   rcases z with z | ⟨n,xs,z,_⟩
   ·exact z
   ·cases z
  ·exact .inr fun H'=>.inr h
 ·unfold Rep at hv
  exact hv
def Gk:MD:=mFn 11 (Ei DY FD Ek D0 Cv ER (Bf 4) EV Es)
theorem OE (ns:List Int) (hl:ns.length<=63):Gk [.v (.scr ns)] []=some (.bl true,[]):=Qm ns hl
end DL
namespace L2
open PySem
theorem Fun.bi1 {K:PySem.W.Frag} {x qual:Str} {st:Stmt} {f:Addr} {fd:FuncData} {p1:Str} (F:Fun K x qual st f fd) (h:∀ (kV doc pm:Value) (an:Option Addr) (cdv ct a1:Value),bindArgs (PySem.W.fnOf x qual (Dx st) (CM st) (AU st) .none kV doc pm an cdv ct) ⟨[a1],[]⟩=pure [(p1,a1)]):Binds K fd [p1] []:=
 F.binds fun kV doc pm an cdv ct us hl=>match us,hl with | [a1],_=>h kV doc pm an cdv ct a1
theorem Fun.bi2 {K:PySem.W.Frag} {x qual:Str} {st:Stmt} {f:Addr} {fd:FuncData} {p1 p2:Str} (F:Fun K x qual st f fd) (h:∀ (kV doc pm:Value) (an:Option Addr) (cdv ct a1 a2:Value),bindArgs (PySem.W.fnOf x qual (Dx st) (CM st) (AU st) .none kV doc pm an cdv ct) ⟨[a1,a2],[]⟩=pure [(p1,a1),(p2,a2)]):Binds K fd [p1,p2] []:=
 F.binds fun kV doc pm an cdv ct us hl=>match us,hl with | [a1,a2],_=>h kV doc pm an cdv ct a1 a2
end L2
namespace DL
open PySem L2 Ev HD PySem.W
theorem all_mk {l:OpenLaw} {w:World} {K:Frag} {h:Heap} {mg:Str->Option Value} {fa:Addr} (O:ob K=vl) (X:K.In h) (G:h.Ns mainGlobals mg) (hfa:mg "law"=some (.ref fa)) :
  ∃ fd:FuncData,(∀ (s:Shared) (v:Value),BindsTo s fd ⟨[v],[]⟩ [("script",v)])/\∀ base:Heap,K.In base->base.Ns mainGlobals mg->FnOk l.prog w K mg base CX0 5 fa fd ["script"] (spD K 1 Gk):=by
 have oF:fns.map (fun p=>GS K p.1)=fns.map GG:=congrArg Prod.fst O
 have oB:bls.map (fun x=>nsIn K mainGlobals x)=bls.map fun _=>some none:=congrArg (·.2.1) O
 have oN:nts.map (fun p=>Lq K p.1)=nts.map fun p=>some p.2:=congrArg (·.2.2.1) O
 obtain ⟨f1,d1,a1,F1⟩:=BQ (x:="_law_cell_at") (st:=Ia) (BH (i:=0) oF rfl)
 obtain ⟨f2,d2,a2,F2⟩:=BQ (x:="_law_stir") (st:=Gw) (BH (i:=1) oF rfl)
 obtain ⟨f3,d3,a3,F3⟩:=BQ (x:="_law_deck") (st:=HU) (BH (i:=2) oF rfl)
 obtain ⟨f4,d4,a4,F4⟩:=BQ (x:="_law_next") (st:=Gz) (BH (i:=3) oF rfl)
 obtain ⟨f5,d5,a5,F5⟩:=BQ (x:="_law_rows") (st:=HY) (BH (i:=4) oF rfl)
 obtain ⟨f6,d6,a6,F6⟩:=BQ (x:="_law_copy") (st:=GI) (BH (i:=5) oF rfl)
 obtain ⟨f7,d7,a7,F7⟩:=BQ (x:="_law_hands") (st:=Fe) (BH (i:=6) oF rfl)
 obtain ⟨f8,d8,a8,F8⟩:=BQ (x:="_law_kth") (st:=De) (BH (i:=7) oF rfl)
 obtain ⟨f9,d9,a9,F9⟩:=BQ (x:="_law_alike") (st:=Et) (BH (i:=8) oF rfl)
 obtain ⟨f10,d10,a10,F10⟩:=BQ (x:="is_whole") (st:=Ie) (BH (i:=9) oF rfl)
 obtain ⟨f11,d11,a11,F11⟩:=BQ (x:="check_counted") (st:=DK) (BH (i:=10) oF rfl)
 obtain ⟨f12,d12,a12,F12⟩:=BQ (x:="names_of_hand") (st:=GM) (BH (i:=11) oF rfl)
 obtain ⟨f13,d13,a13,F13⟩:=BQ (x:="middle_of") (st:=HZ) (BH (i:=12) oF rfl)
 obtain ⟨f14,d14,a14,F14⟩:=BQ (x:="post_of_left") (st:=GR) (BH (i:=13) oF rfl)
 obtain ⟨f15,d15,a15,F15⟩:=BQ (x:="count_below") (st:=GV) (BH (i:=14) oF rfl)
 obtain ⟨f16,d16,a16,F16⟩:=BQ (x:="kth_thing") (st:=Cy) (BH (i:=15) oF rfl)
 obtain ⟨f17,d17,a17,F17⟩:=BQ (x:="_law_is_no_number") (st:=Gv) (BH (i:=16) oF rfl)
 obtain ⟨f18,d18,a18,F18⟩:=BQ (x:="_law_refused") (st:=IY) (BH (i:=17) oF rfl)
 obtain ⟨f19,d19,a19,F19⟩:=BQ (x:="law") (st:=GL) (BH (i:=18) oF rfl)
 have e:=hfa.symm.trans (mg_of X G a19)
 cases e
 have b1:=F1.bi2 (p1:="script") (p2:="k") fun _ _ _ _ _ _ _ _=>rfl
 have m1:=mg_of X G a1
 have k1:=F1.kp
 have b2:=F2.bi2 (p1:="cell") (p2:="k") fun _ _ _ _ _ _ _ _=>rfl
 have m2:=mg_of X G a2
 have k2:=F2.kp
 have b3:=F3.bi2 (p1:="cell") (p2:="many") fun _ _ _ _ _ _ _ _=>rfl
 have m3:=mg_of X G a3
 have k3:=F3.kp
 have b4:=F4.bi1 (p1:="deck") fun _ _ _ _ _ _ _=>rfl
 have m4:=mg_of X G a4
 have k4:=F4.kp
 have b5:=F5.bi1 (p1:="deck") fun _ _ _ _ _ _ _=>rfl
 have m5:=mg_of X G a5
 have k5:=F5.kp
 have b6:=F6.bi1 (p1:="rows") fun _ _ _ _ _ _ _=>rfl
 have m6:=mg_of X G a6
 have k6:=F6.kp
 have b7:=F7.bi1 (p1:="rows") fun _ _ _ _ _ _ _=>rfl
 have m7:=mg_of X G a7
 have k7:=F7.kp
 have b8:=F8.bi2 (p1:="rows") (p2:="k") fun _ _ _ _ _ _ _ _=>rfl
 have m8:=mg_of X G a8
 have k8:=F8.kp
 have b9:=F9.bi2 (p1:="found") (p2:="due") fun _ _ _ _ _ _ _ _=>rfl
 have m9:=mg_of X G a9
 have k9:=F9.kp
 have b10:=F10.bi1 (p1:="thing") fun _ _ _ _ _ _ _=>rfl
 have m10:=mg_of X G a10
 have k10:=F10.kp
 have b11:=F11.bi2 (p1:="rows") (p2:="k") fun _ _ _ _ _ _ _ _=>rfl
 have m11:=mg_of X G a11
 have k11:=F11.kp
 have b12:=F12.bi2 (p1:="row") (p2:="hand") fun _ _ _ _ _ _ _ _=>rfl
 have m12:=mg_of X G a12
 have k12:=F12.kp
 have b13:=F13.bi1 (p1:="names") fun _ _ _ _ _ _ _=>rfl
 have m13:=mg_of X G a13
 have k13:=F13.kp
 have b14:=F14.bi1 (p1:="left") fun _ _ _ _ _ _ _=>rfl
 have m14:=mg_of X G a14
 have k14:=F14.kp
 have b15:=F15.bi2 (p1:="parts") (p2:="post") fun _ _ _ _ _ _ _ _=>rfl
 have m15:=mg_of X G a15
 have k15:=F15.kp
 have b16:=F16.bi2 (p1:="rows") (p2:="k") fun _ _ _ _ _ _ _ _=>rfl
 have m16:=mg_of X G a16
 have k16:=F16.kp
 have b17:=F17.bi1 (p1:="caught") fun _ _ _ _ _ _ _=>rfl
 have m17:=mg_of X G a17
 have k17:=F17.kp
 have b18:=F18.bi2 (p1:="rows") (p2:="k") fun _ _ _ _ _ _ _ _=>rfl
 have m18:=mg_of X G a18
 have k18:=F18.kp
 have b19:=F19.bi1 (p1:="script") fun _ _ _ _ _ _ _=>rfl
 have B:=fun i x (z:bls[i]?=some x)=>mg_none_of X G (BH oB z)
 have T:Nm mg:=⟨B 0 _ rfl,B 1 _ rfl,B 2 _ rfl,B 3 _ rfl,B 4 _ rfl,B 5 _ rfl,B 6 _ rfl,B 7 _ rfl,B 8 _ rfl,B 9 _ rfl,B 10 _ rfl,B 11 _ rfl,B 12 _ rfl,B 13 _ rfl,B 14 _ rfl,B 15 _ rfl,B 16 _ rfl,B 17 _ rfl⟩
 have u1:PySem.W.nsIn K mainGlobals "NoNumber"=some (some (.ref 37)):=congrArg (·.2.2.2.1) O
 have u2:PySem.W.nsIn K mainGlobals "LotError"=some (some (.ref 24)):=congrArg (·.2.2.2.2.1) O
 have u3:PySem.W.nsIn K mainGlobals "NoDeed"=some (some (.ref 49)):=congrArg (·.2.2.2.2.2.1) O
 have u4:PySem.W.nsIn K mainGlobals "NoName"=some (some (.ref 73)):=congrArg (·.2.2.2.2.2.2.1) O
 have u5:PySem.W.nsIn K mainGlobals "NoRow"=some (some (.ref 85)):=congrArg (·.2.2.2.2.2.2.2.1) O
 have u6:PySem.W.nsIn K mainGlobals "NoText"=some (some (.ref 61)):=congrArg (·.2.2.2.2.2.2.2.2.1) O
 have u7:PySem.W.nsIn K mainGlobals "ValueError"=some none:=congrArg (·.2.2.2.2.2.2.2.2.2.1) O
 have u8:PySem.W.excIn K 37 [.type "ValueError",.type "Exception",.type "BaseException",.type "object"] "ValueError.__new__"=true:=congrArg (·.2.2.2.2.2.2.2.2.2.2.1) O
 have u9:PySem.W.exmOne K (.ref 37) (.ref 24)=some true:=congrArg (·.2.2.2.2.2.2.2.2.2.2.2.1) O
 have u10:PySem.W.findIn K (.ref 37) "__getattribute__"=some (some (.builtin "BaseException.__getattribute__")):=congrArg (·.2.2.2.2.2.2.2.2.2.2.2.2.1) O
 have u15:PySem.W.findIn K (.ref 37) "__getattr__"=some none:=congrArg (·.2.2.2.2.2.2.2.2.2.2.2.2.2.1) O
 have u16:PySem.W.subIn K (.ref 37) (.type "BaseException")=some true:=congrArg (·.2.2.2.2.2.2.2.2.2.2.2.2.2.2.1) O
 have u11:PySem.W.findObj K 37 none "__class__"=some (.bind (.builtin "getset_descriptor.__get__") (.builtin "object.__class__")):=congrArg (·.2.2.2.2.2.2.2.2.2.2.2.2.2.2.2.1) O
 have u12:PySem.W.mroIn K 37 (.type "object")=some true:=congrArg (·.2.2.2.2.2.2.2.2.2.2.2.2.2.2.2.2.1) O
 have u13:PySem.W.kitAny K (.ref 37) [.ref 49,.ref 73,.ref 85,.ref 61]=some false:=congrArg (·.2.2.2.2.2.2.2.2.2.2.2.2.2.2.2.2.2.1) O
 have u14:PySem.W.kitOne K (.ref 37) (.type "ValueError")=some true:=congrArg (·.2.2.2.2.2.2.2.2.2.2.2.2.2.2.2.2.2.2) O
 refine ⟨d19,fun s v=>?_,fun base _ _=>?_⟩
 ·obtain ⟨_,_,_,_,_,_,_,_,_,z,_⟩:=F19.ex
  subst z
  exact .of_eq rfl
 have cls:XL.ClsF K mg 37 24 49 73 85 61:=⟨PySem.W.mg_of X G u1,PySem.W.mg_of X G u2,PySem.W.mg_of X G u3,PySem.W.mg_of X G u4,PySem.W.mg_of X G u5,PySem.W.mg_of X G u6,PySem.W.mg_none_of X G u7,u8,u9,u10,u15,u16,u11,u12,u13,u14⟩
 have h1:Cal l.prog w K mg base "_law_cell_at" 1 f1 _ ["script","k"] (spD K 2 DY):=⟨OX F1 T,b1,k1,m1⟩
 have h2:Cal l.prog w K mg base "_law_stir" 1 f2 _ ["cell","k"] (spD K 2 EX):=⟨T7 F2 T,b2,k2,m2⟩
 have h3:Cal l.prog w K mg base "_law_deck" 2 f3 _ ["cell","many"] (spF K 2 FD):=⟨Se F3 T h2,b3,k3,m3⟩
 have h4:Cal l.prog w K mg base "_law_next" 1 f4 _ ["deck"] (spD K 1 Cv):=⟨S6 F4 T,b4,k4,m4⟩
 have h5:Cal l.prog w K mg base "_law_rows" 2 f5 _ ["deck"] (spF K 1 Ek):=⟨OD F5 T h4 h2,b5,k5,m5⟩
 have h6:Cal l.prog w K mg base "_law_copy" 4 f6 _ ["rows"] (spF K 1 D0):=⟨Rk F6 T,b6,k6,m6⟩
 have h7:Cal l.prog w K mg base "_law_hands" 1 f7 _ ["rows"] (spF K 1 FM):=⟨PK F7 T,b7,k7,m7⟩
 have h8:Cal l.prog w K mg base "_law_kth" 2 f8 _ ["rows","k"] (spD K 2 ER):=⟨TV F8 T h7,b8,k8,m8⟩
 have h9:Cal l.prog w K mg base "_law_alike" 4 f9 _ ["found","due"] (spQ K 2 (Bf 4)):=⟨Jb F9 T b9 m9 4,b9,k9,m9⟩
 have h10:Cal l.prog w K mg base "is_whole" 1 f10 _ ["thing"] (spD K 1 DH):=⟨Rm F10 T,b10,k10,m10⟩
 have h11:Cal l.prog w K mg base "check_counted" 2 f11 _ ["rows","k"] (spD K 2 GH):=⟨SI F11 T h10,b11,k11,m11⟩
 have h12:Cal l.prog w K mg base "names_of_hand" 1 f12 _ ["row","hand"] (spF K 2 GY):=⟨Nj F12 T,b12,k12,m12⟩
 have h13:Cal l.prog w K mg base "middle_of" 1 f13 _ ["names"] (spD K 1 GZ):=⟨QC F13 T,b13,k13,m13⟩
 have h14:Cal l.prog w K mg base "post_of_left" 2 f14 _ ["left"] (spD K 1 Hv):=⟨QJ F14 T h13,b14,k14,m14⟩
 have h15:Cal l.prog w K mg base "count_below" 1 f15 _ ["parts","post"] (spD K 2 Mcb):=⟨PD F15 T,b15,k15,m15⟩
 have h16:Cal l.prog w K mg base "kth_thing" 3 f16 _ ["rows","k"] (spD K 2 EV):=⟨Tf F16 T h11 h12 h14 h15,b16,k16,m16⟩
 have h18:Cal l.prog w K mg base "_law_refused" 4 f18 _ ["rows","k"] (spD K 2 Es):=⟨NI F18 cls ⟨Nb F16 T cls ⟨Rc F11 T cls h10,b11,k11,m11⟩,b16,k16,m16⟩ ⟨RN F17 T cls,b17,k17,m17⟩,b18,k18,m18⟩
 exact SJ F19 T h1 h3 h5 h6 h4 h8 h9 h16 h18
end DL
open PySem PySem.W PyProof.Rows
theorem PySem.Challenge.cw_evenlots_k41_the_kth_by_counts_holds : PySem.Challenge.rw_evenlots_k41_the_kth_by_counts.Holds := by
 w_on
 o_law
 refine HD.UK (l:=PySem.Challenge.rw_evenlots_k41_the_kth_by_counts) (q:=DL.qv) (loose:=DL.lse) (N:=100000) (obs:=DL.ob) (val:=DL.vl) (by assumption) rfl rfl (fun _=>rfl) (fun w os=>congrFun (congrFun DL.Om w) os) (fun w os=>congrFun (congrFun DL.N2 w) os) (fun w os=>congrFun (congrFun DL.RD w) os) (by rfl) (by rfl) (by rfl) rfl (by decide +kernel) ⟨rfl,rfl,rfl,rfl,rfl,by decide +kernel⟩ ?hw ?hc
 case hw=>w_witness2
 case hc=>exact HD.NR (n:=63) (k:=5) (x:="script") (sp:=fun K=>DL.spD K 1 DL.Gk) rfl (by decide) rfl ⟨rfl,by decide,by decide,rfl⟩ (fun _ _ _ _ _ O X G m=>DL.all_mk O X G m) fun _ _ _ ns hl _ hS=>DL.Rj (DL.OE ns hl) hS
