import PyProof.Rows.All
import Wide.All
import OpenK.AllK
import Wide.FinOn
import Lean
import PyProof.EqAt
import PyProof.EqKinds
import PyProof.TupleCall
import PyProof.Rows.SortRuns
import PyProof.Rows.SortShell
import KE.KSortTup
import PyProof.DictKinds
import PyProof.StrOps
import PyProof.NeKinds
import PyProof.NeData
import PyProof.P3In
import PyProof.Rows.SumAny
import PyProof.FString5
import PyProof.StrWalks
import PyProof.Rows.Range3
import PyProof.SeqI3
import PyProof.SetKind
import PyProof.Rows.SetFrom
import PyProof.FactsAll.set
import PyProof.DictIter
import PyProof.CollectWalk
import KE.KEqDict
import PyProof.AttrMissHeap
import KE.KDictOf
import PyProof.ListRange
import PyProof.StrCalls
import PyProof.StrCalls2
import PyProof.StrLawsTight
import KE.KIntText
import KE.IntTextLaws
import PyProof.FactsAll.str_6
import PyProof.MeetsStr
import PyProof.StrOps2
import PyProof.ReprRoads
import PyProof.ExcStrCall
import KE.KCallOwn
import KE.KFmtOwn
import PySem.Challenge.RW_evenlots_k01_what_are_rows
set_option Elab.async false
set_option linter.all false
set_option maxRecDepth 100000
set_option maxHeartbeats 0
noncomputable section
namespace L2
open PySem PySem.Spec PyProof.Rows
abbrev Key:=Sum Int Str
def Do:Key->Value->Bool
 | .inl k,v=>Value.isInt k v
 | .inr x,v=>Value.isStrOf x v
def Sw (w:World):Key->Int
 | .inl k=>hashInt k
 | .inr x=>hashStr w x
theorem Cq:∀ {k:Key} {v:Value},Do k v=true->(∃ i t,k=Sum.inl i/\v=Value.int i t)\/(∃ x t,k=Sum.inr x/\v=Value.str x t)
 | .inl i,v,h=>by
  obtain ⟨t,e⟩:=Value.isInt_shape (k:=i) (v:=v) h
  exact .inl ⟨i,t,rfl,e⟩
 | .inr x,v,h=>by
  obtain ⟨t,e⟩:=Value.isStrOf_shape (x:=x) (v:=v) h
  exact .inr ⟨x,t,rfl,e⟩
theorem Qb (i:Int) (t:Tok):Do (.inl i) (.int i t)=true:=by simp[Do,Value.isInt]
theorem M4 (x:Str) (t:Tok):Do (.inr x) (.str x t)=true:=by simp[Do,Value.isStrOf]
theorem Oq (a b:Int):decide ((Sum.inl a:Key)=Sum.inl b)=(a == b):=by
 by_cases e:a=b
 ·subst e;simp
 ·have h:¬(Sum.inl a:Key)=Sum.inl b:=fun q=>e (Sum.inl.inj q)
  rw[decide_eq_false h]
  exact (beq_eq_false_iff_ne.mpr e).symm
theorem M9 (a b:Str):decide ((Sum.inr a:Key)=Sum.inr b)=decide (a=b):=by
 by_cases e:a=b
 ·subst e;simp
 ·have h:¬(Sum.inr a:Key)=Sum.inr b:=fun q=>e (Sum.inr.inj q)
  rw[decide_eq_false h,decide_eq_false e]
theorem Rp (a:Int) (b:Str):decide ((Sum.inl a:Key)=Sum.inr b)=false:=decide_eq_false (fun q=>nomatch q)
theorem Nz (a:Str) (b:Int):decide ((Sum.inr a:Key)=Sum.inl b)=false:=decide_eq_false (fun q=>nomatch q)
def Bq (prog:Program) (w:World):PySem.KeyKind prog w Key where
 is:=Do
 hash:=Sw w
 inj:=fun v a b ha hb=>by
  rcases Cq ha with ⟨i,t,rfl,rfl⟩ | ⟨x,t,rfl,rfl⟩
  ·rcases Cq hb with ⟨j,u,rfl,e⟩ | ⟨y,u,rfl,e⟩
   ·injection e with e1 _;rw[e1]
   ·exact nomatch e
  ·rcases Cq hb with ⟨j,u,rfl,e⟩ | ⟨y,u,rfl,e⟩
   ·exact nomatch e
   ·injection e with e1 _;rw[e1]
 byValue:=fun k v h=>by
  rcases Cq h with ⟨i,t,rfl,rfl⟩ | ⟨x,t,rfl,rfl⟩<;>rfl
 pyHash:=fun hv h=>by
  rcases Cq hv with ⟨i,t,rfl,rfl⟩ | ⟨x,t,rfl,rfl⟩
  ·exact wpAny_pyHash_int h
  ·exact wpAny_pyHash_str h
 eqBool:=fun hu hv h=>by
  rcases Cq hu with ⟨i,t,rfl,rfl⟩ | ⟨x,t,rfl,rfl⟩
  ·rcases Cq hv with ⟨j,u,rfl,rfl⟩ | ⟨y,u,rfl,rfl⟩
   ·rw[Oq] at h;exact wpAny_eqBool_int h
   ·rw[Rp] at h;exact SeqAt.EqAt.int_str i t y u _ _ _ _ h
  ·rcases Cq hv with ⟨j,u,rfl,rfl⟩ | ⟨y,u,rfl,rfl⟩
   ·rw[Nz] at h;exact SeqAt.EqAt.str_int x t j u _ _ _ _ h
   ·rw[M9] at h;exact wpAny_eqBool_str h
 «strs»:=fun k x t v h=>by
  rcases Cq h with ⟨i,u,rfl,e⟩ | ⟨y,u,rfl,e⟩
  ·exact nomatch e
  ·injection e with e1 _
   subst e1
   cases v<;>rfl
theorem P8 (prog:Program) (w:World) (i:Int) (t:Tok):(Bq prog w).is (.inl i) (.int i t)=true:=Qb i t
theorem Na (prog:Program) (w:World) (x:Str) (t:Tok):(Bq prog w).is (.inr x) (.str x t)=true:=M4 x t
inductive V where
 | non | bl (b:Bool) | int (i:Int) | str (x:Str) | byt (b:Array UInt8) | flt (b:UInt64) | ref (a:Addr) | ty (n:String)
 deriving DecidableEq
def RelV:V->Value->Prop
 | .non,u=>u=Value.none
 | .bl b,u=>u=Value.bool b
 | .int i,u=>∃ t,u=Value.int i t
 | .str x,u=>∃ t,u=Value.str x t
 | .byt b,u=>∃ t,u=Value.bytes b t
 | .flt b,u=>∃ t,u=Value.float b t
 | .ref a,u=>u=Value.ref a
 | .ty n,u=>u=Value.type n
abbrev Vals:List V->List Value->Prop:=Paired RelV
theorem Vals.length {xs:List V} {us:List Value} (r:Vals xs us):xs.length=us.length:=Paired.length r
theorem Vals.get:∀ {xs:List V} {us:List Value} {i:Nat} {x:V},Vals xs us->xs[i]?=some x->∃ u,us[i]?=some u/\RelV x u
 | _,_,_,_,.nil,e=>by simp at e
 | _,_,0,_,.cons r _,e=>by simp at e;subst e;exact ⟨_,rfl,r⟩
 | _,_,i+1,x,.cons _ t,e=>by
  obtain ⟨u,h1,h2⟩:=Vals.get (i:=i) (x:=x) t (by simpa using e)
  exact ⟨u,by simpa using h1,h2⟩
theorem Vals.set {x:V} {u:Value} (r:RelV x u):∀ {xs:List V} {us:List Value} (i:Nat),Vals xs us->Vals (xs.set i x) (us.set i u)
 | _,_,_,.nil=>.nil
 | _,_,0,.cons _ t=>.cons r t
 | _,_,i+1,.cons q t=>.cons q (Vals.set r i t)
theorem Vals.append:∀ {xs ys:List V} {us ws:List Value},Vals xs us->Vals ys ws->Vals (xs++ys) (us++ws)
 | _,_,_,_,.nil,s=>s
 | _,_,_,_,.cons r t,s=>.cons r (Vals.append t s)
theorem Vals.take:∀ {xs:List V} {us:List Value} (n:Nat),Vals xs us->Vals (xs.take n) (us.take n)
 | _,_,0,_=>.nil
 | _,_,_+1,.nil=>.nil
 | _,_,n+1,.cons r t=>.cons r (Vals.take n t)
theorem Vals.drop:∀ {xs:List V} {us:List Value} (n:Nat),Vals xs us->Vals (xs.drop n) (us.drop n)
 | _,_,0,r=>r
 | _,_,_+1,.nil=>.nil
 | _,_,n+1,.cons _ t=>Vals.drop n t
def Hs:Option V->Option Value->Prop
 | some v,some u=>RelV v u
 | none,none=>True
 | _,_=>False
def KV {κ:Type}:List (κ×V)->List (κ×Value)->Prop:=Paired fun (p:κ×V) (q:κ×Value)=>p.1=q.1/\RelV p.2 q.2
def kV:Key->V
 | .inl i=>.int i
 | .inr x=>.str x
inductive HO where
 | lst (xs:List V)
 | tup (xs:List V)
 | dK (kvs:List (Key×V)) | dT (kvs:List (List Key×V))
 | set (S:Int->Bool) (n:Nat)
 | ins (C dx:Addr) (fs:List (Str×V))
 | own (x:Addr)
 | xd (fs:List (Str×V))
 | met (f x:Addr)
 | rng (lo hi:Int)
 | frz (o:Obj) (u:HO)
 | tbl (ps:Array Value)
 | ext (φ:Heap->Prop)
abbrev Hp:=Addr->Option HO
def upd (H:Hp) (a:Addr) (o:HO):Hp:=fun b=>if b=a then some o else H b
theorem An {H:Hp} {a:Addr} {o:HO}:upd H a o a=some o:=by unfold upd;rw[if_pos rfl]
theorem AO {H:Hp} {a b:Addr} {o:HO} (h:b≠a):upd H a o b=H b:=by unfold upd;rw[if_neg h]
theorem A0 {H:Hp} {a b:Addr} {o:HO} (h:H a=some o) (h':H b=none):a≠b:=by
 intro e;subst e;rw[h] at h';cases h'
section
variable (P:Program) (w:World)
def ObjOk (H:Hp) (h:Heap) (a:Addr):HO->Prop
 | .lst xs=>xs.length<=sizeLine/\∃ (its:List Value) (n:Nat),Vals xs its/\h.get? a=some {cls:=.type "list",data:=.seq its.toArray n}
 | .tup xs=>xs.length<=sizeLine/\∃ its:List Value,Vals xs its/\IsTup h a its.toArray
 | .dK kvs=>kvs.length<=sizeLine/\(a == sysModules)=false/\∃ vs,KV kvs vs/\h.DictOf (Bq P w) a vs
 | .dT kvs=>kvs.length<=sizeLine/\(a == sysModules)=false/\∃ xs:List (List Key×Addr×Value),
   Paired (fun (p:List Key×V) (q:List Key×Addr×Value)=>p.1=q.1/\H q.2.1=some (.tup (p.1.map kV))/\RelV p.2 q.2.2) kvs xs /\
   ∃ o es ep,h.get? a=some o/\o.ExactDict/\o.data=.dict es ep/\es.toList=xs.map (entryOfKey (tupleKind (Bq P w)))/\(xs.map (·.1)).Nodup
 | .set S n=>h.SetOf (intKind P w) a S n
 | .ins C dx fs=>H dx=some (.own a)/\fs.length<=1000/\dx≠a/\h.get? a=some (PySem.W.instObj C dx) /\
   ∃ mA,h.Ns1 dx mA/\(∀ f,Hs (fs.lookup f) (mA f))/\PySem.Within mA (fs.map (·.1))
 | .own _=>∃ o,h.get? a=some o
 | .xd fs=>∃ mA,h.Ns1 a mA/\∀ f,Hs (fs.lookup f) (mA f)
 | .rng lo hi=>∃ t u v,h.get? a=some {cls:=.type "range",data:=.fields #[.int lo t,.int hi u,.int 1 v]}
 | .frz o u=>h.get? a=some o/\ObjOk H h a u
 | .tbl ps=>h.get? a=some {cls:=.none,data:=.fields ps}
 | .met f x=>h.get? a=some (PySem.W.methodObj (.ref f) (.ref x))
 | .ext φ=>φ h/\(∃ o,h.get? a=some o)/\∀ h1 h2:Heap,φ h1->(∀ o,h1.get? a=some o->h2.get? a=some o)->φ h2
def HOk (H:Hp) (h:Heap):Prop:=∀ a o,H a=some o->ObjOk P w H h a o
end
section
variable {P:Program} {w:World} {H H':Hp} {h h':Heap} {a:Addr} {o:HO}
theorem ObjOk.lt (x:ObjOk P w H h a o):a<h.objs.size:=by
 cases o with
 | lst xs=>obtain ⟨_,_,_,_,e⟩:=x;exact Heap.lt_size e
 | tup xs=>obtain ⟨_,_,_,p⟩:=x;exact p.lt
 | dK kvs=>obtain ⟨_,_,_,_,o,_,_,e,_⟩:=x;exact Heap.lt_size e
 | dT kvs=>obtain ⟨_,_,_,_,o,_,_,e,_⟩:=x;exact Heap.lt_size e
 | set S n=>obtain ⟨o,_,_,_,e,_⟩:=x;exact Heap.lt_size e
 | ins C dx fs=>obtain ⟨_,_,_,e,_⟩:=x;exact Heap.lt_size e
 | own y=>obtain ⟨_,e⟩:=x;exact Heap.lt_size e
 | xd fs=>obtain ⟨_,⟨_,_,_,e,_⟩,_⟩:=x;exact Heap.lt_size e
 | rng lo hi=>obtain ⟨_,_,_,e⟩:=x;exact Heap.lt_size e
 | frz ob u=>obtain ⟨e,_⟩:=x;exact Heap.lt_size e
 | tbl ps=>exact Heap.lt_size (show h.get? a=some _ from x)
 | met f y=>exact Heap.lt_size (show h.get? a=some _ from x)
 | ext φ=>obtain ⟨_,⟨_,e⟩,_⟩:=x;exact Heap.lt_size e
theorem Paired.mapP {α β:Type} {F G:α->β->Prop}:∀ {l₁:List α} {l₂:List β},Paired F l₁ l₂->(∀ a b,F a b->G a b)->Paired G l₁ l₂
 | _,_,.nil,_=>.nil
 | _,_,.cons r t,f=>.cons (f _ _ r) (Paired.mapP t f)
theorem ObjOk.stay (x:ObjOk P w H h a o) (k:∀ b u,(b=a\/H b=some (.own a))->h.get? b=some u->h'.get? b=some u)
  (ho:∀ b,H b=some (.own a)->H' b=some (.own a)) (ht:∀ b xs,H b=some (.tup xs)->H' b=some (.tup xs)):ObjOk P w H' h' a o:=by
 induction o with
 | lst xs=>obtain ⟨z,its,n,r,e⟩:=x;exact ⟨z,its,n,r,k _ _ (.inl rfl) e⟩
 | tup xs=>obtain ⟨z,its,r,ob,e,c⟩:=x;exact ⟨z,its,r,ob,k _ _ (.inl rfl) e,c⟩
 | dK kvs=>obtain ⟨z,y,vs,r,ob,es,ep,e,c⟩:=x;exact ⟨z,y,vs,r,ob,es,ep,k _ _ (.inl rfl) e,c⟩
 | dT kvs=>
  obtain ⟨z,y,xs,r,ob,es,ep,e,c⟩:=x
  exact ⟨z,y,xs,Paired.mapP r fun p q z=>⟨z.1,ht _ _ z.2.1,z.2.2⟩,ob,es,ep,k _ _ (.inl rfl) e,c⟩
 | set S n=>obtain ⟨ob,es,ep,t,e,c⟩:=x;exact ⟨ob,es,ep,t,k _ _ (.inl rfl) e,c⟩
 | ins C dx fs=>
  obtain ⟨d,z,ne,e,mA,⟨od,es,ep,e2,c⟩,r⟩:=x
  exact ⟨ho _ d,z,ne,k _ _ (.inl rfl) e,mA,⟨od,es,ep,k _ _ (.inr d) e2,c⟩,r⟩
 | own y=>obtain ⟨ob,e⟩:=x;exact ⟨ob,k _ _ (.inl rfl) e⟩
 | xd fs=>obtain ⟨mA,⟨od,es,ep,e,c⟩,r⟩:=x;exact ⟨mA,⟨od,es,ep,k _ _ (.inl rfl) e,c⟩,r⟩
 | rng lo hi=>obtain ⟨t,u,v,e⟩:=x;exact ⟨t,u,v,k _ _ (.inl rfl) e⟩
 | frz ob u ih=>obtain ⟨e,q⟩:=x;exact ⟨k _ _ (.inl rfl) e,ih q⟩
 | tbl ps=>
  have e:h.get? a=some {cls:=.none,data:=.fields ps}:=x
  show h'.get? a=some {cls:=.none,data:=.fields ps}
  exact k a _ (.inl rfl) e
 | met f y=>
  have e:h.get? a=some (PySem.W.methodObj (.ref f) (.ref y)):=x
  show h'.get? a=some (PySem.W.methodObj (.ref f) (.ref y))
  exact k a _ (.inl rfl) e
 | ext φ=>obtain ⟨p,⟨o,e⟩,st⟩:=x;exact ⟨st _ _ p fun o q=>k _ _ (.inl rfl) q,⟨o,k _ _ (.inl rfl) e⟩,st⟩
theorem HOk.lt (x:HOk P w H h) (e:H a=some o):a<h.objs.size:=(x a o e).lt
theorem HOk.fresh (x:HOk P w H h) (e:h.objs.size<=a):H a=none:=by
 cases q:H a with
 | none=>rfl
 | some u=>exact absurd (Nat.lt_of_lt_of_le (x.lt q) e) (Nat.lt_irrefl _)
theorem HOk.kept (x:HOk P w H h) (k:∀ b u,h.get? b=some u->h'.get? b=some u):HOk P w H h':=fun a o e=>
 (x a o e).stay (fun b u _ q=>k b u q) (fun _ q=>q) fun _ _ q=>q
theorem HOk.laid (x:HOk P w H h) (k:∀ b u,h.get? b=some u->h'.get? b=some u) (hp:h.objs.size<=a) (new:ObjOk P w (upd H a o) h' a o):HOk P w (upd H a o) h':=fun b u e=>by
 have hn:=x.fresh hp
 by_cases hb:b=a
 ·subst hb;rw[An] at e;cases e;exact new
 ·rw[AO hb] at e
  exact (x b u e).stay (fun c v _ q=>k c v q) (fun c q=>by rw[AO (A0 q hn)];exact q) fun c xs q=>by rw[AO (A0 q hn)];exact q
end
def Rd (H:Hp) (a:Addr) (u:HO):Prop:=H a=some u\/∃ o,H a=some (.frz o u)
theorem Rd.ok {P:Program} {w:World} {H:Hp} {h:Heap} {a:Addr} {u:HO} (r:Rd H a u) (x:HOk P w H h):ObjOk P w H h a u:=by
 rcases r with r | ⟨o,r⟩
 ·exact x a u r
 ·obtain ⟨_,q⟩:=x a _ r
  exact q
def Mut:Option HO->Prop
 | some (.lst _)=>True
 | some (.dK _)=>True
 | some (.dT _)=>True
 | some (.set _ _)=>True
 | some (.ins _ _ _)=>True
 | some (.ext _)=>True
 | _=>False
section
variable {P:Program} {w:World} {H:Hp} {h h':Heap} {x e:Addr} {o':HO}
theorem HOk.write (ok:HOk P w H h) (mu:Mut (H x)) (he:e=x\/H e=some (.own x)) (k:∀ b u,b≠e->h.get? b=some u->h'.get? b=some u) (heo:∃ u,h'.get? e=some u)
  (new:ObjOk P w (upd H x o') h' x o'):HOk P w (upd H x o') h':=fun b u q=>by
 have nown:∀ c y,H c=some (.own y)->c≠x:=fun c y r z=>by subst z;rw[r] at mu;exact mu
 have ntup:∀ c xs,H c=some (.tup xs)->c≠x:=fun c xs r z=>by subst z;rw[r] at mu;exact mu
 by_cases hb:b=x
 ·subst hb;rw[An] at q;cases q;exact new
 ·rw[AO hb] at q
  by_cases hbe:b=e
  ·have q':H b=some (.own x):=by
    rcases he with z | z
    ·exact absurd (hbe.trans z) hb
    ·rw[hbe];exact z
   rw[q] at q';cases q'
   obtain ⟨v,hv⟩:=heo
   exact ⟨v,by rw[hbe];exact hv⟩
  ·refine (ok b u q).stay (fun c v hc r=>k c v ?_ r) (fun c r=>by rw[AO (nown c b r)];exact r) fun c xs r=>by rw[AO (ntup c xs r)];exact r
   rcases hc with rfl | hc
   ·exact hbe
   ·rintro rfl
    rcases he with z | z
    ·exact nown c b hc z
    ·rw[hc] at z;cases z;exact hb rfl
end
structure Un (fs ex:List Addr) (H H':Hp) (h h':Heap):Prop where
 keep:∀ b o,h.get? b=some o->H b=none->b∉fs->b∉ex->h'.get? b=some o
 slot:∀ b o,h.get? b=some o->H b=none->b∈fs->b∉ex->∃ sl,h'.get? b=some {o with slots:=sl}
 free:∀ b o,h.get? b=some o->H b=none->b∉ex->H' b=none
 there:∀ b o,h.get? b=some o->b∉ex->∃ o',h'.get? b=some o'
 tups:∀ b xs,H b=some (.tup xs)->H' b=some (.tup xs)
 frzs:∀ b o u,H b=some (.frz o u)->H' b=some (.frz o u)
 tbls:∀ b ps,H b=some (.tbl ps)->∃ more,H' b=some (.tbl (ps++more))
section
variable {fs fs' ex ex':List Addr} {H H1 H2:Hp} {h h1 h2 h':Heap} {a x e:Addr} {o:HO}
theorem Un.any (u:Un fs ex H H1 h h1) {b:Addr} {ob:Obj} (q:h.get? b=some ob) (n:H b=none) (hx:b∉ex):∃ sl,h1.get? b=some {ob with slots:=sl}:=by
 by_cases hb:b∈fs
 ·exact u.slot b ob q n hb hx
 ·exact ⟨ob.slots,u.keep b ob q n hb hx⟩
theorem Un.trans (a:Un fs ex H H1 h h1) (b:Un fs ex H1 H2 h1 h2):Un fs ex H H2 h h2 where
 keep:=fun c ob q n hc hx=>b.keep c ob (a.keep c ob q n hc hx) (a.free c ob q n hx) hc hx
 slot:=fun c ob q n hc hx=>by
  obtain ⟨sl,e1⟩:=a.slot c ob q n hc hx
  obtain ⟨sl',e2⟩:=b.slot c _ e1 (a.free c ob q n hx) hc hx
  exact ⟨sl',e2⟩
 free:=fun c ob q n hx=>by
  obtain ⟨o',e1⟩:=a.there c ob q hx
  exact b.free c o' e1 (a.free c ob q n hx) hx
 there:=fun c ob q hx=>by
  obtain ⟨o',e1⟩:=a.there c ob q hx
  exact b.there c o' e1 hx
 tups:=fun c xs q=>b.tups c xs (a.tups c xs q)
 frzs:=fun c ob xs q=>b.frzs c ob xs (a.frzs c ob xs q)
 tbls:=fun c ps q=>by
  obtain ⟨m1,e1⟩:=a.tbls c ps q
  obtain ⟨m2,e2⟩:=b.tbls c _ e1
  exact ⟨m1++m2,by rw[e2,Array.append_assoc]⟩
theorem Un.kept (k:∀ b u,h.get? b=some u->h'.get? b=some u):Un fs ex H H h h':=
 ⟨fun b ob q _ _ _=>k b ob q,fun b ob q _ _ _=>⟨ob.slots,k b ob q⟩,fun _ _ _ n _=>n,fun b ob q _=>⟨ob,k b ob q⟩,fun _ _ q=>q,fun _ _ _ q=>q,fun _ ps q=>⟨#[],by rw[q];simp⟩⟩
theorem Un.refl:Un fs ex H H h h:=Un.kept fun _ _ q=>q
theorem Un.laid (k:∀ b u,h.get? b=some u->h'.get? b=some u) (hp:h.objs.size<=a) (hn:H a=none):Un fs ex H (upd H a o) h h' where
 keep:=fun b u q _ _ _=>k b u q
 slot:=fun b u q _ _ _=>⟨u.slots,k b u q⟩
 free:=fun b u q n _=>by rw[AO (Nat.ne_of_lt (Nat.lt_of_lt_of_le (Heap.lt_size q) hp))];exact n
 there:=fun b u q _=>⟨u,k b u q⟩
 tups:=fun b xs q=>by rw[AO (A0 q hn)];exact q
 frzs:=fun b u xs q=>by rw[AO (A0 q hn)];exact q
 tbls:=fun b ps q=>⟨#[],by rw[AO (A0 q hn),q];simp⟩
theorem Un.write (mu:Mut (H x)) (he:e=x\/H e=some (.own x)) (k:∀ b u,b≠e->h.get? b=some u->h'.get? b=some u) (heo:∃ u,h'.get? e=some u):Un fs ex H (upd H x o) h h':=by
 have hx:∀ b,H b=none->b≠x:=fun b n z=>by subst z;rw[n] at mu;exact mu
 have hb:∀ b,H b=none->b≠e:=fun b n z=>by
  subst z
  rcases he with r | r
  ·exact hx b n r
  ·rw[n] at r;cases r
 have hm:∀ b u,H b=some u->¬Mut (some u)->b≠x:=fun b u q nm z=>by subst z;rw[q] at mu;exact nm mu
 refine ⟨fun b u q n _ _=>k b u (hb b n) q,fun b u q n _ _=>⟨u.slots,k b u (hb b n) q⟩,fun b u q n _=>by rw[AO (hx b n)];exact n,fun b u q _=>?_,
  fun b xs q=>by rw[AO (hm b _ q fun z=>z)];exact q,fun b u xs q=>by rw[AO (hm b _ q fun z=>z)];exact q,fun b ps q=>⟨#[],by rw[AO (hm b _ q fun z=>z),q];simp⟩⟩
 by_cases hbe:b=e
 ·subst hbe;exact heo
 ·exact ⟨u,k b u hbe q⟩
end
def trk (h:Heap) (H:Hp):List Addr:=(List.range h.objs.size).filter fun a=>(H a).isSome
def C0 (h:Heap) (H:Hp):Heap:=PySem.W.hideAll h (trk h H)
theorem NC (h:Heap) (H:Hp):(C0 h H).objs.size=h.objs.size:=PySem.W.hideAll_size _ _
theorem O0 {h:Heap} {H:Hp} {b:Addr} {o:Obj} (e:h.get? b=some o) (n:H b=none):(C0 h H).get? b=some o:=
 PySem.W.hideAll_get _ e fun hm=>by
  have q:(H b).isSome=true:=(List.mem_filter.mp hm).2
  rw[n] at q;simp at q
theorem OJ {h:Heap} {H:Hp} {b:Addr} {o:Obj} (e:(C0 h H).get? b=some o):h.get? b=some o/\H b=none:=by
 have e':h.get? b=some o:=PySem.W.of_hideAll (trk h H) e
 refine ⟨e',?_⟩
 cases q:H b with
 | none=>rfl
 | some x=>
  have hm:b∈trk h H:=List.mem_filter.mpr ⟨List.mem_range.mpr (Heap.lt_size e'),by simp[q]⟩
  have z:(C0 h H).get? b=none:=PySem.W.hideAll_none (trk h H) hm
  rw[z] at e;cases e
def Mi (g h:Heap) (L:Addr):List (Addr×Obj):=(List.range h.objs.size).filterMap fun a=>if a=L\/(g.get? a).isSome=true then none else (h.get? a).map fun o=>(a,o)
def rest (g h:Heap) (L d:Addr):List (Addr×Obj):=(Mi g h L).filter fun p=>decide (p.1≠d)
structure Mod (K:PySem.W.Frag) (mg:Str->Option Value) (base:Heap):Prop where
 kin:K.In base
 glob:base.Ns mainGlobals mg
 blt:∃ mb,base.Ns builtinsNs mb/\∀ x:Str,x≠"__name__"->mb x=bootBuiltins x
 nolimit:base.NoLimit
structure Cx where
 prog:Program
 w:World
 K:PySem.W.Frag
 mg:Str->Option Value
 base:Heap
 A:Around
 N:List Str
 s₀:Shared
 H₀:Hp
 env:Env
 outer:List Env
 stack:List Env
 ex:List Addr
 fn:Str->Bool
 calm:Bool
 pn:List (Addr×Obj)
 xe:Value->Shared->Prop
def frs (l:List Env):List Addr:=l.filterMap (·.frame)
abbrev Cx.fs (X:Cx):List Addr:=frs X.outer
def Vis (sc:Scope) (x:Str):Prop:=sc.names.lookup x=some .local\/sc.names.lookup x=some .cell\/sc.names.lookup x=some .free
def Loc (sc:Scope) (x:Str):Prop:=sc.names.lookup x=some .local\/sc.names.lookup x=some .cell
def Look (env:Env) (h:Heap) (m:Str->Option Value) (x:Str) (u:Value):Prop:=
 (env.kindOf x=some .local/\m x=some u)\/((env.kindOf x=some .cell\/env.kindOf x=some .free)/\∃ c,env.cells.lookup x=some c/\h.IsCell c (some u))
structure Cx.Ok (X:Cx):Prop where
 mod:Mod X.K X.mg X.base
 kind:X.env.scope.kind=.function
 glob:X.env.globals=mainGlobals
 blt:X.env.builtins=builtinsNs
 above:X.s₀.heap.objs.size<=X.env.locals
 inj:∀ x y c,X.env.cells.lookup x=some c->X.env.cells.lookup y=some c->x=y
 has:∀ x,(X.env.kindOf x=some .cell\/X.env.kindOf x=some .free)->∃ c,X.env.cells.lookup x=some c
 cab:∀ x c,X.fn x=true->X.env.cells.lookup x=some c->X.s₀.heap.objs.size<=c
 hd:X.calm=true->X.A.handled=none
 frames:X.A.frames=some X.stack
 stk:X.stack=X.outer\/(X.stack=X.env::X.outer/\X.env.frame=some X.env.locals)
 exf:∀ b∈X.ex,b≠X.env.locals/\∀ x c,X.env.cells.lookup x=some c->c≠b
 bs:∀ b o,X.base.get? b=some o->X.s₀.heap.get? b=some o/\X.H₀ b=none
 bsz:X.base.objs.size<=X.s₀.heap.objs.size
 noex:∀ b o,X.base.get? b=some o->b∉X.ex
 exfs:∀ b∈X.ex,b∉X.fs
 funs:X.s₀.heap.FunFrames X.base X.outer
 frf:∀ b∈X.fs,X.H₀ b=none
structure Inv (X:Cx) (pins:List (Addr×Obj)) (σ:List (Option V)) (H:Hp) (s:Shared):Prop where
 ok:X.Ok
 os:s.os=X.s₀.os
 bare:AllBare s.gens
 base:Un X.fs X.ex X.H₀ H X.s₀.heap s.heap
 loc:∃ m,s.heap.Ns X.env.locals m/\∀ (i:Nat) (x:Str) (v:V),X.N[i]?=some x->σ[i]?=some (some v)->Vis X.env.scope x->∃ u,RelV v u/\Look X.env s.heap m x u
 cell:∀ x c,X.env.cells.lookup x=some c->∃ v,s.heap.IsCell c v
 free:H X.env.locals=none
 freeC:∀ x c,X.env.cells.lookup x=some c->H c=none
 pin:∀ p∈X.pn++pins,s.heap.get? p.1=some p.2/\H p.1=none/\p.1≠X.env.locals/\p.1∉X.fs/\∀ v,p.2.data≠.cell v
 hok:HOk X.prog X.w H s.heap
 len:σ.length=X.N.length
section
variable {X:Cx} {pins:List (Addr×Obj)} {σ:List (Option V)} {H H':Hp} {s:Shared} {h':Heap}
theorem Cx.Ok.nofr (ok:X.Ok) {b:Addr} {o:Obj} (e:X.base.get? b=some o):b∉X.fs:=fun hb=>by
 have:=(ok.funs.mem hb).1
 rw[e] at this;cases this
theorem Inv.bs (I:Inv X pins σ H s):∀ b o,X.base.get? b=some o->s.heap.get? b=some o/\H b=none:=fun b o e=>
 ⟨I.base.keep b o (I.ok.bs b o e).1 (I.ok.bs b o e).2 (I.ok.nofr e) (I.ok.noex b o e),I.base.free b o (I.ok.bs b o e).1 (I.ok.bs b o e).2 (I.ok.noex b o e)⟩
theorem Inv.bk (I:Inv X pins σ H s):∀ b o,X.base.get? b=some o->s.heap.get? b=some o:=fun b o e=>(I.bs b o e).1
theorem Inv.mod (I:Inv X pins σ H s):Mod X.K X.mg X.base:=I.ok.mod
theorem Inv.kIn (I:Inv X pins σ H s):X.K.In s.heap:=I.ok.mod.kin.keeps I.bk
theorem Inv.lt (I:Inv X pins σ H s):X.env.locals<s.heap.objs.size:=let ⟨_,hn,_⟩:=I.loc;hn.lt
theorem Inv.sz (I:Inv X pins σ H s):X.s₀.heap.objs.size<=s.heap.objs.size:=Nat.le_trans I.ok.above (Nat.le_of_lt I.lt)
theorem Inv.nofs (I:Inv X pins σ H s) {a:Addr} (h:s.heap.objs.size<=a):a∉X.fs:=fun hb=>by
 obtain ⟨_,o,ho,_⟩:=I.ok.funs.mem hb
 exact absurd (Nat.lt_of_lt_of_le (Heap.lt_size ho) (Nat.le_trans I.sz h)) (Nat.lt_irrefl _)
theorem Inv.cne (I:Inv X pins σ H s):∀ x c,X.env.cells.lookup x=some c->c≠X.env.locals:=fun x c e z=>by
 obtain ⟨v,o,ho,hd⟩:=I.cell x c e
 obtain ⟨m,⟨o',es,ep,ho',hd',_⟩,_⟩:=I.loc
 rw[z,ho'] at ho;cases ho;rw[hd'] at hd;cases hd
theorem Inv.funs (I:Inv X pins σ H s):s.heap.FunFrames X.base X.outer:=by
 have all:∀ (l:List Env),(∀ b∈frs l,b∈X.fs)->X.s₀.heap.FunFrames X.base l->s.heap.FunFrames X.base l:=by
  intro l
  induction l with
  | nil=>intro _ _;trivial
  | cons env r ih=>
   intro hs hl
   obtain ⟨hk,⟨L,o,hf,hn,ho,hd⟩,hr⟩:=hl
   have hL:L∈X.fs:=hs L (by unfold frs;rw[List.filterMap_cons,hf];exact List.mem_cons_self)
   obtain ⟨sl,e⟩:=I.base.slot L o ho (I.ok.frf L hL) hL fun z=>I.ok.exfs L z hL
   exact ⟨hk,⟨L,_,hf,hn,e,hd⟩,ih (fun b hb=>hs b (by unfold frs;rw[List.filterMap_cons,hf];exact List.mem_cons_of_mem _ hb)) hr⟩
 exact all X.outer (fun _ hb=>hb) I.ok.funs
theorem Inv.stack (I:Inv X pins σ H s):s.heap.FunFrames X.base X.stack:=by
 rcases I.ok.stk with e | ⟨e,hf⟩
 ·rw[e];exact I.funs
 ·rw[e]
  obtain ⟨m,hn,_⟩:=I.loc
  refine .cons (by rw[I.ok.kind];decide) hf hn ?_ I.funs
  exact Heap.get?_none_of_le (Nat.le_trans I.ok.bsz I.ok.above)
theorem Inv.stkSub (I:Inv X pins σ H s):∀ b∈frs X.stack,b∈X.env.locals::X.fs:=fun b hb=>by
 rcases I.ok.stk with e | ⟨e,hf⟩
 ·rw[e] at hb;exact List.mem_cons_of_mem _ hb
 ·rw[e] at hb
  unfold frs at hb
  rw[List.filterMap_cons,hf] at hb
  exact hb
theorem Inv.stkFree (I:Inv X pins σ H s):∀ b∈frs X.stack,H b=none:=fun b hb=>by
 rcases List.mem_cons.mp (I.stkSub b hb) with e | hb
 ·rw[e];exact I.free
 ·obtain ⟨_,o,ho,_⟩:=I.ok.funs.mem hb
  exact I.base.free b o ho (I.ok.frf b hb) fun z=>I.ok.exfs b z hb
theorem Inv.step {g':Array GenState} {t':Nat} {d':Drawn} {ch:List Addr} (I:Inv X pins σ H s)
  (hch:∀ b∈ch,(b∈X.ex\/X.s₀.heap.objs.size<=b)/\b≠X.env.locals/\(∀ x c,X.env.cells.lookup x=some c->c≠b)/\∀ p∈X.pn++pins,p.1≠b)
  (keep:∀ b o,b≠X.env.locals->b∉X.fs->b∉ch->s.heap.get? b=some o->H b=none->h'.get? b=some o)
  (slot:∀ b o,b≠X.env.locals->b∈X.fs->b∉ch->s.heap.get? b=some o->H b=none->∃ sl,h'.get? b=some {o with slots:=sl}) (free:∀ b o,b∉ch->s.heap.get? b=some o->H b=none->H' b=none)
  (there:∀ b o,b∉ch->s.heap.get? b=some o->∃ o',h'.get? b=some o')
  (tups:∀ b xs,H b=some (.tup xs)->H' b=some (.tup xs)) (frzs:∀ b o u,H b=some (.frz o u)->H' b=some (.frz o u)) (tbls:∀ b ps,H b=some (.tbl ps)->∃ more,H' b=some (.tbl (ps++more)))
  (ns:∀ m,s.heap.Ns X.env.locals m->h'.Ns X.env.locals m) (hok:HOk X.prog X.w H' h') (hg:AllBare g') :
  Inv X pins σ H' {s with heap:=h',gens:=g',drawn:=d',toks:=t'}:=by
 have neL:∀ b o,X.s₀.heap.get? b=some o->b≠X.env.locals:=fun b o e=>Nat.ne_of_lt (Nat.lt_of_lt_of_le (Heap.lt_size e) I.ok.above)
 have neC:∀ b o,X.s₀.heap.get? b=some o->b∉X.ex->b∉ch:=fun b o e hx hb=>by
  rcases (hch b hb).1 with z | z
  ·exact hx z
  ·exact absurd (Nat.lt_of_lt_of_le (Heap.lt_size e) z) (Nat.lt_irrefl _)
 have cellK:∀ x c,X.env.cells.lookup x=some c->∀ v,s.heap.IsCell c v->h'.IsCell c v:=fun x c e v hh_=>by
  obtain ⟨o,ho,hd⟩:=hh_
  have nch:c∉ch:=fun z=>(hch c z).2.2.1 x c e rfl
  by_cases hc:c∈X.fs
  ·obtain ⟨sl,q⟩:=slot c o (I.cne x c e) hc nch ho (I.freeC x c e)
   exact ⟨_,q,hd⟩
  ·exact ⟨o,keep c o (I.cne x c e) hc nch ho (I.freeC x c e),hd⟩
 refine ⟨I.ok,I.os,hg,⟨fun b o e n hb hx=>?_,fun b o e n hb hx=>?_,fun b o e n hx=>?_,fun b o e hx=>?_,fun b xs e=>tups b xs (I.base.tups b xs e),fun b o xs e=>frzs b o xs (I.base.frzs b o xs e),fun b ps e=>?_⟩,?_,fun x c e=>?_,?_,fun x c e=>?_,fun p hp=>?_,hok,I.len⟩
 ·exact keep b o (neL b o e) hb (neC b o e hx) (I.base.keep b o e n hb hx) (I.base.free b o e n hx)
 ·obtain ⟨sl,e1⟩:=I.base.slot b o e n hb hx
  obtain ⟨sl',e2⟩:=slot b _ (neL b o e) hb (neC b o e hx) e1 (I.base.free b o e n hx)
  exact ⟨sl',e2⟩
 ·obtain ⟨o',e1⟩:=I.base.there b o e hx
  exact free b o' (neC b o e hx) e1 (I.base.free b o e n hx)
 ·obtain ⟨o',e1⟩:=I.base.there b o e hx
  exact there b o' (neC b o e hx) e1
 ·obtain ⟨m1,e1⟩:=I.base.tbls b ps e
  obtain ⟨m2,e2⟩:=tbls b _ e1
  exact ⟨m1++m2,by rw[e2,Array.append_assoc]⟩
 ·obtain ⟨m,hn,hl⟩:=I.loc
  refine ⟨m,ns m hn,fun i x v e1 e2 e3=>?_⟩
  obtain ⟨u,r,l⟩:=hl i x v e1 e2 e3
  refine ⟨u,r,?_⟩
  rcases l with l | ⟨k,c,e,z⟩
  ·exact .inl l
  ·exact .inr ⟨k,c,e,cellK x c e _ z⟩
 ·obtain ⟨v,z⟩:=I.cell x c e
  exact ⟨v,cellK x c e v z⟩
 ·obtain ⟨m,⟨o,_,_,ho,_⟩,_⟩:=I.loc
  exact free _ o (fun z=>(hch _ z).2.1 rfl) ho I.free
 ·obtain ⟨v,o,ho,hd⟩:=I.cell x c e
  exact free c o (fun z=>(hch c z).2.2.1 x c e rfl) ho (I.freeC x c e)
 ·obtain ⟨e,n,ne,nf,d⟩:=I.pin p hp
  have nch:p.1∉ch:=fun z=>(hch p.1 z).2.2.2 p hp rfl
  exact ⟨keep p.1 p.2 ne nf nch e n,free p.1 p.2 nch e n,ne,nf,d⟩
theorem Inv.un {t':Nat} (I:Inv X pins σ H s) (u:Un X.fs [] H H' s.heap h') (hok:HOk X.prog X.w H' h'):Inv X pins σ H' {s with heap:=h',toks:=t'}:=by
 obtain ⟨m,⟨o,es,ep,ho,r⟩,_⟩:=id I.loc
 obtain ⟨sl,hL⟩:=u.any ho I.free (by simp)
 exact I.step (g':=s.gens) (d':=s.drawn) (ch:=[]) (fun _ z=>nomatch z) (fun b o _ hb _ e n=>u.keep b o e n hb (by simp)) (fun b o _ hb _ e n=>u.slot b o e n hb (by simp)) (fun b o _ e n=>u.free b o e n (by simp)) (fun b o _ e=>u.there b o e (by simp)) u.tups u.frzs u.tbls (fun m' hm=>by
  obtain ⟨o',es',ep',ho',r'⟩:=hm
  rw[ho] at ho';cases ho'
  exact ⟨_,es',ep',hL,r'⟩) hok I.bare
theorem Inv.call {g':Array GenState} {t':Nat} {d':Drawn} {ch:List Addr} (I:Inv X pins σ H s) (u:Un (frs X.stack) ch H H' s.heap h') (hok:HOk X.prog X.w H' h') (hg:AllBare g')
  (hch:∀ b∈ch,(b∈X.ex\/X.s₀.heap.objs.size<=b)/\b≠X.env.locals/\(∀ x c,X.env.cells.lookup x=some c->c≠b)/\∀ p∈X.pn++pins,p.1≠b) :
  Inv X pins σ H' {s with heap:=h',gens:=g',drawn:=d',toks:=t'}:=by
 obtain ⟨m,⟨o,es,ep,ho,r⟩,_⟩:=id I.loc
 obtain ⟨sl,hL⟩:=u.any ho I.free fun z=>(hch _ z).2.1 rfl
 exact I.step (ch:=ch) hch (fun b o hL hb hc e n=>u.keep b o e n (fun z=>(List.mem_cons.mp (I.stkSub b z)).elim hL hb) hc) (fun b o _ _ hc e n=>u.any e n hc) (fun b o hc e n=>u.free b o e n hc) (fun b o hc e=>u.there b o e hc) u.tups u.frzs u.tbls (fun m' hm=>by
  obtain ⟨o',es',ep',ho',r'⟩:=hm
  rw[ho] at ho';cases ho'
  exact ⟨_,es',ep',hL,r'⟩) hok hg
theorem Inv.turned {t':Nat} {it:Addr} (I:Inv X pins σ H s) (k:∀ b o,b≠it->s.heap.get? b=some o->h'.get? b=some o) (hn:H it=none) (hL:it≠X.env.locals)
  (h1:it∈X.ex\/X.s₀.heap.objs.size<=it) (h2:∀ x c,X.env.cells.lookup x=some c->c≠it) (h3:∀ p∈X.pn++pins,p.1≠it):Inv X pins σ H {s with heap:=h',toks:=t'}:=by
 have nit:∀ b u,H b=some u->b≠it:=fun b u e z=>by rw[z,hn] at e;cases e
 refine I.step (g':=s.gens) (d':=s.drawn) (ch:=[it]) (fun b hb=>?_) (fun b o _ _ hc e _=>k b o (fun z=>hc (by simp[z])) e) (fun b o _ _ hc e _=>⟨o.slots,k b o (fun z=>hc (by simp[z])) e⟩) (fun _ _ _ _ n=>n)
  (fun b o hc e=>⟨o,k b o (fun z=>hc (by simp[z])) e⟩) (fun _ _ e=>e) (fun _ _ _ e=>e) (fun b ps e=>⟨#[],by rw[e];simp⟩) (fun m hm=>?_) (fun b u e=>?_) I.bare
 ·have e:b=it:=by simpa using hb
  subst e
  exact ⟨h1,hL,h2,h3⟩
 ·obtain ⟨o,es,ep,ho,r⟩:=hm
  exact ⟨o,es,ep,k _ o (Ne.symm hL) ho,r⟩
 ·refine (I.hok b u e).stay (fun c v hc q=>k c v ?_ q) (fun _ q=>q) fun _ _ q=>q
  rcases hc with z | z
  ·rw[z];exact nit b u e
  ·exact nit c _ z
theorem Inv.tok (I:Inv X pins σ H s) (t:Nat):Inv X pins σ H {s with toks:=t}:=I.un (h':=s.heap) (t':=t) Un.refl I.hok
theorem Inv.kept {t':Nat} (I:Inv X pins σ H s) (k:∀ b u,s.heap.get? b=some u->h'.get? b=some u):Inv X pins σ H {s with heap:=h',toks:=t'}:=I.un (Un.kept k) (I.hok.kept k)
theorem Inv.laid {a:Addr} {o:HO} {t':Nat} (I:Inv X pins σ H s) (k:∀ b u,s.heap.get? b=some u->h'.get? b=some u) (hp:s.heap.objs.size<=a) (new:ObjOk X.prog X.w (upd H a o) h' a o) :
  Inv X pins σ (upd H a o) {s with heap:=h',toks:=t'}:=I.un (Un.laid k hp (I.hok.fresh hp)) (I.hok.laid k hp new)
theorem Inv.write {x e:Addr} {o:HO} {t':Nat} (I:Inv X pins σ H s) (mu:Mut (H x)) (he:e=x\/H e=some (.own x)) (k:∀ b u,b≠e->s.heap.get? b=some u->h'.get? b=some u) (heo:∃ u,h'.get? e=some u)
  (new:ObjOk X.prog X.w (upd H x o) h' x o):Inv X pins σ (upd H x o) {s with heap:=h',toks:=t'}:=I.un (Un.write mu he k heo) (I.hok.write mu he k heo new)
theorem Inv.pins_of {pins':List (Addr×Obj)} (I:Inv X pins σ H s) (h:∀ p∈pins',s.heap.get? p.1=some p.2/\H p.1=none/\p.1≠X.env.locals/\p.1∉X.fs/\∀ v,p.2.data≠.cell v):Inv X pins' σ H s:=
 ⟨I.ok,I.os,I.bare,I.base,I.loc,I.cell,I.free,I.freeC,fun p hp=>(List.mem_append.mp hp).elim (fun z=>I.pin p (List.mem_append_left _ z)) (h p),I.hok,I.len⟩
theorem KA {N:List Str} (hN:N.Nodup) {i j:Nat} {x:Str} (a:N[i]?=some x) (b:N[j]?=some x):i=j:=by
 obtain ⟨h1,e1⟩:=List.getElem?_eq_some_iff.mp a
 obtain ⟨h2,e2⟩:=List.getElem?_eq_some_iff.mp b
 exact (List.getElem_inj hN).mp (e1.trans e2.symm)
theorem JV {M:Model} {A:Around} {E:Value->Shared->Prop} {i:Nat} {x:Str} {v:V} {u:Value} {Q:Unit->Shared->Prop} (I:Inv X pins σ H s) (hN:X.N.Nodup) (hi:X.N[i]?=some x) (hx:Loc X.env.scope x) (r:RelV v u)
  (h:∀ s',Inv X pins (σ.set i (some v)) H s'->(∃ a,Heap.SameBut a s.heap s'.heap/\(a=X.env.locals\/X.env.cells.lookup x=some a))->Q () s') (hf:X.fn x=true\/X.env.scope.names.lookup x=some .local:=by first | exact .inl rfl | exact .inr rfl | assumption):wpAny M A (storeName X.env x u) Q E s:=by
 obtain ⟨m,hn,hl⟩:=id I.loc
 have hcls:(X.env.scope.kind == .class || (X.env.scope.kind == .module && X.env.locals != X.env.globals))=false:=by rw[I.ok.kind];rfl
 have hiσ:i<σ.length:=by rw[I.len];exact (List.getElem?_eq_some_iff.mp hi).1
 have cne:=I.cne
 have tracked:∀ {a:Addr} {h':Heap},(∃ o,s.heap.get? a=some o/\H a=none)->Heap.SameBut a s.heap h'->HOk X.prog X.w H h':=fun {a h'} ha hs b ob e=>by
  obtain ⟨_,_,hfree⟩:=ha
  refine (I.hok b ob e).stay (fun c w' hc q=>(hs.2 c ?_).trans q) (fun _ q=>q) fun _ _ q=>q
  rintro rfl
  rcases hc with rfl | hc
  ·rw[hfree] at e;cases e
  ·rw[hfree] at hc;cases hc
 rcases hx with hk | hk
 ·refine wpAny_storeName_local hk hn (fun h' hn' hs=>?_) hcls
  obtain ⟨oL,_,_,hoL,_⟩:=id hn
  refine h _ ⟨I.ok,I.os,I.bare,⟨fun b o e n hb hx=>?_,fun b o e n hb hx=>?_,I.base.free,fun b o e hx=>?_,I.base.tups,I.base.frzs,I.base.tbls⟩,⟨_,hn',fun j y v' e1 e2 e3=>?_⟩,fun y c e=>?_,I.free,I.freeC,fun p hp=>?_,tracked ⟨oL,hoL,I.free⟩ hs,by simpa using I.len⟩ ⟨_,hs,.inl rfl⟩
  ·exact (hs.2 b (Nat.ne_of_lt (Nat.lt_of_lt_of_le (Heap.lt_size e) I.ok.above))).trans (I.base.keep b o e n hb hx)
  ·obtain ⟨sl,e1⟩:=I.base.slot b o e n hb hx
   exact ⟨sl,(hs.2 b (Nat.ne_of_lt (Nat.lt_of_lt_of_le (Heap.lt_size e) I.ok.above))).trans e1⟩
  ·obtain ⟨o',e1⟩:=I.base.there b o e hx
   exact ⟨o',(hs.2 b (Nat.ne_of_lt (Nat.lt_of_lt_of_le (Heap.lt_size e) I.ok.above))).trans e1⟩
  ·by_cases hj:j=i
   ·subst hj
    rw[hi] at e1;cases e1
    rw[List.getElem?_set_self hiσ] at e2
    cases e2
    exact ⟨u,r,.inl ⟨hk,by simp⟩⟩
   ·rw[List.getElem?_set_ne (Ne.symm hj)] at e2
    obtain ⟨u',r',q⟩:=hl j y v' e1 e2 e3
    refine ⟨u',r',?_⟩
    rcases q with ⟨k,e⟩ | ⟨k,c,e,z⟩
    ·refine .inl ⟨k,?_⟩
     have:y≠x:=fun e=>hj (KA hN e1 (e▸hi))
     simp[this,e]
    ·exact .inr ⟨k,c,e,z.sameBut hs (cne y c e)⟩
  ·obtain ⟨w',z⟩:=I.cell y c e
   exact ⟨w',z.sameBut hs (cne y c e)⟩
  ·obtain ⟨e,n,ne,nf,d⟩:=I.pin p hp
   exact ⟨(hs.2 p.1 ne).trans e,n,ne,nf,d⟩
 ·have hfn:X.fn x=true:=by
   rcases hf with z | z
   ·exact z
   ·rw[z] at hk;cases hk
  obtain ⟨c,hc⟩:=I.ok.has x (.inl hk)
  obtain ⟨w',z⟩:=I.cell x c hc
  refine wpAny_storeName_cell I.ok.kind hk hc z (fun h' hc' hs=>?_)
  obtain ⟨oc,hoc,hocd⟩:=id z
  refine h {s with heap:=h'} ⟨I.ok,I.os,I.bare,⟨fun b o e n hb hx=>?_,fun b o e n hb hx=>?_,I.base.free,fun b o e hx=>?_,I.base.tups,I.base.frzs,I.base.tbls⟩,⟨m,hn.sameBut hs (Ne.symm (cne x c hc)),fun j y v' e1 e2 e3=>?_⟩,fun y c' e=>?_,I.free,I.freeC,fun p hp=>?_,tracked ⟨oc,hoc,I.freeC x c hc⟩ hs,by simpa using I.len⟩ ⟨c,hs,.inr hc⟩
  ·exact (hs.2 b (Nat.ne_of_lt (Nat.lt_of_lt_of_le (Heap.lt_size e) (I.ok.cab x c hfn hc)))).trans (I.base.keep b o e n hb hx)
  ·obtain ⟨sl,e1⟩:=I.base.slot b o e n hb hx
   exact ⟨sl,(hs.2 b (Nat.ne_of_lt (Nat.lt_of_lt_of_le (Heap.lt_size e) (I.ok.cab x c hfn hc)))).trans e1⟩
  ·obtain ⟨o',e1⟩:=I.base.there b o e hx
   exact ⟨o',(hs.2 b (Nat.ne_of_lt (Nat.lt_of_lt_of_le (Heap.lt_size e) (I.ok.cab x c hfn hc)))).trans e1⟩
  ·by_cases hj:j=i
   ·subst hj
    rw[hi] at e1;cases e1
    rw[List.getElem?_set_self hiσ] at e2
    cases e2
    exact ⟨u,r,.inr ⟨.inl hk,c,hc,hc'⟩⟩
   ·rw[List.getElem?_set_ne (Ne.symm hj)] at e2
    obtain ⟨u',r',q⟩:=hl j y v' e1 e2 e3
    refine ⟨u',r',?_⟩
    rcases q with q | ⟨k,c',e,z'⟩
    ·exact .inl q
    ·refine .inr ⟨k,c',e,z'.sameBut hs ?_⟩
     rintro rfl
     exact hj (KA hN e1 (I.ok.inj _ _ _ e hc▸hi))
  ·by_cases hcc:c'=c
   ·subst hcc;exact ⟨_,hc'⟩
   ·obtain ⟨w2,z2⟩:=I.cell y c' e
    exact ⟨w2,z2.sameBut hs hcc⟩
  ·obtain ⟨e,n,ne,nf,d⟩:=I.pin p hp
   refine ⟨(hs.2 p.1 ?_).trans e,n,ne,nf,d⟩
   intro q
   rw[q,hoc] at e
   have q':oc=p.2:=Option.some.inj e
   exact d w' (by rw[<-q'];exact hocd)
theorem KL {M:Model} {A:Around} {E:Value->Shared->Prop} {i:Nat} {x:Str} {v:V} {u:Value} {Q:Unit->Shared->Prop} (I:Inv X pins σ H s) (hN:X.N.Nodup) (hi:X.N[i]?=some x) (hx:Loc X.env.scope x) (r:RelV v u)
  (h:∀ s',Inv X pins (σ.set i (some v)) H s'->Q () s') (hf:X.fn x=true\/X.env.scope.names.lookup x=some .local:=by first | exact .inl rfl | exact .inr rfl | assumption):wpAny M A (storeName X.env x u) Q E s:=
 JV I hN hi hx r (fun s' I' _=>h s' I') hf
theorem Inv.call' {s':Shared} {ch:List Addr} (I:Inv X pins σ H s) (ho:s'.os=s.os) (u:Un (frs X.stack) ch H H' s.heap s'.heap) (hok:HOk X.prog X.w H' s'.heap) (hg:AllBare s'.gens)
  (hch:∀ b∈ch,(b∈X.ex\/X.s₀.heap.objs.size<=b)/\b≠X.env.locals/\(∀ x c,X.env.cells.lookup x=some c->c≠b)/\∀ p∈X.pn++pins,p.1≠b):Inv X pins σ H' s':=by
 obtain ⟨h',g',d',t',o'⟩:=s'
 have e:o'=s.os:=ho
 subst e
 exact I.call (g':=g') (t':=t') (d':=d') u hok hg hch
end
abbrev XK:=Value->Option Addr->Hp->Prop
abbrev St:=List (Option V)
abbrev VK:=V->Hp->Prop
abbrev TE:=St->Hp->VK->Prop
abbrev TT:=St->Hp->(Bool->Hp->Prop)->Prop
abbrev TA:=St->Hp->(List V->Hp->Prop)->Prop
structure Ends where
 nx:St->Hp->Prop
 rt:VK
 bk:St->Hp->Prop:=fun _ _=>False
 ct:St->Hp->Prop:=fun _ _=>False
abbrev TS:=Ends->St->Hp->Prop
def EP (X:Cx) (pins:List (Addr×Obj)) (σ:St) (Q:VK) (u:Value) (s':Shared):Prop:=∃ v H',Inv X pins σ H' s'/\RelV v u/\Q v H'
def TP (X:Cx) (pins:List (Addr×Obj)) (σ:St) (Q:Bool->Hp->Prop) (b:Bool) (s':Shared):Prop:=∃ H',Inv X pins σ H' s'/\Q b H'
def AP (X:Cx) (pins:List (Addr×Obj)) (σ:St) (Q:List V->Hp->Prop) (us:List Value) (s':Shared):Prop:=∃ vs H',Inv X pins σ H' s'/\Vals vs us/\Q vs H'
def SP (X:Cx) (pins:List (Addr×Obj)) (D:Ends) (f:Flow) (s':Shared):Prop:=
 match f with
 | .next=>∃ σ' H',Inv X pins σ' H' s'/\D.nx σ' H'
 | .brk=>∃ σ' H',Inv X pins σ' H' s'/\D.bk σ' H'
 | .cont=>∃ σ' H',Inv X pins σ' H' s'/\D.ct σ' H'
 | .ret u=>∃ v σ' H',Inv X pins σ' H' s'/\RelV v u/\D.rt v H'
def PE (X:Cx) (e:Expr) (t:TE):Prop:=
 ∀ (pins:List (Addr×Obj)) (s:Shared) (σ:St) (H:Hp) (Q:VK),Inv X pins σ H s->t σ H Q->wpAny (model X.prog X.w) X.A (eval e X.env) (EP X pins σ Q) X.xe s
def PT (X:Cx) (e:Expr) (t:TT):Prop:=
 ∀ (pins:List (Addr×Obj)) (s:Shared) (σ:St) (H:Hp) (Q:Bool->Hp->Prop),Inv X pins σ H s->t σ H Q->wpAny (model X.prog X.w) X.A (isTrue e X.env (eval e X.env)) (TP X pins σ Q) X.xe s
def PW (X:Cx) (e:Expr) (t:TT):Prop:=
 ∀ (whole:Sem Value) (pins:List (Addr×Obj)) (s:Shared) (σ:St) (H:Hp) (Q:Bool->Hp->Prop),Inv X pins σ H s->t σ H Q->wpAny (model X.prog X.w) X.A (isTrue e X.env whole) (TP X pins σ Q) X.xe s
theorem PW.pt {X:Cx} {e:Expr} {t:TT} (h:PW X e t):PT X e t:=h _
def PA (X:Cx) (es:List Expr) (t:TA):Prop:=
 ∀ (pos:Pos) (pins:List (Addr×Obj)) (s:Shared) (σ:St) (H:Hp) (Q:List V->Hp->Prop),Inv X pins σ H s->t σ H Q->wpAny (model X.prog X.w) X.A (spliced (backTo pos (starEach es X.env))) (AP X pins σ Q) X.xe s
def PS (X:Cx) (st:Stmt) (t:TS):Prop:=
 ∀ (pins:List (Addr×Obj)) (s:Shared) (σ:St) (H:Hp) (D:Ends),Inv X pins σ H s->t D σ H->wpAny (model X.prog X.w) X.A (exec st X.env) (SP X pins D) X.xe s
def PSs (X:Cx) (st:List Stmt) (t:TS):Prop:=
 ∀ (pins:List (Addr×Obj)) (s:Shared) (σ:St) (H:Hp) (D:Ends),Inv X pins σ H s->t D σ H->wpAny (model X.prog X.w) X.A (execs st X.env) (SP X pins D) X.xe s
theorem thn {α:Type} {t:Sem α} {Q Q':α->Shared->Prop} {M:Model} {A:Around} {E:Value->Shared->Prop} {s:Shared} (h:wpAny M A t Q E s) (hQ:∀ a s,Q a s->Q' a s):wpAny M A t Q' E s:=wpAny_mono h hQ fun _ _ x=>x
section
variable {X:Cx}
def Bj (i:Nat):TE:=fun σ H Q=>∃ v,σ[i]?=some (some v)/\Q v H
def tC (v:V):TE:=fun _ H Q=>Q v H
theorem JA {i:Nat} {x:Str} {pos:Pos} (hN:X.N[i]?=some x) (hv:Vis X.env.scope x) (hd:(x == ("__debug__":Str))=false:=by decide) (hcd:(x == ("__classdict__":Str))=false:=by decide):PE X (.Name x pos) (Bj i):=by
 intro pins s σ H Q I h
 obtain ⟨v,e,h⟩:=h
 obtain ⟨m,hn,hl⟩:=I.loc
 obtain ⟨u,r,l⟩:=hl i x v hN e hv
 have fin:EP X pins σ Q u s:=⟨v,H,I,r,h⟩
 rcases l with ⟨hk,hm⟩ | ⟨hk,c,hc,hcell⟩
 ·exact wpAny_Name (wpAny_loadName_local I.ok.kind hk hn hm fin) hd
 ·rcases hk with hk | hk
  ·exact wpAny_Name (wpAny_loadName_cell I.ok.kind hk hc hcell fin) hd
  ·exact wpAny_Name (wpAny_loadName_free I.ok.kind hk hc hcell fin hcd) hd
theorem Gy {i j pos}:PE X (.Constant (.int i) j pos) (tC (.int i)):=fun _ _ _ H _ I h=>wpAny_Constant_int ⟨.int i,H,I.tok _,⟨_,rfl⟩,h⟩
theorem Kg {b j pos}:PE X (.Constant (.bool b) j pos) (tC (.bl b)):=fun _ _ _ H _ I h=>Constant_bool ⟨.bl b,H,I,rfl,h⟩
theorem PF {j pos}:PE X (.Constant .none j pos) (tC .non):=fun _ _ _ H _ I h=>Constant_none ⟨.non,H,I,rfl,h⟩
theorem DR {x j pos}:PE X (.Constant (.str x) j pos) (tC (.str x)):=fun _ _ _ H _ I h=>Calls.Constant_str ⟨.str x,H,I.tok _,⟨_,rfl⟩,h⟩
def Gl (X:Cx) (x:Str):Prop:=X.env.kindOf x=some .globalImplicit
theorem HG {E:Value->Shared->Prop} {pins:List (Addr×Obj)} {s:Shared} {σ:St} {H:Hp} {x:Str} {u:Value} {pos:Pos} {Q:Value->Shared->Prop} (I:Inv X pins σ H s) (hg:Gl X x) (hm:X.mg x=some u) (h:Q u s)
  (hd:(x == ("__debug__":Str))=false:=by decide):wpAny (model X.prog X.w) X.A (eval (.Name x pos) X.env) Q E s:=
 Calls.Name_function_global I.ok.kind hg (Calls.loadGlobal_global (by rw[I.ok.glob];exact I.mod.glob.keeps I.bk) hm h) hd
theorem E7 {E:Value->Shared->Prop} {pins:List (Addr×Obj)} {s:Shared} {σ:St} {H:Hp} {x:Str} {u:Value} {pos:Pos} {Q:Value->Shared->Prop} (I:Inv X pins σ H s) (hg:Gl X x) (hm:X.mg x=none) (hv:bootBuiltins x=some u) (h:Q u s)
  (hn:x≠"__name__":=by decide) (hd:(x == ("__debug__":Str))=false:=by decide):wpAny (model X.prog X.w) X.A (eval (.Name x pos) X.env) Q E s:=by
 obtain ⟨mb,h1,h2⟩:=I.mod.blt
 exact Calls.Name_function_global I.ok.kind hg (Calls.loadGlobal_builtin (by rw[I.ok.glob];exact I.mod.glob.keeps I.bk) hm (by rw[I.ok.blt];exact h1.keeps I.bk) ((h2 x hn).trans hv) h) hd
theorem KI {x:Str} {v:V} {u:Value} {pos:Pos} (hg:Gl X x) (hm:X.mg x=some u) (r:RelV v u) (hd:(x == ("__debug__":Str))=false:=by decide):PE X (.Name x pos) (tC v):=
 fun _ _ _ H _ I h=>HG I hg hm ⟨v,H,I,r,h⟩ hd
theorem DV {x:Str} {v:V} {u:Value} {pos:Pos} (hg:Gl X x) (hm:X.mg x=none) (hv:bootBuiltins x=some u) (r:RelV v u) (hn:x≠"__name__":=by decide) (hd:(x == ("__debug__":Str))=false:=by decide):PE X (.Name x pos) (tC v):=
 fun _ _ _ H _ I h=>E7 I hg hm hv ⟨v,H,I,r,h⟩ hn hd
variable {a b:Expr} {ta tb:TE} {pos:Pos}
def tB (t:TE):TT:=fun σ H Q=>t σ H fun x H1=>∃ c,x=.bl c/\Q c H1
theorem Jp {e:Expr} {t:TE} (h:PE X e t) (he:∀ whole,isTrue e X.env whole=(do let v <-whole;standAt e.pos;holding [v] (truthy v)):=by intro _;rfl):PT X e (tB t):=by
 intro pins s σ H Q I hw
 refine isTrue_plain (thn (h pins s σ H _ I hw) fun v s1 hh_=>?_) (he _)
 obtain ⟨x,H1,I1,r1,q1⟩:=hh_
 obtain ⟨d,rfl,q⟩:=q1
 cases r1
 exact wpAny_truthy_bool ⟨H1,I1,q⟩
variable {tA tB':TT} {rest:List Expr}
def S9 (t u:TT):TT:=fun σ H Q=>t σ H fun c H1=>if c=true then u σ H1 Q else Q false H1
def tOr (t u:TT):TT:=fun σ H Q=>t σ H fun c H1=>if c=true then Q true H1 else u σ H1 Q
def OP (t:TT):TT:=fun σ H Q=>t σ H fun c H1=>Q (!c) H1
theorem PV (ha:PT X a tA):PW X (.BoolOp .And [a] pos) tA:=by
 intro wh pins s σ H Q I h
 refine isTrue_and (thn (ha pins s σ H Q I h) fun c s1 e=>?_)
 cases c with
 | true=>exact isTrue_and_nil e
 | false=>exact e
theorem Ke (ha:PT X a tA):PW X (.BoolOp .Or [a] pos) tA:=by
 intro wh pins s σ H Q I h
 refine isTrue_or (thn (ha pins s σ H Q I h) fun c s1 e=>?_)
 cases c with
 | false=>exact isTrue_or_nil e
 | true=>exact e
theorem SH (ha:PT X a tA) (hb:PW X (.BoolOp .And (b::rest) pos) tB'):PW X (.BoolOp .And (a::b::rest) pos) (S9 tA tB'):=by
 intro wh pins s σ H Q I h
 refine isTrue_and (thn (ha pins s σ H _ I h) fun c s1 hh_=>?_)
 obtain ⟨H1,I1,q1⟩:=hh_
 cases c with
 | true=>exact hb wh pins s1 σ H1 Q I1 q1
 | false=>exact ⟨H1,I1,q1⟩
theorem ID (ha:PT X a tA) (hb:PW X (.BoolOp .Or (b::rest) pos) tB'):PW X (.BoolOp .Or (a::b::rest) pos) (tOr tA tB'):=by
 intro wh pins s σ H Q I h
 refine isTrue_or (thn (ha pins s σ H _ I h) fun c s1 hh_=>?_)
 obtain ⟨H1,I1,q1⟩:=hh_
 cases c with
 | true=>exact ⟨H1,I1,q1⟩
 | false=>exact hb wh pins s1 σ H1 Q I1 q1
theorem Gn (ha:PT X a tA):PT X (.UnaryOp .Not a pos) (OP tA):=by
 intro pins s σ H Q I h
 exact isTrue_not (ha pins s σ H (fun c H1=>Q (!c) H1) I h)
def OZ (ta tb:TE):TE:=fun σ H Q=>ta σ H fun x H1=>∃ c,x=.bl c/\if c=true then tb σ H1 Q else Q (.bl false) H1
def Qz (ta:TE):TE:=fun σ H Q=>ta σ H fun x H1=>∃ c,x=.bl c/\Q (.bl (!c)) H1
theorem Pr {op} {t:TE} (h:PE X a t):PE X (.BoolOp op [a] pos) t:=fun pins s σ H Q I hw=>BoolOp_one (h pins s σ H Q I hw)
theorem QT (ha:PE X a ta) (hb:PE X (.BoolOp .And (b::rest) pos) tb):PE X (.BoolOp .And (a::b::rest) pos) (OZ ta tb):=by
 intro pins s σ H Q I h
 refine BoolOp_and (thn (ha pins s σ H _ I h) fun v s1 hh_=>?_)
 obtain ⟨x,H1,I1,r1,q1⟩:=hh_
 obtain ⟨c,rfl,q1⟩:=q1
 cases r1
 refine wpAny_truthy_bool ?_
 cases c with
 | true=>exact hb pins s1 σ H1 Q I1 q1
 | false=>exact ⟨.bl false,H1,I1,rfl,q1⟩
theorem QB (ha:PE X a ta):PE X (.UnaryOp .Not a pos) (Qz ta):=by
 intro pins s σ H Q I h
 refine UnaryOp_ (thn (ha pins s σ H _ I h) fun v s1 hh_=>?_)
 obtain ⟨x,H1,I1,r1,q1⟩:=hh_
 obtain ⟨c,rfl,q1⟩:=q1
 cases r1
 exact not_of (wpAny_truthy_bool ⟨.bl (!c),H1,I1,rfl,q1⟩)
end
def SqL (K:PySem.W.Frag) (H:Hp) (a:Addr) (xs:List V):Prop:=
 Rd H a (.lst xs) \/
  ∃ (o:Obj) (its:Array Value) (n:Nat),K.lookup a=some o/\o.cls=.type "list"/\o.dict=none/\o.data=.seq its n/\its.size<=sizeLine/\Vals xs its.toList
def SqT (K:PySem.W.Frag) (H:Hp) (a:Addr) (xs:List V):Prop:=
 Rd H a (.tup xs) \/
  ∃ (o:Obj) (its:Array Value) (n:Nat),K.lookup a=some o/\o.cls=.type "tuple"/\o.data=.seq its n/\its.size<=sizeLine/\Vals xs its.toList
def PH:Value->Option V
 | .none=>some .non
 | .bool b=>some (.bl b)
 | .int i _=>some (.int i)
 | .str x _=>some (.str x)
 | .bytes b _=>some (.byt b)
 | .float b _=>some (.flt b)
 | .ref a=>some (.ref a)
 | .type n=>some (.ty n)
 | _=>none
theorem RelV.abs {x:V} {u:Value} (r:RelV x u):PH u=some x:=by
 cases x with
 | non=>cases r;rfl
 | bl _=>cases r;rfl
 | int _=>obtain ⟨t,rfl⟩:=r;rfl
 | str _=>obtain ⟨t,rfl⟩:=r;rfl
 | byt _=>obtain ⟨t,rfl⟩:=r;rfl
 | flt _=>obtain ⟨t,rfl⟩:=r;rfl
 | ref _=>cases r;rfl
 | ty _=>cases r;rfl
theorem RelV.inj {x y:V} {u:Value} (r:RelV x u) (q:RelV y u):x=y:=Option.some.inj (r.abs.symm.trans q.abs)
theorem Vals.inj:∀ {xs ys:List V} {us:List Value},Vals xs us->Vals ys us->xs=ys
 | _,_,_,.nil,.nil=>rfl
 | _,_,_,.cons r t,.cons r' t'=>by rw[r.inj r',Vals.inj t t']
section
variable {X:Cx} {pins:List (Addr×Obj)} {σ:St} {H:Hp} {s:Shared} {a:Addr} {xs ys:List V}
theorem SqL.of {K:PySem.W.Frag} (h:H a=some (.lst xs)):SqL K H a xs:=.inl (.inl h)
theorem SqT.of {K:PySem.W.Frag} (h:H a=some (.tup xs)):SqT K H a xs:=.inl (.inl h)
theorem Inv.list (I:Inv X pins σ H s) (h:SqL X.K H a xs):∃ its:List Value,Vals xs its/\PlainL s.heap a its.toArray/\xs.length<=sizeLine:=by
 rcases h with h | ⟨o,its,n,hk,hc,hd,hs,hz,r⟩
 ·obtain ⟨z,its,n,r,e⟩:=h.ok I.hok
  exact ⟨its,r,⟨_,n,e,rfl,rfl,rfl⟩,z⟩
 ·refine ⟨its.toList,r,⟨o,n,I.kIn a o hk,hc,hd,by simpa using hs⟩,?_⟩
  have e:=r.length
  simp only[Array.length_toList] at e
  lia
theorem Inv.tuple (I:Inv X pins σ H s) (h:SqT X.K H a xs):∃ its:List Value,Vals xs its/\IsTup s.heap a its.toArray/\xs.length<=sizeLine:=by
 rcases h with h | ⟨o,its,n,hk,hc,hs,hz,r⟩
 ·obtain ⟨z,its,r,p⟩:=h.ok I.hok
  exact ⟨its,r,p,z⟩
 ·refine ⟨its.toList,r,⟨o,I.kIn a o hk,hc,n,by simpa using hs⟩,?_⟩
  have e:=r.length
  simp only[Array.length_toList] at e
  lia
theorem Inv.list_inj (I:Inv X pins σ H s) (h:SqL X.K H a xs) (h':SqL X.K H a ys):xs=ys:=by
 obtain ⟨its,r,⟨o,n,e,_,_,d⟩,_⟩:=I.list h
 obtain ⟨its',r',⟨o',n',e',_,_,d'⟩,_⟩:=I.list h'
 rw[e] at e';cases e'
 rw[d] at d'
 injection d' with d1 _
 have:its=its':=by simpa using congrArg Array.toList d1
 subst this
 exact r.inj r'
theorem Inv.tuple_inj (I:Inv X pins σ H s) (h:SqT X.K H a xs) (h':SqT X.K H a ys):xs=ys:=by
 obtain ⟨its,r,⟨o,e,_,n,d⟩,_⟩:=I.tuple h
 obtain ⟨its',r',⟨o',e',_,n',d'⟩,_⟩:=I.tuple h'
 rw[e] at e';cases e'
 rw[d] at d'
 injection d' with d1 _
 have:its=its':=by simpa using congrArg Array.toList d1
 subst this
 exact r.inj r'
end
abbrev Cx.wish (X:Cx) (E:Value->Shared->Prop):Cx:={X with xe:=E}
abbrev Cx.nox (X:Cx):Cx:=X.wish fun _ _=>False
theorem Cx.Ok.wish {X:Cx} (ok:X.Ok) (E:Value->Shared->Prop):(X.wish E).Ok:=
 ⟨ok.mod,ok.kind,ok.glob,ok.blt,ok.above,ok.inj,ok.has,ok.cab,ok.hd,ok.frames,ok.stk,ok.exf,ok.bs,ok.bsz,ok.noex,ok.exfs,ok.funs,ok.frf⟩
theorem Cx.Ok.unwish {X:Cx} {E:Value->Shared->Prop} (ok:(X.wish E).Ok):X.Ok:=
 ⟨ok.mod,ok.kind,ok.glob,ok.blt,ok.above,ok.inj,ok.has,ok.cab,ok.hd,ok.frames,ok.stk,ok.exf,ok.bs,ok.bsz,ok.noex,ok.exfs,ok.funs,ok.frf⟩
section
variable {X:Cx} {pins:List (Addr×Obj)} {σ:St} {H:Hp} {s:Shared} {E:Value->Shared->Prop}
theorem Inv.wish (I:Inv X pins σ H s) (E:Value->Shared->Prop):Inv (X.wish E) pins σ H s:=⟨I.ok.wish E,I.os,I.bare,I.base,I.loc,I.cell,I.free,I.freeC,I.pin,I.hok,I.len⟩
theorem Inv.unwish (I:Inv (X.wish E) pins σ H s):Inv X pins σ H s:=⟨I.ok.unwish,I.os,I.bare,I.base,I.loc,I.cell,I.free,I.freeC,I.pin,I.hok,I.len⟩
theorem SP.unwish {D:Ends} {f:Flow} {s':Shared} (h:SP (X.wish E) pins D f s'):SP X pins D f s':=by
 cases f with
 | next=>obtain ⟨σ',H',I,q⟩:=h;exact ⟨σ',H',I.unwish,q⟩
 | brk=>obtain ⟨σ',H',I,q⟩:=h;exact ⟨σ',H',I.unwish,q⟩
 | cont=>obtain ⟨σ',H',I,q⟩:=h;exact ⟨σ',H',I.unwish,q⟩
 | ret u=>obtain ⟨v,σ',H',I,r,q⟩:=h;exact ⟨v,σ',H',I.unwish,r,q⟩
theorem PSs.nox {st:List Stmt} {t:TS} (h:PSs X.nox st t):PSs X st t:=fun pins s σ H D I hw=>
 wpAny_mono (h pins s σ H D (I.wish _) hw) (fun _ _ q=>q.unwish) fun _ _ z=>False.elim z
end
section
variable {X:Cx} {st:Stmt} {rest:List Stmt} {t u:TS} {e:Expr} {te:TE} {pos:Pos}
def Ot:TS:=fun D σ H=>D.nx σ H
def OA (t u:TS):TS:=fun D σ H=>t {D with nx:=u D} σ H
theorem Lo:PSs X [] Ot:=fun _ _ σ H _ I h=>wpAny_execs_nil ⟨σ,H,I,h⟩
theorem Mj (h1:PS X st t) (h2:PSs X rest u):PSs X (st::rest) (OA t u):=by
 intro pins s σ H D I h
 refine wpAny_execs_cons (thn (h1 pins s σ H {D with nx:=u D} I h) fun f s1 q=>?_)
 cases f with
 | next=>
  obtain ⟨σ',H',I',q⟩:=q
  exact h2 pins s1 σ' H' D I' q
 | ret v=>exact q
 | brk=>exact q
 | cont=>exact q
theorem G1 (h1:PS X st t):PSs X [st] t:=by
 intro pins s σ H D I h
 refine wpAny_execs_cons (thn (h1 pins s σ H D I h) fun f s1 q=>?_)
 cases f with
 | next=>exact wpAny_execs_nil q
 | ret v=>exact q
 | brk=>exact q
 | cont=>exact q
theorem Inv.quiet {pins:List (Addr×Obj)} {σ:St} {H:Hp} {s:Shared} (I:Inv X pins σ H s):interactive X.env=false:=by simp[interactive,I.ok.kind]
def Q6 (te:TE):TS:=fun D σ H=>te σ H fun _ H1=>D.nx σ H1
theorem Of (he:PE X e te) (hs:swapsWith e none pos.line X.env=pure false:=by rfl):PS X (.Expr e pos) (Q6 te):=by
 intro pins s σ H D I h
 exact wpAny_Expr_any (thn (he pins s σ H _ I h) fun v s1 ⟨x,H1,I1,r1,q1⟩=>⟨σ,H1,I1,q1⟩) I.quiet hs
def QW (te:TE):TS:=fun D σ H=>te σ H D.rt
theorem Gr (he:PE X e te):PS X (.Return (some e) pos) (QW te):=by
 intro pins s σ H D I h
 exact wpAny_Return_some (thn (he pins s σ H _ I h) fun v s1 ⟨x,H1,I1,r1,q1⟩=>⟨x,σ,H1,I1,r1,q1⟩)
def Mq (c:TT) (t u:TS):TS:=fun D σ H=>c σ H fun b H1=>if b=true then t D σ H1 else u D σ H1
theorem Jg {c:Expr} {a b:List Stmt} {tc:TT} (hc:PT X c tc) (ha:PSs X a t) (hb:PSs X b u):PS X (.If c a b pos) (Mq tc t u):=by
 intro pins s σ H D I h
 refine wpAny_If (thn (hc pins s σ H _ I h) fun d s1 hh_=>?_)
 obtain ⟨H1,I1,q1⟩:=hh_
 cases d with
 | true=>exact ha pins s1 σ H1 D I1 q1
 | false=>exact hb pins s1 σ H1 D I1 q1
def Qj:TS:=fun _ _ _=>False
theorem NR {sts:List Stmt}:PSs X sts Qj:=fun _ _ _ _ _ _ h=>h.elim
end
abbrev TG:=V->St->Hp->(St->Hp->Prop)->Prop
abbrev TGs:=List V->St->Hp->(St->Hp->Prop)->Prop
def PG (X:Cx) (target:Expr) (t:TG):Prop:=
 ∀ (pins:List (Addr×Obj)) (s:Shared) (σ:St) (H:Hp) (v:V) (u:Value) (Q:St->Hp->Prop),Inv X pins σ H s->RelV v u->t v σ H Q ->
  wpAny (model X.prog X.w) X.A (assign target X.env u) (fun _ s'=>∃ σ' H',Inv X pins σ' H' s'/\Q σ' H') X.xe s
def PGs (X:Cx) (ts:List Expr) (t:TGs):Prop:=
 ∀ (pins:List (Addr×Obj)) (s:Shared) (σ:St) (H:Hp) (vs:List V) (us:List Value) (Q:St->Hp->Prop),Inv X pins σ H s->Vals vs us->t vs σ H Q ->
  wpAny (model X.prog X.w) X.A (assignInOrder ((assignEach ts X.env).map (·.2)) us) (fun _ s'=>∃ σ' H',Inv X pins σ' H' s'/\Q σ' H') X.xe s
abbrev IT:=V->V->V->Hp->(Hp->Prop)->Prop
def HJ (X:Cx) (t:IT):Prop:=
 ∀ (pins:List (Addr×Obj)) (s:Shared) (σ:St) (H:Hp) (o i v:V) (ov iv u:Value) (Q:Hp->Prop),Inv X pins σ H s->RelV o ov->RelV i iv->RelV v u->t o i v H Q ->
  wpAny (model X.prog X.w) X.A (setItem ov iv u) (fun _ s'=>∃ H',Inv X pins σ H' s'/\Q H') X.xe s
section
variable {X:Cx} {pos:Pos}
def Cd (i:Nat):TG:=fun v σ H Q=>Q (σ.set i (some v)) H
theorem BF {i:Nat} {x:Str} (hN:X.N.Nodup) (hi:X.N[i]?=some x) (hx:Loc X.env.scope x) (hf:X.fn x=true\/X.env.scope.names.lookup x=some .local:=by first | exact .inl rfl | exact .inr rfl | assumption):PG X (.Name x pos) (Cd i):=by
 intro pins s σ H v u Q I r h
 exact wpAny_assign_Name (KL I hN hi hx r (fun s' I'=>⟨_,H,I',h⟩) hf)
def Kl:TGs:=fun vs σ H Q=>vs=[]/\Q σ H
def LZ (t:TG) (u:TGs):TGs:=fun vs σ H Q=>∃ v r,vs=v::r/\t v σ H fun σ' H'=>u r σ' H' Q
theorem Nt:PGs X [] Kl:=by
 intro pins s σ H vs us Q I r h
 obtain ⟨e,h⟩:=h
 subst e
 cases r
 exact assignInOrder_nil ⟨σ,H,I,h⟩
theorem Le {e:Expr} {es:List Expr} {t:TG} {u:TGs} (h1:PG X e t) (h2:PGs X es u)
  (hs:(assignEach (e::es) X.env).map (·.2)=assign e X.env::(assignEach es X.env).map (·.2):=by rfl):PGs X (e::es) (LZ t u):=by
 intro pins s σ H vs us Q I r h
 obtain ⟨v,vr,e1,h⟩:=h
 subst e1
 cases r with
 | cons r rr=>
  rw[hs]
  refine assignInOrder_cons (thn (h1 pins s σ H _ _ _ I r h) fun _ s1 hh_=>?_)
  obtain ⟨σ1,H1,I1,q1⟩:=hh_
  exact h2 pins s1 σ1 H1 _ _ Q I1 rr q1
def F0 (K:PySem.W.Frag) (n:Nat) (t:TGs):TG:=fun v σ H Q=>∃ a xs,v=.ref a/\SqT K H a xs/\xs.length=n/\t xs σ H Q
theorem OL {es:List Expr} {k:Nat} {t:TGs} {n:Nat} (hc:X.calm=true) (h:PGs X es t)
  (hn:(assignEach es X.env).length=n:=by rfl) (hst:(assignEach es X.env).findIdx? (·.1)=none:=by rfl):PG X (.Tuple es k pos) (F0 X.K n t):=by
 intro pins s σ H v u Q I r hw
 obtain ⟨a,xs,e1,hq,hl,hw⟩:=hw
 subst e1
 cases r
 obtain ⟨its,rv,ht,hz⟩:=I.tuple hq
 refine assign_Tuple_tuple (I.ok.hd hc) ht (by simp[hn,<-hl,rv.length]) hst fun h' hx=>?_
 have I1:Inv X pins σ H {s with heap:=h'}:=I.kept (t':=s.toks) fun b o e=>hx b o (Nat.ne_of_lt (Heap.lt_size e)) e
 exact h pins _ σ H xs _ Q I1 (by simpa using rv) hw
def K1 (to ti:TE) (t:IT):TG:=fun v σ H Q=>to σ H fun o H1=>ti σ H1 fun i H2=>t o i v H2 fun H3=>Q σ H3
theorem Pt {o i:Expr} {to ti:TE} {t:IT} (ho:PE X o to) (hi:PE X i ti) (hs:HJ X t)
  (ha:∀ v,assign (.Subscript o i pos) X.env v=(do
   let ov <-holding [v] (eval o X.env)
   let iv <-holding [v,ov] (eval i X.env)
   standAt pos
   holding [v,ov,iv] (setItem ov iv v)
   release [v,ov,iv] []):=by intro _;rfl):PG X (.Subscript o i pos) (K1 to ti t):=by
 intro pins s σ H v u Q I r h
 rw[ha]
 refine wpAny_bind (wpAny_holding (thn (ho pins s σ H _ I h) fun ov s1 hh_=>?_))
 obtain ⟨x,H1,I1,r1,q1⟩:=hh_
 refine wpAny_bind (wpAny_holding (thn (hi pins s1 σ H1 _ I1 q1) fun iv s2 hh_=>?_))
 obtain ⟨y,H2,I2,r2,q2⟩:=hh_
 refine wpAny_bind (wpAny_standAt (wpAny_bind (wpAny_holding (thn (hs pins s2 σ H2 x y v ov iv u _ I2 r1 r2 r q2) fun _ s3 hh_=>?_))))
 obtain ⟨H3,I3,q3⟩:=hh_
 exact wpAny_release ⟨σ,H3,I3,q3⟩
def Fz (te:TE) (g:TG):TS:=fun D σ H=>te σ H fun x H1=>g x σ H1 D.nx
theorem Pc {tg e:Expr} {te:TE} {g:TG} (he:PE X e te) (hg:PG X tg g) (hs:swapsWithSole [tg] e pos.line X.env=pure false:=by rfl) (hw:swappedStores [tg] e X.env=pure none:=by rfl)
  (h1:(assignEach [tg] X.env).map (·.2)=[assign tg X.env]:=by rfl):PS X (.Assign [tg] e pos) (Fz te g):=by
 intro pins s σ H D I h
 refine wpAny_Assign_stores (thn (he pins s σ H _ I h) fun v s1 hh_=>?_) hs hw
 obtain ⟨x,H1,I1,r1,q1⟩:=hh_
 rw[h1]
 exact thn (hg pins s1 σ H1 x v _ I1 r1 q1) fun _ s2 q=>q
theorem I0 {i:Nat} {x:Str} {e:Expr} {te:TE} {pos':Pos} (hN:X.N.Nodup) (hi:X.N[i]?=some x) (hx:Loc X.env.scope x) (he:PE X e te) (hs:swapsWith e (some (.Name x pos')) pos.line X.env=pure false:=by rfl) (hf:X.fn x=true\/X.env.scope.names.lookup x=some .local:=by first | exact .inl rfl | exact .inr rfl | assumption) :
  PS X (.Assign [.Name x pos'] e pos) (Fz te (Cd i)):=by
 intro pins s σ H D I h
 refine wpAny_Assign_Name (thn (he pins s σ H _ I h) fun v s1 hh_=>?_) hs
 obtain ⟨y,H1,I1,r1,q1⟩:=hh_
 exact KL I1 hN hi hx r1 (fun s2 I2=>⟨_,H1,I2,q1⟩) hf
end
section
variable {X:Cx} {pos:Pos}
end
structure It where
 go:Nat->Hp->Prop
 yld:Nat->Hp->V->Hp->Prop
 stop:Nat->Hp->Prop
def Bu (X:Cx) (pins:List (Addr×Obj)) (H:Hp) (b:Addr):Prop:=
 H b=none/\b≠X.env.locals/\b∉X.fs/\(b∈X.ex\/X.s₀.heap.objs.size<=b)/\(∀ x c,X.env.cells.lookup x=some c->c≠b)/\∀ p∈X.pn++pins,p.1≠b
theorem Inv.fpOk {X:Cx} {pins:List (Addr×Obj)} {σ:St} {H H':Hp} {s:Shared} {b:Addr} (I:Inv X pins σ H s) (hb:s.heap.objs.size<=b) (hn:H' b=none):Bu X pins H' b:=by
 refine ⟨hn,Nat.ne_of_gt (Nat.lt_of_lt_of_le I.lt hb),I.nofs hb,.inr (Nat.le_trans I.sz hb),fun x c e z=>?_,fun p hp z=>?_⟩
 ·obtain ⟨v,q⟩:=I.cell x c e
  exact absurd (Nat.lt_of_lt_of_le q.lt (by rw[z];exact hb)) (Nat.lt_irrefl _)
 ·exact absurd (Nat.lt_of_lt_of_le (Heap.lt_size (I.pin p hp).1) (by rw[z];exact hb)) (Nat.lt_irrefl _)
structure Turn (P:Program) (w:World) (K:PySem.W.Frag) (tg:Expr) (J:It) (fp:List Addr) (it:Addr) (tn:Nat->Heap->Prop):Prop where
 mem:it∈fp
 obj:∀ i h,tn i h->∀ b∈fp,∃ o,h.get? b=some o/\∀ v,o.data≠.cell v
 keep:∀ i h h',tn i h->(∀ b∈fp,∀ o,h.get? b=some o->h'.get? b=some o)->tn i h'
 item:∀ (X:Cx),X.prog=P->X.w=w->X.K=K->X.calm=true->∀ (i:Nat) (pins:List (Addr×Obj)) (s:Shared) (σ:St) (H:Hp) (E:Value->Shared->Prop),Inv X pins σ H s->(∀ b∈fp,Bu X pins H b)->tn i s.heap->J.go i H ->
  wpAny (model P w) X.A (pyNext (.ref it)) (fun r s1=>∃ u,r=some u /\
   wpAny (model P w) X.A (letOwnedTupleGo tg (.ref it) u) (fun _ s2=>∃ x H',Inv X pins σ H' s2/\RelV x u/\J.yld i H x H'/\tn (i+1) s2.heap/\∀ b∈fp,H' b=none) E s1) E s
 done:∀ (X:Cx),X.prog=P->X.w=w->X.K=K->X.calm=true->∀ (i:Nat) (pins:List (Addr×Obj)) (s:Shared) (σ:St) (H:Hp) (E:Value->Shared->Prop),Inv X pins σ H s->(∀ b∈fp,Bu X pins H b)->tn i s.heap->J.stop i H ->
  wpAny (model P w) X.A (pyNext (.ref it)) (fun r s1=>r=none/\Inv X pins σ H s1) E s
 self:∀ (A:Around) (i:Nat) (s:Shared) (Q:Value->Shared->Prop) (E:Value->Shared->Prop),tn i s.heap->Q (.ref it) s->wpAny (model P w) A (pyIter (.ref it)) Q E s
abbrev TI:=St->Hp->(It->Hp->Prop)->Prop
def PIE (X:Cx) (pins:List (Addr×Obj)) (σ:St) (tg:Expr) (R:It->Hp->Prop) (itv:Value) (s2:Shared):Prop:=
 ∃ (it:Addr) (fp:List Addr) (tn:Nat->Heap->Prop) (J:It) (H':Hp),itv=.ref it/\Inv X pins σ H' s2/\Turn X.prog X.w X.K tg J fp it tn/\tn 0 s2.heap/\(∀ b∈fp,Bu X pins H' b)/\R J H'
def PI (X:Cx) (tg iter:Expr) (wi:TI):Prop:=
 ∀ (pins:List (Addr×Obj)) (s:Shared) (σ:St) (H:Hp) (R:It->Hp->Prop),Inv X pins σ H s->wi σ H R ->
  wpAny (model X.prog X.w) X.A (eval iter X.env) (fun v s1=>wpAny (model X.prog X.w) X.A (pyIter v) (PIE X pins σ tg R) X.xe s1) X.xe s
theorem Fg {M:Model} {A:Around} {E:Value->Shared->Prop} {s:Shared} {tg:Expr} {it:Addr} {u:Value} {o:Obj} {n:String} {vs:Array Value} {Q:Unit->Shared->Prop} (ho:s.heap.get? it=some o) (hc:o.cls=.type n) (hd:o.data=.fields vs)
  (hn:["enumerate","zip","dict_itemiterator","dict_reverseitemiterator","odict_iterator","itertools.zip_longest","itertools.pairwise"].contains n=false) (hQ:Q () s):wpAny M A (letOwnedTupleGo tg (.ref it) u) Q E s:=by
 unfold letOwnedTupleGo
 cases tg<;>first
  | exact wpAny_pure hQ
  | (cases u<;>first
    | exact wpAny_pure hQ
    | (refine wpAny_bind (wpAny_load ho ?_)
       rw[hc,hd]
       show wpAny M A (if (["enumerate","zip","dict_itemiterator","dict_reverseitemiterator","odict_iterator","itertools.zip_longest","itertools.pairwise"].contains n && vs[0]? == some (rawInt _))=true then _ else _) Q E s
       rw[if_neg (by intro h;rw[hn,Bool.false_and] at h;cases h)]
       exact wpAny_pure hQ))
def Itl (K:PySem.W.Frag) (a:Addr):It:=
 ⟨fun i H=>∃ xs x,SqL K H a xs/\xs[i]?=some x,fun i H x H'=>H'=H/\∀ xs,SqL K H a xs->xs[i]?=some x,fun i H=>∃ xs,SqL K H a xs/\xs.length<=i⟩
def Itt (K:PySem.W.Frag) (a:Addr):It:=
 ⟨fun i H=>∃ xs x,SqT K H a xs/\xs[i]?=some x,fun i H x H'=>H'=H/\∀ xs,SqT K H a xs->xs[i]?=some x,fun i H=>∃ xs,SqT K H a xs/\xs.length<=i⟩
def Itr (lo:Int) (n:Nat):It:=⟨fun i _=>i<n,fun i H x H'=>H'=H/\x=.int (lo+i),fun i _=>n<=i⟩
theorem NU {P:Program} {w:World} {K:PySem.W.Frag} {tg:Expr} (a it:Addr):Turn P w K tg (Itl K a) [it] it (fun i h=>h.IsListIter it a i) where
 mem:=by simp
 obj:=fun i h st b hb=>by
  have e:b=it:=by simpa using hb
  subst e
  obtain ⟨o,e,c,d⟩:=st
  exact ⟨o,e,fun v z=>by rw[d] at z;cases z⟩
 keep:=fun i h h' st k=>st.at fun o e=>k it (by simp) o e
 item:=by
  intro X hP hw hK hc i pins s σ H E I hf st hg
  subst hP hw hK
  obtain ⟨xs,x,hq,hx⟩:=hg
  obtain ⟨its,rv,p,hz⟩:=I.list hq
  obtain ⟨u,hu,ru⟩:=rv.get hx
  obtain ⟨f0,f1,f2,f3,f4,f5⟩:=hf it (by simp)
  refine wpAny_pyNext_list_item st p.isList (x:=u) (by simpa using hu) fun h' st' sb=>?_
  have I1:Inv X pins σ H {s with heap:=h'}:=I.turned (t':=s.toks) (fun b o hb e=>(sb.2 b hb).trans e) f0 f1 f3 f4 f5
  obtain ⟨o,e,c,d⟩:=id st'
  exact ⟨u,rfl,Fg (s:={s with heap:=h'}) e c d (by decide) ⟨x,H,I1,ru,⟨rfl,fun ys hy=>by rw[I.list_inj hy hq];exact hx⟩,st',fun b hb=>(hf b hb).1⟩⟩
 done:=by
  intro X hP hw hK hc i pins s σ H E I hf st hg
  subst hP hw hK
  obtain ⟨xs,hq,hx⟩:=hg
  obtain ⟨its,rv,p,hz⟩:=I.list hq
  obtain ⟨f0,f1,f2,f3,f4,f5⟩:=hf it (by simp)
  have hl:=rv.length
  exact wpAny_pyNext_list_end (I.ok.hd hc) st p.isList (by simp;lia) fun h' eb=>⟨rfl,I.turned (t':=s.toks) (fun b o hb e=>eb b o hb e) f0 f1 f3 f4 f5⟩
 self:=fun _ _ _ _ _ st h=>wpAny_pyIter_listiter st h
theorem P5 {P:Program} {w:World} {K:PySem.W.Frag} {tg:Expr} (a it:Addr):Turn P w K tg (Itt K a) [it] it (fun i h=>h.IsTupleIter it a i) where
 mem:=by simp
 obj:=fun i h st b hb=>by
  have e:b=it:=by simpa using hb
  subst e
  obtain ⟨o,e,c,d⟩:=st
  exact ⟨o,e,fun v z=>by rw[d] at z;cases z⟩
 keep:=fun i h h' st k=>st.at fun o e=>k it (by simp) o e
 item:=by
  intro X hP hw hK hc i pins s σ H E I hf st hg
  subst hP hw hK
  obtain ⟨xs,x,hq,hx⟩:=hg
  obtain ⟨its,rv,p,hz⟩:=I.tuple hq
  obtain ⟨u,hu,ru⟩:=rv.get hx
  obtain ⟨f0,f1,f2,f3,f4,f5⟩:=hf it (by simp)
  refine wpAny_pyNext_tuple_item st (show s.heap.IsTuple a its.toArray from p) (x:=u) (by simpa using hu) fun h' st' sb=>?_
  have I1:Inv X pins σ H {s with heap:=h'}:=I.turned (t':=s.toks) (fun b o hb e=>(sb.2 b hb).trans e) f0 f1 f3 f4 f5
  obtain ⟨o,e,c,d⟩:=id st'
  exact ⟨u,rfl,Fg (s:={s with heap:=h'}) e c d (by decide) ⟨x,H,I1,ru,⟨rfl,fun ys hy=>by rw[I.tuple_inj hy hq];exact hx⟩,st',fun b hb=>(hf b hb).1⟩⟩
 done:=by
  intro X hP hw hK hc i pins s σ H E I hf st hg
  subst hP hw hK
  obtain ⟨xs,hq,hx⟩:=hg
  obtain ⟨its,rv,p,hz⟩:=I.tuple hq
  obtain ⟨f0,f1,f2,f3,f4,f5⟩:=hf it (by simp)
  have hl:=rv.length
  exact wpAny_pyNext_tuple_end (I.ok.hd hc) st (show s.heap.IsTuple a its.toArray from p) (by simp;lia) fun h' eb=>⟨rfl,I.turned (t':=s.toks) (fun b o hb e=>eb b o hb e) f0 f1 f3 f4 f5⟩
 self:=fun _ _ _ _ _ st h=>wpAny_pyIter_tupleiter st h
theorem Mc {P:Program} {w:World} {K:PySem.W.Frag} {tg:Expr} (it:Addr) (lo:Int) (n:Nat):Turn P w K tg (Itr lo n) [it] it (fun i h=>IsRangeIter h it (lo+(i:Nat) * 1) ((n:Int) - (i:Nat)) 1) where
 mem:=by simp
 obj:=fun i h st b hb=>by
  have e:b=it:=by simpa using hb
  subst e
  exact ⟨_,st,fun v z=>by
   have z':Data.fields _=Data.cell v:=z
   cases z'⟩
 keep:=fun i h h' st k=>k it (by simp) _ st
 item:=by
  intro X hP hw hK hc i pins s σ H E I hf st hg
  subst hP hw hK
  obtain ⟨f0,f1,f2,f3,f4,f5⟩:=hf it (by simp)
  have W:=Walks.range (prog:=X.prog) (w:=X.w) (I.ok.hd hc) it lo 1 n
  refine W.item i s _ _ hg st fun v h' tk hv st' kk=>?_
  obtain ⟨t,rfl⟩:=hv
  have I1:Inv X pins σ H {s with heap:=h',toks:=tk}:=I.turned (fun b o hb e=>kk b o (by simpa using hb) e) f0 f1 f3 f4 f5
  refine ⟨_,rfl,Fg (s:={s with heap:=h',toks:=tk}) (n:="range_iterator") st' rfl rfl (by decide) ⟨.int (lo+i),H,I1,⟨t,?_⟩,⟨rfl,rfl⟩,st',fun b hb=>(hf b hb).1⟩⟩
  rw[Int.mul_one]
 done:=by
  intro X hP hw hK hc i pins s σ H E I hf st hg
  subst hP hw hK
  obtain ⟨f0,f1,f2,f3,f4,f5⟩:=hf it (by simp)
  exact wpAny_pyNext_range_end (I.ok.hd hc) st (by have:n<=i:=hg;lia) fun h' eb=>⟨rfl,I.turned (t':=s.toks) (fun b o hb e=>eb b o hb e) f0 f1 f3 f4 f5⟩
 self:=fun _ _ _ _ _ st h=>wpAny_pyIter_rangeiter st h
section
variable {X:Cx} {tg:Expr}
def QS (K:PySem.W.Frag) (tl:TE):TI:=fun σ H R=>tl σ H fun x H1=>∃ a,x=.ref a/\(∃ xs,SqL K H1 a xs)/\R (Itl K a) H1
def P4 (K:PySem.W.Frag) (tl:TE):TI:=fun σ H R=>tl σ H fun x H1=>∃ a,x=.ref a/\(∃ xs,SqT K H1 a xs)/\R (Itt K a) H1
theorem Hr {l:Expr} {tl:TE} (hl:PE X l tl):PI X tg l (QS X.K tl):=by
 intro pins s σ H R I h
 refine thn (hl pins s σ H _ I h) fun v s1 hh_=>?_
 obtain ⟨x,H1,I1,r1,q1⟩:=hh_
 obtain ⟨a,e,⟨xs,hq⟩,q⟩:=q1
 subst e
 cases r1
 obtain ⟨its,rv,p,hz⟩:=I1.list hq
 refine wpAny_pyIter_list p.isList ?_
 refine ⟨s1.heap.objs.size,[s1.heap.objs.size],_,_,H1,rfl,I1.kept (t':=s1.toks) fun b o e=>Heap.get?_push_of_some _ e,NU a _,⟨_,Heap.get?_push_size _ rfl,rfl,rfl⟩,fun b hb=>?_,q⟩
 have e:b=s1.heap.objs.size:=by simpa using hb
 subst e
 exact I1.fpOk (Nat.le_refl _) (I1.hok.fresh (Nat.le_refl _))
theorem Pq {l:Expr} {tl:TE} (hl:PE X l tl):PI X tg l (P4 X.K tl):=by
 intro pins s σ H R I h
 refine thn (hl pins s σ H _ I h) fun v s1 hh_=>?_
 obtain ⟨x,H1,I1,r1,q1⟩:=hh_
 obtain ⟨a,e,⟨xs,hq⟩,q⟩:=q1
 subst e
 cases r1
 obtain ⟨its,rv,p,hz⟩:=I1.tuple hq
 refine wpAny_pyIter_tuple (show s1.heap.IsTuple a its.toArray from p) ?_
 refine ⟨s1.heap.objs.size,[s1.heap.objs.size],_,_,H1,rfl,I1.kept (t':=s1.toks) fun b o e=>Heap.get?_push_of_some _ e,P5 a _,⟨_,Heap.get?_push_size _ rfl,rfl,rfl⟩,fun b hb=>?_,q⟩
 have e:b=s1.heap.objs.size:=by simpa using hb
 subst e
 exact I1.fpOk (Nat.le_refl _) (I1.hok.fresh (Nat.le_refl _))
theorem Nq {pins:List (Addr×Obj)} {σ:St} {H:Hp} {s:Shared} {R:It->Hp->Prop} {E:Value->Shared->Prop} {lo hi:Int} {t u v:Tok} {tk:Nat} (I:Inv X pins σ H s) (h1:-(2 ^ 62)<=lo) (h2:lo<2 ^ 62) (h3:-(2 ^ 62)<=hi) (h4:hi<2 ^ 62)
  (q:R (Itr lo (hi - lo).toNat) H):wpAny (model X.prog X.w) X.A (pyIter (.ref s.heap.objs.size)) (PIE X pins σ tg R) E {s with heap:=s.heap.push {cls:=.type "range",data:=.fields #[.int lo t,.int hi u,.int 1 v]},toks:=tk}:=by
 refine wpAny_pyIter_range (IsRange.new ..) (small_one h1 h2 h3 h4) ?_
 have I1:Inv X pins σ H {s with heap:=s.heap.push {cls:=.type "range",data:=.fields #[.int lo t,.int hi u,.int 1 v]},toks:=tk}:=I.kept fun b o e=>Heap.get?_push_of_some _ e
 refine ⟨(s.heap.push {cls:=.type "range",data:=.fields #[.int lo t,.int hi u,.int 1 v]}).objs.size,[(s.heap.push {cls:=.type "range",data:=.fields #[.int lo t,.int hi u,.int 1 v]}).objs.size],_,_,H,rfl,
  I1.kept (t':=tk) fun b o e=>Heap.get?_push_of_some _ e,Mc _ lo (hi - lo).toNat,?_,fun b hb=>?_,q⟩
 ·have e1:lo+((0:Nat):Int) * 1=lo:=by simp
  have e2:(((hi - lo).toNat:Nat):Int) - ((0:Nat):Int)=Builtin.Range.rangeSize lo hi 1:=by rw[rangeSize_one];split<;>lia
  show IsRangeIter _ _ (lo+((0:Nat):Int) * 1) ((((hi - lo).toNat:Nat):Int) - ((0:Nat):Int)) 1
  rw[e1,e2]
  exact Heap.get?_push_size _ rfl
 ·have e:b=(s.heap.push {cls:=.type "range",data:=.fields #[.int lo t,.int hi u,.int 1 v]}).objs.size:=by simpa using hb
  subst e
  exact I1.fpOk (Nat.le_refl _) (I1.hok.fresh (Nat.le_refl _))
def NO (ta:TA):TI:=fun σ H R=>ta σ H fun vs H1=>∃ j:Int,vs=[.int j]/\-(2 ^ 62)<=j/\j<2 ^ 62/\R (Itr 0 j.toNat) H1
theorem Nk {a:Expr} {ta:TA} {p pos:Pos} (hg:Gl X "range") (hm:X.mg "range"=none) (ha:PA X [a] ta) (hs:starEach [a] X.env=[(false,eval a X.env)]:=by rfl):PI X tg (.Call (.Name "range" p) [a] [] pos) (NO ta):=by
 intro pins s σ H R I h
 refine Call_ (E7 I hg hm boot_range (PyProof.Rows.callWith_type1 (thn (ha pos pins s σ H _ I h) fun us s1 hh_=>?_) hs rfl))
 obtain ⟨vs,H1,I1,r1,q1⟩:=hh_
 obtain ⟨j,e,q1,q2,q⟩:=q1
 subst e
 cases r1 with
 | cons r rr=>
  cases rr
  obtain ⟨t,rfl⟩:=r
  exact call_range_1 (Nq I1 (by lia) (by lia) q1 q2 (by simpa using q))
def Q9 (wi:TI) (g:TG) (tb:TS):TS:=fun D σ H=>wi σ H fun J H1=>∃ W:Nat->Nat->St->Hp->Prop,(∃ m,W 0 m σ H1)/\∀ i m σ H,W i m σ H ->
 (J.stop i H/\D.nx σ H)\/(J.go i H/\∃ N:St->Hp->Prop,(∀ σ' H',N σ' H'->∃ m',m'<m/\W (i+1) m' σ' H')/\∀ x H',J.yld i H x H'->g x σ H' fun σ2 H2=>tb {D with nx:=N,ct:=N,bk:=D.nx} σ2 H2)
def E8 (fp:List Addr) (h:Heap):List (Addr×Obj):=fp.filterMap fun b=>(h.get? b).map fun o=>(b,o)
theorem FX {fp:List Addr} {h:Heap} {b:Addr} {o:Obj} (hb:b∈fp) (e:h.get? b=some o):(b,o)∈E8 fp h:=List.mem_filterMap.mpr ⟨b,hb,by rw[e];rfl⟩
theorem RM {fp:List Addr} {h:Heap} {p:Addr×Obj} (hp:p∈E8 fp h):p.1∈fp/\h.get? p.1=some p.2:=by
 obtain ⟨b,hb,e⟩:=List.mem_filterMap.mp hp
 cases q:h.get? b with
 | none=>rw[q] at e;cases e
 | some o=>
  rw[q] at e
  have e':(b,o)=p:=Option.some.inj e
  subst e'
  exact ⟨hb,q⟩
theorem Inv.pinned {pins:List (Addr×Obj)} {σ:St} {H:Hp} {s:Shared} {fp:List Addr} (I:Inv X pins σ H s) (hf:∀ b∈fp,Bu X pins H b) (ho:∀ b∈fp,∃ o,s.heap.get? b=some o/\∀ v,o.data≠.cell v):Inv X (pins++E8 fp s.heap) σ H s:=
 I.pins_of fun p hp=>(List.mem_append.mp hp).elim (fun z=>I.pin p (List.mem_append_right _ z)) fun z=>by
  obtain ⟨hb,e⟩:=RM z
  obtain ⟨f0,f1,f2,_⟩:=hf p.1 hb
  obtain ⟨o,e',d⟩:=ho p.1 hb
  rw[e] at e';cases e'
  exact ⟨e,f0,f1,f2,d⟩
theorem Inv.unpinned {pins pl:List (Addr×Obj)} {σ:St} {H:Hp} {s:Shared} (I:Inv X (pins++pl) σ H s):Inv X pins σ H s:=I.pins_of fun p hp=>I.pin p (List.mem_append_right _ (List.mem_append_left _ hp))
theorem Lv {iter:Expr} {body:List Stmt} {wi:TI} {g:TG} {tb:TS} {pos:Pos} (hp:PassesOwn (model X.prog X.w) X.A X.env X.xe) (hc:X.calm=true) (hi:PI X tg iter wi) (hg:PG X tg g) (hb:PSs X body tb)
  (hs:∀ x,foldedSetIterable iter X.env x=pure x:=by intro _;rfl):PS X (.For tg iter body [] pos) (Q9 wi g tb):=by
 intro pins s σ H D I h
 refine wpAny_For (thn (hi pins s σ H _ I h) fun v s1 h1=>thn h1 fun itv s2 h2=>?_) hs
 obtain ⟨it,fp,tn,J,H2,e,I2,T,st2,f2,W,⟨m0,w0⟩,turn⟩:=h2
 subst e
 have stat:∀ {H':Hp},(∀ b∈fp,H' b=none)->∀ b∈fp,Bu X pins H' b:=fun hn b hb=>⟨hn b hb,(f2 b hb).2⟩
 refine codeAny_forLoop_any (fun n s'=>∃ i σ' H',Inv X pins σ' H' s'/\tn i s'.heap/\(∀ b∈fp,H' b=none)/\W i n σ' H') ?_ m0 ⟨0,σ,H2,I2,st2,fun b hb=>(f2 b hb).1,w0⟩
 rintro n s3 ⟨i,σ3,H3,I3,st3,fr3,w3⟩
 rcases turn i n σ3 H3 w3 with ⟨stop,qn⟩ | ⟨go,N,hN,step⟩
 ·refine wpAny_passesOwn hp (thn (T.done X rfl rfl rfl hc i pins s3 σ3 H3 X.xe I3 (stat fr3) st3 stop) fun r s4 hh_=>?_)
  obtain ⟨hr,I4⟩:=hh_
  subst hr
  exact wpAny_execs_nil ⟨σ3,H3,I4,qn⟩
 ·refine wpAny_passesOwn hp (thn (T.item X rfl rfl rfl hc i pins s3 σ3 H3 X.xe I3 (stat fr3) st3 go) fun r s4 hh_=>?_)
  obtain ⟨u,hr,h4⟩:=hh_
  subst hr
  refine wpAny_passesOwn hp (thn h4 fun _ s5 hh_=>?_)
  obtain ⟨x,H5,I5,r5,y5,st5,fr5⟩:=hh_
  have I5':=I5.pinned (stat fr5) (T.obj _ _ st5)
  refine wpAny_passesOwn hp (thn (hg _ s5 σ3 H5 x u _ I5' r5 (step x H5 y5)) fun _ s6 hh_=>?_)
  obtain ⟨σ6,H6,I6,q6⟩:=hh_
  refine wpAny_passesOwn hp (thn (hb _ s6 σ6 H6 _ I6 q6) fun f s7 q7=>?_)
  have again:∀ {σ7:St} {H7:Hp},Inv X (pins++E8 fp s5.heap) σ7 H7 s7->N σ7 H7->∃ m,m<n/\∃ i σ' H',Inv X pins σ' H' s7/\tn i s7.heap/\(∀ b∈fp,H' b=none)/\W i m σ' H':=fun {σ7 H7} I7 n7=>by
   obtain ⟨m',hm,w7⟩:=hN σ7 H7 n7
   refine ⟨m',hm,i+1,σ7,H7,I7.unpinned,T.keep _ _ _ st5 fun b hb o e=>(I7.pin (b,o) (List.mem_append_right _ (List.mem_append_right _ (FX hb e)))).1,fun b hb=>?_,w7⟩
   obtain ⟨o,e,d⟩:=T.obj _ _ st5 b hb
   exact (I7.pin (b,o) (List.mem_append_right _ (List.mem_append_right _ (FX hb e)))).2.1
  cases f with
  | next=>obtain ⟨σ7,H7,I7,n7⟩:=q7;exact again I7 n7
  | cont=>obtain ⟨σ7,H7,I7,n7⟩:=q7;exact again I7 n7
  | brk=>obtain ⟨σ7,H7,I7,q7⟩:=q7;exact ⟨σ7,H7,I7.unpinned,q7⟩
  | ret v=>obtain ⟨x7,σ7,H7,I7,r7,q7⟩:=q7;exact ⟨x7,σ7,H7,I7.unpinned,r7,q7⟩
end
abbrev R2:=V->V->Hp->VK->Prop
def OpR (X:Cx) (f:Value->Value->Sem Value) (r:R2):Prop:=
 ∀ (pins:List (Addr×Obj)) (s:Shared) (σ:St) (H:Hp) (x y:V) (v u:Value) (Q:VK),Inv X pins σ H s->RelV x v->RelV y u->r x y H Q ->
  wpAny (model X.prog X.w) X.A (f v u) (EP X pins σ Q) X.xe s
def UnR (X:Cx) (f:Value->Sem Value) (r:V->Hp->VK->Prop):Prop:=
 ∀ (pins:List (Addr×Obj)) (s:Shared) (σ:St) (H:Hp) (x:V) (v:Value) (Q:VK),Inv X pins σ H s->RelV x v->r x H Q ->
  wpAny (model X.prog X.w) X.A (f v) (EP X pins σ Q) X.xe s
def BN (X:Cx) (f:Value) (r:List V->Hp->VK->Prop):Prop:=
 ∀ (pins:List (Addr×Obj)) (s:Shared) (σ:St) (H:Hp) (xs:List V) (us:List Value) (Q:VK),Inv X pins σ H s->Vals xs us->r xs H Q ->
  wpAny (model X.prog X.w) X.A (call f us) (EP X pins σ Q) X.xe s
def SS (X:Cx) (r:V->Hp->(Bool->Hp->Prop)->Prop):Prop:=
 ∀ (pins:List (Addr×Obj)) (s:Shared) (σ:St) (H:Hp) (x:V) (v:Value) (Q:Bool->Hp->Prop),Inv X pins σ H s->RelV x v->r x H Q ->
  wpAny (model X.prog X.w) X.A (truthy v) (TP X pins σ Q) X.xe s
def tOp (r:R2) (ta tb:TE):TE:=fun σ H Q=>ta σ H fun x H1=>tb σ H1 fun y H2=>r x y H2 Q
def tUn (r:V->Hp->VK->Prop) (ta:TE):TE:=fun σ H Q=>ta σ H fun x H1=>r x H1 Q
def rI (C:Int->Int->Prop) (g:Int->Int->V):R2:=fun x y H Q=>∃ i j,x=.int i/\y=.int j/\C i j/\Q (g i j) H
def rI0 (g:Int->Int->V):R2:=fun x y H Q=>∃ i j,x=.int i/\y=.int j/\Q (g i j) H
def rU (g:Int->V):V->Hp->VK->Prop:=fun x H Q=>∃ i,x=.int i/\Q (g i) H
section
variable {X:Cx} {a b c:Expr} {ta tb tc:TE} {pos:Pos}
theorem Ip (ha:PE X a ta) (hb:PE X b tb) {pins:List (Addr×Obj)} {s:Shared} {σ:St} {H:Hp} {R:V->V->Hp->Prop} (I:Inv X pins σ H s)
  (h:ta σ H fun x H1=>tb σ H1 fun y H2=>R x y H2) {Q:Value->Shared->Prop} {f:Value->Value->Sem Value}
  (hf:∀ v u s2 x y H2,Inv X pins σ H2 s2->RelV x v->RelV y u->R x y H2->wpAny (model X.prog X.w) X.A (f v u) Q X.xe s2) :
  wpAny (model X.prog X.w) X.A (eval a X.env) (fun v s₁=>wpAny (model X.prog X.w) X.A (eval b X.env) (fun u s₂=>wpAny (model X.prog X.w) X.A (f v u) Q X.xe s₂) X.xe s₁) X.xe s:=by
 refine thn (ha pins s σ H _ I h) fun v s1 hh_=>?_
 obtain ⟨x,H1,I1,r1,q1⟩:=hh_
 refine thn (hb pins s1 σ H1 _ I1 q1) fun u s2 hh_=>?_
 obtain ⟨y,H2,I2,r2,q2⟩:=hh_
 exact hf v u s2 x y H2 I2 r1 r2 q2
theorem Kz {op:Operator} {r:R2} (ho:OpR X (binaryOp op) r) (ha:PE X a ta) (hb:PE X b tb):PE X (.BinOp a op b pos) (tOp r ta tb):=by
 intro pins s σ H Q I h
 exact wpAny_BinOp (Ip ha hb I h fun v u s2 x y H2 I2 rx ry q=>ho pins s2 σ H2 x y v u Q I2 rx ry q)
theorem K6 {op:UnaryOp} {r:V->Hp->VK->Prop} (ho:UnR X (unaryOp op) r) (ha:PE X a ta):PE X (.UnaryOp op a pos) (tUn r ta):=by
 intro pins s σ H Q I h
 exact UnaryOp_ (thn (ha pins s σ H _ I h) fun v s1 ⟨x,H1,I1,r1,q1⟩=>ho pins s1 σ H1 x v Q I1 r1 q1)
theorem opI {f:Value->Value->Sem Value} {C:Int->Int->Prop} {g:Int->Int->Int}
  (rule:∀ (i j:Int) (t u:Tok) (s:Shared) (Q:Value->Shared->Prop) (E:Value->Shared->Prop),C i j->Q (.int (g i j) s.toks) {s with toks:=s.toks+1}->wpAny (model X.prog X.w) X.A (f (.int i t) (.int j u)) Q E s) :
  OpR X f (rI C fun i j=>.int (g i j)):=by
 intro pins s σ H x y v u Q I rx ry h
 obtain ⟨i,j,rfl,rfl,hc,q⟩:=h
 obtain ⟨t,rfl⟩:=rx
 obtain ⟨t',rfl⟩:=ry
 exact rule i j t t' s _ _ hc ⟨.int (g i j),H,I.tok _,⟨_,rfl⟩,q⟩
theorem Jl {f:Value->Value->Sem Value} {g:Int->Int->Int}
  (rule:∀ (i j:Int) (t u:Tok) (s:Shared) (Q:Value->Shared->Prop) (E:Value->Shared->Prop),Q (.int (g i j) s.toks) {s with toks:=s.toks+1}->wpAny (model X.prog X.w) X.A (f (.int i t) (.int j u)) Q E s) :
  OpR X f (rI0 fun i j=>.int (g i j)):=by
 intro pins s σ H x y v u Q I rx ry h
 obtain ⟨i,j,rfl,rfl,q⟩:=h
 obtain ⟨t,rfl⟩:=rx
 obtain ⟨t',rfl⟩:=ry
 exact rule i j t t' s _ _ ⟨.int (g i j),H,I.tok _,⟨_,rfl⟩,q⟩
theorem GG {f:Value->Value->Sem Value} {g:Int->Int->Bool}
  (rule:∀ (i j:Int) (t u:Tok) (s:Shared) (Q:Value->Shared->Prop) (E:Value->Shared->Prop),Q (.bool (g i j)) s->wpAny (model X.prog X.w) X.A (f (.int i t) (.int j u)) Q E s) :
  OpR X f (rI0 fun i j=>.bl (g i j)):=by
 intro pins s σ H x y v u Q I rx ry h
 obtain ⟨i,j,rfl,rfl,q⟩:=h
 obtain ⟨t,rfl⟩:=rx
 obtain ⟨t',rfl⟩:=ry
 exact rule i j t t' s _ _ ⟨.bl (g i j),H,I,rfl,q⟩
def HK (i j:Int):Prop:=0<=j/\j<=1000000/\i.natAbs<2 ^ 64
def CMul (i j:Int):Prop:=(-(2 ^ 64)<i/\i<2 ^ 64)\/(-(2 ^ 64)<j/\j<2 ^ 64)
theorem CMul.ok {i j:Int} (h:CMul i j):IntMulOk i j:=by
 rcases h with ⟨h1,h2⟩ | ⟨h1,h2⟩
 ·exact .of_left (intBits_le_64 h1 h2)
 ·exact .of_right (intBits_le_64 h1 h2)
theorem op_add:OpR X (binaryOp .Add) (rI0 fun i j=>.int (i+j)):=Jl fun _ _ _ _ _ _ _ q=>add_int q
theorem Pz:OpR X (binaryOp .Sub) (rI0 fun i j=>.int (i - j)):=Jl fun _ _ _ _ _ _ _ q=>sub_int q
theorem TH:OpR X (binaryOp .Mult) (rI CMul fun i j=>.int (i * j)):=opI fun _ _ _ _ _ _ _ hc q=>mul_int q hc.ok
theorem Qf:OpR X (binaryOp .Mod) (rI (fun _ j=>0<j) fun i j=>.int (i % j)):=opI fun i j _ _ _ _ _ hc q=>by
 have h1:(0:Int)<j:=hc
 exact mod_int' (by lia) (by rw[Int.fmod_eq_emod_of_nonneg i (by lia)];exact q)
theorem MV:OpR X (binaryOp .Pow) (rI HK fun i j=>.int (i ^ j.toNat)):=opI fun _ _ _ _ _ _ _ hc q=>pow_int_small hc.1 hc.2.1 hc.2.2 q
theorem unI {f:Value->Sem Value} {g:Int->Int}
  (rule:∀ (i:Int) (t:Tok) (s:Shared) (Q:Value->Shared->Prop) (E:Value->Shared->Prop),Q (.int (g i) s.toks) {s with toks:=s.toks+1}->wpAny (model X.prog X.w) X.A (f (.int i t)) Q E s) :
  UnR X f (rU fun i=>.int (g i)):=by
 intro pins s σ H x v Q I rx h
 obtain ⟨i,rfl,q⟩:=h
 obtain ⟨t,rfl⟩:=rx
 exact rule i t s _ _ ⟨.int (g i),H,I.tok _,⟨_,rfl⟩,q⟩
theorem JL:UnR X (unaryOp .USub) (rU fun i=>.int (-i)):=unI fun _ _ _ _ _ q=>neg_int q
end
def Hd:V->V->Bool
 | .non,.non=>true | .non,.int _=>true | .int _,.non=>true | .non,.bl _=>true | .bl _,.non=>true | .non,.str _=>true | .str _,.non=>true
 | .int _,.int _=>true | .bl _,.bl _=>true | .str _,.str _=>true | .byt _,.byt _=>true
 | .int _,.str _=>true | .str _,.int _=>true | .bl _,.str _=>true | .str _,.bl _=>true
 | _,_=>false
def rEq:R2:=fun x y H Q=>Hd x y=true/\Q (.bl (decide (x=y))) H
def rNe:R2:=fun x y H Q=>Hd x y=true/\Q (.bl (!decide (x=y))) H
theorem J5 {i j:Int}:decide (V.int i=V.int j)=(i == j):=by
 rw[Bool.eq_iff_iff]
 simp
theorem J4 {i j:Bool}:decide (V.bl i=V.bl j)=(i == j):=by
 rw[Bool.eq_iff_iff]
 simp
theorem Je {i j:Str}:decide (V.str i=V.str j)=(i == j):=by
 rw[Bool.eq_iff_iff]
 simp
theorem JO {i j:Array UInt8}:decide (V.byt i=V.byt j)=(i.toList == j.toList):=by
 rw[Bool.eq_iff_iff]
 cases i
 cases j
 simp
section
variable {X:Cx} {a b c:Expr} {ta tb tc:TE} {pos:Pos}
theorem Av {pins:List (Addr×Obj)} {σ:St} {H:Hp} {s:Shared} {Q:VK} {k k':Bool} (I:Inv X pins σ H s) (q:Q (.bl k) H) (e:k=k'):EP X pins σ Q (.bool k') s:=by
 subst e
 exact ⟨.bl k,H,I,rfl,q⟩
theorem op_eq:OpR X (compareOp .Eq) rEq:=by
 intro pins s σ H x y v u Q I rx ry h
 obtain ⟨hs,q⟩:=h
 cases x with
 | non=>
  cases rx
  cases y with
  | non=>cases ry;exact PySem.EqNone.eq_none_none (Av I q (by simp))
  | bl j=>cases ry;exact PySem.EqNone.eq_none_bool (Av I q (by simp))
  | int j=>obtain ⟨t',rfl⟩:=ry;exact PySem.EqNone.eq_none_int (Av I q (by simp))
  | str j=>obtain ⟨t',rfl⟩:=ry;exact PySem.EqNone.eq_none_str (Av I q (by simp))
  | _=>exact absurd (show false=true from hs) Bool.false_ne_true
 | bl i=>
  cases rx
  cases y with
  | non=>cases ry;exact PySem.EqNone.eq_bool_none (Av I q (by simp))
  | bl j=>cases ry;exact eq_bool (Av I q J4)
  | str j=>obtain ⟨t',rfl⟩:=ry;exact PySem.EqMixed.eq_bool_str (Av I q (by simp))
  | _=>exact absurd (show false=true from hs) Bool.false_ne_true
 | int i=>
  obtain ⟨t,rfl⟩:=rx
  cases y with
  | non=>cases ry;exact PySem.EqNone.eq_int_none (Av I q (by simp))
  | int j=>obtain ⟨t',rfl⟩:=ry;exact eq_int (Av I q J5)
  | str j=>obtain ⟨t',rfl⟩:=ry;exact PySem.EqMixed.eq_int_str (Av I q (by simp))
  | _=>exact absurd (show false=true from hs) Bool.false_ne_true
 | str i=>
  obtain ⟨t,rfl⟩:=rx
  cases y with
  | non=>cases ry;exact PySem.EqNone.eq_str_none (Av I q (by simp))
  | bl j=>cases ry;exact PySem.EqMixed.eq_str_bool (Av I q (by simp))
  | int j=>obtain ⟨t',rfl⟩:=ry;exact PySem.EqMixed.eq_str_int (Av I q (by simp))
  | str j=>obtain ⟨t',rfl⟩:=ry;exact eq_str (Av I q Je)
  | _=>exact absurd (show false=true from hs) Bool.false_ne_true
 | byt i=>
  obtain ⟨t,rfl⟩:=rx
  cases y with
  | byt j=>obtain ⟨t',rfl⟩:=ry;exact PySem.W.eq_bytes (Av I q JO)
  | _=>exact absurd (show false=true from hs) Bool.false_ne_true
 | _=>cases y<;>exact absurd (show false=true from hs) Bool.false_ne_true
theorem op_ne:OpR X (compareOp .NotEq) rNe:=by
 intro pins s σ H x y v u Q I rx ry h
 obtain ⟨hs,q⟩:=h
 cases x with
 | non=>
  cases rx
  cases y with
  | non=>cases ry;exact PySem.EqNone.ne_none_none (Av I q (by simp))
  | bl j=>cases ry;exact PySem.EqNone.ne_none_bool (Av I q (by simp))
  | int j=>obtain ⟨t',rfl⟩:=ry;exact PySem.EqNone.ne_none_int (Av I q (by simp))
  | str j=>obtain ⟨t',rfl⟩:=ry;exact PySem.EqNone.ne_none_str (Av I q (by simp))
  | _=>exact absurd (show false=true from hs) Bool.false_ne_true
 | bl i=>
  cases rx
  cases y with
  | non=>cases ry;exact PySem.EqNone.ne_bool_none (Av I q (by simp))
  | bl j=>cases ry;exact ne_bool (Av I q (congrArg not J4))
  | str j=>obtain ⟨t',rfl⟩:=ry;exact PySem.EqMixed.ne_bool_str (Av I q (by simp))
  | _=>exact absurd (show false=true from hs) Bool.false_ne_true
 | int i=>
  obtain ⟨t,rfl⟩:=rx
  cases y with
  | non=>cases ry;exact PySem.EqNone.ne_int_none (Av I q (by simp))
  | int j=>obtain ⟨t',rfl⟩:=ry;exact ne_int (Av I q (congrArg not J5))
  | str j=>obtain ⟨t',rfl⟩:=ry;exact PySem.EqMixed.ne_int_str (Av I q (by simp))
  | _=>exact absurd (show false=true from hs) Bool.false_ne_true
 | str i=>
  obtain ⟨t,rfl⟩:=rx
  cases y with
  | non=>cases ry;exact PySem.EqNone.ne_str_none (Av I q (by simp))
  | bl j=>cases ry;exact PySem.EqMixed.ne_str_bool (Av I q (by simp))
  | int j=>obtain ⟨t',rfl⟩:=ry;exact PySem.EqMixed.ne_str_int (Av I q (by simp))
  | str j=>obtain ⟨t',rfl⟩:=ry;exact ne_str (Av I q (congrArg not Je))
  | _=>exact absurd (show false=true from hs) Bool.false_ne_true
 | byt i=>
  obtain ⟨t,rfl⟩:=rx
  cases y with
  | byt j=>obtain ⟨t',rfl⟩:=ry;exact PySem.W.ne_bytes (Av I q (congrArg not JO))
  | _=>exact absurd (show false=true from hs) Bool.false_ne_true
 | _=>cases y<;>exact absurd (show false=true from hs) Bool.false_ne_true
theorem Nh:OpR X (compareOp .Lt) (rI0 fun i j=>.bl (decide (i<j))):=GG fun _ _ _ _ _ _ _ q=>lt_int q
theorem op_le:OpR X (compareOp .LtE) (rI0 fun i j=>.bl (decide (i<=j))):=GG fun _ _ _ _ _ _ _ q=>le_int q
theorem Sz:OpR X (compareOp .Gt) (rI0 fun i j=>.bl (decide (j<i))):=GG fun _ _ _ _ _ _ _ q=>gt_int q
theorem QK:OpR X (compareOp .GtE) (rI0 fun i j=>.bl (decide (j<=i))):=GG fun _ _ _ _ _ _ _ q=>ge_int q
theorem RG:OpR X (compareOp .NotIn) (fun x y H Q=>∃ i j,x=.str i/\y=.str j/\Q (.bl (!(!(Builtin.Str.occurrences j i 0 j.length 1).isEmpty))) H):=by
 intro pins s σ H x y v u Q I rx ry h
 obtain ⟨i,j,rfl,rfl,q⟩:=h
 obtain ⟨t,rfl⟩:=rx
 obtain ⟨t',rfl⟩:=ry
 exact notIn_str (Av I q rfl)
theorem OpR.or {f:Value->Value->Sem Value} {r r':R2} (h:OpR X f r) (h':OpR X f r'):OpR X f (fun x y H Q=>r x y H Q\/r' x y H Q):=by
 intro pins s σ H x y v u Q I rx ry q
 rcases q with q | q
 ·exact h pins s σ H x y v u Q I rx ry q
 ·exact h' pins s σ H x y v u Q I rx ry q
theorem C8 (b:Expr) {op:CmpOp} (h:op≠.In:=by decide) (h2:op≠.NotIn:=by decide):behindInMarks op b=false:=by
 have e1:(op == CmpOp.In)=false:=by cases op<;>first | rfl | exact absurd rfl h
 have e2:(op == CmpOp.NotIn)=false:=by cases op<;>first | rfl | exact absurd rfl h2
 cases b<;>simp[behindInMarks,e1,e2]
theorem RJ {op:CmpOp} {r:R2} (ho:OpR X (compareOp op) r) (ha:PE X a ta) (hb:PE X b tb) (hm:behindInMarks op b=false):PE X (.Compare a [op] [b] pos) (tOp r ta tb):=by
 intro pins s σ H Q I h
 exact wpAny_Compare1 (Ip ha hb I h fun v u s2 x y H2 I2 rx ry q=>ho pins s2 σ H2 x y v u Q I2 rx ry q) hm
def HS (t:TE):TT:=fun σ H Q=>t σ H fun x H'=>∃ k,x=.bl k/\Q k H'
theorem LC {op:CmpOp} {r:R2} (ho:OpR X (compareOp op) r) (ha:PE X a ta) (hb:PE X b tb) (hm:behindInMarks op b=false):PT X (.Compare a [op] [b] pos) (HS (tOp r ta tb)):=by
 intro pins s σ H Q I h
 refine wpAny_isTrue_Compare1 (thn (ha pins s σ H _ I h) fun v s1 ⟨x,H1,I1,r1,q1⟩=>thn (hb pins s1 σ H1 _ I1 q1) fun u s2 ⟨y,H2,I2,r2,q2⟩=>
  thn (ho pins s2 σ H2 x y v u _ I2 r1 r2 q2) fun c s3 ⟨z,H3,I3,r3,k,e,q3⟩=>?_) hm
 subst e
 cases r3
 exact wpAny_truthy_bool ⟨H3,I3,q3⟩
def Ha (r r':R2) (ta tb tc:TE):TE:=fun σ H Q=>ta σ H fun x H1=>tb σ H1 fun y H2=>r x y H2 fun z H3=>∃ k,z=.bl k /\
 (if k=true then tc σ H3 fun w' H4=>r' y w' H4 Q else Q (.bl false) H3)
theorem TF {op op':CmpOp} {r r':R2} (ho:OpR X (compareOp op) r) (ho':OpR X (compareOp op') r') (ha:PE X a ta) (hb:PE X b tb) (hc:PE X c tc)
  (hm:lastMarks [op,op'] [b,c]=false:=by with_unfolding_all rfl):PE X (.Compare a [op,op'] [b,c] pos) (Ha r r' ta tb tc):=by
 intro pins s σ H Q I h
 refine Compare_chain (thn (ha pins s σ H _ I h) fun v s1 ⟨x,H1,I1,r1,q1⟩=>chain_link (thn (hb pins s1 σ H1 _ I1 q1) fun u s2 ⟨y,H2,I2,r2,q2⟩=>
  thn (ho pins s2 σ H2 x y v u _ I2 r1 r2 q2) fun d s3 ⟨z,H3,I3,r3,k,e,q3⟩=>?_)) hm
 subst e
 cases r3
 refine wpAny_truthy_bool ?_
 cases k with
 | false=>exact ite_ff ⟨.bl false,H3,I3,rfl,q3⟩
 | true=>exact ite_tt (chain_last (thn (hc pins s3 σ H3 _ I3 q3) fun w' s4 ⟨z',H4,I4,r4,q4⟩=>ho' pins s4 σ H4 y z' u w' Q I4 r2 r4 q4))
theorem Np {op op':CmpOp} {r r':R2} (ho:OpR X (compareOp op) r) (ho':OpR X (compareOp op') r') (ha:PE X a ta) (hb:PE X b tb) (hc:PE X c tc)
  (hm:lastMarks [op,op'] [b,c]=false:=by with_unfolding_all rfl):PT X (.Compare a [op,op'] [b,c] pos) (HS (Ha r r' ta tb tc)):=by
 intro pins s σ H Q I h
 refine isTrue_chain (thn (ha pins s σ H _ I h) fun v s1 ⟨x,H1,I1,r1,q1⟩=>test_link (thn (hb pins s1 σ H1 _ I1 q1) fun u s2 ⟨y,H2,I2,r2,q2⟩=>
  thn (ho pins s2 σ H2 x y v u _ I2 r1 r2 q2) fun d s3 ⟨z,H3,I3,r3,k,e,q3⟩=>?_)) hm
 subst e
 cases r3
 refine wpAny_truthy_bool ?_
 cases k with
 | false=>
  obtain ⟨k',e',q'⟩:=q3
  cases e'
  exact ite_ff ⟨H3,I3,q'⟩
 | true=>
  refine ite_tt (test_last (thn (hc pins s3 σ H3 _ I3 q3) fun w' s4 ⟨z',H4,I4,r4,q4⟩=>thn (ho' pins s4 σ H4 y z' u w' _ I4 r2 r4 q4) fun d' s5 hh_=>?_))
  obtain ⟨z2,H5,I5,r5,k2,e2,q5⟩:=hh_
  subst e2
  cases r5
  exact wpAny_truthy_bool ⟨H5,I5,q5⟩
def Ii (K:PySem.W.Frag) (x:V) (H:Hp) (k:Bool):Prop:=
 match x with
 | .non=>k=false
 | .bl b=>k=b
 | .int i=>k=(i != 0)
 | .str y=>y.length<=sizeLine/\k=((y.length:Int) != 0)
 | .byt y=>y.size<=sizeLine/\k=((y.size:Int) != 0)
 | .ref p=>(∃ xs,SqL K H p xs/\k=!xs.isEmpty)\/(∃ xs,SqT K H p xs/\k=!xs.isEmpty)\/∃ kvs,H p=some (.dK kvs)/\k=!kvs.isEmpty
 | _=>False
theorem M8 {κ:Type} {kvs:List (κ×V)} {vs:List (κ×Value)} (r:KV kvs vs):(!vs.isEmpty)=!kvs.isEmpty:=by
 cases r<;>rfl
theorem KO {xs:List V} {its:List Value} (r:Vals xs its):(!its.toArray.isEmpty)=!xs.isEmpty:=by
 cases r<;>simp
theorem Dl:(sizeLine:Nat)<2 ^ 63:=by rw[sizeLine_eq];decide
theorem QH:SS X (fun x H Q=>∃ k,Ii X.K x H k/\Q k H):=by
 intro pins s σ H x v Q I rx h
 obtain ⟨k,e,q⟩:=h
 have hl:=Dl
 have hs:sizeLine=16777216:=sizeLine_eq
 cases x with
 | non=>
  cases rx
  have e':k=false:=e
  subst e'
  exact truthy_none ⟨H,I,q⟩
 | bl b=>
  cases rx
  have e':k=b:=e
  subst e'
  exact wpAny_truthy_bool ⟨H,I,q⟩
 | int i=>
  obtain ⟨t,rfl⟩:=rx
  have e':k=(i != 0):=e
  subst e'
  exact PySem.P.truthy_int ⟨H,I,q⟩
 | str y=>
  obtain ⟨t,rfl⟩:=rx
  obtain ⟨hy,e'⟩:y.length<=sizeLine/\k=((y.length:Int) != 0):=e
  subst e'
  exact PySem.P.truthy_str (by lia) ⟨H,I.tok _,q⟩
 | byt y=>
  obtain ⟨t,rfl⟩:=rx
  obtain ⟨hy,e'⟩:y.size<=sizeLine/\k=((y.size:Int) != 0):=e
  subst e'
  exact PySem.W.truthy_bytes (by lia) ⟨H,I.tok _,q⟩
 | ref p=>
  cases rx
  have e':(∃ xs,SqL X.K H p xs/\k=!xs.isEmpty)\/(∃ xs,SqT X.K H p xs/\k=!xs.isEmpty)\/∃ kvs,H p=some (.dK kvs)/\k=!kvs.isEmpty:=e
  rcases e' with ⟨xs,hx,e'⟩ | ⟨xs,hx,e'⟩ | ⟨kvs,hx,e'⟩
  ·subst e'
   obtain ⟨its,r,pl,hz⟩:=I.list hx
   have hlen:=r.length
   exact wpAny_truthy_list pl.isList (by simp only[List.size_toArray];lia) ⟨H,I.tok _,by rw[KO r];exact q⟩
  ·subst e'
   obtain ⟨its,r,pl,hz⟩:=I.tuple hx
   have hlen:=r.length
   exact truthy_tuple pl (by simp only[List.size_toArray];lia) ⟨H,I.tok _,by rw[KO r];exact q⟩
  ·subst e'
   obtain ⟨hz,hS,vs,r,m⟩:kvs.length<=sizeLine/\(p == sysModules)=false/\∃ vs,KV kvs vs/\s.heap.DictOf (Bq X.prog X.w) p vs:=I.hok p _ hx
   have hlen:kvs.length=vs.length:=Paired.length r
   exact wpAny_truthy_dict hS m (by lia) ⟨H,I.tok _,by rw[M8 r];exact q⟩
 | _=>exact (show False from e).elim
theorem O9 (ha:PE X a ta) (he:∀ whole,isTrue a X.env whole=(do let v <-whole;standAt a.pos;holding [v] (truthy v))) :
  PT X a (fun σ H Q=>ta σ H fun x H'=>∃ k,Ii X.K x H' k/\Q k H'):=by
 intro pins s σ H Q I h
 exact isTrue_plain (thn (ha pins s σ H _ I h) fun v s1 ⟨x,H1,I1,r1,q1⟩=>QH pins s1 σ H1 x v Q I1 r1 q1) (he _)
theorem op_add_str:OpR X (binaryOp .Add) (fun x y H Q=>∃ i j,x=.str i/\y=.str j/\i.length+j.length<=sizeLine/\Q (.str (i++j)) H):=by
 intro pins s σ H x y v u Q I rx ry h
 obtain ⟨i,j,rfl,rfl,hz,q⟩:=h
 obtain ⟨t,rfl⟩:=rx
 obtain ⟨t',rfl⟩:=ry
 exact add_str (fun t' tk=>⟨.str (i++j),H,I.tok _,⟨_,rfl⟩,q⟩) hz
theorem vals1 {x:V} {us:List Value} (r:Vals [x] us):∃ u,us=[u]/\RelV x u:=by
 cases r with
 | cons r1 r2=>cases r2;exact ⟨_,rfl,r1⟩
theorem vals2 {x y:V} {us:List Value} (r:Vals [x,y] us):∃ u w',us=[u,w']/\RelV x u/\RelV y w':=by
 cases r with
 | cons r1 r2=>
  cases r2 with
  | cons r3 r4=>cases r4;exact ⟨_,_,rfl,r1,r3⟩
theorem Ob (hc:X.calm=true):BN X (.builtin "max") (fun xs H Q=>∃ i j,xs=[.int i,.int j]/\Q (.int (if j > i then j else i)) H):=by
 intro pins s σ H xs us Q I r h
 obtain ⟨i,j,rfl,q⟩:=h
 obtain ⟨u,w',rfl,⟨t,rfl⟩,⟨t',rfl⟩⟩:=vals2 r
 refine max_two_ints (I.ok.hd hc) fun h' tk k=>⟨_,H,I.kept k,?_,q⟩
 by_cases hj:j > i
 ·rw[if_pos hj,if_pos hj];exact ⟨_,rfl⟩
 ·rw[if_neg hj,if_neg hj];exact ⟨_,rfl⟩
theorem Su (hc:X.calm=true):BN X (.builtin "min") (fun xs H Q=>∃ i j,xs=[.int i,.int j]/\Q (.int (if j<i then j else i)) H):=by
 intro pins s σ H xs us Q I r h
 obtain ⟨i,j,rfl,q⟩:=h
 obtain ⟨u,w',rfl,⟨t,rfl⟩,⟨t',rfl⟩⟩:=vals2 r
 refine min_two_ints (I.ok.hd hc) fun h' tk k=>⟨_,H,I.kept k,?_,q⟩
 by_cases hj:j<i
 ·rw[if_pos hj,if_pos hj];exact ⟨_,rfl⟩
 ·rw[if_neg hj,if_neg hj];exact ⟨_,rfl⟩
theorem Qq:BN X (.type "str") (fun xs H Q=>∃ i,xs=[.int i]/\i.natAbs.log2<1920/\Q (.str (toString i)) H):=by
 intro pins s σ H xs us Q I r h
 obtain ⟨i,rfl,hz,q⟩:=h
 obtain ⟨u,rfl,t,rfl⟩:=vals1 r
 exact PySem.P.str_of_int hz ⟨.str _,H,I.tok _,⟨_,rfl⟩,q⟩
def Lh (K:PySem.W.Frag) (x:V) (H:Hp) (n:Nat):Prop:=
 match x with
 | .str y=>y.length<=sizeLine/\n=y.length
 | .byt y=>y.size<=sizeLine/\n=y.size
 | .ref p=>(∃ xs,SqL K H p xs/\n=xs.length)\/∃ xs,SqT K H p xs/\n=xs.length
 | _=>False
theorem Q4:BN X (.builtin "len") (fun xs H Q=>∃ x n,xs=[x]/\Lh X.K x H n/\Q (.int n) H):=by
 intro pins s σ H xs us Q I r h
 obtain ⟨x,n,rfl,e,q⟩:=h
 obtain ⟨u,rfl,rx⟩:=vals1 r
 have hl:=Dl
 have hs:sizeLine=16777216:=sizeLine_eq
 cases x with
 | str y=>
  obtain ⟨t,rfl⟩:=rx
  obtain ⟨hy,e'⟩:y.length<=sizeLine/\n=y.length:=e
  subst e'
  exact len_str (by lia) ⟨.int _,H,I.tok _,⟨_,rfl⟩,q⟩
 | byt y=>
  obtain ⟨t,rfl⟩:=rx
  obtain ⟨hy,e'⟩:y.size<=sizeLine/\n=y.size:=e
  subst e'
  exact PySem.W.len_bytes (by lia) ⟨.int _,H,I.tok _,⟨_,rfl⟩,q⟩
 | ref p=>
  cases rx
  have e':(∃ xs,SqL X.K H p xs/\n=xs.length)\/∃ xs,SqT X.K H p xs/\n=xs.length:=e
  rcases e' with ⟨xs,hx,e'⟩ | ⟨xs,hx,e'⟩
  ·subst e'
   obtain ⟨its,r',pl,hz⟩:=I.list hx
   have hlen:=r'.length
   exact Calls.call_len_list pl.isList (by simp only[List.size_toArray];lia) ⟨.int xs.length,H,I.tok _,⟨_,by simp only[List.size_toArray];rw[hlen]⟩,q⟩
  ·subst e'
   obtain ⟨its,r',pl,hz⟩:=I.tuple hx
   have hlen:=r'.length
   exact len_tuple pl (by simp only[List.size_toArray];lia) ⟨.int xs.length,H,I.tok _,⟨_,by simp only[List.size_toArray];rw[hlen]⟩,q⟩
 | _=>exact (show False from e).elim
end
structure ObjM (h:Heap) (x dx C:Addr) (mA:Str->Option Value):Prop where
 obj:h.get? x=some (PySem.W.instObj C dx)
 ns:h.Ns1 dx mA
 ne:dx≠x
theorem Nb {h:Heap} {dx:Addr} {mA:Str->Option Value} (n:h.Ns1 dx mA):∃ od,h.get? dx=some od/\∀ name,PySem.W.lookIn name od=some (mA name):=by
 obtain ⟨o,es,ep,ho,hd,hk,_,hm⟩:=n
 refine ⟨o,ho,fun name=>?_⟩
 have e:=hm name
 unfold nsFind findBy at e
 rw[<-Array.find?_toList] at e
 unfold PySem.W.lookIn
 rw[hd]
 dsimp only
 split
 ·rename_i y q
  rw[q] at e
  exact congrArg some e
 ·rename_i q
  rw[q] at e
  have a:es.toList.any (·.refKey)=false:=by
   rw[List.any_eq_false]
   intro y hy
   obtain ⟨z,t,hkey⟩:=hk y (Array.mem_toList_iff.mp hy)
   simp[DictEntry.refKey,hkey]
  have a':¬es.toList.any (·.refKey)=true:=by rw[a];exact Bool.false_ne_true
  rw[if_neg a']
  exact congrArg some e
theorem ObjM.look {h:Heap} {x dx C:Addr} {mA:Str->Option Value} (I:ObjM h x dx C mA):∃ od,PySem.W.InstAt h x (PySem.W.instObj C dx) C (some od)/\∀ name,PySem.W.lookIn name od=some (mA name):=
 let ⟨od,ho,hl⟩:=Nb I.ns
 ⟨od,⟨I.obj,rfl,rfl,ho⟩,hl⟩
section
variable {prog:Program} {w:World} {A:Around} {E:Value->Shared->Prop} {s:Shared} {K:PySem.W.Frag} {x dx C f:Addr} {mA:Str->Option Value} {name:Str} {v:Value}
end
section
variable {P:Program} {w:World} {H H':Hp} {h h':Heap} {a C dx:Addr} {fs fs':List (Str×V)}
theorem R4 (hok:HOk P w H h) (e:H a=some (.ins C dx fs)):∃ mA,ObjM h a dx C mA/\(∀ f,Hs (fs.lookup f) (mA f))/\PySem.Within mA (fs.map (·.1))/\fs.length<=1000/\H dx=some (.own a):=by
 obtain ⟨d,z,ne,ob,mA,n,r,q⟩:=(show ObjOk P w H h a (.ins C dx fs) from hok a _ e)
 exact ⟨mA,⟨ob,n,ne⟩,r,q,z,d⟩
end
structure Cls (K:PySem.W.Frag) (C:Addr):Prop where
 pg:PySem.W.plainGet K C Str.empty=true
 hd:PySem.W.hasDictIn K C=true
 po:PySem.W.plainOver K C=true
 sa:PySem.W.findIn K (.ref C) "__setattr__"=some (some (.builtin "object.__setattr__"))
theorem Cls.get {K:PySem.W.Frag} {C:Addr} (c:Cls K C) (f:Str):PySem.W.plainGet K C f=true:=c.pg
structure Con (K:PySem.W.Frag) (C:Addr) (f:Str) (v:V) (u:Value):Prop where
 at_:PySem.W.findIn K (.ref C) f=some (some u)
 rel:RelV v u
 get:PySem.W.specialIn K u "__get__"=some none
 cp:PySem.W.copiedNames.contains f=false
structure Meth (K:PySem.W.Frag) (C:Addr) (m:Str) (f:Addr):Prop where
 at_:PySem.W.findIn K (.ref C) m=some (some (.ref f))
 fn:PySem.W.isFn K (.ref f)=true
 kp:PySem.W.keepIn K (.ref f)=true
section
variable {X:Cx} {pins:List (Addr×Obj)} {σ:St} {H:Hp} {s:Shared} {a C dx:Addr} {fs:List (Str×V)} {f:Str} {v:V} {A:Around} {E:Value->Shared->Prop}
end
section
variable {X:Cx} {o e value:Expr} {f:Str} {pos pos' tpos:Pos} {ta tv:TE}
end
section
variable {X:Cx} {pins:List (Addr×Obj)} {σ:St} {H:Hp} {s:Shared} {A:Around} {E:Value->Shared->Prop} {Q:Value->Shared->Prop} {c:Value} {b:Bool}
inductive TyOf (K:PySem.W.Frag) (H:Hp):V->Value->Prop where
 | non:TyOf K H .non (.type "NoneType")
 | bl (x:Bool):TyOf K H (.bl x) (.type "bool")
 | int (i:Int):TyOf K H (.int i) (.type "int")
 | str (x:Str):TyOf K H (.str x) (.type "str")
 | flt (x:UInt64):TyOf K H (.flt x) (.type "float")
 | lst {a:Addr} {xs:List V} (e:H a=some (.lst xs)):TyOf K H (.ref a) (.type "list")
 | frz {a:Addr} {o:Obj} {xs:List V} (e:H a=some (.frz o (.lst xs))):TyOf K H (.ref a) (.type "list")
 | tup {a:Addr} {xs:List V} (e:H a=some (.tup xs)):TyOf K H (.ref a) (.type "tuple")
 | dK {a:Addr} {kvs:List (Key×V)} (e:H a=some (.dK kvs)):TyOf K H (.ref a) (.type "dict")
 | dT {a:Addr} {kvs:List (List Key×V)} (e:H a=some (.dT kvs)):TyOf K H (.ref a) (.type "dict")
 | ins {a C dx:Addr} {fs:List (Str×V)} (e:H a=some (.ins C dx fs)) (cl:Cls K C) (ha:PySem.W.findIn K (.ref C) "__class__"=some (some (.builtin "object.__class__")))
   (hn:PySem.W.specialIn K (.builtin "object.__class__") "__get__"=some (some (.builtin "getset_descriptor.__get__"))) (htk:PySem.W.takesIn K (.builtin "object.__class__")=some true)
   (hm:PySem.W.mroIn K C (.type "object")=some true):TyOf K H (.ref a) (.ref C)
theorem My {x:V} {u t:Value} (I:Inv X pins σ H s) (rx:RelV x u) (ty:TyOf X.K H x t) (e:PySem.W.kitOne X.K t c=some b) (h:∀ tk,Q (.bool b) {s with toks:=tk}) :
  wpAny (model X.prog X.w) A (call (.builtin "isinstance") [u,c]) Q E s:=by
 cases ty with
 | non=>cases (show u=Value.none from rx);exact PySem.W.kia_one PySem.W.kitx_none I.kIn True.intro e (fun z=>nomatch z) h
 | bl y=>cases (show u=Value.bool y from rx);exact PySem.W.kia_one PySem.W.kitx_bool I.kIn True.intro e (fun z=>nomatch z) h
 | int i=>obtain ⟨t,q⟩:=(show ∃ t,u=Value.int i t from rx);cases q;exact PySem.W.kia_one PySem.W.kitx_int I.kIn True.intro e (fun z=>nomatch z) h
 | str y=>obtain ⟨t,q⟩:=(show ∃ t,u=Value.str y t from rx);cases q;exact PySem.W.kia_one PySem.W.kitx_str I.kIn True.intro e (fun z=>nomatch z) h
 | flt y=>obtain ⟨t,q⟩:=(show ∃ t,u=Value.float y t from rx);cases q;exact PySem.W.kia_one PySem.W.kitx_float I.kIn True.intro e (fun z=>nomatch z) h
 | @lst a xs ea=>
  cases (show u=Value.ref a from rx)
  obtain ⟨_,_,n,_,h1⟩:=(show ObjOk X.prog X.w H s.heap a (.lst xs) from I.hok a _ ea)
  exact PySem.W.kia_one PySem.W.kitx_list I.kIn ⟨_,h1,rfl⟩ e (fun z=>nomatch z) h
 | @frz a ob xs ea=>
  cases (show u=Value.ref a from rx)
  obtain ⟨_,_,_,n,_,h1⟩:=(show ObjOk X.prog X.w H s.heap a (.frz ob (.lst xs)) from I.hok a _ ea)
  exact PySem.W.kia_one PySem.W.kitx_list I.kIn ⟨_,h1,rfl⟩ e (fun z=>nomatch z) h
 | @tup a xs ea=>
  cases (show u=Value.ref a from rx)
  obtain ⟨_,_,_,p⟩:=(show ObjOk X.prog X.w H s.heap a (.tup xs) from I.hok a _ ea)
  obtain ⟨o,h1,h2,_⟩:=p
  exact PySem.W.kia_one PySem.W.kitx_tuple I.kIn ⟨o,h1,h2⟩ e (fun z=>nomatch z) h
 | @dK a kvs ea=>
  cases (show u=Value.ref a from rx)
  obtain ⟨_,_,vs,_,p⟩:=(show ObjOk X.prog X.w H s.heap a (.dK kvs) from I.hok a _ ea)
  obtain ⟨o,es,ep,h1,h2,_⟩:=p
  exact PySem.W.kia_one PySem.W.kitx_dict I.kIn ⟨o,h1,h2.1⟩ e (fun z=>nomatch z) h
 | @dT a kvs ea=>
  cases (show u=Value.ref a from rx)
  obtain ⟨_,_,xs,_,o,es,ep,h1,h2,_⟩:=(show ObjOk X.prog X.w H s.heap a (.dT kvs) from I.hok a _ ea)
  exact PySem.W.kia_one PySem.W.kitx_dict I.kIn ⟨o,h1,h2.1⟩ e (fun z=>nomatch z) h
 | @ins a C dx fs ea cl ha hn htk hm=>
  cases (show u=Value.ref a from rx)
  obtain ⟨mA,O,_⟩:=R4 I.hok ea
  obtain ⟨od,J,_⟩:=O.look
  exact PySem.W.kia_one (PySem.W.kitx_own (cl.get _) cl.hd ha hn htk hm) I.kIn J e (fun z=>nomatch z) h
end
structure Room (k:Nat) (A:Around):Prop where
 hd:A.handled=none
 dp:A.depth+3 * k+5<recursionLimit
 un:A.units+16 * k+200<cLine
 gd:A.guards=some []
theorem Room.mono {j k:Nat} {A:Around} (r:Room k A) (h:j<=k):Room j A:=⟨r.hd,by have:=r.dp;lia,by have:=r.un;lia,r.gd⟩
theorem Room.deeper {k:Nat} {A:Around} (r:Room (k+1) A) (env:Env):Room k (A.deeper env):=
 ⟨r.hd,by have:=r.dp;show A.depth+1+3 * k+5<_;lia,by have:=r.un;show A.units+3+16 * k+200<_;lia,r.gd⟩
theorem Room.depth {k:Nat} {A:Around} (r:Room k A):A.depth<recursionLimit:=by have:=r.dp;lia
theorem Room.units {k:Nat} {A:Around} (r:Room k A):A.units+64<cLine:=by have:=r.un;lia
theorem Room.units0 {k:Nat} {A:Around} (r:Room k A):A.units<cLine:=by have:=r.un;lia
def Ex:TA:=fun _ H Q=>Q [] H
def Dy (ta:TE) (tr:TA):TA:=fun σ H Q=>ta σ H fun x H1=>tr σ H1 fun xs H2=>Q (x::xs) H2
section
variable {X:Cx} {e:Expr} {es:List Expr} {te:TE} {t:TA} {pos:Pos}
theorem Bc:PA X [] Ex:=fun _ _ _ _ H Q I h=>Calls.spliced_nil ⟨[],H,I,.nil,h⟩
theorem BI (ha:PE X e te) (hr:PA X es t) (hs:starEach (e::es) X.env=(false,eval e X.env)::starEach es X.env:=by rfl):PA X (e::es) (Dy te t):=by
 intro pos pins s σ H Q I h
 rw[hs]
 show wpAny _ _ (spliced ((false,eval e X.env)::backTo pos (starEach es X.env))) _ _ s
 refine Calls.spliced_cons (thn (ha pins s σ H _ I h) fun u s1 hh_=>?_)
 obtain ⟨x,H1,I1,r1,q1⟩:=hh_
 exact thn (hr pos pins s1 σ H1 _ I1 q1) fun us s2 ⟨xs,H2,I2,r2,q2⟩=>⟨x::xs,H2,I2,.cons r1 r2,q2⟩
def Pk (t:TA):TE:=fun σ H Q=>t σ H fun xs H1=>xs.length<=sizeLine/\∀ p,H1 p=none->Q (.ref p) (upd H1 p (.tup xs))
def M7 (t:TA):TE:=fun σ H Q=>t σ H fun xs H1=>xs.length<=sizeLine/\∀ p,H1 p=none->Q (.ref p) (upd H1 p (.lst xs))
theorem Jz {x1} (h:PA X es t):PE X (.Tuple es x1 pos) (Pk t):=by
 intro pins s σ H Q I hq
 refine wpAny_Tuple_spliced (thn (h pos pins s σ H _ I hq) fun us s1 ⟨xs,H1,I1,r,z,q⟩=>⟨by rw[<-r.length];exact z,?_⟩)
 have hf:H1 s1.heap.objs.size=none:=I1.hok.fresh (Nat.le_refl _)
 refine ⟨.ref s1.heap.objs.size,upd H1 s1.heap.objs.size (.tup xs),I1.laid (t':=s1.toks) (fun b u e=>Heap.get?_push_of_some _ e) (Nat.le_refl _) ?_,rfl,q _ hf⟩
 exact ⟨z,us,r,⟨_,Heap.get?_push_size _ rfl,rfl,_,rfl⟩⟩
theorem Ki (h:PA X es t):PE X (.List es pos) (M7 t):=by
 intro pins s σ H Q I hq
 refine wpAny_List_spliced (thn (h pos pins s σ H _ I hq) fun us s1 ⟨xs,H1,I1,r,z,q⟩=>⟨by rw[<-r.length];exact z,?_⟩)
 have hf:H1 s1.heap.objs.size=none:=I1.hok.fresh (Nat.le_refl _)
 refine ⟨.ref s1.heap.objs.size,upd H1 s1.heap.objs.size (.lst xs),I1.laid (t':=s1.toks) (fun b u e=>Heap.get?_push_of_some _ e) (Nat.le_refl _) ?_,rfl,q _ hf⟩
 exact ⟨z,us,0,r,Heap.get?_push_size _ rfl⟩
end
abbrev Sp:=List V->Hp->VK->XK->Prop
abbrev CXT:=List Env->Hp->Shared->XK->Value->Shared->Prop
structure Env0 (P:Program) (w:World) (K:PySem.W.Frag) (mg:Str->Option Value) (base:Heap) (A:Around) (outer:List Env) (s:Shared) (H:Hp):Prop where
 frames:A.frames=some outer
 mod:Mod K mg base
 bs:∀ b o,base.get? b=some o->s.heap.get? b=some o/\H b=none
 bsz:base.objs.size<=s.heap.objs.size
 funs:s.heap.FunFrames base outer
 frf:∀ b∈frs outer,H b=none
 hok:HOk P w H s.heap
 bare:AllBare s.gens
def CE (outer:List Env) (P:Program) (w:World) (H:Hp) (s:Shared) (Q:VK) (u:Value) (s':Shared):Prop:=
 ∃ v H',s'.os=s.os/\AllBare s'.gens/\Un (frs outer) [] H H' s.heap s'.heap/\HOk P w H' s'.heap/\RelV v u/\Q v H'
def CR (CX:CXT) (outer:List Env) (P:Program) (w:World) (H:Hp) (s:Shared) (Q:VK) (E:XK) (r:Result) (s':Shared):Prop:=
 match r with
 | .ok (.ret u)=>CE outer P w H s Q u s'
 | .ok _=>False
 | .error e=>CX outer H s E e s'
structure FnOk (P:Program) (w:World) (K:PySem.W.Frag) (mg:Str->Option Value) (base:Heap) (CX:CXT) (k:Nat) (f:Addr) (fd:FuncData) (ps:List Str) (sp:Sp):Prop where
 len:∀ vs H Q E,sp vs H Q E->vs.length=ps.length
 run:∀ (A:Around) (outer:List Env) (s:Shared) (H:Hp) (args:Args) (us:List Value) (vs:List V) (Q:VK) (E:XK),Room k A->Env0 P w K mg base A outer s H->BindsTo s fd args (ps.zip us)->Vals vs us->sp vs H Q E ->
  codeAny (model P w) A (.call (.ref f) args) (CR CX outer P w H s Q E) s
theorem FnOk.imp {P:Program} {w:World} {K:PySem.W.Frag} {mg:Str->Option Value} {base:Heap} {CX:CXT} {k:Nat} {f:Addr} {fd:FuncData} {ps:List Str} {sp sp':Sp} (F:FnOk P w K mg base CX k f fd ps sp)
  (h:∀ vs H Q E,sp' vs H Q E->sp vs H Q E):FnOk P w K mg base CX k f fd ps sp':=
 ⟨fun vs H Q E q=>F.len vs H Q E (h _ _ _ _ q),fun A outer s H args us vs Q E hr he hb hv hs=>F.run A outer s H args us vs Q E hr he hb hv (h _ _ _ _ hs)⟩
section
variable {X:Cx} {pins:List (Addr×Obj)} {σ:St} {H:Hp} {s s':Shared}
theorem Inv.env0 (I:Inv X pins σ H s):Env0 X.prog X.w X.K X.mg X.base X.A X.stack s H:=
 ⟨I.ok.frames,I.ok.mod,I.bs,Nat.le_trans I.ok.bsz I.sz,I.stack,I.stkFree,I.hok,I.bare⟩
theorem Inv.after {Q:VK} {u:Value} (I:Inv X pins σ H s) (h:CE X.stack X.prog X.w H s Q u s'):EP X pins σ Q u s':=by
 obtain ⟨v,H',os,bare,un,hok,r,q⟩:=h
 obtain ⟨hh,g,d,t,os'⟩:=s'
 obtain rfl:os'=s.os:=os
 exact ⟨v,H',I.call (h':=hh) (g':=g) (d':=d) (t':=t) (ch:=[]) un hok bare (fun b z=>absurd z (by simp)),r,q⟩
end
def OX (sp:Sp) (dvs:List V) (E:XK) (t:TA):TE:=fun σ H Q=>t σ H fun vs H1=>sp (vs++dvs) H1 Q E
def Binds (K:PySem.W.Frag) (fd:FuncData) (ps:List Str) (ds:List Value):Prop:=
 ∀ (s:Shared) (us:List Value),K.In s.heap->(us++ds).length=ps.length->BindsTo s fd ⟨us,[]⟩ (ps.zip (us++ds))
theorem Binds.all {K:PySem.W.Frag} {fd:FuncData} {ps:List Str} (h:∀ us:List Value,us.length=ps.length->bindArgs fd ⟨us,[]⟩=pure (ps.zip us)):Binds K fd ps []:=fun s us _ hl=>by
 rw[List.append_nil] at hl ⊢
 exact .of_eq (h us hl)
def Gk (CX:CXT) (X:Cx) (E:XK):Prop:=∀ (pins:List (Addr×Obj)) (σ:St) (H:Hp) (s:Shared) (e:Value) (s':Shared),Inv X pins σ H s->CX X.stack H s E e s'->X.xe e s'
section
variable {X:Cx} {CX:CXT} {k:Nat} {f C:Addr} {fd:FuncData} {ps:List Str} {sp:Sp} {dvs:List V} {ds:List Value} {E:XK} {x m:Str} {p pos apos:Pos} {e o:Expr} {es:List Expr} {ta:TE} {t:TA}
theorem Pn {pins:List (Addr×Obj)} {σ:St} {H:Hp} {s:Shared} {Q:VK} {us:List Value} {vs:List V} (F:FnOk X.prog X.w X.K X.mg X.base CX k f fd ps sp) (hr:Room k X.A) (hb:Binds X.K fd ps ds) (hd:Vals dvs ds) (hx:Gk CX X E)
  (I:Inv X pins σ H s) (r:Vals vs us) (h:sp (vs++dvs) H Q E):wpAny (model X.prog X.w) X.A (call (.ref f) us) (EP X pins σ Q) X.xe s:=by
 have r2:Vals (vs++dvs) (us++ds):=r.append hd
 have hl:(us++ds).length=ps.length:=by rw[<-r2.length];exact F.len _ _ _ _ h
 refine wpAny_call (codeAny_mono (F.run X.A X.stack s H ⟨us,[]⟩ (us++ds) (vs++dvs) Q E hr I.env0 (hb s us I.kIn hl) r2 h) fun r s' hq=>?_)
 cases r with
 | error e=>exact hx pins σ H s e s' I hq
 | ok fl=>
  cases fl with
  | ret u=>exact I.after hq
  | next=>exact False.elim hq
  | brk=>exact False.elim hq
  | cont=>exact False.elim hq
theorem Iq (F:FnOk X.prog X.w X.K X.mg X.base CX k f fd ps sp) (hr:Room k X.A) (hg:Gl X x) (hm:X.mg x=some (.ref f)) (hk:PySem.W.keepIn X.K (.ref f)=true) (hb:Binds X.K fd ps ds) (hd:Vals dvs ds) (hx:Gk CX X E)
  (ha:PA X (e::es) t) (hdb:(x == ("__debug__":Str))=false:=by decide) (he:starEach (e::es) X.env=(false,eval e X.env)::starEach es X.env:=by rfl) (hpl:(backTo pos (starEach es X.env)).any (·.1)=false:=by rfl) :
  PE X (.Call (.Name x p) (e::es) [] pos) (OX sp dvs E t):=by
 intro pins s σ H Q I h
 refine wpAny_Call_Name_kw (HG I hg hm ?_ hdb)
 refine PySem.W.callWith_K (h₀:=X.base) I.ok.mod.kin hk (thn (ha pos pins s σ H _ I h) fun us s1 ⟨vs,H1,I1,r,q⟩=>⟨I1.kIn,?_⟩) he hpl
 exact Pn F hr hb hd hx I1 r q
structure Mk (K:PySem.W.Frag) (C f:Addr):Prop where
 makes:PySem.W.makesIn K C=true
 init:PySem.W.findIn K (.ref C) "__init__"=some (some (.ref f))
 fn:PySem.W.isFn K (.ref f)=true
 kp:PySem.W.keepIn K (.ref C)=true
end
section
variable {X:Cx} {CX:CXT} {k:Nat} {f C:Addr} {fd:FuncData} {ps ks:List Str} {sp:Sp} {E:XK} {x m:Str} {p pos apos kpos:Pos} {e o:Expr} {es:List Expr} {kws:List Keyword} {te ta:TE} {t tk:TA} {nm:Option Str}
structure KBinds (K:PySem.W.Frag) (fd:FuncData) (ps ks:List Str) (g:List Value->List Value->List Value) (gV:List V->List V->List V):Prop where
 to:∀ (s:Shared) (us ws:List Value),K.In s.heap->(g us ws).length=ps.length->BindsTo s fd ⟨us,ks.zip ws⟩ (ps.zip (g us ws))
 rel:∀ {vs:List V} {us:List Value} {zs:List V} {ws:List Value},Vals vs us->Vals zs ws->Vals (gV vs zs) (g us ws)
variable {g:List Value->List Value->List Value} {gV:List V->List V->List V}
end
structure FnScope (N P:List Str) (sc:Scope):Prop where
 kind:sc.kind=.function
 co:sc.isCoroutine=false
 gen:sc.isGenerator=false
 nd:N.Nodup
 pre:N.take P.length=P
 par:∀ x∈P,sc.names.lookup x=some .local\/sc.names.lookup x=some .cell
 nofree:∀ y∈sc.names,y.2≠.free
theorem JT {kindOf:Str->Option NameKind} {x:Str}:∀ {binds:List (Str×Value)} {m:Str->Option Value},(∀ v,(x,v)∉binds)->bindL kindOf binds m x=m x
 | [],_,_=>rfl
 | (n,v)::r,m,h=>by
  unfold bindL
  rw[JT fun w hw=>h w (List.mem_cons_of_mem _ hw)]
  split
  ·have:x≠n:=by rintro rfl;exact h v List.mem_cons_self
   simp[this]
  ·rfl
theorem JJ {kindOf:Str->Option NameKind} {x:Str}:∀ {binds:List (Str×Value)} {m:Str->Option Value},(∀ v,(x,v)∉binds)->bindC kindOf binds m x=m x
 | [],_,_=>rfl
 | (n,v)::r,m,h=>by
  unfold bindC
  rw[JJ fun w hw=>h w (List.mem_cons_of_mem _ hw)]
  split
  ·rfl
  ·have:x≠n:=by rintro rfl;exact h v List.mem_cons_self
   simp[this]
theorem Kt {kindOf:Str->Option NameKind} {x:Str} {v:Value}:∀ {P:List Str} {vs:List Value} {i:Nat} {m:Str->Option Value},P.Nodup->P[i]?=some x->vs[i]?=some v->kindOf x=some .local ->
  bindL kindOf (P.zip vs) m x=some v
 | [],_,_,_,_,h,_,_=>by simp at h
 | _::_,[],_,_,_,_,h,_=>by simp at h
 | p::P,w::vs,0,m,nd,h1,h2,hk=>by
  simp at h1 h2;subst h1;subst h2
  show bindL kindOf ((p,w)::P.zip vs) m p=_
  unfold bindL
  rw[JT fun v hv=>(List.nodup_cons.mp nd).1 (List.of_mem_zip hv).1,if_pos hk]
  simp
 | p::P,w::vs,i+1,m,nd,h1,h2,hk=>by
  show bindL kindOf ((p,w)::P.zip vs) m x=_
  unfold bindL
  exact Kt (i:=i) (List.nodup_cons.mp nd).2 (by simpa using h1) (by simpa using h2) hk
theorem K7 {kindOf:Str->Option NameKind} {x:Str} {v:Value}:∀ {P:List Str} {vs:List Value} {i:Nat} {m:Str->Option Value},P.Nodup->P[i]?=some x->vs[i]?=some v->kindOf x≠some .local ->
  bindC kindOf (P.zip vs) m x=some v
 | [],_,_,_,_,h,_,_=>by simp at h
 | _::_,[],_,_,_,_,h,_=>by simp at h
 | p::P,w::vs,0,m,nd,h1,h2,hk=>by
  simp at h1 h2;subst h1;subst h2
  show bindC kindOf ((p,w)::P.zip vs) m p=_
  unfold bindC
  rw[JJ fun v hv=>(List.nodup_cons.mp nd).1 (List.of_mem_zip hv).1,if_neg hk]
  simp
 | p::P,w::vs,i+1,m,nd,h1,h2,hk=>by
  show bindC kindOf ((p,w)::P.zip vs) m x=_
  unfold bindC
  exact K7 (i:=i) (List.nodup_cons.mp nd).2 (by simpa using h1) (by simpa using h2) hk
def start (N:List Str) (vs:List V):St:=vs.map some++List.replicate (N.length - vs.length) none
def DY (CX:CXT) (P:Program) (w:World) (K:PySem.W.Frag) (mg:Str->Option Value) (base:Heap) (N:List Str) (qual:Str) (scope:Scope) (f:Addr) (cd:Value) (A:Around) (outer:List Env) (s:Shared) (H:Hp) (E:XK):Cx where
 prog:=P
 w:=w
 K:=K
 mg:=mg
 base:=base
 A:=A.deeper (envOfC qual scope s.heap.objs.size f cd)
 N:=N
 s₀:=s
 H₀:=H
 env:=envOfC qual scope s.heap.objs.size f cd
 outer:=outer
 stack:=envOfC qual scope s.heap.objs.size f cd::outer
 ex:=[]
 calm:=true
 fn:=fun _=>true
 pn:=[]
 xe:=fun e s'=>wpAny (model P w) (A.deeper (envOfC qual scope s.heap.objs.size f cd)) (leaving (envOfC qual scope s.heap.objs.size f cd) e) (fun _ s''=>CX outer H s E e s'') (fun e' s''=>CX outer H s E e' s'') s'
theorem LV {sc:Scope} {n:Nat} {x:Str} (h:sc.names.lookup x=some .cell):∃ c,(cellsFrom n sc.names []).lookup x=some c:=by
 have q:=PySem.W.cellsFrom_some sc.names n [] (.inl h)
 exact Option.isSome_iff_exists.mp q
theorem PK {CX:CXT} {P:Program} {w:World} {K:PySem.W.Frag} {mg:Str->Option Value} {base:Heap} {N ps:List Str} {qual:Str} {scope:Scope} {f:Addr} {cd:Value} {A:Around} {outer:List Env} {s s1:Shared} {H:Hp} {E:XK} {us:List Value} {vs:List V}
  (S:FnScope N ps scope) (hd:A.handled=none) (e0:Env0 P w K mg base A outer s H) (hl:vs.length=ps.length) (r:Vals vs us)
  (x:InCallC s s.heap.objs.size (bindL (envOfC qual scope s.heap.objs.size f cd).kindOf (ps.zip us) fun _=>none) (cellsFrom (s.heap.objs.size+1) scope.names []) (bindC (envOfC qual scope s.heap.objs.size f cd).kindOf (ps.zip us) fun _=>none) s1) :
  Inv (DY CX P w K mg base N qual scope f cd A outer s H E) [] (start N vs) H s1:=by
 have hpl:ps.length<=N.length:=by have:=congrArg List.length S.pre;rw[List.length_take] at this;lia
 obtain ⟨h1,tk,rfl,hk⟩:=x.done
 have noA:∀ b:Addr,b∉(DY CX P w K mg base N qual scope f cd A outer s H E).ex:=fun b z=>absurd (show b∈([]:List Addr) from z) (by simp)
 refine ⟨⟨e0.mod,S.kind,rfl,rfl,Nat.le_refl _,fun y z c h1 h2=>?_,fun y hy=>?_,fun y c _ h=>?_,fun _=>hd,Around.frames_deeper e0.frames,.inr ⟨rfl,rfl⟩,fun b z=>absurd z (noA b),e0.bs,e0.bsz,fun b _ _=>noA b,fun b z=>absurd z (noA b),e0.funs,e0.frf⟩,
  rfl,e0.bare,Un.kept hk,⟨_,x.toInCall.ns,fun i y v h1 h2 h3=>?_⟩,fun y c h=>⟨_,x.cell y c h⟩,e0.hok.fresh (Nat.le_refl _),fun y c h=>?_,fun p hp=>absurd (show p∈([]:List (Addr×Obj)) from hp) (by simp),e0.hok.kept hk,?_⟩
 ·exact name_of_addr x.apart (PySem.mem_of_lookup h1) (PySem.mem_of_lookup h2)
 ·have hy:scope.names.lookup y=some .cell\/scope.names.lookup y=some .free:=hy
  rcases hy with hy | hy
  ·exact LV hy
  ·exact absurd rfl (S.nofree _ (PySem.mem_of_lookup hy))
 ·exact Nat.le_of_lt (x.above y c (PySem.mem_of_lookup h))
 ·have hi:i<vs.length:=by
   unfold start at h2
   by_cases hi:i<vs.length
   ·exact hi
   ·rw[List.getElem?_append_right (by simpa using hi)] at h2
    rw[List.getElem?_replicate] at h2
    split at h2<;>cases h2
  have ha:vs[i]?=some v:=by
   unfold start at h2
   rw[List.getElem?_append_left (by simpa using hi),List.getElem?_map] at h2
   cases e:vs[i]? with
   | none=>rw[e] at h2;cases h2
   | some a=>rw[e] at h2;cases h2;rfl
  obtain ⟨u,hu,rv⟩:=r.get ha
  have hp:ps[i]?=some y:=by
   rw[<-S.pre,List.getElem?_take_of_lt (by lia)];exact h1
  have ndP:ps.Nodup:=by rw[<-S.pre];exact S.nd.sublist (List.take_sublist _ _)
  refine ⟨u,rv,?_⟩
  rcases S.par y (List.mem_of_getElem? hp) with k | k
  ·exact .inl ⟨k,Kt ndP hp hu k⟩
  ·obtain ⟨c,e⟩:=LV (n:=s.heap.objs.size+1) k
   refine .inr ⟨.inl k,c,e,?_⟩
   have q:=x.cell y c e
   rw[K7 ndP hp hu (by show scope.names.lookup y≠_;rw[k];decide)] at q
   exact q
 ·exact e0.hok.fresh (Nat.le_of_lt (x.above y c (PySem.mem_of_lookup h)))
 ·unfold start
  show _=N.length
  rw[List.length_append,List.length_map,List.length_replicate]
  lia
theorem TL {CX:CXT} {P:Program} {w:World} {K:PySem.W.Frag} {mg:Str->Option Value} {base:Heap} {k:Nat} {f:Addr} {name qual:Str} {params:Arguments} {body:List Stmt} {scope:Scope} {dV kV doc pm cdv ct oc:Value} {an od:Option Addr}
  {osl:Array (Option Value)} {N ps:List Str} {sp:Sp} (lk:K.lookup f=some ⟨oc,od,.func (PySem.W.fnOf name qual params body scope dV kV doc pm an cdv ct),osl⟩) (hcd:PySem.W.codeIn K cdv qual=true) (S:FnScope N ps scope)
  (len:∀ vs H Q E,sp vs H Q E->vs.length=ps.length)
  (hbody:∀ (A:Around) (outer:List Env) (s:Shared) (H:Hp) (vs:List V) (Q:VK) (E:XK),Room k (A.deeper (envOfC qual scope s.heap.objs.size f cdv))->sp vs H Q E ->
   ∃ t,PSs (DY CX P w K mg base N qual scope f cdv A outer s H E) body t/\t {nx:=fun _ H'=>Q .non H',rt:=Q} (start N vs) H) :
  FnOk P w K mg base CX (k+1) f (PySem.W.fnOf name qual params body scope dV kV doc pm an cdv ct) ps sp:=by
 refine ⟨len,fun A outer s H args us vs Q E hr e0 hb r hsp=>?_⟩
 have hl:=len _ _ _ _ hsp
 have KX:K.In s.heap:=e0.mod.kin.keeps fun b o e=>(e0.bs b o e).1
 have lim:s.heap.NoLimit:=e0.mod.nolimit.keeps fun b o e=>(e0.bs b o e).1
 have hkind:∀ y∈ps.zip us,scope.names.lookup y.1=some .local\/(scope.names.lookup y.1=some .cell/\((cellsFrom (s.heap.objs.size+1) scope.names []).lookup y.1).isSome=true):=fun ⟨n,v⟩ hy=>by
  rcases S.par n (List.of_mem_zip hy).1 with q | q
  ·exact .inl q
  ·exact .inr ⟨q,PySem.W.cellsFrom_some _ _ _ (.inl q)⟩
 refine codeAny_call_function hr.depth (KX _ _ lk) rfl S.co S.gen rfl (PySem.W.codeRec_of KX hcd) (hb _ _ _ _ ?_)
 refine wpAny_newFunctionEnv_cells S.kind hkind fun env he s1 x=>?_
 subst he
 refine ⟨lim.keeps x.toInCall.keep,codeAny_func ?_⟩
 obtain ⟨t,ht,hq⟩:=hbody A outer s H vs Q E (hr.deeper _) hsp
 have I:Inv (DY CX P w K mg base N qual scope f cdv A outer s H E) [] (start N vs) H s1:=PK S hr.hd e0 hl r x
 refine wpAny_mono (ht [] s1 (start N vs) H _ I hq) (fun fl s' hs=>?_) fun e s' hs=>hs
 have fin:∀ {σ':St} {H':Hp} {v:V} {u:Value},Inv (DY CX P w K mg base N qual scope f cdv A outer s H E) [] σ' H' s'->RelV v u->Q v H'->CE outer P w H s Q u s':=
  fun {σ' H' v u} J rv q=>⟨v,H',J.os,J.bare,J.base,J.hok,rv,q⟩
 cases fl with
 | ret u=>
  obtain ⟨v,σ',H',J,rv,q⟩:=hs
  exact fin J rv q
 | next=>
  obtain ⟨σ',H',J,q⟩:=hs
  exact fin (v:=V.non) (u:=Value.none) J rfl q
 | brk=>
  obtain ⟨_,_,_,q⟩:=hs
  exact False.elim q
 | cont=>
  obtain ⟨_,_,_,q⟩:=hs
  exact False.elim q
section
variable {X:Cx} {x:Str} {p pos:Pos} {e:Expr} {es:List Expr} {t:TA} {id T:String} {r:List V->Hp->VK->Prop}
def tCB (r:List V->Hp->VK->Prop) (t:TA):TE:=fun σ H Q=>t σ H fun vs H1=>r vs H1 Q
theorem Ds (hc:BN X (.builtin id) r) (hg:Gl X x) (hm:X.mg x=none) (hv:bootBuiltins x=some (.builtin id)) (ha:PA X (e::es) t) (hn:x≠"__name__":=by decide) (hdb:(x == ("__debug__":Str))=false:=by decide)
  (he:starEach (e::es) X.env=(false,eval e X.env)::starEach es X.env:=by rfl) (hpl:(backTo pos (starEach es X.env)).any (·.1)=false:=by rfl):PE X (.Call (.Name x p) (e::es) [] pos) (tCB r t):=by
 intro pins s σ H Q I h
 refine wpAny_Call_Name_kw (E7 I hg hm hv ?_ hn hdb)
 exact PyProof.Rows.callWith_builtin1 (thn (ha pos pins s σ H _ I h) fun us s1 ⟨vs,H1,I1,r1,q1⟩=>hc pins s1 σ H1 vs us Q I1 r1 q1) he hpl
theorem GV (hc:BN X (.type T) r) (hg:Gl X x) (hm:X.mg x=none) (hv:bootBuiltins x=some (.type T)) (ha:PA X (e::es) t) (hn:x≠"__name__":=by decide) (hdb:(x == ("__debug__":Str))=false:=by decide)
  (he:starEach (e::es) X.env=(false,eval e X.env)::starEach es X.env:=by rfl) (hpl:(backTo pos (starEach es X.env)).any (·.1)=false:=by rfl):PE X (.Call (.Name x p) (e::es) [] pos) (tCB r t):=by
 intro pins s σ H Q I h
 refine wpAny_Call_Name_kw (E7 I hg hm hv ?_ hn hdb)
 exact PyProof.Rows.callWith_type1 (thn (ha pos pins s σ H _ I h) fun us s1 ⟨vs,H1,I1,r1,q1⟩=>hc pins s1 σ H1 vs us Q I1 r1 q1) he hpl
end
end L2
namespace HT
open PySem PyProof.Rows
section
open PySem.SeqAt
open PySem.AutoSeq1 (wpAny_loadPart')
open PySem.MeetsSeq PySem.MeetsSeq2 PySem.MeetsSeq3
end
section
variable {prog:Program} {w:World} {A:Around} {E:Value->Shared->Prop} {s:Shared}
def sIx (n d:Nat):Option Int->Nat
 | none=>d
 | some v=>if v<0 then (v+(n:Int)).toNat else min v.toNat n
theorem LK (n d:Nat):sIx n d none=d:=rfl
end
end HT
namespace L2
open PySem PySem.Spec PyProof.Rows
abbrev TO:=St->Hp->(Option Int->Hp->Prop)->Prop
def PO (X:Cx) (e:Option Expr) (t:TO):Prop:=
 ∀ (pins:List (Addr×Obj)) (s:Shared) (σ:St) (H:Hp) (Q:Option Int->Hp->Prop),Inv X pins σ H s->t σ H Q ->
  wpAny (model X.prog X.w) X.A (evalPart e X.env) (fun u s'=>∃ o H',Inv X pins σ H' s'/\IsPart u o/\Q o H') X.xe s
def Re:TO:=fun _ H Q=>Q none H
def Sv (t:TE):TO:=fun σ H Q=>t σ H fun x H1=>∃ i,x=.int i/\Q (some i) H1
theorem intsAre_of {ns:List Int}:∀ {us:List Value},Vals (ns.map V.int) us->IntsAre us ns:=by
 induction ns with
 | nil=>intro us r;rw[List.map_nil] at r;cases r;exact .nil
 | cons n ns ih=>
  intro us r
  rw[List.map_cons] at r
  cases r with
  | cons r1 r2=>
   obtain ⟨t,e⟩:=r1
   subst e
   exact .cons n t (ih r2)
section
variable {X:Cx} {e:Expr} {te:TE} {lo hi:Option Expr} {tl th:TO} {pos p2:Pos}
theorem Om:PO X none Re:=by
 intro pins s σ H Q I h
 rw[evalPart_none]
 exact wpAny_pure ⟨none,H,I,.none,h⟩
theorem QG (h:PE X e te):PO X (some e) (Sv te):=by
 intro pins s σ H Q I hw
 rw[evalPart_some]
 refine thn (h pins s σ H _ I hw) fun u s1 hh_=>?_
 obtain ⟨x,H1,I1,r1,q1⟩:=hh_
 obtain ⟨i,rfl,q⟩:=q1
 obtain ⟨t,rfl⟩:=r1
 exact ⟨some i,H1,I1,.int i t,q⟩
def SlR (X:Cx) (r:V->Option Int->Option Int->Hp->VK->Prop):Prop:=
 ∀ (pins:List (Addr×Obj)) (s:Shared) (σ:St) (H:Hp) (x:V) (v vl vu:Value) (lo hi:Option Int) (sl:Addr) (Q:VK),Inv X pins σ H s->RelV x v->s.heap.IsSliceOf sl vl vu .none->IsPart vl lo->IsPart vu hi->r x lo hi H Q ->
  ∃ T id,typeLookup (.type T) "__getitem__"=pure (some (.builtin id))/\s.TypeIs v T/\wpAny (model X.prog X.w) X.A (getItem v (.ref sl)) (EP X pins σ Q) X.xe s
theorem SlR.or {r r':V->Option Int->Option Int->Hp->VK->Prop} (h:SlR X r) (h':SlR X r'):SlR X (fun x lo hi H Q=>r x lo hi H Q\/r' x lo hi H Q):=by
 intro pins s σ H x v vl vu lo hi sl Q I rx hs pl pu q
 rcases q with q | q
 ·exact h pins s σ H x v vl vu lo hi sl Q I rx hs pl pu q
 ·exact h' pins s σ H x v vl vu lo hi sl Q I rx hs pl pu q
def tSl (r:V->Option Int->Option Int->Hp->VK->Prop) (te:TE) (tl th:TO):TE:=fun σ H Q=>te σ H fun x H1=>tl σ H1 fun l H2=>th σ H2 fun u H3=>r x l u H3 Q
theorem NY {r:V->Option Int->Option Int->Hp->VK->Prop} (hr:SlR X r) (he:PE X e te) (hl:PO X lo tl) (hu:PO X hi th):PE X (.Subscript e (.Slice lo hi none p2) pos) (tSl r te tl th):=by
 intro pins s σ H Q I h
 refine Subscript_ (thn (he pins s σ H _ I h) fun v s1 hh_=>?_)
 obtain ⟨x,H1,I1,r1,q1⟩:=hh_
 refine wpAny_Slice (thn (hl pins s1 σ H1 _ I1 q1) fun vl s2 ⟨l,H2,I2,pl,q2⟩=>thn (hu pins s2 σ H2 _ I2 q2) fun vu s3 hh_=>?_)
 obtain ⟨u,H3,I3,pu,q3⟩:=hh_
 rw[evalPart_none]
 refine wpAny_pure ?_
 have I4:Inv X pins σ H3 {s3 with heap:=s3.heap.push {cls:=.type "slice",data:=.fields #[vl,vu,.none]}}:=I3.kept (t':=s3.toks) fun b ob q=>Heap.get?_push_of_some _ q
 obtain ⟨T,id,hT,ht,hg⟩:=hr pins {s3 with heap:=s3.heap.push {cls:=.type "slice",data:=.fields #[vl,vu,.none]}} σ H3 x v vl vu l u s3.heap.objs.size Q I4 r1 (Heap.IsSliceOf.new ..) pl pu q3
 show wpAny (model X.prog X.w) X.A (subscriptTail e (.Slice lo hi none p2) v (.ref s3.heap.objs.size)) (EP X pins σ Q) X.xe {s3 with heap:=s3.heap.push {cls:=.type "slice",data:=.fields #[vl,vu,.none]}}
 exact tail_any (ops:=[.ref s3.heap.objs.size,v]) ht hT hg (by with_unfolding_all rfl)
def EU (xs:List V) (lo hi:Option Int):List V:=(xs.drop (HT.sIx xs.length 0 lo)).take (HT.sIx xs.length xs.length hi - HT.sIx xs.length 0 lo)
theorem PY (xs:List V) (lo hi:Option Int):(EU xs lo hi).length<=xs.length:=by
 unfold EU
 rw[List.length_take,List.length_drop]
 lia
end
def ixN (n:Nat) (i:Int):Option Nat:=if 0<=i then (if i<n then some i.toNat else none) else if -(n:Int)<=i then some (i+n).toNat else none
def atI {α:Type} (xs:List α) (i:Int):Option α:=(ixN xs.length i).bind fun j=>xs[j]?
theorem Jm {n:Nat} {i:Int} {j:Nat} (h:ixN n i=some j):seqIndex? i n=some j/\j<n/\-(n:Int)<=i/\i<n:=by
 unfold ixN at h
 by_cases h0:0<=i
 ·rw[if_pos h0] at h
  by_cases h1:i<n
  ·rw[if_pos h1] at h
   have e:i.toNat=j:=Option.some.inj h
   exact ⟨by rw[seqIndex_of h0 h1,e],by lia,by lia,h1⟩
  ·rw[if_neg h1] at h;cases h
 ·rw[if_neg h0] at h
  by_cases h1:-(n:Int)<=i
  ·rw[if_pos h1] at h
   have e:(i+n).toNat=j:=Option.some.inj h
   exact ⟨by rw[seqIndex_neg (by lia) h1,e],by lia,h1,by lia⟩
  ·rw[if_neg h1] at h;cases h
theorem Hy {α:Type} {xs:List α} {i:Int} {v:α} (h:atI xs i=some v):∃ j,seqIndex? i xs.length=some j/\xs[j]?=some v/\j<xs.length/\-(xs.length:Int)<=i/\i<xs.length:=by
 unfold atI at h
 cases e:ixN xs.length i with
 | none=>rw[e] at h;cases h
 | some j=>
  rw[e] at h
  obtain ⟨h1,h2,h3,h4⟩:=Jm e
  exact ⟨j,h1,h,h2,h3,h4⟩
theorem GB {α:Type} {xs:List α} {j:Nat} {v:α} (h:xs[j]?=some v):atI xs (j:Int)=some v:=by
 have hj:j<xs.length:=(List.getElem?_eq_some_iff.mp h).1
 have e:ixN xs.length (j:Int)=some j:=by
  unfold ixN
  rw[if_pos (by lia),if_pos (by lia)];simp
 unfold atI;rw[e];exact h
def GT (b:Expr):Prop:=∀ o i,subscripted b false o i=operate [o,i] (getItem o i)
def IxR (X:Cx) (r:R2):Prop:=
 ∀ (value slice:Expr) (pins:List (Addr×Obj)) (s:Shared) (σ:St) (H:Hp) (x y:V) (v u:Value) (Q:VK),Inv X pins σ H s->RelV x v->RelV y u->r x y H Q ->
  subscripted slice false v u=operate [v,u] (getItem v u)->wpAny (model X.prog X.w) X.A (subscriptTail value slice v u) (EP X pins σ Q) X.xe s
def MtR (X:Cx) (id:String) (r:V->List V->Hp->VK->Prop):Prop:=
 ∀ (pins:List (Addr×Obj)) (s:Shared) (σ:St) (H:Hp) (x:V) (xs:List V) (v:Value) (us:List Value) (Q:VK),Inv X pins σ H s->RelV x v->Vals xs us->r x xs H Q ->
  wpAny (model X.prog X.w) X.A (call (.builtin id) (v::us)) (EP X pins σ Q) X.xe s
section
variable {X:Cx} {a b:Expr} {ta tb:TE} {pos:Pos}
theorem IxR.or {r r':R2} (h:IxR X r) (h':IxR X r'):IxR X (fun x y H Q=>r x y H Q\/r' x y H Q):=by
 intro value slice pins s σ H x y v u Q I rx ry q hs
 rcases q with q | q
 ·exact h value slice pins s σ H x y v u Q I rx ry q hs
 ·exact h' value slice pins s σ H x y v u Q I rx ry q hs
theorem JG {r:R2} (hr:IxR X r) (ha:PE X a ta) (hb:PE X b tb) (hs:GT b):PE X (.Subscript a b pos) (tOp r ta tb):=by
 intro pins s σ H Q I h
 exact Subscript_ (Ip ha hb I h fun v u s2 x y H2 I2 rx ry q=>hr a b pins s2 σ H2 x y v u Q I2 rx ry q (hs _ _))
def JW (K:PySem.W.Frag):R2:=fun x y H Q=>∃ p xs i v,x=.ref p/\y=.int i/\SqL K H p xs/\atI xs i=some v/\Q v H
def J9 (K:PySem.W.Frag):R2:=fun x y H Q=>∃ p xs i v,x=.ref p/\y=.int i/\SqT K H p xs/\atI xs i=some v/\Q v H
def ML:R2:=fun x y H Q=>∃ z i c,x=.str z/\y=.int i/\z.length<=sizeLine/\atI z.cps.toList i=some c/\Q (.str ⟨#[c]⟩) H
theorem ix_list:IxR X (JW X.K):=by
 intro value slice pins s σ H x y v u Q I rx ry h hs
 obtain ⟨p,xs,i,z,rfl,rfl,hq,he,q⟩:=h
 cases rx
 obtain ⟨t,rfl⟩:=ry
 obtain ⟨its,r,pl,hz⟩:=I.list hq
 obtain ⟨j,h1,h2,h3,h4,h5⟩:=Hy he
 obtain ⟨w,ew,rw'⟩:=r.get h2
 have hl:=r.length
 have hn:=Dl
 have fin:EP X pins σ Q w s:=⟨z,H,I,rw',q⟩
 by_cases h0:0<=i
 ·have hj:i.toNat=j:=by
   rw[seqIndex_of h0 h5] at h1
   exact Option.some.inj h1
  exact item_listR pl.isList h0 (by lia) (by rw[hj];simpa using ew) fin hs
 ·have hj:(i+(its.toArray.size:Int)).toNat=j:=by
   rw[seqIndex_neg (by lia) h4] at h1
   rw[List.size_toArray,<-hl]
   exact Option.some.inj h1
  exact subscriptTail_builtinR (x:=w) pl.isList.typeIs slot_list_getitem.lookup
   (wpAny_getItem_list_neg (Q:=fun r s'=>r=w/\EP X pins σ Q r s') pl.isList (by lia) (by rw[List.size_toArray]<;>lia) (by lia) (by rw[hj];simpa using ew) ⟨rfl,fin⟩) hs
theorem ix_tup:IxR X (J9 X.K):=by
 intro value slice pins s σ H x y v u Q I rx ry h hs
 obtain ⟨p,xs,i,z,rfl,rfl,hq,he,q⟩:=h
 cases rx
 obtain ⟨t,rfl⟩:=ry
 obtain ⟨its,r,pl,hz⟩:=I.tuple hq
 obtain ⟨j,h1,h2,h3,h4,h5⟩:=Hy he
 obtain ⟨w,ew,rw'⟩:=r.get h2
 have hl:=r.length
 have hn:=Dl
 have fin:EP X pins σ Q w s:=⟨z,H,I,rw',q⟩
 exact subscriptTail_builtinR (x:=w) pl.typeIs slot_tuple_getitem.lookup
  (getItem_tuple (j:=j) (Q:=fun r s'=>r=w/\EP X pins σ Q r s') pl (by lia) (by lia) (by rw[List.size_toArray,<-hl];exact h1) (by simpa using ew) ⟨rfl,fin⟩) hs
theorem TB:IxR X ML:=by
 intro value slice pins s σ H x y v u Q I rx ry h hs
 obtain ⟨z,i,c,rfl,rfl,hz,he,q⟩:=h
 obtain ⟨t,rfl⟩:=rx
 obtain ⟨t',rfl⟩:=ry
 obtain ⟨j,h1,h2,h3,h4,h5⟩:=Hy he
 have hl:z.cps.toList.length=z.length:=by simp[Str.length]
 rw[hl] at h1 h4 h5
 have hn:=Dl
 exact tail_any (typeIs_str s z t) slot_str_getitem.lookup (getItem_str (c:=c) (by
  have e1:decide (i < -(2 ^ 63:Int))=false:=decide_eq_false (by lia)
  have e2:decide (i>=2 ^ 63)=false:=decide_eq_false (by lia)
  rw[e1,e2,Bool.or_false]) (by rw[h1];simpa using h2) ⟨.str ⟨#[c]⟩,H,I.tok _,⟨_,rfl⟩,q⟩) hs
def rIx (K:PySem.W.Frag):R2:=fun x y H Q=>JW K x y H Q\/J9 K x y H Q\/ML x y H Q
theorem NS:IxR X (rIx X.K):=ix_list.or (ix_tup.or TB)
theorem N1 (its:List Value) (n j:Nat) (u:Value):Obj.mapSeq (·.setIfInBounds j u) {cls:=.type "list",data:=.seq its.toArray n}={cls:=.type "list",data:=.seq (its.set j u).toArray n}:=by
 simp[Obj.mapSeq]
theorem Inv.lst {pins:List (Addr×Obj)} {σ:St} {H:Hp} {s:Shared} {p:Addr} {xs:List V} (I:Inv X pins σ H s) (h:H p=some (.lst xs)) :
  ∃ (its:List Value) (n:Nat),Vals xs its/\s.heap.get? p=some {cls:=.type "list",data:=.seq its.toArray n}/\xs.length<=sizeLine:=by
 obtain ⟨z,its,n,r,e⟩:=I.hok p _ h
 exact ⟨its,n,r,e,z⟩
theorem Inv.lstUpd {pins:List (Addr×Obj)} {σ:St} {H:Hp} {s:Shared} {p:Addr} {xs ys:List V} {its its':List Value} {n n':Nat} {f:Obj->Obj} (I:Inv X pins σ H s) (h:H p=some (.lst xs))
  (ho:s.heap.get? p=some {cls:=.type "list",data:=.seq its.toArray n}) (hf:f {cls:=.type "list",data:=.seq its.toArray n}={cls:=.type "list",data:=.seq its'.toArray n'}) (r:Vals ys its') (hz:ys.length<=sizeLine) (t:Nat) :
  Inv X pins σ (upd H p (.lst ys)) {s with heap:=s.heap.update p f,toks:=t}:=by
 have e:(s.heap.update p f).get? p=some {cls:=.type "list",data:=.seq its'.toArray n'}:=by
  rw[Heap.get?_update_self f ho (by rw[hf]<;>rfl),hf]
 refine I.write (x:=p) (e:=p) (by rw[h];trivial) (.inl rfl) (fun b u hb q=>(Heap.get?_update_other _ _ (Ne.symm hb)).trans q) ⟨_,e⟩ ?_
 exact ⟨hz,its',n',r,e⟩
def Q0:V->V->V->Hp->(Hp->Prop)->Prop:=fun o i v H Q=>∃ p xs k j,o=.ref p/\i=.int k/\H p=some (.lst xs)/\ixN xs.length k=some j/\Q (upd H p (.lst (xs.set j v)))
theorem set_list:HJ X Q0:=by
 intro pins s σ H o i v ov iv u Q I ro ri rv h
 obtain ⟨p,xs,k,j,rfl,rfl,hp,hj,q⟩:=h
 cases ro
 obtain ⟨t,rfl⟩:=ri
 obtain ⟨its,n,r,ho,hz⟩:=I.lst hp
 obtain ⟨h1,h2,h3,h4⟩:=Jm hj
 have hl:=r.length
 have hn:=Dl
 have I':Inv X pins σ (upd H p (.lst (xs.set j v))) {s with heap:=s.heap.update p (Obj.mapSeq (·.setIfInBounds j u))}:=
  I.lstUpd hp ho (N1 its n j u) (r.set rv j) (by rw[List.length_set];exact hz) s.toks
 by_cases h0:0<=k
 ·have hk:k.toNat=j:=by
   rw[seqIndex_of h0 h4] at h1
   exact Option.some.inj h1
  exact PySem.W.ki_setAt ho h0 (by lia) (by rw[List.size_toArray,<-hl];exact h4) (by rw[hk];exact ⟨_,I',q⟩)
 ·have hk:(k+(its.toArray.size:Int)).toNat=j:=by
   rw[seqIndex_neg (by lia) h3] at h1
   rw[List.size_toArray,<-hl]
   exact Option.some.inj h1
  exact PySem.W.ki_setBack ho (by lia) (by rw[List.size_toArray,<-hl];exact h3) (by lia) (by rw[hk];exact ⟨_,I',q⟩)
theorem SX (lo hi:Option Int) (n:Nat):(sliceBounds lo hi none n).1=((HT.sIx n 0 lo:Nat):Int)/\(sliceBounds lo hi none n).2.1=((HT.sIx n n hi:Nat):Int)/\(sliceBounds lo hi none n).2.2=1:=by
 refine ⟨?_,?_,rfl⟩
 ·cases lo with
  | none=>simp[sliceBounds,HT.sIx]
  | some i=>
   simp only[sliceBounds,HT.sIx,Option.getD_none,show (1:Int) > 0 by decide,if_true]
   by_cases h:i<0
   ·simp only[h,if_true]<;>lia
   ·simp only[h,if_false]<;>lia
 ·cases hi with
  | none=>simp[sliceBounds,HT.sIx]
  | some i=>
   simp only[sliceBounds,HT.sIx,Option.getD_none,show (1:Int) > 0 by decide,if_true]
   by_cases h:i<0
   ·simp only[h,if_true]<;>lia
   ·simp only[h,if_false]<;>lia
theorem O8 (its:List Value) (lo hi:Option Int):slicePick its.toArray lo hi none=((its.drop (HT.sIx its.length 0 lo)).take (HT.sIx its.length its.length hi - HT.sIx its.length 0 lo)).toArray:=by
 obtain ⟨h1,h2,h3⟩:=SX lo hi its.toArray.size
 unfold slicePick
 rw[h1,h2,h3]
 simp only[sliceRange_one,pick_run,List.size_toArray]<;>rfl
def Me (K:PySem.W.Frag):V->Option Int->Option Int->Hp->VK->Prop:=fun x lo hi H Q=>∃ a xs,x=.ref a/\SqL K H a xs/\∀ p,H p=none->Q (.ref p) (upd H p (.lst (EU xs lo hi)))
theorem sl_list:SlR X (Me X.K):=by
 intro pins s σ H x v vl vu lo hi sl Q I rx hs pl pu h
 obtain ⟨a,xs,rfl,hx,q⟩:=h
 cases rx
 obtain ⟨its,r,ht,hz⟩:=I.list hx
 have hlen:=r.length
 refine ⟨"list",_,slot_list_getitem.lookup,ht.isList.typeIs,?_⟩
 refine wpAny_getItem_list_slice ht.isList hs pl pu .none (by simp) ?_ (by rw[List.size_toArray]<;>lia)
 rw[O8,<-hlen]
 refine ⟨.ref s.heap.objs.size,_,I.laid (t':=s.toks) (o:=.lst (EU xs lo hi)) (fun b ob q=>Heap.get?_push_of_some _ q) (Nat.le_refl _) ?_,rfl,q _ (I.hok.fresh (Nat.le_refl _))⟩
 exact ⟨Nat.le_trans (PY xs lo hi) hz,_,0,(r.drop (HT.sIx xs.length 0 lo)).take (HT.sIx xs.length xs.length hi - HT.sIx xs.length 0 lo),Heap.get?_push_size _ rfl⟩
theorem Sx:BN X (.builtin "len") (fun xs H Q=>∃ p ys,xs=[.ref p]/\(SqL X.K H p ys\/SqT X.K H p ys)/\Q (.int ys.length) H):=by
 intro pins s σ H xs us Q I r h
 obtain ⟨p,ys,rfl,hq,q⟩:=h
 obtain ⟨u,rfl,rx⟩:=vals1 r
 cases rx
 have hn:=Dl
 rcases hq with hq | hq
 ·obtain ⟨its,r',pl,hz⟩:=I.list hq
  have hlen:=r'.length
  exact Calls.call_len_list pl.isList (by simp only[List.size_toArray]<;>lia) ⟨.int ys.length,H,I.tok _,⟨s.toks+1,by rw[List.size_toArray,hlen]⟩,q⟩
 ·obtain ⟨its,r',pl,hz⟩:=I.tuple hq
  have hlen:=r'.length
  exact len_tuple pl (by simp only[List.size_toArray]<;>lia) ⟨.int ys.length,H,I.tok _,⟨s.toks+1,by rw[List.size_toArray,hlen]⟩,q⟩
theorem Kx:BN X (.type "list") (fun xs H Q=>∃ p ys,xs=[.ref p]/\(SqL X.K H p ys\/SqT X.K H p ys)/\∀ l,H l=none->Q (.ref l) (upd H l (.lst ys))):=by
 intro pins s σ H xs us Q I r h
 obtain ⟨p,ys,rfl,hq,q⟩:=h
 obtain ⟨u,rfl,rx⟩:=vals1 r
 cases rx
 have fin:∀ (its:List Value),Vals ys its->ys.length<=sizeLine->∀ (h':Heap) (c':Nat),(∀ b o',s.heap.get? b=some o'->h'.get? b=some o') ->
   h'.get? s.heap.objs.size=some {cls:=.type "list",dict:=none,data:=.seq its.toArray c',slots:=#[]}->EP X pins σ Q (.ref s.heap.objs.size) {s with heap:=h'}:=fun its r' hz h' c' kp e=>
  ⟨.ref s.heap.objs.size,_,I.laid (t':=s.toks) kp (Nat.le_refl _) (show ObjOk X.prog X.w _ h' _ (.lst ys) from ⟨hz,its,c',r',e⟩),rfl,q _ (I.hok.fresh (Nat.le_refl _))⟩
 rcases hq with hq | hq
 ·obtain ⟨its,r',pl,hz⟩:=I.list hq
  have hlen:=r'.length
  obtain ⟨o,ho,hc,n,hd⟩:=pl.isList
  exact call_list_seq p (.inl rfl) ho hc hd (fun h' c' kp e=>fin its r' hz h' c' kp e) (by simp only[List.size_toArray]<;>lia)
 ·obtain ⟨its,r',pl,hz⟩:=I.tuple hq
  have hlen:=r'.length
  obtain ⟨o,ho,hc,n,hd⟩:=pl
  exact call_list_seq p (.inr rfl) ho hc hd (fun h' c' kp e=>fin its r' hz h' c' kp e) (by simp only[List.size_toArray]<;>lia)
theorem MW:BN X (.type "tuple") (fun xs H Q=>∃ p ys,xs=[.ref p]/\((SqL X.K H p ys/\∀ l,H l=none->Q (.ref l) (upd H l (.tup ys)))\/(SqT X.K H p ys/\Q (.ref p) H))):=by
 intro pins s σ H xs us Q I r h
 obtain ⟨p,ys,rfl,h⟩:=h
 obtain ⟨u,rfl,rx⟩:=vals1 r
 cases rx
 rcases h with ⟨hq,q⟩ | ⟨hq,q⟩
 ·obtain ⟨its,r',pl,hz⟩:=I.list hq
  have hlen:=r'.length
  refine call_tuple_list pl.isList (fun h' kp=>?_) (by simp only[List.size_toArray]<;>lia)
  have I1:Inv X pins σ H {s with heap:=h'}:=I.kept (t':=s.toks) kp
  have I2:Inv X pins σ (upd H h'.objs.size (.tup ys)) {s with heap:=h'.push {cls:=.type "tuple",data:=.seq its.toArray}}:=
   I1.laid (t':=s.toks) (fun b o e=>Heap.get?_push_of_some _ e) (Nat.le_refl _) (show ObjOk X.prog X.w _ _ _ (.tup ys) from ⟨hz,its,r',IsTup.new _ _⟩)
  exact ⟨.ref h'.objs.size,_,I2,rfl,q _ (I1.hok.fresh (Nat.le_refl _))⟩
 ·obtain ⟨its,r',pl,hz⟩:=I.tuple hq
  exact call_tuple_same pl ⟨.ref p,H,I,rfl,q⟩
def tyV (K:PySem.W.Frag) (T:String) (x:V) (H:Hp):Prop:=match x with
 | .str _=>T="str"
 | .int _=>T="int"
 | .ref p=>(T="list"/\∃ xs,SqL K H p xs)\/(T="tuple"/\∃ o,K.lookup p=some o/\o.cls=.type "tuple"/\o.dict=none) \/
   (T="dict"/\((∃ kvs,H p=some (.dK kvs))\/∃ kvs,H p=some (.dT kvs)))\/(T="set"/\∃ S n,H p=some (.set S n))
 | _=>False
theorem NG {pins:List (Addr×Obj)} {σ:St} {H:Hp} {s:Shared} {T:String} {x:V} {v:Value} (I:Inv X pins σ H s) (r:RelV x v) (ty:tyV X.K T x H) :
  s.TypeIs v T/\∀ a,v=.ref a->∃ ob,s.heap.get? a=some ob/\ob.dict=none:=by
 cases x with
 | str z=>
  obtain ⟨t,rfl⟩:=r
  cases (show T="str" from ty)
  exact ⟨typeIs_str s z t,fun _ e=>nomatch e⟩
 | int i=>
  obtain ⟨t,rfl⟩:=r
  cases (show T="int" from ty)
  exact ⟨typeIs_int s i t,fun _ e=>nomatch e⟩
 | ref p=>
  cases r
  rcases ty with ⟨rfl,xs,hq⟩ | ⟨rfl,o,hk,hc,hd⟩ | ⟨rfl,hk⟩ | ⟨rfl,S,n,hk⟩
  ·obtain ⟨its,_,pl,_⟩:=I.list hq
   refine ⟨pl.isList.typeIs,fun a e=>?_⟩
   cases e
   obtain ⟨o,n,e,c,hd,_⟩:=pl
   exact ⟨o,e,hd⟩
  ·refine ⟨⟨o,I.kIn p o hk,hc⟩,fun a e=>?_⟩
   cases e
   exact ⟨o,I.kIn _ o hk,hd⟩
  ·have z:∃ o,s.heap.get? p=some o/\o.ExactDict:=by
    rcases hk with ⟨kvs,hk⟩ | ⟨kvs,hk⟩
    ·obtain ⟨_,_,_,_,o,_,_,e,ex,_⟩:=I.hok p _ hk
     exact ⟨o,e,ex⟩
    ·obtain ⟨_,_,_,_,o,_,_,e,ex,_⟩:=I.hok p _ hk
     exact ⟨o,e,ex⟩
   obtain ⟨o,e,ex⟩:=z
   refine ⟨⟨o,e,ex.1⟩,fun a e2=>?_⟩
   cases e2
   exact ⟨o,e,ex.2.1⟩
  ·obtain ⟨o,_,_,_,e,ex,_⟩:=I.hok p _ hk
   refine ⟨⟨o,e,ex.1⟩,fun a e2=>?_⟩
   cases e2
   exact ⟨o,e,ex.2.1⟩
 | _=>exact False.elim ty
def tBM (K:PySem.W.Frag) (T:String) (r:V->List V->Hp->VK->Prop) (to:TE) (t:TA):TE:=fun σ H Q=>to σ H fun x H1=>tyV K T x H1/\t σ H1 fun xs H2=>r x xs H2 Q
variable {o e:Expr} {es:List Expr} {to:TE} {t:TA} {name:Str} {apos cpos:Pos} {T id:String} {r:V->List V->Hp->VK->Prop}
theorem Ol (pa:PlainAttrs T) (slot:Slot T name id) (hty:typeOf (.builtin id)=pure (.type "method_descriptor")) (hm:MtR X id r) (ho:PE X o to) (ha:PA X (e::es) t)
  (hbase:attributeBase o name X.env (eval o X.env)=eval o X.env:=by rfl)
  (hfew:((backTo cpos (starEach (e::es) X.env)).all (fun x=>!x.1) && (backToKw cpos (keywordEach [] X.env)).all (fun x=>x.1.isSome)
   && decide ((e::es).length+([]:List Keyword).length+(if ([]:List Keyword).isEmpty then 0 else 1)<30))=true:=by rfl)
  (hline:(apos.endLine == cpos.line)=true:=by rfl) (hs:starEach (e::es) X.env=(false,eval e X.env)::starEach es X.env:=by rfl) (hplain:(backTo cpos (starEach es X.env)).any (·.1)=false:=by rfl) :
  PE X (.Call (.Attribute o name apos) (e::es) [] cpos) (tBM X.K T r to t):=by
 intro pins s σ H Q I h
 refine wpAny_Call_method_late hbase hfew hline rfl (thn (ho pins s σ H _ I h) fun v s1 hh_=>?_)
 obtain ⟨x,H1,I1,r1,ty,q1⟩:=hh_
 obtain ⟨h1,h2⟩:=NG I1 r1 ty
 refine ⟨T,id,pa,slot,hty,h1,h2,?_⟩
 have hA:=ha cpos pins s1 σ H1 _ I1 q1
 rw[hs] at hA ⊢
 refine Calls.callWith_builtin (by show (false || (backTo cpos (starEach es X.env)).any (·.1))=false;rw[hplain]<;>rfl) (Calls.evalArgs_plain ?_)
 exact thn hA fun us s2 ⟨vs,H2,I2,r2,q2⟩=>hm pins s2 σ H2 x vs v us Q I2 r1 r2 q2
end
def MtM (X:Cx) (id:String) (r:V->List V->Hp->VK->Prop):Prop:=
 ∀ (pins:List (Addr×Obj)) (s:Shared) (σ:St) (H:Hp) (x:V) (xs:List V) (v:Value) (us:List Value) (Q:VK),Inv X pins σ H s->RelV x v->Vals xs us->r x xs H Q ->
  wpAny (model X.prog X.w) X.A (call (.builtin id) (v::us)) (EP X pins σ Q) X.xe s
theorem Vals.one:∀ {x:V} {us:List Value},Vals [x] us->∃ u,us=[u]/\RelV x u
 | _,_,.cons r .nil=>⟨_,rfl,r⟩
theorem Vals.two:∀ {x y:V} {us:List Value},Vals [x,y] us->∃ u v,us=[u,v]/\RelV x u/\RelV y v
 | _,_,_,.cons r (.cons q .nil)=>⟨_,_,rfl,r,q⟩
theorem Vals.reverse {xs:List V} {us:List Value} (h:Vals xs us):Vals xs.reverse us.reverse:=by
 induction h with
 | nil=>exact .nil
 | cons r t ih=>rw[List.reverse_cons,List.reverse_cons];exact Vals.append ih (.cons r .nil)
theorem Vals.rep {xs:List V} {us:List Value} (h:Vals xs us):∀ k:Nat,Vals (List.replicate k xs).flatten (List.replicate k us).flatten
 | 0=>.nil
 | k+1=>by
  rw[List.replicate_succ,List.replicate_succ,List.flatten_cons,List.flatten_cons]
  exact Vals.append h (Vals.rep h k)
theorem foldl_rep (its:List Value):∀ (k:Nat) (acc:List Value),
  List.foldl (fun x1 x2=>x1++x2) acc.toArray (List.replicate k its.toArray)=(acc++(List.replicate k its).flatten).toArray
 | 0,acc=>by simp
 | k+1,acc=>by
  have e:acc.toArray++its.toArray=(acc++its).toArray:=by simp
  have e2:(acc++its)++(List.replicate k its).flatten=acc++(List.replicate (k+1) its).flatten:=by
   rw[List.replicate_succ,List.flatten_cons,List.append_assoc]
  rw[<-e2,<-foldl_rep its k (acc++its),<-e,List.replicate_succ,List.foldl_cons]
section
variable {X:Cx} {pins:List (Addr×Obj)} {σ:St} {H:Hp} {s:Shared} {l b:Addr} {xs ys zs:List V}
theorem Inv.lset {its its':List Value} {n:Nat} {f:Array Value->Array Value} {t':Nat} (I:Inv X pins σ H s) (hH:H l=some (.lst xs))
  (e:s.heap.get? l=some {cls:=.type "list",data:=.seq its.toArray n}) (hf:f its.toArray=its'.toArray) (hv:Vals ys its') (hz:ys.length<=sizeLine) :
  Inv X pins σ (upd H l (.lst ys)) {s with heap:=s.heap.update l (Obj.mapSeq f),toks:=t'}:=by
 have q:=PySem.IsL.update e f
 rw[hf] at q
 refine I.write (x:=l) (e:=l) (by rw[hH];exact trivial) (.inl rfl) (fun b' u hb hu=>(Heap.get?_update_other s.heap (Obj.mapSeq f) (Ne.symm hb)).trans hu) ⟨_,q⟩ ?_
 exact ⟨hz,its',_,hv,q⟩
theorem Inv.lnew {its:List Value} {t':Nat} (I:Inv X pins σ H s) (hv:Vals ys its) (hz:ys.length<=sizeLine) :
  Inv X pins σ (upd H s.heap.objs.size (.lst ys)) {s with heap:=s.heap.push {cls:=.type "list",data:=.seq its.toArray},toks:=t'}:=
 I.laid (fun _ _ q=>Heap.get?_push_of_some _ q) (Nat.le_refl _) ⟨hz,its,0,hv,Heap.get?_push_size _ rfl⟩
theorem Inv.fresh (I:Inv X pins σ H s):H s.heap.objs.size=none:=I.hok.fresh (Nat.le_refl _)
theorem Inv.lstM (I:Inv X pins σ H s) (hH:H l=some (.lst xs)):xs.length<=sizeLine/\∃ (its:List Value) (n:Nat),Vals xs its/\xs.length=its.length/\s.heap.get? l=some {cls:=.type "list",data:=.seq its.toArray n}:=by
 obtain ⟨z,its,n,r,e⟩:=I.hok l _ hH
 exact ⟨z,its,n,r,r.length,e⟩
theorem PC {n:Nat} (h:n<=sizeLine):Builtin.List.listTooLong n=false:=by
 unfold Builtin.List.listTooLong
 exact decide_eq_false (by lia)
end
section
variable {X:Cx}
def QD:V->List V->Hp->VK->Prop:=fun x vs H Q=>∃ l xs y,x=.ref l/\vs=[y]/\H l=some (.lst xs)/\xs.length<sizeLine/\Q .non (upd H l (.lst (xs++[y])))
theorem NK:MtM X "list.append" QD:=by
 intro pins s σ H x vs v us Q I rx rv h
 obtain ⟨l,xs,y,rfl,rfl,hH,hz,q⟩:=h
 cases rx
 obtain ⟨u,rfl,ru⟩:=rv.one
 obtain ⟨z,its,n,r,hl,e⟩:=I.lstM hH
 refine call_meets F.slot_list_append ⟨_,e,rfl⟩ F.entry_list_append (F.args_list_append_2 _ _) (PySem.list_append l its.toArray n u (by rw[List.size_toArray];lia)) ⟨e,?_⟩
 refine ⟨.non,_,I.lset (its':=its++[u]) hH e (by simp) (r.append (.cons ru .nil)) ?_,rfl,q⟩
 rw[List.length_append,List.length_singleton]
 lia
def HV:R2:=fun x y H Q=>∃ l b xs zs,x=.ref l/\y=.ref b/\H l=some (.lst xs)/\H b=some (.lst zs)/\xs.length+zs.length<=sizeLine/\∀ p,H p=none->Q (.ref p) (upd H p (.lst (xs++zs)))
theorem JE:OpR X (binaryOp .Add) HV:=by
 intro pins s σ H x y v u Q I rx ry h
 obtain ⟨l,b,xs,zs,rfl,rfl,hH,hB,hz,q⟩:=h
 cases rx
 cases ry
 obtain ⟨z,its,n,r,hl,e⟩:=I.lstM hH
 obtain ⟨z2,its2,n2,r2,hl2,e2⟩:=I.lstM hB
 refine PySem.P.add_list e e2 ?_ (by rw[List.size_toArray,List.size_toArray];lia)
 have ea:its.toArray++its2.toArray=(its++its2).toArray:=by simp
 rw[ea]
 exact ⟨.ref _,_,I.lnew (t':=s.toks) (r.append r2) (by rw[List.length_append];lia),rfl,q _ I.fresh⟩
def Jh:R2:=fun x y H Q=>∃ l k xs,x=.ref l/\y=.int k/\H l=some (.lst xs)/\-(2 ^ 63)<=k/\k<2 ^ 63/\xs.length * k.toNat<=sizeLine /\
 ∀ p,H p=none->Q (.ref p) (upd H p (.lst (List.replicate k.toNat xs).flatten))
theorem len_rep {α:Type} (xs:List α) (k:Nat):(List.replicate k xs).flatten.length=k * xs.length:=by
 induction k with
 | zero=>simp
 | succ k ih=>rw[List.replicate_succ,List.flatten_cons,List.length_append,ih,Nat.succ_mul,Nat.add_comm]
theorem Ov:OpR X (binaryOp .Mult) Jh:=by
 intro pins s σ H x y v u Q I rx ry h
 obtain ⟨l,k,xs,rfl,rfl,hH,h1,h2,hz,q⟩:=h
 cases rx
 obtain ⟨t,rfl⟩:=ry
 obtain ⟨z,its,n,r,hl,e⟩:=I.lstM hH
 have hlen:its.toArray.size * k.toNat<=sizeLine:=by rw[List.size_toArray,<-hl];exact hz
 have hcap:¬its.toArray.size * k.toNat > (2 ^ 63 - 1) / 8:=by
  have:(sizeLine:Nat)<=(2 ^ 63 - 1) / 8:=by decide
  lia
 have hfit:¬(!Builtin.List.listFitsIndex k)=true:=by
  rw[fitsIndex_both h1 h2]
  exact Bool.false_ne_true
 have hlong:¬Builtin.List.listTooLong (its.toArray.size * k.toNat)=true:=by
  rw[PC hlen]
  exact Bool.false_ne_true
 have hnew:List.foldl (fun x1 x2=>x1++x2) #[] (List.replicate (if its.toArray.isEmpty=true then 0 else k.toNat) its.toArray)=(List.replicate k.toNat its).flatten.toArray:=by
  have f0:∀ m:Nat,List.foldl (fun x1 x2=>x1++x2) #[] (List.replicate m its.toArray)=(List.replicate m its).flatten.toArray:=fun m=>by
   have:=foldl_rep its m []
   rw[List.nil_append] at this
   exact this
  rw[f0]
  cases its with
  | nil=>simp
  | cons a r'=>rw[if_neg (by simp)]
 refine wpAny_binaryOp_repeat_ref (T:="list") (U:="int") (by decide) ⟨_,e,rfl⟩ (fun s'=>typeIs_int s' k t) noFill_list_mul F.fills_int_mul F.slot_int_rmul repeat_list F.slot_int_index.lookup
  (call_meets F.slot_int_rmul (typeIs_int s k t) F.entry_int_rmul (F.args_int_rmul_2 _ _) (int___rmul___int_list k t l its.toArray n)
   ⟨e,rfl,⟨_,e,rfl⟩,call_meets F.slot_list_mul ⟨_,e,rfl⟩ F.entry_list_mul (F.args_list_mul_2 _ _) (AutoListH.list___mul___list_int_3 l its.toArray n k t hfit hcap hlong) ⟨e,?_⟩⟩)
 rw[hnew]
 exact ⟨.ref _,_,I.lnew (t':=s.toks) (r.rep k.toNat) (by rw[len_rep,Nat.mul_comm];exact hz),rfl,q _ I.fresh⟩
end
section
variable {prog:Program} {w:World} {A:Around} {E:Value->Shared->Prop} {s:Shared}
end
section
variable {X:Cx}
end
end L2
namespace Att
open PySem PySem.W PySem.Calls PyProof.Rows
theorem Pp {P:Params} {h:Heap}:∀ (ns:List Int) (vs:List Value),WellAll P h vs (ns.map WData.int)->IntsAre vs ns:=by
 intro ns
 induction ns with
 | nil=>
  intro vs w
  rw[List.map_nil] at w
  cases w
  exact .nil
 | cons n ns ih=>
  intro vs w
  rw[List.map_cons] at w
  cases w with
  | cons a b=>
   cases a
   exact .cons _ _ (ih _ b)
theorem Ou {l:OpenLaw} {n:Nat} (hn:l.most=some n) {P:Params} {h:Heap} {args:List WData} {vals:List Value}
  (hpre:l.row.toRowW.claim.pre args=true) (hwl:WellAll P h vals args) :
  ∃ a vs ns,vals=[Value.ref a]/\args=[WData.list (ns.map WData.int)]/\h.get? a=some {cls:=.type "list",data:=.seq vs.toArray}/\IntsAre vs ns/\ns.length<=n:=by
 have hsh:WShape.hasAll [] args [.list .int]=true:=(pre_splitW hpre).1
 have hc:l.pre.holds [] {args:=args}=true:=(pre_splitW hpre).2
 obtain ⟨d,r,rfl,h1,h2⟩:=hasAllW_cons hsh
 obtain rfl:=hasAllW_nil h2
 obtain ⟨xs,rfl,h3⟩:=hasW_list h1
 obtain ⟨ns,rfl⟩:=items_int h3
 have hlen:ns.length<=n:=by
  unfold OpenLaw.pre at hc
  have h4:(WTm.not (.lt (.lit (.int (n:Int))) (.len (.arg 0)))).holds [] {args:=[.list (ns.map .int)]}=true:=by
   have h4:=(holds_andW hc).1
   rw[hn] at h4
   exact h4
  have h5:=condW_of h4 (w_not (w_lt w_lit (w_len_list (w_arg rfl))))
  rw[List.length_map] at h5
  refine Nat.le_of_not_lt fun q=>?_
  have q':(n:Int)<((ns.length:Nat):Int):=by lia
  first
   | (rw[decide_eq_true q'] at h5;exact absurd h5 (by decide))
   | (simp at h5;lia)
 cases hwl with
 | cons w1 w2=>
  cases w2
  cases w1 with
  | list ho hall=>exact ⟨_,_,ns,rfl,rfl,ho,Pp ns _ hall,hlen⟩
theorem R0 (l:OpenLaw) (args:List WData):l.row.toRowW.claim.post args (.bool true) args=true:=
 postW_of (r:=l.row.toRowW) (X:=(true == true))
  (show WShape.has [] (.bool true) .bool=true by first | rfl | decide | simp[WShape.has,WShape.arms,WShape.armsAll])
  (show (WTm.eq .res (.lit (.bool true))).value [] {args:=args,res:=some (.bool true),after:=args}=some (.bool (true == true)) from w_eq_bool (w_res rfl) w_lit) rfl
theorem Qn {l:OpenLaw} {n:Nat} {q:Program} {loose:List Str} {XP:(Str->Option Value)->Heap->Prop} {YP:World->Heap->Prop} {d:DefRec}
  (hn:l.most=some n) (hdf:d.params.defaults=[])
  (call:∀ (w:World) (s₀ s₁:Shared) (mg mb:Str->Option Value) (fa:Addr) (o:Obj) (pm cd doc:Value) (a:Addr) (vs:List Value) (ns:List Int),
   Ground q loose [] XP w s₀ mg mb s₁.heap->YP w s₁.heap ->
   s₁.heap.get? fa=some o->o.data=.func (docDef d.name d.params d.body d.scope pm cd doc)->s₁.heap.CodeRec cd d.name->mg d.name=some (.ref fa) ->
   s₁.heap.get? a=some {cls:=.type "list",data:=.seq vs.toArray}->IntsAre vs ns->ns.length<=n->s₁.gens=#[] ->
   codeAny (model l.prog w) callerA (.call (.ref fa) ⟨[.ref a],[]⟩) (fun r s'=>r=.ok (.ret (.bool true))/\OldK s₁.heap s'.heap/\s'.os=s₁.os/\AllBare s'.gens) s₁) :
  WalkO q loose XP YP l.row.toRowW d [] (fun f vs=>PySem.call f vs):=by
 intro w s₀ s₁ mg mb G Y fa o pm cd doc dV kV ho hd hcd hD hmg hg args vals as hpre hlay hrd hwl hlo
 obtain rfl:dV=.none:=Dflts.none hD hdf
 obtain rfl:kV=.none:=Dflts.noKw hD
 obtain ⟨a,vs,ns,rfl,rfl,hobj,hints,hlen⟩:=Ou hn hpre hwl
 refine enter_call (codeAny_mono (call w s₀ s₁ mg mb fa o pm cd doc a vs ns G Y ho (fd_plain hd) hcd hmg hobj hints hlen hg) fun r s' hq=>?_)
 obtain ⟨rfl,h2,h3,h4⟩:=hq
 exact ⟨.inl ⟨.bool true,.bool true,[],rfl,fun _=>rfl,.bool true,R0 l _,fun _=>⟨List.Pairwise.nil,fun _ hm=>(nomatch hm)⟩⟩,h2,h3,h4⟩
section
variable {prog:Program} {w:World} {A:Around} {E:Value->Shared->Prop} {s:Shared} {K:Frag}
end
end Att
namespace L2
open PySem PySem.Spec PyProof.Rows
theorem IG:∀ {vs:List Value} {ns:List Int},IntsAre vs ns->Vals (ns.map V.int) vs
 | _,_,.nil=>.nil
 | _,_,.cons n t h=>.cons ⟨t,rfl⟩ (IG h)
def IE (H:Hp):Prop:=∀ b,H b=none\/∃ o xs,H b=some (.frz o (.lst xs))
theorem OM {P:Program} {w:World} {K:PySem.W.Frag} {mg mb:Str->Option Value} {CX:CXT} {k:Nat} {fa a:Addr} {fd:FuncData} {x:Str} {sp:Sp} {s₁:Shared} {vs:List Value} {ns:List Int}
  (KX:K.In s₁.heap) (hns:s₁.heap.Ns mainGlobals mg) (hb:s₁.heap.Ns builtinsNs mb) (hbb:∀ x:Str,x≠"__name__"->mb x=bootBuiltins x) (hlim:s₁.heap.NoLimit) (hg:s₁.gens=#[])
  (ha:s₁.heap.get? a=some {cls:=.type "list",data:=.seq vs.toArray}) (hi:IntsAre vs ns) (hl:ns.length<=sizeLine) (hr:Room k callerA)
  (F:∀ base:Heap,K.In base->base.Ns mainGlobals mg->FnOk P w K mg base CX k fa fd [x] sp) (hbind:∀ (s:Shared) (u:Value),BindsTo s fd ⟨[u],[]⟩ [(x,u)])
  (hsp:∀ H:Hp,IE H->SqL K H a (ns.map V.int)->sp [.ref a] H (fun v _=>v=.bl true) fun _ _ _=>False)
  (hCX:∀ H e s',CX [] H s₁ (fun _ _ _=>False) e s'->False) :
  codeAny (model P w) callerA (.call (.ref fa) ⟨[.ref a],[]⟩) (fun r s'=>r=.ok (.ret (.bool true))/\OldK s₁.heap s'.heap/\s'.os=s₁.os/\AllBare s'.gens) s₁:=by
 have rv:=IG hi
 have lenV:=hi.length
 have core:∀ H:Hp,IE H->SqL K H a (ns.map V.int)->HOk P w H s₁.heap->(∀ b,H b≠none->b=a)->(H a≠none->K.lookup a=none) ->
   codeAny (model P w) callerA (.call (.ref fa) ⟨[.ref a],[]⟩) (fun r s'=>r=.ok (.ret (.bool true))/\OldK s₁.heap s'.heap/\s'.os=s₁.os/\AllBare s'.gens) s₁:=by
  intro H hO hS hok hA hK
  have base_of:∀ {b:Addr} {o:Obj},s₁.heap.get? b=some o->H b=none->(C0 s₁.heap H).get? b=some o:=fun e n=>O0 e n
  have noA:∀ {b:Addr} {o:Obj} {es:Array DictEntry} {ep:Nat},s₁.heap.get? b=some o->o.data=.dict es ep->H b=none:=fun {b o es ep} e d=>by
   cases q:H b with
   | none=>rfl
   | some u=>
    have e':b=a:=hA b (by rw[q];simp)
    subst e'
    rw[ha] at e;cases e
    have d':Data.seq vs.toArray _=Data.dict es ep:=d
    cases d'
  have nsK:∀ {b:Addr} {m:Str->Option Value},s₁.heap.Ns b m->(C0 s₁.heap H).Ns b m:=fun {b m} ⟨o,es,ep,e,d,r⟩=>⟨o,es,ep,base_of e (noA e d),d,r⟩
  have hKb:K.In (C0 s₁.heap H):=fun b o e=>base_of (KX b o e) (by
   cases q:H b with
   | none=>rfl
   | some u=>
    have e':b=a:=hA b (by rw[q];simp)
    subst e'
    rw[hK (by rw[q];simp)] at e;cases e)
  have hM:Mod K mg (C0 s₁.heap H):=⟨hKb,nsK hns,⟨mb,nsK hb,hbb⟩,let ⟨mc,h1,h2⟩:=hlim;⟨mc,nsK h1,h2⟩⟩
  have e0:Env0 P w K mg (C0 s₁.heap H) callerA [] s₁ H:=⟨rfl,hM,fun b o e=>OJ e,Nat.le_of_eq (NC _ _),trivial,fun b hb=>absurd (show b∈([]:List Addr) from hb) (by simp),hok,.of_eq hg⟩
  refine codeAny_mono ((F _ hKb (nsK hns)).run callerA [] s₁ H ⟨[.ref a],[]⟩ [.ref a] [.ref a] _ _ hr e0 (hbind s₁ (.ref a)) (.cons rfl .nil) (hsp H hO hS)) fun r s' h=>?_
  cases r with
  | error e=>exact (hCX H e s' h).elim
  | ok fl=>
   cases fl with
   | next=>exact False.elim h
   | brk=>exact False.elim h
   | cont=>exact False.elim h
   | ret u=>
    obtain ⟨v,H',os,bare,un,hok',r',q⟩:=h
    have q':v=.bl true:=q
    subst q'
    obtain rfl:u=Value.bool true:=r'
    refine ⟨rfl,OldK.of_keep fun b o e=>?_,os,bare⟩
    cases q:H b with
    | none=>exact un.keep b o e q (by intro z;exact absurd (show b∈([]:List Addr) from z) (by simp)) (by simp)
    | some u=>
     rcases hO b with z | ⟨ob,xs,z⟩
     ·rw[q] at z;cases z
     ·have z2:=un.frzs b ob _ z
      obtain ⟨e1,_⟩:=hok b _ z
      obtain ⟨e2,_⟩:=hok' b _ z2
      rw[e] at e1;cases e1
      exact e2
 cases hk:K.lookup a with
 | some o=>
  have e:=KX a o hk
  rw[ha] at e
  cases e
  refine core (fun _=>none) (fun _=>.inl rfl) (.inr ⟨_,vs.toArray,_,hk,rfl,rfl,rfl,by rw[List.size_toArray,lenV];exact hl,by simpa using rv⟩) (fun b u z=>by have z':(none:Option HO)=some u:=z;cases z') (fun b z=>absurd rfl z) fun z=>absurd rfl z
 | none=>
  refine core (fun b=>if b=a then some (.frz {cls:=.type "list",data:=.seq vs.toArray} (.lst (ns.map V.int))) else none) (fun b=>?_) (.inl (.inr ⟨{cls:=.type "list",data:=.seq vs.toArray},if_pos rfl⟩)) (fun b u z=>?_) (fun b z=>?_) fun _=>hk
  ·by_cases hb:b=a
   ·exact .inr ⟨_,_,if_pos hb⟩
   ·exact .inl (if_neg hb)
  ·by_cases hb:b=a
   ·have z':=(if_pos hb).symm.trans z
    cases z'
    subst hb
    exact ⟨ha,by rw[List.length_map];exact hl,vs,_,rv,ha⟩
   ·have z':=(if_neg hb).symm.trans z
    cases z'
  ·by_cases hb:b=a
   ·exact hb
   ·exact absurd (if_neg hb) z
def Du (s:Stmt):Arguments:=match s with
 | .FunctionDef _ a _ _ _ _ _ _ _ _=>a
 | _=>{posonlyargs:=[],args:=[],vararg:=none,kwonlyargs:=[],kw_defaults:=[],kwarg:=none,defaults:=[]}
def Cr (s:Stmt):List Stmt:=match s with
 | .FunctionDef _ _ b _ _ _ _ _ _ _=>b
 | _=>[]
def Ak (s:Stmt):Scope:=match s with
 | .FunctionDef _ _ _ _ _ _ sc _ _ _=>sc
 | _=>{kind:=.function,names:=[],isGenerator:=false,isCoroutine:=false}
abbrev CX0:CXT:=fun _ _ _ _ _ _=>False
abbrev E0:XK:=fun _ _ _=>False
theorem G0 {X:Cx}:Gk CX0 X E0:=fun _ _ _ _ _ _ _ h=>h.elim
structure Fun (K:PySem.W.Frag) (x qual:Str) (st:Stmt) (f:Addr) (fd:FuncData):Prop where
 ex:∃ (oc:Value) (od:Option Addr) (kV doc pm:Value) (an:Option Addr) (cdv ct:Value) (osl:Array (Option Value)),
  fd=PySem.W.fnOf x qual (Du st) (Cr st) (Ak st) .none kV doc pm an cdv ct/\K.lookup f=some ⟨oc,od,.func fd,osl⟩/\PySem.W.codeIn K cdv qual=true
 kp:PySem.W.keepIn K (.ref f)=true
section
variable {P:Program} {w:World} {K:PySem.W.Frag} {mg:Str->Option Value} {base:Heap}
theorem Fun.ok {x qual:Str} {st:Stmt} {f:Addr} {fd:FuncData} {N ps:List Str} {k:Nat} {sp:Sp} (F:Fun K x qual st f fd) (S:FnScope N ps (Ak st)) (len:∀ vs H Q E,sp vs H Q E->vs.length=ps.length)
  (hbody:∀ (cdv:Value) (A:Around) (outer:List Env) (s:Shared) (H:Hp) (vs:List V) (Q:VK) (E:XK),Room k (A.deeper (envOfC qual (Ak st) s.heap.objs.size f cdv))->sp vs H Q E ->
   ∃ t,PSs (DY CX0 P w K mg base N qual (Ak st) f cdv A outer s H E).nox (Cr st) t/\t {nx:=fun _ H'=>Q .non H',rt:=Q} (start N vs) H):FnOk P w K mg base CX0 (k+1) f fd ps sp:=by
 obtain ⟨oc,od,kV,doc,pm,an,cdv,ct,osl,rfl,lk,hcd⟩:=F.ex
 refine TL lk hcd S len fun A outer s H vs Q E hr hsp=>?_
 obtain ⟨t,h,q⟩:=hbody cdv A outer s H vs Q E hr hsp
 exact ⟨t,h.nox,q⟩
theorem Fun.binds {x qual:Str} {st:Stmt} {f:Addr} {fd:FuncData} {ps:List Str} (F:Fun K x qual st f fd)
  (h:∀ (kV doc pm:Value) (an:Option Addr) (cdv ct:Value) (us:List Value),us.length=ps.length->bindArgs (PySem.W.fnOf x qual (Du st) (Cr st) (Ak st) .none kV doc pm an cdv ct) ⟨us,[]⟩=pure (ps.zip us)):Binds K fd ps []:=by
 obtain ⟨oc,od,kV,doc,pm,an,cdv,ct,osl,rfl,lk,hcd⟩:=F.ex
 exact .all (h kV doc pm an cdv ct)
end
section
variable {X:Cx}
theorem pv (i:Nat) {x:Str} {pos:Pos} (hN:X.N[i]?=some x:=by rfl) (hv:Vis X.env.scope x:=by first | exact Or.inl rfl | exact Or.inr (Or.inl rfl) | exact Or.inr (Or.inr rfl)) (hd:(x == ("__debug__":Str))=false:=by decide)
  (hcd:(x == ("__classdict__":Str))=false:=by decide):PE X (.Name x pos) (Bj i):=JA hN hv hd hcd
end
end L2
namespace HD
open PySem PySem.W PySem.Calls PyProof.Rows L2
def FR (h:Heap):Frag:=(List.range h.objs.size).filterMap fun a=>(h.get? a).map fun o=>(a,o)
theorem Ja {β:Type} {a:Nat} {o:β}:∀ {l:List (Nat×β)},l.lookup a=some o->(a,o)∈l
 | [],h=>by cases h
 | (b,x)::l,h=>by
  rw[List.lookup_cons] at h
  by_cases e:a=b
  ·subst e
   rw[beq_self_eq_true] at h
   cases h
   exact .head _
  ·rw[beq_false_of_ne e] at h
   exact .tail _ (Ja h)
theorem Qx (h:Heap):(FR h).In h:=by
 intro a o e
 obtain ⟨b,_,hb⟩:=List.mem_filterMap.mp (Ja e)
 obtain ⟨o',h1,h2⟩:=Option.map_eq_some_iff.mp hb
 cases h2
 exact h1
abbrev Sn:=Option (Str×Str×Arguments×FuncBody×Scope×Addr×List (Str×Addr)×Value×Addr×Bool)
def FW (K:Frag) (x:Str):Sn:=match nsIn K mainGlobals x with
 | some (some (.ref f))=>(match K.lookup f with
  | some ⟨_,_,.func d,_⟩=>some (d.name,d.qualname,d.params,d.body,d.scope,d.globals,d.closure,d.defaults,d.builtins,codeIn K d.code x)
  | _=>none)
 | _=>none
def GW (p:Str×Stmt):Sn:=some (p.1,p.1,Du p.2,.stmts (Cr p.2),Ak p.2,mainGlobals,[],.none,builtinsNs,true)
theorem BY {K:Frag} {x:Str} {st:Stmt} (h:FW K x=GW (x,st)):∃ (f:Addr) (fd:FuncData),nsIn K mainGlobals x=some (some (.ref f))/\Fun K x x st f fd:=by
 unfold FW at h
 split at h
 ·rename_i f hn
  split at h
  ·rename_i oc od d sl hl
   simp only[GW,Option.some.injEq,Prod.mk.injEq] at h
   obtain ⟨d1,d2,d3,d4,d5,d6,d7,d8,d9,c⟩:=h
   have z:d=fnOf x x (Du st) (Cr st) (Ak st) .none d.kwdefaults d.doc d.pyModule d.annotations d.code d.closureTuple:=by
    cases d
    simp only[FuncData.mk.injEq]
    exact ⟨d1,d2,d3,d4,d5,d6,d7,d8,trivial,trivial,trivial,trivial,trivial,trivial,d9⟩
   refine ⟨f,d,hn,⟨?_,?_⟩⟩
   ·exact ⟨oc,od,d.kwdefaults,d.doc,d.pyModule,d.annotations,d.code,d.closureTuple,sl,z,hl,c⟩
   ·show (match K.lookup f with | some ⟨_,_,.func _,_⟩=>true | some ⟨_,_,.cls _,_⟩=>_ | _=>false)=true
    rw[hl]
  ·cases h
 ·cases h
theorem BM {α β:Type} {g h:α->β}:∀ {L:List α} {i:Nat} {x:α},L.map g=L.map h->L[i]?=some x->g x=h x
 | [],_,_,_,e=>by cases e
 | y::L,0,x,m,e=>by cases e;exact (List.cons.inj m).1
 | y::L,i+1,x,m,e=>BM (List.cons.inj m).2 e
def Fy (K:Frag) (x:Str):Option Int:=match nsIn K mainGlobals x with
 | some (some (.int n _))=>some n
 | _=>none
theorem int_at {K:Frag} {x:Str} {n:Int} (h:Fy K x=some n):∃ ty,nsIn K mainGlobals x=some (some (.int n ty)):=by
 unfold Fy at h
 split at h
 ·cases h;rename_i ty e;exact ⟨ty,e⟩
 ·cases h
def adr (K:Frag) (x:Str):Option Addr:=match nsIn K mainGlobals x with
 | some (some (.ref a))=>some a
 | _=>none
theorem PP {K:Frag} {x:Str} {a:Addr} (h:adr K x=some a):nsIn K mainGlobals x=some (some (.ref a)):=by
 unfold adr at h
 split at h
 ·cases h;assumption
 ·cases h
def stp (p:Program) (N:Nat) (w:World) (os:OsState):Option Shared:=
 topRun treeTable p w (boot_heap w.params).objs.size ((boot_heap w.params).nsMap mainGlobals "__annotations__") N ⟨boot_heap w.params,Array.mk [],boot_drawn,boot_toks,os⟩ (topStub p)
theorem Rh:(fun P=>(boot_heap P).isNs mainGlobals && (Array.mk []:Array GenState).size == 0)=fun _=>true:=by kernel_rfl
def Li (p q:Program) (loose:List Str) (N:Nat) (w:World) (os:OsState):=(stp p N w os).map fun s=>openSeen q loose (importedModules p.main.body) (fun _=>true) true s
def MK {α:Type} (p:Program) (N:Nat) (obs:Frag->α) (w:World) (os:OsState):=(stp p N w os).map fun s=>obs (FR s.heap)
def runC (p:Program) (N:Nat) (w:World) (os:OsState):=(stp p N w os).map fun s=>staticsOk (importedModules p.main.body) (boot_heap w.params) s.heap && namesBound p s.heap && gensDone s && laidKept (boot_heap w.params) s.heap
theorem Se {α:Type} {p q:Program} {loose:List Str} {N:Nat} {obs:Frag->α} {val:α} (e:opening p=plainProg p.main.scope.names) (hN:Nat.ble 600 N=true) (f:∀ s,fenceModules? p s=some s)
  (hA:∀ w os,Li p q loose N w os=some (openGood q loose)) (hB:∀ w os,MK p N obs w os=some val) (hC:∀ w os,runC p N w os=some true):LeftO p q loose (fun _=>true) (fun s=>obs (FR s.heap)) (fun _=>val) N:=fun w=>by
 obtain ⟨⟨H,gs,d,k,os⟩,e1,e2⟩:=Option.map_eq_some_iff.mp (boot_open e hN f w)
 simp only[Prod.mk.injEq] at e2
 obtain ⟨rfl,rfl,rfl,rfl⟩:=e2
 obtain ⟨s,h1,h2⟩:=Option.map_eq_some_iff.mp (hA w os)
 obtain ⟨s',h3,h4⟩:=Option.map_eq_some_iff.mp (hB w os)
 obtain ⟨s2,h5,h6⟩:=Option.map_eq_some_iff.mp (hC w os)
 rw[h1] at h3 h5
 cases h3
 cases h5
 unfold openEnds
 rw[e1]
 have z:topFrom treeTable p w N ⟨boot_heap w.params,Array.mk [],boot_drawn,boot_toks,os⟩=some s:=by
  unfold topFrom
  dsimp only
  rw[congrFun Rh w.params]
  show (stp p N w os).bind _=_
  rw[h1]
  show (match _ with | true=>some s | false=>none)=_
  rw[h6]
 show (topFrom treeTable p w N _).map _=_
 rw[z,Option.map_some,h2]
 exact congrArg (fun z=>some (openGood q loose,z)) h4
theorem NH {α:Type} {l:OpenLaw} {n k:Nat} {q:Program} {loose:List Str} {XP:(Str->Option Value)->Heap->Prop} {d:DefRec} {obs:Frag->α} {val:α} {x:Str} {sp:Frag->Sp}
  (hn:l.most=some n) (hn2:n<=sizeLine) (hdf:d.params.defaults=[]) (hr:Room k callerA)
  (F:∀ (w:World) (K:Frag) (mg:Str->Option Value) (fa:Addr) (h:Heap),obs K=val->K.In h->h.Ns mainGlobals mg->mg d.name=some (.ref fa) ->
   ∃ fd:FuncData,(∀ (s:Shared) (u:Value),BindsTo s fd ⟨[u],[]⟩ [(x,u)])/\∀ base:Heap,K.In base->base.Ns mainGlobals mg->FnOk l.prog w K mg base CX0 k fa fd [x] (sp K))
  (hsp:∀ (K:Frag) (H:Hp) (a:Addr) (ns:List Int),ns.length<=n->IE H->SqL K H a (ns.map V.int)->sp K [.ref a] H (fun v _=>v=.bl true) fun _ _ _=>False) :
  WalkO q loose XP (fun _ h=>∃ K:Frag,obs K=val/\K.In h) l.row.toRowW d [] (fun f vs=>PySem.call f vs):=by
 refine Att.Qn hn hdf fun w s0 s1 mg mb fa o pm cd doc a vs ns G Y ho hd hcd hmg hobj hints hlen hg=>?_
 obtain ⟨K,hK,KX⟩:=Y
 obtain ⟨fd,hb,hF⟩:=F w K mg fa _ hK KX G.T.g hmg
 exact OM KX G.T.g G.T.b G.T.builtins G.T.nolimit hg hobj hints (Nat.le_trans hlen hn2) hr hF hb (fun H hO hS=>hsp K H a ns hlen hO hS) fun _ _ _ z=>z
theorem Q3 {α:Type} {l:OpenLaw} {q:Program} {loose:List Str} {N:Nat} {obs:Frag->α} {val:α} {d:DefRec} {kwd:List (Str×Expr)} (said:l.row.wellSaid=true)
  (e:opening l.prog=plainProg l.prog.main.scope.names) (hN:Nat.ble 600 N=true) (f:∀ s,fenceModules? l.prog s=some s) (hA:∀ w os,Li l.prog q loose N w os=some (openGood q loose)) (hB:∀ w os,MK l.prog N obs w os=some val) (hC:∀ w os,runC l.prog N w os=some true)
  (hdef:defOf q l.name=some (d,kwd)) (hp:l.prog.theDef l.name=some (d.params,d.body,d.scope)) (hk:kwWritten? d.params.kwonlyargs d.params.kw_defaults=some kwd)
  (hwr:(!l.row.writes || l.row.records.isEmpty)=true) (ok:(chainsOk q && opensWell l.prog && (frees l.row.toRowW && l.row.within.isEmpty))=true) (hb:l.prog.bare) (hw:l.row.toRowW.promised)
  (call:WalkO q loose (fun _ _=>True) (fun _ h=>∃ K:Frag,obs K=val/\K.In h) l.row.toRowW d kwd fun f vs=>PySem.call f vs):l.row.Holds:=
 holds_open (r:=l.row) (q:=q) (loose:=loose) (Xt:=fun _=>true) (XP:=fun _ _=>True) (YP:=fun _ h=>∃ K:Frag,obs K=val/\K.In h) (N:=N) (Se e hN f hA hB hC)
  (fun _ s y=>⟨_,y,Qx s.heap⟩) (fun _ _ _ ⟨K,a,b⟩ k=>⟨K,a,b.keeps k⟩) (fun _ _=>trivial) (fun _ _ _ _ _=>trivial) hdef hp hk (fun _ _=>⟨fun _ z=>(nomatch z),fun _ z=>(nomatch z),fun _ _ _ z=>(nomatch z),fun _ _ z=>(nomatch z)⟩) hwr said ok hb hw call
end HD
namespace EvS
open PySem PyProof.Rows
structure Cmp (prog:Program) (w:World) (A:Around) (E:Value->Shared->Prop) (s:Shared) (kd:SortKind) (good:Keyed->Prop) (lt:Keyed->Keyed->Bool):Prop where
 run:∀ {st:SortSt} {x y:Keyed} {Q:Option Bool->SortSt->Prop},kindOf st=kd->good x->good y->Q (some (lt x y)) st->wpS (model prog w) A E s (lt' x y) Q st
section
variable {prog:Program} {w:World} {A:Around} {E:Value->Shared->Prop} {s:Shared} {kd:SortKind} {good:Keyed->Prop} {lt:Keyed->Keyed->Bool} {st:SortSt}
variable {left:Bool} {key:Keyed} {xs:Array Keyed} {b n:Nat} {B:Nat->Bool} {Q:Option Nat->SortSt->Prop}
end
abbrev dnA (a b o:Array Keyed) (p q:Nat):Array Keyed:=o++a.extract p a.size++b.extract q b.size
abbrev lAA (a b o:Array Keyed) (p q:Nat):Array Keyed:=o++b.extract q b.size++a.extract p a.size
structure Ord (good:Keyed->Prop) (lt:Keyed->Keyed->Bool):Prop where
 tr:∀ {x y z},good x->good y->good z->lt y x=false->lt z y=false->lt z x=false
 tot:∀ {x y},good x->good y->lt x y=true->lt y x=false
abbrev LE (lt:Keyed->Keyed->Bool) (x y:Keyed):Prop:=lt y x=false
structure SL (good:Keyed->Prop) (lt:Keyed->Keyed->Bool) (l:List Keyed):Prop where
 all:∀ x∈l,good x
 srt:l.Pairwise (LE lt)
structure MI (good:Keyed->Prop) (lt:Keyed->Keyed->Bool) (a b o:List Keyed) (p q:Nat):Prop where
 perm:(o++(a.drop p++b.drop q)).Perm (a++b)
 srt:o.Pairwise (LE lt)
 low:∀ x∈o,∀ y∈a.drop p++b.drop q,LE lt x y
 pa:p<=a.length
 qb:q<=b.length
section
variable {good:Keyed->Prop} {lt:Keyed->Keyed->Bool} {a b o:List Keyed} {p q k:Nat} {x:Keyed}
end
structure SG (st st':SortSt):Prop where
 kind:kindOf st'=kindOf st
 arr:arrOf st'=arrOf st
 pend:pendingOf st'=pendingOf st
 fail:failedOf st'=failedOf st
abbrev LoS:=Option (Array Keyed)×Array Keyed×Nat×Nat×Nat×Nat×Nat
section
variable {prog:Program} {w:World} {A:Around} {E:Value->Shared->Prop} {s:Shared} {kd:SortKind} {good:Keyed->Prop} {lt:Keyed->Keyed->Bool} {st:SortSt} {a b:Array Keyed} {Q:Array Keyed->SortSt->Prop}
structure LoL (good:Keyed->Prop) (lt:Keyed->Keyed->Bool) (a b:Array Keyed):Prop where
 sa:SL good lt a.toList
 sb:SL good lt b.toList
 CQ:∀ {p q:Nat} {x y:Keyed},a.toList[p]?=some x->b.toList[q]?=some y->LE lt y x->∀ z∈a.toList.drop p,LE lt y z
 lowA:∀ {p q:Nat} {x y:Keyed},a.toList[p]?=some x->b.toList[q]?=some y->LE lt x y->∀ z∈b.toList.drop q,LE lt x z
structure LoR (good:Keyed->Prop) (lt:Keyed->Keyed->Bool) (a b:Array Keyed) (n:Nat) (R:ForInStep LoS->SortSt->Prop) (st:SortSt):Prop where
 fin:∀ {o:Array Keyed} {p q:Nat} {z},MI good lt a.toList b.toList o.toList p q->(p=a.size\/q=b.size)->R (.done (some (dnA a b o p q),z)) st
 las:∀ {o:Array Keyed} {p q:Nat} {z},MI good lt a.toList b.toList o.toList p q->p+1=a.size->R (.done (some (lAA a b o p q),z)) st
 don:∀ {o:Array Keyed} {p q mg ac bc:Nat},MI good lt a.toList b.toList o.toList p q->p+1<a.size->q<b.size->n<=o.size->R (.done (none,o,p,q,mg,ac,bc)) st
 yie:∀ {o:Array Keyed} {p q mg ac bc:Nat},MI good lt a.toList b.toList o.toList p q->p+1<a.size->q<b.size->n<=o.size->R (.yield (none,o,p,q,mg,ac,bc)) st
end
abbrev dnB (a b o:Array Keyed) (p q:Nat):Array Keyed:=a.extract 0 p++b.extract 0 q++o.reverse
abbrev fBB (a b o:Array Keyed) (p q:Nat):Array Keyed:=b.extract 0 q++a.extract 0 p++o.reverse
structure MH (good:Keyed->Prop) (lt:Keyed->Keyed->Bool) (a b o:List Keyed) (p q:Nat):Prop where
 perm:(a.take p++(b.take q++o.reverse)).Perm (a++b)
 srt:o.reverse.Pairwise (LE lt)
 low:∀ x∈o,∀ y∈a.take p++b.take q,LE lt y x
 pa:p<=a.length
 qb:q<=b.length
section
variable {good:Keyed->Prop} {lt:Keyed->Keyed->Bool} {a b o:List Keyed} {p q k:Nat} {x:Keyed}
end
section
variable {good:Keyed->Prop} {lt:Keyed->Keyed->Bool} {a b o:List Keyed} {p q u:Nat} {x:Keyed}
end
abbrev HiS:=Option (Array Keyed)×Nat×Nat×Array Keyed×Nat×Nat×Nat
section
variable {prog:Program} {w:World} {A:Around} {E:Value->Shared->Prop} {s:Shared} {kd:SortKind} {good:Keyed->Prop} {lt:Keyed->Keyed->Bool} {st:SortSt} {a b:Array Keyed} {Q:Array Keyed->SortSt->Prop}
structure HiL (good:Keyed->Prop) (lt:Keyed->Keyed->Bool) (a b:Array Keyed):Prop where
 sa:SL good lt a.toList
 sb:SL good lt b.toList
 upA:∀ {p q:Nat} {x y:Keyed},0<q->a.toList[p]?=some x->b.toList[q - 1]?=some y->LE lt y x->∀ z∈b.toList.take q,LE lt z x
 upB:∀ {p q:Nat} {x y:Keyed},0<p->a.toList[p - 1]?=some x->b.toList[q]?=some y->LE lt x y->∀ z∈a.toList.take p,LE lt z y
structure HiR (good:Keyed->Prop) (lt:Keyed->Keyed->Bool) (a b:Array Keyed) (n:Nat) (R:ForInStep HiS->SortSt->Prop) (st:SortSt):Prop where
 fin:∀ {o:Array Keyed} {p q:Nat} {z},MH good lt a.toList b.toList o.toList p q->(p=0\/q=0)->R (.done (some (dnB a b o p q),z)) st
 fst:∀ {o:Array Keyed} {p q:Nat} {z},MH good lt a.toList b.toList o.toList p q->q=1->R (.done (some (fBB a b o p q),z)) st
 don:∀ {o:Array Keyed} {p q mg ac bc:Nat},MH good lt a.toList b.toList o.toList p q->0<p->1<q->n<=o.size->R (.done (none,p,q,o,mg,ac,bc)) st
 yie:∀ {o:Array Keyed} {p q mg ac bc:Nat},MH good lt a.toList b.toList o.toList p q->0<p->1<q->n<=o.size->R (.yield (none,p,q,o,mg,ac,bc)) st
end
def G (xs:Array Keyed) (k:Nat):Keyed:=xs[k]?.getD (.none,.none)
def Out (lo hi:Nat) (xs ys:Array Keyed):Prop:=∀ k,(k<lo\/hi<=k)->ys[k]?=xs[k]?
structure SB (kd:SortKind) (a₀:Array Keyed) (st:SortSt):Prop where
 perm:(arrOf st).Perm a₀
 kind:kindOf st=kd
 fail:failedOf st=none
section
variable {prog:Program} {w:World} {A:Around} {E:Value->Shared->Prop} {s:Shared} {kd:SortKind} {good:Keyed->Prop} {lt:Keyed->Keyed->Bool} {st:SortSt} {a₀:Array Keyed}
end
section
variable {prog:Program} {w:World} {A:Around} {E:Value->Shared->Prop} {s:Shared} {kd:SortKind} {good:Keyed->Prop} {lt:Keyed->Keyed->Bool} {st:SortSt} {a₀:Array Keyed} {lo nrem:Nat} {Q:Option Nat->SortSt->Prop}
end
section
variable {prog:Program} {w:World} {A:Around} {E:Value->Shared->Prop} {s:Shared} {kd:SortKind} {good:Keyed->Prop} {lt:Keyed->Keyed->Bool} {st:SortSt} {a₀:Array Keyed} {lo nrem:Nat}
end
section
variable {prog:Program} {w:World} {A:Around} {E:Value->Shared->Prop} {s:Shared} {kd:SortKind} {good:Keyed->Prop} {lt:Keyed->Keyed->Bool} {st:SortSt} {a₀:Array Keyed}
end
section
variable {lt:Keyed->Keyed->Bool} {xs ys:Array Keyed}
end
section
variable {prog:Program} {w:World} {A:Around} {E:Value->Shared->Prop} {s:Shared} {kd:SortKind} {good:Keyed->Prop} {lt:Keyed->Keyed->Bool} {st:SortSt} {a₀:Array Keyed}
end
section
variable {prog:Program} {w:World} {A:Around} {E:Value->Shared->Prop} {s:Shared}
end
section
variable {prog:Program} {w:World} {A:Around} {E:Value->Shared->Prop} {s:Shared}
def F0 (h:Heap) (ν:Value->List Int) (v:Value):Prop:=∃ a o xs n,v=.ref a/\h.get? a=some o/\o.cls=.type "tuple"/\o.data=.seq xs n/\IntsAre xs.toList (ν v)/\ν v≠[]
end
end EvS
namespace EvS
open PySem PySem.Spec PyProof.Rows
section
variable {prog:Program} {w:World} {A:Around} {E:Value->Shared->Prop} {s:Shared}
end
end EvS
namespace L2
open PySem PySem.Spec PyProof.Rows
section
variable {prog:Program} {w:World} {A:Around} {R:Result->Shared->Prop} {s:Shared}
theorem NW {elt tg src:Expr} {tests:List Expr} {sc:Scope} {cp:Pos} {it acc:Value} {ev:Env} {Xn:Value->Shared->Prop} (J:Nat->Shared->Prop) (hX:∀ e s,Xn e s->notedBy (model prog w) A ev (fun e s'=>R (.error e) s') e s)
  (turn:∀ n s,J n s->wpAny (model prog w) A (pyNext it) (fun r s1=>match r with
   | none=>R (.ok .next) s1
   | some v=>wpAny (model prog w) A (letOwnedTupleGo tg it v) (fun _ s2=>wpAny (model prog w) A (assign tg ev v) (fun _ s3=>
     wpAny (model prog w) A (forIn tests true fun c r=>if r=true then do let ok <-isTrue c ev (eval c ev);pure (ForInStep.yield ok) else pure (ForInStep.yield r)) (fun ok s4=>
      if ok=true then wpAny (model prog w) A (eval elt ev) (fun x s5=>wpAny (model prog w) A (call (.builtin "list.append") [acc,x]) (fun _ s6=>∃ m,m<n/\J m s6) Xn s5) Xn s4
      else ∃ m,m<n/\J m s4) Xn s3) Xn s2) Xn s1) Xn s)
  (n:Nat) (h:J n s):codeAny (model prog w) A (.compLoop (.ListComp elt [⟨tg,src,tests,0⟩] sc cp) 0 it acc ev) R s:=by
 refine codeAny_loop rfl J (fun n s hJ=>?_) n h
 show wpAny _ A ((compTurn (.ListComp elt [⟨tg,src,tests,0⟩] sc cp) 0 it acc ev).onRaise (fun x=>do noteFrame x ev;theTreesLotGoes x)) _ _ s
 refine wpAny_noted ?_
 rw[compTurn_list]
 refine wpAny_bind (wpAny_standAt (wpAny_bind (wpAny_mono (turn n s hJ) (fun r s1 h1=>?_) hX)))
 cases r with
 | none=>exact wpAny_pure h1
 | some v=>
  refine wpAny_bind (wpAny_mono h1 (fun _ s2 h2=>?_) hX)
  refine wpAny_bind (wpAny_mono h2 (fun _ s3 h3=>wpAny_bind (wpAny_mono h3 (fun ok s4 h4=>?_) hX)) hX)
  cases ok with
  | false=>exact wpAny_pure ⟨rfl,h4⟩
  | true=>exact wpAny_bind (wpAny_bind (wpAny_mono h4 (fun x s5 h5=>wpAny_bind (wpAny_mono h5 (fun _ s6 h6=>wpAny_pure (wpAny_pure ⟨rfl,h6⟩)) hX)) hX))
end
theorem Gs {ev:Env} {F:Str×NameKind->List (Str×Addr)->Sem (ForInStep (List (Str×Addr)))}
  (hF:∀ n k cs,F (n,k) cs=if (k == NameKind.free)=true then (do let c <-cellOf ev n;pure (ForInStep.yield ((n,c)::cs))) else pure (ForInStep.yield cs)) :
  ∀ (ns:List (Str×NameKind)) (cs:List (Str×Addr)),(∀ x c,cs.lookup x=some c->ev.cells.lookup x=some c)->(∀ x∈ns,x.2=.free->∃ c,ev.cells.lookup x.1=some c) ->
   ∃ cl,(forIn ns cs F:Sem (List (Str×Addr)))=pure cl/\(∀ x c,cl.lookup x=some c->ev.cells.lookup x=some c)/\(∀ x c,cs.lookup x=some c->∃ d,cl.lookup x=some d) /\
    ∀ x∈ns,x.2=.free->∃ c,cl.lookup x.1=some c
 | [],cs,h1,_=>⟨cs,by rw[List.forIn_nil],h1,fun _ c e=>⟨c,e⟩,fun _ hx=>nomatch hx⟩
 | (n,k)::ns,cs,h1,h2=>by
  have h2':∀ x∈ns,x.2=.free->∃ c,ev.cells.lookup x.1=some c:=fun x hx=>h2 x (List.mem_cons_of_mem _ hx)
  by_cases hk:k=NameKind.free
  ·subst hk
   obtain ⟨c,hc⟩:=h2 (n,.free) List.mem_cons_self rfl
   have h1':∀ x d,((n,c)::cs).lookup x=some d->ev.cells.lookup x=some d:=fun x d e=>by
    rw[List.lookup_cons] at e
    cases hx:x == n with
    | true=>rw[hx] at e;cases e;rw[eq_of_beq hx];exact hc
    | false=>rw[hx] at e;exact h1 x d e
   obtain ⟨cl,e1,e2,e3,e4⟩:=Gs hF ns ((n,c)::cs) h1' h2'
   refine ⟨cl,?_,e2,fun x d e=>?_,fun x hx hf=>?_⟩
   ·rw[List.forIn_cons,hF]
    have hcell:cellOf ev n=pure c:=by unfold cellOf;rw[hc]
    rw[if_pos (by decide),hcell]
    exact e1
   ·cases hx:x == n with
    | true=>exact e3 x c (by rw[List.lookup_cons,hx])
    | false=>exact e3 x d (by rw[List.lookup_cons,hx];exact e)
   ·rcases List.mem_cons.mp hx with rfl | hx
    ·exact e3 n c (by rw[List.lookup_cons,beq_self_eq_true])
    ·exact e4 x hx hf
  ·obtain ⟨cl,e1,e2,e3,e4⟩:=Gs hF ns cs h1 h2'
   refine ⟨cl,?_,e2,e3,fun x hx hf=>?_⟩
   ·rw[List.forIn_cons,hF,if_neg (fun z=>hk (eq_of_beq z))]
    exact e1
   ·rcases List.mem_cons.mp hx with rfl | hx
    ·exact absurd hf hk
    ·exact e4 x hx hf
theorem Jf {sc:Scope} {ev:Env} (h:∀ x∈sc.names,x.2=.free->∃ c,ev.cells.lookup x.1=some c) :
  ∃ cl,closureFor sc ev=pure cl/\(∀ x c,cl.lookup x=some c->ev.cells.lookup x=some c)/\∀ x∈sc.names,x.2=.free->∃ c,cl.lookup x.1=some c:=by
 obtain ⟨cl,e1,e2,_,e4⟩:=Gs (ev:=ev) (F:=fun x cs=>match x with
  | (n,k)=>if (k == NameKind.free)=true then (do let c <-cellOf ev n;pure (ForInStep.yield ((n,c)::cs))) else pure (ForInStep.yield cs)) (fun _ _ _=>rfl) sc.names [] (fun x c e=>nomatch e) h
 refine ⟨cl,?_,e2,e4⟩
 show ((forIn sc.names [] (fun x cs=>match x with
  | (n,k)=>if (k == NameKind.free)=true then (do let c <-cellOf ev n;pure (ForInStep.yield ((n,c)::cs))) else pure (ForInStep.yield cs)):Sem (List (Str×Addr))) >>= fun z=>pure z)=pure cl
 rw[e1]
 rfl
theorem lookup_map2 (g:Str->NameKind->NameKind):∀ (l:List (Str×NameKind)) (x:Str),(l.map fun p=>(p.1,g p.1 p.2)).lookup x=(l.lookup x).map (g x)
 | [],_=>rfl
 | (n,k)::l,x=>by
  rw[List.map_cons,List.lookup_cons,List.lookup_cons]
  cases hx:x == n with
  | true=>rw[eq_of_beq hx];rfl
  | false=>exact lookup_map2 g l x
theorem IZ:∀ {l:List (Str×NameKind)} {x:Str} {k:NameKind},l.lookup x=some k->(x,k)∈l
 | (n,k')::l,x,k,h=>by
  rw[List.lookup_cons] at h
  cases hx:x == n with
  | true=>rw[hx] at h;cases h;rw[eq_of_beq hx];exact List.mem_cons_self
  | false=>rw[hx] at h;exact List.mem_cons_of_mem _ (IZ h)
def EE (ev:Env) (n:Str) (k:NameKind):NameKind:=if (k == .free && ev.scope.kind == .function && ev.kindOf n == some .cell)=true then .cell else k
theorem Kc (sc:Scope) (ev:Env) (x:Str):(relabel sc ev).names.lookup x=(sc.names.lookup x).map (EE ev x):=by
 have e:(relabel sc ev).names=sc.names.map fun p=>(p.1,EE ev p.1 p.2):=by
  unfold relabel
  refine List.map_congr_left fun p _=>?_
  obtain ⟨n,k⟩:=p
  show (if (k == .free && ev.scope.kind == .function && ev.kindOf n == some .cell)=true then (n,NameKind.cell) else (n,k))=(n,EE ev n k)
  unfold EE
  split<;>rfl
 rw[e]
 exact lookup_map2 _ _ _
structure CompOk (sc esc:Scope) (N fn:List Str) (ix:List Nat):Prop where
 kind:sc.kind=.function
 cells:∀ x∈sc.names,x.2=.cell->sc.names.lookup x.1=some .cell
 locs:∀ x∈sc.names,x.2=.local->sc.names.lookup x.1=some .local
 frees:∀ x∈sc.names,x.2=.free->esc.names.lookup x.1=some .cell\/esc.names.lookup x.1=some .free
 ixs:ix.map (fun i=>N[i]?)=fn.map some
 fns:∀ x∈fn,sc.names.lookup x=some .free
def CN (sc:Scope) (C:Addr):List (Str×Addr):=cellsFrom (C+1) sc.names []
theorem G7:∀ (names:List (Str×NameKind)) (n:Nat) (a b:List (Str×Addr)),cellsFrom n names (a++b)=cellsFrom n names a++b
 | [],_,_,_=>rfl
 | (x,k)::r,n,a,b=>by
  unfold cellsFrom
  split
  ·exact G7 r (n+1) ((x,n)::a) b
  ·exact G7 r n a b
theorem IW:∀ (names:List (Str×NameKind)) (n:Nat) (acc:List (Str×Addr)) (x:Str) (c:Addr),(x,c)∈cellsFrom n names acc->(x,c)∈acc\/(x,NameKind.cell)∈names
 | [],_,_,_,_,h=>.inl h
 | (y,k)::r,n,acc,x,c,h=>by
  unfold cellsFrom at h
  by_cases hk:(k == .cell)=true
  ·rw[if_pos hk] at h
   rcases IW r (n+1) _ x c h with h | h
   ·rcases List.mem_cons.mp h with h | h
    ·cases h
     rw[beq_iff_eq.mp hk]
     exact .inr List.mem_cons_self
    ·exact .inl h
   ·exact .inr (List.mem_cons_of_mem _ h)
  ·rw[if_neg hk] at h
   rcases IW r n acc x c h with h | h
   ·exact .inl h
   ·exact .inr (List.mem_cons_of_mem _ h)
theorem Ls {α:Type}:∀ {l:List (Str×α)} {x:Str},(∀ c,(x,c)∉l)->l.lookup x=none
 | [],_,_=>rfl
 | (y,v)::r,x,h=>by
  have hne:(x == y)=false:=by
   cases z:(x == y) with
   | false=>rfl
   | true=>
    have e:=beq_iff_eq.mp z
    subst e
    exact absurd List.mem_cons_self (h v)
  rw[List.lookup_cons,hne]
  exact Ls fun c hc=>h c (List.mem_cons_of_mem _ hc)
theorem Gz {α:Type}:∀ {a b:List (Str×α)} {x:Str},a.lookup x=none->(a++b).lookup x=b.lookup x
 | [],_,_,_=>rfl
 | (y,v)::r,b,x,h=>by
  rw[List.lookup_cons] at h
  rw[List.cons_append,List.lookup_cons]
  cases z:(x == y) with
  | true=>rw[z] at h;cases h
  | false=>
   rw[z] at h
   exact Gz (a:=r) h
theorem Dg {α:Type}:∀ {a b:List (Str×α)} {x:Str} {c:α},(a++b).lookup x=some c->a.lookup x=some c\/(a.lookup x=none/\b.lookup x=some c)
 | [],_,_,_,h=>.inr ⟨rfl,h⟩
 | (y,v)::r,b,x,c,h=>by
  rw[List.cons_append,List.lookup_cons] at h
  rw[List.lookup_cons]
  cases z:(x == y) with
  | true=>rw[z] at h;exact .inl h
  | false=>
   rw[z] at h
   exact Dg (a:=r) h
theorem KH {α:Type}:∀ {a b:List (Str×α)} {x:Str} {c:α},a.lookup x=some c->(a++b).lookup x=some c
 | (y,v)::r,b,x,c,h=>by
  rw[List.lookup_cons] at h
  rw[List.cons_append,List.lookup_cons]
  cases z:(x == y) with
  | true=>rw[z] at h;exact h
  | false=>
   rw[z] at h
   exact KH (a:=r) h
theorem K3 {sc esc:Scope} {N fn:List Str} {ix:List Nat} {x:Str} {k:NameKind} {C:Addr} (ok:CompOk sc esc N fn ix) (h:sc.names.lookup x=some k) (hk:k≠.cell):(CN sc C).lookup x=none:=
 Ls fun c hc=>by
  rcases IW _ _ _ _ _ hc with z | z
  ·cases z
  ·rw[ok.cells _ z rfl] at h
   exact hk (Option.some.inj h).symm
section
variable {M:Model} {A:Around} {E:Value->Shared->Prop} {s:Shared}
theorem QI {scope:Scope} {globals:Addr} {cl:List (Str×Addr)} {qual:Str} {code:Value} {env:Env} {Q:Env->Shared->Prop} (hk:scope.kind=.function)
  (h:Q {scope,locals:=s.heap.objs.size,globals,cells:=CN scope s.heap.objs.size++cl,qual,func:=none,code:=env.code,frame:=env.frame,builtins:=env.builtins} {s with heap:=pushCells (s.heap.push {cls:=.type "dict",data:=.dict #[]}) scope.names}) :
  wpAny M A (newFunctionEnv scope globals cl [] qual none code (some env)) Q E s:=by
 simp only[newFunctionEnv,Option.isSome_some,if_true]
 refine wpAny_bind (wpAny_alloc ?_)
 refine wpAny_bind (wpAny_layCells _ (fun name kind cells=>by cases hkc:kind == NameKind.cell<;>simp[hkc]) _ _ _ _ ?_)
 rw[show ({s with heap:=s.heap.push {cls:=.type "dict",data:=.dict #[]}}:Shared).heap.objs.size=s.heap.objs.size+1 from Heap.size_push ..]
 have e:cellsFrom (s.heap.objs.size+1) scope.names cl=CN scope s.heap.objs.size++cl:=G7 scope.names _ [] cl
 rw[e]
 refine wpAny_bind ?_
 rw[List.forIn_nil]
 exact wpAny_pure (wpAny_pure h)
end
def Bw (xe:Value->Shared->Prop) (X:Cx) (N':List Str) (sc:Scope) (s2:Shared) (H2:Hp) (cl:List (Str×Addr)) (C:Addr) (fp:List Addr):Cx where
 prog:=X.prog
 w:=X.w
 K:=X.K
 mg:=X.mg
 base:=X.base
 A:=X.A
 N:=N'
 s₀:=s2
 H₀:=H2
 env:=compEnvC sc (CN sc C++cl) C X.env
 outer:=X.stack
 stack:=X.stack
 ex:=fp
 fn:=fun x=>sc.names.lookup x == some .cell
 calm:=X.calm
 pn:=[]
 xe:=xe
abbrev Be (X:Cx) (N':List Str) (sc:Scope) (s2:Shared) (H2:Hp) (cl:List (Str×Addr)) (C:Addr) (fp:List Addr):Cx:=Bw (fun _ _=>False) X N' sc s2 H2 cl C fp
def cSt (nt:Nat) (ix:List Nat) (σ:St):St:=List.replicate nt none++ix.map fun k=>(σ[k]?).join
def IR (J:It) (g:TG) (tc:TT) (te:TE) (l:Addr) (q:Hp->Prop) (σ0:St) (H0:Hp):Prop:=
 ∃ W:Nat->Nat->St->Hp->Prop,(∃ m,W 0 m σ0 H0)/\∀ i m σ H,W i m σ H ->
  (J.stop i H/\q H)\/(J.go i H/\∃ N:St->Hp->Prop,(∀ σ' H',N σ' H'->∃ m',m'<m/\W (i+1) m' σ' H')/\∀ x H',J.yld i H x H'->g x σ H' fun σ2 H2=>tc σ2 H2 fun b H3=>
   if b=true then te σ2 H3 fun v H4=>∃ xs,H4 l=some (.lst xs)/\xs.length<sizeLine/\N σ2 (upd H4 l (.lst (xs++[v]))) else N σ2 H3)
def Ij (wi:TI) (nt:Nat) (ix:List Nat) (g:TG) (tc:TT) (te:TE):TE:=fun σ H Q=>wi σ H fun J H1=>∀ l,H1 l=none->IR J g tc te l (fun H'=>Q (.ref l) H') (cSt nt ix σ) (upd H1 l (.lst []))
def PTs (X:Cx) (tests:List Expr) (tc:TT):Prop:=
 ∀ (pins:List (Addr×Obj)) (s:Shared) (σ:St) (H:Hp) (Q:Bool->Hp->Prop),Inv X pins σ H s->tc σ H Q ->
  wpAny (model X.prog X.w) X.A (forIn tests true fun c r=>if r=true then do let ok <-isTrue c X.env (eval c X.env);pure (ForInStep.yield ok) else pure (ForInStep.yield r)) (TP X pins σ Q) X.xe s
def Gu:TT:=fun _ H Q=>Q true H
theorem Lr {X:Cx}:PTs X [] Gu:=fun _ _ _ H _ I h=>wpAny_tests_nil ⟨H,I,h⟩
theorem Nd {X:Cx} {c:Expr} {tc:TT} (h:PT X c tc):PTs X [c] tc:=fun pins s σ H Q I hw=>wpAny_tests_one (h pins s σ H Q I hw)
section
variable {X:Cx} {elt tg src:Expr} {tests:List Expr} {sc esc:Scope} {cp:Pos} {g:TG} {tc:TT} {te:TE} {N tn fn:List Str} {ix:List Nat}
theorem RW {xe:Value->Shared->Prop} {cl:List (Str×Addr)} {pins:List (Addr×Obj)} {σ:St} {s2:Shared} {H2:Hp} {C:Addr} {fp:List Addr} (hsc:X.env.scope=esc) (ok:CompOk sc esc N fn ix)
  (hsub:∀ x c,cl.lookup x=some c->X.env.cells.lookup x=some c) (hall:∀ x∈sc.names,x.2=.free->∃ c,cl.lookup x.1=some c)
  (I2:Inv X pins σ H2 s2) (f2:∀ b∈fp,Bu X pins H2 b) (lt:∀ b∈fp,b<s2.heap.objs.size) (hC:s2.heap.objs.size<=C)
  (own:∀ x c,(CN sc C).lookup x=some c->C+1<=c) (apart:(CN sc C).Pairwise fun x y=>x.2≠y.2):(Bw xe X (tn++fn) sc s2 H2 cl C fp).Ok where
 mod:=I2.ok.mod
 kind:=ok.kind
 glob:=I2.ok.glob
 blt:=I2.ok.blt
 above:=hC
 inj:=fun x y c e1 e2=>by
  have low:∀ x c,cl.lookup x=some c->c<s2.heap.objs.size:=fun x c e=>by
   obtain ⟨v,hv⟩:=I2.cell x c (hsub x c e)
   exact hv.lt
  rcases Dg e1 with a | ⟨_,a⟩<;>rcases Dg e2 with b | ⟨_,b⟩
  ·exact name_of_addr apart (PySem.mem_of_lookup a) (PySem.mem_of_lookup b)
  ·exact absurd (low _ _ b) (Nat.not_lt.mpr (Nat.le_trans hC (Nat.le_trans (Nat.le_succ _) (own _ _ a))))
  ·exact absurd (low _ _ a) (Nat.not_lt.mpr (Nat.le_trans hC (Nat.le_trans (Nat.le_succ _) (own _ _ b))))
  ·exact I2.ok.inj x y c (hsub x c a) (hsub y c b)
 has:=fun x hx=>by
  have hx':(relabel sc X.env).names.lookup x=some .cell\/(relabel sc X.env).names.lookup x=some .free:=hx
  rw[Kc] at hx'
  show ∃ c,(CN sc C++cl).lookup x=some c
  cases e:sc.names.lookup x with
  | none=>rw[e] at hx';rcases hx' with z | z<;>cases z
  | some k=>
   have hm:=IZ e
   by_cases hkc:k=.cell
   ·subst hkc
    obtain ⟨c,hc⟩:=Option.isSome_iff_exists.mp (PySem.W.cellsFrom_some (x:=x) sc.names (C+1) [] (.inl e))
    exact ⟨c,KH hc⟩
   have hk:k=.free:=by
    by_cases z:k=.free
    ·exact z
    ·exfalso
     have hr:EE X.env x k=k:=by
      unfold EE
      rw[if_neg]
      intro q
      rw[Bool.and_eq_true,Bool.and_eq_true] at q
      exact z (eq_of_beq q.1.1)
     rw[e,Option.map_some,hr] at hx'
     rcases hx' with q | q
     ·exact hkc (Option.some.inj q)
     ·exact z (Option.some.inj q)
   subst hk
   obtain ⟨c,hc⟩:=hall _ hm rfl
   exact ⟨c,by rw[Gz (K3 ok e (fun z=>nomatch z))];exact hc⟩
 cab:=fun x c e hc=>by
  have e:sc.names.lookup x=some .cell:=beq_iff_eq.mp e
  rcases Dg hc with a | ⟨a,_⟩
  ·exact Nat.le_trans hC (Nat.le_trans (Nat.le_succ _) (own _ _ a))
  ·obtain ⟨c',hc'⟩:=Option.isSome_iff_exists.mp (PySem.W.cellsFrom_some (x:=x) sc.names (C+1) [] (.inl e))
   have a:(cellsFrom (C+1) sc.names []).lookup x=none:=a
   rw[a] at hc'
   cases hc'
 hd:=I2.ok.hd
 frames:=I2.ok.frames
 stk:=.inl rfl
 exf:=fun b hb=>⟨Nat.ne_of_lt (Nat.lt_of_lt_of_le (lt b hb) hC),fun x c e=>by
  rcases Dg e with a | ⟨_,a⟩
  ·exact Nat.ne_of_gt (Nat.lt_of_lt_of_le (lt b hb) (Nat.le_trans hC (Nat.le_trans (Nat.le_succ _) (own _ _ a))))
  ·exact (f2 b hb).2.2.2.2.1 x c (hsub x c a)⟩
 bs:=I2.bs
 bsz:=Nat.le_trans I2.ok.bsz I2.sz
 noex:=fun b o e hb=>by
  rcases (f2 b hb).2.2.2.1 with z | z
  ·exact I2.ok.noex b o e z
  ·exact absurd (Nat.lt_of_lt_of_le (Heap.lt_size e) (Nat.le_trans I2.ok.bsz z)) (Nat.lt_irrefl _)
 exfs:=fun b hb hf=>by
  rcases List.mem_cons.mp (I2.stkSub b hf) with z | z
  ·exact (f2 b hb).2.1 z
  ·exact (f2 b hb).2.2.1 z
 funs:=I2.stack
 frf:=I2.stkFree
theorem Q8 (nt:Nat) (ix:List Nat) (σ:St):(cSt nt ix σ).length=nt+ix.length:=by
 unfold cSt
 rw[List.length_append,List.length_replicate,List.length_map]
theorem KN {xe:Shared->Hp->List (Str×Addr)->Addr->List Addr->Value->Shared->Prop} {cl:List (Str×Addr)} {pins:List (Addr×Obj)} {σ:St} {s2:Shared} {H2:Hp} {it:Addr} {fp:List Addr} {tu:Nat->Heap->Prop} {J:It} {E:Value->Shared->Prop} {q:Addr->Hp->Prop}
  {RR:Value->Addr->Result->Shared->Prop} (hc:X.calm=true) (hsc:X.env.scope=esc) (hN:X.N=N) (ok:CompOk sc esc N fn ix)
  (hsub:∀ x c,cl.lookup x=some c->X.env.cells.lookup x=some c) (hall:∀ x∈sc.names,x.2=.free->∃ c,cl.lookup x.1=some c)
  (hg:∀ s2 H2 cl C fp,PG (Bw (xe s2 H2 cl C fp) X (tn++fn) sc s2 H2 cl C fp) tg g)
  (ht:∀ s2 H2 cl C fp,PTs (Bw (xe s2 H2 cl C fp) X (tn++fn) sc s2 H2 cl C fp) tests tc)
  (he:∀ s2 H2 cl C fp,PE (Bw (xe s2 H2 cl C fp) X (tn++fn) sc s2 H2 cl C fp) elt te)
  (I2:Inv X pins σ H2 s2) (T:Turn X.prog X.w X.K tg J fp it tu) (st2:tu 0 s2.heap) (f2:∀ b∈fp,Bu X pins H2 b)
  (h:∀ l,H2 l=none->IR J g tc te l (q l) (cSt tn.length ix σ) (upd H2 l (.lst [])))
  (hXX:∀ (C l:Addr) (e:Value) (s8:Shared),s2.heap.objs.size<=C->xe s2 H2 cl C fp e s8->notedBy (model X.prog X.w) X.A (compEnvC sc (CN sc C++cl) C X.env) (fun e s'=>RR (.ref l) C (.error e) s') e s8)
  (hRR:∀ (C l:Addr) (s4:Shared) (H3:Hp) (m:Str->Option Value),Inv X pins σ H3 s4->s4.heap.Ns C m->Bu X pins H3 C->q l H3->RR (.ref l) C (.ok .next) s4) :
  wpAny (model X.prog X.w) X.A (newList []) (fun acc s3=>wpAny (model X.prog X.w) X.A (newFunctionEnv sc X.env.globals cl [] X.env.qual none .none (some X.env)) (fun cenv s4=>
   codeAny (model X.prog X.w) X.A (.compStart (.ListComp elt [⟨tg,src,tests,0⟩] sc cp) 0 (.ref it) acc {cenv with scope:=relabel sc X.env}) (RR acc cenv.locals) s4) E s3) E s2:=by
 refine wpAny_newObj_type (QI ok.kind ?_)
 dsimp only
 generalize hL:s2.heap.push {cls:=.type "list",dict:=none,data:=.seq ([]:List Value).toArray}=g1
 have hC:g1.objs.size=s2.heap.objs.size+1:=by rw[<-hL,Heap.size_push]
 have hlC:s2.heap.objs.size≠g1.objs.size:=by rw[hC];exact Nat.ne_of_lt (Nat.lt_succ_self _)
 have hCle:s2.heap.objs.size<=g1.objs.size:=by rw[hC];exact Nat.le_succ _
 have okc:CellsOk (pushCells (g1.push {cls:=.type "dict",data:=.dict #[]}) sc.names) (g1.objs.size+1) (CN sc g1.objs.size):=by
  have z:=cellsFrom_ok sc.names (g1.push {cls:=.type "dict",data:=.dict #[]}) (g1.objs.size+1) [] ⟨fun _ _ hm=>(nomatch hm),List.Pairwise.nil⟩ (by rw[Heap.size_push];exact Nat.le_refl _)
  rw[Heap.size_push] at z
  exact z
 have hns:(pushCells (g1.push {cls:=.type "dict",data:=.dict #[]}) sc.names).Ns g1.objs.size fun _=>none:=(Heap.Ns.new g1 (.type "dict")).keeps (pushCells_keeps _ _)
 have old1:∀ b o,g1.get? b=some o->(pushCells (g1.push {cls:=.type "dict",data:=.dict #[]}) sc.names).get? b=some o:=fun b o e=>pushCells_keeps _ _ b o (Heap.get?_push_of_some _ e)
 generalize pushCells (g1.push {cls:=.type "dict",data:=.dict #[]}) sc.names=h1 at okc hns old1
 have old:∀ b o,s2.heap.get? b=some o->h1.get? b=some o:=fun b o e=>old1 b o (hL▸Heap.get?_push_of_some _ e)
 have hnew:h1.get? s2.heap.objs.size=some {cls:=.type "list",data:=.seq ([]:List Value).toArray}:=old1 _ _ (hL▸Heap.get?_push_size _ rfl)
 have lt:∀ b∈fp,b<s2.heap.objs.size:=fun b hb=>by
  obtain ⟨o,e,_⟩:=T.obj 0 _ st2 b hb
  exact Heap.lt_size e
 have hl0:H2 s2.heap.objs.size=none:=I2.fresh
 have cok:(Bw (xe s2 H2 cl g1.objs.size fp) X (tn++fn) sc s2 H2 cl g1.objs.size fp).Ok:=RW hsc ok hsub hall I2 f2 lt hCle (fun x c e=>(okc.empty x c (PySem.mem_of_lookup e)).2) okc.apart
 have hixl:ix.length=fn.length:=by
  have z:=congrArg List.length ok.ixs
  rwa [List.length_map,List.length_map] at z
 have YI:Inv (Bw (xe s2 H2 cl g1.objs.size fp) X (tn++fn) sc s2 H2 cl g1.objs.size fp) [] (cSt tn.length ix σ) (upd H2 s2.heap.objs.size (.lst [])) {s2 with heap:=h1}:=by
  refine ⟨cok,rfl,I2.bare,Un.laid old (Nat.le_refl _) hl0,⟨_,hns,fun i x v e1 e2 e3=>?_⟩,fun x c e=>?_,?_,fun x c e=>?_,fun p hp=>?_,?_,?_⟩
  ·
   have hi:tn.length<=i:=by
    by_cases z:i<tn.length
    ·exfalso
     have e2':(cSt tn.length ix σ)[i]?=some none:=by
      unfold cSt
      rw[List.getElem?_append_left (by rw[List.length_replicate];exact z),List.getElem?_replicate,if_pos z]
     rw[e2'] at e2
     cases e2
    ·lia
   have e1':fn[i - tn.length]?=some x:=by
    have z:(tn++fn)[i]?=some x:=e1
    rwa [List.getElem?_append_right hi] at z
   have e2':(ix.map fun k=>(σ[k]?).join)[i - tn.length]?=some (some v):=by
    unfold cSt at e2
    rwa [List.getElem?_append_right (by rw[List.length_replicate];exact hi),List.length_replicate] at e2
   rw[List.getElem?_map] at e2'
   cases ek:ix[i - tn.length]? with
   | none=>rw[ek] at e2';cases e2'
   | some k=>
    rw[ek] at e2'
    have ev:(σ[k]?).join=some v:=Option.some.inj e2'
    have ev':σ[k]?=some (some v):=by
     cases z:σ[k]? with
     | none=>rw[z] at ev;cases ev
     | some w'=>rw[z] at ev;exact congrArg some ev
    have eN:X.N[k]?=some x:=by
     have z:=congrArg (fun l=>l[i - tn.length]?) ok.ixs
     rw[List.getElem?_map,List.getElem?_map,ek,e1'] at z
     rw[hN]
     exact Option.some.inj z
    have hfx:sc.names.lookup x=some .free:=ok.fns x (List.mem_of_getElem? e1')
    have hmem:=IZ hfx
    have hkind:X.env.scope.names.lookup x=some .cell\/X.env.scope.names.lookup x=some .free:=by rw[hsc];exact ok.frees _ hmem rfl
    obtain ⟨m,hn,hl⟩:=I2.loc
    obtain ⟨u,r,lk⟩:=hl k x v eN ev' (.inr hkind)
    refine ⟨u,r,.inr ⟨?_,?_⟩⟩
    ·show (relabel sc X.env).names.lookup x=some .cell\/(relabel sc X.env).names.lookup x=some .free
     rw[Kc,hfx,Option.map_some]
     unfold EE
     split
     ·exact .inl rfl
     ·exact .inr rfl
    ·rcases lk with ⟨z,_⟩ | ⟨_,c,ec,o,ho,hd⟩
     ·have z':X.env.scope.names.lookup x=some .local:=z
      rw[z'] at hkind
      rcases hkind with w' | w'<;>cases w'
     ·obtain ⟨c',hc'⟩:=hall _ hmem rfl
      have ecc:=hsub _ _ hc'
      rw[ec] at ecc
      cases ecc
      refine ⟨c,?_,o,old _ _ ho,hd⟩
      show (CN sc g1.objs.size++cl).lookup x=some c
      rw[Gz (K3 ok hfx (fun z=>nomatch z))]
      exact hc'
  ·rcases Dg e with e | ⟨_,e⟩
   ·exact ⟨_,(okc.empty x c (PySem.mem_of_lookup e)).1⟩
   ·obtain ⟨v,o,ho,hd⟩:=I2.cell x c (hsub x c e)
    exact ⟨v,o,old _ _ ho,hd⟩
  ·show (upd H2 s2.heap.objs.size (.lst [])) g1.objs.size=none
   rw[AO (Ne.symm hlC)]
   exact I2.hok.fresh hCle
  ·show (upd H2 s2.heap.objs.size (.lst [])) c=none
   rcases Dg e with e | ⟨_,e⟩
   ·have hc:=(okc.empty x c (PySem.mem_of_lookup e)).2
    rw[hC] at hc
    rw[AO (Nat.ne_of_gt (Nat.lt_of_lt_of_le (Nat.lt_of_lt_of_le (Nat.lt_succ_self _) (Nat.le_succ _)) hc))]
    exact I2.hok.fresh (Nat.le_trans (Nat.le_trans (Nat.le_succ _) (Nat.le_succ _)) hc)
   ·have hfc:=I2.freeC x c (hsub x c e)
    obtain ⟨v,o,ho,_⟩:=I2.cell x c (hsub x c e)
    rw[AO (Nat.ne_of_lt (Heap.lt_size ho))]
    exact hfc
  ·exact nomatch hp
  ·exact I2.hok.laid old (Nat.le_refl _) ⟨Nat.zero_le _,[],_,.nil,hnew⟩
  ·rw[Q8,hixl]
   show _=(tn++fn).length
   rw[List.length_append]
 have fpY:∀ {H':Hp},(∀ b∈fp,H' b=none)->∀ b∈fp,Bu (Bw (xe s2 H2 cl g1.objs.size fp) X (tn++fn) sc s2 H2 cl g1.objs.size fp) [] H' b:=fun hn b hb=>
  ⟨hn b hb,(cok.exf b hb).1,cok.exfs b hb,.inl hb,fun x c e=>(cok.exf b hb).2 x c e,fun p hp=>nomatch hp⟩
 have fr0:∀ b∈fp,(upd H2 s2.heap.objs.size (.lst [])) b=none:=fun b hb=>by
  rw[AO (Nat.ne_of_lt (lt b hb))]
  exact (f2 b hb).1
 have loop:codeAny (model X.prog X.w) X.A (.compLoop (.ListComp elt [⟨tg,src,tests,0⟩] sc cp) 0 (.ref it) (.ref s2.heap.objs.size) (compEnvC sc (CN sc g1.objs.size++cl) g1.objs.size X.env)) (RR (.ref s2.heap.objs.size) g1.objs.size)
   {s2 with heap:=h1}:=by
  obtain ⟨W,⟨m0,w0⟩,turn⟩:=h s2.heap.objs.size hl0
  refine NW (Xn:=xe s2 H2 cl g1.objs.size fp) (fun n s'=>∃ i σ' H',Inv (Bw (xe s2 H2 cl g1.objs.size fp) X (tn++fn) sc s2 H2 cl g1.objs.size fp) [] σ' H' s'/\tu i s'.heap/\(∀ b∈fp,H' b=none)/\W i n σ' H') (fun e s8 z=>hXX g1.objs.size _ e s8 hCle z) ?_ m0
   ⟨0,_,_,YI,T.keep _ _ _ st2 fun b _ o e=>old b o e,fr0,w0⟩
  rintro n s3 ⟨i,σ3,H3,I3,st3,fr3,w3⟩
  rcases turn i n σ3 H3 w3 with ⟨stop,qn⟩ | ⟨go,Nx,hNx,step⟩
  ·refine thn (T.done (Bw (xe s2 H2 cl g1.objs.size fp) X (tn++fn) sc s2 H2 cl g1.objs.size fp) rfl rfl rfl hc i [] s3 σ3 H3 _ I3 (fpY fr3) st3 stop) fun r s4 hh_=>?_
   obtain ⟨hr,I4⟩:=hh_
   subst hr
   obtain ⟨m,hn,_⟩:=I4.loc
   have IX:Inv X pins σ H3 s4:=I2.call' (ch:=fp) I4.os I4.base I4.hok I4.bare fun b hb=>by
    obtain ⟨_,a1,_,a3,a4,a5⟩:=f2 b hb
    exact ⟨a3,a1,a4,a5⟩
   exact hRR _ _ s4 H3 m IX hn (I2.fpOk hCle I4.free) qn
  ·refine thn (T.item (Bw (xe s2 H2 cl g1.objs.size fp) X (tn++fn) sc s2 H2 cl g1.objs.size fp) rfl rfl rfl hc i [] s3 σ3 H3 _ I3 (fpY fr3) st3 go) fun r s4 hh_=>?_
   obtain ⟨u,hr,h4⟩:=hh_
   subst hr
   refine thn h4 fun _ s5 hh_=>?_
   obtain ⟨x,H5,I5,r5,y5,st5,fr5⟩:=hh_
   have I5':=I5.pinned (fpY fr5) (T.obj _ _ st5)
   refine thn (hg _ _ _ _ _ _ s5 σ3 H5 x u _ I5' r5 (step x H5 y5)) fun _ s6 hh_=>?_
   obtain ⟨σ6,H6,I6,q6⟩:=hh_
   refine thn (ht _ _ _ _ _ _ s6 σ6 H6 _ I6 q6) fun b s7 hh_=>?_
   obtain ⟨H7,I7,q7⟩:=hh_
   have again:∀ {s8:Shared} {H8:Hp},Inv (Bw (xe s2 H2 cl g1.objs.size fp) X (tn++fn) sc s2 H2 cl g1.objs.size fp) ([]++E8 fp s5.heap) σ6 H8 s8->Nx σ6 H8 ->
     ∃ m,m<n/\∃ i σ' H',Inv (Bw (xe s2 H2 cl g1.objs.size fp) X (tn++fn) sc s2 H2 cl g1.objs.size fp) [] σ' H' s8/\tu i s8.heap/\(∀ b∈fp,H' b=none)/\W i m σ' H':=fun {s8 H8} I8 n8=>by
    obtain ⟨m',hm,w8⟩:=hNx σ6 H8 n8
    refine ⟨m',hm,i+1,σ6,H8,I8.unpinned,T.keep _ _ _ st5 fun b hb o e=>(I8.pin (b,o) (List.mem_append_right _ (List.mem_append_right _ (FX hb e)))).1,fun b hb=>?_,w8⟩
    obtain ⟨o,e,_⟩:=T.obj _ _ st5 b hb
    exact (I8.pin (b,o) (List.mem_append_right _ (List.mem_append_right _ (FX hb e)))).2.1
   cases b with
   | false=>
    rw[if_neg Bool.false_ne_true] at q7 ⊢
    exact again I7 q7
   | true=>
    rw[if_pos rfl] at q7 ⊢
    refine thn (he _ _ _ _ _ _ s7 σ6 H7 _ I7 q7) fun y s8 hh_=>?_
    obtain ⟨v,H8,I8,r8,xs,hx,hz,n8⟩:=hh_
    refine thn (NK _ s8 σ6 H8 (.ref s2.heap.objs.size) [v] (.ref s2.heap.objs.size) [y] (fun _ H9=>Nx σ6 H9) I8 rfl (.cons r8 .nil) ⟨_,xs,v,rfl,rfl,hx,hz,n8⟩) fun _ s9 ⟨_,H9,I9,_,q9⟩=>again I9 q9
 exact codeAny_compStart_list loop (T.self _ 0 _ _ _ (T.keep _ _ _ st2 fun b _ o e=>old b o e) loop)
variable {wi:TI}
theorem Q5 (hc:X.calm=true) (hsc:X.env.scope=esc) (hN:X.N=N) (ok:CompOk sc esc N fn ix) (hi:PI X tg src wi)
  (hg:∀ s2 H2 cl C fp,PG (Be X (tn++fn) sc s2 H2 cl C fp) tg g)
  (ht:∀ s2 H2 cl C fp,PTs (Be X (tn++fn) sc s2 H2 cl C fp) tests tc)
  (he:∀ s2 H2 cl C fp,PE (Be X (tn++fn) sc s2 H2 cl C fp) elt te)
  (hs:∀ x,foldedSetIterable src X.env x=pure x:=by intro _;rfl):PE X (.ListComp elt [⟨tg,src,tests,0⟩] sc cp) (Ij wi tn.length ix g tc te):=by
 intro pins s σ H Q I h
 rw[eval_ListComp]
 obtain ⟨cl,hcl,hsub,hall⟩:=Jf (sc:=sc) (ev:=X.env) fun x hx hf=>I.ok.has x.1 (by have z:=ok.frees x hx hf;rw[<-hsc] at z;exact z)
 refine wpAny_comprehension_free (use:=none) rfl hs hcl ok.kind ok.locs (thn (hi pins s σ H _ I h) fun xv s1 h1=>thn h1 fun itv s2 h2=>?_)
 obtain ⟨it,fp,tu,J,H2,e,I2,T,st2,f2,hq⟩:=h2
 subst e
 refine KN (xe:=fun _ _ _ _ _ _ _=>False) (q:=fun l H'=>Q (.ref l) H') (RR:=fun acc C=>compPost (model X.prog X.w) X.A X.xe none (EP X pins σ Q) acc C) hc hsc hN ok hsub hall hg ht he I2 T st2 f2 hq (fun _ _ _ _ _ z=>z.elim) fun C l s4 H3 m I4 hn fC q4=>?_
 obtain ⟨a0,a1,_,a3,a4,a5⟩:=fC
 exact ⟨m,hn,fun h' sb=>⟨.ref l,H3,I4.turned (t':=s4.toks) (fun b o hb e=>(sb.2 b hb).trans e) a0 a1 a3 a4 a5,rfl,q4⟩⟩
theorem IM {i:Nat} {y:Str} {py sp:Pos} (hnd:X.N.Nodup) (hiy:X.N[i]?=some y) (hy:X.env.scope.names.lookup y=some .local) (hc:X.calm=true) (hsc:X.env.scope=esc) (hN:X.N=N) (ok:CompOk sc esc N fn ix) (hi:PI X tg src wi)
  (hg:∀ s2 H2 cl C fp,PG (Be X (tn++fn) sc s2 H2 cl C fp) tg g)
  (ht:∀ s2 H2 cl C fp,PTs (Be X (tn++fn) sc s2 H2 cl C fp) tests tc)
  (he:∀ s2 H2 cl C fp,PE (Be X (tn++fn) sc s2 H2 cl C fp) elt te)
  (hsw:swapsWith (.ListComp elt [⟨tg,src,tests,0⟩] sc cp) (some (.Name y py)) sp.line X.env=pure true:=by rfl)
  (hs:∀ x,foldedSetIterable src X.env x=pure x:=by intro _;rfl) :
  PS X (.Assign [.Name y py] (.ListComp elt [⟨tg,src,tests,0⟩] sc cp) sp) (fun D σ H=>Ij wi tn.length ix g tc te σ H fun v H'=>D.nx (σ.set i (some v)) H'):=by
 intro pins s σ H D I h
 rw[exec_Assign_Name_used _ _ _ _ hsw]
 obtain ⟨cl,hcl,hsub,hall⟩:=Jf (sc:=sc) (ev:=X.env) fun x hx hf=>I.ok.has x.1 (by have z:=ok.frees x hx hf;rw[<-hsc] at z;exact z)
 refine wpAny_bind (wpAny_standAt (wpAny_bind ?_))
 show wpAny _ X.A (do let _ <-comprehension (.ListComp elt [⟨tg,src,tests,0⟩] sc cp) sc X.env _ (newList []) false (eval src X.env) (some (assign (.Name y py) X.env))) _ _ s
 refine wpAny_bind (wpAny_mono (wpAny_comprehension_free (use:=some (assign (.Name y py) X.env)) (Q:=fun _ s'=>SP X pins D .next s') rfl hs hcl ok.kind ok.locs
  (thn (hi pins s σ H _ I h) fun xv s1 h1=>thn h1 fun itv s2 h2=>?_)) (fun _ s' hq=>wpAny_pure (wpAny_pure hq)) fun _ _ e=>e)
 obtain ⟨it,fp,tu,J,H2,e,I2,T,st2,f2,hq⟩:=h2
 subst e
 refine KN (xe:=fun _ _ _ _ _ _ _=>False) (q:=fun l H'=>D.nx (σ.set i (some (.ref l))) H') (RR:=fun acc C=>compPost (model X.prog X.w) X.A X.xe (some (assign (.Name y py) X.env)) (fun _ s'=>SP X pins D .next s') acc C) hc hsc hN ok hsub hall hg ht he I2 T st2 f2 hq (fun _ _ _ _ _ z=>z.elim) fun C l s4 H3 m I4 hn fC q4=>?_
 obtain ⟨a0,a1,_,a3,a4,a5⟩:=fC
 refine wpAny_assign_Name (JV I4 hnd hiy (.inl hy) (v:=.ref l) rfl (fun s5 I5 hh_=>?_) (.inr hy))
 obtain ⟨a,sb,ha⟩:=hh_
 have hCa:C≠a:=by
  rcases ha with z | z
  ·rw[z];exact a1
  ·exact Ne.symm (a4 y a z)
 refine ⟨m,hn.sameBut sb hCa,fun h' sb'=>⟨_,H3,I5.turned (t':=s5.toks) (fun b o hb e=>(sb'.2 b hb).trans e) a0 a1 a3 a4 a5,q4⟩⟩
end
theorem Kf {J:It} {g:TG} {tc:TT} {te:TE} {l:Addr} {q:Hp->Prop} {σ:St} {H:Hp} (n:Nat) (Pv:Nat->St->Hp->Prop) (h0:Pv 0 σ H) (hgo:∀ i σ H,i<n->Pv i σ H->J.go i H) (hstop:∀ σ H,Pv n σ H->J.stop n H)
  (hs:∀ i x σ H H',i<n->Pv i σ H->J.yld i H x H'->g x σ H' fun σ2 H2=>tc σ2 H2 fun b H3=>
   if b=true then te σ2 H3 fun v H4=>∃ xs,H4 l=some (.lst xs)/\xs.length<sizeLine/\Pv (i+1) σ2 (upd H4 l (.lst (xs++[v]))) else Pv (i+1) σ2 H3)
  (hd:∀ σ H,Pv n σ H->q H):IR J g tc te l q σ H:=by
 refine ⟨fun i m σ H=>m=n - i/\i<=n/\Pv i σ H,⟨n,by simp,Nat.zero_le _,h0⟩,?_⟩
 rintro i m σ H ⟨rfl,hi,p⟩
 by_cases hlt:i<n
 ·exact .inr ⟨hgo i σ H hlt p,Pv (i+1),fun σ' H' p'=>⟨n - (i+1),by lia,rfl,hlt,p'⟩,fun x H' y=>hs i x σ H H' hlt p y⟩
 ·have e:i=n:=by lia
  subst e
  exact .inl ⟨hstop σ H p,hd σ H p⟩
theorem JH {J:It} {g:TG} {tb:TS} {D:Ends} {σ:St} {H:Hp} (n:Nat) (Pv:Nat->St->Hp->Prop) (h0:Pv 0 σ H) (hgo:∀ i σ H,i<n->Pv i σ H->J.go i H) (hstop:∀ σ H,Pv n σ H->J.stop n H)
  (hs:∀ i x σ H H',i<n->Pv i σ H->J.yld i H x H'->g x σ H' fun σ2 H2=>tb {D with nx:=Pv (i+1),ct:=Pv (i+1),bk:=D.nx} σ2 H2) (hd:∀ σ H,Pv n σ H->D.nx σ H) :
  ∃ W:Nat->Nat->St->Hp->Prop,(∃ m,W 0 m σ H)/\∀ i m σ H,W i m σ H ->
   (J.stop i H/\D.nx σ H)\/(J.go i H/\∃ N:St->Hp->Prop,(∀ σ' H',N σ' H'->∃ m',m'<m/\W (i+1) m' σ' H')/\∀ x H',J.yld i H x H'->g x σ H' fun σ2 H2=>tb {D with nx:=N,ct:=N,bk:=D.nx} σ2 H2):=by
 refine ⟨fun i m σ H=>m=n - i/\i<=n/\Pv i σ H,⟨n,by simp,Nat.zero_le _,h0⟩,?_⟩
 rintro i m σ H ⟨rfl,hi,p⟩
 by_cases hlt:i<n
 ·exact .inr ⟨hgo i σ H hlt p,Pv (i+1),fun σ' H' p'=>⟨n - (i+1),by lia,rfl,hlt,p'⟩,fun x H' y=>hs i x σ H H' hlt p y⟩
 ·have e:i=n:=by lia
  subst e
  exact .inl ⟨hstop σ H p,hd σ H p⟩
section
variable {X:Cx} {pins:List (Addr×Obj)} {σ:St} {H:Hp} {s:Shared} {g:Heap}
theorem Inv.turnL {ch:List Addr} {t':Nat} (I:Inv X pins σ H s) (hf:∀ b∈ch,Bu X pins H b) (k:∀ b o,b∉ch->s.heap.get? b=some o->g.get? b=some o):Inv X pins σ H {s with heap:=g,toks:=t'}:=by
 refine I.step (g':=s.gens) (d':=s.drawn) (ch:=ch) (fun b hb=>?_) (fun b o _ _ hc e _=>k b o hc e) (fun b o _ _ hc e _=>⟨o.slots,k b o hc e⟩) (fun _ _ _ _ n=>n)
  (fun b o hc e=>⟨o,k b o hc e⟩) (fun _ _ e=>e) (fun _ _ _ e=>e) (fun b ps e=>⟨#[],by rw[e];simp⟩) (fun m hm=>?_) (fun b u e=>?_) I.bare
 ·obtain ⟨_,a1,_,a3,a4,a5⟩:=hf b hb
  exact ⟨a3,a1,a4,a5⟩
 ·obtain ⟨o,es,ep,ho,r⟩:=hm
  exact ⟨o,es,ep,k _ o (fun z=>(hf _ z).2.1 rfl) ho,r⟩
 ·refine (I.hok b u e).stay (fun c v hc q=>k c v (fun z=>?_) q) (fun _ q=>q) fun _ _ q=>q
  have n:=(hf c z).1
  rcases hc with y | y
  ·rw[y,e] at n;cases n
  ·rw[n] at y;cases y
theorem Inv.turnLay {ch:List Addr} {T:Addr} {o:HO} {t':Nat} (I:Inv X pins σ H s) (hf:∀ b∈ch,Bu X pins H b) (k:∀ b u,b∉ch->s.heap.get? b=some u->g.get? b=some u) (hT:s.heap.objs.size<=T)
  (new:ObjOk X.prog X.w (upd H T o) g T o):Inv X pins σ (upd H T o) {s with heap:=g,toks:=t'}:=by
 have hn:H T=none:=I.hok.fresh hT
 have lt:∀ b u,s.heap.get? b=some u->b≠T:=fun b u e=>Nat.ne_of_lt (Nat.lt_of_lt_of_le (Heap.lt_size e) hT)
 refine I.step (g':=s.gens) (d':=s.drawn) (ch:=ch) (fun b hb=>?_) (fun b o _ _ hc e _=>k b o hc e) (fun b o _ _ hc e _=>⟨o.slots,k b o hc e⟩) (fun b u _ e n=>by rw[AO (lt b u e)];exact n)
  (fun b o hc e=>⟨o,k b o hc e⟩) (fun b xs e=>by rw[AO (A0 e hn)];exact e) (fun b _ xs e=>by rw[AO (A0 e hn)];exact e) (fun b ps e=>⟨#[],by rw[AO (A0 e hn),e];simp⟩) (fun m hm=>?_) (fun b u e=>?_) I.bare
 ·obtain ⟨_,a1,_,a3,a4,a5⟩:=hf b hb
  exact ⟨a3,a1,a4,a5⟩
 ·obtain ⟨o,es,ep,ho,r⟩:=hm
  exact ⟨o,es,ep,k _ o (fun z=>(hf _ z).2.1 rfl) ho,r⟩
 ·by_cases hb:b=T
  ·subst hb;rw[An] at e;cases e;exact new
  ·rw[AO hb] at e
   refine (I.hok b u e).stay (fun c v hc q=>k c v (fun z=>?_) q) (fun c q=>by rw[AO (A0 q hn)];exact q) fun c xs q=>by rw[AO (A0 q hn)];exact q
   have n:=(hf c z).1
   rcases hc with y | y
   ·rw[y,e] at n;cases n
   ·rw[n] at y;cases y
theorem K5:(2:Nat)<=sizeLine:=by decide
theorem PI.or {tg src:Expr} {w1 w2:TI} (a:PI X tg src w1) (b:PI X tg src w2):PI X tg src (fun σ H R=>w1 σ H R\/w2 σ H R):=fun pins s σ H R I h=>
 h.elim (fun z=>a pins s σ H R I z) fun z=>b pins s σ H R I z
end
section
variable {prog:Program} {w:World} {A:Around} {E:Value->Shared->Prop} {s:Shared}
theorem TC {z TI TO i1 i2:Addr} {x y a b:Value} {P1 P2:Heap->Prop} {Q:Value->Shared->Prop} (dO:TO≠z) (d1:i1≠z) (d2:i2≠z) (dO1:TO≠i1) (dO2:TO≠i2) (d12:i1≠i2)
  (hz:IsZip s.heap z TI TO .none) (hTI:IsPair s.heap TI (.ref i1) (.ref i2)) (hTO:IsPair s.heap TO a b)
  (n1:∀ (g:Heap) (Q:Value->Shared->Prop) (E:Value->Shared->Prop),(∀ c o,c≠z->s.heap.get? c=some o->g.get? c=some o)->(∀ g',P1 g'->Heap.SameBut i1 g g'->Q x {s with heap:=g'}) ->
   wpAny (model prog w) A (Builtin.SmallTypes.nextOf (.ref i1)) Q E {s with heap:=g})
  (n2:∀ (g:Heap) (Q:Value->Shared->Prop) (E:Value->Shared->Prop),(∀ c o,c≠z->c≠TO->c≠i1->s.heap.get? c=some o->g.get? c=some o)->(∀ g',P2 g'->Heap.SameBut i2 g g'->Q y {s with heap:=g'}) ->
   wpAny (model prog w) A (Builtin.SmallTypes.nextOf (.ref i2)) Q E {s with heap:=g})
  (k1:∀ g g':Heap,P1 g->(∀ o,g.get? i1=some o->g'.get? i1=some o)->P1 g') (k2:∀ g g':Heap,P2 g->(∀ o,g.get? i2=some o->g'.get? i2=some o)->P2 g')
  (hQ:∀ g,IsZip g z TI TO (rawInt s.heap.objs.size)->IsPair g TO x y->P1 g->P2 g->IsPair g s.heap.objs.size x y ->
   (∀ c o,c≠z->c≠TO->c≠i1->c≠i2->s.heap.get? c=some o->g.get? c=some o)->Q (.ref s.heap.objs.size) {s with heap:=g}) :
  wpAny (model prog w) A (Builtin.«zip.__next__» ⟨[.ref z],[]⟩) (fun fin s'=>∃ v,fin=.done (.ret v)/\Q v s') E s:=by
 show wpAny _ _ (field (.ref z) 2 >>= _) _ _ _
 refine wpAny_bind (wpAny_field hz rfl (x:=.bool false) rfl ?_)
 show wpAny _ _ (field (.ref z) 3 >>= _) _ _ _
 refine wpAny_bind (wpAny_field hz rfl (x:=.ref TI) rfl (wpAny_bind (wpAny_seqItems hTI rfl ?_)))
 show wpAny _ _ (Builtin.SmallTypes.ownedTupleIsFree (.ref z) >>= _) _ _ _
 refine wpAny_bind ?_
 unfold Builtin.SmallTypes.ownedTupleIsFree
 refine wpAny_bind (wpAny_field hz rfl (x:=.none) rfl (wpAny_pure ?_))
 simp only[if_true]
 refine wpAny_bind (wpAny_rule (wpAny_bind (wpAny_field hz rfl (x:=.ref TO) rfl ?_)))
 refine wpAny_bind (wpAny_setField_rec hz (by simp) fun g1 z1 e1=>wpAny_bind ?_)
 replace z1:IsZip g1 z TI TO .ellipsis:=z1
 replace e1:Heap.SameBut z s.heap g1:=e1
 simp only[List.zipIdx_cons,List.zipIdx_nil,List.forIn_cons,List.forIn_nil]
 refine wpAny_bind (wpAny_bind (wpAny_onRaise ?_))
 show wpAny _ _ (Builtin.SmallTypes.nextOf (.ref i1) >>= _) _ _ {s with heap:=g1}
 refine wpAny_bind (n1 g1 _ _ (fun c o c1 e=>e1.extBut _ _ c1 e) fun g2 p2 e2=>wpAny_pure ?_)
 have o2:IsPair g2 TO a b:=e2.extBut _ _ dO1 (e1.extBut _ _ dO hTO)
 refine wpAny_bind (wpAny_seqItems o2 rfl (wpAny_bind (wpAny_updateSeq_pair o2 fun g3 o3 e3=>?_)))
 replace o3:IsPair g3 TO x b:=o3
 replace e3:Heap.SameBut TO g2 g3:=e3
 refine wpAny_bind (wpAny_letGo (wpAny_pure ?_))
 refine wpAny_bind (wpAny_bind (wpAny_onRaise ?_))
 show wpAny _ _ (Builtin.SmallTypes.nextOf (.ref i2) >>= _) _ _ {s with heap:=g3}
 refine wpAny_bind (n2 g3 _ _ (fun c o c1 c2 c3 e=>e3.extBut _ _ c2 (e2.extBut _ _ c3 (e1.extBut _ _ c1 e))) fun g4 p4 e4=>wpAny_pure ?_)
 have o4:IsPair g4 TO x b:=e4.extBut _ _ dO2 o3
 refine wpAny_bind (wpAny_seqItems o4 rfl (wpAny_bind (wpAny_updateSeq_pair o4 fun g5 o5 e5=>?_)))
 replace o5:IsPair g5 TO x y:=o5
 replace e5:Heap.SameBut TO g4 g5:=e5
 refine wpAny_bind (wpAny_letGo (wpAny_pure (wpAny_pure ?_)))
 refine wpAny_bind (wpAny_seqItems o5 rfl (wpAny_bind (wpAny_newTuple ?_)))
 have sz:g5.objs.size=s.heap.objs.size:=by rw[e5.1,e4.1,e3.1,e2.1,e1.1]
 have z5:IsZip g5 z TI TO .ellipsis:=e5.extBut _ _ (Ne.symm dO) (e4.extBut _ _ (Ne.symm d2) (e3.extBut _ _ (Ne.symm dO) (e2.extBut _ _ (Ne.symm d1) z1)))
 have k5:∀ c o,c≠z->c≠TO->c≠i1->c≠i2->s.heap.get? c=some o->g5.get? c=some o:=fun c o c1 c2 c3 c4 e=>
  e5.extBut _ _ c2 (e4.extBut _ _ c4 (e3.extBut _ _ c2 (e2.extBut _ _ c3 (e1.extBut _ _ c1 e))))
 have p5:P1 g5:=k1 g2 g5 p2 fun o e=>e5.extBut _ _ (Ne.symm dO1) (e4.extBut _ _ d12 (e3.extBut _ _ (Ne.symm dO1) e))
 have q5:P2 g5:=k2 g4 g5 p4 fun o e=>e5.extBut _ _ (Ne.symm dO2) e
 have zl:z<g5.objs.size:=Heap.lt_size z5
 show wpAny _ _ (Builtin.SmallTypes.ownedTupleHandOut (.ref z) (.ref g5.objs.size) >>= _) _ _ _
 refine wpAny_bind ?_
 unfold Builtin.SmallTypes.ownedTupleHandOut
 have z6:IsZip (g5.push {cls:=.type "tuple",data:=.seq #[x,y]}) z TI TO .ellipsis:=Heap.get?_push_of_some _ z5
 refine wpAny_bind (wpAny_setField_rec z6 (by simp) fun g7 z7 e7=>?_)
 replace z7:IsZip g7 z TI TO (rawInt g5.objs.size):=z7
 refine wpAny_setField_rec z7 (by simp) fun g8 z8 e8=>?_
 replace z8:IsZip g8 z TI TO (rawInt g5.objs.size):=z8
 have up:∀ c o,c≠z->g5.get? c=some o->g8.get? c=some o:=fun c o c1 e=>e8.extBut _ _ c1 (e7.extBut _ _ c1 (Heap.get?_push_of_some _ e))
 have t8:IsPair g8 g5.objs.size x y:=e8.extBut _ _ (Nat.ne_of_gt zl) (e7.extBut _ _ (Nat.ne_of_gt zl) (Heap.get?_push_size _ rfl))
 rw[sz] at z8 t8
 refine wpAny_pure ⟨_,rfl,?_⟩
 show Q (.ref g5.objs.size) _
 rw[sz]
 exact hQ g8 z8 (up _ _ dO o5) (k1 g5 g8 p5 fun o e=>up _ o d1 e) (k2 g5 g8 q5 fun o e=>up _ o d2 e) t8 fun c o c1 c2 c3 c4 e=>up c o c1 (k5 c o c1 c2 c3 c4 e)
theorem Mx {z TI TO i1 i2:Addr} {a b:Value} {Q:Fin->Shared->Prop} (d1:i1≠z)
  (hz:IsZip s.heap z TI TO .none) (hTI:IsPair s.heap TI (.ref i1) (.ref i2)) (hTO:IsPair s.heap TO a b)
  (n1:∀ (g:Heap) (Q:Value->Shared->Prop) (E:Value->Shared->Prop),(∀ c o,c≠z->s.heap.get? c=some o->g.get? c=some o) ->
   (∀ g' e,Heap.ExtBut i1 g g'->(∃ o,g'.get? e=some o/\o.cls=.type "StopIteration")->E (.ref e) {s with heap:=g'})->wpAny (model prog w) A (Builtin.SmallTypes.nextOf (.ref i1)) Q E {s with heap:=g})
  (hE:∀ g e,(∀ c o,c≠z->c≠i1->s.heap.get? c=some o->g.get? c=some o)->(∃ o,g.get? e=some o/\o.cls=.type "StopIteration")->E (.ref e) {s with heap:=g}) :
  wpAny (model prog w) A (Builtin.«zip.__next__» ⟨[.ref z],[]⟩) Q E s:=by
 show wpAny _ _ (field (.ref z) 2 >>= _) _ _ _
 refine wpAny_bind (wpAny_field hz rfl (x:=.bool false) rfl ?_)
 show wpAny _ _ (field (.ref z) 3 >>= _) _ _ _
 refine wpAny_bind (wpAny_field hz rfl (x:=.ref TI) rfl (wpAny_bind (wpAny_seqItems hTI rfl ?_)))
 show wpAny _ _ (Builtin.SmallTypes.ownedTupleIsFree (.ref z) >>= _) _ _ _
 refine wpAny_bind ?_
 unfold Builtin.SmallTypes.ownedTupleIsFree
 refine wpAny_bind (wpAny_field hz rfl (x:=.none) rfl (wpAny_pure ?_))
 simp only[if_true]
 refine wpAny_bind (wpAny_rule (wpAny_bind (wpAny_field hz rfl (x:=.ref TO) rfl ?_)))
 refine wpAny_bind (wpAny_setField_rec hz (by simp) fun g1 z1 e1=>wpAny_bind ?_)
 replace z1:IsZip g1 z TI TO .ellipsis:=z1
 replace e1:Heap.SameBut z s.heap g1:=e1
 simp only[List.zipIdx_cons,List.zipIdx_nil,List.forIn_cons,List.forIn_nil]
 refine wpAny_bind (wpAny_bind (wpAny_onRaise ?_))
 show wpAny _ _ (Builtin.SmallTypes.nextOf (.ref i1) >>= _) _ _ {s with heap:=g1}
 refine wpAny_bind (n1 g1 _ _ (fun c o c1 e=>e1.extBut _ _ c1 e) fun g2 e e2 he=>?_)
 obtain ⟨oe,hoe,hce⟩:=he
 have z2:IsZip g2 z TI TO .ellipsis:=e2 _ _ (Ne.symm d1) z1
 have hez:e≠z:=fun q=>by subst q;rw[z2] at hoe;cases hoe;simp at hce
 exact wpAny_setField_rec z2 (by simp) fun g3 _ e3=>hE g3 e (fun c o c1 c3 q=>e3.extBut _ _ c1 (e2 _ _ c3 (e1.extBut _ _ c1 q))) ⟨oe,e3.extBut _ _ hez hoe,hce⟩
theorem Rl {it t:Addr} {i:Nat} {items:Array Value} {x:Value} {Q:Value->Shared->Prop} (hit:s.heap.IsTupleIter it t i) (ht:s.heap.IsTuple t items) (hx:items[i]?=some x)
  (hQ:∀ g,g.IsTupleIter it t (i+1)->Heap.SameBut it s.heap g->Q x {s with heap:=g}):wpAny (model prog w) A (Builtin.SmallTypes.nextOf (.ref it)) Q E s:=by
 obtain ⟨o,ho,hc,hd⟩:=id hit
 obtain ⟨ol,hol,_,nl,hdl⟩:=id ht
 unfold Builtin.SmallTypes.nextOf
 refine wpAny_bind (wpAny_callSpecial?_slot (name:=Str.ofString "__next__") hit.typeIs slot_tupleiter_next (wpAny_call_entry slot_tupleiter_next hit.typeIs entry_tupleiter_next ?_ (args_tupleiter_next _)))
 show wpAny _ _ (field (.ref it) 0 >>= _) _ _ s
 refine wpAny_bind (wpAny_field ho hd (x:=.ref t) rfl ?_)
 show wpAny _ _ (if (Value.ref t == Value.none)=true then _ else _) _ _ s
 rw[if_neg (show ¬((Value.ref t == Value.none)=true) from Bool.false_ne_true)]
 show wpAny _ _ (field (.ref it) 1 >>= _) _ _ s
 refine wpAny_bind (wpAny_field ho hd (x:=.int i 0) rfl ?_)
 show wpAny _ _ (seqItems? (.ref t) >>= _) _ _ s
 refine wpAny_bind (wpAny_seqItems hol hdl ?_)
 simp only[Int.toNat_natCast,hx]
 refine wpAny_bind (wpAny_setField ho hd (by simp) (wpAny_pure ⟨x,rfl,wpAny_pure (hQ _ ?_ (Heap.SameBut.update ..))⟩))
 exact ⟨_,Heap.get?_update_self _ ho (Obj.isFreed_of_fields (Obj.data_mapFields hd _)),(Obj.cls_mapFields ..).trans hc,by rw[Obj.data_mapFields hd];simp[rawInt]⟩
theorem SD {it t:Addr} {i:Nat} {items:Array Value} {Q:Value->Shared->Prop} (hh:A.handled=none) (hit:s.heap.IsTupleIter it t i) (ht:s.heap.IsTuple t items) (hx:items[i]?=none)
  (hE:∀ g e,Heap.ExtBut it s.heap g->(∃ o,g.get? e=some o/\o.cls=.type "StopIteration")->E (.ref e) {s with heap:=g}):wpAny (model prog w) A (Builtin.SmallTypes.nextOf (.ref it)) Q E s:=by
 obtain ⟨o,ho,hc,hd⟩:=id hit
 obtain ⟨ol,hol,_,nl,hdl⟩:=id ht
 unfold Builtin.SmallTypes.nextOf
 refine wpAny_bind (wpAny_callSpecial?_slot (name:=Str.ofString "__next__") hit.typeIs slot_tupleiter_next (wpAny_call_entry slot_tupleiter_next hit.typeIs entry_tupleiter_next ?_ (args_tupleiter_next _)))
 show wpAny _ _ (field (.ref it) 0 >>= _) _ _ s
 refine wpAny_bind (wpAny_field ho hd (x:=.ref t) rfl ?_)
 show wpAny _ _ (if (Value.ref t == Value.none)=true then _ else _) _ _ s
 rw[if_neg (show ¬((Value.ref t == Value.none)=true) from Bool.false_ne_true)]
 show wpAny _ _ (field (.ref it) 1 >>= _) _ _ s
 refine wpAny_bind (wpAny_field ho hd (x:=.int i 0) rfl ?_)
 show wpAny _ _ (seqItems? (.ref t) >>= _) _ _ s
 refine wpAny_bind (wpAny_seqItems hol hdl ?_)
 simp only[Int.toNat_natCast,hx]
 refine wpAny_bind (wpAny_rule (wpAny_bind (wpAny_setField ho hd (by simp) ?_)))
 show wpAny _ _ (newExc (.type "StopIteration") [] >>= _) _ _ _
 refine wpAny_bind ?_
 simp only[newExc,newTuple]
 refine wpAny_bind (wpAny_newObj_type ?_ (by size_fits))
 refine wpAny_bind (m:=firstArgMember _ _) (wpAny_of_eq (a:=Value.none) (by first | rfl | (simp only[firstArgMember];rfl)) (wpAny_newObj_type ?_ (by size_fits)))
 simp only[raiseNew]
 refine wpAny_bind (wpAny_handled ?_)
 first | rw[show A.in1.handled=none from hh] | rw[hh]
 exact wpAny_bind (wpAny_pure (wpAny_throw (hE _ _ (((Heap.SameBut.update ..).extBut.push _).push _) ⟨_,Heap.get?_push_size _ rfl,rfl⟩)))
end
section
variable {prog:Program} {w:World} {A:Around} {E:Value->Shared->Prop} {s:Shared}
theorem N3 {z TI TO i1 i2:Addr} {x y a b:Value} {P1 P2:Heap->Prop} {Q:Option Value->Shared->Prop} (dO:TO≠z) (d1:i1≠z) (d2:i2≠z) (dO1:TO≠i1) (dO2:TO≠i2) (d12:i1≠i2)
  (hz:IsZip s.heap z TI TO .none) (hTI:IsPair s.heap TI (.ref i1) (.ref i2)) (hTO:IsPair s.heap TO a b)
  (n1:∀ (A:Around) (g:Heap) (Q:Value->Shared->Prop) (E:Value->Shared->Prop),(∀ c o,c≠z->s.heap.get? c=some o->g.get? c=some o)->(∀ g',P1 g'->Heap.SameBut i1 g g'->Q x {s with heap:=g'}) ->
   wpAny (model prog w) A (Builtin.SmallTypes.nextOf (.ref i1)) Q E {s with heap:=g})
  (n2:∀ (A:Around) (g:Heap) (Q:Value->Shared->Prop) (E:Value->Shared->Prop),(∀ c o,c≠z->c≠TO->c≠i1->s.heap.get? c=some o->g.get? c=some o)->(∀ g',P2 g'->Heap.SameBut i2 g g'->Q y {s with heap:=g'}) ->
   wpAny (model prog w) A (Builtin.SmallTypes.nextOf (.ref i2)) Q E {s with heap:=g})
  (k1:∀ g g':Heap,P1 g->(∀ o,g.get? i1=some o->g'.get? i1=some o)->P1 g') (k2:∀ g g':Heap,P2 g->(∀ o,g.get? i2=some o->g'.get? i2=some o)->P2 g')
  (hQ:∀ g,IsZip g z TI TO (rawInt s.heap.objs.size)->IsPair g TO x y->P1 g->P2 g->IsPair g s.heap.objs.size x y ->
   (∀ c o,c≠z->c≠TO->c≠i1->c≠i2->s.heap.get? c=some o->g.get? c=some o)->Q (some (.ref s.heap.objs.size)) {s with heap:=g}):wpAny (model prog w) A (pyNext (.ref z)) Q E s:=by
 have hT:s.TypeIs (.ref z) "zip":=⟨_,hz,rfl⟩
 unfold pyNext
 exact wpAny_bind (wpAny_attempt (wpAny_callSpecial?_slot (name:=Str.ofString "__next__") hT F.slot_zip_next (wpAny_call_entry F.slot_zip_next hT F.entry_zip_next
  (TC dO d1 d2 dO1 dO2 d12 hz hTI hTO (fun g Q E=>n1 _ g Q E) (fun g Q E=>n2 _ g Q E) k1 k2 fun g a1 a2 a3 a4 a5 a6=>wpAny_pure (hQ g a1 a2 a3 a4 a5 a6)) (F.args_zip_next_1 _))))
theorem PL {z TI TO i1 i2:Addr} {a b:Value} {Q:Option Value->Shared->Prop} (hh:A.handled=none) (d1:i1≠z)
  (hz:IsZip s.heap z TI TO .none) (hTI:IsPair s.heap TI (.ref i1) (.ref i2)) (hTO:IsPair s.heap TO a b)
  (n1:∀ (A:Around) (g:Heap) (Q:Value->Shared->Prop) (E:Value->Shared->Prop),A.handled=none->(∀ c o,c≠z->s.heap.get? c=some o->g.get? c=some o) ->
   (∀ g' e,Heap.ExtBut i1 g g'->(∃ o,g'.get? e=some o/\o.cls=.type "StopIteration")->E (.ref e) {s with heap:=g'})->wpAny (model prog w) A (Builtin.SmallTypes.nextOf (.ref i1)) Q E {s with heap:=g})
  (hQ:∀ g,(∀ c o,c≠z->c≠i1->s.heap.get? c=some o->g.get? c=some o)->Q none {s with heap:=g}):wpAny (model prog w) A (pyNext (.ref z)) Q E s:=by
 have hT:s.TypeIs (.ref z) "zip":=⟨_,hz,rfl⟩
 unfold pyNext
 refine wpAny_bind (wpAny_attempt (wpAny_callSpecial?_slot (name:=Str.ofString "__next__") hT F.slot_zip_next (wpAny_call_entry F.slot_zip_next hT F.entry_zip_next
  (Mx d1 hz hTI hTO (fun g Q E k e=>n1 _ g Q E hh k e) fun g e kk he=>?_) (F.args_zip_next_1 _))))
 obtain ⟨o,ho,hc⟩:=he
 exact wpAny_bind (wpAny_isInstance (T:="StopIteration") (b:=true) ⟨o,ho,hc⟩ isSubtype_stop (wpAny_pure (hQ _ kk)))
abbrev zt1 (h:Heap) (l1:Addr):Heap:=h.push {cls:=.type "tuple_iterator",data:=.fields #[.ref l1,.int 0 0]}
abbrev zt2 (h:Heap) (l1 l2:Addr):Heap:=(zt1 h l1).push {cls:=.type "tuple_iterator",data:=.fields #[.ref l2,.int 0 0]}
abbrev zt3 (h:Heap) (l1 l2:Addr):Heap:=(zt2 h l1 l2).push {cls:=.type "tuple",data:=.seq #[.ref h.objs.size,.ref (zt1 h l1).objs.size]}
abbrev zt4 (h:Heap) (l1 l2:Addr):Heap:=(zt3 h l1 l2).push {cls:=.type "tuple",data:=.seq #[.none,.none]}
abbrev zt5 (h:Heap) (l1 l2:Addr):Heap:=(zt4 h l1 l2).push {cls:=.type "zip",data:=.fields #[.none,.bool false,.bool false,.ref (zt2 h l1 l2).objs.size,.ref (zt3 h l1 l2).objs.size]}
theorem RT {h:Heap} {a:Addr} {items:Array Value} (x:h.IsTuple a items) (o:Obj):(h.push o).IsTuple a items:=let ⟨p,ho,r⟩:=x;⟨p,Heap.get?_push_of_some _ ho,r⟩
theorem Sf (l1 l2:Addr) (xs ys:Array Value) :
  Meets (Builtin.«zip.__new__» ⟨[.type "zip",.ref l1,.ref l2],[]⟩) (fun _ R s=>s.heap.IsTuple l1 xs/\s.heap.IsTuple l2 ys/\R (.ok (.ret (.ref (zt4 s.heap l1 l2).objs.size))) {s with heap:=zt5 s.heap l1 l2}):=
 .of_wp fun prog w A R s h=>by
  obtain ⟨hp,g,d,tk,os⟩:=s;obtain ⟨hl1,hl2,h⟩:=h
  have hsub:=sub_zip
  have hA:Heap.IsTuple (Shared.heap ⟨hp,g,d,tk,os⟩) l1 xs:=hl1
  have hB:Heap.IsTuple (Shared.heap ⟨hp.push {cls:=.type "tuple_iterator",data:=.fields #[.ref l1,.int 0 0]},g,d,tk,os⟩) l2 ys:=RT hl2 _
  wp_walk using wpAny_pyIter_tuple hA,wpAny_pyIter_tuple hB
  exact ⟨_,rfl,h⟩
theorem RL {l1 l2:Addr} {xs ys:Array Value} {Q:Value->Shared->Prop} (hl1:s.heap.IsTuple l1 xs) (hl2:s.heap.IsTuple l2 ys)
  (h:∀ g,IsZip g (s.heap.objs.size+4) (s.heap.objs.size+2) (s.heap.objs.size+3) .none->IsPair g (s.heap.objs.size+2) (.ref s.heap.objs.size) (.ref (s.heap.objs.size+1)) ->
   IsPair g (s.heap.objs.size+3) .none .none->g.IsTupleIter s.heap.objs.size l1 0->g.IsTupleIter (s.heap.objs.size+1) l2 0->(∀ c o,s.heap.get? c=some o->g.get? c=some o)->Q (.ref (s.heap.objs.size+4)) {s with heap:=g}) :
  wpAny (model prog w) A (call (.type "zip") [.ref l1,.ref l2]) Q E s:=by
 refine callType_new F.called_zip (by decide) (F.typeCall_zip_2 _ _) (F.newCall_zip_2 _ _) (fun obj=>F.args_object_init_3 obj _ _) F.entry_zip_new (Sf l1 l2 xs ys) ⟨hl1,hl2,?_⟩
 have w1:(zt1 s.heap l1).objs.size=s.heap.objs.size+1:=Heap.size_push ..
 have w2:(zt2 s.heap l1 l2).objs.size=s.heap.objs.size+2:=by rw[Heap.size_push,w1]
 have w3:(zt3 s.heap l1 l2).objs.size=s.heap.objs.size+3:=by rw[Heap.size_push,w2]
 have w4:(zt4 s.heap l1 l2).objs.size=s.heap.objs.size+4:=by rw[Heap.size_push,w3]
 have v5:(zt5 s.heap l1 l2).get? (zt4 s.heap l1 l2).objs.size=some _:=Heap.get?_push_size _ rfl
 have v4:(zt5 s.heap l1 l2).get? (zt3 s.heap l1 l2).objs.size=some _:=Heap.get?_push_of_some _ (Heap.get?_push_size _ rfl)
 have v3:(zt5 s.heap l1 l2).get? (zt2 s.heap l1 l2).objs.size=some _:=Heap.get?_push_of_some _ (Heap.get?_push_of_some _ (Heap.get?_push_size _ rfl))
 have v2:(zt5 s.heap l1 l2).get? (zt1 s.heap l1).objs.size=some _:=Heap.get?_push_of_some _ (Heap.get?_push_of_some _ (Heap.get?_push_of_some _ (Heap.get?_push_size _ rfl)))
 have v1:(zt5 s.heap l1 l2).get? s.heap.objs.size=some _:=Heap.get?_push_of_some _ (Heap.get?_push_of_some _ (Heap.get?_push_of_some _ (Heap.get?_push_of_some _ (Heap.get?_push_size _ rfl))))
 show _/\_
 rw[w2,w3,w4] at v5
 rw[w1,w2] at v3
 rw[w3] at v4
 rw[w1] at v2
 rw[w4]
 exact ⟨⟨_,v5,rfl⟩,h _ v5 v3 v4 ⟨_,v1,rfl,rfl⟩ ⟨_,v2,rfl,rfl⟩ fun c o x=>Heap.get?_push_of_some _ (Heap.get?_push_of_some _ (Heap.get?_push_of_some _ (Heap.get?_push_of_some _ (Heap.get?_push_of_some _ x))))⟩
end
def Itz (c:List V->HO) (l1 l2:Addr):It:=
 ⟨fun i H=>∃ xs ys x y,H l1=some (c xs)/\H l2=some (c ys)/\xs[i]?=some x/\ys[i]?=some y,
  fun i H v H'=>∃ T x y,H T=none/\v=.ref T/\H'=upd H T (.tup [x,y])/\(∀ xs,H l1=some (c xs)->xs[i]?=some x)/\∀ ys,H l2=some (c ys)->ys[i]?=some y,
  fun i H=>∃ xs,H l1=some (c xs)/\xs.length<=i⟩
structure SeqK (P:Program) (w:World) (c:List V->HO) (IsS:Heap->Addr->Array Value->Prop) (IsI:Heap->Addr->Addr->Nat->Prop):Prop where
 inj:∀ xs ys,c xs=c ys->xs=ys
 rd:∀ {H:Hp} {h:Heap} {a:Addr} {xs:List V},HOk P w H h->H a=some (c xs)->∃ its:List Value,Vals xs its/\IsS h a its.toArray
 at_:∀ {h g:Heap} {a:Addr} {v:Array Value},IsS h a v->(∀ o,h.get? a=some o->g.get? a=some o)->IsS g a v
 iat:∀ {h g:Heap} {a l:Addr} {i:Nat},IsI h a l i->(∀ o,h.get? a=some o->g.get? a=some o)->IsI g a l i
 iob:∀ {h:Heap} {a l:Addr} {i:Nat},IsI h a l i->∃ o,h.get? a=some o/\∀ v,o.data≠.cell v
 nx:∀ {A:Around} {s:Shared} {E:Value->Shared->Prop} {Q:Value->Shared->Prop} {it l:Addr} {i:Nat} {its:Array Value} {x:Value},IsI s.heap it l i->IsS s.heap l its->its[i]?=some x ->
  (∀ g,IsI g it l (i+1)->Heap.SameBut it s.heap g->Q x {s with heap:=g})->wpAny (model P w) A (Builtin.SmallTypes.nextOf (.ref it)) Q E s
 nd:∀ {A:Around} {s:Shared} {E:Value->Shared->Prop} {Q:Value->Shared->Prop} {it l:Addr} {i:Nat} {its:Array Value},A.handled=none->IsI s.heap it l i->IsS s.heap l its->its[i]?=none ->
  (∀ g e,Heap.ExtBut it s.heap g->(∃ o,g.get? e=some o/\o.cls=.type "StopIteration")->E (.ref e) {s with heap:=g})->wpAny (model P w) A (Builtin.SmallTypes.nextOf (.ref it)) Q E s
theorem HX {P:Program} {w:World}:SeqK P w HO.lst Heap.IsList Heap.IsListIter where
 inj:=fun _ _ e=>by cases e;rfl
 rd:=fun {H h a xs} x e=>by
  obtain ⟨_,its,n,r,q⟩:=x a _ e
  exact ⟨its,r,_,q,rfl,n,rfl⟩
 at_:=fun x k=>x.at k
 iat:=fun x k=>x.at k
 iob:=fun x=>by
  obtain ⟨o,e,_,d⟩:=x
  exact ⟨o,e,fun v z=>by rw[d] at z;cases z⟩
 nx:=fun h1 h2 h3 h4=>wpAny_nextOf_list_item h1 h2 h3 h4
 nd:=fun h0 h1 h2 h3 h4=>wpAny_nextOf_list_end h0 h1 h2 h3 h4
theorem Hb {P:Program} {w:World}:SeqK P w HO.tup Heap.IsTuple Heap.IsTupleIter where
 inj:=fun _ _ e=>by cases e;rfl
 rd:=fun {H h a xs} x e=>by
  obtain ⟨_,its,r,q⟩:=x a _ e
  exact ⟨its,r,q⟩
 at_:=fun x k=>let ⟨o,ho,r⟩:=x;⟨o,k _ ho,r⟩
 iat:=fun x k=>x.at k
 iob:=fun x=>by
  obtain ⟨o,e,_,d⟩:=x
  exact ⟨o,e,fun v z=>by rw[d] at z;cases z⟩
 nx:=fun h1 h2 h3 h4=>Rl h1 h2 h3 h4
 nd:=fun h0 h1 h2 h3 h4=>SD h0 h1 h2 h3 h4
theorem MU {P:Program} {w:World} {K:PySem.W.Frag} {elts:List Expr} {k:Nat} {tp:Pos} {c:List V->HO} {IsS:Heap->Addr->Array Value->Prop} {IsI:Heap->Addr->Addr->Nat->Prop} (S:SeqK P w c IsS IsI) (l1 l2 n:Addr) :
  Turn P w K (.Tuple elts k tp) (Itz c l1 l2) [n+4,n+2,n+3,n,n+1] (n+4)
   (fun i h=>IsZip h (n+4) (n+2) (n+3) .none/\IsPair h (n+2) (.ref n) (.ref (n+1))/\(∃ a b,IsPair h (n+3) a b)/\IsI h n l1 i/\IsI h (n+1) l2 i) where
 mem:=by simp
 obj:=fun i h st b hb=>by
  obtain ⟨hz,hTI,⟨a,b',hTO⟩,h1,h2⟩:=st
  simp only[List.mem_cons,List.not_mem_nil,or_false] at hb
  rcases hb with z | z | z | z | z<;>subst z
  ·exact ⟨_,hz,fun v q=>by have q':Data.fields _=Data.cell v:=q;cases q'⟩
  ·exact ⟨_,hTI,fun v q=>by have q':Data.seq _ _=Data.cell v:=q;cases q'⟩
  ·exact ⟨_,hTO,fun v q=>by have q':Data.seq _ _=Data.cell v:=q;cases q'⟩
  ·exact S.iob h1
  ·exact S.iob h2
 keep:=fun i h h' st kk=>by
  obtain ⟨hz,hTI,⟨a,b',hTO⟩,h1,h2⟩:=st
  exact ⟨kk _ (by simp) _ hz,kk _ (by simp) _ hTI,⟨a,b',kk _ (by simp) _ hTO⟩,S.iat h1 fun o q=>kk _ (by simp) o q,S.iat h2 fun o q=>kk _ (by simp) o q⟩
 item:=by
  intro X hP hw hK hc i pins s σ H E I hf st hg
  subst hP hw hK
  obtain ⟨xs,ys,x,y,e1,e2,hx,hy⟩:=hg
  obtain ⟨hz,hTI,⟨a,b',hTO⟩,h1,h2⟩:=st
  obtain ⟨is1,rv1,p1⟩:=S.rd I.hok e1
  obtain ⟨is2,rv2,p2⟩:=S.rd I.hok e2
  obtain ⟨u,hu,ru⟩:=rv1.get hx
  obtain ⟨v,hv,rv⟩:=rv2.get hy
  have ap:∀ l xs,H l=some (c xs)->∀ b∈[n+4,n+2,n+3,n,n+1],l≠b:=fun l xs e b hb z=>by
   have q:=(hf b hb).1
   rw[<-z,e] at q
   cases q
  have lz:@LT.lt Nat _ (n+4) s.heap.objs.size:=Heap.lt_size hz
  refine N3 (P1:=fun g=>IsI g n l1 (i+1)) (P2:=fun g=>IsI g (n+1) l2 (i+1)) (x:=u) (y:=v) (by first | exact Nat.ne_of_lt (by lia) | exact Nat.ne_of_gt (by lia)) (by first | exact Nat.ne_of_lt (by lia) | exact Nat.ne_of_gt (by lia)) (by first | exact Nat.ne_of_lt (by lia) | exact Nat.ne_of_gt (by lia)) (by first | exact Nat.ne_of_lt (by lia) | exact Nat.ne_of_gt (by lia)) (by first | exact Nat.ne_of_lt (by lia) | exact Nat.ne_of_gt (by lia)) (by first | exact Nat.ne_of_lt (by lia) | exact Nat.ne_of_gt (by lia)) hz hTI hTO
   (fun A g Q E kk hQ=>S.nx (s:={s with heap:=g}) (S.iat h1 fun o q=>kk _ o (by first | exact Nat.ne_of_lt (by lia) | exact Nat.ne_of_gt (by lia)) q) (S.at_ p1 fun o q=>kk _ o (ap _ _ e1 _ (by simp)) q) (by simpa using hu) hQ)
   (fun A g Q E kk hQ=>S.nx (s:={s with heap:=g}) (S.iat h2 fun o q=>kk _ o (by first | exact Nat.ne_of_lt (by lia) | exact Nat.ne_of_gt (by lia)) (by first | exact Nat.ne_of_lt (by lia) | exact Nat.ne_of_gt (by lia)) (by first | exact Nat.ne_of_lt (by lia) | exact Nat.ne_of_gt (by lia)) q) (S.at_ p2 fun o q=>kk _ o (ap _ _ e2 _ (by simp)) (ap _ _ e2 _ (by simp)) (ap _ _ e2 _ (by simp)) q) (by simpa using hv) hQ)
   (fun g g' p q=>S.iat p q) (fun g g' p q=>S.iat p q) fun g a1 a2 a3 a4 a5 a6=>?_
  refine ⟨_,rfl,wpAny_letOwnedTupleGo_zip a1 fun g2 z2 s2=>?_⟩
  replace s2:Heap.SameBut (n+4) g g2:=s2
  have up:∀ b o,b∉[n+4,n+2,n+3,n,n+1]->s.heap.get? b=some o->g2.get? b=some o:=fun b o hb q=>
   (s2.2 b (fun z=>hb (by simp[z]))).trans (a6 b o (fun z=>hb (by simp[z])) (fun z=>hb (by simp[z])) (fun z=>hb (by simp[z])) (fun z=>hb (by simp[z])) q)
  have hT2:g2.get? s.heap.objs.size=some {cls:=.type "tuple",data:=.seq #[u,v]}:=(s2.2 _ (by first | exact Nat.ne_of_lt (by lia) | exact Nat.ne_of_gt (by lia))).trans a5
  have lt:∀ b∈[n+4,n+2,n+3,n,n+1],b<s.heap.objs.size:=fun b hb=>by
   simp only[List.mem_cons,List.not_mem_nil,or_false] at hb
   rcases hb with z | z | z | z | z<;>(rw[z];first | exact Nat.le_add_right _ _ | exact Nat.le_refl _ | exact Nat.lt_of_le_of_lt (by lia) lz)
  refine ⟨.ref s.heap.objs.size,upd H s.heap.objs.size (.tup [x,y]),I.turnLay (t':=s.toks) hf up (Nat.le_refl _) ⟨K5,[u,v],.cons ru (.cons rv .nil),⟨_,hT2,rfl,_,rfl⟩⟩,rfl,
   ⟨_,x,y,I.fresh,rfl,rfl,fun zs hz'=>?_,fun zs hz'=>?_⟩,⟨z2,(s2.2 _ (by first | exact Nat.ne_of_lt (by lia) | exact Nat.ne_of_gt (by lia))).trans (a6 _ _ (by first | exact Nat.ne_of_lt (by lia) | exact Nat.ne_of_gt (by lia)) (by first | exact Nat.ne_of_lt (by lia) | exact Nat.ne_of_gt (by lia)) (by first | exact Nat.ne_of_lt (by lia) | exact Nat.ne_of_gt (by lia)) (by first | exact Nat.ne_of_lt (by lia) | exact Nat.ne_of_gt (by lia)) hTI),⟨_,_,(s2.2 _ (by first | exact Nat.ne_of_lt (by lia) | exact Nat.ne_of_gt (by lia))).trans a2⟩,S.iat a3 fun o q=>(s2.2 _ (by first | exact Nat.ne_of_lt (by lia) | exact Nat.ne_of_gt (by lia))).trans q,S.iat a4 fun o q=>(s2.2 _ (by first | exact Nat.ne_of_lt (by lia) | exact Nat.ne_of_gt (by lia))).trans q⟩,fun b hb=>?_⟩
  ·rw[e1] at hz'
   rw[<-S.inj _ _ (Option.some.inj hz')]
   exact hx
  ·rw[e2] at hz'
   rw[<-S.inj _ _ (Option.some.inj hz')]
   exact hy
  ·rw[AO (Nat.ne_of_lt (lt b hb))]
   exact (hf b hb).1
 done:=by
  intro X hP hw hK hc i pins s σ H E I hf st hg
  subst hP hw hK
  obtain ⟨xs,e1,hx⟩:=hg
  obtain ⟨hz,hTI,⟨a,b',hTO⟩,h1,h2⟩:=st
  obtain ⟨is1,rv1,p1⟩:=S.rd I.hok e1
  have hl:=rv1.length
  have ne:l1≠n+4:=fun z=>by
   have q:=(hf (n+4) (by simp)).1
   rw[<-z,e1] at q
   cases q
  exact PL (I.ok.hd hc) (by first | exact Nat.ne_of_lt (by lia) | exact Nat.ne_of_gt (by lia)) hz hTI hTO (fun A g Q E hh kk hE=>S.nd (s:={s with heap:=g}) hh (S.iat h1 fun o q=>kk _ o (by first | exact Nat.ne_of_lt (by lia) | exact Nat.ne_of_gt (by lia)) q) (S.at_ p1 fun o q=>kk _ o ne q) (by simp;lia) hE)
   fun g kk=>⟨rfl,I.turnL (t':=s.toks) hf fun b o hb q=>kk b o (fun z=>hb (by simp[z])) (fun z=>hb (by simp[z])) q⟩
 self:=fun A i s Q E st h=>wpAny_pyIter_zip st.1 h
def N8 (ta:TA):TI:=fun σ H R=>ta σ H fun vs H1=>∃ l1 l2,vs=[.ref l1,.ref l2]/\((∃ xs ys,H1 l1=some (.lst xs)/\H1 l2=some (.lst ys)/\R (Itz HO.lst l1 l2) H1)\/∃ xs ys,H1 l1=some (.tup xs)/\H1 l2=some (.tup ys)/\R (Itz HO.tup l1 l2) H1)
theorem Mh {X:Cx} {a b:Expr} {ta:TA} {p cp tp:Pos} {elts:List Expr} {k:Nat} (hg:Gl X "zip") (hm:X.mg "zip"=none) (ha:PA X [a,b] ta) (hs:starEach [a,b] X.env=[(false,eval a X.env),(false,eval b X.env)]:=by rfl) (hs2:starEach [b] X.env=[(false,eval b X.env)]:=by rfl) :
  PI X (.Tuple elts k tp) (.Call (.Name "zip" p) [a,b] [] cp) (N8 ta):=by
 intro pins s σ H R I h
 refine Call_ (E7 I hg hm boot_zip (PyProof.Rows.callWith_type1 (thn (ha cp pins s σ H _ I h) fun us s1 hh_=>?_) (by rw[hs,hs2]) (by rw[hs2];rfl)))
 obtain ⟨vs,H1,I1,r1,q1⟩:=hh_
 obtain ⟨l1,l2,e,q⟩:=q1
 subst e
 cases r1 with
 | cons r rr=>
  cases rr with
  | cons r' rr=>
   cases rr
   cases r
   cases r'
   have fpo:∀ b∈[s1.heap.objs.size+4,s1.heap.objs.size+2,s1.heap.objs.size+3,s1.heap.objs.size,s1.heap.objs.size+1],Bu X pins H1 b:=fun b hb=>by
    have hle:s1.heap.objs.size<=b:=by
     simp only[List.mem_cons,List.not_mem_nil,or_false] at hb
     rcases hb with z | z | z | z | z<;>(rw[z];first | exact Nat.le_add_right _ _ | exact Nat.le_refl _ | exact Nat.lt_of_le_of_lt (by lia) lz)
    exact I1.fpOk hle (I1.hok.fresh hle)
   rcases q with ⟨xs,ys,e1,e2,q⟩ | ⟨xs,ys,e1,e2,q⟩
   ·obtain ⟨is1,rv1,p1⟩:=(HX (P:=X.prog) (w:=X.w)).rd I1.hok e1
    obtain ⟨is2,rv2,p2⟩:=(HX (P:=X.prog) (w:=X.w)).rd I1.hok e2
    refine call_zip_2 p1 p2 fun g b1 b2 b3 b4 b5 b6 kk=>wpAny_pyIter_zip b1 ?_
    exact ⟨_,_,_,_,H1,rfl,I1.kept (t':=s1.toks) kk,MU HX l1 l2 s1.heap.objs.size,⟨b1,b2,⟨_,_,b3⟩,b4,b5⟩,fpo,q⟩
   ·obtain ⟨is1,rv1,p1⟩:=(Hb (P:=X.prog) (w:=X.w)).rd I1.hok e1
    obtain ⟨is2,rv2,p2⟩:=(Hb (P:=X.prog) (w:=X.w)).rd I1.hok e2
    refine RL p1 p2 fun g b1 b2 b3 b4 b5 kk=>wpAny_pyIter_zip b1 ?_
    exact ⟨_,_,_,_,H1,rfl,I1.kept (t':=s1.toks) kk,MU Hb l1 l2 s1.heap.objs.size,⟨b1,b2,⟨_,_,b3⟩,b4,b5⟩,fpo,q⟩
section
variable {prog:Program} {w:World} {A:Around} {E:Value->Shared->Prop} {s:Shared}
end
section
variable {X:Cx}
def SE (K:PySem.W.Frag):List V->Hp->VK->Prop:=fun xs H Q=>∃ x T t b,xs=[x,.ty T]/\TyOf K H x (.type t)/\PySem.W.kitOne K (.type t) (.type T)=some b/\Q (.bl b) H
theorem NA:BN X (.builtin "isinstance") (SE X.K):=by
 intro pins s σ H xs us Q I r h
 obtain ⟨x,T,t,b,rfl,ty,e,q⟩:=h
 obtain ⟨u,u',rfl,ru,ru'⟩:=vals2 r
 cases (show u'=Value.type T from ru')
 exact My I ru ty e fun tk=>⟨.bl b,H,I.tok tk,rfl,q⟩
def Rc (K:PySem.W.Frag):List V->Hp->VK->Prop:=fun xs H Q=>∃ (x:V) (p:Addr) (Ts:List String) (t:String) (b:Bool),xs=[x,.ref p]/\H p=some (.tup (Ts.map V.ty))/\TyOf K H x (.type t)/\PySem.W.kitAny K (.type t) (Ts.map Value.type)=some b/\Q (.bl b) H
theorem KF:∀ {Ts:List String} {us:List Value},Vals (Ts.map V.ty) us->us=Ts.map Value.type
 | [],_,.nil=>rfl
 | _::_,_,.cons r t=>by
  rw[List.map_cons,<-KF t]
  exact congrArg (·::_) r
theorem OF:BN X (.builtin "isinstance") (Rc X.K):=by
 intro pins s σ H xs us Q I r h
 obtain ⟨x,p,Ts,t,b,rfl,hp,ty,e,q⟩:=h
 obtain ⟨u,u',rfl,ru,ru'⟩:=vals2 r
 cases (show u'=Value.ref p from ru')
 obtain ⟨_,its,rv,o,ho,hc,n,hd⟩:=I.hok p _ hp
 have ei:=KF rv
 subst ei
 obtain ⟨oc,od,odt,osl⟩:=o
 cases (show oc=.type "tuple" from hc)
 cases (show odt=.seq (Ts.map Value.type).toArray n from hd)
 have fin:∀ tk,EP X pins σ Q (.bool b) {s with toks:=tk}:=fun tk=>⟨.bl b,H,I.tok tk,rfl,q⟩
 cases ty with
 | non=>cases (show u=Value.none from ru);exact PySem.W.kia_tup PySem.W.kitx_none I.kIn True.intro ho e (fun z=>nomatch z) fin
 | bl y=>cases (show u=Value.bool y from ru);exact PySem.W.kia_tup PySem.W.kitx_bool I.kIn True.intro ho e (fun z=>nomatch z) fin
 | int i=>obtain ⟨t,q'⟩:=(show ∃ t,u=Value.int i t from ru);cases q';exact PySem.W.kia_tup PySem.W.kitx_int I.kIn True.intro ho e (fun z=>nomatch z) fin
 | str y=>obtain ⟨t,q'⟩:=(show ∃ t,u=Value.str y t from ru);cases q';exact PySem.W.kia_tup PySem.W.kitx_str I.kIn True.intro ho e (fun z=>nomatch z) fin
 | flt y=>obtain ⟨t,q'⟩:=(show ∃ t,u=Value.float y t from ru);cases q';exact PySem.W.kia_tup PySem.W.kitx_float I.kIn True.intro ho e (fun z=>nomatch z) fin
 | @lst a ys ea=>
  cases (show u=Value.ref a from ru)
  obtain ⟨_,_,m,_,h1⟩:=(show ObjOk X.prog X.w H s.heap a (.lst ys) from I.hok a _ ea)
  exact PySem.W.kia_tup PySem.W.kitx_list I.kIn ⟨_,h1,rfl⟩ ho e (fun z=>nomatch z) fin
 | @frz a ob ys ea=>
  cases (show u=Value.ref a from ru)
  obtain ⟨_,_,_,m,_,h1⟩:=(show ObjOk X.prog X.w H s.heap a (.frz ob (.lst ys)) from I.hok a _ ea)
  exact PySem.W.kia_tup PySem.W.kitx_list I.kIn ⟨_,h1,rfl⟩ ho e (fun z=>nomatch z) fin
 | @tup a ys ea=>
  cases (show u=Value.ref a from ru)
  obtain ⟨_,_,_,p'⟩:=(show ObjOk X.prog X.w H s.heap a (.tup ys) from I.hok a _ ea)
  obtain ⟨o',h1,h2,_⟩:=p'
  exact PySem.W.kia_tup PySem.W.kitx_tuple I.kIn ⟨o',h1,h2⟩ ho e (fun z=>nomatch z) fin
 | @dK a kvs ea=>
  cases (show u=Value.ref a from ru)
  obtain ⟨_,_,vs,_,p'⟩:=(show ObjOk X.prog X.w H s.heap a (.dK kvs) from I.hok a _ ea)
  obtain ⟨o',es,ep,h1,h2,_⟩:=p'
  exact PySem.W.kia_tup PySem.W.kitx_dict I.kIn ⟨o',h1,h2.1⟩ ho e (fun z=>nomatch z) fin
 | @dT a kvs ea=>
  cases (show u=Value.ref a from ru)
  obtain ⟨_,_,ys,_,o',es,ep,h1,h2,_⟩:=(show ObjOk X.prog X.w H s.heap a (.dT kvs) from I.hok a _ ea)
  exact PySem.W.kia_tup PySem.W.kitx_dict I.kIn ⟨o',h1,h2.1⟩ ho e (fun z=>nomatch z) fin
def KM (K:PySem.W.Frag):R2:=fun x y H Q=>∃ p q xs ys,x=.ref p/\y=.ref q/\SqL K H p xs/\SqL K H q ys/\(xs=[]\/ys=[])/\Q (.bl (decide (xs=ys))) H
theorem Rf (hu:X.A.units<cLine):OpR X (compareOp .Eq) (KM X.K):=by
 intro pins s σ H x y v u Q I rx ry h
 obtain ⟨p,q,xs,ys,rfl,rfl,hp,hq,hor,k⟩:=h
 cases rx
 cases ry
 obtain ⟨i1,r1,l1,z1⟩:=I.list hp
 obtain ⟨i2,r2,l2,z2⟩:=I.list hq
 have e1:=r1.length
 have e2:=r2.length
 by_cases c:xs.length=ys.length
 ·have exy:xs=ys:=by
   rcases hor with z | z
   ·subst z;exact (List.eq_nil_of_length_eq_zero (by rw[<-c];rfl)).symm
   ·subst z;exact List.eq_nil_of_length_eq_zero (by rw[c];rfl)
  have x0:xs.length=0:=by
   rcases hor with z | z
   ·rw[z];rfl
   ·rw[c,z];rfl
  refine SeqAt.eq_listAt (e:=fun _=>true) l1.isList l2.isList (by rw[List.size_toArray,List.size_toArray];lia) hu (fun j h1 _=>?_) ?_
  ·rw[List.size_toArray] at h1;lia
  ·rw[decide_eq_true exy] at k
   refine ⟨.bl true,H,I,?_,k⟩
   have:(List.range i1.toArray.size).all (fun _=>true)=true:=List.all_eq_true.mpr fun _ _=>rfl
   rw[this]
   rfl
 ·refine SeqAt.eq_list_lengthsAt l1.isList l2.isList (by rw[List.size_toArray,List.size_toArray];exact bne_iff_ne.mpr (by lia)) hu ?_
  rw[decide_eq_false (fun z=>c (by rw[z]))] at k
  exact ⟨.bl false,H,I,rfl,k⟩
theorem LB {α β:Type} {f:α->Option β} {g:α->β}:∀ {l:List α},(∀ x∈l,f x=some (g x))->l.filterMap f=l.map g
 | [],_=>rfl
 | a::l,h=>by rw[List.filterMap_cons,h a List.mem_cons_self,List.map_cons,LB fun x hx=>h x (List.mem_cons_of_mem _ hx)]
theorem Qu (items:List Value):slicePick items.toArray none none (some (-1))=items.reverse.toArray:=by
 have hc:(sliceRange ((items.length:Int) - 1) (-1) (-1))=(List.range items.length).map fun (k:Nat)=>items.length - 1 - k:=by
  unfold sliceRange
  rw[if_neg (by decide)]
  have e:(if (items.length:Int) - 1 > -1 then ((items.length:Int) - 1 - -1 - -1 - 1) / - -1 else 0)=(items.length:Int):=by
   split
   ·rw[show (- -1:Int)=1 by rfl,Int.ediv_one];lia
   ·lia
  dsimp only
  rw[e]
  refine List.map_congr_left fun k hk=>?_
  have:=List.mem_range.mp hk
  lia
 have hb:slicePick items.toArray none none (some (-1))=((sliceRange ((items.length:Int) - 1) (-1) (-1)).filterMap (items.toArray[·]?)).toArray:=by
  unfold slicePick sliceBounds
  simp
 rw[hb,hc]
 congr 1
 rw[List.filterMap_map]
 have hf:(List.range items.length).filterMap ((fun x=>items.toArray[x]?)∘fun (k:Nat)=>items.length - 1 - k)=(List.range items.length).map fun (k:Nat)=>items.getD (items.length - 1 - k) .none:=by
  refine LB fun k hk=>?_
  have:=List.mem_range.mp hk
  show items.toArray[items.length - 1 - k]?=some (items.getD (items.length - 1 - k) .none)
  rw[List.getElem?_toArray,List.getD_eq_getElem?_getD,List.getElem?_eq_getElem (by lia)]
  rfl
 rw[hf]
 refine List.ext_getElem? fun j=>?_
 rw[List.getElem?_map]
 by_cases hj:j<items.length
 ·rw[List.getElem?_range hj,List.getElem?_reverse hj,Option.map_some,List.getD_eq_getElem?_getD,List.getElem?_eq_getElem (by lia)]
  rfl
 ·rw[List.getElem?_eq_none (by rw[List.length_range];lia),List.getElem?_eq_none (by rw[List.length_reverse];lia)]
  rfl
def Sr (K:PySem.W.Frag) (te ts:TE):TE:=fun σ H Q=>te σ H fun x H1=>ts σ H1 fun y H2=>∃ a xs,x=.ref a/\y=.int (-1)/\SqL K H2 a xs/\∀ p,H2 p=none->Q (.ref p) (upd H2 p (.lst xs.reverse))
theorem OU {e st:Expr} {te ts:TE} {p2 ep:Pos} (he:PE X e te) (hst:PE X st ts):PE X (.Subscript e (.Slice none none (some st) p2) ep) (Sr X.K te ts):=by
 intro pins s σ H Q I h
 refine Subscript_ (thn (he pins s σ H _ I h) fun v s1 hh_=>?_)
 obtain ⟨x,H1,I1,r1,q1⟩:=hh_
 refine wpAny_Slice ?_
 rw[evalPart_none]
 refine wpAny_pure (wpAny_pure ?_)
 rw[evalPart_some]
 refine thn (hst pins s1 σ H1 _ I1 q1) fun w s3 hh_=>?_
 obtain ⟨y,H3,I3,r3,a,xs,ex,ey,hq,q3⟩:=hh_
 subst ex ey
 cases r1
 obtain ⟨tk,rfl⟩:=r3
 have I4:Inv X pins σ H3 {s3 with heap:=s3.heap.push {cls:=.type "slice",data:=.fields #[.none,.none,.int (-1) tk]}}:=I3.kept (t':=s3.toks) fun b ob q=>Heap.get?_push_of_some _ q
 obtain ⟨its,r,ht,hz⟩:=I4.list hq
 have hlen:=r.length
 show wpAny (model X.prog X.w) X.A (subscriptTail e (.Slice none none (some st) p2) (.ref a) (.ref s3.heap.objs.size)) (EP X pins σ Q) X.xe {s3 with heap:=s3.heap.push {cls:=.type "slice",data:=.fields #[.none,.none,.int (-1) tk]}}
 refine tail_any (ops:=[.ref a,.ref s3.heap.objs.size]) ht.isList.typeIs slot_list_getitem.lookup (wpAny_getItem_list_slice ht.isList (Heap.IsSliceOf.new ..) .none .none (.int (-1) tk) (by decide) ?_ (by rw[List.size_toArray];lia)) (by with_unfolding_all rfl)
 rw[Qu]
 refine ⟨.ref _,_,I4.laid (t':=s3.toks) (o:=.lst xs.reverse) (fun b ob q=>Heap.get?_push_of_some _ q) (Nat.le_refl _) ?_,rfl,q3 _ (I4.hok.fresh (Nat.le_refl _))⟩
 exact ⟨by rw[List.length_reverse];exact hz,_,0,r.reverse,Heap.get?_push_size _ rfl⟩
end
end L2
namespace Ev
open PySem L2
theorem small {n:Nat} (h:n<=1000000):n<=sizeLine:=Nat.le_trans h (by decide)
theorem IK {n:Nat} (h:n<=1000000):n<sizeLine:=Nat.lt_of_le_of_lt h (by decide)
structure Nm (mg:Str->Option Value):Prop where
 len:mg "len"=none
 range:mg "range"=none
 isi:mg "isinstance"=none
 bool:mg "bool"=none
 int:mg "int"=none
 str:mg "str"=none
 list:mg "list"=none
 tuple:mg "tuple"=none
 zip:mg "zip"=none
 enum:mg "enumerate"=none
 sorted:mg "sorted"=none
 max:mg "max"=none
 min:mg "min"=none
 abs:mg "abs"=none
 sum:mg "sum"=none
 all:mg "all"=none
 any:mg "any"=none
 set:mg "set"=none
end Ev
namespace L2
open PySem
variable {X:Cx} {K:PySem.W.Frag}
theorem Q7 {es:List Expr} {k:Nat} {t:TGs} {n:Nat} {tp:Pos} (hk:X.K=K) (hc:X.calm=true) (h:PGs X es t) (hn:(assignEach es X.env).length=n:=by rfl) (hst:(assignEach es X.env).findIdx? (·.1)=none:=by rfl):PG X (.Tuple es k tp) (F0 K n t):=hk▸OL hc h hn hst
end L2
namespace L2
open PySem PySem.Spec PyProof.Rows
section
variable {X:Cx}
def K4 (K:PySem.W.Frag):R2:=fun x y H Q=>∃ p q xs ys,x=.ref p/\y=.ref q/\SqL K H p xs/\SqL K H q ys/\(xs=[]\/ys=[])/\Q (.bl (!decide (xs=ys))) H
theorem SQ (hu:X.A.units<cLine):OpR X (compareOp .NotEq) (K4 X.K):=by
 intro pins s σ H x y v u Q I rx ry h
 obtain ⟨p,q,xs,ys,rfl,rfl,hp,hq,hor,k⟩:=h
 cases rx
 cases ry
 obtain ⟨i1,r1,l1,z1⟩:=I.list hp
 obtain ⟨i2,r2,l2,z2⟩:=I.list hq
 have e1:=r1.length
 have e2:=r2.length
 by_cases c:xs.length=ys.length
 ·have exy:xs=ys:=by
   rcases hor with z | z
   ·subst z;exact (List.eq_nil_of_length_eq_zero (by rw[<-c];rfl)).symm
   ·subst z;exact List.eq_nil_of_length_eq_zero (by rw[c];rfl)
  have x0:xs.length=0:=by
   rcases hor with z | z
   ·rw[z];rfl
   ·rw[c,z];rfl
  rw[decide_eq_true exy] at k
  refine SeqAt.RcNeAt.lists (e:=fun _=>true) l1.isList l2.isList (by rw[List.size_toArray,List.size_toArray];lia) hu (fun j h1 _=>?_) X.prog X.w _ _ ?_
  ·rw[List.size_toArray] at h1;lia
  ·refine ⟨.bl false,H,I,?_,k⟩
   have:(List.range i1.toArray.size).all (fun _=>true)=true:=List.all_eq_true.mpr fun _ _=>rfl
   rw[this]
   rfl
 ·rw[decide_eq_false (fun z=>c (by rw[z]))] at k
  exact SeqAt.RcNeAt.lists_lengths l1.isList l2.isList (by rw[List.size_toArray,List.size_toArray];exact bne_iff_ne.mpr (by lia)) hu X.prog X.w _ _ ⟨.bl true,H,I,rfl,k⟩
end
section
variable {X:Cx}
def N9:V->List V->Hp->VK->Prop:=fun x vs H Q=>∃ l xs i y,x=.ref l/\vs=[.int i,y]/\H l=some (.lst xs)/\0<=i/\i<=xs.length/\xs.length<sizeLine/\Q .non (upd H l (.lst (xs.take i.toNat++y::xs.drop i.toNat)))
theorem RB:MtM X "list.insert" N9:=by
 intro pins s σ H x vs v us Q I rx rv h
 obtain ⟨l,xs,i,y,rfl,rfl,hH,h1,h2,hz,q⟩:=h
 cases rx
 obtain ⟨u,u',rfl,ru,ru'⟩:=rv.two
 obtain ⟨t,rfl⟩:=ru
 obtain ⟨z,its,n,r,hl,e⟩:=I.lstM hH
 have hs:sizeLine=16777216:=sizeLine_eq
 refine call_meets F.slot_list_insert ⟨_,e,rfl⟩ F.entry_list_insert (F.args_list_insert_3 _ _ _) (PySem.AutoSeq1.list_insert_list_int_val_1 l its.toArray n i t u' (by rw[fitsIndex_both (by lia) (by lia)];decide) (by rw[List.size_toArray];lia)) ⟨e,?_⟩
 have hv:Vals (xs.take i.toNat++y::xs.drop i.toNat) (its.take i.toNat++u'::its.drop i.toNat):=(r.take _).append (.cons ru' (r.drop _))
 refine ⟨.non,_,I.lset (its':=its.take i.toNat++u'::its.drop i.toNat) hH e ?_ hv ?_,rfl,q⟩
 ·show (its.toArray.extract 0 (if i<0 then (i+(its.toArray.size:Int)).toNat else min i.toNat its.toArray.size)).push u'++its.toArray.extract (if i<0 then (i+(its.toArray.size:Int)).toNat else min i.toNat its.toArray.size)=_
  rw[if_neg (by lia),List.size_toArray,Nat.min_eq_left (by lia)]
  apply Array.ext'
  simp
  exact List.take_of_length_le (by rw[List.length_drop];exact Nat.le_refl _)
 ·rw[List.length_append,List.length_cons,List.length_take,List.length_drop]
  lia
end
end L2
namespace DL
open PySem L2
inductive D where
 | non | bl (b:Bool) | int (i:Int) | str (x:Str) | lst (xs:List D) | tup (xs:List D) | scr (ns:List Int) | dic (ks:List Key) (vs:List D)
inductive SV where
 | v (d:D) | b (n:Nat) | p (n:Nat) (d:D) | l (ns:List Nat)
structure Wd where
 K:PySem.W.Frag
 B:Addr->Prop
 H:Hp
mutual
def Rep (W:Wd):D->V->Prop
 | .non,v=>v=.non
 | .bl b,v=>v=.bl b
 | .int i,v=>v=.int i
 | .str x,v=>v=.str x
 | .lst xs,v=>∃ a vs,v=.ref a/\¬W.B a/\W.H a=some (.lst vs)/\Reps W xs vs
 | .tup xs,v=>∃ a vs,v=.ref a/\¬W.B a/\W.H a=some (.tup vs)/\Reps W xs vs
 | .scr ns,v=>∃ a,v=.ref a/\((¬W.B a/\Rd W.H a (.lst (ns.map V.int)))\/∀ H,SqL W.K H a (ns.map V.int))
 | .dic ks xs,v=>∃ a vs,v=.ref a/\¬W.B a/\W.H a=some (.dK (ks.zip vs))/\ks.length=vs.length/\Reps W xs vs
def Reps (W:Wd):List D->List V->Prop
 | [],vs=>vs=[]
 | d::ds,vs=>∃ v r,vs=v::r/\Rep W d v/\Reps W ds r
end
structure Kw (W W':Wd):Prop where
 k:W'.K=W.K
 keep:∀ a o,¬W.B a->W.H a=some o->W'.H a=some o/\¬W'.B a
theorem Kw.refl (W:Wd):Kw W W:=⟨rfl,fun _ _ n e=>⟨e,n⟩⟩
theorem Kw.trans {W W1 W2:Wd} (a:Kw W W1) (b:Kw W1 W2):Kw W W2:=⟨b.k.trans a.k,fun c o n e=>let ⟨h,n'⟩:=a.keep c o n e;b.keep c o n' h⟩
mutual
theorem Rep.kw {W W':Wd} (k:Kw W W'):∀ {d:D} {v:V},Rep W d v->Rep W' d v
 | .non,v,h=>by unfold Rep at *;exact h
 | .bl b,v,h=>by unfold Rep at *;exact h
 | .int i,v,h=>by unfold Rep at *;exact h
 | .str x,v,h=>by unfold Rep at *;exact h
 | .lst xs,v,h=>by
  unfold Rep at *
  obtain ⟨a,vs,e,n,h1,h2⟩:=h
  obtain ⟨h3,n'⟩:=k.keep a _ n h1
  exact ⟨a,vs,e,n',h3,Reps.kw k h2⟩
 | .tup xs,v,h=>by
  unfold Rep at *
  obtain ⟨a,vs,e,n,h1,h2⟩:=h
  obtain ⟨h3,n'⟩:=k.keep a _ n h1
  exact ⟨a,vs,e,n',h3,Reps.kw k h2⟩
 | .scr ns,v,h=>by
  unfold Rep at *
  obtain ⟨a,e,h⟩:=h
  refine ⟨a,e,?_⟩
  rcases h with ⟨n,h | ⟨o,h⟩⟩ | h
  ·obtain ⟨h3,n'⟩:=k.keep a _ n h
   exact .inl ⟨n',.inl h3⟩
  ·obtain ⟨h3,n'⟩:=k.keep a _ n h
   exact .inl ⟨n',.inr ⟨o,h3⟩⟩
  ·exact .inr (by rw[k.k];exact h)
 | .dic ks xs,v,h=>by
  unfold Rep at *
  obtain ⟨a,vs,e,n,h1,hl,h2⟩:=h
  obtain ⟨h3,n'⟩:=k.keep a _ n h1
  exact ⟨a,vs,e,n',h3,hl,Reps.kw k h2⟩
theorem Reps.kw {W W':Wd} (k:Kw W W'):∀ {ds:List D} {vs:List V},Reps W ds vs->Reps W' ds vs
 | [],vs,h=>by unfold Reps at *;exact h
 | d::ds,vs,h=>by
  unfold Reps at *
  obtain ⟨v,r,e,h1,h2⟩:=h
  exact ⟨v,r,e,Rep.kw k h1,Reps.kw k h2⟩
end
theorem Reps.len {W:Wd}:∀ {ds:List D} {vs:List V},Reps W ds vs->vs.length=ds.length
 | [],vs,h=>by unfold Reps at h;subst h;rfl
 | d::ds,vs,h=>by
  unfold Reps at h
  obtain ⟨v,r,rfl,_,h⟩:=h
  rw[List.length_cons,List.length_cons,h.len]
theorem Reps.nil {W:Wd}:Reps W [] []:=by unfold Reps;rfl
theorem Reps.cons {W:Wd} {d:D} {v:V} {ds:List D} {vs:List V} (h:Rep W d v) (t:Reps W ds vs):Reps W (d::ds) (v::vs):=by unfold Reps;exact ⟨v,vs,rfl,h,t⟩
theorem Reps.nil_inv {W:Wd} {vs:List V} (h:Reps W [] vs):vs=[]:=by unfold Reps at h;exact h
theorem Reps.cons_inv {W:Wd} {d:D} {ds:List D} {vs:List V} (h:Reps W (d::ds) vs):∃ v r,vs=v::r/\Rep W d v/\Reps W ds r:=by unfold Reps at h;exact h
theorem Reps.append {W:Wd}:∀ {ds es:List D} {vs us:List V},Reps W ds vs->Reps W es us->Reps W (ds++es) (vs++us)
 | [],es,vs,us,h,g=>by rw[h.nil_inv];exact g
 | d::ds,es,vs,us,h,g=>by
  obtain ⟨v,r,rfl,h1,h2⟩:=h.cons_inv
  exact .cons h1 (h2.append g)
theorem Reps.get {W:Wd}:∀ {ds:List D} {vs:List V} {i:Nat} {d:D},Reps W ds vs->ds[i]?=some d->∃ v,vs[i]?=some v/\Rep W d v
 | [],_,_,_,_,e=>by cases e
 | c::ds,vs,0,d,h,e=>by
  obtain ⟨v,r,rfl,h1,h2⟩:=h.cons_inv
  cases e
  exact ⟨v,rfl,h1⟩
 | c::ds,vs,i+1,d,h,e=>by
  obtain ⟨v,r,rfl,h1,h2⟩:=h.cons_inv
  obtain ⟨u,a,b⟩:=h2.get (i:=i) (d:=d) (by simpa using e)
  exact ⟨u,by simpa using a,b⟩
theorem Reps.get' {W:Wd} {ds:List D} {vs:List V} {i:Nat} {v:V} (h:Reps W ds vs) (e:vs[i]?=some v):∃ d,ds[i]?=some d/\Rep W d v:=by
 have hi:i<ds.length:=by
  have:=h.len
  have:=(List.getElem?_eq_some_iff.mp e).1
  lia
 obtain ⟨u,a,b⟩:=h.get (List.getElem?_eq_getElem hi)
 rw[e] at a
 cases a
 exact ⟨_,List.getElem?_eq_getElem hi,b⟩
theorem Reps.take {W:Wd}:∀ {ds:List D} {vs:List V} (n:Nat),Reps W ds vs->Reps W (ds.take n) (vs.take n)
 | [],vs,n,h=>by rw[h.nil_inv];simp;exact .nil
 | d::ds,vs,0,h=>by simp;exact .nil
 | d::ds,vs,n+1,h=>by
  obtain ⟨v,r,rfl,h1,h2⟩:=h.cons_inv
  exact .cons h1 (h2.take n)
theorem Reps.drop {W:Wd}:∀ {ds:List D} {vs:List V} (n:Nat),Reps W ds vs->Reps W (ds.drop n) (vs.drop n)
 | [],vs,n,h=>by rw[h.nil_inv];simp;exact .nil
 | d::ds,vs,0,h=>h
 | d::ds,vs,n+1,h=>by
  obtain ⟨v,r,rfl,h1,h2⟩:=h.cons_inv
  exact h2.drop n
theorem Reps.reverse {W:Wd}:∀ {ds:List D} {vs:List V},Reps W ds vs->Reps W ds.reverse vs.reverse
 | [],vs,h=>by rw[h.nil_inv];exact .nil
 | d::ds,vs,h=>by
  obtain ⟨v,r,rfl,h1,h2⟩:=h.cons_inv
  rw[List.reverse_cons,List.reverse_cons]
  exact h2.reverse.append (.cons h1 .nil)
theorem Reps.set {W:Wd} {d:D} {v:V} (r:Rep W d v):∀ {ds:List D} {vs:List V} (i:Nat),Reps W ds vs->Reps W (ds.set i d) (vs.set i v)
 | [],vs,i,h=>by rw[h.nil_inv];exact .nil
 | c::ds,vs,0,h=>by
  obtain ⟨u,q,rfl,h1,h2⟩:=h.cons_inv
  exact .cons r h2
 | c::ds,vs,i+1,h=>by
  obtain ⟨u,q,rfl,h1,h2⟩:=h.cons_inv
  exact .cons h1 (Reps.set r i h2)
theorem Reps.ints {W:Wd}:∀ {ns:List Int} {vs:List V},Reps W (ns.map D.int) vs->vs=ns.map V.int
 | [],vs,h=>h.nil_inv
 | n::ns,vs,h=>by
  obtain ⟨v,r,rfl,h1,h2⟩:=Reps.cons_inv (d:=D.int n) (ds:=ns.map D.int) h
  unfold Rep at h1
  rw[h1,h2.ints]
  rfl
theorem Reps.of_ints {W:Wd}:∀ {ns:List Int},Reps W (ns.map D.int) (ns.map V.int)
 | []=>.nil
 | n::ns=>.cons (by unfold Rep;rfl) Reps.of_ints
abbrev Gm:=List (Option (List D))
structure DS where
 σ:List (Option SV)
 Γ:Gm
 lo:Nat
structure Fr where
 K:PySem.W.Frag
 H₀:Hp
 F:Addr->Prop
 L:Addr->Prop
 sub:∀ a,L a->F a
 dom:∀ a,F a->H₀ a≠none
def BL (Γ:Gm) (α:Nat->Addr) (a:Addr):Prop:=∃ (n:Nat) (xs:List D),Γ[n]?=some (some xs)/\α n=a
abbrev wd (f:Fr) (α:Nat->Addr) (Γ:Gm) (H:Hp):Wd:=⟨f.K,fun a=>f.F a\/BL Γ α a,H⟩
def RepV (f:Fr) (α:Nat->Addr) (Γ:Gm) (H:Hp):SV->V->Prop
 | .v d,v=>Rep (wd f α Γ H) d v
 | .b n,v=>n<Γ.length/\v=.ref (α n)
 | .p n d,v=>n<Γ.length/\∃ a w,v=.ref a/\¬(f.F a\/BL Γ α a)/\H a=some (.tup [.ref (α n),w])/\Rep (wd f α Γ H) d w
 | .l ns,v=>(∀ n∈ns,n<Γ.length)/\∃ a,v=.ref a/\¬(f.F a\/BL Γ α a)/\H a=some (.lst (ns.map fun n=>V.ref (α n)))
structure RS (f:Fr) (α:Nat->Addr) (s:DS) (σ:St) (H:Hp):Prop where
 len:s.σ.length=σ.length
 slot:∀ (i:Nat) (d:SV),s.σ[i]?=some (some d)->∃ v,σ[i]?=some (some v)/\RepV f α s.Γ H d v
 box:∀ (n:Nat) (xs:List D),s.Γ[n]?=some (some xs)->∃ vs,H (α n)=some (.lst vs)/\Reps (wd f α s.Γ H) xs vs
 own:∀ (n:Nat) (xs:List D),s.Γ[n]?=some (some xs)->if n<s.lo then f.L (α n) else f.H₀ (α n)=none
 inj:∀ (n m:Nat) (xs ys:List D),s.Γ[n]?=some (some xs)->s.Γ[m]?=some (some ys)->α n=α m->n=m
 fr:∀ (b:Addr) (o:HO),f.H₀ b=some o->¬f.L b->H b=some o
 forb:∀ a,f.F a->H a≠none
structure Ext (f:Fr) (α α':Nat->Addr) (Γ Γ':Gm) (H H':Hp):Prop where
 kw:Kw (wd f α Γ H) (wd f α' Γ' H')
 m:Γ.length<=Γ'.length
 al:∀ n,n<Γ.length->α' n=α n
 lv:∀ (n:Nat) (xs:List D),n<Γ.length->Γ'[n]?=some (some xs)->∃ ys,Γ[n]?=some (some ys)
section
variable {f:Fr} {α α' α'':Nat->Addr} {Γ Γ' Γ'':Gm} {H H' H'':Hp} {s s':DS} {σ σ':St}
theorem Ext.refl:Ext f α α Γ Γ H H:=⟨.refl _,Nat.le_refl _,fun _ _=>rfl,fun _ xs _ e=>⟨xs,e⟩⟩
theorem Ext.trans (a:Ext f α α' Γ Γ' H H') (b:Ext f α' α'' Γ' Γ'' H' H''):Ext f α α'' Γ Γ'' H H'':=
 ⟨a.kw.trans b.kw,Nat.le_trans a.m b.m,fun n h=>(b.al n (Nat.lt_of_lt_of_le h a.m)).trans (a.al n h),fun n xs h e=>let ⟨ys,e'⟩:=b.lv n xs (Nat.lt_of_lt_of_le h a.m) e;a.lv n ys h e'⟩
theorem RepV.ext (e:Ext f α α' Γ Γ' H H'):∀ {d:SV} {v:V},RepV f α Γ H d v->RepV f α' Γ' H' d v
 | .v d,v,h=>Rep.kw e.kw (show Rep (wd f α Γ H) d v from h)
 | .b n,v,h=>⟨Nat.lt_of_lt_of_le h.1 e.m,by rw[e.al n h.1];exact h.2⟩
 | .p n d,v,⟨h,a,w,h1,h2,h3,h4⟩=>⟨Nat.lt_of_lt_of_le h e.m,a,w,h1,(e.kw.keep a _ h2 h3).2,by rw[e.al n h];exact (e.kw.keep a _ h2 h3).1,h4.kw e.kw⟩
 | .l ns,v,⟨h,a,h1,h2,h3⟩=>⟨fun n hn=>Nat.lt_of_lt_of_le (h n hn) e.m,a,h1,(e.kw.keep a _ h2 h3).2,by rw[show ns.map (fun n=>V.ref (α' n))=ns.map fun n=>V.ref (α n) from List.map_congr_left fun n hn=>by rw[e.al n (h n hn)]];exact (e.kw.keep a _ h2 h3).1⟩
theorem RS.live (r:RS f α s σ H) {a:Addr} (h:BL s.Γ α a):H a≠none:=by
 obtain ⟨n,xs,e,rfl⟩:=h
 obtain ⟨vs,h,_⟩:=r.box n xs e
 rw[h]
 exact fun z=>nomatch z
theorem RS.fresh (r:RS f α s σ H) {a:Addr} (h:H a=none):¬(f.F a\/BL s.Γ α a):=fun z=>by
 rcases z with z | z
 ·exact r.forb a z h
 ·exact r.live z h
theorem RS.fresh0 (r:RS f α s σ H) {a:Addr} (h:H a=none):f.H₀ a=none:=by
 cases e:f.H₀ a with
 | none=>rfl
 | some o=>
  by_cases c:f.L a
  ·exact absurd h (r.forb a (f.sub a c))
  ·rw[r.fr a o e c] at h
   cases h
theorem Ext.new (r:RS f α s σ H) {p:Addr} {o:HO} (h:H p=none):Ext f α α s.Γ s.Γ H (upd H p o):=
 ⟨⟨rfl,fun a u n e=>⟨by show upd H p o a=some u;rw[AO (A0 e h)];exact e,n⟩⟩,Nat.le_refl _,fun _ _=>rfl,fun _ xs _ e=>⟨xs,e⟩⟩
theorem RS.mv (r:RS f α s σ H) (e:Ext f α α s.Γ s.Γ H H') (k:∀ b o,H b=some o->H' b=some o):RS f α s σ H' where
 len:=r.len
 slot:=fun i d h=>let ⟨v,a,b⟩:=r.slot i d h;⟨v,a,b.ext e⟩
 box:=fun n xs h=>let ⟨vs,a,b⟩:=r.box n xs h;⟨vs,k _ _ a,b.kw e.kw⟩
 own:=r.own
 inj:=r.inj
 fr:=fun b o h n=>k _ _ (r.fr b o h n)
 forb:=fun a h=>by
  cases e:H a with
  | none=>exact absurd e (r.forb a h)
  | some o=>rw[k _ _ e];exact fun z=>nomatch z
theorem RS.new (r:RS f α s σ H) {p:Addr} {o:HO} (h:H p=none):RS f α s σ (upd H p o):=
 r.mv (.new r h) fun b u e=>by rw[AO (A0 e h)];exact e
theorem RS.set (r:RS f α s σ H) {i:Nat} {d:SV} {v:V} (h:RepV f α s.Γ H d v):RS f α {s with σ:=s.σ.set i (some d)} (σ.set i (some v)) H where
 len:=by rw[List.length_set,List.length_set];exact r.len
 slot:=fun j c e=>by
  have e:(s.σ.set i (some d))[j]?=some (some c):=e
  rw[List.getElem?_set] at e
  rw[List.getElem?_set]
  by_cases hij:i=j
  ·rw[if_pos hij] at e ⊢
   by_cases hl:i<s.σ.length
   ·rw[if_pos hl] at e
    cases e
    rw[if_pos (by rw[<-r.len];exact hl)]
    exact ⟨v,rfl,h⟩
   ·rw[if_neg hl] at e
    cases e
  ·rw[if_neg hij] at e ⊢
   exact r.slot j c e
 box:=r.box
 own:=r.own
 inj:=r.inj
 fr:=r.fr
 forb:=r.forb
theorem RS.slots (r:RS f α s σ H) {τ:List (Option SV)} {τ':St} (h:τ.length=τ'.length) (k:∀ (i:Nat) (d:SV),τ[i]?=some (some d)->∃ v,τ'[i]?=some (some v)/\RepV f α s.Γ H d v):RS f α {s with σ:=τ} τ' H:=
 ⟨h,k,r.box,r.own,r.inj,r.fr,r.forb⟩
theorem Ext.put {n:Nat} {xs ys:List D} {o:HO} (hn:Γ[n]?=some (some xs)):Ext f α α Γ (Γ.set n (some ys)) H (upd H (α n) o) where
 kw:=⟨rfl,fun a u h e=>by
  have na:a≠α n:=fun z=>h (.inr ⟨n,xs,hn,z.symm⟩)
  refine ⟨by show upd H (α n) o a=some u;rw[AO na];exact e,fun z=>?_⟩
  rcases z with z | ⟨m,zs,e1,e2⟩
  ·exact h (.inl z)
  ·rw[List.getElem?_set] at e1
   by_cases hm:n=m
   ·subst hm
    exact na e2.symm
   ·rw[if_neg hm] at e1
    exact h (.inr ⟨m,zs,e1,e2⟩)⟩
 m:=by rw[List.length_set];exact Nat.le_refl _
 al:=fun _ _=>rfl
 lv:=fun m zs _ e=>by
  rw[List.getElem?_set] at e
  by_cases hm:n=m
  ·subst hm;exact ⟨xs,hn⟩
  ·rw[if_neg hm] at e;exact ⟨zs,e⟩
theorem C5 {n:Nat} {xs:List D} {y:Option (List D)} {m:Nat} {z:Option (List D)} (hn:Γ[n]?=some (some xs)) (h:(Γ.set n y)[m]?=some z):(m=n/\z=y)\/(m≠n/\Γ[m]?=some z):=by
 rw[List.getElem?_set] at h
 by_cases hm:n=m
 ·rw[if_pos hm] at h
  subst hm
  rw[if_pos (List.getElem?_eq_some_iff.mp hn).1] at h
  cases h
  exact .inl ⟨rfl,rfl⟩
 ·rw[if_neg hm] at h
  exact .inr ⟨fun z=>hm z.symm,h⟩
theorem RS.put (r:RS f α s σ H) {n:Nat} {xs ys:List D} {vs:List V} (hn:s.Γ[n]?=some (some xs)) (h:Reps (wd f α s.Γ H) ys vs) :
  RS f α {s with Γ:=s.Γ.set n (some ys)} σ (upd H (α n) (.lst vs)):=by
 have e:Ext f α α s.Γ (s.Γ.set n (some ys)) H (upd H (α n) (.lst vs)):=.put hn
 refine ⟨r.len,fun i d h=>let ⟨v,a,b⟩:=r.slot i d h;⟨v,a,b.ext e⟩,fun m zs hm=>?_,fun m zs hm=>?_,fun m k zs us hm hk q=>?_,fun b o h1 h2=>?_,fun a h1=>?_⟩
 ·rcases C5 hn hm with ⟨rfl,z⟩ | ⟨hne,hm⟩
  ·cases z
   exact ⟨vs,An,h.kw e.kw⟩
  ·obtain ⟨us,a,b⟩:=r.box m zs hm
   exact ⟨us,by rw[AO (fun z=>hne (r.inj m n _ _ hm hn z))];exact a,b.kw e.kw⟩
 ·rcases C5 hn hm with ⟨rfl,z⟩ | ⟨hne,hm⟩
  ·exact r.own _ _ hn
  ·exact r.own _ _ hm
 ·have g:∀ {m zs},(s.Γ.set n (some ys))[m]?=some (some zs)->∃ ws,s.Γ[m]?=some (some ws):=fun {m zs} hm=>by
   rcases C5 hn hm with ⟨rfl,z⟩ | ⟨hne,hm⟩
   ·exact ⟨_,hn⟩
   ·exact ⟨_,hm⟩
  obtain ⟨_,g1⟩:=g hm
  obtain ⟨_,g2⟩:=g hk
  exact r.inj _ _ _ _ g1 g2 q
 ·have hb:=r.fr b o h1 h2
  rw[AO ?_]
  ·exact hb
  ·intro z
   have ow:=r.own n xs hn
   split at ow
   ·exact h2 (z▸ow)
   ·rw[<-z,h1] at ow;cases ow
 ·by_cases z:a=α n
  ·rw[z,An];exact fun z=>nomatch z
  ·rw[AO z];exact r.forb a h1
def BV (α:Nat->Addr) (n:Nat) (a:Addr):Nat->Addr:=fun k=>if k=n then a else α k
theorem Ext.add (r:RS f α s σ H) {a:Addr} {xs:List D} {o:HO} (h:H a=none):Ext f α (BV α s.Γ.length a) s.Γ (s.Γ++[some xs]) H (upd H a o) where
 kw:=⟨rfl,fun b u n e=>by
  have nb:b≠a:=A0 e h
  refine ⟨by show upd H a o b=some u;rw[AO nb];exact e,fun z=>?_⟩
  rcases z with z | ⟨m,zs,e1,e2⟩
  ·exact n (.inl z)
  ·by_cases hm:m<s.Γ.length
   ·rw[List.getElem?_append_left hm] at e1
    have e2:BV α s.Γ.length a m=b:=e2
    unfold BV at e2
    rw[if_neg (Nat.ne_of_lt hm)] at e2
    exact n (.inr ⟨m,zs,e1,e2⟩)
   ·have:m=s.Γ.length:=by
     have:=(List.getElem?_eq_some_iff.mp e1).1
     rw[List.length_append] at this
     simp at this
     lia
    subst this
    have e2:BV α s.Γ.length a s.Γ.length=b:=e2
    unfold BV at e2
    rw[if_pos rfl] at e2
    exact nb e2.symm⟩
 m:=by rw[List.length_append];lia
 al:=fun n h=>by unfold BV;rw[if_neg (Nat.ne_of_lt h)]
 lv:=fun n zs h e=>by rw[List.getElem?_append_left h] at e;exact ⟨zs,e⟩
theorem RS.add (r:RS f α s σ H) (hlo:s.lo<=s.Γ.length) {a:Addr} {xs:List D} {vs:List V} (h:H a=none) (hx:Reps (wd f α s.Γ H) xs vs) :
  RS f (BV α s.Γ.length a) {s with Γ:=s.Γ++[some xs]} σ (upd H a (.lst vs)):=by
 have e:Ext f α (BV α s.Γ.length a) s.Γ (s.Γ++[some xs]) H (upd H a (.lst vs)):=.add r h
 have old:∀ {m zs},(s.Γ++[some xs])[m]?=some (some zs)->(m<s.Γ.length/\s.Γ[m]?=some (some zs)/\BV α s.Γ.length a m=α m)\/(m=s.Γ.length/\zs=xs/\BV α s.Γ.length a m=a):=fun {m zs} hm=>by
  by_cases c:m<s.Γ.length
  ·rw[List.getElem?_append_left c] at hm
   exact .inl ⟨c,hm,e.al m c⟩
  ·have hl:=(List.getElem?_eq_some_iff.mp hm).1
   rw[List.length_append] at hl
   simp at hl
   have:m=s.Γ.length:=by lia
   subst this
   rw[List.getElem?_append_right (Nat.le_refl _)] at hm
   simp at hm
   exact .inr ⟨rfl,hm.symm,by unfold BV;rw[if_pos rfl]⟩
 refine ⟨r.len,fun i d h=>let ⟨v,a,b⟩:=r.slot i d h;⟨v,a,b.ext e⟩,fun m zs hm=>?_,fun m zs hm=>?_,fun m k zs us hm hk q=>?_,fun b o h1 h2=>?_,fun b h1=>?_⟩
 ·rcases old hm with ⟨c,g,z⟩ | ⟨c,rfl,z⟩
  ·obtain ⟨us,g1,g2⟩:=r.box m zs g
   refine ⟨us,?_,g2.kw e.kw⟩
   rw[z,AO (A0 g1 h)]
   exact g1
  ·exact ⟨vs,by rw[z,An],hx.kw e.kw⟩
 ·rcases old hm with ⟨c,g,z⟩ | ⟨c,_,z⟩
  ·rw[z];exact r.own m zs g
  ·rw[z,if_neg (by show ¬m<s.lo;lia)];exact r.fresh0 h
 ·rcases old hm with ⟨c,g,z⟩ | ⟨c,_,z⟩<;>rcases old hk with ⟨c',g',z'⟩ | ⟨c',_,z'⟩
  ·rw[z,z'] at q;exact r.inj _ _ _ _ g g' q
  ·rw[z,z'] at q
   obtain ⟨us,g1,_⟩:=r.box m _ g
   rw[q,h] at g1;cases g1
  ·rw[z,z'] at q
   obtain ⟨us,g1,_⟩:=r.box k _ g'
   rw[<-q,h] at g1;cases g1
  ·rw[c,c']
 ·have hb:=r.fr b o h1 h2
  rw[AO (A0 hb h)]
  exact hb
 ·by_cases z:b=a
  ·rw[z,An];exact fun z=>nomatch z
  ·rw[AO z];exact r.forb b h1
theorem RS.frz (r:RS f α s σ H) {n:Nat} {xs:List D} (hn:s.Γ[n]?=some (some xs)) (hlo:s.lo<=n) :
  RS f α {s with Γ:=s.Γ.set n none} σ H/\Ext f α α s.Γ (s.Γ.set n none) H H/\Rep (wd f α (s.Γ.set n none) H) (.lst xs) (.ref (α n)):=by
 have lv:∀ {a},BL (s.Γ.set n none) α a->BL s.Γ α a/\a≠α n:=fun {a} hh_=>by
  obtain ⟨m,zs,e1,e2⟩:=hh_
  rcases C5 hn e1 with ⟨_,z⟩ | ⟨hne,hm⟩
  ·cases z
  ·exact ⟨⟨m,zs,hm,e2⟩,fun z=>hne (r.inj m n _ _ hm hn (e2.trans z))⟩
 have e:Ext f α α s.Γ (s.Γ.set n none) H H:=⟨⟨rfl,fun a u h e=>⟨e,fun z=>by
  rcases z with z | z
  ·exact h (.inl z)
  ·exact h (.inr (lv z).1)⟩⟩,by rw[List.length_set];exact Nat.le_refl _,fun _ _=>rfl,fun m zs _ e1=>by
  rcases C5 hn e1 with ⟨_,z⟩ | ⟨_,hm⟩
  ·cases z
  ·exact ⟨zs,hm⟩⟩
 have old:∀ {m zs},(s.Γ.set n none)[m]?=some (some zs)->s.Γ[m]?=some (some zs):=fun {m zs} hm=>by
  rcases C5 hn hm with ⟨_,z⟩ | ⟨_,hm⟩
  ·cases z
  ·exact hm
 refine ⟨⟨r.len,fun i d h=>let ⟨v,a,b⟩:=r.slot i d h;⟨v,a,b.ext e⟩,fun m zs hm=>let ⟨us,a,b⟩:=r.box m zs (old hm);⟨us,a,b.kw e.kw⟩,fun m zs hm=>r.own m zs (old hm),fun m k zs us hm hk q=>r.inj m k _ _ (old hm) (old hk) q,r.fr,r.forb⟩,e,?_⟩
 obtain ⟨vs,h1,h2⟩:=r.box n xs hn
 unfold Rep
 refine ⟨α n,vs,rfl,fun z=>?_,h1,h2.kw e.kw⟩
 rcases z with z | z
 ·have ow:=r.own n xs hn
  rw[if_neg (Nat.not_lt.mpr hlo)] at ow
  exact f.dom _ z ow
 ·exact (lv z).2 rfl
end
end DL
namespace DL
open PySem L2
abbrev ME:=DS->Option (SV×DS)
abbrev MF:=DS->Option (List D×DS)
abbrev MT:=DS->Option (Bool×DS)
abbrev MA:=DS->Option (List SV×DS)
def RepVs (f:Fr) (α:Nat->Addr) (Γ:Gm) (H:Hp):List SV->List V->Prop
 | [],vs=>vs=[]
 | d::ds,vs=>∃ v r,vs=v::r/\RepV f α Γ H d v/\RepVs f α Γ H ds r
def tD (f:Fr) (m:ME):TE:=fun σ H Q=>∃ α s r,RS f α s σ H/\s.lo<=s.Γ.length/\m s=some r/\∀ α' v H',RS f α' r.2 σ H'->r.2.lo=s.lo->Ext f α α' s.Γ r.2.Γ H H'->RepV f α' r.2.Γ H' r.1 v->Q v H'
def tDF (f:Fr) (m:MF):TE:=fun σ H Q=>∃ α s r,RS f α s σ H/\s.lo<=s.Γ.length/\m s=some r/\∀ α' a vs H',RS f α' r.2 σ H'->r.2.lo=s.lo->Ext f α α' s.Γ r.2.Γ H H'->H' a=none->Reps (wd f α' r.2.Γ H') r.1 vs->Q (.ref a) (upd H' a (.lst vs))
def tDT (f:Fr) (m:MT):TT:=fun σ H Q=>∃ α s r,RS f α s σ H/\s.lo<=s.Γ.length/\m s=some r/\∀ α' H',RS f α' r.2 σ H'->r.2.lo=s.lo->Ext f α α' s.Γ r.2.Γ H H'->Q r.1 H'
def tDA (f:Fr) (m:MA):TA:=fun σ H Q=>∃ α s r,RS f α s σ H/\s.lo<=s.Γ.length/\m s=some r/\∀ α' vs H',RS f α' r.2 σ H'->r.2.lo=s.lo->Ext f α α' s.Γ r.2.Γ H H'->RepVs f α' r.2.Γ H' r.1 vs->Q vs H'
structure DE (X:Cx) (e:Expr) (m:ME):Prop where
 h:∀ f:Fr,f.K=X.K->PE X e (tD f m)
instance {X:Cx} {e:Expr} {m:ME}:CoeFun (DE X e m) fun _=>∀ f:Fr,f.K=X.K->PE X e (tD f m):=⟨DE.h⟩
structure DF (X:Cx) (e:Expr) (m:MF):Prop where
 h:∀ f:Fr,f.K=X.K->PE X e (tDF f m)
instance {X:Cx} {e:Expr} {m:MF}:CoeFun (DF X e m) fun _=>∀ f:Fr,f.K=X.K->PE X e (tDF f m):=⟨DF.h⟩
structure DT (X:Cx) (e:Expr) (m:MT):Prop where
 h:∀ f:Fr,f.K=X.K->PT X e (tDT f m)
instance {X:Cx} {e:Expr} {m:MT}:CoeFun (DT X e m) fun _=>∀ f:Fr,f.K=X.K->PT X e (tDT f m):=⟨DT.h⟩
structure DW (X:Cx) (e:Expr) (m:MT):Prop where
 h:∀ f:Fr,f.K=X.K->PW X e (tDT f m)
instance {X:Cx} {e:Expr} {m:MT}:CoeFun (DW X e m) fun _=>∀ f:Fr,f.K=X.K->PW X e (tDT f m):=⟨DW.h⟩
structure DA (X:Cx) (es:List Expr) (m:MA):Prop where
 h:∀ f:Fr,f.K=X.K->PA X es (tDA f m)
instance {X:Cx} {es:List Expr} {m:MA}:CoeFun (DA X es m) fun _=>∀ f:Fr,f.K=X.K->PA X es (tDA f m):=⟨DA.h⟩
section
variable {X:Cx} {e a b c:Expr} {t t':TE} {pos:Pos}
theorem PE.imp (h:PE X e t) (k:∀ σ H Q,t' σ H Q->t σ H Q):PE X e t':=fun pins s σ H Q I q=>h pins s σ H Q I (k _ _ _ q)
theorem PT.imp {t t':TT} (h:PT X e t) (k:∀ σ H Q,t' σ H Q->t σ H Q):PT X e t':=fun pins s σ H Q I q=>h pins s σ H Q I (k _ _ _ q)
theorem PW.imp {t t':TT} (h:PW X e t) (k:∀ σ H Q,t' σ H Q->t σ H Q):PW X e t':=fun wh pins s σ H Q I q=>h wh pins s σ H Q I (k _ _ _ q)
theorem PA.imp {es:List Expr} {t t':TA} (h:PA X es t) (k:∀ σ H Q,t' σ H Q->t σ H Q):PA X es t':=fun pos pins s σ H Q I q=>h pos pins s σ H Q I (k _ _ _ q)
@[simp] def AB (i:Nat):ME:=fun s=>match s.σ[i]? with
 | some (some d)=>some (d,s)
 | _=>none
theorem NQ {i:Nat} {x:Str} (h:PE X (.Name x pos) (Bj i)):DE X (.Name x pos) (AB i):=.mk fun f hf=>PE.imp h fun σ H Q hh_=>by
 obtain ⟨α,s,r,rs,lo,e,q⟩:=hh_
 unfold AB at e
 split at e
 ·rename_i d hd
  cases e
  obtain ⟨v,h1,h2⟩:=rs.slot i d hd
  exact ⟨v,h1,q α v H rs rfl .refl h2⟩
 ·cases e
theorem dv (i:Nat) {x:Str} (hN:X.N[i]?=some x:=by rfl) (hv:Vis X.env.scope x:=by first | exact Or.inl rfl | exact Or.inr (Or.inl rfl) | exact Or.inr (Or.inr rfl)) (hd:(x == ("__debug__":Str))=false:=by decide) (hcd:(x == ("__classdict__":Str))=false:=by decide):DE X (.Name x pos) (AB i):=NQ (JA hN hv hd hcd)
@[simp] def GH (i:Nat):MF:=fun s=>match s.σ[i]? with
 | some (some (.b n))=>match s.Γ[n]? with
  | some (some xs)=>if s.lo<=n then some (xs,{s with σ:=s.σ.set i none,Γ:=s.Γ.set n none}) else none
  | _=>none
 | _=>none
@[simp] def mC (d:D):ME:=fun s=>some (.v d,s)
theorem FD {d:D} {v:V} (h:PE X e (tC v)) (r:∀ W,Rep W d v):DE X e (mC d):=.mk fun f hf=>PE.imp h fun σ H Q hh_=>by
 obtain ⟨α,s,r',rs,lo,e,q⟩:=hh_
 cases e
 exact q α v H rs rfl .refl (r _)
theorem AH {i j}:DE X (.Constant (.int i) j pos) (mC (.int i)):=FD Gy fun W=>by unfold Rep;rfl
theorem BH {i j}:DE X (.Constant (.bool i) j pos) (mC (.bl i)):=FD Kg fun W=>by unfold Rep;rfl
theorem Cg {j}:DE X (.Constant .none j pos) (mC .non):=FD PF fun W=>by unfold Rep;rfl
theorem Ax {i j}:DE X (.Constant (.str i) j pos) (mC (.str i)):=FD DR fun W=>by unfold Rep;rfl
theorem Ec {f:Fr} {α:Nat->Addr} {s:DS} {σ:St} {H:Hp} {p:Addr} {xs:List D} {vs:List V} (r:RS f α s σ H) (h:H p=none) (hx:Reps (wd f α s.Γ H) xs vs):Rep (wd f α s.Γ (upd H p (.lst vs))) (.lst xs) (.ref p):=by
 unfold Rep
 exact ⟨p,vs,rfl,r.fresh h,An,hx.kw (Ext.new r h).kw⟩
theorem GA {f:Fr} {α:Nat->Addr} {s:DS} {σ:St} {H:Hp} {p:Addr} {xs:List D} {vs:List V} (r:RS f α s σ H) (h:H p=none) (hx:Reps (wd f α s.Γ H) xs vs):Rep (wd f α s.Γ (upd H p (.tup vs))) (.tup xs) (.ref p):=by
 unfold Rep
 exact ⟨p,vs,rfl,r.fresh h,An,hx.kw (Ext.new r h).kw⟩
@[simp] def AE (m:MF):ME:=fun s=>(m s).map fun r=>(.v (.lst r.1),r.2)
theorem AM {m:MF} (h:DF X e m):DE X e (AE m):=.mk fun f hf=>PE.imp (h f hf) fun σ H Q hh_=>by
 obtain ⟨α,s,r,rs,lo,e,q⟩:=hh_
 unfold AE at e
 cases hm:m s with
 | none=>rw[hm] at e;cases e
 | some r'=>
  rw[hm] at e
  cases e
  exact ⟨α,s,r',rs,lo,hm,fun α' p vs H' rs' l' ex hp hx=>q α' _ _ (rs'.new hp) l' (ex.trans (.new rs' hp)) (Ec rs' hp hx)⟩
@[simp] def AC:MA:=fun s=>some ([],s)
@[simp] def AA (m:ME) (ms:MA):MA:=fun s=>(m s).bind fun r=>(ms r.2).map fun q=>(r.1::q.1,q.2)
theorem RepVs.nil {f:Fr} {α:Nat->Addr} {Γ:Gm} {H:Hp}:RepVs f α Γ H [] []:=by unfold RepVs;rfl
theorem RepVs.cons {f:Fr} {α:Nat->Addr} {Γ:Gm} {H:Hp} {d:SV} {v:V} {ds:List SV} {vs:List V} (h:RepV f α Γ H d v) (t:RepVs f α Γ H ds vs):RepVs f α Γ H (d::ds) (v::vs):=by unfold RepVs;exact ⟨v,vs,rfl,h,t⟩
theorem RepVs.cons_inv {f:Fr} {α:Nat->Addr} {Γ:Gm} {H:Hp} {d:SV} {ds:List SV} {vs:List V} (h:RepVs f α Γ H (d::ds) vs):∃ v r,vs=v::r/\RepV f α Γ H d v/\RepVs f α Γ H ds r:=by unfold RepVs at h;exact h
theorem RepVs.nil_inv {f:Fr} {α:Nat->Addr} {Γ:Gm} {H:Hp} {vs:List V} (h:RepVs f α Γ H [] vs):vs=[]:=by unfold RepVs at h;exact h
theorem RepVs.len {f:Fr} {α:Nat->Addr} {Γ:Gm} {H:Hp}:∀ {ds:List SV} {vs:List V},RepVs f α Γ H ds vs->vs.length=ds.length
 | [],vs,h=>by rw[h.nil_inv];rfl
 | d::ds,vs,h=>by
  obtain ⟨v,r,rfl,_,h2⟩:=h.cons_inv
  rw[List.length_cons,List.length_cons,h2.len]
theorem AF:DA X [] AC:=.mk fun f hf=>PA.imp Bc fun σ H Q hh_=>by
 obtain ⟨α,s,r,rs,lo,e,q⟩:=hh_
 cases e
 exact q α [] H rs rfl .refl .nil
theorem AD {es:List Expr} {m:ME} {ms:MA} (h:DE X e m) (hs:DA X es ms) (hst:starEach (e::es) X.env=(false,eval e X.env)::starEach es X.env:=by rfl):DA X (e::es) (AA m ms):=.mk fun f hf=>
 PA.imp (BI (h f hf) (hs f hf) hst) fun σ H Q hh_=>by
  obtain ⟨α,s,r,rs,lo,e,q⟩:=hh_
  unfold AA at e
  cases h1:m s with
  | none=>rw[h1] at e;cases e
  | some r1=>
   rw[h1] at e
   cases h2:ms r1.2 with
   | none=>simp[h2] at e
   | some r2=>
    simp[h2] at e
    subst e
    refine ⟨α,s,r1,rs,lo,h1,fun α1 v H1 rs1 l1 e1 hv=>⟨α1,r1.2,r2,rs1,by rw[l1];exact Nat.le_trans lo e1.m,h2,fun α2 vs H2 rs2 l2 e2 hvs=>?_⟩⟩
    exact q α2 _ H2 rs2 (l2.trans l1) (e1.trans e2) (.cons (hv.ext e2) hvs)
@[simp] def trees:List SV->Option (List D)
 | []=>some []
 | .v d::r=>(trees r).map (d::·)
 | _=>none
theorem Gp {f:Fr} {α:Nat->Addr} {Γ:Gm} {H:Hp}:∀ {ds:List SV} {xs:List D} {vs:List V},trees ds=some xs->RepVs f α Γ H ds vs->Reps (wd f α Γ H) xs vs
 | [],xs,vs,e,h=>by cases e;rw[h.nil_inv];exact .nil
 | .v d::r,xs,vs,e,h=>by
  obtain ⟨v,q,rfl,h1,h2⟩:=h.cons_inv
  unfold trees at e
  cases ht:trees r with
  | none=>rw[ht] at e;cases e
  | some ys=>
   rw[ht] at e
   cases e
   exact .cons h1 (Gp ht h2)
 | .b n::r,xs,vs,e,h=>by unfold trees at e;cases e
 | .p n d::r,xs,vs,e,h=>by unfold trees at e;cases e
 | .l ns::r,xs,vs,e,h=>by unfold trees at e;cases e
def big:Nat:=1000000
theorem Ct {n:Nat} (h:n<=big):n<=sizeLine:=Ev.small h
theorem Qw {n:Nat} (h:n<=big):n<sizeLine:=Ev.IK h
@[simp] def AG (ms:MA):MF:=fun s=>(ms s).bind fun r=>(trees r.1).bind fun xs=>if xs.length<=big then some (xs,r.2) else none
@[simp] def AN (ms:MA):ME:=fun s=>(ms s).bind fun r=>(trees r.1).bind fun xs=>if xs.length<=big then some (.v (.tup xs),r.2) else none
theorem bind_some {α β:Type} {o:Option α} {g:α->Option β} {z:β} (h:o.bind g=some z):∃ y,o=some y/\g y=some z:=by
 cases o with
 | none=>cases h
 | some y=>exact ⟨y,rfl,h⟩
theorem Af {α β:Type} {o:Option α} {g:α->β} {z:β} (h:o.map g=some z):∃ y,o=some y/\g y=z:=by
 cases o with
 | none=>cases h
 | some y=>exact ⟨y,rfl,Option.some.inj h⟩
theorem AX {es:List Expr} {ms:MA} (h:DA X es ms):DF X (.List es pos) (AG ms):=.mk fun f hf=>PE.imp (Ki (h f hf)) fun σ H Q hh_=>by
 obtain ⟨α,s,r,rs,lo,e,q⟩:=hh_
 obtain ⟨r1,h1,e⟩:=bind_some e
 obtain ⟨xs,h2,e⟩:=bind_some e
 split at e
 ·rename_i hz
  cases e
  refine ⟨α,s,r1,rs,lo,h1,fun α1 vs H1 rs1 l1 e1 hvs=>?_⟩
  have hx:=Gp h2 hvs
  have hz':vs.length<=sizeLine:=by rw[hx.len];exact Ct hz
  exact ⟨hz',fun p hp=>q α1 p vs H1 rs1 l1 e1 hp hx⟩
 ·cases e
theorem A6 {es:List Expr} {ms:MA} {k} (h:DA X es ms):DE X (.Tuple es k pos) (AN ms):=.mk fun f hf=>PE.imp (Jz (h f hf)) fun σ H Q hh_=>by
 obtain ⟨α,s,r,rs,lo,e,q⟩:=hh_
 obtain ⟨r1,h1,e⟩:=bind_some e
 obtain ⟨xs,h2,e⟩:=bind_some e
 split at e
 ·rename_i hz
  cases e
  refine ⟨α,s,r1,rs,lo,h1,fun α1 vs H1 rs1 l1 e1 hvs=>?_⟩
  have hx:=Gp h2 hvs
  exact ⟨by rw[hx.len];exact Ct hz,fun p hp=>q α1 _ _ (rs1.new hp) l1 (e1.trans (.new rs1 hp)) (GA rs1 hp hx)⟩
 ·cases e
def OpD (X:Cx) (g:Gm->SV->SV->Option D) (r:R2):Prop:=∀ (f:Fr) (α:Nat->Addr) (s:DS) (σ:St) (H:Hp) (x y:SV) (u v:V) (z:D) (Q:VK),f.K=X.K->RS f α s σ H->RepV f α s.Γ H x u->RepV f α s.Γ H y v->g s.Γ x y=some z ->
 (∀ w H',RS f α s σ H'->Ext f α α s.Γ s.Γ H H'->Rep (wd f α s.Γ H') z w->Q w H')->r u v H Q
def OpF (X:Cx) (g:Gm->SV->SV->Option (List D)) (r:R2):Prop:=∀ (f:Fr) (α:Nat->Addr) (s:DS) (σ:St) (H:Hp) (x y:SV) (u v:V) (z:List D) (Q:VK),f.K=X.K->RS f α s σ H->RepV f α s.Γ H x u->RepV f α s.Γ H y v->g s.Γ x y=some z ->
 (∀ a vs,H a=none->Reps (wd f α s.Γ H) z vs->Q (.ref a) (upd H a (.lst vs)))->r u v H Q
@[simp] def mOp (g:Gm->SV->SV->Option D) (ma mb:ME):ME:=fun s=>(ma s).bind fun x=>(mb x.2).bind fun y=>(g y.2.Γ x.1 y.1).map fun z=>(.v z,y.2)
@[simp] def Aj (g:Gm->SV->SV->Option (List D)) (ma mb:ME):MF:=fun s=>(ma s).bind fun x=>(mb x.2).bind fun y=>(g y.2.Γ x.1 y.1).map fun z=>(z,y.2)
variable {g:Gm->SV->SV->Option D} {gF:Gm->SV->SV->Option (List D)} {r:R2} {ma mb mc:ME}
theorem GP {f:Fr} {σ:St} {H:Hp} {Q:VK} (hf:f.K=X.K) (hg:OpD X g r) (h:tD f (mOp g ma mb) σ H Q):tOp r (tD f ma) (tD f mb) σ H Q:=by
 obtain ⟨α,s,r',rs,lo,e,q⟩:=h
 obtain ⟨x,h1,e⟩:=bind_some e
 obtain ⟨y,h2,e⟩:=bind_some e
 obtain ⟨z,h3,rfl⟩:=Af e
 refine ⟨α,s,x,rs,lo,h1,fun α1 u H1 rs1 l1 e1 hu=>⟨α1,x.2,y,rs1,by rw[l1];exact Nat.le_trans lo e1.m,h2,fun α2 v H2 rs2 l2 e2 hv=>?_⟩⟩
 exact hg f α2 y.2 σ H2 x.1 y.1 u v z Q hf rs2 (hu.ext e2) hv h3 fun w H3 rs3 e3 hw=>q α2 w H3 rs3 (l2.trans l1) ((e1.trans e2).trans e3) hw
theorem Oj {f:Fr} {σ:St} {H:Hp} {Q:VK} (hf:f.K=X.K) (hg:OpF X gF r) (h:tDF f (Aj gF ma mb) σ H Q):tOp r (tD f ma) (tD f mb) σ H Q:=by
 obtain ⟨α,s,r',rs,lo,e,q⟩:=h
 obtain ⟨x,h1,e⟩:=bind_some e
 obtain ⟨y,h2,e⟩:=bind_some e
 obtain ⟨z,h3,rfl⟩:=Af e
 refine ⟨α,s,x,rs,lo,h1,fun α1 u H1 rs1 l1 e1 hu=>⟨α1,x.2,y,rs1,by rw[l1];exact Nat.le_trans lo e1.m,h2,fun α2 v H2 rs2 l2 e2 hv=>?_⟩⟩
 exact hg f α2 y.2 σ H2 x.1 y.1 u v z Q hf rs2 (hu.ext e2) hv h3 fun a vs ha hx=>q α2 a vs H2 rs2 (l2.trans l1) (e1.trans e2) ha hx
theorem Dm {op:Operator} (ho:OpR X (binaryOp op) r) (hg:OpD X g r) (ha:DE X a ma) (hb:DE X b mb):DE X (.BinOp a op b pos) (mOp g ma mb):=.mk fun f hf=>PE.imp (Kz ho (ha f hf) (hb f hf)) fun σ H Q h=>GP hf hg h
theorem KC {op:Operator} (ho:OpR X (binaryOp op) r) (hg:OpF X gF r) (ha:DE X a ma) (hb:DE X b mb):DF X (.BinOp a op b pos) (Aj gF ma mb):=.mk fun f hf=>PE.imp (Kz ho (ha f hf) (hb f hf)) fun σ H Q h=>Oj hf hg h
theorem RK (ho:IxR X r) (hg:OpD X g r) (ha:DE X a ma) (hb:DE X b mb) (hs:GT b):DE X (.Subscript a b pos) (mOp g ma mb):=.mk fun f hf=>PE.imp (JG ho (ha f hf) (hb f hf) hs) fun σ H Q h=>GP hf hg h
theorem Im {op:CmpOp} (ho:OpR X (compareOp op) r) (hg:OpD X g r) (ha:DE X a ma) (hb:DE X b mb) (hm:behindInMarks op b=false):DE X (.Compare a [op] [b] pos) (mOp g ma mb):=.mk fun f hf=>PE.imp (RJ ho (ha f hf) (hb f hf) hm) fun σ H Q h=>GP hf hg h
@[simp] def Cv:SV->Option Bool
 | .v (.bl b)=>some b
 | _=>none
@[simp] def AV (m:ME):MT:=fun s=>(m s).bind fun x=>(Cv x.1).map fun b=>(b,x.2)
theorem GN {f:Fr} {α:Nat->Addr} {Γ:Gm} {H:Hp} {d:SV} {b:Bool} {v:V} (h:Cv d=some b) (r:RepV f α Γ H d v):v=.bl b:=by
 unfold Cv at h
 split at h
 ·cases h
  have r:Rep (wd f α Γ H) (.bl b) v:=r
  unfold Rep at r
  exact r
 ·cases h
theorem Da {op:CmpOp} (ho:OpR X (compareOp op) r) (hg:OpD X g r) (ha:DE X a ma) (hb:DE X b mb) (hm:behindInMarks op b=false):DT X (.Compare a [op] [b] pos) (AV (mOp g ma mb)):=.mk fun f hf=>PT.imp (LC ho (ha f hf) (hb f hf) hm) fun σ H Q hh_=>by
 obtain ⟨α,s,r',rs,lo,e,q⟩:=hh_
 obtain ⟨x,h1,e⟩:=bind_some e
 obtain ⟨k,h2,rfl⟩:=Af e
 exact GP hf hg ⟨α,s,x,rs,lo,h1,fun α' v H' rs' l' ex hv=>⟨k,GN h2 hv,q α' H' rs' l' ex⟩⟩
@[simp] def elems (Γ:Gm):SV->Option (List D)
 | .v (.lst xs)=>some xs
 | .b n=>(Γ[n]?).join
 | _=>none
theorem BQ {f:Fr} {α:Nat->Addr} {s:DS} {σ:St} {H:Hp} {d:SV} {xs:List D} {v:V} (rs:RS f α s σ H) (h:elems s.Γ d=some xs) (r:RepV f α s.Γ H d v):∃ a vs,v=.ref a/\H a=some (.lst vs)/\Reps (wd f α s.Γ H) xs vs:=by
 unfold elems at h
 split at h
 ·rename_i ys
  cases h
  have r:Rep (wd f α s.Γ H) (.lst xs) v:=r
  unfold Rep at r
  obtain ⟨a,vs,e,_,h1,h2⟩:=r
  exact ⟨a,vs,e,h1,h2⟩
 ·rename_i n
  have h:s.Γ[n]?=some (some xs):=by
   cases hg:s.Γ[n]? with
   | none=>rw[hg] at h;cases h
   | some o=>rw[hg] at h;exact congrArg some h
  obtain ⟨vs,h1,h2⟩:=rs.box n xs h
  exact ⟨α n,vs,r.2,h1,h2⟩
 ·cases h
@[simp] def HM (Γ:Gm):SV->Option Bool
 | .v .non=>some false
 | .v (.bl b)=>some b
 | .v (.int i)=>some (i != 0)
 | .v (.tup xs)=>some (!xs.isEmpty)
 | d=>(elems Γ d).map fun xs=>!xs.isEmpty
theorem isE {W:Wd} {xs:List D} {vs:List V} (h:Reps W xs vs):(!xs.isEmpty)=!vs.isEmpty:=by
 cases xs with
 | nil=>rw[h.nil_inv];rfl
 | cons d ds=>obtain ⟨v,r,rfl,_⟩:=h.cons_inv;rfl
theorem MY {f:Fr} {α:Nat->Addr} {s:DS} {σ:St} {H:Hp} {d:SV} {b:Bool} {v:V} (rs:RS f α s σ H) (h:HM s.Γ d=some b) (r:RepV f α s.Γ H d v):Ii f.K v H b:=by
 unfold HM at h
 split at h
 ·cases h
  have r:Rep (wd f α s.Γ H) .non v:=r
  unfold Rep at r
  rw[r];rfl
 ·cases h
  have r:Rep (wd f α s.Γ H) (.bl b) v:=r
  unfold Rep at r
  rw[r];rfl
 ·rename_i i
  cases h
  have r:Rep (wd f α s.Γ H) (.int i) v:=r
  unfold Rep at r
  rw[r];rfl
 ·rename_i xs
  cases h
  have r:Rep (wd f α s.Γ H) (.tup xs) v:=r
  unfold Rep at r
  obtain ⟨a,vs,e,_,h1,h2⟩:=r
  rw[e]
  exact .inr (.inl ⟨vs,SqT.of h1,isE h2⟩)
 ·obtain ⟨xs,h1,rfl⟩:=Af h
  obtain ⟨a,vs,e,h2,h3⟩:=BQ rs h1 r
  rw[e]
  exact .inl ⟨vs,SqL.of h2,isE h3⟩
@[simp] def Ao (m:ME):MT:=fun s=>(m s).bind fun x=>(HM x.2.Γ x.1).map fun b=>(b,x.2)
theorem Bn (h:DE X e ma) (he:∀ whole,isTrue e X.env whole=(do let v <-whole;standAt e.pos;holding [v] (truthy v)):=by intro _;rfl):DT X e (Ao ma):=.mk fun f hf=>PT.imp (O9 (h f hf) he) fun σ H Q hh_=>by
 obtain ⟨α,s,r',rs,lo,e,q⟩:=hh_
 obtain ⟨x,h1,e⟩:=bind_some e
 obtain ⟨k,h2,rfl⟩:=Af e
 exact ⟨α,s,x,rs,lo,h1,fun α' v H' rs' l' ex hv=>⟨k,by rw[<-hf];exact MY rs' h2 hv,q α' H' rs' l' ex⟩⟩
@[simp] def A9 (m:MT):MT:=fun s=>(m s).map fun x=>(!x.1,x.2)
@[simp] def Cc (m n:MT):MT:=fun s=>(m s).bind fun x=>if x.1=true then n x.2 else some (false,x.2)
@[simp] def mOr (m n:MT):MT:=fun s=>(m s).bind fun x=>if x.1=true then some (true,x.2) else n x.2
variable {ta tb:MT}
theorem CZ (h:DT X e ta):DT X (.UnaryOp .Not e pos) (A9 ta):=.mk fun f hf=>PT.imp (Gn (h f hf)) fun σ H Q hh_=>by
 obtain ⟨α,s,r',rs,lo,e,q⟩:=hh_
 obtain ⟨x,h1,rfl⟩:=Af e
 exact ⟨α,s,x,rs,lo,h1,fun α' H' rs' l' ex=>q α' H' rs' l' ex⟩
theorem Hq (h:DT X a ta):DW X (.BoolOp .And [a] pos) ta:=.mk fun f hf=>PV (h f hf)
theorem DK (h:DT X a ta):DW X (.BoolOp .Or [a] pos) ta:=.mk fun f hf=>Ke (h f hf)
theorem Hw {rest:List Expr} (h:DT X a ta) (h2:DW X (.BoolOp .And (b::rest) pos) tb):DW X (.BoolOp .And (a::b::rest) pos) (Cc ta tb):=.mk fun f hf=>PW.imp (SH (h f hf) (h2 f hf)) fun σ H Q hh_=>by
 obtain ⟨α,s,r',rs,lo,e,q⟩:=hh_
 obtain ⟨x,h1,e⟩:=bind_some e
 refine ⟨α,s,x,rs,lo,h1,fun α' H' rs' l' ex=>?_⟩
 split at e
 ·rename_i c
  rw[if_pos c]
  exact ⟨α',x.2,r',rs',by rw[l'];exact Nat.le_trans lo ex.m,e,fun α2 H2 rs2 l2 e2=>q α2 H2 rs2 (l2.trans l') (ex.trans e2)⟩
 ·rename_i c
  cases e
  rw[if_neg c]
  exact q α' H' rs' l' ex
theorem Co {rest:List Expr} (h:DT X a ta) (h2:DW X (.BoolOp .Or (b::rest) pos) tb):DW X (.BoolOp .Or (a::b::rest) pos) (mOr ta tb):=.mk fun f hf=>PW.imp (ID (h f hf) (h2 f hf)) fun σ H Q hh_=>by
 obtain ⟨α,s,r',rs,lo,e,q⟩:=hh_
 obtain ⟨x,h1,e⟩:=bind_some e
 refine ⟨α,s,x,rs,lo,h1,fun α' H' rs' l' ex=>?_⟩
 split at e
 ·rename_i c
  cases e
  rw[if_pos c]
  exact q α' H' rs' l' ex
 ·rename_i c
  rw[if_neg c]
  exact ⟨α',x.2,r',rs',by rw[l'];exact Nat.le_trans lo ex.m,e,fun α2 H2 rs2 l2 e2=>q α2 H2 rs2 (l2.trans l') (ex.trans e2)⟩
theorem Ca (h:DW X e ta):DT X e ta:=.mk fun f hf=>PW.pt (h f hf)
@[simp] def LG (m:ME):ME:=fun s=>(m s).bind fun x=>(Cv x.1).map fun b=>(.v (.bl (!b)),x.2)
@[simp] def CA (m n:ME):ME:=fun s=>(m s).bind fun x=>(Cv x.1).bind fun b=>if b=true then n x.2 else some (.v (.bl false),x.2)
theorem Fk {f:Fr} {α:Nat->Addr} {Γ:Gm} {H:Hp} {b:Bool}:RepV f α Γ H (.v (.bl b)) (.bl b):=by show Rep _ _ _;unfold Rep;rfl
theorem TK (h:DE X e ma):DE X (.UnaryOp .Not e pos) (LG ma):=.mk fun f hf=>PE.imp (QB (h f hf)) fun σ H Q hh_=>by
 obtain ⟨α,s,r',rs,lo,e,q⟩:=hh_
 obtain ⟨x,h1,e⟩:=bind_some e
 obtain ⟨k,h2,rfl⟩:=Af e
 exact ⟨α,s,x,rs,lo,h1,fun α' v H' rs' l' ex hv=>⟨k,GN h2 hv,q α' _ H' rs' l' ex Fk⟩⟩
theorem EO {op} (h:DE X a ma):DE X (.BoolOp op [a] pos) ma:=.mk fun f hf=>Pr (h f hf)
theorem C1 {rest:List Expr} (h:DE X a ma) (h2:DE X (.BoolOp .And (b::rest) pos) mb):DE X (.BoolOp .And (a::b::rest) pos) (CA ma mb):=.mk fun f hf=>PE.imp (QT (h f hf) (h2 f hf)) fun σ H Q hh_=>by
 obtain ⟨α,s,r',rs,lo,e,q⟩:=hh_
 obtain ⟨x,h1,e⟩:=bind_some e
 obtain ⟨k,h2,e⟩:=bind_some e
 refine ⟨α,s,x,rs,lo,h1,fun α' v H' rs' l' ex hv=>⟨k,GN h2 hv,?_⟩⟩
 split at e
 ·rename_i c
  rw[if_pos c]
  exact ⟨α',x.2,r',rs',by rw[l'];exact Nat.le_trans lo ex.m,e,fun α2 v2 H2 rs2 l2 e2=>q α2 v2 H2 rs2 (l2.trans l') (ex.trans e2)⟩
 ·rename_i c
  cases e
  rw[if_neg c]
  exact q α' _ H' rs' l' ex Fk
def CaD (X:Cx) (g:Gm->List SV->Option D) (r:List V->Hp->VK->Prop):Prop:=∀ (f:Fr) (α:Nat->Addr) (s:DS) (σ:St) (H:Hp) (xs:List SV) (us:List V) (z:D) (Q:VK),f.K=X.K->RS f α s σ H->RepVs f α s.Γ H xs us->g s.Γ xs=some z ->
 (∀ w H',RS f α s σ H'->Ext f α α s.Γ s.Γ H H'->Rep (wd f α s.Γ H') z w->Q w H')->r us H Q
def CaF (X:Cx) (g:Gm->List SV->Option (List D)) (r:List V->Hp->VK->Prop):Prop:=∀ (f:Fr) (α:Nat->Addr) (s:DS) (σ:St) (H:Hp) (xs:List SV) (us:List V) (z:List D) (Q:VK),f.K=X.K->RS f α s σ H->RepVs f α s.Γ H xs us->g s.Γ xs=some z ->
 (∀ a vs,H a=none->Reps (wd f α s.Γ H) z vs->Q (.ref a) (upd H a (.lst vs)))->r us H Q
@[simp] def AR (g:Gm->List SV->Option D) (ms:MA):ME:=fun s=>(ms s).bind fun x=>(g x.2.Γ x.1).map fun z=>(.v z,x.2)
@[simp] def Bb (g:Gm->List SV->Option (List D)) (ms:MA):MF:=fun s=>(ms s).bind fun x=>(g x.2.Γ x.1).map fun z=>(z,x.2)
variable {gc:Gm->List SV->Option D} {gcF:Gm->List SV->Option (List D)} {rc:List V->Hp->VK->Prop} {ms:MA} {es:List Expr} {x:Str} {p:Pos} {id T:String}
theorem KG {f:Fr} {σ:St} {H:Hp} {Q:VK} (hf:f.K=X.K) (hg:CaD X gc rc) (h:tD f (AR gc ms) σ H Q):tCB rc (tDA f ms) σ H Q:=by
 obtain ⟨α,s,r',rs,lo,e,q⟩:=h
 obtain ⟨x,h1,e⟩:=bind_some e
 obtain ⟨z,h3,rfl⟩:=Af e
 refine ⟨α,s,x,rs,lo,h1,fun α1 us H1 rs1 l1 e1 hu=>?_⟩
 exact hg f α1 x.2 σ H1 x.1 us z Q hf rs1 hu h3 fun w H3 rs3 e3 hw=>q α1 w H3 rs3 l1 (e1.trans e3) hw
theorem MN {f:Fr} {σ:St} {H:Hp} {Q:VK} (hf:f.K=X.K) (hg:CaF X gcF rc) (h:tDF f (Bb gcF ms) σ H Q):tCB rc (tDA f ms) σ H Q:=by
 obtain ⟨α,s,r',rs,lo,e,q⟩:=h
 obtain ⟨x,h1,e⟩:=bind_some e
 obtain ⟨z,h3,rfl⟩:=Af e
 refine ⟨α,s,x,rs,lo,h1,fun α1 us H1 rs1 l1 e1 hu=>?_⟩
 exact hg f α1 x.2 σ H1 x.1 us z Q hf rs1 hu h3 fun a vs ha hx=>q α1 a vs H1 rs1 l1 e1 ha hx
theorem Ga (hc:BN X (.builtin id) rc) (hgc:CaD X gc rc) (hg:Gl X x) (hm:X.mg x=none) (hv:bootBuiltins x=some (.builtin id)) (ha:DA X (e::es) ms) (hn:x≠"__name__":=by decide) (hdb:(x == ("__debug__":Str))=false:=by decide)
  (he:starEach (e::es) X.env=(false,eval e X.env)::starEach es X.env:=by rfl) (hpl:(backTo pos (starEach es X.env)).any (·.1)=false:=by rfl):DE X (.Call (.Name x p) (e::es) [] pos) (AR gc ms):=.mk fun f hf=>
 PE.imp (Ds hc hg hm hv (ha f hf) hn hdb he hpl) fun σ H Q h=>KG hf hgc h
theorem Sk (hc:BN X (.builtin id) rc) (hgc:CaF X gcF rc) (hg:Gl X x) (hm:X.mg x=none) (hv:bootBuiltins x=some (.builtin id)) (ha:DA X (e::es) ms) (hn:x≠"__name__":=by decide) (hdb:(x == ("__debug__":Str))=false:=by decide)
  (he:starEach (e::es) X.env=(false,eval e X.env)::starEach es X.env:=by rfl) (hpl:(backTo pos (starEach es X.env)).any (·.1)=false:=by rfl):DF X (.Call (.Name x p) (e::es) [] pos) (Bb gcF ms):=.mk fun f hf=>
 PE.imp (Ds hc hg hm hv (ha f hf) hn hdb he hpl) fun σ H Q h=>MN hf hgc h
theorem IC (hc:BN X (.type T) rc) (hgc:CaD X gc rc) (hg:Gl X x) (hm:X.mg x=none) (hv:bootBuiltins x=some (.type T)) (ha:DA X (e::es) ms) (hn:x≠"__name__":=by decide) (hdb:(x == ("__debug__":Str))=false:=by decide)
  (he:starEach (e::es) X.env=(false,eval e X.env)::starEach es X.env:=by rfl) (hpl:(backTo pos (starEach es X.env)).any (·.1)=false:=by rfl):DE X (.Call (.Name x p) (e::es) [] pos) (AR gc ms):=.mk fun f hf=>
 PE.imp (GV hc hg hm hv (ha f hf) hn hdb he hpl) fun σ H Q h=>KG hf hgc h
theorem M6 (hc:BN X (.type T) rc) (hgc:CaF X gcF rc) (hg:Gl X x) (hm:X.mg x=none) (hv:bootBuiltins x=some (.type T)) (ha:DA X (e::es) ms) (hn:x≠"__name__":=by decide) (hdb:(x == ("__debug__":Str))=false:=by decide)
  (he:starEach (e::es) X.env=(false,eval e X.env)::starEach es X.env:=by rfl) (hpl:(backTo pos (starEach es X.env)).any (·.1)=false:=by rfl):DF X (.Call (.Name x p) (e::es) [] pos) (Bb gcF ms):=.mk fun f hf=>
 PE.imp (GV hc hg hm hv (ha f hf) hn hdb he hpl) fun σ H Q h=>MN hf hgc h
end
section
variable {f:Fr} {α α':Nat->Addr} {s s':DS} {σ σ':St} {H H' Hh H1:Hp}
def inn (f:Fr) (α:Nat->Addr) (Γ:Gm) (E:Addr->Prop) (Hh:Hp) (hd:∀ a,f.F a\/BL Γ α a\/E a->Hh a≠none):Fr where
 K:=f.K
 H₀:=Hh
 F:=fun a=>f.F a\/BL Γ α a\/E a
 L:=BL Γ α
 sub:=fun a h=>.inr (.inl h)
 dom:=hd
structure Over (E:Addr->Prop) (H Hh:Hp):Prop where
 out:∀ a,¬E a->Hh a=H a
 new:∀ a,E a->H a=none
 there:∀ a,E a->Hh a≠none
theorem Over.sup {E:Addr->Prop} (o:Over E H Hh) {a:Addr} {u:HO} (h:H a=some u):Hh a=some u:=by
 rw[o.out a fun z=>by rw[o.new a z] at h;cases h]
 exact h
theorem BZ (r:RS f α s σ H) {E:Addr->Prop} (o:Over E H Hh):∀ a,f.F a\/BL s.Γ α a\/E a->Hh a≠none:=fun a h=>by
 have up:H a≠none->Hh a≠none:=fun h=>by
  cases e:H a with
  | none=>exact absurd e h
  | some u=>rw[o.sup e];exact fun z=>nomatch z
 rcases h with h | h | h
 ·exact up (r.forb a h)
 ·exact up (r.live h)
 ·exact o.there a h
theorem EV (r:RS f α s σ H) {E:Addr->Prop} (o:Over E H Hh):Kw (wd f α s.Γ H) (wd (inn f α s.Γ E Hh (BZ r o)) α s.Γ Hh):=⟨rfl,fun a u n e=>⟨o.sup e,fun z=>by
 rcases z with (z | z | z) | z
 ·exact n (.inl z)
 ·exact n (.inr z)
 ·have e':H a=some u:=e
  rw[o.new a z] at e'
  cases e'
 ·exact n (.inr z)⟩⟩
theorem Ss (r:RS f α s σ H) {E:Addr->Prop} (o:Over E H Hh) {d:SV} {v:V} (h:RepV f α s.Γ H d v):RepV (inn f α s.Γ E Hh (BZ r o)) α s.Γ Hh d v:=by
 cases d with
 | v d=>exact Rep.kw (EV r o) (show Rep _ d v from h)
 | b n=>exact h
 | p n d=>
  obtain ⟨h0,a,w,h1,h2,h3,h4⟩:=h
  obtain ⟨k1,k2⟩:=(EV r o).keep a _ h2 h3
  exact ⟨h0,a,w,h1,k2,k1,h4.kw (EV r o)⟩
 | l ns=>
  obtain ⟨h0,a,h1,h2,h3⟩:=h
  obtain ⟨k1,k2⟩:=(EV r o).keep a _ h2 h3
  exact ⟨h0,a,h1,k2,k1⟩
theorem RS.enter (r:RS f α s σ H) {E:Addr->Prop} (o:Over E H Hh) {τ:List (Option SV)} {τ':St} (hl:τ.length=τ'.length) (hs:∀ (i:Nat) (d:SV),τ[i]?=some (some d)->∃ v,τ'[i]?=some (some v)/\RepV f α s.Γ H d v) :
  RS (inn f α s.Γ E Hh (BZ r o)) α ⟨τ,s.Γ,s.Γ.length⟩ τ' Hh where
 len:=hl
 slot:=fun i d h=>let ⟨v,a,b⟩:=hs i d h;⟨v,a,Ss r o b⟩
 box:=fun n xs h=>let ⟨vs,a,b⟩:=r.box n xs h;⟨vs,o.sup a,b.kw (EV r o)⟩
 own:=fun n xs h=>by
  rw[if_pos (show n<s.Γ.length from (List.getElem?_eq_some_iff.mp h).1)]
  exact ⟨n,xs,h,rfl⟩
 inj:=r.inj
 fr:=fun b u h _=>h
 forb:=BZ r o
theorem RS.leave (r:RS f α s σ H) {E:Addr->Prop} (o:Over E H Hh) (q:RS (inn f α s.Γ E Hh (BZ r o)) α' s' σ' H') (hlo:s'.lo=s.Γ.length) (ex:Ext (inn f α s.Γ E Hh (BZ r o)) α α' s.Γ s'.Γ Hh H')
  (h1:∀ a,¬E a->H1 a=H' a) :
  RS f α' {s with Γ:=s'.Γ.take s.Γ.length} σ H1/\Ext f α α' s.Γ (s'.Γ.take s.Γ.length) H H1/\Kw (wd (inn f α s.Γ E Hh (BZ r o)) α' s'.Γ H') (wd f α' (s'.Γ.take s.Γ.length) H1):=by
 have tk:∀ {n:Nat} {z:Option (List D)},(s'.Γ.take s.Γ.length)[n]?=some z->n<s.Γ.length/\s'.Γ[n]?=some z:=fun {n z} h=>by
  rw[List.getElem?_take] at h
  split at h
  ·rename_i c;exact ⟨c,h⟩
  ·cases h
 have lv:∀ {a},BL (s'.Γ.take s.Γ.length) α' a->BL s.Γ α a/\BL s'.Γ α' a:=fun {a} hh_=>by
  obtain ⟨n,xs,e1,e2⟩:=hh_
  obtain ⟨c,e⟩:=tk e1
  obtain ⟨ys,e3⟩:=ex.lv n xs c e
  exact ⟨⟨n,ys,e3,by rw[<-ex.al n c];exact e2⟩,n,xs,e,e2⟩
 have kept:∀ b u,H b=some u->¬BL s.Γ α b->H1 b=some u:=fun b u e n=>by
  have ne:¬E b:=fun z=>by rw[o.new b z] at e;cases e
  rw[h1 b ne]
  exact q.fr b u (o.sup e) n
 have kw1:Kw (wd f α s.Γ H) (wd f α' (s'.Γ.take s.Γ.length) H1):=⟨rfl,fun a u n e=>⟨kept a u e fun z=>n (.inr z),fun z=>by
  rcases z with z | z
  ·exact n (.inl z)
  ·exact n (.inr (lv z).1)⟩⟩
 have kw2:Kw (wd (inn f α s.Γ E Hh (BZ r o)) α' s'.Γ H') (wd f α' (s'.Γ.take s.Γ.length) H1):=⟨rfl,fun a u n e=>⟨by
  show H1 a=some u
  rw[h1 a fun z=>n (.inl (.inr (.inr z)))]
  exact e,fun z=>by
  rcases z with z | z
  ·exact n (.inl (.inl z))
  ·exact n (.inr (lv z).2)⟩⟩
 have ex1:Ext f α α' s.Γ (s'.Γ.take s.Γ.length) H H1:=⟨kw1,by rw[List.length_take];have:=ex.m;lia,ex.al,fun n xs c e=>ex.lv n xs c (tk e).2⟩
 refine ⟨⟨r.len,fun i d h=>let ⟨v,a,b⟩:=r.slot i d h;⟨v,a,b.ext ex1⟩,fun n xs h=>?_,fun n xs h=>?_,fun n m xs ys hn hm e=>?_,fun b u h n=>?_,fun a h=>?_⟩,ex1,kw2⟩
 ·obtain ⟨c,e⟩:=tk h
  obtain ⟨vs,a,b⟩:=q.box n xs e
  refine ⟨vs,?_,b.kw kw2⟩
  have ne:¬E (α' n):=fun z=>by
   obtain ⟨ys,e3⟩:=ex.lv n xs c e
   obtain ⟨us,g,_⟩:=r.box n ys e3
   have:=o.new _ z
   rw[ex.al n c,g] at this
   cases this
  rw[h1 _ ne]
  exact a
 ·obtain ⟨c,e⟩:=tk h
  obtain ⟨ys,e3⟩:=ex.lv n xs c e
  rw[ex.al n c]
  exact r.own n ys e3
 ·exact q.inj n m xs ys (tk hn).2 (tk hm).2 e
 ·refine kept b u (r.fr b u h n) fun hh_=>?_
  obtain ⟨m,ys,e1,e2⟩:=hh_
  have ow:=r.own m ys e1
  rw[e2] at ow
  split at ow
  ·exact n ow
  ·rw[h] at ow;cases ow
 ·have hb:=r.forb a h
  have ne:¬E a:=fun z=>hb (o.new a z)
  rw[h1 a ne]
  exact q.forb a (.inl h)
end
section
variable {f:Fr} {α α':Nat->Addr} {s s':DS} {σ σ':St} {H H':Hp} {X:Cx} {pos:Pos}
def del (H:Hp) (a:Addr):Hp:=fun b=>if b=a then none else H b
theorem IS {H:Hp} {a:Addr}:del H a a=none:=by unfold del;rw[if_pos rfl]
theorem Dt {H:Hp} {a b:Addr} (h:b≠a):del H a b=H b:=by unfold del;rw[if_neg h]
theorem JI {H:Hp} {a:Addr} {o:HO} (h:H a=some o):upd (del H a) a o=H:=by
 funext b
 by_cases e:b=a
 ·subst e;rw[An,h]
 ·rw[AO e,Dt e]
theorem RS.cut (r:RS f α s σ H) {n:Nat} {xs:List D} (hn:s.Γ[n]?=some (some xs)) (hlo:s.lo<=n) {τ:List (Option SV)} (hl:τ.length=s.σ.length) (hτ:∀ (i:Nat) (d:SV),τ[i]?=some (some d)->s.σ[i]?=some (some d)) :
  RS f α {s with σ:=τ,Γ:=s.Γ.set n none} σ (del H (α n))/\Ext f α α s.Γ (s.Γ.set n none) H (del H (α n)):=by
 have lv:∀ {a},BL (s.Γ.set n none) α a->BL s.Γ α a:=fun {a} hh_=>by
  obtain ⟨m,zs,e1,e2⟩:=hh_
  rcases C5 hn e1 with ⟨_,z⟩ | ⟨_,hm⟩
  ·cases z
  ·exact ⟨m,zs,hm,e2⟩
 have me:BL s.Γ α (α n):=⟨n,xs,hn,rfl⟩
 have e:Ext f α α s.Γ (s.Γ.set n none) H (del H (α n)):=⟨⟨rfl,fun a u h e=>⟨by show del H (α n) a=some u;rw[Dt fun (z:a=α n)=>h (.inr (by rw[z];exact me))];exact e,fun z=>by
  rcases z with z | z
  ·exact h (.inl z)
  ·exact h (.inr (lv z))⟩⟩,by rw[List.length_set];exact Nat.le_refl _,fun _ _=>rfl,fun m zs _ e1=>by
  rcases C5 hn e1 with ⟨_,z⟩ | ⟨_,hm⟩
  ·cases z
  ·exact ⟨zs,hm⟩⟩
 have old:∀ {m zs},(s.Γ.set n none)[m]?=some (some zs)->m≠n/\s.Γ[m]?=some (some zs):=fun {m zs} hm=>by
  rcases C5 hn hm with ⟨_,z⟩ | h
  ·cases z
  ·exact h
 have ow0:f.H₀ (α n)=none:=by
  have ow:=r.own n xs hn
  rw[if_neg (Nat.not_lt.mpr hlo)] at ow
  exact ow
 refine ⟨⟨hl.trans r.len,fun i d h=>let ⟨v,a,b⟩:=r.slot i d (hτ i d h);⟨v,a,b.ext e⟩,fun m zs hm=>?_,fun m zs hm=>r.own m zs (old hm).2,fun m k zs us hm hk q=>r.inj m k _ _ (old hm).2 (old hk).2 q,fun b o h1 h2=>?_,fun a h1=>?_⟩,e⟩
 ·obtain ⟨us,a,b⟩:=r.box m zs (old hm).2
  exact ⟨us,by rw[Dt fun z=>(old hm).1 (r.inj m n _ _ (old hm).2 hn z)];exact a,b.kw e.kw⟩
 ·rw[Dt fun z=>by rw[z,ow0] at h1;cases h1]
  exact r.fr b o h1 h2
 ·rw[Dt fun z=>f.dom a h1 (by rw[z];exact ow0)]
  exact r.forb a h1
theorem Ro {i:Nat} {x:Str} (h:PE X (.Name x pos) (Bj i)):DF X (.Name x pos) (GH i):=.mk fun f hf=>PE.imp h fun σ H Q hh_=>by
 obtain ⟨α,s,r,rs,lo,e,q⟩:=hh_
 unfold GH at e
 split at e
 ·rename_i n hd
  split at e
  ·rename_i xs hn
   split at e
   ·rename_i hlo
    cases e
    obtain ⟨v,h1,h2⟩:=rs.slot i _ hd
    obtain ⟨vs,h3,h4⟩:=rs.box n xs hn
    obtain ⟨c1,c2⟩:=rs.cut hn hlo (τ:=s.σ.set i none) (List.length_set ..) fun j d hj=>by
     rw[List.getElem?_set] at hj
     by_cases z:i=j
     ·rw[if_pos z] at hj
      split at hj<;>cases hj
     ·rw[if_neg z] at hj;exact hj
    refine ⟨v,h1,?_⟩
    have hq:=q α (α n) vs (del H (α n)) c1 rfl c2 IS (h4.kw c2.kw)
    rw[JI h3] at hq
    rw[h2.2]
    exact hq
   ·cases e
  ·cases e
 ·cases e
end
inductive Out where
 | nx (s:DS) | rt (d:D) (s:DS) | rf (xs:List D) (s:DS) | rp (xs:List D) (d:D) (s:DS) | bk (s:DS) | ct (s:DS)
abbrev MS:=DS->Option Out
def Post (f:Fr) (α:Nat->Addr) (s:DS) (H:Hp) (E:Ends):Out->Prop
 | .nx s'=>∀ α' σ' H',RS f α' s' σ' H'->s'.lo=s.lo->Ext f α α' s.Γ s'.Γ H H'->E.nx σ' H'
 | .rt d s'=>∀ α' σ' v H',RS f α' s' σ' H'->s'.lo=s.lo->Ext f α α' s.Γ s'.Γ H H'->Rep (wd f α' s'.Γ H') d v->E.rt v H'
 | .rf xs s'=>∀ α' σ' a vs H',RS f α' s' σ' H'->s'.lo=s.lo->Ext f α α' s.Γ s'.Γ H H'->H' a=none->Reps (wd f α' s'.Γ H') xs vs->E.rt (.ref a) (upd H' a (.lst vs))
 | .rp xs d s'=>∀ α' σ' a t vs w H',RS f α' s' σ' H'->s'.lo=s.lo->Ext f α α' s.Γ s'.Γ H H'->H' a=none->Reps (wd f α' s'.Γ H') xs vs->Rep (wd f α' s'.Γ H') d w->H' t=none->t≠a->E.rt (.ref t) (upd (upd H' a (.lst vs)) t (.tup [.ref a,w]))
 | .bk s'=>∀ α' σ' H',RS f α' s' σ' H'->s'.lo=s.lo->Ext f α α' s.Γ s'.Γ H H'->E.bk σ' H'
 | .ct s'=>∀ α' σ' H',RS f α' s' σ' H'->s'.lo=s.lo->Ext f α α' s.Γ s'.Γ H H'->E.ct σ' H'
def tDS (f:Fr) (m:MS):TS:=fun E σ H=>∃ α s o,RS f α s σ H/\s.lo<=s.Γ.length/\m s=some o/\Post f α s H E o
structure DSt (X:Cx) (st:Stmt) (m:MS):Prop where
 h:∀ f:Fr,f.K=X.K->PS X st (tDS f m)
instance {X:Cx} {st:Stmt} {m:MS}:CoeFun (DSt X st m) fun _=>∀ f:Fr,f.K=X.K->PS X st (tDS f m):=⟨DSt.h⟩
structure DSs (X:Cx) (sts:List Stmt) (m:MS):Prop where
 h:∀ f:Fr,f.K=X.K->PSs X sts (tDS f m)
instance {X:Cx} {sts:List Stmt} {m:MS}:CoeFun (DSs X sts m) fun _=>∀ f:Fr,f.K=X.K->PSs X sts (tDS f m):=⟨DSs.h⟩
section
variable {X:Cx} {st:Stmt} {sts:List Stmt} {f:Fr} {α α':Nat->Addr} {s s':DS} {σ:St} {H H':Hp} {E:Ends} {pos:Pos} {e:Expr}
theorem PS.imp {t t':TS} (h:PS X st t) (k:∀ E σ H,t' E σ H->t E σ H):PS X st t':=fun pins s σ H D I q=>h pins s σ H D I (k _ _ _ q)
theorem PSs.imp {t t':TS} (h:PSs X sts t) (k:∀ E σ H,t' E σ H->t E σ H):PSs X sts t':=fun pins s σ H D I q=>h pins s σ H D I (k _ _ _ q)
theorem Post.ext {o:Out} (h:Post f α s H E o) (hl:s'.lo=s.lo) (e:Ext f α α' s.Γ s'.Γ H H'):Post f α' s' H' E o:=by
 cases o with
 | nx t=>exact fun α2 σ2 H2 r l x=>h α2 σ2 H2 r (l.trans hl) (e.trans x)
 | rt d t=>exact fun α2 σ2 v H2 r l x w=>h α2 σ2 v H2 r (l.trans hl) (e.trans x) w
 | rf xs t=>exact fun α2 σ2 a vs H2 r l x w y=>h α2 σ2 a vs H2 r (l.trans hl) (e.trans x) w y
 | rp xs d t=>exact fun α2 σ2 a t vs w H2 r l x=>h α2 σ2 a t vs w H2 r (l.trans hl) (e.trans x)
 | bk t=>exact fun α2 σ2 H2 r l x=>h α2 σ2 H2 r (l.trans hl) (e.trans x)
 | ct t=>exact fun α2 σ2 H2 r l x=>h α2 σ2 H2 r (l.trans hl) (e.trans x)
theorem lo_le {f:Fr} (lo:s.lo<=s.Γ.length) (hl:s'.lo=s.lo) (e:Ext f α α' s.Γ s'.Γ H H'):s'.lo<=s'.Γ.length:=by rw[hl];exact Nat.le_trans lo e.m
@[simp] def Ae:MS:=fun s=>some (.nx s)
@[simp] def AJ (m n:MS):MS:=fun s=>(m s).bind fun o=>match o with
 | .nx s'=>n s'
 | .rt d s'=>some (.rt d s')
 | .rf d s'=>some (.rf d s')
 | .rp xs d s'=>some (.rp xs d s')
 | .bk s'=>some (.bk s')
 | .ct s'=>some (.ct s')
variable {m n:MS}
theorem A7:DSs X [] Ae:=.mk fun f hf=>PSs.imp Lo fun E σ H hh_=>by
 obtain ⟨α,s,o,rs,lo,e,q⟩:=hh_
 cases e
 exact q α σ H rs rfl .refl
theorem AS (h1:DSt X st m) (h2:DSs X sts n):DSs X (st::sts) (AJ m n):=.mk fun f hf=>PSs.imp (Mj (h1 f hf) (h2 f hf)) fun E σ H hh_=>by
 obtain ⟨α,s,o,rs,lo,e,q⟩:=hh_
 obtain ⟨o1,e1,e⟩:=bind_some e
 refine ⟨α,s,o1,rs,lo,e1,?_⟩
 cases o1 with
 | nx s1=>exact fun α' σ' H' rs' l' x=>⟨α',s1,o,rs',lo_le lo l' x,e,q.ext l' x⟩
 | rt d s1=>cases e;exact q
 | rf d s1=>cases e;exact q
 | rp xs d s1=>cases e;exact q
 | bk s1=>cases e;exact q
 | ct s1=>cases e;exact q
theorem Ag (h1:DSt X st m):DSs X [st] m:=.mk fun f hf=>G1 (h1 f hf)
theorem Gv:DSs X sts fun _=>none:=.mk fun f hf=>PSs.imp NR fun E σ H ⟨α,s,o,rs,lo,e,q⟩=>by cases e
@[simp] def FZ (m:ME):MS:=fun s=>(m s).map fun r=>.nx r.2
theorem Pf {m:ME} (he:DE X e m) (hs:swapsWith e none pos.line X.env=pure false:=by rfl):DSt X (.Expr e pos) (FZ m):=.mk fun f hf=>PS.imp (Of (he f hf) hs) fun E σ H hh_=>by
 obtain ⟨α,s,o,rs,lo,e,q⟩:=hh_
 obtain ⟨r,h1,rfl⟩:=Af e
 exact ⟨α,s,r,rs,lo,h1,fun α' v H' rs' l' x _=>q α' σ H' rs' l' x⟩
@[simp] def AZ (m:ME):MS:=fun s=>(m s).bind fun r=>match r.1 with
 | .v d=>some (.rt d r.2)
 | _=>none
theorem Aq {m:ME} (he:DE X e m):DSt X (.Return (some e) pos) (AZ m):=.mk fun f hf=>PS.imp (Gr (he f hf)) fun E σ H hh_=>by
 obtain ⟨α,s,o,rs,lo,e,q⟩:=hh_
 obtain ⟨⟨x,r⟩,h1,e⟩:=bind_some e
 cases x with
 | b n=>cases e
 | p n d=>cases e
 | l ns=>cases e
 | v d=>
  cases e
  exact ⟨α,s,_,rs,lo,h1,fun α' v H' rs' l' x hv=>q α' σ v H' rs' l' x hv⟩
@[simp] def Eg (m:MF):MS:=fun s=>(m s).map fun r=>.rf r.1 r.2
theorem Fj {m:MF} (he:DF X e m):DSt X (.Return (some e) pos) (Eg m):=.mk fun f hf=>PS.imp (Gr (he f hf)) fun E σ H hh_=>by
 obtain ⟨α,s,o,rs,lo,e,q⟩:=hh_
 obtain ⟨r,h1,rfl⟩:=Af e
 exact ⟨α,s,r,rs,lo,h1,fun α' a vs H' rs' l' x ha hx=>q α' σ a vs H' rs' l' x ha hx⟩
@[simp] def mIf (c:MT) (m n:MS):MS:=fun s=>(c s).bind fun b=>if b.1=true then m b.2 else n b.2
theorem A5 {c:Expr} {mc:MT} {a b:List Stmt} (hc:DT X c mc) (ha:DSs X a m) (hb:DSs X b n):DSt X (.If c a b pos) (mIf mc m n):=.mk fun f hf=>PS.imp (Jg (hc f hf) (ha f hf) (hb f hf)) fun E σ H hh_=>by
 obtain ⟨α,s,o,rs,lo,e,q⟩:=hh_
 obtain ⟨k,h1,e⟩:=bind_some e
 refine ⟨α,s,k,rs,lo,h1,fun α' H' rs' l' x=>?_⟩
 split at e
 ·rename_i c
  rw[if_pos c]
  exact ⟨α',k.2,o,rs',lo_le lo l' x,e,q.ext l' x⟩
 ·rename_i c
  rw[if_neg c]
  exact ⟨α',k.2,o,rs',lo_le lo l' x,e,q.ext l' x⟩
@[simp] def AL (i:Nat) (m:ME):MS:=fun s=>(m s).map fun r=>.nx {r.2 with σ:=r.2.σ.set i (some r.1)}
theorem M0 {i:Nat} {tg:Expr} {m:ME} (h:∀ te,PE X e te->PS X (.Assign [tg] e pos) (Fz te (Cd i))) (he:DE X e m):DSt X (.Assign [tg] e pos) (AL i m):=.mk fun f hf=>PS.imp (h _ (he f hf)) fun E σ H hh_=>by
 obtain ⟨α,s,o,rs,lo,e,q⟩:=hh_
 obtain ⟨r,h1,rfl⟩:=Af e
 exact ⟨α,s,r,rs,lo,h1,fun α' v H' rs' l' x hv=>q α' _ H' (rs'.set hv) l' x⟩
theorem Am {i:Nat} {x:Str} {pos':Pos} {m:ME} (hN:X.N.Nodup) (hi:X.N[i]?=some x) (hx:Loc X.env.scope x) (he:DE X e m) (hs:swapsWith e (some (.Name x pos')) pos.line X.env=pure false:=by rfl) (hf:X.fn x=true\/X.env.scope.names.lookup x=some .local:=by first | exact .inl rfl | exact .inr rfl | assumption):DSt X (.Assign [.Name x pos'] e pos) (AL i m):=M0 (fun te h=>I0 hN hi hx h hs hf) he
@[simp] def CB (i:Nat) (m:MF):MS:=fun s=>(m s).map fun r=>.nx {r.2 with σ:=r.2.σ.set i (some (.b r.2.Γ.length)),Γ:=r.2.Γ++[some r.1]}
theorem Qr {i:Nat} {tg:Expr} {m:MF} (h:∀ te,PE X e te->PS X (.Assign [tg] e pos) (Fz te (Cd i))) (he:DF X e m):DSt X (.Assign [tg] e pos) (CB i m):=.mk fun f hf=>PS.imp (h _ (he f hf)) fun E σ H hh_=>by
 obtain ⟨α,s,o,rs,lo,e,q⟩:=hh_
 obtain ⟨r,h1,rfl⟩:=Af e
 refine ⟨α,s,r,rs,lo,h1,fun α' a vs H' rs' l' x ha hx=>?_⟩
 have x2:=Ext.add (xs:=r.1) (o:=.lst vs) rs' ha
 refine q (BV α' r.2.Γ.length a) _ _ (RS.set (rs'.add (lo_le lo l' x) ha hx) (d:=.b r.2.Γ.length) ⟨by show r.2.Γ.length<(r.2.Γ++[some r.1]).length;rw[List.length_append];simp,by unfold BV;rw[if_pos rfl]⟩) l' (x.trans x2)
theorem Ji {i:Nat} {x:Str} {pos':Pos} {m:MF} (hN:X.N.Nodup) (hi:X.N[i]?=some x) (hx:Loc X.env.scope x) (he:DF X e m) (hs:swapsWith e (some (.Name x pos')) pos.line X.env=pure false:=by rfl) (hf:X.fn x=true\/X.env.scope.names.lookup x=some .local:=by first | exact .inl rfl | exact .inr rfl | assumption):DSt X (.Assign [.Name x pos'] e pos) (CB i m):=Qr (fun te h=>I0 hN hi hx h hs hf) he
@[simp] def Hx (σ:List (Option SV)):List Nat->List D->List (Option SV)
 | i::is,d::ds=>Hx (σ.set i (some (.v d))) is ds
 | _,_=>σ
abbrev MG:=D->DS->Option DS
def Ie:List Nat->TGs
 | []=>Kl
 | i::is=>LZ (Cd i) (Ie is)
def tDG (f:Fr) (m:MG):TG:=fun v σ H Q=>∃ α s d s',RS f α s σ H/\s.lo<=s.Γ.length/\Rep (wd f α s.Γ H) d v/\m d s=some s'/\∀ σ',RS f α s' σ' H->s'.lo=s.lo->s'.Γ=s.Γ->Q σ' H
structure DG (X:Cx) (tg:Expr) (m:MG):Prop where
 h:∀ f:Fr,f.K=X.K->PG X tg (tDG f m)
instance {X:Cx} {tg:Expr} {m:MG}:CoeFun (DG X tg m) fun _=>∀ f:Fr,f.K=X.K->PG X tg (tDG f m):=⟨DG.h⟩
theorem PG.imp {tg:Expr} {t t':TG} (h:PG X tg t) (k:∀ v σ H Q,t' v σ H Q->t v σ H Q):PG X tg t':=fun pins s σ H v u Q I r q=>h pins s σ H v u Q I r (k _ _ _ _ q)
@[simp] def Ac (i:Nat):MG:=fun d s=>some {s with σ:=s.σ.set i (some (.v d))}
theorem BR {i:Nat} {tg:Expr} (h:PG X tg (Cd i)):DG X tg (Ac i):=.mk fun f hf=>PG.imp h fun v σ H Q hh_=>by
 obtain ⟨α,s,d,s',rs,lo,hd,e,q⟩:=hh_
 cases e
 exact q _ (rs.set (d:=.v d) hd) rfl rfl
@[simp] def FC (is:List Nat):MG:=fun d s=>match d with
 | .tup xs=>if xs.length=is.length then some {s with σ:=Hx s.σ is xs} else none
 | _=>none
theorem Kj {H:Hp} {Q:St->Hp->Prop}:∀ {is:List Nat} {xs:List D} {vs:List V} {s:DS} {σ:St},RS f α s σ H->Reps (wd f α s.Γ H) xs vs->xs.length=is.length->(∀ σ',RS f α {s with σ:=Hx s.σ is xs} σ' H->Q σ' H)->Ie is vs σ H Q
 | [],xs,vs,s,σ,rs,hx,hl,q=>by
  have:xs=[]:=List.eq_nil_of_length_eq_zero hl
  subst this
  exact ⟨hx.nil_inv,q σ rs⟩
 | i::is,[],vs,s,σ,rs,hx,hl,q=>by cases hl
 | i::is,x::xs,vs,s,σ,rs,hx,hl,q=>by
  obtain ⟨v,r,rfl,h1,h2⟩:=hx.cons_inv
  exact ⟨v,r,rfl,Kj (rs.set (i:=i) (d:=.v x) (v:=v) h1) h2 (Nat.succ.inj hl) q⟩
theorem NB {is:List Nat} {tg:Expr} {n:Nat} (hn:is.length=n) (h:PG X tg (F0 X.K n (Ie is))):DG X tg (FC is):=.mk fun f hf=>PG.imp h fun v σ H Q hh_=>by
 obtain ⟨α,s,d,s',rs,lo,hd,e,q⟩:=hh_
 unfold FC at e
 split at e
 ·rename_i xs
  split at e
  ·rename_i hl
   cases e
   unfold Rep at hd
   obtain ⟨a,vs,rfl,_,h1,h2⟩:=hd
   exact ⟨a,vs,rfl,SqT.of h1,by rw[h2.len,hl,hn],Kj rs h2 hl fun σ' r=>q σ' r rfl rfl⟩
  ·cases e
 ·cases e
structure DIt (f:Fr) (J:It) (items:List D) (α0:Nat->Addr) (Γ0:Gm) (H0:Hp):Prop where
 go:∀ i α s σ H Hh,i<items.length->RS f α s σ H->Ext f α0 α Γ0 s.Γ H0 H->(∀ a o,H a=some o->Hh a=some o)->J.go i Hh
 yl:∀ i d x α s σ H Hh H',items[i]?=some d->RS f α s σ H->Ext f α0 α Γ0 s.Γ H0 H->(∀ a o,H a=some o->Hh a=some o)->J.yld i Hh x H' ->
  (H'=Hh/\Rep (wd f α s.Γ H) d x)\/∃ T o,Hh T=none/\H'=upd Hh T o/\Rep (wd f α s.Γ (upd H T o)) d x
 stop:∀ α s σ H Hh,RS f α s σ H->Ext f α0 α Γ0 s.Γ H0 H->(∀ a o,H a=some o->Hh a=some o)->J.stop items.length Hh
def tDI (f:Fr) (m:MF):TI:=fun σ H R=>∃ α s r,RS f α s σ H/\s.lo<=s.Γ.length/\m s=some r/\∀ J α' H',RS f α' r.2 σ H'->r.2.lo=s.lo->Ext f α α' s.Γ r.2.Γ H H'->DIt f J r.1 α' r.2.Γ H'->R J H'
structure DI (X:Cx) (tg src:Expr) (m:MF):Prop where
 h:∀ f:Fr,f.K=X.K->PI X tg src (tDI f m)
instance {X:Cx} {tg src:Expr} {m:MF}:CoeFun (DI X tg src m) fun _=>∀ f:Fr,f.K=X.K->PI X tg src (tDI f m):=⟨DI.h⟩
def Bl (g:MG) (b:MS):List D->DS->Option Out
 | [],s=>some (.nx s)
 | d::r,s=>(g d s).bind fun s1=>(b s1).bind fun o=>match o with
  | .nx s2=>Bl g b r s2
  | .ct s2=>Bl g b r s2
  | .bk s2=>some (.nx s2)
  | .rt d s2=>some (.rt d s2)
  | .rf d s2=>some (.rf d s2)
  | .rp xs d s2=>some (.rp xs d s2)
@[simp] def Bf (mi:MF) (g:MG) (b:MS):MS:=fun s=>(mi s).bind fun r=>Bl g b r.1 r.2
theorem D1 {tg iter:Expr} {body:List Stmt} {mi:MF} {g:MG} {b:MS} (hp:PassesOwn (model X.prog X.w) X.A X.env X.xe) (hc:X.calm=true) (hi:DI X tg iter mi) (hg:DG X tg g) (hb:DSs X body b)
  (hs:∀ x,foldedSetIterable iter X.env x=pure x:=by intro _;rfl):DSt X (.For tg iter body [] pos) (Bf mi g b):=.mk fun f hf=>PS.imp (Lv hp hc (hi f hf) (hg f hf) (hb f hf) hs) fun E σ H hh_=>by
 obtain ⟨α,s,o,rs,lo,e,q⟩:=hh_
 obtain ⟨⟨items,s1⟩,h1,e⟩:=bind_some e
 refine ⟨α,s,_,rs,lo,h1,fun J α1 H1 rs1 l1 x1 it=>?_⟩
 refine JH items.length (fun i σ H=>∃ αi si,RS f αi si σ H/\si.lo=s1.lo/\Ext f α1 αi s1.Γ si.Γ H1 H/\Bl g b (items.drop i) si=some o) ⟨α1,s1,rs1,rfl,.refl,e⟩ ?_ ?_ ?_ ?_
 ·rintro i σ2 H2 hi ⟨αi,si,ri,li,xi,ei⟩
  exact it.go i αi si σ2 H2 H2 hi ri xi fun _ _ h=>h
 ·rintro σ2 H2 ⟨αi,si,ri,li,xi,ei⟩
  exact it.stop αi si σ2 H2 H2 ri xi fun _ _ h=>h
 ·rintro i x σ2 H2 H3 hi ⟨αi,si,ri,li,xi,ei⟩ y
  have hd:items[i]?=some items[i]:=List.getElem?_eq_getElem hi
  rw[List.drop_eq_getElem_cons hi] at ei
  obtain ⟨s2,g2,ei⟩:=bind_some ei
  obtain ⟨o2,b2,ei⟩:=bind_some ei
  have fin:∀ {H3},RS f αi si σ2 H3->Ext f αi αi si.Γ si.Γ H2 H3->Rep (wd f αi si.Γ H3) items[i] x->tDG f g x σ2 H3 fun σ4 H4=>tDS f b {E with nx:=fun σ H=>∃ αi si,RS f αi si σ H/\si.lo=s1.lo/\Ext f α1 αi s1.Γ si.Γ H1 H/\Bl g b (items.drop (i+1)) si=some o,ct:=fun σ H=>∃ αi si,RS f αi si σ H/\si.lo=s1.lo/\Ext f α1 αi s1.Γ si.Γ H1 H/\Bl g b (items.drop (i+1)) si=some o,bk:=E.nx} σ4 H4:=fun {H3} r3 x3 hr=>by
   refine ⟨αi,si,_,s2,r3,by rw[li];exact Nat.le_trans (lo_le lo l1 x1) xi.m,hr,g2,fun σ4 r4 l4 G4=>⟨αi,s2,o2,r4,by rw[l4,li,G4];exact Nat.le_trans (lo_le lo l1 x1) xi.m,b2,?_⟩⟩
   have x13:Ext f α1 αi s1.Γ s2.Γ H1 H3:=by rw[G4];exact xi.trans x3
   cases o2 with
   | nx s5=>exact fun α5 σ5 H5 r5 l5 x5=>⟨α5,s5,r5,l5.trans (l4.trans li),x13.trans x5,ei⟩
   | ct s5=>exact fun α5 σ5 H5 r5 l5 x5=>⟨α5,s5,r5,l5.trans (l4.trans li),x13.trans x5,ei⟩
   | bk s5=>cases ei;exact fun α5 σ5 H5 r5 l5 x5=>q α5 σ5 H5 r5 (l5.trans (l4.trans (li.trans l1))) (x1.trans (x13.trans x5))
   | rt d s5=>cases ei;exact fun α5 σ5 v H5 r5 l5 x5 w=>q α5 σ5 v H5 r5 (l5.trans (l4.trans (li.trans l1))) (x1.trans (x13.trans x5)) w
   | rf d s5=>cases ei;exact fun α5 σ5 a vs H5 r5 l5 x5 w y=>q α5 σ5 a vs H5 r5 (l5.trans (l4.trans (li.trans l1))) (x1.trans (x13.trans x5)) w y
   | rp xs d s5=>cases ei;exact fun α5 σ5 a t vs w H5 r5 l5 x5=>q α5 σ5 a t vs w H5 r5 (l5.trans (l4.trans (li.trans l1))) (x1.trans (x13.trans x5))
  rcases it.yl i _ x αi si σ2 H2 H2 H3 hd ri xi (fun _ _ h=>h) y with ⟨rfl,hr⟩ | ⟨T,u,hT,rfl,hr⟩
  ·exact fin ri .refl hr
  ·exact fin (ri.new hT) (.new ri hT) hr
 ·rintro σ2 H2 ⟨αi,si,ri,li,xi,ei⟩
  rw[List.drop_length] at ei
  cases ei
  exact q αi σ2 H2 ri (li.trans l1) (x1.trans xi)
end
def xD (K:PySem.W.Frag) (m:ME):TE:=fun σ H Q=>∃ f:Fr,f.K=K/\tD f m σ H Q
def xT (K:PySem.W.Frag) (m:MT):TT:=fun σ H Q=>∃ f:Fr,f.K=K/\tDT f m σ H Q
def xG (K:PySem.W.Frag) (m:MG):TG:=fun v σ H Q=>∃ f:Fr,f.K=K/\tDG f m v σ H Q
theorem DE.x {X:Cx} {e:Expr} {m:ME} (h:DE X e m):PE X e (xD X.K m):=fun pins s σ H Q I ⟨f,hf,q⟩=>h f hf pins s σ H Q I q
theorem DG.x {X:Cx} {e:Expr} {m:MG} (h:DG X e m):PG X e (xG X.K m):=fun pins s σ H v u Q I r ⟨f,hf,q⟩=>h f hf pins s σ H v u Q I r q
structure DTs (X:Cx) (tests:List Expr) (m:MT):Prop where
 h:∀ f:Fr,f.K=X.K->PTs X tests (tDT f m)
instance {X:Cx} {tests:List Expr} {m:MT}:CoeFun (DTs X tests m) fun _=>∀ f:Fr,f.K=X.K->PTs X tests (tDT f m):=⟨DTs.h⟩
theorem DTs.x {X:Cx} {e:List Expr} {m:MT} (h:DTs X e m):PTs X e (xT X.K m):=fun pins s σ H Q I ⟨f,hf,q⟩=>h f hf pins s σ H Q I q
@[simp] def mTT:MT:=fun s=>some (true,s)
theorem CW {X:Cx}:DTs X [] mTT:=.mk fun f hf pins s σ H Q I hh_=>by
 obtain ⟨α,s',r,rs,lo,e,q⟩:=hh_
 cases e
 exact Lr pins s σ H Q I (q α H rs rfl .refl)
theorem Hv {X:Cx} {c:Expr} {m:MT} (h:DT X c m):DTs X [c] m:=.mk fun f hf=>Nd (h f hf)
def Bm (g:MG) (t:MT) (e:ME):List D->List (Option SV)->Gm->Option (List D×Gm)
 | [],_,Γ=>some ([],Γ)
 | d::r,τ,Γ=>(g d ⟨τ,Γ,Γ.length⟩).bind fun s1=>(t s1).bind fun b=>
  if b.1=true then (e b.2).bind fun x=>match x.1 with
   | .v y=>if x.2.Γ.length=Γ.length then (Bm g t e r x.2.σ x.2.Γ).map fun q=>(y::q.1,q.2) else none
   | _=>none
  else if b.2.Γ.length=Γ.length then Bm g t e r b.2.σ b.2.Γ else none
@[simp] def EX (nt:Nat) (ix:List Nat) (σ:List (Option SV)):List (Option SV):=List.replicate nt none++ix.map fun k=>(σ[k]?).join
@[simp] def BD (mi:MF) (nt:Nat) (ix:List Nat) (g:MG) (t:MT) (e:ME):MF:=fun s=>(mi s).bind fun r=>
 if r.1.length<=big then (Bm g t e r.1 (EX nt ix r.2.σ) r.2.Γ).map fun q=>(q.1,{r.2 with Γ:=q.2}) else none
section
variable {f:Fr} {α α':Nat->Addr} {s s':DS} {σ σ':St} {H H' Hh H1:Hp} {X:Cx} {pos:Pos}
theorem take_all {Γ:Gm} {n:Nat} (h:Γ.length=n):Γ.take n=Γ:=by rw[<-h];exact List.take_length
theorem JQ (rs:RS f α s σ H) (nt:Nat) (ix:List Nat):(EX nt ix s.σ).length=(cSt nt ix σ).length/\∀ (i:Nat) (d:SV),(EX nt ix s.σ)[i]?=some (some d)->∃ v,(cSt nt ix σ)[i]?=some (some v)/\RepV f α s.Γ H d v:=by
 unfold EX cSt
 refine ⟨by simp,fun i d h=>?_⟩
 by_cases c:i<nt
 ·rw[List.getElem?_append_left (by simpa using c)] at h
  simp[c] at h
 ·rw[List.getElem?_append_right (by simpa using c)] at h ⊢
  simp only[List.length_replicate,List.getElem?_map] at h ⊢
  cases e:ix[i - nt]? with
  | none=>rw[e] at h;cases h
  | some k=>
   rw[e] at h
   simp only[Option.map_some] at h ⊢
   have hk:s.σ[k]?=some (some d):=by
    cases hz:s.σ[k]? with
    | none=>rw[hz] at h;cases h
    | some o=>rw[hz] at h;exact congrArg some (Option.some.inj h)
   obtain ⟨v,h1,h2⟩:=rs.slot k d hk
   exact ⟨v,by rw[h1];rfl,h2⟩
inductive CI (f:Fr) (α1:Nat->Addr) (s1:DS) (σ:St) (H1:Hp) (g:MG) (t:MT) (e:ME) (items ys:List D) (Γ':Gm) (l:Addr) (i:Nat) (τ':St) (Hi:Hp):Prop
 | mk (αi:Nat->Addr) (Γi:Gm) (τ:List (Option SV)) (H2:Hp) (acc:List D) (vs:List V) (rest:List D):Hi=upd H2 l (.lst vs)->H2 l=none->RS f αi {s1 with Γ:=Γi} σ H2->Ext f α1 αi s1.Γ Γi H1 H2->Γi.length=s1.Γ.length->Reps (wd f αi Γi H2) acc vs->acc.length<=i ->
   τ.length=τ'.length->(∀ (j:Nat) (d:SV),τ[j]?=some (some d)->∃ v,τ'[j]?=some (some v)/\RepV f αi Γi H2 d v)->Bm g t e (items.drop i) τ Γi=some (rest,Γ')->ys=acc++rest->CI f α1 s1 σ H1 g t e items ys Γ' l i τ' Hi
theorem IV {mi:MF} {nt:Nat} {ix:List Nat} {g:MG} {t:MT} {e:ME} {Q:VK} (h:tDF f (BD mi nt ix g t e) σ H Q):Ij (tDI f mi) nt ix (xG f.K g) (xT f.K t) (xD f.K e) σ H Q:=by
 obtain ⟨α,s,r,rs,lo,e0,q⟩:=h
 obtain ⟨⟨items,s1⟩,h1,e0⟩:=bind_some e0
 split at e0
 case isFalse=>cases e0
 rename_i hbig
 obtain ⟨⟨ys,Γ'⟩,h2,rfl⟩:=Af e0
 refine ⟨α,s,_,rs,lo,h1,fun J α1 H1 rs1 l1 x1 it l hl=>?_⟩
 refine Kf items.length (fun i τ' Hi=>CI f α1 s1 σ H1 g t e items ys Γ' l i τ' Hi) ?_ ?_ ?_ ?_ ?_
 ·exact ⟨α1,s1.Γ,EX nt ix s1.σ,H1,[],[],ys,rfl,hl,rs1,.refl,rfl,.nil,Nat.le_refl _,(JQ rs1 nt ix).1,(JQ rs1 nt ix).2,h2,rfl⟩
 ·rintro i τ' Hi hi ⟨αi,Γi,τ,H2,acc,vs,rest,rfl,hl2,ri,xi,lenΓ,hacc,hai,hτl,hτ,hgo,hys⟩
  exact it.go i αi _ σ H2 _ hi ri xi fun a o h=>by rw[AO (A0 h hl2)];exact h
 ·rintro τ' Hi ⟨αi,Γi,τ,H2,acc,vs,rest,rfl,hl2,ri,xi,lenΓ,hacc,hai,hτl,hτ,hgo,hys⟩
  exact it.stop αi _ σ H2 _ ri xi fun a o h=>by rw[AO (A0 h hl2)];exact h
 ·rintro i x τ' Hi H3 hi ⟨αi,Γi,τ,H2,acc,vs,rest,rfl,hl2,ri,xi,lenΓ,hacc,hai,hτl,hτ,hgo,hys⟩ y
  have hd:items[i]?=some items[i]:=List.getElem?_eq_getElem hi
  rw[List.drop_eq_getElem_cons hi] at hgo
  obtain ⟨s2,g2,hgo⟩:=bind_some hgo
  obtain ⟨b,t2,hgo⟩:=bind_some hgo
  have fin:∀ {H2':Hp},H2' l=none->RS f αi {s1 with Γ:=Γi} σ H2'->Ext f αi αi Γi Γi H2 H2'->Rep (wd f αi Γi H2') items[i] x ->
    xG f.K g x τ' (upd H2' l (.lst vs)) fun σ2 H2=>xT f.K t σ2 H2 fun b H3=>if b=true then xD f.K e σ2 H3 fun v H4=>∃ xs,H4 l=some (.lst xs)/\xs.length<sizeLine/\CI f α1 s1 σ H1 g t e items ys Γ' l (i+1) σ2 (upd H4 l (.lst (xs++[v]))) else CI f α1 s1 σ H1 g t e items ys Γ' l (i+1) σ2 H3:=fun {H2'} hl2' ri' x2' hr=>by
   have ov:Over (fun a=>a=l) H2' (upd H2' l (.lst vs)):=⟨fun a h=>AO h,fun a h=>by rw[h];exact hl2',fun a h=>by rw[h,An];exact fun z=>nomatch z⟩
   have en:=ri'.enter ov hτl fun j d h=>let ⟨v,a,b⟩:=hτ j d h;⟨v,a,b.ext x2'⟩
   have back:∀ {s5:DS} {α5:Nat->Addr} {σ5:St} {H5:Hp},RS (inn f αi Γi (fun a=>a=l) (upd H2' l (.lst vs)) (BZ ri' ov)) α5 s5 σ5 H5->s5.lo=Γi.length->Ext (inn f αi Γi (fun a=>a=l) (upd H2' l (.lst vs)) (BZ ri' ov)) αi α5 Γi s5.Γ (upd H2' l (.lst vs)) H5->s5.Γ.length=Γi.length ->
     H5 l=some (.lst vs)/\RS f α5 {s1 with Γ:=s5.Γ} σ (del H5 l)/\Ext f α1 α5 s1.Γ s5.Γ H1 (del H5 l)/\Reps (wd f α5 s5.Γ (del H5 l)) acc vs/\(∀ (j:Nat) (d:SV),s5.σ[j]?=some (some d)->∃ v,σ5[j]?=some (some v)/\RepV f α5 s5.Γ (del H5 l) d v) /\
     ∀ d v,Rep (wd (inn f αi Γi (fun a=>a=l) (upd H2' l (.lst vs)) (BZ ri' ov)) α5 s5.Γ H5) d v->Rep (wd f α5 s5.Γ (del H5 l)) d v:=fun {s5 α5 σ5 H5} r5 l5 x5 len5=>by
    obtain ⟨lv1,lv2,lv3⟩:=ri'.leave ov r5 l5 x5 (H1:=del H5 l) fun a h=>Dt h
    have tk:s5.Γ.take Γi.length=s5.Γ:=take_all len5
    simp only at lv1 lv2 lv3
    rw[tk] at lv1 lv2 lv3
    refine ⟨r5.fr l _ An fun ⟨n,xs,e1,e2⟩=>?_,lv1,(xi.trans x2').trans lv2,(hacc.kw x2'.kw).kw lv2.kw,fun j d h=>?_,fun d v h=>h.kw lv3⟩
    ·obtain ⟨us,z,_⟩:=ri'.box n xs e1
     rw[e2,hl2'] at z
     cases z
    ·obtain ⟨v,a,b⟩:=r5.slot j d h
     refine ⟨v,a,?_⟩
     cases d with
     | v d=>exact Rep.kw lv3 (show Rep _ d v from b)
     | b n=>exact b
     | p n d=>
      obtain ⟨h0,a',w,h1,h2,h3,h4⟩:=b
      obtain ⟨k1,k2⟩:=lv3.keep a' _ h2 h3
      exact ⟨h0,a',w,h1,k2,k1,h4.kw lv3⟩
     | l ns=>
      obtain ⟨h0,a',h1,h2,h3⟩:=b
      obtain ⟨k1,k2⟩:=lv3.keep a' _ h2 h3
      exact ⟨h0,a',h1,k2,k1⟩
   refine ⟨(inn f αi Γi (fun a=>a=l) (upd H2' l (.lst vs)) (BZ ri' ov)),rfl,αi,_,_,s2,en,Nat.le_refl _,Rep.kw (EV ri' ov) hr,g2,fun σ2 r2 l2 G2=>?_⟩
   refine ⟨(inn f αi Γi (fun a=>a=l) (upd H2' l (.lst vs)) (BZ ri' ov)),rfl,αi,s2,b,r2,by rw[l2,G2];exact Nat.le_refl _,t2,fun α3 H3 r3 l3 x3=>?_⟩
   have x3':Ext (inn f αi Γi (fun a=>a=l) (upd H2' l (.lst vs)) (BZ ri' ov)) αi α3 Γi b.2.Γ (upd H2' l (.lst vs)) H3:=by
    have z:=x3
    rw[G2] at z
    exact z
   split at hgo
   ·rename_i cb
    dsimp only
    rw[if_pos cb]
    obtain ⟨⟨xv,s4⟩,e4,hgo⟩:=bind_some hgo
    refine ⟨(inn f αi Γi (fun a=>a=l) (upd H2' l (.lst vs)) (BZ ri' ov)),rfl,α3,b.2,_,r3,by rw[l3,l2];exact x3'.m,e4,fun α4 v H4 r4 l4 x4 hv=>?_⟩
    cases xv with
    | b n=>cases hgo
    | p n d=>cases hgo
    | l ns=>cases hgo
    | v yv=>
     simp only at hgo
     split at hgo
     case isFalse=>cases hgo
     rename_i len4
     obtain ⟨⟨rest2,_⟩,h5,e5⟩:=Af hgo
     cases e5
     obtain ⟨b1,b2,b3,b4,b5,b6⟩:=back r4 (l4.trans (l3.trans l2)) (x3'.trans x4) len4
     refine ⟨vs,b1,Nat.lt_of_le_of_lt (by rw[hacc.len];exact Nat.le_of_lt (Nat.lt_of_le_of_lt hai hi)) (Qw hbig),α4,s4.Γ,s4.σ,del H4 l,acc++[yv],vs++[v],rest2,?_,IS,b2,b3,len4.trans lenΓ,b4.append (.cons (b6 _ _ hv) .nil),by rw[List.length_append];simpa using hai,r4.len,b5,h5,by rw[hys];simp⟩
     funext a
     by_cases z:a=l
     ·rw[z,An,An]
     ·rw[AO z,AO z,Dt z]
   ·rename_i cb
    dsimp only
    rw[if_neg cb]
    split at hgo
    case isFalse=>cases hgo
    rename_i len4
    obtain ⟨b1,b2,b3,b4,b5,b6⟩:=back r3 (l3.trans l2) x3' len4
    exact ⟨α3,b.2.Γ,b.2.σ,del H3 l,acc,vs,rest,(JI b1).symm,IS,b2,b3,len4.trans lenΓ,b4,Nat.le_succ_of_le hai,r3.len,b5,hgo,hys⟩
  rcases it.yl i _ x αi _ σ H2 _ H3 hd ri xi (fun a o h=>by rw[AO (A0 h hl2)];exact h) y with ⟨rfl,hr⟩ | ⟨T,u,hT,rfl,hr⟩
  ·exact fin hl2 ri .refl hr
  ·have lT:l≠T:=fun z=>by rw[<-z,An] at hT;cases hT
   have hT2:H2 T=none:=by rw[AO (Ne.symm lT)] at hT;exact hT
   have z:=fin (H2':=upd H2 T u) (by rw[AO lT];exact hl2) (ri.new hT2) (.new ri hT2) hr
   have e2:upd (upd H2 l (.lst vs)) T u=upd (upd H2 T u) l (.lst vs):=by
    funext a
    by_cases z1:a=T
    ·rw[z1,An,AO (Ne.symm lT),An]
    ·by_cases z2:a=l
     ·rw[z2,AO lT,An,An]
     ·rw[AO z1,AO z2,AO z2,AO z1]
   rw[e2]
   exact z
 ·rintro τ' Hi ⟨αi,Γi,τ,H2,acc,vs,rest,rfl,hl2,ri,xi,lenΓ,hacc,hai,hτl,hτ,hgo,hys⟩
  rw[List.drop_length] at hgo
  cases hgo
  rw[List.append_nil] at hys
  subst hys
  exact q αi l vs H2 ri l1 (x1.trans xi) hl2 hacc
theorem CO {elt tg src:Expr} {tests:List Expr} {sc esc:Scope} {cp:Pos} {N tn fn:List Str} {ix:List Nat} {mi:MF} {g:MG} {t:MT} {e:ME} (hc:X.calm=true) (hsc:X.env.scope=esc) (hN:X.N=N) (ok:CompOk sc esc N fn ix) (hi:DI X tg src mi)
  (hg:∀ s2 H2 cl C fp,DG (Be X (tn++fn) sc s2 H2 cl C fp) tg g)
  (ht:∀ s2 H2 cl C fp,DTs (Be X (tn++fn) sc s2 H2 cl C fp) tests t)
  (he:∀ s2 H2 cl C fp,DE (Be X (tn++fn) sc s2 H2 cl C fp) elt e)
  (hs:∀ x,foldedSetIterable src X.env x=pure x:=by intro _;rfl):DF X (.ListComp elt [⟨tg,src,tests,0⟩] sc cp) (BD mi tn.length ix g t e):=.mk fun f hf=>
 PE.imp (Q5 (g:=xG X.K g) (tc:=xT X.K t) (te:=xD X.K e) hc hsc hN ok (hi f hf) (fun s2 H2 cl C fp=>(hg s2 H2 cl C fp).x) (fun s2 H2 cl C fp=>(ht s2 H2 cl C fp).x) (fun s2 H2 cl C fp=>(he s2 H2 cl C fp).x) hs) fun σ H Q h=>by
  rw[<-hf]
  exact IV h
theorem LN {i:Nat} {y:Str} {py sp:Pos} {elt tg src:Expr} {tests:List Expr} {sc esc:Scope} {cp:Pos} {N tn fn:List Str} {ix:List Nat} {mi:MF} {g:MG} {t:MT} {e:ME} (hnd:X.N.Nodup) (hiy:X.N[i]?=some y) (hy:X.env.scope.names.lookup y=some .local) (hc:X.calm=true) (hsc:X.env.scope=esc) (hN:X.N=N) (ok:CompOk sc esc N fn ix) (hi:DI X tg src mi)
  (hg:∀ s2 H2 cl C fp,DG (Be X (tn++fn) sc s2 H2 cl C fp) tg g)
  (ht:∀ s2 H2 cl C fp,DTs (Be X (tn++fn) sc s2 H2 cl C fp) tests t)
  (he:∀ s2 H2 cl C fp,DE (Be X (tn++fn) sc s2 H2 cl C fp) elt e)
  (hsw:swapsWith (.ListComp elt [⟨tg,src,tests,0⟩] sc cp) (some (.Name y py)) sp.line X.env=pure true:=by rfl)
  (hs:∀ x,foldedSetIterable src X.env x=pure x:=by intro _;rfl):DSt X (.Assign [.Name y py] (.ListComp elt [⟨tg,src,tests,0⟩] sc cp) sp) (AL i (AE (BD mi tn.length ix g t e))):=.mk fun f hf=>
 PS.imp (IM (g:=xG X.K g) (tc:=xT X.K t) (te:=xD X.K e) hnd hiy hy hc hsc hN ok (hi f hf) (fun s2 H2 cl C fp=>(hg s2 H2 cl C fp).x) (fun s2 H2 cl C fp=>(ht s2 H2 cl C fp).x) (fun s2 H2 cl C fp=>(he s2 H2 cl C fp).x) hsw hs) fun E σ H hh_=>by
  obtain ⟨α,s,o,rs,lo,e0,q⟩:=hh_
  rw[<-hf]
  obtain ⟨r,h1,rfl⟩:=Af e0
  obtain ⟨r2,h2,rfl⟩:=Af h1
  exact IV ⟨α,s,r2,rs,lo,h2,fun α' a vs H' rs' l' x ha hx=>q α' _ _ ((rs'.new ha).set (d:=.v (.lst r2.1)) (Ec rs' ha hx)) l' (x.trans (.new rs' ha))⟩
theorem OE {i:Nat} {y:Str} {py sp:Pos} {elt tg src:Expr} {tests:List Expr} {sc esc:Scope} {cp:Pos} {N tn fn:List Str} {ix:List Nat} {mi:MF} {g:MG} {t:MT} {e:ME} (hnd:X.N.Nodup) (hiy:X.N[i]?=some y) (hy:X.env.scope.names.lookup y=some .local) (hc:X.calm=true) (hsc:X.env.scope=esc) (hN:X.N=N) (ok:CompOk sc esc N fn ix) (hi:DI X tg src mi)
  (hg:∀ s2 H2 cl C fp,DG (Be X (tn++fn) sc s2 H2 cl C fp) tg g)
  (ht:∀ s2 H2 cl C fp,DTs (Be X (tn++fn) sc s2 H2 cl C fp) tests t)
  (he:∀ s2 H2 cl C fp,DE (Be X (tn++fn) sc s2 H2 cl C fp) elt e)
  (hsw:swapsWith (.ListComp elt [⟨tg,src,tests,0⟩] sc cp) (some (.Name y py)) sp.line X.env=pure true:=by rfl)
  (hs:∀ x,foldedSetIterable src X.env x=pure x:=by intro _;rfl):DSt X (.Assign [.Name y py] (.ListComp elt [⟨tg,src,tests,0⟩] sc cp) sp) (CB i (BD mi tn.length ix g t e)):=.mk fun f hf=>
 PS.imp (IM (g:=xG X.K g) (tc:=xT X.K t) (te:=xD X.K e) hnd hiy hy hc hsc hN ok (hi f hf) (fun s2 H2 cl C fp=>(hg s2 H2 cl C fp).x) (fun s2 H2 cl C fp=>(ht s2 H2 cl C fp).x) (fun s2 H2 cl C fp=>(he s2 H2 cl C fp).x) hsw hs) fun E σ H hh_=>by
  obtain ⟨α,s,o,rs,lo,e0,q⟩:=hh_
  rw[<-hf]
  obtain ⟨r,h1,rfl⟩:=Af e0
  refine IV ⟨α,s,r,rs,lo,h1,fun α' a vs H' rs' l' x ha hx=>?_⟩
  have x2:=Ext.add (xs:=r.1) (o:=.lst vs) rs' ha
  exact q (BV α' r.2.Γ.length a) _ _ (RS.set (rs'.add (lo_le lo l' x) ha hx) (d:=.b r.2.Γ.length) ⟨by show r.2.Γ.length<(r.2.Γ++[some r.1]).length;rw[List.length_append];simp,by unfold BV;rw[if_pos rfl]⟩) l' (x.trans x2)
end
abbrev MD:=List SV->Gm->Option (D×Gm)
abbrev MDF:=List SV->Gm->Option (List D×Gm)
def spD (K:PySem.W.Frag) (np:Nat) (M:MD):Sp:=fun vs H Q _=>∃ (f:Fr) (α:Nat->Addr) (s:DS) (σ:St) (ds:List SV) (r:D×Gm),f.K=K/\ds.length=np/\RS f α s σ H/\RepVs f α s.Γ H ds vs/\M ds s.Γ=some r /\
 ∀ α' v H',RS f α' {s with Γ:=r.2} σ H'->Ext f α α' s.Γ r.2 H H'->Rep (wd f α' r.2 H') r.1 v->Q v H'
def spF (K:PySem.W.Frag) (np:Nat) (M:MDF):Sp:=fun vs H Q _=>∃ (f:Fr) (α:Nat->Addr) (s:DS) (σ:St) (ds:List SV) (r:List D×Gm),f.K=K/\ds.length=np/\RS f α s σ H/\RepVs f α s.Γ H ds vs/\M ds s.Γ=some r /\
 ∀ α' a vs H',RS f α' {s with Γ:=r.2} σ H'->Ext f α α' s.Γ r.2 H H'->H' a=none->Reps (wd f α' r.2 H') r.1 vs->Q (.ref a) (upd H' a (.lst vs))
@[simp] def DH (n:Nat) (ds:List SV):List (Option SV):=ds.map some++List.replicate (n - ds.length) none
@[simp] def mFn (n:Nat) (m:MS):MD:=fun ds Γ=>(m ⟨DH n ds,Γ,Γ.length⟩).bind fun o=>match o with
 | .rt d s=>some (d,s.Γ.take Γ.length)
 | .rf xs s=>some (.lst xs,s.Γ.take Γ.length)
 | .rp xs d s=>some (.tup [.lst xs,d],s.Γ.take Γ.length)
 | .nx s=>some (.non,s.Γ.take Γ.length)
 | .bk _=>none
 | .ct _=>none
@[simp] def Cn (n:Nat) (m:MS):MDF:=fun ds Γ=>(m ⟨DH n ds,Γ,Γ.length⟩).bind fun o=>match o with
 | .rf xs s=>some (xs,s.Γ.take Γ.length)
 | _=>none
section
variable {P:Program} {w:World} {K:PySem.W.Frag} {mg:Str->Option Value} {base:Heap} {f:Fr} {α α':Nat->Addr} {s s':DS} {σ σ':St} {H H':Hp} {X:Cx} {pos:Pos}
theorem RQ {ds:List SV} {vs:List V}:RepVs f α s.Γ H ds vs->∀ (i:Nat) (d:SV),(ds.map some)[i]?=some (some d)->∃ v,(vs.map some)[i]?=some (some v)/\RepV f α s.Γ H d v:=by
 induction ds generalizing vs with
 | nil=>intro _ i d h;cases h
 | cons c ds ih=>
  intro h i d hi
  obtain ⟨v,r,rfl,h1,h2⟩:=h.cons_inv
  cases i with
  | zero=>cases hi;exact ⟨v,rfl,h1⟩
  | succ i=>exact ih h2 i d hi
theorem C3:Over (fun _=>False) H H:=⟨fun _ _=>rfl,fun _ h=>h.elim,fun _ h=>h.elim⟩
theorem JF {N:List Str} {ds:List SV} {vs:List V} (rs:RS f α s σ H) (h:RepVs f α s.Γ H ds vs):RS (inn f α s.Γ (fun _=>False) H (BZ rs C3)) α ⟨DH N.length ds,s.Γ,s.Γ.length⟩ (L2.start N vs) H:=by
 have hl:=h.len
 refine rs.enter C3 (by unfold DH L2.start;simp[hl]) fun i d e=>?_
 unfold DH at e
 unfold L2.start
 by_cases c:i<ds.length
 ·rw[List.getElem?_append_left (by simpa using c)] at e
  rw[List.getElem?_append_left (by rw[List.length_map,hl];exact c)]
  exact RQ h i d e
 ·rw[List.getElem?_append_right (by simpa using c)] at e
  rw[List.getElem?_replicate] at e
  split at e<;>cases e
theorem Bo {x qual:Str} {st:Stmt} {fa:Addr} {fd:FuncData} {N ps:List Str} {k:Nat} {m:MS} (F:Fun K x qual st fa fd) (S:FnScope N ps (Ak st))
  (hb:∀ (cdv:Value) (A:Around) (outer:List Env) (s:Shared) (H:Hp) (E:XK),Room k (A.deeper (PyProof.Rows.envOfC qual (Ak st) s.heap.objs.size fa cdv))->DSs (DY CX0 P w K mg base N qual (Ak st) fa cdv A outer s H E).nox (Cr st) m) :
  FnOk P w K mg base CX0 (k+1) fa fd ps (spD K ps.length (mFn N.length m)):=by
 refine F.ok S (fun vs H Q E h=>?_) (fun cdv A outer sh H vs Q E hr h=>?_)
 ·obtain ⟨f,α,s,σ,ds,r,_,hl,_,hv,_⟩:=h
  rw[hv.len,hl]
 obtain ⟨f,α,s,σ,ds,r,hK,hl,rs,hv,hM,q⟩:=h
 obtain ⟨o,h1,h2⟩:=bind_some hM
 refine ⟨_,hb cdv A outer sh H E hr (inn f α s.Γ (fun _=>False) H (BZ rs C3)) hK,α,_,o,JF rs hv,Nat.le_refl _,h1,?_⟩
 cases o with
 | bk s'=>cases h2
 | ct s'=>cases h2
 | nx s'=>
  cases h2
  intro α' σ' H' r' l' x'
  obtain ⟨a1,a2,a3⟩:=rs.leave C3 r' l' x' (H1:=H') fun _ _=>rfl
  exact q α' .non H' a1 a2 (by unfold Rep;rfl)
 | rt d s'=>
  cases h2
  intro α' σ' v H' r' l' x' hw
  obtain ⟨a1,a2,a3⟩:=rs.leave C3 r' l' x' (H1:=H') fun _ _=>rfl
  exact q α' v H' a1 a2 (hw.kw a3)
 | rf xs s'=>
  cases h2
  intro α' σ' a vs' H' r' l' x' ha hx
  obtain ⟨a1,a2,a3⟩:=rs.leave C3 r' l' x' (H1:=H') fun _ _=>rfl
  exact q α' _ _ (a1.new ha) (a2.trans (.new a1 ha)) (Ec a1 ha (hx.kw a3))
 | rp xs d s'=>
  cases h2
  intro α' σ' a t vs' w H' r' l' x' ha hx hw ht hta
  obtain ⟨a1,a2,a3⟩:=rs.leave C3 r' l' x' (H1:=H') fun _ _=>rfl
  have ht':(upd H' a (.lst vs')) t=none:=by rw[AO hta];exact ht
  have r1:=a1.new (o:=.lst vs') ha
  have e1:=Ext.new (o:=.lst vs') a1 ha
  exact q α' _ _ (r1.new ht') ((a2.trans e1).trans (.new r1 ht')) (GA r1 ht' (.cons (Ec a1 ha (hx.kw a3)) (.cons ((hw.kw a3).kw e1.kw) .nil)))
theorem IH {x qual:Str} {st:Stmt} {fa:Addr} {fd:FuncData} {N ps:List Str} {k:Nat} {m:MS} (F:Fun K x qual st fa fd) (S:FnScope N ps (Ak st))
  (hb:∀ (cdv:Value) (A:Around) (outer:List Env) (s:Shared) (H:Hp) (E:XK),Room k (A.deeper (PyProof.Rows.envOfC qual (Ak st) s.heap.objs.size fa cdv))->DSs (DY CX0 P w K mg base N qual (Ak st) fa cdv A outer s H E).nox (Cr st) m) :
  FnOk P w K mg base CX0 (k+1) fa fd ps (spF K ps.length (Cn N.length m)):=by
 refine F.ok S (fun vs H Q E h=>?_) (fun cdv A outer sh H vs Q E hr h=>?_)
 ·obtain ⟨f,α,s,σ,ds,r,_,hl,_,hv,_⟩:=h
  rw[hv.len,hl]
 obtain ⟨f,α,s,σ,ds,r,hK,hl,rs,hv,hM,q⟩:=h
 obtain ⟨o,h1,h2⟩:=bind_some hM
 refine ⟨_,hb cdv A outer sh H E hr (inn f α s.Γ (fun _=>False) H (BZ rs C3)) hK,α,_,o,JF rs hv,Nat.le_refl _,h1,?_⟩
 cases o with
 | bk s'=>cases h2
 | ct s'=>cases h2
 | nx s'=>cases h2
 | rt d s'=>cases h2
 | rp xs d s'=>cases h2
 | rf xs s'=>
  cases h2
  intro α' σ' a vs' H' r' l' x' ha hx
  obtain ⟨a1,a2,a3⟩:=rs.leave C3 r' l' x' (H1:=H') fun _ _=>rfl
  exact q α' _ _ _ a1 a2 ha (hx.kw a3)
theorem Qe {fa:Addr} {fd:FuncData} {ps:List Str} {k np:Nat} {M M':MD} (F:FnOk P w K mg base CX0 k fa fd ps (spD K np M)) (h:∀ ds Γ r,ds.length=np->M' ds Γ=some r->M ds Γ=some r):FnOk P w K mg base CX0 k fa fd ps (spD K np M'):=
 F.imp fun vs H Q E ⟨f,α,s,σ,ds,r,a1,a2,a3,a4,a5,a6⟩=>⟨f,α,s,σ,ds,r,a1,a2,a3,a4,h _ _ _ a2 a5,a6⟩
@[simp] def AI (M:MD) (ms:MA):ME:=fun s=>(ms s).bind fun x=>(M x.1 x.2.Γ).map fun r=>(.v r.1,{x.2 with Γ:=r.2})
@[simp] def Ck (M:MDF) (ms:MA):MF:=fun s=>(ms s).bind fun x=>(M x.1 x.2.Γ).map fun r=>(r.1,{x.2 with Γ:=r.2})
def Ar (ms:MA) (n:Nat):Prop:=∀ s r,ms s=some r->r.1.length=n
theorem AY:Ar AC 0:=fun s r e=>by cases e;rfl
theorem AK {m:ME} {ms:MA} {n:Nat} (h:Ar ms n):Ar (AA m ms) (n+1):=fun s r e=>by
 obtain ⟨x,h1,e⟩:=bind_some e
 obtain ⟨y,h2,rfl⟩:=Af e
 show (x.1::y.1).length=n+1
 rw[List.length_cons,h _ _ h2]
theorem Ab {x:Str} {p:Pos} {e:Expr} {es:List Expr} {fa:Addr} {fd:FuncData} {ps:List Str} {k np:Nat} {M:MD} {ms:MA} (F:FnOk X.prog X.w X.K X.mg X.base CX0 k fa fd ps (spD X.K np M)) (hr:Room k X.A) (hg:Gl X x) (hm:X.mg x=some (.ref fa)) (hk:PySem.W.keepIn X.K (.ref fa)=true) (hb:Binds X.K fd ps [])
  (ha:DA X (e::es) ms) (hn:Ar ms np) (hdb:(x == ("__debug__":Str))=false:=by decide) (he:starEach (e::es) X.env=(false,eval e X.env)::starEach es X.env:=by rfl) (hpl:(backTo pos (starEach es X.env)).any (·.1)=false:=by rfl) :
  DE X (.Call (.Name x p) (e::es) [] pos) (AI M ms):=.mk fun f hf=>PE.imp (Iq F hr hg hm hk hb .nil G0 (ha f hf) hdb he hpl) fun σ H Q hh_=>by
 obtain ⟨α,s,r,rs,lo,e0,q⟩:=hh_
 obtain ⟨y,h1,e0⟩:=bind_some e0
 obtain ⟨z,h2,rfl⟩:=Af e0
 refine ⟨α,s,y,rs,lo,h1,fun α1 vs H1 rs1 l1 x1 hv=>?_⟩
 dsimp only
 rw[List.append_nil]
 exact ⟨f,α1,y.2,σ,y.1,z,hf,hn _ _ h1,rs1,hv,h2,fun α2 v H2 rs2 x2 hw=>q α2 v H2 rs2 l1 (x1.trans x2) hw⟩
theorem Gd {x:Str} {p:Pos} {e:Expr} {es:List Expr} {fa:Addr} {fd:FuncData} {ps:List Str} {k np:Nat} {M:MDF} {ms:MA} (F:FnOk X.prog X.w X.K X.mg X.base CX0 k fa fd ps (spF X.K np M)) (hr:Room k X.A) (hg:Gl X x) (hm:X.mg x=some (.ref fa)) (hk:PySem.W.keepIn X.K (.ref fa)=true) (hb:Binds X.K fd ps [])
  (ha:DA X (e::es) ms) (hn:Ar ms np) (hdb:(x == ("__debug__":Str))=false:=by decide) (he:starEach (e::es) X.env=(false,eval e X.env)::starEach es X.env:=by rfl) (hpl:(backTo pos (starEach es X.env)).any (·.1)=false:=by rfl) :
  DF X (.Call (.Name x p) (e::es) [] pos) (Ck M ms):=.mk fun f hf=>PE.imp (Iq F hr hg hm hk hb .nil G0 (ha f hf) hdb he hpl) fun σ H Q hh_=>by
 obtain ⟨α,s,r,rs,lo,e0,q⟩:=hh_
 obtain ⟨y,h1,e0⟩:=bind_some e0
 obtain ⟨z,h2,rfl⟩:=Af e0
 refine ⟨α,s,y,rs,lo,h1,fun α1 vs H1 rs1 l1 x1 hv=>?_⟩
 dsimp only
 rw[List.append_nil]
 exact ⟨f,α1,y.2,σ,y.1,z,hf,hn _ _ h1,rs1,hv,h2,fun α2 a us H2 rs2 x2 ha hx=>q α2 a us H2 rs2 l1 (x1.trans x2) ha hx⟩
end
section
variable {X:Cx} {f:Fr} {α:Nat->Addr} {s:DS} {σ:St} {H:Hp} {K:PySem.W.Frag}
theorem A4 {Γ:Gm} {i:Int} {v:V} (h:RepV f α Γ H (.v (.int i)) v):v=.int i:=by
 have h:Rep (wd f α Γ H) (.int i) v:=h
 unfold Rep at h;exact h
theorem Bx {Γ:Gm} {i:Str} {v:V} (h:RepV f α Γ H (.v (.str i)) v):v=.str i:=by
 have h:Rep (wd f α Γ H) (.str i) v:=h
 unfold Rep at h;exact h
theorem Di {Γ:Gm} {i:Bool} {v:V} (h:RepV f α Γ H (.v (.bl i)) v):v=.bl i:=by
 have h:Rep (wd f α Γ H) (.bl i) v:=h
 unfold Rep at h;exact h
theorem PJ {Γ:Gm} {v:V} (h:RepV f α Γ H (.v .non) v):v=.non:=by
 have h:Rep (wd f α Γ H) .non v:=h
 unfold Rep at h;exact h
theorem FU {Γ:Gm} {xs:List D} {v:V} (h:RepV f α Γ H (.v (.tup xs)) v):∃ a vs,v=.ref a/\H a=some (.tup vs)/\Reps (wd f α Γ H) xs vs:=by
 have h:Rep (wd f α Γ H) (.tup xs) v:=h
 unfold Rep at h
 obtain ⟨a,vs,e,_,h1,h2⟩:=h
 exact ⟨a,vs,e,h1,h2⟩
theorem CH {W:Wd} {i:Int}:Rep W (.int i) (.int i):=by unfold Rep;rfl
theorem Br {W:Wd} {i:Bool}:Rep W (.bl i) (.bl i):=by unfold Rep;rfl
theorem HZ {W:Wd} {i:Str}:Rep W (.str i) (.str i):=by unfold Rep;rfl
theorem OI {Γ:Gm}:RepV f α Γ H (.v .non) .non:=by show Rep (wd f α Γ H) .non .non;unfold Rep;rfl
theorem Mn {Γ:Gm} {i:Int}:RepV f α Γ H (.v (.int i)) (.int i):=by show Rep (wd f α Γ H) (.int i) (.int i);unfold Rep;rfl
@[simp] def gI (c:Int->Int->Bool) (h:Int->Int->Int):Gm->SV->SV->Option D:=fun _ x y=>match x,y with
 | .v (.int i),.v (.int j)=>if c i j=true then some (.int (h i j)) else none
 | _,_=>none
theorem FJ {C:Int->Int->Prop} {c:Int->Int->Bool} {h:Int->Int->Int} (hc:∀ i j,c i j=true->C i j):OpD X (gI c h) (rI C fun i j=>.int (h i j)):=by
 intro f α s σ H x y u v z Q hf rs hu hv e q
 unfold gI at e
 split at e
 ·rename_i i j
  split at e
  ·rename_i hk
   cases e
   exact ⟨i,j,A4 hu,A4 hv,hc i j hk,q _ H rs .refl CH⟩
  ·cases e
 ·cases e
@[simp] def gI0 (h:Int->Int->Int):Gm->SV->SV->Option D:=fun _ x y=>match x,y with
 | .v (.int i),.v (.int j)=>some (.int (h i j))
 | _,_=>none
theorem Mv {h:Int->Int->Int}:OpD X (gI0 h) (rI0 fun i j=>.int (h i j)):=by
 intro f α s σ H x y u v z Q hf rs hu hv e q
 unfold gI0 at e
 split at e
 ·rename_i i j
  cases e
  exact ⟨i,j,A4 hu,A4 hv,q _ H rs .refl CH⟩
 ·cases e
@[simp] def gB0 (h:Int->Int->Bool):Gm->SV->SV->Option D:=fun _ x y=>match x,y with
 | .v (.int i),.v (.int j)=>some (.bl (h i j))
 | _,_=>none
theorem Ic {h:Int->Int->Bool}:OpD X (gB0 h) (rI0 fun i j=>.bl (h i j)):=by
 intro f α s σ H x y u v z Q hf rs hu hv e q
 unfold gB0 at e
 split at e
 ·rename_i i j
  cases e
  exact ⟨i,j,A4 hu,A4 hv,q _ H rs .refl Br⟩
 ·cases e
abbrev Cz:=gI0 fun i j=>i - j
def BX (i j:Int):Bool:=decide ((-(2 ^ 64)<i/\i<2 ^ 64)\/(-(2 ^ 64)<j/\j<2 ^ 64))
def CP (i j:Int):Bool:=decide (0<j)
def GR (i j:Int):Bool:=decide (0<=j/\j<=1000000/\i.natAbs<2 ^ 64)
abbrev B3:=gI BX fun i j=>i * j
abbrev EA:=gI CP fun i j=>i % j
abbrev BB:=gI GR fun i j=>i ^ j.toNat
theorem NL:OpD X B3 (rI CMul fun i j=>.int (i * j)):=FJ fun i j h=>by unfold BX at h;unfold CMul;exact of_decide_eq_true h
theorem NX:OpD X EA (rI (fun _ j=>0<j) fun i j=>.int (i % j)):=FJ fun i j h=>of_decide_eq_true h
theorem Ow:OpD X BB (rI HK fun i j=>.int (i ^ j.toNat)):=FJ fun i j h=>by unfold GR at h;unfold HK;exact of_decide_eq_true h
abbrev gGt:=gB0 fun i j=>decide (j<i)
abbrev gGe:=gB0 fun i j=>decide (j<=i)
@[simp] def AQ:Gm->SV->SV->Option D:=fun Γ x y=>match x,y with
 | .v (.int i),.v (.int j)=>some (.int (i+j))
 | .v (.str a),.v (.str b)=>if a.length+b.length<=big then some (.str (a++b)) else none
 | x,y=>match elems Γ x,elems Γ y with
  | some xs,some ys=>if xs.length+ys.length<=big then some (.lst (xs++ys)) else none
  | _,_=>none
@[simp] def BA:Gm->SV->SV->Option (List D):=fun Γ x y=>match elems Γ x,elems Γ y with
 | some xs,some ys=>if xs.length+ys.length<=big then some (xs++ys) else none
 | _,_=>none
def KQ:R2:=fun x y H Q=>rI0 (fun i j=>.int (i+j)) x y H Q\/(∃ i j,x=.str i/\y=.str j/\i.length+j.length<=sizeLine/\Q (.str (i++j)) H)\/HV x y H Q
theorem Oi:OpR X (binaryOp .Add) KQ:=op_add.or (op_add_str.or JE)
theorem QU:OpF X BA HV:=by
 intro f α s σ H x y u v z Q hf rs hu hv e q
 unfold BA at e
 split at e
 ·rename_i xs ys h1 h2
  split at e
  ·rename_i hz
   cases e
   obtain ⟨a,vs,rfl,a1,a2⟩:=BQ rs h1 hu
   obtain ⟨b,us,rfl,b1,b2⟩:=BQ rs h2 hv
   exact ⟨a,b,vs,us,rfl,rfl,a1,b1,by rw[a2.len,b2.len];exact Ct hz,fun p hp=>q p _ hp (a2.append b2)⟩
  ·cases e
 ·cases e
theorem Nv:OpD X AQ KQ:=by
 intro f α s σ H x y u v z Q hf rs hu hv e q
 unfold AQ at e
 split at e
 ·rename_i i j
  cases e
  exact .inl ⟨i,j,A4 hu,A4 hv,q _ H rs .refl CH⟩
 ·rename_i a b
  split at e
  ·rename_i hz
   cases e
   exact .inr (.inl ⟨a,b,Bx hu,Bx hv,Ct hz,q _ H rs .refl HZ⟩)
  ·cases e
 ·split at e
  ·rename_i xs ys h1 h2
   split at e
   ·rename_i hz
    cases e
    obtain ⟨a,vs,rfl,a1,a2⟩:=BQ rs h1 hu
    obtain ⟨b,us,rfl,b1,b2⟩:=BQ rs h2 hv
    exact .inr (.inr ⟨a,b,vs,us,rfl,rfl,a1,b1,by rw[a2.len,b2.len];exact Ct hz,fun p hp=>q _ _ (rs.new hp) (.new rs hp) (Ec rs hp (a2.append b2))⟩)
   ·cases e
  ·cases e
@[simp] def DM:SV->SV->Option Bool:=fun x y=>match x,y with
 | .v (.int i),.v (.int j)=>some (decide (i=j))
 | .v (.str i),.v (.str j)=>some (decide (i=j))
 | .v (.bl i),.v (.bl j)=>some (decide (i=j))
 | _,_=>none
@[simp] def Fp:Gm->SV->SV->Option Bool:=fun Γ x y=>match elems Γ x,elems Γ y with
 | some [],some ys=>some ys.isEmpty
 | some xs,some []=>some xs.isEmpty
 | _,_=>none
@[simp] def gEq:Gm->SV->SV->Option D:=fun Γ x y=>match DM x y with
 | some b=>some (.bl b)
 | none=>(Fp Γ x y).map .bl
@[simp] def gNe:Gm->SV->SV->Option D:=fun Γ x y=>match DM x y with
 | some b=>some (.bl !b)
 | none=>(Fp Γ x y).map fun b=>.bl !b
theorem Ju {Γ:Gm} {x y:SV} {u v:V} {b:Bool} (h:DM x y=some b) (hu:RepV f α Γ H x u) (hv:RepV f α Γ H y v):Hd u v=true/\decide (u=v)=b:=by
 unfold DM at h
 split at h
 ·cases h;rw[A4 hu,A4 hv];exact ⟨rfl,by simp⟩
 ·cases h;rw[Bx hu,Bx hv];exact ⟨rfl,by simp⟩
 ·cases h;rw[Di hu,Di hv];exact ⟨rfl,by simp⟩
 ·cases h
theorem J6 {x y:SV} {u v:V} {b:Bool} (rs:RS f α s σ H) (h:Fp s.Γ x y=some b) (hu:RepV f α s.Γ H x u) (hv:RepV f α s.Γ H y v):∃ p q xs ys,u=.ref p/\v=.ref q/\H p=some (.lst xs)/\H q=some (.lst ys)/\(xs=[]\/ys=[])/\decide (xs=ys)=b:=by
 unfold Fp at h
 split at h
 ·rename_i ys h1 h2
  cases h
  obtain ⟨a,vs,rfl,a1,a2⟩:=BQ rs h1 hu
  obtain ⟨c,us,rfl,b1,b2⟩:=BQ rs h2 hv
  refine ⟨a,c,vs,us,rfl,rfl,a1,b1,.inl a2.nil_inv,?_⟩
  rw[a2.nil_inv]
  cases ys with
  | nil=>rw[b2.nil_inv];rfl
  | cons d ds=>obtain ⟨w,r,rfl,_⟩:=b2.cons_inv;rfl
 ·rename_i xs _ h1 h2
  cases h
  obtain ⟨a,vs,rfl,a1,a2⟩:=BQ rs h1 hu
  obtain ⟨c,us,rfl,b1,b2⟩:=BQ rs h2 hv
  refine ⟨a,c,vs,us,rfl,rfl,a1,b1,.inr b2.nil_inv,?_⟩
  rw[b2.nil_inv]
  cases xs with
  | nil=>rw[a2.nil_inv];rfl
  | cons d ds=>obtain ⟨w,r,rfl,_⟩:=a2.cons_inv;rfl
 ·cases h
def GY (K:PySem.W.Frag):R2:=fun x y H Q=>rEq x y H Q\/KM K x y H Q
def Ff (K:PySem.W.Frag):R2:=fun x y H Q=>rNe x y H Q\/K4 K x y H Q
theorem J3 (hu:X.A.units<cLine):OpR X (compareOp .Eq) (GY X.K):=op_eq.or (Rf hu)
theorem R7 (hu:X.A.units<cLine):OpR X (compareOp .NotEq) (Ff X.K):=op_ne.or (SQ hu)
theorem Jj:OpD X gEq (GY X.K):=by
 intro f α s σ H x y u v z Q hf rs hu hv e q
 unfold gEq at e
 split at e
 ·rename_i b hb
  cases e
  obtain ⟨h1,h2⟩:=Ju hb hu hv
  exact .inl ⟨h1,by rw[h2];exact q _ H rs .refl Br⟩
 ·obtain ⟨b,hb,rfl⟩:=Af e
  obtain ⟨p,q',xs,ys,rfl,rfl,h1,h2,h3,h4⟩:=J6 rs hb hu hv
  exact .inr ⟨p,q',xs,ys,rfl,rfl,SqL.of h1,SqL.of h2,h3,by rw[h4];exact q _ H rs .refl Br⟩
theorem Pi:OpD X gNe (Ff X.K):=by
 intro f α s σ H x y u v z Q hf rs hu hv e q
 unfold gNe at e
 split at e
 ·rename_i b hb
  cases e
  obtain ⟨h1,h2⟩:=Ju hb hu hv
  exact .inl ⟨h1,by rw[h2];exact q _ H rs .refl Br⟩
 ·obtain ⟨b,hb,rfl⟩:=Af e
  obtain ⟨p,q',xs,ys,rfl,rfl,h1,h2,h3,h4⟩:=J6 rs hb hu hv
  exact .inr ⟨p,q',xs,ys,rfl,rfl,SqL.of h1,SqL.of h2,h3,by rw[h4];exact q _ H rs .refl Br⟩
def intsOf:List D->Option (List Int)
 | []=>some []
 | .int i::r=>(intsOf r).map (i::·)
 | _=>none
theorem LA:∀ {xs:List D} {ns:List Int},intsOf xs=some ns->xs=ns.map .int
 | [],ns,e=>by cases e;rfl
 | .int i::r,ns,e=>by
  obtain ⟨ms,h,rfl⟩:=Af (show (intsOf r).map (i::·)=some ns from e)
  rw[LA h];rfl
theorem Fw:∀ {ns:List Int},intsOf (ns.map .int)=some ns
 | []=>rfl
 | i::r=>by show (intsOf (r.map D.int)).map (i::·)=_;rw[Fw];rfl
@[simp] def gIx:Gm->SV->SV->Option D:=fun Γ x y=>match y with
 | .v (.int i)=>match x with
  | .v (.tup xs)=>atI xs i
  | .v (.str z)=>if z.length<=big then (atI z.cps.toList i).map fun c=>.str ⟨#[c]⟩ else none
  | .v (.scr ns)=>(atI ns i).map .int
  | x=>(elems Γ x).bind fun xs=>atI xs i
 | _=>none
theorem KR {W:Wd} {xs:List D} {vs:List V} {i:Int} {d:D} (h:Reps W xs vs) (e:atI xs i=some d):∃ v,atI vs i=some v/\Rep W d v:=by
 unfold atI at *
 rw[h.len]
 obtain ⟨j,h1,h2⟩:=bind_some e
 obtain ⟨v,h3,h4⟩:=h.get h2
 exact ⟨v,by rw[h1];exact h3,h4⟩
theorem RX {ns:List Int} {i n:Int} (e:atI ns i=some n):atI (ns.map V.int) i=some (.int n):=by
 unfold atI at *
 rw[List.length_map]
 obtain ⟨j,h1,h2⟩:=bind_some e
 rw[h1]
 show (ns.map V.int)[j]?=_
 rw[List.getElem?_map,h2]
 rfl
theorem Lc {Γ:Gm} {ns:List Int} {v:V} (h:RepV f α Γ H (.v (.scr ns)) v):∃ a,v=.ref a/\SqL f.K H a (ns.map V.int):=by
 have h:Rep (wd f α Γ H) (.scr ns) v:=h
 unfold Rep at h
 obtain ⟨a,e,h⟩:=h
 refine ⟨a,e,?_⟩
 rcases h with ⟨_,h⟩ | h
 ·exact .inl h
 ·exact h H
theorem R9:OpD X gIx (rIx X.K):=by
 intro f α s σ H x y u v z Q hf rs hu hv e q
 unfold gIx at e
 split at e
 ·rename_i i
  split at e
  ·rename_i xs
   obtain ⟨a,vs,rfl,h1,h2⟩:=FU hu
   obtain ⟨w,h3,h4⟩:=KR h2 e
   exact .inr (.inl ⟨a,vs,i,w,rfl,A4 hv,SqT.of h1,h3,q w H rs .refl h4⟩)
  ·rename_i str
   split at e
   ·rename_i hz
    obtain ⟨c,h1,rfl⟩:=Af e
    exact .inr (.inr ⟨str,i,c,Bx hu,A4 hv,Ct hz,h1,q _ H rs .refl HZ⟩)
   ·cases e
  ·rename_i ns
   obtain ⟨n,h1,rfl⟩:=Af e
   obtain ⟨a,rfl,h2⟩:=Lc hu
   exact .inl ⟨a,_,i,_,rfl,A4 hv,by rw[<-hf];exact h2,RX h1,q _ H rs .refl CH⟩
  ·obtain ⟨xs,h1,e⟩:=bind_some e
   obtain ⟨a,vs,rfl,h3,h2⟩:=BQ rs h1 hu
   obtain ⟨w,h4,h5⟩:=KR h2 e
   exact .inl ⟨a,vs,i,w,rfl,A4 hv,SqL.of h3,h4,q w H rs .refl h5⟩
 ·cases e
@[simp] def Ah:Gm->List SV->Option D:=fun Γ xs=>match xs with
 | [.v (.tup xs)]=>some (.int xs.length)
 | [.v (.str z)]=>if z.length<=big then some (.int z.length) else none
 | [.v (.scr ns)]=>some (.int ns.length)
 | [x]=>(elems Γ x).map fun xs=>.int xs.length
 | _=>none
theorem HU:CaD X Ah (fun xs H Q=>∃ x n,xs=[x]/\Lh X.K x H n/\Q (.int n) H):=by
 intro f α s σ H xs us z Q hf rs hu e q
 unfold Ah at e
 split at e
 ·rename_i xs
  cases e
  obtain ⟨v,r,rfl,h1,h2⟩:=hu.cons_inv
  rw[h2.nil_inv]
  obtain ⟨a,vs,rfl,h3,h4⟩:=FU h1
  exact ⟨_,xs.length,rfl,.inr ⟨vs,SqT.of h3,h4.len.symm⟩,q _ H rs .refl CH⟩
 ·rename_i z
  split at e
  ·rename_i hz
   cases e
   obtain ⟨v,r,rfl,h1,h2⟩:=hu.cons_inv
   rw[h2.nil_inv,Bx h1]
   exact ⟨_,z.length,rfl,⟨Ct hz,rfl⟩,q _ H rs .refl CH⟩
  ·cases e
 ·rename_i ns
  cases e
  obtain ⟨v,r,rfl,h1,h2⟩:=hu.cons_inv
  rw[h2.nil_inv]
  obtain ⟨a,rfl,h3⟩:=Lc h1
  exact ⟨_,ns.length,rfl,.inl ⟨_,by rw[<-hf];exact h3,by rw[List.length_map]⟩,q _ H rs .refl CH⟩
 ·rename_i x _ _ _
  obtain ⟨xs,h0,rfl⟩:=Af e
  obtain ⟨v,r,rfl,h1,h2⟩:=hu.cons_inv
  rw[h2.nil_inv]
  obtain ⟨a,vs,rfl,h3,h4⟩:=BQ rs h0 h1
  exact ⟨_,xs.length,rfl,.inl ⟨vs,SqL.of h3,h4.len.symm⟩,q _ H rs .refl CH⟩
 ·cases e
@[simp] def FP:Gm->List SV->Option D:=fun _ xs=>match xs with
 | [.v (.int i),.v (.int j)]=>some (.int (if j > i then j else i))
 | _=>none
@[simp] def E5:Gm->List SV->Option D:=fun _ xs=>match xs with
 | [.v (.int i),.v (.int j)]=>some (.int (if j<i then j else i))
 | _=>none
theorem Rr:CaD X FP (fun xs H Q=>∃ i j,xs=[.int i,.int j]/\Q (.int (if j > i then j else i)) H):=by
 intro f α s σ H xs us z Q hf rs hu e q
 unfold FP at e
 split at e
 ·rename_i i j
  cases e
  obtain ⟨v,r,rfl,h1,h2⟩:=hu.cons_inv
  obtain ⟨v',r',rfl,h3,h4⟩:=h2.cons_inv
  rw[h4.nil_inv,A4 h1,A4 h3]
  exact ⟨i,j,rfl,q _ H rs .refl CH⟩
 ·cases e
theorem SC:CaD X E5 (fun xs H Q=>∃ i j,xs=[.int i,.int j]/\Q (.int (if j<i then j else i)) H):=by
 intro f α s σ H xs us z Q hf rs hu e q
 unfold E5 at e
 split at e
 ·rename_i i j
  cases e
  obtain ⟨v,r,rfl,h1,h2⟩:=hu.cons_inv
  obtain ⟨v',r',rfl,h3,h4⟩:=h2.cons_inv
  rw[h4.nil_inv,A4 h1,A4 h3]
  exact ⟨i,j,rfl,q _ H rs .refl CH⟩
 ·cases e
@[simp] def DN:Gm->List SV->Option (List D):=fun Γ xs=>match xs with
 | [.v (.tup xs)]=>some xs
 | [x]=>elems Γ x
 | _=>none
theorem QV:CaF X DN (fun xs H Q=>∃ p ys,xs=[.ref p]/\(SqL X.K H p ys\/SqT X.K H p ys)/\∀ l,H l=none->Q (.ref l) (upd H l (.lst ys))):=by
 intro f α s σ H xs us z Q hf rs hu e q
 unfold DN at e
 split at e
 ·rename_i xs
  cases e
  obtain ⟨v,r,rfl,h1,h2⟩:=hu.cons_inv
  rw[h2.nil_inv]
  obtain ⟨a,vs,rfl,h3,h4⟩:=FU h1
  exact ⟨a,vs,rfl,.inr (SqT.of h3),fun l hl=>q l vs hl h4⟩
 ·obtain ⟨v,r,rfl,h1,h2⟩:=hu.cons_inv
  rw[h2.nil_inv]
  obtain ⟨a,vs,rfl,h3,h4⟩:=BQ rs e h1
  exact ⟨a,vs,rfl,.inl (SqL.of h3),fun l hl=>q l vs hl h4⟩
 ·cases e
def insI (i:Int):List Int->List Int
 | []=>[i]
 | j::r=>if i<=j then i::j::r else j::insI i r
def sortI:List Int->List Int
 | []=>[]
 | i::r=>insI i (sortI r)
theorem insI_perm (i:Int):∀ r:List Int,(insI i r).Perm (i::r)
 | []=>.refl _
 | j::r=>by
  unfold insI
  split
  ·exact .refl _
  ·exact ((insI_perm i r).cons j).trans (.swap i j r)
theorem sortI_perm:∀ r:List Int,(sortI r).Perm r
 | []=>.refl _
 | i::r=>(insI_perm i _).trans ((sortI_perm r).cons i)
theorem Kn (i:Int):∀ r:List Int,r.Pairwise (·<=·)->(insI i r).Pairwise (·<=·)
 | [],_=>List.pairwise_singleton _ _
 | j::r,h=>by
  unfold insI
  obtain ⟨h1,h2⟩:=List.pairwise_cons.mp h
  split
  ·rename_i c
   refine List.pairwise_cons.mpr ⟨fun k hk=>?_,h⟩
   rcases List.mem_cons.mp hk with rfl | hk
   ·exact c
   ·have:=h1 k hk;lia
  ·rename_i c
   refine List.pairwise_cons.mpr ⟨fun k hk=>?_,Kn i r h2⟩
   rcases List.mem_cons.mp ((insI_perm i r).mem_iff.mp hk) with rfl | hk
   ·lia
   ·exact h1 k hk
theorem JU:∀ r:List Int,(sortI r).Pairwise (·<=·)
 | []=>.nil
 | i::r=>Kn i _ (JU r)
theorem Sh {xs ys:List Int} (p:xs.Perm ys) (hx:xs.Pairwise (·<=·)) (hy:ys.Pairwise (·<=·)):xs=ys:=
 p.eq_of_pairwise (fun a b _ _ h1 h2=>by lia) hx hy
@[simp] def Aw (m:ME):MF:=fun s=>(m s).bind fun r=>match r.1 with
 | .v (.lst xs)=>some (xs,r.2)
 | .v (.tup xs)=>some (xs,r.2)
 | _=>none
variable {tg a b:Expr} {pos:Pos}
theorem PI.imp {src:Expr} {t t':TI} (h:PI X tg src t) (k:∀ σ H R,t' σ H R->t σ H R):PI X tg src t':=fun pins s σ H R I q=>h pins s σ H R I (k _ _ _ q)
theorem HA {f:Fr} {α0 α:Nat->Addr} {Γ0 Γ:Gm} {H0 H Hh:Hp} {p:Addr} {vs:List V} {xs:List D} (x:Ext f α0 α Γ0 Γ H0 H) (hb:¬(f.F p\/BL Γ0 α0 p)) (h:H0 p=some (.lst vs)) (hx:Reps (wd f α0 Γ0 H0) xs vs) (sup:∀ a o,H a=some o->Hh a=some o) :
  Hh p=some (.lst vs)/\Reps (wd f α Γ H) xs vs:=⟨sup _ _ (x.kw.keep p _ hb h).1,hx.kw x.kw⟩
theorem Ih {f:Fr} {α0 α:Nat->Addr} {Γ0 Γ:Gm} {H0 H Hh:Hp} {p:Addr} {vs:List V} {xs:List D} (x:Ext f α0 α Γ0 Γ H0 H) (hb:¬(f.F p\/BL Γ0 α0 p)) (h:H0 p=some (.tup vs)) (hx:Reps (wd f α0 Γ0 H0) xs vs) (sup:∀ a o,H a=some o->Hh a=some o) :
  Hh p=some (.tup vs)/\Reps (wd f α Γ H) xs vs:=⟨sup _ _ (x.kw.keep p _ hb h).1,hx.kw x.kw⟩
theorem CD {m:ME} (h:DE X a m):DI X tg a (Aw m):=.mk fun f hf=>PI.imp (L2.PI.or (Hr (h f hf)) (Pq (h f hf))) fun σ H R hh_=>by
 obtain ⟨α,s,r,rs,lo,e,q⟩:=hh_
 obtain ⟨⟨x,s1⟩,h1,e⟩:=bind_some e
 simp only at e
 split at e
 ·rename_i xs
  cases e
  refine .inl ⟨α,s,_,rs,lo,h1,fun α' v H' rs' l' x' hv=>?_⟩
  have hv:Rep (wd f α' s1.Γ H') (.lst xs) v:=hv
  unfold Rep at hv
  obtain ⟨p,vs,rfl,hb,h2,h3⟩:=hv
  refine ⟨p,rfl,⟨vs,SqL.of h2⟩,q _ α' H' rs' l' x' ⟨?_,?_,?_⟩⟩
  ·intro i α2 s2 σ2 H2 Hh hi r2 x2 sup
   obtain ⟨g1,_⟩:=HA x2 hb h2 h3 sup
   exact ⟨vs,vs[i]'(by rw[h3.len];exact hi),SqL.of g1,List.getElem?_eq_getElem _⟩
  ·intro i d y α2 s2 σ2 H2 Hh H3 hd r2 x2 sup yl
   obtain ⟨g1,g2⟩:=HA x2 hb h2 h3 sup
   obtain ⟨rfl,yl⟩:=yl
   obtain ⟨w,w1,w2⟩:=g2.get hd
   have:=yl vs (SqL.of g1)
   rw[w1] at this
   cases this
   exact .inl ⟨rfl,w2⟩
  ·intro α2 s2 σ2 H2 Hh r2 x2 sup
   obtain ⟨g1,_⟩:=HA x2 hb h2 h3 sup
   exact ⟨vs,SqL.of g1,by rw[h3.len];exact Nat.le_refl _⟩
 ·rename_i xs
  cases e
  refine .inr ⟨α,s,_,rs,lo,h1,fun α' v H' rs' l' x' hv=>?_⟩
  have hv:Rep (wd f α' s1.Γ H') (.tup xs) v:=hv
  unfold Rep at hv
  obtain ⟨p,vs,rfl,hb,h2,h3⟩:=hv
  refine ⟨p,rfl,⟨vs,SqT.of h2⟩,q _ α' H' rs' l' x' ⟨?_,?_,?_⟩⟩
  ·intro i α2 s2 σ2 H2 Hh hi r2 x2 sup
   obtain ⟨g1,_⟩:=Ih x2 hb h2 h3 sup
   exact ⟨vs,vs[i]'(by rw[h3.len];exact hi),SqT.of g1,List.getElem?_eq_getElem _⟩
  ·intro i d y α2 s2 σ2 H2 Hh H3 hd r2 x2 sup yl
   obtain ⟨g1,g2⟩:=Ih x2 hb h2 h3 sup
   obtain ⟨rfl,yl⟩:=yl
   obtain ⟨w,w1,w2⟩:=g2.get hd
   have:=yl vs (SqT.of g1)
   rw[w1] at this
   cases this
   exact .inl ⟨rfl,w2⟩
  ·intro α2 s2 σ2 H2 Hh r2 x2 sup
   obtain ⟨g1,_⟩:=Ih x2 hb h2 h3 sup
   exact ⟨vs,SqT.of g1,by rw[h3.len];exact Nat.le_refl _⟩
 ·cases e
def upTo (lo:Int):Nat->List D
 | 0=>[]
 | n+1=>.int lo::upTo (lo+1) n
theorem B4 (lo:Int):∀ n,(upTo lo n).length=n:=by
 intro n
 induction n generalizing lo with
 | zero=>rfl
 | succ n ih=>unfold upTo;rw[List.length_cons,ih]
theorem LI (lo:Int):∀ (n i:Nat),i<n->(upTo lo n)[i]?=some (.int (lo+i)):=by
 intro n
 induction n generalizing lo with
 | zero=>intro i h;exact absurd h (Nat.not_lt_zero _)
 | succ n ih=>
  intro i h
  cases i with
  | zero=>unfold upTo;simp
  | succ i=>
   unfold upTo
   rw[List.getElem?_cons_succ,ih (lo+1) i (Nat.lt_of_succ_lt_succ h)]
   congr 2
   lia
theorem Oz {α0:Nat->Addr} {Γ0:Gm} {H0:Hp} (lo:Int) (n:Nat):DIt f (Itr lo n) (upTo lo n) α0 Γ0 H0:=by
 refine ⟨fun i _ _ _ _ _ hi _ _ _=>by rw[B4] at hi;exact hi,fun i d y α2 s2 σ2 H2 Hh H3 hd r2 x2 sup yl=>?_,fun _ _ _ _ _ _ _ _=>by show n<=(upTo lo n).length;rw[B4];exact Nat.le_refl _⟩
 obtain ⟨rfl,rfl⟩:=yl
 have hi:=(List.getElem?_eq_some_iff.mp hd).1
 rw[B4] at hi
 rw[LI lo n i hi] at hd
 cases hd
 exact .inl ⟨rfl,CH⟩
def okR (j:Int):Bool:=decide (j<2 ^ 62/\-(2 ^ 62)<=j)
theorem EI {j:Int} (h:-1000000<=j) (h2:j<=1000000):okR j=true:=decide_eq_true ⟨by lia,by lia⟩
@[simp] def B6 (ms:MA):MF:=fun s=>(ms s).bind fun r=>match r.1 with
 | [.v (.int j)]=>if okR j=true then some (upTo 0 j.toNat,r.2) else none
 | _=>none
theorem EJ {ms:MA} {p:Pos} (hg:Gl X "range") (hm:X.mg "range"=none) (ha:DA X [a] ms) (hs:starEach [a] X.env=[(false,eval a X.env)]:=by rfl):DI X tg (.Call (.Name "range" p) [a] [] pos) (B6 ms):=.mk fun f hf=>PI.imp (Nk hg hm (ha f hf) hs) fun σ H R hh_=>by
 obtain ⟨α,s,r,rs,lo,e,q⟩:=hh_
 obtain ⟨⟨x,s1⟩,h1,e⟩:=bind_some e
 simp only at e
 split at e
 ·rename_i j
  split at e
  ·rename_i hj
   cases e
   refine ⟨α,s,_,rs,lo,h1,fun α' vs H' rs' l' x' hv=>?_⟩
   obtain ⟨v,r,rfl,h2,h3⟩:=hv.cons_inv
   rw[h3.nil_inv,A4 h2]
   have hj:=of_decide_eq_true hj
   exact ⟨j,rfl,hj.2,hj.1,q _ α' H' rs' l' x' (Oz 0 _)⟩
  ·cases e
 ·cases e
end
section
variable {X:Cx} {f:Fr} {α:Nat->Addr} {s:DS} {σ:St} {H:Hp} {K:PySem.W.Frag} {a b c e:Expr} {ma mb mc:ME} {pos p cp apos:Pos} {es:List Expr} {ms:MA}
theorem Az (ha:DE X a ma) (hb:DE X b mb):DE X (.BinOp a .Add b pos) (mOp AQ ma mb):=Dm Oi Nv ha hb
theorem Fv (ha:DE X a ma) (hb:DE X b mb):DE X (.BinOp a .Sub b pos) (mOp Cz ma mb):=Dm Pz Mv ha hb
theorem Cj (ha:DE X a ma) (hb:DE X b mb):DE X (.BinOp a .Mult b pos) (mOp B3 ma mb):=Dm TH NL ha hb
theorem En (ha:DE X a ma) (hb:DE X b mb):DE X (.BinOp a .Mod b pos) (mOp EA ma mb):=Dm Qf NX ha hb
theorem Cw (ha:DE X a ma) (hb:DE X b mb):DE X (.BinOp a .Pow b pos) (mOp BB ma mb):=Dm MV Ow ha hb
theorem DC (ha:DE X a ma) (hb:DE X b mb):DF X (.BinOp a .Add b pos) (Aj BA ma mb):=KC JE QU ha hb
theorem KP (ha:DE X a ma) (hb:DE X b mb):DT X (.Compare a [.Gt] [b] pos) (AV (mOp gGt ma mb)):=Da Sz Ic ha hb (C8 _)
theorem N2 (ha:DE X a ma) (hb:DE X b mb):DT X (.Compare a [.GtE] [b] pos) (AV (mOp gGe ma mb)):=Da QK Ic ha hb (C8 _)
theorem Eb (hu:X.A.units<cLine) (ha:DE X a ma) (hb:DE X b mb):DT X (.Compare a [.Eq] [b] pos) (AV (mOp gEq ma mb)):=Da (J3 hu) Jj ha hb (C8 _)
theorem Ay (ha:DE X a ma) (hb:DE X b mb) (hs:GT b:=by exact fun _ _=>rfl):DE X (.Subscript a b pos) (mOp gIx ma mb):=RK NS R9 ha hb hs
@[simp] def Hj (m:ME):ME:=fun s=>(m s).bind fun x=>match x.1 with
 | .v (.int i)=>some (.v (.int (-i)),x.2)
 | _=>none
theorem Rz (ha:DE X a ma):DE X (.UnaryOp .USub a pos) (Hj ma):=.mk fun f hf=>PE.imp (K6 JL (ha f hf)) fun σ H Q hh_=>by
 obtain ⟨α,s,r,rs,lo,e,q⟩:=hh_
 obtain ⟨⟨x,s1⟩,h1,e⟩:=bind_some e
 simp only at e
 split at e
 ·rename_i i
  cases e
  exact ⟨α,s,_,rs,lo,h1,fun α' v H' rs' l' x' hv=>⟨i,A4 hv,q α' _ H' rs' l' x' Mn⟩⟩
 ·cases e
open Ev (Nm)
variable {mg:Str->Option Value}
theorem Qg (T:Nm X.mg) (ha:DA X (e::es) ms) (hg:Gl X "list":=by rfl) (he:starEach (e::es) X.env=(false,eval e X.env)::starEach es X.env:=by rfl) (hpl:(backTo pos (starEach es X.env)).any (·.1)=false:=by rfl):DF X (.Call (.Name "list" p) (e::es) [] pos) (Bb DN ms):=
 M6 Kx QV hg T.list PyProof.Rows.boot_list ha (by decide) (by decide) he hpl
theorem Ba (T:Nm X.mg) (ha:DA X (e::es) ms) (hg:Gl X "len":=by rfl) (he:starEach (e::es) X.env=(false,eval e X.env)::starEach es X.env:=by rfl) (hpl:(backTo pos (starEach es X.env)).any (·.1)=false:=by rfl):DE X (.Call (.Name "len" p) (e::es) [] pos) (AR Ah ms):=
 Ga Q4 HU hg T.len PySem.boot_len ha (by decide) (by decide) he hpl
theorem PD (T:Nm X.mg) (ha:DA X (e::es) ms) (hc:X.calm=true:=by rfl) (hg:Gl X "max":=by rfl) (he:starEach (e::es) X.env=(false,eval e X.env)::starEach es X.env:=by rfl) (hpl:(backTo pos (starEach es X.env)).any (·.1)=false:=by rfl):DE X (.Call (.Name "max" p) (e::es) [] pos) (AR FP ms):=
 Ga (Ob hc) Rr hg T.max PyProof.Rows.boot_max ha (by decide) (by decide) he hpl
theorem MX (T:Nm X.mg) (ha:DA X (e::es) ms) (hc:X.calm=true:=by rfl) (hg:Gl X "min":=by rfl) (he:starEach (e::es) X.env=(false,eval e X.env)::starEach es X.env:=by rfl) (hpl:(backTo pos (starEach es X.env)).any (·.1)=false:=by rfl):DE X (.Call (.Name "min" p) (e::es) [] pos) (AR E5 ms):=
 Ga (Su hc) SC hg T.min PyProof.Rows.boot_min ha (by decide) (by decide) he hpl
end
@[simp] def Bs (mo mi me:ME):MS:=fun s=>(me s).bind fun z=>match z.1 with
 | .v d=>(mo z.2).bind fun x=>match x.1 with
  | .b n=>(mi x.2).bind fun y=>match y.1 with
   | .v (.int k)=>match y.2.Γ[n]? with
    | some (some xs)=>(ixN xs.length k).map fun j=>.nx {y.2 with Γ:=y.2.Γ.set n (some (xs.set j d))}
    | _=>none
   | _=>none
  | _=>none
 | _=>none
section
variable {X:Cx} {f:Fr} {α:Nat->Addr} {s:DS} {σ:St} {H:Hp} {o i e:Expr} {mo mi me:ME} {pos p:Pos}
theorem GI (ho:DE X o mo) (hi:DE X i mi) (he:DE X e me) (hs:swapsWithSole [.Subscript o i p] e pos.line X.env=pure false:=by rfl) (hw:swappedStores [.Subscript o i p] e X.env=pure none:=by rfl)
  (h1:(assignEach [.Subscript o i p] X.env).map (·.2)=[assign (.Subscript o i p) X.env]:=by rfl) (hsub:∀ t,PG X (.Subscript o i p) t->PG X (.Subscript o i p) t:=by exact fun _ h=>h) (hpg:∀ to ti t,PE X o to->PE X i ti->HJ X t->PG X (.Subscript o i p) (K1 to ti t):=by exact fun to ti t h1 h2 h3=>Pt h1 h2 h3):DSt X (.Assign [.Subscript o i p] e pos) (Bs mo mi me):=.mk fun f hf=>
 PS.imp (Pc (he f hf) (hpg _ _ _ (ho f hf) (hi f hf) set_list) hs hw h1) fun E σ H hh_=>by
  obtain ⟨α,s,out,rs,lo,e0,q⟩:=hh_
  obtain ⟨⟨z,s1⟩,h1,e0⟩:=bind_some e0
  simp only at e0
  split at e0
  case h_2=>cases e0
  rename_i d
  obtain ⟨⟨x,s2⟩,h2,e0⟩:=bind_some e0
  simp only at e0
  split at e0
  case h_2=>cases e0
  rename_i n
  obtain ⟨⟨y,s3⟩,h3,e0⟩:=bind_some e0
  simp only at e0
  split at e0
  case h_2=>cases e0
  rename_i k
  split at e0
  case h_2=>cases e0
  rename_i xs hxs
  obtain ⟨j,hj,rfl⟩:=Af e0
  refine ⟨α,s,_,rs,lo,h1,fun α1 v H1 rs1 l1 x1 hv=>⟨α1,s1,_,rs1,lo_le lo l1 x1,h2,fun α2 u H2 rs2 l2 x2 hu=>⟨α2,s2,_,rs2,lo_le (lo_le lo l1 x1) l2 x2,h3,fun α3 w H3 rs3 l3 x3 hw=>?_⟩⟩⟩
  obtain ⟨us,g1,g2⟩:=rs3.box n xs hxs
  refine ⟨α3 n,us,k,j,by rw[hu.2,x3.al n hu.1],A4 hw,g1,by rw[g2.len];exact hj,?_⟩
  exact q α3 σ _ (rs3.put hxs (Reps.set (Rep.kw (x2.trans x3).kw (show Rep _ d v from hv)) j g2)) (l3.trans (l2.trans l1)) (((x1.trans x2).trans x3).trans (.put hxs))
end
def emp:DS:=⟨[],[],0⟩
@[simp] def scalar:D->Bool
 | .non=>true | .bl _=>true | .int _=>true | .str _=>true | _=>false
def spQ (K:PySem.W.Frag) (np:Nat) (M:List D->Option D):Sp:=fun vs H Q _=>∃ (ds:List D) (r:D),ds.length=np/\Reps ⟨K,fun _=>False,H⟩ ds vs/\M ds=some r/\scalar r=true/\∀ v H',(∀ b o,H b=some o->H' b=some o)->Rep ⟨K,fun _=>False,H'⟩ r v->Q v H'
def frQ (K:PySem.W.Frag) (H:Hp):Fr:=⟨K,H,fun _=>False,fun _=>False,fun _ h=>h,fun _ h=>h.elim⟩
section
variable {P:Program} {w:World} {K:PySem.W.Frag} {mg:Str->Option Value} {base:Heap} {X:Cx} {pos:Pos}
theorem Js {f:Fr} {α:Nat->Addr} {Γ:Gm} {H:Hp}:∀ {ds:List D} {vs:List V},Reps (wd f α Γ H) ds vs->RepVs f α Γ H (ds.map .v) vs
 | [],vs,h=>by rw[h.nil_inv];exact .nil
 | d::ds,vs,h=>by
  obtain ⟨v,r,rfl,h1,h2⟩:=h.cons_inv
  exact .cons h1 (Js h2)
theorem Kr {H:Hp}:RS (frQ K H) (fun _=>0) emp [] H where
 len:=rfl
 slot:=fun i d h=>by cases h
 box:=fun n xs h=>by cases h
 own:=fun n xs h=>by cases h
 inj:=fun n m xs ys h=>by cases h
 fr:=fun b o h _=>h
 forb:=fun a h=>h.elim
theorem SF {fa:Addr} {fd:FuncData} {ps:List Str} {k np:Nat} {M:MD} {M':List D->Option D} (F:FnOk P w K mg base CX0 k fa fd ps (spD K np M)) (h:∀ ds r,ds.length=np->M' ds=some r->scalar r=true->∃ Γ,M (ds.map .v) []=some (r,Γ)):FnOk P w K mg base CX0 k fa fd ps (spQ K np M'):=
 F.imp fun vs H Q E hh_=>by
  obtain ⟨ds,r,a1,a2,a3,a4,a5⟩:=hh_
  obtain ⟨Γ,e⟩:=h ds r a1 a3 a4
  have kw:Kw ⟨K,fun _=>False,H⟩ (wd (frQ K H) (fun _=>0) [] H):=⟨rfl,fun a o _ e=>⟨e,fun z=>by
   rcases z with z | ⟨n,xs,z,_⟩
   ·exact z
   ·cases z⟩⟩
  refine ⟨frQ K H,fun _=>0,emp,[],ds.map .v,(r,Γ),rfl,by rw[List.length_map];exact a1,Kr,Js (a2.kw kw),e,fun α' v H' rs' x' hv=>a5 v H' (fun b o e=>rs'.fr b o e fun z=>z) ?_⟩
  have kw2:Kw (wd (frQ K H) α' Γ H') ⟨K,fun _=>False,H'⟩:=⟨rfl,fun a o _ e=>⟨e,fun z=>z⟩⟩
  exact Rep.kw kw2 hv
@[simp] def dOf (Γ:Gm):SV->Option D
 | .v d=>some d
 | .b n=>((Γ[n]?).join).map .lst
 | .p n d=>((Γ[n]?).join).map fun xs=>.tup [.lst xs,d]
 | .l _=>none
@[simp] def Gg (Γ:Gm):List SV->Option (List D)
 | []=>some []
 | x::r=>(dOf Γ x).bind fun d=>(Gg Γ r).map (d::·)
theorem join_some {o:Option (Option (List D))} {xs:List D} (h:o.join=some xs):o=some (some xs):=by
 cases o with
 | none=>cases h
 | some o=>exact congrArg some h
theorem Rj {f:Fr} {α:Nat->Addr} {s:DS} {σ:St} {H:Hp} (rs:RS f α s σ H) {x:SV} {d:D} {v:V} (h:dOf s.Γ x=some d) (r:RepV f α s.Γ H x v):Rep ⟨f.K,fun _=>False,H⟩ d v:=by
 have kw:Kw (wd f α s.Γ H) ⟨f.K,fun _=>False,H⟩:=⟨rfl,fun a o _ e=>⟨e,fun z=>z⟩⟩
 cases x with
 | v d=>cases h;exact Rep.kw kw (show Rep _ d v from r)
 | b n=>
  obtain ⟨xs,h1,rfl⟩:=Af h
  obtain ⟨vs,h2,h3⟩:=rs.box n xs (join_some h1)
  rw[r.2]
  unfold Rep
  exact ⟨α n,vs,rfl,fun z=>z,h2,h3.kw kw⟩
 | p n d=>
  obtain ⟨xs,h1,rfl⟩:=Af h
  obtain ⟨vs,h2,h3⟩:=rs.box n xs (join_some h1)
  obtain ⟨h0,a,w,rfl,_,h4,h5⟩:=r
  unfold Rep
  refine ⟨a,_,rfl,fun z=>z,h4,.cons ?_ (.cons (h5.kw kw) .nil)⟩
  unfold Rep
  exact ⟨α n,vs,rfl,fun z=>z,h2,h3.kw kw⟩
 | l ns=>cases h
theorem Ka {f:Fr} {α:Nat->Addr} {s:DS} {σ:St} {H:Hp} (rs:RS f α s σ H):∀ {xs:List SV} {ds:List D} {vs:List V},Gg s.Γ xs=some ds->RepVs f α s.Γ H xs vs->Reps ⟨f.K,fun _=>False,H⟩ ds vs
 | [],ds,vs,h,r=>by cases h;rw[r.nil_inv];exact .nil
 | x::xs,ds,vs,h,r=>by
  obtain ⟨d,h1,h⟩:=bind_some h
  obtain ⟨es,h2,rfl⟩:=Af h
  obtain ⟨v,q,rfl,h3,h4⟩:=r.cons_inv
  exact .cons (Rj rs h1 h3) (Ka rs h2 h4)
theorem Jq:∀ {Γ:Gm} {xs:List SV} {ds:List D},Gg Γ xs=some ds->ds.length=xs.length
 | Γ,[],ds,h=>by cases h;rfl
 | Γ,x::xs,ds,h=>by
  obtain ⟨d,h1,h⟩:=bind_some h
  obtain ⟨es,h2,rfl⟩:=Af h
  rw[List.length_cons,List.length_cons,Jq h2]
@[simp] def EG (M:List D->Option D) (ms:MA):ME:=fun s=>(ms s).bind fun x=>(Gg x.2.Γ x.1).bind fun ds=>(M ds).bind fun r=>if scalar r=true then some (.v r,x.2) else none
theorem QJ {W W':Wd} {r:D} {v:V} (h:scalar r=true) (hv:Rep W r v):Rep W' r v:=by
 cases r with
 | non=>unfold Rep at *;exact hv
 | bl b=>unfold Rep at *;exact hv
 | int i=>unfold Rep at *;exact hv
 | str x=>unfold Rep at *;exact hv
 | lst xs=>cases h
 | tup xs=>cases h
 | scr xs=>cases h
 | dic ks xs=>cases h
theorem Jc {x:Str} {p:Pos} {e:Expr} {es:List Expr} {fa:Addr} {fd:FuncData} {ps:List Str} {k np:Nat} {M:List D->Option D} {ms:MA} (F:FnOk X.prog X.w X.K X.mg X.base CX0 k fa fd ps (spQ X.K np M)) (hr:Room k X.A) (hg:Gl X x) (hm:X.mg x=some (.ref fa)) (hk:PySem.W.keepIn X.K (.ref fa)=true) (hb:Binds X.K fd ps [])
  (ha:DA X (e::es) ms) (hn:Ar ms np) (hdb:(x == ("__debug__":Str))=false:=by decide) (he:starEach (e::es) X.env=(false,eval e X.env)::starEach es X.env:=by rfl) (hpl:(backTo pos (starEach es X.env)).any (·.1)=false:=by rfl) :
  DE X (.Call (.Name x p) (e::es) [] pos) (EG M ms):=.mk fun f hf=>PE.imp (Iq F hr hg hm hk hb .nil G0 (ha f hf) hdb he hpl) fun σ H Q hh_=>by
 obtain ⟨α,s,r,rs,lo,e0,q⟩:=hh_
 obtain ⟨y,h1,e0⟩:=bind_some e0
 obtain ⟨ds,h2,e0⟩:=bind_some e0
 obtain ⟨z,h3,e0⟩:=bind_some e0
 split at e0
 case isFalse=>cases e0
 rename_i hz
 cases e0
 refine ⟨α,s,y,rs,lo,h1,fun α1 vs H1 rs1 l1 x1 hv=>?_⟩
 dsimp only
 rw[List.append_nil]
 refine ⟨ds,z,by rw[Jq h2];exact hn _ _ h1,by rw[<-hf];exact Ka rs1 h2 hv,h3,hz,fun v H2 sm hw=>?_⟩
 have e2:Ext f α1 α1 y.2.Γ y.2.Γ H1 H2:=⟨⟨rfl,fun a o n e=>⟨sm a o e,n⟩⟩,Nat.le_refl _,fun _ _=>rfl,fun _ xs _ e=>⟨xs,e⟩⟩
 exact q α1 v H2 (rs1.mv e2 sm) l1 (x1.trans e2) (QJ hz hw)
end
abbrev MP:=DS->Option ((List D×D)×DS)
def tDP (f:Fr) (m:MP):TE:=fun σ H Q=>∃ α s r,RS f α s σ H/\s.lo<=s.Γ.length/\m s=some r/\∀ α' a t vs w H',RS f α' r.2 σ H'->r.2.lo=s.lo->Ext f α α' s.Γ r.2.Γ H H'->H' a=none->Reps (wd f α' r.2.Γ H') r.1.1 vs->Rep (wd f α' r.2.Γ H') r.1.2 w->H' t=none->t≠a->Q (.ref t) (upd (upd H' a (.lst vs)) t (.tup [.ref a,w]))
structure DP (X:Cx) (e:Expr) (m:MP):Prop where
 h:∀ f:Fr,f.K=X.K->PE X e (tDP f m)
instance {X:Cx} {e:Expr} {m:MP}:CoeFun (DP X e m) fun _=>∀ f:Fr,f.K=X.K->PE X e (tDP f m):=⟨DP.h⟩
section
variable {P:Program} {w:World} {K:PySem.W.Frag} {mg:Str->Option Value} {base:Heap} {f:Fr} {α α':Nat->Addr} {s s':DS} {σ σ':St} {H H':Hp} {X:Cx} {pos:Pos} {e:Expr}
end
section
variable {X:Cx} {f:Fr} {α:Nat->Addr} {s:DS} {σ:St} {H:Hp} {K:PySem.W.Frag} {a b c e:Expr} {ma mb mc:ME} {pos p p2 cp apos:Pos} {es:List Expr} {ms:MA} {lo hi:Option Expr} {ml mh:Option ME}
abbrev MO:=DS->Option (Option Int×DS)
@[simp] def GL (o:Option ME):MO:=fun s=>match o with
 | none=>some (none,s)
 | some m=>(m s).bind fun x=>match x.1 with
  | .v (.int i)=>some (some i,x.2)
  | _=>none
def tDO (f:Fr) (m:MO):TO:=fun σ H Q=>∃ α s r,RS f α s σ H/\s.lo<=s.Γ.length/\m s=some r/\∀ α' H',RS f α' r.2 σ H'->r.2.lo=s.lo->Ext f α α' s.Γ r.2.Γ H H'->Q r.1 H'
structure DO (X:Cx) (e:Option Expr) (m:Option ME):Prop where
 h:∀ f:Fr,f.K=X.K->PO X e (tDO f (GL m))
instance {X:Cx} {e:Option Expr} {m:Option ME}:CoeFun (DO X e m) fun _=>∀ f:Fr,f.K=X.K->PO X e (tDO f (GL m)):=⟨DO.h⟩
theorem PO.imp {o:Option Expr} {t t':TO} (h:PO X o t) (k:∀ σ H Q,t' σ H Q->t σ H Q):PO X o t':=fun pins s σ H Q I q=>h pins s σ H Q I (k _ _ _ q)
theorem CL:DO X none none:=.mk fun f hf=>PO.imp Om fun σ H Q hh_=>by
 obtain ⟨α,s,r,rs,lo,e0,q⟩:=hh_
 cases e0
 exact q α H rs rfl .refl
theorem B9 (h:DE X e ma):DO X (some e) (some ma):=.mk fun f hf=>PO.imp (QG (h f hf)) fun σ H Q hh_=>by
 obtain ⟨α,s,r,rs,lo,e0,q⟩:=hh_
 obtain ⟨⟨x,s1⟩,h1,e0⟩:=bind_some (show (ma s).bind _=some r from e0)
 simp only at e0
 split at e0
 ·rename_i i
  cases e0
  exact ⟨α,s,_,rs,lo,h1,fun α' v H' rs' l' x' hv=>⟨i,A4 hv,q α' H' rs' l' x'⟩⟩
 ·cases e0
def BJ (z:Str) (l u:Option Int):Str:=if ((Builtin.Str.strSliceIndices l u 1 z.length).length == z.length)=true then z else ⟨((Builtin.Str.strSliceIndices l u 1 z.length).filterMap (z.cps[·]?)).toArray⟩
theorem FI (z:Str) (l u:Option Int):(BJ z l u).length<=z.length:=by
 unfold BJ
 split
 ·exact Nat.le_refl _
 ·show ((Builtin.Str.strSliceIndices l u 1 z.length).filterMap (z.cps[·]?)).toArray.size<=z.length
  rw[List.size_toArray]
  exact Nat.le_trans (List.length_filterMap_le _ _) (PyProof.Rows.indices_len_le _ _ z.length)
def Qd:V->Option Int->Option Int->Hp->VK->Prop:=fun x l u H Q=>∃ z,x=.str z/\z.length<=sizeLine/\Q (.str (BJ z l u)) H
theorem MQ {v:Value} {o:Option Int} (h:IsPart v o):∃ l:Option (Int×Tok),v=partValue l/\l.map (·.1)=o:=by
 cases h with
 | none=>exact ⟨none,rfl,rfl⟩
 | int i t=>exact ⟨some (i,t),rfl,rfl⟩
theorem R1:SlR X Qd:=by
 intro pins s σ H x v vl vu lo hi sl Q I rx hs pl pu h
 obtain ⟨z,rfl,hz,q⟩:=h
 obtain ⟨t,rfl⟩:=rx
 obtain ⟨l,rfl,hl⟩:=MQ pl
 obtain ⟨u,rfl,hu⟩:=MQ pu
 obtain ⟨o,ho,hc,hd⟩:=hs
 refine ⟨"str",_,F.slot_str_getitem.lookup,typeIs_str s z t,wpAny_getItem_str_slice (l:=l) (u:=u) (st:=none) ⟨o,ho,hc,hd⟩ rfl ?_⟩
 unfold sliceMade
 have e1:slicePicked z l u none=Builtin.Str.strSliceIndices lo hi 1 z.length:=by unfold slicePicked;rw[hl,hu];rfl
 rw[e1]
 have e2:BJ z lo hi=if ((Builtin.Str.strSliceIndices lo hi 1 z.length).length == z.length)=true then z else ⟨((Builtin.Str.strSliceIndices lo hi 1 z.length).filterMap (z.cps[·]?)).toArray⟩:=rfl
 rw[e2] at q
 by_cases c:((Builtin.Str.strSliceIndices lo hi 1 z.length).length == z.length)=true
 ·rw[if_pos c] at q
  rw[if_pos (by simpa using c)]
  exact ⟨.str z,H,I,⟨_,rfl⟩,q⟩
 ·rw[if_neg c] at q
  rw[if_neg (by simpa using c)]
  refine ⟨?_,.str _,H,I.tok _,⟨_,rfl⟩,q⟩
  have:=FI z lo hi
  rw[e2,if_neg c] at this
  exact Nat.le_trans this hz
def cutD (xs:List D) (l u:Option Int):List D:=(xs.drop (HT.sIx xs.length 0 l)).take (HT.sIx xs.length xs.length u - HT.sIx xs.length 0 l)
theorem Mo {W:Wd} {xs:List D} {vs:List V} (h:Reps W xs vs) (l u:Option Int):Reps W (cutD xs l u) (EU vs l u):=by
 unfold cutD EU
 rw[h.len]
 exact (h.drop _).take _
@[simp] def gSl (Γ:Gm) (x:SV) (l u:Option Int):Option D:=match x with
 | .v (.str z)=>if z.length<=big then some (.str (BJ z l u)) else none
 | x=>(elems Γ x).map fun xs=>.lst (cutD xs l u)
@[simp] def mSl (m:ME) (l u:Option ME):ME:=fun s=>(m s).bind fun x=>(GL l x.2).bind fun y=>(GL u y.2).bind fun z=>(gSl z.2.Γ x.1 y.1 z.1).map fun d=>(.v d,z.2)
theorem CM (ha:DE X a ma) (hl:DO X lo ml) (hh:DO X hi mh):DE X (.Subscript a (.Slice lo hi none p2) pos) (mSl ma ml mh):=.mk fun f hf=>
 PE.imp (NY (sl_list.or R1) (ha f hf) (hl f hf) (hh f hf)) fun σ H Q hh_=>by
  obtain ⟨α,s,r,rs,lo,e0,q⟩:=hh_
  obtain ⟨x,h1,e0⟩:=bind_some e0
  obtain ⟨y,h2,e0⟩:=bind_some e0
  obtain ⟨z,h3,e0⟩:=bind_some e0
  obtain ⟨d,h4,rfl⟩:=Af e0
  refine ⟨α,s,x,rs,lo,h1,fun α1 v H1 rs1 l1 x1 hv=>⟨α1,x.2,y,rs1,lo_le lo l1 x1,h2,fun α2 H2 rs2 l2 x2=>⟨α2,y.2,z,rs2,lo_le (lo_le lo l1 x1) l2 x2,h3,fun α3 H3 rs3 l3 x3=>?_⟩⟩⟩
  have hv3:=(hv.ext x2).ext x3
  unfold gSl at h4
  split at h4
  ·rename_i str hs
   split at h4
   case isFalse=>cases h4
   rename_i hz
   cases h4
   rw[hs] at hv3
   exact .inr ⟨str,Bx hv3,Ct hz,q α3 _ H3 rs3 (l3.trans (l2.trans l1)) ((x1.trans x2).trans x3) (by show Rep (wd f α3 z.2.Γ H3) (.str _) (.str _);unfold Rep;rfl)⟩
  ·obtain ⟨xs,h5,rfl⟩:=Af h4
   obtain ⟨p,vs,rfl,g1,g2⟩:=BQ rs3 h5 hv3
   exact .inl ⟨p,vs,rfl,SqL.of g1,fun t ht=>q α3 _ _ (rs3.new ht) (l3.trans (l2.trans l1)) (((x1.trans x2).trans x3).trans (.new rs3 ht)) (Ec rs3 ht (Mo g2 _ _))⟩
@[simp] def Hg (m:ME):MF:=fun s=>(m s).bind fun x=>(elems x.2.Γ x.1).map fun xs=>(xs.reverse,x.2)
theorem Oe {i} {p3:Pos} (ha:DE X a ma):DF X (.Subscript a (.Slice none none (some (.UnaryOp .USub (.Constant (.int 1) i p3) p2)) p) pos) (Hg ma):=.mk fun f hf=>
 PE.imp (OU (ha f hf) (K6 JL Gy)) fun σ H Q hh_=>by
  obtain ⟨α,s,r,rs,lo,e0,q⟩:=hh_
  obtain ⟨x,h1,e0⟩:=bind_some e0
  obtain ⟨xs,h2,rfl⟩:=Af e0
  refine ⟨α,s,x,rs,lo,h1,fun α1 v H1 rs1 l1 x1 hv=>?_⟩
  obtain ⟨p,vs,rfl,g1,g2⟩:=BQ rs1 h2 hv
  exact ⟨1,rfl,p,vs,rfl,rfl,SqL.of g1,fun t ht=>q α1 t _ H1 rs1 l1 x1 ht g2.reverse⟩
end
end DL
namespace DL
open PySem L2
open Ev (Nm)
section
variable {X:Cx} {f:Fr} {α:Nat->Addr} {s:DS} {σ:St} {H:Hp} {K:PySem.W.Frag} {a b c e o tg:Expr} {ma mb mc mo me:ME} {pos p p2 cp apos tp:Pos} {es:List Expr} {ms:MA}
@[simp] def tyD:SV->String
 | .v .non=>"NoneType" | .v (.bl _)=>"bool" | .v (.int _)=>"int" | .v (.str _)=>"str" | .v (.lst _)=>"list" | .v (.tup _)=>"tuple" | .v (.scr _)=>"list" | .v (.dic _ _)=>"dict" | .b _=>"list" | .p _ _=>"tuple" | .l _=>"list"
theorem Lf {x:SV} {v:V} (rs:RS f α s σ H) (h:RepV f α s.Γ H x v) (hl:∀ n,x=.b n->∃ xs,s.Γ[n]?=some (some xs)) (hs:∀ ns,x≠.v (.scr ns)):TyOf f.K H v (.type (tyD x)):=by
 cases x with
 | v d=>
  cases d with
  | non=>rw[PJ h];exact .non
  | bl b=>rw[Di h];exact .bl b
  | int i=>rw[A4 h];exact .int i
  | str z=>rw[Bx h];exact .str z
  | lst xs=>
   have h:Rep (wd f α s.Γ H) (.lst xs) v:=h
   unfold Rep at h
   obtain ⟨a,vs,rfl,_,h1,_⟩:=h
   exact .lst h1
  | tup xs=>
   obtain ⟨a,vs,rfl,h1,_⟩:=FU h
   exact .tup h1
  | scr ns=>exact absurd rfl (hs ns)
  | dic ks xs=>
   have h:Rep (wd f α s.Γ H) (.dic ks xs) v:=h
   unfold Rep at h
   obtain ⟨a,vs,rfl,_,h1,_⟩:=h
   exact .dK h1
 | b n=>
  obtain ⟨xs,hx⟩:=hl n rfl
  obtain ⟨vs,h1,_⟩:=rs.box n xs hx
  rw[h.2]
  exact .lst h1
 | p n d=>
  obtain ⟨_,a,w,rfl,_,h1,_⟩:=h
  exact .tup h1
 | l ns=>
  obtain ⟨_,a,rfl,_,h1⟩:=h
  exact .lst h1
@[simp] def EH (Γ:Gm):SV->Bool
 | .b n=>(Γ[n]?).join.isSome
 | .v (.scr _)=>false
 | _=>true
theorem GX {Γ:Gm} {x:SV} (h:EH Γ x=true):(∀ n,x=.b n->∃ xs,Γ[n]?=some (some xs))/\∀ ns,x≠.v (.scr ns):=by
 refine ⟨fun n e=>?_,fun ns e=>?_⟩
 ·subst e
  obtain ⟨xs,hx⟩:=Option.isSome_iff_exists.mp (show (Γ[n]?).join.isSome=true from h)
  exact ⟨xs,join_some hx⟩
 ·subst e;cases h
@[simp] def isT (T t:String):Option Bool:=
 if T="bool" then some (t == "bool") else if T="int" then some (t == "int" || t == "bool") else if T="str" then some (t == "str") else if T="list" then some (t == "list") else if T="tuple" then some (t == "tuple") else none
theorem QC (K:PySem.W.Frag) (x:SV):∀ (T:String) (b:Bool),isT T (tyD x)=some b->PySem.W.kitOne K (.type (tyD x)) (.type T)=some b:=by
 intro T b h
 unfold isT at h
 have all:∀ t∈["NoneType","bool","int","str","list","tuple","dict"],PySem.W.kitOne K (.type t) (.type "bool")=some (t == "bool")/\PySem.W.kitOne K (.type t) (.type "int")=some (t == "int" || t == "bool")/\PySem.W.kitOne K (.type t) (.type "str")=some (t == "str")/\PySem.W.kitOne K (.type t) (.type "list")=some (t == "list")/\PySem.W.kitOne K (.type t) (.type "tuple")=some (t == "tuple"):=by
  intro t ht
  simp only[List.mem_cons,List.not_mem_nil,or_false] at ht
  rcases ht with rfl | rfl | rfl | rfl | rfl | rfl | rfl<;>exact ⟨by kernel_rfl,by kernel_rfl,by kernel_rfl,by kernel_rfl,by kernel_rfl⟩
 have mem:tyD x∈["NoneType","bool","int","str","list","tuple","dict"]:=by
  cases x with
  | v d=>cases d<;>simp[tyD]
  | b n=>simp[tyD]
  | p n d=>simp[tyD]
  | l ns=>simp[tyD]
 obtain ⟨h1,h2,h3,h4,h5⟩:=all _ mem
 split at h
 ·rename_i e;subst e;cases h;exact h1
 ·split at h
  ·rename_i e;subst e;cases h;exact h2
  ·split at h
   ·rename_i e;subst e;cases h;exact h3
   ·split at h
    ·rename_i e;subst e;cases h;exact h4
    ·split at h
     ·rename_i e;subst e;cases h;exact h5
     ·cases h
@[simp] def Ad (T:String) (m:ME):ME:=fun s=>(m s).bind fun x=>if EH x.2.Γ x.1=true then (isT T (tyD x.1)).map fun b=>(.v (.bl b),x.2) else none
theorem FQ (T:String) {y:Str} (N:Nm X.mg) (ha:DE X a ma) (hT:PE X (.Name y p2) (tC (.ty T))) (hg:Gl X "isinstance":=by rfl) (he:starEach [a,.Name y p2] X.env=(false,eval a X.env)::starEach [.Name y p2] X.env:=by rfl) (he2:starEach [.Name y p2] X.env=(false,eval (.Name y p2) X.env)::starEach [] X.env:=by rfl) (hpl:(backTo pos (starEach [.Name y p2] X.env)).any (·.1)=false:=by rfl) :
  DE X (.Call (.Name "isinstance" p) [a,.Name y p2] [] pos) (Ad T ma):=.mk fun f hf=>
 PE.imp (Ds NA hg N.isi PyProof.Rows.boot_isinstance (BI (ha f hf) (BI hT Bc he2) he) (by decide) (by decide) he hpl) fun σ H Q hh_=>by
  obtain ⟨α,s,r,rs,lo,e0,q⟩:=hh_
  obtain ⟨x,h1,e0⟩:=bind_some e0
  split at e0
  case isFalse=>cases e0
  rename_i hl
  obtain ⟨k,h2,rfl⟩:=Af e0
  refine ⟨α,s,x,rs,lo,h1,fun α1 v H1 rs1 l1 x1 hv=>?_⟩
  refine ⟨v,T,tyD x.1,k,rfl,?_,QC X.K x.1 T k h2,q α1 _ H1 rs1 l1 x1 Fk⟩
  rw[<-hf]
  exact Lf rs1 hv (GX hl).1 (GX hl).2
theorem Ez (N:Nm X.mg) (ha:DE X a ma) (hg:Gl X "isinstance":=by rfl) (hg2:Gl X "bool":=by rfl) (he:starEach [a,.Name "bool" p2] X.env=(false,eval a X.env)::starEach [.Name "bool" p2] X.env:=by rfl) (he2:starEach [.Name "bool" p2] X.env=(false,eval (.Name "bool" p2) X.env)::starEach [] X.env:=by rfl) (hpl:(backTo pos (starEach [.Name "bool" p2] X.env)).any (·.1)=false:=by rfl):DE X (.Call (.Name "isinstance" p) [a,.Name "bool" p2] [] pos) (Ad "bool" ma):=FQ "bool" N ha (DV (v:=.ty "bool") hg2 N.bool PyProof.Rows.boot_bool rfl) hg he he2 hpl
theorem MR (N:Nm X.mg) (ha:DE X a ma) (hg:Gl X "isinstance":=by rfl) (hg2:Gl X "int":=by rfl) (he:starEach [a,.Name "int" p2] X.env=(false,eval a X.env)::starEach [.Name "int" p2] X.env:=by rfl) (he2:starEach [.Name "int" p2] X.env=(false,eval (.Name "int" p2) X.env)::starEach [] X.env:=by rfl) (hpl:(backTo pos (starEach [.Name "int" p2] X.env)).any (·.1)=false:=by rfl):DE X (.Call (.Name "isinstance" p) [a,.Name "int" p2] [] pos) (Ad "int" ma):=FQ "int" N ha (DV (v:=.ty "int") hg2 N.int PyProof.Rows.boot_int rfl) hg he he2 hpl
theorem GC (N:Nm X.mg) (ha:DE X a ma) (hg:Gl X "isinstance":=by rfl) (hg2:Gl X "str":=by rfl) (he:starEach [a,.Name "str" p2] X.env=(false,eval a X.env)::starEach [.Name "str" p2] X.env:=by rfl) (he2:starEach [.Name "str" p2] X.env=(false,eval (.Name "str" p2) X.env)::starEach [] X.env:=by rfl) (hpl:(backTo pos (starEach [.Name "str" p2] X.env)).any (·.1)=false:=by rfl):DE X (.Call (.Name "isinstance" p) [a,.Name "str" p2] [] pos) (Ad "str" ma):=FQ "str" N ha (DV (v:=.ty "str") hg2 N.str PyProof.Rows.boot_str rfl) hg he he2 hpl
theorem Et (N:Nm X.mg) (ha:DE X a ma) (hg:Gl X "isinstance":=by rfl) (hg2:Gl X "list":=by rfl) (he:starEach [a,.Name "list" p2] X.env=(false,eval a X.env)::starEach [.Name "list" p2] X.env:=by rfl) (he2:starEach [.Name "list" p2] X.env=(false,eval (.Name "list" p2) X.env)::starEach [] X.env:=by rfl) (hpl:(backTo pos (starEach [.Name "list" p2] X.env)).any (·.1)=false:=by rfl):DE X (.Call (.Name "isinstance" p) [a,.Name "list" p2] [] pos) (Ad "list" ma):=FQ "list" N ha (DV (v:=.ty "list") hg2 N.list PyProof.Rows.boot_list rfl) hg he he2 hpl
theorem E3 (N:Nm X.mg) (ha:DE X a ma) (hg:Gl X "isinstance":=by rfl) (hg2:Gl X "tuple":=by rfl) (he:starEach [a,.Name "tuple" p2] X.env=(false,eval a X.env)::starEach [.Name "tuple" p2] X.env:=by rfl) (he2:starEach [.Name "tuple" p2] X.env=(false,eval (.Name "tuple" p2) X.env)::starEach [] X.env:=by rfl) (hpl:(backTo pos (starEach [.Name "tuple" p2] X.env)).any (·.1)=false:=by rfl):DE X (.Call (.Name "isinstance" p) [a,.Name "tuple" p2] [] pos) (Ad "tuple" ma):=FQ "tuple" N ha (DV (v:=.ty "tuple") hg2 N.tuple PyProof.Rows.boot_tuple rfl) hg he he2 hpl
@[simp] def Ep (Ts:List String) (m:ME):ME:=fun s=>(m s).bind fun x=>if EH x.2.Γ x.1=true/\Ts=["list","tuple"] then some (.v (.bl (tyD x.1 == "list" || tyD x.1 == "tuple")),x.2) else none
theorem OK (K:PySem.W.Frag) (x:SV):PySem.W.kitAny K (.type (tyD x)) (["list","tuple"].map Value.type)=some (tyD x == "list" || tyD x == "tuple"):=by
 have all:∀ t∈["NoneType","bool","int","str","list","tuple","dict"],PySem.W.kitAny K (.type t) (["list","tuple"].map Value.type)=some (t == "list" || t == "tuple"):=by
  intro t ht
  simp only[List.mem_cons,List.not_mem_nil,or_false] at ht
  rcases ht with rfl | rfl | rfl | rfl | rfl | rfl | rfl<;>kernel_rfl
 apply all
 cases x with
 | v d=>cases d<;>simp[tyD]
 | b n=>simp[tyD]
 | p n d=>simp[tyD]
 | l ns=>simp[tyD]
theorem Lz {k} {p3 p4:Pos} (N:Nm X.mg) (ha:DE X a ma) (hg:Gl X "isinstance":=by rfl) (hg2:Gl X "list":=by rfl) (hg3:Gl X "tuple":=by rfl) (he:starEach [a,.Tuple [.Name "list" p2,.Name "tuple" p3] k p4] X.env=(false,eval a X.env)::starEach [.Tuple [.Name "list" p2,.Name "tuple" p3] k p4] X.env:=by rfl) (he2:starEach [.Tuple [.Name "list" p2,.Name "tuple" p3] k p4] X.env=(false,eval (.Tuple [.Name "list" p2,.Name "tuple" p3] k p4) X.env)::starEach [] X.env:=by rfl)
  (he3:starEach [.Name "list" p2,.Name "tuple" p3] X.env=(false,eval (.Name "list" p2) X.env)::starEach [.Name "tuple" p3] X.env:=by rfl) (he4:starEach [.Name "tuple" p3] X.env=(false,eval (.Name "tuple" p3) X.env)::starEach [] X.env:=by rfl) (hpl:(backTo pos (starEach [.Tuple [.Name "list" p2,.Name "tuple" p3] k p4] X.env)).any (·.1)=false:=by rfl) :
  DE X (.Call (.Name "isinstance" p) [a,.Tuple [.Name "list" p2,.Name "tuple" p3] k p4] [] pos) (Ep ["list","tuple"] ma):=.mk fun f hf=>
 PE.imp (Ds OF hg N.isi PyProof.Rows.boot_isinstance (BI (ha f hf) (BI (Jz (BI (DV (v:=.ty "list") hg2 N.list PyProof.Rows.boot_list rfl) (BI (DV (v:=.ty "tuple") hg3 N.tuple PyProof.Rows.boot_tuple rfl) Bc he4) he3)) Bc he2) he) (by decide) (by decide) he hpl) fun σ H Q hh_=>by
  obtain ⟨α,s,r,rs,lo,e0,q⟩:=hh_
  obtain ⟨x,h1,e0⟩:=bind_some e0
  split at e0
  case isFalse=>cases e0
  rename_i hl
  cases e0
  refine ⟨α,s,x,rs,lo,h1,fun α1 v H1 rs1 l1 x1 hv=>⟨K5,fun t ht=>?_⟩⟩
  have e2:=Ext.new (o:=.tup [.ty "list",.ty "tuple"]) rs1 ht
  refine ⟨v,t,["list","tuple"],tyD x.1,_,rfl,An,?_,OK X.K x.1,q α1 _ _ (rs1.new ht) l1 (x1.trans e2) Fk⟩
  rw[<-hf]
  exact Lf (rs1.new ht) (hv.ext e2) (GX hl.1).1 (GX hl.1).2
def Bd:List D->List D->List D
 | x::xs,y::ys=>.tup [x,y]::Bd xs ys
 | _,_=>[]
theorem FO:∀ {xs ys:List D},xs.length<=ys.length->(Bd xs ys).length=xs.length
 | [],ys,_=>by unfold Bd;rfl
 | x::xs,[],h=>by simp at h
 | x::xs,y::ys,h=>by
  unfold Bd
  rw[List.length_cons,List.length_cons,FO (by simpa using h)]
theorem Il:∀ {xs ys:List D} {i:Nat} {d:D},(Bd xs ys)[i]?=some d->∃ x y,xs[i]?=some x/\ys[i]?=some y/\d=.tup [x,y]
 | [],ys,i,d,h=>by unfold Bd at h;cases h
 | x::xs,[],i,d,h=>by unfold Bd at h;cases h
 | x::xs,y::ys,0,d,h=>by unfold Bd at h;cases h;exact ⟨x,y,rfl,rfl,rfl⟩
 | x::xs,y::ys,i+1,d,h=>by
  unfold Bd at h
  rw[List.getElem?_cons_succ] at h
  obtain ⟨x',y',h1,h2,h3⟩:=Il h
  exact ⟨x',y',by simpa using h1,by simpa using h2,h3⟩
@[simp] def LD (ms:MA):MF:=fun s=>(ms s).bind fun r=>match r.1 with
 | [.v (.lst xs),.v (.lst ys)]=>if xs.length<=ys.length then some (Bd xs ys,r.2) else none
 | [.v (.tup xs),.v (.tup ys)]=>if xs.length<=ys.length then some (Bd xs ys,r.2) else none
 | _=>none
theorem Jn {cn:List V->HO} (hc:∀ x y,cn x=cn y->x=y) {α0:Nat->Addr} {Γ0:Gm} {H0:Hp} {l1 l2:Addr} {vs us:List V} {xs ys:List D} (b1:¬(f.F l1\/BL Γ0 α0 l1)) (b2:¬(f.F l2\/BL Γ0 α0 l2)) (h1:H0 l1=some (cn vs)) (h2:H0 l2=some (cn us)) (r1:Reps (wd f α0 Γ0 H0) xs vs) (r2:Reps (wd f α0 Γ0 H0) ys us) (hl:xs.length<=ys.length) :
  DIt f (Itz cn l1 l2) (Bd xs ys) α0 Γ0 H0:=by
 have st:∀ {α2:Nat->Addr} {Γ2:Gm} {H2 Hh:Hp},Ext f α0 α2 Γ0 Γ2 H0 H2->(∀ a o,H2 a=some o->Hh a=some o)->Hh l1=some (cn vs)/\Hh l2=some (cn us):=fun x sup=>⟨sup _ _ (x.kw.keep l1 _ b1 h1).1,sup _ _ (x.kw.keep l2 _ b2 h2).1⟩
 refine ⟨?_,?_,?_⟩
 ·intro i α2 s2 σ2 H2 Hh hi _ x2 sup
  obtain ⟨g1,g2⟩:=st x2 sup
  rw[FO hl] at hi
  exact ⟨vs,us,vs[i]'(by rw[r1.len];exact hi),us[i]'(by rw[r2.len];lia),g1,g2,List.getElem?_eq_getElem _,List.getElem?_eq_getElem _⟩
 ·intro i d y α2 s2 σ2 H2 Hh H3 hd rr x2 sup yl
  obtain ⟨g1,g2⟩:=st x2 sup
  obtain ⟨T,w1,w2,hT,rfl,rfl,y1,y2⟩:=yl
  obtain ⟨dx,dy,e1,e2,rfl⟩:=Il hd
  obtain ⟨v1,z1,z2⟩:=(r1.kw x2.kw).get e1
  obtain ⟨v2,z3,z4⟩:=(r2.kw x2.kw).get e2
  have k1:=y1 vs g1
  have k2:=y2 us g2
  rw[z1] at k1
  rw[z3] at k2
  cases k1
  cases k2
  have hT2:H2 T=none:=by
   cases z:H2 T with
   | none=>rfl
   | some o=>rw[sup _ _ z] at hT;cases hT
  exact .inr ⟨T,_,hT,rfl,GA rr hT2 (.cons z2 (.cons z4 .nil))⟩
 ·intro α2 s2 σ2 H2 Hh _ x2 sup
  obtain ⟨g1,g2⟩:=st x2 sup
  exact ⟨vs,g1,by rw[FO hl,r1.len];exact Nat.le_refl _⟩
theorem Ry {elts:List Expr} {k:Nat} (hg:Gl X "zip") (hm:X.mg "zip"=none) (ha:DA X [a,b] ms) (hs:starEach [a,b] X.env=[(false,eval a X.env),(false,eval b X.env)]:=by rfl) (hs2:starEach [b] X.env=[(false,eval b X.env)]:=by rfl):DI X (.Tuple elts k tp) (.Call (.Name "zip" p) [a,b] [] cp) (LD ms):=.mk fun f hf=>PI.imp (Mh hg hm (ha f hf) hs hs2) fun σ H R hh_=>by
 obtain ⟨α,s,r,rs,lo,e0,q⟩:=hh_
 obtain ⟨⟨x,s1⟩,h1,e0⟩:=bind_some e0
 simp only at e0
 split at e0
 ·rename_i xs ys
  split at e0
  case isFalse=>cases e0
  rename_i hl
  cases e0
  refine ⟨α,s,_,rs,lo,h1,fun α' vs H' rs' l' x' hv=>?_⟩
  obtain ⟨v,r,rfl,hv1,h3⟩:=hv.cons_inv
  obtain ⟨v',r',rfl,hv2,h4⟩:=h3.cons_inv
  rw[h4.nil_inv]
  have hv1:Rep (wd f α' s1.Γ H') (.lst xs) v:=hv1
  have hv2:Rep (wd f α' s1.Γ H') (.lst ys) v':=hv2
  unfold Rep at hv1 hv2
  obtain ⟨p1,vs,rfl,c1,c2,c3⟩:=hv1
  obtain ⟨p2,us,rfl,d1,d2,d3⟩:=hv2
  exact ⟨p1,p2,rfl,.inl ⟨vs,us,c2,d2,q _ α' H' rs' l' x' (Jn (fun _ _ h=>by injection h) c1 d1 c2 d2 c3 d3 hl)⟩⟩
 ·rename_i xs ys
  split at e0
  case isFalse=>cases e0
  rename_i hl
  cases e0
  refine ⟨α,s,_,rs,lo,h1,fun α' vs H' rs' l' x' hv=>?_⟩
  obtain ⟨v,r,rfl,hv1,h3⟩:=hv.cons_inv
  obtain ⟨v',r',rfl,hv2,h4⟩:=h3.cons_inv
  rw[h4.nil_inv]
  have hv1:Rep (wd f α' s1.Γ H') (.tup xs) v:=hv1
  have hv2:Rep (wd f α' s1.Γ H') (.tup ys) v':=hv2
  unfold Rep at hv1 hv2
  obtain ⟨p1,vs,rfl,c1,c2,c3⟩:=hv1
  obtain ⟨p2,us,rfl,d1,d2,d3⟩:=hv2
  exact ⟨p1,p2,rfl,.inr ⟨vs,us,c2,d2,q _ α' H' rs' l' x' (Jn (fun _ _ h=>by injection h) c1 d1 c2 d2 c3 d3 hl)⟩⟩
 ·cases e0
@[simp] def FT (mo mi me:ME):ME:=fun s=>(mo s).bind fun x=>match x.1 with
 | .b n=>match x.2.Γ[n]? with
  | some (some _)=>(mi x.2).bind fun y=>match y.1 with
   | .v (.int i)=>(me y.2).bind fun z=>match z.1 with
    | .v d=>match z.2.Γ[n]? with
     | some (some xs)=>if 0<=i/\i<=xs.length/\xs.length<big then some (.v .non,{z.2 with Γ:=z.2.Γ.set n (some (xs.take i.toNat++d::xs.drop i.toNat))}) else none
     | _=>none
    | _=>none
   | _=>none
  | _=>none
 | _=>none
theorem Ri {e2:Expr} {mi:ME} (ho:DE X o mo) (hi:DE X e mi) (he:DE X e2 me) (hbase:attributeBase o "insert" X.env (eval o X.env)=eval o X.env:=by rfl)
  (hfew:((backTo cp (starEach [e,e2] X.env)).all (fun x=>!x.1) && (backToKw cp (keywordEach [] X.env)).all (fun x=>x.1.isSome)
   && decide ([e,e2].length+([]:List Keyword).length+(if ([]:List Keyword).isEmpty then 0 else 1)<30))=true:=by rfl)
  (hline:(apos.endLine == cp.line)=true:=by rfl) (hs:starEach [e,e2] X.env=(false,eval e X.env)::starEach [e2] X.env:=by rfl) (hs2:starEach [e2] X.env=(false,eval e2 X.env)::starEach [] X.env:=by rfl) (hpl:(backTo cp (starEach [e2] X.env)).any (·.1)=false:=by rfl):DE X (.Call (.Attribute o "insert" apos) [e,e2] [] cp) (FT mo mi me):=.mk fun f hf=>
 PE.imp (Ol PySem.F.plainAttrs_list PySem.F.slot_list_insert PySem.F.type_list_insert RB (ho f hf) (BI (hi f hf) (BI (he f hf) Bc hs2) hs) hbase hfew hline hs hpl) fun σ H Q hh_=>by
  obtain ⟨α,s,r,rs,lo,e0,q⟩:=hh_
  obtain ⟨⟨x,s1⟩,h1,e0⟩:=bind_some e0
  simp only at e0
  split at e0
  case h_2=>cases e0
  rename_i n
  split at e0
  case h_2=>cases e0
  rename_i ys hys
  obtain ⟨⟨y,s2⟩,h2,e0⟩:=bind_some e0
  simp only at e0
  split at e0
  case h_2=>cases e0
  rename_i i
  obtain ⟨⟨z,s3⟩,h3,e0⟩:=bind_some e0
  simp only at e0
  split at e0
  case h_2=>cases e0
  rename_i d
  split at e0
  case h_2=>cases e0
  rename_i xs hxs
  split at e0
  case isFalse=>cases e0
  rename_i hi
  cases e0
  refine ⟨α,s,_,rs,lo,h1,fun α1 u H1 rs1 l1 x1 hu=>?_⟩
  obtain ⟨us,g1,g2⟩:=rs1.box n ys hys
  refine ⟨?_,α1,s1,_,rs1,lo_le lo l1 x1,h2,fun α2 v H2 rs2 l2 x2 hv=>⟨α2,s2,_,rs2,lo_le (lo_le lo l1 x1) l2 x2,h3,fun α3 w H3 rs3 l3 x3 hw=>?_⟩⟩
  ·rw[hu.2]
   exact .inl ⟨rfl,us,SqL.of g1⟩
  ·have hn:n<s1.Γ.length:=hu.1
   obtain ⟨ws,g3,g4⟩:=rs3.box n xs hxs
   refine ⟨α3 n,ws,i,w,by rw[hu.2,(x2.trans x3).al n hn],by rw[A4 hv],g3,hi.1,by rw[g4.len];exact hi.2.1,by rw[g4.len];exact Ev.IK (Nat.le_of_lt hi.2.2),?_⟩
   exact q α3 .non _ (rs3.put hxs ((g4.take _).append (.cons hw (g4.drop _)))) (l3.trans (l2.trans l1)) (((x1.trans x2).trans x3).trans (.put hxs)) OI
@[simp] def CJ:Gm->List SV->Option D:=fun Γ xs=>match xs with
 | [.v (.tup xs)]=>some (.tup xs)
 | [x]=>(elems Γ x).map .tup
 | _=>none
theorem NM:CaD X CJ (fun xs H Q=>∃ p ys,xs=[.ref p]/\((SqL X.K H p ys/\∀ l,H l=none->Q (.ref l) (upd H l (.tup ys)))\/(SqT X.K H p ys/\Q (.ref p) H))):=by
 intro f α s σ H xs us z Q hf rs hu e q
 unfold CJ at e
 split at e
 ·rename_i xs
  cases e
  obtain ⟨v,r,rfl,h1,h2⟩:=hu.cons_inv
  rw[h2.nil_inv]
  obtain ⟨a,vs,rfl,h3,h4⟩:=FU h1
  exact ⟨a,vs,rfl,.inr ⟨SqT.of h3,q _ H rs .refl h1⟩⟩
 ·obtain ⟨xs,h0,rfl⟩:=Af e
  obtain ⟨v,r,rfl,h1,h2⟩:=hu.cons_inv
  rw[h2.nil_inv]
  obtain ⟨a,vs,rfl,h3,h4⟩:=BQ rs h0 h1
  exact ⟨a,vs,rfl,.inl ⟨SqL.of h3,fun l hl=>q _ _ (rs.new hl) (.new rs hl) (GA rs hl h4)⟩⟩
 ·cases e
theorem Ia (T:Nm X.mg) (ha:DA X (e::es) ms) (hg:Gl X "tuple":=by rfl) (he:starEach (e::es) X.env=(false,eval e X.env)::starEach es X.env:=by rfl) (hpl:(backTo pos (starEach es X.env)).any (·.1)=false:=by rfl):DE X (.Call (.Name "tuple" p) (e::es) [] pos) (AR CJ ms):=
 IC MW NM hg T.tuple PyProof.Rows.boot_tuple ha (by decide) (by decide) he hpl
end
def Gc:Key->PyData
 | .inl i=>.int i
 | .inr x=>.str x
mutual
def toP:D->PyData
 | .non=>.none
 | .bl b=>.bool b
 | .int i=>.int i
 | .str x=>.str x
 | .lst xs=>.list (Bk xs)
 | .tup xs=>.tuple (Bk xs)
 | .scr ns=>.list (ns.map .int)
 | .dic ks xs=>.dict ((ks.map Gc).zip (Bk xs))
def Bk:List D->List PyData
 | []=>[]
 | d::ds=>toP d::Bk ds
end
def Ap:Nat->D->Bool
 | _,.non=>true
 | _,.bl _=>true
 | _,.int _=>true
 | _,.str x=>PyData.canLay0 (.str x)
 | 0,.lst _=>false
 | 0,.tup _=>false
 | 0,.scr _=>false
 | n+1,.lst xs=>xs.all (Ap n)
 | n+1,.tup xs=>xs.all (Ap n)
 | _+1,.scr _=>true
 | 0,.dic _ _=>false
 | _+1,.dic _ _=>false
theorem Lw:∀ ns:List Int,PyData.canLayAll0 (ns.map .int)=true/\PyData.depthAll (ns.map .int)=0
 | []=>⟨by simp[PyData.canLayAll0],by simp[PyData.depthAll]⟩
 | n::ns=>by
  obtain ⟨h1,h2⟩:=Lw ns
  exact ⟨by simp[PyData.canLayAll0,PyData.canLay0,h1],by simp[PyData.depthAll,PyData.depth,h2]⟩
theorem Hm {n:Nat} (ih:∀ d,Ap n d=true->(toP d).canLay0=true/\(toP d).depth<=n):∀ xs:List D,xs.all (Ap n)=true->PyData.canLayAll0 (Bk xs)=true/\PyData.depthAll (Bk xs)<=n
 | [],_=>⟨by simp[Bk,PyData.canLayAll0],by simp[Bk,PyData.depthAll]⟩
 | d::ds,h=>by
  rw[List.all_cons,Bool.and_eq_true] at h
  obtain ⟨a1,a2⟩:=ih d h.1
  obtain ⟨b1,b2⟩:=Hm ih ds h.2
  exact ⟨by simp[Bk,PyData.canLayAll0,a1,b1],by simp only[Bk,PyData.depthAll];lia⟩
theorem DD:∀ (n:Nat) (d:D),Ap n d=true->(toP d).canLay0=true/\(toP d).depth<=n
 | n,.non,_=>⟨by simp[toP,PyData.canLay0],by simp[toP,PyData.depth]⟩
 | n,.bl _,_=>⟨by simp[toP,PyData.canLay0],by simp[toP,PyData.depth]⟩
 | n,.int _,_=>⟨by simp[toP,PyData.canLay0],by simp[toP,PyData.depth]⟩
 | n,.str x,h=>⟨by unfold Ap at h;unfold toP;exact h,by simp[toP,PyData.depth]⟩
 | 0,.lst _,h=>by unfold Ap at h;cases h
 | 0,.tup _,h=>by unfold Ap at h;cases h
 | 0,.scr _,h=>by unfold Ap at h;cases h
 | n+1,.lst xs,h=>by
  unfold Ap at h
  obtain ⟨a,b⟩:=Hm (DD n) xs h
  exact ⟨by simpa [toP,PyData.canLay0] using a,by simp only[toP,PyData.depth];lia⟩
 | n+1,.tup xs,h=>by
  unfold Ap at h
  obtain ⟨a,b⟩:=Hm (DD n) xs h
  exact ⟨by simpa [toP,PyData.canLay0] using a,by simp only[toP,PyData.depth];lia⟩
 | 0,.dic _ _,h=>by unfold Ap at h;cases h
 | n+1,.dic _ _,h=>by unfold Ap at h;cases h
 | n+1,.scr ns,h=>by
  obtain ⟨a,b⟩:=Lw ns
  exact ⟨by simpa [toP,PyData.canLay0] using a,by simp only[toP,PyData.depth];lia⟩
section
variable {X:Cx} {pins:List (Addr×Obj)} {σ:St} {s:Shared} {W:Wd}
theorem JN:∀ {ns:List Int} {us:List Value},Vals (ns.map V.int) us->∃ as,ReadsAll s.heap us (ns.map PyData.int) as
 | [],_,h=>by cases h;exact ⟨_,.nil⟩
 | n::ns,_,h=>by
  cases h with
  | cons r t=>
   obtain ⟨k,rfl⟩:=r
   obtain ⟨as,h⟩:=JN t
   exact ⟨_,.cons (.int n k) h⟩
theorem Ll {P:Program} {w:World}:∀ {ks:List Key} {vs:List V} {ws:List (Key×Value)} {es:List DictEntry},ks.length=vs.length->KV (ks.zip vs) ws->Pairs (Bq P w) es ws->Vals vs (es.map (·.val))/\∀ h:Heap,∃ as,ReadsAll h (es.map (·.key)) (ks.map Gc) as
 | [],[],_,_,_,k,p=>by
  cases k
  cases p
  exact ⟨.nil,fun h=>⟨_,.nil⟩⟩
 | k::ks,v::vs,_,_,l,k',p=>by
  cases k' with
  | cons r t=>
   cases p with
   | cons p1 p2 p3=>
    obtain ⟨a1,a2⟩:=Ll (by simpa using l) t p3
    obtain ⟨r1,r2⟩:=r
    refine ⟨.cons (by show RelV v (DictEntry.val _);rw[p2];exact r2) a1,fun h=>?_⟩
    obtain ⟨as,q⟩:=a2 h
    have r1:k=_:=r1
    rw[<-r1] at p1
    rename_i en _ _
    have z:Do k en.key=true:=p1
    have e:∃ bs,Reads h en.key (Gc k) bs:=by
     rcases Cq z with ⟨i,t,rfl,e⟩ | ⟨x,t,rfl,e⟩
     ·exact ⟨_,by rw[e];exact .int i t⟩
     ·exact ⟨_,by rw[e];exact .str x t⟩
    obtain ⟨bs,e⟩:=e
    exact ⟨_,.cons e q⟩
 | [],_::_,_,_,l,_,_=>by cases l
 | _::_,[],_,_,l,_,_=>by cases l
mutual
theorem Df (I:Inv X pins σ W.H s) (hk:W.K=X.K):∀ {d:D} {v:V} {u:Value},Rep W d v->RelV v u->∃ as,Reads s.heap u (toP d) as
 | .non,v,u,h,r=>by
  unfold Rep at h;subst h;cases (show u=_ from r);unfold toP;exact ⟨_,.none⟩
 | .bl b,v,u,h,r=>by
  unfold Rep at h;subst h;cases (show u=_ from r);unfold toP;exact ⟨_,.bool b⟩
 | .int i,v,u,h,r=>by
  unfold Rep at h;subst h;obtain ⟨t,rfl⟩:=(show ∃ t,u=Value.int i t from r);unfold toP;exact ⟨_,.int i t⟩
 | .str i,v,u,h,r=>by
  unfold Rep at h;subst h;obtain ⟨t,rfl⟩:=(show ∃ t,u=Value.str i t from r);unfold toP;exact ⟨_,.str i t⟩
 | .lst xs,v,u,h,r=>by
  unfold Rep at h
  obtain ⟨a,vs,rfl,_,h1,h2⟩:=h
  cases (show u=_ from r)
  obtain ⟨its,ri,⟨o,n,e1,e2,_,e3⟩,_⟩:=I.list (SqL.of h1)
  obtain ⟨as,q⟩:=GF I hk h2 ri
  unfold toP
  exact ⟨_,.list e1 e2 e3 q⟩
 | .tup xs,v,u,h,r=>by
  unfold Rep at h
  obtain ⟨a,vs,rfl,_,h1,h2⟩:=h
  cases (show u=_ from r)
  obtain ⟨its,ri,⟨o,e1,e2,n,e3⟩,_⟩:=I.tuple (SqT.of h1)
  obtain ⟨as,q⟩:=GF I hk h2 ri
  unfold toP
  exact ⟨_,.tuple e1 e2 e3 q⟩
 | .scr ns,v,u,h,r=>by
  unfold Rep at h
  obtain ⟨a,rfl,h⟩:=h
  cases (show u=_ from r)
  have hs:SqL X.K W.H a (ns.map V.int):=by
   rcases h with ⟨_,h⟩ | h
   ·exact .inl h
   ·rw[<-hk];exact h _
  obtain ⟨its,ri,⟨o,n,e1,e2,_,e3⟩,_⟩:=I.list hs
  obtain ⟨as,q⟩:=JN (s:=s) ri
  unfold toP
  exact ⟨_,.list e1 e2 e3 q⟩
 | .dic ks xs,v,u,h,r=>by
  unfold Rep at h
  obtain ⟨a,vs,rfl,_,h1,h2,h3⟩:=h
  cases (show u=_ from r)
  obtain ⟨_,_,ws,kv,o,es,ep,e1,⟨e2,_,_⟩,e3,_,pr,_⟩:=I.hok a _ h1
  obtain ⟨a1,a2⟩:=Ll h2 kv pr
  obtain ⟨as,q1⟩:=a2 s.heap
  obtain ⟨bs,q2⟩:=GF I hk h3 a1
  have hl:(ks.map Gc).length=(Bk xs).length:=by
   have z:∀ l:List D,(Bk l).length=l.length:=by
    intro l
    induction l with
    | nil=>rfl
    | cons d l ih=>unfold Bk;rw[List.length_cons,List.length_cons,ih]
   rw[List.length_map,z,h2,h3.len]
  unfold toP
  exact ⟨_,.dict e1 e2 e3 (by rw[List.map_fst_zip (Nat.le_of_eq hl)];exact q1) (by rw[List.map_snd_zip (Nat.le_of_eq hl.symm)];exact q2)⟩
theorem GF (I:Inv X pins σ W.H s) (hk:W.K=X.K):∀ {ds:List D} {vs:List V} {us:List Value},Reps W ds vs->Vals vs us->∃ as,ReadsAll s.heap us (Bk ds) as
 | [],vs,us,h,r=>by
  cases h.nil_inv;cases r;unfold Bk;exact ⟨_,.nil⟩
 | d::ds,vs,us,h,r=>by
  obtain ⟨v,q,rfl,h1,h2⟩:=h.cons_inv
  cases r with
  | cons r1 r2=>
   obtain ⟨as,a⟩:=Df I hk h1 r1
   obtain ⟨bs,b⟩:=GF I hk h2 r2
   unfold Bk
   exact ⟨_,.cons a b⟩
end
end
def deq (d e:D):Bool:=PyData.eqv (toP d) (toP e)
@[simp] def treeOf (Γ:Gm):SV->Option D
 | .v d=>some d
 | .b n=>((Γ[n]?).join).map .lst
 | .p n d=>((Γ[n]?).join).map fun xs=>.tup [.lst xs,d]
 | .l _=>none
@[simp] def Fh:Gm->SV->SV->Option Bool:=fun Γ x y=>match treeOf Γ x,treeOf Γ y with
 | some d,some e=>if Ap 6 d && Ap 6 e then some (deq d e) else none
 | _,_=>none
@[simp] def Jo:Gm->SV->SV->Option D:=fun Γ x y=>(Fh Γ x y).map .bl
@[simp] def J7:Gm->SV->SV->Option D:=fun Γ x y=>(Fh Γ x y).map fun b=>.bl !b
def Ge (K:PySem.W.Frag):R2:=fun x y H Q=>∃ (W:Wd) (d e:D),W.K=K/\W.H=H/\Rep W d x/\Rep W e y/\Ap 6 d=true/\Ap 6 e=true/\Q (.bl (deq d e)) H
def Fi (K:PySem.W.Frag):R2:=fun x y H Q=>∃ (W:Wd) (d e:D),W.K=K/\W.H=H/\Rep W d x/\Rep W e y/\Ap 6 d=true/\Ap 6 e=true/\Q (.bl (!deq d e)) H
section
variable {X:Cx} {f:Fr} {α:Nat->Addr} {s:DS} {σ:St} {H:Hp} {a b:Expr} {ma mb:ME} {pos:Pos}
theorem Nj (hu:X.A.units+64<cLine):OpR X (compareOp .Eq) (Ge X.K):=by
 intro pins s σ H x y v u Q I rx ry h
 obtain ⟨W,d,e,hk,rfl,hd,he,s1,s2,k⟩:=h
 obtain ⟨as,r1⟩:=Df I hk hd rx
 obtain ⟨bs,r2⟩:=Df I hk he ry
 obtain ⟨a1,a2⟩:=DD _ _ s1
 obtain ⟨b1,b2⟩:=DD _ _ s2
 exact SeqAt.compareEq_reads r1 r2 a1 b1 (by lia) ⟨.bl (deq d e),W.H,I,rfl,k⟩
theorem Sa (hu:X.A.units+64<cLine):OpR X (compareOp .NotEq) (Fi X.K):=by
 intro pins s σ H x y v u Q I rx ry h
 obtain ⟨W,d,e,hk,rfl,hd,he,s1,s2,k⟩:=h
 obtain ⟨as,r1⟩:=Df I hk hd rx
 obtain ⟨bs,r2⟩:=Df I hk he ry
 obtain ⟨a1,a2⟩:=DD _ _ s1
 obtain ⟨b1,b2⟩:=DD _ _ s2
 exact SeqAt.rcNeAt_reads r1 r2 a1 b1 (by lia) X.prog X.w _ _ ⟨.bl (!deq d e),W.H,I,rfl,k⟩
theorem GO (W:Wd):Kw W ⟨W.K,fun _=>False,W.H⟩:=⟨rfl,fun _ _ _ e=>⟨e,fun h=>h⟩⟩
theorem LS {x:SV} {d:D} {v:V} (rs:RS f α s σ H) (h:treeOf s.Γ x=some d) (r:RepV f α s.Γ H x v):Rep ⟨f.K,fun _=>False,H⟩ d v:=by
 unfold treeOf at h
 split at h
 ·cases h
  exact Rep.kw (GO (wd f α s.Γ H)) r
 ·rename_i n
  obtain ⟨xs,hx,rfl⟩:=Af h
  obtain ⟨p,vs,rfl,h1,h2⟩:=BQ (d:=.b n) rs hx r
  unfold Rep
  exact ⟨p,vs,rfl,fun h=>h,h1,Reps.kw (GO (wd f α s.Γ H)) h2⟩
 ·rename_i n e
  obtain ⟨xs,hx,rfl⟩:=Af h
  obtain ⟨hn,p,w,rfl,_,h1,h2⟩:=r
  obtain ⟨q,vs,hq,h3,h4⟩:=BQ (d:=.b n) rs hx ⟨hn,rfl⟩
  unfold Rep
  refine ⟨p,_,rfl,fun h=>h,h1,.cons ?_ (.cons (Rep.kw (GO (wd f α s.Γ H)) h2) .nil)⟩
  unfold Rep
  exact ⟨q,vs,hq,fun h=>h,h3,Reps.kw (GO (wd f α s.Γ H)) h4⟩
 ·cases h
theorem KU {x y:SV} {b:Bool} {u v:V} (hf:f.K=X.K) (rs:RS f α s σ H) (hu:RepV f α s.Γ H x u) (hv:RepV f α s.Γ H y v) (h:Fh s.Γ x y=some b) :
  ∃ (W:Wd) (d e:D),W.K=X.K/\W.H=H/\Rep W d u/\Rep W e v/\Ap 6 d=true/\Ap 6 e=true/\deq d e=b:=by
 unfold Fh at h
 split at h
 ·rename_i d e h1 h2
  split at h
  ·rename_i hs
   cases h
   rw[Bool.and_eq_true] at hs
   exact ⟨_,d,e,hf,rfl,LS rs h1 hu,LS rs h2 hv,hs.1,hs.2,rfl⟩
  ·cases h
 ·cases h
theorem QQ:OpD X Jo (Ge X.K):=by
 intro f α s σ H x y u v z Q hf rs hu hv e q
 obtain ⟨b,hb,rfl⟩:=Af e
 obtain ⟨W,d,c,h1,h2,h3,h4,h5,h6,rfl⟩:=KU hf rs hu hv hb
 exact ⟨W,d,c,h1,h2,h3,h4,h5,h6,q _ H rs .refl Br⟩
theorem OT:OpD X J7 (Fi X.K):=by
 intro f α s σ H x y u v z Q hf rs hu hv e q
 obtain ⟨b,hb,rfl⟩:=Af e
 obtain ⟨W,d,c,h1,h2,h3,h4,h5,h6,rfl⟩:=KU hf rs hu hv hb
 exact ⟨W,d,c,h1,h2,h3,h4,h5,h6,q _ H rs .refl Br⟩
@[simp] def Bg:Gm->SV->SV->Option D:=fun Γ x y=>match gEq Γ x y with
 | some z=>some z
 | none=>Jo Γ x y
@[simp] def BO:Gm->SV->SV->Option D:=fun Γ x y=>match gNe Γ x y with
 | some z=>some z
 | none=>J7 Γ x y
theorem Hf:OpD X Bg (fun x y H Q=>GY X.K x y H Q\/Ge X.K x y H Q):=by
 intro f α s σ H x y u v z Q hf rs hu hv e q
 unfold Bg at e
 split at e
 ·rename_i z' hz
  cases e
  exact .inl (Jj f α s σ H x y u v z Q hf rs hu hv hz q)
 ·exact .inr (QQ f α s σ H x y u v z Q hf rs hu hv e q)
theorem SO:OpD X BO (fun x y H Q=>Ff X.K x y H Q\/Fi X.K x y H Q):=by
 intro f α s σ H x y u v z Q hf rs hu hv e q
 unfold BO at e
 split at e
 ·rename_i z' hz
  cases e
  exact .inl (Pi f α s σ H x y u v z Q hf rs hu hv hz q)
 ·exact .inr (OT f α s σ H x y u v z Q hf rs hu hv e q)
theorem HE (hu:X.A.units+64<cLine):OpR X (compareOp .Eq) (fun x y H Q=>GY X.K x y H Q\/Ge X.K x y H Q):=(J3 (by lia)).or (Nj hu)
theorem PN (hu:X.A.units+64<cLine):OpR X (compareOp .NotEq) (fun x y H Q=>Ff X.K x y H Q\/Fi X.K x y H Q):=(R7 (by lia)).or (Sa hu)
theorem Lq (hu:X.A.units+64<cLine) (ha:DE X a ma) (hb:DE X b mb):DE X (.Compare a [.Eq] [b] pos) (mOp Bg ma mb):=Im (HE hu) Hf ha hb (C8 _)
theorem HN (hu:X.A.units+64<cLine) (ha:DE X a ma) (hb:DE X b mb):DT X (.Compare a [.Eq] [b] pos) (AV (mOp Bg ma mb)):=Da (HE hu) Hf ha hb (C8 _)
theorem Dj (hu:X.A.units+64<cLine) (ha:DE X a ma) (hb:DE X b mb):DT X (.Compare a [.NotEq] [b] pos) (AV (mOp BO ma mb)):=Da (PN hu) SO ha hb (C8 _)
end
theorem Lj {n:Nat} {d:D} (h:Ap n d=true):deq d d=true:=SeqAt.eqv_refl _ (DD n d h).1
end DL
namespace DL
open PySem L2
open Ev (Nm)
section
variable {X:Cx} {f:Fr} {α:Nat->Addr} {s:DS} {σ:St} {H:Hp} {a b e:Expr} {ma mb:ME} {pos p:Pos} {es:List Expr} {ms:MA}
end
end DL
namespace DL
open PySem L2
open PyProof.Rows (IntsAre boot_sum)
section
variable {X:Cx} {f:Fr} {α:Nat->Addr} {s:DS} {σ:St} {H:Hp} {a b e:Expr} {ma mb:ME} {pos p:Pos} {es:List Expr} {ms:MA}
end
end DL
namespace L2
open PySem PySem.SeqAt
open PySem.AutoSeq1 (wpAny_loadPart')
open PySem.MeetsSeq PySem.MeetsSeq2 PySem.MeetsSeq3
open PyProof.Rows (IntsAre IsTup)
section
variable {X:Cx}
end
end L2
namespace DL
open PySem L2
section
variable {X:Cx} {a b:Expr} {ma mb:ME} {pos:Pos}
end
section
variable {X:Cx} {f:Fr} {α:Nat->Addr} {s:DS} {σ:St} {H:Hp} {a b:Expr} {p cp tp:Pos} {ms:MA}
end
section
variable {X:Cx} {f:Fr} {a b c:Expr} {ma mb mc:ME} {pos:Pos} {r r':R2} {g g':Gm->SV->SV->Option D}
@[simp] def B0 (g g':Gm->SV->SV->Option D) (ma mb mc:ME):ME:=fun s=>(ma s).bind fun x=>(mb x.2).bind fun y=>(g y.2.Γ x.1 y.1).bind fun z=>match z with
 | .bl true=>(mc y.2).bind fun w=>(g' w.2.Γ y.1 w.1).map fun z=>(.v z,w.2)
 | .bl false=>some (.v (.bl false),y.2)
 | _=>none
theorem KB {σ:St} {H:Hp} {Q:VK} (hf:f.K=X.K) (hg:OpD X g r) (hg':OpD X g' r') (h:tD f (B0 g g' ma mb mc) σ H Q):Ha r r' (tD f ma) (tD f mb) (tD f mc) σ H Q:=by
 obtain ⟨α,s,out,rs,lo,e,q⟩:=h
 obtain ⟨⟨x,s1⟩,h1,e⟩:=bind_some e
 obtain ⟨⟨y,s2⟩,h2,e⟩:=bind_some e
 obtain ⟨z,hz,e⟩:=bind_some e
 refine ⟨α,s,_,rs,lo,h1,fun α1 u H1 rs1 l1 x1 hu=>⟨α1,s1,_,rs1,lo_le lo l1 x1,h2,fun α2 v H2 rs2 l2 x2 hv=>?_⟩⟩
 refine hg f α2 s2 σ H2 x y u v z _ hf rs2 (hu.ext x2) hv hz fun w H3 rs3 x3 hw=>?_
 split at e
 ·have hw':w=.bl true:=by unfold Rep at hw;exact hw
  refine ⟨true,hw',?_⟩
  rw[if_pos rfl]
  obtain ⟨⟨t,s4⟩,h4,e⟩:=bind_some e
  obtain ⟨z',hz',rfl⟩:=Af e
  have lo2:=lo_le (lo_le lo l1 x1) l2 x2
  refine ⟨α2,s2,_,rs3,lo2,h4,fun α4 v4 H4 rs4 l4 x4 hv4=>?_⟩
  refine hg' f α4 s4 σ H4 y t v v4 z' _ hf rs4 ((hv.ext x3).ext x4) hv4 hz' fun w5 H5 rs5 x5 hw5=>?_
  exact q α4 w5 H5 rs5 (l4.trans (l2.trans l1)) ((((x1.trans x2).trans x3).trans x4).trans x5) hw5
 ·have hw':w=.bl false:=by unfold Rep at hw;exact hw
  cases e
  refine ⟨false,hw',?_⟩
  rw[if_neg Bool.false_ne_true]
  exact q α2 _ H3 rs3 (l2.trans l1) ((x1.trans x2).trans x3) (show Rep (wd f α2 s2.Γ H3) (.bl false) (.bl false) from Br)
 ·cases e
theorem O2 {op op':CmpOp} (ho:OpR X (compareOp op) r) (ho':OpR X (compareOp op') r') (hg:OpD X g r) (hg':OpD X g' r') (ha:DE X a ma) (hb:DE X b mb) (hc:DE X c mc) (hm:lastMarks [op,op'] [b,c]=false):DE X (.Compare a [op,op'] [b,c] pos) (B0 g g' ma mb mc):=.mk fun f hf=>
 PE.imp (TF ho ho' (ha f hf) (hb f hf) (hc f hf) hm) fun σ H Q h=>KB hf hg hg' h
theorem Pd {op op':CmpOp} (ho:OpR X (compareOp op) r) (ho':OpR X (compareOp op') r') (hg:OpD X g r) (hg':OpD X g' r') (ha:DE X a ma) (hb:DE X b mb) (hc:DE X c mc) (hm:lastMarks [op,op'] [b,c]=false):DT X (.Compare a [op,op'] [b,c] pos) (AV (B0 g g' ma mb mc)):=.mk fun f hf=>
 PT.imp (Np ho ho' (ha f hf) (hb f hf) (hc f hf) hm) fun σ H Q hh_=>by
  obtain ⟨α,s,r',rs,lo,e,q⟩:=hh_
  obtain ⟨x,h1,e⟩:=bind_some e
  obtain ⟨k,h2,rfl⟩:=Af e
  exact KB hf hg hg' ⟨α,s,x,rs,lo,h1,fun α' v H' rs' l' ex hv=>⟨k,GN h2 hv,q α' H' rs' l' ex⟩⟩
end
section
variable {X:Cx} {f:Fr} {e:Expr} {pos p:Pos} {es:List Expr} {ms:MA}
theorem Jx:∀ {bs:List Bool} {us:List Value},Vals (bs.map V.bl) us->us=bs.map Value.bool
 | [],_,h=>by cases h;rfl
 | b::bs,_,h=>by
  cases h with
  | cons r t=>
   cases (show _=Value.bool b from r)
   rw[Jx t]
   rfl
theorem Qc (bs:List Bool):(List.range bs.length).all (fun i=>bs.getD i false)=bs.all id:=by
 rw[Bool.eq_iff_iff,List.all_eq_true,List.all_eq_true]
 constructor
 ·intro h b hb
  obtain ⟨i,hi,rfl⟩:=List.getElem_of_mem hb
  have:=h i (List.mem_range.mpr hi)
  rw[List.getD_eq_getElem?_getD,List.getElem?_eq_getElem hi] at this
  exact this
 ·intro h i hi
  have hi:=List.mem_range.mp hi
  rw[List.getD_eq_getElem?_getD,List.getElem?_eq_getElem hi]
  exact h _ (List.getElem_mem hi)
theorem O6 (hc:X.calm=true):BN X (.builtin "all") (fun xs H Q=>∃ (p:Addr) (bs:List Bool),xs=[.ref p]/\SqL X.K H p (bs.map V.bl)/\Q (.bl (bs.all id)) H):=by
 intro pins s σ H xs us Q I r h
 obtain ⟨l,bs,rfl,hq,q⟩:=h
 obtain ⟨u,rfl,rx⟩:=vals1 r
 cases rx
 obtain ⟨its,ri,pl,hz⟩:=I.list hq
 cases Jx ri
 have hl:=pl.isList
 have hlt:@LT.lt Nat _ l s.heap.objs.size:=pl.lt
 refine call_all_walk (wpAny_pyIter_list hl ?_)
 refine ⟨_,_,_,_,_,_,fun i=>bs.getD i false,rfl,Walks.list (A:=X.A.in1) (I.ok.hd hc) s.heap.objs.size l (Nat.ne_of_lt hlt) (bs.map Value.bool).toArray,⟨⟨_,Heap.get?_push_size _ rfl,rfl,rfl⟩,hl.push _⟩,?_,fun h' tk hk=>?_⟩
 ·intro i v s' Q' E' hv hQ
  have hv:(bs.map Value.bool)[i]?=some v:=by simpa using hv
  rw[List.getElem?_map] at hv
  cases hb:bs[i]? with
  | none=>rw[hb] at hv;cases hv
  | some b=>
   rw[hb] at hv
   cases hv
   have hQ:Q' (bs.getD i false) s':=hQ
   rw[List.getD_eq_getElem?_getD,hb] at hQ
   exact wpAny_truthy_bool hQ
 ·refine ⟨.bl (bs.all id),H,I.kept (h':=h') (t':=tk) fun b o e=>?_,?_,q⟩
  ·have hb:@LT.lt Nat _ b s.heap.objs.size:=Heap.lt_size e
   exact hk b o (by simp;exact Nat.ne_of_lt hb) (Heap.get?_push_of_some _ e)
  ·have:(bs.map Value.bool).toArray.size=bs.length:=by simp
   rw[this,Qc]
   rfl
def Dz:List D->Option (List Bool)
 | []=>some []
 | .bl i::r=>(Dz r).map (i::·)
 | _=>none
theorem Ku:∀ {xs:List D} {bs:List Bool},Dz xs=some bs->xs=bs.map .bl
 | [],bs,e=>by cases e;rfl
 | .bl i::r,bs,e=>by
  unfold Dz at e
  obtain ⟨cs,h,rfl⟩:=Af e
  rw[Ku h]
  rfl
 | .non::_,_,e=>by cases e
 | .int _::_,_,e=>by cases e
 | .str _::_,_,e=>by cases e
 | .lst _::_,_,e=>by cases e
 | .tup _::_,_,e=>by cases e
 | .scr _::_,_,e=>by cases e
 | .dic _ _::_,_,e=>by cases e
theorem L8:∀ bs:List Bool,Dz (bs.map .bl)=some bs
 | []=>rfl
 | b::bs=>by show (Dz (bs.map D.bl)).map (b::·)=_;rw[L8];rfl
theorem J2 {W:Wd}:∀ {bs:List Bool} {vs:List V},Reps W (bs.map D.bl) vs->vs=bs.map V.bl
 | [],vs,h=>h.nil_inv
 | b::bs,vs,h=>by
  obtain ⟨v,r,rfl,h1,h2⟩:=h.cons_inv
  unfold Rep at h1
  rw[h1,J2 h2]
  rfl
@[simp] def Dn:Gm->List SV->Option D:=fun Γ xs=>match xs with
 | [x]=>match elems Γ x with
  | some xs=>(Dz xs).map fun bs=>.bl (bs.all id)
  | _=>none
 | _=>none
theorem OC:CaD X Dn (fun xs H Q=>∃ (p:Addr) (bs:List Bool),xs=[.ref p]/\SqL X.K H p (bs.map V.bl)/\Q (.bl (bs.all id)) H):=by
 intro f α s σ H xs us z Q hf rs hu e q
 unfold Dn at e
 split at e
 ·rename_i x
  split at e
  ·rename_i ys hy
   obtain ⟨bs,hn,rfl⟩:=Af e
   obtain ⟨v,r,rfl,h1,h2⟩:=hu.cons_inv
   rw[h2.nil_inv]
   obtain ⟨a,vs,rfl,h3,h4⟩:=BQ rs hy h1
   rw[Ku hn] at h4
   rw[J2 h4] at h3
   exact ⟨a,bs,rfl,SqL.of h3,q _ H rs .refl Br⟩
  ·cases e
 ·cases e
theorem Hz (hn:X.mg "all"=none) (ha:DA X (e::es) ms) (hc:X.calm=true:=by rfl) (hg:Gl X "all":=by rfl) (he:starEach (e::es) X.env=(false,eval e X.env)::starEach es X.env:=by rfl) (hpl:(backTo pos (starEach es X.env)).any (·.1)=false:=by rfl):DE X (.Call (.Name "all" p) (e::es) [] pos) (AR Dn ms):=
 Ga (O6 hc) OC hg hn PyProof.Rows.boot_all ha (by decide) (by decide) he hpl
end
section
variable {X:Cx} {f:Fr} {a b c:Expr} {ma mb mc:ME} {pos:Pos} {x:Str} {i:Int}
theorem Ln (h:∃ t,X.mg x=some (.int i t)) (hg:Gl X x:=by rfl) (hd:(x == ("__debug__":Str))=false:=by decide):DE X (.Name x pos) (mC (.int i)):=by
 obtain ⟨t,h⟩:=h
 exact FD (KI (v:=.int i) hg h ⟨t,rfl⟩ hd) fun W=>by unfold Rep;rfl
theorem Rb:OpR X (compareOp .LtE) (fun x y H Q=>∃ i j:Str,x=.str i/\y=.str j/\Q (.bl (!decide (j.cps.toList<i.cps.toList))) H):=by
 intro pins s σ H x y v u Q I rx ry h
 obtain ⟨i,j,rfl,rfl,q⟩:=h
 obtain ⟨t,rfl⟩:=rx
 obtain ⟨t',rfl⟩:=ry
 exact PySem.P.le_str (Av I q rfl)
@[simp] def BG:Gm->SV->SV->Option D:=fun _ x y=>match x,y with
 | .v (.int i),.v (.int j)=>some (.bl (decide (i<=j)))
 | .v (.str i),.v (.str j)=>some (.bl (!decide (j.cps.toList<i.cps.toList)))
 | _,_=>none
abbrev KJ:R2:=fun x y H Q=>rI0 (fun i j=>.bl (decide (i<=j))) x y H Q\/(∃ i j:Str,x=.str i/\y=.str j/\Q (.bl (!decide (j.cps.toList<i.cps.toList))) H)
theorem Fx:OpR X (compareOp .LtE) KJ:=op_le.or Rb
theorem GZ:OpD X BG KJ:=by
 intro f α s σ H x y u v z Q hf rs hu hv e q
 unfold BG at e
 split at e
 ·rename_i i j
  cases e
  exact .inl ⟨i,j,A4 hu,A4 hv,q _ H rs .refl Br⟩
 ·rename_i i j
  cases e
  exact .inr ⟨i,j,Bx hu,Bx hv,q _ H rs .refl Br⟩
 ·cases e
theorem LO (ha:DE X a ma) (hb:DE X b mb) (hc:DE X c mc) (hm:lastMarks [.LtE,.LtE] [b,c]=false:=by with_unfolding_all rfl):DE X (.Compare a [.LtE,.LtE] [b,c] pos) (B0 BG BG ma mb mc):=O2 Fx Fx GZ GZ ha hb hc hm
theorem OY (ha:DE X a ma) (hb:DE X b mb) (hc:DE X c mc) (hm:lastMarks [.LtE,.LtE] [b,c]=false:=by with_unfolding_all rfl):DT X (.Compare a [.LtE,.LtE] [b,c] pos) (AV (B0 BG BG ma mb mc)):=Pd Fx Fx GZ GZ ha hb hc hm
end
end DL
namespace L2
open PySem
def Its (x:Str):It:=⟨fun i _=>i<x.cps.size,fun i H v H'=>H'=H/\∃ c,x.cps[i]?=some c/\v=.str ⟨#[c]⟩,fun i _=>x.cps.size<=i⟩
theorem RH {P:Program} {w:World} {K:PySem.W.Frag} {tg:Expr} (x:Str) (t:Tok) (it:Addr):Turn P w K tg (Its x) [it] it (fun i h=>h.IsStrIter it "str_ascii_iterator" x t i) where
 mem:=by simp
 obj:=fun i h st b hb=>by
  have e:b=it:=by simpa using hb
  subst e
  obtain ⟨o,e,c,d⟩:=st
  exact ⟨o,e,fun v z=>by rw[d] at z;cases z⟩
 keep:=fun i h h' st k=>let ⟨o,e,r⟩:=st;⟨o,k it (by simp) o e,r⟩
 item:=by
  intro X hP hw hK hc i pins s σ H E I hf st hg
  subst hP hw hK
  have hx:x.cps[i]?=some (x.cps[i]'hg):=Array.getElem?_eq_getElem hg
  obtain ⟨f0,f1,f2,f3,f4,f5⟩:=hf it (by simp)
  refine wpAny_pyNext_ascii_item st hx fun h' st' sb=>?_
  have I1:Inv X pins σ H {s with heap:=h',toks:=s.toks+1}:=I.turned (t':=s.toks+1) (fun b o hb e=>(sb.2 b hb).trans e) f0 f1 f3 f4 f5
  obtain ⟨o,e,c,d⟩:=id st'
  exact ⟨_,rfl,Fg (s:={s with heap:=h',toks:=s.toks+1}) e c d (by decide) ⟨.str ⟨#[x.cps[i]'hg]⟩,H,I1,⟨_,rfl⟩,⟨rfl,_,hx,rfl⟩,st',fun b hb=>(hf b hb).1⟩⟩
 done:=by
  intro X hP hw hK hc i pins s σ H E I hf st hg
  subst hP hw hK
  obtain ⟨f0,f1,f2,f3,f4,f5⟩:=hf it (by simp)
  exact wpAny_pyNext_ascii_end (I.ok.hd hc) st (Array.getElem?_eq_none hg) fun h' eb=>⟨rfl,I.turned (t':=s.toks) (fun b o hb e=>eb b o hb e) f0 f1 f3 f4 f5⟩
 self:=fun _ _ _ _ _ st h=>wpAny_pyIter_striter_ascii st h
def NP (tl:TE):TI:=fun σ H R=>tl σ H fun v H1=>∃ x:Str,v=.str x/\x.cps.all (·<128)=true/\R (Its x) H1
theorem Pj {X:Cx} {tg l:Expr} {tl:TE} (hl:PE X l tl):PI X tg l (NP tl):=by
 intro pins s σ H R I h
 refine thn (hl pins s σ H _ I h) fun v s1 hh_=>?_
 obtain ⟨x,H1,I1,r1,q1⟩:=hh_
 obtain ⟨x,rfl,ha,q⟩:=q1
 obtain ⟨t,rfl⟩:=r1
 refine wpAny_pyIter_ascii ha ?_
 refine ⟨s1.heap.objs.size,[s1.heap.objs.size],_,_,H1,rfl,I1.kept (t':=s1.toks) fun b o e=>Heap.get?_push_of_some _ e,RH x t _,⟨_,Heap.get?_push_size _ rfl,rfl,rfl⟩,fun b hb=>?_,q⟩
 have e:b=s1.heap.objs.size:=by simpa using hb
 subst e
 exact I1.fpOk (Nat.le_refl _) (I1.hok.fresh (Nat.le_refl _))
end L2
namespace DL
open PySem L2
section
variable {X:Cx} {f:Fr} {a tg:Expr}
def signs (x:Str):List D:=x.cps.toList.map fun c=>.str ⟨#[c]⟩
@[simp] def D0 (m:ME):MF:=fun s=>(m s).bind fun r=>match r.1 with
 | .v (.str x)=>if x.cps.all (·<128) then some (signs x,r.2) else none
 | _=>none
theorem JM {m:ME} (h:DE X a m):DI X tg a (D0 m):=.mk fun f hf=>PI.imp (Pj (h f hf)) fun σ H R hh_=>by
 obtain ⟨α,s,r,rs,lo,e,q⟩:=hh_
 obtain ⟨⟨x,s1⟩,h1,e⟩:=bind_some e
 simp only at e
 split at e
 ·rename_i x
  split at e
  case isFalse=>cases e
  rename_i ha
  cases e
  refine ⟨α,s,_,rs,lo,h1,fun α' v H' rs' l' x' hv=>?_⟩
  refine ⟨x,Bx hv,ha,q _ α' H' rs' l' x' ⟨?_,?_,?_⟩⟩
  ·intro i α2 s2 σ2 H2 Hh hi r2 x2 sup
   have hi:i<x.cps.size:=by simpa [signs] using hi
   exact hi
  ·intro i d y α2 s2 σ2 H2 Hh H3 hd r2 x2 sup yl
   obtain ⟨rfl,c,hc,rfl⟩:=yl
   have hd:(x.cps[i]?).map (fun c=>D.str ⟨#[c]⟩)=some d:=by simpa [signs] using hd
   rw[hc] at hd
   cases hd
   exact .inl ⟨rfl,HZ⟩
  ·intro α2 s2 σ2 H2 Hh r2 x2 sup
   show x.cps.size<=(signs x).length
   simp[signs]
 ·cases e
end
end DL
namespace L2
open PySem PySem.Spec PyProof.Rows
section
variable {X:Cx} {tg:Expr}
end
end L2
namespace DL
open PySem L2
section
variable {X:Cx} {f:Fr} {a b c tg:Expr} {pos:Pos}
end
end DL
namespace L2
open PySem PySem.Spec PyProof.Rows
section
variable {X:Cx}
end
end L2
namespace DL
open PySem L2
open PyProof.Rows (boot_max)
section
variable {X:Cx} {f:Fr} {α:Nat->Addr} {s:DS} {σ:St} {H:Hp} {a b e:Expr} {ma mb:ME} {pos p:Pos} {es:List Expr} {ms:MA}
end
end DL
namespace DL
open PySem L2 Ev
section
variable {X:Cx} {st:Stmt} {pos p:Pos} {e:Expr} {es:List Expr} {ms:MA}
end
end DL
namespace L2
open PySem PySem.SeqAt
open PySem.AutoSeq1 (wpAny_loadPart')
open PySem.MeetsSeq PySem.MeetsSeq2 PySem.MeetsSeq3
open PyProof.Rows (IntsAre IsTup)
section
variable {X:Cx}
end
end L2
namespace DL
open PySem L2
section
variable {X:Cx} {a b:Expr} {ma mb:ME} {pos:Pos}
variable {c:Expr} {mc:ME}
end
end DL
namespace XL
open PySem PySem.Spec PyProof.Rows L2
abbrev NF (o:Obj):Prop:=∀ vs:Array Value,o.data≠Data.fields vs
abbrev UpS (h h':Heap):Prop:=∀ b o,h.get? b=some o->NF o->∃ sl,h'.get? b=some {o with slots:=sl}
def Trc (h B:Heap) (e:Addr) (cls fl:Value):Prop:=∃ oe vs T oT ts,h.get? e=some oe/\oe.cls=cls/\oe.dict=none/\oe.data=Data.fields vs/\vs[1]?=some (Value.ref T)/\B.get? T=none/\T≠e/\h.get? T=some oT/\oT.data=Data.fields ts/\ts[3]?=some fl
section
variable {M:Model} {A:Around} {E:Value->Shared->Prop} {s:Shared} {B:Heap} {env:Env} {outer:List Env} {L e:Addr} {oe:Obj} {vs:Array Value} {head cls fl:Value} {hadNext:Bool} {Q:Unit->Shared->Prop}
end
section
variable {M:Model} {A:Around} {E:Value->Shared->Prop} {s:Shared} {B:Heap} {env:Env} {outer:List Env} {L e:Addr} {oe:Obj} {vs:Array Value} {head cls fl:Value} {hadNext:Bool} {Q:Unit->Shared->Prop}
structure Step (B:Heap) (l:List Env) (e:Addr) (cls fl:Value) (h h':Heap):Prop where
 st:B.StaysIn h'
 fr:h'.FunFrames B l
 tr:Trc h' B e cls fl
 up:UpS h h'
end
structure Fly (P:Program) (w:World) (l:List Env) (H H':Hp) (h0:Heap) (e:Addr) (cls fl:Value) (h:Heap):Prop where
 B:∃ B:Heap,B.StaysIn h/\B.get? e=none/\h.FunFrames B l/\Trc h B e cls fl/\HOk P w H' B/\(∀ b o,h0.get? b=some o->H b=none->b∉frs l->B.get? b=some o)/\∀ b o,h0.get? b=some o->b∉frs l->∃ o',B.get? b=some o'
 slot:∀ b o,h0.get? b=some o->b∈frs l->∃ sl,h.get? b=some {o with slots:=sl}
 newe:h0.get? e=none
 frf:∀ b∈frs l,H' b=none
 free:∀ b o,h0.get? b=some o->H b=none->H' b=none
 tups:∀ b xs,H b=some (.tup xs)->H' b=some (.tup xs)
 frzs:∀ b o u,H b=some (.frz o u)->H' b=some (.frz o u)
 tbls:∀ b ps,H b=some (.tbl ps)->∃ more,H' b=some (.tbl (ps++more))
section
variable {P:Program} {w:World} {l:List Env} {H H':Hp} {h0 h h':Heap} {e:Addr} {cls fl fl':Value}
theorem Mw {a:Addr} {o:HO} (x:ObjOk P w H h a o):∃ ob,h.get? a=some ob:=by
 cases o with
 | lst xs=>obtain ⟨_,_,_,_,e⟩:=x;exact ⟨_,e⟩
 | tup xs=>obtain ⟨_,_,_,ob,e,_⟩:=x;exact ⟨ob,e⟩
 | dK kvs=>obtain ⟨_,_,_,_,o,_,_,e,_⟩:=x;exact ⟨_,e⟩
 | dT kvs=>obtain ⟨_,_,_,_,o,_,_,e,_⟩:=x;exact ⟨_,e⟩
 | set S n=>obtain ⟨o,_,_,_,e,_⟩:=x;exact ⟨_,e⟩
 | ins C dx fs=>obtain ⟨_,_,_,e,_⟩:=x;exact ⟨_,e⟩
 | own y=>exact x
 | xd fs=>obtain ⟨_,⟨_,_,_,e,_⟩,_⟩:=x;exact ⟨_,e⟩
 | rng lo hi=>obtain ⟨_,_,_,e⟩:=x;exact ⟨_,e⟩
 | frz ob u=>obtain ⟨e,_⟩:=x;exact ⟨_,e⟩
 | tbl ps=>exact ⟨_,x⟩
 | met f y=>exact ⟨_,x⟩
 | ext φ=>obtain ⟨_,⟨_,e⟩,_⟩:=x;exact ⟨_,e⟩
end
section
variable {X:Cx} {pins:List (Addr×Obj)} {σ:L2.St} {H H':Hp} {s:Shared} {M:Model} {E:Value->Shared->Prop} {e:Addr} {cls fl:Value} {Q:Unit->Shared->Prop}
structure Own (X:Cx):Prop where
 st:X.stack=X.env::X.outer
 fr:X.env.frame=some X.env.locals
 ex:X.ex=[]
end
theorem Oo {K:PySem.W.Frag} {h:Heap} {C:Addr} {bmB:List Value} {newId:String} (kin:K.In h) (hx:PySem.W.excIn K C bmB newId=true) :
  ∃ bm N nm q bs hdct sn sub ab col dd k0 k1 k2 k3 k5 mN,h.get? C=some (excClassObj nm q C N bs bm hdct sn sub ab col dd k0 k1 k2 k3 k5 newId)/\h.Ns N mN/\mN "__init__"=none/\OwnTail h bmB bm:=by
 unfold PySem.W.excIn at hx
 split at hx
 case h_2=>cases hx
 rename_i dict cd sl hl
 split at hx
 case h_2=>cases hx
 rename_i C' bm k0 k1 k2 k3 n k5 em es
 simp only[Bool.and_eq_true,beq_iff_eq,Bool.not_eq_true'] at hx
 obtain ⟨⟨⟨⟨⟨rfl,rfl⟩,hd⟩,ht⟩,hn⟩,hi⟩:=hx
 obtain ⟨nm,bs,mro,N,q,hdct,sn,sub,ab,col,hdel⟩:=cd
 simp only at em hd ht hn hi
 subst em hd
 have ho:=kin _ _ hl
 have esl:sl=#[k0,k1,k2,k3,some (Value.builtin n),k5]:=by
  apply Array.toList_inj.mp
  rw[es]
 subst esl
 have i1:=PySem.W.isNs_of_in kin hn
 have i2:=PySem.W.nsMap_none_of_in kin hn hi
 exact ⟨bm,N,nm,q,bs,hdct,sn,sub,ab,col,dict,k0,k1,k2,k3,k5,h.nsMap N,ho,Heap.Ns.of_isNs i1,i2,PySem.W.tail_of_in kin ht⟩
section
variable {X:Cx} {E:XK}
end
section
variable {P:Program} {w:World} {l:List Env} {X:Cx} {pins:List (Addr×Obj)} {σ:L2.St} {H H':Hp} {s:Shared} {h0 h:Heap} {e:Addr} {cls fl:Value}
theorem Kv (x:HOk P w H h0) (n:h0.get? e=none):H e=none:=by
 cases q:H e with
 | none=>rfl
 | some o=>
  obtain ⟨ob,z⟩:=Mw (x e o q)
  rw[n] at z
  cases z
end
theorem P7 {M:Model} {h:Heap} {a:Addr} {o:Obj} {cls:Value} (e:h.get? a=some o) (c:o.cls=cls):PySem.W.Looks M h (typeOf (.ref a)) cls:=by
 intro A Q E s k q
 unfold typeOf
 refine wpAny_bind (wpAny_load (k a o e) ?_)
 rw[<-c] at q
 exact wpAny_pure q
section
variable {X:Cx} {k:Nat} {f C CT:Addr} {fd:FuncData} {ps:List Str} {sp:Sp} {x T n:Str} {i:Nat} {p cpos epos tp hpos pos:Pos} {e:Expr} {es:List Expr} {ta:TA} {b₀:Stmt} {suite:List Stmt} {ts:Addr->TS}
end
theorem NN {M:Model} {A:Around} {E:Value->Shared->Prop} {h:Heap} {g:Array GenState} {d:Drawn} {t:Nat} {os:OsState} {x D:Addr} {nameV:Value} {Q:Unit->Shared->Prop} (L0:PySem.W.Looks M h (typeOf (.ref x)) (.ref D)) (L1:PySem.W.Looks M h (isSubtype (.ref D) (.type "BaseException")) true)
  (q:Q () ⟨h,g,d,t,os⟩):wpAny M A (checkBuiltinCall "BaseException.__getattribute__" {pos:=[.ref x,nameV]}) Q E ⟨h,g,d,t,os⟩:=by
 have hk:builtinKind "BaseException.__getattribute__"=some Manifest.AttrKind.slot:=by with_unfolding_all rfl
 have hs:splitId "BaseException.__getattribute__"=some ("BaseException","__getattribute__"):=by with_unfolding_all rfl
 have ha:=PySem.F.args_bexc_ga (Value.ref x) nameV
 unfold checkBuiltinCall
 simp only[hk,hs]
 unfold isInstance
 refine wpAny_bind (wpAny_bind (PySem.W.Looks.at L0 (PySem.W.Looks.at L1 ?_)))
 refine wpAny_ite_false rfl ?_
 unfold argsOk at ha
 generalize Manifest.signature? "BaseException.__getattribute__"=sg at ha ⊢
 cases sg with
 | none=>exact wpAny_pure q
 | some sig=>exact wpAny_of_eq ha q
theorem OH {prog:Program} {w:World} {A:Around} {E:Value->Shared->Prop} {s:Shared} {K:PySem.W.Frag} {x D:Addr} {ox:Obj} {Q:Option Value->Shared->Prop} (X:K.In s.heap) (I:PySem.W.InstAt s.heap x ox D none)
  (hga:PySem.W.findIn K (.ref D) "__getattribute__"=some (some (.builtin "BaseException.__getattribute__"))) (hgt:PySem.W.findIn K (.ref D) "__getattr__"=some none) (hsb:PySem.W.subIn K (.ref D) (.type "BaseException")=some true)
  (hfo:PySem.W.findObj K D none "__class__"=some (.bind (.builtin "getset_descriptor.__get__") (.builtin "object.__class__"))) (hmo:PySem.W.mroIn K D (.type "object")=some true)
  (h:Q (some (.ref D)) {s with toks:=s.toks+1}):wpAny (model prog w) A (getAttr? (.ref x) "__class__") Q E s:=by
 obtain ⟨hh,g,d,t,os⟩:=s
 have L0:=fun M=>PySem.W.InstAt.type (M:=M) I
 have L1:=fun M=>PySem.W.looks_findIn (M:=M) X hga
 have L2':=fun M=>PySem.W.looks_findIn (M:=M) X hgt
 have L3:=fun M=>PySem.W.looks_subIn (M:=M) X hsb
 have L4:=fun M=>PySem.W.looks_find (M:=M) X I hfo
 unfold getAttr? getAttrBy?
 refine wpAny_bind (wpAny_mkText (wpAny_bind (wpAny_attempt ?_)))
 unfold getAttrBy
 refine wpAny_holding (wpAny_bind (PySem.W.Looks.at (L0 _) (wpAny_bind (PySem.W.Looks.at (L1 _) ?_))))
 show wpAny _ _ (getAttrByItsOwn _ _ _ _ _ _) _ _ _
 unfold getAttrByItsOwn hookBefore
 refine wpAny_bind (wpAny_ite_true rfl (PySem.W.Looks.at (L2' _) ?_))
 refine wpAny_bind (wpAny_attempt (wpAny_holding ?_))
 unfold callGetattribute
 refine wpAny_ite_false rfl ?_
 unfold boundAndCalled
 refine wpAny_bind (wpAny_of_eq (PySem.F.attrBase_ValueError.ga.bind (Value.ref x)) ?_)
 refine wpAny_call (codeAny_call_builtin PySem.F.attrBase_ValueError.ga.plain PySem.F.entry_bexc_ga (NN (L0 _) (L3 _) ?_))
 unfold Builtin.«object.__getattribute__»
 refine wpAny_bind ?_
 unfold slotArgs
 refine wpAny_ite_false rfl (wpAny_ite_false rfl (wpAny_pure ?_))
 refine wpAny_bind (wpAny_pure ?_)
 refine wpAny_bind (PySem.W.Looks.at (L0 _) ?_)
 refine wpAny_bind (PySem.W.Looks.at (L4 _) ?_)
 show wpAny _ _ (Builtin.ObjectAttr.bindTo _ _ _ _) _ _ _
 unfold Builtin.ObjectAttr.bindTo
 refine wpAny_bind (wpAny_holding (wpAny_call (PySem.W.class_get (s:=⟨hh,g,d,t+1,os⟩) X I hmo ?_)))
 refine wpAny_pure ?_
 exact PySem.W.handed_on rfl (wpAny_pure h)
def ExcAt (x:Addr) (cls:Value) (h:Heap):Prop:=∃ o vs,h.get? x=some o/\o.cls=cls/\o.dict=none/\o.data=Data.fields vs
structure ExcC (K:PySem.W.Frag) (D:Addr):Prop where
 lk:∃ dict cd sl,K.lookup D=some ⟨.type "type",dict,.cls cd,sl⟩
 ga:PySem.W.findIn K (.ref D) "__getattribute__"=some (some (.builtin "BaseException.__getattribute__"))
 gt:PySem.W.findIn K (.ref D) "__getattr__"=some none
 sb:PySem.W.subIn K (.ref D) (.type "BaseException")=some true
 fo:PySem.W.findObj K D none "__class__"=some (.bind (.builtin "getset_descriptor.__get__") (.builtin "object.__class__"))
 mo:PySem.W.mroIn K D (.type "object")=some true
theorem SU {K:PySem.W.Frag} {x D:Addr} (c:ExcC K D):PySem.W.KitX K (.ref x) (.ref D) (ExcAt x (.ref D)) where
 ty:=fun M h X ⟨o,vs,e1,e2,_⟩=>P7 e1 e2
 it:=fun M h X _=>by
  obtain ⟨dict,cd,sl,lk⟩:=c.lk
  intro A Q E s k q
  unfold isType
  exact wpAny_bind (wpAny_loadPart (k D _ (X D _ lk)) (wpAny_pure q))
 ne:=fun h tp dd its n sl X q=>by
  obtain ⟨dict,cd,sl',lk⟩:=c.lk
  have hD:=X D _ lk
  refine Bool.eq_false_iff.mpr fun z=>?_
  have z:D=tp:=by simpa using z
  rw[z,q] at hD
  simp at hD
 ca:=fun {prog w A E Q s} X ⟨o,vs,e1,e2,e3,e4⟩ h=>by
  have I:PySem.W.InstAt s.heap x o D none:=⟨e1,e2,by unfold PySem.W.notCls;rw[e4],by rw[e3];trivial⟩
  exact OH X I c.ga c.gt c.sb c.fo c.mo h
section
variable {X:Cx}
end
end XL
namespace SL
open PySem
def Ris (t:SetTable):Prop:=t.plain=true->t.place.toList.Pairwise (·<·)
end SL
namespace SL
open PySem PySem.Spec PyProof.Rows
def kv:Value->Int
 | .int k _=>k
 | _=>0
structure SG (prog:Program) (w:World) (o:Obj) (ns:List Int) (es:Array (Int×Value)) (ep:Nat) (t:SetTable):Prop where
 ex:o.ExactSet
 dat:o.data=.set es ep t
 el:ElemsOf (intKind prog w) es.toList
 pm:(es.toList.map fun e=>kv e.2).Perm ns
 sz:es.size<scanBound
 fit:t.fits es.size=true
 ris:Ris t
 led:t.led=!w.params.followText "set-order"
def QP (ns:List Int) (k:Int):List Int:=if k∈ns then ns else ns++[k]
section
variable {prog:Program} {w:World} {A:Around} {E:Value->Shared->Prop} {s:Shared}
end
section
variable {prog:Program} {w:World} {A:Around} {E:Value->Shared->Prop} {s:Shared}
end
section
variable {prog:Program} {w:World} {A:Around} {E:Value->Shared->Prop} {s:Shared}
end
section
variable {prog:Program} {w:World} {A:Around} {E:Value->Shared->Prop} {s:Shared} {it a:Addr} {first:Value} {i n ep:Nat}
end
section
variable {prog:Program} {w:World} {A:Around} {E:Value->Shared->Prop} {s:Shared} {a:Addr} {o:Obj} {es:Array (Int×Value)} {t:SetTable} {slot i ep:Nat}
end
section
variable {prog:Program} {w:World} {A:Around} {E:Value->Shared->Prop} {s:Shared} {a it:Addr} {o:Obj} {es:Array (Int×Value)} {t:SetTable} {i ep:Nat}
end
section
variable {prog:Program} {w:World} {A:Around} {E:Value->Shared->Prop} {s:Shared} {a it p:Addr} {o op:Obj} {es:Array (Int×Value)} {t:SetTable} {i ep m:Nat} {ps:Array Value}
end
section
variable {prog:Program} {w:World} {A:Around} {E:Value->Shared->Prop} {s:Shared} {a it p:Addr} {o op:Obj} {es:Array (Int×Value)} {t:SetTable} {i ep m:Nat} {ps:Array Value} {first:Value}
end
section
variable {prog:Program} {w:World} {A A':Around} {E:Value->Shared->Prop} {s:Shared} {a:Addr}
end
section
variable {prog:Program} {w:World} {A:Around} {E:Value->Shared->Prop} {s:Shared} {a:Addr}
end
end SL
namespace SL
open PySem PySem.Spec PyProof.Rows EvS
section
variable {prog:Program} {w:World} {A:Around} {E:Value->Shared->Prop} {s:Shared} {a:Addr}
end
end SL
namespace SL
open PySem PySem.Spec PyProof.Rows L2 Ev DL
def dd (ns:List Int):List Int:=ns.foldl QP []
section
variable {X:Cx} {pins:List (Addr×Obj)} {σ:L2.St} {H:Hp} {s:Shared}
end
section
variable {X:Cx} {e:Expr} {es:List Expr} {ms:MA} {p p2 pos pos2:Pos}
end
end SL
namespace L2
open PySem PyProof PyProof.Rows
section
variable {X:Cx}
end
end L2
namespace DL
open PySem L2
@[simp] def As:Gm->SV->SV->Option (List D):=fun Γ x y=>match elems Γ x,y with
 | some xs,.v (.int k)=>if k<=100000/\-100000<=k/\xs.length * k.toNat<=big then some (List.replicate k.toNat xs).flatten else none
 | _,_=>none
section
variable {X:Cx} {a b o i e:Expr} {ma mb mo mi me:ME} {pos p:Pos}
theorem K8 {W:Wd} {xs:List D} {vs:List V} (h:Reps W xs vs):∀ k:Nat,Reps W (List.replicate k xs).flatten (List.replicate k vs).flatten
 | 0=>.nil
 | k+1=>by
  rw[List.replicate_succ,List.replicate_succ,List.flatten_cons,List.flatten_cons]
  exact h.append (K8 h k)
theorem Qo:OpF X As Jh:=by
 intro f α s σ H x y u v z Q hf rs hu hv e q
 unfold As at e
 split at e
 ·rename_i xs k h1
  split at e
  ·rename_i hz
   cases e
   obtain ⟨a,vs,rfl,a1,a2⟩:=BQ rs h1 hu
   exact ⟨a,k,vs,rfl,A4 hv,a1,by lia,by lia,by rw[a2.len];exact Ct hz.2.2,fun p hp=>q p _ hp (K8 a2 _)⟩
  ·cases e
 ·cases e
theorem DX (ha:DE X a ma) (hb:DE X b mb):DF X (.BinOp a .Mult b pos) (Aj As ma mb):=KC Ov Qo ha hb
end
end DL
namespace L2
open PySem PySem.Spec PyProof.Rows
section
variable {κ:Type} [DecidableEq κ]
def putK (kvs:List (κ×V)) (k:κ) (v:V):List (κ×V):=
 if (kvs.any fun kv=>decide (kv.1=k))=true then kvs.map (fun kv=>if kv.1=k then (kv.1,v) else kv) else kvs++[(k,v)]
theorem Nf (kvs:List (κ×V)) (k:κ) (v:V):(putK kvs k v).length<=kvs.length+1:=by
 unfold putK
 split
 ·rw[List.length_map];lia
 ·rw[List.length_append,List.length_cons,List.length_nil];lia
theorem KV.any {kvs:List (κ×V)} {vs:List (κ×Value)} (r:KV kvs vs) (k:κ):(kvs.any fun kv=>decide (kv.1=k))=vs.any fun kv=>decide (kv.1=k):=by
 unfold KV at r
 induction r with
 | nil=>rfl
 | cons h t ih=>rw[List.any_cons,List.any_cons,ih,h.1]
theorem KV.repl {kvs:List (κ×V)} {vs:List (κ×Value)} (r:KV kvs vs) (k:κ) {y:V} {u:Value} (ry:RelV y u) :
  KV (kvs.map fun kv=>if kv.1=k then (kv.1,y) else kv) (vs.map fun kv=>if kv.1=k then (kv.1,u) else kv):=by
 unfold KV at r ⊢
 induction r with
 | nil=>exact .nil
 | @cons p q ps qs h t ih=>
  rw[List.map_cons,List.map_cons]
  refine .cons ?_ ih
  obtain ⟨h1,h2⟩:=h
  by_cases e:p.1=k
  ·rw[if_pos e,if_pos (h1.symm.trans e)];exact ⟨h1,ry⟩
  ·rw[if_neg e,if_neg (fun z=>e (h1.trans z))];exact ⟨h1,h2⟩
theorem KV.put {kvs:List (κ×V)} {vs:List (κ×Value)} (r:KV kvs vs) (k:κ) {y:V} {u:Value} (ry:RelV y u):KV (putK kvs k y) (stored vs k u):=by
 unfold putK stored
 rw[r.any k]
 by_cases e:(vs.any fun kv=>decide (kv.1=k))=true
 ·rw[if_pos e,if_pos e];exact r.repl k ry
 ·rw[if_neg e,if_neg e];exact Paired.snoc r ⟨rfl,ry⟩
theorem KV.length {kvs:List (κ×V)} {vs:List (κ×Value)} (r:KV kvs vs):kvs.length=vs.length:=Paired.length r
end
theorem JD {P:Program} {w:World} {k:Key} {u:Value} (r:RelV (kV k) u):(Bq P w).is k u=true:=by
 cases k with
 | inl i=>obtain ⟨t,e⟩:=(show ∃ t,u=Value.int i t from r);subst e;exact P8 P w i t
 | inr x=>obtain ⟨t,e⟩:=(show ∃ t,u=Value.str x t from r);subst e;exact Na P w x t
section
variable {P:Program} {w:World} {H:Hp} {h:Heap} {a:Addr}
theorem Ms {u:HO} (ok:HOk P w H h) (e:Rd H a u):ObjOk P w H h a u:=e.ok ok
theorem Nc {kvs:List (Key×V)} (ok:HOk P w H h) (e:Rd H a (.dK kvs)):kvs.length<=sizeLine/\(a == sysModules)=false/\∃ vs,KV kvs vs/\h.DictOf (Bq P w) a vs:=
 show ObjOk P w H h a (.dK kvs) from Ms ok e
theorem SR {kvs:List (Key×V)} (ok:HOk P w H h) (e:H a=some (.dK kvs)):kvs.length<=sizeLine/\(a == sysModules)=false/\∃ vs,KV kvs vs/\h.DictOf (Bq P w) a vs:=Nc ok (.inl e)
end
section
variable {X:Cx} {pins:List (Addr×Obj)} {σ:St} {H:Hp} {s:Shared} {a:Addr} {y v:V} {u r:Value} {o:Option V} {A:Around} {E:Value->Shared->Prop}
theorem Inv.big (I:Inv X pins σ H s):sysModules<s.heap.objs.size:=by
 have h:mainGlobals<s.heap.objs.size:=(I.mod.glob.keeps I.bk).lt
 exact Nat.lt_trans (by decide) h
theorem Ox {h':Heap} {t':Nat} {ob:HO} (I:Inv X pins σ H s) (mu:Mut (H a)) (hs:Heap.SameBut a s.heap h') (he:∃ q,h'.get? a=some q) (new:ObjOk X.prog X.w (upd H a ob) h' a ob) :
  Inv X pins σ (upd H a ob) {s with heap:=h',toks:=t'}:=
 I.write (x:=a) (e:=a) mu (.inl rfl) (fun b q hb z=>(hs.2 b hb).trans z) he new
theorem Kb {P:Program} {w:World} {H':Hp} {h':Heap} {kvs:List (Key×V)} {vs:List (Key×Value)} (z:kvs.length<=sizeLine) (hd:(a == sysModules)=false) (rel:KV kvs vs) (dd:h'.DictOf (Bq P w) a vs) :
  ObjOk P w H' h' a (.dK kvs):=⟨z,hd,vs,rel,dd⟩
end
section
variable {X:Cx} {pins:List (Addr×Obj)} {σ:St} {H:Hp} {s:Shared} {a:Addr} {kvs:List (Key×V)} {k:Key} {u:Value} {A:Around} {E:Value->Shared->Prop}
end
section
variable {X:Cx} {o i e value:Expr} {pos pos' tpos:Pos} {td ty tv:TE}
end
theorem K0 {P:Program} {w:World} {H:Hp} (h:Heap) (hb:sysModules<h.objs.size):ObjOk P w H (h.push {cls:=.type "dict",data:=.dict #[]}) h.objs.size (.dK []):=
 ⟨Nat.zero_le _,beq_eq_false_iff_ne.mpr (Ne.symm (Nat.ne_of_lt hb)),[],.nil,Heap.DictOf.new h⟩
def OD:TE:=fun _ H Q=>∀ p,H p=none->Q (.ref p) (upd H p (.dK []))
section
variable {X:Cx} {pos:Pos}
theorem RV:PE X (.Dict [] [] pos) OD:=fun pins s σ H Q I h=>
 wpAny_Dict_empty ⟨.ref s.heap.objs.size,_,I.laid (a:=s.heap.objs.size) (o:=.dK []) (t':=s.toks) (fun _ _ q=>Heap.get?_push_of_some _ q) (Nat.le_refl _) (K0 s.heap I.big),rfl,h _ (I.hok.fresh (Nat.le_refl _))⟩
end
def Hl:List (TE×TE)->St->Hp->(List (V×V)->Hp->Prop)->Prop
 | [],_,H,Q=>Q [] H
 | (tk,tv)::r,σ,H,Q=>tk σ H fun x H1=>tv σ H1 fun y H2=>Hl r σ H2 fun ps H3=>Q ((x,y)::ps) H3
abbrev VV:List (V×V)->List (Value×Value)->Prop:=Paired fun p q=>RelV p.1 q.1/\RelV p.2 q.2
def PPs (X:Cx) (pos:Pos) (keys:List (Option Expr)) (values:List Expr) (trs:List (TE×TE)):Prop:=
 ∀ (pins:List (Addr×Obj)) (s:Shared) (σ:St) (H:Hp) (Q:List (V×V)->Hp->Prop),Inv X pins σ H s->Hl trs σ H Q ->
  wpAny (model X.prog X.w) X.A (evalPairs (pairTrees keys values X.env pos)) (fun vs s'=>∃ ps H',Inv X pins σ H' s'/\VV ps vs/\Q ps H') X.xe s
theorem Jr {X:Cx} {pos:Pos}:PPs X pos [] [] []:=fun pins s σ H Q I h=>pairTrees_nil_walk ⟨[],H,I,.nil,h⟩
theorem L5 {X:Cx} {pos:Pos} {k v:Expr} {ks:List (Option Expr)} {vs:List Expr} {tk tv:TE} {trs:List (TE×TE)} (hk:PE X k tk) (hv:PE X v tv) (hr:PPs X pos ks vs trs) :
  PPs X pos (some k::ks) (v::vs) ((tk,tv)::trs):=fun pins s σ H Q I h=>
 pairTrees_cons_walk (thn (hk pins s σ H _ I h) fun u s1 ⟨x,H1,I1,rx,q1⟩=>thn (hv pins s1 σ H1 _ I1 q1) fun w2 s2 ⟨y,H2,I2,ry,q2⟩=>
  thn (hr pins s2 σ H2 _ I2 q2) fun ws s3 ⟨ps,H3,I3,rel,q3⟩=>⟨(x,y)::ps,H3,I3,.cons ⟨rx,ry⟩ rel,q3⟩)
def B8 (kvs more:List (Key×V)):List (Key×V):=more.foldl (fun acc kv=>putK acc kv.1 kv.2) kvs
theorem KV.merge:∀ {more:List (Key×V)} {rs:List (Key×Value)} {kvs:List (Key×V)} {vs:List (Key×Value)},KV more rs->KV kvs vs->KV (B8 kvs more) (merged vs rs):=by
 intro more rs kvs vs r
 unfold KV at r
 induction r generalizing kvs vs with
 | nil=>intro q;exact q
 | @cons p q ps qs h t ih=>
  intro r0
  have e:KV (putK kvs p.1 p.2) (stored vs q.1 q.2):=by
   have:=r0.put p.1 h.2
   rw[<-h.1];exact this
  exact ih e
theorem II:∀ (more kvs:List (Key×V)),(B8 kvs more).length<=kvs.length+more.length
 | [],kvs=>by show kvs.length<=kvs.length+0;lia
 | p::r,kvs=>by
  have h1:=II r (putK kvs p.1 p.2)
  have h2:=Nf kvs p.1 p.2
  show (B8 (putK kvs p.1 p.2) r).length<=_
  rw[List.length_cons];lia
theorem Km {P:Program} {w:World}:∀ {kvs:List (Key×V)} {ws:List (Value×Value)},VV (kvs.map fun kv=>(kV kv.1,kv.2)) ws->∃ rs,Carries (Bq P w) ws rs/\KV kvs rs
 | [],_,r=>by rw[List.map_nil] at r;cases r;exact ⟨[],True.intro,.nil⟩
 | p::kvs,_,r=>by
  rw[List.map_cons] at r
  cases r with
  | @cons a b as bs h t=>
   obtain ⟨rs,c,q⟩:=Km (P:=P) (w:=w) t
   obtain ⟨b1,b2⟩:=b
   exact ⟨(p.1,b2)::rs,⟨JD h.1,rfl,c⟩,.cons ⟨rfl,h.2⟩ q⟩
def SK (trs:List (TE×TE)):TE:=fun σ H Q=>∀ p,H p=none->Hl trs σ (upd H p (.dK [])) fun ps H2=>H2 p=some (.dK [])/\∃ kvs:List (Key×V),ps=kvs.map (fun kv=>(kV kv.1,kv.2))/\kvs.length<=15/\Q (.ref p) (upd H2 p (.dK (B8 [] kvs)))
theorem JZ {X:Cx} {pos:Pos} {keys:List (Option Expr)} {values:List Expr} {trs:List (TE×TE)} (h:PPs X pos keys values trs) (hall:keys.all (·.isSome)=true) (hl:keys.length=values.length) (h0:keys≠[])
  (h15:keys.length<=15):PE X (.Dict keys values pos) (SK trs):=by
 intro pins s σ H Q I q
 have hn:=I.hok.fresh (Nat.le_refl s.heap.objs.size)
 have I1:=I.laid (a:=s.heap.objs.size) (o:=.dK []) (h':=s.heap.push {cls:=.type "dict",data:=.dict #[]}) (t':=s.toks) (fun _ _ q=>Heap.get?_push_of_some _ q) (Nat.le_refl _) (K0 s.heap I.big)
 refine wpAny_Dict_walk (knd:=Bq X.prog X.w) hall hl h0 h15 (thn (h pins _ σ _ _ I1 (q _ hn)) fun ws s2 hh_=>?_)
 obtain ⟨ps,H2,I2,rel,e,kvs,ep,lk,q2⟩:=hh_
 subst ep
 obtain ⟨rs,c,rk⟩:=Km (P:=X.prog) (w:=X.w) rel
 obtain ⟨z,hd,vs0,r0,dd⟩:=SR I2.hok e
 cases r0
 refine ⟨rs,c,dd,fun h' dd' hs=>⟨.ref s.heap.objs.size,_,?_,rfl,q2⟩⟩
 have hz:(B8 [] kvs).length<=sizeLine:=by
  have h1:=II kvs []
  rw[List.length_nil] at h1
  rw[sizeLine_eq];lia
 have he:∃ q,h'.get? s.heap.objs.size=some q:=let ⟨q,_,_,hq,_⟩:=dd';⟨q,hq⟩
 exact Ox I2 (by rw[e];exact True.intro) hs he (Kb hz hd (rk.merge .nil) dd')
structure M1 (X:Cx) (o:Expr) (m:Str) (apos:Pos) (e:Expr) (cpos:Pos):Prop where
 base:attributeBase o m X.env (eval o X.env)=eval o X.env
 few:((backTo cpos (starEach [e] X.env)).all (fun x=>!x.1) && (backToKw cpos (keywordEach [] X.env)).all (fun x=>x.1.isSome)
  && decide (([e]:List Expr).length+([]:List Keyword).length+(if ([]:List Keyword).isEmpty then 0 else 1)<30))=true
 line:(apos.endLine == cpos.line)=true
 trees:backTo cpos (starEach [e] X.env)=[(false,eval e X.env)]
structure M2 (X:Cx) (o:Expr) (m:Str) (apos:Pos) (e f:Expr) (cpos:Pos):Prop where
 base:attributeBase o m X.env (eval o X.env)=eval o X.env
 few:((backTo cpos (starEach [e,f] X.env)).all (fun x=>!x.1) && (backToKw cpos (keywordEach [] X.env)).all (fun x=>x.1.isSome)
  && decide (([e,f]:List Expr).length+([]:List Keyword).length+(if ([]:List Keyword).isEmpty then 0 else 1)<30))=true
 line:(apos.endLine == cpos.line)=true
 trees:backTo cpos (starEach [e,f] X.env)=[(false,eval e X.env),(false,eval f X.env)]
section
variable {X:Cx} {pins:List (Addr×Obj)} {σ:St} {H:Hp} {s:Shared} {a:Addr} {y d:V} {u r:Value} {o:Option V} {A:Around} {E:Value->Shared->Prop}
end
section
variable {X:Cx} {o e f:Expr} {apos cpos:Pos} {td ty tx:TE}
end
section
variable {X:Cx} {pins:List (Addr×Obj)} {σ:St} {H:Hp} {s:Shared} {a:Addr} {kvs:List (Key×V)} {A:Around} {E:Value->Shared->Prop}
end
section
variable {X:Cx} {pins:List (Addr×Obj)} {σ:St} {H:Hp} {s:Shared} {a:Addr} {y:V} {u:Value} {A:Around} {E:Value->Shared->Prop}
end
end L2
namespace Att
open PySem PySem.W PySem.Calls PyProof.Rows
end Att
namespace L2
open PySem PySem.Spec PyProof.Rows
section
variable {X:Cx}
end
section
variable {κ:Type} [DecidableEq κ]
end
end L2
namespace DL
open PySem L2
theorem Kk {K:Type} [DecidableEq K]:∀ {kb:List (K×Value)} {j:Nat} {k:K} {y:Value},(kb.map (·.1)).Nodup->kb[j]?=some (k,y)->valueAt kb k=some y
 | [],_,_,_,_,e=>by cases e
 | p::r,0,k,y,_,e=>by cases e;simp[valueAt]
 | p::r,j+1,k,y,nd,e=>by
  rw[List.map_cons,List.nodup_cons] at nd
  have e:r[j]?=some (k,y):=by simpa using e
  have hm:k∈r.map (·.1):=List.mem_map.mpr ⟨(k,y),List.mem_of_getElem? e,rfl⟩
  have ne:¬p.1=k:=fun z=>nd.1 (z▸hm)
  have:=Kk nd.2 e
  unfold valueAt at *
  rw[List.find?_cons_of_neg (by simpa using ne)]
  exact this
theorem Lk {K:Type} [DecidableEq K] {A:Around} {s:Shared} {kb:List (K×Value)} (nd:(kb.map (·.1)).Nodup):∀ {ka:List (K×Value)} (i:Nat),(∀ (j:Nat) v,ka[j]?=some v->∃ y,kb[i+j]?=some (v.1,y)/\SeqAt.EqAt A s v.2 y true)->PySem.W.KeqHits A s kb ka true
 | [],_,_=>.nil
 | p::r,i,h=>by
  obtain ⟨y,h1,h2⟩:=h 0 p rfl
  exact .hit (e:=true) (b:=true) (Kk nd h1) h2 (Lk nd (i+1) fun j v e=>by
   obtain ⟨y,a,b⟩:=h (j+1) v (by simpa using e)
   exact ⟨y,by rw[show i+1+j=i+(j+1) by lia];exact a,b⟩)
@[simp] def Ei:Gm->SV->SV->Option D:=fun _ x y=>match x,y with
 | .v (.dic ks ds),.v (.dic ls es)=>if ks=ls/\ds.length=es.length/\(ds.zip es).all (fun p=>Ap 6 p.1 && Ap 6 p.2 && deq p.1 p.2)=true then some (.bl true) else none
 | _,_=>none
def IP (K:PySem.W.Frag):R2:=fun x y H Q=>∃ (W:Wd) (ks:List Key) (ds es:List D),W.K=K/\W.H=H/\Rep W (.dic ks ds) x/\Rep W (.dic ks es) y/\ds.length=es.length/\(ds.zip es).all (fun p=>Ap 6 p.1 && Ap 6 p.2 && deq p.1 p.2)=true/\Q (.bl true) H
theorem KV.get {κ:Type}:∀ {kvs:List (κ×V)} {vs:List (κ×Value)} {j:Nat} {q:κ×Value},KV kvs vs->vs[j]?=some q->∃ p,kvs[j]?=some p/\p.1=q.1/\RelV p.2 q.2
 | [],_,_,_,h,e=>by cases h;cases e
 | p::r,_,0,q,h,e=>by cases h with | cons a b=>cases e;exact ⟨p,rfl,a⟩
 | p::r,_,j+1,q,h,e=>by cases h with | cons a b=>exact KV.get (j:=j) b (by simpa using e)
section
variable {X:Cx} {f:Fr} {α:Nat->Addr} {s:DS} {σ:St} {H:Hp} {a b:Expr} {ma mb:ME} {pos:Pos}
theorem Qp (hu:X.A.units+64<cLine):OpR X (compareOp .Eq) (IP X.K):=by
 intro pins s σ H x y v u Q I rx ry h
 obtain ⟨W,ks,ds,es,hk,rfl,hd,he,hl,hall,k⟩:=h
 unfold Rep at hd he
 obtain ⟨p,vs,rfl,_,hp,l1,r1⟩:=hd
 obtain ⟨q,ws,rfl,_,hq,l2,r2⟩:=he
 cases rx
 cases ry
 obtain ⟨z1,s1,ka,rel1,da⟩:=I.hok p _ hp
 obtain ⟨z2,s2,kb,rel2,db⟩:=I.hok q _ hq
 have len1:=KV.length rel1
 have len2:=KV.length rel2
 rw[List.length_zip] at len1 len2
 have e1:=r1.len
 have e2:=r2.len
 have nd:(kb.map (·.1)).Nodup:=let ⟨_,_,_,_,_,_,_,_,hn⟩:=db;hn
 refine PySem.W.keq_eq (r:=true) s1 s2 da db (by lia) (fun _=>Lk nd 0 fun j v hj=>?_) ⟨.bl true,W.H,I,?_,k⟩
 ·obtain ⟨⟨k1,v1⟩,a1,a2,a3⟩:=KV.get rel1 hj
  have hjl:j<kb.length:=by
   have:=(List.getElem?_eq_some_iff.mp hj).1
   lia
  obtain ⟨⟨k2,v2⟩,b1,b2,b3⟩:=KV.get rel2 (List.getElem?_eq_getElem hjl)
  rw[List.getElem?_zip_eq_some] at a1 b1
  have ek:k1=k2:=by have:=a1.1.symm.trans b1.1;exact Option.some.inj this
  refine ⟨kb[j].2,?_,?_⟩
  ·rw[Nat.zero_add,List.getElem?_eq_getElem hjl]
   congr 1
   exact Prod.ext (by rw[<-b2,<-ek];exact a2) rfl
  ·obtain ⟨d,d1,d2⟩:=r1.get' a1.2
   obtain ⟨e,f1,f2⟩:=r2.get' b1.2
   obtain ⟨as,q1⟩:=Df I hk d2 a3
   obtain ⟨bs,q2⟩:=Df I hk f2 b3
   have hm:(d,e)∈ds.zip es:=List.mem_of_getElem? (i:=j) (by rw[List.getElem?_zip_eq_some];exact ⟨d1,f1⟩)
   have hs:=List.all_eq_true.mp hall _ hm
   rw[Bool.and_eq_true,Bool.and_eq_true] at hs
   obtain ⟨x1,x2⟩:=DD _ _ hs.1.1
   obtain ⟨y1,y2⟩:=DD _ _ hs.1.2
   have hu1:X.A.in1.units+63<cLine:=by
    show X.A.units+1+63<cLine
    lia
   have x2:(toP d).depth<=6:=x2
   have:=SeqAt.eqAt_reads _ _ X.A.in1 _ _ _ as bs q1 q2 x1 y1 (by lia)
   have ed:PyData.eqv (toP d) (toP e)=true:=hs.2
   rw[ed] at this
   exact this
 ·have:ka.length=kb.length:=by lia
  simp[this,RelV]
theorem Nw:OpD X Ei (IP X.K):=by
 intro f α s σ H x y u v z Q hf rs hu hv e q
 unfold Ei at e
 split at e
 ·rename_i ks ds ls es
  split at e
  ·rename_i c
   cases e
   obtain ⟨rfl,c2,c3⟩:=c
   exact ⟨wd f α s.Γ H,ks,ds,es,hf,rfl,hu,hv,c2,c3,q _ H rs .refl Br⟩
  ·cases e
 ·cases e
@[simp] def CY:Gm->SV->SV->Option D:=fun Γ x y=>match Ei Γ x y with
 | some z=>some z
 | none=>Bg Γ x y
theorem P3 {op:Value->Value->Sem Value} {r1 r2:R2} (h1:OpR X op r1) (h2:OpR X op r2):OpR X op (fun x y H Q=>r1 x y H Q\/r2 x y H Q):=fun pins s σ H x y v u Q I rx ry h=>h.elim (h1 pins s σ H x y v u Q I rx ry) (h2 pins s σ H x y v u Q I rx ry)
theorem Rg {r:R2} (hx:OpD X Bg r):OpD X CY (fun x y H Q=>IP X.K x y H Q\/r x y H Q):=by
 intro f α s σ H x y u v z Q hf rs hu hv e q
 unfold CY at e
 split at e
 ·rename_i z' h
  cases e
  exact .inl (Nw f α s σ H x y u v z Q hf rs hu hv h q)
 ·exact .inr (hx f α s σ H x y u v z Q hf rs hu hv e q)
end
end DL
namespace L2
open PySem PySem.Spec PyProof.Rows
theorem N5:typeLookup (.type "list") "keys"=pure none:=am_miss_of_fast (by kernel_rfl)
theorem NZ:(["__module__","__name__","__qualname__","__doc__","__annotations__"]:List Str).contains "keys"=false:=by decide +kernel
theorem Qy:("keys":Str).length+100<=sizeLine:=by rw[sizeLine_eq];decide +kernel
section
variable {prog:Program} {w:World} {A:Around} {E:Value->Shared->Prop} {s:Shared} {a:Addr}
theorem OG {o:Obj} {xs:Array Value} {k:Nat} {Q:Option Value->Shared->Prop} (hx:s.heap.get? a=some o) (hc:o.cls=.type "list") (hdat:o.data=.seq xs k) (hd:o.dict=none) (hA:A.handled=none)
  (h:∀ h' tk,(∀ b ob,s.heap.get? b=some ob->h'.get? b=some ob)->Q none {s with heap:=h',toks:=tk}):wpAny (model prog w) A (getAttr? (.ref a) "keys") Q E s:=by
 obtain ⟨c,dct,dat,sl⟩:=o
 simp only at hc hdat hd
 subst hc hdat hd
 obtain ⟨hp,g,d,tk,os⟩:=s
 have hT:∀ tk',(⟨hp,g,d,tk',os⟩:Shared).TypeIs (.ref a) "list":=fun _=>⟨_,hx,rfl⟩
 have f1:=sub_AttributeError
 have f3:=F.slot_list_getattribute.lookup
 have f4:=F.slot_list_getattribute.bind (.ref a)
 have f5:=am_list_getattr_none
 unfold getAttr? getAttrBy? getAttrBy
 repeat (any_goals (first | assumption | exact hT _ | ((with_reducible show wpAny _ _ (call (Value.builtin "list.__getattribute__") _ _) _ _ _);refine call_meets F.slot_list_getattribute (hT _) am_entry_list_getattribute (F.args_list_getattribute_2 _ _) (meets_getattribute_miss_list a xs k sl "keys" _ N5 NZ Qy) ⟨hx,hA,fun h' tk' e hx'=>?_⟩) | wp_step))
 obtain ⟨t',u',he⟩:=hx'.there
 show wpAny _ _ (getattributeRaised _ _ _ _ _ _ _) _ _ _
 unfold getattributeRaised
 repeat (any_goals (first | assumption | wp_step))
 exact h _ _ hx'.keeps
theorem LM:entryFor table "dict.update.loop"=some Builtin.«dict.update.loop»:=entryFor_of_tree (by kernel_rfl)
theorem Fd:plainId "dict.update.loop"=true:=by decide +kernel
variable {K:Type} [DecidableEq K] {knd:KeyKind prog w K}
def Kept (d it:Addr) (h h':Heap):Prop:=∀ b o,b≠d->b≠it->h.get? b=some o->h'.get? b=some o
theorem N4 {d it l:Addr} {items:Array Value} {more:List (K×Value)} {R:Result->Shared->Prop} (hh:A.in1.handled=none) (hdi:d≠it) (hdl:d≠l) (hil:it≠l) (hz:more.length<=1000) (hlen:items.size=more.length) :
  ∀ (n i:Nat) (s:Shared) (kvs:List (K×Value)) (tk:Tok),more.length - i=n->i<=more.length->s.heap.IsList l items->s.heap.IsListIter it l i->s.heap.DictOf knd d (merged [] (more.take i)) ->
  (∀ (j:Nat) (kv:K×Value),more[j]?=some kv->∃ t key,items[j]?=some (.ref t)/\IsTup s.heap t #[key,kv.2]/\knd.is kv.1 key=true/\t≠d/\t≠it) ->
  (∀ s':Shared,∀ h' tk',s'={s with heap:=h',toks:=tk'}->h'.DictOf knd d (merged [] more)->Kept d it s.heap h'->R (.ok (.ret .none)) s') ->
  codeAny (model prog w) A (.builtin "dict.update.loop" ⟨[.ref d,.ref it,.int i tk,.none],[]⟩) R s:=by
 intro n
 induction n with
 | zero=>
  intro i s kvs tk hn hi hl hit hd ht hR
  have e:i=more.length:=by lia
  subst e
  refine codeAny_builtin LM ?_
  rw[Around.under_plainId Fd _]
  show wpAny _ A.in1 (pyNext (.ref it) >>= _) _ _ s
  refine wpAny_bind (wpAny_pyNext_list_end hh hit hl (by rw[<-hlen];simp) fun h' hb=>?_)
  show wpAny _ _ (Builtin.Dict.addKeywords d [] >>= _) _ _ _
  rw[List.take_length] at hd
  exact wpAny_bind (wpAny_pure (wpAny_pure (hR _ h' s.toks rfl (hd.extBut hb hdi) fun b o h1 h2 e=>hb b o h2 e)))
 | succ n ih=>
  intro i s kvs tk hn hi hl hit hd ht hR
  have hlt:i<more.length:=by lia
  obtain ⟨t,key,h1,h2,h3,h4,h5⟩:=ht i _ (List.getElem?_eq_getElem hlt)
  refine codeAny_builtin LM ?_
  rw[Around.under_plainId Fd _]
  show wpAny _ A.in1 (pyNext (.ref it) >>= _) _ _ s
  refine wpAny_bind (wpAny_pyNext_list_item hit hl h1 fun h' hit' hs=>?_)
  have h2':IsTup h' t #[key,more[i].2]:=let ⟨o,ho,r⟩:=h2;⟨o,(hs.2 t h5).trans ho,r⟩
  have hd':h'.DictOf knd d (merged [] (more.take i)):=let ⟨o,es,ep,ho,r⟩:=hd;⟨o,es,ep,(hs.2 d hdi).trans ho,r⟩
  refine wpAny_bind (wpAny_holding ?_)
  refine wpAny_bind ?_
  obtain ⟨ob,ho,hc,nn,hdat⟩:=h2'
  have hT:({s with heap:=h'}:Shared).TypeIs (.ref t) "tuple":=⟨ob,ho,hc⟩
  refine wpAny_tryCatch ?_
  unfold Builtin.Dict.pairItems
  refine wpAny_bind (wpAny_typeOf hT ?_)
  rw[if_pos (by decide)]
  refine wpAny_bind (wpAny_seqItems ho hdat (wpAny_pure ?_))
  show wpAny _ A.in1 (holding [key,more[i].2] (dictSet d key more[i].2)) _ _ _
  refine wpAny_holding (wpAny_dictSet_pairs (hsz:=?hs) h3 hd' fun h2 hd2 hs2=>?_)
  case hs=>
   have:∀ (m kvs:List (K×Value)),(merged kvs m).length<=kvs.length+m.length:=by
    intro m
    induction m with
    | nil=>intro kvs;exact Nat.le_refl _
    | cons x m ih=>
     intro kvs
     have h1:=ih (stored kvs x.1 x.2)
     have h2:(stored kvs x.1 x.2).length<=kvs.length+1:=by unfold stored;split<;>simp
     show (merged (stored kvs x.1 x.2) m).length<=_
     rw[List.length_cons]
     lia
   have h1:=this (more.take i) []
   have h2:(more.take i).length<=more.length:=List.length_take_le' _ _
   rw[sizeLine_eq]
   simp only[List.length_nil] at h1
   lia
  rw[<-merged_take_succ [] more i more[i] (List.getElem?_eq_getElem hlt)] at hd2
  have up:Kept d it s.heap h2:=fun b o n1 n2 e=>(hs2.2 b n1).trans ((hs.2 b n2).trans e)
  refine wpAny_pure ⟨plainId_quiet Fd _,(show (rawInt ((i:Int)+1))=.int ((i+1:Nat):Int) 0 from rfl)▸ih (i+1) _ kvs 0 (by lia) hlt (let ⟨o,ho,r⟩:=hl;⟨o,up l o (Ne.symm hdl) (Ne.symm hil) ho,r⟩) (let ⟨o,ho,r⟩:=hit';⟨o,(hs2.2 it (Ne.symm hdi)).trans ho,r⟩) hd2 (fun j kv e=>?_) fun s' h3 tk' e hd3 k3=>?_⟩
  ·obtain ⟨t,key,h1,h2,h3,h4,h5⟩:=ht j kv e
   exact ⟨t,key,h1,let ⟨o,ho,r⟩:=h2;⟨o,up t o h4 h5 ho,r⟩,h3,h4,h5⟩
  ·subst e
   exact hR _ h3 tk' rfl hd3 fun b o n1 n2 e=>k3 b o n1 n2 (up b o n1 n2 e)
theorem Og {l:Addr} {items:Array Value} {o:Obj} {nn:Nat} {more:List (K×Value)} {Q:Value->Shared->Prop} (hh:A.handled=none) (ho:s.heap.get? l=some o) (hc:o.cls=.type "list") (hdat:o.data=.seq items nn) (hd:o.dict=none) (hz:more.length<=1000) (hlen:items.size=more.length)
  (ht:∀ (j:Nat) (kv:K×Value),more[j]?=some kv->∃ t key,items[j]?=some (.ref t)/\IsTup s.heap t #[key,kv.2]/\knd.is kv.1 key=true)
  (h:∀ h' tk',h'.DictOf knd s.heap.objs.size (merged [] more)->(∀ b ob,s.heap.get? b=some ob->h'.get? b=some ob)->Q (.ref s.heap.objs.size) {s with heap:=h',toks:=tk'}) :
  wpAny (model prog w) A (call (.type "dict") [.ref l]) Q E s:=by
 refine callType_codes (Q₁:=fun obj s₁=>obj=.ref s.heap.objs.size/\s₁={s with heap:=s.heap.push {cls:=.type "dict",data:=.dict #[]}}) F.kt_called_dict (F.kt_typeCall_dict_1 _) F.entry_dict_init (kt_code_dict_new _ ⟨rfl,rfl⟩) ?_
 rintro obj s₁ ⟨rfl,rfl⟩
 have hnew:(s.heap.push {cls:=.type "dict",data:=.dict #[]}).DictOf knd s.heap.objs.size []:=Heap.DictOf.new s.heap
 have ll:=Heap.lt_size ho
 have ho':(s.heap.push {cls:=.type "dict",data:=.dict #[]}).get? l=some o:=Heap.get?_push_of_some _ ho
 refine ⟨hnew.typeIs,F.args_dict_init_2 _ _,?_⟩
 unfold Builtin.«dict.__init__»
 refine wpAny_bind ?_
 unfold Builtin.Dict.selfAndRest
 refine wpAny_bind (wpAny_notOrdered_dict hnew.typeIs ?_)
 show wpAny _ _ (pure (s.heap.objs.size,[Value.ref l])) _ _ _
 refine wpAny_pure ?_
 show wpAny _ _ (Builtin.Dict.updateFrom "dict.__init__" s.heap.objs.size (.ref l) [] .none) _ _ _
 unfold Builtin.Dict.updateFrom
 have hT:({s with heap:=s.heap.push {cls:=.type "dict",data:=.dict #[]}}:Shared).TypeIs (.ref l) "list":=⟨o,ho',hc⟩
 refine wpAny_bind (wpAny_typeOf hT ?_)
 rw[if_pos (by decide)]
 refine wpAny_bind (OG ho' hc hdat hd hh fun h1 tk1 k1=>?_)
 simp only[Option.isNone_none,if_true]
 refine wpAny_bind (wpAny_rule ?_)
 have hl1:h1.IsList l items:=⟨o,k1 _ _ ho',hc,nn,hdat⟩
 refine wpAny_bind (wpAny_pyIter_list (s:={s with heap:=h1,toks:=tk1}) hl1 ?_)
 have up:∀ b ob,s.heap.get? b=some ob->(h1.push {cls:=.type "list_iterator",data:=.fields #[.ref l,.int 0 0]}).get? b=some ob:=fun b ob e=>Heap.get?_push_of_some _ (k1 _ _ (Heap.get?_push_of_some _ e))
 have hd1:h1.DictOf knd s.heap.objs.size []:=let ⟨q,es,ep,hq,r⟩:=hnew;⟨q,es,ep,k1 _ _ hq,r⟩
 have hsz:s.heap.objs.size<h1.objs.size:=let ⟨q,es,ep,hq,r⟩:=hd1;Heap.lt_size hq
 refine wpAny_pure ⟨plainId_quiet Fd _,?_⟩
 refine N4 (A:=A.in1) (l:=l) (items:=items) (more:=more) (knd:=knd) (d:=s.heap.objs.size) (it:=h1.objs.size) hh (Nat.ne_of_lt hsz) (Nat.ne_of_gt ll) (Nat.ne_of_gt (Nat.lt_trans ll hsz)) hz hlen more.length 0 {s with heap:=h1.push {cls:=.type "list_iterator",data:=.fields #[.ref l,.int 0 0]},toks:=tk1} [] 0 rfl (Nat.zero_le _) ⟨o,up _ _ ho,hc,nn,hdat⟩ ⟨_,Heap.get?_push_size _ rfl,rfl,rfl⟩ (by rw[List.take_zero];exact hd1.push _) (fun j kv e=>?_) fun s' h' tk' e hd' kp=>?_
 ·obtain ⟨t,key,a1,⟨q,hq,r⟩,a3⟩:=ht j kv e
  exact ⟨t,key,a1,⟨q,up _ _ hq,r⟩,a3,Nat.ne_of_lt (Heap.lt_size hq),Nat.ne_of_lt (Nat.lt_trans (Heap.lt_size hq) hsz)⟩
 ·subst e
  exact ⟨rfl,h h' tk' hd' fun b ob e=>kp b ob (Nat.ne_of_lt (Heap.lt_size e)) (Nat.ne_of_lt (Nat.lt_trans (Heap.lt_size e) hsz)) (up b ob e)⟩
end
theorem Ld {P:Program} {w:World} {H:Hp} {h:Heap} (ok:HOk P w H h):∀ {zs:List (Addr×Key×V)},(∀ z∈zs,H z.1=some (.tup [kV z.2.1,z.2.2]))->∃ more:List (Key×Value),KV (zs.map (·.2)) more/\∀ (j:Nat) (kv:Key×Value),more[j]?=some kv->∃ t key,(zs.map (·.1))[j]?=some t/\IsTup h t #[key,kv.2]/\(Bq P w).is kv.1 key=true
 | [],_=>⟨[],.nil,fun j kv e=>by cases e⟩
 | z::zs,hz=>by
  obtain ⟨more,h1,h2⟩:=Ld ok (zs:=zs) fun x hx=>hz x (List.mem_cons_of_mem _ hx)
  obtain ⟨_,its,rv,it⟩:=ok _ _ (hz z List.mem_cons_self)
  obtain ⟨u1,u2,rfl,r1,r2⟩:=vals2 rv
  refine ⟨(z.2.1,u2)::more,.cons ⟨rfl,r2⟩ h1,fun j kv e=>?_⟩
  match j,e with
  | 0,e=>cases e;exact ⟨z.1,u1,rfl,it,JD r1⟩
  | j+1,e=>exact h2 j kv e
theorem PX {X:Cx} (hc:X.calm=true):BN X (.type "dict") (fun xs H Q=>∃ (a:Addr) (zs:List (Addr×Key×V)),xs=[V.ref a]/\H a=some (.lst (zs.map fun z=>V.ref z.1))/\zs.length<=1000/\(∀ z∈zs,H z.1=some (.tup [kV z.2.1,z.2.2])) /\
  ∀ p,H p=none->Q (.ref p) (upd H p (.dK (B8 [] (zs.map (·.2)))))):=by
 intro pins s σ H xs us Q I r h
 obtain ⟨a,zs,rfl,ha,hz,ht,q⟩:=h
 obtain ⟨u,rfl,ru⟩:=vals1 r
 cases ru
 obtain ⟨hl,its,n,rv,e⟩:=I.hok a _ ha
 obtain ⟨more,h1,h2⟩:=Ld I.hok ht
 have hi:its=(zs.map (·.1)).map Value.ref:=by
  clear h2 h1 ht q e ha hl hz
  induction zs generalizing its with
  | nil=>cases rv;rfl
  | cons z zs ih=>
   cases rv with
   | cons a b=>
    cases a
    rw[ih _ b]
    rfl
 have hlen:more.length=zs.length:=by have:=KV.length h1;rw[List.length_map] at this;exact this.symm
 refine Og (knd:=Bq X.prog X.w) (more:=more) (I.ok.hd hc) e rfl rfl rfl (by lia) (by rw[hi];simp;exact hlen.symm) (fun j kv ej=>?_) fun h' tk' dd kp=>?_
 ·obtain ⟨t,key,a1,a2,a3⟩:=h2 j kv ej
  refine ⟨t,key,?_,a2,a3⟩
  rw[hi,List.getElem?_toArray,List.getElem?_map,a1]
  rfl
 ·have lk:=II (zs.map (·.2)) []
  rw[List.length_nil,List.length_map] at lk
  exact ⟨.ref s.heap.objs.size,_,I.laid (a:=s.heap.objs.size) (o:=.dK (B8 [] (zs.map (·.2)))) kp (Nat.le_refl _) (Kb (by rw[sizeLine_eq];lia) (beq_eq_false_iff_ne.mpr (Ne.symm (Nat.ne_of_lt I.big))) (h1.merge .nil) dd),rfl,q _ (I.hok.fresh (Nat.le_refl _))⟩
end L2
namespace SL
open PySem PySem.Spec PyProof.Rows L2 EvS
section
variable {prog:Program} {w:World} {A:Around} {E:Value->Shared->Prop} {s:Shared} {a:Addr}
end
section
variable {X:Cx}
end
end SL
namespace SL
open PySem PySem.Spec PyProof.Rows L2 EvS Ev
section
variable {X:Cx}
variable {e:Expr} {es:List Expr} {ms:DL.MA} {p p2 pos pos2:Pos}
end
end SL
namespace SL
open PySem PySem.Spec PyProof.Rows L2
section
variable {prog:Program} {w:World} {A:Around} {E:Value->Shared->Prop} {s:Shared}
end
section
variable {X:Cx} {tg:Expr}
end
section
variable {X:Cx} {o e:Expr} {apos cpos:Pos} {td ty:TE}
end
end SL
namespace DL
open PySem L2
section
variable {X:Cx} {o e:Expr} {apos cpos:Pos} {ma mb:ME}
end
section
variable {X:Cx} {e:Expr} {es:List Expr} {ms:MA} {p pos:Pos}
@[simp] def Ew:Gm->List SV->Option D:=fun _ xs=>match xs with
 | [.v (.int i)]=>if i.natAbs.log2<1920 then some (.str (toString i)) else none
 | _=>none
theorem Qh:CaD X Ew (fun xs H Q=>∃ i,xs=[.int i]/\i.natAbs.log2<1920/\Q (.str (toString i)) H):=by
 intro f α s σ H xs us z Q hf rs hu e q
 unfold Ew at e
 split at e
 case h_2=>cases e
 rename_i i
 split at e
 case isFalse=>cases e
 rename_i hz
 cases e
 obtain ⟨v,r,rfl,h1,h2⟩:=hu.cons_inv
 rw[h2.nil_inv,A4 h1]
 exact ⟨i,rfl,hz,q _ H rs .refl (by unfold Rep;rfl)⟩
theorem R5 (T:Ev.Nm X.mg) (ha:DA X (e::es) ms) (hg:Gl X "str":=by rfl) (he:starEach (e::es) X.env=(false,eval e X.env)::starEach es X.env:=by rfl) (hpl:(backTo pos (starEach es X.env)).any (·.1)=false:=by rfl):DE X (.Call (.Name "str" p) (e::es) [] pos) (AR Ew ms):=
 IC Qq Qh hg T.str PyProof.Rows.boot_str ha (by decide) (by decide) he hpl
end
end DL
namespace TXM
open PySem PySem.Builtin PySem.Builtin.Str PySem.StrLaws
abbrev cd (x:Str):List Nat:=x.cps.toList
theorem HU (x:Str):(cd x).length=x.length:=by simp[cd,Str.length]
end TXM
namespace SL
open PySem PySem.Spec PyProof.Rows L2
section
variable {X:Cx} {o e:Expr} {td ty:TE} {apos cpos:Pos}
end
end SL
namespace DL
open PySem L2
section
variable {X:Cx} {o e:Expr} {ma mb:ME} {apos cpos:Pos}
end
section
variable {X:Cx} {a b:Expr} {ma mb:ME} {pos:Pos}
@[simp] def Dq:Gm->SV->SV->Option D:=fun _ x y=>match x,y with
 | .v (.str i),.v (.str j)=>some (.bl (Builtin.Str.occurrences j i 0 j.length 1).isEmpty)
 | _,_=>none
theorem Rk:OpD X Dq (fun x y H Q=>∃ i j,x=.str i/\y=.str j/\Q (.bl (!(!(Builtin.Str.occurrences j i 0 j.length 1).isEmpty))) H):=by
 intro f α s σ H x y u v z Q hf rs hu hv e q
 unfold Dq at e
 split at e
 case h_2=>cases e
 rename_i i j
 cases e
 refine ⟨i,j,Bx hu,Bx hv,q _ H rs .refl ?_⟩
 rw[Bool.not_not]
 unfold Rep
 rfl
theorem PU (ha:DE X a ma) (hb:DE X b mb) (hm:behindInMarks .NotIn b=false:=by rfl):DT X (.Compare a [.NotIn] [b] pos) (AV (mOp Dq ma mb)):=Da RG Rk ha hb hm
end
section
variable {X:Cx} {e:Expr} {es:List Expr} {ms:MA} {p pos:Pos}
@[simp] def CC:ME:=fun s=>some (.v (.dic [] []),s)
theorem GQ:DE X (.Dict [] [] pos) CC:=.mk fun f hf=>PE.imp RV fun σ H Q hh_=>by
 obtain ⟨α,s,r,rs,lo,e,q⟩:=hh_
 cases e
 intro p hp
 refine q α _ _ (rs.new hp) rfl (.new rs hp) ?_
 show Rep _ _ _
 unfold Rep
 exact ⟨p,[],rfl,rs.fresh hp,An,rfl,.nil⟩
end
section
variable {X:Cx} {f:Fr} {α:Nat->Addr} {s:DS} {σ:St} {H:Hp} {a b e:Expr} {ma mb:ME} {pos p:Pos} {es:List Expr} {ms:MA}
theorem GM (hu:X.A.units+64<cLine) (ha:DE X a ma) (hb:DE X b mb):DE X (.Compare a [.Eq] [b] pos) (mOp CY ma mb):=Im (P3 (Qp hu) (HE hu)) (Rg Hf) ha hb (C8 _)
theorem RU:OpR X (binaryOp .FloorDiv) (rI (fun _ j=>0<j/\j<2 ^ 128) fun i j=>.int (i / j)):=opI fun i j _ _ _ _ _ hc q=>by
 have h1:(0:Int)<j:=hc.1
 refine PyProof.Rows.floordiv_int (by lia) (by rw[Int.fdiv_eq_ediv_of_nonneg i (by lia)];exact q) (.inl (PyProof.noPylong_of_log2 ?_))
 have h2:j.natAbs<2 ^ 128:=by have:=hc.2;lia
 have h3:j.natAbs.log2<128:=(Nat.log2_lt (by lia)).mpr h2
 lia
def FS (i j:Int):Bool:=decide (0<j/\j<2 ^ 128)
abbrev IA:=gI FS fun i j=>i / j
theorem L6 (ha:DE X a ma) (hb:DE X b mb):DE X (.BinOp a .FloorDiv b pos) (mOp IA ma mb):=Dm RU (FJ fun i j h=>of_decide_eq_true h) ha hb
theorem bits_le {k:Int} (h:k.natAbs<2 ^ 200):Builtin.Int.intBits k<=200:=by
 unfold Builtin.Int.intBits
 split
 ·exact Nat.zero_le _
 ·have:k.natAbs.log2<200:=by
   rcases Nat.eq_zero_or_pos k.natAbs with h0 | hp
   ·rw[h0];decide
   ·exact (Nat.log2_lt (Nat.ne_of_gt hp)).mpr h
  lia
theorem Q2 {i j:Int} (h:i.natAbs<2 ^ 200) (g:j.natAbs<2 ^ 200):IntMulOk i j:=by
 have a:=bits_le h
 have b:=bits_le g
 unfold IntMulOk
 rw[show Builtin.Int.intTooBig (Builtin.Int.intBits i+Builtin.Int.intBits j)=false from decide_eq_false (Int.not_lt.mpr (Int.le_trans (show ((Builtin.Int.intBits i+Builtin.Int.intBits j:Nat):Int)<=400 by lia) (by decide +kernel)))]
 simp
def Eu (i j:Int):Bool:=decide (i.natAbs<2 ^ 200/\j.natAbs<2 ^ 200)
abbrev Cp:=gI Eu fun i j=>i * j
theorem K9 (ha:DE X a ma) (hb:DE X b mb):DE X (.BinOp a .Mult b pos) (mOp Cp ma mb):=Dm (r:=rI (fun i j=>i.natAbs<2 ^ 200/\j.natAbs<2 ^ 200) fun i j=>.int (i * j)) (opI fun i j _ _ _ _ _ hc q=>PyProof.Rows.mul_int q (Q2 hc.1 hc.2)) (FJ fun i j h=>of_decide_eq_true h) ha hb
theorem OW:OpR X (compareOp .IsNot) (fun x y H Q=>∃ i j,x=.bl i/\y=.bl j/\Q (.bl (!(i == j))) H):=by
 intro pins s σ H x y v u Q I rx ry h
 obtain ⟨i,j,rfl,rfl,q⟩:=h
 cases rx
 cases ry
 exact wpAny_isNot_plain rfl (Av I q (by cases i<;>cases j<;>rfl))
@[simp] def C2:Gm->SV->SV->Option D:=fun _ x y=>match x,y with
 | .v (.bl i),.v (.bl j)=>some (.bl (!(i == j)))
 | _,_=>none
theorem QA:OpD X C2 (fun x y H Q=>∃ i j,x=.bl i/\y=.bl j/\Q (.bl (!(i == j))) H):=by
 intro f α s σ H x y u v z Q hf rs hu hv e q
 unfold C2 at e
 split at e
 ·cases e
  exact ⟨_,_,Di hu,Di hv,q _ H rs .refl Br⟩
 ·cases e
theorem Fc (ha:DE X a ma) (hb:DE X b mb) (hm:behindInMarks .IsNot b=false:=by rfl):DT X (.Compare a [.IsNot] [b] pos) (AV (mOp C2 ma mb)):=Da OW QA ha hb hm
theorem Od:OpR X (compareOp .Is) (fun x y H Q=>∃ i j,x=.bl i/\y=.bl j/\Q (.bl (i == j)) H):=by
 intro pins s σ H x y v u Q I rx ry h
 obtain ⟨i,j,rfl,rfl,q⟩:=h
 cases rx
 cases ry
 exact wpAny_is_plain rfl (Av I q (by cases i<;>cases j<;>rfl))
@[simp] def EW:Gm->SV->SV->Option D:=fun _ x y=>match x,y with
 | .v (.bl i),.v (.bl j)=>some (.bl (i == j))
 | _,_=>none
theorem OS:OpD X EW (fun x y H Q=>∃ i j,x=.bl i/\y=.bl j/\Q (.bl (i == j)) H):=by
 intro f α s σ H x y u v z Q hf rs hu hv e q
 unfold EW at e
 split at e
 ·cases e
  exact ⟨_,_,Di hu,Di hv,q _ H rs .refl Br⟩
 ·cases e
theorem Nn (ha:DE X a ma) (hb:DE X b mb) (hm:behindInMarks .Is b=false:=by rfl):DE X (.Compare a [.Is] [b] pos) (mOp EW ma mb):=Im Od OS ha hb hm
theorem IQ {rs:RS f α s σ H} {p:Addr} {ks:List Key} {ds:List D} {vs:List V} (h:H p=none) (hl:ks.length=vs.length) (hx:Reps (wd f α s.Γ H) ds vs):Rep (wd f α s.Γ (upd H p (.dK (ks.zip vs)))) (.dic ks ds) (.ref p):=by
 unfold Rep
 exact ⟨p,vs,rfl,rs.fresh h,An,hl,hx.kw (Ext.new rs h).kw⟩
@[simp] def FY (i j:Nat):ME:=fun s=>match s.σ[i]?,s.σ[j]? with
 | some (some (.v (.int k))),some (some (.v d))=>some (.v (.dic [.inl k] [d]),s)
 | _,_=>none
theorem Rx {i j:Nat} (hk:PE X a (Bj i)) (hv:PE X b (Bj j)):DE X (.Dict [some a] [b] pos) (FY i j):=.mk fun f hf=>
 PE.imp (JZ (L5 hk hv Jr) rfl rfl (by simp) (by simp)) fun σ H Q hh_=>by
  obtain ⟨α,s,r,rs,lo,e,q⟩:=hh_
  unfold FY at e
  split at e
  ·rename_i k d h1 h2
   cases e
   obtain ⟨v1,e1,r1⟩:=rs.slot i _ h1
   obtain ⟨v2,e2,r2⟩:=rs.slot j _ h2
   rw[A4 r1] at e1
   intro p hp
   refine ⟨_,e1,_,e2,An,[(.inl k,v2)],rfl,by simp,?_⟩
   have r2:Rep (wd f α s.Γ H) d v2:=r2
   have e3:upd (upd H p (.dK [])) p (.dK (B8 [] [(.inl k,v2)]))=upd H p (.dK (([.inl k]:List Key).zip [v2])):=by
    funext b
    by_cases z:b=p
    ·rw[z,An,An];rfl
    ·rw[AO z,AO z,AO z]
   rw[e3]
   exact q α _ _ (rs.new hp) rfl (.new rs hp) (IQ (rs:=rs) hp rfl (.cons r2 .nil))
  ·cases e
@[simp] def FA (k:Int) (j:Nat):ME:=fun s=>match s.σ[j]? with
 | some (some (.v d))=>some (.v (.dic [.inl k] [d]),s)
 | _=>none
theorem Px {k:Int} {j:Nat} {t} {p1:Pos} (hv:PE X b (Bj j)):DE X (.Dict [some (.Constant (.int k) t p1)] [b] pos) (FA k j):=.mk fun f hf=>
 PE.imp (JZ (L5 Gy hv Jr) rfl rfl (by simp) (by simp)) fun σ H Q hh_=>by
  obtain ⟨α,s,r,rs,lo,e,q⟩:=hh_
  unfold FA at e
  split at e
  ·rename_i d h2
   cases e
   obtain ⟨v2,e2,r2⟩:=rs.slot j _ h2
   intro p hp
   refine ⟨_,e2,An,[(.inl k,v2)],rfl,by simp,?_⟩
   have r2:Rep (wd f α s.Γ H) d v2:=r2
   have e3:upd (upd H p (.dK [])) p (.dK (B8 [] [(.inl k,v2)]))=upd H p (.dK (([.inl k]:List Key).zip [v2])):=by
    funext b
    by_cases z:b=p
    ·rw[z,An,An];rfl
    ·rw[AO z,AO z,AO z]
   rw[e3]
   exact q α _ _ (rs.new hp) rfl (.new rs hp) (IQ (rs:=rs) hp rfl (.cons r2 .nil))
  ·cases e
def putD (l:List (Key×D)) (k:Key) (d:D):List (Key×D):=if (l.any fun p=>decide (p.1=k))=true then l.map (fun p=>if p.1=k then (p.1,d) else p) else l++[(k,d)]
def Ef (l:List (Key×D)):List (Key×D):=l.foldl (fun acc p=>putD acc p.1 p.2) []
@[simp] def Dh:List D->Option (List (Key×D))
 | []=>some []
 | .tup [.int k,d]::r=>(Dh r).map fun l=>(.inl k,d)::l
 | _=>none
abbrev PR (W:Wd):List (Key×D)->List (Key×V)->Prop:=Paired fun p q=>p.1=q.1/\Rep W p.2 q.2
theorem PR.any {W:Wd} {k:Key}:∀ {l:List (Key×D)} {m:List (Key×V)},PR W l m->(l.any fun p=>decide (p.1=k))=m.any fun p=>decide (p.1=k)
 | [],_,h=>by cases h;rfl
 | p::l,_,h=>by cases h with | cons a b=>rw[List.any_cons,List.any_cons,PR.any b,a.1]
theorem PR.map {W:Wd} {k:Key} {d:D} {v:V} (r:Rep W d v):∀ {l:List (Key×D)} {m:List (Key×V)},PR W l m->PR W (l.map fun p=>if p.1=k then (p.1,d) else p) (m.map fun p=>if p.1=k then (p.1,v) else p)
 | [],_,h=>by cases h;exact .nil
 | p::l,_,h=>by
  cases h with
  | cons a b=>
   refine .cons ?_ (PR.map r b)
   dsimp only
   rw[<-a.1]
   split
   ·exact ⟨rfl,r⟩
   ·exact a
theorem PR.snoc {W:Wd} {k:Key} {d:D} {v:V} (r:Rep W d v):∀ {l:List (Key×D)} {m:List (Key×V)},PR W l m->PR W (l++[(k,d)]) (m++[(k,v)])
 | [],_,h=>by cases h;exact .cons ⟨rfl,r⟩ .nil
 | p::l,_,h=>by cases h with | cons a b=>exact .cons a (PR.snoc r b)
theorem PR.put {W:Wd} {k:Key} {d:D} {v:V} (r:Rep W d v) {l:List (Key×D)} {m:List (Key×V)} (h:PR W l m):PR W (putD l k d) (putK m k v):=by
 unfold putD putK
 rw[PR.any h]
 split
 ·exact PR.map r h
 ·exact PR.snoc r h
theorem PR.mrg {W:Wd}:∀ {l:List (Key×D)} {m:List (Key×V)} {a:List (Key×D)} {b:List (Key×V)},PR W l m->PR W a b->PR W (l.foldl (fun acc p=>putD acc p.1 p.2) a) (B8 b m)
 | [],_,_,_,h,g=>by cases h;exact g
 | p::l,_,a,b,h,g=>by
  cases h with
  | @cons _ q _ _ x y=>
   show PR W (l.foldl _ (putD a p.1 p.2)) (B8 (putK b q.1 q.2) _)
   rw[<-x.1]
   exact PR.mrg y (PR.put x.2 g)
theorem PR.split {W:Wd}:∀ {l:List (Key×D)} {m:List (Key×V)},PR W l m->m=(l.map (·.1)).zip (m.map (·.2))/\Reps W (l.map (·.2)) (m.map (·.2))/\l.length=m.length
 | [],_,h=>by cases h;exact ⟨rfl,.nil,rfl⟩
 | p::l,_,h=>by
  cases h with
  | @cons _ q _ _ x y=>
   obtain ⟨a,b,c⟩:=PR.split y
   refine ⟨?_,.cons x.2 b,by simp[c]⟩
   rw[List.map_cons,List.map_cons,List.zip_cons_cons,<-a,x.1]
theorem J8 {W:Wd}:∀ {xs:List D} {ps:List (Key×D)} {vs:List V},Dh xs=some ps->Reps W xs vs->∃ zs:List (Addr×Key×V),vs=zs.map (fun z=>V.ref z.1)/\zs.length=xs.length/\(∀ z∈zs,W.H z.1=some (.tup [kV z.2.1,z.2.2]))/\PR W ps (zs.map (·.2))
 | [],ps,vs,e,h=>by cases e;rw[h.nil_inv];exact ⟨[],rfl,rfl,fun z hz=>(nomatch hz),.nil⟩
 | x::xs,ps,vs,e,h=>by
  obtain ⟨v,r,rfl,h1,h2⟩:=h.cons_inv
  unfold Dh at e
  split at e
  case h_1 z=>cases z
  case h_3=>cases e
  rename_i k d r' z
  cases z
  obtain ⟨l,e1,rfl⟩:=Af e
  obtain ⟨zs,rfl,q1,q2,q3⟩:=J8 e1 h2
  unfold Rep at h1
  obtain ⟨a,us,rfl,_,ha,hu⟩:=h1
  obtain ⟨u1,r1,rfl,k1,hu⟩:=hu.cons_inv
  obtain ⟨u2,r2,rfl,k2,hu⟩:=hu.cons_inv
  rw[hu.nil_inv] at ha
  unfold Rep at k1
  subst k1
  refine ⟨(a,.inl k,u2)::zs,rfl,by simp[q1],fun z hz=>?_,.cons ⟨rfl,k2⟩ q3⟩
  rcases List.mem_cons.mp hz with rfl | hz
  ·exact ha
  ·exact q2 z hz
@[simp] def C9:Gm->List SV->Option D:=fun Γ xs=>match xs with
 | [x]=>(elems Γ x).bind fun xs=>if xs.length<=1000 then (Dh xs).map fun ps=>.dic ((Ef ps).map (·.1)) ((Ef ps).map (·.2)) else none
 | _=>none
theorem QY:CaD X C9 (fun xs H Q=>∃ (a:Addr) (zs:List (Addr×Key×V)),xs=[V.ref a]/\H a=some (.lst (zs.map fun z=>V.ref z.1))/\zs.length<=1000/\(∀ z∈zs,H z.1=some (.tup [kV z.2.1,z.2.2])) /\
  ∀ p,H p=none->Q (.ref p) (upd H p (.dK (B8 [] (zs.map (·.2)))))):=by
 intro f α s σ H xs us z Q hf rs hu e q
 unfold C9 at e
 split at e
 case h_2=>cases e
 obtain ⟨xs,h0,e⟩:=bind_some e
 split at e
 case isFalse=>cases e
 rename_i hl
 obtain ⟨ps,h1,rfl⟩:=Af e
 obtain ⟨v,r,rfl,h2,h3⟩:=hu.cons_inv
 rw[h3.nil_inv]
 obtain ⟨a,vs,rfl,h4,h5⟩:=BQ rs h0 h2
 obtain ⟨zs,rfl,q1,q2,q3⟩:=J8 h1 h5
 refine ⟨a,zs,rfl,h4,by lia,q2,fun p hp=>?_⟩
 have m:=PR.mrg (a:=[]) (b:=[]) q3 .nil
 obtain ⟨m1,m2,m3⟩:=PR.split m
 rw[m1]
 exact q _ _ (rs.new hp) (.new rs hp) (IQ (rs:=rs) hp (by simp[<-m3]) m2)
theorem Ma (T:Ev.Nm X.mg) (hd:X.mg "dict"=none) (hc:X.calm=true) (ha:DA X (e::es) ms) (hg:Gl X "dict":=by rfl) (he:starEach (e::es) X.env=(false,eval e X.env)::starEach es X.env:=by rfl) (hpl:(backTo pos (starEach es X.env)).any (·.1)=false:=by rfl):DE X (.Call (.Name "dict" p) (e::es) [] pos) (AR C9 ms):=
 IC (PX hc) QY hg hd PyProof.Rows.boot_dict ha (by decide) (by decide) he hpl
end
@[simp] def Dc:List D->Option (List (List D))
 | []=>some []
 | .lst xs::r=>(Dc r).map (xs::·)
 | _=>none
theorem JP:∀ {ds:List D} {ls:List (List D)} {i:Nat},Dc ds=some ls->(h:i<ds.length)->∃ xs,ds[i]?=some (.lst xs)/\ls[i]?=some xs
 | [],_,_,_,h=>by cases h
 | d::ds,ls,i,e,h=>by
  unfold Dc at e
  split at e
  case h_1 z=>cases z
  case h_3=>cases e
  rename_i xs r z
  cases z
  obtain ⟨l,e1,rfl⟩:=Af e
  match i with
  | 0=>exact ⟨xs,rfl,rfl⟩
  | i+1=>
   obtain ⟨ys,a,b⟩:=JP (i:=i) e1 (by simpa using h)
   exact ⟨ys,by simpa using a,by simpa using b⟩
theorem LL:∀ {ds:List D} {ls:List (List D)},Dc ds=some ls->ls.length=ds.length
 | [],_,e=>by cases e;rfl
 | d::ds,ls,e=>by
  unfold Dc at e
  split at e
  case h_1 z=>cases z
  case h_3=>cases e
  rename_i xs r z
  cases z
  obtain ⟨l,e1,rfl⟩:=Af e
  rw[List.length_cons,List.length_cons,LL e1]
@[simp] def Ey (i iy:Nat):MS:=fun s=>match s.σ[i]? with
 | some (some (.v (.lst ds)))=>if ds.length<=1000 then (Dc ds).map fun ls=>.nx {s with σ:=s.σ.set iy (some (.l (List.range' s.Γ.length ls.length))),Γ:=s.Γ++ls.map some} else none
 | _=>none
section
variable {X:Cx} {f:Fr} {α α':Nat->Addr} {s:DS} {σ:St} {H:Hp} {a b e:Expr} {ma mb:ME} {pos p:Pos} {es:List Expr} {ms:MA}
def Gx (K:PySem.W.Frag):TE:=fun σ H Q=>∃ a ys,σ[0]?=some (some (.ref a))/\SqL K H a ys/\∀ l,H l=none->Q (.ref l) (upd H l (.lst ys))
theorem O4 {i iy:Nat} {y:Str} {py sp:Pos} {elt tg src:Expr} {sc esc:Scope} {cp:Pos} {N fn:List Str} {t1:Str} {ix:List Nat} (hnd:X.N.Nodup) (hiy:X.N[iy]?=some y) (hy:X.env.scope.names.lookup y=some .local) (hc:X.calm=true) (hsc:X.env.scope=esc) (hN:X.N=N) (ok:CompOk sc esc N fn ix) (hi:PE X src (Bj i))
  (hg:∀ s2 H2 cl C fp,PG (Be X ([t1]++fn) sc s2 H2 cl C fp) tg (Cd 0))
  (he:∀ s2 H2 cl C fp,PE (Be X ([t1]++fn) sc s2 H2 cl C fp) elt (Gx X.K))
  (hsw:swapsWith (.ListComp elt [⟨tg,src,[],0⟩] sc cp) (some (.Name y py)) sp.line X.env=pure true:=by rfl)
  (hs:∀ x,foldedSetIterable src X.env x=pure x:=by intro _;rfl):DSt X (.Assign [.Name y py] (.ListComp elt [⟨tg,src,[],0⟩] sc cp) sp) (Ey i iy):=.mk fun f hf=>
 PS.imp (IM (g:=Cd 0) (tc:=Gu) (te:=Gx X.K) hnd hiy hy hc hsc hN ok (Hr hi) hg (fun _ _ _ _ _=>Lr) he hsw hs) fun E σ H hh_=>by
  obtain ⟨α,s,o,rs,lo,e0,q⟩:=hh_
  unfold Ey at e0
  split at e0
  case h_2=>cases e0
  rename_i ds hd
  split at e0
  case isFalse=>cases e0
  rename_i h1000
  obtain ⟨ls,hls,rfl⟩:=Af e0
  obtain ⟨v,hv,rv⟩:=rs.slot i _ hd
  have rv:Rep (wd f α s.Γ H) (.lst ds) v:=rv
  unfold Rep at rv
  obtain ⟨pa,pvs,rfl,hB,hpa,hpv⟩:=rv
  have hpl:=hpv.len
  have hll:=LL hls
  refine ⟨_,hv,pa,rfl,⟨_,SqL.of hpa⟩,fun l hl=>?_⟩
  refine Kf ds.length (fun k τ Hi=>∃ (αi:Nat->Addr) (H2:Hp),Hi=upd H2 l (.lst ((List.range' s.Γ.length k).map fun n=>V.ref (αi n)))/\H2 l=none/\τ.length=1+ix.length/\RS f αi {s with Γ:=s.Γ++(ls.take k).map some} σ H2/\Ext f α αi s.Γ (s.Γ++(ls.take k).map some) H H2/\∀ b o,H b=some o->H2 b=some o) ?_ ?_ ?_ ?_ ?_
  ·exact ⟨α,H,rfl,hl,by simp[cSt];lia,by simpa using rs,by simpa using Ext.refl,fun _ _ h=>h⟩
  ·rintro k τ Hi hk ⟨αi,H2,rfl,h2,h3,r2,x2,g2⟩
   exact ⟨_,pvs[k]'(by lia),SqL.of (by rw[AO (A0 (g2 _ _ hpa) h2)];exact g2 _ _ hpa),List.getElem?_eq_getElem _⟩
  ·rintro τ Hi ⟨αi,H2,rfl,h2,h3,r2,x2,g2⟩
   exact ⟨_,SqL.of (by rw[AO (A0 (g2 _ _ hpa) h2)];exact g2 _ _ hpa),by lia⟩
  ·rintro k x τ Hi H3 hk ⟨αi,H2,rfl,h2,h3,r2,x2,g2⟩ ⟨rfl,hy⟩
   have hxx:=hy _ (SqL.of (by rw[AO (A0 (g2 _ _ hpa) h2)];exact g2 _ _ hpa))
   obtain ⟨xs,hd1,hl1⟩:=JP hls hk
   obtain ⟨d,hd2,hd3⟩:=hpv.get' hxx
   rw[hd1] at hd2
   cases hd2
   unfold Rep at hd3
   obtain ⟨ra,rvs,rfl,hrB,hra,hrv⟩:=hd3
   have hra:H ra=some (.lst rvs):=hra
   dsimp only[Cd,Gu]
   rw[if_pos rfl]
   refine ⟨ra,rvs,List.getElem?_set_self (by lia),SqL.of (by rw[AO (A0 (g2 _ _ hra) h2)];exact g2 _ _ hra),fun p hp=>?_⟩
   have hlp:l≠p:=fun z=>by rw[<-z,An] at hp;cases hp
   have hp2:H2 p=none:=by rw[AO (Ne.symm hlp)] at hp;exact hp
   have lk:(s.Γ++(ls.take k).map some).length=s.Γ.length+k:=by rw[List.length_append,List.length_map,List.length_take];lia
   have r3:=r2.add (xs:=xs) (vs:=rvs) (by rw[lk];exact Nat.le_trans lo (Nat.le_add_right _ _)) hp2 (hrv.kw x2.kw)
   have x3:=Ext.add (xs:=xs) (o:=.lst rvs) r2 hp2
   have eG:(s.Γ++(ls.take k).map some)++[some xs]=s.Γ++(ls.take (k+1)).map some:=by rw[List.take_add_one,hl1];simp
   simp only at r3 x3
   rw[eG] at r3 x3
   rw[lk] at r3 x3
   have eA:(List.range' s.Γ.length k).map (fun n=>V.ref (αi n))=(List.range' s.Γ.length k).map fun n=>V.ref (BV αi (s.Γ.length+k) p n):=List.map_congr_left fun n hn=>by
    have:=(List.mem_range'_1.mp hn).2
    unfold BV
    rw[if_neg (by lia)]
   refine ⟨(List.range' s.Γ.length k).map fun n=>V.ref (αi n),by rw[AO hlp,An],Ev.IK (by simp;lia),BV αi (s.Γ.length+k) p,upd H2 p (.lst rvs),?_,by rw[AO hlp];exact h2,by rw[List.length_set];exact h3,r3,x2.trans x3,fun b o z=>by rw[AO (A0 (g2 b o z) hp2)];exact g2 b o z⟩
   rw[eA,List.range'_concat,List.map_append]
   funext b
   by_cases z:b=l
   ·rw[z,An,An]
    simp[BV]
   ·rw[AO z,AO z]
    by_cases z2:b=p
    ·rw[z2,An,An]
    ·rw[AO z2,AO z2,AO z]
  ·rintro τ Hi ⟨αi,H2,rfl,h2,h3,r2,x2,g2⟩
   rw[<-hll,List.take_length] at r2 x2
   rw[<-hll]
   have r3:=r2.new (o:=.lst ((List.range' s.Γ.length ls.length).map fun n=>V.ref (αi n))) h2
   have x3:=Ext.new (o:=.lst ((List.range' s.Γ.length ls.length).map fun n=>V.ref (αi n))) r2 h2
   refine q αi _ _ (r3.set (i:=iy) (d:=.l (List.range' s.Γ.length ls.length)) ⟨fun n hn=>?_,l,rfl,r2.fresh h2,An⟩) rfl (x2.trans x3)
   have:=(List.mem_range'_1.mp hn).2
   simp
   lia
theorem QM {X:Cx} {wy:Str} {p1 p2 p3:Pos} (T:Ev.Nm X.mg) (hv:PE X (.Name wy p2) (Bj 0)) (hg:Gl X "list":=by rfl) (he:starEach [.Name wy p2] X.env=(false,eval (.Name wy p2) X.env)::starEach [] X.env:=by rfl) (hpl:(backTo p3 (starEach [] X.env)).any (·.1)=false:=by rfl):PE X (.Call (.Name "list" p1) [.Name wy p2] [] p3) (Gx X.K):=
 PE.imp (GV Kx hg T.list PyProof.Rows.boot_list (BI hv Bc he) (by decide) (by decide) he hpl) fun σ H Q ⟨a,ys,h1,h2,h3⟩=>⟨_,h1,a,ys,rfl,.inl h2,h3⟩
@[simp] def Eo (i:Nat):ME:=fun s=>match s.σ[i]? with
 | some (some (.l ns))=>some (.v (.int ns.length),s)
 | _=>none
theorem N7 (T:Ev.Nm X.mg) {i:Nat} (ha:PE X a (Bj i)) (hg:Gl X "len":=by rfl) (he:starEach [a] X.env=(false,eval a X.env)::starEach [] X.env:=by rfl) (hpl:(backTo pos (starEach [] X.env)).any (·.1)=false:=by rfl):DE X (.Call (.Name "len" p) [a] [] pos) (Eo i):=.mk fun f hf=>
 PE.imp (Ds Sx hg T.len PySem.boot_len (BI ha Bc he) (by decide) (by decide) he hpl) fun σ H Q hh_=>by
  obtain ⟨α,s,r,rs,lo,e0,q⟩:=hh_
  unfold Eo at e0
  split at e0
  case h_2=>cases e0
  rename_i ns h
  cases e0
  obtain ⟨v,h1,_,l,rfl,hB,hl⟩:=rs.slot i _ h
  refine ⟨_,h1,l,_,rfl,.inl (SqL.of hl),?_⟩
  rw[List.length_map]
  exact q α _ H rs rfl .refl (by show Rep _ _ _;exact CH)
@[simp] def FN (i j:Nat):ME:=fun s=>match s.σ[i]?,s.σ[j]? with
 | some (some (.l ns)),some (some (.v (.int k)))=>(atI ns k).map fun n=>(.b n,s)
 | _,_=>none
theorem Sd {i j:Nat} (ha:PE X a (Bj i)) (hb:PE X b (Bj j)) (hs:GT b):DE X (.Subscript a b pos) (FN i j):=.mk fun f hf=>
 PE.imp (JG ix_list ha hb hs) fun σ H Q hh_=>by
  obtain ⟨α,s,r,rs,lo,e0,q⟩:=hh_
  unfold FN at e0
  split at e0
  case h_2=>cases e0
  rename_i ns k h h2
  obtain ⟨n,hn,rfl⟩:=Af e0
  obtain ⟨v,h1,hlt,l,rfl,hB,hl⟩:=rs.slot i _ h
  obtain ⟨w,h3,r3⟩:=rs.slot j _ h2
  rw[A4 r3] at h3
  have ha:atI (ns.map fun n=>V.ref (α n)) k=some (.ref (α n)):=by
   unfold atI at *
   rw[List.length_map]
   obtain ⟨j,j1,j2⟩:=bind_some hn
   rw[j1,Option.bind_some,List.getElem?_map,j2]
   rfl
  have hm:n∈ns:=by
   unfold atI at hn
   obtain ⟨j,j1,j2⟩:=bind_some hn
   exact List.mem_of_getElem? j2
  exact ⟨_,h1,_,h3,l,_,k,_,rfl,rfl,SqL.of hl,ha,q α _ H rs rfl .refl ⟨hlt n hm,rfl⟩⟩
@[simp] def Dx (lo:Nat):List Nat->Gm->Option (List D×Gm)
 | [],Γ=>some ([],Γ)
 | n::ns,Γ=>match Γ[n]? with
  | some (some xs)=>if lo<=n then (Dx lo ns (Γ.set n none)).map fun r=>(.lst xs::r.1,r.2) else none
  | _=>none
theorem Lb:∀ {ns:List Nat} {s:DS} {r:List D×Gm},Dx s.lo ns s.Γ=some r->RS f α s σ H->RS f α {s with Γ:=r.2} σ H/\Ext f α α s.Γ r.2 H H/\Reps (wd f α r.2 H) r.1 (ns.map fun n=>V.ref (α n))
 | [],s,r,e,rs=>by cases e;exact ⟨rs,.refl,.nil⟩
 | n::ns,s,r,e,rs=>by
  unfold Dx at e
  split at e
  case h_2=>cases e
  rename_i xs hx
  split at e
  case isFalse=>cases e
  rename_i hlo
  obtain ⟨r',e1,rfl⟩:=Af e
  obtain ⟨r1,x1,p1⟩:=rs.frz hx hlo
  obtain ⟨r2,x2,p2⟩:=Lb (s:={s with Γ:=s.Γ.set n none}) e1 r1
  exact ⟨r2,x1.trans x2,.cons (p1.kw x2.kw) p2⟩
@[simp] def Ed (i:Nat):ME:=fun s=>match s.σ[i]? with
 | some (some (.l ns))=>(Dx s.lo ns s.Γ).map fun r=>(.v (.lst r.1),{s with Γ:=r.2})
 | _=>none
theorem MB {i:Nat} (ha:PE X a (Bj i)):DE X a (Ed i):=.mk fun f hf=>PE.imp ha fun σ H Q hh_=>by
 obtain ⟨α,s,r,rs,lo,e0,q⟩:=hh_
 unfold Ed at e0
 split at e0
 case h_2=>cases e0
 rename_i ns h
 obtain ⟨r',e1,rfl⟩:=Af e0
 obtain ⟨v,h1,hlt,l,rfl,hB,hl⟩:=rs.slot i _ h
 obtain ⟨r2,x2,p2⟩:=Lb e1 rs
 obtain ⟨k1,k2⟩:=x2.kw.keep l _ hB hl
 refine ⟨_,h1,q α _ H r2 rfl x2 ?_⟩
 show Rep _ _ _
 unfold Rep
 exact ⟨l,_,rfl,k2,k1,p2⟩
end
def ED (m n:MS):MS:=fun s=>match m s with
 | some o=>some o
 | none=>n s
theorem RI {X:Cx} {sts:List Stmt} {m n:MS} (h1:DSs X sts m) (h2:DSs X sts n):DSs X sts (ED m n):=.mk fun f hf pins s σ H D I hh_=>by
 obtain ⟨α,S,o,rs,lo,e,q⟩:=hh_
 unfold ED at e
 cases h:m S with
 | some o'=>
  rw[h] at e
  cases e
  exact h1 f hf pins s σ H D I ⟨α,S,o,rs,lo,h,q⟩
 | none=>
  rw[h] at e
  exact h2 f hf pins s σ H D I ⟨α,S,o,rs,lo,e,q⟩
end DL
namespace XL
open PySem PySem.Spec PyProof.Rows L2
open Builtin Builtin.Str Builtin.BaseException Builtin.Exceptions
def EC (e t:Addr) (cls:Value):HO:=.ext fun h=>∃ o vs,h.get? e=some o/\o.cls=cls/\o.dict=none/\o.data=Data.fields vs/\vs[0]?=some (.ref t)
section
variable {prog:Program} {w:World} {A:Around} {E:Value->Shared->Prop} {s:Shared} {K:PySem.W.Frag} {x C t0:Addr} {ox:Obj} {vs:Array Value} {m:Str} {tk:Tok}
theorem Sg {M:Model} {Q:Value×List Value->Shared->Prop} {items:List Value} (ho:s.heap.get? x=some ox) (hd:ox.data=.fields vs) (h0:vs[0]?=some (.ref t0)) (ht:s.heap.TupAt t0 items) (hq:Q (.ref t0,items) s) :
  wpAny M A (bexcArgs (.ref x)) Q E s:=by
 obtain ⟨ot,k,hto,_,htd⟩:=ht
 unfold bexcArgs
 refine wpAny_bind (wpAny_field ho hd h0 (wpAny_bind (wpAny_seqItems hto htd ?_)))
 have:items.toArray.toList=items:=by simp
 show wpAny M A (pure (Value.ref t0,items.toArray.toList)) Q E s
 rw[this];exact wpAny_pure hq
theorem Qk {Q:Value->Shared->Prop} (hu:A.units<cLine) (X:K.In s.heap) (I:PySem.W.InstAt s.heap x ox C none) (hd:ox.data=.fields vs) (h0:vs[0]?=some (.ref t0)) (ht:s.heap.TupAt t0 [.str m tk])
  (hs:PySem.W.findIn K (.ref C) "__str__"=some (some (.builtin "BaseException.__str__"))) (hm:PySem.W.mroIn K C (.type "BaseException")=some true) (h:Q (.str m tk) s):wpAny (model prog w) A (PySem.Builtin.Str.strOf (.ref x)) Q E s:=by
 unfold PySem.Builtin.Str.strOf
 rw[show isExactStr (.ref x)=false from rfl]
 refine wpAny_bind (m:=cRoomFor _ _) (wpAny_cRoomFor hu ?_)
 refine wpAny_bind (m:=callSpecial? (.ref x) (Str.ofString "__str__")) (PySem.W.kfo_special X I hs (fun self=>rfl) ?_)
 refine wpAny_call (codeAny_call_builtin (by decide +kernel) PySem.F.entry_bexc_str (PySem.W.check_slot (i:="BaseException.__str__") (owner:="BaseException") (n:="__str__") (by decide +kernel) (by decide +kernel) (I.type.andThen (PySem.W.looks_mroIn X hm)) (PySem.F.args_bexc_str _) ?_))
 unfold Builtin.«BaseException.__str__»
 repeat (first | with_reducible refine Sg I.at_ hd h0 ht ?_ | wp_step)
 exact h
theorem NT {Q:Value->Shared->Prop} (hu:A.in1.in1.units<cLine) (X:K.In s.heap) (I:PySem.W.InstAt s.heap x ox C none) (hd:ox.data=.fields vs) (h0:vs[0]?=some (.ref t0)) (ht:s.heap.TupAt t0 [.str m tk])
  (hs:PySem.W.findIn K (.ref C) "__str__"=some (some (.builtin "BaseException.__str__"))) (hm:PySem.W.mroIn K C (.type "BaseException")=some true) (h:Q (.str m tk) s):wpAny (model prog w) A (call (.type "str") [.ref x]) Q E s:=by
 refine callType_codes (T:="str") (Bi:=Builtin.«object.__init__») (Q₁:=fun r s₁=>∃ y u,r=.str y u/\Q r s₁) PySem.F.called_str (PySem.F.typeCall_str_1 _) PySem.F.entry_object_init ?_ ?_
 ·refine codeAny_of_tree ?_
  show wpAny _ A.in1.in1 (do checkBuiltinCall "str.__new__" ⟨[.type "str",.ref x],[]⟩;again (.builtin "str.__new__" ⟨[.type "str",.ref x],[]⟩)) _ _ s
  refine wpAny_bind (wpAny_of_eq (PySem.F.newCall_str_1 _) (wpAny_pure ⟨plainId_quiet (by decide +kernel) _,codeAny_builtin PySem.F.entry_str_new ?_⟩))
  rw[Around.under_plainId (by decide +kernel) _]
  rw[PySem.str_new_tree]
  refine wpAny_bind (wpAny_pure ?_)
  refine wpAny_bind (wpAny_of_eq isSubtype_str_str ?_)
  exact wpAny_bind (Qk hu X I hd h0 ht hs hm (wpAny_pure ⟨_,_,rfl,h⟩))
 ·rintro obj s₁ ⟨y,u,rfl,hq⟩
  exact ⟨typeIs_str _ _ _,PySem.F.args_object_init_2 _ _,object_init_meets PySem.F.called_str.init.lookup PySem.F.called_str.made (by decide) prog w A.in1 _ s₁ ⟨typeIs_str _ _ _,rfl,hq⟩⟩
end
section
variable {X:Cx}
structure XC (K:PySem.W.Frag) (C:Addr):Prop where
 c:ExcC K C
 ex:PySem.W.excIn K C [.type "ValueError",.type "Exception",.type "BaseException",.type "object"] "ValueError.__new__"=true
 st:PySem.W.findIn K (.ref C) "__str__"=some (some (.builtin "BaseException.__str__"))
 mb:PySem.W.mroIn K C (.type "BaseException")=some true
theorem HOk.more {P:Program} {w:World} {H:Hp} {h:Heap} {a:Addr} {o:HO} (x:HOk P w H h) (hn:H a=none) (new:ObjOk P w (upd H a o) h a o):HOk P w (upd H a o) h:=fun b u e=>by
 by_cases hb:b=a
 ·subst hb;rw[An] at e;cases e;exact new
 ·rw[AO hb] at e
  exact (x b u e).stay (fun c v _ q=>q) (fun c q=>by rw[AO (A0 q hn)];exact q) fun c xs q=>by rw[AO (A0 q hn)];exact q
theorem Un.new {fs ex:List Addr} {H:Hp} {h h':Heap} {a:Addr} {o:HO} (k:∀ b u,h.get? b=some u->h'.get? b=some u) (hp:h.get? a=none) (hn:H a=none):Un fs ex H (upd H a o) h h' where
 keep:=fun b u q _ _ _=>k b u q
 slot:=fun b u q _ _ _=>⟨u.slots,k b u q⟩
 free:=fun b u q n _=>by rw[AO (fun z=>by rw[z,hp] at q;cases q)];exact n
 there:=fun b u q _=>⟨u,k b u q⟩
 tups:=fun b xs q=>by rw[AO (A0 q hn)];exact q
 frzs:=fun b u xs q=>by rw[AO (A0 q hn)];exact q
 tbls:=fun b ps q=>⟨#[],by rw[AO (A0 q hn),q];simp⟩
def Lu (C:Addr):List V->Hp->VK->Prop:=fun xs H Q=>∃ m:Str,xs=[.str m]/\∀ t e,H t=none->H e=none->e≠t->Q (.ref e) (upd (upd H t (.tup [.str m])) e (EC e t (.ref C)))
theorem EF {C:Addr} {B newId initId:String} {bmB:List Value} (hC:PySem.W.excIn X.K C bmB newId=true) (hB:ExcBaseFacts B newId initId bmB):BN X (.ref C) (Lu C):=by
 intro pins s σ H xs us Q I r h
 obtain ⟨m,rfl,q⟩:=h
 obtain ⟨u,rfl,tk,rfl⟩:=vals1 r
 obtain ⟨bm,N,nm,qn,bs,hdct,sn,sub,ab,col,dd,k0,k1,k2,k3,k5,mN,h1,h2,h3,T⟩:=Oo I.kIn hC
 refine wpAny_call_exc_subT hB T h1 h2 h3 fun h' e mk=>?_
 obtain ⟨t,te,tn,tt⟩:=mk.there
 have et:e≠t:=fun z=>by rw[z,tt] at te;cases te
 have he:H e=none:=Kv I.hok mk.new
 have hT:H t=none:=Kv I.hok tn
 have ok1:HOk X.prog X.w (upd H t (.tup [.str m])) h':=HOk.more (I.hok.kept mk.keeps) hT ⟨by rw[sizeLine_eq];simp,[.str m tk],.cons ⟨tk,rfl⟩ .nil,_,tt,rfl,_,rfl⟩
 have ok2:HOk X.prog X.w (upd (upd H t (.tup [.str m])) e (EC e t (.ref C))) h':=HOk.more ok1 (by rw[AO et];exact he) ⟨⟨_,_,te,rfl,rfl,rfl,rfl⟩,⟨_,te⟩,fun h1 h2 ⟨o,vs,a,b⟩ k=>⟨o,vs,k o a,b⟩⟩
 exact ⟨.ref e,_,I.un (Un.trans (Un.new (a:=t) (fun _ _ z=>z) tn hT) (Un.new (a:=e) mk.keeps mk.new (by rw[AO et];exact he))) ok2,rfl,q t e hT he et⟩
theorem EN {C:Addr} {x:Str} {e:Expr} {t:TA} {p pos:Pos} {r:List V->Hp->VK->Prop} (hc:BN X (.ref C) r) (hk:PySem.W.keepIn X.K (.ref C)=true) (hg:Gl X x) (hm:X.mg x=some (.ref C)) (ha:PA X [e] t) (hdb:(x == ("__debug__":Str))=false:=by decide)
  (he:starEach [e] X.env=(false,eval e X.env)::starEach [] X.env:=by rfl):PE X (.Call (.Name x p) [e] [] pos) (tCB r t):=by
 intro pins s σ H Q I h
 refine wpAny_Call_Name_kw (HG I hg hm ?_ hdb)
 exact PySem.W.callWith_K (h₀:=X.base) I.ok.mod.kin hk (thn (ha pos pins s σ H _ I h) fun us s1 ⟨vs,H1,I1,r1,q⟩=>⟨I1.kIn,hc pins s1 σ H1 vs us Q I1 r1 q⟩) he rfl
def HB (K:PySem.W.Frag):List V->Hp->VK->Prop:=fun xs H Q=>∃ (a t D:Addr) (c:V) (u:Value) (b:Bool),xs=[.ref a,c]/\RelV c u/\(∀ u',RelV c u'->u'=u)/\H a=some (EC a t (.ref D))/\ExcC K D/\PySem.W.kitOne K (.ref D) u=some b/\Q (.bl b) H
theorem Ko:BN X (.builtin "isinstance") (HB X.K):=by
 intro pins s σ H xs us Q I r h
 obtain ⟨a,t,D,c,u,b,rfl,rc,hu,ha,cD,hk,q⟩:=h
 obtain ⟨v,v',rfl,rv,rv'⟩:=vals2 r
 cases (show v=Value.ref a from rv)
 cases hu v' rv'
 obtain ⟨o,vs,h1,h2,h3,h4,_⟩:=(I.hok a _ ha).1
 exact PySem.W.kia_one (SU cD) I.kIn ⟨o,vs,h1,h2,h3,h4⟩ hk (fun z=>nomatch z) fun tk=>⟨.bl b,H,I.tok tk,rfl,q⟩
theorem QX (hu:X.A.units+64<cLine):BN X (.type "str") (fun xs H Q=>∃ (a t D:Addr) (m:Str),xs=[.ref a]/\H a=some (EC a t (.ref D))/\H t=some (.tup [.str m])/\XC X.K D/\Q (.str m) H):=by
 intro pins s σ H xs us Q I r h
 obtain ⟨a,t,D,m,rfl,ha,ht,c,q⟩:=h
 obtain ⟨v,rfl,rv⟩:=vals1 r
 cases (show v=Value.ref a from rv)
 obtain ⟨o,vs,h1,h2,h3,h4,h5⟩:=(I.hok a _ ha).1
 obtain ⟨_,its,rv,ot,hto,htc,n,htd⟩:=I.hok t _ ht
 obtain ⟨u,rfl,tk,rfl⟩:=vals1 rv
 have i:PySem.W.InstAt s.heap a o D none:=⟨h1,h2,by unfold PySem.W.notCls;rw[h4],by rw[h3];trivial⟩
 exact NT (by show X.A.units+1+1<cLine;lia) I.kIn i h4 h5 ⟨ot,n,hto,htc,htd⟩ c.st c.mb ⟨.str m,H,I,⟨tk,rfl⟩,q⟩
end
end XL
namespace DL
open PySem L2
def wQ (K:PySem.W.Frag) (H:Hp):Wd:=⟨K,fun _=>False,H⟩
def Grow (H H':Hp):Prop:=∀ b o,H b=some o->H' b=some o
theorem Grow.new {H:Hp} {a:Addr} {o:HO} (h:H a=none):Grow H (upd H a o):=fun b u e=>by rw[AO (A0 e h)];exact e
structure Sl (K:PySem.W.Frag) (H:Hp) (ds:List (Option D)) (σ:St):Prop where
 len:ds.length=σ.length
 slot:∀ (i:Nat) (d:D),ds[i]?=some (some d)->∃ v,σ[i]?=some (some v)/\Rep (wQ K H) d v
theorem RS.grow {f:Fr} {α:Nat->Addr} {s:DS} {σ:St} {H H':Hp} (r:RS f α s σ H) (g:Grow H H'):RS f α s σ H'/\Ext f α α s.Γ s.Γ H H':=by
 have e:Ext f α α s.Γ s.Γ H H':=⟨⟨rfl,fun a u n z=>⟨g a u z,n⟩⟩,Nat.le_refl _,fun _ _=>rfl,fun _ xs _ z=>⟨xs,z⟩⟩
 exact ⟨r.mv e g,e⟩
end DL
namespace XL
open PySem PySem.Spec PyProof.Rows L2 DL
def AllX (K:PySem.W.Frag) (cL:Addr) (m:Str) (H:Hp) (vs:List V):Prop:=∀ v∈vs,∃ e t D,v=.ref e/\H e=some (EC e t (.ref D))/\H t=some (.tup [.str m])/\XC K D/\PySem.W.kitOne K (.ref D) (.ref cL)=some true/\PySem.W.kitOne K (.ref D) (.type "ValueError")=some true
def tXs (K:PySem.W.Frag) (cL:Addr) (m:Str) (n:Nat):TA:=fun σ H Q=>∀ vs H',vs.length=n->Grow H H'->AllX K cL m H' vs->Q vs H'
theorem AllX.grow {K:PySem.W.Frag} {cL:Addr} {m:Str} {H H':Hp} {vs:List V} (h:AllX K cL m H vs) (g:Grow H H'):AllX K cL m H' vs:=fun v hv=>let ⟨e,t,D,a,b,c,d⟩:=h v hv;⟨e,t,D,a,g _ _ b,g _ _ c,d⟩
section
variable {X:Cx} {cL:Addr} {m:Str}
theorem QZ:PA X [] (tXs X.K cL m 0):=PA.imp Bc fun σ H Q h=>h [] H rfl (fun _ _ z=>z) fun v hv=>nomatch hv
theorem EL {n:Nat} {e:Expr} {es:List Expr} {C:Addr} (he:PE X e (tCB (Lu C) (Dy (tC (.str m)) Ex))) (c:XC X.K C) (k1:PySem.W.kitOne X.K (.ref C) (.ref cL)=some true) (k2:PySem.W.kitOne X.K (.ref C) (.type "ValueError")=some true) (hs:PA X es (tXs X.K cL m n))
  (hst:starEach (e::es) X.env=(false,eval e X.env)::starEach es X.env:=by rfl):PA X (e::es) (tXs X.K cL m (n+1)):=PA.imp (BI he hs hst) fun σ H Q h=>⟨m,rfl,fun t e ht he et vs H' hl g a=>by
  have g0:Grow H (upd (upd H t (.tup [.str m])) e (EC e t (.ref C))):=fun b o z=>by rw[AO (A0 z he),AO (A0 z ht)];exact z
  refine h _ H' (by rw[List.length_cons,hl]) (fun b o z=>g b o (g0 b o z)) fun v hv=>?_
  rcases List.mem_cons.mp hv with rfl | hv
  ·exact ⟨e,t,C,rfl,g _ _ An,g _ _ (by rw[AO (Ne.symm et),An]),c,k1,k2⟩
  ·exact a v hv⟩
@[simp] def GE (i:Nat):MS:=fun s=>if i<s.σ.length then some (.nx {s with σ:=s.σ.set i none}) else none
theorem Pg {i n:Nat} {tg:Expr} {es:List Expr} {a b c:Expr} {pos p1 p2 p3 p4 p5 p6 p7:Pos} {j} (hn:n<=1000) (hu:X.A.units+64<cLine) (T:Ev.Nm X.mg) (hp:PassesOwn (model X.prog X.w) X.A X.env X.xe) (hc:X.calm=true) (hx:PA X es (tXs X.K cL m n)) (hg:PG X tg (Cd i))
  (ha:PT X a (tB (tCB (HB X.K) (Dy (Bj i) (Dy (tC (.ref cL)) Ex))))) (hb:PT X b (tB (tCB (HB X.K) (Dy (Bj i) (Dy (tC (.ty "ValueError")) Ex)))))
  (hcc:PT X c (HS (tOp rNe (tCB (fun xs H Q=>∃ (a t D:Addr) (m:Str),xs=[.ref a]/\H a=some (EC a t (.ref D))/\H t=some (.tup [.str m])/\XC X.K D/\Q (.str m) H) (Dy (Bj i) Ex)) (tC (.str m)))))
  (hs:∀ x,foldedSetIterable (.List es p1) X.env x=pure x:=by intro _;rfl) :
  DSt X (.For tg (.List es p1) [.If (.BoolOp .Or [.UnaryOp .Not a p2,.UnaryOp .Not b p3,c] p4) [.Return (some (.Constant (.bool false) j p5)) p6] [] p7] [] pos) (GE i):=.mk fun f hf=>
 PS.imp (Lv hp hc (Hr (Ki hx)) hg (G1 (Jg (PW.pt (ID (Gn ha) (ID (Gn hb) (Ke hcc)))) (G1 (Gr Kg)) Lo)) hs) fun E σ H hh_=>by
  obtain ⟨α,s,o,rs,lo,e0,q⟩:=hh_
  unfold GE at e0
  split at e0
  case isFalse=>cases e0
  rename_i hi
  cases e0
  have hi2:i<σ.length:=by rw[<-rs.len];exact hi
  intro vs H1 hl g1 ax
  refine ⟨Ev.small (by lia),fun l hl0=>⟨l,rfl,⟨_,SqL.of An⟩,?_⟩⟩
  have gl:Grow H1 (upd H1 l (.lst vs)):=.new hl0
  have ax2:=ax.grow gl
  have g2:Grow H (upd H1 l (.lst vs)):=fun b o z=>gl b o (g1 b o z)
  refine JH vs.length (fun k τ H2=>H2=upd H1 l (.lst vs)/\∃ u,τ=σ.set i u\/τ=σ) ⟨rfl,none,.inr rfl⟩ ?_ ?_ ?_ ?_
  ·rintro k τ H2 hk ⟨rfl,_⟩
   exact ⟨_,vs[k],SqL.of An,List.getElem?_eq_getElem _⟩
  ·rintro τ H2 ⟨rfl,_⟩
   exact ⟨_,SqL.of An,Nat.le_refl _⟩
  ·rintro k x τ H2 H3 hk ⟨rfl,u,hτ⟩ ⟨rfl,hy⟩
   have hx:=hy _ (SqL.of An)
   obtain ⟨e,t,D,rfl,h1,h2,h3,h4,h5⟩:=ax2 x (List.mem_of_getElem? hx)
   have lt:i<τ.length:=by
    rcases hτ with rfl | rfl
    ·rw[List.length_set];exact hi2
    ·exact hi2
   have si:(τ.set i (some (V.ref e)))[i]?=some (some (.ref e)):=List.getElem?_set_self lt
   refine ⟨_,si,e,t,D,.ref cL,.ref cL,true,rfl,rfl,fun u' z=>z,h1,h3.c,h4,true,rfl,?_⟩
   refine ⟨_,si,e,t,D,.ty "ValueError",.type "ValueError",true,rfl,rfl,fun u' z=>z,h1,h3.c,h5,true,rfl,?_⟩
   refine ⟨_,si,e,t,D,m,rfl,h1,h2,h3,rfl,_,rfl,?_⟩
   rw[decide_eq_true rfl]
   refine ⟨rfl,some (.ref e),.inl ?_⟩
   rcases hτ with rfl | rfl
   ·rw[List.set_set]
   ·rfl
  ·rintro τ H2 ⟨rfl,u,hτ⟩
   obtain ⟨r2,x2⟩:=rs.grow g2
   refine q α τ _ (r2.slots (τ:=s.σ.set i none) ?_ fun k d z=>?_) rfl x2
   ·rcases hτ with rfl | rfl<;>simp[rs.len]
   ·rw[List.getElem?_set] at z
    split at z
    ·first | cases z | (split at z<;>cases z)
    ·rename_i hne
     obtain ⟨v,a,b⟩:=r2.slot k d z
     refine ⟨v,?_,b⟩
     rcases hτ with rfl | rfl
     ·rw[List.getElem?_set_ne hne];exact a
     ·exact a
end
structure X1 (K:PySem.W.Frag) (mg:Str->Option Value) (x:Str) (C cL:Addr):Prop where
 m:mg x=some (.ref C)
 kp:PySem.W.keepIn K (.ref C)=true
 c:XC K C
 k1:PySem.W.kitOne K (.ref C) (.ref cL)=some true
 k2:PySem.W.kitOne K (.ref C) (.type "ValueError")=some true
structure XF (K:PySem.W.Frag) (mg:Str->Option Value) (c1 c2 c3 c4 c5 c6:Addr):Prop where
 a1:X1 K mg "NoNumber" c1 c6
 a2:X1 K mg "NoDeed" c2 c6
 a3:X1 K mg "NoText" c3 c6
 a4:X1 K mg "NoName" c4 c6
 a5:X1 K mg "NoRow" c5 c6
 a6:X1 K mg "LotError" c6 c6
 mV:mg "ValueError"=none
end XL
namespace L2
open PySem PySem.Spec PyProof.Rows
theorem Pm {X:Cx}:BN X (.builtin "sorted") (fun xs H Q=>∃ p ns,xs=[.ref p]/\SqL X.K H p (ns.map V.int)/\ns.length<64/\∀ l (ms:List Int),H l=none->ms.Perm ns->ms.Pairwise (·<=·)->Q (.ref l) (upd H l (.lst (ms.map V.int)))):=by
 intro pins s σ H xs us Q I r h
 obtain ⟨p,ns,rfl,hq,h64,q⟩:=h
 obtain ⟨u,rfl,ru⟩:=vals1 r
 cases ru
 obtain ⟨its,rv,pl,hz⟩:=I.list hq
 have hl:=rv.length
 rw[List.length_map] at hl
 refine sorted_ints pl.isList (intsAre_of rv) (by lia) fun out ms b1 b2 b3=>?_
 obtain ⟨e,he⟩:=sortedAll_at s.heap its out
 have hn:H (s.heap.objs.size+1)=none:=I.hok.fresh (Nat.le_succ _)
 refine ⟨.ref (s.heap.objs.size+1),_,I.laid (t':=s.toks) (o:=.lst (ms.map V.int)) (fun b u q=>sortedAll_old q) (Nat.le_succ _) ⟨?_,out.toList,e,IG b1,?_⟩,rfl,q _ ms hn b2 b3⟩
 ·rw[List.length_map,b2.length_eq]
  rw[List.length_map] at hz
  exact hz
 ·simpa using he
end L2
namespace DL
open PySem L2
section
variable {X:Cx} {a b e:Expr} {ma mb:ME} {es:List Expr} {ms:MA} {p pos:Pos}
abbrev CF:=gB0 fun i j=>decide (i<j)
theorem FH (ha:DE X a ma) (hb:DE X b mb):DT X (.Compare a [.Lt] [b] pos) (AV (mOp CF ma mb)):=Da Nh Ic ha hb (C8 _)
@[simp] def CV:Gm->List SV->Option (List D):=fun Γ xs=>match xs with
 | [x]=>(elems Γ x).bind fun xs=>(intsOf xs).bind fun ns=>if ns.length<64 then some ((sortI ns).map .int) else none
 | _=>none
def RC (K:PySem.W.Frag):List V->Hp->VK->Prop:=fun xs H Q=>∃ p ns,xs=[.ref p]/\SqL K H p (ns.map V.int)/\ns.length<64/\∀ l (ms:List Int),H l=none->ms.Perm ns->ms.Pairwise (·<=·)->Q (.ref l) (upd H l (.lst (ms.map V.int)))
theorem RY:CaF X CV (RC X.K):=by
 intro f α s σ H xs us z Q hf rs hu e q
 unfold CV at e
 split at e
 ·obtain ⟨xs,h0,e⟩:=bind_some e
  obtain ⟨ns,h00,e⟩:=bind_some e
  split at e
  ·rename_i h64
   cases e
   obtain ⟨v,r,rfl,h1,h2⟩:=hu.cons_inv
   rw[h2.nil_inv]
   obtain ⟨a,vs,rfl,h3,h4⟩:=BQ rs h0 h1
   have:=LA h00
   subst this
   have:=h4.ints
   subst this
   refine ⟨a,ns,rfl,SqL.of h3,h64,fun l ms hl hp hs=>q l _ hl ?_⟩
   rw[Sh (hp.trans (sortI_perm ns).symm) hs (JU ns)]
   exact Reps.of_ints
  ·cases e
 ·cases e
theorem Gb (T:Ev.Nm X.mg) (ha:DA X (e::es) ms) (hg:Gl X "sorted":=by rfl) (he:starEach (e::es) X.env=(false,eval e X.env)::starEach es X.env:=by rfl) (hpl:(backTo pos (starEach es X.env)).any (·.1)=false:=by rfl):DF X (.Call (.Name "sorted" p) (e::es) [] pos) (Bb CV ms):=
 Sk Pm RY hg T.sorted PyProof.Rows.boot_sorted ha (by decide) (by decide) he hpl
end
end DL
namespace Ev
open PySem
def top (i:Nat):Stmt:=PySem.Challenge.pw_evenlots_k01_what_are_rows.main.body.getD i (.Pass ⟨0,0,0,0⟩)
structure Cal (P:Program) (w:World) (K:PySem.W.Frag) (mg:Str->Option Value) (base:Heap) (x:Str) (lv:Nat) (f:Addr) (fd:FuncData) (ps:List Str) (sp:L2.Sp):Prop where
 G:L2.FnOk P w K mg base L2.CX0 lv f fd ps sp
 b:L2.Binds K fd ps []
 k:PySem.W.keepIn K (.ref f)=true
 m:mg x=some (.ref f)
end Ev
namespace DL
open PySem L2 Ev
abbrev Gw:Stmt:=top 16
abbrev PQ:List Str:=["script","k","cell"]
def Fn:MS:=(AJ (AL 2 (mC (.int 0)))
 (AJ (mIf (AV (mOp CF (AB 1) (AR Ah (AA (AB 0) AC)))) (AL 2 (mOp gIx (AB 0) (AB 1))) Ae)
 (AJ (mIf (AV (mOp gGe (AB 2) (mOp BB (mC (.int 10)) (mC (.int 18))))) (Eg (AG (AA (mOp Cz (AB 2) (mOp BB (mC (.int 10)) (mC (.int 18)))) (AA (mC (.int 1)) (AA (mC (.int 0)) AC))))) Ae)
 (Eg (AG (AA (AB 2) (AA (mC (.int 0)) (AA (mOp B3 (mC (.int 41)) (AB 1)) AC))))))))
theorem sc__law_pool:FnScope PQ ["script","k"] (Ak Gw):=⟨rfl,rfl,rfl,by decide +kernel,rfl,by decide +kernel,by decide +kernel⟩
theorem Rt {P:Program} {w:World} {K:PySem.W.Frag} {mg:Str->Option Value} {base:Heap} {fa:Addr} {fd:FuncData} (F:Fun K "_law_pool" "_law_pool" Gw fa fd) (T:Nm mg):FnOk P w K mg base CX0 1 fa fd ["script","k"] (spF K 2 (Cn 3 (Fn))):=
 IH F sc__law_pool fun cdv A outer s H E hr=>(AS (Am (i:=2) sc__law_pool.nd rfl (Or.inl rfl) AH)
 (AS (A5 (FH (dv 1) (Ba T (AD (dv 0) AF))) (Ag (Am (i:=2) sc__law_pool.nd rfl (Or.inl rfl) (Ay (dv 0) (dv 1)))) A7)
 (AS (A5 (N2 (dv 2) (Cw AH AH)) (Ag (Fj (AX (AD (Fv (dv 2) (Cw AH AH)) (AD AH (AD AH AF)))))) A7)
 (Ag (Fj (AX (AD (dv 2) (AD AH (AD (Cj AH (dv 1)) AF)))))))))
abbrev G9:Stmt:=top 17
abbrev Mf:List Str:=["pool","many","found","step","mark"]
def ES:MS:=(AJ (mIf (AV (mOp gEq (mOp gIx (AB 0) (mC (.int 1))) (mC (.int 1)))) (AJ (AL 2 (mOp EA (mOp gIx (AB 0) (mC (.int 0))) (AB 1)))
 (AJ (Bs (AB 0) (mC (.int 0)) (mOp IA (mOp gIx (AB 0) (mC (.int 0))) (AB 1)))
 (AZ (AB 2)))) Ae)
 (AJ (Bs (AB 0) (mC (.int 2)) (mOp AQ (mOp gIx (AB 0) (mC (.int 2))) (mC (.int 1))))
 (AJ (AL 3 (mOp gIx (AB 0) (mC (.int 2))))
 (AJ (AL 4 (mOp B3 (mOp AQ (mOp EA (mOp gIx (AB 0) (mC (.int 0))) (mC (.int 9999999589))) (mC (.int 997))) (mOp AQ (mOp B3 (mC (.int 31)) (AB 3)) (mC (.int 61)))))
 (AJ (AL 4 (mOp AQ (AB 4) (mOp B3 (mOp B3 (mC (.int 3539)) (AB 3)) (AB 3))))
 (AJ (AL 4 (mOp EA (mOp B3 (AB 4) (AB 4)) (mC (.int 99999999629))))
 (AZ (mOp EA (mOp IA (mOp EA (mOp B3 (AB 4) (mOp AQ (AB 4) (mC (.int 43)))) (mC (.int 99999999911))) (mC (.int 97))) (AB 1)))))))))
theorem sc__law_take:FnScope Mf ["pool","many"] (Ak G9):=⟨rfl,rfl,rfl,by decide +kernel,rfl,by decide +kernel,by decide +kernel⟩
theorem Ni {P:Program} {w:World} {K:PySem.W.Frag} {mg:Str->Option Value} {base:Heap} {fa:Addr} {fd:FuncData} (F:Fun K "_law_take" "_law_take" G9 fa fd) (T:Nm mg):FnOk P w K mg base CX0 1 fa fd ["pool","many"] (spD K 2 (mFn 5 (ES))):=
 Bo F sc__law_take fun cdv A outer s H E hr=>(AS (A5 (Eb hr.units0 (Ay (dv 0) AH) AH) (AS (Am (i:=2) sc__law_take.nd rfl (Or.inl rfl) (En (Ay (dv 0) AH) (dv 1)))
 (AS (GI (dv 0) AH (L6 (Ay (dv 0) AH) (dv 1)))
 (Ag (Aq (dv 2))))) A7)
 (AS (GI (dv 0) AH (Az (Ay (dv 0) AH) AH))
 (AS (Am (i:=3) sc__law_take.nd rfl (Or.inl rfl) (Ay (dv 0) AH))
 (AS (Am (i:=4) sc__law_take.nd rfl (Or.inl rfl) (Cj (Az (En (Ay (dv 0) AH) AH) AH) (Az (Cj AH (dv 3)) AH)))
 (AS (Am (i:=4) sc__law_take.nd rfl (Or.inl rfl) (Az (dv 4) (Cj (Cj AH (dv 3)) (dv 3))))
 (AS (Am (i:=4) sc__law_take.nd rfl (Or.inl rfl) (En (Cj (dv 4) (dv 4)) AH))
 (Ag (Aq (En (L6 (En (Cj (dv 4) (Az (dv 4) AH)) AH) AH) (dv 1))))))))))
abbrev Hk:Stmt:=top 18
abbrev Nr:List Str:=["pool","found","turn"]
def Hc (zB:MD):MS:=(AL 1 (mOp AQ (AB 1) (mOp gIx (mC (.str "abcdefghijklmnopqrstuvwxyz")) (AI zB (AA (AB 0) (AA (mC (.int 26)) AC))))))
def HP (zB:MD):MS:=(AJ (AL 1 (mC (.str "")))
 (AJ (Bf (B6 (AA (mOp AQ (mC (.int 1)) (AI zB (AA (AB 0) (AA (mC (.int 8)) AC)))) AC)) (Ac 2) (Hc zB))
 (AZ (AB 1))))
theorem sc__law_tag:FnScope Nr ["pool"] (Ak Hk):=⟨rfl,rfl,rfl,by decide +kernel,rfl,by decide +kernel,by decide +kernel⟩
theorem Pb {P:Program} {w:World} {K:PySem.W.Frag} {mg:Str->Option Value} {base:Heap} {fa:Addr} {fd:FuncData} (F:Fun K "_law_tag" "_law_tag" Hk fa fd) (T:Nm mg) {zJ:Addr} {zK:FuncData} {zB:MD} (zA:Cal P w K mg base "_law_take" 1 zJ zK ["pool","many"] (spD K 2 zB)):FnOk P w K mg base CX0 2 fa fd ["pool"] (spD K 1 (mFn 3 (HP zB))):=
 Bo F sc__law_tag fun cdv A outer s H E hr=>(AS (Am (i:=1) sc__law_tag.nd rfl (Or.inl rfl) Ax)
 (AS (D1 PassesOwn.never rfl (EJ rfl T.range (AD (Az AH (Ab zA.G hr rfl zA.m zA.k zA.b (AD (dv 0) (AD AH AF)) (AK (AK AY)))) AF)) (BR (BF (i:=2) sc__law_tag.nd rfl (Or.inl rfl))) (Ag (Am (i:=1) sc__law_tag.nd rfl (Or.inl rfl) (Az (dv 1) (Ay Ax (Ab zA.G hr rfl zA.m zA.k zA.b (AD (dv 0) (AD AH AF)) (AK (AK AY))))))))
 (Ag (Aq (dv 1)))))
abbrev HW:Stmt:=top 19
abbrev Pl:List Str:=["pool","kind","sign","number","turn"]
def IU (zB:MD):MS:=(AL 3 (mOp AQ (mOp B3 (AB 3) (mOp BB (mC (.int 10)) (mC (.int 10)))) (AI zB (AA (AB 0) (AA (mOp BB (mC (.int 10)) (mC (.int 10))) AC)))))
def FL (zB:MD):MS:=(AJ (mIf (AV (mOp gEq (AB 1) (mC (.int 0)))) (AZ (AI zB (AA (AB 0) (AA (mC (.int 3)) AC)))) Ae)
 (AJ (mIf (AV (mOp gEq (AB 1) (mC (.int 1)))) (AZ (mOp Cz (AI zB (AA (AB 0) (AA (mC (.int 40)) AC))) (mC (.int 20)))) Ae)
 (AJ (AL 2 (mOp Cz (mC (.int 1)) (mOp B3 (mC (.int 2)) (AI zB (AA (AB 0) (AA (mC (.int 2)) AC))))))
 (AJ (AL 3 (mC (.int 0)))
 (AJ (Bf (B6 (AA (mOp gIx (AE (AG (AA (mC (.int 1)) (AA (mC (.int 2)) (AA (mC (.int 3)) AC))))) (AI zB (AA (AB 0) (AA (mC (.int 3)) AC)))) AC)) (Ac 4) (IU zB))
 (AZ (mOp B3 (AB 2) (AB 3))))))))
theorem sc__law_key:FnScope Pl ["pool","kind"] (Ak HW):=⟨rfl,rfl,rfl,by decide +kernel,rfl,by decide +kernel,by decide +kernel⟩
theorem Mg {P:Program} {w:World} {K:PySem.W.Frag} {mg:Str->Option Value} {base:Heap} {fa:Addr} {fd:FuncData} (F:Fun K "_law_key" "_law_key" HW fa fd) (T:Nm mg) {zJ:Addr} {zK:FuncData} {zB:MD} (zA:Cal P w K mg base "_law_take" 1 zJ zK ["pool","many"] (spD K 2 zB)):FnOk P w K mg base CX0 2 fa fd ["pool","kind"] (spD K 2 (mFn 5 (FL zB))):=
 Bo F sc__law_key fun cdv A outer s H E hr=>(AS (A5 (Eb hr.units0 (dv 1) AH) (Ag (Aq (Ab zA.G hr rfl zA.m zA.k zA.b (AD (dv 0) (AD AH AF)) (AK (AK AY))))) A7)
 (AS (A5 (Eb hr.units0 (dv 1) AH) (Ag (Aq (Fv (Ab zA.G hr rfl zA.m zA.k zA.b (AD (dv 0) (AD AH AF)) (AK (AK AY))) AH))) A7)
 (AS (Am (i:=2) sc__law_key.nd rfl (Or.inl rfl) (Fv AH (Cj AH (Ab zA.G hr rfl zA.m zA.k zA.b (AD (dv 0) (AD AH AF)) (AK (AK AY))))))
 (AS (Am (i:=3) sc__law_key.nd rfl (Or.inl rfl) AH)
 (AS (D1 PassesOwn.never rfl (EJ rfl T.range (AD (Ay (AM (AX (AD AH (AD AH (AD AH AF))))) (Ab zA.G hr rfl zA.m zA.k zA.b (AD (dv 0) (AD AH AF)) (AK (AK AY)))) AF)) (BR (BF (i:=4) sc__law_key.nd rfl (Or.inl rfl))) (Ag (Am (i:=3) sc__law_key.nd rfl (Or.inl rfl) (Az (Cj (dv 3) (Cw AH AH)) (Ab zA.G hr rfl zA.m zA.k zA.b (AD (dv 0) (AD (Cw AH AH) AF)) (AK (AK AY)))))))
 (Ag (Aq (Cj (dv 2) (dv 3)))))))))
abbrev FM:Stmt:=top 20
abbrev HL:List Str:=["pool","most","kind","way","keys","at","tags"]
def E6 (zB:MD) (zF:MD) (zD:MD):MS:=(AJ (AL 2 (AI zB (AA (AB 0) (AA (mC (.int 3)) AC))))
 (AJ (AL 3 (AI zB (AA (AB 0) (AA (mC (.int 4)) AC))))
 (AJ (AL 4 (AE (BD (B6 (AA (AI zB (AA (AB 0) (AA (mOp AQ (AB 1) (mC (.int 1))) AC))) AC)) 1 [0,2] (Ac 0) mTT (AI zF (AA (AB 1) (AA (AB 2) AC))))))
 (AJ (mIf (AV (mOp gEq (AB 3) (mC (.int 1)))) (AL 4 (AE (Bb CV (AA (AB 4) AC)))) Ae)
 (AJ (mIf (AV (mOp gEq (AB 3) (mC (.int 2)))) (AL 4 (AE (Hg (AE (Bb CV (AA (AB 4) AC)))))) Ae)
 (AJ (mIf (AV (mOp gEq (AB 3) (mC (.int 3)))) (AJ (AL 5 (AI zB (AA (AB 0) (AA (mOp AQ (AR Ah (AA (AB 4) AC)) (mC (.int 1))) AC))))
 (AL 4 (AE (Aj BA (AE (Bb CV (AA (mSl (AB 4) none (some (AB 5))) AC))) (AE (Bb CV (AA (mSl (AB 4) (some (AB 5)) none) AC))))))) Ae)
 (AJ (AL 6 (AE (AG (AA (AI zD (AA (AB 0) AC)) (AA (AI zD (AA (AB 0) AC)) (AA (AI zD (AA (AB 0) AC)) AC))))))
 (Eg (BD (Aw (AB 4)) 1 [6,0] (Ac 0) mTT (AN (AA (AB 0) (AA (mSl (mOp gIx (AB 1) (AI zB (AA (AB 2) (AA (mC (.int 3)) AC)))) none (some (mOp AQ (mC (.int 1)) (AI zB (AA (AB 2) (AA (mC (.int 8)) AC)))))) AC))))))))))))
theorem sc__law_row:FnScope HL ["pool","most"] (Ak FM):=⟨rfl,rfl,rfl,by decide +kernel,rfl,by decide +kernel,by decide +kernel⟩
theorem RN {P:Program} {w:World} {K:PySem.W.Frag} {mg:Str->Option Value} {base:Heap} {fa:Addr} {fd:FuncData} (F:Fun K "_law_row" "_law_row" FM fa fd) (T:Nm mg) {zJ:Addr} {zK:FuncData} {zB:MD} (zA:Cal P w K mg base "_law_take" 1 zJ zK ["pool","many"] (spD K 2 zB)) {yK:Addr} {yL:FuncData} {zF:MD} (zQ:Cal P w K mg base "_law_key" 2 yK yL ["pool","kind"] (spD K 2 zF)) {yM:Addr} {yN:FuncData} {zD:MD} (zG:Cal P w K mg base "_law_tag" 2 yM yN ["pool"] (spD K 1 zD)):FnOk P w K mg base CX0 3 fa fd ["pool","most"] (spF K 2 (Cn 7 (E6 zB zF zD))):=
 IH F sc__law_row fun cdv A outer s H E hr=>(AS (Am (i:=2) sc__law_row.nd rfl (Or.inr rfl) (Ab zA.G (hr.mono (by decide)) rfl zA.m zA.k zA.b (AD (dv 0) (AD AH AF)) (AK (AK AY))))
 (AS (Am (i:=3) sc__law_row.nd rfl (Or.inl rfl) (Ab zA.G (hr.mono (by decide)) rfl zA.m zA.k zA.b (AD (dv 0) (AD AH AF)) (AK (AK AY))))
 (AS (LN (i:=4) sc__law_row.nd rfl rfl (esc:=(Ak FM)) (N:=HL) (tn:=["turn"]) (fn:=["pool","kind"]) (ix:=[0,2]) rfl rfl rfl ⟨rfl,by decide +kernel,by decide +kernel,by decide +kernel,rfl,by decide +kernel⟩ (EJ rfl T.range (AD (Ab zA.G (hr.mono (by decide)) rfl zA.m zA.k zA.b (AD (dv 0) (AD (Az (dv 1) AH) AF)) (AK (AK AY))) AF)) (fun _ _ _ _ _=>(BR (BF (i:=0) (show (["turn","pool","kind"]:List Str).Nodup by decide +kernel) rfl (Or.inl rfl)))) (fun _ _ _ _ _=>CW) (fun _ _ _ _ _=>(Ab zQ.G hr rfl zQ.m zQ.k zQ.b (AD (dv 1) (AD (dv 2) AF)) (AK (AK AY)))))
 (AS (A5 (Eb hr.units0 (dv 3) AH) (Ag (Am (i:=4) sc__law_row.nd rfl (Or.inl rfl) (AM (Gb T (AD (dv 4) AF))))) A7)
 (AS (A5 (Eb hr.units0 (dv 3) AH) (Ag (Am (i:=4) sc__law_row.nd rfl (Or.inl rfl) (AM (Oe (AM (Gb T (AD (dv 4) AF))))))) A7)
 (AS (A5 (Eb hr.units0 (dv 3) AH) (AS (Am (i:=5) sc__law_row.nd rfl (Or.inl rfl) (Ab zA.G (hr.mono (by decide)) rfl zA.m zA.k zA.b (AD (dv 0) (AD (Az (Ba T (AD (dv 4) AF)) AH) AF)) (AK (AK AY))))
 (Ag (Am (i:=4) sc__law_row.nd rfl (Or.inl rfl) (AM (DC (AM (Gb T (AD (CM (dv 4) CL (B9 (dv 5))) AF))) (AM (Gb T (AD (CM (dv 4) (B9 (dv 5)) CL) AF)))))))) A7)
 (AS (Am (i:=6) sc__law_row.nd rfl (Or.inr rfl) (AM (AX (AD (Ab zG.G hr rfl zG.m zG.k zG.b (AD (dv 0) AF) (AK AY)) (AD (Ab zG.G hr rfl zG.m zG.k zG.b (AD (dv 0) AF) (AK AY)) (AD (Ab zG.G hr rfl zG.m zG.k zG.b (AD (dv 0) AF) (AK AY)) AF))))))
 (Ag (Fj (CO (esc:=(Ak FM)) (N:=HL) (tn:=["key"]) (fn:=["tags","pool"]) (ix:=[6,0]) rfl rfl rfl ⟨rfl,by decide +kernel,by decide +kernel,by decide +kernel,rfl,by decide +kernel⟩ (CD (dv 4)) (fun _ _ _ _ _=>(BR (BF (i:=0) (show (["key","tags","pool"]:List Str).Nodup by decide +kernel) rfl (Or.inl rfl)))) (fun _ _ _ _ _=>CW) (fun _ _ _ _ _=>(A6 (AD (dv 0) (AD (CM (Ay (dv 1) (Ab zA.G (hr.mono (by decide)) rfl zA.m zA.k zA.b (AD (dv 2) (AD AH AF)) (AK (AK AY)))) CL (B9 (Az AH (Ab zA.G (hr.mono (by decide)) rfl zA.m zA.k zA.b (AD (dv 2) (AD AH AF)) (AK (AK AY)))))) AF))))))))))))))
abbrev Gh:Stmt:=top 21
abbrev JC:List Str:=["pool","most"]
def Ik (zB:MD) (zU:MDF):MS:=(Eg (BD (B6 (AA (mOp AQ (mC (.int 1)) (AI zB (AA (AB 0) (AA (mC (.int 6)) AC)))) AC)) 1 [0,1] (Ac 0) mTT (AE (Ck zU (AA (AB 1) (AA (AB 2) AC))))))
theorem SA:FnScope JC ["pool","most"] (Ak Gh):=⟨rfl,rfl,rfl,by decide +kernel,rfl,by decide +kernel,by decide +kernel⟩
theorem QL {P:Program} {w:World} {K:PySem.W.Frag} {mg:Str->Option Value} {base:Heap} {fa:Addr} {fd:FuncData} (F:Fun K "_law_rows" "_law_rows" Gh fa fd) (T:Nm mg) {zJ:Addr} {zK:FuncData} {zB:MD} (zA:Cal P w K mg base "_law_take" 1 zJ zK ["pool","many"] (spD K 2 zB)) {yS:Addr} {yT:FuncData} {zU:MDF} (zV:Cal P w K mg base "_law_row" 3 yS yT ["pool","most"] (spF K 2 zU)):FnOk P w K mg base CX0 4 fa fd ["pool","most"] (spF K 2 (Cn 2 (Ik zB zU))):=
 IH F SA fun cdv A outer s H E hr=>(Ag (Fj (CO (esc:=(Ak Gh)) (N:=JC) (tn:=["turn"]) (fn:=["pool","most"]) (ix:=[0,1]) rfl rfl rfl ⟨rfl,by decide +kernel,by decide +kernel,by decide +kernel,rfl,by decide +kernel⟩ (EJ rfl T.range (AD (Az AH (Ab zA.G (hr.mono (by decide)) rfl zA.m zA.k zA.b (AD (dv 0) (AD AH AF)) (AK (AK AY)))) AF)) (fun _ _ _ _ _=>(BR (BF (i:=0) (show (["turn","pool","most"]:List Str).Nodup by decide +kernel) rfl (Or.inl rfl)))) (fun _ _ _ _ _=>CW) (fun _ _ _ _ _=>(AM (Gd zV.G hr rfl zV.m zV.k zV.b (AD (dv 1) (AD (dv 2) AF)) (AK (AK AY))))))))
abbrev He:Stmt:=top 3
abbrev PM:List Str:=["thing"]
def Ir:MS:=(AZ (CA (Ad "int" (AB 0)) (LG (Ad "bool" (AB 0)))))
theorem Mm:FnScope PM ["thing"] (Ak He):=⟨rfl,rfl,rfl,by decide +kernel,rfl,by decide +kernel,by decide +kernel⟩
theorem NJ {P:Program} {w:World} {K:PySem.W.Frag} {mg:Str->Option Value} {base:Heap} {fa:Addr} {fd:FuncData} (F:Fun K "is_whole" "is_whole" He fa fd) (T:Nm mg):FnOk P w K mg base CX0 1 fa fd ["thing"] (spD K 1 (mFn 1 (Ir))):=
 Bo F Mm fun cdv A outer s H E hr=>(Ag (Aq (C1 (MR T (dv 0)) (EO (TK (Ez T (dv 0)))))))
abbrev Fm:Stmt:=top 4
abbrev Kd:List Str:=["thing"]
def Fs:MS:=(AJ (mIf (mOr (A9 (Ao (Ad "str" (AB 0)))) (A9 (AV (B0 BG BG (mC (.int 1)) (AR Ah (AA (AB 0) AC)) (mC (.int 8)))))) (AZ (mC (.bl false))) Ae)
 (AZ (AR Dn (AA (AE (BD (D0 (AB 0)) 1 [] (Ac 0) mTT (B0 BG BG (mC (.str "a")) (AB 0) (mC (.str "z"))))) AC))))
theorem OR:FnScope Kd ["thing"] (Ak Fm):=⟨rfl,rfl,rfl,by decide +kernel,rfl,by decide +kernel,by decide +kernel⟩
theorem Ra {P:Program} {w:World} {K:PySem.W.Frag} {mg:Str->Option Value} {base:Heap} {fa:Addr} {fd:FuncData} (F:Fun K "is_tag" "is_tag" Fm fa fd) (T:Nm mg) (g_MOST_LETTERS:∃ t,mg "MOST_LETTERS"=some (.int 8 t)):FnOk P w K mg base CX0 1 fa fd ["thing"] (spD K 1 (mFn 1 (Fs))):=
 Bo F OR fun cdv A outer s H E hr=>(AS (A5 (Ca (Co (CZ (Bn (GC T (dv 0)))) (DK (CZ (OY AH (Ba T (AD (dv 0) AF)) (Ln g_MOST_LETTERS)))))) (Ag (Aq BH)) A7)
 (Ag (Aq (Hz T.all (AD (AM (CO (esc:=(Ak Fm)) (N:=Kd) (tn:=["sign"]) (fn:=[]) (ix:=[]) rfl rfl rfl ⟨rfl,by decide +kernel,by decide +kernel,by decide +kernel,rfl,by decide +kernel⟩ (JM (dv 0)) (fun _ _ _ _ _=>(BR (BF (i:=0) (show (["sign"]:List Str).Nodup by decide +kernel) rfl (Or.inl rfl)))) (fun _ _ _ _ _=>CW) (fun _ _ _ _ _=>(LO Ax (dv 0) Ax)))) AF)))))
abbrev Hu:Stmt:=top 5
abbrev NV:List Str:=["thing"]
def LQ (zW:MD) (zX:MD):MS:=(AZ (CA (Ad "tuple" (AB 0)) (CA (mOp Bg (AR Ah (AA (AB 0) AC)) (mC (.int 2))) (CA (AI zW (AA (mOp gIx (AB 0) (mC (.int 0))) AC)) (AI zX (AA (mOp gIx (AB 0) (mC (.int 1))) AC))))))
theorem S8:FnScope NV ["thing"] (Ak Hu):=⟨rfl,rfl,rfl,by decide +kernel,rfl,by decide +kernel,by decide +kernel⟩
theorem QF {P:Program} {w:World} {K:PySem.W.Frag} {mg:Str->Option Value} {base:Heap} {fa:Addr} {fd:FuncData} (F:Fun K "is_thing" "is_thing" Hu fa fd) (T:Nm mg) {yU:Addr} {yV:FuncData} {zW:MD} (zY:Cal P w K mg base "is_whole" 1 yU yV ["thing"] (spD K 1 zW)) {yW:Addr} {yX:FuncData} {zX:MD} (zZ:Cal P w K mg base "is_tag" 1 yW yX ["thing"] (spD K 1 zX)):FnOk P w K mg base CX0 2 fa fd ["thing"] (spD K 1 (mFn 1 (LQ zW zX))):=
 Bo F S8 fun cdv A outer s H E hr=>(Ag (Aq (C1 (E3 T (dv 0)) (C1 (Lq hr.units (Ba T (AD (dv 0) AF)) AH) (C1 (Ab zY.G hr rfl zY.m zY.k zY.b (AD (Ay (dv 0) AH) AF) (AK AY)) (EO (Ab zZ.G hr rfl zZ.m zZ.k zZ.b (AD (Ay (dv 0) AH) AF) (AK AY))))))))
abbrev Fl:Stmt:=top 6
abbrev Jd:List Str:=["thing"]
def KS (yA:MD):MS:=(AZ (CA (Ad "list" (AB 0)) (AR Dn (AA (AE (BD (Aw (AB 0)) 1 [] (Ac 0) mTT (AI yA (AA (AB 0) AC)))) AC))))
theorem OQ:FnScope Jd ["thing"] (Ak Fl):=⟨rfl,rfl,rfl,by decide +kernel,rfl,by decide +kernel,by decide +kernel⟩
theorem QN {P:Program} {w:World} {K:PySem.W.Frag} {mg:Str->Option Value} {base:Heap} {fa:Addr} {fd:FuncData} (F:Fun K "is_row" "is_row" Fl fa fd) (T:Nm mg) {yY:Addr} {yZ:FuncData} {yA:MD} (yB:Cal P w K mg base "is_thing" 2 yY yZ ["thing"] (spD K 1 yA)):FnOk P w K mg base CX0 3 fa fd ["thing"] (spD K 1 (mFn 1 (KS yA))):=
 Bo F OQ fun cdv A outer s H E hr=>(Ag (Aq (C1 (Et T (dv 0)) (EO (Hz T.all (AD (AM (CO (esc:=(Ak Fl)) (N:=Jd) (tn:=["part"]) (fn:=[]) (ix:=[]) rfl rfl rfl ⟨rfl,by decide +kernel,by decide +kernel,by decide +kernel,rfl,by decide +kernel⟩ (CD (dv 0)) (fun _ _ _ _ _=>(BR (BF (i:=0) (show (["part"]:List Str).Nodup by decide +kernel) rfl (Or.inl rfl)))) (fun _ _ _ _ _=>CW) (fun _ _ _ _ _=>(Ab yB.G hr rfl yB.m yB.k yB.b (AD (dv 0) AF) (AK AY))))) AF))))))
abbrev Gf:Stmt:=top 7
abbrev LW:List Str:=["thing"]
def LP (yC:MD):MS:=(AZ (CA (Ad "list" (AB 0)) (CA (B0 BG BG (mC (.int 1)) (AR Ah (AA (AB 0) AC)) (mC (.int 6))) (AR Dn (AA (AE (BD (Aw (AB 0)) 1 [] (Ac 0) mTT (AI yC (AA (AB 0) AC)))) AC)))))
theorem TJ:FnScope LW ["thing"] (Ak Gf):=⟨rfl,rfl,rfl,by decide +kernel,rfl,by decide +kernel,by decide +kernel⟩
theorem Pe {P:Program} {w:World} {K:PySem.W.Frag} {mg:Str->Option Value} {base:Heap} {fa:Addr} {fd:FuncData} (F:Fun K "are_rows" "are_rows" Gf fa fd) (T:Nm mg) {y0:Addr} {y7:FuncData} {yC:MD} (yD:Cal P w K mg base "is_row" 3 y0 y7 ["thing"] (spD K 1 yC)) (g_MOST_HANDS:∃ t,mg "MOST_HANDS"=some (.int 6 t)):FnOk P w K mg base CX0 4 fa fd ["thing"] (spD K 1 (mFn 1 (LP yC))):=
 Bo F TJ fun cdv A outer s H E hr=>(Ag (Aq (C1 (Et T (dv 0)) (C1 (LO AH (Ba T (AD (dv 0) AF)) (Ln g_MOST_HANDS)) (EO (Hz T.all (AD (AM (CO (esc:=(Ak Gf)) (N:=LW) (tn:=["part"]) (fn:=[]) (ix:=[]) rfl rfl rfl ⟨rfl,by decide +kernel,by decide +kernel,by decide +kernel,rfl,by decide +kernel⟩ (CD (dv 0)) (fun _ _ _ _ _=>(BR (BF (i:=0) (show (["part"]:List Str).Nodup by decide +kernel) rfl (Or.inl rfl)))) (fun _ _ _ _ _=>CW) (fun _ _ _ _ _=>(Ab yD.G hr rfl yD.m yD.k yD.b (AD (dv 0) AF) (AK AY))))) AF)))))))
abbrev Ea:Stmt:=top 22
abbrev HH:List Str:=["thing"]
def FK (zE:MD):MS:=(AJ (mIf (Ao (Ad "list" (AB 0))) (AZ (AE (BD (Aw (AB 0)) 1 [] (Ac 0) mTT (AI zE (AA (AB 0) AC))))) Ae)
 (AJ (mIf (Ao (Ad "tuple" (AB 0))) (AZ (AR CJ (AA (AE (BD (Aw (AB 0)) 1 [] (Ac 0) mTT (AI zE (AA (AB 0) AC)))) AC))) Ae)
 (AZ (AB 0))))
theorem ND:FnScope HH ["thing"] (Ak Ea):=⟨rfl,rfl,rfl,by decide +kernel,rfl,by decide +kernel,by decide +kernel⟩
theorem SY {P:Program} {w:World} {K:PySem.W.Frag} {mg:Str->Option Value} {base:Heap} {fa:Addr} {fd:FuncData} (F:Fun K "_law_copy" "_law_copy" Ea fa fd) (T:Nm mg) {kk:Nat} {yO:Addr} {yP:FuncData} {zE:MD} (zL:Cal P w K mg base "_law_copy" kk yO yP ["thing"] (spD K 1 zE)):FnOk P w K mg base CX0 (kk+1) fa fd ["thing"] (spD K 1 (mFn 1 (FK zE))):=
 Bo F ND fun cdv A outer s H E hr=>(AS (A5 (Bn (Et T (dv 0))) (Ag (Aq (AM (CO (esc:=(Ak Ea)) (N:=HH) (tn:=["one"]) (fn:=[]) (ix:=[]) rfl rfl rfl ⟨rfl,by decide +kernel,by decide +kernel,by decide +kernel,rfl,by decide +kernel⟩ (CD (dv 0)) (fun _ _ _ _ _=>(BR (BF (i:=0) (show (["one"]:List Str).Nodup by decide +kernel) rfl (Or.inl rfl)))) (fun _ _ _ _ _=>CW) (fun _ _ _ _ _=>(Ab zL.G hr rfl zL.m zL.k zL.b (AD (dv 0) AF) (AK AY))))))) A7)
 (AS (A5 (Bn (E3 T (dv 0))) (Ag (Aq (Ia T (AD (AM (CO (esc:=(Ak Ea)) (N:=HH) (tn:=["one"]) (fn:=[]) (ix:=[]) rfl rfl rfl ⟨rfl,by decide +kernel,by decide +kernel,by decide +kernel,rfl,by decide +kernel⟩ (CD (dv 0)) (fun _ _ _ _ _=>(BR (BF (i:=0) (show (["one"]:List Str).Nodup by decide +kernel) rfl (Or.inl rfl)))) (fun _ _ _ _ _=>CW) (fun _ _ _ _ _=>(Ab zL.G hr rfl zL.m zL.k zL.b (AD (dv 0) AF) (AK AY))))) AF)))) A7)
 (Ag (Aq (dv 0)))))
abbrev E9:Stmt:=top 23
abbrev Lm:List Str:=["one","other"]
def DQ (zH:(List D->Option D)):MS:=(AJ (mIf (mOr (AV (mOp BO (Ad "bool" (AB 0)) (Ad "bool" (AB 1)))) (AV (mOp BO (Ad "tuple" (AB 0)) (Ad "tuple" (AB 1))))) (AZ (mC (.bl false))) Ae)
 (AJ (mIf (Cc (Ao (Ep ["list","tuple"] (AB 0))) (Ao (Ep ["list","tuple"] (AB 1)))) (AZ (CA (mOp CY (AR Ah (AA (AB 0) AC)) (AR Ah (AA (AB 1) AC))) (mOp CY (AE (BD (LD (AA (AB 0) (AA (AB 1) AC))) 2 [] (FC [0,1]) (A9 (Ao (EG zH (AA (AB 0) (AA (AB 1) AC))))) (mC (.int 1)))) (AE (AG AC))))) Ae)
 (AZ (CA (mOp CY (Ad "str" (AB 0)) (Ad "str" (AB 1))) (mOp CY (AB 0) (AB 1))))))
theorem Oc:FnScope Lm ["one","other"] (Ak E9):=⟨rfl,rfl,rfl,by decide +kernel,rfl,by decide +kernel,by decide +kernel⟩
theorem Md {P:Program} {w:World} {K:PySem.W.Frag} {mg:Str->Option Value} {base:Heap} {fa:Addr} {fd:FuncData} (F:Fun K "_law_same" "_law_same" E9 fa fd) (T:Nm mg) {kk:Nat} {yQ:Addr} {yR:FuncData} {zH:(List D->Option D)} (zR:Cal P w K mg base "_law_same" kk yQ yR ["one","other"] (spQ K 2 zH)):FnOk P w K mg base CX0 (kk+1) fa fd ["one","other"] (spD K 2 (mFn 2 (DQ zH))):=
 Bo F Oc fun cdv A outer s H E hr=>(AS (A5 (Ca (Co (Dj hr.units (Ez T (dv 0)) (Ez T (dv 1))) (DK (Dj hr.units (E3 T (dv 0)) (E3 T (dv 1)))))) (Ag (Aq BH)) A7)
 (AS (A5 (Ca (Hw (Bn (Lz T (dv 0))) (Hq (Bn (Lz T (dv 1)))))) (Ag (Aq (C1 (GM hr.units (Ba T (AD (dv 0) AF)) (Ba T (AD (dv 1) AF))) (EO (GM hr.units (AM (CO (esc:=(Ak E9)) (N:=Lm) (tn:=["a","b"]) (fn:=[]) (ix:=[]) rfl rfl rfl ⟨rfl,by decide +kernel,by decide +kernel,by decide +kernel,rfl,by decide +kernel⟩ (Ry rfl T.zip (AD (dv 0) (AD (dv 1) AF))) (fun _ _ _ _ _=>(NB (is:=[0,1]) (n:=2) rfl (Q7 rfl rfl (Le (BF (i:=0) (show (["a","b"]:List Str).Nodup by decide +kernel) rfl (Or.inl rfl)) (Le (BF (i:=1) (show (["a","b"]:List Str).Nodup by decide +kernel) rfl (Or.inl rfl)) Nt))))) (fun _ _ _ _ _=>(Hv (CZ (Bn (Jc zR.G hr rfl zR.m zR.k zR.b (AD (dv 0) (AD (dv 1) AF)) (AK (AK AY))))))) (fun _ _ _ _ _=>AH))) (AM (AX AF))))))) A7)
 (Ag (Aq (C1 (GM hr.units (GC T (dv 0)) (GC T (dv 1))) (EO (GM hr.units (dv 0) (dv 1))))))))
abbrev GK:Stmt:=top 24
abbrev Jb:List Str:=["thing"]
def E4:MS:=(AJ (mIf (mOr (A9 (Ao (Ad "tuple" (AB 0)))) (AV (mOp BO (AR Ah (AA (AB 0) AC)) (mC (.int 2))))) (AZ (mC (.bl false))) Ae)
 (AJ (mIf (mOr (A9 (Ao (Ad "int" (mOp gIx (AB 0) (mC (.int 0)))))) (Ao (Ad "bool" (mOp gIx (AB 0) (mC (.int 0)))))) (AZ (mC (.bl false))) Ae)
 (AJ (mIf (mOr (A9 (Ao (Ad "str" (mOp gIx (AB 0) (mC (.int 1)))))) (mOr (AV (mOp CF (AR Ah (AA (mOp gIx (AB 0) (mC (.int 1))) AC)) (mC (.int 1)))) (AV (mOp gGt (AR Ah (AA (mOp gIx (AB 0) (mC (.int 1))) AC)) (mC (.int 8)))))) (AZ (mC (.bl false))) Ae)
 (AZ (mOp Bg (AE (BD (D0 (mOp gIx (AB 0) (mC (.int 1)))) 1 [] (Ac 0) (AV (mOp Dq (AB 0) (mC (.str "abcdefghijklmnopqrstuvwxyz")))) (AB 0))) (AE (AG AC)))))))
theorem Qt:FnScope Jb ["thing"] (Ak GK):=⟨rfl,rfl,rfl,by decide +kernel,rfl,by decide +kernel,by decide +kernel⟩
theorem Mz {P:Program} {w:World} {K:PySem.W.Frag} {mg:Str->Option Value} {base:Heap} {fa:Addr} {fd:FuncData} (F:Fun K "_law_is_thing" "_law_is_thing" GK fa fd) (T:Nm mg):FnOk P w K mg base CX0 1 fa fd ["thing"] (spD K 1 (mFn 1 (E4))):=
 Bo F Qt fun cdv A outer s H E hr=>(AS (A5 (Ca (Co (CZ (Bn (E3 T (dv 0)))) (DK (Dj hr.units (Ba T (AD (dv 0) AF)) AH)))) (Ag (Aq BH)) A7)
 (AS (A5 (Ca (Co (CZ (Bn (MR T (Ay (dv 0) AH)))) (DK (Bn (Ez T (Ay (dv 0) AH)))))) (Ag (Aq BH)) A7)
 (AS (A5 (Ca (Co (CZ (Bn (GC T (Ay (dv 0) AH)))) (Co (FH (Ba T (AD (Ay (dv 0) AH) AF)) AH) (DK (KP (Ba T (AD (Ay (dv 0) AH) AF)) AH))))) (Ag (Aq BH)) A7)
 (Ag (Aq (Lq hr.units (AM (CO (esc:=(Ak GK)) (N:=Jb) (tn:=["sign"]) (fn:=[]) (ix:=[]) rfl rfl rfl ⟨rfl,by decide +kernel,by decide +kernel,by decide +kernel,rfl,by decide +kernel⟩ (JM (Ay (dv 0) AH)) (fun _ _ _ _ _=>(BR (BF (i:=0) (show (["sign"]:List Str).Nodup by decide +kernel) rfl (Or.inl rfl)))) (fun _ _ _ _ _=>(Hv (PU (dv 0) Ax))) (fun _ _ _ _ _=>(dv 0)))) (AM (AX AF))))))))
abbrev GJ:Stmt:=top 25
abbrev L7:List Str:=["thing","row"]
def ER (zT:MD):MS:=(mIf (mOr (A9 (Ao (Ad "list" (AB 1)))) (AV (mOp BO (AE (BD (Aw (AB 1)) 1 [] (Ac 0) (A9 (Ao (AI zT (AA (AB 0) AC)))) (AB 0))) (AE (AG AC))))) (AZ (mC (.bl false))) Ae)
def HF (zT:MD):MS:=(AJ (mIf (mOr (A9 (Ao (Ad "list" (AB 0)))) (mOr (AV (mOp CF (AR Ah (AA (AB 0) AC)) (mC (.int 1)))) (AV (mOp gGt (AR Ah (AA (AB 0) AC)) (mC (.int 6)))))) (AZ (mC (.bl false))) Ae)
 (AJ (Bf (Aw (AB 0)) (Ac 1) (ER zT))
 (AZ (mC (.bl true)))))
theorem sc__law_due:FnScope L7 ["thing"] (Ak GJ):=⟨rfl,rfl,rfl,by decide +kernel,rfl,by decide +kernel,by decide +kernel⟩
theorem OB {P:Program} {w:World} {K:PySem.W.Frag} {mg:Str->Option Value} {base:Heap} {fa:Addr} {fd:FuncData} (F:Fun K "_law_due" "_law_due" GJ fa fd) (T:Nm mg) {y8:Addr} {y9:FuncData} {zT:MD} (yE:Cal P w K mg base "_law_is_thing" 1 y8 y9 ["thing"] (spD K 1 zT)):FnOk P w K mg base CX0 2 fa fd ["thing"] (spD K 1 (mFn 2 (HF zT))):=
 Bo F sc__law_due fun cdv A outer s H E hr=>(AS (A5 (Ca (Co (CZ (Bn (Et T (dv 0)))) (Co (FH (Ba T (AD (dv 0) AF)) AH) (DK (KP (Ba T (AD (dv 0) AF)) AH))))) (Ag (Aq BH)) A7)
 (AS (D1 PassesOwn.never rfl (CD (dv 0)) (BR (BF (i:=1) sc__law_due.nd rfl (Or.inl rfl))) (Ag (A5 (Ca (Co (CZ (Bn (Et T (dv 1)))) (DK (Dj hr.units (AM (CO (esc:=(Ak GJ)) (N:=L7) (tn:=["one"]) (fn:=[]) (ix:=[]) rfl rfl rfl ⟨rfl,by decide +kernel,by decide +kernel,by decide +kernel,rfl,by decide +kernel⟩ (CD (dv 1)) (fun _ _ _ _ _=>(BR (BF (i:=0) (show (["one"]:List Str).Nodup by decide +kernel) rfl (Or.inl rfl)))) (fun _ _ _ _ _=>(Hv (CZ (Bn (Ab yE.G hr rfl yE.m yE.k yE.b (AD (dv 0) AF) (AK AY)))))) (fun _ _ _ _ _=>(dv 0)))) (AM (AX AF)))))) (Ag (Aq BH)) A7)))
 (Ag (Aq BH))))
abbrev G8:Stmt:=top 26
abbrev Oy:List Str:=["pool","key","tag","at","sign","tags","keys","rows"]
def GS (zB:MD):MS:=(AJ (AL 3 (AI zB (AA (AB 0) (AA (AR Ah (AA (AB 2) AC)) AC))))
 (AJ (AL 4 (mOp gIx (mC (.str "AZaz_09 -.+'\x40[`{~\t\n")) (AI zB (AA (AB 0) (AA (mC (.int 19)) AC)))))
 (AJ (AL 5 (AE (AG (AA (mC (.str "")) (AA (mC (.str "A")) (AA (mC (.str "a1")) (AA (mC (.str "abcdefghi")) (AA (mC .non) (AA (mC (.int 1)) (AA (AE (AG (AA (mC (.str "a")) AC))) (AA (AN (AA (mC (.str "a")) AC)) (AA (mOp AQ (AB 2) (mC (.str "abcdefgh"))) (AA (mC (.bl true)) (AA (mOp AQ (AB 2) (mC (.str " "))) AC))))))))))))))
 (AJ (AL 5 (mOp AQ (AB 5) (AE (Aj As (AE (AG (AA (mOp AQ (mOp AQ (mSl (AB 2) none (some (AB 3))) (AB 4)) (mSl (AB 2) (some (AB 3)) none)) (AA (mOp AQ (mOp AQ (mSl (AB 2) none (some (AB 3))) (AB 4)) (mSl (AB 2) (some (mOp AQ (AB 3) (mC (.int 1)))) none)) (AA (mOp AQ (AB 2) (AB 4)) AC))))) (mC (.int 3))))))
 (AJ (AL 6 (AE (AG (AA (mC (.bl true)) (AA (mC (.bl false)) (AA (mC .non) (AA (AR Ew (AA (AB 1) AC)) (AA (AE (AG (AA (AB 1) AC))) (AA (AN (AA (AB 1) AC)) (AA (mC (.str "")) (AA CC (AA (Hj (AB 1)) (AA (mOp AQ (AB 1) (mC (.int 1))) AC)))))))))))))
 (AJ (AL 7 (mOp AQ (AE (Aj As (AE (AG (AA (AN (AA (mOp gIx (AB 6) (AI zB (AA (AB 0) (AA (mC (.int 10)) AC)))) (AA (AB 2) AC))) AC))) (mC (.int 4)))) (AE (Aj As (AE (AG (AA (AN (AA (AB 1) (AA (mOp gIx (AB 5) (AI zB (AA (AB 0) (AA (mC (.int 20)) AC)))) AC))) AC))) (mC (.int 6))))))
 (AJ (AL 7 (AE (Aj BA (AB 7) (AE (AG (AA (AE (AG (AA (AB 1) (AA (AB 2) AC)))) (AA (AN (AA (AB 1) AC)) (AA (AN (AA (AB 2) (AA (AB 1) AC))) (AA (AN (AA (AB 1) (AA (AB 2) (AA (mC (.int 0)) AC)))) (AA (AB 1) (AA (AB 2) (AA (mC .non) (AA (AN AC) AC)))))))))))))
 (AZ (mOp gIx (AE (Aj BA (AB 7) (AE (AG (AA (FY 1 2) (AA (AN (AA (AB 1) (AA (AB 2) (AA (AB 2) AC)))) AC)))))) (AI zB (AA (AB 0) (AA (mC (.int 20)) AC))))))))))))
theorem sc__law_bad_thing:FnScope Oy ["pool","key","tag"] (Ak G8):=⟨rfl,rfl,rfl,by decide +kernel,rfl,by decide +kernel,by decide +kernel⟩
theorem Ph {P:Program} {w:World} {K:PySem.W.Frag} {mg:Str->Option Value} {base:Heap} {fa:Addr} {fd:FuncData} (F:Fun K "_law_bad_thing" "_law_bad_thing" G8 fa fd) (T:Nm mg) {zJ:Addr} {zK:FuncData} {zB:MD} (zA:Cal P w K mg base "_law_take" 1 zJ zK ["pool","many"] (spD K 2 zB)):FnOk P w K mg base CX0 2 fa fd ["pool","key","tag"] (spD K 3 (mFn 8 (GS zB))):=
 Bo F sc__law_bad_thing fun cdv A outer s H E hr=>(AS (Am (i:=3) sc__law_bad_thing.nd rfl (Or.inl rfl) (Ab zA.G hr rfl zA.m zA.k zA.b (AD (dv 0) (AD (Ba T (AD (dv 2) AF)) AF)) (AK (AK AY))))
 (AS (Am (i:=4) sc__law_bad_thing.nd rfl (Or.inl rfl) (Ay Ax (Ab zA.G hr rfl zA.m zA.k zA.b (AD (dv 0) (AD AH AF)) (AK (AK AY)))))
 (AS (Am (i:=5) sc__law_bad_thing.nd rfl (Or.inl rfl) (AM (AX (AD Ax (AD Ax (AD Ax (AD Ax (AD Cg (AD AH (AD (AM (AX (AD Ax AF))) (AD (A6 (AD Ax AF)) (AD (Az (dv 2) Ax) (AD BH (AD (Az (dv 2) Ax) AF))))))))))))))
 (AS (Am (i:=5) sc__law_bad_thing.nd rfl (Or.inl rfl) (Az (dv 5) (AM (DX (AM (AX (AD (Az (Az (CM (dv 2) CL (B9 (dv 3))) (dv 4)) (CM (dv 2) (B9 (dv 3)) CL)) (AD (Az (Az (CM (dv 2) CL (B9 (dv 3))) (dv 4)) (CM (dv 2) (B9 (Az (dv 3) AH)) CL)) (AD (Az (dv 2) (dv 4)) AF))))) AH))))
 (AS (Am (i:=6) sc__law_bad_thing.nd rfl (Or.inl rfl) (AM (AX (AD BH (AD BH (AD Cg (AD (R5 T (AD (dv 1) AF)) (AD (AM (AX (AD (dv 1) AF))) (AD (A6 (AD (dv 1) AF)) (AD Ax (AD GQ (AD (Rz (dv 1)) (AD (Az (dv 1) AH) AF)))))))))))))
 (AS (Am (i:=7) sc__law_bad_thing.nd rfl (Or.inl rfl) (Az (AM (DX (AM (AX (AD (A6 (AD (Ay (dv 6) (Ab zA.G hr rfl zA.m zA.k zA.b (AD (dv 0) (AD AH AF)) (AK (AK AY)))) (AD (dv 2) AF))) AF))) AH)) (AM (DX (AM (AX (AD (A6 (AD (dv 1) (AD (Ay (dv 5) (Ab zA.G hr rfl zA.m zA.k zA.b (AD (dv 0) (AD AH AF)) (AK (AK AY)))) AF))) AF))) AH))))
 (AS (Am (i:=7) sc__law_bad_thing.nd rfl (Or.inl rfl) (AM (DC (dv 7) (AM (AX (AD (AM (AX (AD (dv 1) (AD (dv 2) AF)))) (AD (A6 (AD (dv 1) AF)) (AD (A6 (AD (dv 2) (AD (dv 1) AF))) (AD (A6 (AD (dv 1) (AD (dv 2) (AD AH AF)))) (AD (dv 1) (AD (dv 2) (AD Cg (AD (A6 AF) AF)))))))))))))
 (Ag (Aq (Ay (AM (DC (dv 7) (AM (AX (AD (Rx (pv 1) (pv 2)) (AD (A6 (AD (dv 1) (AD (dv 2) (AD (dv 2) AF)))) AF)))))) (Ab zA.G hr rfl zA.m zA.k zA.b (AD (dv 0) (AD AH AF)) (AK (AK AY)))))))))))))
abbrev Em:Stmt:=top 27
abbrev Gq:List Str:=["pool","rows","found","hand","row","way","at","odd","some"]
def KZ (zB:MD) (yF:MD):MS:=(ED (AJ (Ey 1 2)
 (AJ (AL 3 (AI zB (AA (AB 0) (AA (Eo 2) AC))))
 (AJ (AL 4 (FN 2 3))
 (AJ (AL 5 (AI zB (AA (AB 0) (AA (mC (.int 8)) AC))))
 (AJ (mIf (Cc (AV (mOp CF (AB 5) (mC (.int 5)))) (AV (mOp BO (AB 4) (AE (AG AC))))) (AJ (AL 6 (AI zB (AA (AB 0) (AA (AR Ah (AA (AB 4) AC)) AC))))
 (AJ (Bs (AB 4) (AB 6) (AI yF (AA (AB 0) (AA (mOp gIx (mOp gIx (AB 4) (AB 6)) (mC (.int 0))) (AA (mOp gIx (mOp gIx (AB 4) (AB 6)) (mC (.int 1))) AC)))))
 (AZ (Ed 2)))) Ae)
 (AJ (mIf (AV (mOp Bg (AB 5) (mC (.int 5)))) (AJ (AL 7 (mOp gIx (AE (AG (AA (mC .non) (AA (AN AC) (AA (AE (AG AC)) (AA (mC (.str "a")) (AA (mC (.int 0)) (AA (AN (AA (mC (.int 1)) (AA (mC (.int 2)) AC))) (AA (AN (AA (mC (.str "a")) (AA (mC (.str "a")) AC))) (AA CC AC)))))))))) (AI zB (AA (AB 0) (AA (mC (.int 8)) AC)))))
 (AJ (FZ (FT (AB 4) (AI zB (AA (AB 0) (AA (mOp AQ (AR Ah (AA (AB 4) AC)) (mC (.int 1))) AC))) (AB 7)))
 (AZ (Ed 2)))) Ae)
 (fun _=>none)))))))
 (AJ (CB 2 (BD (Aw (AB 1)) 1 [] (Ac 0) mTT (AE (Bb DN (AA (AB 0) AC)))))
 (AJ (AL 3 (AI zB (AA (AB 0) (AA (AR Ah (AA (AB 2) AC)) AC))))
 (AJ (AL 4 (mOp gIx (AB 2) (AB 3)))
 (AJ (AL 5 (AI zB (AA (AB 0) (AA (mC (.int 8)) AC))))
 (AJ (mIf (Cc (AV (mOp CF (AB 5) (mC (.int 5)))) (AV (mOp BO (AB 4) (AE (AG AC))))) (fun _=>none) Ae)
 (AJ (mIf (AV (mOp Bg (AB 5) (mC (.int 5)))) (fun _=>none) Ae)
 (AJ (mIf (AV (mOp Bg (AB 5) (mC (.int 6)))) (AJ (Bs (AB 2) (AB 3) (mOp gIx (AE (AG (AA (AR CJ (AA (AB 4) AC)) (AA (mC .non) (AA CC (AA (mC (.str "")) (AA (mC (.int 0)) (AA (AN (AA (mC (.int 1)) (AA (mC (.str "a")) AC))) (AA (AE (AG (AA (AB 4) AC))) (AA (AR C9 (AA (AB 4) AC)) AC)))))))))) (AI zB (AA (AB 0) (AA (mC (.int 8)) AC)))))
 (AZ (AE (GH 2)))) Ae)
 (AJ (AL 8 (AE (AG (AA (mOp AQ (mSl (AB 2) none (some (AB 3))) (mSl (AB 2) (some (mOp AQ (AB 3) (mC (.int 1)))) none)) (AA (AE (Aj BA (AB 2) (AE (AG (AA (AB 4) AC))))) (AA (mOp AQ (AB 2) (AE (Aj As (AE (AG (AA (AE (AG AC)) AC))) (mC (.int 6))))) (AA (AE (AG AC)) (AA (AR CJ (AA (AB 2) AC)) AC))))))))
 (AZ (mOp gIx (AE (Aj BA (AB 8) (AE (AG (AA (mC .non) (AA (AB 4) (AA (FA 0 4) (AA (AE (Aj As (AE (AG (AA (AE (AG AC)) AC))) (mC (.int 6)))) (AA (AE (Aj As (AE (AG (AA (AE (AG AC)) AC))) (mC (.int 7)))) AC))))))))) (AI zB (AA (AB 0) (AA (mC (.int 10)) AC))))))))))))))
theorem sc__law_spoilt:FnScope Gq ["pool","rows"] (Ak Em):=⟨rfl,rfl,rfl,by decide +kernel,rfl,by decide +kernel,by decide +kernel⟩
theorem SN {P:Program} {w:World} {K:PySem.W.Frag} {mg:Str->Option Value} {base:Heap} {fa:Addr} {fd:FuncData} (F:Fun K "_law_spoilt" "_law_spoilt" Em fa fd) (T:Nm mg) {zJ:Addr} {zK:FuncData} {zB:MD} (zA:Cal P w K mg base "_law_take" 1 zJ zK ["pool","many"] (spD K 2 zB)) {xA:Addr} {xB:FuncData} {yF:MD} (yG:Cal P w K mg base "_law_bad_thing" 2 xA xB ["pool","key","tag"] (spD K 3 yF)) (hdict:mg "dict"=none):FnOk P w K mg base CX0 3 fa fd ["pool","rows"] (spD K 2 (mFn 9 (KZ zB yF))):=
 Bo F sc__law_spoilt fun cdv A outer s H E hr=>(RI (AS (O4 (i:=1) (iy:=2) sc__law_spoilt.nd rfl rfl (esc:=(Ak Em)) (N:=Gq) (t1:="row") (fn:=[]) (ix:=[]) rfl rfl rfl ⟨rfl,by decide +kernel,by decide +kernel,by decide +kernel,rfl,by decide +kernel⟩ (pv 1) (fun _ _ _ _ _=>(BF (i:=0) (show (["row"]:List Str).Nodup by decide +kernel) rfl (Or.inl rfl))) (fun _ _ _ _ _=>QM T (pv 0)))
 (AS (Am (i:=3) sc__law_spoilt.nd rfl (Or.inl rfl) (Ab zA.G (hr.mono (by decide)) rfl zA.m zA.k zA.b (AD (dv 0) (AD (N7 T (pv 2)) AF)) (AK (AK AY))))
 (AS (Am (i:=4) sc__law_spoilt.nd rfl (Or.inl rfl) (Sd (pv 2) (pv 3) (fun _ _=>rfl)))
 (AS (Am (i:=5) sc__law_spoilt.nd rfl (Or.inl rfl) (Ab zA.G (hr.mono (by decide)) rfl zA.m zA.k zA.b (AD (dv 0) (AD AH AF)) (AK (AK AY))))
 (AS (A5 (Ca (Hw (FH (dv 5) AH) (Hq (Dj hr.units (dv 4) (AM (AX AF)))))) (AS (Am (i:=6) sc__law_spoilt.nd rfl (Or.inl rfl) (Ab zA.G (hr.mono (by decide)) rfl zA.m zA.k zA.b (AD (dv 0) (AD (Ba T (AD (dv 4) AF)) AF)) (AK (AK AY))))
 (AS (GI (dv 4) (dv 6) (Ab yG.G hr rfl yG.m yG.k yG.b (AD (dv 0) (AD (Ay (Ay (dv 4) (dv 6)) AH) (AD (Ay (Ay (dv 4) (dv 6)) AH) AF))) (AK (AK (AK AY)))))
 (Ag (Aq (MB (pv 2)))))) A7)
 (AS (A5 (HN hr.units (dv 5) AH) (AS (Am (i:=7) sc__law_spoilt.nd rfl (Or.inl rfl) (Ay (AM (AX (AD Cg (AD (A6 AF) (AD (AM (AX AF)) (AD Ax (AD AH (AD (A6 (AD AH (AD AH AF))) (AD (A6 (AD Ax (AD Ax AF))) (AD GQ AF)))))))))) (Ab zA.G (hr.mono (by decide)) rfl zA.m zA.k zA.b (AD (dv 0) (AD AH AF)) (AK (AK AY)))))
 (AS (Pf (Ri (dv 4) (Ab zA.G (hr.mono (by decide)) rfl zA.m zA.k zA.b (AD (dv 0) (AD (Az (Ba T (AD (dv 4) AF)) AH) AF)) (AK (AK AY))) (dv 7)))
 (Ag (Aq (MB (pv 2)))))) A7)
 Gv))))))
 (AS (OE (i:=2) sc__law_spoilt.nd rfl rfl (esc:=(Ak Em)) (N:=Gq) (tn:=["row"]) (fn:=[]) (ix:=[]) rfl rfl rfl ⟨rfl,by decide +kernel,by decide +kernel,by decide +kernel,rfl,by decide +kernel⟩ (CD (dv 1)) (fun _ _ _ _ _=>(BR (BF (i:=0) (show (["row"]:List Str).Nodup by decide +kernel) rfl (Or.inl rfl)))) (fun _ _ _ _ _=>CW) (fun _ _ _ _ _=>(AM (Qg T (AD (dv 0) AF)))))
 (AS (Am (i:=3) sc__law_spoilt.nd rfl (Or.inl rfl) (Ab zA.G (hr.mono (by decide)) rfl zA.m zA.k zA.b (AD (dv 0) (AD (Ba T (AD (dv 2) AF)) AF)) (AK (AK AY))))
 (AS (Am (i:=4) sc__law_spoilt.nd rfl (Or.inl rfl) (Ay (dv 2) (dv 3)))
 (AS (Am (i:=5) sc__law_spoilt.nd rfl (Or.inl rfl) (Ab zA.G (hr.mono (by decide)) rfl zA.m zA.k zA.b (AD (dv 0) (AD AH AF)) (AK (AK AY))))
 (AS (A5 (Ca (Hw (FH (dv 5) AH) (Hq (Dj hr.units (dv 4) (AM (AX AF)))))) Gv A7)
 (AS (A5 (HN hr.units (dv 5) AH) Gv A7)
 (AS (A5 (HN hr.units (dv 5) AH) (AS (GI (dv 2) (dv 3) (Ay (AM (AX (AD (Ia T (AD (dv 4) AF)) (AD Cg (AD GQ (AD Ax (AD AH (AD (A6 (AD AH (AD Ax AF))) (AD (AM (AX (AD (dv 4) AF))) (AD (Ma T hdict rfl (AD (dv 4) AF)) AF)))))))))) (Ab zA.G (hr.mono (by decide)) rfl zA.m zA.k zA.b (AD (dv 0) (AD AH AF)) (AK (AK AY)))))
 (Ag (Aq (AM (Ro (pv 2)))))) A7)
 (AS (Am (i:=8) sc__law_spoilt.nd rfl (Or.inl rfl) (AM (AX (AD (Az (CM (dv 2) CL (B9 (dv 3))) (CM (dv 2) (B9 (Az (dv 3) AH)) CL)) (AD (AM (DC (dv 2) (AM (AX (AD (dv 4) AF))))) (AD (Az (dv 2) (AM (DX (AM (AX (AD (AM (AX AF)) AF))) AH))) (AD (AM (AX AF)) (AD (Ia T (AD (dv 2) AF)) AF))))))))
 (Ag (Aq (Ay (AM (DC (dv 8) (AM (AX (AD Cg (AD (dv 4) (AD (Px (pv 4)) (AD (AM (DX (AM (AX (AD (AM (AX AF)) AF))) AH)) (AD (AM (DX (AM (AX (AD (AM (AX AF)) AF))) AH)) AF))))))))) (Ab zA.G (hr.mono (by decide)) rfl zA.m zA.k zA.b (AD (dv 0) (AD AH AF)) (AK (AK AY)))))))))))))))
abbrev FE:Stmt:=top 28
abbrev Io:List Str:=["script","k","pool","rows","thing","handed","found","many","far","row","at","odd","some","caught"]
def Fb (zM:MDF) (zN:MDF) (zO:MD) (zE:MD) (zI:MD) (zP:MD) (zH:(List D->Option D)) (zB:MD) (zD:MD) (zF:MD):MS:=(AJ (AL 5 (AI zE (AA (AB 4) AC)))
 (AJ (AL 6 (AI zI (AA (AB 5) AC)))
 (AJ (mIf (mOr (A9 (Ao (Ad "bool" (AB 6)))) (AV (mOp BO (AB 6) (AI zP (AA (AB 4) AC))))) (AZ (mC (.bl false))) Ae)
 (mIf (A9 (Ao (EG zH (AA (AB 5) (AA (AB 4) AC))))) (AZ (mC (.bl false))) Ae))))
def Ho (zM:MDF) (zN:MDF) (zO:MD) (zE:MD) (zI:MD) (zP:MD) (zH:(List D->Option D)) (zB:MD) (zD:MD) (zF:MD):MS:=(AJ (CB 2 (Ck zM (AA (AB 0) (AA (AB 1) AC))))
 (AJ (AL 3 (AE (Ck zN (AA (AB 2) (AA (mC (.int 8)) AC)))))
 (AJ (Bf (Aw (AE (Aj BA (AE (AG (AA (AB 3) AC))) (AE (BD (B6 (AA (mC (.int 8)) AC)) 1 [2,3] (Ac 0) mTT (AI zO (AA (AB 1) (AA (AB 2) AC)))))))) (Ac 4) (Fb zM zN zO zE zI zP zH zB zD zF))
 (mIf (AV (mOp C2 (AI zI (AA (AB 3) AC)) (mC (.bl true)))) (AZ (mC (.bl false))) Ae))))
def Iu (zM:MDF) (zN:MDF) (zO:MD) (zE:MD) (zI:MD) (zP:MD) (zH:(List D->Option D)) (zB:MD) (zD:MD) (zF:MD):MS:=(mIf (AV (mOp C2 (AI zI (AA (AB 4) AC)) (mC (.bl true)))) (AZ (mC (.bl false))) Ae)
def HY (zM:MDF) (zN:MDF) (zO:MD) (zE:MD) (zI:MD) (zP:MD) (zH:(List D->Option D)) (zB:MD) (zD:MD) (zF:MD):MS:=(mIf (AV (mOp C2 (AI zI (AA (AB 4) AC)) (mC (.bl false)))) (AZ (mC (.bl false))) Ae)
def Er (zM:MDF) (zN:MDF) (zO:MD) (zE:MD) (zI:MD) (zP:MD) (zH:(List D->Option D)) (zB:MD) (zD:MD) (zF:MD):MS:=(AJ (Bf (B6 (AA (AR FP (AA (mC (.int 1)) (AA (AR E5 (AA (mC (.int 15)) (AA (AR Ah (AA (AB 0) AC)) AC))) AC))) AC)) (Ac 1) (Ho zM zN zO zE zI zP zH zB zD zF))
 (AJ (CB 2 (Ck zM (AA (AB 0) (AA (mC (.int 1)) AC))))
 (AJ (AL 7 (mOp AQ (mC (.int 201)) (AI zB (AA (AB 2) (AA (mC (.int 1800)) AC)))))
 (AJ (AL 8 (mOp Cp (mOp BB (mC (.int 10)) (mC (.int 30))) (mOp AQ (mC (.int 1)) (AI zB (AA (AB 2) (AA (mOp BB (mC (.int 10)) (mC (.int 20))) AC))))))
 (AJ (AL 9 (AE (BD (Aw (AE (AG (AA (mOp BB (mC (.int 10)) (mC (.int 30))) (AA (mOp Cz (mC (.int 0)) (mOp BB (mC (.int 10)) (mC (.int 30)))) (AA (AB 8) AC)))))) 1 [2] (Ac 0) mTT (AN (AA (AB 0) (AA (AI zD (AA (AB 1) AC)) AC))))))
 (AJ (AL 9 (mOp AQ (AB 9) (AE (Aj As (AE (AG (AA (AN (AA (mOp Cp (AI zF (AA (AB 2) (AA (mC (.int 2)) AC))) (mOp BB (mC (.int 10)) (mC (.int 5)))) (AA (mC (.str "a")) AC))) AC))) (AB 7)))))
 (AJ (AL 10 (AI zB (AA (AB 2) (AA (AR Ah (AA (AB 9) AC)) AC))))
 (AJ (AL 11 (mOp gIx (AE (AG (AA (AN (AA (mC (.bl true)) (AA (mC (.str "a")) AC))) (AA (AN (AA (mC (.int 1)) (AA (mC (.str "")) AC))) (AA (AE (AG (AA (mC (.int 1)) (AA (mC (.str "a")) AC)))) (AA (AN (AA (mC (.int 1)) (AA (mC (.str "a")) (AA (mC (.int 1)) AC)))) (AA (mC .non) (AA (AN (AA (mC (.str "1")) (AA (mC (.str "a")) AC))) (AA (AN (AA (mC (.int 1)) (AA (mC (.str "A")) AC))) AC))))))))) (AI zB (AA (AB 2) (AA (mC (.int 7)) AC)))))
 (AJ (Bf (Aw (AE (AG (AA (AE (AG (AA (AB 9) AC))) (AA (AE (AG (AA (mSl (AB 9) none (some (mC (.int 3)))) (AA (AE (AG AC)) AC)))) (AA (AE (Aj As (AE (AG (AA (AE (AG AC)) (AA (AB 9) AC)))) (mC (.int 3)))) AC)))))) (Ac 4) (Iu zM zN zO zE zI zP zH zB zD zF))
 (AJ (mIf (AV (mOp C2 (AI zI (AA (AE (AG (AA (AE (AG AC)) (AA (AE (Aj BA (AE (Aj BA (mSl (AB 9) none (some (AB 10))) (AE (AG (AA (AB 11) AC))))) (mSl (AB 9) (some (mOp AQ (AB 10) (mC (.int 1)))) none))) AC)))) AC)) (mC (.bl false)))) (AZ (mC (.bl false))) Ae)
 (AJ (AL 12 (AE (AG (AA (mC .non) (AA (mC (.int 0)) (AA (mC (.bl true)) (AA (mC (.str "")) (AA (mC (.str "-")) (AA (AN AC) (AA (AE (AG AC)) (AA CC (AA (AE (AG (AA (AN AC) AC))) (AA (AE (AG (AA (mC .non) AC))) (AA (AE (AG (AA (AE (AG (AA (mC .non) AC))) AC))) (AA (AE (AG (AA (AE (AG (AA (AN AC) AC))) AC))) (AA (AN (AA (AE (AG AC)) AC)) AC))))))))))))))))
 (AJ (Bf (Aw (AE (Aj BA (AB 12) (AE (AG (AA (AE (AG (AA (AE (AG (AA (AN (AA (mC (.int 1)) (AA (mC (.str "a")) AC))) AC))) (AA (AN AC) AC)))) (AA (AE (AG (AA (AE (AG (AA (AN (AA (mC (.int 1)) (AA (mC (.str "a")) AC))) (AA (AN (AA (mC (.int 1)) AC)) AC)))) AC))) AC))))))) (Ac 4) (HY zM zN zO zE zI zP zH zB zD zF))
 (AJ (XL.GE 13)
 (AZ (mOp EW (AI zI (AA (AE (AG (AA (AE (AG AC)) AC))) AC)) (mC (.bl true)))))))))))))))))
theorem sc_law:FnScope Io ["script"] (Ak FE):=⟨rfl,rfl,rfl,by decide +kernel,rfl,by decide +kernel,by decide +kernel⟩
theorem On {P:Program} {w:World} {K:PySem.W.Frag} {mg:Str->Option Value} {base:Heap} {fa:Addr} {fd:FuncData} (F:Fun K "law" "law" FE fa fd) (T:Nm mg) {xC:Addr} {xE:FuncData} {zM:MDF} (zS:Cal P w K mg base "_law_pool" 1 xC xE ["script","k"] (spF K 2 zM)) {xF:Addr} {xH:FuncData} {zN:MDF} (yH:Cal P w K mg base "_law_rows" 4 xF xH ["pool","most"] (spF K 2 zN)) {xI:Addr} {xJ:FuncData} {zO:MD} (yI:Cal P w K mg base "_law_spoilt" 3 xI xJ ["pool","rows"] (spD K 2 zO)) {yO:Addr} {yP:FuncData} {zE:MD} (zL:Cal P w K mg base "_law_copy" 6 yO yP ["thing"] (spD K 1 zE)) {xK:Addr} {xL:FuncData} {zI:MD} (zC:Cal P w K mg base "are_rows" 4 xK xL ["thing"] (spD K 1 zI)) {xM:Addr} {xN:FuncData} {zP:MD} (yJ:Cal P w K mg base "_law_due" 2 xM xN ["thing"] (spD K 1 zP)) {yQ:Addr} {yR:FuncData} {zH:(List D->Option D)} (zR:Cal P w K mg base "_law_same" 6 yQ yR ["one","other"] (spQ K 2 zH)) {zJ:Addr} {zK:FuncData} {zB:MD} (zA:Cal P w K mg base "_law_take" 1 zJ zK ["pool","many"] (spD K 2 zB)) {yM:Addr} {yN:FuncData} {zD:MD} (zG:Cal P w K mg base "_law_tag" 2 yM yN ["pool"] (spD K 1 zD)) {yK:Addr} {yL:FuncData} {zF:MD} (zQ:Cal P w K mg base "_law_key" 2 yK yL ["pool","kind"] (spD K 2 zF)) {c1 c2 c3 c4 c5 c6:Addr} (xf:XL.XF K mg c1 c2 c3 c4 c5 c6):FnOk P w K mg base CX0 7 fa fd ["script"] (spD K 1 (mFn 14 (Er zM zN zO zE zI zP zH zB zD zF))):=
 Bo F sc_law fun cdv A outer s H E hr=>(AS (D1 PassesOwn.never rfl (EJ rfl T.range (AD (PD T (AD AH (AD (MX T (AD AH (AD (Ba T (AD (dv 0) AF)) AF))) AF))) AF)) (BR (BF (i:=1) sc_law.nd rfl (Or.inl rfl))) (AS (Ji (i:=2) sc_law.nd rfl (Or.inr rfl) (Gd zS.G (hr.mono (by decide)) rfl zS.m zS.k zS.b (AD (dv 0) (AD (dv 1) AF)) (AK (AK AY))))
 (AS (Am (i:=3) sc_law.nd rfl (Or.inr rfl) (AM (Gd yH.G (hr.mono (by decide)) rfl yH.m yH.k yH.b (AD (dv 2) (AD AH AF)) (AK (AK AY)))))
 (AS (D1 PassesOwn.never rfl (CD (AM (DC (AM (AX (AD (dv 3) AF))) (AM (CO (esc:=(Ak FE)) (N:=Io) (tn:=["turn"]) (fn:=["pool","rows"]) (ix:=[2,3]) rfl rfl rfl ⟨rfl,by decide +kernel,by decide +kernel,by decide +kernel,rfl,by decide +kernel⟩ (EJ rfl T.range (AD AH AF)) (fun _ _ _ _ _=>(BR (BF (i:=0) (show (["turn","pool","rows"]:List Str).Nodup by decide +kernel) rfl (Or.inl rfl)))) (fun _ _ _ _ _=>CW) (fun _ _ _ _ _=>(Ab yI.G (hr.mono (by decide)) rfl yI.m yI.k yI.b (AD (dv 1) (AD (dv 2) AF)) (AK (AK AY))))))))) (BR (BF (i:=4) sc_law.nd rfl (Or.inl rfl))) (AS (Am (i:=5) sc_law.nd rfl (Or.inl rfl) (Ab zL.G hr rfl zL.m zL.k zL.b (AD (dv 4) AF) (AK AY)))
 (AS (Am (i:=6) sc_law.nd rfl (Or.inl rfl) (Ab zC.G (hr.mono (by decide)) rfl zC.m zC.k zC.b (AD (dv 5) AF) (AK AY)))
 (AS (A5 (Ca (Co (CZ (Bn (Ez T (dv 6)))) (DK (Dj hr.units (dv 6) (Ab yJ.G (hr.mono (by decide)) rfl yJ.m yJ.k yJ.b (AD (dv 4) AF) (AK AY)))))) (Ag (Aq BH)) A7)
 (Ag (A5 (CZ (Bn (Jc zR.G hr rfl zR.m zR.k zR.b (AD (dv 5) (AD (dv 4) AF)) (AK (AK AY))))) (Ag (Aq BH)) A7))))))
 (Ag (A5 (Fc (Ab zC.G (hr.mono (by decide)) rfl zC.m zC.k zC.b (AD (dv 3) AF) (AK AY)) BH) (Ag (Aq BH)) A7))))))
 (AS (Ji (i:=2) sc_law.nd rfl (Or.inr rfl) (Gd zS.G (hr.mono (by decide)) rfl zS.m zS.k zS.b (AD (dv 0) (AD AH AF)) (AK (AK AY))))
 (AS (Am (i:=7) sc_law.nd rfl (Or.inl rfl) (Az AH (Ab zA.G (hr.mono (by decide)) rfl zA.m zA.k zA.b (AD (dv 2) (AD AH AF)) (AK (AK AY)))))
 (AS (Am (i:=8) sc_law.nd rfl (Or.inl rfl) (K9 (Cw AH AH) (Az AH (Ab zA.G (hr.mono (by decide)) rfl zA.m zA.k zA.b (AD (dv 2) (AD (Cw AH AH) AF)) (AK (AK AY))))))
 (AS (LN (i:=9) sc_law.nd rfl rfl (esc:=(Ak FE)) (N:=Io) (tn:=["key"]) (fn:=["pool"]) (ix:=[2]) rfl rfl rfl ⟨rfl,by decide +kernel,by decide +kernel,by decide +kernel,rfl,by decide +kernel⟩ (CD (AM (AX (AD (Cw AH AH) (AD (Fv AH (Cw AH AH)) (AD (dv 8) AF)))))) (fun _ _ _ _ _=>(BR (BF (i:=0) (show (["key","pool"]:List Str).Nodup by decide +kernel) rfl (Or.inl rfl)))) (fun _ _ _ _ _=>CW) (fun _ _ _ _ _=>(A6 (AD (dv 0) (AD (Ab zG.G (hr.mono (by decide)) rfl zG.m zG.k zG.b (AD (dv 1) AF) (AK AY)) AF)))))
 (AS (Am (i:=9) sc_law.nd rfl (Or.inl rfl) (Az (dv 9) (AM (DX (AM (AX (AD (A6 (AD (K9 (Ab zQ.G (hr.mono (by decide)) rfl zQ.m zQ.k zQ.b (AD (dv 2) (AD AH AF)) (AK (AK AY))) (Cw AH AH)) (AD Ax AF))) AF))) (dv 7)))))
 (AS (Am (i:=10) sc_law.nd rfl (Or.inl rfl) (Ab zA.G (hr.mono (by decide)) rfl zA.m zA.k zA.b (AD (dv 2) (AD (Ba T (AD (dv 9) AF)) AF)) (AK (AK AY))))
 (AS (Am (i:=11) sc_law.nd rfl (Or.inl rfl) (Ay (AM (AX (AD (A6 (AD BH (AD Ax AF))) (AD (A6 (AD AH (AD Ax AF))) (AD (AM (AX (AD AH (AD Ax AF)))) (AD (A6 (AD AH (AD Ax (AD AH AF)))) (AD Cg (AD (A6 (AD Ax (AD Ax AF))) (AD (A6 (AD AH (AD Ax AF))) AF))))))))) (Ab zA.G (hr.mono (by decide)) rfl zA.m zA.k zA.b (AD (dv 2) (AD AH AF)) (AK (AK AY)))))
 (AS (D1 PassesOwn.never rfl (CD (AM (AX (AD (AM (AX (AD (dv 9) AF))) (AD (AM (AX (AD (CM (dv 9) CL (B9 AH)) (AD (AM (AX AF)) AF)))) (AD (AM (DX (AM (AX (AD (AM (AX AF)) (AD (dv 9) AF)))) AH)) AF)))))) (BR (BF (i:=4) sc_law.nd rfl (Or.inl rfl))) (Ag (A5 (Fc (Ab zC.G (hr.mono (by decide)) rfl zC.m zC.k zC.b (AD (dv 4) AF) (AK AY)) BH) (Ag (Aq BH)) A7)))
 (AS (A5 (Fc (Ab zC.G (hr.mono (by decide)) rfl zC.m zC.k zC.b (AD (AM (AX (AD (AM (AX AF)) (AD (AM (DC (AM (DC (CM (dv 9) CL (B9 (dv 10))) (AM (AX (AD (dv 11) AF))))) (CM (dv 9) (B9 (Az (dv 10) AH)) CL))) AF)))) AF) (AK AY)) BH) (Ag (Aq BH)) A7)
 (AS (Am (i:=12) sc_law.nd rfl (Or.inl rfl) (AM (AX (AD Cg (AD AH (AD BH (AD Ax (AD Ax (AD (A6 AF) (AD (AM (AX AF)) (AD GQ (AD (AM (AX (AD (A6 AF) AF))) (AD (AM (AX (AD Cg AF))) (AD (AM (AX (AD (AM (AX (AD Cg AF))) AF))) (AD (AM (AX (AD (AM (AX (AD (A6 AF) AF))) AF))) (AD (A6 (AD (AM (AX AF)) AF)) AF))))))))))))))))
 (AS (D1 PassesOwn.never rfl (CD (AM (DC (dv 12) (AM (AX (AD (AM (AX (AD (AM (AX (AD (A6 (AD AH (AD Ax AF))) AF))) (AD (A6 AF) AF)))) (AD (AM (AX (AD (AM (AX (AD (A6 (AD AH (AD Ax AF))) (AD (A6 (AD AH AF)) AF)))) AF))) AF))))))) (BR (BF (i:=4) sc_law.nd rfl (Or.inl rfl))) (Ag (A5 (Fc (Ab zC.G (hr.mono (by decide)) rfl zC.m zC.k zC.b (AD (dv 4) AF) (AK AY)) BH) (Ag (Aq BH)) A7)))
 (AS (XL.Pg (i:=13) (n:=6) (m:="why") (by decide) hr.units T PassesOwn.never rfl (XL.EL (XL.EN (XL.EF xf.a1.c.ex PySem.F.excBase_ValueError) xf.a1.kp rfl xf.a1.m (BI DR Bc)) xf.a1.c xf.a1.k1 xf.a1.k2 (XL.EL (XL.EN (XL.EF xf.a2.c.ex PySem.F.excBase_ValueError) xf.a2.kp rfl xf.a2.m (BI DR Bc)) xf.a2.c xf.a2.k1 xf.a2.k2 (XL.EL (XL.EN (XL.EF xf.a3.c.ex PySem.F.excBase_ValueError) xf.a3.kp rfl xf.a3.m (BI DR Bc)) xf.a3.c xf.a3.k1 xf.a3.k2 (XL.EL (XL.EN (XL.EF xf.a4.c.ex PySem.F.excBase_ValueError) xf.a4.kp rfl xf.a4.m (BI DR Bc)) xf.a4.c xf.a4.k1 xf.a4.k2 (XL.EL (XL.EN (XL.EF xf.a5.c.ex PySem.F.excBase_ValueError) xf.a5.kp rfl xf.a5.m (BI DR Bc)) xf.a5.c xf.a5.k1 xf.a5.k2 (XL.EL (XL.EN (XL.EF xf.a6.c.ex PySem.F.excBase_ValueError) xf.a6.kp rfl xf.a6.m (BI DR Bc)) xf.a6.c xf.a6.k1 xf.a6.k2 XL.QZ)))))) (BF (i:=13) sc_law.nd rfl (Or.inl rfl)) (Jp (Ds XL.Ko (by rfl) T.isi PyProof.Rows.boot_isinstance (BI (pv 13) (BI (KI (by rfl) xf.a6.m rfl) Bc)))) (Jp (Ds XL.Ko (by rfl) T.isi PyProof.Rows.boot_isinstance (BI (pv 13) (BI (DV (v:=.ty "ValueError") (by rfl) xf.mV (by decide +kernel) rfl) Bc)))) (LC op_ne (GV (XL.QX hr.units) (by rfl) T.str PyProof.Rows.boot_str (BI (pv 13) Bc)) DR (C8 _)))
 (Ag (Aq (Nn (Ab zC.G (hr.mono (by decide)) rfl zC.m zC.k zC.b (AD (AM (AX (AD (AM (AX AF)) AF))) AF) (AK AY)) BH))))))))))))))))
end DL
namespace DL
open PySem L2
def Pool (Γ:Gm) (n:Nat) (z:Int):Prop:=0<=z/\∃ x y,Γ[n]?=some (some [.int x,.int y,.int z])
def Dr (n:Nat) (z z':Int) (Γ Γ':Gm):Prop:=z<=z'/\∃ x y,Γ'=Γ.set n (some [.int x,.int y,.int z'])
theorem Pool.lt {Γ:Gm} {n:Nat} {z:Int} (h:Pool Γ n z):n<Γ.length:=by
 obtain ⟨_,x,y,e⟩:=h
 exact (List.getElem?_eq_some_iff.mp e).1
theorem Dr.pool {Γ Γ':Gm} {n:Nat} {z z':Int} (p:Pool Γ n z) (h:Dr n z z' Γ Γ'):Pool Γ' n z':=by
 obtain ⟨hz,x,y,rfl⟩:=h
 refine ⟨Int.le_trans p.1 hz,x,y,?_⟩
 rw[List.getElem?_set_self p.lt]
theorem Dr.trans {Γ Γ' Γ'':Gm} {n:Nat} {z z' z'':Int} (a:Dr n z z' Γ Γ') (b:Dr n z' z'' Γ' Γ''):Dr n z z'' Γ Γ'':=by
 obtain ⟨h1,x,y,rfl⟩:=a
 obtain ⟨h2,x',y',rfl⟩:=b
 exact ⟨Int.le_trans h1 h2,x',y',by rw[List.set_set]⟩
theorem Dr.refl {Γ:Gm} {n:Nat} {z:Int} (p:Pool Γ n z):Dr n z z Γ Γ:=by
 obtain ⟨_,x,y,e⟩:=p
 refine ⟨Int.le_refl _,x,y,?_⟩
 obtain ⟨h,e⟩:=List.getElem?_eq_some_iff.mp e
 rw[<-e,List.set_getElem_self]
theorem Dr.len {Γ Γ':Gm} {n:Nat} {z z':Int} (a:Dr n z z' Γ Γ'):Γ'.length=Γ.length:=by
 obtain ⟨_,x,y,rfl⟩:=a
 rw[List.length_set]
theorem take_set {Γ:Gm} {n:Nat} {v:Option (List D)}:(Γ.set n v).take Γ.length=Γ.set n v:=List.take_of_length_le (by rw[List.length_set];exact Nat.le_refl _)
def Ai:MD:=mFn 5 ES
theorem BU {Γ:Gm} {n:Nat} {z m:Int} (p:Pool Γ n z) (hz:z<=1000000) (hm:0<m) (hm2:m<2 ^ 128) :
  ∃ r z' Γ',Ai [.b n,.v (.int m)] Γ=some (.int r,Γ')/\0<=r/\r<m/\z'<=z+1/\Dr n z z' Γ Γ':=by
 have hl:=p.lt
 obtain ⟨z0,x,y,e⟩:=p
 have hb:CP x m=true:=decide_eq_true hm
 have hd:FS x m=true:=decide_eq_true ⟨hm,hm2⟩
 by_cases c:y=1
 ·refine ⟨x % m,z,Γ.set n (some [.int (x / m),.int y,.int z]),?_,Int.emod_nonneg _ (by lia),Int.emod_lt_of_pos _ hm,by lia,Int.le_refl _,_,_,rfl⟩
  subst c
  simp[Ai,mFn,ES,AJ,mIf,AV,mOp,AB,mC,gIx,elems,gEq,DM,Cv,DH,AL,Bs,AZ,gI,e,hb,hd,atI,ixN,take_set]
 ·have e2:(Γ.set n (some [.int x,.int y,.int (z+1)]))[n]?=some (some [.int x,.int y,.int (z+1)]):=List.getElem?_set_self hl
  have a1:0<=x % 9999999589:=Int.emod_nonneg _ (by decide)
  have a2:x % 9999999589<9999999589:=Int.emod_lt_of_pos _ (by decide)
  have b0:CP x 9999999589=true:=rfl
  have b1:BX 31 (z+1)=true:=decide_eq_true (.inl (by decide))
  have b2:BX (x % 9999999589+997) (31 * (z+1)+61)=true:=decide_eq_true (.inl ⟨by lia,by lia⟩)
  have b3:BX 3539 (z+1)=true:=decide_eq_true (.inl (by decide))
  have b4:BX (3539 * (z+1)) (z+1)=true:=decide_eq_true (.inr ⟨by lia,by lia⟩)
  have u1:(x % 9999999589+997) * (31 * (z+1)+61)<=10000001000 * 31000200:=Int.mul_le_mul (by lia) (by lia) (by lia) (by decide)
  have u0:0<=(x % 9999999589+997) * (31 * (z+1)+61):=Int.mul_nonneg (by lia) (by lia)
  have v1:3539 * (z+1) * (z+1)<=3539000000000 * 1000001:=Int.mul_le_mul (by lia) (by lia) (by lia) (by decide)
  have v0:0<=3539 * (z+1) * (z+1):=Int.mul_nonneg (by lia) (by lia)
  have b5:∀ u v:Int,0<=u->u<=10000001000 * 31000200->0<=v->v<=3539000000000 * 1000001->BX (u+v) (u+v)=true:=fun u v h1 h2 h3 h4=>decide_eq_true (.inl ⟨by lia,by lia⟩)
  have b5':=b5 _ _ u0 u1 v0 v1
  have b6:∀ u:Int,CP u 99999999629=true:=fun _=>rfl
  have c1:∀ u:Int,BX (u % 99999999629) (u % 99999999629+43)=true:=fun u=>decide_eq_true (.inl ⟨by have:=Int.emod_nonneg u (show (99999999629:Int)≠0 by decide);lia,by have:=Int.emod_lt_of_pos u (show (0:Int)<99999999629 by decide);lia⟩)
  have b7:∀ u:Int,CP u 99999999911=true:=fun _=>rfl
  have b8:∀ u:Int,FS u 97=true:=fun _=>rfl
  have b9:∀ u:Int,CP u m=true:=fun _=>decide_eq_true hm
  have cd:decide (y=1)=false:=decide_eq_false c
  generalize hu:(x % 9999999589+997) * (31 * (z+1)+61)=u at *
  generalize hv:3539 * (z+1) * (z+1)=v at *
  refine ⟨((u+v) * (u+v) % 99999999629) * ((u+v) * (u+v) % 99999999629+43) % 99999999911 / 97 % m,z+1,Γ.set n (some [.int x,.int y,.int (z+1)]),?_,?_,?_,by lia,by lia,_,_,rfl⟩
  ·simp[Ai,mFn,ES,AJ,mIf,AV,mOp,AB,mC,gIx,elems,gEq,DM,Cv,DH,AL,Bs,AZ,Ae,gI,AQ,e,e2,atI,ixN,b0,b1,b2,b3,b4,b5',b6,c1,b7,b8,b9,cd,hu,hv,c,take_set]
  ·exact Int.emod_nonneg _ (by lia)
  ·exact Int.emod_lt_of_pos _ hm
theorem Hn {g:MG} {b:MS} {items:List D} (P:Nat->DS->Prop) (hs:∀ i d s,items[i]?=some d->P i s->∃ s1 s2,g d s=some s1/\b s1=some (.nx s2)/\P (i+1) s2) {s:DS} (h0:P 0 s):∃ s',Bl g b items s=some (.nx s')/\P items.length s':=by
 have go:∀ (k:Nat) (s:DS),k<=items.length->P k s->∃ s',Bl g b (items.drop k) s=some (.nx s')/\P items.length s':=by
  intro k
  generalize hj:items.length - k=j
  induction j generalizing k with
  | zero=>
   intro s hk p
   have e:k=items.length:=by lia
   subst e
   exact ⟨s,by rw[List.drop_length];rfl,p⟩
  | succ j ih=>
   intro s hk p
   have hlt:k<items.length:=by lia
   obtain ⟨s1,s2,h1,h2,h3⟩:=hs k _ s (List.getElem?_eq_getElem hlt) p
   obtain ⟨s',h4,h5⟩:=ih (k+1) (by lia) s2 hlt h3
   refine ⟨s',?_,h5⟩
   rw[List.drop_eq_getElem_cons hlt]
   show (g _ s).bind _=_
   rw[h1]
   show (b s1).bind _=_
   rw[h2]
   exact h4
 exact go 0 s (Nat.zero_le _) h0
theorem DU {g:MG} {t:MT} {e:ME} {items:List D} (P:Nat->List D->List (Option SV)->Gm->Prop)
  (hs:∀ i d acc τ Γ,items[i]?=some d->P i acc τ Γ->∃ s1 b,g d ⟨τ,Γ,Γ.length⟩=some s1/\t s1=some b/\((b.1=true/\∃ y s2,e b.2=some (.v y,s2)/\s2.Γ.length=Γ.length/\P (i+1) (acc++[y]) s2.σ s2.Γ)\/(b.1=false/\b.2.Γ.length=Γ.length/\P (i+1) acc b.2.σ b.2.Γ)))
  {τ:List (Option SV)} {Γ:Gm} (h0:P 0 [] τ Γ):∃ ys τ' Γ',Bm g t e items τ Γ=some (ys,Γ')/\P items.length ys τ' Γ':=by
 have go:∀ (k:Nat) (acc:List D) (τ:List (Option SV)) (Γ:Gm),k<=items.length->P k acc τ Γ->∃ ys τ' Γ',Bm g t e (items.drop k) τ Γ=some (ys,Γ')/\P items.length (acc++ys) τ' Γ':=by
  intro k
  generalize hj:items.length - k=j
  induction j generalizing k with
  | zero=>
   intro acc τ Γ hk p
   have e:k=items.length:=by lia
   subst e
   exact ⟨[],τ,Γ,by rw[List.drop_length];rfl,by rw[List.append_nil];exact p⟩
  | succ j ih=>
   intro acc τ Γ hk p
   have hlt:k<items.length:=by lia
   obtain ⟨s1,b,h1,h2,h3⟩:=hs k _ acc τ Γ (List.getElem?_eq_getElem hlt) p
   rw[List.drop_eq_getElem_cons hlt]
   rcases h3 with ⟨hb,y,s2,h4,h5,h6⟩ | ⟨hb,h5,h6⟩
   ·obtain ⟨ys,τ',Γ',h7,h8⟩:=ih (k+1) (by lia) (acc++[y]) s2.σ s2.Γ hlt h6
    refine ⟨y::ys,τ',Γ',?_,by simpa using h8⟩
    show (g _ _).bind _=_
    rw[h1]
    show (t s1).bind _=_
    rw[h2]
    show (if b.1=true then _ else _)=_
    rw[if_pos hb,h4]
    show (if s2.Γ.length=Γ.length then _ else _)=_
    rw[if_pos h5,h7]
    rfl
   ·obtain ⟨ys,τ',Γ',h7,h8⟩:=ih (k+1) (by lia) acc b.2.σ b.2.Γ hlt h6
    refine ⟨ys,τ',Γ',?_,h8⟩
    show (g _ _).bind _=_
    rw[h1]
    show (t s1).bind _=_
    rw[h2]
    show (if b.1=true then _ else _)=_
    rw[if_neg (by rw[hb];exact Bool.false_ne_true),if_pos h5]
    exact h7
 obtain ⟨ys,τ',Γ',h1,h2⟩:=go 0 [] τ Γ (Nat.zero_le _) h0
 exact ⟨ys,τ',Γ',h1,by simpa using h2⟩
theorem C4 {α:Type} {xs:List α} {i:Int} (h0:0<=i) (h1:i<(xs.length:Int)):∃ c,atI xs i=some c/\c∈xs:=by
 have e:xs[i.toNat]?=some (xs[i.toNat]'(by lia)):=List.getElem?_eq_getElem (by lia)
 have q:=GB e
 rw[show ((i.toNat:Nat):Int)=i by lia] at q
 exact ⟨_,q,List.getElem_mem _⟩
theorem RZ:("abcdefghijklmnopqrstuvwxyz":Str).cps.toList.length=26:=by decide +kernel
theorem Sb:("abcdefghijklmnopqrstuvwxyz":Str).length<=big:=by decide +kernel
theorem EY {lo:Int} {n i:Nat} {d:D} (h:(upTo lo n)[i]?=some d):i<n/\d=.int (lo+i):=by
 have hi:=(List.getElem?_eq_some_iff.mp h).1
 rw[B4] at hi
 rw[LI lo n i hi] at h
 exact ⟨hi,(Option.some.inj h).symm⟩
theorem EB {Γ:Gm} {n:Nat} (h:Γ.length=n):Γ.take n=Γ:=take_all h
def B7:MD:=mFn 3 (HP Ai)
def Tg (t:Str):Prop:=1<=t.length/\t.length<=8/\∀ c∈t.cps.toList,97<=c/\c<=122
theorem Ru:∀ c∈("abcdefghijklmnopqrstuvwxyz":Str).cps.toList,97<=c/\c<=122:=by decide +kernel
theorem GD {Γ:Gm} {n:Nat} {z:Int} (p:Pool Γ n z) (hz:z<=900000):∃ t z' Γ',B7 [.b n] Γ=some (.str t,Γ')/\Tg t/\z'<=z+9/\Dr n z z' Γ Γ':=by
 obtain ⟨r,z1,Γ1,e1,r0,r1,hz1,d1⟩:=BU (m:=8) p (by lia) (by decide) (by decide)
 have p1:=d1.pool p
 have hr:okR (1+r)=true:=EI (by lia) (by lia)
 obtain ⟨s',e2,t,v,z2,Γ2,rfl,ht,hl,hz2,d2⟩:=Hn (g:=Ac 2) (b:=Hc Ai) (items:=upTo 0 (1+r).toNat)
  (fun i s=>∃ (t:Str) (v:Option SV) (z2:Int) (Γ2:Gm),s=⟨[some (.b n),some (.v (.str t)),v],Γ2,Γ.length⟩/\t.length=i/\(∀ c∈t.cps.toList,97<=c/\c<=122)/\z2<=z+1+i/\Dr n z z2 Γ Γ2) (by
   rintro i d s hd ⟨t,v,z2,Γ2,rfl,ht,hl,hz2,d2⟩
   obtain ⟨hi,rfl⟩:=EY hd
   obtain ⟨q,z3,Γ3,e3,q0,q1,hz3,d3⟩:=BU (m:=26) (d2.pool p) (by lia) (by decide) (by decide)
   obtain ⟨c,hc,hm⟩:=C4 (xs:=("abcdefghijklmnopqrstuvwxyz":Str).cps.toList) (i:=q) q0 (by rw[RZ];exact q1)
   have hb:t.length+(⟨#[c]⟩:Str).length<=big:=by show t.length+1<=1000000;lia
   refine ⟨_,⟨[some (.b n),some (.v (.str (t++⟨#[c]⟩))),some (.v (.int (0+i)))],Γ3,Γ.length⟩,rfl,?_,t++⟨#[c]⟩,_,z3,Γ3,rfl,?_,?_,by lia,d2.trans d3⟩
   ·simp[Hc,Sb,e3,hc,hb]
   ·rw[Str.length_append];show t.length+1=i+1;lia
   ·intro x hx
    have hx:x∈(t.cps++#[c]).toList:=hx
    rw[Array.toList_append,List.mem_append] at hx
    rcases hx with hx | hx
    ·exact hl x hx
    ·rw[List.mem_singleton.mp hx]
     exact Ru c hm) (s:=⟨[some (.b n),some (.v (.str "")),none],Γ1,Γ.length⟩) ⟨"",none,z1,Γ1,rfl,rfl,(fun c hc=>absurd hc (by decide +revert)),by lia,d1⟩
 rw[B4] at ht hz2
 refine ⟨t,z2,Γ2,?_,⟨by lia,by lia,hl⟩,by lia,d2⟩
 simp[B7,HP,e1,hr,e2,EB d2.len]
theorem Ng {z:Str} {l u:Option Int} {c:Nat} (h:c∈(BJ z l u).cps.toList):c∈z.cps.toList:=by
 unfold BJ at h
 split at h
 ·exact h
 ·obtain ⟨j,_,hj⟩:=List.mem_filterMap.mp (by simpa using h)
  exact Array.mem_toList_iff.mpr (Array.mem_of_getElem? hj)
theorem SW {z:Str} {b:Int} (h:1<=z.length) (hb:0<=b):1<=(BJ z none (some (1+b))).length:=by
 unfold BJ
 split
 ·exact h
 ·have hz:0<z.cps.size:=h
  have h0:(0:Nat)∈Builtin.Str.strSliceIndices none (some (1+b)) 1 z.length:=by
   unfold Builtin.Str.strSliceIndices
   simp only[show ¬(1+b<0) by lia,if_false,show ((1:Int) > 0)=True by simp,if_true]
   unfold sliceRange
   simp only[show ((1:Int) > 0)=True by simp,if_true]
   rw[if_pos (by lia)]
   refine List.mem_map.mpr ⟨0,List.mem_range.mpr ?_,by simp⟩
   have:(0:Int)<(max 0 (min (1+b) (z.length:Int)) - 0+1 - 1) / 1:=by lia
   lia
  have hm:z.cps[0]∈(Builtin.Str.strSliceIndices none (some (1+b)) 1 z.length).filterMap (z.cps[·]?):=List.mem_filterMap.mpr ⟨0,h0,Array.getElem?_eq_getElem hz⟩
  show 1<=((Builtin.Str.strSliceIndices none (some (1+b)) 1 z.length).filterMap (z.cps[·]?)).toArray.size
  rw[List.size_toArray]
  exact List.length_pos_of_mem hm
theorem Mu {t:Str} {b:Int} (h:Tg t) (hb:0<=b):Tg (BJ t none (some (1+b))):=⟨SW h.1 hb,Nat.le_trans (FI _ _ _) h.2.1,fun c hc=>h.2.2 c (Ng hc)⟩
def thD (t:Int×Str):D:=.tup [.int t.1,.str t.2]
def AU (ts:List (Int×Str)):D:=.lst (ts.map thD)
def By:MD:=mFn 5 (FL Ai)
def Ky (k:Int):Prop:=k.natAbs<10 ^ 30
theorem JX {Γ:Gm} {n:Nat} {z k:Int} (p:Pool Γ n z) (hz:z<=900000):∃ r z' Γ',By [.b n,.v (.int k)] Γ=some (.int r,Γ')/\z'<=z+5/\Ky r/\Dr n z z' Γ Γ':=by
 by_cases c0:k=0
 ·obtain ⟨r,z1,Γ1,e1,r0,r1,hz1,d1⟩:=BU (m:=3) p (by lia) (by decide) (by decide)
  refine ⟨r,z1,Γ1,?_,by lia,by unfold Ky;lia,d1⟩
  simp[By,FL,e1,c0,EB d1.len]
 by_cases c1:k=1
 ·obtain ⟨r,z1,Γ1,e1,r0,r1,hz1,d1⟩:=BU (m:=40) p (by lia) (by decide) (by decide)
  refine ⟨r - 20,z1,Γ1,?_,by lia,by unfold Ky;lia,d1⟩
  simp[By,FL,e1,c1,EB d1.len]
 obtain ⟨r,z1,Γ1,e1,r0,r1,hz1,d1⟩:=BU (m:=2) p (by lia) (by decide) (by decide)
 obtain ⟨q,z2,Γ2,e2,q0,q1,hz2,d2⟩:=BU (m:=3) (d1.pool p) (by lia) (by decide) (by decide)
 have d12:=d1.trans d2
 have bm:BX 2 r=true:=decide_eq_true (.inl (by decide))
 have bp:GR 10 10=true:=rfl
 obtain ⟨j,hj,j0,j1⟩:∃ j:Int,atI ([.int 1,.int 2,.int 3]:List D) q=some (.int j)/\1<=j/\j<=3:=by
  have:q=0\/q=1\/q=2:=by lia
  rcases this with e | e | e<;>subst e
  ·exact ⟨1,rfl,by decide,by decide⟩
  ·exact ⟨2,rfl,by decide,by decide⟩
  ·exact ⟨3,rfl,by decide,by decide⟩
 have hr:okR j=true:=EI (by lia) (by lia)
 obtain ⟨s',e3,nm,v,z3,Γ3,rfl,hz3,n0,n1,d3⟩:=Hn (g:=Ac 4) (b:=IU Ai) (items:=upTo 0 j.toNat)
  (fun i s=>∃ (nm:Int) (v:Option SV) (z2:Int) (Γ2:Gm),s=⟨[some (.b n),some (.v (.int k)),some (.v (.int (1 - 2 * r))),some (.v (.int nm)),v],Γ2,Γ.length⟩/\z2<=z+2+i/\0<=nm/\nm<10 ^ (10 * i)/\Dr n z z2 Γ Γ2) (by
   rintro i d s hd ⟨nm,v,z2,Γ2,rfl,hz2,n0,n1,d2⟩
   obtain ⟨hi,rfl⟩:=EY hd
   obtain ⟨q,z3,Γ3,e3,q0,q1,hz3,d3⟩:=BU (m:=10 ^ 10) (d2.pool p) (by lia) (by decide) (by decide)
   have bm2:BX nm 10000000000=true:=decide_eq_true (.inr ⟨by decide,by decide⟩)
   refine ⟨_,⟨[some (.b n),some (.v (.int k)),some (.v (.int (1 - 2 * r))),some (.v (.int (nm * 10000000000+q))),some (.v (.int (0+i)))],Γ3,Γ.length⟩,rfl,?_,_,_,z3,Γ3,rfl,by lia,by lia,?_,d2.trans d3⟩
   case refine_2=>
    have e10:(10:Int) ^ (10 * (i+1))=10 ^ (10 * i) * 10000000000:=by rw[Nat.mul_add,Int.pow_add];rfl
    have q1:q<10000000000:=q1
    rw[e10]
    generalize (10:Int) ^ (10 * i)=p at *
    have:nm+1<=p:=n1
    have:=Int.mul_le_mul_of_nonneg_right this (show (0:Int)<=10000000000 by decide)
    lia
   have e3':Ai [.b n,.v (.int 10000000000)] Γ2=some (.int q,Γ3):=e3
   simp[IU,bp,e3',bm2]) (s:=⟨[some (.b n),some (.v (.int k)),some (.v (.int (1 - 2 * r))),some (.v (.int 0)),none],Γ2,Γ.length⟩) ⟨0,none,z2,Γ2,rfl,by lia,by decide,by decide,d12⟩
 rw[B4] at hz3 n1
 have n2:nm<10 ^ 30:=by
  have:j=1\/j=2\/j=3:=by lia
  rcases this with rfl | rfl | rfl
  ·exact Int.lt_trans (show nm<10 ^ 10 from n1) (by decide)
  ·exact Int.lt_trans (show nm<10 ^ 20 from n1) (by decide)
  ·exact n1
 have ky:Ky ((1 - 2 * r) * nm):=by
  have:r=0\/r=1:=by lia
  unfold Ky
  rcases this with rfl | rfl<;>lia
 have bm3:BX (1 - 2 * r) nm=true:=decide_eq_true (.inl ⟨by lia,by lia⟩)
 refine ⟨(1 - 2 * r) * nm,z3,Γ3,?_,by lia,ky,d3⟩
 have b3:(3:Nat)<=big:=by decide
 simp[By,FL,e1,e2,c0,c1,bm,hj,hr,e3,bm3,EB d3.len,b3]
theorem AW {m n:MS} {s s1:DS} (h:m s=some (.nx s1)):AJ m n s=n s1:=by unfold AJ;rw[h];rfl
def Bp {α:Type} (xs:List α) (l u:Option Int):List α:=(xs.drop (HT.sIx xs.length 0 l)).take (HT.sIx xs.length xs.length u - HT.sIx xs.length 0 l)
theorem Jt {α:Type} (f:α->D) (xs:List α) (l u:Option Int):cutD (xs.map f) l u=(Bp xs l u).map f:=by
 unfold cutD Bp
 rw[List.length_map,List.map_take,List.map_drop]
theorem G3 {α:Type} (xs:List α) (l u:Option Int):(Bp xs l u).length<=xs.length:=by
 unfold Bp
 rw[List.length_take,List.length_drop]
 lia
theorem Kh {α:Type} {xs:List α} {l u:Option Int} {x:α} (h:x∈Bp xs l u):x∈xs:=List.mem_of_mem_drop (List.mem_of_mem_take h)
theorem QR {α:Type} (xs:List α) (i:Int) (h0:0<=i) (h1:i<=xs.length):(Bp xs none (some i)).length+(Bp xs (some i) none).length=xs.length:=by
 have e:HT.sIx xs.length xs.length (some i)=i.toNat:=by
  show (if i<0 then (i+(xs.length:Int)).toNat else min i.toNat xs.length)=i.toNat
  rw[if_neg (by lia)]
  lia
 have e0:HT.sIx xs.length 0 (some i)=i.toNat:=by
  show (if i<0 then (i+(xs.length:Int)).toNat else min i.toNat xs.length)=i.toNat
  rw[if_neg (by lia)]
  lia
 unfold Bp
 rw[e,e0,HT.LK,HT.LK]
 simp
 lia
theorem EM (ns:List Int):(sortI ns).length=ns.length:=(sortI_perm ns).length_eq
def FV:MDF:=Cn 7 (E6 Ai By B7)
theorem MC {α β:Type} {f:α->β} {xs:List α} {i:Nat} {d:β} (h:(xs.map f)[i]?=some d):∃ a,xs[i]?=some a/\d=f a:=by
 rw[List.getElem?_map] at h
 cases e:xs[i]? with
 | none=>rw[e] at h;cases h
 | some a=>rw[e] at h;exact ⟨a,rfl,(Option.some.inj h).symm⟩
theorem RP {Γ:Gm} {n:Nat} {z m:Int} (p:Pool Γ n z) (hz:z<=500000) (m0:0<=m) (m1:m<=60) :
  ∃ (ts:List (Int×Str)) (z':Int) (Γ':Gm),FV [.b n,.v (.int m)] Γ=some (ts.map thD,Γ')/\(ts.length:Int)<=m/\(∀ t∈ts,Tg t.2/\Ky t.1)/\z'<=z+7 * m+40/\Dr n z z' Γ Γ':=by
 obtain ⟨kind,z1,Γ1,e1,k0,k1,hz1,d1⟩:=BU (m:=3) p (by lia) (by decide) (by decide)
 obtain ⟨way,z2,Γ2,e2,w0,w1,hz2,d2⟩:=BU (m:=4) (d1.pool p) (by lia) (by decide) (by decide)
 have D2:=d1.trans d2
 obtain ⟨cnt,z3,Γ3,e3,c0,c1,hz3,d3⟩:=BU (m:=m+1) (D2.pool p) (by lia) (by lia) (by lia)
 have D3:=D2.trans d3
 obtain ⟨ys,τ4,Γ4,e4,ks,v4,z4,rfl,hks,hky,rfl,hz4,D4⟩:=DU (g:=Ac 0) (t:=mTT) (e:=AI By (AA (AB 1) (AA (AB 2) AC))) (items:=upTo 0 cnt.toNat)
  (fun i acc τ Γi=>∃ (ks:List Int) (v:Option SV) (zi:Int),acc=ks.map .int/\ks.length=i/\(∀ k∈ks,Ky k)/\τ=[v,some (.b n),some (.v (.int kind))]/\zi<=z+3+5 * i/\Dr n z zi Γ Γi) (by
   rintro i d acc τ Γi hd ⟨ks,v,zi,rfl,hk,hky,rfl,hzi,di⟩
   obtain ⟨hi,rfl⟩:=EY hd
   obtain ⟨r,z5,Γ5,e5,hz5,ky5,d5⟩:=JX (k:=kind) (di.pool p) (by lia)
   refine ⟨_,_,rfl,rfl,.inl ⟨rfl,.int r,⟨[some (.v (.int (0+i))),some (.b n),some (.v (.int kind))],Γ5,Γi.length⟩,?_,d5.len,ks++[r],_,z5,by simp,by simp[hk],fun k hk=>(List.mem_append.mp hk).elim (hky k) fun z=>by rw[List.mem_singleton.mp z];exact ky5,rfl,by lia,di.trans d5⟩⟩
   simp[e5]) (τ:=[none,some (.b n),some (.v (.int kind))]) (Γ:=Γ3) ⟨[],none,z3,rfl,rfl,(fun k h=>nomatch h),rfl,by lia,D3⟩
 rw[B4] at hks hz4
 have k64:ks.length<64:=by lia
 have hr:okR cnt=true:=EI (by lia) (by lia)
 have hbig:cnt.toNat<=big:=by unfold big;lia
 have f3:(AL 4 (AE (BD (B6 (AA (AI Ai (AA (AB 0) (AA (mOp AQ (AB 1) (mC (.int 1))) AC))) AC)) 1 [0,2] (Ac 0) mTT (AI By (AA (AB 1) (AA (AB 2) AC)))))) ⟨[some (.b n),some (.v (.int m)),some (.v (.int kind)),some (.v (.int way)),none,none,none],Γ2,Γ.length⟩
   = some (.nx ⟨[some (.b n),some (.v (.int m)),some (.v (.int kind)),some (.v (.int way)),some (.v (.lst (ks.map .int))),none,none],Γ4,Γ.length⟩):=by
  simp[e3,hr,B4,hbig,e4]
 have f4:∃ ks':List Int,ks'.length=ks.length/\(∀ k∈ks',Ky k)/\(mIf (AV (mOp gEq (AB 3) (mC (.int 1)))) (AL 4 (AE (Bb CV (AA (AB 4) AC)))) Ae) ⟨[some (.b n),some (.v (.int m)),some (.v (.int kind)),some (.v (.int way)),some (.v (.lst (ks.map .int))),none,none],Γ4,Γ.length⟩
   = some (.nx ⟨[some (.b n),some (.v (.int m)),some (.v (.int kind)),some (.v (.int way)),some (.v (.lst (ks'.map .int))),none,none],Γ4,Γ.length⟩):=by
  by_cases c:way=1
  ·exact ⟨sortI ks,EM ks,fun k hk=>hky k ((sortI_perm ks).mem_iff.mp hk),by simp[c,Fw,k64]⟩
  ·exact ⟨ks,rfl,hky,by simp[c]⟩
 obtain ⟨ks1,hk1,hy1,f4⟩:=f4
 have f5:∃ ks':List Int,ks'.length=ks.length/\(∀ k∈ks',Ky k)/\(mIf (AV (mOp gEq (AB 3) (mC (.int 2)))) (AL 4 (AE (Hg (AE (Bb CV (AA (AB 4) AC)))))) Ae) ⟨[some (.b n),some (.v (.int m)),some (.v (.int kind)),some (.v (.int way)),some (.v (.lst (ks1.map .int))),none,none],Γ4,Γ.length⟩
   = some (.nx ⟨[some (.b n),some (.v (.int m)),some (.v (.int kind)),some (.v (.int way)),some (.v (.lst (ks'.map .int))),none,none],Γ4,Γ.length⟩):=by
  by_cases c:way=2
  ·exact ⟨(sortI ks1).reverse,by rw[List.length_reverse,EM,hk1],fun k hk=>hy1 k ((sortI_perm ks1).mem_iff.mp (List.mem_reverse.mp hk)),by simp[c,Fw,show ks1.length<64 by lia]⟩
  ·exact ⟨ks1,hk1,hy1,by simp[c]⟩
 obtain ⟨ks2,hk2,hy2,f5⟩:=f5
 have f6:∃ (ks':List Int) (v:Option SV) (z5:Int) (Γ5:Gm),ks'.length=ks.length/\(∀ k∈ks',Ky k)/\z5<=z4+1/\Dr n z z5 Γ Γ5/\(mIf (AV (mOp gEq (AB 3) (mC (.int 3)))) (AJ (AL 5 (AI Ai (AA (AB 0) (AA (mOp AQ (AR Ah (AA (AB 4) AC)) (mC (.int 1))) AC))))
 (AL 4 (AE (Aj BA (AE (Bb CV (AA (mSl (AB 4) none (some (AB 5))) AC))) (AE (Bb CV (AA (mSl (AB 4) (some (AB 5)) none) AC))))))) Ae) ⟨[some (.b n),some (.v (.int m)),some (.v (.int kind)),some (.v (.int way)),some (.v (.lst (ks2.map .int))),none,none],Γ4,Γ.length⟩
   = some (.nx ⟨[some (.b n),some (.v (.int m)),some (.v (.int kind)),some (.v (.int way)),some (.v (.lst (ks'.map .int))),v,none],Γ5,Γ.length⟩):=by
  by_cases c:way=3
  ·obtain ⟨at_,z5,Γ5,e5,a0,a1,hz5,d5⟩:=BU (m:=(ks2.length:Int)+1) (D4.pool p) (by lia) (by lia) (by lia)
   have hc:=QR ks2 at_ a0 (by lia)
   have hl:(sortI (Bp ks2 none (some at_))).length+(sortI (Bp ks2 (some at_) none)).length<=big:=by rw[EM,EM,hc];unfold big;lia
   refine ⟨sortI (Bp ks2 none (some at_))++sortI (Bp ks2 (some at_) none),some (.v (.int at_)),z5,Γ5,by rw[List.length_append,EM,EM,hc,hk2],fun k hk=>hy2 k ((List.mem_append.mp hk).elim (fun z=>Kh ((sortI_perm _).mem_iff.mp z)) fun z=>Kh ((sortI_perm _).mem_iff.mp z)),hz5,D4.trans d5,?_⟩
   simp[c,e5,Jt,Fw,hl,show (Bp ks2 none (some at_)).length<64 by lia,show (Bp ks2 (some at_) none).length<64 by lia]
  ·exact ⟨ks2,none,z4,Γ4,hk2,hy2,by lia,D4,by simp[c]⟩
 obtain ⟨ks3,v5,z5,Γ5,hk3,hy3,hz5,D5,f6⟩:=f6
 obtain ⟨t1,z6,Γ6,e6,l6,hz6,d6⟩:=GD (D5.pool p) (by lia)
 have D6:=D5.trans d6
 obtain ⟨t2,z7,Γ7,e7,l7,hz7,d7⟩:=GD (D6.pool p) (by lia)
 have D7:=D6.trans d7
 obtain ⟨t3,z8,Γ8,e8,l8,hz8,d8⟩:=GD (D7.pool p) (by lia)
 have D8:=D7.trans d8
 have b3:(3:Nat)<=big:=by decide
 have f7:(AL 6 (AE (AG (AA (AI B7 (AA (AB 0) AC)) (AA (AI B7 (AA (AB 0) AC)) (AA (AI B7 (AA (AB 0) AC)) AC)))))) ⟨[some (.b n),some (.v (.int m)),some (.v (.int kind)),some (.v (.int way)),some (.v (.lst (ks3.map .int))),v5,none],Γ5,Γ.length⟩
   = some (.nx ⟨[some (.b n),some (.v (.int m)),some (.v (.int kind)),some (.v (.int way)),some (.v (.lst (ks3.map .int))),v5,some (.v (.lst [.str t1,.str t2,.str t3]))],Γ8,Γ.length⟩):=by
  simp[e6,e7,e8,b3]
 obtain ⟨ys,τ9,Γ9,e9,ts,v9,z9,rfl,hts,htl,rfl,hz9,D9⟩:=DU (g:=Ac 0) (t:=mTT) (e:=AN (AA (AB 0) (AA (mSl (mOp gIx (AB 1) (AI Ai (AA (AB 2) (AA (mC (.int 3)) AC)))) none (some (mOp AQ (mC (.int 1)) (AI Ai (AA (AB 2) (AA (mC (.int 8)) AC)))))) AC))) (items:=ks3.map .int)
  (fun i acc τ Γi=>∃ (ts:List (Int×Str)) (v:Option SV) (zi:Int),acc=ts.map thD/\ts.length=i/\(∀ t∈ts,Tg t.2/\Ky t.1)/\τ=[v,some (.v (.lst [.str t1,.str t2,.str t3])),some (.b n)]/\zi<=z8+2 * i/\Dr n z zi Γ Γi) (by
   rintro i d acc τ Γi hd ⟨ts,v,zi,rfl,hk,htl,rfl,hzi,di⟩
   obtain ⟨key,hkey,rfl⟩:=MC hd
   have hi:i<ks3.length:=(List.getElem?_eq_some_iff.mp hkey).1
   obtain ⟨a,z10,Γ10,e10,a0,a1,hz10,d10⟩:=BU (m:=3) (di.pool p) (by lia) (by decide) (by decide)
   obtain ⟨b,z11,Γ11,e11,b0,b1,hz11,d11⟩:=BU (m:=8) ((di.trans d10).pool p) (by lia) (by decide) (by decide)
   obtain ⟨tg,htg,hlen⟩:∃ tg:Str,atI ([.str t1,.str t2,.str t3]:List D) a=some (.str tg)/\Tg tg:=by
    have:a=0\/a=1\/a=2:=by lia
    rcases this with e | e | e<;>subst e
    ·exact ⟨t1,rfl,l6⟩
    ·exact ⟨t2,rfl,l7⟩
    ·exact ⟨t3,rfl,l8⟩
   have hb:tg.length<=big:=by have:=hlen.2.1;unfold big;lia
   have b2:(2:Nat)<=big:=by decide
   refine ⟨_,_,rfl,rfl,.inl ⟨rfl,thD (key,BJ tg none (some (1+b))),⟨[some (.v (.int key)),some (.v (.lst [.str t1,.str t2,.str t3])),some (.b n)],Γ11,Γi.length⟩,?_,(d10.trans d11).len,ts++[(key,BJ tg none (some (1+b)))],_,z11,by simp,by simp[hk],?_,rfl,by lia,(di.trans d10).trans d11⟩⟩
   ·simp[e10,htg,hb,e11,b2,thD]
   ·intro t ht
    rcases List.mem_append.mp ht with ht | ht
    ·exact htl t ht
    ·rw[List.mem_singleton] at ht
     subst ht
     exact ⟨Mu hlen b0,hy3 key (List.mem_of_getElem? hkey)⟩) (τ:=[none,some (.v (.lst [.str t1,.str t2,.str t3])),some (.b n)]) (Γ:=Γ8) ⟨[],none,z8,rfl,rfl,(fun t h=>nomatch h),rfl,by lia,D8⟩
 rw[List.length_map] at hts hz9
 have hbig3:ks3.length<=big:=by unfold big;lia
 refine ⟨ts,z9,Γ9,?_,by lia,htl,by lia,D9⟩
 have fin:E6 Ai By B7 ⟨[some (.b n),some (.v (.int m)),none,none,none,none,none],Γ,Γ.length⟩=some (.rf (ts.map thD) ⟨[some (.b n),some (.v (.int m)),some (.v (.int kind)),some (.v (.int way)),some (.v (.lst (ks3.map .int))),v5,some (.v (.lst [.str t1,.str t2,.str t3]))],Γ9,Γ.length⟩):=by
  unfold E6
  rw[AW (s1:=⟨[some (.b n),some (.v (.int m)),some (.v (.int kind)),none,none,none,none],Γ1,Γ.length⟩) (by simp[e1]),
   AW (s1:=⟨[some (.b n),some (.v (.int m)),some (.v (.int kind)),some (.v (.int way)),none,none,none],Γ2,Γ.length⟩) (by simp[e2]),AW f3,AW f4,AW f5,AW f6,AW f7]
  simp[hbig3,e9]
 unfold FV Cn
 show (E6 Ai By B7 ⟨[some (.b n),some (.v (.int m)),none,none,none,none,none],Γ,Γ.length⟩).bind _=_
 rw[fin]
 show some (ts.map thD,Γ9.take Γ.length)=_
 rw[EB D9.len]
abbrev Th:=Int×Str
theorem KW {α:Type} {f:α->D} {xs:List α} {i:Nat} {a:α} (h:xs[i]?=some a):atI (xs.map f) (i:Int)=some (f a):=GB (by rw[List.getElem?_map,h];rfl)
theorem at0 {x y:D}:atI [x,y] 0=some x:=rfl
theorem at1 {x y:D}:atI [x,y] 1=some y:=rfl
theorem Fq {g:MG} {b:MS} {d:D} {r:List D} {s s1 s2:DS} (h1:g d s=some s1) (h2:b s1=some (.nx s2)):Bl g b (d::r) s=Bl g b r s2:=by
 show (g d s).bind _=_
 rw[h1]
 show (b s1).bind _=_
 rw[h2]
 rfl
def Dw:MDF:=Cn 3 Fn
theorem QE {Γ:Gm} {ns:List Int} {k:Nat} (hk:k<=100):∃ x y z:Int,Dw [.v (.scr ns),.v (.int k)] Γ=some ([.int x,.int y,.int z],Γ)/\0<=z/\z<=5000:=by
 have b3:(3:Nat)<=big:=by decide
 have bp:GR 10 18=true:=rfl
 have bm:BX 41 (k:Int)=true:=decide_eq_true (.inl (by decide))
 have tk:Γ.take Γ.length=Γ:=List.take_length
 obtain ⟨c,hc⟩:∃ c:Int,(mIf (AV (mOp CF (AB 1) (AR Ah (AA (AB 0) AC)))) (AL 2 (mOp gIx (AB 0) (AB 1))) Ae) ⟨[some (.v (.scr ns)),some (.v (.int k)),some (.v (.int 0))],Γ,Γ.length⟩=some (.nx ⟨[some (.v (.scr ns)),some (.v (.int k)),some (.v (.int c))],Γ,Γ.length⟩):=by
  by_cases h:k<ns.length
  ·have e:atI ns (k:Int)=some ns[k]:=GB (List.getElem?_eq_getElem h)
   exact ⟨ns[k],by simp[h,e]⟩
  ·exact ⟨0,by simp[h]⟩
 by_cases h:(10:Int) ^ 18<=c
 ·refine ⟨c - 10 ^ 18,1,0,?_,by decide,by decide⟩
  unfold Dw Fn Cn
  show (AJ _ _ ⟨[some (.v (.scr ns)),some (.v (.int k)),none],Γ,Γ.length⟩).bind _=_
  rw[AW (s1:=⟨[some (.v (.scr ns)),some (.v (.int k)),some (.v (.int 0))],Γ,Γ.length⟩) rfl,AW hc]
  have h':(1000000000000000000:Int)<=c:=h
  simp[bp,h',b3]
 ·refine ⟨c,0,41 * k,?_,by lia,by lia⟩
  unfold Dw Fn Cn
  show (AJ _ _ ⟨[some (.v (.scr ns)),some (.v (.int k)),none],Γ,Γ.length⟩).bind _=_
  rw[AW (s1:=⟨[some (.v (.scr ns)),some (.v (.int k)),some (.v (.int 0))],Γ,Γ.length⟩) rfl,AW hc]
  have h':¬(1000000000000000000:Int)<=c:=h
  simp[bp,h',b3,bm]
def Aa (rs:List (List Th)):D:=.lst (rs.map AU)
def EZ:MDF:=Cn 2 (Ik Ai FV)
theorem Pw {Γ:Gm} {n:Nat} {z m:Int} (p:Pool Γ n z) (hz:z<=300000) (m0:0<=m) (m1:m<=60) :
  ∃ (rs:List (List Th)) (z':Int) (Γ':Gm),EZ [.b n,.v (.int m)] Γ=some (rs.map AU,Γ')/\1<=rs.length/\rs.length<=6/\(∀ r∈rs,(r.length:Int)<=m/\∀ t∈r,Tg t.2/\Ky t.1)/\z'<=z+1+6 * (7 * m+40)/\Dr n z z' Γ Γ':=by
 obtain ⟨c,z1,Γ1,e1,c0,c1,hz1,d1⟩:=BU (m:=6) p (by lia) (by decide) (by decide)
 obtain ⟨ys,τ2,Γ2,e2,rs,v2,z2,rfl,hrs,hrl,_,hz2,d2⟩:=DU (g:=Ac 0) (t:=mTT) (e:=AE (Ck FV (AA (AB 1) (AA (AB 2) AC)))) (items:=upTo 0 (1+c).toNat)
  (fun i acc τ Γi=>∃ (rs:List (List Th)) (v:Option SV) (zi:Int),acc=rs.map AU/\rs.length=i/\(∀ r∈rs,(r.length:Int)<=m/\∀ t∈r,Tg t.2/\Ky t.1)/\τ=[v,some (.b n),some (.v (.int m))]/\zi<=z1+i * (7 * m+40)/\Dr n z zi Γ Γi) (by
   rintro i d acc τ Γi hd ⟨rs,v,zi,rfl,hk,hrl,rfl,hzi,di⟩
   obtain ⟨hi,rfl⟩:=EY hd
   have hi6:(i:Int)<=5:=by lia
   have hb:(i:Int) * (7 * m+40)<=5 * (7 * m+40):=Int.mul_le_mul_of_nonneg_right hi6 (by lia)
   obtain ⟨r,z3,Γ3,e3,l3,lt3,hz3,d3⟩:=RP (m:=m) (di.pool p) (by lia) m0 (by lia)
   refine ⟨_,_,rfl,rfl,.inl ⟨rfl,AU r,⟨[some (.v (.int (0+i))),some (.b n),some (.v (.int m))],Γ3,Γi.length⟩,?_,d3.len,rs++[r],_,z3,by simp,by simp[hk],?_,rfl,?_,di.trans d3⟩⟩
   ·simp[e3,AU]
   ·intro q hq
    rcases List.mem_append.mp hq with hq | hq
    ·exact hrl q hq
    ·rw[List.mem_singleton] at hq
     subst hq
     exact ⟨l3,lt3⟩
   ·have:((i+1:Nat):Int) * (7 * m+40)=(i:Int) * (7 * m+40)+(7 * m+40):=by rw[Int.natCast_add,Int.add_mul];simp
    lia) (τ:=[none,some (.b n),some (.v (.int m))]) (Γ:=Γ1) ⟨[],none,z1,rfl,rfl,(fun t h=>nomatch h),rfl,by lia,d1⟩
 rw[B4] at hrs hz2
 have hr:okR (1+c)=true:=EI (by lia) (by lia)
 have hbig:(1+c).toNat<=big:=by unfold big;lia
 refine ⟨rs,z2,Γ2,?_,by lia,by lia,hrl,?_,d2⟩
 ·simp[EZ,Ik,e1,hr,B4,hbig,e2,EB d2.len]
 ·have:(((1+c).toNat:Nat):Int) * (7 * m+40)<=6 * (7 * m+40):=Int.mul_le_mul_of_nonneg_right (by lia) (by lia)
  lia
theorem BW {c:MT} {m n:MS} {s s':DS} (h:c s=some (false,s')):mIf c m n s=n s':=by unfold mIf;rw[h];rfl
theorem B5 {c:MT} {m n:MS} {s s':DS} (h:c s=some (true,s')):mIf c m n s=m s':=by unfold mIf;rw[h];rfl
theorem Bh {m:ME} {s s':DS} {b:Bool} (h:m s=some (.v (.bl b),s')):AV m s=some (b,s'):=by unfold AV;rw[h];rfl
theorem Au {g:Gm->SV->SV->Option D} {a b:ME} {s s1 s2:DS} {x y:SV} {z:D} (h1:a s=some (x,s1)) (h2:b s1=some (y,s2)) (h3:g s2.Γ x y=some z):mOp g a b s=some (.v z,s2):=by
 unfold mOp;rw[h1];show (b s1).bind _=_;rw[h2];show (g s2.Γ x y).map _=_;rw[h3];rfl
theorem Bz {g:Gm->SV->SV->Option (List D)} {a b:ME} {s s1 s2:DS} {x y:SV} {z:List D} (h1:a s=some (x,s1)) (h2:b s1=some (y,s2)) (h3:g s2.Γ x y=some z):Aj g a b s=some (z,s2):=by
 unfold Aj;rw[h1];show (b s1).bind _=_;rw[h2];show (g s2.Γ x y).map _=_;rw[h3];rfl
theorem BP {m:MF} {s s':DS} {xs:List D} (h:m s=some (xs,s')):AE m s=some (.v (.lst xs),s'):=by unfold AE;rw[h];rfl
theorem DJ {mi:MF} {nt:Nat} {ix:List Nat} {g:MG} {t:MT} {e:ME} {s s':DS} {items ys:List D} {Γ':Gm} (h1:mi s=some (items,s')) (hl:items.length<=big) (h2:Bm g t e items (EX nt ix s'.σ) s'.Γ=some (ys,Γ')):BD mi nt ix g t e s=some (ys,{s' with Γ:=Γ'}):=by
 unfold BD;rw[h1,Option.bind_some,if_pos hl,h2];rfl
theorem Cb {g:Gm->List SV->Option D} {m:ME} {s s':DS} {x:SV} {z:D} (h:m s=some (x,s')) (hg:g s'.Γ [x]=some z):AR g (AA m AC) s=some (.v z,s'):=by
 unfold AR AA AC;rw[h];show (g s'.Γ [x]).map _=_;rw[hg];rfl
theorem Ci {M:MD} {m:ME} {s s':DS} {x:SV} {z:D} {Γ':Gm} (h:m s=some (x,s')) (hg:M [x] s'.Γ=some (z,Γ')):AI M (AA m AC) s=some (.v z,{s' with Γ:=Γ'}):=by
 unfold AI AA AC;rw[h];show (M [x] s'.Γ).map _=_;rw[hg];rfl
theorem Cm {M:MD} {m n:ME} {s s1 s2:DS} {x y:SV} {z:D} {Γ':Gm} (h:m s=some (x,s1)) (h2:n s1=some (y,s2)) (hg:M [x,y] s2.Γ=some (z,Γ')):AI M (AA m (AA n AC)) s=some (.v z,{s2 with Γ:=Γ'}):=by
 unfold AI AA AC;rw[h];show (((n s1).bind _).map _).bind _=_;rw[h2];show (M [x,y] s2.Γ).map _=_;rw[hg];rfl
theorem CK {i:Nat} {m:ME} {s s':DS} {x:SV} (h:m s=some (x,s')):AL i m s=some (.nx {s' with σ:=s'.σ.set i (some x)}):=by unfold AL;rw[h];rfl
theorem nil_of {s:DS}:AE (AG AC) s=some (.v (.lst []),s):=by simp[show (0:Nat)<=big from Nat.zero_le _]
theorem Po {g:MG} {b:MS} {d x:D} {r:List D} {s s1 s2:DS} (h1:g d s=some s1) (h2:b s1=some (.rt x s2)):Bl g b (d::r) s=some (.rt x s2):=by
 show (g d s).bind _=_
 rw[h1]
 show (b s1).bind _=_
 rw[h2]
 rfl
theorem CU {m n:MS} {s s1:DS} {d:D} (h:m s=some (.rt d s1)):AJ m n s=some (.rt d s1):=by unfold AJ;rw[h];rfl
theorem SM {M:MD} {a b c:ME} {s s1 s2 s3:DS} {x y w:SV} {z:D} {Γ':Gm} (h1:a s=some (x,s1)) (h2:b s1=some (y,s2)) (h3:c s2=some (w,s3)) (hg:M [x,y,w] s3.Γ=some (z,Γ')):AI M (AA a (AA b (AA c AC))) s=some (.v z,{s3 with Γ:=Γ'}):=by
 unfold AI AA AC;rw[h1];show (((b s1).bind _).map _).bind _=_;rw[h2];show ((((c s2).bind _).map _).map _).bind _=_;rw[h3];show (M [x,y,w] s3.Γ).map _=_;rw[hg];rfl
theorem Qv {m n:ME} {s s1 s2:DS} {x y:D} (h1:m s=some (.v x,s1)) (h2:n s1=some (.v y,s2)):AN (AA m (AA n AC)) s=some (.v (.tup [x,y]),s2):=by
 unfold AN AA AC
 rw[h1]
 show (((n s1).bind _).map _).bind _=_
 rw[h2]
 show (if (2:Nat)<=big then some (SV.v (D.tup [x,y]),s2) else none)=_
 rw[if_pos (by decide)]
theorem Cf {m:ME} {s s':DS} {d:D} (h:m s=some (.v d,s')):AZ m s=some (.rt d s'):=by unfold AZ;rw[h];rfl
end DL
namespace DL
open PySem L2 Ev TXM
def DZ (i:Int):Str:=(toString i:String)
def dg (m:Nat):List Nat:=(Nat.toDigits 10 m).map Char.toNat
theorem Lx (m:Nat):cd (DZ (Int.ofNat m))=dg m:=PySem.W.KIN.signs_num m
theorem Lg (m:Nat):cd (DZ (Int.negSucc m))=45::dg (m+1):=by
 show (PySem.Str.ofString (toString (Int.negSucc m))).cps.toList=_
 rw[PyProof.Rows.signs_ofString]
 show ("-"++Nat.repr (m+1)).toList.map Char.toNat=_
 rw[String.toList_append,List.map_append,Nat.toList_repr]
 rfl
theorem Jw {m c:Nat} (h:c∈dg m):48<=c/\c<=57:=by
 obtain ⟨ch,hch,e⟩:=List.mem_map.mp h
 have r:=PyProof.Rows.digit_range (Nat.isDigit_of_mem_toDigits (by decide) (by decide) hch)
 rw[<-e]
 exact r
theorem HR {m:Nat} (h:m<10):dg m=[48+m]:=by
 unfold dg
 rw[Nat.toDigits_of_lt_base h]
 have:∀ d:Nat,d<10->([Nat.digitChar d].map Char.toNat)=[48+d]:=by decide
 exact this m h
theorem Q1 {m:Nat} (h:¬m<10):dg m=dg (m / 10)++dg (m % 10):=by
 have hm:m % 10<10:=Nat.mod_lt m (by decide)
 have t:Nat.toDigits 10 (m / 10)++Nat.toDigits 10 (m % 10)=Nat.toDigits 10 (10 * (m / 10)+m % 10):=Nat.toDigits_append_toDigits (by decide) (by lia) hm
 rw[Nat.div_add_mod] at t
 unfold dg
 rw[<-t,List.map_append]
theorem HQ:∀ (k m:Nat),m<10 ^ (k+1)->1<=(dg m).length/\(dg m).length<=k+1
 | 0,m,h=>by
  rw[HR (by simpa using h)]
  exact ⟨Nat.le_refl _,Nat.le_refl _⟩
 | k+1,m,h=>by
  by_cases c:m<10
  ·rw[HR c]
   exact ⟨Nat.le_refl _,by simp⟩
  ·have e:10 ^ (k+1+1)=10 * 10 ^ (k+1):=by rw[Nat.pow_succ];lia
   have i:=HQ k (m / 10) (by lia)
   rw[Q1 c,HR (Nat.mod_lt m (by decide)),List.length_append]
   simp only[List.length_singleton]
   lia
theorem Qm {k:Int} (h:Ky k):1<=(DZ k).length/\(DZ k).length<=31:=by
 rw[<-TXM.HU]
 cases k with
 | ofNat m=>
  rw[Lx]
  have:=HQ 29 m h
  lia
 | negSucc m=>
  rw[Lg,List.length_cons]
  have:=HQ 29 (m+1) h
  lia
theorem RD {k:Int} {c:Nat} (h:c∈cd (DZ k)):c=45\/(48<=c/\c<=57):=by
 cases k with
 | ofNat m=>rw[Lx] at h;exact .inr (Jw h)
 | negSucc m=>
  rw[Lg] at h
  rcases List.mem_cons.mp h with h | h
  ·exact .inl h
  ·exact .inr (Jw h)
end DL
namespace DL
open PySem L2
def Fo (x:Str):Prop:=x.cps.all (·<128)=true/\x.length<=1000
def OKD:Nat->D->Prop
 | _,.non=>True
 | _,.bl _=>True
 | _,.int _=>True
 | _,.str x=>Fo x
 | n+1,.lst xs=>xs.length<=5000/\∀ x∈xs,OKD n x
 | n+1,.tup xs=>xs.length<=5000/\∀ x∈xs,OKD n x
 | _,.dic _ ds=>∀ d∈ds,Ap 6 d=true
 | _,_=>False
theorem OKD.up:∀ {n:Nat} {d:D},OKD n d->OKD (n+1) d
 | n,.non,_=>trivial
 | n,.bl _,_=>trivial
 | n,.int _,_=>trivial
 | n,.str _,h=>by cases n<;>exact h
 | 0,.lst _,h=>h.elim
 | 0,.tup _,h=>h.elim
 | 0,.scr _,h=>h.elim
 | n+1,.lst xs,h=>⟨h.1,fun x hx=>(h.2 x hx).up⟩
 | n+1,.tup xs,h=>⟨h.1,fun x hx=>(h.2 x hx).up⟩
 | n+1,.scr _,h=>h.elim
 | n,.dic _ _,h=>by cases n<;>exact h
theorem OKD.le {n m:Nat} {d:D} (h:OKD n d) (hm:n<=m):OKD m d:=by
 induction hm with
 | refl=>exact h
 | step _ ih=>exact ih.up
def Dk:D->Bool
 | .int _=>true
 | _=>false
def CQ (c:Nat):Bool:=decide (97<=c) && decide (c<=122)
def Cy:D->Bool
 | .str x=>decide (1<=(x.length:Int)) && decide ((x.length:Int)<=8) && x.cps.toList.all CQ
 | _=>false
def thB:D->Bool
 | .tup [a,b]=>Dk a && Cy b
 | _=>false
def BS:D->Bool
 | .lst xs=>xs.all thB
 | _=>false
def BK:D->Bool
 | .lst xs=>decide (1<=(xs.length:Int)) && decide ((xs.length:Int)<=6) && xs.all BS
 | _=>false
section
variable {Γ:Gm} {n:Nat}
abbrev s1 (d:D) (Γ:Gm):DS:=⟨[some (.v d)],Γ,Γ.length⟩
theorem EK {m:MS} {d r:D} (h:m (s1 d Γ)=some (.rt r (s1 d Γ))):mFn 1 m [.v d] Γ=some (r,Γ):=by
 show (m (s1 d Γ)).bind _=_
 rw[h]
 show some (r,Γ.take Γ.length)=_
 rw[List.take_length]
theorem C7 {a b:MT} {S:DS} {p q:Bool} (h1:a S=some (p,S)) (h2:b S=some (q,S)):mOr a b S=some (p || q,S):=by
 unfold mOr
 rw[h1]
 cases p
 ·exact h2
 ·rfl
theorem not_of {a:MT} {S:DS} {p:Bool} (h1:a S=some (p,S)):A9 a S=some (!p,S):=by
 unfold A9
 rw[h1]
 rfl
theorem DB {a b:ME} {S:DS} {p q:Bool} (h1:a S=some (.v (.bl p),S)) (h2:p=true->b S=some (.v (.bl q),S)):CA a b S=some (.v (.bl (p && q)),S):=by
 unfold CA
 rw[h1]
 cases p
 ·rfl
 ·exact h2 rfl
def HI:MD:=mFn 1 Ir
theorem MZ {d:D} (h:OKD n d):HI [.v d] Γ=some (.bl (Dk d),Γ):=by
 refine EK ?_
 cases d with
 | scr _=>cases n<;>exact h.elim
 | _=>simp[Ir,Dk]
theorem Pa {c:Nat}:BG Γ (.v (.str "a")) (.v (.str ⟨#[c]⟩))=some (.bl (decide (97<=c))):=by
 have ea:("a":Str).cps.toList=[97]:=by decide +kernel
 show some (D.bl (!decide ([c]<("a":Str).cps.toList)))=_
 rw[ea,<-decide_not]
 congr 2
 exact decide_eq_decide.mpr (by rw[List.cons_lt_cons_iff];simp)
theorem M5 {c:Nat}:BG Γ (.v (.str ⟨#[c]⟩)) (.v (.str "z"))=some (.bl (decide (c<=122))):=by
 have ea:("z":Str).cps.toList=[122]:=by decide +kernel
 show some (D.bl (!decide (("z":Str).cps.toList<[c])))=_
 rw[ea,<-decide_not]
 congr 2
 exact decide_eq_decide.mpr (by rw[List.cons_lt_cons_iff];simp)
theorem Ig {g g':Gm->SV->SV->Option D} {a b c:ME} {S:DS} {x y z:SV} {p q:Bool} (h1:a S=some (x,S)) (h2:b S=some (y,S)) (h3:c S=some (z,S)) (hg:g S.Γ x y=some (.bl p)) (hg':g' S.Γ y z=some (.bl q)):B0 g g' a b c S=some (.v (.bl (p && q)),S):=by
 unfold B0
 rw[h1]
 show (b S).bind _=_
 rw[h2]
 show (g S.Γ x y).bind _=_
 rw[hg]
 cases p
 ·rfl
 ·show (c S).bind _=_
  rw[h3]
  show (g' S.Γ y z).map _=_
  rw[hg']
  rfl
theorem Gj {α:Type} {e:ME} {f:α->D} {b:α->Bool}:∀ {xs:List α} (τ:List (Option SV)),τ.length=1->(∀ x∈xs,e (s1 (f x) Γ)=some (.v (.bl (b x)),s1 (f x) Γ))->Bm (Ac 0) mTT e (xs.map f) τ Γ=some (xs.map fun x=>.bl (b x),Γ)
 | [],τ,_,_=>rfl
 | x::xs,τ,hτ,h=>by
  obtain ⟨v,rfl⟩:∃ v,τ=[v]:=by
   match τ,hτ with
   | [v],_=>exact ⟨v,rfl⟩
  have i:=Gj (xs:=xs) [some (.v (f x))] rfl fun y hy=>h y (List.mem_cons_of_mem _ hy)
  have ec:=h x List.mem_cons_self
  rw[List.map_cons,List.map_cons]
  unfold Bm
  simp only[Ac,Option.bind_some,List.set_cons_zero,mTT,if_true,ec,i,Option.map_some]
theorem all_bools {α:Type} {b:α->Bool} (xs:List α):Dz (xs.map fun x=>D.bl (b x))=some (xs.map b):=by
 have:=L8 (xs.map b)
 rw[List.map_map] at this
 exact this
theorem Ib {α:Type} {b:α->Bool} (xs:List α):Dn Γ [.v (.lst (xs.map fun x=>D.bl (b x)))]=some (.bl (xs.all b)):=by
 simp[all_bools]
def IY:MD:=mFn 1 Fs
theorem OV {d:D} (h:OKD n d):IY [.v d] Γ=some (.bl (Cy d),Γ):=by
 refine EK ?_
 cases d with
 | scr _=>cases n<;>exact h.elim
 | str t=>
  have ha:Fo t:=by cases n<;>exact h
  have hb:t.length<=big:=by have:=ha.2;unfold big;lia
  have g1:AR Ah (AA (AB 0) AC) (s1 (.str t) Γ)=some (.v (.int t.length),s1 (.str t) Γ):=by simp[hb]
  have gc:=Ig (g:=BG) (g':=BG) (a:=mC (.int 1)) (c:=mC (.int 8)) (S:=s1 (.str t) Γ) (x:=.v (.int 1)) (z:=.v (.int 8)) rfl g1 rfl rfl rfl
  have gi:Ao (Ad "str" (AB 0)) (s1 (.str t) Γ)=some (true,s1 (.str t) Γ):=by simp
  have go:mOr (A9 (Ao (Ad "str" (AB 0)))) (A9 (AV (B0 BG BG (mC (.int 1)) (AR Ah (AA (AB 0) AC)) (mC (.int 8))))) (s1 (.str t) Γ)=some (!(decide (1<=(t.length:Int)) && decide ((t.length:Int)<=8)),s1 (.str t) Γ):=by
   exact C7 (not_of gi) (not_of (Bh gc))
  unfold Fs
  have tb:Cy (.str t)=(decide (1<=(t.length:Int)) && decide ((t.length:Int)<=8) && t.cps.toList.all CQ):=rfl
  cases hc:(decide (1<=(t.length:Int)) && decide ((t.length:Int)<=8)) with
  | false=>
   rw[hc] at go
   rw[tb,hc]
   exact CU (B5 go)
  | true=>
   rw[hc] at go
   rw[tb,hc,Bool.true_and]
   have f1:(mIf (mOr (A9 (Ao (Ad "str" (AB 0)))) (A9 (AV (B0 BG BG (mC (.int 1)) (AR Ah (AA (AB 0) AC)) (mC (.int 8)))))) (AZ (mC (.bl false))) Ae) (s1 (.str t) Γ)=some (.nx (s1 (.str t) Γ)):=BW go
   rw[AW f1]
   have hl:(signs t).length<=big:=by unfold signs;rw[List.length_map];exact hb
   have g2:D0 (AB 0) (s1 (.str t) Γ)=some (signs t,s1 (.str t) Γ):=by
    show (if t.cps.all (·<128)=true then some (signs t,_) else none)=_
    rw[if_pos ha.1]
   have e:=Gj (Γ:=Γ) (f:=fun c:Nat=>D.str ⟨#[c]⟩) (b:=CQ) (xs:=t.cps.toList) (e:=B0 BG BG (mC (.str "a")) (AB 0) (mC (.str "z"))) [none] rfl fun c _=>Ig (x:=.v (.str "a")) (y:=.v (.str ⟨#[c]⟩)) (z:=.v (.str "z")) rfl rfl rfl Pa M5
   exact Cf (Cb (BP (DJ (s':=s1 (.str t) Γ) (Γ':=Γ) g2 hl e)) (Ib (b:=CQ) t.cps.toList))
 | _=>simp[Fs,Cy]
def Gi:MD:=mFn 1 (LQ HI IY)
theorem LX {xs:List D}:AR Ah (AA (AB 0) AC) (s1 (.tup xs) Γ)=some (.v (.int xs.length),s1 (.tup xs) Γ):=by simp
theorem Iv {a b:D}:mOp gIx (AB 0) (mC (.int 0)) (s1 (.tup [a,b]) Γ)=some (.v a,s1 (.tup [a,b]) Γ):=by simp[at0]
theorem Iw {a b:D}:mOp gIx (AB 0) (mC (.int 1)) (s1 (.tup [a,b]) Γ)=some (.v b,s1 (.tup [a,b]) Γ):=by simp[at1]
theorem Jk (xs:List D) (h:xs.length≠2):thB (.tup xs)=false:=by
 match xs,h with
 | [],_=>rfl
 | [_],_=>rfl
 | [_,_],h=>exact absurd rfl h
 | _::_::_::_,_=>rfl
theorem Rq {d:D} (h:OKD (n+1) d):Gi [.v d] Γ=some (.bl (thB d),Γ):=by
 refine EK (Cf ?_)
 cases d with
 | scr _=>exact h.elim
 | tup xs=>
  have gi:Ad "tuple" (AB 0) (s1 (.tup xs) Γ)=some (.v (.bl true),s1 (.tup xs) Γ):=by simp
  have gl:mOp Bg (AR Ah (AA (AB 0) AC)) (mC (.int 2)) (s1 (.tup xs) Γ)=some (.v (.bl (decide ((xs.length:Int)=2))),s1 (.tup xs) Γ):=Au LX (y:=.v (.int 2)) (s2:=s1 (.tup xs) Γ) rfl rfl
  by_cases hl:xs.length=2
  ·obtain ⟨a,b,rfl⟩:∃ a b,xs=[a,b]:=by
    match xs,hl with
    | [a,b],_=>exact ⟨a,b,rfl⟩
   have ha:=h.2 a (by simp)
   have hb:=h.2 b (by simp)
   exact DB (p:=true) gi fun _=>DB (p:=true) gl fun _=>DB (Ci Iv (MZ ha)) fun _=>Ci Iw (OV hb)
  ·rw[Jk xs hl]
   rw[decide_eq_false (by lia)] at gl
   exact DB (p:=true) (q:=false) gi fun _=>DB (p:=false) (q:=false) gl fun z=>nomatch z
 | _=>simp[thB]
def GU:MD:=mFn 1 (KS Gi)
theorem S7 {d:D} (h:OKD (n+2) d):GU [.v d] Γ=some (.bl (BS d),Γ):=by
 refine EK (Cf ?_)
 cases d with
 | scr _=>exact h.elim
 | lst xs=>
  have gi:Ad "list" (AB 0) (s1 (.lst xs) Γ)=some (.v (.bl true),s1 (.lst xs) Γ):=by simp
  have hb:xs.length<=big:=by have:=h.1;unfold big;lia
  have e:=Gj (Γ:=Γ) (f:=id) (b:=thB) (xs:=xs) (e:=AI Gi (AA (AB 0) AC)) [none] rfl fun x hx=>Ci (x:=.v x) (s':=s1 x Γ) rfl (Rq (h.2 x hx))
  rw[List.map_id] at e
  exact DB (p:=true) gi fun _=>Cb (BP (DJ (items:=xs) (s':=s1 (.lst xs) Γ) (Γ':=Γ) (by simp) hb e)) (Ib (b:=thB) xs)
 | _=>simp[BS]
def FF:MD:=mFn 1 (LP GU)
theorem Ql {d:D} (h:OKD (n+3) d):FF [.v d] Γ=some (.bl (BK d),Γ):=by
 refine EK (Cf ?_)
 cases d with
 | scr _=>exact h.elim
 | lst xs=>
  have gi:Ad "list" (AB 0) (s1 (.lst xs) Γ)=some (.v (.bl true),s1 (.lst xs) Γ):=by simp
  have hb:xs.length<=big:=by have:=h.1;unfold big;lia
  have gl:AR Ah (AA (AB 0) AC) (s1 (.lst xs) Γ)=some (.v (.int xs.length),s1 (.lst xs) Γ):=by simp
  have gc:=Ig (g:=BG) (g':=BG) (a:=mC (.int 1)) (c:=mC (.int 6)) (S:=s1 (.lst xs) Γ) (x:=.v (.int 1)) (z:=.v (.int 6)) rfl gl rfl rfl rfl
  have e:=Gj (Γ:=Γ) (f:=id) (b:=BS) (xs:=xs) (e:=AI GU (AA (AB 0) AC)) [none] rfl fun x hx=>Ci (x:=.v x) (s':=s1 x Γ) rfl (S7 (h.2 x hx))
  rw[List.map_id] at e
  exact DB (p:=true) gi fun _=>DB gc fun _=>Cb (BP (DJ (items:=xs) (s':=s1 (.lst xs) Γ) (Γ':=Γ) (by simp) hb e)) (Ib (b:=BS) xs)
 | _=>simp[BK]
end
theorem R8 {c:Nat} {j:Str} {Γ:Gm}:Dq Γ (.v (.str ⟨#[c]⟩)) (.v (.str j))=some (.bl (!decide (c∈j.cps.toList))):=by
 show some (D.bl (Builtin.Str.occurrences j ⟨#[c]⟩ 0 j.length 1).isEmpty)=_
 have:=congrArg (!·) (PySem.StrLaws.found_one j c)
 simp only[Bool.not_not] at this
 rw[this]
theorem KD {j:Str} {Γ:Gm}:∀ (cs:List Nat) (v:Option SV),Bm (Ac 0) (AV (mOp Dq (AB 0) (mC (.str j)))) (AB 0) (cs.map fun c=>.str ⟨#[c]⟩) [v] Γ=some ((cs.filter fun c=>!decide (c∈j.cps.toList)).map fun c=>.str ⟨#[c]⟩,Γ)
 | [],_=>rfl
 | c::cs,v=>by
  have i:=KD (j:=j) (Γ:=Γ) cs (some (.v (.str ⟨#[c]⟩)))
  have t:AV (mOp Dq (AB 0) (mC (.str j))) (s1 (.str ⟨#[c]⟩) Γ)=some (!decide (c∈j.cps.toList),s1 (.str ⟨#[c]⟩) Γ):=Bh (Au (x:=.v (.str ⟨#[c]⟩)) (y:=.v (.str j)) (s1:=s1 (.str ⟨#[c]⟩) Γ) (s2:=s1 (.str ⟨#[c]⟩) Γ) rfl rfl R8)
  rw[List.map_cons]
  unfold Bm
  rw[show Ac 0 (.str ⟨#[c]⟩) (⟨[v],Γ,Γ.length⟩:DS)=some (s1 (.str ⟨#[c]⟩) Γ) from rfl]
  simp only[Option.bind_some,t]
  by_cases z:c∈j.cps.toList
  ·rw[List.filter_cons_of_neg (by rw[decide_eq_true z];decide)]
   simp only[decide_eq_true z,Bool.not_true,Bool.false_eq_true,if_false]
   first | exact (if_pos rfl).trans i | exact (if_pos trivial).trans i
  ·rw[List.filter_cons_of_pos (by rw[decide_eq_false z];rfl),List.map_cons]
   simp only[decide_eq_false z,Bool.not_false,if_true,show AB 0 (s1 (.str ⟨#[c]⟩) Γ)=some (.v (.str ⟨#[c]⟩),s1 (.str ⟨#[c]⟩) Γ) from rfl,Option.bind_some]
   rw[i]
   first | rfl | (rw[if_pos rfl];rfl)
theorem IJ {α:Type} (p:α->Bool):∀ cs:List α,(cs.filter fun c=>!p c).isEmpty=cs.all p
 | []=>rfl
 | c::cs=>by
  rw[List.all_cons]
  cases z:p c
  ·rw[List.filter_cons_of_pos (by rw[z];rfl)];rfl
  ·rw[List.filter_cons_of_neg (by rw[z];decide),IJ p cs];rfl
theorem eq_nil {Γ:Gm} {ys:List D}:Bg Γ (.v (.lst ys)) (.v (.lst []))=some (.bl ys.isEmpty):=by cases ys<;>rfl
theorem ne_nil {Γ:Gm} {ys:List D}:BO Γ (.v (.lst ys)) (.v (.lst []))=some (.bl (!ys.isEmpty)):=by cases ys<;>rfl
theorem O1 (c:Nat):decide (c∈("abcdefghijklmnopqrstuvwxyz":Str).cps.toList)=CQ c:=by
 have e:("abcdefghijklmnopqrstuvwxyz":Str).cps.toList=List.range' 97 26:=by decide +kernel
 rw[e]
 unfold CQ
 rw[<-Bool.decide_and]
 exact decide_eq_decide.mpr (by rw[List.mem_range'_1];lia)
section
variable {Γ:Gm} {n:Nat}
theorem Cu {S:DS}:AE (AG AC) S=some (.v (.lst []),S):=nil_of
def Cs:MD:=mFn 1 E4
theorem CS {m:ME} {S:DS} {b:Bool} (h:m S=some (.v (.bl b),S)):Ao m S=some (b,S):=by unfold Ao;rw[h];rfl
theorem C6 {T:String} {m:ME} {S:DS} {x:SV} {b:Bool} (h:m S=some (x,S)) (hl:EH S.Γ x=true) (ht:isT T (tyD x)=some b):Ad T m S=some (.v (.bl b),S):=by
 unfold Ad
 rw[h]
 show (if EH S.Γ x=true then (isT T (tyD x)).map _ else none)=_
 rw[if_pos hl,ht]
 rfl
theorem OKD.live {d:D} (h:OKD n d):EH Γ (.v d)=true:=by
 cases d with
 | scr _=>cases n<;>exact h.elim
 | _=>rfl
theorem P6 {d:D} (h:OKD (n+1) d):Cs [.v d] Γ=some (.bl (thB d),Γ):=by
 refine EK ?_
 cases d with
 | scr _=>exact h.elim
 | tup xs=>
  have gi:Ao (Ad "tuple" (AB 0)) (s1 (.tup xs) Γ)=some (true,s1 (.tup xs) Γ):=by simp
  have gl:AV (mOp BO (AR Ah (AA (AB 0) AC)) (mC (.int 2))) (s1 (.tup xs) Γ)=some (!decide ((xs.length:Int)=2),s1 (.tup xs) Γ):=Bh (Au LX (y:=.v (.int 2)) (s2:=s1 (.tup xs) Γ) rfl rfl)
  have g1:=C7 (not_of gi) gl
  by_cases hl:xs.length=2
  case neg=>
   rw[Jk xs hl]
   rw[decide_eq_false (by lia)] at g1
   exact CU (B5 g1)
  rw[decide_eq_true (by lia)] at g1
  obtain ⟨a,b,rfl⟩:∃ a b,xs=[a,b]:=by
   match xs,hl with
   | [a,b],_=>exact ⟨a,b,rfl⟩
  have ha:=h.2 a (by simp)
  have hb:=h.2 b (by simp)
  let S:=s1 (.tup [a,b]) Γ
  have w1:mIf (mOr (A9 (Ao (Ad "tuple" (AB 0)))) (AV (mOp BO (AR Ah (AA (AB 0) AC)) (mC (.int 2))))) (AZ (mC (.bl false))) Ae S=some (.nx S):=BW g1
  have w2:mOr (A9 (Ao (Ad "int" (mOp gIx (AB 0) (mC (.int 0)))))) (Ao (Ad "bool" (mOp gIx (AB 0) (mC (.int 0))))) S=some (!Dk a,S):=by
   have l1:isT "int" (tyD (.v a))=some (tyD (.v a) == "int" || tyD (.v a) == "bool"):=rfl
   have l2:isT "bool" (tyD (.v a))=some (tyD (.v a) == "bool"):=rfl
   have z:=C7 (not_of (CS (C6 (S:=S) Iv ha.live l1))) (CS (C6 (S:=S) Iv ha.live l2))
   rw[z]
   congr 2
   cases a<;>rfl
  have st:thB (.tup [a,b])=(Dk a && Cy b):=rfl
  rw[st]
  show E4 S=some (.rt (.bl (Dk a && Cy b)) S)
  unfold E4
  rw[AW w1]
  cases hw:Dk a with
  | false=>
   rw[hw] at w2
   exact CU (B5 w2)
  | true=>
   rw[hw] at w2
   have w2':mIf (mOr (A9 (Ao (Ad "int" (mOp gIx (AB 0) (mC (.int 0)))))) (Ao (Ad "bool" (mOp gIx (AB 0) (mC (.int 0)))))) (AZ (mC (.bl false))) Ae S=some (.nx S):=BW w2
   rw[AW w2',Bool.true_and]
   cases b with
   | str t=>
    have ht:Fo t:=by cases n<;>exact hb
    have hz:t.length<=big:=by have:=ht.2;unfold big;lia
    have i1:mOp gIx (AB 0) (mC (.int 1)) S=some (.v (.str t),S):=Iw
    have gs:Ao (Ad "str" (mOp gIx (AB 0) (mC (.int 1)))) S=some (true,S):=CS (C6 i1 rfl rfl)
    have ln:AR Ah (AA (mOp gIx (AB 0) (mC (.int 1))) AC) S=some (.v (.int t.length),S):=Cb i1 (by simp[hz])
    have c1:AV (mOp CF (AR Ah (AA (mOp gIx (AB 0) (mC (.int 1))) AC)) (mC (.int 1))) S=some (decide ((t.length:Int)<1),S):=Bh (Au ln (y:=.v (.int 1)) (s2:=S) rfl rfl)
    have c2:AV (mOp gGt (AR Ah (AA (mOp gIx (AB 0) (mC (.int 1))) AC)) (mC (.int 8))) S=some (decide ((8:Int)<(t.length:Int)),S):=Bh (Au ln (y:=.v (.int 8)) (s2:=S) rfl rfl)
    have w3:=C7 (not_of gs) (C7 c1 c2)
    have tb:Cy (.str t)=(decide (1<=(t.length:Int)) && decide ((t.length:Int)<=8) && t.cps.toList.all CQ):=rfl
    rw[tb]
    by_cases hr:1<=t.length/\t.length<=8
    ·rw[decide_eq_false (by lia),decide_eq_false (by lia)] at w3
     rw[decide_eq_true (by lia),decide_eq_true (by lia)]
     have w3':=BW (m:=AZ (mC (.bl false))) (n:=Ae) w3
     refine (AW w3').trans ?_
     have hl2:(signs t).length<=big:=by unfold signs;rw[List.length_map];exact hz
     have g2:D0 (mOp gIx (AB 0) (mC (.int 1))) S=some (signs t,S):=by
      unfold D0
      rw[i1]
      show (if t.cps.all (·<128)=true then some (signs t,_) else none)=_
      rw[if_pos ht.1]
     have cc:=BP (DJ (mi:=D0 (mOp gIx (AB 0) (mC (.int 1)))) (nt:=1) (ix:=[]) (s':=S) (Γ':=Γ) g2 hl2 (KD (j:="abcdefghijklmnopqrstuvwxyz") (Γ:=Γ) t.cps.toList none))
     refine Cf (Au cc (Cu (S:=S)) ?_)
     rw[eq_nil,List.isEmpty_map]
     have:(fun c=>!decide (c∈("abcdefghijklmnopqrstuvwxyz":Str).cps.toList))=fun c=>!CQ c:=funext fun c=>by rw[O1]
     rw[this,IJ]
     rfl
    ·have hf:(decide ((t.length:Int)<1) || decide ((8:Int)<(t.length:Int)))=true:=by
      rw[Bool.or_eq_true,decide_eq_true_eq,decide_eq_true_eq]
      lia
     have hg:(decide (1<=(t.length:Int)) && decide ((t.length:Int)<=8))=false:=by
      rw[Bool.and_eq_false_iff,decide_eq_false_iff_not,decide_eq_false_iff_not]
      lia
     rw[hf] at w3
     rw[hg]
     exact CU (B5 w3)
   | _=>
    have gs:Ao (Ad "str" (mOp gIx (AB 0) (mC (.int 1)))) S=some (false,S):=CS (C6 (S:=S) Iw hb.live rfl)
    refine CU (B5 (s':=S) ?_)
    unfold mOr A9
    rw[gs]
    rfl
 | _=>simp[E4,thB]
def FB:MD:=mFn 2 (HF Cs)
theorem Sj {xs:List D} (h:∀ x∈xs,OKD (n+1) x):∀ (τ:List (Option SV)),τ.length=1->Bm (Ac 0) (A9 (Ao (AI Cs (AA (AB 0) AC)))) (AB 0) xs τ Γ=some (xs.filter fun x=>!thB x,Γ):=by
 induction xs with
 | nil=>intro _ _;rfl
 | cons x xs ih=>
  intro τ hτ
  obtain ⟨v,rfl⟩:∃ v,τ=[v]:=by
   match τ,hτ with
   | [v],_=>exact ⟨v,rfl⟩
  have i:=ih (fun y hy=>h y (List.mem_cons_of_mem _ hy)) [some (.v x)] rfl
  have t:A9 (Ao (AI Cs (AA (AB 0) AC))) (s1 x Γ)=some (!thB x,s1 x Γ):=not_of (CS (Ci (x:=.v x) (s':=s1 x Γ) rfl (P6 (h x List.mem_cons_self))))
  unfold Bm
  rw[show Ac 0 x (⟨[v],Γ,Γ.length⟩:DS)=some (s1 x Γ) from rfl]
  simp only[Option.bind_some,t]
  cases z:thB x
  ·rw[List.filter_cons_of_pos (by rw[z];rfl)]
   simp only[Bool.not_false,if_true,show AB 0 (s1 x Γ)=some (.v x,s1 x Γ) from rfl,Option.bind_some]
   rw[i]
   first | rfl | (rw[if_pos rfl];rfl)
  ·rw[List.filter_cons_of_neg (by rw[z];decide)]
   simp only[Bool.not_true,Bool.false_eq_true,if_false]
   first | exact (if_pos rfl).trans i | exact (if_pos trivial).trans i
abbrev s2 (d:D) (v:Option SV) (Γ:Gm):DS:=⟨[some (.v d),v],Γ,Γ.length⟩
theorem PB {d x:D} (h:OKD (n+2) x):ER Cs (s2 d (some (.v x)) Γ)=some (if BS x=true then .nx (s2 d (some (.v x)) Γ) else .rt (.bl false) (s2 d (some (.v x)) Γ)):=by
 let S:=s2 d (some (.v x)) Γ
 unfold ER
 cases x with
 | scr _=>exact h.elim
 | lst xs=>
  have gi:Ao (Ad "list" (AB 1)) S=some (true,S):=CS (C6 (x:=.v (.lst xs)) rfl rfl rfl)
  have hb:xs.length<=big:=by have:=h.1;unfold big;lia
  have cc:=BP (DJ (mi:=Aw (AB 1)) (nt:=1) (ix:=[]) (s:=S) (s':=S) (Γ':=Γ) (items:=xs) (by simp[S]) hb (Sj (Γ:=Γ) h.2 [none] rfl))
  have w:=C7 (not_of gi) (Bh (Au (g:=BO) cc (Cu (S:=S)) ne_nil))
  rw[IJ] at w
  have st:BS (.lst xs)=xs.all thB:=rfl
  rw[st]
  cases z:xs.all thB with
  | true=>rw[z] at w;exact BW w
  | false=>rw[z] at w;exact B5 w
 | _=>
  have gi:Ao (Ad "list" (AB 1)) S=some (false,S):=CS (C6 rfl h.live rfl)
  refine B5 (s':=S) ?_
  unfold mOr A9
  rw[gi]
  rfl
theorem JB {d:D}:∀ {xs:List D} (v:Option SV),(∀ x∈xs,OKD (n+2) x)->∃ v',Bl (Ac 1) (ER Cs) xs (s2 d v Γ)=some (if xs.all BS=true then .nx (s2 d v' Γ) else .rt (.bl false) (s2 d v' Γ))
 | [],v,_=>⟨v,rfl⟩
 | x::xs,v,h=>by
  have b:=PB (d:=d) (Γ:=Γ) (h x List.mem_cons_self)
  cases z:BS x with
  | true=>
   rw[z,if_pos rfl] at b
   obtain ⟨v',i⟩:=JB (d:=d) (xs:=xs) (some (.v x)) fun y hy=>h y (List.mem_cons_of_mem _ hy)
   exact ⟨v',(Fq (s1:=s2 d (some (.v x)) Γ) rfl b).trans (by rw[i,List.all_cons,z,Bool.true_and])⟩
  | false=>
   rw[z,if_neg (by decide)] at b
   exact ⟨some (.v x),(Po (s1:=s2 d (some (.v x)) Γ) rfl b).trans (by rw[List.all_cons,z,Bool.false_and,if_neg (by decide)])⟩
theorem G6 {m:MS} {d r:D} {v:Option SV} (h:m (s2 d none Γ)=some (.rt r (s2 d v Γ))):mFn 2 m [.v d] Γ=some (r,Γ):=by
 show (m (s2 d none Γ)).bind _=_
 rw[h]
 show some (r,Γ.take Γ.length)=_
 rw[List.take_length]
theorem O7 {d:D} (h:OKD (n+3) d):FB [.v d] Γ=some (.bl (BK d),Γ):=by
 cases d with
 | scr _=>exact h.elim
 | lst xs=>
  let S:=s2 (.lst xs) none Γ
  have gi:Ao (Ad "list" (AB 0)) S=some (true,S):=CS (C6 (x:=.v (.lst xs)) rfl rfl rfl)
  have ln:AR Ah (AA (AB 0) AC) S=some (.v (.int xs.length),S):=by simp[S]
  have c1:AV (mOp CF (AR Ah (AA (AB 0) AC)) (mC (.int 1))) S=some (decide ((xs.length:Int)<1),S):=Bh (Au ln (y:=.v (.int 1)) (s2:=S) rfl rfl)
  have c2:AV (mOp gGt (AR Ah (AA (AB 0) AC)) (mC (.int 6))) S=some (decide ((6:Int)<(xs.length:Int)),S):=Bh (Au ln (y:=.v (.int 6)) (s2:=S) rfl rfl)
  have w:=C7 (not_of gi) (C7 c1 c2)
  have st:BK (.lst xs)=(decide (1<=(xs.length:Int)) && decide ((xs.length:Int)<=6) && xs.all BS):=rfl
  rw[st]
  by_cases hr:1<=xs.length/\xs.length<=6
  ·rw[decide_eq_false (by lia),decide_eq_false (by lia)] at w
   rw[decide_eq_true (by lia),decide_eq_true (by lia)]
   obtain ⟨v',l⟩:=JB (d:=.lst xs) (Γ:=Γ) none h.2
   refine G6 (v:=v') ?_
   unfold HF
   have w':=BW (m:=AZ (mC (.bl false))) (n:=Ae) w
   refine (AW w').trans ?_
   have f:Bf (Aw (AB 0)) (Ac 1) (ER Cs) S=Bl (Ac 1) (ER Cs) xs S:=by
    show (Aw (AB 0) S).bind _=_
    rw[show Aw (AB 0) S=some (xs,S) by simp[S]]
    rfl
   cases z:xs.all BS with
   | true=>
    rw[z,if_pos rfl] at l
    exact (AW (f.trans l)).trans rfl
   | false=>
    rw[z,if_neg (by decide)] at l
    exact CU (f.trans l)
  ·have hf:(decide ((xs.length:Int)<1) || decide ((6:Int)<(xs.length:Int)))=true:=by
    rw[Bool.or_eq_true,decide_eq_true_eq,decide_eq_true_eq]
    lia
   have hg:(decide (1<=(xs.length:Int)) && decide ((xs.length:Int)<=6))=false:=by
    rw[Bool.and_eq_false_iff,decide_eq_false_iff_not,decide_eq_false_iff_not]
    lia
   rw[hf] at w
   rw[hg]
   exact G6 (v:=none) (CU (B5 w))
 | _=>
  refine G6 (v:=none) (CU (B5 ?_))
  unfold mOr A9
  rw[show Ao (Ad "list" (AB 0)) _=some (false,_) from CS (C6 rfl h.live rfl)]
  rfl
end
end DL
namespace DL
open PySem L2
open Classical in
def CG:Nat->MD
 | 0,_,_=>none
 | n+1,[.v a],Γ=>if OKD n a then some (a,Γ) else none
 | _,_,_=>none
open Classical in
theorem G5 (n:Nat) (a:D) (Γ:Gm):CG (n+1) [.v a] Γ=if OKD n a then some (a,Γ) else none:=by simp[CG]
open Classical in
def Bv:Nat->List D->Option D
 | 0,_=>none
 | n+1,[a,b]=>if a=b/\OKD n a then some (.bl true) else none
 | _,_=>none
open Classical in
theorem HC (n:Nat) (a b:D):Bv (n+1) [a,b]=if a=b/\OKD n a then some (D.bl true) else none:=by simp[Bv]
theorem QO:∀ {xs:List D} {i:Nat} {d:D},(Bd xs xs)[i]?=some d->∃ x∈xs,d=.tup [x,x]:=fun {xs i d} h=>by
 obtain ⟨x,y,h1,h2,rfl⟩:=Il h
 rw[h1] at h2
 cases h2
 exact ⟨x,List.mem_of_getElem? h1,rfl⟩
theorem Ly {n:Nat} {xs:List D} {Γ:Gm} (hg:∀ x∈xs,OKD n x):Bm (Ac 0) mTT (AI (CG (n+1)) (AA (AB 0) AC)) xs [none] Γ=some (xs,Γ):=by
 obtain ⟨ys,τ',Γ',e,rfl,h2,_⟩:=DU (g:=Ac 0) (t:=mTT) (e:=AI (CG (n+1)) (AA (AB 0) AC)) (items:=xs)
  (fun i acc τ Γi=>acc=xs.take i/\Γi=Γ/\∃ v,τ=[v]) (by
   rintro i d acc τ Γi hd ⟨rfl,hΓ,v,rfl⟩
   subst Γi
   have hm:d∈xs:=List.mem_of_getElem? hd
   have e:CG (n+1) [.v d] Γ=some (d,Γ):=by rw[G5,if_pos (hg d hm)]
   refine ⟨_,_,rfl,rfl,.inl ⟨rfl,d,⟨[some (.v d)],Γ,Γ.length⟩,?_,rfl,?_,rfl,_,rfl⟩⟩
   ·simp[e]
   ·rw[List.take_add_one,hd];rfl) (τ:=[none]) (Γ:=Γ) ⟨rfl,rfl,none,rfl⟩
 rw[e,List.take_length,h2]
theorem RF {n:Nat} {ds:List SV} {Γ:Gm} {r:D×Gm} (h:CG (n+1) ds Γ=some r):mFn 1 (FK (CG n)) ds Γ=some r:=by
 have tk:Γ.take Γ.length=Γ:=List.take_length
 match ds,h with
 | [.v a],h=>
  rw[G5] at h
  split at h
  case isFalse=>cases h
  rename_i hg
  cases h
  cases a with
  | scr ns=>cases n<;>exact hg.elim
  | lst xs=>
   cases n with
   | zero=>exact hg.elim
   | succ n=>
    obtain ⟨hl,hg⟩:=hg
    have e:=Ly (Γ:=Γ) hg
    have hb:xs.length<=big:=by unfold big;lia
    simp[FK,hb,e]
  | tup xs=>
   cases n with
   | zero=>exact hg.elim
   | succ n=>
    obtain ⟨hl,hg⟩:=hg
    have e:=Ly (Γ:=Γ) hg
    have hb:xs.length<=big:=by unfold big;lia
    simp[FK,hb,e]
  | _=>simp[FK]
theorem MJ {n:Nat} {xs:List D} (hg:∀ x∈xs,OKD n x):Bm (FC [0,1]) (A9 (Ao (EG (Bv (n+1)) (AA (AB 0) (AA (AB 1) AC))))) (mC (.int 1)) (Bd xs xs) [none,none] []=some ([],[]):=by
 obtain ⟨ys,τ',Γ',e,rfl,rfl,_⟩:=DU (g:=FC [0,1]) (t:=A9 (Ao (EG (Bv (n+1)) (AA (AB 0) (AA (AB 1) AC))))) (e:=mC (.int 1)) (items:=Bd xs xs)
  (fun _ acc τ Γ=>acc=[]/\Γ=[]/\∃ a b,τ=[a,b]) (by
   rintro i d acc τ Γ hd ⟨rfl,rfl,a,b,rfl⟩
   obtain ⟨x,hx,rfl⟩:=QO hd
   have e:Bv (n+1) [x,x]=some (.bl true):=by rw[HC,if_pos ⟨rfl,hg x hx⟩]
   refine ⟨_,(false,⟨[some (.v x),some (.v x)],[],0⟩),rfl,?_,.inr ⟨rfl,rfl,rfl,rfl,_,_,rfl⟩⟩
   simp[e]) (τ:=[none,none]) (Γ:=[]) ⟨rfl,rfl,none,none,rfl⟩
 exact e
theorem M3 {ks:List Key} {ds:List D} {Γ:Gm} (h:∀ d∈ds,Ap 6 d=true):Ei Γ (.v (.dic ks ds)) (.v (.dic ks ds))=some (.bl true):=by
 unfold Ei
 refine if_pos ⟨rfl,rfl,List.all_eq_true.mpr fun p hp=>?_⟩
 obtain ⟨j,hj⟩:=List.mem_iff_getElem?.mp hp
 rw[List.getElem?_zip_eq_some] at hj
 have e:p.1=p.2:=Option.some.inj (hj.1.symm.trans hj.2)
 have s:=h p.1 (List.mem_of_getElem? hj.1)
 rw[<-e,s,Lj s]
 rfl
theorem Nl {n:Nat} {ds:List D} {r:D} (h:Bv (n+1) ds=some r):mFn 2 (DQ (Bv n)) (ds.map .v) []=some (r,[]):=by
 match ds,h with
 | [a,b],h=>
  rw[HC] at h
  split at h
  case isFalse=>cases h
  rename_i hg
  obtain ⟨rfl,hg⟩:=hg
  cases h
  have b0:(0:Nat)<=big:=Nat.zero_le _
  cases a with
  | scr ns=>cases n<;>exact hg.elim
  | dic ks es=>
   have hs:∀ d∈es,Ap 6 d=true:=by cases n<;>exact hg
   have e:=M3 (ks:=ks) (Γ:=[]) hs
   have e':CY [] (.v (.dic ks es)) (.v (.dic ks es))=some (.bl true):=by
    unfold CY
    rw[e]
   have w:mOp CY (AB 0) (AB 1) (⟨[some (.v (.dic ks es)),some (.v (.dic ks es))],[],0⟩:DS)=some (.v (.bl true),⟨[some (.v (.dic ks es)),some (.v (.dic ks es))],[],0⟩):=Au (x:=.v (.dic ks es)) (y:=.v (.dic ks es)) rfl rfl e'
   have w2:mOp CY (Ad "str" (AB 0)) (Ad "str" (AB 1)) (⟨[some (.v (.dic ks es)),some (.v (.dic ks es))],[],0⟩:DS)=some (.v (.bl true),⟨[some (.v (.dic ks es)),some (.v (.dic ks es))],[],0⟩):=by simp
   have w3:=DB w2 fun _=>w
   show (DQ (Bv n) ⟨[some (.v (.dic ks es)),some (.v (.dic ks es))],[],0⟩).bind _=_
   unfold DQ
   have f1:mIf (mOr (AV (mOp BO (Ad "bool" (AB 0)) (Ad "bool" (AB 1)))) (AV (mOp BO (Ad "tuple" (AB 0)) (Ad "tuple" (AB 1))))) (AZ (mC (.bl false))) Ae (⟨[some (.v (.dic ks es)),some (.v (.dic ks es))],[],0⟩:DS)=some (.nx ⟨[some (.v (.dic ks es)),some (.v (.dic ks es))],[],0⟩):=by simp
   rw[AW f1]
   have f2:∀ m:ME,mIf (Cc (Ao (Ep ["list","tuple"] (AB 0))) (Ao (Ep ["list","tuple"] (AB 1)))) (AZ m) Ae (⟨[some (.v (.dic ks es)),some (.v (.dic ks es))],[],0⟩:DS)=some (.nx ⟨[some (.v (.dic ks es)),some (.v (.dic ks es))],[],0⟩):=fun m=>by simp
   rw[AW (f2 _),Cf w3]
   rfl
  | lst xs=>
   cases n with
   | zero=>exact hg.elim
   | succ n=>
    obtain ⟨hl,hg⟩:=hg
    have hz:(Bd xs xs).length<=big:=by rw[FO (Nat.le_refl _)];unfold big;lia
    have e:=MJ hg
    simp[DQ,hz,e,b0]
  | tup xs=>
   cases n with
   | zero=>exact hg.elim
   | succ n=>
    obtain ⟨hl,hg⟩:=hg
    have hz:(Bd xs xs).length<=big:=by rw[FO (Nat.le_refl _)];unfold big;lia
    have e:=MJ hg
    simp[DQ,hz,e,b0]
  | non=>
   have s:Ap 6 D.non=true:=by unfold Ap;rfl
   simp[DQ,s,Lj s]
  | _=>simp[DQ]
section
variable {P:Program} {w:World} {K:PySem.W.Frag} {mg:Str->Option Value} {base:Heap}
open Ev (Nm Cal)
theorem Iz {fa:Addr} {fd:FuncData} (F:Fun K "_law_copy" "_law_copy" Ea fa fd) (T:Nm mg) (b:Binds K fd ["thing"] []) (m:mg "_law_copy"=some (.ref fa)):∀ n,FnOk P w K mg base CX0 n fa fd ["thing"] (spD K 1 (CG n))
 | 0=>⟨fun vs H Q E h=>(by obtain ⟨f,α,s,σ,ds,r,_,_,_,_,h,_⟩:=h;cases h),fun A outer s H args us vs Q E hr he hb hv h=>(by obtain ⟨f,α,s,σ,ds,r,_,_,_,_,h,_⟩:=h;cases h)⟩
 | n+1=>Qe (SY F T ⟨Iz F T b m n,b,F.kp,m⟩) fun ds Γ r hl h=>RF h
theorem LH {fa:Addr} {fd:FuncData} (F:Fun K "_law_same" "_law_same" E9 fa fd) (T:Nm mg) (b:Binds K fd ["one","other"] []) (m:mg "_law_same"=some (.ref fa)):∀ n,FnOk P w K mg base CX0 n fa fd ["one","other"] (spQ K 2 (Bv n))
 | 0=>⟨fun vs H Q E h=>(by obtain ⟨ds,r,_,_,h,_⟩:=h;cases h),fun A outer s H args us vs Q E hr he hb hv h=>(by obtain ⟨ds,r,_,_,h,_⟩:=h;cases h)⟩
 | n+1=>SF (Md F T ⟨LH F T b m n,b,F.kp,m⟩) fun ds r hl h _=>⟨[],Nl h⟩
end
end DL
namespace DL
open PySem L2 Ev TXM
def AsC (x:Str):Prop:=∀ c∈x.cps.toList,c<128
theorem AsC.ok {x:Str} (h:AsC x) (hl:x.length<=1000):Fo x:=⟨Array.all_eq_true'.mpr fun c hc=>by have:=h c (Array.mem_toList_iff.mpr hc);simp;exact this,hl⟩
theorem AsC.app {x y:Str} (h:AsC x) (g:AsC y):AsC (x++y):=fun c hc=>by
 have hc:c∈(x.cps++y.cps).toList:=hc
 rw[Array.toList_append,List.mem_append] at hc
 exact hc.elim (h c) (g c)
theorem AsC.cut {x:Str} (h:AsC x) (l u:Option Int):AsC (BJ x l u):=fun c hc=>by
 unfold BJ at hc
 split at hc
 ·exact h c hc
 ·have hc:c∈((Builtin.Str.strSliceIndices l u 1 x.length).filterMap (x.cps[·]?)):=by simpa using hc
  obtain ⟨i,_,hi⟩:=List.mem_filterMap.mp hc
  exact h c (Array.mem_toList_iff.mpr (Array.mem_of_getElem? hi))
theorem Tg.asc {t:Str} (h:Tg t):AsC t:=fun c hc=>by have:=h.2.2 c hc;lia
theorem LJ {t:Str} (h:Tg t):PyData.strOk t=true:=by
 unfold PyData.strOk
 refine Array.all_eq_true'.mpr fun c hc=>?_
 have:=h.2.2 c (Array.mem_toList_iff.mpr hc)
 simp
 lia
theorem Jy {t:Str} (h:Tg t) (n:Nat):Ap n (.str t)=true:=by cases n<;>simp[Ap,PyData.canLay0,LJ h]
theorem Qa (k:Int):AsC (DZ k):=fun c hc=>by rcases RD hc with rfl | h<;>lia
theorem Sy {k:Int} (h:Ky k):k.natAbs.log2<1920:=by
 have h1:k.natAbs<2 ^ 1920:=Nat.lt_trans h (by decide +kernel)
 by_cases z:k.natAbs=0
 ·rw[z];decide
 ·exact (Nat.log2_lt z).mpr h1
theorem BE {n:Nat} {x:Str} (h:AsC x) (hl:x.length<=1000):OKD n (.str x):=by cases n<;>exact h.ok hl
theorem A8 {n:Nat} {i:Int}:OKD n (.int i):=by cases n<;>trivial
theorem FG {n:Nat} {i:Bool}:OKD n (.bl i):=by cases n<;>trivial
theorem Ce {n:Nat}:OKD n .non:=by cases n<;>trivial
theorem Fu {n:Nat}:OKD n (.dic [] []):=by cases n<;>exact fun d hd=>nomatch hd
theorem BC {n:Nat} {xs:List D} (hl:xs.length<=5000) (h:∀ x∈xs,OKD n x):OKD (n+1) (.lst xs):=⟨hl,h⟩
theorem De {n:Nat} {xs:List D} (hl:xs.length<=5000) (h:∀ x∈xs,OKD n x):OKD (n+1) (.tup xs):=⟨hl,h⟩
theorem B2 {n:Nat} {x:D} (h:OKD n x):OKD (n+1) (.lst [x]):=BC (by simp) (by simpa using h)
theorem E2 {n:Nat} {x:D} (h:OKD n x):OKD (n+1) (.tup [x]):=De (by simp) (by simpa using h)
theorem Bt {n:Nat} {x y:D} (h:OKD n x) (g:OKD n y):OKD (n+1) (.tup [x,y]):=De (by simp) (by simp;exact ⟨h,g⟩)
theorem IF {n:Nat} {x y z:D} (h:OKD n x) (g:OKD n y) (k:OKD n z):OKD (n+1) (.tup [x,y,z]):=De (by simp) (by simp;exact ⟨h,g,k⟩)
theorem TM:("AZaz_09 -.+'\x40[`{~\t\n":Str).cps.toList.length=19:=by decide +kernel
theorem O5:AsC "AZaz_09 -.+'\x40[`{~\t\n":=by unfold AsC;decide +kernel
theorem Oh:("AZaz_09 -.+'\x40[`{~\t\n":Str).length<=big:=by decide +kernel
theorem Dp {Γ:Gm} {xs ys:List D} {k:Int} (h1:k<=100000) (h2:-100000<=k) (h3:xs.length * k.toNat<=big) (e:(List.replicate k.toNat xs).flatten=ys):As Γ (.v (.lst xs)) (.v (.int k))=some ys:=by
 show (if k<=100000/\-100000<=k/\xs.length * k.toNat<=big then some (List.replicate k.toNat xs).flatten else none)=_
 rw[if_pos ⟨h1,h2,h3⟩,e]
def Dd:MD:=mFn 8 (GS Ai)
theorem Eh:AsC ""/\AsC "A"/\AsC "a1"/\AsC "abcdefghi"/\AsC "a"/\AsC "abcdefgh"/\AsC " ":=by unfold AsC;decide +kernel
theorem Ek:("":Str).length=0/\("A":Str).length=1/\("a1":Str).length=2/\("abcdefghi":Str).length=9/\("a":Str).length=1/\("abcdefgh":Str).length=8/\(" ":Str).length=1:=by decide +kernel
theorem Pu {Γ:Gm} {n:Nat} {z k:Int} {t:Str} (p:Pool Γ n z) (hz:z<=400000) (hk:Ky k) (ht:Tg t):∃ d z' Γ',Dd [.b n,.v (.int k),.v (.str t)] Γ=some (d,Γ')/\OKD 2 d/\z'<=z+6/\Dr n z z' Γ Γ':=by
 have t1:=ht.1
 have t8:=ht.2.1
 have tb:t.length<=big:=by unfold big;lia
 obtain ⟨l0,l1,l2,l3,l4,l5,l6⟩:=Eh
 obtain ⟨n0,n1,n2,n3,n4,n5,n6⟩:=Ek
 obtain ⟨a,z1,Γ1,e1,a0,a1,hz1,d1⟩:=BU (m:=t.length) p (by lia) (by lia) (by lia)
 obtain ⟨q,z2,Γ2,e2,q0,q1,hz2,d2⟩:=BU (m:=19) (d1.pool p) (by lia) (by decide) (by decide)
 have D2:=d1.trans d2
 obtain ⟨c,hc,hm⟩:=C4 (xs:=("AZaz_09 -.+'\x40[`{~\t\n":Str).cps.toList) (i:=q) q0 (by rw[TM];exact q1)
 have ca:AsC ⟨#[c]⟩:=fun x hx=>by
  have:x=c:=by simpa using hx
  rw[this];exact O5 c hm
 have c1:(⟨#[c]⟩:Str).length=1:=rfl
 have f1:AL 3 (AI Ai (AA (AB 0) (AA (AR Ah (AA (AB 2) AC)) AC))) ⟨[some (.b n),some (.v (.int k)),some (.v (.str t)),none,none,none,none,none],Γ,Γ.length⟩=some (.nx ⟨[some (.b n),some (.v (.int k)),some (.v (.str t)),some (.v (.int a)),none,none,none,none],Γ1,Γ.length⟩):=by simp[tb,e1]
 have f2:AL 4 (mOp gIx (mC (.str "AZaz_09 -.+'\x40[`{~\t\n")) (AI Ai (AA (AB 0) (AA (mC (.int 19)) AC)))) ⟨[some (.b n),some (.v (.int k)),some (.v (.str t)),some (.v (.int a)),none,none,none,none],Γ1,Γ.length⟩=some (.nx ⟨[some (.b n),some (.v (.int k)),some (.v (.str t)),some (.v (.int a)),some (.v (.str ⟨#[c]⟩)),none,none,none],Γ2,Γ.length⟩):=by simp[e2,hc,Oh]
 have ta:=ht.asc
 have b1:t.length+("abcdefgh":Str).length<=big:=by rw[n5];unfold big;lia
 have b2:t.length+(" ":Str).length<=big:=by rw[n6];unfold big;lia
 have b11:(11:Nat)<=big:=by decide
 have b3:(3:Nat)<=big:=by decide
 have bb1:(1:Nat)<=big:=by decide
 have la:∀ x y:Str,(x++y).length=x.length+y.length:=fun x y=>Str.length_append x y
 obtain ⟨T1,f3,h3,k3⟩:∃ T1:List D,AL 5 (AE (AG (AA (mC (.str "")) (AA (mC (.str "A")) (AA (mC (.str "a1")) (AA (mC (.str "abcdefghi")) (AA (mC .non) (AA (mC (.int 1)) (AA (AE (AG (AA (mC (.str "a")) AC))) (AA (AN (AA (mC (.str "a")) AC)) (AA (mOp AQ (AB 2) (mC (.str "abcdefgh"))) (AA (mC (.bl true)) (AA (mOp AQ (AB 2) (mC (.str " "))) AC))))))))))))) ⟨[some (.b n),some (.v (.int k)),some (.v (.str t)),some (.v (.int a)),some (.v (.str ⟨#[c]⟩)),none,none,none],Γ2,Γ.length⟩=some (.nx ⟨[some (.b n),some (.v (.int k)),some (.v (.str t)),some (.v (.int a)),some (.v (.str ⟨#[c]⟩)),some (.v (.lst T1)),none,none],Γ2,Γ.length⟩)/\T1.length=11/\∀ x∈T1,OKD 1 x:=by
  refine ⟨[.str "",.str "A",.str "a1",.str "abcdefghi",.non,.int 1,.lst [.str "a"],.tup [.str "a"],.str (t++"abcdefgh"),.bl true,.str (t++" ")],by simp[b1,b2,b11,bb1],rfl,?_⟩
  have:=BE (n:=0) l4 (by lia)
  simp only[List.mem_cons,List.not_mem_nil,or_false,forall_eq_or_imp,forall_eq]
  exact ⟨BE l0 (by lia),BE l1 (by lia),BE l2 (by lia),BE l3 (by lia),Ce,A8,B2 this,E2 this,BE (ta.app l5) (by rw[la];lia),FG,BE (ta.app l6) (by rw[la];lia)⟩
 have u1:=FI t none (some a)
 have u2:=FI t (some a) none
 have u3:=FI t (some (a+1)) none
 have v1:(BJ t none (some a)).length+(⟨#[c]⟩:Str).length<=big:=by rw[c1];unfold big;lia
 have v2:(BJ t none (some a)++⟨#[c]⟩).length+(BJ t (some a) none).length<=big:=by rw[la,c1];unfold big;lia
 have v3:(BJ t none (some a)++⟨#[c]⟩).length+(BJ t (some (a+1)) none).length<=big:=by rw[la,c1];unfold big;lia
 have v4:t.length+(⟨#[c]⟩:Str).length<=big:=by rw[c1];unfold big;lia
 obtain ⟨T2,f4,h4,k4⟩:∃ T2:List D,AL 5 (mOp AQ (AB 5) (AE (Aj As (AE (AG (AA (mOp AQ (mOp AQ (mSl (AB 2) none (some (AB 3))) (AB 4)) (mSl (AB 2) (some (AB 3)) none)) (AA (mOp AQ (mOp AQ (mSl (AB 2) none (some (AB 3))) (AB 4)) (mSl (AB 2) (some (mOp AQ (AB 3) (mC (.int 1)))) none)) (AA (mOp AQ (AB 2) (AB 4)) AC))))) (mC (.int 3))))) ⟨[some (.b n),some (.v (.int k)),some (.v (.str t)),some (.v (.int a)),some (.v (.str ⟨#[c]⟩)),some (.v (.lst T1)),none,none],Γ2,Γ.length⟩=some (.nx ⟨[some (.b n),some (.v (.int k)),some (.v (.str t)),some (.v (.int a)),some (.v (.str ⟨#[c]⟩)),some (.v (.lst T2)),none,none],Γ2,Γ.length⟩)/\T2.length=20/\∀ x∈T2,OKD 1 x:=by
  have b20:(11+9:Nat)<=big:=by decide
  have b9:(3 * 3:Nat)<=big:=by decide
  let X1:D:=.str (BJ t none (some a)++⟨#[c]⟩++BJ t (some a) none)
  let X2:D:=.str (BJ t none (some a)++⟨#[c]⟩++BJ t (some (a+1)) none)
  let X3:D:=.str (t++⟨#[c]⟩)
  have dsp:AE (AG (AA (mOp AQ (mOp AQ (mSl (AB 2) none (some (AB 3))) (AB 4)) (mSl (AB 2) (some (AB 3)) none)) (AA (mOp AQ (mOp AQ (mSl (AB 2) none (some (AB 3))) (AB 4)) (mSl (AB 2) (some (mOp AQ (AB 3) (mC (.int 1)))) none)) (AA (mOp AQ (AB 2) (AB 4)) AC)))) ⟨[some (.b n),some (.v (.int k)),some (.v (.str t)),some (.v (.int a)),some (.v (.str ⟨#[c]⟩)),some (.v (.lst T1)),none,none],Γ2,Γ.length⟩=some (.v (.lst [X1,X2,X3]),⟨[some (.b n),some (.v (.int k)),some (.v (.str t)),some (.v (.int a)),some (.v (.str ⟨#[c]⟩)),some (.v (.lst T1)),none,none],Γ2,Γ.length⟩):=by simp[tb,v1,v2,v3,v4,b3,X1,X2,X3]
  have rp:As Γ2 (.v (.lst [X1,X2,X3])) (.v (.int 3))=some [X1,X2,X3,X1,X2,X3,X1,X2,X3]:=Dp (by decide) (by decide) (show (3 * 3:Nat)<=big by decide) rfl
  have ad:AQ Γ2 (.v (.lst T1)) (.v (.lst [X1,X2,X3,X1,X2,X3,X1,X2,X3]))=some (.lst (T1++[X1,X2,X3,X1,X2,X3,X1,X2,X3])):=by
   show (if T1.length+9<=big then some (D.lst (T1++[X1,X2,X3,X1,X2,X3,X1,X2,X3])) else none)=_
   rw[if_pos (by rw[h3];exact b20)]
  have w:=BP (Bz (g:=As) dsp (b:=mC (.int 3)) (y:=.v (.int 3)) (s2:=⟨[some (.b n),some (.v (.int k)),some (.v (.str t)),some (.v (.int a)),some (.v (.str ⟨#[c]⟩)),some (.v (.lst T1)),none,none],Γ2,Γ.length⟩) rfl rp)
  refine ⟨T1++[X1,X2,X3,X1,X2,X3,X1,X2,X3],CK (Au (g:=AQ) (x:=.v (.lst T1)) (s1:=⟨[some (.b n),some (.v (.int k)),some (.v (.str t)),some (.v (.int a)),some (.v (.str ⟨#[c]⟩)),some (.v (.lst T1)),none,none],Γ2,Γ.length⟩) rfl w ad),?_,?_⟩
  ·rw[List.length_append,h3];rfl
  ·have o1:OKD 1 X1:=BE (((ta.cut _ _).app ca).app (ta.cut _ _)) (by rw[la,la,c1];lia)
   have o2:OKD 1 X2:=BE (((ta.cut _ _).app ca).app (ta.cut _ _)) (by rw[la,la,c1];lia)
   have o3:OKD 1 X3:=BE (ta.app ca) (by rw[la,c1];lia)
   clear_value X1 X2 X3
   intro x hx
   rcases List.mem_append.mp hx with hx | hx
   ·exact k3 x hx
   ·simp only[List.mem_cons,List.not_mem_nil,or_false] at hx
    rcases hx with rfl | rfl | rfl | rfl | rfl | rfl | rfl | rfl | rfl<;>first | exact o1 | exact o2 | exact o3
 have hlog:=Sy hk
 obtain ⟨nl1,nl2⟩:=Qm hk
 have b10:(10:Nat)<=big:=by decide
 obtain ⟨Ks,f5,h5,k5⟩:∃ Ks:List D,AL 6 (AE (AG (AA (mC (.bl true)) (AA (mC (.bl false)) (AA (mC .non) (AA (AR Ew (AA (AB 1) AC)) (AA (AE (AG (AA (AB 1) AC))) (AA (AN (AA (AB 1) AC)) (AA (mC (.str "")) (AA CC (AA (Hj (AB 1)) (AA (mOp AQ (AB 1) (mC (.int 1))) AC)))))))))))) ⟨[some (.b n),some (.v (.int k)),some (.v (.str t)),some (.v (.int a)),some (.v (.str ⟨#[c]⟩)),some (.v (.lst T2)),none,none],Γ2,Γ.length⟩=some (.nx ⟨[some (.b n),some (.v (.int k)),some (.v (.str t)),some (.v (.int a)),some (.v (.str ⟨#[c]⟩)),some (.v (.lst T2)),some (.v (.lst Ks)),none],Γ2,Γ.length⟩)/\Ks.length=10/\∀ x∈Ks,OKD 1 x:=by
  refine ⟨[.bl true,.bl false,.non,.str (DZ k),.lst [.int k],.tup [.int k],.str "",.dic [] [],.int (-k),.int (k+1)],by simp[hlog,b10,bb1,DZ],rfl,?_⟩
  simp only[List.mem_cons,List.not_mem_nil,or_false,forall_eq_or_imp,forall_eq]
  exact ⟨FG,FG,Ce,BE (Qa k) (by lia),B2 A8,E2 A8,BE l0 (by lia),Fu,A8,A8⟩
 obtain ⟨i,z3,Γ3,e3,i0,i1,hz3,d3⟩:=BU (m:=10) (D2.pool p) (by lia) (by decide) (by decide)
 have D3:=D2.trans d3
 obtain ⟨ky,hky,mky⟩:=C4 (xs:=Ks) (i:=i) i0 (by rw[h5];exact i1)
 obtain ⟨j,z4,Γ4,e4,j0,j1,hz4,d4⟩:=BU (m:=20) (D3.pool p) (by lia) (by decide) (by decide)
 have D4:=D3.trans d4
 obtain ⟨tg,htg,mtg⟩:=C4 (xs:=T2) (i:=j) j0 (by rw[h4];exact j1)
 let Y1:D:=.tup [ky,.str t]
 let Y2:D:=.tup [.int k,tg]
 have bb2:(2:Nat)<=big:=by decide
 have oT:∀ m,OKD m (.str t):=fun m=>BE ta (by lia)
 have oY1:OKD 2 Y1:=Bt (k5 ky mky) (oT 1)
 have oY2:OKD 2 Y2:=Bt A8 (k4 tg mtg)
 let S6:DS:=⟨[some (.b n),some (.v (.int k)),some (.v (.str t)),some (.v (.int a)),some (.v (.str ⟨#[c]⟩)),some (.v (.lst T2)),some (.v (.lst Ks)),none],Γ2,Γ.length⟩
 have f6:AL 7 (mOp AQ (AE (Aj As (AE (AG (AA (AN (AA (mOp gIx (AB 6) (AI Ai (AA (AB 0) (AA (mC (.int 10)) AC)))) (AA (AB 2) AC))) AC))) (mC (.int 4)))) (AE (Aj As (AE (AG (AA (AN (AA (AB 1) (AA (mOp gIx (AB 5) (AI Ai (AA (AB 0) (AA (mC (.int 20)) AC)))) AC))) AC))) (mC (.int 6))))) S6=some (.nx ⟨[some (.b n),some (.v (.int k)),some (.v (.str t)),some (.v (.int a)),some (.v (.str ⟨#[c]⟩)),some (.v (.lst T2)),some (.v (.lst Ks)),some (.v (.lst [Y1,Y1,Y1,Y1,Y2,Y2,Y2,Y2,Y2,Y2]))],Γ4,Γ.length⟩):=by
  have w1:AE (AG (AA (AN (AA (mOp gIx (AB 6) (AI Ai (AA (AB 0) (AA (mC (.int 10)) AC)))) (AA (AB 2) AC))) AC)) S6=some (.v (.lst [Y1]),{S6 with Γ:=Γ3}):=by simp[S6,e3,hky,bb1,bb2,Y1]
  have w2:AE (AG (AA (AN (AA (AB 1) (AA (mOp gIx (AB 5) (AI Ai (AA (AB 0) (AA (mC (.int 20)) AC)))) AC))) AC)) {S6 with Γ:=Γ3}=some (.v (.lst [Y2]),{S6 with Γ:=Γ4}):=by simp[S6,e4,htg,bb1,bb2,Y2]
  have r1:As Γ3 (.v (.lst [Y1])) (.v (.int 4))=some [Y1,Y1,Y1,Y1]:=Dp (by decide) (by decide) (show (1 * 4:Nat)<=big by decide) rfl
  have r2:As Γ4 (.v (.lst [Y2])) (.v (.int 6))=some [Y2,Y2,Y2,Y2,Y2,Y2]:=Dp (by decide) (by decide) (show (1 * 6:Nat)<=big by decide) rfl
  have ad:AQ Γ4 (.v (.lst [Y1,Y1,Y1,Y1])) (.v (.lst [Y2,Y2,Y2,Y2,Y2,Y2]))=some (.lst [Y1,Y1,Y1,Y1,Y2,Y2,Y2,Y2,Y2,Y2]):=by
   show (if (4+6:Nat)<=big then some (D.lst [Y1,Y1,Y1,Y1,Y2,Y2,Y2,Y2,Y2,Y2]) else none)=_
   rw[if_pos (by decide)]
  have x1:=BP (Bz (g:=As) w1 (b:=mC (.int 4)) (y:=.v (.int 4)) (s2:={S6 with Γ:=Γ3}) rfl r1)
  have x2:=BP (Bz (g:=As) w2 (b:=mC (.int 6)) (y:=.v (.int 6)) (s2:={S6 with Γ:=Γ4}) rfl r2)
  exact CK (Au (g:=AQ) x1 x2 ad)
 have b8:(8:Nat)<=big:=by decide
 have b18:(10+8:Nat)<=big:=by decide
 obtain ⟨R2,f7,h7,k7⟩:∃ R2:List D,AL 7 (AE (Aj BA (AB 7) (AE (AG (AA (AE (AG (AA (AB 1) (AA (AB 2) AC)))) (AA (AN (AA (AB 1) AC)) (AA (AN (AA (AB 2) (AA (AB 1) AC))) (AA (AN (AA (AB 1) (AA (AB 2) (AA (mC (.int 0)) AC)))) (AA (AB 1) (AA (AB 2) (AA (mC .non) (AA (AN AC) AC)))))))))))) ⟨[some (.b n),some (.v (.int k)),some (.v (.str t)),some (.v (.int a)),some (.v (.str ⟨#[c]⟩)),some (.v (.lst T2)),some (.v (.lst Ks)),some (.v (.lst [Y1,Y1,Y1,Y1,Y2,Y2,Y2,Y2,Y2,Y2]))],Γ4,Γ.length⟩=some (.nx ⟨[some (.b n),some (.v (.int k)),some (.v (.str t)),some (.v (.int a)),some (.v (.str ⟨#[c]⟩)),some (.v (.lst T2)),some (.v (.lst Ks)),some (.v (.lst R2))],Γ4,Γ.length⟩)/\R2.length=18/\∀ x∈R2,OKD 2 x:=by
  have b0:(0:Nat)<=big:=Nat.zero_le _
  refine ⟨[Y1,Y1,Y1,Y1,Y2,Y2,Y2,Y2,Y2,Y2,.lst [.int k,.str t],.tup [.int k],.tup [.str t,.int k],.tup [.int k,.str t,.int 0],.int k,.str t,.non,.tup []],by simp[b8,b18,bb1,bb2,b3,b0],rfl,?_⟩
  simp only[List.mem_cons,List.not_mem_nil,or_false,forall_eq_or_imp,forall_eq]
  exact ⟨oY1,oY1,oY1,oY1,oY2,oY2,oY2,oY2,oY2,oY2,BC (by simp) (by simp;exact ⟨A8,oT 1⟩),E2 A8,Bt (oT 1) A8,IF A8 (oT 1) A8,A8,oT 2,Ce,De (by simp) (by simp)⟩
 obtain ⟨l,z5,Γ5,e5,l0',l1',hz5,d5⟩:=BU (m:=20) (D4.pool p) (by lia) (by decide) (by decide)
 have D5:=D4.trans d5
 let Z1:D:=.dic [.inl k] [.str t]
 let Z2:D:=.tup [.int k,.str t,.str t]
 obtain ⟨d,hd,md⟩:=C4 (xs:=R2++[Z1,Z2]) (i:=l) l0' (by rw[List.length_append,h7];exact l1')
 refine ⟨d,z5,Γ5,?_,?_,by lia,D5⟩
 ·have b20:(18+2:Nat)<=big:=by decide
  have fin:AZ (mOp gIx (AE (Aj BA (AB 7) (AE (AG (AA (FY 1 2) (AA (AN (AA (AB 1) (AA (AB 2) (AA (AB 2) AC)))) AC)))))) (AI Ai (AA (AB 0) (AA (mC (.int 20)) AC)))) ⟨[some (.b n),some (.v (.int k)),some (.v (.str t)),some (.v (.int a)),some (.v (.str ⟨#[c]⟩)),some (.v (.lst T2)),some (.v (.lst Ks)),some (.v (.lst R2))],Γ4,Γ.length⟩=some (.rt d ⟨[some (.b n),some (.v (.int k)),some (.v (.str t)),some (.v (.int a)),some (.v (.str ⟨#[c]⟩)),some (.v (.lst T2)),some (.v (.lst Ks)),some (.v (.lst R2))],Γ5,Γ.length⟩):=by
   have hd':atI (R2++[D.dic [.inl k] [.str t],.tup [.int k,.str t,.str t]]) l=some d:=hd
   simp[bb2,b3,h7,b20,e5,hd']
  unfold Dd mFn
  show (GS Ai ⟨[some (.b n),some (.v (.int k)),some (.v (.str t)),none,none,none,none,none],Γ,Γ.length⟩).bind _=_
  unfold GS
  rw[AW f1,AW f2,AW f3,AW f4,AW f5,AW f6,AW f7,fin]
  show some (d,Γ5.take Γ.length)=_
  rw[EB D5.len]
 ·rcases List.mem_append.mp md with md | md
  ·exact k7 d md
  ·simp only[List.mem_cons,List.not_mem_nil,or_false] at md
   rcases md with rfl | rfl
   ·exact fun x hx=>by rw[List.mem_singleton.mp hx];exact Jy ht 6
   ·exact IF A8 (oT 1) (oT 1)
theorem drA {n:Nat} {z z':Int} {Γ Γ1 B:Gm} (p:Pool Γ n z) (d:Dr n z z' (Γ++B) Γ1):∃ Γ',Γ1=Γ'++B/\Dr n z z' Γ Γ':=by
 obtain ⟨h,x,y,rfl⟩:=d
 exact ⟨Γ.set n (some [.int x,.int y,.int z']),by rw[List.set_append_left _ _ p.lt],h,x,y,rfl⟩
theorem SZ {n:Nat} {z:Int} {Γ B:Gm} (p:Pool Γ n z):Pool (Γ++B) n z:=by
 have hl:=p.lt
 obtain ⟨h,x,y,e⟩:=p
 exact ⟨h,x,y,by rw[List.getElem?_append_left hl];exact e⟩
theorem Ml {n:Nat} {x y z m:Int} (z0:0<=z) (hz:z<=1000000) (hm:0<m) (hm2:m<2 ^ 128) :
  ∃ r z' x',0<=r/\r<m/\z<=z'/\z'<=z+1/\∀ Γ:Gm,Γ[n]?=some (some [.int x,.int y,.int z])->Ai [.b n,.v (.int m)] Γ=some (.int r,Γ.set n (some [.int x',.int y,.int z'])):=by
 have hb:CP x m=true:=decide_eq_true hm
 have hd:FS x m=true:=decide_eq_true ⟨hm,hm2⟩
 by_cases c:y=1
 ·refine ⟨x % m,z,x / m,Int.emod_nonneg _ (by lia),Int.emod_lt_of_pos _ hm,by lia,by lia,fun Γ e=>?_⟩
  subst c
  simp[Ai,mFn,ES,AJ,mIf,AV,mOp,AB,mC,gIx,elems,gEq,DM,Cv,DH,AL,Bs,AZ,gI,e,hb,hd,atI,ixN,take_set]
 ·have a1:0<=x % 9999999589:=Int.emod_nonneg _ (by decide)
  have a2:x % 9999999589<9999999589:=Int.emod_lt_of_pos _ (by decide)
  have b0:CP x 9999999589=true:=rfl
  have b1:BX 31 (z+1)=true:=decide_eq_true (.inl (by decide))
  have b2:BX (x % 9999999589+997) (31 * (z+1)+61)=true:=decide_eq_true (.inl ⟨by lia,by lia⟩)
  have b3:BX 3539 (z+1)=true:=decide_eq_true (.inl (by decide))
  have b4:BX (3539 * (z+1)) (z+1)=true:=decide_eq_true (.inr ⟨by lia,by lia⟩)
  have u1:(x % 9999999589+997) * (31 * (z+1)+61)<=10000001000 * 31000200:=Int.mul_le_mul (by lia) (by lia) (by lia) (by decide)
  have u0:0<=(x % 9999999589+997) * (31 * (z+1)+61):=Int.mul_nonneg (by lia) (by lia)
  have v1:3539 * (z+1) * (z+1)<=3539000000000 * 1000001:=Int.mul_le_mul (by lia) (by lia) (by lia) (by decide)
  have v0:0<=3539 * (z+1) * (z+1):=Int.mul_nonneg (by lia) (by lia)
  have b5:∀ u v:Int,0<=u->u<=10000001000 * 31000200->0<=v->v<=3539000000000 * 1000001->BX (u+v) (u+v)=true:=fun u v h1 h2 h3 h4=>decide_eq_true (.inl ⟨by lia,by lia⟩)
  have b5':=b5 _ _ u0 u1 v0 v1
  have b6:∀ u:Int,CP u 99999999629=true:=fun _=>rfl
  have c1:∀ u:Int,BX (u % 99999999629) (u % 99999999629+43)=true:=fun u=>decide_eq_true (.inl ⟨by have:=Int.emod_nonneg u (show (99999999629:Int)≠0 by decide);lia,by have:=Int.emod_lt_of_pos u (show (0:Int)<99999999629 by decide);lia⟩)
  have b7:∀ u:Int,CP u 99999999911=true:=fun _=>rfl
  have b8:∀ u:Int,FS u 97=true:=fun _=>rfl
  have b9:∀ u:Int,CP u m=true:=fun _=>decide_eq_true hm
  have cd:decide (y=1)=false:=decide_eq_false c
  generalize hu:(x % 9999999589+997) * (31 * (z+1)+61)=u at *
  generalize hv:3539 * (z+1) * (z+1)=v at *
  refine ⟨((u+v) * (u+v) % 99999999629) * ((u+v) * (u+v) % 99999999629+43) % 99999999911 / 97 % m,z+1,x,Int.emod_nonneg _ (by lia),Int.emod_lt_of_pos _ hm,by lia,by lia,fun Γ e=>?_⟩
  have hl:n<Γ.length:=(List.getElem?_eq_some_iff.mp e).1
  have e2:(Γ.set n (some [.int x,.int y,.int (z+1)]))[n]?=some (some [.int x,.int y,.int (z+1)]):=List.getElem?_set_self hl
  simp[Ai,mFn,ES,AJ,mIf,AV,mOp,AB,mC,gIx,elems,gEq,DM,Cv,DH,AL,Bs,AZ,Ae,gI,AQ,e,e2,atI,ixN,b0,b1,b2,b3,b4,b5',b6,c1,b7,b8,b9,cd,hu,hv,c,take_set]
theorem Dv {Γ:Gm} {n:Nat} {z m:Int} (p:Pool Γ n z) (hz:z<=1000000) (hm:0<m) (hm2:m<2 ^ 128) :
  ∃ r z' Γ',0<=r/\r<m/\z'<=z+1/\Dr n z z' Γ Γ'/\∀ B,Ai [.b n,.v (.int m)] (Γ++B)=some (.int r,Γ'++B):=by
 have hl:=p.lt
 obtain ⟨z0,x,y,e⟩:=p
 obtain ⟨r,z',x',r0,r1,h1,h2,q⟩:=Ml (n:=n) (x:=x) (y:=y) z0 hz hm hm2
 refine ⟨r,z',Γ.set n (some [.int x',.int y,.int z']),r0,r1,h2,⟨h1,x',y,rfl⟩,fun B=>?_⟩
 rw[q (Γ++B) (by rw[List.getElem?_append_left hl];exact e),List.set_append_left _ _ hl]
theorem Nu {Γ B:Gm} {n:Nat} {z k:Int} {t:Str} (p:Pool Γ n z) (hz:z<=400000) (hk:Ky k) (ht:Tg t):∃ d z' Γ',Dd [.b n,.v (.int k),.v (.str t)] (Γ++B)=some (d,Γ'++B)/\OKD 2 d/\z'<=z+6/\Dr n z z' Γ Γ':=by
 obtain ⟨r,z',Γ1,e,r0,hz1,d⟩:=Pu (SZ (B:=B) p) hz hk ht
 obtain ⟨Γ',rfl,d'⟩:=drA p d
 exact ⟨r,z',Γ',e,r0,hz1,d'⟩
theorem Kq:∀ rs:List (List Th),Dc (rs.map AU)=some (rs.map fun r=>r.map thD)
 | []=>rfl
 | r::rs=>by
  show (Dc (rs.map AU)).map _=_
  rw[Kq rs]
  rfl
theorem Lp {L:Nat}:∀ {cs:List (List D)} {k:Nat} {Γ:Gm},(∀ (i:Nat) (c:List D),cs[i]?=some c->Γ[k+i]?=some (some c))->L<=k->∃ Γ',Dx L (List.range' k cs.length) Γ=some (cs.map .lst,Γ')/\Γ'.take L=Γ.take L
 | [],k,Γ,_,_=>⟨Γ,rfl,rfl⟩
 | c::cs,k,Γ,h,hk=>by
  have h0:Γ[k]?=some (some c):=h 0 c rfl
  obtain ⟨Γ',e,q⟩:=Lp (L:=L) (cs:=cs) (k:=k+1) (Γ:=Γ.set k none) (fun i c' hc=>by
   rw[List.getElem?_set_ne (by lia),show k+1+i=k+(i+1) by lia]
   exact h (i+1) c' (by simpa using hc)) (by lia)
  refine ⟨Γ',?_,by rw[q,List.take_set_of_le hk]⟩
  rw[List.length_cons,List.range'_succ]
  unfold Dx
  rw[h0]
  show (if L<=k then _ else _)=_
  rw[if_pos hk,e]
  rfl
def Rw (r:List Th):Prop:=r.length<=60/\∀ t∈r,Tg t.2/\Ky t.1
theorem Fe {n:Nat} {t:Th} (h:Tg t.2):OKD (n+1) (thD t):=Bt A8 (BE h.asc (by have:=h.2.1;lia))
theorem El {n:Nat} {r:List Th} (h:Rw r):OKD (n+2) (AU r):=BC (by rw[List.length_map];have:=h.1;lia) fun x hx=>by
 obtain ⟨t,ht,rfl⟩:=List.mem_map.mp hx
 exact Fe (h.2 t ht).1
def Ee:MD:=mFn 9 (KZ Ai Dd)
theorem MM {m n:MS} {S:DS} {o:Out} (h:m S=some o):ED m n S=some o:=by unfold ED;rw[h]
theorem Iy {m n:MS} {S:DS} (h:m S=none):ED m n S=n S:=by unfold ED;rw[h]
theorem K2 {a b:MT} {S:DS} {p q:Bool} (h1:a S=some (p,S)) (h2:b S=some (q,S)):Cc a b S=some (p && q,S):=by
 unfold Cc
 rw[h1]
 cases p
 ·rfl
 ·exact h2
abbrev sp (n:Nat) (R:D) (x2 x3 x4 x5 x6 x7 x8:Option SV) (Γ:Gm) (L:Nat):DS:=⟨[some (.b n),some (.v R),x2,x3,x4,x5,x6,x7,x8],Γ,L⟩
theorem Py {L m:Nat} {h:Nat} (hh:h<m):atI (List.range' L m) (h:Int)=some (L+h):=GB (by rw[List.getElem?_range' hh];simp)
theorem RO {Γ:Gm} {n:Nat} {z:Int} {rs:List (List Th)} (p:Pool Γ n z) (hz:z<=300000) (r1:1<=rs.length) (r6:rs.length<=6) (R:∀ r∈rs,Rw r) :
  ∃ (h:Nat) (w:Int) (z2:Int) (Γ2:Gm) (r:List Th),rs[h]?=some r/\0<=w/\w<8/\z2<=z+2/\Dr n z z2 Γ Γ2 /\
   (∀ A:MS,AJ (Ey 1 2) (AJ (AL 3 (AI Ai (AA (AB 0) (AA (Eo 2) AC)))) (AJ (AL 4 (FN 2 3)) (AJ (AL 5 (AI Ai (AA (AB 0) (AA (mC (.int 8)) AC)))) A))) (sp n (Aa rs) none none none none none none none Γ Γ.length)
    = A (sp n (Aa rs) (some (.l (List.range' Γ.length rs.length))) (some (.v (.int h))) (some (.b (Γ.length+h))) (some (.v (.int w))) none none none (Γ2++(rs.map fun r=>r.map thD).map some) Γ.length)) /\
   (∀ B:MS,AJ (CB 2 (BD (Aw (AB 1)) 1 [] (Ac 0) mTT (AE (Bb DN (AA (AB 0) AC))))) (AJ (AL 3 (AI Ai (AA (AB 0) (AA (AR Ah (AA (AB 2) AC)) AC)))) (AJ (AL 4 (mOp gIx (AB 2) (AB 3))) (AJ (AL 5 (AI Ai (AA (AB 0) (AA (mC (.int 8)) AC)))) B))) (sp n (Aa rs) none none none none none none none Γ Γ.length)
    = B (sp n (Aa rs) (some (.b Γ.length)) (some (.v (.int h))) (some (.v (AU r))) (some (.v (.int w))) none none none (Γ2++[some (rs.map AU)]) Γ.length)):=by
 obtain ⟨h,z1,Γ1,h0,h1,hz1,d1,e1⟩:=Dv (m:=(rs.length:Int)) p (by lia) (by lia) (by lia)
 obtain ⟨hn,rfl⟩:∃ k:Nat,h=k:=⟨h.toNat,by lia⟩
 obtain ⟨w,z2,Γ2,w0,w1,hz2,d2,e2⟩:=Dv (m:=8) (d1.pool p) (by lia) (by decide) (by decide)
 have hlt:hn<rs.length:=by lia
 refine ⟨hn,w,z2,Γ2,rs[hn],List.getElem?_eq_getElem hlt,w0,w1,by lia,d1.trans d2,fun A=>?_,fun B=>?_⟩
 ·have ll:(rs.map fun r=>r.map thD).length=rs.length:=List.length_map _
  generalize hB:(rs.map fun r=>r.map thD).map some=B1
  have c1:Ey 1 2 (sp n (Aa rs) none none none none none none none Γ Γ.length)=some (.nx (sp n (Aa rs) (some (.l (List.range' Γ.length rs.length))) none none none none none none (Γ++B1) Γ.length)):=by
   show (if (rs.map AU).length<=1000 then _ else _)=_
   rw[if_pos (by rw[List.length_map];lia),Kq,Option.map_some,ll,hB]
   rfl
  have e1':=e1 (B1)
  have e2':=e2 (B1)
  have c2:AL 3 (AI Ai (AA (AB 0) (AA (Eo 2) AC))) (sp n (Aa rs) (some (.l (List.range' Γ.length rs.length))) none none none none none none (Γ++B1) Γ.length)=some (.nx (sp n (Aa rs) (some (.l (List.range' Γ.length rs.length))) (some (.v (.int hn))) none none none none none (Γ1++B1) Γ.length)):=by simp[List.length_range',e1']
  have c3:AL 4 (FN 2 3) (sp n (Aa rs) (some (.l (List.range' Γ.length rs.length))) (some (.v (.int hn))) none none none none none (Γ1++B1) Γ.length)=some (.nx (sp n (Aa rs) (some (.l (List.range' Γ.length rs.length))) (some (.v (.int hn))) (some (.b (Γ.length+hn))) none none none none (Γ1++B1) Γ.length)):=by simp[Py hlt]
  have c4:AL 5 (AI Ai (AA (AB 0) (AA (mC (.int 8)) AC))) (sp n (Aa rs) (some (.l (List.range' Γ.length rs.length))) (some (.v (.int hn))) (some (.b (Γ.length+hn))) none none none none (Γ1++B1) Γ.length)=some (.nx (sp n (Aa rs) (some (.l (List.range' Γ.length rs.length))) (some (.v (.int hn))) (some (.b (Γ.length+hn))) (some (.v (.int w))) none none none (Γ2++B1) Γ.length)):=by simp[e2']
  rw[AW c1,AW c2,AW c3,AW c4]
 ·have e1':=e1 [some (rs.map AU)]
  have e2':=e2 [some (rs.map AU)]
  have cp:Bm (Ac 0) mTT (AE (Bb DN (AA (AB 0) AC))) (rs.map AU) [none] Γ=some (rs.map AU,Γ):=by
   obtain ⟨ys,τ',Γ',e,rfl,h2,_⟩:=DU (g:=Ac 0) (t:=mTT) (e:=AE (Bb DN (AA (AB 0) AC))) (items:=rs.map AU)
    (fun i acc τ Γi=>acc=(rs.map AU).take i/\Γi=Γ/\∃ v,τ=[v]) (by
     rintro i d acc τ Γi hd ⟨rfl,hΓ,v,rfl⟩
     subst Γi
     obtain ⟨r,hr,rfl⟩:=MC hd
     refine ⟨_,_,rfl,rfl,.inl ⟨rfl,AU r,⟨[some (.v (AU r))],Γ,Γ.length⟩,?_,rfl,?_,rfl,_,rfl⟩⟩
     ·simp[AU]
     ·rw[List.take_add_one,hd];rfl) (τ:=[none]) (Γ:=Γ) ⟨rfl,rfl,none,rfl⟩
   rw[e,List.take_length,h2]
  have hb:rs.length<=big:=by unfold big;lia
  have c1:CB 2 (BD (Aw (AB 1)) 1 [] (Ac 0) mTT (AE (Bb DN (AA (AB 0) AC)))) (sp n (Aa rs) none none none none none none none Γ Γ.length)=some (.nx (sp n (Aa rs) (some (.b Γ.length)) none none none none none none (Γ++[some (rs.map AU)]) Γ.length)):=by
   unfold CB
   rw[DJ (s':=sp n (Aa rs) none none none none none none none Γ Γ.length) (items:=rs.map AU) (by simp[Aa]) (by rw[List.length_map];exact hb) cp]
   rfl
  have g0:(Γ++[some (rs.map AU)])[Γ.length]?=some (some (rs.map AU)):=by simp
  have g1:(Γ1++[some (rs.map AU)])[Γ.length]?=some (some (rs.map AU)):=by rw[<-d1.len];simp
  have c2:AL 3 (AI Ai (AA (AB 0) (AA (AR Ah (AA (AB 2) AC)) AC))) (sp n (Aa rs) (some (.b Γ.length)) none none none none none none (Γ++[some (rs.map AU)]) Γ.length)=some (.nx (sp n (Aa rs) (some (.b Γ.length)) (some (.v (.int hn))) none none none none none (Γ1++[some (rs.map AU)]) Γ.length)):=by simp[g0,e1']
  have hix:atI (rs.map AU) (hn:Int)=some (AU rs[hn]):=KW (List.getElem?_eq_getElem hlt)
  have c3:AL 4 (mOp gIx (AB 2) (AB 3)) (sp n (Aa rs) (some (.b Γ.length)) (some (.v (.int hn))) none none none none none (Γ1++[some (rs.map AU)]) Γ.length)=some (.nx (sp n (Aa rs) (some (.b Γ.length)) (some (.v (.int hn))) (some (.v (AU rs[hn]))) none none none none (Γ1++[some (rs.map AU)]) Γ.length)):=by simp[g1,hix]
  have c4:AL 5 (AI Ai (AA (AB 0) (AA (mC (.int 8)) AC))) (sp n (Aa rs) (some (.b Γ.length)) (some (.v (.int hn))) (some (.v (AU rs[hn]))) none none none none (Γ1++[some (rs.map AU)]) Γ.length)=some (.nx (sp n (Aa rs) (some (.b Γ.length)) (some (.v (.int hn))) (some (.v (AU rs[hn]))) (some (.v (.int w))) none none none (Γ2++[some (rs.map AU)]) Γ.length)):=by simp[e2']
  rw[AW c1,AW c2,AW c3,AW c4]
theorem fn9 {m:MS} {n:Nat} {R d:D} {Γ:Gm} {S:DS} (h:m (sp n R none none none none none none none Γ Γ.length)=some (.rt d S)):mFn 9 m [.b n,.v R] Γ=some (d,S.Γ.take Γ.length):=by
 show (m (sp n R none none none none none none none Γ Γ.length)).bind _=_
 rw[h]
 rfl
theorem IB {n:Nat} {z z':Int} {Γ Γ' B:Gm} (d:Dr n z z' Γ Γ'):(Γ'++B).take Γ.length=Γ':=by
 rw[<-d.len,List.take_left']
 rfl
theorem JS {n:Nat} {z z':Int} {Γ Γ':Gm} {R:D} {x3 x4 x5 x6 x7 x8:Option SV} {cs:List (List D)} {m:Nat} (d:Dr n z z' Γ Γ') (hm:cs.length=m) :
  ∃ Γ'',AZ (Ed 2) (sp n R (some (.l (List.range' Γ.length m))) x3 x4 x5 x6 x7 x8 (Γ'++cs.map some) Γ.length)=some (.rt (.lst (cs.map .lst)) (sp n R (some (.l (List.range' Γ.length m))) x3 x4 x5 x6 x7 x8 Γ'' Γ.length))/\Γ''.take Γ.length=Γ':=by
 obtain ⟨Γ'',e,q⟩:=Lp (L:=Γ.length) (cs:=cs) (k:=Γ.length) (Γ:=Γ'++cs.map some) (fun i c hc=>by
  rw[<-d.len,List.getElem?_append_right (by lia),Nat.add_sub_cancel_left,List.getElem?_map,hc]
  rfl) (Nat.le_refl _)
 refine ⟨Γ'',Cf ?_,by rw[q];exact IB d⟩
 rw[hm] at e
 show (Dx Γ.length (List.range' Γ.length m) (Γ'++cs.map some)).map _=_
 rw[e]
 rfl
theorem JY {cs:List (List D)} (hl:cs.length<=5000) (h:∀ c∈cs,c.length<=5000/\∀ x∈c,OKD 3 x):OKD 5 (.lst (cs.map .lst)):=BC (by rw[List.length_map];exact hl) fun x hx=>by
 obtain ⟨c,hc,rfl⟩:=List.mem_map.mp hx
 exact BC (h c hc).1 (h c hc).2
theorem mem_set {α:Type} {xs:List α} {i:Nat} {a x:α} (h:x∈xs.set i a):x=a\/x∈xs:=(List.mem_or_eq_of_mem_set h).symm
theorem RE {r:List Th} {a:Nat} {d:D} (h:Rw r) (hd:OKD 2 d):((r.map thD).set a d).length<=5000/\∀ x∈(r.map thD).set a d,OKD 3 x:=by
 refine ⟨by rw[List.length_set,List.length_map];have:=h.1;lia,fun x hx=>?_⟩
 rcases mem_set hx with rfl | hx
 ·exact hd.up
 ·obtain ⟨t,ht,rfl⟩:=List.mem_map.mp hx
  exact Fe (h.2 t ht).1
theorem Kp {r:List Th} (h:Rw r):(r.map thD).length<=5000/\∀ x∈r.map thD,OKD 3 x:=by
 refine ⟨by rw[List.length_map];have:=h.1;lia,fun x hx=>?_⟩
 obtain ⟨t,ht,rfl⟩:=List.mem_map.mp hx
 exact Fe (h.2 t ht).1
theorem N0 {cs:List (List D)} {h:Nat} {x:List D}:(cs.map some).set h (some x)=(cs.set h x).map (some:List D->Option (List D)):=by rw[List.map_set]
theorem Jv {n:Nat} {z z':Int} {Γ Γ':Gm} {cs:List (List D)} {h:Nat} {x:List D} (d:Dr n z z' Γ Γ'):(Γ'++cs.map some).set (Γ.length+h) (some x)=Γ'++(cs.set h x).map some:=by
 rw[<-d.len,List.set_append_right _ _ (by lia),Nat.add_sub_cancel_left,N0]
theorem Es {n:Nat} {z z':Int} {Γ Γ':Gm} {cs:List (List D)} {h:Nat} {x:List D} (d:Dr n z z' Γ Γ') (hx:cs[h]?=some x):(Γ'++cs.map some)[Γ.length+h]?=some (some x):=by
 rw[<-d.len,List.getElem?_append_right (by lia),Nat.add_sub_cancel_left,List.getElem?_map,hx]
 rfl
theorem dc {m:ME} {ms:MA} {S S1 S2:DS} {d:D} {ds:List D} (h:m S=some (.v d,S1)) (hs:ms S1=some (ds.map .v,S2)):AA m ms S=some ((d::ds).map .v,S2):=by
 unfold AA
 rw[h]
 show (ms S1).map _=_
 rw[hs]
 rfl
theorem dn {S:DS}:AC S=some (([]:List D).map .v,S):=rfl
theorem LY:∀ ds:List D,trees (ds.map .v)=some ds
 | []=>rfl
 | d::ds=>by
  show (trees (ds.map .v)).map _=_
  rw[LY ds]
  rfl
theorem dl {ms:MA} {S S2:DS} {ds:List D} (h:ms S=some (ds.map .v,S2)) (hb:ds.length<=big):AE (AG ms) S=some (.v (.lst ds),S2):=by
 refine BP ?_
 unfold AG
 rw[h]
 show (trees (ds.map .v)).bind _=_
 rw[LY]
 exact if_pos hb
theorem La:∀ r:List Th,Dh (r.map thD)=some (r.map fun t=>(.inl t.1,.str t.2))
 | []=>rfl
 | t::r=>by
  show (Dh (r.map thD)).map _=_
  rw[La r]
  rfl
theorem Rn {l:List (Key×D)} {k:Key} {d x:D} (h:x∈(putD l k d).map (·.2)):x=d\/x∈l.map (·.2):=by
 unfold putD at h
 obtain ⟨p,hp,rfl⟩:=List.mem_map.mp h
 split at hp
 ·obtain ⟨q,hq,rfl⟩:=List.mem_map.mp hp
  split
  ·exact .inl rfl
  ·exact .inr (List.mem_map.mpr ⟨q,hq,rfl⟩)
 ·rcases List.mem_append.mp hp with hp | hp
  ·exact .inr (List.mem_map.mpr ⟨p,hp,rfl⟩)
  ·rw[List.mem_singleton.mp hp];exact .inl rfl
theorem LU {P:D->Prop}:∀ {l a:List (Key×D)},(∀ x∈l.map (·.2),P x)->(∀ x∈a.map (·.2),P x)->∀ x∈(l.foldl (fun acc p=>putD acc p.1 p.2) a).map (·.2),P x
 | [],a,_,ha=>ha
 | p::l,a,hl,ha=>LU (l:=l) (a:=putD a p.1 p.2) (fun x hx=>hl x (List.mem_cons_of_mem _ hx)) fun x hx=>(Rn hx).elim (fun z=>z▸hl p.2 List.mem_cons_self) (ha x)
theorem Sm {n:Nat} {r:List Th} {Γ:Gm} (h:Rw r):∃ d,C9 Γ [.v (AU r)]=some d/\OKD n d:=by
 refine ⟨.dic ((Ef (r.map fun t=>(.inl t.1,.str t.2))).map (·.1)) ((Ef (r.map fun t=>(.inl t.1,.str t.2))).map (·.2)),?_,?_⟩
 ·show (if (r.map thD).length<=1000 then (Dh (r.map thD)).map _ else none)=_
  rw[if_pos (by rw[List.length_map];have:=h.1;lia),La]
  rfl
 ·have q:∀ x∈(Ef (r.map fun t=>((.inl t.1:Key),D.str t.2))).map (·.2),Ap 6 x=true:=LU (P:=fun x=>Ap 6 x=true) (fun x hx=>by
   rw[List.map_map] at hx
   obtain ⟨t,ht,rfl⟩:=List.mem_map.mp hx
   exact Jy (h.2 t ht).1 6) fun x hx=>nomatch hx
  cases n<;>exact q
theorem Qi {r:List Th} (h:Rw r):Ap 6 (AU r)=true:=by
 unfold AU Ap
 rw[List.all_eq_true]
 intro x hx
 obtain ⟨t,ht,rfl⟩:=List.mem_map.mp hx
 have:=LJ (h.2 t ht).1
 unfold thD Ap
 simp[Ap,PyData.canLay0,this]
theorem ON {Γ:Gm} {n:Nat} {z:Int} {rs:List (List Th)} (p:Pool Γ n z) (hz:z<=300000) (r1:1<=rs.length) (r6:rs.length<=6) (R:∀ r∈rs,Rw r) :
  ∃ d z' Γ',Ee [.b n,.v (Aa rs)] Γ=some (d,Γ')/\OKD 5 d/\z'<=z+12/\Dr n z z' Γ Γ':=by
 obtain ⟨h,w,z2,Γ2,r,hr,w0,w8,hz2,d2,em1,em2⟩:=RO p hz r1 r6 R
 have hh:h<rs.length:=(List.getElem?_eq_some_iff.mp hr).1
 have hR:=R r (List.mem_of_getElem? hr)
 generalize hcs:rs.map (fun r=>r.map thD)=cs at em1
 have lcs:cs.length=rs.length:=by rw[<-hcs,List.length_map]
 have gcs:cs[h]?=some (r.map thD):=by rw[<-hcs,List.getElem?_map,hr];rfl
 have ocs:∀ c∈cs,c.length<=5000/\∀ x∈c,OKD 3 x:=fun c hc=>by
  rw[<-hcs] at hc
  obtain ⟨r',hr',rfl⟩:=List.mem_map.mp hc
  exact Kp (R r' hr')
 have gb:=Es (cs:=cs) d2 gcs
 let S1:DS:=sp n (Aa rs) (some (.l (List.range' Γ.length rs.length))) (some (.v (.int h))) (some (.b (Γ.length+h))) (some (.v (.int w))) none none none (Γ2++cs.map some) Γ.length
 have c1:Cc (AV (mOp CF (AB 5) (mC (.int 5)))) (AV (mOp BO (AB 4) (AE (AG AC)))) S1=some (decide (w<5) && !r.isEmpty,S1):=by
  refine K2 (Bh (Au (x:=.v (.int w)) (y:=.v (.int 5)) (s1:=S1) (s2:=S1) rfl rfl rfl)) (Bh (Au (x:=.b (Γ.length+h)) (s1:=S1) rfl (Cu (S:=S1)) ?_))
  show BO (Γ2++cs.map some) (.b (Γ.length+h)) (.v (.lst []))=_
  cases r<;>simp[gb]
 have c2:AV (mOp Bg (AB 5) (mC (.int 5))) S1=some (decide (w=5),S1):=Bh (Au (x:=.v (.int w)) (y:=.v (.int 5)) (s1:=S1) (s2:=S1) rfl rfl rfl)
 by_cases cA:w<5/\r≠[]
 ·
  have c1':(decide (w<5) && !r.isEmpty)=true:=by
   rw[decide_eq_true cA.1]
   cases r with
   | nil=>exact absurd rfl cA.2
   | cons _ _=>rfl
  rw[c1'] at c1
  have rl:0<r.length:=List.length_pos_iff.mpr cA.2
  obtain ⟨a,z3,Γ3,a0,a1,hz3,d3,e3⟩:=Dv (m:=(r.length:Int)) (d2.pool p) (by lia) (by lia) (by have:=hR.1;lia)
  obtain ⟨an,rfl⟩:∃ k:Nat,a=k:=⟨a.toNat,by lia⟩
  have D3:=d2.trans d3
  have ha:an<r.length:=by lia
  obtain ⟨⟨k,tg⟩,hkt⟩:∃ kt,r[an]?=some kt:=⟨r[an],List.getElem?_eq_getElem ha⟩
  have gkt:=hR.2 _ (List.mem_of_getElem? hkt)
  obtain ⟨d,z4,Γ4,e4,od,hz4,d4⟩:=Nu (B:=cs.map some) (D3.pool p) (by lia) gkt.2 gkt.1
  have D4:=D3.trans d4
  have e3':=e3 (cs.map some)
  have gb3:=Es (cs:=cs) D3 gcs
  have gb4:=Es (cs:=cs) D4 gcs
  have hix:atI (r.map thD) (an:Int)=some (.tup [.int k,.str tg]):=KW hkt
  have hxn:ixN (r.map thD).length (an:Int)=some an:=by
   unfold ixN
   rw[List.length_map,if_pos (by lia),if_pos (by lia),Int.toNat_natCast]
  let S2:DS:=sp n (Aa rs) (some (.l (List.range' Γ.length rs.length))) (some (.v (.int h))) (some (.b (Γ.length+h))) (some (.v (.int w))) (some (.v (.int an))) none none (Γ3++cs.map some) Γ.length
  have f1:AL 6 (AI Ai (AA (AB 0) (AA (AR Ah (AA (AB 4) AC)) AC))) S1=some (.nx S2):=by
   refine CK (s':={S1 with Γ:=Γ3++cs.map some}) (Cm (x:=.b n) (y:=.v (.int r.length)) (s1:=S1) (s2:=S1) rfl (Cb (x:=.b (Γ.length+h)) (s':=S1) rfl ?_) e3')
   show Ah (Γ2++cs.map some) [.b (Γ.length+h)]=_
   simp[gb]
  have i0:mOp gIx (AB 4) (AB 6) S2=some (.v (.tup [.int k,.str tg]),S2):=Au (x:=.b (Γ.length+h)) (y:=.v (.int an)) (s1:=S2) (s2:=S2) rfl rfl (by
   show gIx (Γ3++cs.map some) (.b (Γ.length+h)) (.v (.int an))=_
   simp[gb3,hix])
  have i1:mOp gIx (mOp gIx (AB 4) (AB 6)) (mC (.int 0)) S2=some (.v (.int k),S2):=Au i0 (y:=.v (.int 0)) (s2:=S2) rfl (by simp[at0])
  have i2:mOp gIx (mOp gIx (AB 4) (AB 6)) (mC (.int 1)) S2=some (.v (.str tg),S2):=Au i0 (y:=.v (.int 1)) (s2:=S2) rfl (by simp[at1])
  have i3:=SM (M:=Dd) (a:=AB 0) (x:=.b n) (s1:=S2) (s:=S2) rfl i1 i2 e4
  let cs':=cs.set h ((r.map thD).set an d)
  have f2:Bs (AB 4) (AB 6) (AI Dd (AA (AB 0) (AA (mOp gIx (mOp gIx (AB 4) (AB 6)) (mC (.int 0))) (AA (mOp gIx (mOp gIx (AB 4) (AB 6)) (mC (.int 1))) AC)))) S2=some (.nx (sp n (Aa rs) (some (.l (List.range' Γ.length rs.length))) (some (.v (.int h))) (some (.b (Γ.length+h))) (some (.v (.int w))) (some (.v (.int an))) none none (Γ4++cs'.map some) Γ.length)):=by
   unfold Bs
   rw[i3]
   show (match (Γ4++cs.map some)[Γ.length+h]? with
    | some (some xs)=>(ixN xs.length (an:Int)).map fun j=>Out.nx (sp n (Aa rs) (some (.l (List.range' Γ.length rs.length))) (some (.v (.int h))) (some (.b (Γ.length+h))) (some (.v (.int w))) (some (.v (.int an))) none none ((Γ4++cs.map some).set (Γ.length+h) (some (xs.set j d))) Γ.length)
    | _=>none)=_
   rw[gb4]
   simp only[hxn,Option.map_some]
   rw[Jv D4]
  obtain ⟨Γ5,f3,q5⟩:=JS (R:=Aa rs) (x3:=some (.v (.int h))) (x4:=some (.b (Γ.length+h))) (x5:=some (.v (.int w))) (x6:=some (.v (.int an))) (x7:=none) (x8:=none) (cs:=cs') (m:=rs.length) D4 (by rw[List.length_set];exact lcs)
  refine ⟨_,z4,Γ4,(fn9 (MM ((em1 _).trans (CU ((B5 c1).trans ((AW f1).trans ((AW f2).trans f3))))))).trans (by rw[q5]),JY (by rw[List.length_set];lia) fun c hc=>?_,by lia,D4⟩
  rcases mem_set hc with rfl | hc
  ·exact RE hR od
  ·exact ocs c hc
 have c1':(decide (w<5) && !r.isEmpty)=false:=by
  cases hw:decide (w<5) with
  | false=>rfl
  | true=>
   have:=of_decide_eq_true hw
   cases r with
   | nil=>rfl
   | cons _ _=>exact absurd ⟨this,by simp⟩ cA
 rw[c1'] at c1
 have s1':=BW (m:=AJ (AL 6 (AI Ai (AA (AB 0) (AA (AR Ah (AA (AB 4) AC)) AC)))) (AJ (Bs (AB 4) (AB 6) (AI Dd (AA (AB 0) (AA (mOp gIx (mOp gIx (AB 4) (AB 6)) (mC (.int 0))) (AA (mOp gIx (mOp gIx (AB 4) (AB 6)) (mC (.int 1))) AC))))) (AZ (Ed 2)))) (n:=Ae) c1
 by_cases cB:w=5
 ·
  rw[decide_eq_true cB] at c2
  obtain ⟨o,z3,Γ3,o0,o1,hz3,d3,e3⟩:=Dv (m:=8) (d2.pool p) (by lia) (by decide) (by decide)
  have D3:=d2.trans d3
  let Os:List D:=[.non,.tup [],.lst [],.str "a",.int 0,.tup [.int 1,.int 2],.tup [.str "a",.str "a"],.dic [] []]
  obtain ⟨od,hod,mod⟩:=C4 (xs:=Os) (i:=o) o0 o1
  obtain ⟨l0,l1,l2,l3,l4,l5,l6⟩:=Eh
  obtain ⟨n0,n1,n2,n3,n4,n5,n6⟩:=Ek
  have oA:∀ m,OKD m (.str "a"):=fun m=>BE l4 (by lia)
  have ood:OKD 2 od:=by
   have:∀ x∈Os,OKD 2 x:=by
    simp only[Os,List.mem_cons,List.not_mem_nil,or_false,forall_eq_or_imp,forall_eq]
    exact ⟨Ce,De (by simp) (by simp),BC (by simp) (by simp),oA 2,A8,Bt A8 A8,Bt (oA 1) (oA 1),Fu⟩
   exact this od mod
  have e3':=e3 (cs.map some)
  let S2:DS:=sp n (Aa rs) (some (.l (List.range' Γ.length rs.length))) (some (.v (.int h))) (some (.b (Γ.length+h))) (some (.v (.int w))) none (some (.v od)) none (Γ3++cs.map some) Γ.length
  have b8:(8:Nat)<=big:=by decide
  have bb2:(2:Nat)<=big:=by decide
  have b0:(0:Nat)<=big:=Nat.zero_le _
  have dsp:AE (AG (AA (mC .non) (AA (AN AC) (AA (AE (AG AC)) (AA (mC (.str "a")) (AA (mC (.int 0)) (AA (AN (AA (mC (.int 1)) (AA (mC (.int 2)) AC))) (AA (AN (AA (mC (.str "a")) (AA (mC (.str "a")) AC))) (AA CC AC))))))))) S1=some (.v (.lst Os),S1):=by simp[b8,bb2,b0,Os]
  have f1:AL 7 (mOp gIx (AE (AG (AA (mC .non) (AA (AN AC) (AA (AE (AG AC)) (AA (mC (.str "a")) (AA (mC (.int 0)) (AA (AN (AA (mC (.int 1)) (AA (mC (.int 2)) AC))) (AA (AN (AA (mC (.str "a")) (AA (mC (.str "a")) AC))) (AA CC AC)))))))))) (AI Ai (AA (AB 0) (AA (mC (.int 8)) AC)))) S1=some (.nx S2):=
   CK (s':={S1 with Γ:=Γ3++cs.map some}) (Au dsp (Cm (x:=.b n) (y:=.v (.int 8)) (s1:=S1) (s2:=S1) rfl rfl e3') hod)
  obtain ⟨a,z4,Γ4,a0,a1,hz4,d4,e4⟩:=Dv (m:=(r.length:Int)+1) (D3.pool p) (by lia) (by lia) (by have:=hR.1;lia)
  have D4:=D3.trans d4
  have e4':=e4 (cs.map some)
  have gb3:=Es (cs:=cs) D3 gcs
  have gb4:=Es (cs:=cs) D4 gcs
  have ln:AR Ah (AA (AB 4) AC) S2=some (.v (.int r.length),S2):=Cb (x:=.b (Γ.length+h)) (s':=S2) rfl (by
   show Ah (Γ3++cs.map some) [.b (Γ.length+h)]=_
   simp[gb3])
  have tk:=Cm (M:=Ai) (m:=AB 0) (n:=mOp AQ (AR Ah (AA (AB 4) AC)) (mC (.int 1))) (s:=S2) (x:=.b n) (s1:=S2) rfl (Au (g:=AQ) ln (y:=.v (.int 1)) (s2:=S2) rfl rfl) e4'
  let cs':=cs.set h ((r.map thD).take a.toNat++od::(r.map thD).drop a.toNat)
  have f2:FZ (FT (AB 4) (AI Ai (AA (AB 0) (AA (mOp AQ (AR Ah (AA (AB 4) AC)) (mC (.int 1))) AC))) (AB 7)) S2=some (.nx (sp n (Aa rs) (some (.l (List.range' Γ.length rs.length))) (some (.v (.int h))) (some (.b (Γ.length+h))) (some (.v (.int w))) none (some (.v od)) none (Γ4++cs'.map some) Γ.length)):=by
   have hc:0<=a/\a<=((r.map thD).length:Int)/\(r.map thD).length<big:=by rw[List.length_map];have:=hR.1;exact ⟨a0,by lia,by unfold big;lia⟩
   have q:FT (AB 4) (AI Ai (AA (AB 0) (AA (mOp AQ (AR Ah (AA (AB 4) AC)) (mC (.int 1))) AC))) (AB 7) S2=some (.v .non,sp n (Aa rs) (some (.l (List.range' Γ.length rs.length))) (some (.v (.int h))) (some (.b (Γ.length+h))) (some (.v (.int w))) none (some (.v od)) none (Γ4++cs'.map some) Γ.length):=by
    unfold FT
    show (match (Γ3++cs.map some)[Γ.length+h]? with
     | some (some _)=>_
     | _=>none)=_
    rw[gb3]
    simp only[tk,Option.bind_some]
    show (match (Γ4++cs.map some)[Γ.length+h]? with
     | some (some xs)=>if 0<=a/\a<=(xs.length:Int)/\xs.length<big then some (SV.v .non,sp n (Aa rs) (some (.l (List.range' Γ.length rs.length))) (some (.v (.int h))) (some (.b (Γ.length+h))) (some (.v (.int w))) none (some (.v od)) none ((Γ4++cs.map some).set (Γ.length+h) (some (xs.take a.toNat++od::xs.drop a.toNat))) Γ.length) else none
     | _=>none)=_
    rw[gb4]
    simp only
    rw[if_pos hc,Jv D4]
   unfold FZ
   rw[q]
   rfl
  obtain ⟨Γ5,f3,q5⟩:=JS (R:=Aa rs) (x3:=some (.v (.int h))) (x4:=some (.b (Γ.length+h))) (x5:=some (.v (.int w))) (x6:=none) (x7:=some (.v od)) (x8:=none) (cs:=cs') (m:=rs.length) D4 (by rw[List.length_set];exact lcs)
  refine ⟨_,z4,Γ4,(fn9 (MM ((em1 _).trans ((AW s1').trans (CU ((B5 c2).trans ((AW f1).trans ((AW f2).trans f3)))))))).trans (by rw[q5]),JY (by rw[List.length_set];lia) fun c hc=>?_,by lia,D4⟩
  rcases mem_set hc with rfl | hc
  ·have hl:=Kp hR
   refine ⟨by rw[List.length_append,List.length_cons,List.length_take,List.length_drop,List.length_map];have:=hR.1;lia,fun x hx=>?_⟩
   rcases List.mem_append.mp hx with hx | hx
   ·exact hl.2 x (List.mem_of_mem_take hx)
   ·rcases List.mem_cons.mp hx with rfl | hx
    ·exact ood.up
    ·exact hl.2 x (List.mem_of_mem_drop hx)
  ·exact ocs c hc
 rw[decide_eq_false cB] at c2
 have m1n:∀ X Y:MS,AJ (mIf (Cc (AV (mOp CF (AB 5) (mC (.int 5)))) (AV (mOp BO (AB 4) (AE (AG AC))))) X Ae) (AJ (mIf (AV (mOp Bg (AB 5) (mC (.int 5)))) Y Ae) fun _=>none) S1=none:=fun X Y=>(AW (BW (m:=X) (n:=Ae) c1)).trans (AW (BW (m:=Y) (n:=Ae) c2))
 let T1:DS:=sp n (Aa rs) (some (.b Γ.length)) (some (.v (.int h))) (some (.v (AU r))) (some (.v (.int w))) none none none (Γ2++[some (rs.map AU)]) Γ.length
 have k1:Cc (AV (mOp CF (AB 5) (mC (.int 5)))) (AV (mOp BO (AB 4) (AE (AG AC)))) T1=some (false,T1):=by
  rw[<-c1']
  refine K2 (Bh (Au (x:=.v (.int w)) (y:=.v (.int 5)) (s1:=T1) (s2:=T1) rfl rfl rfl)) (Bh (Au (x:=.v (AU r)) (s1:=T1) rfl (Cu (S:=T1)) ?_))
  show BO _ (.v (.lst (r.map thD))) (.v (.lst []))=_
  rw[ne_nil,List.isEmpty_map]
 have k2:AV (mOp Bg (AB 5) (mC (.int 5))) T1=some (false,T1):=by
  rw[<-decide_eq_false cB]
  exact Bh (Au (x:=.v (.int w)) (y:=.v (.int 5)) (s1:=T1) (s2:=T1) rfl rfl rfl)
 have k3:AV (mOp Bg (AB 5) (mC (.int 6))) T1=some (decide (w=6),T1):=Bh (Au (x:=.v (.int w)) (y:=.v (.int 6)) (s1:=T1) (s2:=T1) rfl rfl rfl)
 have j1:=fun X:MS=>BW (m:=X) (n:=Ae) k1
 have j2:=fun X:MS=>BW (m:=X) (n:=Ae) k2
 have gF:∀ {z':Int} {G:Gm},Dr n z z' Γ G->(G++[some (rs.map AU)])[Γ.length]?=some (some (rs.map AU)):=fun {z' G} d=>by rw[<-d.len];simp
 have gF2:=gF d2
 obtain ⟨l0,l1,l2,l3,l4,l5,l6⟩:=Eh
 obtain ⟨n0,n1,n2,n3,n4,n5,n6⟩:=Ek
 have oR:∀ x∈rs.map AU,OKD 4 x:=fun x hx=>by
  obtain ⟨r',hr',rfl⟩:=List.mem_map.mp hx
  exact El (n:=2) (R r' hr')
 have oT:∀ m,OKD (m+2) (.tup (r.map thD)):=fun m=>De (by rw[List.length_map];have:=hR.1;lia) fun x hx=>by
  obtain ⟨t,ht,rfl⟩:=List.mem_map.mp hx
  exact Fe (hR.2 t ht).1
 have bb1:(1:Nat)<=big:=by decide
 have bb2:(2:Nat)<=big:=by decide
 have b0:(0:Nat)<=big:=Nat.zero_le _
 have b8:(8:Nat)<=big:=by decide
 by_cases cC:w=6
 ·rw[decide_eq_true cC] at k3
  obtain ⟨o,z3,Γ3,o0,o1,hz3,d3,e3⟩:=Dv (m:=8) (d2.pool p) (by lia) (by decide) (by decide)
  have D3:=d2.trans d3
  have e3':=e3 [some (rs.map AU)]
  obtain ⟨dd,hdd,odd⟩:=Sm (n:=4) (Γ:=Γ2++[some (rs.map AU)]) hR
  let Os:List D:=[.tup (r.map thD),.non,.dic [] [],.str "",.int 0,.tup [.int 1,.str "a"],.lst [AU r],dd]
  obtain ⟨x,hx,mx⟩:=C4 (xs:=Os) (i:=o) o0 o1
  have ox:OKD 4 x:=by
   have:∀ x∈Os,OKD 4 x:=by
    simp only[Os,List.mem_cons,List.not_mem_nil,or_false,forall_eq_or_imp,forall_eq]
    exact ⟨oT 2,Ce,Fu,BE l0 (by lia),A8,Bt A8 (BE l4 (by lia)),B2 (El (n:=1) hR),odd⟩
   exact this x mx
  have tu:AR CJ (AA (AB 4) AC) T1=some (.v (.tup (r.map thD)),T1):=Cb (x:=.v (AU r)) (s':=T1) rfl rfl
  have di:AR C9 (AA (AB 4) AC) T1=some (.v dd,T1):=Cb (x:=.v (AU r)) (s':=T1) rfl hdd
  have dsp:AE (AG (AA (AR CJ (AA (AB 4) AC)) (AA (mC .non) (AA CC (AA (mC (.str "")) (AA (mC (.int 0)) (AA (AN (AA (mC (.int 1)) (AA (mC (.str "a")) AC))) (AA (AE (AG (AA (AB 4) AC))) (AA (AR C9 (AA (AB 4) AC)) AC))))))))) T1=some (.v (.lst Os),T1):=by
   have t6:AN (AA (mC (.int 1)) (AA (mC (.str "a")) AC)) T1=some (.v (.tup [.int 1,.str "a"]),T1):=by simp[bb2]
   exact dl (ds:=Os) (dc tu (dc (S1:=T1) rfl (dc (S1:=T1) rfl (dc (S1:=T1) rfl (dc (S1:=T1) rfl (dc t6 (dc (dl (ds:=[AU r]) (dc (S1:=T1) rfl dn) bb1) (dc di dn)))))))) b8
  let T2:DS:={T1 with Γ:=Γ3++[some (rs.map AU)]}
  have ix:mOp gIx (AE (AG (AA (AR CJ (AA (AB 4) AC)) (AA (mC .non) (AA CC (AA (mC (.str "")) (AA (mC (.int 0)) (AA (AN (AA (mC (.int 1)) (AA (mC (.str "a")) AC))) (AA (AE (AG (AA (AB 4) AC))) (AA (AR C9 (AA (AB 4) AC)) AC)))))))))) (AI Ai (AA (AB 0) (AA (mC (.int 8)) AC))) T1=some (.v x,T2):=Au dsp (Cm (x:=.b n) (y:=.v (.int 8)) (s1:=T1) (s2:=T1) rfl rfl e3') hx
  have hxn:ixN (rs.map AU).length (h:Int)=some h:=by
   unfold ixN
   rw[List.length_map,if_pos (by lia),if_pos (by lia),Int.toNat_natCast]
  let F':=(rs.map AU).set h x
  let T3:DS:={T1 with Γ:=Γ3++[some F']}
  have g3:=gF D3
  have f1:Bs (AB 2) (AB 3) (mOp gIx (AE (AG (AA (AR CJ (AA (AB 4) AC)) (AA (mC .non) (AA CC (AA (mC (.str "")) (AA (mC (.int 0)) (AA (AN (AA (mC (.int 1)) (AA (mC (.str "a")) AC))) (AA (AE (AG (AA (AB 4) AC))) (AA (AR C9 (AA (AB 4) AC)) AC)))))))))) (AI Ai (AA (AB 0) (AA (mC (.int 8)) AC)))) T1=some (.nx T3):=by
   unfold Bs
   rw[ix]
   show (match (Γ3++[some (rs.map AU)])[Γ.length]? with
    | some (some xs)=>(ixN xs.length (h:Int)).map fun j=>Out.nx {T1 with Γ:=(Γ3++[some (rs.map AU)]).set Γ.length (some (xs.set j x))}
    | _=>none)=_
   rw[g3]
   simp only[hxn,Option.map_some]
   rw[<-D3.len,List.set_append_right _ _ (Nat.le_refl _),Nat.sub_self]
   rfl
  have g4:(Γ3++[some F'])[Γ.length]?=some (some F'):=by rw[<-D3.len];simp
  have f2:AZ (AE (GH 2)) T3=some (.rt (.lst F') ⟨T3.σ.set 2 none,(Γ3++[some F']).set Γ.length none,Γ.length⟩):=by
   refine Cf (BP ?_)
   show (match (Γ3++[some F'])[Γ.length]? with
    | some (some xs)=>if Γ.length<=Γ.length then some (xs,(⟨T3.σ.set 2 none,(Γ3++[some F']).set Γ.length none,Γ.length⟩:DS)) else none
    | _=>none)=_
   rw[g4]
   simp only
   rw[if_pos (Nat.le_refl _)]
  refine ⟨.lst F',z3,Γ3,(fn9 ((Iy ((em1 _).trans (m1n _ _))).trans ((em2 _).trans ((AW (j1 _)).trans ((AW (j2 _)).trans (CU ((B5 k3).trans ((AW f1).trans f2)))))))).trans ?_,BC (by rw[List.length_set,List.length_map];lia) fun y hy=>?_,by lia,D3⟩
  ·show some (D.lst F',((Γ3++[some F']).set Γ.length none).take Γ.length)=_
   rw[List.take_set_of_le (Nat.le_refl _),IB D3]
  ·rcases mem_set hy with rfl | hy
   ·exact ox
   ·exact oR y hy
 ·rw[decide_eq_false cC] at k3
  have j3:=fun X:MS=>BW (m:=X) (n:=Ae) k3
  obtain ⟨o,z3,Γ3,o0,o1,hz3,d3,e3⟩:=Dv (m:=10) (d2.pool p) (by lia) (by decide) (by decide)
  have D3:=d2.trans d3
  have e3':=e3 [some (rs.map AU)]
  let F:=rs.map AU
  have lF:F.length=rs.length:=List.length_map _
  let E1:=cutD F none (some (h:Int))++cutD F (some ((h:Int)+1)) none
  have cl:∀ l u,(cutD F l u).length<=6:=fun l u=>by
   have:=G3 rs l u
   rw[show cutD F l u=(Bp rs l u).map AU from Jt AU rs l u,List.length_map]
   lia
  have cm:∀ l u,∀ x∈cutD F l u,x∈F:=fun l u x hx=>List.mem_of_mem_drop (List.mem_of_mem_take hx)
  let N6:List D:=[.lst [],.lst [],.lst [],.lst [],.lst [],.lst []]
  have b5:(5:Nat)<=big:=by decide
  have q1:(cutD F none (some (h:Int))).length+(cutD F (some ((h:Int)+1)) none).length<=big:=by have:=cl none (some (h:Int));have:=cl (some ((h:Int)+1)) none;unfold big;lia
  have q2:F.length+1<=big:=by rw[lF];unfold big;lia
  have q3:F.length+6<=big:=by rw[lF];unfold big;lia
  have x1:mOp AQ (mSl (AB 2) none (some (AB 3))) (mSl (AB 2) (some (mOp AQ (AB 3) (mC (.int 1)))) none) T1=some (.v (.lst E1),T1):=by
   have y1:mSl (AB 2) none (some (AB 3)) T1=some (.v (.lst (cutD F none (some (h:Int)))),T1):=by simp[T1,gF2,F]
   have y2:mSl (AB 2) (some (mOp AQ (AB 3) (mC (.int 1)))) none T1=some (.v (.lst (cutD F (some ((h:Int)+1)) none)),T1):=by simp[T1,gF2,F]
   refine Au y1 y2 ?_
   show (if (cutD F none (some (h:Int))).length+(cutD F (some ((h:Int)+1)) none).length<=big then some (D.lst E1) else none)=_
   rw[if_pos q1]
  have x2:AE (Aj BA (AB 2) (AE (AG (AA (AB 4) AC)))) T1=some (.v (.lst (F++[AU r])),T1):=by
   refine BP (Bz (x:=.b Γ.length) (y:=.v (.lst [AU r])) (s1:=T1) (s2:=T1) rfl (by simp[T1,bb1]) ?_)
   show (match ((Γ2++[some (rs.map AU)])[Γ.length]?).join,some [AU r] with
    | some xs,some ys=>if xs.length+ys.length<=big then some (xs++ys) else none
    | _,_=>none)=_
   rw[gF2]
   exact if_pos q2
  have em:∀ S:DS,AE (AG (AA (AE (AG AC)) AC)) S=some (.v (.lst [.lst []]),S):=fun S=>by simp[bb1,b0]
  have n6:∀ S:DS,AE (Aj As (AE (AG (AA (AE (AG AC)) AC))) (mC (.int 6))) S=some (.v (.lst N6),S):=fun S=>BP (Bz (em S) (y:=.v (.int 6)) (s2:=S) rfl (Dp (by decide) (by decide) (show (1 * 6:Nat)<=big by decide) rfl))
  have n7:∀ S:DS,AE (Aj As (AE (AG (AA (AE (AG AC)) AC))) (mC (.int 7))) S=some (.v (.lst (.lst []::N6)),S):=fun S=>BP (Bz (em S) (y:=.v (.int 7)) (s2:=S) rfl (Dp (by decide) (by decide) (show (1 * 7:Nat)<=big by decide) rfl))
  have x3:mOp AQ (AB 2) (AE (Aj As (AE (AG (AA (AE (AG AC)) AC))) (mC (.int 6)))) T1=some (.v (.lst (F++N6)),T1):=by
   refine Au (x:=.b Γ.length) (s1:=T1) rfl (n6 T1) ?_
   show (match ((Γ2++[some (rs.map AU)])[Γ.length]?).join,some N6 with
    | some xs,some ys=>if xs.length+ys.length<=big then some (D.lst (xs++ys)) else none
    | _,_=>none)=_
   rw[gF2]
   exact if_pos q3
  have x5:AR CJ (AA (AB 2) AC) T1=some (.v (.tup F),T1):=Cb (x:=.b Γ.length) (s':=T1) rfl (by
   show (((Γ2++[some (rs.map AU)])[Γ.length]?).join).map D.tup=_
   rw[gF2]
   rfl)
  let So:List D:=[.lst E1,.lst (F++[AU r]),.lst (F++N6),.lst [],.tup F]
  let T2:DS:=sp n (Aa rs) (some (.b Γ.length)) (some (.v (.int h))) (some (.v (AU r))) (some (.v (.int w))) none none (some (.v (.lst So))) (Γ2++[some (rs.map AU)]) Γ.length
  have f1:AL 8 (AE (AG (AA (mOp AQ (mSl (AB 2) none (some (AB 3))) (mSl (AB 2) (some (mOp AQ (AB 3) (mC (.int 1)))) none)) (AA (AE (Aj BA (AB 2) (AE (AG (AA (AB 4) AC))))) (AA (mOp AQ (AB 2) (AE (Aj As (AE (AG (AA (AE (AG AC)) AC))) (mC (.int 6))))) (AA (AE (AG AC)) (AA (AR CJ (AA (AB 2) AC)) AC))))))) T1=some (.nx T2):=by
   exact CK (s':=T1) (dl (ds:=So) (dc x1 (dc x2 (dc x3 (dc Cu (dc x5 dn))))) b5)
  let Os:=So++[.non,AU r,.dic [.inl 0] [AU r],.lst N6,.lst (.lst []::N6)]
  obtain ⟨x,hx,mx⟩:=C4 (xs:=Os) (i:=o) o0 o1
  have b10:(10:Nat)<=big:=by decide
  have dsp:AE (Aj BA (AB 8) (AE (AG (AA (mC .non) (AA (AB 4) (AA (FA 0 4) (AA (AE (Aj As (AE (AG (AA (AE (AG AC)) AC))) (mC (.int 6)))) (AA (AE (Aj As (AE (AG (AA (AE (AG AC)) AC))) (mC (.int 7)))) AC)))))))) T2=some (.v (.lst Os),T2):=by
   have y:AE (AG (AA (mC .non) (AA (AB 4) (AA (FA 0 4) (AA (AE (Aj As (AE (AG (AA (AE (AG AC)) AC))) (mC (.int 6)))) (AA (AE (Aj As (AE (AG (AA (AE (AG AC)) AC))) (mC (.int 7)))) AC)))))) T2=some (.v (.lst [.non,AU r,.dic [.inl 0] [AU r],.lst N6,.lst (.lst []::N6)]),T2):=by
    exact dl (dc (S1:=T2) rfl (dc (S1:=T2) rfl (dc (S1:=T2) rfl (dc (n6 T2) (dc (n7 T2) dn))))) b5
   exact BP (Bz (x:=.v (.lst So)) (s1:=T2) rfl y (if_pos (e:=none) b10))
  have f2:=Cf (Au (g:=gIx) dsp (Cm (M:=Ai) (m:=AB 0) (n:=mC (.int 10)) (x:=.b n) (y:=.v (.int 10)) (s1:=T2) (s2:=T2) rfl rfl e3') hx)
  have oN:∀ y∈N6,OKD 4 y:=fun y hy=>by
   simp only[N6,List.mem_cons,List.not_mem_nil,or_false,or_self] at hy
   rw[hy]
   exact BC (by simp) (by simp)
  have oF:∀ y∈F,OKD 4 y:=oR
  have ox:OKD 5 x:=by
   rcases List.mem_append.mp mx with mx | mx
   ·simp only[So,List.mem_cons,List.not_mem_nil,or_false] at mx
    rcases mx with rfl | rfl | rfl | rfl | rfl
    ·exact BC (by rw[List.length_append];have:=cl none (some (h:Int));have:=cl (some ((h:Int)+1)) none;lia) fun y hy=>(List.mem_append.mp hy).elim (fun z=>oF y (cm _ _ y z)) fun z=>oF y (cm _ _ y z)
    ·exact BC (by rw[List.length_append,lF];simp;lia) fun y hy=>(List.mem_append.mp hy).elim (oF y) fun z=>by rw[List.mem_singleton.mp z];exact El (n:=2) hR
    ·exact BC (by rw[List.length_append,lF];show rs.length+6<=5000;lia) fun y hy=>(List.mem_append.mp hy).elim (oF y) (oN y)
    ·exact BC (by simp) (by simp)
    ·exact De (by rw[lF];lia) oF
   ·simp only[List.mem_cons,List.not_mem_nil,or_false] at mx
    rcases mx with rfl | rfl | rfl | rfl | rfl
    ·exact Ce
    ·exact El (n:=3) hR
    ·exact fun y hy=>by rw[List.mem_singleton.mp hy];exact Qi hR
    ·exact BC (show (6:Nat)<=5000 by decide) oN
    ·exact BC (show (7:Nat)<=5000 by decide) fun y hy=>(List.mem_cons.mp hy).elim (fun z=>by rw[z];exact BC (by simp) (by simp)) (oN y)
  refine ⟨x,z3,Γ3,(fn9 ((Iy ((em1 _).trans (m1n _ _))).trans ((em2 _).trans ((AW (j1 _)).trans ((AW (j2 _)).trans ((AW (j3 _)).trans ((AW f1).trans f2))))))).trans ?_,ox,by lia,D3⟩
  show some (x,(Γ3++[some (rs.map AU)]).take Γ.length)=_
  rw[IB D3]
structure LF (Mp Mr:MDF) (Msp Mcp Mar Mdu:MD) (Msa:List D->Option D) (Mt Mtg Mky:MD):Prop where
 pool:∀ {Γ:Gm} {ns:List Int} {k:Nat},k<=100->∃ x y z:Int,Mp [.v (.scr ns),.v (.int k)] Γ=some ([.int x,.int y,.int z],Γ)/\0<=z/\z<=5000
 rows:∀ {Γ:Gm} {n:Nat} {z m:Int},Pool Γ n z->z<=300000->0<=m->m<=60->∃ (rs:List (List Th)) (z':Int) (Γ':Gm),Mr [.b n,.v (.int m)] Γ=some (rs.map AU,Γ')/\1<=rs.length/\rs.length<=6/\(∀ r∈rs,(r.length:Int)<=m/\∀ t∈r,Tg t.2/\Ky t.1)/\z'<=z+1+6 * (7 * m+40)/\Dr n z z' Γ Γ'
 spl:∀ {Γ:Gm} {n:Nat} {z:Int} {rs:List (List Th)},Pool Γ n z->z<=300000->1<=rs.length->rs.length<=6->(∀ r∈rs,Rw r)->∃ d z' Γ',Msp [.b n,.v (Aa rs)] Γ=some (d,Γ')/\OKD 5 d/\z'<=z+12/\Dr n z z' Γ Γ'
 cpy:∀ {d:D} {Γ:Gm},OKD 5 d->Mcp [.v d] Γ=some (d,Γ)
 are:∀ {d:D} {Γ:Gm},OKD 5 d->Mar [.v d] Γ=some (.bl (BK d),Γ)
 due:∀ {d:D} {Γ:Gm},OKD 5 d->Mdu [.v d] Γ=some (.bl (BK d),Γ)
 same:∀ {d:D},OKD 5 d->Msa [d,d]=some (.bl true)
 take:∀ {Γ:Gm} {n:Nat} {z m:Int},Pool Γ n z->z<=1000000->0<m->m<2 ^ 128->∃ r z' Γ',Mt [.b n,.v (.int m)] Γ=some (.int r,Γ')/\0<=r/\r<m/\z'<=z+1/\Dr n z z' Γ Γ'
 tag:∀ {Γ:Gm} {n:Nat} {z:Int},Pool Γ n z->z<=900000->∃ t z' Γ',Mtg [.b n] Γ=some (.str t,Γ')/\Tg t/\z'<=z+9/\Dr n z z' Γ Γ'
 key:∀ {Γ:Gm} {n:Nat} {z k:Int},Pool Γ n z->z<=900000->∃ r z' Γ',Mky [.b n,.v (.int k)] Γ=some (.int r,Γ')/\z'<=z+5/\Ky r/\Dr n z z' Γ Γ'
theorem SJ {t:Str} (h:Tg t):Cy (.str t)=true:=by
 have e:Cy (.str t)=(decide (1<=(t.length:Int)) && decide ((t.length:Int)<=8) && t.cps.toList.all CQ):=rfl
 have h1:=h.1
 have h2:=h.2.1
 rw[e,decide_eq_true (by lia),decide_eq_true (by lia),Bool.true_and,Bool.true_and,List.all_eq_true]
 intro c hc
 have:=h.2.2 c hc
 unfold CQ
 rw[decide_eq_true this.1,decide_eq_true this.2]
 rfl
theorem IL {k:Int} {t:Str} (h:Tg t):thB (.tup [.int k,.str t])=true:=SJ h
theorem NI {r:List Th} (h:∀ t∈r,Tg t.2):BS (AU r)=true:=by
 show (r.map thD).all thB=true
 rw[List.all_map,List.all_eq_true]
 exact fun t ht=>IL (h t ht)
theorem Sq {rs:List (List Th)} (h1:1<=rs.length) (h6:rs.length<=6) (h:∀ r∈rs,∀ t∈r,Tg t.2):BK (Aa rs)=true:=by
 have e:BK (Aa rs)=(decide (1<=((rs.map AU).length:Int)) && decide (((rs.map AU).length:Int)<=6) && (rs.map AU).all BS):=rfl
 rw[e,List.length_map,decide_eq_true (by lia),decide_eq_true (by lia),Bool.true_and,Bool.true_and,List.all_map,List.all_eq_true]
 exact fun r hr=>NI (h r hr)
section
variable {Mp Mr:MDF} {Msp Mcp Mar Mdu:MD} {Msa:List D->Option D} {Mt Mtg Mky:MD} (F:LF Mp Mr Msp Mcp Mar Mdu Msa Mt Mtg Mky)
abbrev sl (x0 x1 x2 x3 x4 x5 x6 x7 x8 x9 xa xb xc xd:Option SV) (Γ:Gm):DS:=⟨[x0,x1,x2,x3,x4,x5,x6,x7,x8,x9,xa,xb,xc,xd],Γ,0⟩
include F
theorem Ft {m:ME} {S S':DS} {d:D} {b:Bool} (h:m S=some (.v d,S')) (hd:OKD 5 d):AV (mOp C2 (AI Mar (AA m AC)) (mC (.bl b))) S=some (!(BK d == b),S'):=by
 have w:=Ci (M:=Mar) h (F.are (Γ:=S'.Γ) hd)
 exact Bh (Au (g:=C2) w (y:=.v (.bl b)) (s2:=S') rfl rfl)
theorem Si {d:D} (h:OKD 5 d) {x0 x1 x2 x3 x5 x6:Option SV} {Γ:Gm}:Fb Mp Mr Msp Mcp Mar Mdu Msa Mt Mtg Mky (sl x0 x1 x2 x3 (some (.v d)) x5 x6 none none none none none none none Γ)=some (.nx (sl x0 x1 x2 x3 (some (.v d)) (some (.v d)) (some (.v (.bl (BK d)))) none none none none none none none Γ)):=by
 let S0:=sl x0 x1 x2 x3 (some (.v d)) x5 x6 none none none none none none none Γ
 let S1:=sl x0 x1 x2 x3 (some (.v d)) (some (.v d)) x6 none none none none none none none Γ
 let S2:=sl x0 x1 x2 x3 (some (.v d)) (some (.v d)) (some (.v (.bl (BK d)))) none none none none none none none Γ
 have f1:AL 5 (AI Mcp (AA (AB 4) AC)) S0=some (.nx S1):=CK (s':=S0) (Ci (x:=.v d) (s':=S0) rfl (F.cpy h))
 have f2:AL 6 (AI Mar (AA (AB 5) AC)) S1=some (.nx S2):=CK (s':=S1) (Ci (x:=.v d) (s':=S1) rfl (F.are h))
 have g1:Ao (Ad "bool" (AB 6)) S2=some (true,S2):=CS (C6 (x:=.v (.bl (BK d))) rfl rfl rfl)
 have g2:AV (mOp BO (AB 6) (AI Mdu (AA (AB 4) AC))) S2=some (false,S2):=by
  refine Bh (Au (x:=.v (.bl (BK d))) (y:=.v (.bl (BK d))) (s1:=S2) (s2:=S2) rfl (Ci (x:=.v d) (s':=S2) rfl (F.due h)) ?_)
  cases BK d<;>rfl
 have f3:=BW (m:=AZ (mC (.bl false))) (n:=Ae) (C7 (not_of g1) g2)
 have g3:Ao (EG Msa (AA (AB 5) (AA (AB 4) AC))) S2=some (true,S2):=by
  refine CS ?_
  show (Msa [d,d]).bind _=_
  rw[F.same h]
  rfl
 have f4:=BW (m:=AZ (mC (.bl false))) (n:=Ae) (not_of g3)
 exact (AW f1).trans ((AW f2).trans ((AW f3).trans f4))
theorem JR {x0 x1 x2 x3:Option SV} {Γ:Gm}:∀ {ds:List D} (x4 x5 x6:Option SV),(∀ d∈ds,OKD 5 d)->∃ y4 y5 y6,Bl (Ac 4) (Fb Mp Mr Msp Mcp Mar Mdu Msa Mt Mtg Mky) ds (sl x0 x1 x2 x3 x4 x5 x6 none none none none none none none Γ)=some (.nx (sl x0 x1 x2 x3 y4 y5 y6 none none none none none none none Γ))
 | [],x4,x5,x6,_=>⟨x4,x5,x6,rfl⟩
 | d::ds,x4,x5,x6,h=>by
  obtain ⟨y4,y5,y6,e⟩:=JR (ds:=ds) (some (.v d)) (some (.v d)) (some (.v (.bl (BK d)))) fun x hx=>h x (List.mem_cons_of_mem _ hx)
  exact ⟨y4,y5,y6,(Fq (s1:=sl x0 x1 x2 x3 (some (.v d)) x5 x6 none none none none none none none Γ) rfl (Si F (h d List.mem_cons_self))).trans e⟩
theorem RA {ns:List Int} {k:Nat} (hk:k<=100) {x2 x3 x4 x5 x6:Option SV} {Γ:Gm}:∃ y2 y3 y4 y5 y6 Γ',Ho Mp Mr Msp Mcp Mar Mdu Msa Mt Mtg Mky (sl (some (.v (.scr ns))) (some (.v (.int k))) x2 x3 x4 x5 x6 none none none none none none none Γ)=some (.nx (sl (some (.v (.scr ns))) (some (.v (.int k))) y2 y3 y4 y5 y6 none none none none none none none Γ')):=by
 obtain ⟨x,y,z,e1,z0,z5⟩:=F.pool (Γ:=Γ) (ns:=ns) hk
 let P0:Option SV:=some (.v (.scr ns))
 let P1:Option SV:=some (.v (.int k))
 let n:=Γ.length
 have p1:Pool (Γ++[some [.int x,.int y,.int z]]) n z:=⟨z0,x,y,by simp[n]⟩
 have f1:CB 2 (Ck Mp (AA (AB 0) (AA (AB 1) AC))) (sl P0 P1 x2 x3 x4 x5 x6 none none none none none none none Γ)=some (.nx (sl P0 P1 (some (.b n)) x3 x4 x5 x6 none none none none none none none (Γ++[some [.int x,.int y,.int z]]))):=by simp[P0,P1,e1,n]
 obtain ⟨rs,z2,Γ2,e2,r1,r6,rr,hz2,d2⟩:=F.rows (m:=8) p1 (by lia) (by decide) (by decide)
 have RR:∀ r∈rs,Rw r:=fun r hr=>⟨by have:=(rr r hr).1;lia,(rr r hr).2⟩
 have f2:AL 3 (AE (Ck Mr (AA (AB 2) (AA (mC (.int 8)) AC)))) (sl P0 P1 (some (.b n)) x3 x4 x5 x6 none none none none none none none (Γ++[some [.int x,.int y,.int z]]))=some (.nx (sl P0 P1 (some (.b n)) (some (.v (Aa rs))) x4 x5 x6 none none none none none none none Γ2)):=by simp[e2,Aa]
 let S2:=sl P0 P1 (some (.b n)) (some (.v (Aa rs))) x4 x5 x6 none none none none none none none Γ2
 have p2:=d2.pool p1
 obtain ⟨ds,τ3,Γ3,e3,od,hl3,v3,z3,_,hz3,d3⟩:=DU (g:=Ac 0) (t:=mTT) (e:=AI Msp (AA (AB 1) (AA (AB 2) AC))) (items:=upTo 0 8)
  (fun i acc τ Γi=>(∀ d∈acc,OKD 5 d)/\acc.length=i/\∃ (v:Option SV) (zi:Int),τ=[v,some (.b n),some (.v (Aa rs))]/\zi<=z2+12 * i/\Dr n z2 zi Γ2 Γi) (by
   rintro i d acc τ Γi hd ⟨ho,hl,v,zi,rfl,hzi,di⟩
   obtain ⟨hi,rfl⟩:=EY hd
   obtain ⟨d,z4,Γ4,e4,o4,hz4,d4⟩:=F.spl (di.pool p2) (by lia) r1 r6 RR
   refine ⟨_,_,rfl,rfl,.inl ⟨rfl,d,⟨[some (.v (.int (0+i))),some (.b n),some (.v (Aa rs))],Γ4,Γi.length⟩,?_,d4.len,fun x hx=>?_,by rw[List.length_append,hl];rfl,_,z4,rfl,by lia,di.trans d4⟩⟩
   ·exact Cm (x:=.b n) (y:=.v (Aa rs)) (s1:=⟨[some (.v (.int (0+i))),some (.b n),some (.v (Aa rs))],Γi,Γi.length⟩) (s2:=⟨[some (.v (.int (0+i))),some (.b n),some (.v (Aa rs))],Γi,Γi.length⟩) rfl rfl e4
   ·rcases List.mem_append.mp hx with hx | hx
    ·exact ho x hx
    ·rw[List.mem_singleton.mp hx];exact o4) (τ:=[none,some (.b n),some (.v (Aa rs))]) (Γ:=Γ2) ⟨(fun d h=>nomatch h),rfl,none,z2,rfl,by lia,.refl p2⟩
 rw[B4] at hl3
 let S3:=sl P0 P1 (some (.b n)) (some (.v (Aa rs))) x4 x5 x6 none none none none none none none Γ3
 have hr8:B6 (AA (mC (.int 8)) AC) S2=some (upTo 0 8,S2):=by
  have:okR 8=true:=EI (by decide) (by decide)
  simp[this]
 have bb1:(1:Nat)<=big:=by decide
 have b9:(1+8:Nat)<=big:=by decide
 have it:Aw (AE (Aj BA (AE (AG (AA (AB 3) AC))) (AE (BD (B6 (AA (mC (.int 8)) AC)) 1 [2,3] (Ac 0) mTT (AI Msp (AA (AB 1) (AA (AB 2) AC))))))) S2=some (Aa rs::ds,S3):=by
  have w1:AE (AG (AA (AB 3) AC)) S2=some (.v (.lst [Aa rs]),S2):=dl (ds:=[Aa rs]) (dc (S1:=S2) rfl dn) bb1
  have w2:=BP (DJ (nt:=1) (ix:=[2,3]) hr8 (by rw[B4];decide) e3)
  have w3:=BP (Bz (g:=BA) (z:=Aa rs::ds) w1 w2 (by
   show (if ([Aa rs]:List D).length+ds.length<=big then some ([Aa rs]++ds) else none)=_
   rw[if_pos (by rw[hl3];exact b9)]
   rfl))
  unfold Aw
  rw[w3]
  rfl
 have oall:∀ d∈Aa rs::ds,OKD 5 d:=fun d hd=>by
  rcases List.mem_cons.mp hd with rfl | hd
  ·exact BC (by rw[List.length_map];lia) fun x hx=>by
    obtain ⟨r,hr,rfl⟩:=List.mem_map.mp hx
    exact El (n:=2) (RR r hr)
  ·exact od d hd
 obtain ⟨y4,y5,y6,lp⟩:=JR F (x0:=P0) (x1:=P1) (x2:=some (.b n)) (x3:=some (.v (Aa rs))) (Γ:=Γ3) x4 x5 x6 oall
 have f3:Bf (Aw (AE (Aj BA (AE (AG (AA (AB 3) AC))) (AE (BD (B6 (AA (mC (.int 8)) AC)) 1 [2,3] (Ac 0) mTT (AI Msp (AA (AB 1) (AA (AB 2) AC)))))))) (Ac 4) (Fb Mp Mr Msp Mcp Mar Mdu Msa Mt Mtg Mky) S2=some (.nx (sl P0 P1 (some (.b n)) (some (.v (Aa rs))) y4 y5 y6 none none none none none none none Γ3)):=by
  unfold Bf
  rw[it]
  exact lp
 have f4:=Ft F (m:=AB 3) (S:=sl P0 P1 (some (.b n)) (some (.v (Aa rs))) y4 y5 y6 none none none none none none none Γ3) (S':=sl P0 P1 (some (.b n)) (some (.v (Aa rs))) y4 y5 y6 none none none none none none none Γ3) (b:=true) rfl (oall _ List.mem_cons_self)
 rw[Sq r1 r6 fun r hr t ht=>((rr r hr).2 t ht).1] at f4
 exact ⟨_,_,_,_,_,_,(AW f1).trans ((AW f2).trans ((AW f3).trans (BW f4)))⟩
end
section
variable {Mp Mr:MDF} {Msp Mcp Mar Mdu:MD} {Msa:List D->Option D} {Mt Mtg Mky:MD} (F:LF Mp Mr Msp Mcp Mar Mdu Msa Mt Mtg Mky)
abbrev s9 (x0 x1 x2 x3 x4 x5 x6:Option SV) (y:List (Option SV)) (Γ:Gm):DS:=⟨x0::x1::x2::x3::x4::x5::x6::y,Γ,0⟩
include F
theorem L9 {x0 x1 x2 x3 x5 x6:Option SV} {y:List (Option SV)} {Γ:Gm}:∀ {ds:List D} (x4:Option SV),(∀ d∈ds,OKD 5 d/\BK d=true)->∃ y4,Bl (Ac 4) (Iu Mp Mr Msp Mcp Mar Mdu Msa Mt Mtg Mky) ds (s9 x0 x1 x2 x3 x4 x5 x6 y Γ)=some (.nx (s9 x0 x1 x2 x3 y4 x5 x6 y Γ))
 | [],x4,_=>⟨x4,rfl⟩
 | d::ds,x4,h=>by
  obtain ⟨y4,e⟩:=L9 (ds:=ds) (some (.v d)) fun x hx=>h x (List.mem_cons_of_mem _ hx)
  obtain ⟨h1,h2⟩:=h d List.mem_cons_self
  have f:=Ft F (m:=AB 4) (S:=s9 x0 x1 x2 x3 (some (.v d)) x5 x6 y Γ) (S':=s9 x0 x1 x2 x3 (some (.v d)) x5 x6 y Γ) (b:=true) rfl h1
  rw[h2] at f
  exact ⟨y4,(Fq (s1:=s9 x0 x1 x2 x3 (some (.v d)) x5 x6 y Γ) rfl (BW f)).trans e⟩
theorem LR {x0 x1 x2 x3 x5 x6:Option SV} {y:List (Option SV)} {Γ:Gm}:∀ {ds:List D} (x4:Option SV),(∀ d∈ds,OKD 5 d/\BK d=false)->∃ y4,Bl (Ac 4) (HY Mp Mr Msp Mcp Mar Mdu Msa Mt Mtg Mky) ds (s9 x0 x1 x2 x3 x4 x5 x6 y Γ)=some (.nx (s9 x0 x1 x2 x3 y4 x5 x6 y Γ))
 | [],x4,_=>⟨x4,rfl⟩
 | d::ds,x4,h=>by
  obtain ⟨y4,e⟩:=LR (ds:=ds) (some (.v d)) fun x hx=>h x (List.mem_cons_of_mem _ hx)
  obtain ⟨h1,h2⟩:=h d List.mem_cons_self
  have f:=Ft F (m:=AB 4) (S:=s9 x0 x1 x2 x3 (some (.v d)) x5 x6 y Γ) (S':=s9 x0 x1 x2 x3 (some (.v d)) x5 x6 y Γ) (b:=false) rfl h1
  rw[h2] at f
  exact ⟨y4,(Fq (s1:=s9 x0 x1 x2 x3 (some (.v d)) x5 x6 y Γ) rfl (BW f)).trans e⟩
omit F in
theorem tg_a:Tg "a":=⟨by decide +kernel,by decide +kernel,by decide +kernel⟩
omit F in
theorem R6:∀ x∈([.tup [.bl true,.str "a"],.tup [.int 1,.str ""],.lst [.int 1,.str "a"],.tup [.int 1,.str "a",.int 1],.non,.tup [.str "1",.str "a"],.tup [.int 1,.str "A"]]:List D),thB x=false/\OKD 3 x:=by
 obtain ⟨l0,l1,l2,l3,l4,l5,l6⟩:=Eh
 obtain ⟨n0,n1,n2,n3,n4,n5,n6⟩:=Ek
 have a1:AsC "1":=by unfold AsC;decide +kernel
 have k1:("1":Str).length=1:=by decide +kernel
 have oA:∀ m,OKD m (.str "a"):=fun m=>BE l4 (by lia)
 simp only[List.mem_cons,List.not_mem_nil,or_false,forall_eq_or_imp,forall_eq]
 refine ⟨⟨rfl,Bt FG (oA 2)⟩,⟨by decide +kernel,Bt A8 (BE l0 (by lia))⟩,⟨rfl,BC (by simp) (by simp;exact ⟨A8,oA 2⟩)⟩,⟨rfl,IF A8 (oA 2) A8⟩,⟨rfl,Ce⟩,⟨rfl,Bt (BE a1 (by lia)) (oA 2)⟩,⟨by decide +kernel,Bt A8 (BE l1 (by lia))⟩⟩
omit F in
theorem P9:∀ x∈([.non,.int 0,.bl true,.str "",.str "-",.tup [],.lst [],.dic [] [],.lst [.tup []],.lst [.non],.lst [.lst [.non]],.lst [.lst [.tup []]],.tup [.lst []],.lst [.lst [.tup [.int 1,.str "a"]],.tup []],.lst [.lst [.tup [.int 1,.str "a"],.tup [.int 1]]]]:List D),OKD 5 x/\BK x=false:=by
 obtain ⟨l0,l1,l2,l3,l4,l5,l6⟩:=Eh
 obtain ⟨n0,n1,n2,n3,n4,n5,n6⟩:=Ek
 have a1:AsC "-":=by unfold AsC;decide +kernel
 have k1:("-":Str).length=1:=by decide +kernel
 have oA:∀ m,OKD m (.str "a"):=fun m=>BE l4 (by lia)
 have e1:∀ m,OKD (m+1) (.tup []):=fun m=>De (by simp) (by simp)
 have e2:∀ m,OKD (m+1) (.lst []):=fun m=>BC (by simp) (by simp)
 have t1:∀ m,OKD (m+1) (.tup [.int 1,.str "a"]):=fun m=>Bt A8 (oA m)
 simp only[List.mem_cons,List.not_mem_nil,or_false,forall_eq_or_imp,forall_eq]
 refine ⟨⟨Ce,rfl⟩,⟨A8,rfl⟩,⟨FG,rfl⟩,⟨BE l0 (by lia),rfl⟩,⟨BE a1 (by lia),rfl⟩,⟨e1 4,rfl⟩,⟨e2 4,rfl⟩,⟨Fu,rfl⟩,⟨B2 (e1 3),rfl⟩,⟨B2 Ce,rfl⟩,⟨B2 (B2 Ce),rfl⟩,⟨B2 (B2 (e1 2)),rfl⟩,⟨E2 (e2 3),rfl⟩,⟨BC (by simp) (by simp;exact ⟨B2 (t1 2),e1 3⟩),by decide +kernel⟩,⟨B2 (BC (by simp) (by simp;exact ⟨t1 2,E2 A8⟩)),by decide +kernel⟩⟩
theorem O3 {ns:List Int} {x1 x2 x3 x4 x5 x6:Option SV} {Γ:Gm}:∃ S',(∀ R:MS,(AJ (CB 2 (Ck Mp (AA (AB 0) (AA (mC (.int 1)) AC)))) (AJ (AL 7 (mOp AQ (mC (.int 201)) (AI Mt (AA (AB 2) (AA (mC (.int 1800)) AC))))) (AJ (AL 8 (mOp Cp (mOp BB (mC (.int 10)) (mC (.int 30))) (mOp AQ (mC (.int 1)) (AI Mt (AA (AB 2) (AA (mOp BB (mC (.int 10)) (mC (.int 20))) AC)))))) (AJ (AL 9 (AE (BD (Aw (AE (AG (AA (mOp BB (mC (.int 10)) (mC (.int 30))) (AA (mOp Cz (mC (.int 0)) (mOp BB (mC (.int 10)) (mC (.int 30)))) (AA (AB 8) AC)))))) 1 [2] (Ac 0) mTT (AN (AA (AB 0) (AA (AI Mtg (AA (AB 1) AC)) AC)))))) (AJ (AL 9 (mOp AQ (AB 9) (AE (Aj As (AE (AG (AA (AN (AA (mOp Cp (AI Mky (AA (AB 2) (AA (mC (.int 2)) AC))) (mOp BB (mC (.int 10)) (mC (.int 5)))) (AA (mC (.str "a")) AC))) AC))) (AB 7))))) (AJ (AL 10 (AI Mt (AA (AB 2) (AA (AR Ah (AA (AB 9) AC)) AC)))) R))))))
  (sl (some (.v (.scr ns))) x1 x2 x3 x4 x5 x6 none none none none none none none Γ)=R S')/\∃ (n:Nat) (z:Int) (Γ':Gm) (v7 v8:Option SV) (row:List D) (a:Nat),S'=sl (some (.v (.scr ns))) x1 (some (.b n)) x3 x4 x5 x6 v7 v8 (some (.v (.lst row))) (some (.v (.int a))) none none none Γ'/\Pool Γ' n z/\z<=6000/\row.length<=2100/\a<row.length/\∀ x∈row,thB x=true/\OKD 2 x:=by
 obtain ⟨x,y,z,e1,z0,z5⟩:=F.pool (Γ:=Γ) (ns:=ns) (k:=1) (by decide)
 let P0:Option SV:=some (.v (.scr ns))
 let n:=Γ.length
 have p1:Pool (Γ++[some [.int x,.int y,.int z]]) n z:=⟨z0,x,y,by simp[n]⟩
 have f1:CB 2 (Ck Mp (AA (AB 0) (AA (mC (.int 1)) AC))) (sl P0 x1 x2 x3 x4 x5 x6 none none none none none none none Γ)=some (.nx (sl P0 x1 (some (.b n)) x3 x4 x5 x6 none none none none none none none (Γ++[some [.int x,.int y,.int z]]))):=by
  have e1':Mp [.v (.scr ns),.v (.int 1)] Γ=some ([.int x,.int y,.int z],Γ):=e1
  simp[P0,e1',n]
 obtain ⟨q,z2,Γ2,e2,q0,q1,hz2,d2⟩:=F.take (m:=1800) p1 (by lia) (by decide) (by decide)
 have p2:=d2.pool p1
 have f2:AL 7 (mOp AQ (mC (.int 201)) (AI Mt (AA (AB 2) (AA (mC (.int 1800)) AC)))) (sl P0 x1 (some (.b n)) x3 x4 x5 x6 none none none none none none none (Γ++[some [.int x,.int y,.int z]]))=some (.nx (sl P0 x1 (some (.b n)) x3 x4 x5 x6 (some (.v (.int (201+q)))) none none none none none none Γ2)):=by simp[e2]
 obtain ⟨r,z3,Γ3,e3,r0,r1,hz3,d3⟩:=F.take (m:=10 ^ 20) p2 (by lia) (by decide) (by decide)
 have p3:=d3.pool p2
 let S2:=sl P0 x1 (some (.b n)) x3 x4 x5 x6 (some (.v (.int (201+q)))) none none none none none none Γ2
 let S3:=sl P0 x1 (some (.b n)) x3 x4 x5 x6 (some (.v (.int (201+q)))) (some (.v (.int (10 ^ 30 * (1+r))))) none none none none none Γ3
 have f3:AL 8 (mOp Cp (mOp BB (mC (.int 10)) (mC (.int 30))) (mOp AQ (mC (.int 1)) (AI Mt (AA (AB 2) (AA (mOp BB (mC (.int 10)) (mC (.int 20))) AC))))) S2=some (.nx S3):=by
  have w1:mOp BB (mC (.int 10)) (mC (.int 30)) S2=some (.v (.int (10 ^ 30)),S2):=rfl
  have w2:mOp BB (mC (.int 10)) (mC (.int 20)) S2=some (.v (.int (10 ^ 20)),S2):=rfl
  have w3:=Cm (M:=Mt) (m:=AB 2) (x:=.b n) (s:=S2) (s1:=S2) rfl w2 e3
  have w4:=Au (g:=AQ) (a:=mC (.int 1)) (x:=.v (.int 1)) (s:=S2) (s1:=S2) rfl w3 (z:=.int (1+r)) rfl
  have bm:Eu (10 ^ 30) (1+r)=true:=decide_eq_true ⟨by decide,by lia⟩
  refine CK (s':={S2 with Γ:=Γ3}) (Au (g:=Cp) w1 w4 ?_)
  show (if Eu (10 ^ 30) (1+r)=true then some (D.int (10 ^ 30 * (1+r))) else none)=_
  rw[if_pos bm]
 let its:List D:=[.int (10 ^ 30),.int (0 - 10 ^ 30),.int (10 ^ 30 * (1+r))]
 have b3:(3:Nat)<=big:=by decide
 have bb2:(2:Nat)<=big:=by decide
 have bb1:(1:Nat)<=big:=by decide
 have w5:Aw (AE (AG (AA (mOp BB (mC (.int 10)) (mC (.int 30))) (AA (mOp Cz (mC (.int 0)) (mOp BB (mC (.int 10)) (mC (.int 30)))) (AA (AB 8) AC))))) S3=some (its,S3):=by
  have:=dl (ds:=its) (ms:=AA (mOp BB (mC (.int 10)) (mC (.int 30))) (AA (mOp Cz (mC (.int 0)) (mOp BB (mC (.int 10)) (mC (.int 30)))) (AA (AB 8) AC))) (S:=S3) (S2:=S3) (dc (S1:=S3) rfl (dc (S1:=S3) rfl (dc (S1:=S3) rfl dn))) b3
  unfold Aw
  rw[this]
  rfl
 obtain ⟨R3,τ4,Γ4,e4,oR3,lR3,v4,z4,_,hz4,d4⟩:=DU (g:=Ac 0) (t:=mTT) (e:=AN (AA (AB 0) (AA (AI Mtg (AA (AB 1) AC)) AC))) (items:=its)
  (fun i acc τ Γi=>(∀ d∈acc,thB d=true/\OKD 2 d)/\acc.length=i/\∃ (v:Option SV) (zi:Int),τ=[v,some (.b n)]/\zi<=z3+9 * i/\Dr n z3 zi Γ3 Γi) (by
   rintro i d acc τ Γi hd ⟨ho,hl,v,zi,rfl,hzi,di⟩
   have hi:i<3:=(List.getElem?_eq_some_iff.mp hd).1
   obtain ⟨k,rfl⟩:∃ k,d=.int k:=by
    have:=List.mem_of_getElem? hd
    simp only[its,List.mem_cons,List.not_mem_nil,or_false] at this
    rcases this with rfl | rfl | rfl<;>exact ⟨_,rfl⟩
   obtain ⟨t,z5,Γ5,e5,ht,hz5,d5⟩:=F.tag (di.pool p3) (by lia)
   refine ⟨_,_,rfl,rfl,.inl ⟨rfl,.tup [.int k,.str t],⟨[some (.v (.int k)),some (.b n)],Γ5,Γi.length⟩,?_,d5.len,fun x hx=>?_,by rw[List.length_append,hl];rfl,_,z5,rfl,by lia,di.trans d5⟩⟩
   ·simp[e5,bb2]
   ·rcases List.mem_append.mp hx with hx | hx
    ·exact ho x hx
    ·rw[List.mem_singleton.mp hx]
     exact ⟨IL ht,Bt A8 (BE ht.asc (by have:=ht.2.1;lia))⟩) (τ:=[none,some (.b n)]) (Γ:=Γ3) ⟨(fun d h=>nomatch h),rfl,none,z3,rfl,by lia,.refl p3⟩
 have lR3:R3.length=3:=lR3
 have hz4:z4<=z3+27:=hz4
 have p4:=d4.pool p3
 let S4:=sl P0 x1 (some (.b n)) x3 x4 x5 x6 (some (.v (.int (201+q)))) (some (.v (.int (10 ^ 30 * (1+r))))) (some (.v (.lst R3))) none none none none Γ4
 have f4:AL 9 (AE (BD (Aw (AE (AG (AA (mOp BB (mC (.int 10)) (mC (.int 30))) (AA (mOp Cz (mC (.int 0)) (mOp BB (mC (.int 10)) (mC (.int 30)))) (AA (AB 8) AC)))))) 1 [2] (Ac 0) mTT (AN (AA (AB 0) (AA (AI Mtg (AA (AB 1) AC)) AC))))) S3=some (.nx S4):=CK (s':={S3 with Γ:=Γ4}) (BP (DJ w5 b3 e4))
 obtain ⟨k,z5',Γ5,e5,hz5,hk,d5⟩:=F.key (k:=2) p4 (by lia)
 have p5:=d5.pool p4
 let t0:D:=.tup [.int (k * 10 ^ 5),.str "a"]
 let many:=(201+q).toNat
 let row:=R3++(List.replicate many [t0]).flatten
 let S5:=sl P0 x1 (some (.b n)) x3 x4 x5 x6 (some (.v (.int (201+q)))) (some (.v (.int (10 ^ 30 * (1+r))))) (some (.v (.lst row))) none none none none Γ5
 have lf:(List.replicate many [t0]).flatten.length=many:=by simp
 have lr:row.length=3+many:=by rw[List.length_append,lR3,lf]
 have f5:AL 9 (mOp AQ (AB 9) (AE (Aj As (AE (AG (AA (AN (AA (mOp Cp (AI Mky (AA (AB 2) (AA (mC (.int 2)) AC))) (mOp BB (mC (.int 10)) (mC (.int 5)))) (AA (mC (.str "a")) AC))) AC))) (AB 7)))) S4=some (.nx S5):=by
  let S4':DS:={S4 with Γ:=Γ5}
  have w1:=Cm (M:=Mky) (m:=AB 2) (n:=mC (.int 2)) (x:=.b n) (y:=.v (.int 2)) (s:=S4) (s1:=S4) (s2:=S4) rfl rfl e5
  have bm:Eu k (10 ^ 5)=true:=decide_eq_true ⟨Nat.lt_trans hk (by decide +kernel),by decide⟩
  have w2:mOp Cp (AI Mky (AA (AB 2) (AA (mC (.int 2)) AC))) (mOp BB (mC (.int 10)) (mC (.int 5))) S4=some (.v (.int (k * 10 ^ 5)),S4'):=Au (g:=Cp) w1 (y:=.v (.int (10 ^ 5))) (s2:=S4') rfl (by
   show (if Eu k (10 ^ 5)=true then some (D.int (k * 10 ^ 5)) else none)=_
   rw[if_pos bm])
  have w3:=dl (ds:=[t0]) (dc (Qv w2 (n:=mC (.str "a")) (s2:=S4') rfl) (dn (S:=S4'))) bb1
  have rp:As S4'.Γ (.v (.lst [t0])) (.v (.int (201+q)))=some (List.replicate many [t0]).flatten:=Dp (by lia) (by lia) (by show 1 * (201+q).toNat<=big;unfold big;lia) rfl
  have w4:=BP (Bz (g:=As) w3 (b:=AB 7) (y:=.v (.int (201+q))) (s2:=S4') rfl rp)
  refine CK (s':=S4') (Au (g:=AQ) (a:=AB 9) (x:=.v (.lst R3)) (s1:=S4) rfl w4 ?_)
  show (if R3.length+(List.replicate many [t0]).flatten.length<=big then some (D.lst row) else none)=_
  rw[if_pos (by rw[lR3,lf];unfold big;lia)]
 obtain ⟨a,z6,Γ6,e6,a0,a1,hz6,d6⟩:=F.take (m:=(row.length:Int)) p5 (by lia) (by rw[lr];lia) (by rw[lr];lia)
 obtain ⟨an,rfl⟩:∃ j:Nat,a=j:=⟨a.toNat,by lia⟩
 have f6:AL 10 (AI Mt (AA (AB 2) (AA (AR Ah (AA (AB 9) AC)) AC))) S5=some (.nx (sl P0 x1 (some (.b n)) x3 x4 x5 x6 (some (.v (.int (201+q)))) (some (.v (.int (10 ^ 30 * (1+r))))) (some (.v (.lst row))) (some (.v (.int an))) none none none Γ6)):=
  CK (s':={S5 with Γ:=Γ6}) (Cm (M:=Mt) (m:=AB 2) (x:=.b n) (s1:=S5) rfl (Cb (x:=.v (.lst row)) (s':=S5) rfl rfl) e6)
 refine ⟨_,fun R=>(AW f1).trans ((AW f2).trans ((AW f3).trans ((AW f4).trans ((AW f5).trans (AW f6))))),n,z6,Γ6,_,_,row,an,rfl,d6.pool p5,by lia,by rw[lr];lia,by lia,fun x hx=>?_⟩
 rcases List.mem_append.mp hx with hx | hx
 ·exact oR3 x hx
 ·obtain ⟨l,hl,hx⟩:=List.mem_flatten.mp hx
  rw[(List.mem_replicate.mp hl).2] at hx
  rw[List.mem_singleton.mp hx]
  exact ⟨IL tg_a,Bt A8 (BE tg_a.asc (by have:=tg_a.2.1;lia))⟩
end
section
variable {Mp Mr:MDF} {Msp Mcp Mar Mdu:MD} {Msa:List D->Option D} {Mt Mtg Mky:MD} (F:LF Mp Mr Msp Mcp Mar Mdu Msa Mt Mtg Mky)
include F
theorem Oa (ns:List Int) (hl:ns.length<=63):mFn 14 (Er Mp Mr Msp Mcp Mar Mdu Msa Mt Mtg Mky) [.v (.scr ns)] []=some (.bl true,[]):=by
 have hJ:∃ J:Int,0<=J/\J<=15/\B6 (AA (AR FP (AA (mC (.int 1)) (AA (AR E5 (AA (mC (.int 15)) (AA (AR Ah (AA (AB 0) AC)) AC))) AC))) AC) (sl (some (.v (.scr ns))) none none none none none none none none none none none none none [])=some (upTo 0 J.toNat,sl (some (.v (.scr ns))) none none none none none none none none none none none none none []):=by
  have hr:okR (if (if (ns.length:Int)<15 then (ns.length:Int) else 15) > 1 then (if (ns.length:Int)<15 then (ns.length:Int) else 15) else 1)=true:=EI (by split<;>split<;>lia) (by split<;>split<;>lia)
  refine ⟨if (if (ns.length:Int)<15 then (ns.length:Int) else 15) > 1 then (if (ns.length:Int)<15 then (ns.length:Int) else 15) else 1,by split<;>split<;>lia,by split<;>split<;>lia,?_⟩
  simp only[gt_iff_lt] at hr
  simp[hr]
 obtain ⟨J,J0,J1,hJ⟩:=hJ
 obtain ⟨s',e1,x1,x2,x3,x4,x5,x6,Γ,rfl⟩:=Hn (g:=Ac 1) (b:=Ho Mp Mr Msp Mcp Mar Mdu Msa Mt Mtg Mky) (items:=upTo 0 J.toNat) (fun _ s=>∃ (x1 x2 x3 x4 x5 x6:Option SV) (Γ:Gm),s=sl (some (.v (.scr ns))) x1 x2 x3 x4 x5 x6 none none none none none none none Γ) (by
   rintro i d s hd ⟨x1,x2,x3,x4,x5,x6,Γ,rfl⟩
   obtain ⟨hi,rfl⟩:=EY hd
   obtain ⟨y2,y3,y4,y5,y6,Γ',e⟩:=RA F (ns:=ns) (k:=i) (by lia) (x2:=x2) (x3:=x3) (x4:=x4) (x5:=x5) (x6:=x6) (Γ:=Γ)
   exact ⟨_,_,rfl,by rw[show ((0:Int)+i)=i by lia];exact e,_,_,_,_,_,_,_,rfl⟩)
  (s:=sl (some (.v (.scr ns))) none none none none none none none none none none none none none []) ⟨_,_,_,_,_,_,_,rfl⟩
 obtain ⟨S',q1,n,z,Γ1,v7,v8,row,a,rfl,p1,hz1,l1,ha,hrow⟩:=O3 F (ns:=ns) (x1:=x1) (x2:=x2) (x3:=x3) (x4:=x4) (x5:=x5) (x6:=x6) (Γ:=Γ)
 let P0:Option SV:=some (.v (.scr ns))
 let S1:=sl P0 x1 (some (.b n)) x3 x4 x5 x6 v7 v8 (some (.v (.lst row))) (some (.v (.int a))) none none none Γ1
 obtain ⟨o,z2,Γ2,e2,o0,o1,hz2,d2⟩:=F.take (m:=7) p1 (by lia) (by decide) (by decide)
 let Os:List D:=[.tup [.bl true,.str "a"],.tup [.int 1,.str ""],.lst [.int 1,.str "a"],.tup [.int 1,.str "a",.int 1],.non,.tup [.str "1",.str "a"],.tup [.int 1,.str "A"]]
 obtain ⟨od,hod,mod⟩:=C4 (xs:=Os) (i:=o) o0 o1
 obtain ⟨od1,od2⟩:=R6 od mod
 have b7:(7:Nat)<=big:=by decide
 have b3:(3:Nat)<=big:=by decide
 have bb2:(2:Nat)<=big:=by decide
 have bb1:(1:Nat)<=big:=by decide
 have b0:(0:Nat)<=big:=Nat.zero_le _
 let S2:=sl P0 x1 (some (.b n)) x3 x4 x5 x6 v7 v8 (some (.v (.lst row))) (some (.v (.int a))) (some (.v od)) none none Γ2
 have f1:AL 11 (mOp gIx (AE (AG (AA (AN (AA (mC (.bl true)) (AA (mC (.str "a")) AC))) (AA (AN (AA (mC (.int 1)) (AA (mC (.str "")) AC))) (AA (AE (AG (AA (mC (.int 1)) (AA (mC (.str "a")) AC)))) (AA (AN (AA (mC (.int 1)) (AA (mC (.str "a")) (AA (mC (.int 1)) AC)))) (AA (mC .non) (AA (AN (AA (mC (.str "1")) (AA (mC (.str "a")) AC))) (AA (AN (AA (mC (.int 1)) (AA (mC (.str "A")) AC))) AC))))))))) (AI Mt (AA (AB 2) (AA (mC (.int 7)) AC)))) S1=some (.nx S2):=by
  have w:AE (AG (AA (AN (AA (mC (.bl true)) (AA (mC (.str "a")) AC))) (AA (AN (AA (mC (.int 1)) (AA (mC (.str "")) AC))) (AA (AE (AG (AA (mC (.int 1)) (AA (mC (.str "a")) AC)))) (AA (AN (AA (mC (.int 1)) (AA (mC (.str "a")) (AA (mC (.int 1)) AC)))) (AA (mC .non) (AA (AN (AA (mC (.str "1")) (AA (mC (.str "a")) AC))) (AA (AN (AA (mC (.int 1)) (AA (mC (.str "A")) AC))) AC)))))))) S1=some (.v (.lst Os),S1):=by simp[b7,b3,bb2,Os]
  exact CK (s':={S1 with Γ:=Γ2}) (Au (g:=gIx) w (Cm (M:=Mt) (m:=AB 2) (n:=mC (.int 7)) (x:=.b n) (y:=.v (.int 7)) (s1:=S1) (s2:=S1) rfl rfl e2) hod)
 let rT:D:=.lst row
 have orow:∀ m,OKD (m+3) rT:=fun m=>BC (by lia) fun x hx=>(hrow x hx).2.le (by lia)
 have brow:BS rT=true:=List.all_eq_true.mpr fun x hx=>(hrow x hx).1
 have ocut:∀ l u m,OKD (m+3) (.lst (cutD row l u)):=fun l u m=>BC (by
  have:(cutD row l u).length<=row.length:=G3 row l u
  lia) fun x hx=>(hrow x (List.mem_of_mem_drop (List.mem_of_mem_take hx))).2.le (by lia)
 have bcut:∀ l u,BS (.lst (cutD row l u))=true:=fun l u=>List.all_eq_true.mpr fun x hx=>(hrow x (List.mem_of_mem_drop (List.mem_of_mem_take hx))).1
 have oe:∀ m,OKD (m+1) (.lst []):=fun m=>BC (by simp) (by simp)
 let A1:D:=.lst [rT]
 let A2:D:=.lst [.lst (cutD row none (some 3)),.lst []]
 let A3:D:=.lst [.lst [],rT,.lst [],rT,.lst [],rT]
 have w1:Aw (AE (AG (AA (AE (AG (AA (AB 9) AC))) (AA (AE (AG (AA (mSl (AB 9) none (some (mC (.int 3)))) (AA (AE (AG AC)) AC)))) (AA (AE (Aj As (AE (AG (AA (AE (AG AC)) (AA (AB 9) AC)))) (mC (.int 3)))) AC))))) S2=some ([A1,A2,A3],S2):=by
  have c1:AE (AG (AA (AB 9) AC)) S2=some (.v A1,S2):=dl (ds:=[rT]) (dc (S1:=S2) rfl dn) bb1
  have c2:AE (AG (AA (mSl (AB 9) none (some (mC (.int 3)))) (AA (AE (AG AC)) AC))) S2=some (.v A2,S2):=dl (ds:=[.lst (cutD row none (some 3)),.lst []]) (dc (S1:=S2) (by simp[S2]) (dc (Cu (S:=S2)) dn)) bb2
  have c3:=BP (Bz (g:=As) (dl (ds:=[.lst [],rT]) (dc (Cu (S:=S2)) (dc (m:=AB 9) (S1:=S2) rfl dn)) bb2) (b:=mC (.int 3)) (y:=.v (.int 3)) (s2:=S2) rfl (Dp (ys:=[.lst [],rT,.lst [],rT,.lst [],rT]) (by decide) (by decide) (show (2 * 3:Nat)<=big by decide) rfl))
  unfold Aw
  rw[dl (ds:=[A1,A2,A3]) (dc c1 (dc c2 (dc c3 dn))) b3]
  rfl
 have rb:∀ xs:List D,1<=xs.length->xs.length<=6->(∀ x∈xs,BS x=true)->BK (.lst xs)=true:=fun xs h1 h6 h=>by
  have e:BK (.lst xs)=(decide (1<=(xs.length:Int)) && decide ((xs.length:Int)<=6) && xs.all BS):=rfl
  rw[e,decide_eq_true (by lia),decide_eq_true (by lia),List.all_eq_true.mpr h]
  rfl
 have be:BS (.lst [])=true:=rfl
 obtain ⟨y4,lp3⟩:=L9 F (x0:=P0) (x1:=x1) (x2:=some (.b n)) (x3:=x3) (x5:=x5) (x6:=x6) (y:=[v7,v8,some (.v rT),some (.v (.int a)),some (.v od),none,none]) (Γ:=Γ2) (ds:=[A1,A2,A3]) x4 (by
  simp only[List.mem_cons,List.not_mem_nil,or_false,forall_eq_or_imp,forall_eq]
  exact ⟨⟨B2 (orow 1),rb _ (by simp) (by simp) (by simpa using brow)⟩,⟨BC (by simp) (by simp;exact ⟨ocut _ _ 1,oe 3⟩),rb _ (by simp) (by simp) (by simp only[List.mem_cons,List.not_mem_nil,or_false,forall_eq_or_imp,forall_eq];exact ⟨bcut _ _,be⟩)⟩,⟨BC (by simp) (by simp only[List.mem_cons,List.not_mem_nil,or_false,forall_eq_or_imp,forall_eq];exact ⟨oe 3,orow 1,oe 3,orow 1,oe 3,orow 1⟩),rb _ (by simp) (by simp) (by simp only[List.mem_cons,List.not_mem_nil,or_false,forall_eq_or_imp,forall_eq];exact ⟨be,brow,be,brow,be,brow⟩)⟩⟩)
 let S3:=sl P0 x1 (some (.b n)) x3 y4 x5 x6 v7 v8 (some (.v rT)) (some (.v (.int a))) (some (.v od)) none none Γ2
 have f2:Bf (Aw (AE (AG (AA (AE (AG (AA (AB 9) AC))) (AA (AE (AG (AA (mSl (AB 9) none (some (mC (.int 3)))) (AA (AE (AG AC)) AC)))) (AA (AE (Aj As (AE (AG (AA (AE (AG AC)) (AA (AB 9) AC)))) (mC (.int 3)))) AC)))))) (Ac 4) (Iu Mp Mr Msp Mcp Mar Mdu Msa Mt Mtg Mky) S2=some (.nx S3):=by
  unfold Bf
  rw[w1]
  exact lp3
 let bad:=(cutD row none (some (a:Int))++[od])++cutD row (some ((a:Int)+1)) none
 have cl:∀ l u,(cutD row l u).length<=2100:=fun l u=>Nat.le_trans (G3 row l u) l1
 have w2:AE (AG (AA (AE (AG AC)) (AA (AE (Aj BA (AE (Aj BA (mSl (AB 9) none (some (AB 10))) (AE (AG (AA (AB 11) AC))))) (mSl (AB 9) (some (mOp AQ (AB 10) (mC (.int 1)))) none))) AC))) S3=some (.v (.lst [.lst [],.lst bad]),S3):=by
  have c1:mSl (AB 9) none (some (AB 10)) S3=some (.v (.lst (cutD row none (some (a:Int)))),S3):=by simp[S3,rT]
  have c2:mSl (AB 9) (some (mOp AQ (AB 10) (mC (.int 1)))) none S3=some (.v (.lst (cutD row (some ((a:Int)+1)) none)),S3):=by simp[S3,rT]
  have c3:AE (AG (AA (AB 11) AC)) S3=some (.v (.lst [od]),S3):=dl (ds:=[od]) (dc (S1:=S3) rfl dn) bb1
  have k1:=cl none (some (a:Int))
  have k2:=cl (some ((a:Int)+1)) none
  have c4:=BP (Bz (g:=BA) (z:=cutD row none (some (a:Int))++[od]) c1 c3 (by
   show (if (cutD row none (some (a:Int))).length+([od]:List D).length<=big then some (cutD row none (some (a:Int))++[od]) else none)=_
   rw[if_pos (by unfold big;simp;lia)]))
  have c5:=BP (Bz (g:=BA) (z:=bad) c4 c2 (by
   show (if (cutD row none (some (a:Int))++[od]).length+(cutD row (some ((a:Int)+1)) none).length<=big then some bad else none)=_
   rw[if_pos (by unfold big;simp;lia)]))
  exact dl (ds:=[.lst [],.lst bad]) (dc (Cu (S:=S3)) (dc c5 dn)) bb2
 have mb:od∈bad:=by simp[bad]
 have obad:OKD 4 (.lst bad):=BC (by
  have k1:=cl none (some (a:Int))
  have k2:=cl (some ((a:Int)+1)) none
  rw[List.length_append,List.length_append]
  simp
  lia) fun x hx=>by
   rcases List.mem_append.mp hx with hx | hx
   ·rcases List.mem_append.mp hx with hx | hx
    ·exact (hrow x (List.mem_of_mem_drop (List.mem_of_mem_take hx))).2.up
    ·rw[List.mem_singleton.mp hx];exact od2
   ·exact (hrow x (List.mem_of_mem_drop (List.mem_of_mem_take hx))).2.up
 have bbad:BK (.lst [.lst [],.lst bad])=false:=by
  have e:BK (.lst [.lst [],.lst bad])=(decide (1<=(([.lst [],.lst bad]:List D).length:Int)) && decide ((([.lst [],.lst bad]:List D).length:Int)<=6) && (([.lst [],.lst bad]:List D).all BS)):=rfl
  have e2:bad.all thB=false:=by
   rw[List.all_eq_false]
   exact ⟨od,mb,by rw[od1];decide⟩
  have e3:BS (.lst bad)=false:=e2
  rw[e,List.all_cons,List.all_cons,e3]
  rfl
 have g3:=Ft F (b:=false) w2 (BC (by simp) (by simp;exact ⟨oe 3,obad⟩))
 rw[bbad] at g3
 have f3:=BW (m:=AZ (mC (.bl false))) (n:=Ae) g3
 let So:List D:=[.non,.int 0,.bl true,.str "",.str "-",.tup [],.lst [],.dic [] [],.lst [.tup []],.lst [.non],.lst [.lst [.non]],.lst [.lst [.tup []]],.tup [.lst []]]
 let S4:=sl P0 x1 (some (.b n)) x3 y4 x5 x6 v7 v8 (some (.v rT)) (some (.v (.int a))) (some (.v od)) (some (.v (.lst So))) none Γ2
 have b13:(13:Nat)<=big:=by decide
 have f4:AL 12 (AE (AG (AA (mC .non) (AA (mC (.int 0)) (AA (mC (.bl true)) (AA (mC (.str "")) (AA (mC (.str "-")) (AA (AN AC) (AA (AE (AG AC)) (AA CC (AA (AE (AG (AA (AN AC) AC))) (AA (AE (AG (AA (mC .non) AC))) (AA (AE (AG (AA (AE (AG (AA (mC .non) AC))) AC))) (AA (AE (AG (AA (AE (AG (AA (AN AC) AC))) AC))) (AA (AN (AA (AE (AG AC)) AC)) AC))))))))))))))) S3=some (.nx S4):=by simp[b13,bb1,b0,So,S3,S4]
 let Al:=So++[.lst [.lst [.tup [.int 1,.str "a"]],.tup []],.lst [.lst [.tup [.int 1,.str "a"],.tup [.int 1]]]]
 have w3:Aw (AE (Aj BA (AB 12) (AE (AG (AA (AE (AG (AA (AE (AG (AA (AN (AA (mC (.int 1)) (AA (mC (.str "a")) AC))) AC))) (AA (AN AC) AC)))) (AA (AE (AG (AA (AE (AG (AA (AN (AA (mC (.int 1)) (AA (mC (.str "a")) AC))) (AA (AN (AA (mC (.int 1)) AC)) AC)))) AC))) AC)))))) S4=some (Al,S4):=by
  have c:AE (AG (AA (AE (AG (AA (AE (AG (AA (AN (AA (mC (.int 1)) (AA (mC (.str "a")) AC))) AC))) (AA (AN AC) AC)))) (AA (AE (AG (AA (AE (AG (AA (AN (AA (mC (.int 1)) (AA (mC (.str "a")) AC))) (AA (AN (AA (mC (.int 1)) AC)) AC)))) AC))) AC))) S4=some (.v (.lst [.lst [.lst [.tup [.int 1,.str "a"]],.tup []],.lst [.lst [.tup [.int 1,.str "a"],.tup [.int 1]]]]),S4):=by simp[bb1,bb2,b0]
  have c2:=BP (Bz (g:=BA) (s:=S4) (a:=AB 12) (x:=.v (.lst So)) (s1:=S4) (z:=Al) rfl c (by
   show (if (13+2:Nat)<=big then some Al else none)=_
   rw[if_pos (by decide)]))
  unfold Aw
  rw[c2]
  rfl
 obtain ⟨u4,lp4⟩:=LR F (x0:=P0) (x1:=x1) (x2:=some (.b n)) (x3:=x3) (x5:=x5) (x6:=x6) (y:=[v7,v8,some (.v rT),some (.v (.int a)),some (.v od),some (.v (.lst So)),none]) (Γ:=Γ2) (ds:=Al) y4 P9
 let S5:=sl P0 x1 (some (.b n)) x3 u4 x5 x6 v7 v8 (some (.v rT)) (some (.v (.int a))) (some (.v od)) (some (.v (.lst So))) none Γ2
 have f5:Bf (Aw (AE (Aj BA (AB 12) (AE (AG (AA (AE (AG (AA (AE (AG (AA (AN (AA (mC (.int 1)) (AA (mC (.str "a")) AC))) AC))) (AA (AN AC) AC)))) (AA (AE (AG (AA (AE (AG (AA (AN (AA (mC (.int 1)) (AA (mC (.str "a")) AC))) (AA (AN (AA (mC (.int 1)) AC)) AC)))) AC))) AC))))))) (Ac 4) (HY Mp Mr Msp Mcp Mar Mdu Msa Mt Mtg Mky) S4=some (.nx S5):=by
  unfold Bf
  rw[w3]
  exact lp4
 have f6:XL.GE 13 S5=some (.nx S5):=rfl
 have w4:AE (AG (AA (AE (AG AC)) AC)) S5=some (.v (.lst [.lst []]),S5):=dl (ds:=[.lst []]) (dc (Cu (S:=S5)) dn) bb1
 have f7:AZ (mOp EW (AI Mar (AA (AE (AG (AA (AE (AG AC)) AC))) AC)) (mC (.bl true))) S5=some (.rt (.bl true) S5):=Cf (Au (g:=EW) (Ci (M:=Mar) w4 (F.are (Γ:=S5.Γ) (B2 (oe 3)))) (y:=.v (.bl true)) (s2:=S5) rfl rfl)
 unfold mFn Er
 show (AJ _ _ (sl P0 none none none none none none none none none none none none none [])).bind _=_
 rw[AW (show Bf _ _ _ _=_ by unfold Bf;rw[hJ,Option.bind_some];exact e1)]
 rw[q1,AW f1,AW f2,AW f3,AW f4,AW f5,AW f6,f7]
 rfl
end
theorem facts:LF Dw EZ Ee (CG 6) FF FB (Bv 6) Ai B7 By where
 pool:=QE
 rows:=Pw
 spl:=ON
 cpy:=fun {d Γ} h=>by rw[G5,if_pos h]
 are:=fun h=>Ql (n:=2) h
 due:=fun h=>O7 (n:=2) h
 same:=fun {d} h=>by rw[HC,if_pos ⟨rfl,h⟩]
 take:=BU
 tag:=GD
 key:=JX
theorem OO (ns:List Int) (hl:ns.length<=63):mFn 14 (Er Dw EZ Ee (CG 6) FF FB (Bv 6) Ai B7 By) [.v (.scr ns)] []=some (.bl true,[]):=Oa facts ns hl
end DL
namespace HD
open PySem PySem.W
def bIs (o:Option (Option Value)) (x:String):Bool:=match o with
 | some (some (.builtin y))=>y == x
 | _=>false
def nIs (o:Option (Option Value)):Bool:=match o with
 | some none=>true
 | _=>false
def tIs (o:Option Bool):Bool:=match o with
 | some true=>true
 | _=>false
def gIs (o:Option Builtin.ObjectAttr.Found) (x y:String):Bool:=match o with
 | some (.bind (.builtin a) (.builtin b))=>a == x && b == y
 | _=>false
theorem JK {o:Option (Option Value)} {x:String} (h:bIs o x=true):o=some (some (.builtin x)):=by
 unfold bIs at h
 split at h
 ·rw[eq_of_beq h]
 ·cases h
theorem KY {o:Option (Option Value)} (h:nIs o=true):o=some none:=by
 unfold nIs at h
 split at h
 ·rfl
 ·cases h
theorem Ej {o:Option Bool} (h:tIs o=true):o=some true:=by
 unfold tIs at h
 split at h
 ·rfl
 ·cases h
theorem PZ {o:Option Builtin.ObjectAttr.Found} {x y:String} (h:gIs o x y=true):o=some (.bind (.builtin x) (.builtin y)):=by
 unfold gIs at h
 split at h
 ·rw[Bool.and_eq_true] at h
  rw[eq_of_beq h.1,eq_of_beq h.2]
 ·cases h
def xcB (K:Frag) (C cL:Addr):Bool:=
 keepIn K (.ref C) && excIn K C [.type "ValueError",.type "Exception",.type "BaseException",.type "object"] "ValueError.__new__" &&
 bIs (findIn K (.ref C) "__str__") "BaseException.__str__" && tIs (mroIn K C (.type "BaseException")) && bIs (findIn K (.ref C) "__getattribute__") "BaseException.__getattribute__" && nIs (findIn K (.ref C) "__getattr__") &&
 tIs (subIn K (.ref C) (.type "BaseException")) && gIs (findObj K C none "__class__") "getset_descriptor.__get__" "object.__class__" && tIs (mroIn K C (.type "object")) && tIs (kitOne K (.ref C) (.ref cL)) && tIs (kitOne K (.ref C) (.type "ValueError"))
theorem ET {K:Frag} {h:Heap} {mg:Str->Option Value} {x:Str} {C cL:Addr} (X:K.In h) (G:h.Ns mainGlobals mg) (q:adr K x=some C) (e:xcB K C cL=true):XL.X1 K mg x C cL:=by
 unfold xcB at e
 simp only[Bool.and_eq_true] at e
 obtain ⟨⟨⟨⟨⟨⟨⟨⟨⟨⟨e2,e3⟩,e4⟩,e5⟩,e6⟩,e7⟩,e8⟩,e9⟩,e10⟩,e11⟩,e12⟩:=e
 refine ⟨mg_of X G (PP q),e2,⟨⟨?_,JK e6,KY e7,Ej e8,PZ e9,Ej e10⟩,e3,JK e4,Ej e5⟩,Ej e11,Ej e12⟩
 unfold excIn at e3
 split at e3
 ·rename_i dict cd sl hl
  exact ⟨dict,cd,sl,hl⟩
 ·cases e3
def xfB (K:Frag):Bool:=match adr K "LotError",adr K "NoNumber",adr K "NoDeed",adr K "NoText",adr K "NoName",adr K "NoRow" with
 | some c6,some c1,some c2,some c3,some c4,some c5=>xcB K c1 c6 && xcB K c2 c6 && xcB K c3 c6 && xcB K c4 c6 && xcB K c5 c6 && xcB K c6 c6 && nIs (nsIn K mainGlobals "ValueError")
 | _,_,_,_,_,_=>false
theorem Rm {K:Frag} {h:Heap} {mg:Str->Option Value} (X:K.In h) (G:h.Ns mainGlobals mg) (e:xfB K=true):∃ c1 c2 c3 c4 c5 c6,XL.XF K mg c1 c2 c3 c4 c5 c6:=by
 unfold xfB at e
 split at e
 ·rename_i c6 c1 c2 c3 c4 c5 q6 q1 q2 q3 q4 q5
  simp only[Bool.and_eq_true] at e
  obtain ⟨⟨⟨⟨⟨⟨e1,e2⟩,e3⟩,e4⟩,e5⟩,e6⟩,e7⟩:=e
  exact ⟨c1,c2,c3,c4,c5,c6,ET X G q1 e1,ET X G q2 e2,ET X G q3 e3,ET X G q4 e4,ET X G q5 e5,ET X G q6 e6,mg_none_of X G (KY e7)⟩
 ·cases e
end HD
namespace DL
open PySem L2 HD PySem.W
def tp (i:Nat):Stmt:=PySem.Challenge.pw_evenlots_k01_what_are_rows.main.body.getD i (.Pass ⟨0,0,0,0⟩)
def qv:Program:={PySem.Challenge.pw_evenlots_k01_what_are_rows with main:={PySem.Challenge.pw_evenlots_k01_what_are_rows.main with body:=[tp 28]}}
def lse:List Str:=(PySem.Challenge.pw_evenlots_k01_what_are_rows.main.scope.names.map (·.1)).filter fun x=>!(x == "law")
def fns:List (Str×Stmt):=[("_law_pool",tp 16),("_law_take",tp 17),("_law_key",tp 19),("_law_tag",tp 18),("_law_row",tp 20),("_law_rows",tp 21),("_law_bad_thing",tp 26),("_law_spoilt",tp 27),("_law_copy",tp 22),("is_whole",tp 3),("is_tag",tp 4),("is_thing",tp 5),("is_row",tp 6),("are_rows",tp 7),("_law_is_thing",tp 24),("_law_due",tp 25),("_law_same",tp 23),("law",tp 28)]
def bls:List Str:=["len","range","isinstance","bool","int","str","list","tuple","zip","enumerate","sorted","max","min","abs","sum","all","any","set","dict"]
def nts:List (Str×Int):=[("MOST_LETTERS",8),("MOST_HANDS",6)]
def ob (K:Frag):=(fns.map fun p=>FW K p.1,bls.map fun x=>nsIn K mainGlobals x,nts.map fun p=>Fy K p.1,xfB K)
def vl:List Sn×List (Option (Option Value))×List (Option Int)×Bool:=(fns.map GW,bls.map fun _=>some none,nts.map fun p=>some p.2,true)
def RUA (w:World) (os:OsState):=(topRun treeTable PySem.Challenge.pw_evenlots_k01_what_are_rows w (boot_heap w.params).objs.size ((boot_heap w.params).nsMap mainGlobals "__annotations__") 100000 ⟨boot_heap w.params,Array.mk [],boot_drawn,boot_toks,os⟩ (topStub PySem.Challenge.pw_evenlots_k01_what_are_rows)).map fun (s:Shared)=>openSeen qv lse (importedModules PySem.Challenge.pw_evenlots_k01_what_are_rows.main.body) (fun _=>true) true s
def RUB (w:World) (os:OsState):=(topRun treeTable PySem.Challenge.pw_evenlots_k01_what_are_rows w (boot_heap w.params).objs.size ((boot_heap w.params).nsMap mainGlobals "__annotations__") 100000 ⟨boot_heap w.params,Array.mk [],boot_drawn,boot_toks,os⟩ (topStub PySem.Challenge.pw_evenlots_k01_what_are_rows)).map fun (s:Shared)=>ob (FR s.heap)
def RUC (w:World) (os:OsState):=(topRun treeTable PySem.Challenge.pw_evenlots_k01_what_are_rows w (boot_heap w.params).objs.size ((boot_heap w.params).nsMap mainGlobals "__annotations__") 100000 ⟨boot_heap w.params,Array.mk [],boot_drawn,boot_toks,os⟩ (topStub PySem.Challenge.pw_evenlots_k01_what_are_rows)).map fun (s:Shared)=>staticsOk (importedModules PySem.Challenge.pw_evenlots_k01_what_are_rows.main.body) (boot_heap w.params) s.heap && namesBound PySem.Challenge.pw_evenlots_k01_what_are_rows s.heap && gensDone s && laidKept (boot_heap w.params) s.heap
theorem Qs:RUA=fun _ _=>some (openGood qv lse):=by
 have h0:Function.const _ true RUA=true:=by k_qdec
 clear h0
 rw[PySem.W.Fast.te7901502448135333141,PySem.W.Fast.te17113634627043827754,PySem.W.Fast.te11101308186888466343]
 kernel_rfl
theorem Mb:RUB=fun _ _=>some vl:=by
 have h0:Function.const _ true RUB=true:=by k_qdec
 have h1:Function.const _ true vl=true:=by k_qdec
 clear h0 h1
 rw[PySem.W.Fast.te2813855401462900763,PySem.W.Fast.te15028064660855214787]
 kernel_rfl
theorem Rv:RUC=fun _ _=>some true:=by
 have h0:Function.const _ true RUC=true:=by k_qdec
 clear h0
 rw[PySem.W.Fast.te7225883687914735966]
 kernel_rfl
end DL
namespace DL
open PySem L2
theorem SI {K:PySem.W.Frag} {M:MD} {ns:List Int} {H:Hp} {a:Addr} {Γ:Gm} (h:M [.v (.scr ns)] []=some (.bl true,Γ)) (hS:SqL K H a (ns.map V.int)):spD K 1 M [.ref a] H (fun v _=>v=.bl true) fun _ _ _=>False:=by
 refine ⟨frQ K H,fun _=>0,emp,[],[.v (.scr ns)],_,rfl,rfl,Kr,.cons ?_ .nil,h,fun α' v H' _ _ hv=>?_⟩
 ·show Rep _ (.scr ns) (.ref a)
  unfold Rep
  refine ⟨a,rfl,?_⟩
  rcases hS with h | h
  ·refine .inl ⟨fun z=>?_,h⟩
   rcases z with z | ⟨n,xs,z,_⟩
   ·exact z
   ·cases z
  ·exact .inr fun H'=>.inr h
 ·unfold Rep at hv
  exact hv
def Ht:MD:=mFn 14 (Er Dw EZ Ee (CG 6) FF FB (Bv 6) Ai B7 By)
theorem Ny (ns:List Int) (hl:ns.length<=63):Ht [.v (.scr ns)] []=some (.bl true,[]):=OO ns hl
end DL
namespace L2
open PySem
theorem Fun.bi1 {K:PySem.W.Frag} {x qual:Str} {st:Stmt} {f:Addr} {fd:FuncData} {p1:Str} (F:Fun K x qual st f fd) (h:∀ (kV doc pm:Value) (an:Option Addr) (cdv ct a1:Value),bindArgs (PySem.W.fnOf x qual (Du st) (Cr st) (Ak st) .none kV doc pm an cdv ct) ⟨[a1],[]⟩=pure [(p1,a1)]):Binds K fd [p1] []:=
 F.binds fun kV doc pm an cdv ct us hl=>match us,hl with | [a1],_=>h kV doc pm an cdv ct a1
theorem Fun.bi2 {K:PySem.W.Frag} {x qual:Str} {st:Stmt} {f:Addr} {fd:FuncData} {p1 p2:Str} (F:Fun K x qual st f fd) (h:∀ (kV doc pm:Value) (an:Option Addr) (cdv ct a1 a2:Value),bindArgs (PySem.W.fnOf x qual (Du st) (Cr st) (Ak st) .none kV doc pm an cdv ct) ⟨[a1,a2],[]⟩=pure [(p1,a1),(p2,a2)]):Binds K fd [p1,p2] []:=
 F.binds fun kV doc pm an cdv ct us hl=>match us,hl with | [a1,a2],_=>h kV doc pm an cdv ct a1 a2
theorem Fun.bi3 {K:PySem.W.Frag} {x qual:Str} {st:Stmt} {f:Addr} {fd:FuncData} {p1 p2 p3:Str} (F:Fun K x qual st f fd) (h:∀ (kV doc pm:Value) (an:Option Addr) (cdv ct a1 a2 a3:Value),bindArgs (PySem.W.fnOf x qual (Du st) (Cr st) (Ak st) .none kV doc pm an cdv ct) ⟨[a1,a2,a3],[]⟩=pure [(p1,a1),(p2,a2),(p3,a3)]):Binds K fd [p1,p2,p3] []:=
 F.binds fun kV doc pm an cdv ct us hl=>match us,hl with | [a1,a2,a3],_=>h kV doc pm an cdv ct a1 a2 a3
end L2
namespace DL
open PySem L2 Ev HD PySem.W
theorem all_mk {l:OpenLaw} {w:World} {K:Frag} {h:Heap} {mg:Str->Option Value} {fa:Addr} (O:ob K=vl) (X:K.In h) (G:h.Ns mainGlobals mg) (hfa:mg "law"=some (.ref fa)) :
  ∃ fd:FuncData,(∀ (s:Shared) (v:Value),BindsTo s fd ⟨[v],[]⟩ [("script",v)])/\∀ base:Heap,K.In base->base.Ns mainGlobals mg->FnOk l.prog w K mg base CX0 7 fa fd ["script"] (spD K 1 Ht):=by
 have oF:fns.map (fun p=>FW K p.1)=fns.map GW:=congrArg Prod.fst O
 have oB:bls.map (fun x=>nsIn K mainGlobals x)=bls.map fun _=>some none:=congrArg (·.2.1) O
 have oN:nts.map (fun p=>Fy K p.1)=nts.map fun p=>some p.2:=congrArg (·.2.2.1) O
 obtain ⟨f1,d1,a1,F1⟩:=BY (x:="_law_pool") (st:=Gw) (BM (i:=0) oF rfl)
 obtain ⟨f2,d2,a2,F2⟩:=BY (x:="_law_take") (st:=G9) (BM (i:=1) oF rfl)
 obtain ⟨f3,d3,a3,F3⟩:=BY (x:="_law_key") (st:=HW) (BM (i:=2) oF rfl)
 obtain ⟨f4,d4,a4,F4⟩:=BY (x:="_law_tag") (st:=Hk) (BM (i:=3) oF rfl)
 obtain ⟨f5,d5,a5,F5⟩:=BY (x:="_law_row") (st:=FM) (BM (i:=4) oF rfl)
 obtain ⟨f6,d6,a6,F6⟩:=BY (x:="_law_rows") (st:=Gh) (BM (i:=5) oF rfl)
 obtain ⟨f7,d7,a7,F7⟩:=BY (x:="_law_bad_thing") (st:=G8) (BM (i:=6) oF rfl)
 obtain ⟨f8,d8,a8,F8⟩:=BY (x:="_law_spoilt") (st:=Em) (BM (i:=7) oF rfl)
 obtain ⟨f9,d9,a9,F9⟩:=BY (x:="_law_copy") (st:=Ea) (BM (i:=8) oF rfl)
 obtain ⟨f10,d10,a10,F10⟩:=BY (x:="is_whole") (st:=He) (BM (i:=9) oF rfl)
 obtain ⟨f11,d11,a11,F11⟩:=BY (x:="is_tag") (st:=Fm) (BM (i:=10) oF rfl)
 obtain ⟨f12,d12,a12,F12⟩:=BY (x:="is_thing") (st:=Hu) (BM (i:=11) oF rfl)
 obtain ⟨f13,d13,a13,F13⟩:=BY (x:="is_row") (st:=Fl) (BM (i:=12) oF rfl)
 obtain ⟨f14,d14,a14,F14⟩:=BY (x:="are_rows") (st:=Gf) (BM (i:=13) oF rfl)
 obtain ⟨f15,d15,a15,F15⟩:=BY (x:="_law_is_thing") (st:=GK) (BM (i:=14) oF rfl)
 obtain ⟨f16,d16,a16,F16⟩:=BY (x:="_law_due") (st:=GJ) (BM (i:=15) oF rfl)
 obtain ⟨f17,d17,a17,F17⟩:=BY (x:="_law_same") (st:=E9) (BM (i:=16) oF rfl)
 obtain ⟨f18,d18,a18,F18⟩:=BY (x:="law") (st:=FE) (BM (i:=17) oF rfl)
 have e:=hfa.symm.trans (mg_of X G a18)
 cases e
 have b1:=F1.bi2 (p1:="script") (p2:="k") fun _ _ _ _ _ _ _ _=>rfl
 have m1:=mg_of X G a1
 have k1:=F1.kp
 have b2:=F2.bi2 (p1:="pool") (p2:="many") fun _ _ _ _ _ _ _ _=>rfl
 have m2:=mg_of X G a2
 have k2:=F2.kp
 have b3:=F3.bi2 (p1:="pool") (p2:="kind") fun _ _ _ _ _ _ _ _=>rfl
 have m3:=mg_of X G a3
 have k3:=F3.kp
 have b4:=F4.bi1 (p1:="pool") fun _ _ _ _ _ _ _=>rfl
 have m4:=mg_of X G a4
 have k4:=F4.kp
 have b5:=F5.bi2 (p1:="pool") (p2:="most") fun _ _ _ _ _ _ _ _=>rfl
 have m5:=mg_of X G a5
 have k5:=F5.kp
 have b6:=F6.bi2 (p1:="pool") (p2:="most") fun _ _ _ _ _ _ _ _=>rfl
 have m6:=mg_of X G a6
 have k6:=F6.kp
 have b7:=F7.bi3 (p1:="pool") (p2:="key") (p3:="tag") fun _ _ _ _ _ _ _ _ _=>rfl
 have m7:=mg_of X G a7
 have k7:=F7.kp
 have b8:=F8.bi2 (p1:="pool") (p2:="rows") fun _ _ _ _ _ _ _ _=>rfl
 have m8:=mg_of X G a8
 have k8:=F8.kp
 have b9:=F9.bi1 (p1:="thing") fun _ _ _ _ _ _ _=>rfl
 have m9:=mg_of X G a9
 have k9:=F9.kp
 have b10:=F10.bi1 (p1:="thing") fun _ _ _ _ _ _ _=>rfl
 have m10:=mg_of X G a10
 have k10:=F10.kp
 have b11:=F11.bi1 (p1:="thing") fun _ _ _ _ _ _ _=>rfl
 have m11:=mg_of X G a11
 have k11:=F11.kp
 have b12:=F12.bi1 (p1:="thing") fun _ _ _ _ _ _ _=>rfl
 have m12:=mg_of X G a12
 have k12:=F12.kp
 have b13:=F13.bi1 (p1:="thing") fun _ _ _ _ _ _ _=>rfl
 have m13:=mg_of X G a13
 have k13:=F13.kp
 have b14:=F14.bi1 (p1:="thing") fun _ _ _ _ _ _ _=>rfl
 have m14:=mg_of X G a14
 have k14:=F14.kp
 have b15:=F15.bi1 (p1:="thing") fun _ _ _ _ _ _ _=>rfl
 have m15:=mg_of X G a15
 have k15:=F15.kp
 have b16:=F16.bi1 (p1:="thing") fun _ _ _ _ _ _ _=>rfl
 have m16:=mg_of X G a16
 have k16:=F16.kp
 have b17:=F17.bi2 (p1:="one") (p2:="other") fun _ _ _ _ _ _ _ _=>rfl
 have m17:=mg_of X G a17
 have k17:=F17.kp
 have b18:=F18.bi1 (p1:="script") fun _ _ _ _ _ _ _=>rfl
 have B:=fun i x (z:bls[i]?=some x)=>mg_none_of X G (BM oB z)
 have T:Nm mg:=⟨B 0 _ rfl,B 1 _ rfl,B 2 _ rfl,B 3 _ rfl,B 4 _ rfl,B 5 _ rfl,B 6 _ rfl,B 7 _ rfl,B 8 _ rfl,B 9 _ rfl,B 10 _ rfl,B 11 _ rfl,B 12 _ rfl,B 13 _ rfl,B 14 _ rfl,B 15 _ rfl,B 16 _ rfl,B 17 _ rfl⟩
 have t_dict:=B 18 _ rfl
 obtain ⟨ty1,y1⟩:=int_at (x:="MOST_LETTERS") (n:=8) (BM (i:=0) oN rfl)
 obtain ⟨ty2,y2⟩:=int_at (x:="MOST_HANDS") (n:=6) (BM (i:=1) oN rfl)
 have u1:xfB K=true:=congrArg (·.2.2.2) O
 refine ⟨d18,fun s v=>?_,fun base _ _=>?_⟩
 ·obtain ⟨_,_,_,_,_,_,_,_,_,z,_⟩:=F18.ex
  subst z
  exact .of_eq rfl
 obtain ⟨_,_,_,_,_,_,xf⟩:=Rm X G u1
 have h1:Cal l.prog w K mg base "_law_pool" 1 f1 _ ["script","k"] (spF K 2 Dw):=⟨Rt F1 T,b1,k1,m1⟩
 have h2:Cal l.prog w K mg base "_law_take" 1 f2 _ ["pool","many"] (spD K 2 Ai):=⟨Ni F2 T,b2,k2,m2⟩
 have h3:Cal l.prog w K mg base "_law_key" 2 f3 _ ["pool","kind"] (spD K 2 By):=⟨Mg F3 T h2,b3,k3,m3⟩
 have h4:Cal l.prog w K mg base "_law_tag" 2 f4 _ ["pool"] (spD K 1 B7):=⟨Pb F4 T h2,b4,k4,m4⟩
 have h5:Cal l.prog w K mg base "_law_row" 3 f5 _ ["pool","most"] (spF K 2 FV):=⟨RN F5 T h2 h3 h4,b5,k5,m5⟩
 have h6:Cal l.prog w K mg base "_law_rows" 4 f6 _ ["pool","most"] (spF K 2 EZ):=⟨QL F6 T h2 h5,b6,k6,m6⟩
 have h7:Cal l.prog w K mg base "_law_bad_thing" 2 f7 _ ["pool","key","tag"] (spD K 3 Dd):=⟨Ph F7 T h2,b7,k7,m7⟩
 have h8:Cal l.prog w K mg base "_law_spoilt" 3 f8 _ ["pool","rows"] (spD K 2 Ee):=⟨SN F8 T h2 h7 t_dict,b8,k8,m8⟩
 have h9:Cal l.prog w K mg base "_law_copy" 6 f9 _ ["thing"] (spD K 1 (CG 6)):=⟨Iz F9 T b9 m9 6,b9,k9,m9⟩
 have h10:Cal l.prog w K mg base "is_whole" 1 f10 _ ["thing"] (spD K 1 HI):=⟨NJ F10 T,b10,k10,m10⟩
 have h11:Cal l.prog w K mg base "is_tag" 1 f11 _ ["thing"] (spD K 1 IY):=⟨Ra F11 T ⟨ty1,mg_of X G y1⟩,b11,k11,m11⟩
 have h12:Cal l.prog w K mg base "is_thing" 2 f12 _ ["thing"] (spD K 1 Gi):=⟨QF F12 T h10 h11,b12,k12,m12⟩
 have h13:Cal l.prog w K mg base "is_row" 3 f13 _ ["thing"] (spD K 1 GU):=⟨QN F13 T h12,b13,k13,m13⟩
 have h14:Cal l.prog w K mg base "are_rows" 4 f14 _ ["thing"] (spD K 1 FF):=⟨Pe F14 T h13 ⟨ty2,mg_of X G y2⟩,b14,k14,m14⟩
 have h15:Cal l.prog w K mg base "_law_is_thing" 1 f15 _ ["thing"] (spD K 1 Cs):=⟨Mz F15 T,b15,k15,m15⟩
 have h16:Cal l.prog w K mg base "_law_due" 2 f16 _ ["thing"] (spD K 1 FB):=⟨OB F16 T h15,b16,k16,m16⟩
 have h17:Cal l.prog w K mg base "_law_same" 6 f17 _ ["one","other"] (spQ K 2 (Bv 6)):=⟨LH F17 T b17 m17 6,b17,k17,m17⟩
 exact On F18 T h1 h6 h8 h9 h14 h16 h17 h2 h4 h3 xf
end DL
open PySem PySem.W PyProof.Rows
theorem PySem.Challenge.cw_evenlots_k01_what_are_rows_holds : PySem.Challenge.rw_evenlots_k01_what_are_rows.Holds := by
 w_on
 o_law
 refine HD.Q3 (l:=PySem.Challenge.rw_evenlots_k01_what_are_rows) (q:=DL.qv) (loose:=DL.lse) (N:=100000) (obs:=DL.ob) (val:=DL.vl) (by assumption) rfl rfl (fun _=>rfl) (fun w os=>congrFun (congrFun DL.Qs w) os) (fun w os=>congrFun (congrFun DL.Mb w) os) (fun w os=>congrFun (congrFun DL.Rv w) os) (by rfl) (by rfl) (by rfl) rfl (by decide +kernel) ⟨rfl,rfl,rfl,rfl,rfl,by decide +kernel⟩ ?hw ?hc
 case hw=>w_witness2
 case hc=>exact HD.NH (n:=63) (k:=7) (x:="script") (sp:=fun K=>DL.spD K 1 DL.Ht) rfl (by decide) rfl ⟨rfl,by decide,by decide,rfl⟩ (fun _ _ _ _ _ O X G m=>DL.all_mk O X G m) fun _ _ _ ns hl _ hS=>DL.SI (DL.Ny ns hl) hS
