import PyProof.Rows.All
import Wide.All
import OpenK.AllK
import Wide.FinOn
import Lean
import PyProof.EqAt
import PyProof.EqKinds
import PyProof.TupleCall
import PyProof.Rows.SortPure
import PyProof.Rows.SortWalk
import PyProof.NeKinds
import KE.KRevIter
import PyProof.ExcBaseAll.ValueError
import PyProof.Rows.SetFrom
import PyProof.SetRoads
import PyProof.CollectWalk
import PyProof.Rows.SeqMore2
import PySem.Challenge.RW_likesums_k01_sums
set_option Elab.async false
set_option linter.all false
set_option maxRecDepth 100000
set_option maxHeartbeats 0
namespace L2
open PySem PySem.Spec PyProof.Rows
noncomputable abbrev Key:=Sum Int Str
noncomputable def zpa:Key→Value→Bool
 | .inl k,v=>Value.isInt k v
 | .inr x,v=>Value.isStrOf x v
noncomputable def keyH (w:World):Key→Int
 | .inl k=>hashInt k
 | .inr x=>hashStr w x
theorem zaW:∀ {k:Key} {v:Value},zpa k v=true→(∃ i t,k=Sum.inl i∧v=Value.int i t)∨(∃ x t,k=Sum.inr x∧v=Value.str x t)
 | .inl i,v,h=>by
  obtain⟨t,e⟩:=Value.isInt_shape (k:=i) (v:=v) h
  exact .inl ⟨i,t,rfl,e⟩
 | .inr x,v,h=>by
  obtain⟨t,e⟩:=Value.isStrOf_shape (x:=x) (v:=v) h
  exact .inr ⟨x,t,rfl,e⟩
theorem zqP (a b:Int):decide ((Sum.inl a:Key)=Sum.inl b)=(a == b):=by
 by_cases e:a=b
 ·subst e;simp
 ·have h:¬ (Sum.inl a:Key)=Sum.inl b:=fun q=>e (Sum.inl.inj q)
  rw [decide_eq_false h]
  exact (beq_eq_false_iff_ne.mpr e).symm
theorem zqM (a b:Str):decide ((Sum.inr a:Key)=Sum.inr b)=decide (a=b):=by
 by_cases e:a=b
 ·subst e;simp
 ·have h:¬ (Sum.inr a:Key)=Sum.inr b:=fun q=>e (Sum.inr.inj q)
  rw [decide_eq_false h,decide_eq_false e]
theorem zqO (a:Int) (b:Str):decide ((Sum.inl a:Key)=Sum.inr b)=false:=decide_eq_false (fun q=>nomatch q)
theorem zqN (a:Str) (b:Int):decide ((Sum.inr a:Key)=Sum.inl b)=false:=decide_eq_false (fun q=>nomatch q)
noncomputable def zhY (prog:Program) (w:World):PySem.KeyKind prog w Key where
 is:=zpa
 hash:=keyH w
 inj:=fun v a b ha hb=>by
  rcases zaW ha with ⟨i,t,rfl,rfl⟩ | ⟨x,t,rfl,rfl⟩
  ·rcases zaW hb with ⟨j,u,rfl,e⟩ | ⟨y,u,rfl,e⟩
   ·injection e with e1 _;rw [e1]
   ·exact nomatch e
  ·rcases zaW hb with ⟨j,u,rfl,e⟩ | ⟨y,u,rfl,e⟩
   ·exact nomatch e
   ·injection e with e1 _;rw [e1]
 byValue:=fun k v h=>by
  rcases zaW h with ⟨i,t,rfl,rfl⟩ | ⟨x,t,rfl,rfl⟩ <;> rfl
 pyHash:=fun hv h=>by
  rcases zaW hv with ⟨i,t,rfl,rfl⟩ | ⟨x,t,rfl,rfl⟩
  ·exact wpAny_pyHash_int h
  ·exact wpAny_pyHash_str h
 eqBool:=fun hu hv h=>by
  rcases zaW hu with ⟨i,t,rfl,rfl⟩ | ⟨x,t,rfl,rfl⟩
  ·rcases zaW hv with ⟨j,u,rfl,rfl⟩ | ⟨y,u,rfl,rfl⟩
   ·rw [zqP] at h;exact wpAny_eqBool_int h
   ·rw [zqO] at h;exact SeqAt.EqAt.int_str i t y u _ _ _ _ h
  ·rcases zaW hv with ⟨j,u,rfl,rfl⟩ | ⟨y,u,rfl,rfl⟩
   ·rw [zqN] at h;exact SeqAt.EqAt.str_int x t j u _ _ _ _ h
   ·rw [zqM] at h;exact wpAny_eqBool_str h
 «strs»:=fun k x t v h=>by
  rcases zaW h with ⟨i,u,rfl,e⟩ | ⟨y,u,rfl,e⟩
  ·exact nomatch e
  ·injection e with e1 _
   subst e1
   cases v <;> rfl
theorem zpP (prog:Program) (w:World) (k:Key) (v:Value):(zhY prog w).is k v=zpa k v:=rfl
end L2
namespace L2
open PySem PySem.Spec PyProof.Rows
inductive V where
 | non | bl (b:Bool) | int (i:Int) | str (x:Str) | byt (b:Array UInt8) | flt (b:UInt64) | ref (a:Addr) | ty (n:String)
 deriving DecidableEq
noncomputable def RelV:V→Value→Prop
 | .non,u=>u=Value.none
 | .bl b,u=>u=Value.bool b
 | .int i,u=>∃ t,u=Value.int i t
 | .str x,u=>∃ t,u=Value.str x t
 | .byt b,u=>∃ t,u=Value.bytes b t
 | .flt b,u=>∃ t,u=Value.float b t
 | .ref a,u=>u=Value.ref a
 | .ty n,u=>u=Value.type n
noncomputable abbrev Vals:List V→List Value→Prop:=Paired RelV
theorem Vals.length {xs:List V} {us:List Value} (r:Vals xs us):xs.length=us.length:=Paired.length r
theorem Vals.get:∀ {xs:List V} {us:List Value} {i:Nat} {x:V},Vals xs us→xs[i]? = some x→∃ u,us[i]? = some u∧RelV x u
 | _,_,_,_,.nil,e=>by simp at e
 | _,_,0,_,.cons r _,e=>by simp at e;subst e;exact⟨_,rfl,r⟩
 | _,_,i + 1,x,.cons _ t,e=>by
  obtain⟨u,h1,h2⟩:=Vals.get (i:=i) (x:=x) t (by simpa using e)
  exact⟨u,by simpa using h1,h2⟩
theorem Vals.set {x:V} {u:Value} (r:RelV x u):∀ {xs:List V} {us:List Value} (i:Nat),Vals xs us→Vals (xs.set i x) (us.set i u)
 | _,_,_,.nil=>.nil
 | _,_,0,.cons _ t=>.cons r t
 | _,_,i + 1,.cons q t=>.cons q (Vals.set r i t)
theorem Vals.append:∀ {xs ys:List V} {us ws:List Value},Vals xs us→Vals ys ws→Vals (xs ++ ys) (us ++ ws):=by
 intro xs ys us ws h g
 induction h with
 | nil=>exact g
 | cons r _ ih=>exact .cons r ih
theorem Vals.take:∀ {xs:List V} {us:List Value} (n:Nat),Vals xs us→Vals (xs.take n) (us.take n)
 | _,_,0,_=>.nil
 | _,_,_ + 1,.nil=>.nil
 | _,_,n + 1,.cons r t=>.cons r (Vals.take n t)
theorem Vals.drop:∀ {xs:List V} {us:List Value} (n:Nat),Vals xs us→Vals (xs.drop n) (us.drop n)
 | _,_,0,r=>r
 | _,_,_ + 1,.nil=>.nil
 | _,_,n + 1,.cons _ t=>Vals.drop n t
noncomputable def RelO:Option V→Option Value→Prop
 | some v,some u=>RelV v u
 | none,none=>True
 | _,_=>False
noncomputable def KV {κ:Type}:List (κ×V)→List (κ×Value)→Prop:=Paired fun (p:κ×V) (q:κ×Value)=>p.1=q.1∧RelV p.2 q.2
noncomputable def kV:Key→V
 | .inl i=>.int i
 | .inr x=>.str x
inductive HO where
 /-- a list -/
 | lst (xs:List V)
 /-- a tuple (never changes) -/
 | tup (xs:List V)
 /-- a dict whose keys are ints and texts;one whose keys are tuples of ints and texts (the empty one is both) -/
 | dK (kvs:List (Key×V)) | dT (kvs:List (List Key×V))
 /-- a set of ints: its members,its size -/
 | set (S:Int→Bool) (n:Nat)
 /-- an instance of the class at C,its dict at dx,its attributes -/
 | ins (C dx:Addr) (fs:List (Str×V))
 /-- the dict of the instance at x -/
 | own (x:Addr)
 /-- the dict of an exception -/
 | xd (fs:List (Str×V))
 /-- a bound method,f of x -/
 | met (f x:Addr)
 /-- a range object lo,lo + 1,.. below hi -/
 | rng (lo hi:Int)
 /-- a thing that is known to the object (the script;a dict while a loop walks it): read,never written while it is so -/
 | frz (o:Obj) (u:HO)
 /-- a code object's table -/
 | tbl (ps:Array Value)
 /-- any other thing,by what is true of its one object (a def of one's own: SetO a S n:=HO.ext fun h=>..) -/
 | ext (φ:Heap→Prop)
noncomputable abbrev Hp:=Addr→Option HO
noncomputable def upd (H:Hp) (a:Addr) (o:HO):Hp:=fun b=>if b=a then some o else H b
theorem zaL {H:Hp} {a:Addr} {o:HO}:upd H a o a=some o:=by unfold upd;rw [if_pos rfl]
theorem zaw {H:Hp} {a b:Addr} {o:HO} (h:b≠a):upd H a o b=H b:=by unfold upd;rw [if_neg h]
theorem zaA {H:Hp} {a b:Addr} {o:HO} (h:H a=some o) (h':H b=none):a≠b:=by
 intro e;subst e;rw [h] at h';cases h'
section
variable (P:Program) (w:World)
noncomputable def zbW (H:Hp) (h:Heap) (a:Addr):HO→Prop
 | .lst xs=>xs.length≤sizeLine∧∃ (its:List Value) (n:Nat),Vals xs its∧h.get? a=some { cls:=.type "list", data:=.seq its.toArray n }
 | .tup xs=>xs.length≤sizeLine∧∃ its:List Value,Vals xs its∧IsTup h a its.toArray
 | .dK kvs=>kvs.length≤sizeLine∧(a == sysModules)=false∧∃ vs,KV kvs vs∧h.DictOf (zhY P w) a vs
 | .dT kvs=>kvs.length≤sizeLine∧(a == sysModules)=false∧∃ xs:List (List Key×Addr×Value),
   Paired (fun (p:List Key×V) (q:List Key×Addr×Value)=>p.1=q.1∧H q.2.1=some (.tup (p.1.map kV))∧RelV p.2 q.2.2) kvs xs ∧
   ∃ o es ep,h.get? a=some o∧o.ExactDict∧o.data=.dict es ep∧es.toList=xs.map (entryOfKey (tupleKind (zhY P w)))∧(xs.map (·.1)).Nodup
 | .set S n=>h.SetOf (intKind P w) a S n
 | .ins C dx fs=>H dx=some (.own a)∧fs.length≤1000∧dx≠a∧h.get? a=some (PySem.W.instObj C dx) ∧
   ∃ mA,h.Ns1 dx mA∧(∀ f,RelO (fs.lookup f) (mA f))∧PySem.Within mA (fs.map (·.1))
 | .own _=>∃ o,h.get? a=some o
 | .xd fs=>∃ mA,h.Ns1 a mA∧∀ f,RelO (fs.lookup f) (mA f)
 | .rng lo hi=>∃ t u v,h.get? a=some { cls:=.type "range", data:=.fields #[.int lo t,.int hi u,.int 1 v] }
 | .frz o u=>h.get? a=some o∧zbW H h a u
 | .tbl ps=>h.get? a=some { cls:=.none,data:=.fields ps }
 | .met f x=>h.get? a=some (PySem.W.methodObj (.ref f) (.ref x))
 | .ext φ=>φ h∧(∃ o,h.get? a=some o)∧∀ h1 h2:Heap,φ h1→(∀ o,h1.get? a=some o→h2.get? a=some o)→φ h2
def HOk (H:Hp) (h:Heap):Prop:=∀ a o,H a=some o→zbW P w H h a o
end
section
variable {P:Program} {w:World} {H H':Hp} {h h':Heap} {a:Addr} {o:HO}
theorem zbW.lt (x:zbW P w H h a o):a < h.objs.size:=by
 cases o with
 | lst xs=>obtain⟨_,_,_,_,e⟩:=x;exact Heap.lt_size e
 | tup xs=>obtain⟨_,_,_,p⟩:=x;exact p.lt
 | dK kvs=>obtain⟨_,_,_,_,o,_,_,e,_⟩:=x;exact Heap.lt_size e
 | dT kvs=>obtain⟨_,_,_,_,o,_,_,e,_⟩:=x;exact Heap.lt_size e
 | set S n=>obtain⟨o,_,_,_,e,_⟩:=x;exact Heap.lt_size e
 | ins C dx fs=>obtain⟨_,_,_,e,_⟩:=x;exact Heap.lt_size e
 | own y=>obtain⟨_,e⟩:=x;exact Heap.lt_size e
 | xd fs=>obtain⟨_,⟨_,_,_,e,_⟩,_⟩:=x;exact Heap.lt_size e
 | rng lo hi=>obtain⟨_,_,_,e⟩:=x;exact Heap.lt_size e
 | frz ob u=>obtain⟨e,_⟩:=x;exact Heap.lt_size e
 | tbl ps=>exact Heap.lt_size (show h.get? a=some _ from x)
 | met f y=>exact Heap.lt_size (show h.get? a=some _ from x)
 | ext φ=>obtain⟨_,⟨_,e⟩,_⟩:=x;exact Heap.lt_size e
theorem Paired.mapP {α β:Type} {F G:α→β→Prop}:∀ {l₁:List α} {l₂:List β},Paired F l₁ l₂→(∀ a b,F a b→G a b)→Paired G l₁ l₂
 | _,_,.nil,_=>.nil
 | _,_,.cons r t,f=>.cons (f _ _ r) (Paired.mapP t f)
theorem zbW.stay (x:zbW P w H h a o) (k:∀ b u,(b=a∨H b=some (.own a))→h.get? b=some u→h'.get? b=some u)
  (ho:∀ b,H b=some (.own a)→H' b=some (.own a)) (ht:∀ b xs,H b=some (.tup xs)→H' b=some (.tup xs)):zbW P w H' h' a o:=by
 induction o with
 | lst xs=>obtain⟨z,its,n,r,e⟩:=x;exact⟨z,its,n,r,k _ _ (.inl rfl) e⟩
 | tup xs=>obtain⟨z,its,r,ob,e,c⟩:=x;exact⟨z,its,r,ob,k _ _ (.inl rfl) e,c⟩
 | dK kvs=>obtain⟨z,y,vs,r,ob,es,ep,e,c⟩:=x;exact⟨z,y,vs,r,ob,es,ep,k _ _ (.inl rfl) e,c⟩
 | dT kvs =>
  obtain⟨z,y,xs,r,ob,es,ep,e,c⟩:=x
  exact⟨z,y,xs,Paired.mapP r fun p q z=>⟨z.1,ht _ _ z.2.1,z.2.2⟩,ob,es,ep,k _ _ (.inl rfl) e,c⟩
 | set S n=>obtain⟨ob,es,ep,t,e,c⟩:=x;exact⟨ob,es,ep,t,k _ _ (.inl rfl) e,c⟩
 | ins C dx fs =>
  obtain⟨d,z,ne,e,mA,⟨od,es,ep,e2,c⟩,r⟩:=x
  exact⟨ho _ d,z,ne,k _ _ (.inl rfl) e,mA,⟨od,es,ep,k _ _ (.inr d) e2,c⟩,r⟩
 | own y=>obtain⟨ob,e⟩:=x;exact⟨ob,k _ _ (.inl rfl) e⟩
 | xd fs=>obtain⟨mA,⟨od,es,ep,e,c⟩,r⟩:=x;exact⟨mA,⟨od,es,ep,k _ _ (.inl rfl) e,c⟩,r⟩
 | rng lo hi=>obtain⟨t,u,v,e⟩:=x;exact⟨t,u,v,k _ _ (.inl rfl) e⟩
 | frz ob u ih=>obtain⟨e,q⟩:=x;exact⟨k _ _ (.inl rfl) e,ih q⟩
 | tbl ps =>
  have e:h.get? a=some { cls:=.none,data:=.fields ps }:=x
  show h'.get? a=some { cls:=.none,data:=.fields ps }
  exact k a _ (.inl rfl) e
 | met f y =>
  have e:h.get? a=some (PySem.W.methodObj (.ref f) (.ref y)):=x
  show h'.get? a=some (PySem.W.methodObj (.ref f) (.ref y))
  exact k a _ (.inl rfl) e
 | ext φ=>obtain⟨p,⟨o,e⟩,st⟩:=x;exact⟨st _ _ p fun o q=>k _ _ (.inl rfl) q,⟨o,k _ _ (.inl rfl) e⟩,st⟩
theorem HOk.lt (x:HOk P w H h) (e:H a=some o):a < h.objs.size:=(x a o e).lt
theorem HOk.fresh (x:HOk P w H h) (e:h.objs.size≤a):H a=none:=by
 cases q:H a with
 | none=>rfl
 | some u=>exact absurd (Nat.lt_of_lt_of_le (x.lt q) e) (Nat.lt_irrefl _)
theorem HOk.kept (x:HOk P w H h) (k:∀ b u,h.get? b=some u→h'.get? b=some u):HOk P w H h':=fun a o e =>
 (x a o e).stay (fun b u _ q=>k b u q) (fun _ q=>q) fun _ _ q=>q
theorem HOk.laid (x:HOk P w H h) (k:∀ b u,h.get? b=some u→h'.get? b=some u) (hp:h.objs.size≤a) (new:zbW P w (upd H a o) h' a o):HOk P w (upd H a o) h':=fun b u e=>by
 have hn:=x.fresh hp
 by_cases hb:b=a
 ·subst hb;rw [zaL] at e;cases e;exact new
 ·rw [zaw hb] at e
  exact (x b u e).stay (fun c v _ q=>k c v q) (fun c q=>by rw [zaw (zaA q hn)];exact q) fun c xs q=>by rw [zaw (zaA q hn)];exact q
end
def Rd (H:Hp) (a:Addr) (u:HO):Prop:=H a=some u∨∃ o,H a=some (.frz o u)
theorem Rd.ok {P:Program} {w:World} {H:Hp} {h:Heap} {a:Addr} {u:HO} (r:Rd H a u) (x:HOk P w H h):zbW P w H h a u:=by
 rcases r with r | ⟨o,r⟩
 ·exact x a u r
 ·obtain⟨_,q⟩:=x a _ r
  exact q
noncomputable def Mut:Option HO→Prop
 | some (.lst _)=>True
 | some (.dK _)=>True
 | some (.dT _)=>True
 | some (.set _ _)=>True
 | some (.ins _ _ _)=>True
 | some (.ext _)=>True
 | _=>False
section
variable {P:Program} {w:World} {H:Hp} {h h':Heap} {x e:Addr} {o':HO}
theorem HOk.write (ok:HOk P w H h) (mu:Mut (H x)) (he:e=x∨H e=some (.own x)) (k:∀ b u,b≠e→h.get? b=some u→h'.get? b=some u) (heo:∃ u,h'.get? e=some u)
  (new:zbW P w (upd H x o') h' x o'):HOk P w (upd H x o') h':=fun b u q=>by
 have nown:∀ c y,H c=some (.own y)→c≠x:=fun c y r z=>by subst z;rw [r] at mu;exact mu
 have ntup:∀ c xs,H c=some (.tup xs)→c≠x:=fun c xs r z=>by subst z;rw [r] at mu;exact mu
 by_cases hb:b=x
 ·subst hb;rw [zaL] at q;cases q;exact new
 ·rw [zaw hb] at q
  by_cases hbe:b=e
  ·have q':H b=some (.own x):=by
    rcases he with z | z
    ·exact absurd (hbe.trans z) hb
    ·rw [hbe];exact z
   rw [q] at q';cases q'
   obtain⟨v,hv⟩:=heo
   exact⟨v,by rw [hbe];exact hv⟩
  ·refine (ok b u q).stay (fun c v hc r=>k c v ?_ r) (fun c r=>by rw [zaw (nown c b r)];exact r) fun c xs r=>by rw [zaw (ntup c xs r)];exact r
   rcases hc with rfl | hc
   ·exact hbe
   ·rintro rfl
    rcases he with z | z
    ·exact nown c b hc z
    ·rw [hc] at z;cases z;exact hb rfl
end
structure Un (fs ex:List Addr) (H H':Hp) (h h':Heap):Prop where
 keep:∀ b o,h.get? b=some o→H b=none→b∉fs→b∉ex→h'.get? b=some o
 slot:∀ b o,h.get? b=some o→H b=none→b∈fs→b∉ex→∃ sl,h'.get? b=some { o with slots:=sl }
 free:∀ b o,h.get? b=some o→H b=none→b∉ex→H' b=none
 there:∀ b o,h.get? b=some o→b∉ex→∃ o',h'.get? b=some o'
 tups:∀ b xs,H b=some (.tup xs)→H' b=some (.tup xs)
 frzs:∀ b o u,H b=some (.frz o u)→H' b=some (.frz o u)
 tbls:∀ b ps,H b=some (.tbl ps)→∃ more,H' b=some (.tbl (ps ++ more))
section
variable {fs fs' ex ex':List Addr} {H H1 H2:Hp} {h h1 h2 h':Heap} {a x e:Addr} {o:HO}
theorem Un.any (u:Un fs ex H H1 h h1) {b:Addr} {ob:Obj} (q:h.get? b=some ob) (n:H b=none) (hx:b∉ex):∃ sl,h1.get? b=some { ob with slots:=sl }:=by
 by_cases hb:b∈fs
 ·exact u.slot b ob q n hb hx
 ·exact⟨ob.slots,u.keep b ob q n hb hx⟩
theorem Un.kept (k:∀ b u,h.get? b=some u→h'.get? b=some u):Un fs ex H H h h':=
 ⟨fun b ob q _ _ _=>k b ob q,fun b ob q _ _ _=>⟨ob.slots,k b ob q⟩,fun _ _ _ n _=>n,fun b ob q _=>⟨ob,k b ob q⟩,fun _ _ q=>q,fun _ _ _ q=>q,fun _ ps q=>⟨#[],by rw [q];simp⟩⟩
theorem Un.refl:Un fs ex H H h h:=Un.kept fun _ _ q=>q
theorem Un.laid (k:∀ b u,h.get? b=some u→h'.get? b=some u) (hp:h.objs.size≤a) (hn:H a=none):Un fs ex H (upd H a o) h h' where
 keep:=fun b u q _ _ _=>k b u q
 slot:=fun b u q _ _ _=>⟨u.slots,k b u q⟩
 free:=fun b u q n _=>by rw [zaw (Nat.ne_of_lt (Nat.lt_of_lt_of_le (Heap.lt_size q) hp))];exact n
 there:=fun b u q _=>⟨u,k b u q⟩
 tups:=fun b xs q=>by rw [zaw (zaA q hn)];exact q
 frzs:=fun b u xs q=>by rw [zaw (zaA q hn)];exact q
 tbls:=fun b ps q=>⟨#[],by rw [zaw (zaA q hn),q];simp⟩
theorem Un.write (mu:Mut (H x)) (he:e=x∨H e=some (.own x)) (k:∀ b u,b≠e→h.get? b=some u→h'.get? b=some u) (heo:∃ u,h'.get? e=some u):Un fs ex H (upd H x o) h h':=by
 have hx:∀ b,H b=none→b≠x:=fun b n z=>by subst z;rw [n] at mu;exact mu
 have hb:∀ b,H b=none→b≠e:=fun b n z=>by
  subst z
  rcases he with r | r
  ·exact hx b n r
  ·rw [n] at r;cases r
 have hm:∀ b u,H b=some u→¬ Mut (some u)→b≠x:=fun b u q nm z=>by subst z;rw [q] at mu;exact nm mu
 refine ⟨fun b u q n _ _=>k b u (hb b n) q,fun b u q n _ _=>⟨u.slots,k b u (hb b n) q⟩,fun b u q n _=>by rw [zaw (hx b n)];exact n,fun b u q _=>?_,
  fun b xs q=>by rw [zaw (hm b _ q fun z=>z)];exact q,fun b u xs q=>by rw [zaw (hm b _ q fun z=>z)];exact q,fun b ps q=>⟨#[],by rw [zaw (hm b _ q fun z=>z),q];simp⟩⟩
 by_cases hbe:b=e
 ·subst hbe;exact heo
 ·exact⟨u,k b u hbe q⟩
end
noncomputable def trk (h:Heap) (H:Hp):List Addr:=(List.range h.objs.size).filter fun a=>(H a).isSome
noncomputable def hidT (h:Heap) (H:Hp):Heap:=PySem.W.hideAll h (trk h H)
theorem zlG (h:Heap) (H:Hp):(hidT h H).objs.size=h.objs.size:=PySem.W.hideAll_size _ _
theorem zmQ {h:Heap} {H:Hp} {b:Addr} {o:Obj} (e:h.get? b=some o) (n:H b=none):(hidT h H).get? b=some o:=
 PySem.W.hideAll_get _ e fun hm=>by
  have q:(H b).isSome=true:=(List.mem_filter.mp hm).2
  rw [n] at q;simp at q
theorem zoS {h:Heap} {H:Hp} {b:Addr} {o:Obj} (e:(hidT h H).get? b=some o):h.get? b=some o∧H b=none:=by
 have e':h.get? b=some o:=PySem.W.of_hideAll (trk h H) e
 refine ⟨e',?_⟩
 cases q:H b with
 | none=>rfl
 | some x =>
  have hm:b∈trk h H:=List.mem_filter.mpr ⟨List.mem_range.mpr (Heap.lt_size e'),by simp [q]⟩
  have z:(hidT h H).get? b=none:=PySem.W.hideAll_none (trk h H) hm
  rw [z] at e;cases e
end L2
namespace L2
open PySem PySem.Spec PyProof.Rows
structure Mod (K:PySem.W.Frag) (mg:Str→Option Value) (base:Heap):Prop where
 kin:K.In base
 glob:base.Ns mainGlobals mg
 blt:∃ mb,base.Ns builtinsNs mb∧∀ x:Str,x ≠ "__name__" → mb x=bootBuiltins x
 nolimit:base.NoLimit
structure Cx where
 prog:Program
 w:World
 K:PySem.W.Frag
 mg:Str→Option Value
 base:Heap
 A:Around
 N:List Str
 s₀:Shared
 H₀:Hp
 env:Env
 outer:List Env
 stack:List Env
 ex:List Addr
 fn:Str→Bool
 calm:Bool
 pn:List (Addr×Obj)
 xe:Value→Shared→Prop
noncomputable def frs (l:List Env):List Addr:=l.filterMap (·.frame)
noncomputable abbrev Cx.fs (X:Cx):List Addr:=frs X.outer
def Vis (sc:Scope) (x:Str):Prop:=sc.names.lookup x=some .local∨sc.names.lookup x=some .cell∨sc.names.lookup x=some .free
def Loc (sc:Scope) (x:Str):Prop:=sc.names.lookup x=some .local∨sc.names.lookup x=some .cell
def Look (env:Env) (h:Heap) (m:Str→Option Value) (x:Str) (u:Value):Prop:=
 (env.kindOf x=some .local∧m x=some u)∨((env.kindOf x=some .cell∨env.kindOf x=some .free)∧∃ c,env.cells.lookup x=some c∧h.IsCell c (some u))
structure Cx.Ok (X:Cx):Prop where
 mod:Mod X.K X.mg X.base
 kind:X.env.scope.kind=.function
 glob:X.env.globals=mainGlobals
 blt:X.env.builtins=builtinsNs
 above:X.s₀.heap.objs.size≤X.env.locals
 inj:∀ x y c,X.env.cells.lookup x=some c→X.env.cells.lookup y=some c→x=y
 has:∀ x,(X.env.kindOf x=some .cell∨X.env.kindOf x=some .free)→∃ c,X.env.cells.lookup x=some c
 cab:∀ x c,X.fn x=true→X.env.cells.lookup x=some c→X.s₀.heap.objs.size≤c
 hd:X.calm=true→X.A.handled=none
 frames:X.A.frames=some X.stack
 stk:X.stack=X.outer∨(X.stack=X.env :: X.outer∧X.env.frame=some X.env.locals)
 exf:∀ b∈X.ex,b≠X.env.locals∧∀ x c,X.env.cells.lookup x=some c→c≠b
 bs:∀ b o,X.base.get? b=some o→X.s₀.heap.get? b=some o∧X.H₀ b=none
 bsz:X.base.objs.size≤X.s₀.heap.objs.size
 noex:∀ b o,X.base.get? b=some o→b∉X.ex
 exfs:∀ b∈X.ex,b∉X.fs
 funs:X.s₀.heap.FunFrames X.base X.outer
 frf:∀ b∈X.fs,X.H₀ b=none
structure Inv (X:Cx) (pins:List (Addr×Obj)) (σ:List (Option V)) (H:Hp) (s:Shared):Prop where
 ok:X.Ok
 os:s.os=X.s₀.os
 bare:AllBare s.gens
 base:Un X.fs X.ex X.H₀ H X.s₀.heap s.heap
 loc:∃ m,s.heap.Ns X.env.locals m∧∀ (i:Nat) (x:Str) (v:V),X.N[i]? = some x→σ[i]? = some (some v)→Vis X.env.scope x→∃ u,RelV v u∧Look X.env s.heap m x u
 cell:∀ x c,X.env.cells.lookup x=some c→∃ v,s.heap.IsCell c v
 free:H X.env.locals=none
 freeC:∀ x c,X.env.cells.lookup x=some c→H c=none
 pin:∀ p∈X.pn ++ pins,s.heap.get? p.1=some p.2∧H p.1=none∧p.1≠X.env.locals∧p.1∉X.fs∧∀ v,p.2.data≠.cell v
 hok:HOk X.prog X.w H s.heap
 len:σ.length=X.N.length
section
variable {X:Cx} {pins:List (Addr×Obj)} {σ:List (Option V)} {H H':Hp} {s:Shared} {h':Heap}
theorem Cx.Ok.nofr (ok:X.Ok) {b:Addr} {o:Obj} (e:X.base.get? b=some o):b∉X.fs:=fun hb=>by
 have:=(ok.funs.mem hb).1
 rw [e] at this;cases this
theorem Inv.bs (I:Inv X pins σ H s):∀ b o,X.base.get? b=some o→s.heap.get? b=some o∧H b=none:=fun b o e =>
 ⟨I.base.keep b o (I.ok.bs b o e).1 (I.ok.bs b o e).2 (I.ok.nofr e) (I.ok.noex b o e),I.base.free b o (I.ok.bs b o e).1 (I.ok.bs b o e).2 (I.ok.noex b o e)⟩
theorem Inv.bk (I:Inv X pins σ H s):∀ b o,X.base.get? b=some o→s.heap.get? b=some o:=fun b o e=>(I.bs b o e).1
theorem Inv.mod (I:Inv X pins σ H s):Mod X.K X.mg X.base:=I.ok.mod
theorem Inv.kIn (I:Inv X pins σ H s):X.K.In s.heap:=I.ok.mod.kin.keeps I.bk
theorem Inv.lt (I:Inv X pins σ H s):X.env.locals < s.heap.objs.size:=let ⟨_,hn,_⟩:=I.loc;hn.lt
theorem Inv.sz (I:Inv X pins σ H s):X.s₀.heap.objs.size≤s.heap.objs.size:=Nat.le_trans I.ok.above (Nat.le_of_lt I.lt)
theorem Inv.nofs (I:Inv X pins σ H s) {a:Addr} (h:s.heap.objs.size≤a):a∉X.fs:=fun hb=>by
 obtain⟨_,o,ho,_⟩:=I.ok.funs.mem hb
 exact absurd (Nat.lt_of_lt_of_le (Heap.lt_size ho) (Nat.le_trans I.sz h)) (Nat.lt_irrefl _)
theorem Inv.cne (I:Inv X pins σ H s):∀ x c,X.env.cells.lookup x=some c→c≠X.env.locals:=fun x c e z=>by
 obtain⟨v,o,ho,hd⟩:=I.cell x c e
 obtain⟨m,⟨o',es,ep,ho',hd',_⟩,_⟩:=I.loc
 rw [z,ho'] at ho;cases ho;rw [hd'] at hd;cases hd
theorem Inv.funs (I:Inv X pins σ H s):s.heap.FunFrames X.base X.outer:=by
 have all:∀ (l:List Env),(∀ b∈frs l,b∈X.fs)→X.s₀.heap.FunFrames X.base l→s.heap.FunFrames X.base l:=by
  intro l
  induction l with
  | nil=>intro _ _;trivial
  | cons env r ih =>
   intro hs hl
   obtain⟨hk,⟨L,o,hf,hn,ho,hd⟩,hr⟩:=hl
   have hL:L∈X.fs:=hs L (by unfold frs;rw [List.filterMap_cons,hf];exact List.mem_cons_self)
   obtain⟨sl,e⟩:=I.base.slot L o ho (I.ok.frf L hL) hL fun z=>I.ok.exfs L z hL
   exact⟨hk,⟨L,_,hf,hn,e,hd⟩,ih (fun b hb=>hs b (by unfold frs;rw [List.filterMap_cons,hf];exact List.mem_cons_of_mem _ hb)) hr⟩
 exact all X.outer (fun _ hb=>hb) I.ok.funs
theorem Inv.stack (I:Inv X pins σ H s):s.heap.FunFrames X.base X.stack:=by
 rcases I.ok.stk with e | ⟨e,hf⟩
 ·rw [e];exact I.funs
 ·rw [e]
  obtain⟨m,hn,_⟩:=I.loc
  refine .cons (by rw [I.ok.kind];decide) hf hn ?_ I.funs
  exact Heap.get?_none_of_le (Nat.le_trans I.ok.bsz I.ok.above)
theorem Inv.stkSub (I:Inv X pins σ H s):∀ b∈frs X.stack,b∈X.env.locals :: X.fs:=fun b hb=>by
 rcases I.ok.stk with e | ⟨e,hf⟩
 ·rw [e] at hb;exact List.mem_cons_of_mem _ hb
 ·rw [e] at hb
  unfold frs at hb
  rw [List.filterMap_cons,hf] at hb
  exact hb
theorem Inv.stkFree (I:Inv X pins σ H s):∀ b∈frs X.stack,H b=none:=fun b hb=>by
 rcases List.mem_cons.mp (I.stkSub b hb) with e | hb
 ·rw [e];exact I.free
 ·obtain⟨_,o,ho,_⟩:=I.ok.funs.mem hb
  exact I.base.free b o ho (I.ok.frf b hb) fun z=>I.ok.exfs b z hb
theorem Inv.step {g':Array GenState} {t':Nat} {d':Drawn} {ch:List Addr} (I:Inv X pins σ H s)
  (hch:∀ b∈ch,(b∈X.ex∨X.s₀.heap.objs.size≤b)∧b≠X.env.locals∧(∀ x c,X.env.cells.lookup x=some c→c≠b)∧∀ p∈X.pn ++ pins,p.1≠b)
  (keep:∀ b o,b≠X.env.locals→b∉X.fs→b∉ch→s.heap.get? b=some o→H b=none→h'.get? b=some o)
  (slot:∀ b o,b≠X.env.locals→b∈X.fs→b∉ch→s.heap.get? b=some o→H b=none→∃ sl,h'.get? b=some { o with slots:=sl }) (free:∀ b o,b∉ch→s.heap.get? b=some o→H b=none→H' b=none)
  (there:∀ b o,b∉ch→s.heap.get? b=some o→∃ o',h'.get? b=some o')
  (tups:∀ b xs,H b=some (.tup xs)→H' b=some (.tup xs)) (frzs:∀ b o u,H b=some (.frz o u)→H' b=some (.frz o u)) (tbls:∀ b ps,H b=some (.tbl ps)→∃ more,H' b=some (.tbl (ps ++ more)))
  (ns:∀ m,s.heap.Ns X.env.locals m→h'.Ns X.env.locals m) (hok:HOk X.prog X.w H' h') (hg:AllBare g') :
  Inv X pins σ H' { s with heap:=h',gens:=g',drawn:=d',toks:=t' }:=by
 have neL:∀ b o,X.s₀.heap.get? b=some o→b≠X.env.locals:=fun b o e=>Nat.ne_of_lt (Nat.lt_of_lt_of_le (Heap.lt_size e) I.ok.above)
 have neC:∀ b o,X.s₀.heap.get? b=some o→b∉X.ex→b∉ch:=fun b o e hx hb=>by
  rcases (hch b hb).1 with z | z
  ·exact hx z
  ·exact absurd (Nat.lt_of_lt_of_le (Heap.lt_size e) z) (Nat.lt_irrefl _)
 have cellK:∀ x c,X.env.cells.lookup x=some c→∀ v,s.heap.IsCell c v→h'.IsCell c v:=fun x c e v ⟨o,ho,hd⟩=>by
  have nch:c∉ch:=fun z=>(hch c z).2.2.1 x c e rfl
  by_cases hc:c∈X.fs
  ·obtain⟨sl,q⟩:=slot c o (I.cne x c e) hc nch ho (I.freeC x c e)
   exact⟨_,q,hd⟩
  ·exact⟨o,keep c o (I.cne x c e) hc nch ho (I.freeC x c e),hd⟩
 refine ⟨I.ok,I.os,hg,⟨fun b o e n hb hx=>?_,fun b o e n hb hx=>?_,fun b o e n hx=>?_,fun b o e hx=>?_,fun b xs e=>tups b xs (I.base.tups b xs e),fun b o xs e=>frzs b o xs (I.base.frzs b o xs e),fun b ps e=>?_⟩,?_,fun x c e=>?_,?_,fun x c e=>?_,fun p hp=>?_,hok,I.len⟩
 ·exact keep b o (neL b o e) hb (neC b o e hx) (I.base.keep b o e n hb hx) (I.base.free b o e n hx)
 ·obtain⟨sl,e1⟩:=I.base.slot b o e n hb hx
  obtain⟨sl',e2⟩:=slot b _ (neL b o e) hb (neC b o e hx) e1 (I.base.free b o e n hx)
  exact⟨sl',e2⟩
 ·obtain⟨o',e1⟩:=I.base.there b o e hx
  exact free b o' (neC b o e hx) e1 (I.base.free b o e n hx)
 ·obtain⟨o',e1⟩:=I.base.there b o e hx
  exact there b o' (neC b o e hx) e1
 ·obtain⟨m1,e1⟩:=I.base.tbls b ps e
  obtain⟨m2,e2⟩:=tbls b _ e1
  exact⟨m1 ++ m2,by rw [e2,Array.append_assoc]⟩
 ·obtain⟨m,hn,hl⟩:=I.loc
  refine ⟨m,ns m hn,fun i x v e1 e2 e3=>?_⟩
  obtain⟨u,r,l⟩:=hl i x v e1 e2 e3
  refine ⟨u,r,?_⟩
  rcases l with l | ⟨k,c,e,z⟩
  ·exact .inl l
  ·exact .inr ⟨k,c,e,cellK x c e _ z⟩
 ·obtain⟨v,z⟩:=I.cell x c e
  exact⟨v,cellK x c e v z⟩
 ·obtain⟨m,⟨o,_,_,ho,_⟩,_⟩:=I.loc
  exact free _ o (fun z=>(hch _ z).2.1 rfl) ho I.free
 ·obtain⟨v,o,ho,hd⟩:=I.cell x c e
  exact free c o (fun z=>(hch c z).2.2.1 x c e rfl) ho (I.freeC x c e)
 ·obtain⟨e,n,ne,nf,d⟩:=I.pin p hp
  have nch:p.1∉ch:=fun z=>(hch p.1 z).2.2.2 p hp rfl
  exact⟨keep p.1 p.2 ne nf nch e n,free p.1 p.2 nch e n,ne,nf,d⟩
theorem Inv.un {t':Nat} (I:Inv X pins σ H s) (u:Un X.fs [] H H' s.heap h') (hok:HOk X.prog X.w H' h'):Inv X pins σ H' { s with heap:=h',toks:=t' }:=by
 obtain⟨m,⟨o,es,ep,ho,r⟩,_⟩:=id I.loc
 obtain⟨sl,hL⟩:=u.any ho I.free (by simp)
 exact I.step (g':=s.gens) (d':=s.drawn) (ch:=[]) (fun _ z=>nomatch z) (fun b o _ hb _ e n=>u.keep b o e n hb (by simp)) (fun b o _ hb _ e n=>u.slot b o e n hb (by simp)) (fun b o _ e n=>u.free b o e n (by simp)) (fun b o _ e=>u.there b o e (by simp)) u.tups u.frzs u.tbls (fun m' hm=>by
  obtain⟨o',es',ep',ho',r'⟩:=hm
  rw [ho] at ho';cases ho'
  exact⟨_,es',ep',hL,r'⟩) hok I.bare
theorem Inv.call {g':Array GenState} {t':Nat} {d':Drawn} {ch:List Addr} (I:Inv X pins σ H s) (u:Un (frs X.stack) ch H H' s.heap h') (hok:HOk X.prog X.w H' h') (hg:AllBare g')
  (hch:∀ b∈ch,(b∈X.ex∨X.s₀.heap.objs.size≤b)∧b≠X.env.locals∧(∀ x c,X.env.cells.lookup x=some c→c≠b)∧∀ p∈X.pn ++ pins,p.1≠b) :
  Inv X pins σ H' { s with heap:=h',gens:=g',drawn:=d',toks:=t' }:=by
 obtain⟨m,⟨o,es,ep,ho,r⟩,_⟩:=id I.loc
 obtain⟨sl,hL⟩:=u.any ho I.free fun z=>(hch _ z).2.1 rfl
 exact I.step (ch:=ch) hch (fun b o hL hb hc e n=>u.keep b o e n (fun z=>(List.mem_cons.mp (I.stkSub b z)).elim hL hb) hc) (fun b o _ _ hc e n=>u.any e n hc) (fun b o hc e n=>u.free b o e n hc) (fun b o hc e=>u.there b o e hc) u.tups u.frzs u.tbls (fun m' hm=>by
  obtain⟨o',es',ep',ho',r'⟩:=hm
  rw [ho] at ho';cases ho'
  exact⟨_,es',ep',hL,r'⟩) hok hg
theorem Inv.turned {t':Nat} {it:Addr} (I:Inv X pins σ H s) (k:∀ b o,b≠it→s.heap.get? b=some o→h'.get? b=some o) (hn:H it=none) (hL:it≠X.env.locals)
  (h1:it∈X.ex∨X.s₀.heap.objs.size≤it) (h2:∀ x c,X.env.cells.lookup x=some c→c≠it) (h3:∀ p∈X.pn ++ pins,p.1≠it):Inv X pins σ H { s with heap:=h',toks:=t' }:=by
 have nit:∀ b u,H b=some u→b≠it:=fun b u e z=>by rw [z,hn] at e;cases e
 refine I.step (g':=s.gens) (d':=s.drawn) (ch:=[it]) (fun b hb=>?_) (fun b o _ _ hc e _=>k b o (fun z=>hc (by simp [z])) e) (fun b o _ _ hc e _=>⟨o.slots,k b o (fun z=>hc (by simp [z])) e⟩) (fun _ _ _ _ n=>n)
  (fun b o hc e=>⟨o,k b o (fun z=>hc (by simp [z])) e⟩) (fun _ _ e=>e) (fun _ _ _ e=>e) (fun b ps e=>⟨#[],by rw [e];simp⟩) (fun m hm=>?_) (fun b u e=>?_) I.bare
 ·have e:b=it:=by simpa using hb
  subst e
  exact⟨h1,hL,h2,h3⟩
 ·obtain⟨o,es,ep,ho,r⟩:=hm
  exact⟨o,es,ep,k _ o (Ne.symm hL) ho,r⟩
 ·refine (I.hok b u e).stay (fun c v hc q=>k c v ?_ q) (fun _ q=>q) fun _ _ q=>q
  rcases hc with z | z
  ·rw [z];exact nit b u e
  ·exact nit c _ z
theorem Inv.tok (I:Inv X pins σ H s) (t:Nat):Inv X pins σ H { s with toks:=t }:=I.un (h':=s.heap) (t':=t) Un.refl I.hok
theorem Inv.kept {t':Nat} (I:Inv X pins σ H s) (k:∀ b u,s.heap.get? b=some u→h'.get? b=some u):Inv X pins σ H { s with heap:=h',toks:=t' }:=I.un (Un.kept k) (I.hok.kept k)
theorem Inv.laid {a:Addr} {o:HO} {t':Nat} (I:Inv X pins σ H s) (k:∀ b u,s.heap.get? b=some u→h'.get? b=some u) (hp:s.heap.objs.size≤a) (new:zbW X.prog X.w (upd H a o) h' a o) :
  Inv X pins σ (upd H a o) { s with heap:=h',toks:=t' }:=I.un (Un.laid k hp (I.hok.fresh hp)) (I.hok.laid k hp new)
theorem Inv.write {x e:Addr} {o:HO} {t':Nat} (I:Inv X pins σ H s) (mu:Mut (H x)) (he:e=x∨H e=some (.own x)) (k:∀ b u,b≠e→s.heap.get? b=some u→h'.get? b=some u) (heo:∃ u,h'.get? e=some u)
  (new:zbW X.prog X.w (upd H x o) h' x o):Inv X pins σ (upd H x o) { s with heap:=h',toks:=t' }:=I.un (Un.write mu he k heo) (I.hok.write mu he k heo new)
theorem Inv.pins_of {pins':List (Addr×Obj)} (I:Inv X pins σ H s) (h:∀ p∈pins',s.heap.get? p.1=some p.2∧H p.1=none∧p.1≠X.env.locals∧p.1∉X.fs∧∀ v,p.2.data≠.cell v):Inv X pins' σ H s:=
 ⟨I.ok,I.os,I.bare,I.base,I.loc,I.cell,I.free,I.freeC,fun p hp=>(List.mem_append.mp hp).elim (fun z=>I.pin p (List.mem_append_left _ z)) (h p),I.hok,I.len⟩
theorem zi4 {N:List Str} (hN:N.Nodup) {i j:Nat} {x:Str} (a:N[i]? = some x) (b:N[j]? = some x):i=j:=by
 obtain⟨h1,e1⟩:=List.getElem?_eq_some_iff.mp a
 obtain⟨h2,e2⟩:=List.getElem?_eq_some_iff.mp b
 exact (List.getElem_inj hN).mp (e1.trans e2.symm)
theorem zgO {M:Model} {A:Around} {E:Value→Shared→Prop} {i:Nat} {x:Str} {v:V} {u:Value} {Q:Unit→Shared→Prop} (I:Inv X pins σ H s) (hN:X.N.Nodup) (hi:X.N[i]? = some x) (hx:Loc X.env.scope x) (r:RelV v u)
  (h:∀ s',Inv X pins (σ.set i (some v)) H s'→(∃ a,Heap.SameBut a s.heap s'.heap∧(a=X.env.locals∨X.env.cells.lookup x=some a))→Q () s') (hf:X.fn x=true∨X.env.scope.names.lookup x=some .local:=by first | exact .inl rfl | exact .inr rfl | assumption):wpAny M A (storeName X.env x u) Q E s:=by
 obtain⟨m,hn,hl⟩:=id I.loc
 have hcls:(X.env.scope.kind == .class || (X.env.scope.kind == .module && X.env.locals != X.env.globals))=false:=by rw [I.ok.kind];rfl
 have hiσ:i < σ.length:=by rw [I.len];exact (List.getElem?_eq_some_iff.mp hi).1
 have cne:=I.cne
 have tracked:∀ {a:Addr} {h':Heap},(∃ o,s.heap.get? a=some o∧H a=none)→Heap.SameBut a s.heap h'→HOk X.prog X.w H h':=fun {a h'} ha hs b ob e=>by
  obtain⟨_,_,hfree⟩:=ha
  refine (I.hok b ob e).stay (fun c w' hc q=>(hs.2 c ?_).trans q) (fun _ q=>q) fun _ _ q=>q
  rintro rfl
  rcases hc with rfl | hc
  ·rw [hfree] at e;cases e
  ·rw [hfree] at hc;cases hc
 rcases hx with hk | hk
 ·refine wpAny_storeName_local hk hn (fun h' hn' hs=>?_) hcls
  obtain⟨oL,_,_,hoL,_⟩:=id hn
  refine h _ ⟨I.ok,I.os,I.bare,⟨fun b o e n hb hx=>?_,fun b o e n hb hx=>?_,I.base.free,fun b o e hx=>?_,I.base.tups,I.base.frzs,I.base.tbls⟩,⟨_,hn',fun j y v' e1 e2 e3=>?_⟩,fun y c e=>?_,I.free,I.freeC,fun p hp=>?_,tracked ⟨oL,hoL,I.free⟩ hs,by simpa using I.len⟩ ⟨_,hs,.inl rfl⟩
  ·exact (hs.2 b (Nat.ne_of_lt (Nat.lt_of_lt_of_le (Heap.lt_size e) I.ok.above))).trans (I.base.keep b o e n hb hx)
  ·obtain⟨sl,e1⟩:=I.base.slot b o e n hb hx
   exact⟨sl,(hs.2 b (Nat.ne_of_lt (Nat.lt_of_lt_of_le (Heap.lt_size e) I.ok.above))).trans e1⟩
  ·obtain⟨o',e1⟩:=I.base.there b o e hx
   exact⟨o',(hs.2 b (Nat.ne_of_lt (Nat.lt_of_lt_of_le (Heap.lt_size e) I.ok.above))).trans e1⟩
  ·by_cases hj:j=i
   ·subst hj
    rw [hi] at e1;cases e1
    rw [List.getElem?_set_self hiσ] at e2
    cases e2
    exact⟨u,r,.inl ⟨hk,by simp⟩⟩
   ·rw [List.getElem?_set_ne (Ne.symm hj)] at e2
    obtain⟨u',r',q⟩:=hl j y v' e1 e2 e3
    refine ⟨u',r',?_⟩
    rcases q with ⟨k,e⟩ | ⟨k,c,e,z⟩
    ·refine .inl ⟨k,?_⟩
     have:y≠x:=fun e=>hj (zi4 hN e1 (e ▸ hi))
     simp [this,e]
    ·exact .inr ⟨k,c,e,z.sameBut hs (cne y c e)⟩
  ·obtain⟨w',z⟩:=I.cell y c e
   exact⟨w',z.sameBut hs (cne y c e)⟩
  ·obtain⟨e,n,ne,nf,d⟩:=I.pin p hp
   exact⟨(hs.2 p.1 ne).trans e,n,ne,nf,d⟩
 ·have hfn:X.fn x=true:=by
   rcases hf with z | z
   ·exact z
   ·rw [z] at hk;cases hk
  obtain⟨c,hc⟩:=I.ok.has x (.inl hk)
  obtain⟨w',z⟩:=I.cell x c hc
  refine wpAny_storeName_cell I.ok.kind hk hc z (fun h' hc' hs=>?_)
  obtain⟨oc,hoc,hocd⟩:=id z
  refine h { s with heap:=h' } ⟨I.ok,I.os,I.bare,⟨fun b o e n hb hx=>?_,fun b o e n hb hx=>?_,I.base.free,fun b o e hx=>?_,I.base.tups,I.base.frzs,I.base.tbls⟩,⟨m,hn.sameBut hs (Ne.symm (cne x c hc)),fun j y v' e1 e2 e3=>?_⟩,fun y c' e=>?_,I.free,I.freeC,fun p hp=>?_,tracked ⟨oc,hoc,I.freeC x c hc⟩ hs,by simpa using I.len⟩ ⟨c,hs,.inr hc⟩
  ·exact (hs.2 b (Nat.ne_of_lt (Nat.lt_of_lt_of_le (Heap.lt_size e) (I.ok.cab x c hfn hc)))).trans (I.base.keep b o e n hb hx)
  ·obtain⟨sl,e1⟩:=I.base.slot b o e n hb hx
   exact⟨sl,(hs.2 b (Nat.ne_of_lt (Nat.lt_of_lt_of_le (Heap.lt_size e) (I.ok.cab x c hfn hc)))).trans e1⟩
  ·obtain⟨o',e1⟩:=I.base.there b o e hx
   exact⟨o',(hs.2 b (Nat.ne_of_lt (Nat.lt_of_lt_of_le (Heap.lt_size e) (I.ok.cab x c hfn hc)))).trans e1⟩
  ·by_cases hj:j=i
   ·subst hj
    rw [hi] at e1;cases e1
    rw [List.getElem?_set_self hiσ] at e2
    cases e2
    exact⟨u,r,.inr ⟨.inl hk,c,hc,hc'⟩⟩
   ·rw [List.getElem?_set_ne (Ne.symm hj)] at e2
    obtain⟨u',r',q⟩:=hl j y v' e1 e2 e3
    refine ⟨u',r',?_⟩
    rcases q with q | ⟨k,c',e,z'⟩
    ·exact .inl q
    ·refine .inr ⟨k,c',e,z'.sameBut hs ?_⟩
     rintro rfl
     exact hj (zi4 hN e1 (I.ok.inj _ _ _ e hc ▸ hi))
  ·by_cases hcc:c'=c
   ·subst hcc;exact⟨_,hc'⟩
   ·obtain⟨w2,z2⟩:=I.cell y c' e
    exact⟨w2,z2.sameBut hs hcc⟩
  ·obtain⟨e,n,ne,nf,d⟩:=I.pin p hp
   refine ⟨(hs.2 p.1 ?_).trans e,n,ne,nf,d⟩
   intro q
   rw [q,hoc] at e
   have q':oc=p.2:=Option.some.inj e
   exact d w' (by rw [← q'];exact hocd)
theorem zdr {M:Model} {A:Around} {E:Value→Shared→Prop} {i:Nat} {x:Str} {v:V} {u:Value} {Q:Unit→Shared→Prop} (I:Inv X pins σ H s) (hN:X.N.Nodup) (hi:X.N[i]? = some x) (hx:Loc X.env.scope x) (r:RelV v u)
  (h:∀ s',Inv X pins (σ.set i (some v)) H s'→Q () s') (hf:X.fn x=true∨X.env.scope.names.lookup x=some .local:=by first | exact .inl rfl | exact .inr rfl | assumption):wpAny M A (storeName X.env x u) Q E s:=
 zgO I hN hi hx r (fun s' I' _=>h s' I') hf
theorem Inv.call' {s':Shared} {ch:List Addr} (I:Inv X pins σ H s) (ho:s'.os=s.os) (u:Un (frs X.stack) ch H H' s.heap s'.heap) (hok:HOk X.prog X.w H' s'.heap) (hg:AllBare s'.gens)
  (hch:∀ b∈ch,(b∈X.ex∨X.s₀.heap.objs.size≤b)∧b≠X.env.locals∧(∀ x c,X.env.cells.lookup x=some c→c≠b)∧∀ p∈X.pn ++ pins,p.1≠b):Inv X pins σ H' s':=by
 obtain⟨h',g',d',t',o'⟩:=s'
 have e:o'=s.os:=ho
 subst e
 exact I.call (g':=g') (t':=t') (d':=d') u hok hg hch
end
noncomputable abbrev XK:=Value→Option Addr→Hp→Prop
noncomputable abbrev St:=List (Option V)
noncomputable abbrev VK:=V→Hp→Prop
noncomputable abbrev TE:=St→Hp→VK→Prop
noncomputable abbrev TT:=St→Hp→(Bool→Hp→Prop)→Prop
noncomputable abbrev TA:=St→Hp→(List V→Hp→Prop)→Prop
structure Ends where
 nx:St→Hp→Prop
 rt:VK
 bk:St→Hp→Prop:=fun _ _=>False
 ct:St→Hp→Prop:=fun _ _=>False
noncomputable abbrev TS:=Ends→St→Hp→Prop
def EP (X:Cx) (pins:List (Addr×Obj)) (σ:St) (Q:VK) (u:Value) (s':Shared):Prop:=∃ v H',Inv X pins σ H' s'∧RelV v u∧Q v H'
def TP (X:Cx) (pins:List (Addr×Obj)) (σ:St) (Q:Bool→Hp→Prop) (b:Bool) (s':Shared):Prop:=∃ H',Inv X pins σ H' s'∧Q b H'
def AP (X:Cx) (pins:List (Addr×Obj)) (σ:St) (Q:List V→Hp→Prop) (us:List Value) (s':Shared):Prop:=∃ vs H',Inv X pins σ H' s'∧Vals vs us∧Q vs H'
def SP (X:Cx) (pins:List (Addr×Obj)) (D:Ends) (f:Flow) (s':Shared):Prop:=
 match f with
 | .next=>∃ σ' H',Inv X pins σ' H' s'∧D.nx σ' H'
 | .brk=>∃ σ' H',Inv X pins σ' H' s'∧D.bk σ' H'
 | .cont=>∃ σ' H',Inv X pins σ' H' s'∧D.ct σ' H'
 | .ret u=>∃ v σ' H',Inv X pins σ' H' s'∧RelV v u∧D.rt v H'
def PE (X:Cx) (e:Expr) (t:TE):Prop:=
 ∀ (pins:List (Addr×Obj)) (s:Shared) (σ:St) (H:Hp) (Q:VK),Inv X pins σ H s→t σ H Q→wpAny (model X.prog X.w) X.A (eval e X.env) (EP X pins σ Q) X.xe s
def PT (X:Cx) (e:Expr) (t:TT):Prop:=
 ∀ (pins:List (Addr×Obj)) (s:Shared) (σ:St) (H:Hp) (Q:Bool→Hp→Prop),Inv X pins σ H s→t σ H Q→wpAny (model X.prog X.w) X.A (isTrue e X.env (eval e X.env)) (TP X pins σ Q) X.xe s
def PW (X:Cx) (e:Expr) (t:TT):Prop:=
 ∀ (whole:Sem Value) (pins:List (Addr×Obj)) (s:Shared) (σ:St) (H:Hp) (Q:Bool→Hp→Prop),Inv X pins σ H s→t σ H Q→wpAny (model X.prog X.w) X.A (isTrue e X.env whole) (TP X pins σ Q) X.xe s
theorem PW.pt {X:Cx} {e:Expr} {t:TT} (h:PW X e t):PT X e t:=h _
def PA (X:Cx) (es:List Expr) (t:TA):Prop:=
 ∀ (pos:Pos) (pins:List (Addr×Obj)) (s:Shared) (σ:St) (H:Hp) (Q:List V→Hp→Prop),Inv X pins σ H s→t σ H Q→wpAny (model X.prog X.w) X.A (spliced (backTo pos (starEach es X.env))) (AP X pins σ Q) X.xe s
def PS (X:Cx) (st:Stmt) (t:TS):Prop:=
 ∀ (pins:List (Addr×Obj)) (s:Shared) (σ:St) (H:Hp) (D:Ends),Inv X pins σ H s→t D σ H→wpAny (model X.prog X.w) X.A (exec st X.env) (SP X pins D) X.xe s
def PSs (X:Cx) (st:List Stmt) (t:TS):Prop:=
 ∀ (pins:List (Addr×Obj)) (s:Shared) (σ:St) (H:Hp) (D:Ends),Inv X pins σ H s→t D σ H→wpAny (model X.prog X.w) X.A (execs st X.env) (SP X pins D) X.xe s
theorem thn {α:Type} {t:Sem α} {Q Q':α→Shared→Prop} {M:Model} {A:Around} {E:Value→Shared→Prop} {s:Shared} (h:wpAny M A t Q E s) (hQ:∀ a s,Q a s→Q' a s):wpAny M A t Q' E s:=wpAny_mono h hQ fun _ _ x=>x
end L2
namespace L2
open PySem PySem.Spec PyProof.Rows
section
variable {X:Cx}
def tVar (i:Nat):TE:=fun σ H Q=>∃ v,σ[i]? = some (some v)∧Q v H
def tC (v:V):TE:=fun _ H Q=>Q v H
theorem zqo {i:Nat} {x:Str} {pos:Pos} (hN:X.N[i]? = some x) (hv:Vis X.env.scope x) (hd:(x == ("__debug__" : Str))=false:=by decide) (hcd:(x == ("__classdict__" : Str))=false:=by decide):PE X (.Name x pos) (tVar i):=by
 intro pins s σ H Q I h
 obtain⟨v,e,h⟩:=h
 obtain⟨m,hn,hl⟩:=I.loc
 obtain⟨u,r,l⟩:=hl i x v hN e hv
 have fin:EP X pins σ Q u s:=⟨v,H,I,r,h⟩
 rcases l with ⟨hk,hm⟩ | ⟨hk,c,hc,hcell⟩
 ·exact wpAny_Name (wpAny_loadName_local I.ok.kind hk hn hm fin) hd
 ·rcases hk with hk | hk
  ·exact wpAny_Name (wpAny_loadName_cell I.ok.kind hk hc hcell fin) hd
  ·exact wpAny_Name (wpAny_loadName_free I.ok.kind hk hc hcell fin hcd) hd
theorem zk6 {i j pos}:PE X (.Constant (.int i) j pos) (tC (.int i)):=fun _ _ _ H _ I h=>wpAny_Constant_int ⟨.int i,H,I.tok _,⟨_,rfl⟩,h⟩
theorem zr9 {b j pos}:PE X (.Constant (.bool b) j pos) (tC (.bl b)):=fun _ _ _ H _ I h=>Constant_bool ⟨.bl b,H,I,rfl,h⟩
theorem zqq {x j pos}:PE X (.Constant (.str x) j pos) (tC (.str x)):=fun _ _ _ H _ I h=>Calls.Constant_str ⟨.str x,H,I.tok _,⟨_,rfl⟩,h⟩
def Gl (X:Cx) (x:Str):Prop:=X.env.kindOf x=some .globalImplicit
theorem zgp {E:Value→Shared→Prop} {pins:List (Addr×Obj)} {s:Shared} {σ:St} {H:Hp} {x:Str} {u:Value} {pos:Pos} {Q:Value→Shared→Prop} (I:Inv X pins σ H s) (hg:Gl X x) (hm:X.mg x=some u) (h:Q u s)
  (hd:(x == ("__debug__" : Str))=false:=by decide):wpAny (model X.prog X.w) X.A (eval (.Name x pos) X.env) Q E s:=
 Calls.Name_function_global I.ok.kind hg (Calls.loadGlobal_global (by rw [I.ok.glob];exact I.mod.glob.keeps I.bk) hm h) hd
theorem zdz {E:Value→Shared→Prop} {pins:List (Addr×Obj)} {s:Shared} {σ:St} {H:Hp} {x:Str} {u:Value} {pos:Pos} {Q:Value→Shared→Prop} (I:Inv X pins σ H s) (hg:Gl X x) (hm:X.mg x=none) (hv:bootBuiltins x=some u) (h:Q u s)
  (hn:x ≠ "__name__" := by decide) (hd:(x == ("__debug__" : Str))=false:=by decide):wpAny (model X.prog X.w) X.A (eval (.Name x pos) X.env) Q E s:=by
 obtain⟨mb,h1,h2⟩:=I.mod.blt
 exact Calls.Name_function_global I.ok.kind hg (Calls.loadGlobal_builtin (by rw [I.ok.glob];exact I.mod.glob.keeps I.bk) hm (by rw [I.ok.blt];exact h1.keeps I.bk) ((h2 x hn).trans hv) h) hd
theorem zk7 {x:Str} {v:V} {u:Value} {pos:Pos} (hg:Gl X x) (hm:X.mg x=some u) (r:RelV v u) (hd:(x == ("__debug__" : Str))=false:=by decide):PE X (.Name x pos) (tC v):=
 fun _ _ _ H _ I h=>zgp I hg hm ⟨v,H,I,r,h⟩ hd
theorem zc7 {x:Str} {v:V} {u:Value} {pos:Pos} (hg:Gl X x) (hm:X.mg x=none) (hv:bootBuiltins x=some u) (r:RelV v u) (hn:x ≠ "__name__" := by decide) (hd:(x == ("__debug__" : Str))=false:=by decide):PE X (.Name x pos) (tC v):=
 fun _ _ _ H _ I h=>zdz I hg hm hv ⟨v,H,I,r,h⟩ hn hd
variable {a b:Expr} {ta tb:TE} {pos:Pos}
def tB (t:TE):TT:=fun σ H Q=>t σ H fun x H1=>∃ c,x=.bl c∧Q c H1
theorem zqg {e:Expr} {t:TE} (h:PE X e t) (he:∀ whole,isTrue e X.env whole=(do let v ← whole;standAt e.pos;holding [v] (truthy v)):=by intro _;rfl):PT X e (tB t):=by
 intro pins s σ H Q I hw
 refine isTrue_plain (thn (h pins s σ H _ I hw) fun v s1 ⟨x,H1,I1,r1,q1⟩=>?_) (he _)
 obtain⟨d,rfl,q⟩:=q1
 cases r1
 exact wpAny_truthy_bool ⟨H1,I1,q⟩
variable {tA tB':TT} {rest:List Expr}
def tAnd (t u:TT):TT:=fun σ H Q=>t σ H fun c H1=>if c=true then u σ H1 Q else Q false H1
def tOr (t u:TT):TT:=fun σ H Q=>t σ H fun c H1=>if c=true then Q true H1 else u σ H1 Q
def tNot (t:TT):TT:=fun σ H Q=>t σ H fun c H1=>Q (!c) H1
theorem zoA (ha:PT X a tA):PW X (.BoolOp .And [a] pos) tA:=by
 intro wh pins s σ H Q I h
 refine isTrue_and (thn (ha pins s σ H Q I h) fun c s1 e=>?_)
 cases c with
 | true=>exact isTrue_and_nil e
 | false=>exact e
theorem zqd (ha:PT X a tA):PW X (.BoolOp .Or [a] pos) tA:=by
 intro wh pins s σ H Q I h
 refine isTrue_or (thn (ha pins s σ H Q I h) fun c s1 e=>?_)
 cases c with
 | false=>exact isTrue_or_nil e
 | true=>exact e
theorem zqe (ha:PT X a tA) (hb:PW X (.BoolOp .And (b :: rest) pos) tB'):PW X (.BoolOp .And (a :: b :: rest) pos) (tAnd tA tB'):=by
 intro wh pins s σ H Q I h
 refine isTrue_and (thn (ha pins s σ H _ I h) fun c s1 ⟨H1,I1,q1⟩=>?_)
 cases c with
 | true=>exact hb wh pins s1 σ H1 Q I1 q1
 | false=>exact⟨H1,I1,q1⟩
theorem zr4 (ha:PT X a tA) (hb:PW X (.BoolOp .Or (b :: rest) pos) tB'):PW X (.BoolOp .Or (a :: b :: rest) pos) (tOr tA tB'):=by
 intro wh pins s σ H Q I h
 refine isTrue_or (thn (ha pins s σ H _ I h) fun c s1 ⟨H1,I1,q1⟩=>?_)
 cases c with
 | true=>exact⟨H1,I1,q1⟩
 | false=>exact hb wh pins s1 σ H1 Q I1 q1
theorem zqh (ha:PT X a tA):PT X (.UnaryOp .Not a pos) (tNot tA):=by
 intro pins s σ H Q I h
 exact isTrue_not (ha pins s σ H (fun c H1=>Q (!c) H1) I h)
def zrQ (ta tb:TE):TE:=fun σ H Q=>ta σ H fun x H1=>∃ c,x=.bl c∧if c=true then tb σ H1 Q else Q (.bl false) H1
def zrO (ta:TE):TE:=fun σ H Q=>ta σ H fun x H1=>∃ c,x=.bl c∧Q (.bl (!c)) H1
theorem zqr {op} {t:TE} (h:PE X a t):PE X (.BoolOp op [a] pos) t:=fun pins s σ H Q I hw=>BoolOp_one (h pins s σ H Q I hw)
theorem zqu (ha:PE X a ta) (hb:PE X (.BoolOp .And (b :: rest) pos) tb):PE X (.BoolOp .And (a :: b :: rest) pos) (zrQ ta tb):=by
 intro pins s σ H Q I h
 refine BoolOp_and (thn (ha pins s σ H _ I h) fun v s1 ⟨x,H1,I1,r1,q1⟩=>?_)
 obtain⟨c,rfl,q1⟩:=q1
 cases r1
 refine wpAny_truthy_bool ?_
 cases c with
 | true=>exact hb pins s1 σ H1 Q I1 q1
 | false=>exact⟨.bl false,H1,I1,rfl,q1⟩
theorem zqs (ha:PE X a ta):PE X (.UnaryOp .Not a pos) (zrO ta):=by
 intro pins s σ H Q I h
 refine UnaryOp_ (thn (ha pins s σ H _ I h) fun v s1 ⟨x,H1,I1,r1,q1⟩=>?_)
 obtain⟨c,rfl,q1⟩:=q1
 cases r1
 exact not_of (wpAny_truthy_bool ⟨.bl (!c),H1,I1,rfl,q1⟩)
end
end L2
namespace L2
open PySem PySem.Spec PyProof.Rows
def SqL (K:PySem.W.Frag) (H:Hp) (a:Addr) (xs:List V):Prop:=
 Rd H a (.lst xs) ∨
  ∃ (o:Obj) (its:Array Value) (n:Nat),K.lookup a=some o∧o.cls=.type "list" ∧ o.dict=none∧o.data=.seq its n∧its.size≤sizeLine∧Vals xs its.toList
def SqT (K:PySem.W.Frag) (H:Hp) (a:Addr) (xs:List V):Prop:=
 Rd H a (.tup xs) ∨
  ∃ (o:Obj) (its:Array Value) (n:Nat),K.lookup a=some o∧o.cls=.type "tuple" ∧ o.data=.seq its n∧its.size≤sizeLine∧Vals xs its.toList
noncomputable def absV:Value→Option V
 | .none=>some .non
 | .bool b=>some (.bl b)
 | .int i _=>some (.int i)
 | .str x _=>some (.str x)
 | .bytes b _=>some (.byt b)
 | .float b _=>some (.flt b)
 | .ref a=>some (.ref a)
 | .type n=>some (.ty n)
 | _=>none
theorem RelV.abs {x:V} {u:Value} (r:RelV x u):absV u=some x:=by
 cases x with
 | non=>cases r;rfl
 | bl _=>cases r;rfl
 | int _=>obtain⟨t,rfl⟩:=r;rfl
 | str _=>obtain⟨t,rfl⟩:=r;rfl
 | byt _=>obtain⟨t,rfl⟩:=r;rfl
 | flt _=>obtain⟨t,rfl⟩:=r;rfl
 | ref _=>cases r;rfl
 | ty _=>cases r;rfl
theorem RelV.inj {x y:V} {u:Value} (r:RelV x u) (q:RelV y u):x=y:=Option.some.inj (r.abs.symm.trans q.abs)
theorem Vals.inj:∀ {xs ys:List V} {us:List Value},Vals xs us→Vals ys us→xs=ys:=by
 intro xs ys us h
 induction h generalizing ys with
 | nil =>
  intro g
  cases g
  rfl
 | cons r t ih =>
  intro g
  cases g with
  | cons r' t'=>rw [r.inj r',ih t']
section
variable {X:Cx} {pins:List (Addr×Obj)} {σ:St} {H:Hp} {s:Shared} {a:Addr} {xs ys:List V}
theorem SqL.of {K:PySem.W.Frag} (h:H a=some (.lst xs)):SqL K H a xs:=.inl (.inl h)
theorem Inv.list (I:Inv X pins σ H s) (h:SqL X.K H a xs):∃ its:List Value,Vals xs its∧PlainL s.heap a its.toArray∧xs.length≤sizeLine:=by
 rcases h with h | ⟨o,its,n,hk,hc,hd,hs,hz,r⟩
 ·obtain⟨z,its,n,r,e⟩:=h.ok I.hok
  exact⟨its,r,⟨_,n,e,rfl,rfl,rfl⟩,z⟩
 ·refine ⟨its.toList,r,⟨o,n,I.kIn a o hk,hc,hd,by simpa using hs⟩,?_⟩
  have e:=r.length
  simp only [Array.length_toList] at e
  lia
theorem Inv.tuple (I:Inv X pins σ H s) (h:SqT X.K H a xs):∃ its:List Value,Vals xs its∧IsTup s.heap a its.toArray∧xs.length≤sizeLine:=by
 rcases h with h | ⟨o,its,n,hk,hc,hs,hz,r⟩
 ·obtain⟨z,its,r,p⟩:=h.ok I.hok
  exact⟨its,r,p,z⟩
 ·refine ⟨its.toList,r,⟨o,I.kIn a o hk,hc,n,by simpa using hs⟩,?_⟩
  have e:=r.length
  simp only [Array.length_toList] at e
  lia
theorem Inv.list_inj (I:Inv X pins σ H s) (h:SqL X.K H a xs) (h':SqL X.K H a ys):xs=ys:=by
 obtain⟨its,r,⟨o,n,e,_,_,d⟩,_⟩:=I.list h
 obtain⟨its',r',⟨o',n',e',_,_,d'⟩,_⟩:=I.list h'
 rw [e] at e';cases e'
 rw [d] at d'
 injection d' with d1 _
 have:its=its':=by simpa using congrArg Array.toList d1
 subst this
 exact r.inj r'
theorem Inv.tuple_inj (I:Inv X pins σ H s) (h:SqT X.K H a xs) (h':SqT X.K H a ys):xs=ys:=by
 obtain⟨its,r,⟨o,e,_,n,d⟩,_⟩:=I.tuple h
 obtain⟨its',r',⟨o',e',_,n',d'⟩,_⟩:=I.tuple h'
 rw [e] at e';cases e'
 rw [d] at d'
 injection d' with d1 _
 have:its=its':=by simpa using congrArg Array.toList d1
 subst this
 exact r.inj r'
end
section
variable {X:Cx} {pins:List (Addr×Obj)} {σ:St} {H:Hp} {s:Shared} {E:Value→Shared→Prop}
end
section
variable {X:Cx} {st:Stmt} {rest:List Stmt} {t u:TS} {e:Expr} {te:TE} {pos:Pos}
def zrP:TS:=fun D σ H=>D.nx σ H
def tSeq (t u:TS):TS:=fun D σ H=>t { D with nx:=u D } σ H
theorem zoD:PSs X [] zrP:=fun _ _ σ H _ I h=>wpAny_execs_nil ⟨σ,H,I,h⟩
theorem zmv (h1:PS X st t) (h2:PSs X rest u):PSs X (st :: rest) (tSeq t u):=by
 intro pins s σ H D I h
 refine wpAny_execs_cons (thn (h1 pins s σ H { D with nx:=u D } I h) fun f s1 q=>?_)
 cases f with
 | next =>
  obtain⟨σ',H',I',q⟩:=q
  exact h2 pins s1 σ' H' D I' q
 | ret v=>exact q
 | brk=>exact q
 | cont=>exact q
theorem zkY (h1:PS X st t):PSs X [st] t:=by
 intro pins s σ H D I h
 refine wpAny_execs_cons (thn (h1 pins s σ H D I h) fun f s1 q=>?_)
 cases f with
 | next=>exact wpAny_execs_nil q
 | ret v=>exact q
 | brk=>exact q
 | cont=>exact q
theorem Inv.quiet {pins:List (Addr×Obj)} {σ:St} {H:Hp} {s:Shared} (I:Inv X pins σ H s):interactive X.env=false:=by simp [interactive,I.ok.kind]
def zp2 (te:TE):TS:=fun D σ H=>te σ H fun _ H1=>D.nx σ H1
theorem zdX (he:PE X e te) (hs:swapsWith e none pos.line X.env=pure false:=by rfl):PS X (.Expr e pos) (zp2 te):=by
 intro pins s σ H D I h
 exact wpAny_Expr_any (thn (he pins s σ H _ I h) fun v s1 ⟨x,H1,I1,r1,q1⟩=>⟨σ,H1,I1,q1⟩) I.quiet hs
def tRet (te:TE):TS:=fun D σ H=>te σ H D.rt
theorem znG (he:PE X e te):PS X (.Return (some e) pos) (tRet te):=by
 intro pins s σ H D I h
 exact wpAny_Return_some (thn (he pins s σ H _ I h) fun v s1 ⟨x,H1,I1,r1,q1⟩=>⟨x,σ,H1,I1,r1,q1⟩)
def tIfS (c:TT) (t u:TS):TS:=fun D σ H=>c σ H fun b H1=>if b=true then t D σ H1 else u D σ H1
theorem zr7 {c:Expr} {a b:List Stmt} {tc:TT} (hc:PT X c tc) (ha:PSs X a t) (hb:PSs X b u):PS X (.If c a b pos) (tIfS tc t u):=by
 intro pins s σ H D I h
 refine wpAny_If (thn (hc pins s σ H _ I h) fun d s1 ⟨H1,I1,q1⟩=>?_)
 cases d with
 | true=>exact ha pins s1 σ H1 D I1 q1
 | false=>exact hb pins s1 σ H1 D I1 q1
def znC:TS:=fun _ _ _=>False
theorem zkZ {sts:List Stmt}:PSs X sts znC:=fun _ _ _ _ _ _ h=>h.elim
end
noncomputable abbrev TG:=V→St→Hp→(St→Hp→Prop)→Prop
noncomputable abbrev TGs:=List V→St→Hp→(St→Hp→Prop)→Prop
def PG (X:Cx) (target:Expr) (t:TG):Prop:=
 ∀ (pins:List (Addr×Obj)) (s:Shared) (σ:St) (H:Hp) (v:V) (u:Value) (Q:St→Hp→Prop),Inv X pins σ H s→RelV v u→t v σ H Q →
  wpAny (model X.prog X.w) X.A (assign target X.env u) (fun _ s'=>∃ σ' H',Inv X pins σ' H' s'∧Q σ' H') X.xe s
def PGs (X:Cx) (ts:List Expr) (t:TGs):Prop:=
 ∀ (pins:List (Addr×Obj)) (s:Shared) (σ:St) (H:Hp) (vs:List V) (us:List Value) (Q:St→Hp→Prop),Inv X pins σ H s→Vals vs us→t vs σ H Q →
  wpAny (model X.prog X.w) X.A (assignInOrder ((assignEach ts X.env).map (·.2)) us) (fun _ s'=>∃ σ' H',Inv X pins σ' H' s'∧Q σ' H') X.xe s
noncomputable abbrev TSet:=V→V→V→Hp→(Hp→Prop)→Prop
def PSet (X:Cx) (t:TSet):Prop:=
 ∀ (pins:List (Addr×Obj)) (s:Shared) (σ:St) (H:Hp) (o i v:V) (ov iv u:Value) (Q:Hp→Prop),Inv X pins σ H s→RelV o ov→RelV i iv→RelV v u→t o i v H Q →
  wpAny (model X.prog X.w) X.A (setItem ov iv u) (fun _ s'=>∃ H',Inv X pins σ H' s'∧Q H') X.xe s
section
variable {X:Cx} {pos:Pos}
def zfi (i:Nat):TG:=fun v σ H Q=>Q (σ.set i (some v)) H
theorem zaq {i:Nat} {x:Str} (hN:X.N.Nodup) (hi:X.N[i]? = some x) (hx:Loc X.env.scope x) (hf:X.fn x=true∨X.env.scope.names.lookup x=some .local:=by first | exact .inl rfl | exact .inr rfl | assumption):PG X (.Name x pos) (zfi i):=by
 intro pins s σ H v u Q I r h
 exact wpAny_assign_Name (zdr I hN hi hx r (fun s' I'=>⟨_,H,I',h⟩) hf)
def gNil:TGs:=fun vs σ H Q=>vs=[]∧Q σ H
def zmS (t:TG) (u:TGs):TGs:=fun vs σ H Q=>∃ v r,vs=v :: r∧t v σ H fun σ' H'=>u r σ' H' Q
theorem zk5:PGs X [] gNil:=by
 intro pins s σ H vs us Q I r h
 obtain⟨e,h⟩:=h
 subst e
 cases r
 exact assignInOrder_nil ⟨σ,H,I,h⟩
theorem zdu {e:Expr} {es:List Expr} {t:TG} {u:TGs} (h1:PG X e t) (h2:PGs X es u)
  (hs:(assignEach (e :: es) X.env).map (·.2)=assign e X.env :: (assignEach es X.env).map (·.2):=by rfl):PGs X (e :: es) (zmS t u):=by
 intro pins s σ H vs us Q I r h
 obtain⟨v,vr,e1,h⟩:=h
 subst e1
 cases r with
 | cons r rr =>
  rw [hs]
  refine assignInOrder_cons (thn (h1 pins s σ H _ _ _ I r h) fun _ s1 ⟨σ1,H1,I1,q1⟩=>?_)
  exact h2 pins s1 σ1 H1 _ _ Q I1 rr q1
def gTup (K:PySem.W.Frag) (n:Nat) (t:TGs):TG:=fun v σ H Q=>∃ a xs,v=.ref a∧SqT K H a xs∧xs.length=n∧t xs σ H Q
theorem znJ {es:List Expr} {k:Nat} {t:TGs} {n:Nat} (hc:X.calm=true) (h:PGs X es t)
  (hn:(assignEach es X.env).length=n:=by rfl) (hst:(assignEach es X.env).findIdx? (·.1)=none:=by rfl):PG X (.Tuple es k pos) (gTup X.K n t):=by
 intro pins s σ H v u Q I r hw
 obtain⟨a,xs,e1,hq,hl,hw⟩:=hw
 subst e1
 cases r
 obtain⟨its,rv,ht,hz⟩:=I.tuple hq
 refine assign_Tuple_tuple (I.ok.hd hc) ht (by simp [hn,← hl,rv.length]) hst fun h' hx=>?_
 have I1:Inv X pins σ H { s with heap:=h' }:=I.kept (t':=s.toks) fun b o e=>hx b o (Nat.ne_of_lt (Heap.lt_size e)) e
 exact h pins _ σ H xs _ Q I1 (by simpa using rv) hw
def gSub (to ti:TE) (t:TSet):TG:=fun v σ H Q=>to σ H fun o H1=>ti σ H1 fun i H2=>t o i v H2 fun H3=>Q σ H3
theorem znK {o i:Expr} {to ti:TE} {t:TSet} (ho:PE X o to) (hi:PE X i ti) (hs:PSet X t)
  (ha:∀ v,assign (.Subscript o i pos) X.env v=(do
   let ov ← holding [v] (eval o X.env)
   let iv ← holding [v,ov] (eval i X.env)
   standAt pos
   holding [v,ov,iv] (setItem ov iv v)
   release [v,ov,iv] []):=by intro _;rfl):PG X (.Subscript o i pos) (gSub to ti t):=by
 intro pins s σ H v u Q I r h
 rw [ha]
 refine wpAny_bind (wpAny_holding (thn (ho pins s σ H _ I h) fun ov s1 ⟨x,H1,I1,r1,q1⟩=>?_))
 refine wpAny_bind (wpAny_holding (thn (hi pins s1 σ H1 _ I1 q1) fun iv s2 ⟨y,H2,I2,r2,q2⟩=>?_))
 refine wpAny_bind (wpAny_standAt (wpAny_bind (wpAny_holding (thn (hs pins s2 σ H2 x y v ov iv u _ I2 r1 r2 r q2) fun _ s3 ⟨H3,I3,q3⟩=>?_))))
 exact wpAny_release ⟨σ,H3,I3,q3⟩
def tAsg (te:TE) (g:TG):TS:=fun D σ H=>te σ H fun x H1=>g x σ H1 D.nx
theorem zk0 {tg e:Expr} {te:TE} {g:TG} (he:PE X e te) (hg:PG X tg g) (hs:swapsWithSole [tg] e pos.line X.env=pure false:=by rfl) (hw:swappedStores [tg] e X.env=pure none:=by rfl)
  (h1:(assignEach [tg] X.env).map (·.2)=[assign tg X.env]:=by rfl):PS X (.Assign [tg] e pos) (tAsg te g):=by
 intro pins s σ H D I h
 refine wpAny_Assign_stores (thn (he pins s σ H _ I h) fun v s1 ⟨x,H1,I1,r1,q1⟩=>?_) hs hw
 rw [h1]
 exact thn (hg pins s1 σ H1 x v _ I1 r1 q1) fun _ s2 q=>q
theorem znF {i:Nat} {x:Str} {e:Expr} {te:TE} {pos':Pos} (hN:X.N.Nodup) (hi:X.N[i]? = some x) (hx:Loc X.env.scope x) (he:PE X e te) (hs:swapsWith e (some (.Name x pos')) pos.line X.env=pure false:=by rfl) (hf:X.fn x=true∨X.env.scope.names.lookup x=some .local:=by first | exact .inl rfl | exact .inr rfl | assumption) :
  PS X (.Assign [.Name x pos'] e pos) (tAsg te (zfi i)):=by
 intro pins s σ H D I h
 refine wpAny_Assign_Name (thn (he pins s σ H _ I h) fun v s1 ⟨y,H1,I1,r1,q1⟩=>?_) hs
 exact zdr I1 hN hi hx r1 (fun s2 I2=>⟨_,H1,I2,q1⟩) hf
def tPar (i j:Nat) (ta:TA):TS:=fun D σ H=>ta σ H fun vs H1=>∃ v w,vs=[v,w]∧D.nx ((σ.set i (some v)).set j (some w)) H1
theorem zqj {i j:Nat} {x y:Str} {a b:Expr} {ta:TA} {px py pt:Pos} {kt k2 pt2} (hc:X.calm=true) (hN:X.N.Nodup) (hi:X.N[i]? = some x) (hj:X.N[j]? = some y) (hij:i≠j)
  (hx:X.env.scope.names.lookup x=some .local) (hy:X.env.scope.names.lookup y=some .local) (ha:PA X [a,b] ta)
  (hw:swappedStores [.Tuple [.Name x px,.Name y py] kt pt] (.Tuple [a,b] k2 pt2) X.env=pure (some [x,y]))
  (hs:swapsWithSole [.Tuple [.Name x px,.Name y py] kt pt] (.Tuple [a,b] k2 pt2) pos.line X.env=pure false:=by rfl) :
  PS X (.Assign [.Tuple [.Name x px,.Name y py] kt pt] (.Tuple [a,b] k2 pt2) pos) (tPar i j ta):=by
 intro pins s σ H D I h
 rw [exec_Assign_arm]
 refine wpAny_bind (wpAny_standAt ?_)
 rw [hs]
 refine wpAny_bind (wpAny_pure ?_)
 rw [if_neg (by decide)]
 refine wpAny_bind (Tuple_ (thn (ha _ pins s σ H _ I h) fun us s1 ⟨vs,H1,I1,r1,q1⟩=>?_))
 obtain⟨v,w,e1,q1⟩:=q1
 subst e1
 obtain⟨u1,u2,rfl,rv,rw'⟩:∃ u1 u2,us=[u1,u2]∧RelV v u1∧RelV w u2:=by
  cases r1 with
  | cons p q =>
   cases q with
   | cons p' q' =>
    cases q'
    exact⟨_,_,rfl,p,p'⟩
 refine wpAny_newObj_type ?_ (by show 2≤sizeLine;decide)
 have I2:Inv X pins σ H1 { s1 with heap:=s1.heap.push { cls:=.type "tuple", data:=.seq [u1,u2].toArray } }:=I1.kept (t':=s1.toks) fun b o e=>Heap.get?_push_of_some _ e
 rw [hw]
 refine wpAny_bind (wpAny_pure ?_)
 show wpAny (model X.prog X.w) X.A (do rule "assign.swapped-stores";let items ← unpackItems (.ref s1.heap.objs.size) 2 none;assignInOrder [fun v=>bindName X.env y v,fun v=>bindName X.env x v] items.reverse;pure Flow.next) _ _ _
 refine wpAny_bind (wpAny_rule (wpAny_bind (unpackItems_tuple (items:=#[u1,u2]) (I.ok.hd hc) (IsTup.new s1.heap _) fun h' hx'=>?_)))
 have I3:=I2.kept (h':=h') (t':=s1.toks) fun b o e=>hx' b o (Nat.ne_of_lt (Heap.lt_size e)) e
 show wpAny _ _ (assignInOrder [fun v=>bindName X.env y v,fun v=>bindName X.env x v] [u2,u1] >>= fun _=>pure Flow.next) _ _ _
 refine wpAny_bind (assignInOrder_cons (wpAny_bindName (zdr I3 hN hj (.inl hy) rw' (fun s2 I4=>?_) (.inr hy))))
 refine assignInOrder_cons (wpAny_bindName (zdr I4 hN hi (.inl hx) rv (fun s3 I5=>assignInOrder_nil (wpAny_pure ?_)) (.inr hx)))
 rw [List.set_comm _ _ (Ne.symm hij)] at I5
 exact⟨_,H1,I5,q1⟩
end
section
variable {X:Cx} {pos:Pos}
end
structure It where
 go:Nat→Hp→Prop
 yld:Nat→Hp→V→Hp→Prop
 stop:Nat→Hp→Prop
def FpOk (X:Cx) (pins:List (Addr×Obj)) (H:Hp) (b:Addr):Prop:=
 H b=none∧b≠X.env.locals∧b∉X.fs∧(b∈X.ex∨X.s₀.heap.objs.size≤b)∧(∀ x c,X.env.cells.lookup x=some c→c≠b)∧∀ p∈X.pn ++ pins,p.1≠b
theorem Inv.fpOk {X:Cx} {pins:List (Addr×Obj)} {σ:St} {H H':Hp} {s:Shared} {b:Addr} (I:Inv X pins σ H s) (hb:s.heap.objs.size≤b) (hn:H' b=none):FpOk X pins H' b:=by
 refine ⟨hn,Nat.ne_of_gt (Nat.lt_of_lt_of_le I.lt hb),I.nofs hb,.inr (Nat.le_trans I.sz hb),fun x c e z=>?_,fun p hp z=>?_⟩
 ·obtain⟨v,q⟩:=I.cell x c e
  exact absurd (Nat.lt_of_lt_of_le q.lt (by rw [z];exact hb)) (Nat.lt_irrefl _)
 ·exact absurd (Nat.lt_of_lt_of_le (Heap.lt_size (I.pin p hp).1) (by rw [z];exact hb)) (Nat.lt_irrefl _)
structure Turn (P:Program) (w:World) (K:PySem.W.Frag) (tg:Expr) (J:It) (fp:List Addr) (it:Addr) (tn:Nat→Heap→Prop):Prop where
 mem:it∈fp
 obj:∀ i h,tn i h→∀ b∈fp,∃ o,h.get? b=some o∧∀ v,o.data≠.cell v
 keep:∀ i h h',tn i h→(∀ b∈fp,∀ o,h.get? b=some o→h'.get? b=some o)→tn i h'
 item:∀ (X:Cx),X.prog=P→X.w=w→X.K=K→X.calm=true→∀ (i:Nat) (pins:List (Addr×Obj)) (s:Shared) (σ:St) (H:Hp) (E:Value→Shared→Prop),Inv X pins σ H s→(∀ b∈fp,FpOk X pins H b)→tn i s.heap→J.go i H →
  wpAny (model P w) X.A (pyNext (.ref it)) (fun r s1=>∃ u,r=some u ∧
   wpAny (model P w) X.A (letOwnedTupleGo tg (.ref it) u) (fun _ s2=>∃ x H',Inv X pins σ H' s2∧RelV x u∧J.yld i H x H'∧tn (i + 1) s2.heap∧∀ b∈fp,H' b=none) E s1) E s
 done:∀ (X:Cx),X.prog=P→X.w=w→X.K=K→X.calm=true→∀ (i:Nat) (pins:List (Addr×Obj)) (s:Shared) (σ:St) (H:Hp) (E:Value→Shared→Prop),Inv X pins σ H s→(∀ b∈fp,FpOk X pins H b)→tn i s.heap→J.stop i H →
  wpAny (model P w) X.A (pyNext (.ref it)) (fun r s1=>r=none∧Inv X pins σ H s1) E s
 self:∀ (A:Around) (i:Nat) (s:Shared) (Q:Value→Shared→Prop) (E:Value→Shared→Prop),tn i s.heap→Q (.ref it) s→wpAny (model P w) A (pyIter (.ref it)) Q E s
noncomputable abbrev TI:=St→Hp→(It→Hp→Prop)→Prop
def PIE (X:Cx) (pins:List (Addr×Obj)) (σ:St) (tg:Expr) (R:It→Hp→Prop) (itv:Value) (s2:Shared):Prop:=
 ∃ (it:Addr) (fp:List Addr) (tn:Nat→Heap→Prop) (J:It) (H':Hp),itv=.ref it∧Inv X pins σ H' s2∧Turn X.prog X.w X.K tg J fp it tn∧tn 0 s2.heap∧(∀ b∈fp,FpOk X pins H' b)∧R J H'
def PI (X:Cx) (tg iter:Expr) (wi:TI):Prop:=
 ∀ (pins:List (Addr×Obj)) (s:Shared) (σ:St) (H:Hp) (R:It→Hp→Prop),Inv X pins σ H s→wi σ H R →
  wpAny (model X.prog X.w) X.A (eval iter X.env) (fun v s1=>wpAny (model X.prog X.w) X.A (pyIter v) (PIE X pins σ tg R) X.xe s1) X.xe s
theorem zpp {M:Model} {A:Around} {E:Value→Shared→Prop} {s:Shared} {tg:Expr} {it:Addr} {u:Value} {o:Obj} {n:String} {vs:Array Value} {Q:Unit→Shared→Prop} (ho:s.heap.get? it=some o) (hc:o.cls=.type n) (hd:o.data=.fields vs)
    (hn:["enumerate", "zip", "dict_itemiterator", "dict_reverseitemiterator", "odict_iterator", "itertools.zip_longest", "itertools.pairwise"].contains n=false) (hQ:Q () s):wpAny M A (letOwnedTupleGo tg (.ref it) u) Q E s:=by
  unfold letOwnedTupleGo
  cases tg <;> first
    | exact wpAny_pure hQ
    | (cases u <;> first
        | exact wpAny_pure hQ
        | (refine wpAny_bind (wpAny_load ho ?_)
           rw [hc,hd]
           show wpAny M A (if (["enumerate", "zip", "dict_itemiterator", "dict_reverseitemiterator", "odict_iterator", "itertools.zip_longest", "itertools.pairwise"].contains n && vs[0]? == some (rawInt _))=true then _ else _) Q E s
           rw [if_neg (by intro h;rw [hn,Bool.false_and] at h;cases h)]
           exact wpAny_pure hQ))
noncomputable def Itl (K:PySem.W.Frag) (a:Addr):It:=
 ⟨fun i H=>∃ xs x,SqL K H a xs∧xs[i]? = some x,fun i H x H'=>H'=H∧∀ xs,SqL K H a xs→xs[i]? = some x,fun i H=>∃ xs,SqL K H a xs∧xs.length≤i⟩
noncomputable def Itt (K:PySem.W.Frag) (a:Addr):It:=
 ⟨fun i H=>∃ xs x,SqT K H a xs∧xs[i]? = some x,fun i H x H'=>H'=H∧∀ xs,SqT K H a xs→xs[i]? = some x,fun i H=>∃ xs,SqT K H a xs∧xs.length≤i⟩
noncomputable def Itr (lo:Int) (n:Nat):It:=⟨fun i _=>i < n,fun i H x H'=>H'=H∧x=.int (lo + i),fun i _=>n≤i⟩
theorem zgL {P:Program} {w:World} {K:PySem.W.Frag} {tg:Expr} (a it:Addr):Turn P w K tg (Itl K a) [it] it (fun i h=>h.IsListIter it a i) where
 mem:=by simp
 obj:=fun i h st b hb=>by
  have e:b=it:=by simpa using hb
  subst e
  obtain⟨o,e,c,d⟩:=st
  exact⟨o,e,fun v z=>by rw [d] at z;cases z⟩
 keep:=fun i h h' st k=>st.at fun o e=>k it (by simp) o e
 item:=by
  intro X hP hw hK hc i pins s σ H E I hf st hg
  subst hP hw hK
  obtain⟨xs,x,hq,hx⟩:=hg
  obtain⟨its,rv,p,hz⟩:=I.list hq
  obtain⟨u,hu,ru⟩:=rv.get hx
  obtain⟨f0,f1,f2,f3,f4,f5⟩:=hf it (by simp)
  refine wpAny_pyNext_list_item st p.isList (x:=u) (by simpa using hu) fun h' st' sb=>?_
  have I1:Inv X pins σ H { s with heap:=h' }:=I.turned (t':=s.toks) (fun b o hb e=>(sb.2 b hb).trans e) f0 f1 f3 f4 f5
  obtain⟨o,e,c,d⟩:=id st'
  exact⟨u,rfl,zpp (s:={ s with heap:=h' }) e c d (by decide) ⟨x,H,I1,ru,⟨rfl,fun ys hy=>by rw [I.list_inj hy hq];exact hx⟩,st',fun b hb=>(hf b hb).1⟩⟩
 done:=by
  intro X hP hw hK hc i pins s σ H E I hf st hg
  subst hP hw hK
  obtain⟨xs,hq,hx⟩:=hg
  obtain⟨its,rv,p,hz⟩:=I.list hq
  obtain⟨f0,f1,f2,f3,f4,f5⟩:=hf it (by simp)
  have hl:=rv.length
  exact wpAny_pyNext_list_end (I.ok.hd hc) st p.isList (by simp;lia) fun h' eb=>⟨rfl,I.turned (t':=s.toks) (fun b o hb e=>eb b o hb e) f0 f1 f3 f4 f5⟩
 self:=fun _ _ _ _ _ st h=>wpAny_pyIter_listiter st h
theorem zfL {P:Program} {w:World} {K:PySem.W.Frag} {tg:Expr} (a it:Addr):Turn P w K tg (Itt K a) [it] it (fun i h=>h.IsTupleIter it a i) where
 mem:=by simp
 obj:=fun i h st b hb=>by
  have e:b=it:=by simpa using hb
  subst e
  obtain⟨o,e,c,d⟩:=st
  exact⟨o,e,fun v z=>by rw [d] at z;cases z⟩
 keep:=fun i h h' st k=>st.at fun o e=>k it (by simp) o e
 item:=by
  intro X hP hw hK hc i pins s σ H E I hf st hg
  subst hP hw hK
  obtain⟨xs,x,hq,hx⟩:=hg
  obtain⟨its,rv,p,hz⟩:=I.tuple hq
  obtain⟨u,hu,ru⟩:=rv.get hx
  obtain⟨f0,f1,f2,f3,f4,f5⟩:=hf it (by simp)
  refine wpAny_pyNext_tuple_item st (show s.heap.IsTuple a its.toArray from p) (x:=u) (by simpa using hu) fun h' st' sb=>?_
  have I1:Inv X pins σ H { s with heap:=h' }:=I.turned (t':=s.toks) (fun b o hb e=>(sb.2 b hb).trans e) f0 f1 f3 f4 f5
  obtain⟨o,e,c,d⟩:=id st'
  exact⟨u,rfl,zpp (s:={ s with heap:=h' }) e c d (by decide) ⟨x,H,I1,ru,⟨rfl,fun ys hy=>by rw [I.tuple_inj hy hq];exact hx⟩,st',fun b hb=>(hf b hb).1⟩⟩
 done:=by
  intro X hP hw hK hc i pins s σ H E I hf st hg
  subst hP hw hK
  obtain⟨xs,hq,hx⟩:=hg
  obtain⟨its,rv,p,hz⟩:=I.tuple hq
  obtain⟨f0,f1,f2,f3,f4,f5⟩:=hf it (by simp)
  have hl:=rv.length
  exact wpAny_pyNext_tuple_end (I.ok.hd hc) st (show s.heap.IsTuple a its.toArray from p) (by simp;lia) fun h' eb=>⟨rfl,I.turned (t':=s.toks) (fun b o hb e=>eb b o hb e) f0 f1 f3 f4 f5⟩
 self:=fun _ _ _ _ _ st h=>wpAny_pyIter_tupleiter st h
theorem zjL {P:Program} {w:World} {K:PySem.W.Frag} {tg:Expr} (it:Addr) (lo:Int) (n:Nat):Turn P w K tg (Itr lo n) [it] it (fun i h=>IsRangeIter h it (lo + (i:Nat) * 1) ((n:Int) - (i:Nat)) 1) where
 mem:=by simp
 obj:=fun i h st b hb=>by
  have e:b=it:=by simpa using hb
  subst e
  exact⟨_,st,fun v z=>by
   have z':Data.fields _=Data.cell v:=z
   cases z'⟩
 keep:=fun i h h' st k=>k it (by simp) _ st
 item:=by
  intro X hP hw hK hc i pins s σ H E I hf st hg
  subst hP hw hK
  obtain⟨f0,f1,f2,f3,f4,f5⟩:=hf it (by simp)
  have W:=Walks.range (prog:=X.prog) (w:=X.w) (I.ok.hd hc) it lo 1 n
  refine W.item i s _ _ hg st fun v h' tk hv st' kk=>?_
  obtain⟨t,rfl⟩:=hv
  have I1:Inv X pins σ H { s with heap:=h',toks:=tk }:=I.turned (fun b o hb e=>kk b o (by simpa using hb) e) f0 f1 f3 f4 f5
  refine ⟨_,rfl,zpp (s:={ s with heap:=h',toks:=tk }) (n := "range_iterator") st' rfl rfl (by decide) ⟨.int (lo + i),H,I1,⟨t,?_⟩,⟨rfl,rfl⟩,st',fun b hb=>(hf b hb).1⟩⟩
  rw [Int.mul_one]
 done:=by
  intro X hP hw hK hc i pins s σ H E I hf st hg
  subst hP hw hK
  obtain⟨f0,f1,f2,f3,f4,f5⟩:=hf it (by simp)
  exact wpAny_pyNext_range_end (I.ok.hd hc) st (by have:n≤i:=hg;lia) fun h' eb=>⟨rfl,I.turned (t':=s.toks) (fun b o hb e=>eb b o hb e) f0 f1 f3 f4 f5⟩
 self:=fun _ _ _ _ _ st h=>wpAny_pyIter_rangeiter st h
end L2
namespace L2
open PySem PySem.Spec PyProof.Rows
section
variable {X:Cx} {tg:Expr}
def zsE (K:PySem.W.Frag) (tl:TE):TI:=fun σ H R=>tl σ H fun x H1=>∃ a,x=.ref a∧(∃ xs,SqL K H1 a xs)∧R (Itl K a) H1
def iTup (K:PySem.W.Frag) (tl:TE):TI:=fun σ H R=>tl σ H fun x H1=>∃ a,x=.ref a∧(∃ xs,SqT K H1 a xs)∧R (Itt K a) H1
theorem zoH {l:Expr} {tl:TE} (hl:PE X l tl):PI X tg l (zsE X.K tl):=by
 intro pins s σ H R I h
 refine thn (hl pins s σ H _ I h) fun v s1 ⟨x,H1,I1,r1,q1⟩=>?_
 obtain⟨a,e,⟨xs,hq⟩,q⟩:=q1
 subst e
 cases r1
 obtain⟨its,rv,p,hz⟩:=I1.list hq
 refine wpAny_pyIter_list p.isList ?_
 refine ⟨s1.heap.objs.size,[s1.heap.objs.size],_,_,H1,rfl,I1.kept (t':=s1.toks) fun b o e=>Heap.get?_push_of_some _ e,zgL a _,⟨_,Heap.get?_push_size _ rfl,rfl,rfl⟩,fun b hb=>?_,q⟩
 have e:b=s1.heap.objs.size:=by simpa using hb
 subst e
 exact I1.fpOk (Nat.le_refl _) (I1.hok.fresh (Nat.le_refl _))
theorem zqm {l:Expr} {tl:TE} (hl:PE X l tl):PI X tg l (iTup X.K tl):=by
 intro pins s σ H R I h
 refine thn (hl pins s σ H _ I h) fun v s1 ⟨x,H1,I1,r1,q1⟩=>?_
 obtain⟨a,e,⟨xs,hq⟩,q⟩:=q1
 subst e
 cases r1
 obtain⟨its,rv,p,hz⟩:=I1.tuple hq
 refine wpAny_pyIter_tuple (show s1.heap.IsTuple a its.toArray from p) ?_
 refine ⟨s1.heap.objs.size,[s1.heap.objs.size],_,_,H1,rfl,I1.kept (t':=s1.toks) fun b o e=>Heap.get?_push_of_some _ e,zfL a _,⟨_,Heap.get?_push_size _ rfl,rfl,rfl⟩,fun b hb=>?_,q⟩
 have e:b=s1.heap.objs.size:=by simpa using hb
 subst e
 exact I1.fpOk (Nat.le_refl _) (I1.hok.fresh (Nat.le_refl _))
theorem zmr {pins:List (Addr×Obj)} {σ:St} {H:Hp} {s:Shared} {R:It→Hp→Prop} {E:Value→Shared→Prop} {lo hi:Int} {t u v:Tok} {tk:Nat} (I:Inv X pins σ H s) (h1:-(2 ^ 62)≤lo) (h2:lo < 2 ^ 62) (h3:-(2 ^ 62)≤hi) (h4:hi < 2 ^ 62)
  (q:R (Itr lo (hi - lo).toNat) H):wpAny (model X.prog X.w) X.A (pyIter (.ref s.heap.objs.size)) (PIE X pins σ tg R) E { s with heap:=s.heap.push { cls:=.type "range", data:=.fields #[.int lo t,.int hi u,.int 1 v] },toks:=tk }:=by
 refine wpAny_pyIter_range (IsRange.new ..) (small_one h1 h2 h3 h4) ?_
 have I1:Inv X pins σ H { s with heap:=s.heap.push { cls:=.type "range", data:=.fields #[.int lo t,.int hi u,.int 1 v] },toks:=tk }:=I.kept fun b o e=>Heap.get?_push_of_some _ e
 refine ⟨(s.heap.push { cls:=.type "range", data:=.fields #[.int lo t,.int hi u,.int 1 v] }).objs.size,[(s.heap.push { cls:=.type "range", data:=.fields #[.int lo t,.int hi u,.int 1 v] }).objs.size],_,_,H,rfl,
  I1.kept (t':=tk) fun b o e=>Heap.get?_push_of_some _ e,zjL _ lo (hi - lo).toNat,?_,fun b hb=>?_,q⟩
 ·have e1:lo + ((0:Nat):Int) * 1=lo:=by simp
  have e2:(((hi - lo).toNat:Nat):Int) - ((0:Nat):Int)=Builtin.Range.rangeSize lo hi 1:=by rw [rangeSize_one];split <;> lia
  show IsRangeIter _ _ (lo + ((0:Nat):Int) * 1) ((((hi - lo).toNat:Nat):Int) - ((0:Nat):Int)) 1
  rw [e1,e2]
  exact Heap.get?_push_size _ rfl
 ·have e:b=(s.heap.push { cls:=.type "range", data:=.fields #[.int lo t,.int hi u,.int 1 v] }).objs.size:=by simpa using hb
  subst e
  exact I1.fpOk (Nat.le_refl _) (I1.hok.fresh (Nat.le_refl _))
def zsC (ta:TA):TI:=fun σ H R=>ta σ H fun vs H1=>∃ j:Int,vs=[.int j]∧-(2 ^ 62)≤j∧j < 2 ^ 62∧R (Itr 0 j.toNat) H1
theorem zk3 {a:Expr} {ta:TA} {p pos:Pos} (hg:Gl X "range") (hm:X.mg "range" = none) (ha:PA X [a] ta) (hs:starEach [a] X.env=[(false,eval a X.env)]:=by rfl):PI X tg (.Call (.Name "range" p) [a] [] pos) (zsC ta):=by
 intro pins s σ H R I h
 refine Call_ (zdz I hg hm boot_range (PyProof.Rows.callWith_type1 (thn (ha pos pins s σ H _ I h) fun us s1 ⟨vs,H1,I1,r1,q1⟩=>?_) hs rfl))
 obtain⟨j,e,q1,q2,q⟩:=q1
 subst e
 cases r1 with
 | cons r rr =>
  cases rr
  obtain⟨t,rfl⟩:=r
  exact call_range_1 (zmr I1 (by lia) (by lia) q1 q2 (by simpa using q))
def tFor (wi:TI) (g:TG) (tb:TS):TS:=fun D σ H=>wi σ H fun J H1=>∃ W:Nat→Nat→St→Hp→Prop,(∃ m,W 0 m σ H1)∧∀ i m σ H,W i m σ H →
 (J.stop i H∧D.nx σ H)∨(J.go i H∧∃ N:St→Hp→Prop,(∀ σ' H',N σ' H'→∃ m',m' < m∧W (i + 1) m' σ' H')∧∀ x H',J.yld i H x H'→g x σ H' fun σ2 H2=>tb { D with nx:=N,ct:=N,bk:=D.nx } σ2 H2)
noncomputable def ziW (fp:List Addr) (h:Heap):List (Addr×Obj):=fp.filterMap fun b=>(h.get? b).map fun o=>(b,o)
theorem zcW {fp:List Addr} {h:Heap} {b:Addr} {o:Obj} (hb:b∈fp) (e:h.get? b=some o):(b,o)∈ziW fp h:=List.mem_filterMap.mpr ⟨b,hb,by rw [e];rfl⟩
theorem zle {fp:List Addr} {h:Heap} {p:Addr×Obj} (hp:p∈ziW fp h):p.1∈fp∧h.get? p.1=some p.2:=by
 obtain⟨b,hb,e⟩:=List.mem_filterMap.mp hp
 cases q:h.get? b with
 | none=>rw [q] at e;cases e
 | some o =>
  rw [q] at e
  have e':(b,o)=p:=Option.some.inj e
  subst e'
  exact⟨hb,q⟩
theorem Inv.pinned {pins:List (Addr×Obj)} {σ:St} {H:Hp} {s:Shared} {fp:List Addr} (I:Inv X pins σ H s) (hf:∀ b∈fp,FpOk X pins H b) (ho:∀ b∈fp,∃ o,s.heap.get? b=some o∧∀ v,o.data≠.cell v):Inv X (pins ++ ziW fp s.heap) σ H s:=
 I.pins_of fun p hp=>(List.mem_append.mp hp).elim (fun z=>I.pin p (List.mem_append_right _ z)) fun z=>by
  obtain⟨hb,e⟩:=zle z
  obtain⟨f0,f1,f2,_⟩:=hf p.1 hb
  obtain⟨o,e',d⟩:=ho p.1 hb
  rw [e] at e';cases e'
  exact⟨e,f0,f1,f2,d⟩
theorem Inv.unpinned {pins pl:List (Addr×Obj)} {σ:St} {H:Hp} {s:Shared} (I:Inv X (pins ++ pl) σ H s):Inv X pins σ H s:=I.pins_of fun p hp=>I.pin p (List.mem_append_right _ (List.mem_append_left _ hp))
theorem znH {iter:Expr} {body:List Stmt} {wi:TI} {g:TG} {tb:TS} {pos:Pos} (hp:PassesOwn (model X.prog X.w) X.A X.env X.xe) (hc:X.calm=true) (hi:PI X tg iter wi) (hg:PG X tg g) (hb:PSs X body tb)
  (hs:∀ x,foldedSetIterable iter X.env x=pure x:=by intro _;rfl):PS X (.For tg iter body [] pos) (tFor wi g tb):=by
 intro pins s σ H D I h
 refine wpAny_For (thn (hi pins s σ H _ I h) fun v s1 h1=>thn h1 fun itv s2 h2=>?_) hs
 obtain⟨it,fp,tn,J,H2,e,I2,T,st2,f2,W,⟨m0,w0⟩,turn⟩:=h2
 subst e
 have stat:∀ {H':Hp},(∀ b∈fp,H' b=none)→∀ b∈fp,FpOk X pins H' b:=fun hn b hb=>⟨hn b hb,(f2 b hb).2⟩
 refine codeAny_forLoop_any (fun n s'=>∃ i σ' H',Inv X pins σ' H' s'∧tn i s'.heap∧(∀ b∈fp,H' b=none)∧W i n σ' H') ?_ m0 ⟨0,σ,H2,I2,st2,fun b hb=>(f2 b hb).1,w0⟩
 rintro n s3 ⟨i,σ3,H3,I3,st3,fr3,w3⟩
 rcases turn i n σ3 H3 w3 with ⟨stop,qn⟩ | ⟨go,N,hN,step⟩
 ·refine wpAny_passesOwn hp (thn (T.done X rfl rfl rfl hc i pins s3 σ3 H3 X.xe I3 (stat fr3) st3 stop) fun r s4 ⟨hr,I4⟩=>?_)
  subst hr
  exact wpAny_execs_nil ⟨σ3,H3,I4,qn⟩
 ·refine wpAny_passesOwn hp (thn (T.item X rfl rfl rfl hc i pins s3 σ3 H3 X.xe I3 (stat fr3) st3 go) fun r s4 ⟨u,hr,h4⟩=>?_)
  subst hr
  refine wpAny_passesOwn hp (thn h4 fun _ s5 ⟨x,H5,I5,r5,y5,st5,fr5⟩=>?_)
  have I5':=I5.pinned (stat fr5) (T.obj _ _ st5)
  refine wpAny_passesOwn hp (thn (hg _ s5 σ3 H5 x u _ I5' r5 (step x H5 y5)) fun _ s6 ⟨σ6,H6,I6,q6⟩=>?_)
  refine wpAny_passesOwn hp (thn (hb _ s6 σ6 H6 _ I6 q6) fun f s7 q7=>?_)
  have again:∀ {σ7:St} {H7:Hp},Inv X (pins ++ ziW fp s5.heap) σ7 H7 s7→N σ7 H7→∃ m,m < n∧∃ i σ' H',Inv X pins σ' H' s7∧tn i s7.heap∧(∀ b∈fp,H' b=none)∧W i m σ' H':=fun {σ7 H7} I7 n7=>by
   obtain⟨m',hm,w7⟩:=hN σ7 H7 n7
   refine ⟨m',hm,i + 1,σ7,H7,I7.unpinned,T.keep _ _ _ st5 fun b hb o e=>(I7.pin (b,o) (List.mem_append_right _ (List.mem_append_right _ (zcW hb e)))).1,fun b hb=>?_,w7⟩
   obtain⟨o,e,d⟩:=T.obj _ _ st5 b hb
   exact (I7.pin (b,o) (List.mem_append_right _ (List.mem_append_right _ (zcW hb e)))).2.1
  cases f with
  | next=>obtain⟨σ7,H7,I7,n7⟩:=q7;exact again I7 n7
  | cont=>obtain⟨σ7,H7,I7,n7⟩:=q7;exact again I7 n7
  | brk=>obtain⟨σ7,H7,I7,q7⟩:=q7;exact⟨σ7,H7,I7.unpinned,q7⟩
  | ret v=>obtain⟨x7,σ7,H7,I7,r7,q7⟩:=q7;exact⟨x7,σ7,H7,I7.unpinned,r7,q7⟩
end
end L2
namespace L2
open PySem PySem.Spec PyProof.Rows
noncomputable abbrev R2:=V→V→Hp→VK→Prop
def OpR (X:Cx) (f:Value→Value→Sem Value) (r:R2):Prop:=
 ∀ (pins:List (Addr×Obj)) (s:Shared) (σ:St) (H:Hp) (x y:V) (v u:Value) (Q:VK),Inv X pins σ H s→RelV x v→RelV y u→r x y H Q →
  wpAny (model X.prog X.w) X.A (f v u) (EP X pins σ Q) X.xe s
def UnR (X:Cx) (f:Value→Sem Value) (r:V→Hp→VK→Prop):Prop:=
 ∀ (pins:List (Addr×Obj)) (s:Shared) (σ:St) (H:Hp) (x:V) (v:Value) (Q:VK),Inv X pins σ H s→RelV x v→r x H Q →
  wpAny (model X.prog X.w) X.A (f v) (EP X pins σ Q) X.xe s
def zbF (X:Cx) (f:Value) (r:List V→Hp→VK→Prop):Prop:=
 ∀ (pins:List (Addr×Obj)) (s:Shared) (σ:St) (H:Hp) (xs:List V) (us:List Value) (Q:VK),Inv X pins σ H s→Vals xs us→r xs H Q →
  wpAny (model X.prog X.w) X.A (call f us) (EP X pins σ Q) X.xe s
def tOp (r:R2) (ta tb:TE):TE:=fun σ H Q=>ta σ H fun x H1=>tb σ H1 fun y H2=>r x y H2 Q
def tUn (r:V→Hp→VK→Prop) (ta:TE):TE:=fun σ H Q=>ta σ H fun x H1=>r x H1 Q
def rI (C:Int→Int→Prop) (g:Int→Int→V):R2:=fun x y H Q=>∃ i j,x=.int i∧y=.int j∧C i j∧Q (g i j) H
def rI0 (g:Int→Int→V):R2:=fun x y H Q=>∃ i j,x=.int i∧y=.int j∧Q (g i j) H
noncomputable def rU (g:Int→V):V→Hp→VK→Prop:=fun x H Q=>∃ i,x=.int i∧Q (g i) H
section
variable {X:Cx} {a b c:Expr} {ta tb tc:TE} {pos:Pos}
theorem binT (ha:PE X a ta) (hb:PE X b tb) {pins:List (Addr×Obj)} {s:Shared} {σ:St} {H:Hp} {R:V→V→Hp→Prop} (I:Inv X pins σ H s)
  (h:ta σ H fun x H1=>tb σ H1 fun y H2=>R x y H2) {Q:Value→Shared→Prop} {f:Value→Value→Sem Value}
  (hf:∀ v u s2 x y H2,Inv X pins σ H2 s2→RelV x v→RelV y u→R x y H2→wpAny (model X.prog X.w) X.A (f v u) Q X.xe s2) :
  wpAny (model X.prog X.w) X.A (eval a X.env) (fun v s₁=>wpAny (model X.prog X.w) X.A (eval b X.env) (fun u s₂=>wpAny (model X.prog X.w) X.A (f v u) Q X.xe s₂) X.xe s₁) X.xe s:=by
 refine thn (ha pins s σ H _ I h) fun v s1 ⟨x,H1,I1,r1,q1⟩=>?_
 refine thn (hb pins s1 σ H1 _ I1 q1) fun u s2 ⟨y,H2,I2,r2,q2⟩=>?_
 exact hf v u s2 x y H2 I2 r1 r2 q2
theorem zr8 {op:Operator} {r:R2} (ho:OpR X (binaryOp op) r) (ha:PE X a ta) (hb:PE X b tb):PE X (.BinOp a op b pos) (tOp r ta tb):=by
 intro pins s σ H Q I h
 exact wpAny_BinOp (binT ha hb I h fun v u s2 x y H2 I2 rx ry q=>ho pins s2 σ H2 x y v u Q I2 rx ry q)
theorem zqp {op:UnaryOp} {r:V→Hp→VK→Prop} (ho:UnR X (unaryOp op) r) (ha:PE X a ta):PE X (.UnaryOp op a pos) (tUn r ta):=by
 intro pins s σ H Q I h
 exact UnaryOp_ (thn (ha pins s σ H _ I h) fun v s1 ⟨x,H1,I1,r1,q1⟩=>ho pins s1 σ H1 x v Q I1 r1 q1)
theorem opI {f:Value→Value→Sem Value} {C:Int→Int→Prop} {g:Int→Int→Int}
  (rule:∀ (i j:Int) (t u:Tok) (s:Shared) (Q:Value→Shared→Prop) (E:Value→Shared→Prop),C i j→Q (.int (g i j) s.toks) { s with toks:=s.toks + 1 }→wpAny (model X.prog X.w) X.A (f (.int i t) (.int j u)) Q E s) :
  OpR X f (rI C fun i j=>.int (g i j)):=by
 intro pins s σ H x y v u Q I rx ry h
 obtain⟨i,j,rfl,rfl,hc,q⟩:=h
 obtain⟨t,rfl⟩:=rx
 obtain⟨t',rfl⟩:=ry
 exact rule i j t t' s _ _ hc ⟨.int (g i j),H,I.tok _,⟨_,rfl⟩,q⟩
theorem opI0 {f:Value→Value→Sem Value} {g:Int→Int→Int}
  (rule:∀ (i j:Int) (t u:Tok) (s:Shared) (Q:Value→Shared→Prop) (E:Value→Shared→Prop),Q (.int (g i j) s.toks) { s with toks:=s.toks + 1 }→wpAny (model X.prog X.w) X.A (f (.int i t) (.int j u)) Q E s) :
  OpR X f (rI0 fun i j=>.int (g i j)):=by
 intro pins s σ H x y v u Q I rx ry h
 obtain⟨i,j,rfl,rfl,q⟩:=h
 obtain⟨t,rfl⟩:=rx
 obtain⟨t',rfl⟩:=ry
 exact rule i j t t' s _ _ ⟨.int (g i j),H,I.tok _,⟨_,rfl⟩,q⟩
theorem opB0 {f:Value→Value→Sem Value} {g:Int→Int→Bool}
  (rule:∀ (i j:Int) (t u:Tok) (s:Shared) (Q:Value→Shared→Prop) (E:Value→Shared→Prop),Q (.bool (g i j)) s→wpAny (model X.prog X.w) X.A (f (.int i t) (.int j u)) Q E s) :
  OpR X f (rI0 fun i j=>.bl (g i j)):=by
 intro pins s σ H x y v u Q I rx ry h
 obtain⟨i,j,rfl,rfl,q⟩:=h
 obtain⟨t,rfl⟩:=rx
 obtain⟨t',rfl⟩:=ry
 exact rule i j t t' s _ _ ⟨.bl (g i j),H,I,rfl,q⟩
def CDiv (i j:Int):Prop:=0 < j∧j < 1073741824
def CPow (i j:Int):Prop:=0≤j∧j≤1000000∧i.natAbs < 2 ^ 64
def CMul (i j:Int):Prop:=(-(2 ^ 64) < i∧i < 2 ^ 64)∨(-(2 ^ 64) < j∧j < 2 ^ 64)
theorem CMul.ok {i j:Int} (h:CMul i j):IntMulOk i j:=by
 rcases h with ⟨h1,h2⟩ | ⟨h1,h2⟩
 ·exact .of_left (intBits_le_64 h1 h2)
 ·exact .of_right (intBits_le_64 h1 h2)
theorem zqC:OpR X (binaryOp .Add) (rI0 fun i j=>.int (i + j)):=opI0 fun _ _ _ _ _ _ _ q=>add_int q
theorem zqw:OpR X (binaryOp .Sub) (rI0 fun i j=>.int (i - j)):=opI0 fun _ _ _ _ _ _ _ q=>sub_int q
theorem zqz:OpR X (binaryOp .Mult) (rI CMul fun i j=>.int (i * j)):=opI fun _ _ _ _ _ _ _ hc q=>mul_int q hc.ok
theorem zoM:OpR X (binaryOp .FloorDiv) (rI CDiv fun i j=>.int (i / j)):=opI fun i j _ _ _ _ _ hc q=>by
 have h1:(0:Int) < j:=hc.1
 have h2:j < 1073741824:=hc.2
 exact floordiv_int (by lia) (by rw [Int.fdiv_eq_ediv_of_nonneg i (by lia)];exact q) (.inl (PyProof.noPylong_small (by lia)))
theorem zqA:OpR X (binaryOp .Mod) (rI (fun _ j=>0 < j) fun i j=>.int (i % j)):=opI fun i j _ _ _ _ _ hc q=>by
 have h1:(0:Int) < j:=hc
 exact mod_int' (by lia) (by rw [Int.fmod_eq_emod_of_nonneg i (by lia)];exact q)
theorem zqy:OpR X (binaryOp .Pow) (rI CPow fun i j=>.int (i ^ j.toNat)):=opI fun _ _ _ _ _ _ _ hc q=>pow_int_small hc.1 hc.2.1 hc.2.2 q
theorem unI {f:Value→Sem Value} {g:Int→Int}
  (rule:∀ (i:Int) (t:Tok) (s:Shared) (Q:Value→Shared→Prop) (E:Value→Shared→Prop),Q (.int (g i) s.toks) { s with toks:=s.toks + 1 }→wpAny (model X.prog X.w) X.A (f (.int i t)) Q E s) :
  UnR X f (rU fun i=>.int (g i)):=by
 intro pins s σ H x v Q I rx h
 obtain⟨i,rfl,q⟩:=h
 obtain⟨t,rfl⟩:=rx
 exact rule i t s _ _ ⟨.int (g i),H,I.tok _,⟨_,rfl⟩,q⟩
theorem znA:UnR X (unaryOp .USub) (rU fun i=>.int (-i)):=unI fun _ _ _ _ _ q=>neg_int q
end
section
variable {X:Cx} {a b c:Expr} {ta tb tc:TE} {pos:Pos}
theorem zsa:OpR X (compareOp .Lt) (rI0 fun i j=>.bl (decide (i < j))):=opB0 fun _ _ _ _ _ _ _ q=>lt_int q
theorem zsb:OpR X (compareOp .LtE) (rI0 fun i j=>.bl (decide (i≤j))):=opB0 fun _ _ _ _ _ _ _ q=>le_int q
theorem zsc:OpR X (compareOp .Gt) (rI0 fun i j=>.bl (decide (j < i))):=opB0 fun _ _ _ _ _ _ _ q=>gt_int q
theorem zay (b:Expr) {op:CmpOp} (h:op≠.In:=by decide) (h2:op≠.NotIn:=by decide):behindInMarks op b=false:=by
 have e1:(op == CmpOp.In)=false:=by cases op <;> first | rfl | exact absurd rfl h
 have e2:(op == CmpOp.NotIn)=false:=by cases op <;> first | rfl | exact absurd rfl h2
 cases b <;> simp [behindInMarks,e1,e2]
theorem zoK {op:CmpOp} {r:R2} (ho:OpR X (compareOp op) r) (ha:PE X a ta) (hb:PE X b tb) (hm:behindInMarks op b=false):PE X (.Compare a [op] [b] pos) (tOp r ta tb):=by
 intro pins s σ H Q I h
 exact wpAny_Compare1 (binT ha hb I h fun v u s2 x y H2 I2 rx ry q=>ho pins s2 σ H2 x y v u Q I2 rx ry q) hm
def zp0 (t:TE):TT:=fun σ H Q=>t σ H fun x H'=>∃ k,x=.bl k∧Q k H'
theorem zoC {op:CmpOp} {r:R2} (ho:OpR X (compareOp op) r) (ha:PE X a ta) (hb:PE X b tb) (hm:behindInMarks op b=false):PT X (.Compare a [op] [b] pos) (zp0 (tOp r ta tb)):=by
 intro pins s σ H Q I h
 refine wpAny_isTrue_Compare1 (thn (ha pins s σ H _ I h) fun v s1 ⟨x,H1,I1,r1,q1⟩=>thn (hb pins s1 σ H1 _ I1 q1) fun u s2 ⟨y,H2,I2,r2,q2⟩ =>
  thn (ho pins s2 σ H2 x y v u _ I2 r1 r2 q2) fun c s3 ⟨z,H3,I3,r3,k,e,q3⟩=>?_) hm
 subst e
 cases r3
 exact wpAny_truthy_bool ⟨H3,I3,q3⟩
def znD (r r':R2) (ta tb tc:TE):TE:=fun σ H Q=>ta σ H fun x H1=>tb σ H1 fun y H2=>r x y H2 fun z H3=>∃ k,z=.bl k ∧
 (if k=true then tc σ H3 fun w' H4=>r' y w' H4 Q else Q (.bl false) H3)
theorem zmu {op op':CmpOp} {r r':R2} (ho:OpR X (compareOp op) r) (ho':OpR X (compareOp op') r') (ha:PE X a ta) (hb:PE X b tb) (hc:PE X c tc)
  (hm:lastMarks [op,op'] [b,c]=false:=by with_unfolding_all rfl):PT X (.Compare a [op,op'] [b,c] pos) (zp0 (znD r r' ta tb tc)):=by
 intro pins s σ H Q I h
 refine isTrue_chain (thn (ha pins s σ H _ I h) fun v s1 ⟨x,H1,I1,r1,q1⟩=>test_link (thn (hb pins s1 σ H1 _ I1 q1) fun u s2 ⟨y,H2,I2,r2,q2⟩ =>
  thn (ho pins s2 σ H2 x y v u _ I2 r1 r2 q2) fun d s3 ⟨z,H3,I3,r3,k,e,q3⟩=>?_)) hm
 subst e
 cases r3
 refine wpAny_truthy_bool ?_
 cases k with
 | false =>
  obtain⟨k',e',q'⟩:=q3
  cases e'
  exact ite_ff ⟨H3,I3,q'⟩
 | true =>
  refine ite_tt (test_last (thn (hc pins s3 σ H3 _ I3 q3) fun w' s4 ⟨z',H4,I4,r4,q4⟩=>thn (ho' pins s4 σ H4 y z' u w' _ I4 r2 r4 q4) fun d' s5 ⟨z2,H5,I5,r5,k2,e2,q5⟩=>?_))
  subst e2
  cases r5
  exact wpAny_truthy_bool ⟨H5,I5,q5⟩
theorem zg3:(sizeLine:Nat) < 2 ^ 63:=by rw [sizeLine_eq];decide
theorem zf9 {x:V} {us:List Value} (r:Vals [x] us):∃ u,us=[u]∧RelV x u:=by
 cases r with
 | cons r1 r2=>cases r2;exact⟨_,rfl,r1⟩
theorem zpX {x y:V} {us:List Value} (r:Vals [x,y] us):∃ u w',us=[u,w']∧RelV x u∧RelV y w':=by
 cases r with
 | cons r1 r2 =>
  cases r2 with
  | cons r3 r4=>cases r4;exact⟨_,_,rfl,r1,r3⟩
theorem zlT:zbF X (.type "int") (fun xs H Q=>(∃ i,xs=[.int i]∧Q (.int i) H)∨∃ k,xs=[.bl k]∧Q (.int (if k then 1 else 0)) H):=by
 intro pins s σ H xs us Q I r h
 rcases h with ⟨i,rfl,q⟩ | ⟨k,rfl,q⟩
 ·obtain⟨u,rfl,t,rfl⟩:=zf9 r
  exact call_int_int ⟨.int i,H,I,⟨_,rfl⟩,q⟩
 ·obtain⟨u,rfl,r1⟩:=zf9 r
  cases r1
  exact call_int_bool ⟨.int (if k then 1 else 0),H,I.tok _,⟨_,rfl⟩,q⟩
end
end L2
namespace L2
open PySem PySem.Spec PyProof.Rows
structure ObjM (h:Heap) (x dx C:Addr) (mA:Str→Option Value):Prop where
 obj:h.get? x=some (PySem.W.instObj C dx)
 ns:h.Ns1 dx mA
 ne:dx≠x
theorem zlp {h:Heap} {dx:Addr} {mA:Str→Option Value} (n:h.Ns1 dx mA):∃ od,h.get? dx=some od∧∀ name,PySem.W.lookIn name od=some (mA name):=by
 obtain⟨o,es,ep,ho,hd,hk,_,hm⟩:=n
 refine ⟨o,ho,fun name=>?_⟩
 have e:=hm name
 unfold nsFind findBy at e
 rw [← Array.find?_toList] at e
 unfold PySem.W.lookIn
 rw [hd]
 dsimp only
 split
 ·rename_i y q
  rw [q] at e
  exact congrArg some e
 ·rename_i q
  rw [q] at e
  have a:es.toList.any (·.refKey)=false:=by
   rw [List.any_eq_false]
   intro y hy
   obtain⟨z,t,hkey⟩:=hk y (Array.mem_toList_iff.mp hy)
   simp [DictEntry.refKey,hkey]
  have a':¬ es.toList.any (·.refKey)=true:=by rw [a];exact Bool.false_ne_true
  rw [if_neg a']
  exact congrArg some e
theorem ObjM.look {h:Heap} {x dx C:Addr} {mA:Str→Option Value} (I:ObjM h x dx C mA):∃ od,PySem.W.InstAt h x (PySem.W.instObj C dx) C (some od)∧∀ name,PySem.W.lookIn name od=some (mA name):=
 let ⟨od,ho,hl⟩:=zlp I.ns
 ⟨od,⟨I.obj,rfl,rfl,ho⟩,hl⟩
section
variable {prog:Program} {w:World} {A:Around} {E:Value→Shared→Prop} {s:Shared} {K:PySem.W.Frag} {x dx C f:Addr} {mA:Str→Option Value} {name:Str} {v:Value}
end
section
variable {P:Program} {w:World} {H H':Hp} {h h':Heap} {a C dx:Addr} {fs fs':List (Str×V)}
theorem zpj (hok:HOk P w H h) (e:H a=some (.ins C dx fs)):∃ mA,ObjM h a dx C mA∧(∀ f,RelO (fs.lookup f) (mA f))∧PySem.Within mA (fs.map (·.1))∧fs.length≤1000∧H dx=some (.own a):=by
 obtain⟨d,z,ne,ob,mA,n,r,q⟩:=(show zbW P w H h a (.ins C dx fs) from hok a _ e)
 exact⟨mA,⟨ob,n,ne⟩,r,q,z,d⟩
end
structure Cls (K:PySem.W.Frag) (C:Addr):Prop where
 pg:PySem.W.plainGet K C Str.empty=true
 hd:PySem.W.hasDictIn K C=true
 po:PySem.W.plainOver K C=true
 sa:PySem.W.findIn K (.ref C) "__setattr__" = some (some (.builtin "object.__setattr__"))
theorem Cls.get {K:PySem.W.Frag} {C:Addr} (c:Cls K C) (f:Str):PySem.W.plainGet K C f=true:=c.pg
section
variable {X:Cx} {pins:List (Addr×Obj)} {σ:St} {H:Hp} {s:Shared} {a C dx:Addr} {fs:List (Str×V)} {f:Str} {v:V} {A:Around} {E:Value→Shared→Prop}
end
section
variable {X:Cx} {o e value:Expr} {f:Str} {pos pos' tpos:Pos} {ta tv:TE}
end
section
variable {X:Cx} {pins:List (Addr×Obj)} {σ:St} {H:Hp} {s:Shared} {A:Around} {E:Value→Shared→Prop} {Q:Value→Shared→Prop} {c:Value} {b:Bool}
inductive TyOf (K:PySem.W.Frag) (H:Hp):V→Value→Prop where
 | non:TyOf K H .non (.type "NoneType")
 | bl (x:Bool):TyOf K H (.bl x) (.type "bool")
 | int (i:Int):TyOf K H (.int i) (.type "int")
 | str (x:Str):TyOf K H (.str x) (.type "str")
 | flt (x:UInt64):TyOf K H (.flt x) (.type "float")
 | lst {a:Addr} {xs:List V} (e:H a=some (.lst xs)):TyOf K H (.ref a) (.type "list")
 | frz {a:Addr} {o:Obj} {xs:List V} (e:H a=some (.frz o (.lst xs))):TyOf K H (.ref a) (.type "list")
 | tup {a:Addr} {xs:List V} (e:H a=some (.tup xs)):TyOf K H (.ref a) (.type "tuple")
 | dK {a:Addr} {kvs:List (Key×V)} (e:H a=some (.dK kvs)):TyOf K H (.ref a) (.type "dict")
 | dT {a:Addr} {kvs:List (List Key×V)} (e:H a=some (.dT kvs)):TyOf K H (.ref a) (.type "dict")
 | ins {a C dx:Addr} {fs:List (Str×V)} (e:H a=some (.ins C dx fs)) (cl:Cls K C) (ha:PySem.W.findIn K (.ref C) "__class__" = some (some (.builtin "object.__class__")))
   (hn:PySem.W.specialIn K (.builtin "object.__class__") "__get__" = some (some (.builtin "getset_descriptor.__get__"))) (htk:PySem.W.takesIn K (.builtin "object.__class__")=some true)
   (hm:PySem.W.mroIn K C (.type "object")=some true):TyOf K H (.ref a) (.ref C)
theorem zdC {x:V} {u t:Value} (I:Inv X pins σ H s) (rx:RelV x u) (ty:TyOf X.K H x t) (e:PySem.W.kitOne X.K t c=some b) (h:∀ tk,Q (.bool b) { s with toks:=tk }) :
  wpAny (model X.prog X.w) A (call (.builtin "isinstance") [u,c]) Q E s:=by
 cases ty with
 | non=>cases (show u=Value.none from rx);exact PySem.W.kia_one PySem.W.kitx_none I.kIn True.intro e (fun z=>nomatch z) h
 | bl y=>cases (show u=Value.bool y from rx);exact PySem.W.kia_one PySem.W.kitx_bool I.kIn True.intro e (fun z=>nomatch z) h
 | int i=>obtain⟨t,q⟩:=(show ∃ t,u=Value.int i t from rx);cases q;exact PySem.W.kia_one PySem.W.kitx_int I.kIn True.intro e (fun z=>nomatch z) h
 | str y=>obtain⟨t,q⟩:=(show ∃ t,u=Value.str y t from rx);cases q;exact PySem.W.kia_one PySem.W.kitx_str I.kIn True.intro e (fun z=>nomatch z) h
 | flt y=>obtain⟨t,q⟩:=(show ∃ t,u=Value.float y t from rx);cases q;exact PySem.W.kia_one PySem.W.kitx_float I.kIn True.intro e (fun z=>nomatch z) h
 | @lst a xs ea =>
  cases (show u=Value.ref a from rx)
  obtain⟨_,_,n,_,h1⟩:=(show zbW X.prog X.w H s.heap a (.lst xs) from I.hok a _ ea)
  exact PySem.W.kia_one PySem.W.kitx_list I.kIn ⟨_,h1,rfl⟩ e (fun z=>nomatch z) h
 | @frz a ob xs ea =>
  cases (show u=Value.ref a from rx)
  obtain⟨_,_,_,n,_,h1⟩:=(show zbW X.prog X.w H s.heap a (.frz ob (.lst xs)) from I.hok a _ ea)
  exact PySem.W.kia_one PySem.W.kitx_list I.kIn ⟨_,h1,rfl⟩ e (fun z=>nomatch z) h
 | @tup a xs ea =>
  cases (show u=Value.ref a from rx)
  obtain⟨_,_,_,p⟩:=(show zbW X.prog X.w H s.heap a (.tup xs) from I.hok a _ ea)
  obtain⟨o,h1,h2,_⟩:=p
  exact PySem.W.kia_one PySem.W.kitx_tuple I.kIn ⟨o,h1,h2⟩ e (fun z=>nomatch z) h
 | @dK a kvs ea =>
  cases (show u=Value.ref a from rx)
  obtain⟨_,_,vs,_,p⟩:=(show zbW X.prog X.w H s.heap a (.dK kvs) from I.hok a _ ea)
  obtain⟨o,es,ep,h1,h2,_⟩:=p
  exact PySem.W.kia_one PySem.W.kitx_dict I.kIn ⟨o,h1,h2.1⟩ e (fun z=>nomatch z) h
 | @dT a kvs ea =>
  cases (show u=Value.ref a from rx)
  obtain⟨_,_,xs,_,o,es,ep,h1,h2,_⟩:=(show zbW X.prog X.w H s.heap a (.dT kvs) from I.hok a _ ea)
  exact PySem.W.kia_one PySem.W.kitx_dict I.kIn ⟨o,h1,h2.1⟩ e (fun z=>nomatch z) h
 | @ins a C dx fs ea cl ha hn htk hm =>
  cases (show u=Value.ref a from rx)
  obtain⟨mA,O,_⟩:=zpj I.hok ea
  obtain⟨od,J,_⟩:=O.look
  exact PySem.W.kia_one (PySem.W.kitx_own (cl.get _) cl.hd ha hn htk hm) I.kIn J e (fun z=>nomatch z) h
end
end L2
namespace L2
open PySem PySem.Spec PyProof.Rows
structure Room (k:Nat) (A:Around):Prop where
 hd:A.handled=none
 dp:A.depth + 3 * k + 5 < recursionLimit
 un:A.units + 16 * k + 200 < cLine
theorem Room.mono {j k:Nat} {A:Around} (r:Room k A) (h:j≤k):Room j A:=⟨r.hd,by have:=r.dp;lia,by have:=r.un;lia⟩
theorem Room.deeper {k:Nat} {A:Around} (r:Room (k + 1) A) (env:Env):Room k (A.deeper env):=
 ⟨r.hd,by have:=r.dp;show A.depth + 1 + 3 * k + 5 < _;lia,by have:=r.un;show A.units + 3 + 16 * k + 200 < _;lia⟩
theorem Room.depth {k:Nat} {A:Around} (r:Room k A):A.depth < recursionLimit:=by have:=r.dp;lia
def tNil:TA:=fun _ H Q=>Q [] H
def zmh (ta:TE) (tr:TA):TA:=fun σ H Q=>ta σ H fun x H1=>tr σ H1 fun xs H2=>Q (x :: xs) H2
section
variable {X:Cx} {e:Expr} {es:List Expr} {te:TE} {t:TA} {pos:Pos}
theorem zc0:PA X [] tNil:=fun _ _ _ _ H Q I h=>Calls.spliced_nil ⟨[],H,I,.nil,h⟩
theorem zbk (ha:PE X e te) (hr:PA X es t) (hs:starEach (e :: es) X.env=(false,eval e X.env) :: starEach es X.env:=by rfl):PA X (e :: es) (zmh te t):=by
 intro pos pins s σ H Q I h
 rw [hs]
 show wpAny _ _ (spliced ((false,eval e X.env) :: backTo pos (starEach es X.env))) _ _ s
 refine Calls.spliced_cons (thn (ha pins s σ H _ I h) fun u s1 ⟨x,H1,I1,r1,q1⟩=>?_)
 exact thn (hr pos pins s1 σ H1 _ I1 q1) fun us s2 ⟨xs,H2,I2,r2,q2⟩=>⟨x :: xs,H2,I2,.cons r1 r2,q2⟩
def tTup (t:TA):TE:=fun σ H Q=>t σ H fun xs H1=>xs.length≤sizeLine∧∀ p,H1 p=none→Q (.ref p) (upd H1 p (.tup xs))
def tLst (t:TA):TE:=fun σ H Q=>t σ H fun xs H1=>xs.length≤sizeLine∧∀ p,H1 p=none→Q (.ref p) (upd H1 p (.lst xs))
theorem znL {x1} (h:PA X es t):PE X (.Tuple es x1 pos) (tTup t):=by
 intro pins s σ H Q I hq
 refine wpAny_Tuple_spliced (thn (h pos pins s σ H _ I hq) fun us s1 ⟨xs,H1,I1,r,z,q⟩=>⟨by rw [← r.length];exact z,?_⟩)
 have hf:H1 s1.heap.objs.size=none:=I1.hok.fresh (Nat.le_refl _)
 refine ⟨.ref s1.heap.objs.size,upd H1 s1.heap.objs.size (.tup xs),I1.laid (t':=s1.toks) (fun b u e=>Heap.get?_push_of_some _ e) (Nat.le_refl _) ?_,rfl,q _ hf⟩
 exact⟨z,us,r,⟨_,Heap.get?_push_size _ rfl,rfl,_,rfl⟩⟩
theorem znM (h:PA X es t):PE X (.List es pos) (tLst t):=by
 intro pins s σ H Q I hq
 refine wpAny_List_spliced (thn (h pos pins s σ H _ I hq) fun us s1 ⟨xs,H1,I1,r,z,q⟩=>⟨by rw [← r.length];exact z,?_⟩)
 have hf:H1 s1.heap.objs.size=none:=I1.hok.fresh (Nat.le_refl _)
 refine ⟨.ref s1.heap.objs.size,upd H1 s1.heap.objs.size (.lst xs),I1.laid (t':=s1.toks) (fun b u e=>Heap.get?_push_of_some _ e) (Nat.le_refl _) ?_,rfl,q _ hf⟩
 exact⟨z,us,0,r,Heap.get?_push_size _ rfl⟩
end
noncomputable abbrev Sp:=List V→Hp→VK→XK→Prop
noncomputable abbrev CXT:=List Env→Hp→Shared→XK→Value→Shared→Prop
structure Env0 (P:Program) (w:World) (K:PySem.W.Frag) (mg:Str→Option Value) (base:Heap) (A:Around) (outer:List Env) (s:Shared) (H:Hp):Prop where
 frames:A.frames=some outer
 mod:Mod K mg base
 bs:∀ b o,base.get? b=some o→s.heap.get? b=some o∧H b=none
 bsz:base.objs.size≤s.heap.objs.size
 funs:s.heap.FunFrames base outer
 frf:∀ b∈frs outer,H b=none
 hok:HOk P w H s.heap
 bare:AllBare s.gens
def CE (outer:List Env) (P:Program) (w:World) (H:Hp) (s:Shared) (Q:VK) (u:Value) (s':Shared):Prop:=
 ∃ v H',s'.os=s.os∧AllBare s'.gens∧Un (frs outer) [] H H' s.heap s'.heap∧HOk P w H' s'.heap∧RelV v u∧Q v H'
def CR (CX:CXT) (outer:List Env) (P:Program) (w:World) (H:Hp) (s:Shared) (Q:VK) (E:XK) (r:Result) (s':Shared):Prop:=
 match r with
 | .ok (.ret u)=>CE outer P w H s Q u s'
 | .ok _=>False
 | .error e=>CX outer H s E e s'
structure FnOk (P:Program) (w:World) (K:PySem.W.Frag) (mg:Str→Option Value) (base:Heap) (CX:CXT) (k:Nat) (f:Addr) (fd:FuncData) (ps:List Str) (sp:Sp):Prop where
 len:∀ vs H Q E,sp vs H Q E→vs.length=ps.length
 run:∀ (A:Around) (outer:List Env) (s:Shared) (H:Hp) (args:Args) (us:List Value) (vs:List V) (Q:VK) (E:XK),Room k A→Env0 P w K mg base A outer s H→BindsTo s fd args (ps.zip us)→Vals vs us→sp vs H Q E →
  codeAny (model P w) A (.call (.ref f) args) (CR CX outer P w H s Q E) s
theorem FnOk.mono {P:Program} {w:World} {K:PySem.W.Frag} {mg:Str→Option Value} {base:Heap} {CX:CXT} {j k:Nat} {f:Addr} {fd:FuncData} {ps:List Str} {sp:Sp} (F:FnOk P w K mg base CX j f fd ps sp) (h:j≤k) :
  FnOk P w K mg base CX k f fd ps sp:=⟨F.len,fun A outer s H args us vs Q E hr=>F.run A outer s H args us vs Q E (hr.mono h)⟩
theorem FnOk.imp {P:Program} {w:World} {K:PySem.W.Frag} {mg:Str→Option Value} {base:Heap} {CX:CXT} {k:Nat} {f:Addr} {fd:FuncData} {ps:List Str} {sp sp':Sp} (F:FnOk P w K mg base CX k f fd ps sp)
  (h:∀ vs H Q E,sp' vs H Q E→sp vs H Q E):FnOk P w K mg base CX k f fd ps sp':=
 ⟨fun vs H Q E q=>F.len vs H Q E (h _ _ _ _ q),fun A outer s H args us vs Q E hr he hb hv hs=>F.run A outer s H args us vs Q E hr he hb hv (h _ _ _ _ hs)⟩
section
variable {X:Cx} {pins:List (Addr×Obj)} {σ:St} {H:Hp} {s s':Shared}
theorem Inv.env0 (I:Inv X pins σ H s):Env0 X.prog X.w X.K X.mg X.base X.A X.stack s H:=
 ⟨I.ok.frames,I.ok.mod,I.bs,Nat.le_trans I.ok.bsz I.sz,I.stack,I.stkFree,I.hok,I.bare⟩
theorem Inv.after {Q:VK} {u:Value} (I:Inv X pins σ H s) (h:CE X.stack X.prog X.w H s Q u s'):EP X pins σ Q u s':=by
 obtain⟨v,H',os,bare,un,hok,r,q⟩:=h
 obtain⟨hh,g,d,t,os'⟩:=s'
 obtain rfl:os'=s.os:=os
 exact⟨v,H',I.call (h':=hh) (g':=g) (d':=d) (t':=t) (ch:=[]) un hok bare (fun b z=>absurd z (by simp)),r,q⟩
end
def zp3 (sp:Sp) (dvs:List V) (E:XK) (t:TA):TE:=fun σ H Q=>t σ H fun vs H1=>sp (vs ++ dvs) H1 Q E
def zbc (K:PySem.W.Frag) (fd:FuncData) (ps:List Str) (ds:List Value):Prop:=
 ∀ (s:Shared) (us:List Value),K.In s.heap→(us ++ ds).length=ps.length→BindsTo s fd ⟨us,[]⟩ (ps.zip (us ++ ds))
theorem zbc.all {K:PySem.W.Frag} {fd:FuncData} {ps:List Str} (h:∀ us:List Value,us.length=ps.length→bindArgs fd ⟨us,[]⟩=pure (ps.zip us)):zbc K fd ps []:=fun s us _ hl=>by
 rw [List.append_nil] at hl ⊢
 exact .of_eq (h us hl)
def zel (CX:CXT) (X:Cx) (E:XK):Prop:=∀ (pins:List (Addr×Obj)) (σ:St) (H:Hp) (s:Shared) (e:Value) (s':Shared),Inv X pins σ H s→CX X.stack H s E e s'→X.xe e s'
section
variable {X:Cx} {CX:CXT} {k:Nat} {f C:Addr} {fd:FuncData} {ps:List Str} {sp:Sp} {dvs:List V} {ds:List Value} {E:XK} {x m:Str} {p pos apos:Pos} {e o:Expr} {es:List Expr} {ta:TE} {t:TA}
theorem zp9 {pins:List (Addr×Obj)} {σ:St} {H:Hp} {s:Shared} {Q:VK} {us:List Value} {vs:List V} (F:FnOk X.prog X.w X.K X.mg X.base CX k f fd ps sp) (hr:Room k X.A) (hb:zbc X.K fd ps ds) (hd:Vals dvs ds) (hx:zel CX X E)
  (I:Inv X pins σ H s) (r:Vals vs us) (h:sp (vs ++ dvs) H Q E):wpAny (model X.prog X.w) X.A (call (.ref f) us) (EP X pins σ Q) X.xe s:=by
 have r2:Vals (vs ++ dvs) (us ++ ds):=r.append hd
 have hl:(us ++ ds).length=ps.length:=by rw [← r2.length];exact F.len _ _ _ _ h
 refine wpAny_call (codeAny_mono (F.run X.A X.stack s H ⟨us,[]⟩ (us ++ ds) (vs ++ dvs) Q E hr I.env0 (hb s us I.kIn hl) r2 h) fun r s' hq=>?_)
 cases r with
 | error e=>exact hx pins σ H s e s' I hq
 | ok fl =>
  cases fl with
  | ret u=>exact I.after hq
  | next=>exact False.elim hq
  | brk=>exact False.elim hq
  | cont=>exact False.elim hq
theorem zoL (F:FnOk X.prog X.w X.K X.mg X.base CX k f fd ps sp) (hr:Room k X.A) (hg:Gl X x) (hm:X.mg x=some (.ref f)) (hk:PySem.W.keepIn X.K (.ref f)=true) (hb:zbc X.K fd ps ds) (hd:Vals dvs ds) (hx:zel CX X E)
  (ha:PA X (e :: es) t) (hdb:(x == ("__debug__" : Str))=false:=by decide) (he:starEach (e :: es) X.env=(false,eval e X.env) :: starEach es X.env:=by rfl) (hpl:(backTo pos (starEach es X.env)).any (·.1)=false:=by rfl) :
  PE X (.Call (.Name x p) (e :: es) [] pos) (zp3 sp dvs E t):=by
 intro pins s σ H Q I h
 refine wpAny_Call_Name_kw (zgp I hg hm ?_ hdb)
 refine PySem.W.callWith_K (h₀:=X.base) I.ok.mod.kin hk (thn (ha pos pins s σ H _ I h) fun us s1 ⟨vs,H1,I1,r,q⟩=>⟨I1.kIn,?_⟩) he hpl
 exact zp9 F hr hb hd hx I1 r q
end
section
variable {X:Cx} {CX:CXT} {k:Nat} {f C:Addr} {fd:FuncData} {ps ks:List Str} {sp:Sp} {E:XK} {x m:Str} {p pos apos kpos:Pos} {e o:Expr} {es:List Expr} {kws:List Keyword} {te ta:TE} {t tk:TA} {nm:Option Str}
variable {g:List Value→List Value→List Value} {gV:List V→List V→List V}
end
structure FnScope (N P:List Str) (sc:Scope):Prop where
 kind:sc.kind=.function
 co:sc.isCoroutine=false
 gen:sc.isGenerator=false
 nd:N.Nodup
 pre:N.take P.length=P
 par:∀ x∈P,sc.names.lookup x=some .local∨sc.names.lookup x=some .cell
 nofree:∀ y∈sc.names,y.2≠.free
theorem zhj {kindOf:Str→Option NameKind} {x:Str}:∀ {binds:List (Str×Value)} {m:Str→Option Value},(∀ v,(x,v)∉binds)→bindL kindOf binds m x=m x
 | [],_,_=>rfl
 | (n,v) :: r,m,h=>by
  unfold bindL
  rw [zhj fun w hw=>h w (List.mem_cons_of_mem _ hw)]
  split
  ·have:x≠n:=by rintro rfl;exact h v List.mem_cons_self
   simp [this]
  ·rfl
theorem zhl {kindOf:Str→Option NameKind} {x:Str}:∀ {binds:List (Str×Value)} {m:Str→Option Value},(∀ v,(x,v)∉binds)→bindC kindOf binds m x=m x
 | [],_,_=>rfl
 | (n,v) :: r,m,h=>by
  unfold bindC
  rw [zhl fun w hw=>h w (List.mem_cons_of_mem _ hw)]
  split
  ·rfl
  ·have:x≠n:=by rintro rfl;exact h v List.mem_cons_self
   simp [this]
theorem zhk {kindOf:Str→Option NameKind} {x:Str} {v:Value}:∀ {P:List Str} {vs:List Value} {i:Nat} {m:Str→Option Value},P.Nodup→P[i]? = some x→vs[i]? = some v→kindOf x=some .local →
  bindL kindOf (P.zip vs) m x=some v
 | [],_,_,_,_,h,_,_=>by simp at h
 | _ :: _,[],_,_,_,_,h,_=>by simp at h
 | p :: P,w :: vs,0,m,nd,h1,h2,hk=>by
  simp at h1 h2;subst h1;subst h2
  show bindL kindOf ((p,w) :: P.zip vs) m p=_
  unfold bindL
  rw [zhj fun v hv=>(List.nodup_cons.mp nd).1 (List.of_mem_zip hv).1,if_pos hk]
  simp
 | p :: P,w :: vs,i + 1,m,nd,h1,h2,hk=>by
  show bindL kindOf ((p,w) :: P.zip vs) m x=_
  unfold bindL
  exact zhk (i:=i) (List.nodup_cons.mp nd).2 (by simpa using h1) (by simpa using h2) hk
theorem zhm {kindOf:Str→Option NameKind} {x:Str} {v:Value}:∀ {P:List Str} {vs:List Value} {i:Nat} {m:Str→Option Value},P.Nodup→P[i]? = some x→vs[i]? = some v→kindOf x≠some .local →
  bindC kindOf (P.zip vs) m x=some v
 | [],_,_,_,_,h,_,_=>by simp at h
 | _ :: _,[],_,_,_,_,h,_=>by simp at h
 | p :: P,w :: vs,0,m,nd,h1,h2,hk=>by
  simp at h1 h2;subst h1;subst h2
  show bindC kindOf ((p,w) :: P.zip vs) m p=_
  unfold bindC
  rw [zhl fun v hv=>(List.nodup_cons.mp nd).1 (List.of_mem_zip hv).1,if_neg hk]
  simp
 | p :: P,w :: vs,i + 1,m,nd,h1,h2,hk=>by
  show bindC kindOf ((p,w) :: P.zip vs) m x=_
  unfold bindC
  exact zhm (i:=i) (List.nodup_cons.mp nd).2 (by simpa using h1) (by simpa using h2) hk
noncomputable def start (N:List Str) (vs:List V):St:=vs.map some ++ List.replicate (N.length - vs.length) none
noncomputable def cxOf (CX:CXT) (P:Program) (w:World) (K:PySem.W.Frag) (mg:Str→Option Value) (base:Heap) (N:List Str) (qual:Str) (scope:Scope) (f:Addr) (cd:Value) (A:Around) (outer:List Env) (s:Shared) (H:Hp) (E:XK):Cx where
 prog:=P
 w:=w
 K:=K
 mg:=mg
 base:=base
 A:=A.deeper (envOfC qual scope s.heap.objs.size f cd)
 N:=N
 s₀:=s
 H₀:=H
 env:=envOfC qual scope s.heap.objs.size f cd
 outer:=outer
 stack:=envOfC qual scope s.heap.objs.size f cd :: outer
 ex:=[]
 calm:=true
 fn:=fun _=>true
 pn:=[]
 xe:=fun e s'=>wpAny (model P w) (A.deeper (envOfC qual scope s.heap.objs.size f cd)) (leaving (envOfC qual scope s.heap.objs.size f cd) e) (fun _ s''=>CX outer H s E e s'') (fun e' s''=>CX outer H s E e' s'') s'
theorem zjs {sc:Scope} {n:Nat} {x:Str} (h:sc.names.lookup x=some .cell):∃ c,(cellsFrom n sc.names []).lookup x=some c:=by
 have q:=PySem.W.cellsFrom_some sc.names n [] (.inl h)
 exact Option.isSome_iff_exists.mp q
theorem zlC {CX:CXT} {P:Program} {w:World} {K:PySem.W.Frag} {mg:Str→Option Value} {base:Heap} {N ps:List Str} {qual:Str} {scope:Scope} {f:Addr} {cd:Value} {A:Around} {outer:List Env} {s s1:Shared} {H:Hp} {E:XK} {us:List Value} {vs:List V}
  (S:FnScope N ps scope) (hd:A.handled=none) (e0:Env0 P w K mg base A outer s H) (hl:vs.length=ps.length) (r:Vals vs us)
  (x:InCallC s s.heap.objs.size (bindL (envOfC qual scope s.heap.objs.size f cd).kindOf (ps.zip us) fun _=>none) (cellsFrom (s.heap.objs.size + 1) scope.names []) (bindC (envOfC qual scope s.heap.objs.size f cd).kindOf (ps.zip us) fun _=>none) s1) :
  Inv (cxOf CX P w K mg base N qual scope f cd A outer s H E) [] (start N vs) H s1:=by
 have hpl:ps.length≤N.length:=by have:=congrArg List.length S.pre;rw [List.length_take] at this;lia
 obtain⟨h1,tk,rfl,hk⟩:=x.done
 have noA:∀ b:Addr,b∉(cxOf CX P w K mg base N qual scope f cd A outer s H E).ex:=fun b z=>absurd (show b∈([]:List Addr) from z) (by simp)
 refine ⟨⟨e0.mod,S.kind,rfl,rfl,Nat.le_refl _,fun y z c h1 h2=>?_,fun y hy=>?_,fun y c _ h=>?_,fun _=>hd,Around.frames_deeper e0.frames,.inr ⟨rfl,rfl⟩,fun b z=>absurd z (noA b),e0.bs,e0.bsz,fun b _ _=>noA b,fun b z=>absurd z (noA b),e0.funs,e0.frf⟩,
  rfl,e0.bare,Un.kept hk,⟨_,x.toInCall.ns,fun i y v h1 h2 h3=>?_⟩,fun y c h=>⟨_,x.cell y c h⟩,e0.hok.fresh (Nat.le_refl _),fun y c h=>?_,fun p hp=>absurd (show p∈([]:List (Addr×Obj)) from hp) (by simp),e0.hok.kept hk,?_⟩
 ·exact name_of_addr x.apart (PySem.mem_of_lookup h1) (PySem.mem_of_lookup h2)
 ·have hy:scope.names.lookup y=some .cell∨scope.names.lookup y=some .free:=hy
  rcases hy with hy | hy
  ·exact zjs hy
  ·exact absurd rfl (S.nofree _ (PySem.mem_of_lookup hy))
 ·exact Nat.le_of_lt (x.above y c (PySem.mem_of_lookup h))
 ·have hi:i < vs.length:=by
   unfold start at h2
   by_cases hi:i < vs.length
   ·exact hi
   ·rw [List.getElem?_append_right (by simpa using hi)] at h2
    rw [List.getElem?_replicate] at h2
    split at h2 <;> cases h2
  have ha:vs[i]? = some v:=by
   unfold start at h2
   rw [List.getElem?_append_left (by simpa using hi),List.getElem?_map] at h2
   cases e:vs[i]? with
   | none=>rw [e] at h2;cases h2
   | some a=>rw [e] at h2;cases h2;rfl
  obtain⟨u,hu,rv⟩:=r.get ha
  have hp:ps[i]? = some y:=by
   rw [← S.pre,List.getElem?_take_of_lt (by lia)];exact h1
  have ndP:ps.Nodup:=by rw [← S.pre];exact S.nd.sublist (List.take_sublist _ _)
  refine ⟨u,rv,?_⟩
  rcases S.par y (List.mem_of_getElem? hp) with k | k
  ·exact .inl ⟨k,zhk ndP hp hu k⟩
  ·obtain⟨c,e⟩:=zjs (n:=s.heap.objs.size + 1) k
   refine .inr ⟨.inl k,c,e,?_⟩
   have q:=x.cell y c e
   rw [zhm ndP hp hu (by show scope.names.lookup y≠_;rw [k];decide)] at q
   exact q
 ·exact e0.hok.fresh (Nat.le_of_lt (x.above y c (PySem.mem_of_lookup h)))
 ·unfold start
  show _=N.length
  rw [List.length_append,List.length_map,List.length_replicate]
  lia
theorem zsJ {CX:CXT} {P:Program} {w:World} {K:PySem.W.Frag} {mg:Str→Option Value} {base:Heap} {k:Nat} {f:Addr} {name qual:Str} {params:Arguments} {body:List Stmt} {scope:Scope} {dV kV doc pm cdv ct oc:Value} {an od:Option Addr}
  {osl:Array (Option Value)} {N ps:List Str} {sp:Sp} (lk:K.lookup f=some ⟨oc,od,.func (PySem.W.fnOf name qual params body scope dV kV doc pm an cdv ct),osl⟩) (hcd:PySem.W.codeIn K cdv qual=true) (S:FnScope N ps scope)
  (len:∀ vs H Q E,sp vs H Q E→vs.length=ps.length)
  (hbody:∀ (A:Around) (outer:List Env) (s:Shared) (H:Hp) (vs:List V) (Q:VK) (E:XK),Room k (A.deeper (envOfC qual scope s.heap.objs.size f cdv))→sp vs H Q E →
   ∃ t,PSs (cxOf CX P w K mg base N qual scope f cdv A outer s H E) body t∧t { nx:=fun _ H'=>Q .non H',rt:=Q } (start N vs) H) :
  FnOk P w K mg base CX (k + 1) f (PySem.W.fnOf name qual params body scope dV kV doc pm an cdv ct) ps sp:=by
 refine ⟨len,fun A outer s H args us vs Q E hr e0 hb r hsp=>?_⟩
 have hl:=len _ _ _ _ hsp
 have KX:K.In s.heap:=e0.mod.kin.keeps fun b o e=>(e0.bs b o e).1
 have lim:s.heap.NoLimit:=e0.mod.nolimit.keeps fun b o e=>(e0.bs b o e).1
 have hkind:∀ y∈ps.zip us,scope.names.lookup y.1=some .local∨(scope.names.lookup y.1=some .cell∧((cellsFrom (s.heap.objs.size + 1) scope.names []).lookup y.1).isSome=true):=fun ⟨n,v⟩ hy=>by
  rcases S.par n (List.of_mem_zip hy).1 with q | q
  ·exact .inl q
  ·exact .inr ⟨q,PySem.W.cellsFrom_some _ _ _ (.inl q)⟩
 refine codeAny_call_function hr.depth (KX _ _ lk) rfl S.co S.gen rfl (PySem.W.codeRec_of KX hcd) (hb _ _ _ _ ?_)
 refine wpAny_newFunctionEnv_cells S.kind hkind fun env he s1 x=>?_
 subst he
 refine ⟨lim.keeps x.toInCall.keep,codeAny_func ?_⟩
 obtain⟨t,ht,hq⟩:=hbody A outer s H vs Q E (hr.deeper _) hsp
 have I:Inv (cxOf CX P w K mg base N qual scope f cdv A outer s H E) [] (start N vs) H s1:=zlC S hr.hd e0 hl r x
 refine wpAny_mono (ht [] s1 (start N vs) H _ I hq) (fun fl s' hs=>?_) fun e s' hs=>hs
 have fin:∀ {σ':St} {H':Hp} {v:V} {u:Value},Inv (cxOf CX P w K mg base N qual scope f cdv A outer s H E) [] σ' H' s'→RelV v u→Q v H'→CE outer P w H s Q u s':=
  fun {σ' H' v u} J rv q=>⟨v,H',J.os,J.bare,J.base,J.hok,rv,q⟩
 cases fl with
 | ret u =>
  obtain⟨v,σ',H',J,rv,q⟩:=hs
  exact fin J rv q
 | next =>
  obtain⟨σ',H',J,q⟩:=hs
  exact fin (v:=V.non) (u:=Value.none) J rfl q
 | brk =>
  obtain⟨_,_,_,q⟩:=hs
  exact False.elim q
 | cont =>
  obtain⟨_,_,_,q⟩:=hs
  exact False.elim q
end L2
namespace L2
open PySem PySem.Spec PyProof.Rows
section
variable {X:Cx} {x:Str} {p pos:Pos} {e:Expr} {es:List Expr} {t:TA} {id T:String} {r:List V→Hp→VK→Prop}
def tCB (r:List V→Hp→VK→Prop) (t:TA):TE:=fun σ H Q=>t σ H fun vs H1=>r vs H1 Q
theorem ziX (hc:zbF X (.builtin id) r) (hg:Gl X x) (hm:X.mg x=none) (hv:bootBuiltins x=some (.builtin id)) (ha:PA X (e :: es) t) (hn:x ≠ "__name__" := by decide) (hdb:(x == ("__debug__" : Str))=false:=by decide)
  (he:starEach (e :: es) X.env=(false,eval e X.env) :: starEach es X.env:=by rfl) (hpl:(backTo pos (starEach es X.env)).any (·.1)=false:=by rfl):PE X (.Call (.Name x p) (e :: es) [] pos) (tCB r t):=by
 intro pins s σ H Q I h
 refine wpAny_Call_Name_kw (zdz I hg hm hv ?_ hn hdb)
 exact PyProof.Rows.callWith_builtin1 (thn (ha pos pins s σ H _ I h) fun us s1 ⟨vs,H1,I1,r1,q1⟩=>hc pins s1 σ H1 vs us Q I1 r1 q1) he hpl
theorem zk8 (hc:zbF X (.type T) r) (hg:Gl X x) (hm:X.mg x=none) (hv:bootBuiltins x=some (.type T)) (ha:PA X (e :: es) t) (hn:x ≠ "__name__" := by decide) (hdb:(x == ("__debug__" : Str))=false:=by decide)
  (he:starEach (e :: es) X.env=(false,eval e X.env) :: starEach es X.env:=by rfl) (hpl:(backTo pos (starEach es X.env)).any (·.1)=false:=by rfl):PE X (.Call (.Name x p) (e :: es) [] pos) (tCB r t):=by
 intro pins s σ H Q I h
 refine wpAny_Call_Name_kw (zdz I hg hm hv ?_ hn hdb)
 exact PyProof.Rows.callWith_type1 (thn (ha pos pins s σ H _ I h) fun us s1 ⟨vs,H1,I1,r1,q1⟩=>hc pins s1 σ H1 vs us Q I1 r1 q1) he hpl
end
end L2
namespace HT
open PySem PyProof.Rows
section
open PySem.SeqAt
open PySem.AutoSeq1 (wpAny_loadPart')
open PySem.MeetsSeq PySem.MeetsSeq2 PySem.MeetsSeq3
end
section
variable {prog:Program} {w:World} {A:Around} {E:Value→Shared→Prop} {s:Shared}
noncomputable def sIx (n d:Nat):Option Int→Nat
 | none=>d
 | some v=>if v < 0 then (v + (n:Int)).toNat else min v.toNat n
theorem sIx_none (n d:Nat):sIx n d none=d:=rfl
theorem sIx_nat (n d k:Nat):sIx n d (some (k:Int))=min k n:=by
 show (if (k:Int) < 0 then ((k:Int) + (n:Int)).toNat else min (k:Int).toNat n)=min k n
 rw [if_neg (by lia),Int.toNat_natCast]
theorem pick_gen (xs:Array Value) (i k:Nat):((List.range k).filterMap fun (m:Nat)=>xs[((i:Int) + (m:Int) * 1).toNat]?).toArray=((xs.toList.drop i).take k).toArray:=by
 have e:(fun (m:Nat)=>xs[((i:Int) + (m:Int) * 1).toNat]?)=fun m=>xs[i + m]?:=by
  funext m
  have:((i:Int) + (m:Int) * 1).toNat=i + m:=by lia
  rw [this]
 rw [e]
 have:=pick_run xs i k
 rw [List.filterMap_map] at this
 have e2:((fun x=>xs[x]?) ∘ fun x=>i + x)=fun m=>xs[i + m]?:=rfl
 rw [e2] at this
 rw [this]
end
end HT
namespace L2
open PySem PySem.Spec PyProof.Rows
noncomputable abbrev TO:=St→Hp→(Option Int→Hp→Prop)→Prop
def PO (X:Cx) (e:Option Expr) (t:TO):Prop:=
 ∀ (pins:List (Addr×Obj)) (s:Shared) (σ:St) (H:Hp) (Q:Option Int→Hp→Prop),Inv X pins σ H s→t σ H Q →
  wpAny (model X.prog X.w) X.A (evalPart e X.env) (fun u s'=>∃ o H',Inv X pins σ H' s'∧IsPart u o∧Q o H') X.xe s
def zoh:TO:=fun _ H Q=>Q none H
def zrN (t:TE):TO:=fun σ H Q=>t σ H fun x H1=>∃ i,x=.int i∧Q (some i) H1
theorem zkf {ns:List Int}:∀ {us:List Value},Vals (ns.map V.int) us→IntsAre us ns:=by
 induction ns with
 | nil=>intro us r;rw [List.map_nil] at r;cases r;exact .nil
 | cons n ns ih =>
  intro us r
  rw [List.map_cons] at r
  cases r with
  | cons r1 r2 =>
   obtain⟨t,e⟩:=r1
   subst e
   exact .cons n t (ih r2)
section
variable {X:Cx} {e:Expr} {te:TE} {lo hi:Option Expr} {tl th:TO} {pos p2:Pos}
theorem zoF:PO X none zoh:=by
 intro pins s σ H Q I h
 rw [evalPart_none]
 exact wpAny_pure ⟨none,H,I,.none,h⟩
theorem zoE (h:PE X e te):PO X (some e) (zrN te):=by
 intro pins s σ H Q I hw
 rw [evalPart_some]
 refine thn (h pins s σ H _ I hw) fun u s1 ⟨x,H1,I1,r1,q1⟩=>?_
 obtain⟨i,rfl,q⟩:=q1
 obtain⟨t,rfl⟩:=r1
 exact⟨some i,H1,I1,.int i t,q⟩
def SlR (X:Cx) (r:V→Option Int→Option Int→Hp→VK→Prop):Prop:=
 ∀ (pins:List (Addr×Obj)) (s:Shared) (σ:St) (H:Hp) (x:V) (v vl vu:Value) (lo hi:Option Int) (sl:Addr) (Q:VK),Inv X pins σ H s→RelV x v→s.heap.IsSliceOf sl vl vu .none→IsPart vl lo→IsPart vu hi→r x lo hi H Q →
  ∃ T id,typeLookup (.type T) "__getitem__" = pure (some (.builtin id))∧s.TypeIs v T∧wpAny (model X.prog X.w) X.A (getItem v (.ref sl)) (EP X pins σ Q) X.xe s
def tSl (r:V→Option Int→Option Int→Hp→VK→Prop) (te:TE) (tl th:TO):TE:=fun σ H Q=>te σ H fun x H1=>tl σ H1 fun l H2=>th σ H2 fun u H3=>r x l u H3 Q
theorem zmy {r:V→Option Int→Option Int→Hp→VK→Prop} (hr:SlR X r) (he:PE X e te) (hl:PO X lo tl) (hu:PO X hi th):PE X (.Subscript e (.Slice lo hi none p2) pos) (tSl r te tl th):=by
 intro pins s σ H Q I h
 refine Subscript_ (thn (he pins s σ H _ I h) fun v s1 ⟨x,H1,I1,r1,q1⟩=>?_)
 refine wpAny_Slice (thn (hl pins s1 σ H1 _ I1 q1) fun vl s2 ⟨l,H2,I2,pl,q2⟩=>thn (hu pins s2 σ H2 _ I2 q2) fun vu s3 ⟨u,H3,I3,pu,q3⟩=>?_)
 rw [evalPart_none]
 refine wpAny_pure ?_
 have I4:Inv X pins σ H3 { s3 with heap:=s3.heap.push { cls:=.type "slice", data:=.fields #[vl,vu,.none] } }:=I3.kept (t':=s3.toks) fun b ob q=>Heap.get?_push_of_some _ q
 obtain⟨T,id,hT,ht,hg⟩:=hr pins { s3 with heap:=s3.heap.push { cls:=.type "slice", data:=.fields #[vl,vu,.none] } } σ H3 x v vl vu l u s3.heap.objs.size Q I4 r1 (Heap.IsSliceOf.new ..) pl pu q3
 show wpAny (model X.prog X.w) X.A (subscriptTail e (.Slice lo hi none p2) v (.ref s3.heap.objs.size)) (EP X pins σ Q) X.xe { s3 with heap:=s3.heap.push { cls:=.type "slice", data:=.fields #[vl,vu,.none] } }
 exact tail_any (ops:=[.ref s3.heap.objs.size,v]) ht hT hg (by with_unfolding_all rfl)
noncomputable def cutV (xs:List V) (lo hi:Option Int):List V:=(xs.drop (HT.sIx xs.length 0 lo)).take (HT.sIx xs.length xs.length hi - HT.sIx xs.length 0 lo)
theorem zib (xs:List V) (lo hi:Option Int):(cutV xs lo hi).length≤xs.length:=by
 unfold cutV
 rw [List.length_take,List.length_drop]
 lia
end
end L2
namespace L2
open PySem PySem.Spec PyProof.Rows
noncomputable def ixN (n:Nat) (i:Int):Option Nat:=if 0≤i then (if i < n then some i.toNat else none) else if -(n:Int)≤i then some (i + n).toNat else none
noncomputable def atI {α:Type} (xs:List α) (i:Int):Option α:=(ixN xs.length i).bind fun j=>xs[j]?
theorem zh7 {n:Nat} {i:Int} {j:Nat} (h:ixN n i=some j):seqIndex? i n=some j∧j < n∧-(n:Int)≤i∧i < n:=by
 unfold ixN at h
 by_cases h0:0≤i
 ·rw [if_pos h0] at h
  by_cases h1:i < n
  ·rw [if_pos h1] at h
   have e:i.toNat=j:=Option.some.inj h
   exact⟨by rw [seqIndex_of h0 h1,e],by lia,by lia,h1⟩
  ·rw [if_neg h1] at h;cases h
 ·rw [if_neg h0] at h
  by_cases h1:-(n:Int)≤i
  ·rw [if_pos h1] at h
   have e:(i + n).toNat=j:=Option.some.inj h
   exact⟨by rw [seqIndex_neg (by lia) h1,e],by lia,h1,by lia⟩
  ·rw [if_neg h1] at h;cases h
theorem zlX {α:Type} {xs:List α} {i:Int} {v:α} (h:atI xs i=some v):∃ j,seqIndex? i xs.length=some j∧xs[j]? = some v∧j < xs.length∧-(xs.length:Int)≤i∧i < xs.length:=by
 unfold atI at h
 cases e:ixN xs.length i with
 | none=>rw [e] at h;cases h
 | some j =>
  rw [e] at h
  obtain⟨h1,h2,h3,h4⟩:=zh7 e
  exact⟨j,h1,h,h2,h3,h4⟩
def zfr (b:Expr):Prop:=∀ o i,subscripted b false o i=operate [o,i] (getItem o i)
def IxR (X:Cx) (r:R2):Prop:=
 ∀ (value slice:Expr) (pins:List (Addr×Obj)) (s:Shared) (σ:St) (H:Hp) (x y:V) (v u:Value) (Q:VK),Inv X pins σ H s→RelV x v→RelV y u→r x y H Q →
  subscripted slice false v u=operate [v,u] (getItem v u)→wpAny (model X.prog X.w) X.A (subscriptTail value slice v u) (EP X pins σ Q) X.xe s
def MtR (X:Cx) (id:String) (r:V→List V→Hp→VK→Prop):Prop:=
 ∀ (pins:List (Addr×Obj)) (s:Shared) (σ:St) (H:Hp) (x:V) (xs:List V) (v:Value) (us:List Value) (Q:VK),Inv X pins σ H s→RelV x v→Vals xs us→r x xs H Q →
  wpAny (model X.prog X.w) X.A (call (.builtin id) (v :: us)) (EP X pins σ Q) X.xe s
section
variable {X:Cx} {a b:Expr} {ta tb:TE} {pos:Pos}
theorem zmz {r:R2} (hr:IxR X r) (ha:PE X a ta) (hb:PE X b tb) (hs:zfr b):PE X (.Subscript a b pos) (tOp r ta tb):=by
 intro pins s σ H Q I h
 exact Subscript_ (binT ha hb I h fun v u s2 x y H2 I2 rx ry q=>hr a b pins s2 σ H2 x y v u Q I2 rx ry q (hs _ _))
def rIxL (K:PySem.W.Frag):R2:=fun x y H Q=>∃ p xs i v,x=.ref p∧y=.int i∧SqL K H p xs∧atI xs i=some v∧Q v H
def rIxT (K:PySem.W.Frag):R2:=fun x y H Q=>∃ p xs i v,x=.ref p∧y=.int i∧SqT K H p xs∧atI xs i=some v∧Q v H
theorem zfd:IxR X (rIxL X.K):=by
 intro value slice pins s σ H x y v u Q I rx ry h hs
 obtain⟨p,xs,i,z,rfl,rfl,hq,he,q⟩:=h
 cases rx
 obtain⟨t,rfl⟩:=ry
 obtain⟨its,r,pl,hz⟩:=I.list hq
 obtain⟨j,h1,h2,h3,h4,h5⟩:=zlX he
 obtain⟨w,ew,rw'⟩:=r.get h2
 have hl:=r.length
 have hn:=zg3
 have fin:EP X pins σ Q w s:=⟨z,H,I,rw',q⟩
 by_cases h0:0≤i
 ·have hj:i.toNat=j:=by
   rw [seqIndex_of h0 h5] at h1
   exact Option.some.inj h1
  exact item_listR pl.isList h0 (by lia) (by rw [hj];simpa using ew) fin hs
 ·have hj:(i + (its.toArray.size:Int)).toNat=j:=by
   rw [seqIndex_neg (by lia) h4] at h1
   rw [List.size_toArray,← hl]
   exact Option.some.inj h1
  exact subscriptTail_builtinR (x:=w) pl.isList.typeIs slot_list_getitem.lookup
   (wpAny_getItem_list_neg (Q:=fun r s'=>r=w∧EP X pins σ Q r s') pl.isList (by lia) (by rw [List.size_toArray] <;> lia) (by lia) (by rw [hj];simpa using ew) ⟨rfl,fin⟩) hs
theorem zqZ:IxR X (rIxT X.K):=by
 intro value slice pins s σ H x y v u Q I rx ry h hs
 obtain⟨p,xs,i,z,rfl,rfl,hq,he,q⟩:=h
 cases rx
 obtain⟨t,rfl⟩:=ry
 obtain⟨its,r,pl,hz⟩:=I.tuple hq
 obtain⟨j,h1,h2,h3,h4,h5⟩:=zlX he
 obtain⟨w,ew,rw'⟩:=r.get h2
 have hl:=r.length
 have hn:=zg3
 have fin:EP X pins σ Q w s:=⟨z,H,I,rw',q⟩
 exact subscriptTail_builtinR (x:=w) pl.typeIs slot_tuple_getitem.lookup
  (getItem_tuple (j:=j) (Q:=fun r s'=>r=w∧EP X pins σ Q r s') pl (by lia) (by lia) (by rw [List.size_toArray,← hl];exact h1) (by simpa using ew) ⟨rfl,fin⟩) hs
theorem zkb (its:List Value) (n j:Nat) (u:Value):Obj.mapSeq (·.setIfInBounds j u) { cls:=.type "list", data:=.seq its.toArray n } = { cls:=.type "list", data:=.seq (its.set j u).toArray n }:=by
 simp [Obj.mapSeq]
theorem Inv.lst {pins:List (Addr×Obj)} {σ:St} {H:Hp} {s:Shared} {p:Addr} {xs:List V} (I:Inv X pins σ H s) (h:H p=some (.lst xs)) :
  ∃ (its:List Value) (n:Nat),Vals xs its∧s.heap.get? p=some { cls:=.type "list", data:=.seq its.toArray n }∧xs.length≤sizeLine:=by
 obtain⟨z,its,n,r,e⟩:=I.hok p _ h
 exact⟨its,n,r,e,z⟩
theorem Inv.lstUpd {pins:List (Addr×Obj)} {σ:St} {H:Hp} {s:Shared} {p:Addr} {xs ys:List V} {its its':List Value} {n n':Nat} {f:Obj→Obj} (I:Inv X pins σ H s) (h:H p=some (.lst xs))
  (ho:s.heap.get? p=some { cls:=.type "list", data:=.seq its.toArray n }) (hf:f { cls:=.type "list", data:=.seq its.toArray n } = { cls:=.type "list", data:=.seq its'.toArray n' }) (r:Vals ys its') (hz:ys.length≤sizeLine) (t:Nat) :
  Inv X pins σ (upd H p (.lst ys)) { s with heap:=s.heap.update p f,toks:=t }:=by
 have e:(s.heap.update p f).get? p=some { cls:=.type "list", data:=.seq its'.toArray n' }:=by
  rw [Heap.get?_update_self f ho (by rw [hf] <;> rfl),hf]
 refine I.write (x:=p) (e:=p) (by rw [h];trivial) (.inl rfl) (fun b u hb q=>(Heap.get?_update_other _ _ (Ne.symm hb)).trans q) ⟨_,e⟩ ?_
 exact⟨hz,its',n',r,e⟩
noncomputable def zqc:V→V→V→Hp→(Hp→Prop)→Prop:=fun o i v H Q=>∃ p xs k j,o=.ref p∧i=.int k∧H p=some (.lst xs)∧ixN xs.length k=some j∧Q (upd H p (.lst (xs.set j v)))
theorem ziR:PSet X zqc:=by
 intro pins s σ H o i v ov iv u Q I ro ri rv h
 obtain⟨p,xs,k,j,rfl,rfl,hp,hj,q⟩:=h
 cases ro
 obtain⟨t,rfl⟩:=ri
 obtain⟨its,n,r,ho,hz⟩:=I.lst hp
 obtain⟨h1,h2,h3,h4⟩:=zh7 hj
 have hl:=r.length
 have hn:=zg3
 have I':Inv X pins σ (upd H p (.lst (xs.set j v))) { s with heap:=s.heap.update p (Obj.mapSeq (·.setIfInBounds j u)) }:=
  I.lstUpd hp ho (zkb its n j u) (r.set rv j) (by rw [List.length_set];exact hz) s.toks
 by_cases h0:0≤k
 ·have hk:k.toNat=j:=by
   rw [seqIndex_of h0 h4] at h1
   exact Option.some.inj h1
  exact PySem.W.ki_setAt ho h0 (by lia) (by rw [List.size_toArray,← hl];exact h4) (by rw [hk];exact⟨_,I',q⟩)
 ·have hk:(k + (its.toArray.size:Int)).toNat=j:=by
   rw [seqIndex_neg (by lia) h3] at h1
   rw [List.size_toArray,← hl]
   exact Option.some.inj h1
  exact PySem.W.ki_setBack ho (by lia) (by rw [List.size_toArray,← hl];exact h3) (by lia) (by rw [hk];exact⟨_,I',q⟩)
theorem zgQ (lo hi:Option Int) (n:Nat):(sliceBounds lo hi none n).1=((HT.sIx n 0 lo:Nat):Int)∧(sliceBounds lo hi none n).2.1=((HT.sIx n n hi:Nat):Int)∧(sliceBounds lo hi none n).2.2=1:=by
 refine ⟨?_,?_,rfl⟩
 ·cases lo with
  | none=>simp [sliceBounds,HT.sIx]
  | some i =>
   simp only [sliceBounds,HT.sIx,Option.getD_none,show (1:Int) > 0 by decide,if_true]
   by_cases h:i < 0
   ·simp only [h,if_true] <;> lia
   ·simp only [h,if_false] <;> lia
 ·cases hi with
  | none=>simp [sliceBounds,HT.sIx]
  | some i =>
   simp only [sliceBounds,HT.sIx,Option.getD_none,show (1:Int) > 0 by decide,if_true]
   by_cases h:i < 0
   ·simp only [h,if_true] <;> lia
   ·simp only [h,if_false] <;> lia
theorem zgf (its:List Value) (lo hi:Option Int):slicePick its.toArray lo hi none=((its.drop (HT.sIx its.length 0 lo)).take (HT.sIx its.length its.length hi - HT.sIx its.length 0 lo)).toArray:=by
 obtain⟨h1,h2,h3⟩:=zgQ lo hi its.toArray.size
 unfold slicePick
 rw [h1,h2,h3]
 simp only [sliceRange_one,pick_run,List.size_toArray] <;> rfl
noncomputable def rSlL (K:PySem.W.Frag):V→Option Int→Option Int→Hp→VK→Prop:=fun x lo hi H Q=>∃ a xs,x=.ref a∧SqL K H a xs∧∀ p,H p=none→Q (.ref p) (upd H p (.lst (cutV xs lo hi)))
theorem zoj:SlR X (rSlL X.K):=by
 intro pins s σ H x v vl vu lo hi sl Q I rx hs pl pu h
 obtain⟨a,xs,rfl,hx,q⟩:=h
 cases rx
 obtain⟨its,r,ht,hz⟩:=I.list hx
 have hlen:=r.length
 refine ⟨"list", _,slot_list_getitem.lookup,ht.isList.typeIs,?_⟩
 refine wpAny_getItem_list_slice ht.isList hs pl pu .none (by simp) ?_ (by rw [List.size_toArray] <;> lia)
 rw [zgf,← hlen]
 refine ⟨.ref s.heap.objs.size,_,I.laid (t':=s.toks) (o:=.lst (cutV xs lo hi)) (fun b ob q=>Heap.get?_push_of_some _ q) (Nat.le_refl _) ?_,rfl,q _ (I.hok.fresh (Nat.le_refl _))⟩
 exact⟨Nat.le_trans (zib xs lo hi) hz,_,0,(r.drop (HT.sIx xs.length 0 lo)).take (HT.sIx xs.length xs.length hi - HT.sIx xs.length 0 lo),Heap.get?_push_size _ rfl⟩
noncomputable def zfG:V→Bool
 | .non=>true
 | .bl _=>true
 | .int _=>true
 | .str _=>true
 | _=>false
noncomputable def eqV:V→V→Bool
 | .non,.non=>true
 | .bl a,.bl b=>a == b
 | .bl a,.int b=>(if a then 1 else 0) == b
 | .int a,.bl b=>a == (if b then 1 else 0)
 | .int a,.int b=>a == b
 | .str a,.str b=>a == b
 | _,_=>false
theorem zq2 {A:Around} {s:Shared} {y x:V} {u v:Value} (ry:RelV y u) (rx:RelV x v) (fy:zfG y=true) (fx:zfG x=true):SeqAt.EqAt A s u v (eqV y x):=by
 cases y with
 | non =>
  cases ry
  cases x with
  | non=>cases rx;exact SeqAt.EqAt.same _
  | bl b=>cases rx;exact SeqAt.EqAt.none_bool b
  | int b=>obtain⟨t,rfl⟩:=rx;exact SeqAt.EqAt.none_int b t
  | str b=>obtain⟨t,rfl⟩:=rx;exact SeqAt.EqAt.none_str b t
  | _=>exact absurd (show false=true from fx) Bool.false_ne_true
 | bl a =>
  cases ry
  cases x with
  | non=>cases rx;exact SeqAt.EqAt.bool_none a
  | bl b=>cases rx;exact SeqAt.EqAt.bool_bool a b
  | int b=>obtain⟨t,rfl⟩:=rx;exact SeqAt.EqAt.bool_int a b t
  | str b=>obtain⟨t,rfl⟩:=rx;exact SeqAt.EqAt.bool_str a b t
  | _=>exact absurd (show false=true from fx) Bool.false_ne_true
 | int a =>
  obtain⟨t',rfl⟩:=ry
  cases x with
  | non=>cases rx;exact SeqAt.EqAt.int_none a t'
  | bl b=>cases rx;exact SeqAt.EqAt.int_bool a t' b
  | int b=>obtain⟨t,rfl⟩:=rx;exact SeqAt.EqAt.int_int a t' b t
  | str b=>obtain⟨t,rfl⟩:=rx;exact SeqAt.EqAt.int_str a t' b t
  | _=>exact absurd (show false=true from fx) Bool.false_ne_true
 | str a =>
  obtain⟨t',rfl⟩:=ry
  cases x with
  | non=>cases rx;exact SeqAt.EqAt.str_none a t'
  | bl b=>cases rx;exact SeqAt.EqAt.str_bool a t' b
  | int b=>obtain⟨t,rfl⟩:=rx;exact SeqAt.EqAt.str_int a t' b t
  | str b=>obtain⟨t,rfl⟩:=rx;exact SeqAt.EqAt.str_str a t' b t
  | _=>exact absurd (show false=true from fx) Bool.false_ne_true
 | _=>exact absurd (show false=true from fy) Bool.false_ne_true
theorem zhg:zbF X (.builtin "len") (fun xs H Q=>∃ p ys,xs=[.ref p]∧(SqL X.K H p ys∨SqT X.K H p ys)∧Q (.int ys.length) H):=by
 intro pins s σ H xs us Q I r h
 obtain⟨p,ys,rfl,hq,q⟩:=h
 obtain⟨u,rfl,rx⟩:=zf9 r
 cases rx
 have hn:=zg3
 rcases hq with hq | hq
 ·obtain⟨its,r',pl,hz⟩:=I.list hq
  have hlen:=r'.length
  exact Calls.call_len_list pl.isList (by simp only [List.size_toArray] <;> lia) ⟨.int ys.length,H,I.tok _,⟨s.toks + 1,by rw [List.size_toArray,hlen]⟩,q⟩
 ·obtain⟨its,r',pl,hz⟩:=I.tuple hq
  have hlen:=r'.length
  exact len_tuple pl (by simp only [List.size_toArray] <;> lia) ⟨.int ys.length,H,I.tok _,⟨s.toks + 1,by rw [List.size_toArray,hlen]⟩,q⟩
theorem zhf:zbF X (.type "list") (fun xs H Q=>∃ p ys,xs=[.ref p]∧(SqL X.K H p ys∨SqT X.K H p ys)∧∀ l,H l=none→Q (.ref l) (upd H l (.lst ys))):=by
 intro pins s σ H xs us Q I r h
 obtain⟨p,ys,rfl,hq,q⟩:=h
 obtain⟨u,rfl,rx⟩:=zf9 r
 cases rx
 have fin:∀ (its:List Value),Vals ys its→ys.length≤sizeLine→∀ (h':Heap) (c':Nat),(∀ b o',s.heap.get? b=some o'→h'.get? b=some o') →
   h'.get? s.heap.objs.size=some { cls:=.type "list", dict:=none,data:=.seq its.toArray c',slots:=#[] }→EP X pins σ Q (.ref s.heap.objs.size) { s with heap:=h' }:=fun its r' hz h' c' kp e =>
  ⟨.ref s.heap.objs.size,_,I.laid (t':=s.toks) kp (Nat.le_refl _) (show zbW X.prog X.w _ h' _ (.lst ys) from ⟨hz,its,c',r',e⟩),rfl,q _ (I.hok.fresh (Nat.le_refl _))⟩
 rcases hq with hq | hq
 ·obtain⟨its,r',pl,hz⟩:=I.list hq
  have hlen:=r'.length
  obtain⟨o,ho,hc,n,hd⟩:=pl.isList
  exact call_list_seq p (.inl rfl) ho hc hd (fun h' c' kp e=>fin its r' hz h' c' kp e) (by simp only [List.size_toArray] <;> lia)
 ·obtain⟨its,r',pl,hz⟩:=I.tuple hq
  have hlen:=r'.length
  obtain⟨o,ho,hc,n,hd⟩:=pl
  exact call_list_seq p (.inr rfl) ho hc hd (fun h' c' kp e=>fin its r' hz h' c' kp e) (by simp only [List.size_toArray] <;> lia)
def tyV (K:PySem.W.Frag) (T:String) (x:V) (H:Hp):Prop:=match x with
 | .str _=>T = "str"
 | .int _=>T = "int"
 | .ref p=>(T = "list" ∧ ∃ xs,SqL K H p xs)∨(T = "tuple" ∧ ∃ o,K.lookup p=some o∧o.cls=.type "tuple" ∧ o.dict=none) ∨
   (T = "dict" ∧ ((∃ kvs,H p=some (.dK kvs))∨∃ kvs,H p=some (.dT kvs)))∨(T = "set" ∧ ∃ S n,H p=some (.set S n))
 | _=>False
theorem znB {pins:List (Addr×Obj)} {σ:St} {H:Hp} {s:Shared} {T:String} {x:V} {v:Value} (I:Inv X pins σ H s) (r:RelV x v) (ty:tyV X.K T x H) :
  s.TypeIs v T∧∀ a,v=.ref a→∃ ob,s.heap.get? a=some ob∧ob.dict=none:=by
 cases x with
 | str z =>
  obtain⟨t,rfl⟩:=r
  cases (show T = "str" from ty)
  exact⟨typeIs_str s z t,fun _ e=>nomatch e⟩
 | int i =>
  obtain⟨t,rfl⟩:=r
  cases (show T = "int" from ty)
  exact⟨typeIs_int s i t,fun _ e=>nomatch e⟩
 | ref p =>
  cases r
  rcases ty with ⟨rfl,xs,hq⟩ | ⟨rfl,o,hk,hc,hd⟩ | ⟨rfl,hk⟩ | ⟨rfl,S,n,hk⟩
  ·obtain⟨its,_,pl,_⟩:=I.list hq
   refine ⟨pl.isList.typeIs,fun a e=>?_⟩
   cases e
   obtain⟨o,n,e,c,hd,_⟩:=pl
   exact⟨o,e,hd⟩
  ·refine ⟨⟨o,I.kIn p o hk,hc⟩,fun a e=>?_⟩
   cases e
   exact⟨o,I.kIn _ o hk,hd⟩
  ·have z:∃ o,s.heap.get? p=some o∧o.ExactDict:=by
    rcases hk with ⟨kvs,hk⟩ | ⟨kvs,hk⟩
    ·obtain⟨_,_,_,_,o,_,_,e,ex,_⟩:=I.hok p _ hk
     exact⟨o,e,ex⟩
    ·obtain⟨_,_,_,_,o,_,_,e,ex,_⟩:=I.hok p _ hk
     exact⟨o,e,ex⟩
   obtain⟨o,e,ex⟩:=z
   refine ⟨⟨o,e,ex.1⟩,fun a e2=>?_⟩
   cases e2
   exact⟨o,e,ex.2.1⟩
  ·obtain⟨o,_,_,_,e,ex,_⟩:=I.hok p _ hk
   refine ⟨⟨o,e,ex.1⟩,fun a e2=>?_⟩
   cases e2
   exact⟨o,e,ex.2.1⟩
 | _=>exact False.elim ty
def tBM0 (K:PySem.W.Frag) (T:String) (r:V→List V→Hp→VK→Prop) (to:TE):TE:=fun σ H Q=>to σ H fun x H1=>tyV K T x H1∧r x [] H1 Q
def tBM (K:PySem.W.Frag) (T:String) (r:V→List V→Hp→VK→Prop) (to:TE) (t:TA):TE:=fun σ H Q=>to σ H fun x H1=>tyV K T x H1∧t σ H1 fun xs H2=>r x xs H2 Q
variable {o e:Expr} {es:List Expr} {to:TE} {t:TA} {name:Str} {apos cpos:Pos} {T id:String} {r:V→List V→Hp→VK→Prop}
theorem zqt (pa:PlainAttrs T) (slot:Slot T name id) (hty:typeOf (.builtin id)=pure (.type "method_descriptor")) (hm:MtR X id r) (ho:PE X o to)
  (hbase:attributeBase o name X.env (eval o X.env)=eval o X.env:=by rfl) (hline:(apos.endLine == cpos.line)=true:=by rfl):PE X (.Call (.Attribute o name apos) [] [] cpos) (tBM0 X.K T r to):=by
 intro pins s σ H Q I h
 refine wpAny_Call_method0_late hbase hline (thn (ho pins s σ H _ I h) fun v s1 ⟨x,H1,I1,r1,ty,q1⟩=>?_)
 obtain⟨h1,h2⟩:=znB I1 r1 ty
 exact⟨T,id,pa,slot,hty,h1,h2,Calls.callWith_builtin rfl (PySem.evalArgs_none (hm pins s1 σ H1 x [] v [] Q I1 r1 .nil q1))⟩
theorem zk9 (pa:PlainAttrs T) (slot:Slot T name id) (hty:typeOf (.builtin id)=pure (.type "method_descriptor")) (hm:MtR X id r) (ho:PE X o to) (ha:PA X (e :: es) t)
  (hbase:attributeBase o name X.env (eval o X.env)=eval o X.env:=by rfl)
  (hfew:((backTo cpos (starEach (e :: es) X.env)).all (fun x=>!x.1) && (backToKw cpos (keywordEach [] X.env)).all (fun x=>x.1.isSome)
   && decide ((e :: es).length + ([]:List Keyword).length + (if ([]:List Keyword).isEmpty then 0 else 1) < 30))=true:=by rfl)
  (hline:(apos.endLine == cpos.line)=true:=by rfl) (hs:starEach (e :: es) X.env=(false,eval e X.env) :: starEach es X.env:=by rfl) (hplain:(backTo cpos (starEach es X.env)).any (·.1)=false:=by rfl) :
  PE X (.Call (.Attribute o name apos) (e :: es) [] cpos) (tBM X.K T r to t):=by
 intro pins s σ H Q I h
 refine wpAny_Call_method_late hbase hfew hline rfl (thn (ho pins s σ H _ I h) fun v s1 ⟨x,H1,I1,r1,ty,q1⟩=>?_)
 obtain⟨h1,h2⟩:=znB I1 r1 ty
 refine ⟨T,id,pa,slot,hty,h1,h2,?_⟩
 have hA:=ha cpos pins s1 σ H1 _ I1 q1
 rw [hs] at hA ⊢
 refine Calls.callWith_builtin (by show (false || (backTo cpos (starEach es X.env)).any (·.1))=false;rw [hplain] <;> rfl) (Calls.evalArgs_plain ?_)
 exact thn hA fun us s2 ⟨vs,H2,I2,r2,q2⟩=>hm pins s2 σ H2 x vs v us Q I2 r1 r2 q2
end
end L2
namespace L2
open PySem PySem.Spec PyProof.Rows
def MtM (X:Cx) (id:String) (r:V→List V→Hp→VK→Prop):Prop:=
 ∀ (pins:List (Addr×Obj)) (s:Shared) (σ:St) (H:Hp) (x:V) (xs:List V) (v:Value) (us:List Value) (Q:VK),Inv X pins σ H s→RelV x v→Vals xs us→r x xs H Q →
  wpAny (model X.prog X.w) X.A (call (.builtin id) (v :: us)) (EP X pins σ Q) X.xe s
theorem Vals.one:∀ {x:V} {us:List Value},Vals [x] us→∃ u,us=[u]∧RelV x u:=by
 intro x us h
 cases h with
 | cons r t =>
  cases t
  exact⟨_,rfl,r⟩
theorem Vals.two:∀ {x y:V} {us:List Value},Vals [x,y] us→∃ u v,us=[u,v]∧RelV x u∧RelV y v:=by
 intro x y us h
 cases h with
 | cons r t =>
  obtain⟨v,rfl,q⟩:=Vals.one t
  exact⟨_,v,rfl,r,q⟩
theorem Vals.zero:∀ {us:List Value},Vals [] us→us=[]
 | _,.nil=>rfl
theorem Vals.dropLast {xs:List V} {us:List Value} (h:Vals xs us):Vals xs.dropLast us.dropLast:=by
 induction h with
 | nil=>exact .nil
 | cons r t ih =>
  cases t with
  | nil=>exact .nil
  | cons q t'=>exact .cons r ih
theorem Vals.reverse {xs:List V} {us:List Value} (h:Vals xs us):Vals xs.reverse us.reverse:=by
 induction h with
 | nil=>exact .nil
 | cons r t ih=>rw [List.reverse_cons,List.reverse_cons];exact Vals.append ih (.cons r .nil)
theorem Vals.rep {xs:List V} {us:List Value} (h:Vals xs us):∀ k:Nat,Vals (List.replicate k xs).flatten (List.replicate k us).flatten
 | 0=>.nil
 | k + 1=>by
  rw [List.replicate_succ,List.replicate_succ,List.flatten_cons,List.flatten_cons]
  exact Vals.append h (Vals.rep h k)
theorem zkj {α:Type} (l:List α):l.eraseIdx (l.length - 1)=l.dropLast:=by
 induction l with
 | nil=>rfl
 | cons a r ih =>
  cases r with
  | nil=>rfl
  | cons b r =>
   have e:(a :: b :: r).length - 1=((b :: r).length - 1) + 1:=by
    have h1:(a :: b :: r).length=r.length + 2:=rfl
    have h2:(b :: r).length=r.length + 1:=rfl
    lia
   rw [e,List.eraseIdx_cons_succ,ih]
   all_goals rfl
theorem zg9 (its:List Value):∀ (k:Nat) (acc:List Value),
  List.foldl (fun x1 x2=>x1 ++ x2) acc.toArray (List.replicate k its.toArray)=(acc ++ (List.replicate k its).flatten).toArray
 | 0,acc=>by simp
 | k + 1,acc=>by
  have e:acc.toArray ++ its.toArray=(acc ++ its).toArray:=by simp
  have e2:(acc ++ its) ++ (List.replicate k its).flatten=acc ++ (List.replicate (k + 1) its).flatten:=by
   rw [List.replicate_succ,List.flatten_cons,List.append_assoc]
  rw [← e2,← zg9 its k (acc ++ its),← e,List.replicate_succ,List.foldl_cons]
section
variable {X:Cx} {pins:List (Addr×Obj)} {σ:St} {H:Hp} {s:Shared} {l b:Addr} {xs ys zs:List V}
theorem Inv.lset {its its':List Value} {n:Nat} {f:Array Value→Array Value} {t':Nat} (I:Inv X pins σ H s) (hH:H l=some (.lst xs))
  (e:s.heap.get? l=some { cls:=.type "list", data:=.seq its.toArray n }) (hf:f its.toArray=its'.toArray) (hv:Vals ys its') (hz:ys.length≤sizeLine) :
  Inv X pins σ (upd H l (.lst ys)) { s with heap:=s.heap.update l (Obj.mapSeq f),toks:=t' }:=by
 have q:=PySem.IsL.update e f
 rw [hf] at q
 refine I.write (x:=l) (e:=l) (by rw [hH];exact trivial) (.inl rfl) (fun b' u hb hu=>(Heap.get?_update_other s.heap (Obj.mapSeq f) (Ne.symm hb)).trans hu) ⟨_,q⟩ ?_
 exact⟨hz,its',_,hv,q⟩
theorem Inv.lnew {its:List Value} {t':Nat} (I:Inv X pins σ H s) (hv:Vals ys its) (hz:ys.length≤sizeLine) :
  Inv X pins σ (upd H s.heap.objs.size (.lst ys)) { s with heap:=s.heap.push { cls:=.type "list", data:=.seq its.toArray },toks:=t' }:=
 I.laid (fun _ _ q=>Heap.get?_push_of_some _ q) (Nat.le_refl _) ⟨hz,its,0,hv,Heap.get?_push_size _ rfl⟩
theorem Inv.fresh (I:Inv X pins σ H s):H s.heap.objs.size=none:=I.hok.fresh (Nat.le_refl _)
theorem Inv.lstM (I:Inv X pins σ H s) (hH:H l=some (.lst xs)):xs.length≤sizeLine∧∃ (its:List Value) (n:Nat),Vals xs its∧xs.length=its.length∧s.heap.get? l=some { cls:=.type "list", data:=.seq its.toArray n }:=by
 obtain⟨z,its,n,r,e⟩:=I.hok l _ hH
 exact⟨z,its,n,r,r.length,e⟩
theorem zi3 {n:Nat} (h:n≤sizeLine):Builtin.List.listTooLong n=false:=by
 unfold Builtin.List.listTooLong
 exact decide_eq_false (by lia)
end
section
variable {X:Cx}
noncomputable def zoz:V→List V→Hp→VK→Prop:=fun x vs H Q=>∃ l xs y,x=.ref l∧vs=[y]∧H l=some (.lst xs)∧xs.length < sizeLine∧Q .non (upd H l (.lst (xs ++ [y])))
theorem ze2:MtM X "list.append" zoz:=by
 intro pins s σ H x vs v us Q I rx rv h
 obtain⟨l,xs,y,rfl,rfl,hH,hz,q⟩:=h
 cases rx
 obtain⟨u,rfl,ru⟩:=rv.one
 obtain⟨z,its,n,r,hl,e⟩:=I.lstM hH
 refine call_meets F.slot_list_append ⟨_,e,rfl⟩ F.entry_list_append (F.args_list_append_2 _ _) (PySem.list_append l its.toArray n u (by rw [List.size_toArray];lia)) ⟨e,?_⟩
 refine ⟨.non,_,I.lset (its':=its ++ [u]) hH e (by simp) (r.append (.cons ru .nil)) ?_,rfl,q⟩
 rw [List.length_append,List.length_singleton]
 lia
noncomputable def zoy:V→List V→Hp→VK→Prop:=fun x vs H Q=>∃ l b xs zs,x=.ref l∧vs=[.ref b]∧H l=some (.lst xs)∧H b=some (.lst zs)∧xs.length + zs.length≤sizeLine∧Q .non (upd H l (.lst (xs ++ zs)))
theorem zll:MtM X "list.extend" zoy:=by
 intro pins s σ H x vs v us Q I rx rv h
 obtain⟨l,b,xs,zs,rfl,rfl,hH,hB,hz,q⟩:=h
 cases rx
 obtain⟨u,rfl,ru⟩:=rv.one
 cases ru
 obtain⟨z,its,n,r,hl,e⟩:=I.lstM hH
 obtain⟨z2,its2,n2,r2,hl2,e2⟩:=I.lstM hB
 have hsz:its.toArray.size + its2.toArray.size≤sizeLine:=by rw [List.size_toArray,List.size_toArray];lia
 have hlong:¬ (!its.toArray.isEmpty && Builtin.List.listTooLong (its.toArray.size + its2.toArray.size))=true:=by
  rw [zi3 hsz,Bool.and_false]
  exact Bool.false_ne_true
 refine call_meets F.slot_list_extend ⟨_,e,rfl⟩ F.entry_list_extend (F.args_list_extend_2 _ _)
  (AutoSeq1.list_extend_list_list_0 l its.toArray n b its2.toArray n2 hlong (by rw [List.size_toArray];lia) (by lia)) ⟨e,e2,?_⟩
 refine ⟨.non,_,I.lset (its':=its ++ its2) hH e (by simp) (r.append r2) ?_,rfl,q⟩
 rw [List.length_append]
 lia
noncomputable def rPop:V→List V→Hp→VK→Prop:=fun x vs H Q=>∃ l xs y,x=.ref l∧vs=[]∧H l=some (.lst xs)∧xs[xs.length - 1]? = some y∧Q y (upd H l (.lst xs.dropLast))
theorem zqI:MtM X "list.pop" rPop:=by
 intro pins s σ H x vs v us Q I rx rv h
 obtain⟨l,xs,y,rfl,rfl,hH,hy,q⟩:=h
 cases rx
 have hus:=rv.zero
 subst hus
 obtain⟨z,its,n,r,hl,e⟩:=I.lstM hH
 obtain⟨u,hu,ru⟩:=r.get hy
 have hy':its.toArray[its.toArray.size - 1]? = some u:=by
  show its.toArray[its.length - 1]? = some u
  rw [← Array.getElem?_toList,← hl]
  exact hu
 refine call_meets F.slot_list_pop ⟨_,e,rfl⟩ F.entry_list_pop (F.args_list_pop_1 _) (MeetsSeq.list_pop_last l its.toArray n u hy' (by rw [List.size_toArray];lia)) ⟨e,?_⟩
 refine ⟨y,_,I.lset (its':=its.dropLast) hH e ?_ r.dropLast ?_,ru,q⟩
 ·show its.toArray.eraseIdxIfInBounds (its.toArray.size - 1)=its.dropLast.toArray
  rw [List.size_toArray,List.eraseIdxIfInBounds_toArray,zkj]
 ·rw [List.length_dropLast]
  lia
def rCat:R2:=fun x y H Q=>∃ l b xs zs,x=.ref l∧y=.ref b∧H l=some (.lst xs)∧H b=some (.lst zs)∧xs.length + zs.length≤sizeLine∧∀ p,H p=none→Q (.ref p) (upd H p (.lst (xs ++ zs)))
theorem zqB:OpR X (binaryOp .Add) rCat:=by
 intro pins s σ H x y v u Q I rx ry h
 obtain⟨l,b,xs,zs,rfl,rfl,hH,hB,hz,q⟩:=h
 cases rx
 cases ry
 obtain⟨z,its,n,r,hl,e⟩:=I.lstM hH
 obtain⟨z2,its2,n2,r2,hl2,e2⟩:=I.lstM hB
 refine PySem.P.add_list e e2 ?_ (by rw [List.size_toArray,List.size_toArray];lia)
 have ea:its.toArray ++ its2.toArray=(its ++ its2).toArray:=by simp
 rw [ea]
 exact⟨.ref _,_,I.lnew (t':=s.toks) (r.append r2) (by rw [List.length_append];lia),rfl,q _ I.fresh⟩
def rRep:R2:=fun x y H Q=>∃ l k xs,x=.ref l∧y=.int k∧H l=some (.lst xs)∧-(2 ^ 63)≤k∧k < 2 ^ 63∧xs.length * k.toNat≤sizeLine ∧
 ∀ p,H p=none→Q (.ref p) (upd H p (.lst (List.replicate k.toNat xs).flatten))
theorem zo8 {α:Type} (xs:List α) (k:Nat):(List.replicate k xs).flatten.length=k * xs.length:=by
 induction k with
 | zero=>simp
 | succ k ih=>rw [List.replicate_succ,List.flatten_cons,List.length_append,ih,Nat.succ_mul,Nat.add_comm]
theorem zqx:OpR X (binaryOp .Mult) rRep:=by
 intro pins s σ H x y v u Q I rx ry h
 obtain⟨l,k,xs,rfl,rfl,hH,h1,h2,hz,q⟩:=h
 cases rx
 obtain⟨t,rfl⟩:=ry
 obtain⟨z,its,n,r,hl,e⟩:=I.lstM hH
 have hlen:its.toArray.size * k.toNat≤sizeLine:=by rw [List.size_toArray,← hl];exact hz
 have hcap:¬ its.toArray.size * k.toNat > (2 ^ 63 - 1) / 8:=by
  have:(sizeLine:Nat)≤(2 ^ 63 - 1) / 8:=by decide
  lia
 have hfit:¬ (!Builtin.List.listFitsIndex k)=true:=by
  rw [fitsIndex_both h1 h2]
  exact Bool.false_ne_true
 have hlong:¬ Builtin.List.listTooLong (its.toArray.size * k.toNat)=true:=by
  rw [zi3 hlen]
  exact Bool.false_ne_true
 have hnew:List.foldl (fun x1 x2=>x1 ++ x2) #[] (List.replicate (if its.toArray.isEmpty=true then 0 else k.toNat) its.toArray)=(List.replicate k.toNat its).flatten.toArray:=by
  have f0:∀ m:Nat,List.foldl (fun x1 x2=>x1 ++ x2) #[] (List.replicate m its.toArray)=(List.replicate m its).flatten.toArray:=fun m=>by
   have:=zg9 its m []
   rw [List.nil_append] at this
   exact this
  rw [f0]
  cases its with
  | nil=>simp
  | cons a r'=>rw [if_neg (by simp)]
 refine wpAny_binaryOp_repeat_ref (T := "list") (U := "int") (by decide) ⟨_,e,rfl⟩ (fun s'=>typeIs_int s' k t) noFill_list_mul F.fills_int_mul F.slot_int_rmul repeat_list F.slot_int_index.lookup
  (call_meets F.slot_int_rmul (typeIs_int s k t) F.entry_int_rmul (F.args_int_rmul_2 _ _) (int___rmul___int_list k t l its.toArray n)
   ⟨e,rfl,⟨_,e,rfl⟩,call_meets F.slot_list_mul ⟨_,e,rfl⟩ F.entry_list_mul (F.args_list_mul_2 _ _) (AutoListH.list___mul___list_int_3 l its.toArray n k t hfit hcap hlong) ⟨e,?_⟩⟩)
 rw [hnew]
 exact⟨.ref _,_,I.lnew (t':=s.toks) (r.rep k.toNat) (by rw [zo8,Nat.mul_comm];exact hz),rfl,q _ I.fresh⟩
end
section
variable {prog:Program} {w:World} {A:Around} {E:Value→Shared→Prop} {s:Shared}
set_option maxRecDepth 100000 in
end
section
variable {X:Cx}
end
end L2
namespace Att
open PySem PySem.W PySem.Calls PyProof.Rows
theorem zff {P:Params} {h:Heap}:∀ (ns:List Int) (vs:List Value),WellAll P h vs (ns.map WData.int)→IntsAre vs ns:=by
 intro ns
 induction ns with
 | nil =>
  intro vs w
  rw [List.map_nil] at w
  cases w
  exact .nil
 | cons n ns ih =>
  intro vs w
  rw [List.map_cons] at w
  cases w with
  | cons a b =>
   cases a
   exact .cons _ _ (ih _ b)
theorem zkO {l:OpenLaw} {n:Nat} (hn:l.most=some n) {P:Params} {h:Heap} {args:List WData} {vals:List Value}
  (hpre:l.row.toRowW.claim.pre args=true) (hwl:WellAll P h vals args) :
  ∃ a vs ns,vals=[Value.ref a]∧args=[WData.list (ns.map WData.int)]∧h.get? a=some { cls:=.type "list", data:=.seq vs.toArray }∧IntsAre vs ns∧ns.length≤n:=by
 have hsh:WShape.hasAll [] args [.list .int]=true:=(pre_splitW hpre).1
 have hc:l.pre.holds [] { args:=args } = true:=(pre_splitW hpre).2
 obtain⟨d,r,rfl,h1,h2⟩:=hasAllW_cons hsh
 obtain rfl:=hasAllW_nil h2
 obtain⟨xs,rfl,h3⟩:=hasW_list h1
 obtain⟨ns,rfl⟩:=items_int h3
 have hlen:ns.length≤n:=by
  unfold OpenLaw.pre at hc
  have h4:(WTm.not (.lt (.lit (.int (n:Int))) (.len (.arg 0)))).holds [] { args:=[.list (ns.map .int)] } = true:=by
   have h4:=(holds_andW hc).1
   rw [hn] at h4
   exact h4
  have h5:=condW_of h4 (w_not (w_lt w_lit (w_len_list (w_arg rfl))))
  rw [List.length_map] at h5
  refine Nat.le_of_not_lt fun q=>?_
  have q':(n:Int) < ((ns.length:Nat):Int):=by lia
  first
   | (rw [decide_eq_true q'] at h5;exact absurd h5 (by decide))
   | (simp at h5;lia)
 cases hwl with
 | cons w1 w2 =>
  cases w2
  cases w1 with
  | list ho hall=>exact⟨_,_,ns,rfl,rfl,ho,zff ns _ hall,hlen⟩
theorem zk1 (l:OpenLaw) (args:List WData):l.row.toRowW.claim.post args (.bool true) args=true:=
 postW_of (r:=l.row.toRowW) (X:=(true == true))
  (show WShape.has [] (.bool true) .bool=true by first | rfl | decide | simp [WShape.has,WShape.arms,WShape.armsAll])
  (show (WTm.eq .res (.lit (.bool true))).value [] { args:=args,res:=some (.bool true),after:=args } = some (.bool (true == true)) from w_eq_bool (w_res rfl) w_lit) rfl
theorem attach_call {l:OpenLaw} {n:Nat} {q:Program} {loose:List Str} {XP:(Str→Option Value)→Heap→Prop} {YP:World→Heap→Prop} {d:DefRec}
  (hn:l.most=some n) (hdf:d.params.defaults=[])
  (call:∀ (w:World) (s₀ s₁:Shared) (mg mb:Str→Option Value) (fa:Addr) (o:Obj) (pm cd doc:Value) (a:Addr) (vs:List Value) (ns:List Int),
   Ground q loose [] XP w s₀ mg mb s₁.heap→YP w s₁.heap →
   s₁.heap.get? fa=some o→o.data=.func (docDef d.name d.params d.body d.scope pm cd doc)→s₁.heap.CodeRec cd d.name→mg d.name=some (.ref fa) →
   s₁.heap.get? a=some { cls:=.type "list", data:=.seq vs.toArray }→IntsAre vs ns→ns.length≤n→s₁.gens = #[] →
   codeAny (model l.prog w) callerA (.call (.ref fa) ⟨[.ref a],[]⟩) (fun r s'=>r=.ok (.ret (.bool true))∧OldK s₁.heap s'.heap∧s'.os=s₁.os∧AllBare s'.gens) s₁) :
  WalkO q loose XP YP l.row.toRowW d [] (fun f vs=>PySem.call f vs):=by
 intro w s₀ s₁ mg mb G Y fa o pm cd doc dV kV ho hd hcd hD hmg hg args vals as hpre hlay hrd hwl hlo
 obtain rfl:dV=.none:=Dflts.none hD hdf
 obtain rfl:kV=.none:=Dflts.noKw hD
 obtain⟨a,vs,ns,rfl,rfl,hobj,hints,hlen⟩:=zkO hn hpre hwl
 refine enter_call (codeAny_mono (call w s₀ s₁ mg mb fa o pm cd doc a vs ns G Y ho (fd_plain hd) hcd hmg hobj hints hlen hg) fun r s' hq=>?_)
 obtain⟨rfl,h2,h3,h4⟩:=hq
 exact⟨.inl ⟨.bool true,.bool true,[],rfl,fun _=>rfl,.bool true,zk1 l _,fun _=>⟨List.Pairwise.nil,fun _ hm=>(nomatch hm)⟩⟩,h2,h3,h4⟩
section
variable {prog:Program} {w:World} {A:Around} {E:Value→Shared→Prop} {s:Shared} {K:Frag}
end
end Att
namespace L2
open PySem PySem.Spec PyProof.Rows
theorem zdp:∀ {vs:List Value} {ns:List Int},IntsAre vs ns→Vals (ns.map V.int) vs
 | _,_,.nil=>.nil
 | _,_,.cons n t h=>.cons ⟨t,rfl⟩ (zdp h)
def Only (H:Hp):Prop:=∀ b,H b=none∨∃ o xs,H b=some (.frz o (.lst xs))
theorem zmK {P:Program} {w:World} {K:PySem.W.Frag} {mg mb:Str→Option Value} {CX:CXT} {k:Nat} {fa a:Addr} {fd:FuncData} {x:Str} {sp:Sp} {s₁:Shared} {vs:List Value} {ns:List Int}
  (KX:K.In s₁.heap) (hns:s₁.heap.Ns mainGlobals mg) (hb:s₁.heap.Ns builtinsNs mb) (hbb:∀ x:Str,x ≠ "__name__" → mb x=bootBuiltins x) (hlim:s₁.heap.NoLimit) (hg:s₁.gens = #[])
  (ha:s₁.heap.get? a=some { cls:=.type "list", data:=.seq vs.toArray }) (hi:IntsAre vs ns) (hl:ns.length≤sizeLine) (hr:Room k callerA)
  (F:∀ base:Heap,K.In base→base.Ns mainGlobals mg→FnOk P w K mg base CX k fa fd [x] sp) (hbind:∀ (s:Shared) (u:Value),BindsTo s fd ⟨[u],[]⟩ [(x,u)])
  (hsp:∀ H:Hp,Only H→SqL K H a (ns.map V.int)→sp [.ref a] H (fun v _=>v=.bl true) fun _ _ _=>False)
  (hCX:∀ H e s',CX [] H s₁ (fun _ _ _=>False) e s'→False) :
  codeAny (model P w) callerA (.call (.ref fa) ⟨[.ref a],[]⟩) (fun r s'=>r=.ok (.ret (.bool true))∧OldK s₁.heap s'.heap∧s'.os=s₁.os∧AllBare s'.gens) s₁:=by
 have rv:=zdp hi
 have lenV:=hi.length
 have core:∀ H:Hp,Only H→SqL K H a (ns.map V.int)→HOk P w H s₁.heap→(∀ b,H b≠none→b=a)→(H a≠none→K.lookup a=none) →
   codeAny (model P w) callerA (.call (.ref fa) ⟨[.ref a],[]⟩) (fun r s'=>r=.ok (.ret (.bool true))∧OldK s₁.heap s'.heap∧s'.os=s₁.os∧AllBare s'.gens) s₁:=by
  intro H hO hS hok hA hK
  have base_of:∀ {b:Addr} {o:Obj},s₁.heap.get? b=some o→H b=none→(hidT s₁.heap H).get? b=some o:=fun e n=>zmQ e n
  have noA:∀ {b:Addr} {o:Obj} {es:Array DictEntry} {ep:Nat},s₁.heap.get? b=some o→o.data=.dict es ep→H b=none:=fun {b o es ep} e d=>by
   cases q:H b with
   | none=>rfl
   | some u =>
    have e':b=a:=hA b (by rw [q];simp)
    subst e'
    rw [ha] at e;cases e
    have d':Data.seq vs.toArray _=Data.dict es ep:=d
    cases d'
  have nsK:∀ {b:Addr} {m:Str→Option Value},s₁.heap.Ns b m→(hidT s₁.heap H).Ns b m:=fun {b m} ⟨o,es,ep,e,d,r⟩=>⟨o,es,ep,base_of e (noA e d),d,r⟩
  have hKb:K.In (hidT s₁.heap H):=fun b o e=>base_of (KX b o e) (by
   cases q:H b with
   | none=>rfl
   | some u =>
    have e':b=a:=hA b (by rw [q];simp)
    subst e'
    rw [hK (by rw [q];simp)] at e;cases e)
  have hM:Mod K mg (hidT s₁.heap H):=⟨hKb,nsK hns,⟨mb,nsK hb,hbb⟩,let ⟨mc,h1,h2⟩:=hlim;⟨mc,nsK h1,h2⟩⟩
  have e0:Env0 P w K mg (hidT s₁.heap H) callerA [] s₁ H:=⟨rfl,hM,fun b o e=>zoS e,Nat.le_of_eq (zlG _ _),trivial,fun b hb=>absurd (show b∈([]:List Addr) from hb) (by simp),hok,.of_eq hg⟩
  refine codeAny_mono ((F _ hKb (nsK hns)).run callerA [] s₁ H ⟨[.ref a],[]⟩ [.ref a] [.ref a] _ _ hr e0 (hbind s₁ (.ref a)) (.cons rfl .nil) (hsp H hO hS)) fun r s' h=>?_
  cases r with
  | error e=>exact (hCX H e s' h).elim
  | ok fl =>
   cases fl with
   | next=>exact False.elim h
   | brk=>exact False.elim h
   | cont=>exact False.elim h
   | ret u =>
    obtain⟨v,H',os,bare,un,hok',r',q⟩:=h
    have q':v=.bl true:=q
    subst q'
    obtain rfl:u=Value.bool true:=r'
    refine ⟨rfl,OldK.of_keep fun b o e=>?_,os,bare⟩
    cases q:H b with
    | none=>exact un.keep b o e q (by intro z;exact absurd (show b∈([]:List Addr) from z) (by simp)) (by simp)
    | some u =>
     rcases hO b with z | ⟨ob,xs,z⟩
     ·rw [q] at z;cases z
     ·have z2:=un.frzs b ob _ z
      obtain⟨e1,_⟩:=hok b _ z
      obtain⟨e2,_⟩:=hok' b _ z2
      rw [e] at e1;cases e1
      exact e2
 cases hk:K.lookup a with
 | some o =>
  have e:=KX a o hk
  rw [ha] at e
  cases e
  refine core (fun _=>none) (fun _=>.inl rfl) (.inr ⟨_,vs.toArray,_,hk,rfl,rfl,rfl,by rw [List.size_toArray,lenV];exact hl,by simpa using rv⟩) (fun b u z=>by have z':(none:Option HO)=some u:=z;cases z') (fun b z=>absurd rfl z) fun z=>absurd rfl z
 | none =>
  refine core (fun b=>if b=a then some (.frz { cls:=.type "list", data:=.seq vs.toArray } (.lst (ns.map V.int))) else none) (fun b=>?_) (.inl (.inr ⟨{ cls:=.type "list", data:=.seq vs.toArray },if_pos rfl⟩)) (fun b u z=>?_) (fun b z=>?_) fun _=>hk
  ·by_cases hb:b=a
   ·exact .inr ⟨_,_,if_pos hb⟩
   ·exact .inl (if_neg hb)
  ·by_cases hb:b=a
   ·have z':=(if_pos hb).symm.trans z
    cases z'
    subst hb
    exact⟨ha,by rw [List.length_map];exact hl,vs,_,rv,ha⟩
   ·have z':=(if_neg hb).symm.trans z
    cases z'
  ·by_cases hb:b=a
   ·exact hb
   ·exact absurd (if_neg hb) z
end L2
namespace L2
open PySem PySem.Spec PyProof.Rows
noncomputable abbrev KOf {K:PySem.W.Frag} {h:Heap} (_:K.In h):PySem.W.Frag:=K
theorem walk_of {l:PySem.W.OpenLaw} {n k:Nat} {q:Program} {loose:List Str} {XP:(Str→Option Value)→Heap→Prop} {YP:World→Heap→Prop} {d:DefRec} {K:Params→PySem.W.Frag} {CX:World→CXT} {sp:World→Sp} {x:Str}
  (hn:l.most=some n) (hn2:n≤sizeLine) (hdf:d.params.defaults=[]) (hr:Room k callerA)
  (hY:∀ (w:World) (h:Heap),YP w h→(K w.params).In h)
  (F:∀ (w:World) (mg:Str→Option Value) (fa:Addr) (h:Heap),(K w.params).In h→h.Ns mainGlobals mg→mg d.name=some (.ref fa) →
   ∃ fd:FuncData,(∀ (s:Shared) (u:Value),BindsTo s fd ⟨[u],[]⟩ [(x,u)]) ∧
    ∀ base:Heap,(K w.params).In base→base.Ns mainGlobals mg→FnOk l.prog w (K w.params) mg base (CX w) k fa fd [x] (sp w))
  (hsp:∀ (w:World) (H:Hp) (a:Addr) (ns:List Int),ns.length≤n→Only H→SqL (K w.params) H a (ns.map V.int)→sp w [.ref a] H (fun v _=>v=.bl true) fun _ _ _=>False)
  (hCX:∀ (w:World) (H:Hp) (s:Shared) (e:Value) (s':Shared),CX w [] H s (fun _ _ _=>False) e s'→False) :
  PySem.W.WalkO q loose XP YP l.row.toRowW d [] (fun f vs=>PySem.call f vs):=by
 refine Att.attach_call hn hdf fun w s₀ s₁ mg mb fa o pm cd doc a vs ns G Y ho hd hcd hmg hobj hints hlen hg=>?_
 have KX:=hY w _ Y
 obtain⟨fd,hb,hF⟩:=F w mg fa _ KX G.T.g hmg
 exact zmK KX G.T.g G.T.b G.T.builtins G.T.nolimit hg hobj hints (Nat.le_trans hlen hn2) hr hF hb (fun H hO hS=>hsp w H a ns hlen hO hS) fun H e s'=>hCX w H s₁ e s'
end L2
namespace L2
open PySem PySem.Spec PyProof.Rows
noncomputable def defArgs (s:Stmt):Arguments:=match s with
 | .FunctionDef _ a _ _ _ _ _ _ _ _=>a
 | _=>{ posonlyargs:=[],args:=[],vararg:=none,kwonlyargs:=[],kw_defaults:=[],kwarg:=none,defaults:=[] }
noncomputable def defBody (s:Stmt):List Stmt:=match s with
 | .FunctionDef _ _ b _ _ _ _ _ _ _=>b
 | _=>[]
noncomputable def defScope (s:Stmt):Scope:=match s with
 | .FunctionDef _ _ _ _ _ _ sc _ _ _=>sc
 | _=>{ kind:=.function,names:=[],isGenerator:=false,isCoroutine:=false }
structure Fun (K:PySem.W.Frag) (x qual:Str) (st:Stmt) (f:Addr) (fd:FuncData):Prop where
 ex:∃ (oc:Value) (od:Option Addr) (kV doc pm:Value) (an:Option Addr) (cdv ct:Value) (osl:Array (Option Value)),
  fd=PySem.W.fnOf x qual (defArgs st) (defBody st) (defScope st) .none kV doc pm an cdv ct∧K.lookup f=some ⟨oc,od,.func fd,osl⟩∧PySem.W.codeIn K cdv qual=true
 kp:PySem.W.keepIn K (.ref f)=true
section
variable {P:Program} {w:World} {K:PySem.W.Frag} {mg:Str→Option Value} {base:Heap}
theorem Fun.binds {x qual:Str} {st:Stmt} {f:Addr} {fd:FuncData} {ps:List Str} (F:Fun K x qual st f fd)
  (h:∀ (kV doc pm:Value) (an:Option Addr) (cdv ct:Value) (us:List Value),us.length=ps.length→bindArgs (PySem.W.fnOf x qual (defArgs st) (defBody st) (defScope st) .none kV doc pm an cdv ct) ⟨us,[]⟩=pure (ps.zip us)):zbc K fd ps []:=by
 obtain⟨oc,od,kV,doc,pm,an,cdv,ct,osl,rfl,lk,hcd⟩:=F.ex
 exact .all (h kV doc pm an cdv ct)
theorem zaS {x qual:Str} {st:Stmt} {f:Addr} {oc:Value} {od an:Option Addr} {osl:Array (Option Value)} {kV doc pm cdv ct:Value} (l:K.lookup f=some ⟨oc,od,.func (PySem.W.fnOf x qual (defArgs st) (defBody st) (defScope st) .none kV doc pm an cdv ct),osl⟩)
  (c:PySem.W.codeIn K cdv qual=true) (k:PySem.W.keepIn K (.ref f)=true):Fun K x qual st f (PySem.W.fnOf x qual (defArgs st) (defBody st) (defScope st) .none kV doc pm an cdv ct):=⟨⟨oc,od,kV,doc,pm,an,cdv,ct,osl,rfl,l,c⟩,k⟩
end
theorem zkM {n:Nat} (h:n≤1000):n < sizeLine:=Nat.lt_of_le_of_lt h (by decide)
section
variable {X:Cx}
theorem pv (i:Nat) {x:Str} {pos:Pos} (hN:X.N[i]? = some x:=by rfl) (hv:Vis X.env.scope x:=by first | exact Or.inl rfl | exact Or.inr (Or.inl rfl) | exact Or.inr (Or.inr rfl)) (hd:(x == ("__debug__" : Str))=false:=by decide)
  (hcd:(x == ("__classdict__" : Str))=false:=by decide):PE X (.Name x pos) (tVar i):=zqo hN hv hd hcd
end
def Same (H H':Hp):Prop:=∀ b o,H b=some o→H' b=some o
theorem Same.refl (H:Hp):Same H H:=fun _ _ h=>h
theorem Same.trans {H H1 H2:Hp} (a:Same H H1) (b:Same H1 H2):Same H H2:=fun c o h=>b c o (a c o h)
theorem Same.free {H H':Hp} (e:Same H H') {l:Addr} (h:H' l=Option.none):H l=Option.none:=by
 cases q:H l with
 | none=>rfl
 | some o =>
  rw [e l o q] at h
  cases h
end L2
namespace Srt
open PySem PyProof.Rows
section
variable {σ:Type} {M:Model} {A:Around} {E:Value→Shared→Prop} {s:Shared} {α:Type}
theorem zap {c:Prop} {d:Decidable c} {m n:StateT σ Sem α} {Q:α→σ→Prop} {st:σ} (h:c) (k:wpS M A E s m Q st):wpS M A E s (@ite _ c d m n) Q st:=by rw [if_pos h];exact k
theorem zan {c:Prop} {d:Decidable c} {m n:StateT σ Sem α} {Q:α→σ→Prop} {st:σ} (h:¬c) (k:wpS M A E s n Q st):wpS M A E s (@ite _ c d m n) Q st:=by rw [if_neg h];exact k
end
class SK where
 rk:Keyed→Int
 dom:Keyed→Prop
noncomputable abbrev key [SK] (p:Keyed):Int:=SK.rk p
def IntK [SK] (p:Keyed):Prop:=SK.dom p
class SKL (prog:Program) (w:World) (A:Around) (E:Value→Shared→Prop) (s:Shared) [SK]:Prop where
 lt:∀ {st:SortSt} {x y:Keyed} {Q:Option Bool→SortSt→Prop},kindOf st=oneType'→IntK x→IntK y→Q (some (decide (key x < key y))) st→wpS (model prog w) A E s (lt' x y) Q st
noncomputable def K [SK] (xs:Array Keyed) (i:Nat):Int:=match xs[i]? with
 | some p=>key p
 | none=>0
def zbv [SK] (xs:Array Keyed):Prop:=∀ p∈xs.toList,IntK p
def zdO [SK] (xs:Array Keyed) (k:Nat):Prop:=∀ i j,i≤j→j < k→K xs i≤K xs j
variable [SK]
theorem zea {xs ys:Array Keyed} {i j:Nat} (h:xs[i]? = ys[j]?):K xs i=K ys j:=by unfold K;rw [h]
theorem znz {xs:Array Keyed} {a d:Nat} (hs:a < xs.size) (hd:d≤a) (k:Nat):K (bubble xs a d) k=if k=a - d then K xs a else if a - d < k∧k≤a then K xs (k - 1) else K xs k:=by
 have e:=getElem?_bubble hs d hd k
 by_cases h1:k=a - d
 ·rw [if_pos h1] at e ⊢;exact zea e
 ·rw [if_neg h1] at e ⊢
  by_cases h2:a - d < k∧k≤a
  ·rw [if_pos h2] at e ⊢;exact zea e
  ·rw [if_neg h2] at e ⊢;exact zea e
theorem zdU {xs:Array Keyed} {i j:Nat} (hj:j≤xs.size) (k:Nat):K (mirror xs i j ((j - i) / 2)) k=if i≤k∧k < j then K xs (i + j - 1 - k) else K xs k:=by
 have e:=getElem?_mirror_all (i:=i) hj k
 by_cases h1:i≤k∧k < j
 ·rw [if_pos h1] at e ⊢;exact zea e
 ·rw [if_neg h1] at e ⊢;exact zea e
theorem zjD {xs:Array Keyed} {a b:Nat} (hb:b≤xs.size) (e:∀ k,a≤k→k < b→K xs k=K xs (b - 1)):∀ k,K (mirror xs a b ((b - a) / 2)) k=K xs k:=fun k=>by
 by_cases h:a≤k∧k < b
 ·rw [zdU hb,if_pos h,e _ (by lia) (by lia),e k h.1 h.2]
 ·rw [zdU hb,if_neg h]
noncomputable def zc9:Bool→Keyed→Array Keyed→Nat→Nat→Nat→StateT SortSt Sem (Option Nat):=sortPriv% PySem.Builtin.gallop
section
variable {prog:Program} {w:World} {A:Around} {E:Value→Shared→Prop} {s:Shared} [SKL prog w A E s]
theorem zgJ {st:SortSt} {x y:Keyed} {Q:Option Bool→SortSt→Prop} (hk:kindOf st=oneType') (hx:IntK x) (hy:IntK y) (h:Q (some (decide (key x < key y))) st) :
  wpS (model prog w) A E s (lt' x y) Q st:=SKL.lt hk hx hy h
theorem zax {st:SortSt} {arr:Array Keyed} {i:Nat} {p:Keyed} {Q:Keyed→SortSt→Prop} (h1:arr[i]? = some p) (h:Q p st):wpS (model prog w) A E s (elem' arr i) Q st:=by
 rw [elem'_eq,h1]
 exact wpS_pure h
noncomputable def ask (left:Bool) (k:Keyed) (arr:Array Keyed) (base i:Nat):Bool:=match arr[base + i]? with
 | some p=>if left then decide (key p < key k) else !decide (key k < key p)
 | none=>false
theorem zfJ {left:Bool} {k:Keyed} {arr:Array Keyed} {base n hint:Nat} {st:SortSt} {Q:Option Nat→SortSt→Prop} (hk:kindOf st=oneType') (hkey:IntK k)
  (harr:∀ i,i < n→∃ p,arr[base + i]? = some p∧IntK p) (hn:hint < n) (mono:∀ i j,i≤j→j < n→ask left k arr base j=true→ask left k arr base i=true)
  (h:∀ m,m≤n→(∀ i,i < m→ask left k arr base i=true)→(∀ i,m≤i→i < n→ask left k arr base i=false)→Q (some m) st) :
  wpS (model prog w) A E s (zc9 left k arr base n hint) Q st:=by
 have one:∀ (i:Nat) (R:Option Bool→SortSt→Prop),i < n→R (some (ask left k arr base i)) st→wpS (model prog w) A E s (do
   let x ← elem' arr (base + i)
   if left=true then lt' x k else do
    let r ← lt' k x
    pure (Option.map (fun x=>!x) r)) R st:=by
  intro i R hi hR
  obtain⟨p,e,hp⟩:=harr i hi
  refine wpS_bind (zax e ?_)
  unfold ask at hR
  rw [e] at hR
  cases left with
  | true=>exact zgJ hk hp hkey hR
  | false=>exact wpS_bind (zgJ hk hkey hp (wpS_pure hR))
 have half:∀ (lo hi:Nat),lo≤hi→hi≤n→(∀ i,i < lo→ask left k arr base i=true)→(∀ i,hi≤i→i < n→ask left k arr base i=false) →
   wpS (model prog w) A E s (forIn [:n] ((none,lo,hi):Option (Option Nat)×Nat×Nat) fun _ c =>
    if c.2.1≥c.2.2 then pure (ForInStep.done (none,c.2.1,c.2.2)) else do
     let r ← (do
      let x ← elem' arr (base + (c.2.1 + (c.2.2 - c.2.1) / 2))
      if left=true then lt' x k else do
       let r ← lt' k x
       pure (Option.map (fun x=>!x) r))
     match r with
     | some more=>if more=true then pure (ForInStep.yield (none,c.2.1 + (c.2.2 - c.2.1) / 2 + 1,c.2.2)) else pure (ForInStep.yield (none,c.2.1,c.2.1 + (c.2.2 - c.2.1) / 2))
     | _=>pure (ForInStep.done (some none,c.2.1,c.2.2)))
    (fun c st'=>st'=st∧c.1=none∧c.2.2≤n∧(∀ i,i < c.2.2→ask left k arr base i=true)∧(∀ i,c.2.2≤i→i < n→ask left k arr base i=false)) st:=by
  intro lo hi h1 h2 h3 h4
  refine wpS_forRange (I:=fun x c st'=>st'=st∧c.1=none∧c.2.1≤c.2.2∧c.2.2≤n∧c.2.2 - c.2.1≤n - x∧(∀ i,i < c.2.1→ask left k arr base i=true)∧(∀ i,c.2.2≤i→i < n→ask left k arr base i=false)) ?step ?fin ⟨rfl,rfl,h1,h2,by show hi - lo≤n - 0;lia,h3,h4⟩
  case fin =>
   rintro ⟨r,l,u⟩ st' ⟨rfl,e,h1,h2,h3,h4,h5⟩
   dsimp only at *
   have:l=u:=by lia
   subst this
   exact⟨rfl,e,h2,h4,h5⟩
  case step =>
   rintro x ⟨r,l,u⟩ st' _ hx ⟨rfl,e,h1,h2,h3,h4,h5⟩
   dsimp only at *
   subst e
   by_cases hge:l≥u
   ·refine zap hge ?_
    have:l=u:=by lia
    subst this
    exact wpS_pure ⟨rfl,rfl,h2,h4,h5⟩
   ·refine zan hge ?_
    have hm:l + (u - l) / 2 < n:=by lia
    refine wpS_bind (one _ _ hm ?_)
    cases e:ask left k arr base (l + (u - l) / 2) with
    | true =>
     dsimp only
     refine zap rfl ?_
     exact wpS_pure ⟨rfl,rfl,(by dsimp only;lia),h2,(by dsimp only;lia),fun i hi=>mono i _ (by dsimp only at hi;lia) hm e,h5⟩
    | false =>
     dsimp only
     refine zan (by simp) ?_
     refine wpS_pure ⟨rfl,rfl,(by dsimp only;lia),(by dsimp only;lia),(by dsimp only;lia),h4,fun i h6 h7=>?_⟩
     cases e':ask left k arr base i with
     | false=>rfl
     | true=>rw [mono _ i h6 h7 e'] at e;cases e
 refine wpS_bind (one hint _ hn ?_)
 cases e0:ask left k arr base hint with
 | true =>
  dsimp only
  refine zap rfl ?_
  refine wpS_bind (wpS_mono (wpS_forRange (a:=0) (b:=n) (I:=fun x c st'=>st'=st∧c.1=none∧c.2.1 < c.2.2∧x + 1≤c.2.2∧hint + c.2.1 < n∧ask left k arr base (hint + c.2.1)=true)
   (Q:=fun c st'=>st'=st∧c.1=none∧c.2.1 < c.2.2∧hint + c.2.1 < n∧ask left k arr base (hint + c.2.1)=true∧(n - hint≤c.2.2∨(c.2.2 < n - hint∧ask left k arr base (hint + c.2.2)=false))) ?step ?fin ?init) ?post)
  case init=>exact⟨rfl,rfl,by decide,by decide,by simpa using hn,by simpa using e0⟩
  case fin =>
   rintro ⟨r,l,u⟩ st' ⟨rfl,e,h1,h2,h3,h4⟩
   dsimp only at *
   exact⟨rfl,e,h1,h3,h4,.inl (by lia)⟩
  case step =>
   rintro x ⟨r,l,u⟩ st' _ hx ⟨rfl,e,h1,h2,h3,h4⟩
   dsimp only at *
   subst e
   by_cases hge:u≥n - hint
   ·refine zap hge ?_
    exact wpS_pure ⟨rfl,rfl,h1,h3,h4,.inl hge⟩
   ·refine zan hge ?_
    refine wpS_bind (one _ _ (by lia) ?_)
    cases e:ask left k arr base (hint + u) with
    | true =>
     dsimp only
     refine zan (by simp) ?_
     exact wpS_pure ⟨rfl,rfl,by show u < 2 * u + 1;lia,by show x + 1 + 1≤2 * u + 1;lia,by show hint + u < n;lia,e⟩
    | false =>
     dsimp only
     refine zap (by simp) ?_
     exact wpS_pure ⟨rfl,rfl,h1,h3,h4,.inr ⟨(by dsimp only;lia),e⟩⟩
  case post =>
   rintro ⟨r,l,u⟩ st' ⟨rfl,e,h1,h3,h4,h5⟩
   dsimp only at *
   subst e
   dsimp only
   refine wpS_bind (wpS_mono (half (hint + l + 1) (hint + min u (n - hint)) (by lia) (by lia) (fun i hi=>mono i _ (by lia) h3 h4) fun i h6 h7=>?_) ?_)
   ·rcases h5 with h5 | ⟨h5,h8⟩
    ·lia
    ·cases e':ask left k arr base i with
     | false=>rfl
     | true=>rw [mono _ i (by lia) h7 e'] at h8;cases h8
   ·rintro ⟨r,l',u'⟩ st' ⟨rfl,e,h1,h2,h3⟩
    dsimp only at *
    subst e
    exact wpS_pure (h _ h1 h2 h3)
 | false =>
  dsimp only
  refine zan (by simp) ?_
  refine wpS_bind (wpS_mono (wpS_forRange (a:=0) (b:=n) (I:=fun x c st'=>st'=st∧c.1=none∧c.2.1 < c.2.2∧x + 1≤c.2.2∧c.2.1≤hint∧ask left k arr base (hint - c.2.1)=false)
   (Q:=fun c st'=>st'=st∧c.1=none∧c.2.1 < c.2.2∧c.2.1≤hint∧ask left k arr base (hint - c.2.1)=false∧(hint + 1≤c.2.2∨(c.2.2 < hint + 1∧ask left k arr base (hint - c.2.2)=true))) ?step ?fin ?init) ?post)
  case init=>exact⟨rfl,rfl,by decide,by decide,by simp,by simpa using e0⟩
  case fin =>
   rintro ⟨r,l,u⟩ st' ⟨rfl,e,h1,h2,h3,h4⟩
   dsimp only at *
   exact⟨rfl,e,h1,h3,h4,.inl (by lia)⟩
  case step =>
   rintro x ⟨r,l,u⟩ st' _ hx ⟨rfl,e,h1,h2,h3,h4⟩
   dsimp only at *
   subst e
   by_cases hge:u≥hint + 1
   ·refine zap hge ?_
    exact wpS_pure ⟨rfl,rfl,h1,h3,h4,.inl hge⟩
   ·refine zan hge ?_
    refine wpS_bind (one _ _ (by lia) ?_)
    cases e:ask left k arr base (hint - u) with
    | true =>
     dsimp only
     refine zap rfl ?_
     exact wpS_pure ⟨rfl,rfl,h1,h3,h4,.inr ⟨(by dsimp only;lia),e⟩⟩
    | false =>
     dsimp only
     refine zan (by simp) ?_
     exact wpS_pure ⟨rfl,rfl,by show u < 2 * u + 1;lia,by show x + 1 + 1≤2 * u + 1;lia,by show u≤hint;lia,e⟩
  case post =>
   rintro ⟨r,l,u⟩ st' ⟨rfl,e,h1,h3,h4,h5⟩
   dsimp only at *
   subst e
   dsimp only
   refine wpS_bind (wpS_mono (half (hint + 1 - min u (hint + 1)) (hint - l) (by lia) (by lia) (fun i hi=>?_) fun i h6 h7=>?_) ?_)
   ·rcases h5 with h5 | ⟨h5,h8⟩
    ·lia
    ·exact mono i _ (by lia) (by lia) h8
   ·cases e':ask left k arr base i with
    | false=>rfl
    | true=>rw [mono _ i h6 h7 e'] at h4;cases h4
   ·rintro ⟨r,l',u'⟩ st' ⟨rfl,e,h1,h2,h3⟩
    dsimp only at *
    subst e
    exact wpS_pure (h _ h1 h2 h3)
end
end Srt
namespace Srt
open PySem PyProof.Rows
variable [SK]
def Sr (l:List Keyed):Prop:=l.Pairwise fun x y=>key x≤key y
theorem Sr.drop {l:List Keyed} (h:Sr l) (n:Nat):Sr (l.drop n):=List.Pairwise.sublist (List.drop_sublist _ _) h
theorem Sr.take {l:List Keyed} (h:Sr l) (n:Nat):Sr (l.take n):=List.Pairwise.sublist (List.take_sublist _ _) h
theorem Sr.cut {l:List Keyed} (h:Sr l) (n:Nat):∀ x∈l.take n,∀ y∈l.drop n,key x≤key y:=by
 have h':Sr (l.take n ++ l.drop n):=by rw [List.take_append_drop];exact h
 exact (List.pairwise_append.mp h').2.2
theorem Sr.get {l:List Keyed} (h:Sr l) {i j:Nat} {x y:Keyed} (hij:i≤j) (hx:l[i]? = some x) (hy:l[j]? = some y):key x≤key y:=by
 obtain⟨h1,e1⟩:=List.getElem?_eq_some_iff.mp hx
 obtain⟨h2,e2⟩:=List.getElem?_eq_some_iff.mp hy
 by_cases e:i=j
 ·subst e;rw [← e1,← e2];exact Int.le_refl _
 ·rw [← e1,← e2];exact List.pairwise_iff_getElem.mp h i j h1 h2 (by lia)
structure MI (A B out:List Keyed) (ia ib:Nat):Prop where
 perm:out.Perm (A.take ia ++ B.take ib)
 sor:Sr out
 leA:∀ x∈out,∀ y∈A.drop ia,key x≤key y
 leB:∀ x∈out,∀ y∈B.drop ib,key x≤key y
section
variable {A B out:List Keyed} {ia ib:Nat}
theorem MI.manyB (h:MI A B out ia ib) (sB:Sr B) (k:Nat) (le:∀ x∈(B.drop ib).take k,∀ y∈A.drop ia,key x≤key y):MI A B (out ++ (B.drop ib).take k) ia (ib + k):=by
 refine ⟨?_,List.pairwise_append.mpr ⟨h.sor,(sB.drop ib).take k,fun x hx y hy=>h.leB x hx y (List.mem_of_mem_take hy)⟩,fun x hx y hy=>?_,fun x hx y hy=>?_⟩
 ·rw [List.take_add,← List.append_assoc]
  exact h.perm.append_right _
 ·rcases List.mem_append.mp hx with hx | hx
  ·exact h.leA x hx y hy
  ·exact le x hx y hy
 ·rw [← List.drop_drop] at hy
  rcases List.mem_append.mp hx with hx | hx
  ·exact h.leB x hx y (List.mem_of_mem_drop hy)
  ·exact (sB.drop ib).cut k x hx y hy
theorem MI.manyA (h:MI A B out ia ib) (sA:Sr A) (k:Nat) (le:∀ x∈(A.drop ia).take k,∀ y∈B.drop ib,key x≤key y):MI A B (out ++ (A.drop ia).take k) (ia + k) ib:=by
 refine ⟨?_,List.pairwise_append.mpr ⟨h.sor,(sA.drop ia).take k,fun x hx y hy=>h.leA x hx y (List.mem_of_mem_take hy)⟩,fun x hx y hy=>?_,fun x hx y hy=>?_⟩
 ·rw [List.take_add]
  refine (h.perm.append_right _).trans ?_
  rw [List.append_assoc,List.append_assoc]
  exact List.perm_append_comm.append_left _
 ·rw [← List.drop_drop] at hy
  rcases List.mem_append.mp hx with hx | hx
  ·exact h.leA x hx y (List.mem_of_mem_drop hy)
  ·exact (sA.drop ia).cut k x hx y hy
 ·rcases List.mem_append.mp hx with hx | hx
  ·exact h.leB x hx y hy
  ·exact le x hx y hy
theorem zbj {l:List Keyed} {i:Nat} {q:Keyed} (e:l[i]? = some q):(l.drop i).take 1=[q]:=by
 obtain⟨h1,e1⟩:=List.getElem?_eq_some_iff.mp e
 rw [List.drop_eq_getElem_cons h1,e1]
 rfl
theorem zcl {l:List Keyed} {i:Nat} {y:Keyed} (h:y∈l.drop i):∃ j,i≤j∧l[j]? = some y:=by
 obtain⟨j,hj⟩:=List.getElem?_of_mem h
 rw [List.getElem?_drop] at hj
 exact⟨i + j,Nat.le_add_right _ _,hj⟩
theorem zaM {l:List Keyed} {i k:Nat} {y:Keyed} (h:y∈(l.drop i).take k):∃ j,j < k∧l[i + j]? = some y:=by
 obtain⟨j,hj⟩:=List.getElem?_of_mem h
 rw [List.getElem?_take] at hj
 split at hj
 ·rename_i hlt
  rw [List.getElem?_drop] at hj
  exact⟨j,hlt,hj⟩
 ·cases hj
def Good (A B M:List Keyed):Prop:=M.Perm (A ++ B)∧Sr M
theorem MI.endAB (h:MI A B out ia ib) (sA:Sr A) (sB:Sr B) (le:∀ x∈A.drop ia,∀ y∈B.drop ib,key x≤key y):Good A B (out ++ A.drop ia ++ B.drop ib):=by
 refine ⟨?_,List.pairwise_append.mpr ⟨List.pairwise_append.mpr ⟨h.sor,sA.drop _,h.leA⟩,sB.drop _,fun x hx y hy=>?_⟩⟩
 ·refine ((h.perm.append_right _).append_right _).trans ?_
  have e:A ++ B=(A.take ia ++ A.drop ia) ++ (B.take ib ++ B.drop ib):=by rw [List.take_append_drop,List.take_append_drop]
  rw [e]
  simp only [List.append_assoc]
  refine List.Perm.append_left _ ?_
  rw [← List.append_assoc,← List.append_assoc]
  exact List.Perm.append_right _ List.perm_append_comm
 ·rcases List.mem_append.mp hx with hx | hx
  ·exact h.leB x hx y hy
  ·exact le x hx y hy
theorem MI.endBA (h:MI A B out ia ib) (sA:Sr A) (sB:Sr B) (le:∀ x∈B.drop ib,∀ y∈A.drop ia,key x≤key y):Good A B (out ++ B.drop ib ++ A.drop ia):=by
 refine ⟨?_,List.pairwise_append.mpr ⟨List.pairwise_append.mpr ⟨h.sor,sB.drop _,h.leB⟩,sA.drop _,fun x hx y hy=>?_⟩⟩
 ·refine ((h.perm.append_right _).append_right _).trans ?_
  have e:A ++ B=(A.take ia ++ A.drop ia) ++ (B.take ib ++ B.drop ib):=by rw [List.take_append_drop,List.take_append_drop]
  rw [e]
  simp only [List.append_assoc]
  refine List.Perm.append_left _ ?_
  rw [← List.append_assoc]
  exact List.perm_append_comm
 ·rcases List.mem_append.mp hx with hx | hx
  ·exact h.leA x hx y hy
  ·exact le x hx y hy
end
structure SameG (st st':SortSt):Prop where
 kind:kindOf st'=kindOf st
 arr:arrOf st'=arrOf st
 pend:pendingOf st'=pendingOf st
 failed:failedOf st'=failedOf st
theorem SameG.refl (st:SortSt):SameG st st:=⟨rfl,rfl,rfl,rfl⟩
theorem SameG.set {st st':SortSt} (h:SameG st st') (g:Nat):SameG st (SortSt.mk' (kindOf st') (arrOf st') (pendingOf st') g (failedOf st')):=⟨h.kind,h.arr,h.pend,h.failed⟩
theorem zaK {a:Array Keyed} {i:Nat} (h:i < a.size):∃ q,a[i]? = some q∧a.toList[i]? = some q:=⟨a[i],by simp [h],by simp [h]⟩
theorem zby {a:Array Keyed} {i:Nat} {q:Keyed} (h:a[i]? = some q):a.toList[i]? = some q:=by rw [Array.getElem?_toList];exact h
noncomputable def zmH:Array Keyed→Array Keyed→StateT SortSt Sem (Array Keyed):=sortPriv% PySem.Builtin.mergeLo
noncomputable def zmI:Array Keyed→Array Keyed→StateT SortSt Sem (Array Keyed):=sortPriv% PySem.Builtin.mergeHi
theorem zm8 {a:Array Keyed} (sa:Sr a.toList) (left:Bool) (k:Keyed) (base n:Nat) (hn:base + n≤a.size):∀ i j,i≤j→j < n→ask left k a base j=true→ask left k a base i=true:=by
 intro i j hij hj h
 obtain⟨p,e1,e2⟩:=zaK (a:=a) (i:=base + i) (by lia)
 obtain⟨q,e3,e4⟩:=zaK (a:=a) (i:=base + j) (by lia)
 have hle:=sa.get (by lia) e2 e4
 unfold ask at h ⊢
 rw [e1]
 rw [e3] at h
 cases left with
 | true =>
  simp only [if_true,decide_eq_true_eq] at h ⊢
  lia
 | false =>
  simp only [Bool.false_eq_true,if_false,Bool.not_eq_true',decide_eq_false_iff_not] at h ⊢
  lia
noncomputable abbrev LoC:=Option (Array Keyed)×Array Keyed×Nat×Nat×Nat×Nat×Nat
noncomputable def loT2 (a b:Array Keyed) (mg ac bc:Nat) (out:Array Keyed) (ia ib:Nat):StateT SortSt Sem (ForInStep LoC):=elem' a ia >>= fun p =>
 if (ia + 1 + 1 == a.size)=true then pure (.done (some (out.push p ++ b.extract ib ++ a.extract (ia + 1)),out.push p,ia + 1,ib,mg,ac,bc))
 else if (decide (ac < 7) && decide (bc < 7))=true then pure (.done (none,out.push p,ia + 1,ib,mg,ac,bc))
 else pure (.yield (none,out.push p,ia + 1,ib,mg,ac,bc))
noncomputable def loT1 (a b:Array Keyed) (mg ac bc:Nat) (out:Array Keyed) (ia ib:Nat):StateT SortSt Sem (ForInStep LoC):=elem' b ib >>= fun q =>
 if (ib + 1 == b.size)=true then pure (.done (some (out.push q ++ a.extract ia ++ b.extract (ib + 1)),out.push q,ia,ib + 1,mg,ac,bc))
 else elem' a ia >>= fun p=>zc9 true p b (ib + 1) (b.size - (ib + 1)) 0 >>= fun r=>match r with
  | some k=>if k > 0 then (if (ib + 1 + k == b.size)=true then pure (.done (some (out.push q ++ b.extract (ib + 1) (ib + 1 + k) ++ a.extract ia ++ b.extract (ib + 1 + k)),out.push q ++ b.extract (ib + 1) (ib + 1 + k),ia,ib + 1 + k,mg,ac,k))
    else loT2 a b mg ac k (out.push q ++ b.extract (ib + 1) (ib + 1 + k)) ia (ib + 1 + k)) else loT2 a b mg ac k (out.push q) ia (ib + 1)
  | _=>pure (.done (some (out.push q ++ a.extract ia ++ b.extract (ib + 1)),out.push q,ia,ib + 1,mg,ac,bc))
section
variable {prog:Program} {w:World} {X:Around} {E:Value→Shared→Prop} {s:Shared} [SKL prog w X E s]
theorem zf6 {left:Bool} {k:Keyed} {a:Array Keyed} {base n hint:Nat} {st:SortSt} {Q:Option Nat→SortSt→Prop} (hk:kindOf st=oneType') (hkey:IntK k) (ha:∀ p∈a.toList,IntK p) (sa:Sr a.toList)
  (hb:base + n≤a.size) (hn:hint < n)
  (h:∀ m,m≤n→(∀ i p,i < m→a[base + i]? = some p→if left then key p < key k else key p≤key k)→(∀ i p,m≤i→i < n→a[base + i]? = some p→if left then key k≤key p else key k < key p)→Q (some m) st) :
  wpS (model prog w) X E s (zc9 left k a base n hint) Q st:=by
 refine zfJ hk hkey (fun i hi=>?_) hn (zm8 sa left k base n hb) fun m hm h1 h2=>h m hm (fun i p hi e=>?_) fun i p hi hi' e=>?_
 ·obtain⟨q,e1,e2⟩:=zaK (a:=a) (i:=base + i) (by lia)
  exact⟨q,e1,ha q (List.mem_of_getElem? e2)⟩
 ·have:=h1 i hi
  unfold ask at this
  rw [e] at this
  cases left with
  | true=>simpa using this
  | false=>simpa using this
 ·have:=h2 i hi hi'
  unfold ask at this
  rw [e] at this
  cases left with
  | true=>simpa using this
  | false=>simpa using this
end
theorem zjj {a b out:Array Keyed} {ia ib:Nat} (sa:Sr a.toList) (sb:Sr b.toList) (hM:MI a.toList b.toList out.toList ia ib) (e:ib=b.size):Good a.toList b.toList (out ++ a.extract ia ++ b.extract ib).toList:=by
 have szB:b.toList.length=b.size:=by simp
 have q:=hM.endAB sa sb fun x _ y hy=>by
  rw [List.drop_eq_nil_of_le (by lia)] at hy
  cases hy
 simpa [List.extract_eq_take_drop,List.take_of_length_le] using q
theorem zjk {a b out:Array Keyed} {ia ib:Nat} {la:Keyed} (sa:Sr a.toList) (sb:Sr b.toList) (ela:a[a.size - 1]? = some la) (hlast:∀ x∈b.toList,key x < key la) (hM:MI a.toList b.toList out.toList ia ib) (e:ia + 1=a.size) :
  Good a.toList b.toList (out ++ b.extract ib ++ a.extract ia).toList:=by
 have szA:a.toList.length=a.size:=by simp
 have q:=hM.endBA sa sb fun x hx y hy=>by
  obtain⟨j,hj,ej⟩:=zcl hy
  have hj':j < a.toList.length:=(List.getElem?_eq_some_iff.mp ej).1
  have:j=a.size - 1:=by lia
  subst this
  rw [zby ela] at ej
  cases ej
  exact Int.le_of_lt (hlast x (List.mem_of_mem_drop hx))
 simpa [List.extract_eq_take_drop,List.take_of_length_le] using q
def LoQ (a b:Array Keyed) (st:SortSt) (lim:Nat) (c:LoC) (st':SortSt):Prop:=SameG st st'∧c.1=none∧MI a.toList b.toList c.2.1.toList c.2.2.1 c.2.2.2.1∧c.2.2.1 + 1 < a.size∧c.2.2.2.1 < b.size∧lim≤c.2.2.1 + c.2.2.2.1
def LoE (a b:Array Keyed) (st:SortSt) (lim:Nat) (c:LoC) (st':SortSt):Prop:=SameG st st'∧((∃ M:Array Keyed,c.1=some M∧Good a.toList b.toList M.toList) ∨
 (c.1=none∧MI a.toList b.toList c.2.1.toList c.2.2.1 c.2.2.2.1∧c.2.2.1 + 1 < a.size∧c.2.2.2.1 < b.size∧lim≤c.2.2.1 + c.2.2.2.1))
section
variable {prog:Program} {w:World} {X:Around} {E:Value→Shared→Prop} {s:Shared} [SKL prog w X E s] {a b:Array Keyed} {st st2:SortSt} {la:Keyed} {lim:Nat}
theorem ziC (sa:Sr a.toList) (sb:Sr b.toList) (ela:a[a.size - 1]? = some la) (hlast:∀ x∈b.toList,key x < key la) {mg ac bc:Nat} {out:Array Keyed} {ia ib:Nat} {p:Keyed} (hG:SameG st st2)
  (hM:MI a.toList b.toList out.toList ia ib) (ep:a[ia]? = some p) (h1:ia + 1 < a.size) (h2:ib < b.size) (h3:lim≤ia + ib) (hle:∀ y∈b.toList.drop ib,key p≤key y) :
  wpS (model prog w) X E s (loT2 a b mg ac bc out ia ib) (fun r st'=>match r with | .done c'=>LoE a b st lim c' st' | .yield c'=>LoQ a b st lim c' st') st2:=by
 refine wpS_bind (zax ep ?_)
 have ep2:=zby ep
 have hM':MI a.toList b.toList (out.push p).toList (ia + 1) ib:=by
  have z:=hM.manyA sa 1 (fun x hx y hy=>by
   rw [zbj ep2] at hx
   rw [List.mem_singleton.mp hx]
   exact hle y hy)
  rw [zbj ep2] at z
  simpa using z
 by_cases e3:(ia + 1 + 1 == a.size)=true
 ·refine zap e3 ?_
  exact wpS_pure ⟨hG,.inl ⟨_,rfl,zjk sa sb ela hlast hM' (by simpa using e3)⟩⟩
 ·refine zan e3 ?_
  have e3':ia + 1 + 1≠a.size:=by simpa using e3
  split
  ·exact wpS_pure ⟨hG,.inr ⟨rfl,hM',(by dsimp only;lia),h2,(by dsimp only;lia)⟩⟩
  ·exact wpS_pure ⟨hG,rfl,hM',(by dsimp only;lia),h2,(by dsimp only;lia)⟩
theorem ziD (hk:kindOf st=oneType') (ha:∀ p∈a.toList,IntK p) (hb:∀ p∈b.toList,IntK p) (sa:Sr a.toList) (sb:Sr b.toList) (ela:a[a.size - 1]? = some la) (hlast:∀ x∈b.toList,key x < key la)
  {mg ac bc:Nat} {out:Array Keyed} {ia ib:Nat} {q:Keyed} (hG:SameG st st2)
  (hM:MI a.toList b.toList out.toList ia ib) (eq:b[ib]? = some q) (h1:ia + 1 < a.size) (h2:ib < b.size) (h3:lim≤ia + ib) (hle:∀ y∈a.toList.drop ia,key q≤key y) :
  wpS (model prog w) X E s (loT1 a b mg ac bc out ia ib) (fun r st'=>match r with | .done c'=>LoE a b st lim c' st' | .yield c'=>LoQ a b st lim c' st') st2:=by
 refine wpS_bind (zax eq ?_)
 have eq2:=zby eq
 have hM':MI a.toList b.toList (out.push q).toList ia (ib + 1):=by
  have z:=hM.manyB sb 1 (fun x hx y hy=>by
   rw [zbj eq2] at hx
   rw [List.mem_singleton.mp hx]
   exact hle y hy)
  rw [zbj eq2] at z
  simpa using z
 by_cases e3:(ib + 1 == b.size)=true
 ·refine zap e3 ?_
  exact wpS_pure ⟨hG,.inl ⟨_,rfl,zjj sa sb hM' (by simpa using e3)⟩⟩
 refine zan e3 ?_
 have e3':ib + 1≠b.size:=by simpa using e3
 obtain⟨p,ep,ep2⟩:=zaK (a:=a) (i:=ia) (by lia)
 refine wpS_bind (zax ep (wpS_bind (zf6 (hG.kind.trans hk) (ha p (List.mem_of_getElem? ep2)) hb sb (by lia) (by lia) fun k hk1 hB1 hB2=>?_)))
 dsimp only
 simp only [if_true] at hB1 hB2
 have rest:∀ y∈b.toList.drop (ib + 1 + k),key p≤key y:=fun y hy=>by
  obtain⟨j,hj,ej⟩:=zcl hy
  have hj':j < b.size:=by
   have:=(List.getElem?_eq_some_iff.mp ej).1
   simpa using this
  refine hB2 (j - (ib + 1)) y (by lia) (by lia) ?_
  rw [show ib + 1 + (j - (ib + 1))=j by lia,← Array.getElem?_toList]
  exact ej
 by_cases hk0:k > 0
 ·refine zap hk0 ?_
  have hM3:MI a.toList b.toList (out.push q ++ b.extract (ib + 1) (ib + 1 + k)).toList ia (ib + 1 + k):=by
   have z:=hM'.manyB sb k (fun x hx y hy=>by
    obtain⟨j,hj,ej⟩:=zaM hx
    have z1:=hB1 j x hj (by rw [← Array.getElem?_toList];exact ej)
    obtain⟨i,hi,ei⟩:=zcl hy
    have z2:=sa.get hi ep2 ei
    lia)
   simpa [List.extract_eq_take_drop] using z
  by_cases e4:(ib + 1 + k == b.size)=true
  ·refine zap e4 ?_
   exact wpS_pure ⟨hG,.inl ⟨_,rfl,zjj sa sb hM3 (by simpa using e4)⟩⟩
  ·refine zan e4 ?_
   have e4':ib + 1 + k≠b.size:=by simpa using e4
   exact ziC sa sb ela hlast hG hM3 ep h1 (by lia) (by lia) rest
 ·refine zan hk0 ?_
  have hk00:k=0:=by lia
  subst hk00
  exact ziC sa sb ela hlast hG hM' ep h1 (by lia) (by lia) rest
end
noncomputable def loT0 (a b:Array Keyed) (mg ac bc:Nat) (out:Array Keyed) (ia ib:Nat):StateT SortSt Sem (ForInStep LoC):=elem' b ib >>= fun q=>zc9 false q a ia (a.size - ia) 0 >>= fun r=>match r with
 | some k=>if k > 0 then (if (ia + k + 1 == a.size)=true then pure (.done (some (out ++ a.extract ia (ia + k) ++ b.extract ib ++ a.extract (ia + k)),out ++ a.extract ia (ia + k),ia + k,ib,mg,k,bc))
   else if (ia + k == a.size)=true then pure (.done (some (out ++ a.extract ia (ia + k) ++ a.extract (ia + k) ++ b.extract ib),out ++ a.extract ia (ia + k),ia + k,ib,mg,k,bc))
   else loT1 a b mg k bc (out ++ a.extract ia (ia + k)) (ia + k) ib) else loT1 a b mg k bc out ia ib
 | _=>pure (.done (some (out ++ a.extract ia ++ b.extract ib),out,ia,ib,mg,ac,bc))
noncomputable abbrev Lo6:=Option (Array Keyed)×Array Keyed×Nat×Nat×Nat×Nat
noncomputable def loI (a b:Array Keyed) (mg ac bc:Nat) (out:Array Keyed) (ia ib:Nat):StateT SortSt Sem (ForInStep Lo6):=elem' b ib >>= fun q=>elem' a ia >>= fun p=>lt' q p >>= fun r=>match r with
 | some w=>if w=true then (elem' b ib >>= fun q=>if (ib + 1 == b.size)=true then pure (.done (some (out.push q ++ a.extract ia ++ b.extract (ib + 1)),out.push q,ia,ib + 1,0,bc + 1))
   else if bc + 1≥mg then pure (.done (none,out.push q,ia,ib + 1,0,bc + 1)) else pure (.yield (none,out.push q,ia,ib + 1,0,bc + 1)))
  else elem' a ia >>= fun p=>if (ia + 1 + 1 == a.size)=true then pure (.done (some (out.push p ++ b.extract ib ++ a.extract (ia + 1)),out.push p,ia + 1,ib,ac + 1,0))
   else if ac + 1≥mg then pure (.done (none,out.push p,ia + 1,ib,ac + 1,0)) else pure (.yield (none,out.push p,ia + 1,ib,ac + 1,0))
 | _=>pure (.done (some (out ++ a.extract ia ++ b.extract ib),out,ia,ib,ac,bc))
def Lo1 (a b:Array Keyed) (lim:Nat) (c:Option (Array Keyed)) (out:Array Keyed) (ia ib:Nat):Prop:=c=none∧MI a.toList b.toList out.toList ia ib∧ia + 1 < a.size∧ib < b.size∧lim≤ia + ib
theorem Lo1.mono {a b:Array Keyed} {l l':Nat} {c:Option (Array Keyed)} {out:Array Keyed} {ia ib:Nat} (h:Lo1 a b l c out ia ib) (e:l'≤l):Lo1 a b l' c out ia ib:=⟨h.1,h.2.1,h.2.2.1,h.2.2.2.1,Nat.le_trans e h.2.2.2.2⟩
section
variable {prog:Program} {w:World} {X:Around} {E:Value→Shared→Prop} {s:Shared} [SKL prog w X E s] {a b:Array Keyed} {st st2:SortSt} {la:Keyed} {lim:Nat}
theorem zod (hk:kindOf st=oneType') (ha:∀ p∈a.toList,IntK p) (hb:∀ p∈b.toList,IntK p) (sa:Sr a.toList) (sb:Sr b.toList) (ela:a[a.size - 1]? = some la) (hlast:∀ x∈b.toList,key x < key la)
  {mg ac bc:Nat} {out:Array Keyed} {ia ib:Nat} (hM:MI a.toList b.toList out.toList ia ib) (h1:ia + 1 < a.size) (h2:ib < b.size) (h3:lim≤ia + ib) :
  wpS (model prog w) X E s (loI a b mg ac bc out ia ib) (fun r st'=>match r with | .done c=>st'=st∧((∃ M:Array Keyed,c.1=some M∧Good a.toList b.toList M.toList)∨Lo1 a b (lim + 1) c.1 c.2.1 c.2.2.1 c.2.2.2.1) | .yield c=>st'=st∧Lo1 a b (lim + 1) c.1 c.2.1 c.2.2.1 c.2.2.2.1) st:=by
 obtain⟨q,eq1,eq2⟩:=zaK (a:=b) (i:=ib) h2
 obtain⟨p,ep1,ep2⟩:=zaK (a:=a) (i:=ia) (Nat.lt_of_succ_lt h1)
 refine wpS_bind (zax eq1 (wpS_bind (zax ep1 (wpS_bind (zgJ hk (hb q (List.mem_of_getElem? eq2)) (ha p (List.mem_of_getElem? ep2)) ?_)))))
 by_cases hlt:key q < key p
 ·refine zap (decide_eq_true hlt) (wpS_bind (zax eq1 ?_))
  have hM':MI a.toList b.toList (out.push q).toList ia (ib + 1):=by
   have z:=hM.manyB sb 1 (fun x hx y hy=>by
    rw [zbj eq2] at hx
    rw [List.mem_singleton.mp hx]
    obtain⟨j,hj,ej⟩:=zcl hy
    exact Int.le_trans (Int.le_of_lt hlt) (sa.get hj ep2 ej))
   rw [zbj eq2] at z
   simpa using z
  by_cases e3:(ib + 1 == b.size)=true
  ·exact zap e3 (wpS_pure ⟨rfl,.inl ⟨_,rfl,zjj sa sb hM' (by simpa using e3)⟩⟩)
  ·have l:Lo1 a b (lim + 1) none (out.push q) ia (ib + 1):=⟨rfl,hM',h1,Nat.lt_of_le_of_ne h2 (by simpa using e3),Nat.succ_le_succ h3⟩
   refine zan e3 ?_
   split
   ·exact wpS_pure ⟨rfl,.inr l⟩
   ·exact wpS_pure ⟨rfl,l⟩
 ·refine zan (by simpa using hlt) (wpS_bind (zax ep1 ?_))
  have hM':MI a.toList b.toList (out.push p).toList (ia + 1) ib:=by
   have z:=hM.manyA sa 1 (fun x hx y hy=>by
    rw [zbj ep2] at hx
    rw [List.mem_singleton.mp hx]
    obtain⟨j,hj,ej⟩:=zcl hy
    exact Int.le_trans (Int.not_lt.mp hlt) (sb.get hj eq2 ej))
   rw [zbj ep2] at z
   simpa using z
  by_cases e3:(ia + 1 + 1 == a.size)=true
  ·exact zap e3 (wpS_pure ⟨rfl,.inl ⟨_,rfl,zjk sa sb ela hlast hM' (by simpa using e3)⟩⟩)
  ·have l:Lo1 a b (lim + 1) none (out.push p) (ia + 1) ib:=⟨rfl,hM',Nat.lt_of_le_of_ne h1 (by simpa using e3),h2,by lia⟩
   refine zan e3 ?_
   split
   ·exact wpS_pure ⟨rfl,.inr l⟩
   ·exact wpS_pure ⟨rfl,l⟩
theorem ziE (hk:kindOf st=oneType') (ha:∀ p∈a.toList,IntK p) (hb:∀ p∈b.toList,IntK p) (sa:Sr a.toList) (sb:Sr b.toList) (ela:a[a.size - 1]? = some la) (hlast:∀ x∈b.toList,key x < key la)
  {mg ac bc:Nat} {out:Array Keyed} {ia ib:Nat} (hG:SameG st st2) (hM:MI a.toList b.toList out.toList ia ib) (h1:ia + 1 < a.size) (h2:ib < b.size) (h3:lim≤ia + ib) :
  wpS (model prog w) X E s (loT0 a b mg ac bc out ia ib) (fun r st'=>match r with | .done c'=>LoE a b st lim c' st' | .yield c'=>LoQ a b st lim c' st') st2:=by
 obtain⟨q,eq1,eq2⟩:=zaK (a:=b) (i:=ib) h2
 refine wpS_bind (zax eq1 (wpS_bind (zf6 (hG.kind.trans hk) (hb q (List.mem_of_getElem? eq2)) ha sa (by lia) (by lia) fun k hk1 hA1 hA2=>?_)))
 simp only [Bool.false_eq_true,if_false] at hA1 hA2
 have rest:∀ y∈a.toList.drop (ia + k),key q≤key y:=fun y hy=>by
  obtain⟨j,hj,ej⟩:=zcl hy
  have hj':j < a.size:=by
   have:=(List.getElem?_eq_some_iff.mp ej).1
   simpa using this
  refine Int.le_of_lt (hA2 (j - ia) y (by lia) (by lia) ?_)
  rw [show ia + (j - ia)=j by lia,← Array.getElem?_toList]
  exact ej
 by_cases hk0:k > 0
 ·refine zap hk0 ?_
  have hM3:MI a.toList b.toList (out ++ a.extract ia (ia + k)).toList (ia + k) ib:=by
   have z:=hM.manyA sa k (fun x hx y hy=>by
    obtain⟨j,hj,ej⟩:=zaM hx
    have z1:=hA1 j x hj (by rw [← Array.getElem?_toList];exact ej)
    obtain⟨i,hi,ei⟩:=zcl hy
    exact Int.le_trans z1 (sb.get hi eq2 ei))
   simpa [List.extract_eq_take_drop] using z
  by_cases e4:(ia + k + 1 == a.size)=true
  ·exact zap e4 (wpS_pure ⟨hG,.inl ⟨_,rfl,zjk sa sb ela hlast hM3 (by simpa using e4)⟩⟩)
  ·have hkb:¬ (a.size - 1 - ia < k):=fun hlt=>by
    have z1:=hA1 (a.size - 1 - ia) la hlt (by rw [show ia + (a.size - 1 - ia)=a.size - 1 by lia];exact ela)
    exact Int.not_lt.mpr z1 (hlast q (List.mem_of_getElem? eq2))
   have e4':ia + k + 1≠a.size:=by simpa using e4
   have e5:ia + k + 1 < a.size:=by lia
   refine zan e4 (zan (by simp;lia) ?_)
   exact wpS_mono (ziD (lim:=lim) hk ha hb sa sb ela hlast hG hM3 eq1 e5 h2 (by lia) rest) fun r st' z=>by cases r <;> exact z
 ·have hk00:k=0:=Nat.eq_zero_of_not_pos hk0
  subst hk00
  exact zan hk0 (wpS_mono (ziD (lim:=lim) hk ha hb sa sb ela hlast hG hM eq1 h1 h2 h3 rest) fun r st' z=>by cases r <;> exact z)
end
section
variable {prog:Program} {w:World} {X:Around} {E:Value→Shared→Prop} {s:Shared} [SKL prog w X E s]
theorem zhG {a b:Array Keyed} {st:SortSt} {Q:Array Keyed→SortSt→Prop} (hk:kindOf st=oneType') (ha:∀ p∈a.toList,IntK p) (hb:∀ p∈b.toList,IntK p) (sa:Sr a.toList) (sb:Sr b.toList)
  (na:0 < a.size) (nb:0 < b.size) (h0:∀ q,b[0]? = some q→∀ y∈a.toList,key q≤key y) (hl:∀ p,a[a.size - 1]? = some p→∀ x∈b.toList,key x < key p)
  (h:∀ (M:Array Keyed) st',SameG st st'→Good a.toList b.toList M.toList→Q M st'):wpS (model prog w) X E s (zmH a b) Q st:=by
 obtain⟨la,ela,ela'⟩:=zaK (a:=a) (i:=a.size - 1) (by lia)
 have hlast:=hl la ela
 refine wpS_bind (wpS_lift (wpAny_rule ⟨rfl,?_⟩))
 obtain⟨b0,eb0,eb0'⟩:=zaK (a:=b) (i:=0) nb
 refine wpS_bind (zax eb0 ?_)
 have M0:MI a.toList b.toList (#[b0]:Array Keyed).toList 0 1:=by
  have z:MI a.toList b.toList [] 0 0:=⟨by simp,List.Pairwise.nil,(fun x hx=>by cases hx),(fun x hx=>by cases hx)⟩
  have z':=z.manyB sb 1 (fun x hx y hy=>by
   rw [zbj eb0'] at hx
   rw [List.mem_singleton.mp hx]
   exact h0 b0 eb0 y (by simpa using hy))
  rw [zbj eb0'] at z'
  simpa using z'
 by_cases e1:(1 == b.size)=true
 ·exact zap e1 (wpS_pure (h _ _ (.refl _) (zjj sa sb M0 (by simpa using e1))))
 refine zan e1 ?_
 have e1':1 < b.size:=Nat.lt_of_le_of_ne nb (by simpa using e1)
 by_cases e2:(0 + 1 == a.size)=true
 ·exact zap e2 (wpS_pure (h _ _ (.refl _) (zjk sa sb ela hlast M0 (by simpa using e2))))
 refine zan e2 ?_
 have e2':0 + 1 < a.size:=Nat.lt_of_le_of_ne na (by simpa using e2)
 refine wpS_bind (wpS_get ?_)
 refine wpS_bind (wpS_mono (wpS_forRange (a:=0) (b:=a.size + b.size)
  (I:=fun x c st'=>SameG st st'∧Lo1 a b (x + 1) c.1 c.2.1 c.2.2.1 c.2.2.2.1)
  (Q:=fun c st'=>SameG st st'∧∃ M:Array Keyed,c.1=some M∧Good a.toList b.toList M.toList) ?step ?fin ?init) ?post)
 case init=>exact⟨.refl _,rfl,M0,e2',e1',Nat.le_refl 1⟩
 case fin =>
  rintro ⟨r,out,ia,ib,mg⟩ st' ⟨hG,e,hM,h1,h2,h3⟩
  dsimp only at h1 h2 h3
  lia
 case post =>
  rintro ⟨r,out,ia,ib,mg⟩ st' ⟨hG,M,e,hM⟩
  cases (show r=some M from e)
  exact wpS_pure (h _ _ hG hM)
 case step =>
  rintro x ⟨r,out,ia,ib,mg⟩ st1 _ hx ⟨hG,e,hM,h1,h2,h3⟩
  cases (show r=none from e)
  refine wpS_bind (wpS_mono (wpS_forRange (a:=0) (b:=a.size + b.size)
   (I:=fun y c st'=>st'=st1∧Lo1 a b (ia + ib + y) c.1 c.2.1 c.2.2.1 c.2.2.2.1)
   (Q:=fun c st'=>st'=st1∧((∃ M:Array Keyed,c.1=some M∧Good a.toList b.toList M.toList)∨Lo1 a b (ia + ib + 1) c.1 c.2.1 c.2.2.1 c.2.2.2.1)) ?istep ?ifin ?iinit) ?ipost)
  case iinit=>exact⟨rfl,rfl,hM,h1,h2,Nat.le_refl _⟩
  case ifin=>exact fun c st' hc=>⟨hc.1,.inr (hc.2.mono (by lia))⟩
  case istep =>
   rintro y ⟨r,out,ia',ib',ac,bc⟩ st' _ hy ⟨rfl,e,hM,h1,h2,h3⟩
   cases (show r=none from e)
   exact wpS_mono (zod (lim:=ia + ib + y) (hG.kind.trans hk) ha hb sa sb ela hlast hM h1 h2 h3) fun r st' z=>by
    cases r with
    | done c=>exact⟨z.1,z.2.imp id fun z=>z.mono (by lia)⟩
    | yield c=>exact z
  case ipost =>
   rintro ⟨r,out1,ia1,ib1,ac1,bc1⟩ st' ⟨rfl,⟨M,e,hgood⟩ | ⟨e,hM1,g1,g2,g3⟩⟩
   ·cases (show r=some M from e)
    exact wpS_pure ⟨hG,M,rfl,hgood⟩
   cases (show r=none from e)
   refine wpS_bind (wpS_lift (wpAny_rule ⟨rfl,?_⟩))
   refine wpS_bind (wpS_mono (wpS_forRange (a:=0) (b:=a.size + b.size) (I:=fun _ c st'=>LoQ a b st (ia + ib + 1) c st') (Q:=fun c st'=>LoE a b st (ia + ib + 1) c st') ?jstep ?jfin ?jinit) ?jpost)
   case jinit=>exact⟨hG,rfl,hM1,g1,g2,g3⟩
   case jfin=>exact fun c st' hc=>⟨hc.1,.inr hc.2⟩
   case jpost =>
    rintro ⟨r,out2,ia2,ib2,mg2,ac2,bc2⟩ st2 ⟨hG2,⟨M,e,hgood⟩ | ⟨e,hM2,k1,k2,k3⟩⟩
    ·cases (show r=some M from e)
     exact wpS_pure ⟨hG2,M,rfl,hgood⟩
    ·cases (show r=none from e)
     exact wpS_bind (wpS_modify (wpS_pure ⟨hG2.set _,rfl,hM2,k1,k2,Nat.le_trans (Nat.succ_le_succ h3) k3⟩))
   case jstep =>
    rintro y ⟨r,out2,ia2,ib2,mg2,ac2,bc2⟩ st2 _ hy ⟨hG2,e,hM2,k1,k2,k3⟩
    cases (show r=none from e)
    by_cases hmg:mg2 > 1
    ·exact zap hmg (wpS_bind (wpS_modify (wpS_mono (ziE hk ha hb sa sb ela hlast (hG2.set _) hM2 k1 k2 k3) fun r st' z=>by cases r <;> exact z)))
    ·exact zan hmg (wpS_bind (wpS_modify (wpS_mono (ziE hk ha hb sa sb ela hlast (hG2.set _) hM2 k1 k2 k3) fun r st' z=>by cases r <;> exact z)))
end
end Srt
namespace Srt
open PySem PyProof.Rows
variable [SK]
structure MH (A B R:List Keyed) (na nb:Nat):Prop where
 perm:R.Perm (A.drop na ++ B.drop nb)
 sor:Sr R
 leA:∀ x∈A.take na,∀ y∈R,key x≤key y
 leB:∀ x∈B.take nb,∀ y∈R,key x≤key y
section
variable {A B R:List Keyed} {na nb:Nat}
theorem zfU (l:List Keyed) {m n:Nat} (h:m≤n):l.drop m=(l.drop m).take (n - m) ++ l.drop n:=by
 have e:l.drop n=(l.drop m).drop (n - m):=by rw [List.drop_drop];congr 1;lia
 rw [e,List.take_append_drop]
theorem zfN (l:List Keyed) {m n:Nat} (h:m≤n):l.take n=l.take m ++ (l.drop m).take (n - m):=by
 rw [← List.take_add]
 congr 1
 lia
theorem MH.manyA (h:MH A B R na nb) (sA:Sr A) {m:Nat} (hm:m≤na) (le:∀ x∈B.take nb,∀ y∈(A.drop m).take (na - m),key x≤key y):MH A B ((A.drop m).take (na - m) ++ R) m nb:=by
 have hs:=zfN A hm
 refine ⟨?_,List.pairwise_append.mpr ⟨(sA.drop m).take _,h.sor,fun x hx y hy=>h.leA x (by rw [hs];exact List.mem_append_right _ hx) y hy⟩,fun x hx y hy=>?_,fun x hx y hy=>?_⟩
 ·refine (h.perm.append_left _).trans (List.Perm.of_eq ?_)
  rw [← List.append_assoc,← zfU A hm]
 ·rcases List.mem_append.mp hy with hy | hy
  ·have hd:y∈A.drop m:=List.mem_of_mem_take hy
   exact sA.cut m x hx y hd
  ·exact h.leA x (by rw [hs];exact List.mem_append_left _ hx) y hy
 ·rcases List.mem_append.mp hy with hy | hy
  ·exact le x hx y hy
  ·exact h.leB x hx y hy
theorem MH.manyB (h:MH A B R na nb) (sB:Sr B) {m:Nat} (hm:m≤nb) (le:∀ x∈A.take na,∀ y∈(B.drop m).take (nb - m),key x≤key y):MH A B ((B.drop m).take (nb - m) ++ R) na m:=by
 have hs:=zfN B hm
 refine ⟨?_,List.pairwise_append.mpr ⟨(sB.drop m).take _,h.sor,fun x hx y hy=>h.leB x (by rw [hs];exact List.mem_append_right _ hx) y hy⟩,fun x hx y hy=>?_,fun x hx y hy=>?_⟩
 ·refine (h.perm.append_left _).trans ?_
  refine List.Perm.trans ?_ (List.Perm.of_eq (congrArg (A.drop na ++ ·) (zfU B hm).symm))
  rw [← List.append_assoc,← List.append_assoc]
  exact List.Perm.append_right _ List.perm_append_comm
 ·rcases List.mem_append.mp hy with hy | hy
  ·exact le x hx y hy
  ·exact h.leA x hx y hy
 ·rcases List.mem_append.mp hy with hy | hy
  ·have hd:y∈B.drop m:=List.mem_of_mem_take hy
   exact sB.cut m x hx y hd
  ·exact h.leB x (by rw [hs];exact List.mem_append_left _ hx) y hy
theorem MH.endAB (h:MH A B R na nb) (sA:Sr A) (sB:Sr B) (le:∀ x∈A.take na,∀ y∈B.take nb,key x≤key y):Good A B (A.take na ++ B.take nb ++ R):=by
 refine ⟨?_,List.pairwise_append.mpr ⟨List.pairwise_append.mpr ⟨sA.take _,sB.take _,le⟩,h.sor,fun x hx y hy=>?_⟩⟩
 ·refine (h.perm.append_left _).trans ?_
  have e:A ++ B=(A.take na ++ A.drop na) ++ (B.take nb ++ B.drop nb):=by rw [List.take_append_drop,List.take_append_drop]
  rw [e]
  simp only [List.append_assoc]
  refine List.Perm.append_left _ ?_
  rw [← List.append_assoc,← List.append_assoc]
  exact List.Perm.append_right _ List.perm_append_comm
 ·rcases List.mem_append.mp hx with hx | hx
  ·exact h.leA x hx y hy
  ·exact h.leB x hx y hy
theorem MH.endBA (h:MH A B R na nb) (sA:Sr A) (sB:Sr B) (le:∀ x∈B.take nb,∀ y∈A.take na,key x≤key y):Good A B (B.take nb ++ A.take na ++ R):=by
 refine ⟨?_,List.pairwise_append.mpr ⟨List.pairwise_append.mpr ⟨sB.take _,sA.take _,le⟩,h.sor,fun x hx y hy=>?_⟩⟩
 ·refine (h.perm.append_left _).trans ?_
  have e:A ++ B=(A.take na ++ A.drop na) ++ (B.take nb ++ B.drop nb):=by rw [List.take_append_drop,List.take_append_drop]
  rw [e]
  refine (List.perm_append_comm.append_right _).trans ?_
  simp only [List.append_assoc]
  refine List.Perm.append_left _ ?_
  rw [← List.append_assoc,← List.append_assoc]
  exact List.Perm.append_right _ List.perm_append_comm
 ·rcases List.mem_append.mp hx with hx | hx
  ·exact h.leB x hx y hy
  ·exact h.leA x hx y hy
theorem zdq {l:List Keyed} {n:Nat} {q:Keyed} (h:0 < n) (e:l[n - 1]? = some q):(l.drop (n - 1)).take (n - (n - 1))=[q]:=by
 rw [show n - (n - 1)=1 by lia]
 exact zbj e
theorem zck {l:List Keyed} {n:Nat} {y:Keyed} (h:y∈l.take n):∃ j,j < n∧l[j]? = some y:=by
 obtain⟨j,hj⟩:=List.getElem?_of_mem h
 rw [List.getElem?_take] at hj
 split at hj
 ·exact⟨j,by assumption,hj⟩
 ·cases hj
end
theorem zjm {a b out:Array Keyed} {na nb:Nat} (sa:Sr a.toList) (sb:Sr b.toList) (hM:MH a.toList b.toList out.reverse.toList na nb) (e:na=0):Good a.toList b.toList (a.extract 0 na ++ b.extract 0 nb ++ out.reverse).toList:=by
 have q:=hM.endAB sa sb fun x hx y _=>by
  subst e
  simp at hx
 simpa [List.extract_eq_take_drop] using q
theorem zjl {a b out:Array Keyed} {na nb:Nat} {b0:Keyed} (sa:Sr a.toList) (sb:Sr b.toList) (eb:b[0]? = some b0) (h0:∀ y∈a.toList,key b0 < key y) (hM:MH a.toList b.toList out.reverse.toList na nb) (e:nb=1) :
  Good a.toList b.toList (b.extract 0 nb ++ a.extract 0 na ++ out.reverse).toList:=by
 have q:=hM.endBA sa sb fun x hx y hy=>by
  obtain⟨j,hj,ej⟩:=zck hx
  have:j=0:=by lia
  subst this
  rw [zby eb] at ej
  cases ej
  exact Int.le_of_lt (h0 y (List.mem_of_mem_take hy))
 simpa [List.extract_eq_take_drop] using q
noncomputable abbrev HiC:=Option (Array Keyed)×Nat×Nat×Array Keyed×Nat×Nat×Nat
noncomputable def hiT2 (a b:Array Keyed) (mg ac bc na nb:Nat) (out:Array Keyed):StateT SortSt Sem (ForInStep HiC):=elem' a (na - 1) >>= fun p =>
 if (na - 1 == 0)=true then pure (.done (some (a.extract 0 (na - 1) ++ b.extract 0 nb ++ (out.push p).reverse),na - 1,nb,out.push p,mg,ac,bc))
 else if (decide (ac < 7) && decide (bc < 7))=true then pure (.done (none,na - 1,nb,out.push p,mg,ac,bc))
 else pure (.yield (none,na - 1,nb,out.push p,mg,ac,bc))
noncomputable def hiT1 (a b:Array Keyed) (mg ac bc na nb:Nat) (out:Array Keyed):StateT SortSt Sem (ForInStep HiC):=elem' b (nb - 1) >>= fun q =>
 if (nb - 1 == 1)=true then pure (.done (some (b.extract 0 (nb - 1) ++ a.extract 0 na ++ (out.push q).reverse),na,nb - 1,out.push q,mg,ac,bc))
 else elem' a (na - 1) >>= fun p=>zc9 true p b 0 (nb - 1) (nb - 1 - 1) >>= fun r=>match r with
  | some m=>if nb - 1 - m > 0 then (if (m == 1)=true then pure (.done (some (b.extract 0 m ++ a.extract 0 na ++ (out.push q ++ (b.extract m (nb - 1)).reverse).reverse),na,m,out.push q ++ (b.extract m (nb - 1)).reverse,mg,ac,nb - 1 - m))
    else if (m == 0)=true then pure (.done (some (a.extract 0 na ++ b.extract 0 m ++ (out.push q ++ (b.extract m (nb - 1)).reverse).reverse),na,m,out.push q ++ (b.extract m (nb - 1)).reverse,mg,ac,nb - 1 - m))
    else hiT2 a b mg ac (nb - 1 - m) na m (out.push q ++ (b.extract m (nb - 1)).reverse)) else hiT2 a b mg ac (nb - 1 - m) na (nb - 1) (out.push q)
  | _=>pure (.done (some (a.extract 0 na ++ b.extract 0 (nb - 1) ++ (out.push q).reverse),na,nb - 1,out.push q,mg,ac,bc))
def HiQ (a b:Array Keyed) (st:SortSt) (lim:Nat) (c:HiC) (st':SortSt):Prop:=SameG st st'∧c.1=none∧MH a.toList b.toList c.2.2.2.1.reverse.toList c.2.1 c.2.2.1∧0 < c.2.1∧1 < c.2.2.1∧c.2.1 + c.2.2.1≤lim∧c.2.1≤a.size∧c.2.2.1≤b.size
def HiE (a b:Array Keyed) (st:SortSt) (lim:Nat) (c:HiC) (st':SortSt):Prop:=SameG st st'∧((∃ M:Array Keyed,c.1=some M∧Good a.toList b.toList M.toList) ∨
 (c.1=none∧MH a.toList b.toList c.2.2.2.1.reverse.toList c.2.1 c.2.2.1∧0 < c.2.1∧1 < c.2.2.1∧c.2.1 + c.2.2.1≤lim∧c.2.1≤a.size∧c.2.2.1≤b.size))
section
variable {prog:Program} {w:World} {X:Around} {E:Value→Shared→Prop} {s:Shared} [SKL prog w X E s] {a b:Array Keyed} {st st2:SortSt} {b0:Keyed} {lim:Nat}
theorem zoB {out:Array Keyed} {na nb:Nat} {p:Keyed} (sa:Sr a.toList) (hM:MH a.toList b.toList out.reverse.toList na nb) (h1:0 < na) (ep:a[na - 1]? = some p) (hle:∀ x∈b.toList.take nb,key x≤key p) :
  MH a.toList b.toList (out.push p).reverse.toList (na - 1) nb:=by
 have z:=hM.manyA sa (m:=na - 1) (by lia) (fun x hx y hy=>by
  rw [zdq h1 (zby ep)] at hy
  rw [List.mem_singleton.mp hy]
  exact hle x hx)
 rw [zdq h1 (zby ep)] at z
 simpa using z
theorem zqf {out:Array Keyed} {na nb:Nat} {q:Keyed} (sb:Sr b.toList) (hM:MH a.toList b.toList out.reverse.toList na nb) (h1:0 < nb) (eq:b[nb - 1]? = some q) (hle:∀ x∈a.toList.take na,key x≤key q) :
  MH a.toList b.toList (out.push q).reverse.toList na (nb - 1):=by
 have z:=hM.manyB sb (m:=nb - 1) (by lia) (fun x hx y hy=>by
  rw [zdq h1 (zby eq)] at hy
  rw [List.mem_singleton.mp hy]
  exact hle x hx)
 rw [zdq h1 (zby eq)] at z
 simpa using z
theorem ziF (sa:Sr a.toList) (sb:Sr b.toList) {mg ac bc na nb:Nat} {out:Array Keyed} {p:Keyed} (hG:SameG st st2)
  (hM:MH a.toList b.toList out.reverse.toList na nb) (ep:a[na - 1]? = some p) (h1:0 < na) (h2:1 < nb) (h3:na + nb≤lim) (h4:na≤a.size) (h5:nb≤b.size) (hle:∀ x∈b.toList.take nb,key x≤key p) :
  wpS (model prog w) X E s (hiT2 a b mg ac bc na nb out) (fun r st'=>match r with | .done c'=>HiE a b st lim c' st' | .yield c'=>HiQ a b st lim c' st') st2:=by
 refine wpS_bind (zax ep ?_)
 have hM':=zoB sa hM h1 ep hle
 by_cases e3:(na - 1 == 0)=true
 ·refine zap e3 ?_
  exact wpS_pure ⟨hG,.inl ⟨_,rfl,zjm sa sb hM' (by simpa using e3)⟩⟩
 ·refine zan e3 ?_
  have e3':na - 1≠0:=by simpa using e3
  split
  ·exact wpS_pure ⟨hG,.inr ⟨rfl,hM',(by dsimp only;lia),h2,(by dsimp only;lia),(by dsimp only;lia),h5⟩⟩
  ·exact wpS_pure ⟨hG,rfl,hM',(by dsimp only;lia),h2,(by dsimp only;lia),(by dsimp only;lia),h5⟩
theorem ziG (hk:kindOf st=oneType') (ha:∀ p∈a.toList,IntK p) (hb:∀ p∈b.toList,IntK p) (sa:Sr a.toList) (sb:Sr b.toList) (eb:b[0]? = some b0) (h0:∀ y∈a.toList,key b0 < key y)
  {mg ac bc na nb:Nat} {out:Array Keyed} {q:Keyed} (hG:SameG st st2)
  (hM:MH a.toList b.toList out.reverse.toList na nb) (eq:b[nb - 1]? = some q) (h1:0 < na) (h2:1 < nb) (h3:na + nb≤lim) (h4:na≤a.size) (h5:nb≤b.size) (hle:∀ x∈a.toList.take na,key x≤key q) :
  wpS (model prog w) X E s (hiT1 a b mg ac bc na nb out) (fun r st'=>match r with | .done c'=>HiE a b st lim c' st' | .yield c'=>HiQ a b st lim c' st') st2:=by
 refine wpS_bind (zax eq ?_)
 have hM':=zqf sb hM (by lia) eq hle
 by_cases e3:(nb - 1 == 1)=true
 ·refine zap e3 ?_
  exact wpS_pure ⟨hG,.inl ⟨_,rfl,zjl sa sb eb h0 hM' (by simpa using e3)⟩⟩
 refine zan e3 ?_
 have e3':nb - 1≠1:=by simpa using e3
 obtain⟨p,ep,ep2⟩:=zaK (a:=a) (i:=na - 1) (by lia)
 refine wpS_bind (zax ep (wpS_bind (zf6 (hG.kind.trans hk) (ha p (List.mem_of_getElem? ep2)) hb sb (by lia) (by lia) fun m hm1 hB1 hB2=>?_)))
 dsimp only
 simp only [if_true,Nat.zero_add] at hB1 hB2
 have hm0:m≠0:=fun e=>by
  have z1:=hB2 0 b0 (by lia) (by lia) eb
  have z2:=h0 p (List.mem_of_getElem? ep2)
  lia
 have rest:∀ x∈b.toList.take m,key x≤key p:=fun x hx=>by
  obtain⟨j,hj,ej⟩:=zck hx
  exact Int.le_of_lt (hB1 j x hj (by rw [← Array.getElem?_toList];exact ej))
 by_cases hk0:nb - 1 - m > 0
 ·refine zap hk0 ?_
  have hM3:MH a.toList b.toList (out.push q ++ (b.extract m (nb - 1)).reverse).reverse.toList na m:=by
   have z:=hM'.manyB sb hm1 (fun x hx y hy=>by
    obtain⟨j,hj,ej⟩:=zaM hy
    have z1:=hB2 (m + j) y (by lia) (by lia) (by rw [← Array.getElem?_toList];exact ej)
    obtain⟨i,hi,ei⟩:=zck hx
    have z2:=sa.get (i:=i) (j:=na - 1) (by lia) ei ep2
    lia)
   simpa [List.extract_eq_take_drop] using z
  by_cases e4:(m == 1)=true
  ·refine zap e4 ?_
   exact wpS_pure ⟨hG,.inl ⟨_,rfl,zjl sa sb eb h0 hM3 (by simpa using e4)⟩⟩
  ·refine zan e4 ?_
   have e4':m≠1:=by simpa using e4
   refine zan (by simpa using hm0) ?_
   exact ziF sa sb hG hM3 ep h1 (by lia) (by lia) h4 (by lia) rest
 ·refine zan hk0 ?_
  have e:m=nb - 1:=by lia
  subst e
  exact ziF sa sb hG hM' ep h1 (by lia) (by lia) h4 (by lia) rest
noncomputable def hiT0 (a b:Array Keyed) (mg ac bc na nb:Nat) (out:Array Keyed):StateT SortSt Sem (ForInStep HiC):=elem' b (nb - 1) >>= fun q=>zc9 false q a 0 na (na - 1) >>= fun r=>match r with
 | some m=>if na - m > 0 then (if (m == 0)=true then pure (.done (some (a.extract 0 m ++ b.extract 0 nb ++ (out ++ (a.extract m na).reverse).reverse),m,nb,out ++ (a.extract m na).reverse,mg,na - m,bc))
   else hiT1 a b mg (na - m) bc m nb (out ++ (a.extract m na).reverse)) else hiT1 a b mg (na - m) bc na nb out
 | _=>pure (.done (some (a.extract 0 na ++ b.extract 0 nb ++ out.reverse),na,nb,out,mg,ac,bc))
noncomputable abbrev Hi6:=Option (Array Keyed)×Nat×Nat×Array Keyed×Nat×Nat
noncomputable def hiI (a b:Array Keyed) (mg ac bc na nb:Nat) (out:Array Keyed):StateT SortSt Sem (ForInStep Hi6):=elem' b (nb - 1) >>= fun q=>elem' a (na - 1) >>= fun p=>lt' q p >>= fun r=>match r with
 | some w=>if w=true then (elem' a (na - 1) >>= fun p=>if (na - 1 == 0)=true then pure (.done (some (a.extract 0 (na - 1) ++ b.extract 0 nb ++ (out.push p).reverse),na - 1,nb,out.push p,ac + 1,0))
   else if ac + 1≥mg then pure (.done (none,na - 1,nb,out.push p,ac + 1,0)) else pure (.yield (none,na - 1,nb,out.push p,ac + 1,0)))
  else elem' b (nb - 1) >>= fun q=>if (nb - 1 == 1)=true then pure (.done (some (b.extract 0 (nb - 1) ++ a.extract 0 na ++ (out.push q).reverse),na,nb - 1,out.push q,0,bc + 1))
   else if bc + 1≥mg then pure (.done (none,na,nb - 1,out.push q,0,bc + 1)) else pure (.yield (none,na,nb - 1,out.push q,0,bc + 1))
 | _=>pure (.done (some (a.extract 0 na ++ b.extract 0 nb ++ out.reverse),na,nb,out,ac,bc))
def Hi1 (a b:Array Keyed) (lim:Nat) (c:Option (Array Keyed)) (na nb:Nat) (out:Array Keyed):Prop:=c=none∧MH a.toList b.toList out.reverse.toList na nb∧0 < na∧1 < nb∧na + nb≤lim∧na≤a.size∧nb≤b.size
omit [SKL prog w X E s] in
theorem Hi1.mono {l l':Nat} {c:Option (Array Keyed)} {out:Array Keyed} {na nb:Nat} (h:Hi1 a b l c na nb out) (e:l≤l'):Hi1 a b l' c na nb out:=⟨h.1,h.2.1,h.2.2.1,h.2.2.2.1,Nat.le_trans h.2.2.2.2.1 e,h.2.2.2.2.2⟩
theorem zoe (hk:kindOf st=oneType') (ha:∀ p∈a.toList,IntK p) (hb:∀ p∈b.toList,IntK p) (sa:Sr a.toList) (sb:Sr b.toList) (eb:b[0]? = some b0) (h0:∀ y∈a.toList,key b0 < key y)
  {mg ac bc na nb:Nat} {out:Array Keyed} (hM:MH a.toList b.toList out.reverse.toList na nb) (h1:0 < na) (h2:1 < nb) (h3:na + nb≤lim + 1) (h4:na≤a.size) (h5:nb≤b.size) :
  wpS (model prog w) X E s (hiI a b mg ac bc na nb out) (fun r st'=>match r with | .done c=>st'=st∧((∃ M:Array Keyed,c.1=some M∧Good a.toList b.toList M.toList)∨Hi1 a b lim c.1 c.2.1 c.2.2.1 c.2.2.2.1) | .yield c=>st'=st∧Hi1 a b lim c.1 c.2.1 c.2.2.1 c.2.2.2.1) st:=by
 obtain⟨q,eq1,eq2⟩:=zaK (a:=b) (i:=nb - 1) (by lia)
 obtain⟨p,ep1,ep2⟩:=zaK (a:=a) (i:=na - 1) (by lia)
 refine wpS_bind (zax eq1 (wpS_bind (zax ep1 (wpS_bind (zgJ hk (hb q (List.mem_of_getElem? eq2)) (ha p (List.mem_of_getElem? ep2)) ?_)))))
 by_cases hlt:key q < key p
 ·refine zap (decide_eq_true hlt) (wpS_bind (zax ep1 ?_))
  have hM':=zoB sa hM h1 ep1 fun x hx=>by
   obtain⟨j,hj,ej⟩:=zck hx
   exact Int.le_trans (sb.get (i:=j) (j:=nb - 1) (Nat.le_sub_one_of_lt hj) ej eq2) (Int.le_of_lt hlt)
  by_cases e3:(na - 1 == 0)=true
  ·exact zap e3 (wpS_pure ⟨rfl,.inl ⟨_,rfl,zjm sa sb hM' (by simpa using e3)⟩⟩)
  ·have l:Hi1 a b lim none (na - 1) nb (out.push p):=⟨rfl,hM',Nat.pos_of_ne_zero (by simpa using e3),h2,(by lia),Nat.le_trans (Nat.sub_le _ _) h4,h5⟩
   refine zan e3 ?_
   split
   ·exact wpS_pure ⟨rfl,.inr l⟩
   ·exact wpS_pure ⟨rfl,l⟩
 ·refine zan (by simpa using hlt) (wpS_bind (zax eq1 ?_))
  have hM':=zqf sb hM (Nat.zero_lt_of_lt h2) eq1 fun x hx=>by
   obtain⟨j,hj,ej⟩:=zck hx
   exact Int.le_trans (sa.get (i:=j) (j:=na - 1) (Nat.le_sub_one_of_lt hj) ej ep2) (Int.not_lt.mp hlt)
  by_cases e3:(nb - 1 == 1)=true
  ·exact zap e3 (wpS_pure ⟨rfl,.inl ⟨_,rfl,zjl sa sb eb h0 hM' (by simpa using e3)⟩⟩)
  ·have e3':nb - 1≠1:=by simpa using e3
   have l:Hi1 a b lim none na (nb - 1) (out.push q):=⟨rfl,hM',h1,(by lia),(by lia),h4,Nat.le_trans (Nat.sub_le _ _) h5⟩
   refine zan e3 ?_
   split
   ·exact wpS_pure ⟨rfl,.inr l⟩
   ·exact wpS_pure ⟨rfl,l⟩
theorem ziH (hk:kindOf st=oneType') (ha:∀ p∈a.toList,IntK p) (hb:∀ p∈b.toList,IntK p) (sa:Sr a.toList) (sb:Sr b.toList) (eb:b[0]? = some b0) (h0:∀ y∈a.toList,key b0 < key y)
  {mg ac bc na nb:Nat} {out:Array Keyed} (hG:SameG st st2) (hM:MH a.toList b.toList out.reverse.toList na nb) (h1:0 < na) (h2:1 < nb) (h3:na + nb≤lim) (h4:na≤a.size) (h5:nb≤b.size) :
  wpS (model prog w) X E s (hiT0 a b mg ac bc na nb out) (fun r st'=>match r with | .done c'=>HiE a b st lim c' st' | .yield c'=>HiQ a b st lim c' st') st2:=by
 obtain⟨q,eq1,eq2⟩:=zaK (a:=b) (i:=nb - 1) (by lia)
 refine wpS_bind (zax eq1 (wpS_bind (zf6 (hG.kind.trans hk) (hb q (List.mem_of_getElem? eq2)) ha sa (by lia) (Nat.sub_one_lt_of_lt h1) fun m hm1 hA1 hA2=>?_)))
 simp only [Bool.false_eq_true,if_false,Nat.zero_add] at hA1 hA2
 have rest:∀ x∈a.toList.take m,key x≤key q:=fun x hx=>by
  obtain⟨j,hj,ej⟩:=zck hx
  exact hA1 j x hj (by rw [← Array.getElem?_toList];exact ej)
 by_cases hk0:na - m > 0
 ·refine zap hk0 ?_
  have hM3:MH a.toList b.toList (out ++ (a.extract m na).reverse).reverse.toList m nb:=by
   have z:=hM.manyA sa hm1 (fun x hx y hy=>by
    obtain⟨j,hj,ej⟩:=zaM hy
    have z1:=hA2 (m + j) y (Nat.le_add_right m j) (by lia) (by rw [← Array.getElem?_toList];exact ej)
    obtain⟨i,hi,ei⟩:=zck hx
    exact Int.le_trans (sb.get (i:=i) (j:=nb - 1) (Nat.le_sub_one_of_lt hi) ei eq2) (Int.le_of_lt z1))
   simpa [List.extract_eq_take_drop] using z
  by_cases e4:(m == 0)=true
  ·exact zap e4 (wpS_pure ⟨hG,.inl ⟨_,rfl,zjm sa sb hM3 (by simpa using e4)⟩⟩)
  ·exact zan e4 (wpS_mono (ziG (lim:=lim) hk ha hb sa sb eb h0 hG hM3 eq1 (Nat.pos_of_ne_zero (by simpa using e4)) h2 (by lia) (Nat.le_trans hm1 h4) h5 rest) fun r st' z=>by cases r <;> exact z)
 ·have e:m=na:=by lia
  subst e
  exact zan hk0 (wpS_mono (ziG (lim:=lim) hk ha hb sa sb eb h0 hG hM eq1 h1 h2 h3 h4 h5 rest) fun r st' z=>by cases r <;> exact z)
theorem zhH {Q:Array Keyed→SortSt→Prop} (hk:kindOf st=oneType') (ha:∀ p∈a.toList,IntK p) (hb:∀ p∈b.toList,IntK p) (sa:Sr a.toList) (sb:Sr b.toList)
  (na0:0 < a.size) (nb0:0 < b.size) (h0':∀ q,b[0]? = some q→∀ y∈a.toList,key q < key y) (hl:∀ p,a[a.size - 1]? = some p→∀ x∈b.toList,key x < key p)
  (h:∀ (M:Array Keyed) st',SameG st st'→Good a.toList b.toList M.toList→Q M st'):wpS (model prog w) X E s (zmI a b) Q st:=by
 obtain⟨la,ela,ela'⟩:=zaK (a:=a) (i:=a.size - 1) (by lia)
 have hlast:=hl la ela
 obtain⟨b0,eb,eb'⟩:=zaK (a:=b) (i:=0) nb0
 have h0:=h0' b0 eb
 refine wpS_bind (wpS_lift (wpAny_rule ⟨rfl,?_⟩))
 refine wpS_bind (zax ela ?_)
 have M0:MH a.toList b.toList (#[la]:Array Keyed).reverse.toList (a.size - 1) b.size:=by
  have z:MH a.toList b.toList (#[]:Array Keyed).reverse.toList a.size b.size:=by
   have e:(#[]:Array Keyed).reverse.toList=[]:=by simp
   rw [e]
   refine ⟨?_,List.Pairwise.nil,(fun x _ y hy=>by cases hy),(fun x _ y hy=>by cases hy)⟩
   rw [List.drop_eq_nil_of_le (by simp),List.drop_eq_nil_of_le (by simp)]
   exact List.Perm.refl _
  exact zoB sa z na0 ela fun x hx=>Int.le_of_lt (hlast x (List.mem_of_mem_take hx))
 by_cases e1:(a.size - 1 == 0)=true
 ·exact zap e1 (wpS_pure (h _ _ (.refl _) (zjm sa sb M0 (by simpa using e1))))
 refine zan e1 ?_
 have e1':a.size - 1≠0:=by simpa using e1
 by_cases e2:(b.size == 1)=true
 ·exact zap e2 (wpS_pure (h _ _ (.refl _) (zjl sa sb eb h0 M0 (by simpa using e2))))
 refine zan e2 ?_
 have e2':b.size≠1:=by simpa using e2
 refine wpS_bind (wpS_get ?_)
 refine wpS_bind (wpS_mono (wpS_forRange (a:=0) (b:=a.size + b.size)
  (I:=fun x c st'=>SameG st st'∧Hi1 a b (a.size + b.size - x - 1) c.1 c.2.1 c.2.2.1 c.2.2.2.1)
  (Q:=fun c st'=>SameG st st'∧∃ M:Array Keyed,c.1=some M∧Good a.toList b.toList M.toList) ?step ?fin ?init) ?post)
 case init=>exact⟨.refl _,rfl,M0,Nat.pos_of_ne_zero e1',Nat.lt_of_le_of_ne nb0 (Ne.symm e2'),(by dsimp only;lia),Nat.sub_le _ _,Nat.le_refl _⟩
 case fin =>
  rintro ⟨r,na,nb,out,mg⟩ st' ⟨hG,e,hM,h1,h2,h3,_⟩
  dsimp only at h1 h2 h3
  lia
 case post =>
  rintro ⟨r,na,nb,out,mg⟩ st' ⟨hG,M,e,hM⟩
  cases (show r=some M from e)
  exact wpS_pure (h _ _ hG hM)
 case step =>
  rintro x ⟨r,na,nb,out,mg⟩ st1 _ hx ⟨hG,e,hM,h1,h2,h3,h4⟩
  cases (show r=none from e)
  refine wpS_bind (wpS_mono (wpS_forRange (a:=0) (b:=a.size + b.size)
   (I:=fun y c st'=>st'=st1∧Hi1 a b (na + nb - y) c.1 c.2.1 c.2.2.1 c.2.2.2.1)
   (Q:=fun c st'=>st'=st1∧((∃ M:Array Keyed,c.1=some M∧Good a.toList b.toList M.toList)∨Hi1 a b (na + nb - 1) c.1 c.2.1 c.2.2.1 c.2.2.2.1)) ?istep ?ifin ?iinit) ?ipost)
  case iinit=>exact⟨rfl,rfl,hM,h1,h2,Nat.le_refl _,h4⟩
  case ifin=>exact fun c st' hc=>⟨hc.1,.inr (hc.2.mono (by lia))⟩
  case istep =>
   rintro y ⟨r,na',nb',out,ac,bc⟩ st' _ hy ⟨rfl,e,hM,h1,h2,h3,h4,h5⟩
   cases (show r=none from e)
   exact wpS_mono (zoe (lim:=na + nb - y - 1) (hG.kind.trans hk) ha hb sa sb eb h0 hM h1 h2 (by dsimp only at h3 ⊢;lia) h4 h5) fun r st' z=>by
    cases r with
    | done c=>exact⟨z.1,z.2.imp id fun z=>z.mono (by lia)⟩
    | yield c=>exact z
  case ipost =>
   rintro ⟨r,na1,nb1,out1,ac1,bc1⟩ st' ⟨rfl,⟨M,e,hgood⟩ | ⟨e,hM1,g⟩⟩
   ·cases (show r=some M from e)
    exact wpS_pure ⟨hG,M,rfl,hgood⟩
   cases (show r=none from e)
   refine wpS_bind (wpS_lift (wpAny_rule ⟨rfl,?_⟩))
   refine wpS_bind (wpS_mono (wpS_forRange (a:=0) (b:=a.size + b.size) (I:=fun _ c st'=>HiQ a b st (na + nb - 1) c st') (Q:=fun c st'=>HiE a b st (na + nb - 1) c st') ?jstep ?jfin ?jinit) ?jpost)
   case jinit=>exact⟨hG,rfl,hM1,g⟩
   case jfin=>exact fun c st' hc=>⟨hc.1,.inr hc.2⟩
   case jpost =>
    rintro ⟨r,na2,nb2,out2,mg2,ac2,bc2⟩ st2 ⟨hG2,⟨M,e,hgood⟩ | ⟨e,hM2,k1,k2,k3,k4⟩⟩
    ·cases (show r=some M from e)
     exact wpS_pure ⟨hG2,M,rfl,hgood⟩
    ·cases (show r=none from e)
     exact wpS_bind (wpS_modify (wpS_pure ⟨hG2.set _,rfl,hM2,k1,k2,Nat.le_trans k3 (Nat.sub_le_sub_right h3 1),k4⟩))
   case jstep =>
    rintro y ⟨r,na2,nb2,out2,mg2,ac2,bc2⟩ st2 _ hy ⟨hG2,e,hM2,k1,k2,k3,k4,k5⟩
    cases (show r=none from e)
    by_cases hmg:mg2 > 1
    ·exact zap hmg (wpS_bind (wpS_modify (wpS_mono (ziH hk ha hb sa sb eb h0 (hG2.set _) hM2 k1 k2 k3 k4 k5) fun r st' z=>by cases r <;> exact z)))
    ·exact zan hmg (wpS_bind (wpS_modify (wpS_mono (ziH hk ha hb sa sb eb h0 (hG2.set _) hM2 k1 k2 k3 k4 k5) fun r st' z=>by cases r <;> exact z)))
end
end Srt
namespace Srt
open PySem PyProof.Rows
variable [SK]
structure SB (a₀:Array Keyed) (st:SortSt):Prop where
 perm:(arrOf st).Perm a₀
 kind:kindOf st=oneType'
 failed:failedOf st=none
theorem SB.size {a₀:Array Keyed} {st:SortSt} (h:SB a₀ st):(arrOf st).size=a₀.size:=h.perm.size_eq
theorem SB.setArr {a₀:Array Keyed} {st:SortSt} (h:SB a₀ st) {xs:Array Keyed} (hp:xs.Perm (arrOf st)):SB a₀ (setArr st xs):=⟨hp.trans h.perm,h.kind,h.failed⟩
theorem SB.int {a₀:Array Keyed} {st:SortSt} (h:SB a₀ st) (h0:zbv a₀):∀ p∈(arrOf st).toList,IntK p:=fun p hp=>h0 p ((Array.perm_iff_toList_perm.mp h.perm).mem_iff.mp hp)
theorem SB.at {a₀:Array Keyed} {st:SortSt} (h:SB a₀ st) (h0:zbv a₀) {i:Nat} (hi:i < a₀.size):∃ p,(arrOf st)[i]? = some p∧IntK p∧K (arrOf st) i=key p:=by
 obtain⟨p,e1,e2⟩:=zaK (a:=arrOf st) (i:=i) (by rw [h.size];exact hi)
 exact⟨p,e1,h.int h0 p (List.mem_of_getElem? e2),by unfold K;rw [e1]⟩
def SIn (xs:Array Keyed) (lo n:Nat):Prop:=∀ i j,i≤j→j < n→K xs (lo + i)≤K xs (lo + j)
def NIn (xs:Array Keyed) (lo n:Nat):Prop:=∀ i j,i≤j→j < n→K xs (lo + j)≤K xs (lo + i)
structure Kept (lo:Nat) (st st':SortSt):Prop where
 keys:∀ k,k < lo→K (arrOf st') k=K (arrOf st) k
 pend:pendingOf st'=pendingOf st
theorem Kept.refl (lo:Nat) (st:SortSt):Kept lo st st:=⟨fun _ _=>rfl,rfl⟩
theorem Kept.trans {lo:Nat} {st st1 st2:SortSt} (a:Kept lo st st1) (b:Kept lo st1 st2):Kept lo st st2:=⟨fun k h=>(b.keys k h).trans (a.keys k h),b.pend.trans a.pend⟩
theorem Kept.mirror {lo:Nat} {st:SortSt} {i j:Nat} (hi:lo≤i) (hj:j≤(arrOf st).size):Kept lo st (setArr st (mirror (arrOf st) i j ((j - i) / 2))):=
 ⟨fun k h=>by
  show K (PyProof.Rows.mirror (arrOf st) i j ((j - i) / 2)) k=_
  rw [zdU hj,if_neg (by lia)],rfl⟩
noncomputable def zlO:Nat→Nat→StateT SortSt Sem (Option Nat):=sortPriv% PySem.Builtin.countRun
noncomputable def zid:Nat→Nat→Nat→StateT SortSt Sem Bool:=sortPriv% PySem.Builtin.binarySort
section
variable {prog:Program} {w:World} {X:Around} {E:Value→Shared→Prop} {s:Shared} [SKL prog w X E s] {a₀:Array Keyed}
theorem zdo {st:SortSt} {i j:Nat} {Q:Option Bool→SortSt→Prop} (hB:SB a₀ st) (h0:zbv a₀) (hi:i < a₀.size) (hj:j < a₀.size) (h:Q (some (decide (K (arrOf st) i < K (arrOf st) j))) st) :
  wpS (model prog w) X E s (ltAt' i j) Q st:=by
 obtain⟨p,e1,hp,k1⟩:=hB.at h0 hi
 obtain⟨q,e2,hq,k2⟩:=hB.at h0 hj
 rw [k1,k2] at h
 rw [ltAt'_eq]
 exact wpS_bind (wpS_get (wpS_bind (zax e1 (wpS_bind (zax e2 (zgJ hB.kind hp hq h))))))
theorem zkC {st:SortSt} {lo a nrem:Nat} (h0:zbv a₀) (hB:SB a₀ st) (hn:lo + nrem≤a₀.size) (ha:1≤a) (han:a≤nrem) (hs:SIn (arrOf st) lo a) :
  wpS (model prog w) X E s (forIn [a:nrem] ((none,a):Option (Option Nat)×Nat) fun _ c=>ltAt' (lo + c.2) (lo + c.2 - 1) >>= fun r=>match r with
   | some smaller=>if smaller=true then pure (ForInStep.done (none,c.2)) else pure (ForInStep.yield (none,c.2 + 1))
   | _=>pure (ForInStep.done (some none,c.2)))
   (fun c st'=>st'=st∧∃ n,c=(none,n)∧a≤n∧n≤nrem∧SIn (arrOf st) lo n∧(n=nrem∨K (arrOf st) (lo + n) < K (arrOf st) (lo + n - 1))) st:=by
 refine wpS_forRange (I:=fun x c st'=>st'=st∧c=(none,x)∧SIn (arrOf st) lo x) ?step ?fin ⟨rfl,rfl,hs⟩
 case fin =>
  rintro c st' ⟨rfl,rfl,hs'⟩
  rw [show max a nrem=nrem by lia] at hs' ⊢
  exact⟨rfl,nrem,rfl,han,Nat.le_refl _,hs',.inl rfl⟩
 case step =>
  rintro x c st' hax hxn ⟨rfl,rfl,hs'⟩
  dsimp only
  refine wpS_bind (zdo hB h0 (by lia) (by lia) ?_)
  by_cases hless:K (arrOf st') (lo + x) < K (arrOf st') (lo + x - 1)
  ·simp only [hless,decide_true,if_true]
   exact wpS_pure ⟨rfl,x,rfl,hax,(by lia),hs',.inr hless⟩
  ·simp only [hless,decide_false,Bool.false_eq_true,if_false]
   refine wpS_pure ⟨rfl,rfl,fun i j hij hj=>?_⟩
   by_cases hjx:j < x
   ·exact hs' i j hij hjx
   ·have hj':j=x:=by lia
    subst hj'
    by_cases hi':i=j
    ·subst hi';exact Int.le_refl _
    ·have z:=hs' i (j - 1) (by lia) (by lia)
     rw [show lo + (j - 1)=lo + j - 1 by lia] at z
     exact Int.le_trans z (Int.not_lt.mp hless)
theorem ziK {st:SortSt} {lo n nrem:Nat} (h0:zbv a₀) (hB:SB a₀ st) (hn:lo + nrem≤a₀.size) (h1:1≤n) (hnn:n≤nrem) (hs:NIn (arrOf st) lo n) :
  wpS (model prog w) X E s (forIn [n:nrem] ((none,n,0):Option (Option Nat)×Nat×Nat) fun _ c=>ltAt' (lo + c.2.1) (lo + c.2.1 - 1) >>= fun r=>match r with
   | some smaller =>
    if smaller=true then
     (if c.2.2 > 0 then reverseSlice' (lo + c.2.1 - (c.2.2 + 1)) (lo + c.2.1) >>= fun _=>pure (ForInStep.yield (none,c.2.1 + 1,0)) else pure (ForInStep.yield (none,c.2.1 + 1,0)))
    else ltAt' (lo + c.2.1 - 1) (lo + c.2.1) >>= fun r=>match r with
     | some larger=>if larger=true then pure (ForInStep.done (none,c.2.1,c.2.2)) else pure (ForInStep.yield (none,c.2.1 + 1,c.2.2 + 1))
     | _=>pure (ForInStep.done (some none,c.2.1,c.2.2))
   | _=>pure (ForInStep.done (some none,c.2.1,c.2.2)))
   (fun c st'=>∃ m neq,c=(none,m,neq)∧SB a₀ st'∧Kept lo st st'∧n≤m∧m≤nrem∧NIn (arrOf st') lo m∧neq + 1≤m∧(∀ i,m - (neq + 1)≤i→i < m→K (arrOf st') (lo + i)=K (arrOf st') (lo + (m - 1)))) st:=by
 refine wpS_forRange (I:=fun x c st'=>∃ neq,c=(none,x,neq)∧SB a₀ st'∧Kept lo st st'∧NIn (arrOf st') lo x∧neq + 1≤x ∧
   (∀ i,x - (neq + 1)≤i→i < x→K (arrOf st') (lo + i)=K (arrOf st') (lo + (x - 1)))) ?step ?fin ⟨0,rfl,hB,.refl _ _,hs,by lia,fun i h1 h2=>by congr 1;lia⟩
 case fin =>
  rintro c st' ⟨neq,rfl,hB',hK,hs',hq,he⟩
  rw [show max n nrem=nrem by lia] at hs' hq he ⊢
  exact⟨nrem,neq,rfl,hB',hK,hnn,Nat.le_refl _,hs',hq,he⟩
 case step =>
  rintro x c st' hax hxn ⟨neq,rfl,hB',hK,hs',hq,he⟩
  dsimp only
  have hsz:lo + x≤(arrOf st').size:=by rw [hB'.size];lia
  have ex:lo + (x - 1)=lo + x - 1:=by lia
  refine wpS_bind (zdo hB' h0 (by lia) (by lia) ?_)
  by_cases hless:K (arrOf st') (lo + x) < K (arrOf st') (lo + x - 1)
  ·simp only [hless,decide_true,if_true]
   have step1:∀ xs:Array Keyed,(∀ k,K xs k=K (arrOf st') k)→NIn xs lo (x + 1):=by
    intro xs hk i j hij hj
    rw [hk,hk]
    by_cases hjx:j < x
    ·exact hs' i j hij hjx
    ·have hj':j=x:=by lia
     subst hj'
     by_cases hi':i=j
     ·subst hi';exact Int.le_refl _
     ·have z:=hs' i (j - 1) (by lia) (by lia)
      rw [ex] at z
      exact Int.le_trans (Int.le_of_lt hless) z
   by_cases hneq:neq > 0
   ·refine zap hneq ?_
    have hm:∀ k,K (mirror (arrOf st') (lo + x - (neq + 1)) (lo + x) ((lo + x - (lo + x - (neq + 1))) / 2)) k=K (arrOf st') k:=zjD hsz fun k h1 h2=>by
     have z:=he (k - lo) (by lia) (by lia)
     rw [ex,show lo + (k - lo)=k by lia] at z
     exact z
    refine wpS_bind (wpS_reverse (wpS_pure ⟨0,rfl,hB'.setArr (mirror_perm _ _ _ _),hK.trans (.mirror (by lia) hsz),step1 _ hm,by lia,fun i h1 h2=>by congr 1;lia⟩))
   ·refine zan hneq ?_
    exact wpS_pure ⟨0,rfl,hB',hK,step1 _ (fun _=>rfl),by lia,fun i h1 h2=>by congr 1;lia⟩
  ·simp only [hless,decide_false,Bool.false_eq_true,if_false]
   refine wpS_bind (zdo hB' h0 (by lia) (by lia) ?_)
   by_cases hlarger:K (arrOf st') (lo + x - 1) < K (arrOf st') (lo + x)
   ·simp only [hlarger,decide_true,if_true]
    exact wpS_pure ⟨x,neq,rfl,hB',hK,hax,(by lia),hs',hq,he⟩
   ·simp only [hlarger,decide_false,Bool.false_eq_true,if_false]
    have heqx:K (arrOf st') (lo + x)=K (arrOf st') (lo + (x - 1)):=by rw [ex];lia
    refine wpS_pure ⟨neq + 1,rfl,hB',hK,fun i j hij hj=>?_,by lia,fun i h1 h2=>?_⟩
    ·by_cases hjx:j < x
     ·exact hs' i j hij hjx
     ·have hj':j=x:=by lia
      subst hj'
      by_cases hi':i=j
      ·subst hi';exact Int.le_refl _
      ·rw [heqx];exact hs' i (j - 1) (by lia) (by lia)
    ·rw [show x + 1 - 1=x by lia]
     by_cases hix:i=x
     ·subst hix;rfl
     ·rw [heqx];exact he i (by lia) (by lia)
theorem ziJ {st:SortSt} {lo n nrem:Nat} {Q:Option Nat→SortSt→Prop} (h0:zbv a₀) (hB:SB a₀ st) (hn:lo + nrem≤a₀.size) (hnn:n + 1≤nrem) (hs:NIn (arrOf st) lo (n + 1))
  (h:∀ m st',SB a₀ st'→Kept lo st st'→1≤m→m≤nrem→SIn (arrOf st') lo m→Q (some m) st')
  {Dloop:StateT SortSt Sem (Option (Option Nat)×Nat×Nat)}
  (hD:wpS (model prog w) X E s Dloop (fun c st'=>∃ m neq,c=(none,m,neq)∧SB a₀ st'∧Kept lo st st'∧n + 1≤m∧m≤nrem∧NIn (arrOf st') lo m∧neq + 1≤m∧(∀ i,m - (neq + 1)≤i→i < m→K (arrOf st') (lo + i)=K (arrOf st') (lo + (m - 1)))) st)
  {rest:Option (Option Nat)×Nat×Nat→StateT SortSt Sem (Option Nat)}
  (hrest:∀ m neq,rest (none,m,neq)=(if neq > 0 then reverseSlice' (lo + m - (neq + 1)) (lo + m) >>= fun _=>reverseSlice' lo (lo + m) >>= fun _=>(forIn [m:nrem] ((none,m):Option (Option Nat)×Nat) fun _ c=>ltAt' (lo + c.2) (lo + c.2 - 1) >>= fun r=>match r with
    | some smaller=>if smaller=true then pure (ForInStep.done (none,c.2)) else pure (ForInStep.yield (none,c.2 + 1))
    | _=>pure (ForInStep.done (some none,c.2))) >>= fun c=>(match c.1 with | some r=>pure r | none=>pure (some c.2))
   else reverseSlice' lo (lo + m) >>= fun _=>(forIn [m:nrem] ((none,m):Option (Option Nat)×Nat) fun _ c=>ltAt' (lo + c.2) (lo + c.2 - 1) >>= fun r=>match r with
    | some smaller=>if smaller=true then pure (ForInStep.done (none,c.2)) else pure (ForInStep.yield (none,c.2 + 1))
    | _=>pure (ForInStep.done (some none,c.2))) >>= fun c=>(match c.1 with | some r=>pure r | none=>pure (some c.2)))) :
  wpS (model prog w) X E s (Dloop >>= rest) Q st:=by
 refine wpS_bind (wpS_mono hD ?_)
 rintro c st1 ⟨m,neq,rfl,hB1,hK1,hm1,hm2,hs1,hq,he⟩
 rw [hrest]
 have hsz:lo + m≤(arrOf st1).size:=by rw [hB1.size];lia
 have fin:∀ st2,SB a₀ st2→Kept lo st st2→NIn (arrOf st2) lo m→wpS (model prog w) X E s (reverseSlice' lo (lo + m) >>= fun _=>(forIn [m:nrem] ((none,m):Option (Option Nat)×Nat) fun _ c=>ltAt' (lo + c.2) (lo + c.2 - 1) >>= fun r=>match r with
    | some smaller=>if smaller=true then pure (ForInStep.done (none,c.2)) else pure (ForInStep.yield (none,c.2 + 1))
    | _=>pure (ForInStep.done (some none,c.2))) >>= fun c=>(match c.1 with | some r=>pure r | none=>pure (some c.2))) Q st2:=by
  intro st2 hB2 hK2 hs2
  have hsz2:lo + m≤(arrOf st2).size:=by rw [hB2.size];lia
  refine wpS_bind (wpS_reverse ?_)
  have hB3:SB a₀ (setArr st2 (mirror (arrOf st2) lo (lo + m) ((lo + m - lo) / 2))):=hB2.setArr (mirror_perm _ _ _ _)
  have hK3:Kept lo st (setArr st2 (mirror (arrOf st2) lo (lo + m) ((lo + m - lo) / 2))):=hK2.trans (.mirror (Nat.le_refl _) hsz2)
  refine wpS_bind (wpS_mono (zkC h0 hB3 hn (by lia) hm2 ?_) ?_)
  ·intro i j hij hj
   show K (mirror (arrOf st2) lo (lo + m) ((lo + m - lo) / 2)) (lo + i)≤K (mirror (arrOf st2) lo (lo + m) ((lo + m - lo) / 2)) (lo + j)
   rw [zdU hsz2,zdU hsz2,if_pos (by lia),if_pos (by lia)]
   have z:=hs2 (m - 1 - j) (m - 1 - i) (by lia) (by lia)
   rw [show lo + (m - 1 - i)=lo + (lo + m) - 1 - (lo + i) by lia,show lo + (m - 1 - j)=lo + (lo + m) - 1 - (lo + j) by lia] at z
   exact z
  ·rintro c st4 ⟨rfl,n4,rfl,g1,g2,g3,_⟩
   exact wpS_pure (h n4 _ hB3 hK3 (by lia) g2 g3)
 by_cases hneq:neq > 0
 ·refine zap hneq ?_
  refine wpS_bind (wpS_reverse ?_)
  refine fin _ (hB1.setArr (mirror_perm _ _ _ _)) (hK1.trans (.mirror (by lia) hsz)) ?_
  intro i j hij hj
  have hm:∀ k,K (mirror (arrOf st1) (lo + m - (neq + 1)) (lo + m) ((lo + m - (lo + m - (neq + 1))) / 2)) k=K (arrOf st1) k:=zjD hsz fun k h1 h2=>by
   have z:=he (k - lo) (by lia) (by lia)
   rw [show lo + (m - 1)=lo + m - 1 by lia,show lo + (k - lo)=k by lia] at z
   exact z
  show K (mirror (arrOf st1) _ _ _) (lo + j)≤K (mirror (arrOf st1) _ _ _) (lo + i)
  rw [hm,hm]
  exact hs1 i j hij hj
 ·refine zan hneq ?_
  exact fin st1 hB1 hK1 hs1
theorem zf7 {st:SortSt} {lo nrem:Nat} {Q:Option Nat→SortSt→Prop} (h0:zbv a₀) (hB:SB a₀ st) (hn:lo + nrem≤a₀.size) (h1:1≤nrem)
  (h:∀ m st',SB a₀ st'→Kept lo st st'→1≤m→m≤nrem→SIn (arrOf st') lo m→Q (some m) st') :
  wpS (model prog w) X E s (zlO lo nrem) Q st:=by
 refine wpS_bind (wpS_mono (zkC h0 hB hn (Nat.le_refl 1) h1 (fun i j hij hj=>by
  have:i=j:=by lia
  subst this
  exact Int.le_refl _)) ?_)
 rintro c st' ⟨rfl,n,rfl,hn1,hn2,hsn,hor⟩
 dsimp only
 by_cases hnn:n=nrem
 ·refine zap (by simpa using hnn) ?_
  exact wpS_pure (h n _ hB (.refl _ _) hn1 hn2 hsn)
 ·refine zan (by simpa using hnn) ?_
  have hlt:K (arrOf st') (lo + n) < K (arrOf st') (lo + n - 1):=hor.resolve_left hnn
  by_cases hgt:n > 1
  ·refine zap hgt ?_
   refine wpS_bind (zdo hB h0 (by lia) (by lia) ?_)
   by_cases hrose:K (arrOf st') lo < K (arrOf st') (lo + n - 1)
   ·simp only [hrose,decide_true,if_true]
    exact wpS_pure (h n _ hB (.refl _ _) hn1 hn2 hsn)
   ·simp only [hrose,decide_false,Bool.false_eq_true,if_false]
    have hsz:lo + n≤(arrOf st').size:=by rw [hB.size];lia
    have hall:∀ k,lo≤k→k < lo + n→K (arrOf st') k=K (arrOf st') (lo + n - 1):=by
     intro k hk1 hk2
     have a1:=hsn 0 (k - lo) (by lia) (by lia)
     have a2:=hsn (k - lo) (n - 1) (by lia) (by lia)
     rw [show lo + 0=lo by lia,show lo + (k - lo)=k by lia] at a1
     rw [show lo + (k - lo)=k by lia,show lo + (n - 1)=lo + n - 1 by lia] at a2
     lia
    refine wpS_bind (wpS_reverse ?_)
    refine wpS_bind (wpS_lift (wpAny_rule ⟨rfl,?_⟩))
    have hB2:SB a₀ (setArr st' (mirror (arrOf st') lo (lo + n) ((lo + n - lo) / 2))):=hB.setArr (mirror_perm _ _ _ _)
    have hK2:Kept lo st' (setArr st' (mirror (arrOf st') lo (lo + n) ((lo + n - lo) / 2))):=.mirror (Nat.le_refl _) hsz
    have hN2:NIn (arrOf (setArr st' (mirror (arrOf st') lo (lo + n) ((lo + n - lo) / 2)))) lo (n + 1):=by
     intro i j hij hj
     show K (mirror (arrOf st') _ _ _) (lo + j)≤K (mirror (arrOf st') _ _ _) (lo + i)
     rw [zjD hsz hall,zjD hsz hall]
     by_cases hjn:j < n
     ·rw [hall (lo + i) (by lia) (by lia),hall (lo + j) (by lia) (by lia)];exact Int.le_refl _
     ·have hj':j=n:=by lia
      subst hj'
      by_cases hi':i=j
      ·subst hi';exact Int.le_refl _
      ·rw [hall (lo + i) (by lia) (by lia)];exact Int.le_of_lt hlt
    exact ziJ h0 hB2 hn (by lia) hN2 (fun m st3 g1 g2 g3 g4 g5=>h m st3 g1 (hK2.trans g2) g3 g4 g5) (ziK h0 hB2 hn (by lia) (by lia) hN2) fun m neq=>by
     dsimp only
     split
     ·congr 1;funext _;congr 1;funext _;congr 1;funext c;obtain⟨r,k⟩:=c;cases r <;> rfl
     ·congr 1;funext _;congr 1;funext c;obtain⟨r,k⟩:=c;cases r <;> rfl
  ·refine zan hgt ?_
   have hn1':n=1:=by lia
   subst hn1'
   refine wpS_bind (wpS_lift (wpAny_rule ⟨rfl,?_⟩))
   have hN2:NIn (arrOf st') lo (1 + 1):=by
    intro i j hij hj
    by_cases hi':i=j
    ·subst hi';exact Int.le_refl _
    ·have hi0:i=0:=by lia
     have hj1:j=1:=by lia
     subst hi0;subst hj1
     rw [show lo + 1 - 1=lo + 0 by lia] at hlt
     exact Int.le_of_lt hlt
   exact ziJ h0 hB hn (by lia) hN2 (fun m st3 g1 g2 g3 g4 g5=>h m st3 g1 g2 g3 g4 g5) (ziK h0 hB hn (by lia) (by lia) hN2) fun m neq=>by
     dsimp only
     split
     ·congr 1;funext _;congr 1;funext _;congr 1;funext c;obtain⟨r,k⟩:=c;cases r <;> rfl
     ·congr 1;funext _;congr 1;funext c;obtain⟨r,k⟩:=c;cases r <;> rfl
end
end Srt
namespace Srt
open PySem PyProof.Rows
variable [SK]
section
variable {prog:Program} {w:World} {X:Around} {E:Value→Shared→Prop} {s:Shared} [SKL prog w X E s] {a₀:Array Keyed}
theorem zeG {st:SortSt} {lo n ok:Nat} {Q:Bool→SortSt→Prop} (h0:zbv a₀) (hB:SB a₀ st) (hn:lo + n≤a₀.size) (hok:ok≤n) (hs:SIn (arrOf st) lo ok)
  (h:∀ st',SB a₀ st'→Kept lo st st'→SIn (arrOf st') lo n→Q true st'):wpS (model prog w) X E s (zid lo n ok) Q st:=by
 refine wpS_bind (wpS_mono (wpS_forRange (I:=fun k c st'=>c=(none,())∧SB a₀ st'∧Kept lo st st'∧SIn (arrOf st') lo (min k n))
  (Q:=fun c st'=>c=(none,())∧SB a₀ st'∧Kept lo st st'∧SIn (arrOf st') lo n) ?step ?fin ?init) ?post)
 case post =>
  rintro c st' ⟨rfl,hB',hK',hs'⟩
  exact wpS_pure (h st' hB' hK' hs')
 case init =>
  refine ⟨rfl,hB,.refl _ _,fun i j hij hj=>?_⟩
  by_cases h1:ok=0
  ·have:i=j:=by lia
   subst this;exact Int.le_refl _
  ·exact hs i j hij (by lia)
 case fin =>
  rintro c st' ⟨hc,hB',hK',hs'⟩
  refine ⟨hc,hB',hK',?_⟩
  rwa [show min (max (max ok 1) n) n=n by lia] at hs'
 case step =>
  rintro k c st' hak hkn ⟨rfl,hB',hK',hs'⟩
  rw [show min k n=k by lia] at hs'
  refine wpS_bind (wpS_mono (wpS_forRange (I:=fun x c st''=>st''=st'∧∃ l r,c=(none,l,r)∧l≤r∧r≤k∧r - l≤k - x ∧
    (∀ i,i < l→K (arrOf st') (lo + i)≤K (arrOf st') (lo + k))∧(∀ i,r≤i→i < k→K (arrOf st') (lo + k) < K (arrOf st') (lo + i)))
   (Q:=fun c st''=>st''=st'∧∃ l r,c=(none,l,r)∧l≤k ∧
    (∀ i,i < l→K (arrOf st') (lo + i)≤K (arrOf st') (lo + k))∧(∀ i,l≤i→i < k→K (arrOf st') (lo + k) < K (arrOf st') (lo + i))) ?istep ?ifin ?iinit) ?ipost)
  case iinit=>exact⟨rfl,0,k,rfl,by lia,by lia,by lia,fun i hi=>by lia,fun i h1 h2=>by lia⟩
  case ifin =>
   rintro c st'' ⟨rfl,l,r,rfl,hlr,hrk,hm,hlo,hhi⟩
   have:l=r:=by lia
   subst this
   exact⟨rfl,l,l,rfl,hrk,hlo,hhi⟩
  case istep =>
   rintro x c st'' _ hxk ⟨rfl,l,r,rfl,hlr,hrk,hm,hlo,hhi⟩
   dsimp only
   by_cases hge:l≥r
   ·refine zap hge ?_
    have:l=r:=by lia
    subst this
    exact wpS_pure ⟨rfl,l,l,rfl,hrk,hlo,hhi⟩
   ·refine zan hge ?_
    refine wpS_bind (zdo hB' h0 (by lia) (by lia) ?_)
    by_cases hless:K (arrOf st'') (lo + k) < K (arrOf st'') (lo + (l + r) / 2)
    ·simp only [hless,decide_true,if_true]
     refine wpS_pure ⟨rfl,l,(l + r) / 2,rfl,by lia,by lia,by lia,hlo,fun i h1 h2=>?_⟩
     exact Int.lt_of_lt_of_le hless (hs' _ _ h1 h2)
    ·simp only [hless,decide_false,Bool.false_eq_true,if_false]
     refine wpS_pure ⟨rfl,(l + r) / 2 + 1,r,rfl,by lia,by lia,by lia,fun i h1=>?_,hhi⟩
     exact Int.le_trans (hs' i ((l + r) / 2) (by lia) (by lia)) (Int.not_lt.mp hless)
  case ipost =>
   rintro c st'' ⟨rfl,l,r,rfl,hlk,hlo,hhi⟩
   dsimp only
   have hks:lo + k < (arrOf st'').size:=by rw [hB'.size];lia
   refine wpS_bind (m:=moveDown' (lo + k) (lo + l)) ?_
   rw [moveDown'_eq]
   have eK:∀ i,K (bubble (arrOf st'') (lo + k) (lo + k - (lo + l))) i=if i=lo + l then K (arrOf st'') (lo + k) else if lo + l < i∧i≤lo + k then K (arrOf st'') (i - 1) else K (arrOf st'') i:=fun i=>by
    rw [znz hks (by lia),show lo + k - (lo + k - (lo + l))=lo + l by lia]
   refine wpS_modify (wpS_pure ⟨rfl,hB'.setArr (bubble_perm _ _ _),hK'.trans ⟨fun i hi=>?_,rfl⟩,?_⟩)
   ·show K (bubble (arrOf st'') (lo + k) (lo + k - (lo + l))) i=_
    rw [eK,if_neg (by lia),if_neg (by lia)]
   ·rw [show min (k + 1) n=k + 1 by lia]
    intro i j hij hj
    show K (bubble (arrOf st'') (lo + k) (lo + k - (lo + l))) (lo + i)≤K (bubble (arrOf st'') (lo + k) (lo + k - (lo + l))) (lo + j)
    rw [eK,eK]
    by_cases c1:i < l
    ·rw [if_neg (by lia),if_neg (by lia)]
     by_cases c2:j < l
     ·rw [if_neg (by lia),if_neg (by lia)];exact hs' i j hij (by lia)
     ·by_cases c3:j=l
      ·rw [if_pos (by lia)];exact hlo i c1
      ·rw [if_neg (by lia),if_pos (by lia),show lo + j - 1=lo + (j - 1) by lia];exact hs' i (j - 1) (by lia) (by lia)
    ·by_cases c2:i=l
     ·rw [if_pos (by lia)]
      by_cases c3:j=l
      ·rw [if_pos (by lia)];exact Int.le_refl _
      ·rw [if_neg (by lia),if_pos (by lia),show lo + j - 1=lo + (j - 1) by lia];exact Int.le_of_lt (hhi (j - 1) (by lia) (by lia))
     ·rw [if_neg (by lia),if_pos (by lia),if_neg (by lia),if_pos (by lia),show lo + i - 1=lo + (i - 1) by lia,show lo + j - 1=lo + (j - 1) by lia]
      exact hs' (i - 1) (j - 1) (by lia) (by lia)
end
theorem zhZ {α:Type} (sa:Nat):∀ (l:List α) (n:Nat) (xs:Array α) (i:Nat),sa + n + l.length≤xs.size →
  ((l.zipIdx n).foldl (fun a x=>match x with | (p,j)=>a.setIfInBounds (sa + j) p) xs)[i]? = if sa + n≤i∧i < sa + n + l.length then l[i - (sa + n)]? else xs[i]?
 | [],n,xs,i,_=>by
  rw [if_neg (by simp <;> lia)]
  rfl
 | p :: l,n,xs,i,h=>by
  rw [List.length_cons] at h
  rw [List.zipIdx_cons,List.foldl_cons,zhZ sa l (n + 1) _ i (by simp;lia)]
  simp only [List.length_cons]
  by_cases h1:sa + (n + 1)≤i∧i < sa + (n + 1) + l.length
  ·rw [if_pos h1,if_pos (by lia),show i - (sa + n)=(i - (sa + (n + 1))) + 1 by lia,List.getElem?_cons_succ]
  ·rw [if_neg h1,Array.getElem?_setIfInBounds]
   by_cases h2:sa + n=i
   ·subst h2
    rw [if_pos rfl,if_pos (by lia),if_pos (by lia),Nat.sub_self,List.getElem?_cons_zero]
   ·rw [if_neg h2,if_neg (by lia)]
theorem zjb {α:Type} (sa:Nat):∀ (l:List α) (n:Nat) (xs:Array α),((l.zipIdx n).foldl (fun a x=>match x with | (p,j)=>a.setIfInBounds (sa + j) p) xs).size=xs.size
 | [],_,_=>rfl
 | p :: l,n,xs=>by
  rw [List.zipIdx_cons,List.foldl_cons,zjb sa l (n + 1)]
  simp
theorem zmJ {α:Type} {sa:Nat} {l:List α} {xs:Array α} (h:sa + l.length≤xs.size) :
  (l.zipIdx.foldl (fun a x=>match x with | (p,j)=>a.setIfInBounds (sa + j) p) xs).toList=xs.toList.take sa ++ l ++ xs.toList.drop (sa + l.length):=by
 apply List.ext_getElem?
 intro i
 have hx:xs.toList.length=xs.size:=by simp
 rw [Array.getElem?_toList,zhZ sa l 0 xs i (by lia)]
 simp only [Nat.add_zero]
 by_cases h1:i < sa
 ·rw [if_neg (by lia),List.append_assoc,List.getElem?_append_left (by rw [List.length_take];lia),List.getElem?_take_of_lt h1,Array.getElem?_toList]
 ·by_cases h2:i < sa + l.length
  ·rw [if_pos (by lia),List.append_assoc,List.getElem?_append_right (by rw [List.length_take];lia),List.getElem?_append_left (by rw [List.length_take];lia),List.length_take,show min sa xs.toList.length=sa by lia]
  ·rw [if_neg (by lia),List.getElem?_append_right (by rw [List.length_append,List.length_take];lia),List.length_append,List.length_take,show min sa xs.toList.length=sa by lia,List.getElem?_drop,Array.getElem?_toList]
   congr 1
   lia
theorem zdh {xs:Array Keyed} {lo n:Nat} (h:lo + n≤xs.size):SIn xs lo n↔Sr ((xs.toList.drop lo).take n):=by
 have hl:((xs.toList.drop lo).take n).length=n:=by rw [List.length_take,List.length_drop];simp;lia
 have kk:∀ i (hi:i < ((xs.toList.drop lo).take n).length),K xs (lo + i)=key ((xs.toList.drop lo).take n)[i]:=fun i hi=>by
  rw [hl] at hi
  obtain⟨p,e1,e2⟩:=zaK (a:=xs) (i:=lo + i) (by lia)
  have e3:((xs.toList.drop lo).take n)[i]? = some p:=by rw [List.getElem?_take_of_lt hi,List.getElem?_drop];exact e2
  obtain⟨hi',e4⟩:=List.getElem?_eq_some_iff.mp e3
  rw [e4]
  unfold K
  rw [e1]
 constructor
 ·intro hs
  refine List.pairwise_iff_getElem.mpr fun i j hi hj hij=>?_
  rw [← kk i hi,← kk j hj]
  exact hs i j (by lia) (by lia)
 ·intro hs i j hij hj
  rw [kk i (by lia),kk j (by lia)]
  by_cases e:i=j
  ·subst e;exact Int.le_refl _
  ·exact List.pairwise_iff_getElem.mp hs i j (by lia) (by lia) (by lia)
end Srt
namespace Srt
open PySem PyProof.Rows
variable [SK]
noncomputable def zgn:Nat→StateT SortSt Sem Bool:=sortPriv% PySem.Builtin.mergeAt
noncomputable def Cov (xs:Array Keyed):Nat→List (Nat×Nat×Nat)→Nat→Prop
 | s,[],e=>s=e
 | s,(b,n,_) :: r,e=>b=s∧1≤n∧SIn xs b n∧Cov xs (s + n) r e
theorem Cov.le {xs:Array Keyed}:∀ {l:List (Nat×Nat×Nat)} {s e:Nat},Cov xs s l e→s + l.length≤e
 | [],s,e,h=>by
  have h':s=e:=h
  subst h'
  exact Nat.le_refl _
 | (b,n,p) :: r,s,e,h=>by
  obtain⟨_,h1,_,h2⟩:=h
  have:=Cov.le h2
  rw [List.length_cons]
  lia
theorem Cov.append {xs:Array Keyed}:∀ {l₁ l₂:List (Nat×Nat×Nat)} {s e:Nat},Cov xs s (l₁ ++ l₂) e↔∃ m,Cov xs s l₁ m∧Cov xs m l₂ e
 | [],l₂,s,e=>by
  constructor
  ·intro h;exact⟨s,rfl,h⟩
  ·rintro ⟨m,h1,h2⟩
   have h1':s=m:=h1
   subst h1'
   exact h2
 | (b,n,p) :: r,l₂,s,e=>by
  constructor
  ·rintro ⟨h1,h2,h3,h4⟩
   obtain⟨m,h5,h6⟩:=Cov.append.mp h4
   exact⟨m,⟨h1,h2,h3,h5⟩,h6⟩
  ·rintro ⟨m,⟨h1,h2,h3,h5⟩,h6⟩
   exact⟨h1,h2,h3,Cov.append.mpr ⟨m,h5,h6⟩⟩
theorem Cov.congr {xs ys:Array Keyed}:∀ {l:List (Nat×Nat×Nat)} {s e:Nat},(∀ k,s≤k→k < e→K ys k=K xs k)→Cov xs s l e→Cov ys s l e
 | [],_,_,_,h=>h
 | (b,n,p) :: r,s,e,hk,h=>by
  obtain⟨h1,h2,h3,h4⟩:=h
  have hle:=h4.le
  refine ⟨h1,h2,fun i j hij hj=>?_,Cov.congr (fun k a b=>hk k (by lia) b) h4⟩
  rw [hk _ (by lia) (by lia),hk _ (by lia) (by lia)]
  exact h3 i j hij hj
theorem zj2 {α:Type} {p:Array α} {l₁ l₂:List α} {a b v:α} (h:p.toList=l₁ ++ a :: b :: l₂):((p.setIfInBounds l₁.length v).eraseIdxIfInBounds (l₁.length + 1)).toList=l₁ ++ v :: l₂:=by
 obtain⟨pl⟩:=p
 have h':pl=l₁ ++ a :: b :: l₂:=h
 subst h'
 rw [List.setIfInBounds_toArray,List.eraseIdxIfInBounds_toArray]
 show ((l₁ ++ a :: b :: l₂).set l₁.length v).eraseIdx (l₁.length + 1)=_
 rw [List.set_append_right _ _ (Nat.le_refl _),Nat.sub_self,List.set_cons_zero,List.eraseIdx_append_of_length_le (by lia)]
 simp
theorem zrM {α:Type} (P M T:List α) (n:Nat) (h:P.length + M.length≤n):(P ++ (M ++ T)).take n=P ++ M ++ T.take (n - P.length - M.length):=by
 rw [List.take_append,List.take_of_length_le (by lia),List.take_append,List.take_of_length_le (by lia),List.append_assoc]
theorem K_of {xs:Array Keyed} {i:Nat} {z:Keyed} (e:xs.toList[i]? = some z):K xs i=key z:=by
 rw [Array.getElem?_toList] at e
 unfold K
 rw [e]
theorem zlZ {a:Array Keyed} {base n:Nat} (sa:SIn a base n) (left:Bool) (k:Keyed) (hn:base + n≤a.size):∀ i j,i≤j→j < n→ask left k a base j=true→ask left k a base i=true:=by
 intro i j hij hj h
 obtain⟨p,e1,e2⟩:=zaK (a:=a) (i:=base + i) (by lia)
 obtain⟨q,e3,e4⟩:=zaK (a:=a) (i:=base + j) (by lia)
 have hle:=sa i j hij hj
 rw [K_of e2,K_of e4] at hle
 unfold ask at h ⊢
 rw [e1]
 rw [e3] at h
 cases left with
 | true =>
  simp only [if_true,decide_eq_true_eq] at h ⊢
  lia
 | false =>
  simp only [Bool.false_eq_true,if_false,Bool.not_eq_true',decide_eq_false_iff_not] at h ⊢
  lia
section
variable {prog:Program} {w:World} {X:Around} {E:Value→Shared→Prop} {s:Shared} [SKL prog w X E s] {a₀:Array Keyed}
theorem ziI {left:Bool} {k:Keyed} {a:Array Keyed} {base n hint:Nat} {st:SortSt} {Q:Option Nat→SortSt→Prop} (hk:kindOf st=oneType') (hkey:IntK k) (ha:∀ p∈a.toList,IntK p) (sa:SIn a base n)
  (hb:base + n≤a.size) (hn:hint < n)
  (h:∀ m,m≤n→(∀ i,i < m→if left then K a (base + i) < key k else K a (base + i)≤key k)→(∀ i,m≤i→i < n→if left then key k≤K a (base + i) else key k < K a (base + i))→Q (some m) st) :
  wpS (model prog w) X E s (zc9 left k a base n hint) Q st:=by
 refine zfJ hk hkey (fun i hi=>?_) hn (zlZ sa left k hb) fun m hm h1 h2=>h m hm (fun i hi=>?_) fun i hi hi'=>?_
 ·obtain⟨q,e1,e2⟩:=zaK (a:=a) (i:=base + i) (by lia)
  exact⟨q,e1,ha q (List.mem_of_getElem? e2)⟩
 ·obtain⟨q,e1,e2⟩:=zaK (a:=a) (i:=base + i) (by lia)
  have:=h1 i hi
  unfold ask at this
  rw [e1] at this
  rw [K_of e2]
  cases left with
  | true=>simpa using this
  | false=>simpa using this
 ·obtain⟨q,e1,e2⟩:=zaK (a:=a) (i:=base + i) (by lia)
  have:=h2 i hi hi'
  unfold ask at this
  rw [e1] at this
  rw [K_of e2]
  cases left with
  | true=>simpa using this
  | false=>simpa using this
end
section
variable {prog:Program} {w:World} {X:Around} {E:Value→Shared→Prop} {s:Shared} [SKL prog w X E s] {a₀:Array Keyed}
theorem zhI {st:SortSt} {l₁ l₂:List (Nat×Nat×Nat)} {sa na pw sb nb pb e:Nat} {Q:Bool→SortSt→Prop} (hp:(pendingOf st).toList=l₁ ++ (sa,na,pw) :: (sb,nb,pb) :: l₂)
  (h0:zbv a₀) (hB:SB a₀ st) (hC:Cov (arrOf st) 0 (pendingOf st).toList e) (he:e≤a₀.size)
  (h:∀ st',SB a₀ st'→Cov (arrOf st') 0 (pendingOf st').toList e→(pendingOf st').toList=l₁ ++ (sa,na + nb,pw) :: l₂→(∀ k,e≤k→K (arrOf st') k=K (arrOf st) k)→Q true st') :
  wpS (model prog w) X E s (zgn l₁.length) Q st:=by
 obtain⟨m1,hC1,hsa,hna,sA,hsb,hnb,sB,hC2⟩:=Cov.append.mp (hp ▸ hC)
 have hsa':sa=m1:=hsa
 have hsb':sb=m1 + na:=hsb
 subst hsa' hsb'
 have hle2:=hC2.le
 have hsz:=hB.size
 have hint:=hB.int h0
 have hLs:(arrOf st).toList.length=(arrOf st).size:=by simp
 have fin:∀ st',SB a₀ st'→(pendingOf st').toList=l₁ ++ (sa,na + nb,pw) :: l₂→(∀ k,k < sa∨sa + na + nb≤k→K (arrOf st') k=K (arrOf st) k)→SIn (arrOf st') sa (na + nb)→Q true st':=by
  intro st' hB' hp' hK' hS'
  refine h st' hB' ?_ hp' fun k hk=>hK' k (.inr (by lia))
  rw [hp']
  refine Cov.append.mpr ⟨sa,hC1.congr fun k _ hk=>hK' k (.inl hk),rfl,by lia,hS',?_⟩
  rw [← Nat.add_assoc]
  exact hC2.congr fun k hk _=>hK' k (.inr hk)
 have e1:(pendingOf st)[l₁.length]? = some (sa,na,pw):=by
  rw [← Array.getElem?_toList,hp,List.getElem?_append_right (Nat.le_refl _),Nat.sub_self];rfl
 have e2:(pendingOf st)[l₁.length + 1]? = some (sa + na,nb,pb):=by
  rw [← Array.getElem?_toList,hp,List.getElem?_append_right (by lia),show l₁.length + 1 - l₁.length=1 by lia];rfl
 have hpm:=zj2 (v:=(sa,na + nb,pw)) hp
 have hSS:SIn (arrOf st) sa na:=sA
 have hSB':SIn (arrOf st) (sa + na) nb:=sB
 have lA:=(zdh (xs:=arrOf st) (lo:=sa) (n:=na) (by lia)).mp hSS
 have lB:=(zdh (xs:=arrOf st) (lo:=sa + na) (n:=nb) (by lia)).mp hSB'
 refine wpS_bind (wpS_get ?_)
 rw [e1,e2]
 dsimp only
 refine wpS_bind (m:=set _) ?_
 show wpS _ _ _ _ (modify fun _=>_) _ _
 refine wpS_modify ?_
 have KS:∀ i,i < (arrOf st).size→∃ p,(arrOf st)[i]? = some p∧(arrOf st).toList[i]? = some p∧IntK p∧K (arrOf st) i=key p:=fun i hi=>by
  obtain⟨p,q1,q2⟩:=zaK (a:=arrOf st) (i:=i) hi
  exact⟨p,q1,q2,hint p (List.mem_of_getElem? q2),K_of q2⟩
 obtain⟨b0,eb,eb2,ib0,kb0⟩:=KS (sa + na) (by lia)
 refine wpS_bind (zax eb (wpS_bind (ziI (a:=arrOf st) hB.kind ib0 hint hSS (by lia) (by lia) fun k hk1 fA0 gA0=>?_)))
 have fA:∀ i,i < k→K (arrOf st) (sa + i)≤K (arrOf st) (sa + na):=fun i hi=>by
  rw [kb0]
  simpa using fA0 i hi
 have gA:∀ i,k≤i→i < na→K (arrOf st) (sa + na) < K (arrOf st) (sa + i):=fun i hi hi'=>by
  rw [kb0]
  simpa using gA0 i hi hi'
 clear fA0 gA0
 dsimp only
 have hB1:SB a₀ (setPending st (((pendingOf st).setIfInBounds l₁.length (sa,na + nb,pw)).eraseIdxIfInBounds (l₁.length + 1))):=⟨hB.perm,hB.kind,hB.failed⟩
 by_cases c1:(na - k == 0)=true
 ·refine zap c1 ?_
  have c1':na - k=0:=by simpa using c1
  refine wpS_pure (fin _ hB1 hpm (fun _ _=>rfl) fun i j hij hj=>?_)
  show K (arrOf st) (sa + i)≤K (arrOf st) (sa + j)
  by_cases d1:j < na
  ·exact hSS i j hij d1
  ·by_cases d2:i < na
   ·have z1:=fA i (by lia)
    have z2:=hSB' 0 (j - na) (by lia) (by lia)
    rw [Nat.add_zero,show sa + na + (j - na)=sa + j by lia] at z2
    lia
   ·have z2:=hSB' (i - na) (j - na) (by lia) (by lia)
    rw [show sa + na + (j - na)=sa + j by lia,show sa + na + (i - na)=sa + i by lia] at z2
    exact z2
 refine zan c1 ?_
 have c1':na - k≠0:=by simpa using c1
 have ei:sa + k + (na - k) - 1=sa + na - 1:=by lia
 obtain⟨al,ea,ea2,ia0,ka0⟩:=KS (sa + na - 1) (by lia)
 refine wpS_bind (zax (p:=al) (by rw [ei];exact ea) (wpS_bind (ziI (a:=arrOf st) hB.kind ia0 hint hSB' (by lia) (by lia) fun m hm1 fB0 gB0=>?_)))
 have fB:∀ i,i < m→K (arrOf st) (sa + na + i) < K (arrOf st) (sa + na - 1):=fun i hi=>by
  rw [ka0]
  simpa using fB0 i hi
 have gB:∀ i,m≤i→i < nb→K (arrOf st) (sa + na - 1)≤K (arrOf st) (sa + na + i):=fun i hi hi'=>by
  rw [ka0]
  simpa using gB0 i hi hi'
 clear fB0 gB0
 dsimp only
 by_cases c2:(m == 0)=true
 ·refine zap c2 ?_
  have c2':m=0:=by simpa using c2
  refine wpS_pure (fin _ hB1 hpm (fun _ _=>rfl) fun i j hij hj=>?_)
  show K (arrOf st) (sa + i)≤K (arrOf st) (sa + j)
  by_cases d1:j < na
  ·exact hSS i j hij d1
  ·by_cases d2:i < na
   ·have z1:=gB (j - na) (by lia) (by lia)
    have z2:=hSS i (na - 1) (by lia) (by lia)
    rw [show sa + (na - 1)=sa + na - 1 by lia] at z2
    rw [show sa + na + (j - na)=sa + j by lia] at z1
    lia
   ·have z2:=hSB' (i - na) (j - na) (by lia) (by lia)
    rw [show sa + na + (j - na)=sa + j by lia,show sa + na + (i - na)=sa + i by lia] at z2
    exact z2
 refine zan c2 ?_
 have c2':m≠0:=by simpa using c2
 have xl:((arrOf st).extract (sa + k) (sa + na)).toList=((arrOf st).toList.drop (sa + k)).take (na - k):=by
  simp only [Array.toList_extract,List.extract_eq_take_drop]
  congr 1
  lia
 have yl:((arrOf st).extract (sa + na) (sa + na + m)).toList=((arrOf st).toList.drop (sa + na)).take m:=by
  simp only [Array.toList_extract,List.extract_eq_take_drop]
  congr 1
  lia
 have xs:((arrOf st).extract (sa + k) (sa + na)).size=na - k:=by simp;lia
 have ys:((arrOf st).extract (sa + na) (sa + na + m)).size=m:=by simp;lia
 have inx:∀ z∈((arrOf st).extract (sa + k) (sa + na)).toList,∃ j,j < na - k∧K (arrOf st) (sa + k + j)=key z∧IntK z:=fun z hz=>by
  rw [xl] at hz
  obtain⟨j,hj,ej⟩:=zaM hz
  exact⟨j,hj,K_of ej,hint z (List.mem_of_getElem? ej)⟩
 have iny:∀ z∈((arrOf st).extract (sa + na) (sa + na + m)).toList,∃ j,j < m∧K (arrOf st) (sa + na + j)=key z∧IntK z:=fun z hz=>by
  rw [yl] at hz
  obtain⟨j,hj,ej⟩:=zaM hz
  exact⟨j,hj,K_of ej,hint z (List.mem_of_getElem? ej)⟩
 have sx:Sr ((arrOf st).extract (sa + k) (sa + na)).toList:=by
  rw [xl]
  refine (zdh (by lia)).mp fun i j hij hj=>?_
  have z:=hSS (k + i) (k + j) (by lia) (by lia)
  rw [← Nat.add_assoc,← Nat.add_assoc] at z
  exact z
 have sy:Sr ((arrOf st).extract (sa + na) (sa + na + m)).toList:=by
  rw [yl]
  exact (zdh (by lia)).mp fun i j hij hj=>hSB' i j hij (by lia)
 have hy0:∀ q,((arrOf st).extract (sa + na) (sa + na + m))[0]? = some q→∀ z∈((arrOf st).extract (sa + k) (sa + na)).toList,key q < key z:=fun q hq z hz=>by
  have e:=zby hq
  rw [yl,List.getElem?_take_of_lt (by lia),List.getElem?_drop,Nat.add_zero] at e
  obtain⟨j,hj,kz,_⟩:=inx z hz
  have z1:=gA (k + j) (by lia) (by lia)
  rw [← Nat.add_assoc,kz,K_of e] at z1
  exact z1
 have hxl:∀ p,((arrOf st).extract (sa + k) (sa + na))[((arrOf st).extract (sa + k) (sa + na)).size - 1]? = some p→∀ z∈((arrOf st).extract (sa + na) (sa + na + m)).toList,key z < key p:=fun p hp z hz=>by
  have e:=zby hp
  rw [xs,xl,List.getElem?_take_of_lt (by lia),List.getElem?_drop,show sa + k + (na - k - 1)=sa + na - 1 by lia] at e
  obtain⟨j,hj,kz,_⟩:=iny z hz
  have z1:=fB j hj
  rw [kz,K_of e] at z1
  exact z1
 have last:∀ (M:Array Keyed) st',SameG (setPending st (((pendingOf st).setIfInBounds l₁.length (sa,na + nb,pw)).eraseIdxIfInBounds (l₁.length + 1))) st'→Good ((arrOf st).extract (sa + k) (sa + na)).toList ((arrOf st).extract (sa + na) (sa + na + m)).toList M.toList →
   Q true (PyProof.Rows.setArr st' (M.toList.zipIdx.foldl (fun a x=>match x with | (p,j)=>a.setIfInBounds (sa + k + j) p) (arrOf st'))):=by
  intro M st' hG ⟨gp,gs⟩
  have eA:arrOf st'=arrOf st:=hG.arr
  have eP:(pendingOf st').toList=l₁ ++ (sa,na + nb,pw) :: l₂:=by rw [hG.pend];exact hpm
  have lM:M.toList.length=na - k + m:=by
   have:=gp.length_eq
   rw [this,List.length_append,Array.length_toList,Array.length_toList,xs,ys]
  have newL:=zmJ (sa:=sa + k) (l:=M.toList) (xs:=arrOf st) (by lia)
  have hsplit:(arrOf st).toList=(arrOf st).toList.take (sa + k) ++ (((arrOf st).extract (sa + k) (sa + na)).toList ++ ((arrOf st).extract (sa + na) (sa + na + m)).toList) ++ (arrOf st).toList.drop (sa + k + M.toList.length):=by
   have e:((arrOf st).extract (sa + k) (sa + na)).toList ++ ((arrOf st).extract (sa + na) (sa + na + m)).toList=((arrOf st).toList.drop (sa + k)).take (na - k + m):=by
    rw [xl,yl,List.take_add,List.drop_drop]
    congr 2
    congr 1
    lia
   rw [e,lM,← List.take_add,List.take_append_drop]
  have eNew:arrOf (PyProof.Rows.setArr st' (M.toList.zipIdx.foldl (fun a x=>match x with | (p,j)=>a.setIfInBounds (sa + k + j) p) (arrOf st')))=M.toList.zipIdx.foldl (fun a x=>match x with | (p,j)=>a.setIfInBounds (sa + k + j) p) (arrOf st):=by
   show M.toList.zipIdx.foldl _ (arrOf st')=_
   rw [eA]
  generalize hN:M.toList.zipIdx.foldl (fun a x=>match x with | (p,j)=>a.setIfInBounds (sa + k + j) p) (arrOf st)=N at eNew newL
  have szN:N.size=(arrOf st).size:=by rw [← hN];exact zjb _ _ _ _
  have getN:∀ i,i < sa + k∨sa + na + m≤i→N[i]? = (arrOf st)[i]?:=fun i hi=>by
   rw [← hN,zhZ (sa + k) M.toList 0 (arrOf st) i (by lia),if_neg (by lia)]
  have perm:N.Perm (arrOf st):=by
   refine Array.perm_iff_toList_perm.mpr ?_
   rw [newL]
   conv=>rhs;rw [hsplit]
   exact (gp.append_left _).append_right _
  refine fin _ ⟨by rw [eNew];exact perm.trans hB.perm,hG.kind.trans hB.kind,hG.failed.trans hB.failed⟩ eP (fun i hi=>?_) ?_
  ·rw [eNew]
   exact zea (getN i (by lia))
  ·rw [eNew]
   refine (zdh (by lia)).mpr ?_
   have e3:(N.toList.drop sa).take (na + nb)=((arrOf st).toList.drop sa).take k ++ M.toList ++ ((arrOf st).toList.drop (sa + na + m)).take (nb - m):=by
    have lP:(((arrOf st).toList.drop sa).take k).length=k:=by rw [List.length_take,List.length_drop];lia
    rw [newL,lM,show sa + k + (na - k + m)=sa + na + m by lia,List.append_assoc,List.drop_append_of_le_length (by rw [List.length_take];lia),List.drop_take,show sa + k - sa=k by lia,
     zrM _ _ _ _ (by rw [lP,lM];lia),lP,lM,show na + nb - k - (na - k + m)=nb - m by lia]
   rw [e3]
   have inM:∀ z∈M.toList,(∃ j,k≤j∧j < na∧K (arrOf st) (sa + j)=key z)∨∃ j,j < m∧K (arrOf st) (sa + na + j)=key z:=fun z hz=>by
    rcases List.mem_append.mp (gp.mem_iff.mp hz) with hz | hz
    ·obtain⟨j,hj,kz,_⟩:=inx z hz
     exact .inl ⟨k + j,by lia,by lia,by rw [← Nat.add_assoc];exact kz⟩
    ·obtain⟨j,hj,kz,_⟩:=iny z hz
     exact .inr ⟨j,hj,kz⟩
   have inA:∀ z∈((arrOf st).toList.drop sa).take k,∃ j,j < k∧K (arrOf st) (sa + j)=key z:=fun z hz=>by
    obtain⟨j,hj,ej⟩:=zaM hz
    exact⟨j,hj,K_of ej⟩
   have inB:∀ z∈((arrOf st).toList.drop (sa + na + m)).take (nb - m),∃ j,m≤j∧j < nb∧K (arrOf st) (sa + na + j)=key z:=fun z hz=>by
    obtain⟨j,hj,ej⟩:=zaM hz
    exact⟨m + j,by lia,by lia,by rw [← Nat.add_assoc];exact K_of ej⟩
   have first:∀ j,j < nb→K (arrOf st) (sa + na)≤K (arrOf st) (sa + na + j):=fun j hj=>by
    have z:=hSB' 0 j (by lia) hj
    rw [Nat.add_zero] at z
    exact z
   have lastA:∀ j,j < na→K (arrOf st) (sa + j)≤K (arrOf st) (sa + na - 1):=fun j hj=>by
    have z:=hSS j (na - 1) (by lia) (by lia)
    rw [show sa + (na - 1)=sa + na - 1 by lia] at z
    exact z
   refine List.pairwise_append.mpr ⟨List.pairwise_append.mpr ⟨(zdh (by lia)).mp fun i j hij hj=>hSS i j hij (by lia),gs,fun x hx y hy=>?_⟩,(zdh (by lia)).mp fun i j hij hj=>?_,fun x hx y hy=>?_⟩
   ·obtain⟨i,hi,kx⟩:=inA x hx
    have z1:=fA i hi
    rw [← kx]
    rcases inM y hy with ⟨j,h1,h2,ky⟩ | ⟨j,h1,ky⟩
    ·rw [← ky];exact hSS i j (by lia) h2
    ·rw [← ky]
     have:=first j (by lia)
     lia
   ·have z:=hSB' (m + i) (m + j) (by lia) (by lia)
    rw [← Nat.add_assoc,← Nat.add_assoc] at z
    exact z
   ·obtain⟨j,h1,h2,ky⟩:=inB y hy
    rw [← ky]
    rcases List.mem_append.mp hx with hx | hx
    ·obtain⟨i,hi,kx⟩:=inA x hx
     rw [← kx]
     have z1:=fA i hi
     have:=first j h2
     lia
    ·rcases inM x hx with ⟨i,g1,g2,kx⟩ | ⟨i,g1,kx⟩
     ·rw [← kx]
      have z1:=gB j h1 h2
      have:=lastA i g2
      lia
     ·rw [← kx];exact hSB' i j (by lia) h2
 by_cases c3:na - k≤m
 ·refine zap c3 ?_
  refine wpS_bind (zhG (a:=(arrOf st).extract (sa + k) (sa + na)) (b:=(arrOf st).extract (sa + na) (sa + na + m)) hB1.kind (fun p hp=>let ⟨_,_,_,q⟩:=inx p hp;q) (fun p hp=>let ⟨_,_,_,q⟩:=iny p hp;q) sx sy (by lia) (by lia) (fun q hq z hz=>Int.le_of_lt (hy0 q hq z hz)) hxl fun M st' hG hM=>?_)
  refine wpS_bind (wpS_modify (wpS_bind (wpS_get (wpS_pure ?_))))
  have ef:(failedOf st').isNone=true:=by rw [hG.failed];show (failedOf st).isNone=true;rw [hB.failed];rfl
  show Q (failedOf st').isNone _
  rw [ef]
  exact last M st' hG hM
 ·refine zan c3 ?_
  refine wpS_bind (zhH (a:=(arrOf st).extract (sa + k) (sa + na)) (b:=(arrOf st).extract (sa + na) (sa + na + m)) hB1.kind (fun p hp=>let ⟨_,_,_,q⟩:=inx p hp;q) (fun p hp=>let ⟨_,_,_,q⟩:=iny p hp;q) sx sy (by lia) (by lia) hy0 hxl fun M st' hG hM=>?_)
  refine wpS_bind (wpS_modify (wpS_bind (wpS_get (wpS_pure ?_))))
  have ef:(failedOf st').isNone=true:=by rw [hG.failed];show (failedOf st).isNone=true;rw [hB.failed];rfl
  show Q (failedOf st').isNone _
  rw [ef]
  exact last M st' hG hM
end
end Srt
namespace Srt
open PySem PyProof.Rows
variable [SK]
theorem Cov.powers {xs:Array Keyed}:∀ {l l':List (Nat×Nat×Nat)} {s e:Nat},l.map (fun p=>(p.1,p.2.1))=l'.map (fun p=>(p.1,p.2.1))→Cov xs s l e→Cov xs s l' e
 | [],[],_,_,_,h=>h
 | [],_ :: _,_,_,q,_=>by simp at q
 | _ :: _,[],_,_,q,_=>by simp at q
 | (b,n,p) :: r,(b',n',p') :: r',s,e,q,h=>by
  simp only [List.map_cons,List.cons.injEq,Prod.mk.injEq] at q
  obtain⟨⟨rfl,rfl⟩,q⟩:=q
  obtain⟨h1,h2,h3,h4⟩:=h
  exact⟨h1,h2,h3,Cov.powers q h4⟩
theorem zpY {α:Type} {l:List α} {i:Nat} (h:i + 1 < l.length):∃ l₁ a b l₂,l=l₁ ++ a :: b :: l₂∧l₁.length=i:=by
 refine ⟨l.take i,l[i],l[i + 1],l.drop (i + 2),?_,by rw [List.length_take];lia⟩
 conv=>lhs;rw [← List.take_append_drop i l]
 congr 1
 rw [List.drop_eq_getElem_cons (by lia),List.drop_eq_getElem_cons (by lia)]
noncomputable def zkJ:StateT SortSt Sem Unit:=sortPriv% PySem.Builtin.sortRuns
section
variable {prog:Program} {w:World} {X:Around} {E:Value→Shared→Prop} {s:Shared} [SKL prog w X E s] {a₀:Array Keyed}
theorem zed {st:SortSt} {i e:Nat} {Q:Bool→SortSt→Prop} (hi:i + 1 < (pendingOf st).size) (h0:zbv a₀) (hB:SB a₀ st) (hC:Cov (arrOf st) 0 (pendingOf st).toList e) (he:e≤a₀.size)
  (h:∀ st',SB a₀ st'→Cov (arrOf st') 0 (pendingOf st').toList e→(pendingOf st').size + 1=(pendingOf st).size→(∀ k,e≤k→K (arrOf st') k=K (arrOf st) k)→Q true st') :
  wpS (model prog w) X E s (zgn i) Q st:=by
 obtain⟨l₁,⟨sa,na,pw⟩,⟨sb,nb,pb⟩,l₂,hl,hlen⟩:=zpY (l:=(pendingOf st).toList) (i:=i) (by simpa using hi)
 subst hlen
 refine zhI hl h0 hB hC he fun st' g1 g2 g3 g4=>h st' g1 g2 ?_ g4
 have e1:=congrArg List.length g3
 have e2:=congrArg List.length hl
 simp only [Array.length_toList,List.length_append,List.length_cons] at e1 e2
 lia
structure Mid (a₀:Array Keyed) (lo:Nat) (st:SortSt):Prop where
 b:SB a₀ st
 cov:Cov (arrOf st) 0 (pendingOf st).toList lo
 le:lo≤a₀.size
theorem zf5 {st:SortSt} {Q:Unit→SortSt→Prop} (h0:zbv a₀) (hB:SB a₀ st) (hp:pendingOf st = #[]) (h2:1≤a₀.size)
  (h:∀ st',(arrOf st').Perm a₀→failedOf st'=none→zdO (arrOf st') a₀.size→Q () st'):wpS (model prog w) X E s zkJ Q st:=by
 refine wpS_bind (wpS_get ?_)
 dsimp only
 have hsz:(arrOf st).size=a₀.size:=hB.size
 rw [show (arrOf st).size=a₀.size from hsz]
 generalize (sortPriv% PySem.Builtin.minRun) a₀.size a₀.size 0=minrun
 refine wpS_bind (wpS_mono (wpS_forRange (a:=0) (b:=a₀.size) (I:=fun x c st'=>c.1=none∧x≤c.2∧Mid a₀ c.2 st') (Q:=fun c st'=>c.1=none∧Mid a₀ a₀.size st') ?step ?fin ?init) ?post)
 case init =>
  refine ⟨rfl,Nat.le_refl _,hB,?_,Nat.zero_le _⟩
  rw [hp]
  rfl
 case fin =>
  rintro ⟨r,lo⟩ st' ⟨e,h1,hM⟩
  dsimp only at *
  have:lo=a₀.size:=by have:=hM.le;lia
  subst this
  exact⟨e,hM⟩
 case step =>
  rintro x ⟨r,lo⟩ st1 _ hx ⟨e,h1,hM⟩
  dsimp only at *
  subst e
  have hle:=hM.le
  by_cases hge:lo≥a₀.size
  ·refine zap hge ?_
   have:lo=a₀.size:=by lia
   subst this
   exact wpS_pure ⟨rfl,hM⟩
  refine zan hge ?_
  refine wpS_bind (zf7 h0 hM.b (by lia) (by lia) fun m st2 hB2 hK2 m1 m2 hS2=>?_)
  dsimp only
  have covK:∀ {st3:SortSt},Kept lo st1 st3→Cov (arrOf st3) 0 (pendingOf st3).toList lo:=fun {st3} hK=>by
   rw [hK.pend]
   exact hM.cov.congr fun k _ hk=>hK.keys k hk
  have push:∀ (n:Nat) (st3:SortSt),SB a₀ st3→Cov (arrOf st3) 0 (pendingOf st3).toList lo→1≤n→lo + n≤a₀.size→SIn (arrOf st3) lo n→Mid a₀ (lo + n) (setPending st3 ((pendingOf st3).push (lo,n,0))):=by
   intro n st3 g1 g2 g3 g4 g5
   refine ⟨⟨g1.perm,g1.kind,g1.failed⟩,?_,g4⟩
   show Cov (arrOf st3) 0 ((pendingOf st3).push (lo,n,0)).toList (lo + n)
   rw [Array.toList_push]
   exact Cov.append.mpr ⟨lo,g2,rfl,g3,g5,rfl⟩
  have merges:∀ (pw n:Nat) (st3:SortSt),SB a₀ st3→Cov (arrOf st3) 0 (pendingOf st3).toList lo→SIn (arrOf st3) lo n→lo + n≤a₀.size →
    wpS (model prog w) X E s (forIn [:a₀.size] ((none,()):Option Unit×Unit) fun _ _=>get >>= fun st=>match (if (pendingOf st).size > 1 then (pendingOf st)[(pendingOf st).size - 2]? else none) with
     | some (_,_,older)=>if older≤pw then pure (ForInStep.done (none,())) else zgn ((pendingOf st).size - 2) >>= fun ok=>if (!ok)=true then pure (ForInStep.done (some (),())) else pure (ForInStep.yield (none,()))
     | _=>pure (ForInStep.done (none,())))
     (fun c st4=>c=(none,())∧SB a₀ st4∧Cov (arrOf st4) 0 (pendingOf st4).toList lo∧SIn (arrOf st4) lo n) st3:=by
   intro pw n st3 g1 g2 g3 g4
   refine wpS_forRange (I:=fun _ c st4=>c=(none,())∧SB a₀ st4∧Cov (arrOf st4) 0 (pendingOf st4).toList lo∧SIn (arrOf st4) lo n) ?_ (fun _ _ z=>z) ⟨rfl,g1,g2,g3⟩
   rintro y c st4 _ _ ⟨rfl,k1,k2,k3⟩
   refine wpS_bind (wpS_get ?_)
   by_cases c1:(pendingOf st4).size > 1
   ·rw [if_pos c1]
    obtain⟨q,eq⟩:∃ q,(pendingOf st4)[(pendingOf st4).size - 2]? = some q:=⟨_,Array.getElem?_eq_getElem (by lia)⟩
    obtain⟨q1,q2,older⟩:=q
    rw [eq]
    dsimp only
    by_cases c2:older≤pw
    ·refine zap c2 ?_
     exact wpS_pure ⟨rfl,k1,k2,k3⟩
    ·refine zan c2 ?_
     refine wpS_bind (zed (by lia) h0 k1 k2 hle fun st5 t1 t2 t3 t4=>?_)
     simp only [Bool.not_true,Bool.false_eq_true,if_false]
     refine wpS_pure ⟨rfl,t1,t2,fun i j hij hj=>?_⟩
     rw [t4 _ (by lia),t4 _ (by lia)]
     exact k3 i j hij hj
   ·rw [if_neg c1]
    exact wpS_pure ⟨rfl,k1,k2,k3⟩
  have mods:∀ (pw:Nat) (st4:SortSt),Cov (arrOf st4) 0 (pendingOf st4).toList lo→Cov (arrOf st4) 0 ((pendingOf st4).modify ((pendingOf st4).size - 1) fun x=>match x with | (st,len,_)=>(st,len,pw)).toList lo:=by
   intro pw st4 g
   refine Cov.powers ?_ g
   apply List.ext_getElem?
   intro i
   rw [List.getElem?_map,List.getElem?_map,Array.getElem?_toList,Array.getElem?_toList,Array.getElem?_modify]
   split
   ·cases q:(pendingOf st4)[i]? with
    | none=>rfl
    | some z=>rfl
   ·rfl
  by_cases c1:m < minrun
  ·refine zap c1 ?_
   refine wpS_bind (wpS_lift (wpAny_rule ⟨rfl,?_⟩))
   refine wpS_bind (zeG h0 hB2 (by lia) (by lia) hS2 fun st3 hB3 hK3 hS3=>?_)
   simp only [Bool.not_true,Bool.false_eq_true,if_false]
   have hK:=hK2.trans hK3
   refine wpS_bind (wpS_get ?_)
   cases eb:(pendingOf st3).back? with
   | none =>
    dsimp only
    exact wpS_bind (wpS_modify (wpS_pure ⟨rfl,(by dsimp only;lia),push _ st3 hB3 (covK hK) (by lia) (by lia) hS3⟩))
   | some q =>
    obtain⟨s1,n1,p1⟩:=q
    dsimp only
    refine wpS_bind (wpS_mono (merges _ (min (a₀.size - lo) minrun) st3 hB3 (covK hK) hS3 (by lia)) ?_)
    rintro c st4 ⟨rfl,k1,k2,k3⟩
    dsimp only
    refine wpS_bind (wpS_modify (wpS_bind (wpS_modify (wpS_pure ⟨rfl,(by dsimp only;lia),push _ _ ⟨k1.perm,k1.kind,k1.failed⟩ (mods _ st4 k2) (by lia) (by lia) k3⟩))))
  ·refine zan c1 ?_
   refine wpS_bind (wpS_get ?_)
   cases eb:(pendingOf st2).back? with
   | none =>
    dsimp only
    exact wpS_bind (wpS_modify (wpS_pure ⟨rfl,(by dsimp only;lia),push _ st2 hB2 (covK hK2) (by lia) (by lia) hS2⟩))
   | some q =>
    obtain⟨s1,n1,p1⟩:=q
    dsimp only
    refine wpS_bind (wpS_mono (merges _ m st2 hB2 (covK hK2) hS2 (by lia)) ?_)
    rintro c st4 ⟨rfl,k1,k2,k3⟩
    dsimp only
    refine wpS_bind (wpS_modify (wpS_bind (wpS_modify (wpS_pure ⟨rfl,(by dsimp only;lia),push _ _ ⟨k1.perm,k1.kind,k1.failed⟩ (mods _ st4 k2) (by lia) (by lia) k3⟩))))
 case post =>
  rintro ⟨r,lo⟩ st1 ⟨e,hM⟩
  dsimp only at *
  subst e
  dsimp only
  refine wpS_bind (wpS_mono (wpS_forRange (a:=0) (b:=a₀.size) (I:=fun x c st'=>c=(none,())∧Mid a₀ a₀.size st'∧(pendingOf st').size + x≤a₀.size) (Q:=fun c st'=>c=(none,())∧Mid a₀ a₀.size st'∧(pendingOf st').size≤1) ?jstep ?jfin ?jinit) ?jpost)
  case jinit =>
   have:=hM.cov.le
   simp at this
   exact⟨rfl,hM,by lia⟩
  case jfin =>
   rintro c st' ⟨rfl,hM',hx⟩
   exact⟨rfl,hM',by lia⟩
  case jstep =>
   rintro x c st' _ hx ⟨rfl,hM',hx'⟩
   refine wpS_bind (wpS_get ?_)
   by_cases c1:(pendingOf st').size≤1
   ·refine zap c1 ?_
    exact wpS_pure ⟨rfl,hM',c1⟩
   ·refine zan c1 ?_
    refine wpS_bind (zed ?_ h0 hM'.b hM'.cov (Nat.le_refl _) fun st5 t1 t2 t3 t4=>?_)
    ·have pick:∀ (c:Prop) [Decidable c],(if c then (pendingOf st').size - 2 - 1 else (pendingOf st').size - 2) + 1 < (pendingOf st').size:=fun c _=>by split <;> lia
     exact pick _
    ·simp only [Bool.not_true,Bool.false_eq_true,if_false]
     exact wpS_pure ⟨rfl,⟨t1,t2,Nat.le_refl _⟩,by lia⟩
  case jpost =>
   rintro c st' ⟨rfl,hM',hx'⟩
   refine wpS_pure (h st' hM'.b.perm hM'.b.failed ?_)
   have hc:=hM'.cov
   have hlen:(pendingOf st').toList.length≤1:=by simpa using hx'
   match hl:(pendingOf st').toList,hlen,hc with
   | [],_,hc =>
    have:0=a₀.size:=hc
    lia
   | [(b,n,p)],_,hc =>
    obtain⟨e1,_,g3,e2⟩:=hc
    have e2':0 + n=a₀.size:=e2
    subst e1
    intro i j hij hj
    have z:=g3 i j hij (by lia)
    simpa using z
end
end Srt
namespace Srt
open PySem PyProof.Rows
section
variable {prog:Program} {w:World} {X:Around} {E:Value→Shared→Prop} {s:Shared}
theorem zhF {α β:Type} {m:α→Sem β} {f:α→β}:∀ {vs:List α} {Q:List β→Shared→Prop},(∀ v∈vs,∀ Q:β→Shared→Prop,Q (f v) s→wpAny (model prog w) X (m v) Q E s)→Q (vs.map f) s→wpAny (model prog w) X (vs.mapM m) Q E s
 | [],Q,_,h=>by rw [List.mapM_nil];exact wpAny_pure h
 | v :: vs,Q,hm,h=>by
  rw [List.mapM_cons]
  exact wpAny_bind (hm v (by simp) _ (wpAny_bind (zhF (fun u hu=>hm u (by simp [hu])) (wpAny_pure h))))
theorem zqL {T:String} {v:Value} {vs:List Value} {Q:SortKind→Shared→Prop} (hT:(Value.type T != Value.type "tuple")=true) (ht:∀ u∈v :: vs,s.TypeIs u T) (h:Q oneType' s):wpAny (model prog w) X (keyKind' (v :: vs).toArray) Q E s:=by
 rw [keyKind'_eq,List.mapM_toArray,map_eq_pure_bind]
 refine wpAny_bind (wpAny_bind (zhF (f:=fun _=>none) (fun u hu Q hq=>?_) (wpAny_pure ?_)))
 ·show wpAny _ _ (typeOf u >>= fun t=>if (t != Value.type "tuple")=true then pure none else _) _ _ _
  refine wpAny_bind (wpAny_typeOf (ht u hu) ?_)
  rw [if_pos hT]
  exact wpAny_pure hq
 ·rw [if_neg (by simp),if_neg (by simp),oneTypeOnly'_eq,List.mapM_toArray,map_eq_pure_bind]
  refine wpAny_bind (wpAny_bind (wpAny_bind (zhF (f:=fun _=>Value.type T) (fun u hu Q hq=>wpAny_typeOf (ht u hu) hq) (wpAny_pure ?_))))
  have h0:(List.map (fun _=>Value.type T) (v :: vs)).toArray[0]? = some (Value.type T):=by simp
  have hall:((List.map (fun _=>Value.type T) (v :: vs)).toArray.all fun x=>x == Value.type T)=true:=by
   simp only [List.all_toArray,List.all_map,List.all_eq_true]
   intro _ _
   simp
  rw [h0]
  dsimp only
  rw [hall,if_pos rfl]
  exact wpAny_pure (wpAny_pure h)
variable [SK]
theorem zdx {T:String} {a:Addr} {vs:List Value} {n:Nat} {P:Fin→Shared→Prop} (ho:s.heap.get? a=some (seqObj "list" vs.toArray n)) (h0:zbv (pairsOf vs)) (hz:vs.length≤sizeLine) (hT:(Value.type T != Value.type "tuple")=true)
  (hL:∀ h':Heap,(∀ b o,b≠a→s.heap.get? b=some o→h'.get? b=some o)→SKL prog w X E { s with heap:=h' }∧∀ u∈vs,({ s with heap:=h' }:Shared).TypeIs u T)
  (h:∀ out:Array Keyed,out.Perm (pairsOf vs)→zdO out (pairsOf vs).size→P (.done (.ret .none)) { s with heap:=sortedHeap s.heap a vs (out.map (·.2)) }) :
  wpAny (model prog w) X (Builtin.«list.sort» ⟨[.ref a],[]⟩) P E s:=by
 rw [list_sort_plain]
 refine wpAny_bind (listItems_at ho rfl (wpAny_bind (listUpdate_at ho rfl ?_ (by rw [List.size_toArray];exact hz))))
 obtain⟨e1,ho1⟩:∃ e1,(s.heap.update a (Obj.mapSeq fun _=>#[])).get? a=some (seqObj "list" #[] e1):=⟨_,get?_update_seq ho (fun _=>#[])⟩
 refine wpAny_bind (seqEpoch_at ho1 rfl (wpAny_bind (wpAny_newTuple ?_ (hsz:=hz))))
 refine wpAny_bind (wpAny_newList (wpAny_holding ?_))
 have hlt:a < s.heap.objs.size:=Heap.lt_size ho
 have ho2:(((s.heap.update a (Obj.mapSeq fun _=>#[])).push (seqObj "tuple" vs.toArray 0)).push (seqObj "list" #[] 0)).get? a=some (seqObj "list" #[] e1):=by
  refine Heap.get?_push_of_some _ (Heap.get?_push_of_some _ ?_)
  exact ho1
 show wpAny (model prog w) X _ P E { s with heap:=(((s.heap.update a (Obj.mapSeq fun _=>#[])).push (seqObj "tuple" vs.toArray 0)).push (seqObj "list" #[] 0)) }
 dsimp only
 have lens:vs.toArray.size=vs.length:=List.size_toArray ..
 obtain⟨i1,i2⟩:=hL (((s.heap.update a (Obj.mapSeq fun _=>#[])).push (seqObj "tuple" vs.toArray 0)).push (seqObj "list" #[] 0)) fun b o hb e=>Heap.get?_push_of_some _ (Heap.get?_push_of_some _ (by rw [Heap.get?_update_other _ _ (Ne.symm hb)];exact e))
 have done:∀ st':SortSt,(arrOf st').Perm (pairsOf vs)→zdO (arrOf st') (pairsOf vs).size→P (.done (.ret .none)) { s with heap:=sortedHeap s.heap a vs ((arrOf st').map (·.2)) }:=fun st' q1 q2=>h _ q1 q2
 clear hL h
 match vs,lens,h0,hz,done,ho,ho2,i1,i2 with
 | [],_,h0,hz,done,ho,ho2,i1,i2 =>
  refine wpAny_bind (wpAny_pure ?_)
  rw [if_pos (show ([]:List Value).toArray.size < 2 by decide),StateT.run_pure]
  refine wpAny_bind (wpAny_pure (wpAny_bind (seqEpoch_at ho2 rfl (wpAny_bind (listUpdate_at ho2 rfl ?_ (hsz2:=by rw [Array.size_map];show (([]:List Value).toArray.zip ([]:List Value).toArray).size≤_;simp))))))
  simp only [bne_self_eq_false,Bool.false_eq_true,if_false]
  exact wpAny_pure (done (SortSt.mk' general' (([]:List Value).toArray.zip ([]:List Value).toArray) #[] 7 none) (Array.Perm.refl _) fun i j _ hj=>absurd hj (by rw [pairsOf_size];simp))
 | [v],_,h0,hz,done,ho,ho2,i1,i2 =>
  refine wpAny_bind (wpAny_pure ?_)
  rw [if_pos (show ([v]:List Value).toArray.size < 2 by simp),StateT.run_pure]
  refine wpAny_bind (wpAny_pure (wpAny_bind (seqEpoch_at ho2 rfl (wpAny_bind (listUpdate_at ho2 rfl ?_ (hsz2:=by rw [Array.size_map];show (([v]:List Value).toArray.zip ([v]:List Value).toArray).size≤_;simp))))))
  simp only [bne_self_eq_false,Bool.false_eq_true,if_false]
  refine wpAny_pure (done (SortSt.mk' general' (([v]:List Value).toArray.zip ([v]:List Value).toArray) #[] 7 none) (Array.Perm.refl _) fun i j hij hj=>?_)
  rw [pairsOf_size] at hj
  have:i=j:=by simp at hj;lia
  subst this
  exact Int.le_refl _
 | v₁ :: v₂ :: rest,lens,h0,hz,done,ho,ho2,i1,i2 =>
  have two:¬ (v₁ :: v₂ :: rest).toArray.size < 2:=by rw [lens];simp
  rw [if_neg two,if_neg two]
  refine wpAny_bind (zqL hT i2 (wpAny_bind (wpAny_mono (zf5 (a₀:=pairsOf (v₁ :: v₂ :: rest)) (st:=SortSt.mk' oneType' ((v₁ :: v₂ :: rest).toArray.zip (v₁ :: v₂ :: rest).toArray) #[] 7 none)
   (Q:=fun _ st'=>(arrOf st').Perm (pairsOf (v₁ :: v₂ :: rest))∧failedOf st'=none∧zdO (arrOf st') (pairsOf (v₁ :: v₂ :: rest)).size) h0 ⟨Array.Perm.refl _,rfl,rfl⟩ rfl
   (by rw [pairsOf_size];simp) fun st' z1 z2 z3=>⟨z1,z2,z3⟩) ?_ fun _ _ z=>z)))
  rintro ⟨⟨⟩,st'⟩ s' ⟨rfl,q1,q2,q3⟩
  dsimp only
  refine wpAny_bind (seqEpoch_at ho2 rfl (wpAny_bind (listUpdate_at ho2 rfl ?_ (hsz2:=?_))))
  ·rw [q2]
   simp only [bne_self_eq_false,Bool.false_eq_true,if_false]
   exact wpAny_pure (done st' q1 q3)
  ·have e:((arrOf st').map (·.2)).size=(v₁ :: v₂ :: rest).length:=by rw [Array.size_map,q1.size_eq,pairsOf_size]
   show ((arrOf st').map (·.2)).size≤sizeLine + 1
   lia
theorem zjP {T:String} {l:Addr} {vs:List Value} {Q:Value→Shared→Prop} (hl:s.heap.IsList l vs.toArray) (h0:zbv (pairsOf vs)) (hz:vs.length≤sizeLine) (hT:(Value.type T != Value.type "tuple")=true)
  (hL:∀ h':Heap,(∀ b o,s.heap.get? b=some o→h'.get? b=some o)→∀ E,SKL prog w X.in1.in1 E { s with heap:=h' }∧∀ u∈vs,({ s with heap:=h' }:Shared).TypeIs u T)
  (h:∀ out:Array Keyed,out.Perm (pairsOf vs)→zdO out (pairsOf vs).size→Q (.ref (s.heap.objs.size + 1)) { s with heap:=sortedAll s.heap vs (out.map (·.2)) }) :
  wpAny (model prog w) X (call (.builtin "sorted") [.ref l]) Q E s:=by
 refine Calls.call_function_entry kind_sorted plain_sorted entry_sorted (args_sorted1 _) ?_
 unfold Builtin.«sorted»
 refine wpAny_bind (m:=checkCount "sorted" 1 1 _) (wpAny_pure (wpAny_bind (collect_list hl ?_ hz)))
 refine wpAny_bind (wpAny_newList ?_ (hsz:=hz))
 have e1:((s.heap.push (seqObj "list" #[] 0)).update s.heap.objs.size (Obj.mapSeq (· ++ vs.toArray))).objs.size=s.heap.objs.size + 1:=by rw [Heap.size_update,size_push']
 have e2:(((s.heap.push (seqObj "list" #[] 0)).update s.heap.objs.size (Obj.mapSeq (· ++ vs.toArray))).push (seqObj "list" vs.toArray 0)).get? (s.heap.objs.size + 1)=some (seqObj "list" vs.toArray 0):=by
  have z:=Heap.get?_push_size ((s.heap.push (seqObj "list" #[] 0)).update s.heap.objs.size (Obj.mapSeq (· ++ vs.toArray))) (o:=seqObj "list" vs.toArray 0) rfl
  rw [e1] at z
  exact z
 show wpAny _ _ _ _ _ { s with heap:=(((s.heap.push (seqObj "list" #[] 0)).update s.heap.objs.size (Obj.mapSeq (· ++ vs.toArray))).push (seqObj "list" vs.toArray 0)) }
 rw [e1]
 refine wpAny_bind (wpAny_holding (wpAny_call_entry slot_list_sort ⟨_,e2,rfl⟩ entry_list_sort (zdx e2 h0 hz hT (fun h' k=>hL h' (fun b o e=>k b o (fun q=>absurd (Heap.lt_size e) (by rw [q];exact Nat.not_lt.mpr (Nat.le_succ _))) (Heap.get?_push_of_some _ (by rw [Heap.get?_update_other _ _ (fun q=>absurd (Heap.lt_size e) (by rw [← q];exact Nat.lt_irrefl _))];exact Heap.get?_push_of_some _ e))) _) fun out z1 z2=>⟨_,rfl,wpAny_pure ⟨_,rfl,h out z1 z2⟩⟩) (args_list_sort _)))
end
section
variable {prog:Program} {w:World} {X:Around} {E:Value→Shared→Prop} {s:Shared}
theorem zjf:∀ {vs:List Value} {ns:List Int},IntsAre vs ns→∀ u∈vs,∃ n t,u=.int n t
 | _,_,.nil,u,h=>nomatch h
 | _,_,.cons n t r,u,h=>by
  rcases List.mem_cons.mp h with rfl | h
  ·exact⟨n,t,rfl⟩
  ·exact zjf r u h
@[reducible] noncomputable def zkg:SK:=⟨fun p=>numOf p.1,fun p=>∃ n t,p.1=.int n t⟩
theorem znY:@SKL prog w X E s zkg:=by
 refine @SKL.mk prog w X E s zkg ?_
 rintro st x y Q hk ⟨a,t,ea⟩ ⟨b,u,eb⟩ h
 rw [lt'_eq]
 refine wpS_bind (wpS_get ?_)
 rw [hk,keyLt'_oneType,ea,eb]
 refine wpS_bind (wpS_lift (wpAny_attempt (oneLt_int ⟨rfl,?_⟩)))
 have e1:@key zkg x=a:=by show numOf x.1=a;rw [ea];rfl
 have e2:@key zkg y=b:=by show numOf y.1=b;rw [eb];rfl
 rw [e1,e2] at h
 exact wpS_pure h
theorem sorted_any {l:Addr} {vs:List Value} {ns:List Int} {Q:Value→Shared→Prop} (hl:s.heap.IsList l vs.toArray) (hI:IntsAre vs ns) (hz:vs.length≤sizeLine)
  (h:∀ (out:Array Value) (ns':List Int),IntsAre out.toList ns'→ns'.Perm ns→ns'.Pairwise (·≤·)→Q (.ref (s.heap.objs.size + 1)) { s with heap:=sortedAll s.heap vs out }) :
  wpAny (model prog w) X (call (.builtin "sorted") [.ref l]) Q E s:=by
 refine @zjP prog w X E s zkg "int" l vs Q hl hI.intKeys hz (by decide) (fun h' _ E=>⟨znY,fun u hu=>?_⟩) fun out q1 q2=>?_
 ·obtain⟨n,t,rfl⟩:=zjf hI u hu
  rfl
 ·obtain⟨ns',z1,z2,z3⟩:=sorted_out hI q1 q2
  exact h _ ns' z1 z2 z3
end
end Srt
namespace L2
open PySem PySem.Spec PyProof.Rows
noncomputable def zbD (cells cs:List (Str×Addr)) (x:Str×NameKind):List (Str×Addr):=if (x.2 == .free)=true then (x.1,(cells.lookup x.1).getD 0) :: cs else cs
noncomputable def zc1 (cells:List (Str×Addr)) (names:List (Str×NameKind)):List (Str×Addr):=names.foldl (zbD cells) []
theorem zcO {α β:Type} (f:α→β→Sem (ForInStep β)) (g:β→α→β):∀ (l:List α) (b:β),(∀ x∈l,∀ b,f x b=pure (.yield (g b x)))→forIn l b f=(pure (l.foldl g b):Sem β)
 | [],b,_=>by rw [List.forIn_nil];rfl
 | x :: l,b,h=>by
  rw [List.forIn_cons,h x List.mem_cons_self b,pure_bind]
  exact zcO f g l (g b x) fun y hy=>h y (List.mem_cons_of_mem _ hy)
theorem zgw {scope:Scope} {env:Env} (h:∀ x∈scope.names,x.2=.free→∃ c,env.cells.lookup x.1=some c) :
  closureFor scope env=pure (zc1 env.cells scope.names):=by
 unfold closureFor zc1
 dsimp only
 rw [zcO _ (zbD env.cells) _ _ fun x hx cs=>?_]
 ·rfl
 ·obtain⟨n,k⟩:=x
  unfold zbD
  cases hk:k == NameKind.free with
  | false=>simp [hk]
  | true =>
   obtain⟨c,hc⟩:=h (n,k) hx (by simpa using hk)
   have hc':env.cells.lookup n=some c:=hc
   simp only [hk,if_true]
   unfold cellOf
   rw [hc']
   rfl
theorem zeA {cells:List (Str×Addr)}:∀ (names:List (Str×NameKind)) (acc:List (Str×Addr)) (p:Str×Addr),p∈names.foldl (zbD cells) acc→p∈acc∨((p.1,NameKind.free)∈names∧p.2=(cells.lookup p.1).getD 0)
 | [],acc,p,h=>.inl h
 | (n,k) :: r,acc,p,h=>by
  rw [List.foldl_cons] at h
  rcases zeA r _ p h with h | ⟨h1,h2⟩
  ·unfold zbD at h
   split at h
   ·rename_i hk
    have hk':k=.free:=by simpa using hk
    subst hk'
    rcases List.mem_cons.mp h with e | h
    ·subst e;exact .inr ⟨List.mem_cons_self,rfl⟩
    ·exact .inl h
   ·exact .inl h
  ·exact .inr ⟨List.mem_cons_of_mem _ h1,h2⟩
theorem zhe {cells:List (Str×Addr)} {x:Str}:∀ (names:List (Str×NameKind)) (acc:List (Str×Addr)),acc.lookup x=some ((cells.lookup x).getD 0)→(names.foldl (zbD cells) acc).lookup x=some ((cells.lookup x).getD 0)
 | [],acc,h=>h
 | (n,k) :: r,acc,h=>by
  rw [List.foldl_cons]
  refine zhe r _ ?_
  unfold zbD
  split
  ·rw [List.lookup_cons]
   cases e:x == n with
   | true=>rw [beq_iff_eq.mp e]
   | false=>exact h
  ·exact h
theorem zde {cells:List (Str×Addr)} {x:Str}:∀ (names:List (Str×NameKind)) (acc:List (Str×Addr)),(x,NameKind.free)∈names→(names.foldl (zbD cells) acc).lookup x=some ((cells.lookup x).getD 0)
 | (n,k) :: r,acc,h=>by
  rw [List.foldl_cons]
  rcases List.mem_cons.mp h with e | h
  ·cases e
   refine zhe r _ ?_
   unfold zbD
   rw [if_pos (by rfl),List.lookup_cons]
   simp
  ·exact zde r _ h
theorem zlR:∀ (names:List (Str×NameKind)) (n:Nat) (acc:List (Str×Addr)) (p:Str×Addr),p∈cellsFrom n names acc→p∈acc∨(n≤p.2∧(p.1,NameKind.cell)∈names)
 | [],_,_,_,h=>.inl h
 | (x,k) :: r,n,acc,p,h=>by
  unfold cellsFrom at h
  split at h
  ·rename_i hk
   have hk':k=.cell:=by simpa using hk
   subst hk'
   rcases zlR r _ _ p h with h | ⟨h1,h2⟩
   ·rcases List.mem_cons.mp h with e | h
    ·subst e;exact .inr ⟨Nat.le_refl _,List.mem_cons_self⟩
    ·exact .inl h
   ·exact .inr ⟨by lia,List.mem_cons_of_mem _ h2⟩
  ·rcases zlR r _ _ p h with h | ⟨h1,h2⟩
   ·exact .inl h
   ·exact .inr ⟨h1,List.mem_cons_of_mem _ h2⟩
theorem zlS:∀ (names:List (Str×NameKind)) (n:Nat) (acc:List (Str×Addr)),(∀ p∈acc,p.2 < n)→(∀ p∈acc,∀ q∈acc,p.2=q.2→p.1=q.1) →
  ∀ p∈cellsFrom n names acc,∀ q∈cellsFrom n names acc,p.2=q.2→p.1=q.1
 | [],_,_,_,h=>h
 | (x,k) :: r,n,acc,hl,h=>by
  unfold cellsFrom
  split
  ·refine zlS r (n + 1) ((x,n) :: acc) (fun p hp=>?_) fun p hp q hq e=>?_
   ·rcases List.mem_cons.mp hp with z | hp
    ·subst z;exact Nat.lt_succ_self _
    ·exact Nat.lt_succ_of_lt (hl p hp)
   ·rcases List.mem_cons.mp hp with z | hp <;> rcases List.mem_cons.mp hq with z' | hq
    ·rw [z,z']
    ·subst z
     have h1:q.2 < n:=hl q hq
     have e':n=q.2:=e
     rw [← e'] at h1
     exact absurd h1 (Nat.lt_irrefl _)
    ·subst z'
     have h1:p.2 < n:=hl p hp
     have e':p.2=n:=e
     rw [e'] at h1
     exact absurd h1 (Nat.lt_irrefl _)
    ·exact h p hp q hq e
  ·exact zlS r n acc hl h
theorem zeB {x:Str}:∀ (names:List (Str×NameKind)) (n:Nat) (acc:List (Str×Addr)),(x,NameKind.cell)∉names→(cellsFrom n names acc).lookup x=acc.lookup x
 | [],_,_,_=>rfl
 | (y,k) :: r,n,acc,h=>by
  have hr:(x,NameKind.cell)∉r:=fun z=>h (List.mem_cons_of_mem _ z)
  unfold cellsFrom
  split
  ·rename_i hk
   have hk':k=.cell:=by simpa using hk
   subst hk'
   rw [zeB r _ _ hr,List.lookup_cons]
   cases e:x == y with
   | true=>exact absurd (by rw [beq_iff_eq.mp e];exact List.mem_cons_self) h
   | false=>rfl
  ·exact zeB r _ _ hr
theorem zic:∀ (names:List (Str×NameKind)) (h:Heap) (acc:List (Str×Addr)) (p:Str×Addr),p∈cellsFrom h.objs.size names acc→p∈acc∨(pushCells h names).IsCell p.2 none
 | [],_,_,_,q=>.inl q
 | (y,k) :: r,h,acc,p,q=>by
  unfold cellsFrom at q
  unfold pushCells
  split at q
  ·rename_i hk
   rw [if_pos hk]
   have e:h.objs.size + 1=(h.push { cls:=.type "cell", data:=.cell none }).objs.size:=(Heap.size_push ..).symm
   rw [e] at q
   rcases zic r _ _ p q with q | q
   ·rcases List.mem_cons.mp q with z | q
    ·subst z
     refine .inr ⟨_,pushCells_keeps _ _ _ _ (Heap.get?_push_size _ rfl),rfl⟩
    ·exact .inl q
   ·exact .inr q
  ·rename_i hk
   rw [if_neg hk]
   exact zic r _ _ p q
theorem zf8 {M:Model} {A:Around} {E:Value→Shared→Prop} {s:Shared} {scope:Scope} {env:Env} {cl:List (Str×Addr)} {Q:Env→Shared→Prop}
  (hQ:Q (newEnv scope s.heap.objs.size env.globals (cellsFrom (s.heap.objs.size + 1) scope.names cl) env.qual none .none (some env) builtinsNs)
   { s with heap:=pushCells (s.heap.push { cls:=.type "dict", data:=.dict #[] }) scope.names }) :
  wpAny M A (newFunctionEnv scope env.globals cl [] env.qual none .none (some env)) Q E s:=by
 simp only [newFunctionEnv,Option.isSome_some,if_true]
 refine wpAny_bind (wpAny_alloc ?_)
 refine wpAny_bind (wpAny_layCells _ (fun name kind cells=>by cases hkc:kind == NameKind.cell <;> simp [hkc]) _ _ _ _ ?_)
 rw [List.forIn_nil]
 refine wpAny_bind (wpAny_pure (wpAny_pure ?_))
 have e:({ s with heap:=s.heap.push { cls:=.type "dict", data:=.dict #[] } }:Shared).heap.objs.size=s.heap.objs.size + 1:=Heap.size_push ..
 rw [e]
 exact hQ
noncomputable def zjw (env:Env) (scope:Scope) (C:Addr):Env:=
 { scope:=relabel scope env,locals:=C,globals:=env.globals,cells:=cellsFrom (C + 1) scope.names (zc1 env.cells scope.names),qual:=env.qual,func:=none,code:=env.code,frame:=env.frame,builtins:=env.builtins }
noncomputable def cxB (X:Cx) (N':List Str) (scope:Scope) (C:Addr) (s₂:Shared) (H₂:Hp) (fp:List Addr) (pn:List (Addr×Obj)):Cx:=
 { X with N:=N',s₀:=s₂,H₀:=H₂,env:=zjw X.env scope C,outer:=X.stack,ex:=fp,fn:=fun x=>scope.names.lookup x == some .cell,pn:=pn,xe:=fun _ _=>False }
noncomputable def zi5:List Str→Bool
 | []=>true
 | x :: r=>!r.contains x && zi5 r
theorem zam:∀ {l:List Str},zi5 l=true→l.Nodup
 | [],_=>List.nodup_nil
 | x :: r,h=>by
  unfold zi5 at h
  rw [Bool.and_eq_true] at h
  refine List.nodup_cons.mpr ⟨fun hm=>?_,zam h.2⟩
  have h1:=h.1
  rw [List.contains_iff_mem.mpr hm] at h1
  cases h1
noncomputable def zre (env:Env) (scope:Scope):Bool:=
 scope.kind == .function && zi5 (scope.names.map (·.1)) && scope.names.all fun x=>!(x.2 == .free) || env.kindOf x.1 == some .cell || env.kindOf x.1 == some .free
structure Blk (env:Env) (scope:Scope):Prop where
 kind:scope.kind=.function
 nd:(scope.names.map (·.1)).Nodup
 cap:∀ x∈scope.names,x.2=.free→env.kindOf x.1=some .cell∨env.kindOf x.1=some .free
theorem Blk.of {env:Env} {scope:Scope} (h:zre env scope=true):Blk env scope:=by
 unfold zre at h
 rw [Bool.and_eq_true,Bool.and_eq_true] at h
 obtain⟨⟨h1,h2⟩,h3⟩:=h
 refine ⟨by simpa using h1,zam h2,fun x hx hf=>?_⟩
 have h4:=List.all_eq_true.mp h3 x hx
 rw [Bool.or_eq_true,Bool.or_eq_true] at h4
 rcases h4 with (h4 | h4) | h4
 ·rw [hf] at h4
  exact absurd h4 (by decide)
 ·exact .inl (by simpa using h4)
 ·exact .inr (by simpa using h4)
theorem zbl {α:Type}:∀ {l:List (Str×α)} {x:Str} {v:α},(l.map (·.1)).Nodup→(x,v)∈l→l.lookup x=some v
 | (y,u) :: r,x,v,nd,h=>by
  rw [List.map_cons] at nd
  obtain⟨n1,n2⟩:=List.nodup_cons.mp nd
  rw [List.lookup_cons]
  rcases List.mem_cons.mp h with e | hr
  ·cases e;simp
  ·have hne:(x == y)=false:=by
    cases e:x == y with
    | false=>rfl
    | true =>
     have e':=beq_iff_eq.mp e
     refine absurd ?_ n1
     rw [← e']
     exact (show x∈r.map (fun p:Str×α=>p.1) from List.mem_map_of_mem (a:=(x,v)) hr)
   rw [hne]
   exact zbl n2 hr
theorem zbx {env:Env} {x:Str} {k':NameKind}:∀ {names:List (Str×NameKind)},
  (names.map fun (n,k)=>if (k == NameKind.free && env.scope.kind == .function && env.kindOf n == some .cell) then (n,NameKind.cell) else (n,k)).lookup x=some k' →
  ∃ k,names.lookup x=some k∧(k'=k∨k=.free)
 | [],h=>by simp at h
 | (n,k) :: r,h=>by
  have ih:=@zbx env x k' r
  have hh:((if (k == NameKind.free && env.scope.kind == .function && env.kindOf n == some .cell)=true then (n,NameKind.cell) else (n,k)) :: r.map fun (n,k)=>if (k == NameKind.free && env.scope.kind == .function && env.kindOf n == some .cell) then (n,NameKind.cell) else (n,k)).lookup x=some k':=h
  by_cases hc:(k == NameKind.free && env.scope.kind == .function && env.kindOf n == some .cell)=true
  ·rw [if_pos hc,List.lookup_cons] at hh
   rw [List.lookup_cons]
   cases e:x == n with
   | true =>
    refine ⟨k,rfl,.inr ?_⟩
    rw [Bool.and_eq_true,Bool.and_eq_true] at hc
    simpa using hc.1.1
   | false =>
    rw [e] at hh
    exact ih hh
  ·rw [if_neg hc,List.lookup_cons] at hh
   rw [List.lookup_cons]
   cases e:x == n with
   | true =>
    rw [e] at hh
    exact⟨k,rfl,.inl (Option.some.inj hh).symm⟩
   | false =>
    rw [e] at hh
    exact ih hh
theorem zcG {env:Env} {x:Str}:∀ {names:List (Str×NameKind)},names.lookup x=some .free →
  (names.map fun (n,k)=>if (k == NameKind.free && env.scope.kind == .function && env.kindOf n == some .cell) then (n,NameKind.cell) else (n,k)).lookup x≠some .local
 | [],h=>by simp at h
 | (n,k) :: r,h=>fun h'=>by
  have hh:((if (k == NameKind.free && env.scope.kind == .function && env.kindOf n == some .cell)=true then (n,NameKind.cell) else (n,k)) :: r.map fun (n,k)=>if (k == NameKind.free && env.scope.kind == .function && env.kindOf n == some .cell) then (n,NameKind.cell) else (n,k)).lookup x=some .local:=h'
  rw [List.lookup_cons] at h
  by_cases hc:(k == NameKind.free && env.scope.kind == .function && env.kindOf n == some .cell)=true
  ·rw [if_pos hc,List.lookup_cons] at hh
   cases e:x == n with
   | true=>rw [e] at hh;cases hh
   | false=>rw [e] at hh h;exact zcG h hh
  ·rw [if_neg hc,List.lookup_cons] at hh
   cases e:x == n with
   | true=>rw [e] at hh h;cases h;cases hh
   | false=>rw [e] at hh h;exact zcG h hh
noncomputable def inner (ix:List (Option Nat)) (σ:St):St:=ix.map fun o=>o.bind fun j=>(σ[j]?).join
noncomputable def ixOk (N N':List Str) (scope:Scope) (ix:List (Option Nat)):Bool:=
 ix.length == N'.length && (ix.zip N').all fun p=>match p.1 with
  | none=>true
  | some j=>N[j]? == some p.2 && scope.names.lookup p.2 == some .free
section
variable {X:Cx} {pins:List (Addr×Obj)} {σ:St} {H:Hp} {s:Shared} {scope:Scope}
theorem Inv.stk_lt (I:Inv X pins σ H s) {b:Addr} (hb:b∈frs X.stack):b < s.heap.objs.size:=by
 rcases List.mem_cons.mp (I.stkSub b hb) with e | hb
 ·rw [e];exact I.lt
 ·by_cases h:b < s.heap.objs.size
  ·exact h
  ·exact absurd hb (I.nofs (Nat.le_of_not_lt h))
theorem zm6 (B:Blk X.env scope) (I:Inv X pins σ H s):closureFor scope X.env=pure (zc1 X.env.cells scope.names):=
 zgw fun x hx hf=>I.ok.has x.1 (B.cap x hx hf)
theorem zeC (B:Blk X.env scope) (I:Inv X pins σ H s) {C:Addr} {p:Str×Addr} (h:p∈cellsFrom (C + 1) scope.names (zc1 X.env.cells scope.names)) :
  (X.env.cells.lookup p.1=some p.2∧(p.1,NameKind.free)∈scope.names)∨(C + 1≤p.2∧(p.1,NameKind.cell)∈scope.names):=by
 rcases zlR _ _ _ p h with h | h
 ·rcases zeA _ _ p h with h | ⟨h1,h2⟩
  ·exact absurd h (by simp)
  ·obtain⟨c,hc⟩:=I.ok.has p.1 (B.cap _ h1 rfl)
   rw [hc] at h2
   exact .inl ⟨by rw [hc,h2];rfl,h1⟩
 ·exact .inr h
theorem Inv.cell_lt (I:Inv X pins σ H s) {x:Str} {c:Addr} (h:X.env.cells.lookup x=some c):c < s.heap.objs.size:=by
 obtain⟨v,z⟩:=I.cell x c h
 exact z.lt
noncomputable def zb2 (h:Heap) (scope:Scope):Heap:=pushCells ((h.push { cls:=.type "list", data:=.seq ([]:List Value).toArray }).push { cls:=.type "dict", data:=.dict #[] }) scope.names
theorem zdH {h:Heap} {scope:Scope} {b:Addr} {o:Obj} (e:h.get? b=some o):(zb2 h scope).get? b=some o:=
 pushCells_keeps _ _ _ _ (Heap.get?_push_of_some _ (Heap.get?_push_of_some _ e))
theorem zn1 {N':List Str} {C:Addr} {fp:List Addr} (B:Blk X.env scope) (I:Inv X pins σ H s) (hC:C=s.heap.objs.size + 1) (hf:∀ b∈fp,FpOk X pins H b) (hfl:∀ b∈fp,b < s.heap.objs.size) :
  (cxB X N' scope C s H fp (X.pn ++ pins)).Ok:=by
 have nd:=B.nd
 refine ⟨I.ok.mod,B.kind,I.ok.glob,I.ok.blt,(by show s.heap.objs.size≤C;rw [hC];exact Nat.le_succ _),fun x y c h1 h2=>?_,fun x hx=>?_,fun x c hfn h=>?_,I.ok.hd,I.ok.frames,.inl rfl,fun b hb=>⟨?_,fun x c h z=>?_⟩,I.bs,
  Nat.le_trans I.ok.bsz I.sz,fun b o e hb=>?_,fun b hb hm=>?_,I.stack,I.stkFree⟩
 ·have hlt:∀ p∈zc1 X.env.cells scope.names,p.2 < C + 1∧X.env.cells.lookup p.1=some p.2:=fun p hp=>by
   rcases zeA _ _ p hp with h | ⟨h1,h2⟩
   ·exact absurd h (by simp)
   ·obtain⟨c,hc⟩:=I.ok.has p.1 (B.cap _ h1 rfl)
    rw [hc] at h2
    have:=I.cell_lt hc
    have e:p.2=c:=h2
    exact⟨by rw [e,hC];exact Nat.lt_succ_of_lt (Nat.lt_succ_of_lt this),by rw [hc,e]⟩
  exact zlS _ _ _ (fun p hp=>(hlt p hp).1) (fun p hp q hq e=>I.ok.inj _ _ _ (hlt p hp).2 (by rw [e];exact (hlt q hq).2)) (x,c) (PySem.mem_of_lookup h1) (y,c) (PySem.mem_of_lookup h2) rfl
 ·have hx':(relabel scope X.env).names.lookup x=some .cell∨(relabel scope X.env).names.lookup x=some .free:=hx
  have:∃ k,scope.names.lookup x=some k∧(k=.cell∨k=.free):=by
   rcases hx' with h | h
   ·obtain⟨k,h1,h2⟩:=zbx h
    rcases h2 with h2 | h2
    ·exact⟨k,h1,.inl h2.symm⟩
    ·exact⟨k,h1,.inr h2⟩
   ·obtain⟨k,h1,h2⟩:=zbx h
    rcases h2 with h2 | h2
    ·exact⟨k,h1,.inr h2.symm⟩
    ·exact⟨k,h1,.inr h2⟩
  obtain⟨k,h1,h2⟩:=this
  rcases h2 with rfl | rfl
  ·exact Option.isSome_iff_exists.mp (PySem.W.cellsFrom_some scope.names (C + 1) _ (.inl h1))
  ·refine ⟨_,(zeB _ _ _ fun hm=>?_).trans (zde _ _ (PySem.mem_of_lookup h1))⟩
   have:=zbl nd hm
   rw [h1] at this
   cases this
 ·have hfn':scope.names.lookup x=some .cell:=by simpa [cxB] using hfn
  rcases zeC B I (PySem.mem_of_lookup h) with ⟨_,h1⟩ | ⟨h1,_⟩
  ·have:=zbl nd h1
   rw [hfn'] at this
   cases this
  ·show s.heap.objs.size≤c
   have h1':C + 1≤c:=h1
   rw [hC] at h1'
   exact Nat.le_trans (Nat.le_add_right _ 2) h1'
 ·have:=hfl b hb
  show b≠C
  rw [hC]
  exact Nat.ne_of_lt (Nat.lt_succ_of_lt this)
 ·subst z
  have h':(cellsFrom (C + 1) scope.names (zc1 X.env.cells scope.names)).lookup x=some c:=h
  rcases zeC B I (PySem.mem_of_lookup h') with ⟨h1,_⟩ | ⟨h1,_⟩
  ·exact (hf c hb).2.2.2.2.1 x c h1 rfl
  ·have:=hfl c hb
   have h1':C + 1≤c:=h1
   rw [hC] at h1'
   exact absurd (Nat.lt_of_lt_of_le this (Nat.le_trans (Nat.le_add_right _ 2) h1')) (Nat.lt_irrefl _)
 ·rcases (hf b hb).2.2.2.1 with z | z
  ·exact I.ok.noex b o e z
  ·exact absurd (Nat.lt_of_lt_of_le (Heap.lt_size e) (Nat.le_trans I.ok.bsz z)) (Nat.lt_irrefl _)
 ·obtain⟨_,h2,h3,_⟩:=hf b hb
  rcases List.mem_cons.mp (I.stkSub b hm) with e | e
  ·exact h2 e
  ·exact h3 e
theorem zlV {N':List Str} {ix:List (Option Nat)} {fp:List Addr} (B:Blk X.env scope) (hix:ixOk X.N N' scope ix=true) (I:Inv X pins σ H s) (hf:∀ b∈fp,FpOk X pins H b) (hfl:∀ b∈fp,b < s.heap.objs.size) :
  Inv (cxB X N' scope (s.heap.objs.size + 1) s H fp (X.pn ++ pins)) [] (inner ix σ) H { s with heap:=zb2 s.heap scope }:=by
 unfold ixOk at hix
 rw [Bool.and_eq_true] at hix
 have hlen:ix.length=N'.length:=by simpa using hix.1
 have old:∀ b o,s.heap.get? b=some o→(zb2 s.heap scope).get? b=some o:=fun b o e=>zdH e
 have e1:(s.heap.push { cls:=.type "list", data:=.seq ([]:List Value).toArray }).objs.size=s.heap.objs.size + 1:=Heap.size_push ..
 have e2:((s.heap.push { cls:=.type "list", data:=.seq ([]:List Value).toArray }).push { cls:=.type "dict", data:=.dict #[] }).objs.size=s.heap.objs.size + 1 + 1:=by rw [Heap.size_push,e1]
 have ns:(zb2 s.heap scope).Ns (s.heap.objs.size + 1) (fun _=>none):=by
  have q:=(Heap.Ns.new (s.heap.push { cls:=.type "list", data:=.seq ([]:List Value).toArray }) (.type "dict"))
  rw [e1] at q
  exact q.keeps fun b o e=>pushCells_keeps _ _ _ _ e
 have cellsOk:∀ x c,(cellsFrom (s.heap.objs.size + 1 + 1) scope.names (zc1 X.env.cells scope.names)).lookup x=some c→(∃ v,(zb2 s.heap scope).IsCell c v)∧H c=none:=fun x c h=>by
  rcases zeC B I (PySem.mem_of_lookup h) with ⟨h1,_⟩ | ⟨h1,_⟩
  ·have h1':X.env.cells.lookup x=some c:=h1
   obtain⟨v,z⟩:=I.cell x c h1'
   exact⟨⟨v,z.keeps old⟩,I.freeC x c h1'⟩
  ·have h1':s.heap.objs.size + 1 + 1≤c:=h1
   refine ⟨?_,I.hok.fresh (Nat.le_trans (Nat.le_add_right _ 2) h1')⟩
   have q:=PySem.mem_of_lookup h
   rw [← e2] at q
   rcases zic _ _ _ _ q with q | q
   ·rcases zeA _ _ _ q with q | ⟨q1,q2⟩
    ·exact absurd q (by simp)
    ·obtain⟨c',hc'⟩:=I.ok.has x (B.cap _ q1 rfl)
     have q2':c=(X.env.cells.lookup x).getD 0:=q2
     rw [hc'] at q2'
     have:=I.cell_lt hc'
     have e:c=c':=q2'
     rw [e] at h1'
     exact absurd (Nat.lt_of_lt_of_le this (Nat.le_trans (Nat.le_add_right _ 2) h1')) (Nat.lt_irrefl _)
   ·exact⟨_,q⟩
 refine ⟨zn1 B I rfl hf hfl,rfl,I.bare,Un.kept old,⟨_,ns,fun i x v e1 e2 e3=>?_⟩,fun x c h=>(cellsOk x c h).1,I.hok.fresh (by show s.heap.objs.size≤s.heap.objs.size + 1;lia),fun x c h=>(cellsOk x c h).2,fun p hp=>?_,I.hok.kept old,?_⟩
 ·have e1':N'[i]? = some x:=e1
  unfold inner at e2
  rw [List.getElem?_map] at e2
  cases q:ix[i]? with
  | none=>rw [q] at e2;cases e2
  | some o =>
   rw [q] at e2
   cases o with
   | none=>cases e2
   | some j =>
    have e2':(σ[j]?).join=some v:=Option.some.inj e2
    have hσ:σ[j]? = some (some v):=by
     cases z:σ[j]? with
     | none=>rw [z] at e2';cases e2'
     | some o'=>rw [z] at e2';cases o' with
      | none=>cases e2'
      | some v'=>cases e2';rfl
    have hm:(some j,x)∈ix.zip N':=List.mem_of_getElem? (by rw [List.getElem?_zip_eq_some];exact⟨q,e1'⟩)
    have hz:=List.all_eq_true.mp hix.2 _ hm
    rw [Bool.and_eq_true] at hz
    have hN:X.N[j]? = some x:=by simpa using hz.1
    have hfr:scope.names.lookup x=some .free:=by simpa using hz.2
    have hmem:=PySem.mem_of_lookup hfr
    have hk:=B.cap (x,.free) hmem rfl
    obtain⟨m,hn,hl⟩:=I.loc
    have vis:Vis X.env.scope x:=by
     rcases hk with k | k
     ·exact .inr (.inl k)
     ·exact .inr (.inr k)
    obtain⟨u,r,l⟩:=hl j x v hN hσ vis
    refine ⟨u,r,?_⟩
    rcases l with ⟨k,_⟩ | ⟨k,c,hc,hcell⟩
    ·rcases hk with k' | k'
     ·have:X.env.kindOf x=some .cell:=k'
      rw [k] at this;cases this
     ·have:X.env.kindOf x=some .free:=k'
      rw [k] at this;cases this
    ·have hne:(x,NameKind.cell)∉scope.names:=fun z=>by
      have:=zbl B.nd z
      rw [hfr] at this;cases this
     have hcl:(cellsFrom (s.heap.objs.size + 1 + 1) scope.names (zc1 X.env.cells scope.names)).lookup x=some c:=by
      rw [zeB _ _ _ hne]
      unfold zc1
      rw [zde _ _ hmem,hc]
      rfl
     refine .inr ⟨?_,c,hcl,hcell.keeps old⟩
     have hvis:(relabel scope X.env).names.lookup x=some .local∨(relabel scope X.env).names.lookup x=some .cell∨(relabel scope X.env).names.lookup x=some .free:=e3
     rcases hvis with z | z
     ·obtain⟨k',h1,h2⟩:=zbx z
      rw [hfr] at h1
      cases h1
      rcases h2 with h2 | h2
      ·cases h2
      ·exfalso
       exact zcG hfr z
     ·exact z
 ·have hp':p∈(X.pn ++ pins) ++ []:=hp
  rw [List.append_nil] at hp'
  obtain⟨e,n,ne,nf,d⟩:=I.pin p hp'
  refine ⟨old _ _ e,n,?_,fun hm=>?_,d⟩
  ·have:=Heap.lt_size e
   show p.1≠s.heap.objs.size + 1
   exact Nat.ne_of_lt (Nat.lt_succ_of_lt this)
  ·rcases List.mem_cons.mp (I.stkSub p.1 hm) with z | z
   ·exact ne z
   ·exact nf z
 ·show (inner ix σ).length=N'.length
  unfold inner
  rw [List.length_map,hlen]
end
end L2
namespace L2
open PySem PySem.Spec PyProof.Rows
structure Loose (X:Cx) (pins:List (Addr×Obj)) (H:Hp) (C:Addr):Prop where
 free:H C=none
 ne:C≠X.env.locals
 ab:X.s₀.heap.objs.size≤C
 cl:∀ x c,X.env.cells.lookup x=some c→c≠C
 pn:∀ p∈X.pn ++ pins,p.1≠C
theorem Inv.loose {X:Cx} {pins:List (Addr×Obj)} {σ:St} {H H':Hp} {s:Shared} {C:Addr} (I:Inv X pins σ H s) (hb:s.heap.objs.size≤C) (hn:H' C=none):Loose X pins H' C:=by
 obtain⟨h1,h2,h3,h4,h5,h6⟩:=I.fpOk (H':=H') hb hn
 exact⟨h1,h2,Nat.le_trans I.sz hb,h5,h6⟩
theorem Inv.loosed {X:Cx} {pins:List (Addr×Obj)} {σ:St} {H:Hp} {s:Shared} {C:Addr} {h':Heap} (I:Inv X pins σ H s) (L:Loose X pins H C) (hs:Heap.SameBut C s.heap h'):Inv X pins σ H { s with heap:=h' }:=
 I.turned (t':=s.toks) (fun b o hb e=>(hs.2 b hb).trans e) L.free L.ne (.inr L.ab) L.cl L.pn
section
variable {X:Cx} {scope:Scope} {N':List Str} {pins pl:List (Addr×Obj)} {σ σ':St} {H H':Hp} {s s':Shared} {fp:List Addr} {acc:List V} {its:List Value} {k:Nat}
theorem zpw (I:Inv X pins σ H s) (hf:∀ b∈fp,FpOk X pins H b) (J:Inv (cxB X N' scope (s.heap.objs.size + 1) s H fp (X.pn ++ pins)) pl σ' H' s')
  (hD:s'.heap.get? s.heap.objs.size=some { cls:=.type "list", data:=.seq its.toArray k }) (rv:Vals acc its) (hz:acc.length≤sizeLine) (hD0:H' s.heap.objs.size=none) :
  Inv X pins σ (upd H' s.heap.objs.size (.lst acc)) s'∧Loose X pins (upd H' s.heap.objs.size (.lst acc)) (s.heap.objs.size + 1):=by
 have ub:Un (frs X.stack) fp H H' s.heap s'.heap:=J.base
 have hne:∀ b o,s.heap.get? b=some o→b≠s.heap.objs.size:=fun b o e=>Nat.ne_of_lt (Heap.lt_size e)
 have hsome:∀ b u,H' b=some u→b≠s.heap.objs.size:=fun b u e=>zaA e hD0
 refine ⟨I.call' (s':=s') (ch:=fp) J.os ⟨ub.keep,ub.slot,fun b o e n hx=>?_,ub.there,fun b xs e=>?_,fun b o u e=>?_,fun b ps e=>?_⟩ (fun b u e=>?_) J.bare fun b hb=>?_,?_⟩
 ·rw [zaw (hne b o e)];exact ub.free b o e n hx
 ·have:=ub.tups b xs e
  rw [zaw (hsome b _ this)];exact this
 ·have:=ub.frzs b o u e
  rw [zaw (hsome b _ this)];exact this
 ·obtain⟨more,this⟩:=ub.tbls b ps e
  exact⟨more,by rw [zaw (hsome b _ this)];exact this⟩
 ·by_cases hb:b=s.heap.objs.size
  ·subst hb
   rw [zaL] at e
   cases e
   exact⟨hz,its,k,rv,hD⟩
  ·rw [zaw hb] at e
   exact (J.hok b u e).stay (fun _ _ _ q=>q) (fun c q=>by rw [zaw (hsome c _ q)];exact q) fun c xs q=>by rw [zaw (hsome c _ q)];exact q
 ·obtain⟨_,h2,h3,h4,h5,h6⟩:=hf b hb
  exact⟨h4,h2,h5,h6⟩
 ·refine I.loose (Nat.le_succ _) ?_
  rw [zaw (Nat.succ_ne_self _)]
  exact J.free
end
section
variable {prog:Program} {w:World} {A:Around} {R:Result→Shared→Prop} {s:Shared}
theorem zdd {elt target iter:Expr} {scope:Scope} {pos:Pos} {it acc:Value} {env:Env} (I:Nat→Shared→Prop)
  (turn:∀ n s,I n s→wpAny (model prog w) A (pyNext it) (fun r s₁=>match r with
   | none=>R (.ok .next) s₁
   | some v=>wpAny (model prog w) A (letOwnedTupleGo target it v) (fun _ s₂=>wpAny (model prog w) A (assign target env v) (fun _ s₃=>wpAny (model prog w) A (eval elt env) (fun x s₄ =>
     wpAny (model prog w) A (call (.builtin "list.append") [acc,x]) (fun _ s₅=>∃ m,m < n∧I m s₅) (fun _ _=>False) s₄) (fun _ _=>False) s₃) (fun _ _=>False) s₂) (fun _ _=>False) s₁) (fun _ _=>False) s)
  (n:Nat) (h:I n s):codeAny (model prog w) A (.compLoop (.ListComp elt [⟨target,iter,[],0⟩] scope pos) 0 it acc env) R s:=by
 refine codeAny_loop rfl I (fun n s hI=>?_) n h
 show wpAny _ _ ((compTurn (.ListComp elt [⟨target,iter,[],0⟩] scope pos) 0 it acc env).onRaise (fun x=>do noteFrame x env;theTreesLotGoes x)) _ _ s
 refine wpAny_noted ?_
 rw [compTurn_list1]
 refine wpAny_bind (wpAny_standAt (wpAny_bind (wpAny_mono (turn n s hI) (fun r s₁ h₁=>?_) fun _ _ h'=>h'.elim)))
 cases r with
 | none=>exact wpAny_pure h₁
 | some v =>
  refine wpAny_bind (wpAny_mono h₁ (fun _ s₂ h₂=>?_) fun _ _ h'=>h'.elim)
  exact wpAny_bind (wpAny_mono h₂ (fun _ s₃ h₃=>wpAny_bind (wpAny_bind (wpAny_mono h₃ (fun x s₄ h₄=>wpAny_bind (wpAny_mono h₄
   (fun _ s₅ h₅=>wpAny_pure (wpAny_pure ⟨rfl,h₅⟩)) fun _ _ h'=>h'.elim)) fun _ _ h'=>h'.elim))) fun _ _ h'=>h'.elim)
end
def zmi (ix:List (Option Nat)) (wi:TI) (g:TG) (te:TE):TE:=fun σ H Q=>wi σ H fun J H1=>∃ W:Nat→Nat→List V→St→Hp→Prop,(∃ m,W 0 m [] (inner ix σ) H1) ∧
 ∀ i m acc σ' H',W i m acc σ' H'→acc.length≤sizeLine∧((J.stop i H'∧∀ p,H' p=none→Q (.ref p) (upd H' p (.lst acc))) ∨
  (J.go i H'∧∀ x H2,J.yld i H' x H2→g x σ' H2 fun σ2 H3=>te σ2 H3 fun v H4=>∃ m',m' < m∧W (i + 1) m' (acc ++ [v]) σ2 H4))
section
variable {X:Cx} {elt tg iter:Expr} {scope:Scope} {pos:Pos} {wi:TI} {g:TG} {te:TE} {N':List Str} {ix:List (Option Nat)}
theorem zhd (B:Blk X.env scope) (hix:ixOk X.N N' scope ix=true) (hc:X.calm=true) (hi:PI X tg iter wi)
  (hg:∀ C s₂ H₂ fp pn,PG (cxB X N' scope C s₂ H₂ fp pn) tg g) (he:∀ C s₂ H₂ fp pn,PE (cxB X N' scope C s₂ H₂ fp pn) elt te) (hs:∀ x,foldedSetIterable iter X.env x=pure x)
  {pins:List (Addr×Obj)} {s:Shared} {σ:St} {H:Hp} {Q:VK} (I:Inv X pins σ H s) (h:zmi ix wi g te σ H Q) (use:Option (Value→Sem Unit)) (QQ:Value→Shared→Prop)
  (hU:∀ D C H' acc s',Inv X pins σ (upd H' D (.lst acc)) s'→Loose X pins (upd H' D (.lst acc)) C→(∃ m,s'.heap.Ns C m)→Q (.ref D) (upd H' D (.lst acc))→compPost (model X.prog X.w) X.A X.xe use QQ (.ref D) C (.ok .next) s') :
  wpAny (model X.prog X.w) X.A (comprehension (.ListComp elt [⟨tg,iter,[],0⟩] scope pos) scope X.env (firstIterPos [⟨tg,iter,[],0⟩] pos) (newList []) false (eval iter X.env) use) QQ X.xe s:=by
 refine wpAny_comprehension_free rfl hs (zm6 B I) B.kind (fun x hx hl=>?_) ?_
 ·obtain⟨n,k⟩:=x
  have hl':k=.local:=hl
  subst hl'
  exact zbl B.nd hx
 refine thn (hi pins s σ H _ I h) fun v s1 h1=>thn h1 fun itv s2 h2=>?_
 obtain⟨it,fp,tn,J,H2,e,I2,T,st2,f2,W,⟨m0,w0⟩,turn⟩:=h2
 subst e
 have hfl:∀ b∈fp,b < s2.heap.objs.size:=fun b hb=>by
  obtain⟨o,e,_⟩:=T.obj _ _ st2 b hb
  exact Heap.lt_size e
 refine wpAny_newObj_type ?_
 refine zf8 ?_
 have e1:(s2.heap.push { cls:=.type "list", dict:=none,data:=.seq ([]:List Value).toArray }).objs.size=s2.heap.objs.size + 1:=Heap.size_push ..
 show codeAny (model X.prog X.w) X.A (.compStart (.ListComp elt [⟨tg,iter,[],0⟩] scope pos) 0 (.ref it) (.ref s2.heap.objs.size) (zjw X.env scope (s2.heap.push { cls:=.type "list", dict:=none,data:=.seq ([]:List Value).toArray }).objs.size))
  (compPost (model X.prog X.w) X.A X.xe use QQ (.ref s2.heap.objs.size) (s2.heap.push { cls:=.type "list", dict:=none,data:=.seq ([]:List Value).toArray }).objs.size) { s2 with heap:=zb2 s2.heap scope }
 rw [e1]
 have old:∀ b o,s2.heap.get? b=some o→(zb2 s2.heap scope).get? b=some o:=fun b o e=>zdH e
 have hst4:tn 0 (zb2 s2.heap scope):=T.keep _ _ _ st2 fun b _ o e=>old b o e
 have hD4:(zb2 s2.heap scope).get? s2.heap.objs.size=some { cls:=.type "list", data:=.seq ([]:List Value).toArray }:=
  pushCells_keeps _ _ _ _ (Heap.get?_push_of_some _ (Heap.get?_push_size _ rfl))
 have hD2:H2 s2.heap.objs.size=none:=I2.hok.fresh (Nat.le_refl _)
 have cellNe:∀ x c,(zjw X.env scope (s2.heap.objs.size + 1)).cells.lookup x=some c→c≠s2.heap.objs.size:=fun x c h=>by
  rcases zeC B I2 (PySem.mem_of_lookup h) with ⟨h1,_⟩ | ⟨h1,_⟩
  ·exact Nat.ne_of_lt (I2.cell_lt h1)
  ·have h1':s2.heap.objs.size + 1 + 1≤c:=h1
   exact Nat.ne_of_gt (Nat.lt_of_lt_of_le (Nat.lt_succ_of_lt (Nat.lt_succ_self _)) h1')
 have pinNe:∀ p∈X.pn ++ pins,p.1≠s2.heap.objs.size:=fun p hp=>Nat.ne_of_lt (Heap.lt_size (I2.pin p hp).1)
 have stat:∀ {H':Hp} {o:Obj},(∀ b∈fp,H' b=none)→∀ b∈fp,FpOk (cxB X N' scope (s2.heap.objs.size + 1) s2 H2 fp (X.pn ++ pins)) [(s2.heap.objs.size,o)] H' b:=fun {H' o} hn b hb=>by
  obtain⟨_,h2,h3,h4,h5,h6⟩:=f2 b hb
  have hlt:=hfl b hb
  refine ⟨hn b hb,(by show b≠s2.heap.objs.size + 1;exact Nat.ne_of_lt (Nat.lt_succ_of_lt hlt)),fun hm=>?_,.inl hb,fun x c h=>((zn1 B I2 rfl f2 hfl).exf b hb).2 x c h,fun p hp=>?_⟩
  ·rcases List.mem_cons.mp (I2.stkSub b hm) with z | z
   ·exact h2 z
   ·exact h3 z
  ·rcases List.mem_append.mp hp with hp | hp
   ·exact h6 p hp
   ·rw [List.mem_singleton.mp hp]
    show s2.heap.objs.size≠b
    exact Nat.ne_of_gt hlt
 have pinD:∀ {σ':St} {H':Hp} {s':Shared} {o:Obj},Inv (cxB X N' scope (s2.heap.objs.size + 1) s2 H2 fp (X.pn ++ pins)) [] σ' H' s'→s'.heap.get? s2.heap.objs.size=some o→(∀ v,o.data≠.cell v)→H' s2.heap.objs.size=none →
   Inv (cxB X N' scope (s2.heap.objs.size + 1) s2 H2 fp (X.pn ++ pins)) [(s2.heap.objs.size,o)] σ' H' s':=fun {σ' H' s' o} J ho hd hn=>J.pins_of fun p hp=>by
  rw [List.mem_singleton.mp hp]
  refine ⟨ho,hn,by show s2.heap.objs.size≠s2.heap.objs.size + 1;exact Nat.ne_of_lt (Nat.lt_succ_self _),fun hm=>?_,hd⟩
  exact absurd (I2.stk_lt hm) (Nat.lt_irrefl _)
 have loop:codeAny (model X.prog X.w) X.A (.compLoop (.ListComp elt [⟨tg,iter,[],0⟩] scope pos) 0 (.ref it) (.ref s2.heap.objs.size) (zjw X.env scope (s2.heap.objs.size + 1)))
   (compPost (model X.prog X.w) X.A X.xe use QQ (.ref s2.heap.objs.size) (s2.heap.objs.size + 1)) { s2 with heap:=zb2 s2.heap scope }:=by
  refine zdd (fun n s'=>∃ i σ' H' acc its k,Inv (cxB X N' scope (s2.heap.objs.size + 1) s2 H2 fp (X.pn ++ pins)) [] σ' H' s'∧s'.heap.get? s2.heap.objs.size=some { cls:=.type "list", data:=.seq its k } ∧
   Vals acc its.toList∧tn i s'.heap∧(∀ b∈fp,H' b=none)∧H' s2.heap.objs.size=none∧W i n acc σ' H') ?_ m0 ⟨0,_,_,[],#[],0,zlV B hix I2 f2 hfl,hD4,.nil,hst4,fun b hb=>(f2 b hb).1,hD2,w0⟩
  rintro n s3 ⟨i,σ3,H3,acc,its,k,J3,hD3,rv,st3,fr3,hn3,w3⟩
  obtain⟨hz,hor⟩:=turn i n acc σ3 H3 w3
  have J3p:=pinD J3 hD3 (fun v z=>by cases z) hn3
  rcases hor with ⟨stop,q⟩ | ⟨go,step⟩
  ·refine thn (T.done (cxB X N' scope (s2.heap.objs.size + 1) s2 H2 fp (X.pn ++ pins)) rfl rfl rfl hc i _ s3 σ3 H3 _ J3p (stat fr3) st3 stop) fun r s4 ⟨hr,J4⟩=>?_
   subst hr
   have hD4':=(J4.pin (s2.heap.objs.size,_) (List.mem_append_right _ (List.mem_singleton.mpr rfl))).1
   obtain⟨Ie,Le⟩:=zpw (its:=its.toList) (k:=k) I2 f2 J4 (by simpa using hD4') rv hz hn3
   obtain⟨m,hm,_⟩:=J4.loc
   exact hU _ _ _ _ s4 Ie Le ⟨m,hm⟩ (q _ hn3)
  ·refine thn (T.item (cxB X N' scope (s2.heap.objs.size + 1) s2 H2 fp (X.pn ++ pins)) rfl rfl rfl hc i _ s3 σ3 H3 _ J3p (stat fr3) st3 go) fun r s4 ⟨u,hr,h4⟩=>?_
   subst hr
   refine thn h4 fun _ s5 ⟨x,H5,J5,r5,y5,st5,fr5⟩=>?_
   have J5':=J5.pinned (stat fr5) (T.obj _ _ st5)
   refine thn (hg _ _ _ _ _ _ s5 σ3 H5 x u _ J5' r5 (step x H5 y5)) fun _ s6 ⟨σ6,H6,J6,q6⟩=>?_
   refine thn (he _ _ _ _ _ _ s6 σ6 H6 _ J6 q6) fun v s7 ⟨y,H7,J7,r7,m',hm',w7⟩=>?_
   have hD7:=J7.pin (s2.heap.objs.size,{ cls:=.type "list", data:=.seq its k }) (List.mem_append_right _ (List.mem_append_left _ (List.mem_singleton.mpr rfl)))
   have J7u:Inv (cxB X N' scope (s2.heap.objs.size + 1) s2 H2 fp (X.pn ++ pins)) [] σ6 H7 s7:=J7.pins_of fun p hp=>by cases hp
   have st7:tn (i + 1) s7.heap:=T.keep _ _ _ st5 fun b hb o e=>(J7.pin (b,o) (List.mem_append_right _ (List.mem_append_right _ (zcW hb e)))).1
   have fr7:∀ b∈fp,H7 b=none:=fun b hb=>by
    obtain⟨o,e,d⟩:=T.obj _ _ st5 b hb
    exact (J7.pin (b,o) (List.mem_append_right _ (List.mem_append_right _ (zcW hb e)))).2.1
   have hlen:=rv.length
   refine wpAny_list_append_plain (l:=s2.heap.objs.size) (items:=its) ⟨k,hD7.1⟩ (fun h' ⟨k',hp'⟩ hs'=>?_) (by simp only [Array.length_toList] at hlen;lia)
   refine ⟨m',hm',i + 1,σ6,H7,acc ++ [y],its.push v,k',?_,hp',?_,?_,fr7,hD7.2.1,w7⟩
   ·exact J7u.turned (t':=s7.toks) (it:=s2.heap.objs.size) (fun b o hb e=>(hs'.2 b hb).trans e) hD7.2.1 (by show s2.heap.objs.size≠s2.heap.objs.size + 1;exact Nat.ne_of_lt (Nat.lt_succ_self _)) (.inr (Nat.le_refl _)) cellNe
     fun p hp=>pinNe p (by have hp':p∈(X.pn ++ pins) ++ []:=hp;rw [List.append_nil] at hp';exact hp')
   ·rw [Array.toList_push]
    exact rv.append (.cons r7 .nil)
   ·exact T.keep _ _ _ st7 fun b hb o e=>(hs'.2 b (Nat.ne_of_lt (hfl b hb))).trans e
 exact codeAny_compStart_list loop (T.self _ _ _ _ _ hst4 loop)
theorem zoJ (B:Blk X.env scope) (hix:ixOk X.N N' scope ix=true) (hc:X.calm=true) (hi:PI X tg iter wi)
  (hg:∀ C s₂ H₂ fp pn,PG (cxB X N' scope C s₂ H₂ fp pn) tg g) (he:∀ C s₂ H₂ fp pn,PE (cxB X N' scope C s₂ H₂ fp pn) elt te) (hs:∀ x,foldedSetIterable iter X.env x=pure x:=by intro _;rfl) :
  PE X (.ListComp elt [⟨tg,iter,[],0⟩] scope pos) (zmi ix wi g te):=by
 intro pins s σ H Q I h
 rw [eval_ListComp]
 refine zhd B hix hc hi hg he hs I h none (EP X pins σ Q) fun D C H' acc s' I' L hm q=>?_
 obtain⟨m,hm⟩:=hm
 exact⟨m,hm,fun h' hs'=>⟨.ref D,_,I'.loosed L hs',rfl,q⟩⟩
theorem zj0 {i:Nat} {y:Str} {py spos:Pos} (hN:X.N.Nodup) (hi':X.N[i]? = some y) (hy:X.env.scope.names.lookup y=some .local) (B:Blk X.env scope) (hix:ixOk X.N N' scope ix=true) (hc:X.calm=true) (hi:PI X tg iter wi)
  (hg:∀ C s₂ H₂ fp pn,PG (cxB X N' scope C s₂ H₂ fp pn) tg g) (he:∀ C s₂ H₂ fp pn,PE (cxB X N' scope C s₂ H₂ fp pn) elt te)
  (hsw:swapsWith (.ListComp elt [⟨tg,iter,[],0⟩] scope pos) (some (.Name y py)) spos.line X.env=pure true:=by rfl) (hs:∀ x,foldedSetIterable iter X.env x=pure x:=by intro _;rfl) :
  PS X (.Assign [.Name y py] (.ListComp elt [⟨tg,iter,[],0⟩] scope pos) spos) (tAsg (zmi ix wi g te) (zfi i)):=by
 intro pins s σ H D I h
 rw [exec_Assign_Name_used _ _ _ _ hsw]
 refine wpAny_bind (wpAny_standAt (wpAny_bind ?_))
 show wpAny _ X.A (do let _ ← comprehension (.ListComp elt [⟨tg,iter,[],0⟩] scope pos) scope X.env _ (newList []) false (eval iter X.env) (some (assign (.Name y py) X.env))) _ _ s
 refine wpAny_bind (wpAny_mono (zhd B hix hc hi hg he hs I h (some (assign (.Name y py) X.env)) (fun _ s'=>SP X pins D .next s') fun A C H' acc s' I' L hm q=>?_) (fun _ s' hq=>wpAny_pure (wpAny_pure hq)) fun _ _ z=>z)
 show wpAny _ _ (assign (.Name y py) X.env (.ref A)) _ _ _
 obtain⟨m,hm⟩:=hm
 refine wpAny_assign_Name (zgO I' hN hi' (.inl hy) (v:=.ref A) rfl (fun s2 I2 ⟨b,hs2,hb⟩=>?_) (.inr hy))
 have hCb:C≠b:=by
  rcases hb with z | z
  ·rw [z];exact L.ne
  ·exact Ne.symm (L.cl _ _ z)
 exact⟨m,hm.sameBut hs2 hCb,fun h' hs'=>⟨_,_,I2.loosed L hs',q⟩⟩
end
end L2
namespace L2
open PySem PySem.Spec PyProof.Rows
section
variable {P:Program} {w:World} {H H':Hp} {h h':Heap} {a:Addr} {o:HO}
theorem zbW.stands (x:zbW P w H h a o):∃ ob,h.get? a=some ob:=by
 cases o with
 | lst xs=>exact let ⟨_,_,_,_,e⟩:=x;⟨_,e⟩
 | tup xs=>exact let ⟨_,_,_,o,e,_⟩:=x;⟨o,e⟩
 | dK kvs=>exact let ⟨_,_,_,_,o,_,_,e,_⟩:=x;⟨o,e⟩
 | dT kvs=>exact let ⟨_,_,_,_,o,_,_,e,_⟩:=x;⟨o,e⟩
 | set S n=>exact let ⟨o,_,_,_,e,_⟩:=x;⟨o,e⟩
 | ins C dx fs=>exact let ⟨_,_,_,e,_⟩:=x;⟨_,e⟩
 | own y=>exact x
 | xd fs=>exact let ⟨_,⟨o,_,_,e,_⟩,_⟩:=x;⟨o,e⟩
 | rng lo hi=>exact let ⟨_,_,_,e⟩:=x;⟨_,e⟩
 | frz ob u=>exact⟨ob,x.1⟩
 | tbl ps=>exact⟨_,x⟩
 | met f y=>exact⟨_,x⟩
 | ext φ=>exact x.2.1
theorem HOk.kept_on (x:HOk P w H h) (k:∀ b u,(∃ o,H b=some o)→h.get? b=some u→h'.get? b=some u):HOk P w H h':=fun a o e =>
 (x a o e).stay (fun b u q z=>k b u (q.elim (fun q=>⟨o,q ▸ e⟩) fun q=>⟨_,q⟩) z) (fun _ q=>q) fun _ _ q=>q
theorem HOk.gone (x:HOk P w H h) (e:h.get? a=none):H a=none:=by
 cases q:H a with
 | none=>rfl
 | some o =>
  obtain⟨ob,z⟩:=(x a o q).stands
  rw [e] at z
  cases z
end
structure Fly (P:Program) (w:World) (fr:List Env) (H:Hp) (s:Shared) (H':Hp) (C a:Addr) (s':Shared):Prop where
 os:s'.os=s.os
 bare:AllBare s'.gens
 un:Un (frs fr) [] H H' s.heap s'.heap
 hok:HOk P w H' s'.heap
 new:s.heap.get? a=none
 free:H' a=none
 fly:∃ B t,Heap.FlyingW B fr a (.ref C) (.ref t) s'.heap∧(∀ b o,H' b=some o→∃ ob,B.get? b=some ob) ∧
  (∀ b o,s.heap.get? b=some o→H b=none→b∉frs fr→B.get? b=some o)∧(∀ b o,s.heap.get? b=some o→b∉frs fr→∃ ob,B.get? b=some ob)
noncomputable def CXe (P:Program) (w:World):CXT:=fun outer H s E e s'=>∃ H' C a,e=.ref a∧Fly P w outer H s H' C a s'∧E (.ref C) none H'
section
variable {X:Cx} {pins:List (Addr×Obj)} {σ:St} {H H':Hp} {s s':Shared} {C a:Addr} {M:Model} {A:Around} {E:Value→Shared→Prop}
theorem zda {B h:Heap} {l:List Env} (F:h.FunFrames B l) {b:Addr} (hb:b∈frs l):∃ o,h.get? b=some o∧∀ vs,o.data≠.fields vs:=(F.mem hb).2
theorem Fly.moved (I:Inv X pins σ H s) (F:Fly X.prog X.w X.stack H s H' C a s') {B h2:Heap} (fr':s'.heap.FunFrames B X.stack) (st:B.StaysIn h2) (sB:B.StaysIn s'.heap) (sm:s'.heap.UpToSlots h2)
  (k1:∀ b o,H' b=some o→∃ ob,B.get? b=some ob)
  (k2:∀ b o,s.heap.get? b=some o→H b=none→b∉frs X.stack→B.get? b=some o) (k3:∀ b o,s.heap.get? b=some o→b∉frs X.stack→∃ ob,B.get? b=some ob):Inv X pins σ H' { s' with heap:=h2 }:=by
 have slots:∀ b∈frs X.stack,∀ o,s'.heap.get? b=some o→∃ sl,h2.get? b=some { o with slots:=sl }:=fun b hb o e=>by
  obtain⟨o',e',d⟩:=zda fr' hb
  rw [e] at e'
  cases e'
  exact sm b o e d
 refine I.call' (s':={ s' with heap:=h2 }) (ch:=[]) F.os ⟨fun b o e n nf _=>st b o (k2 b o e n nf),fun b o e n hf hx=>?_,F.un.free,fun b o e hx=>?_,F.un.tups,F.un.frzs,F.un.tbls⟩ ?_ F.bare (fun b hb=>nomatch hb)
 ·obtain⟨sl,e1⟩:=F.un.slot b o e n hf hx
  obtain⟨sl',e2⟩:=slots b hf _ e1
  exact⟨sl',e2⟩
 ·by_cases hf:b∈frs X.stack
  ·obtain⟨o1,e1⟩:=F.un.there b o e hx
   obtain⟨sl',e2⟩:=slots b hf _ e1
   exact⟨_,e2⟩
  ·obtain⟨ob,z⟩:=k3 b o e hf
   exact⟨ob,st _ _ z⟩
 ·refine F.hok.kept_on fun b u ⟨o,q⟩ e=>?_
  obtain⟨ob,z⟩:=k1 b o q
  have:=sB b ob z
  rw [e] at this
  cases this
  exact st b _ z
theorem Fly.outer (I:Inv X pins σ H s) (J:Inv X pins σ H' s') (hx:X.ex=[]) (hs:X.stack=X.env :: X.outer) (hf:X.env.frame=some X.env.locals) (new:s.heap.get? a=none) (free:H' a=none) {B:Heap} {t:Addr}
  (fl:Heap.FlyingW B X.outer a (.ref C) (.ref t) s'.heap) (k1:∀ b o,H' b=some o→∃ ob,B.get? b=some ob)
  (k2:∀ b o,s.heap.get? b=some o→H b=none→b∉frs X.stack→B.get? b=some o) (k3:∀ b o,s.heap.get? b=some o→b∉frs X.stack→∃ ob,B.get? b=some ob) :
  Fly X.prog X.w X.outer X.H₀ X.s₀ H' C a s':=by
 have nx:∀ b,b∉X.ex:=fun b hb=>by rw [hx] at hb;cases hb
 have ns:∀ b o,X.s₀.heap.get? b=some o→b∉frs X.outer→b∉frs X.stack:=fun b o e n q=>by
  have z:frs X.stack=X.env.locals :: frs X.outer:=by rw [hs];unfold frs;rw [List.filterMap_cons,hf]
  rw [z] at q
  rcases List.mem_cons.mp q with q | q
  ·have h1:=Heap.lt_size e
   rw [q] at h1
   exact absurd (Nat.lt_of_lt_of_le h1 I.ok.above) (Nat.lt_irrefl _)
  ·exact n q
 refine ⟨J.os,J.bare,by have:=J.base;rw [hx] at this;exact this,J.hok,?_,free,B,t,fl,k1,fun b o e n nf=>?_,fun b o e nf=>?_⟩
 ·cases q:X.s₀.heap.get? a with
  | none=>rfl
  | some o =>
   obtain⟨o',z⟩:=I.base.there a o q (nx a)
   rw [new] at z
   cases z
 ·exact k2 b o (I.base.keep b o e n nf (nx b)) (I.base.free b o e n (nx b)) (ns b o e nf)
 ·obtain⟨o',z⟩:=I.base.there b o e (nx b)
  exact k3 b o' z (ns b o e nf)
theorem Fly.leave {Q:Unit→Shared→Prop} (I:Inv X pins σ H s) (hx:X.ex=[]) (hs:X.stack=X.env :: X.outer) (hf:X.env.frame=some X.env.locals) (F:Fly X.prog X.w X.stack H s H' C a s') (hA:A.frames=some X.stack)
  (k:∀ s2,Fly X.prog X.w X.outer X.H₀ X.s₀ H' C a s2→Q () s2):wpAny M A (leaving X.env (.ref a)) Q E s':=by
 obtain⟨B,t,fl,k1,k2,k3⟩:=F.fly
 have fl':Heap.FlyingW B (X.env :: X.outer) a (.ref C) (.ref t) s'.heap:=hs ▸ fl
 refine wpAny_leaves_onW (hA.trans (congrArg some hs)) hf fl' fun h2 fl2 sm=>k _ ?_
 exact Fly.outer I (F.moved I fl.2.2.1 fl2.1 fl.1 sm k1 k2 k3) hx hs hf F.new F.free fl2 k1 k2 k3
theorem Fly.made {Q:Unit→Shared→Prop} {h1:Heap} {args:List Value} (I:Inv X pins σ H s) (hx:X.ex=[]) (hs:X.stack=X.env :: X.outer) (hf:X.env.frame=some X.env.locals) (mk:Heap.MadeExcOf s.heap h1 a (.ref C) args) (hA:A.frames=some X.stack)
  (k:∀ s2,Fly X.prog X.w X.outer X.H₀ X.s₀ H C a s2→Q () s2):wpAny M A (leaving X.env (.ref a)) Q E { s with heap:=h1 }:=by
 have fs0:s.heap.FunFrames X.base X.stack:=I.stack
 have mem:∀ e∈X.stack,∀ b,e.frame=some b→b∈frs X.stack:=fun e he b hb=>List.mem_filterMap.mpr ⟨e,he,hb⟩
 have fs1:s.heap.FunFrames (PySem.W.hideAll s.heap (frs X.stack)) X.stack:=PySem.W.funFrames_hide fs0 mem
 have sB:(PySem.W.hideAll s.heap (frs X.stack)).StaysIn s.heap:=fun b o e=>PySem.W.of_hideAll _ e
 have free:H a=none:=I.hok.gone mk.new
 have k2:∀ b o,s.heap.get? b=some o→b∉frs X.stack→(PySem.W.hideAll s.heap (frs X.stack)).get? b=some o:=fun b o e n=>PySem.W.hideAll_get _ e n
 have k1:∀ b o,H b=some o→∃ ob,(PySem.W.hideAll s.heap (frs X.stack)).get? b=some ob:=fun b o q=>by
  obtain⟨ob,z⟩:=(I.hok b o q).stands
  exact⟨ob,k2 b ob z fun hb=>by rw [I.stkFree b hb] at q;cases q⟩
 refine wpAny_leaves_madeW (base:=PySem.W.hideAll s.heap (frs X.stack)) (h:=s.heap) (hA.trans (congrArg some hs)) hf sB (hs ▸ fs1) mk fun h2 t fl2 _ _ sm=>k _ ?_
 have slots:∀ b∈frs X.stack,∀ o,s.heap.get? b=some o→∃ sl,h2.get? b=some { o with slots:=sl }:=fun b hb o e=>by
  obtain⟨o',e',d⟩:=zda fs0 hb
  rw [e] at e'
  cases e'
  exact sm b o (mk.keeps b o e) d
 have J:Inv X pins σ H { s with heap:=h2 }:=by
  refine I.call' (s':={ s with heap:=h2 }) (ch:=[]) rfl ⟨fun b o e n nf _=>fl2.1 b o (k2 b o e nf),fun b o e n hb hx=>slots b hb o e,fun b o e n _=>n,fun b o e hx=>?_,fun _ _ q=>q,fun _ _ _ q=>q,fun b ps q=>⟨#[],by rw [Array.append_empty];exact q⟩⟩ ?_ I.bare (fun b hb=>nomatch hb)
  ·by_cases hb:b∈frs X.stack
   ·obtain⟨sl,z⟩:=slots b hb o e
    exact⟨_,z⟩
   ·exact⟨o,fl2.1 b o (k2 b o e hb)⟩
  ·refine I.hok.kept_on fun b u ⟨o,q⟩ e=>fl2.1 b u (k2 b u e fun hb=>?_)
   rw [I.stkFree b hb] at q
   cases q
 exact Fly.outer (s':={ s with heap:=h2 }) I J hx hs hf mk.new free fl2 k1 (fun b o e _ nf=>k2 b o e nf) fun b o e nf=>⟨o,k2 b o e nf⟩
end
end L2
namespace L2
open PySem PySem.Spec PyProof.Rows
section
variable {P:Program} {w:World} {K:PySem.W.Frag} {mg:Str→Option Value} {base:Heap}
theorem za3 {N:List Str} {qual:Str} {scope:Scope} {f:Addr} {cd:Value} {A:Around} {outer:List Env} {s:Shared} {H:Hp} {E:XK}:zel (CXe P w) (cxOf (CXe P w) P w K mg base N qual scope f cd A outer s H E) E:=by
 intro pins σ H1 s1 e s' I h
 obtain⟨H',C,a,he,F,hE⟩:=h
 subst he
 exact Fly.leave I rfl rfl rfl F I.ok.frames fun s2 F2=>⟨H',C,a,rfl,F2,hE⟩
def zma (X:Cx) (E:XK):Prop:=∀ (pins:List (Addr×Obj)) (σ:St) (H:Hp) (s:Shared) (C a:Addr) (args:List Value) (h1:Heap),Inv X pins σ H s→Heap.MadeExcOf s.heap h1 a (.ref C) args→E (.ref C) none H→X.xe (.ref a) { s with heap:=h1 }
theorem zhT {N:List Str} {qual:Str} {scope:Scope} {f:Addr} {cd:Value} {A:Around} {outer:List Env} {s:Shared} {H:Hp} {E:XK}:zma (cxOf (CXe P w) P w K mg base N qual scope f cd A outer s H E) E:=by
 intro pins σ H1 s1 C a args h1 I mk hE
 exact Fly.made I rfl rfl rfl mk I.ok.frames fun s2 F2=>⟨H1,C,a,rfl,F2,hE⟩
theorem ownE {N:List Str} {qual:Str} {scope:Scope} {f:Addr} {cd:Value} {A:Around} {outer:List Env} {s:Shared} {H:Hp} {E:XK} :
  PassesOwn (model P w) (cxOf (CXe P w) P w K mg base N qual scope f cd A outer s H E).A (cxOf (CXe P w) P w K mg base N qual scope f cd A outer s H E).env (cxOf (CXe P w) P w K mg base N qual scope f cd A outer s H E).xe:=
 PassesOwn.leaving (Q₁:=fun e s''=>CXe P w outer H s E e s'') (E₁:=fun e' s''=>CXe P w outer H s E e' s'')
theorem Fun.okE {x qual:Str} {st:Stmt} {f:Addr} {fd:FuncData} {N ps:List Str} {k:Nat} {sp:Sp} (F:Fun K x qual st f fd) (S:FnScope N ps (defScope st)) (len:∀ vs H Q E,sp vs H Q E→vs.length=ps.length)
  (hbody:∀ (cdv:Value) (A:Around) (outer:List Env) (s:Shared) (H:Hp) (vs:List V) (Q:VK) (E:XK),Room k (A.deeper (envOfC qual (defScope st) s.heap.objs.size f cdv))→sp vs H Q E →
   ∃ t,PSs (cxOf (CXe P w) P w K mg base N qual (defScope st) f cdv A outer s H E) (defBody st) t∧t { nx:=fun _ H'=>Q .non H',rt:=Q } (start N vs) H):FnOk P w K mg base (CXe P w) (k + 1) f fd ps sp:=by
 obtain⟨oc,od,kV,doc,pm,an,cdv,ct,osl,rfl,lk,hcd⟩:=F.ex
 exact zsJ lk hcd S len fun A outer s H vs Q E hr hsp=>hbody cdv A outer s H vs Q E hr hsp
end
theorem zq1 {K:PySem.W.Frag} {h:Heap} {C:Addr} {bmB:List Value} {newId:String} (X:K.In h) (q:PySem.W.excIn K C bmB newId=true) :
  ∃ bm N nm qn bs hd sn sub ab col dd k0 k1 k2 k3 k5 mN,h.get? C=some (excClassObj nm qn C N bs bm hd sn sub ab col dd k0 k1 k2 k3 k5 newId)∧h.Ns N mN∧mN "__init__" = none∧OwnTail h bmB bm:=by
 unfold PySem.W.excIn at q
 split at q
 case h_2=>exact nomatch q
 case h_1 dd cd sl ho =>
  have hc:=X _ _ ho
  split at q
  case h_2=>exact nomatch q
  case h_1 C' bm k0 k1 k2 k3 n k5 hm hs =>
   rw [Bool.and_eq_true,Bool.and_eq_true,Bool.and_eq_true,Bool.and_eq_true,Bool.and_eq_true] at q
   obtain⟨⟨⟨⟨⟨q1,q2⟩,q3⟩,q4⟩,q5⟩,q6⟩:=q
   replace q1:=eq_of_beq q1
   replace q2:=eq_of_beq q2
   replace q6:=eq_of_beq q6
   replace q3:cd.hasDel=false:=by simpa using q3
   subst q1 q2
   have es:sl = #[k0,k1,k2,k3,some (.builtin n),k5]:=Array.ext' (by rw [hs])
   subst es
   cases cd
   dsimp only at hm q3 q5 q6 hc
   subst hm q3
   exact⟨bm,_,_,_,_,_,_,_,_,_,dd,k0,k1,k2,k3,k5,_,hc,.of_isNs (PySem.W.isNs_of_in X q5),PySem.W.nsMap_none_of_in X q5 q6,PySem.W.tail_of_in X q4⟩
def zp1 (C:Addr) (E:XK) (ta:TA):TS:=fun _ σ H=>ta σ H fun xs H1=>xs.length≤sizeLine∧E (.ref C) none H1
theorem zmw {X:Cx} {E:XK} {x:Str} {C:Addr} {bmB:List Value} {B newId initId:String} {e:Expr} {ta:TA} {np cpos pos:Pos} (F:ExcBaseFacts B newId initId bmB) (hR:zma X E) (hh:X.A.handled=none) (hg:Gl X x) (hm:X.mg x=some (.ref C))
  (hc:PySem.W.excIn X.K C bmB newId=true) (ha:PA X [e] ta) (hb:bmB.contains (.type "BaseException")=true:=by decide +kernel) (hdb:(x == ("__debug__" : Str))=false:=by decide)
  (he:starEach [e] X.env=[(false,eval e X.env)]:=by rfl):PS X (.Raise (some (.Call (.Name x np) [e] [] cpos)) none pos) (zp1 C E ta):=by
 intro pins s σ H D I h
 obtain⟨bm,N,nm,qn,bs,hd,sn,sub,ab,col,dd,k0,k1,k2,k3,k5,mN,o1,o2,o3,o4⟩:=zq1 I.mod.kin hc
 have p:=ha cpos pins s σ H (fun xs H1=>xs.length≤sizeLine∧E (.ref C) none H1) I h
 refine wpAny_Raise_call_subT (nm:=nm) (q:=qn) (N:=N) (bs:=bs) (bm:=bm) (hdct:=hd) (sn:=sn) (sub:=sub) (ab:=ab) (col:=col) (dd:=dd) (k0:=k0) (k1:=k1) (k2:=k2) (k3:=k3) (k5:=k5) F (o4.hasType hb) hh (by rw [he];rfl) o3 (zgp I hg hm ⟨rfl,?_⟩ hdb)
 rw [he] at p ⊢
 refine Calls.evalArgs_plain (thn p fun us s2 ⟨vs,H1,J,r,l,q⟩=>⟨rfl,?_,J.bk _ _ o1,o2.keeps J.bk,o4.keeps J.bk,fun h1 a mk=>hR pins σ H1 s2 C a us h1 J mk q⟩)
 rw [← r.length]
 exact l
theorem zph {prog:Program} {w:World} {A:Around} {E:Value→Shared→Prop} {Q:Value→Shared→Prop} {s:Shared} {K:PySem.W.Frag} {v t c:Value} (KX:K.In s.heap) (ht:∀ M,PySem.W.Looks M s.heap (typeOf v) t)
  (e:PySem.W.kitCls K t c=some true) (hv:v≠.builtin "__main__.__loader__#opaque") (h:Q (.bool true) s):wpAny (model prog w) A (call (.builtin "isinstance") [v,c]) Q E s:=by
 refine PySem.call_isinstance (S:=fun M R s=>(K.In s.heap∧∀ M,PySem.W.Looks M s.heap (typeOf v) t)∧R (.ok (.ret (.bool true))) s) (fun prog w A R s hs=>PySem.isinstance_outer ?_ hv) ⟨⟨KX,ht⟩,h⟩
 obtain⟨⟨KX,ht⟩,q⟩:=hs
 obtain⟨ty,it,sub⟩:=PySem.W.kit_cls (M:=model prog w) KX e
 have yes:PySem.W.Looks (model prog w) s.heap (isInstance v c) true:=(ht _).andThen sub
 unfold Builtin.«isinstance.nested»
 refine wpAny_bind ((ht _).here ?_)
 by_cases z:(t == c)=true
 ·rw [if_pos z]
  first | exact wpAny_bind (wpAny_rule (wpAny_pure q)) | exact wpAny_bind (wpAny_rule q)
 ·rw [if_neg z]
  refine wpAny_bind (ty.here ?_)
  rw [if_pos (by decide)]
  k_delta "plainIsInstance"
  refine wpAny_bind (wpAny_bind (it.here ?_))
  rw [if_neg (by decide)]
  refine wpAny_bind (yes.here ?_)
  rw [if_pos rfl]
  exact wpAny_pure (wpAny_pure q)
end L2
namespace L2
open PySem PySem.Spec PyProof.Rows
def zcz (X:Cx) (pins:List (Addr×Obj)) (σ:St) (H':Hp) (C a:Addr) (s3:Shared):Prop:=
 ∃ s s' H B t,Inv X pins σ H s∧Fly X.prog X.w X.stack H s H' C a s'∧(∀ b o,H' b=some o→∃ ob,B.get? b=some ob) ∧
  (∀ b o,s.heap.get? b=some o→H b=none→b∉frs X.stack→B.get? b=some o)∧(∀ b o,s.heap.get? b=some o→b∉frs X.stack→∃ ob,B.get? b=some ob) ∧
  Heap.FlyingW B X.stack a (.ref C) (.ref t) s'.heap∧Heap.FlyingW B X.stack a (.ref C) (.ref t) s3.heap∧s'.heap.UpToSlots s3.heap∧s3 = { s' with heap:=s3.heap }
section
variable {X:Cx} {pins:List (Addr×Obj)} {σ:St} {H H':Hp} {s s' s3:Shared} {C a:Addr} {M:Model} {A:Around} {E:Value→Shared→Prop}
theorem zcz.inv (L:zcz X pins σ H' C a s3):Inv X pins σ H' s3:=by
 obtain⟨s,s',H,B,t,I,F,k1,k2,k3,f1,f3,sm,e⟩:=L
 rw [e]
 exact F.moved I f1.2.2.1 f3.1 f1.1 sm k1 k2 k3
theorem zcz.obj (L:zcz X pins σ H' C a s3):∃ oe vs,s3.heap.get? a=some oe∧oe.cls=.ref C∧oe.data=.fields vs:=by
 obtain⟨s,s',H,B,t,I,F,k1,k2,k3,f1,f3,sm,e⟩:=L
 obtain⟨oe,vs,h1,h2,h3,_⟩:=f3.first
 exact⟨oe,vs,h1,h2,h3⟩
theorem zcz.free (L:zcz X pins σ H' C a s3):H' a=none:=by
 obtain⟨s,s',H,B,t,I,F,_⟩:=L
 exact F.free
theorem zcz.again {Q:Unit→Shared→Prop} (L:zcz X pins σ H' C a s3) (k:∀ s4,zcz X pins σ H' C a s4→Q () s4):wpAny M A (setFlight (.ref a) none) Q E s3:=by
 obtain⟨s,s',H,B,t,I,F,k1,k2,k3,f1,f3,sm,e⟩:=L
 refine lands_againW f3 fun h4 f4 sm4=>k _ ⟨s,s',H,B,t,I,F,k1,k2,k3,f1,f4,sm.trans sm4,?_⟩
 rw [e]
theorem Inv.forget {h':Heap} {m':Str→Option Value} {tk:Nat} (I:Inv X pins σ H s) (hn:h'.Ns X.env.locals m') (hs:Heap.SameBut X.env.locals s.heap h'):Inv X pins (List.replicate X.N.length none) H { s with heap:=h',toks:=tk }:=by
 have keep:∀ b,b≠X.env.locals→h'.get? b=s.heap.get? b:=fun b hb=>hs.2 b hb
 have old:∀ b o,X.s₀.heap.get? b=some o→b≠X.env.locals:=fun b o e z=>by
  have:=Heap.lt_size e
  rw [z] at this
  exact absurd (Nat.lt_of_lt_of_le this I.ok.above) (Nat.lt_irrefl _)
 refine ⟨I.ok,I.os,I.bare,⟨fun b o e n hf hx=>?_,fun b o e n hf hx=>?_,I.base.free,fun b o e hx=>?_,I.base.tups,I.base.frzs,I.base.tbls⟩,⟨m',hn,fun i x v h1 h2 _=>?_⟩,fun x c e=>?_,I.free,I.freeC,fun p hp=>?_,?_,?_⟩
 ·exact (keep b (old b o e)).trans (I.base.keep b o e n hf hx)
 ·obtain⟨sl,z⟩:=I.base.slot b o e n hf hx
  exact⟨sl,(keep b (old b o e)).trans z⟩
 ·obtain⟨o',z⟩:=I.base.there b o e hx
  exact⟨o',(keep b (old b o e)).trans z⟩
 ·rw [List.getElem?_replicate] at h2
  split at h2 <;> cases h2
 ·obtain⟨v,ob,z,q⟩:=I.cell x c e
  exact⟨v,ob,(keep c (I.cne x c e)).trans z,q⟩
 ·obtain⟨p1,p2,p3,p4⟩:=I.pin p hp
  exact⟨(keep _ p3).trans p1,p2,p3,p4⟩
 ·refine I.hok.kept_on fun b u ⟨o,q⟩ e=>(keep b fun z=>?_).trans e
  rw [z,I.free] at q
  cases q
 ·rw [List.length_replicate]
noncomputable def hcx (X:Cx) (a:Addr) (oe:Obj):Cx:={ X with A:=X.A.mark (some (.ref a)),calm:=false,pn:=X.pn ++ [(a,oe)],xe:=fun _ _=>False }
theorem zcz.suite (L:zcz X pins σ H' C a s3):∃ oe,oe.cls=.ref C∧s3.heap.get? a=some oe∧Inv (hcx X a oe) pins σ H' s3:=by
 obtain⟨oe,vs,h1,h2,h3⟩:=L.obj
 have I:=L.inv
 refine ⟨oe,h2,h1,⟨⟨I.ok.mod,I.ok.kind,I.ok.glob,I.ok.blt,I.ok.above,I.ok.inj,I.ok.has,I.ok.cab,(fun z=>nomatch z),I.ok.frames,I.ok.stk,I.ok.exf,I.ok.bs,I.ok.bsz,I.ok.noex,I.ok.exfs,I.ok.funs,I.ok.frf⟩,I.os,I.bare,I.base,I.loc,I.cell,I.free,I.freeC,fun p hp=>?_,I.hok,I.len⟩⟩
 rcases List.mem_append.mp hp with hp | hp
 ·rcases List.mem_append.mp hp with hp | hp
  ·exact I.pin p (List.mem_append_left _ hp)
  ·rw [List.mem_singleton.mp hp]
   refine ⟨h1,L.free,fun z=>?_,fun z=>?_,fun v z=>?_⟩
   ·obtain⟨m,⟨o,es,ep,e1,e2,_⟩,_⟩:=I.loc
    rw [show a=X.env.locals from z,e1] at h1
    cases h1
    rw [h3] at e2
    cases e2
   ·obtain⟨o,e1,e2⟩:=zda I.funs (show a∈frs X.outer from z)
    rw [h1] at e1
    cases e1
    exact e2 vs h3
   ·rw [show oe.data=_ from h3] at z
    cases z
 ·exact I.pin p (List.mem_append_right _ hp)
theorem Inv.unsuite {oe:Obj} (ok:X.Ok) (I:Inv (hcx X a oe) pins σ H s):Inv X pins σ H s:=
 ⟨ok,I.os,I.bare,I.base,I.loc,I.cell,I.free,I.freeC,fun p hp=>I.pin p ((List.mem_append.mp hp).elim (fun z=>List.mem_append_left _ (List.mem_append_left _ z)) fun z=>List.mem_append_right _ z),I.hok,I.len⟩
end
def PH (X:Cx) (hs:List ExceptHandler) (t:Addr→VK→Hp→Prop):Prop:=
 ∀ (pins:List (Addr×Obj)) (s:Shared) (σ:St) (H:Hp) (C a:Addr) (Q:VK),zcz X pins σ H C a s→t C Q H →
  wpAny (model X.prog X.w) X.A (handleBy (.ref a) X.env hs) (fun f s'=>∃ u v σ' H',f=.ret u∧Inv X pins σ' H' s'∧RelV v u∧Q v H') X.xe s
noncomputable def hNil:Addr→VK→Hp→Prop:=fun _ _ _=>False
theorem zqn {X:Cx}:PH X [] hNil:=fun _ _ _ _ _ _ _ _ h=>h.elim
noncomputable def zsH (K:PySem.W.Frag) (n:Nat) (C':Addr) (i:Nat) (ts:Addr→Obj→TS) (tr:Addr→VK→Hp→Prop):Addr→VK→Hp→Prop:=fun C Q H=>∃ b,PySem.W.exmOne K (.ref C) (.ref C')=some b ∧
 if b=true then ∀ (a:Addr) (oe:Obj) (σ:St),oe.cls=.ref C→H a=none→σ.length=n→ts a oe { nx:=fun _ _=>False,rt:=Q } (σ.set i (some (.ref a))) H else tr C Q H
theorem zoI {X:Cx} {x n:Str} {C':Addr} {i:Nat} {b₀:Stmt} {body:List Stmt} {rest:List ExceptHandler} {ts:Addr→Obj→TS} {tr:Addr→VK→Hp→Prop} {np pos:Pos} (hg:Gl X x) (hm:X.mg x=some (.ref C')) (hN:X.N.Nodup) (hi:X.N[i]? = some n)
  (hx:X.env.scope.names.lookup n=some .local) (hsu:∀ a oe,PSs (hcx X a oe) (b₀ :: body) (ts a oe)) (hr:PH X rest tr) (hdb:(x == ("__debug__" : Str))=false:=by decide) :
  PH X (.ExceptHandler (some (.Name x np)) (some n) (b₀ :: body) pos :: rest) (zsH X.K X.N.length C' i ts tr):=by
 intro pins s σ H C a Q L h
 obtain⟨b,hb,h⟩:=h
 obtain⟨oe,hc,ha,I⟩:=L.suite
 refine wpAny_handleBy_cons (codeAny_handlers_test (zgp (X:=hcx X a oe) I hg hm ?_ hdb)) (by intro q;cases q)
 have LT:PySem.W.Looks (model X.prog X.w) s.heap (typeOf (.ref a)) (.ref C):=hc ▸ (PySem.W.Looks.ld ha).andThen .now
 refine (PySem.W.exm_one I.kIn LT hb).here ?_
 cases b with
 | false =>
  rw [if_neg (by decide)] at h
  exact hr pins s σ H C a Q L h
 | true =>
  rw [if_pos rfl] at h
  refine codeAny_handlers_suite_as (L.again fun s4 L4=>?_)
  obtain⟨oe4,hc4,ha4,I4⟩:=L4.suite
  refine zdr (X:=hcx X a oe4) (v:=.ref a) I4 hN hi (.inl hx) rfl (fun s5 I5=>?_) (.inr hx)
  refine wpAny_mono (hsu a oe4 pins s5 _ H _ I5 (h a oe4 σ hc4 L.free L.inv.len)) (fun f s6 q=>?_) fun _ _ z=>z.elim
  cases f with
  | ret u =>
   obtain⟨v,σ6,H6,J,r,q⟩:=q
   have J':=J.unsuite L.inv.ok
   obtain⟨m,hns,_⟩:=J'.loc
   refine wpAny_nameGoes hx hns ?_ fun h' m' hn' hs'=>⟨u,v,_,H6,rfl,J'.forget hn' hs',r,q⟩
   rw [L.inv.ok.kind]
   rfl
  | next=>exact (q.choose_spec.choose_spec.2).elim
  | brk=>exact (q.choose_spec.choose_spec.2).elim
  | cont=>exact (q.choose_spec.choose_spec.2).elim
def tTry (tb:XK→TS) (th:Addr→VK→Hp→Prop):TS:=fun D σ H=>∃ Eh:XK,tb Eh D σ H∧∀ c r H',Eh c r H'→∃ C,c=.ref C∧th C D.rt H'
noncomputable abbrev tcx (X:Cx) (pn:List (Addr×Obj)) (E':Value→Shared→Prop):Cx:={ X with xe:=E',pn:=pn }
theorem zqi {X:Cx} {body:List Stmt} {h₀:ExceptHandler} {hs:List ExceptHandler} {tb:XK→TS} {th:Addr→VK→Hp→Prop} {pos:Pos} (hst:X.stack=X.env :: X.outer) (hf:X.env.frame=some X.env.locals)
  (hb:∀ pn E' Eh,zel (CXe X.prog X.w) (tcx X pn E') Eh→PSs (tcx X pn E') body (tb Eh)) (hh:PH X (h₀ :: hs) th):PS X (.Try body (h₀ :: hs) [] [] pos) (tTry tb th):=by
 intro pins s σ H D I h
 obtain⟨Eh,h1,h2⟩:=h
 have into:∀ {E':Value→Shared→Prop} {σ':St} {H1:Hp} {s1:Shared},Inv X pins σ' H1 s1→Inv (tcx X (X.pn ++ pins) E') [] σ' H1 s1:=fun J =>
  ⟨⟨J.ok.mod,J.ok.kind,J.ok.glob,J.ok.blt,J.ok.above,J.ok.inj,J.ok.has,J.ok.cab,J.ok.hd,J.ok.frames,J.ok.stk,J.ok.exf,J.ok.bs,J.ok.bsz,J.ok.noex,J.ok.exfs,J.ok.funs,J.ok.frf⟩,J.os,J.bare,J.base,J.loc,J.cell,J.free,J.freeC,fun p hp=>J.pin p (by rw [List.append_nil] at hp;exact hp),J.hok,J.len⟩
 have out:∀ {E':Value→Shared→Prop} {pins':List (Addr×Obj)} {σ':St} {H1:Hp} {s1:Shared},Inv (tcx X (X.pn ++ pins) E') pins' σ' H1 s1→Inv X pins σ' H1 s1:=fun J =>
  ⟨I.ok,J.os,J.bare,J.base,J.loc,J.cell,J.free,J.freeC,fun p hp=>J.pin p (List.mem_append_left _ hp),J.hok,J.len⟩
 have pass:zel (CXe X.prog X.w) (tcx X (X.pn ++ pins) fun e s₁=>wpAny (model X.prog X.w) X.A (noteFrame e X.env) (fun _ s₂=>wpAny (model X.prog X.w) X.A (setFlight e none) (fun _ s₃=>wpAny (model X.prog X.w) X.A (handleBy e X.env (h₀ :: hs)) (SP X pins D) X.xe s₃) X.xe s₂) X.xe s₁) Eh:=by
  intro pins' σ' H1 s1 e s' J hc
  obtain⟨H',C,a,he,F,hE⟩:=hc
  subst he
  have J:=out J
  replace F:Fly X.prog X.w X.stack H1 s1 H' C a s':=F
  obtain⟨B,t,fl,k1,k2,k3⟩:=F.fly
  obtain⟨C2,e2,q⟩:=h2 _ _ _ hE
  cases e2
  refine wpAny_looks_onW (I.ok.frames.trans (congrArg some hst)) hf (hst ▸ fl) fun h4 held sm4=>wpAny_landsW held fun h5 fl5 sm5=>?_
  refine thn (hh pins _ σ' H' C a D.rt ⟨s1,s',H1,B,t,J,F,k1,k2,k3,fl,(hst ▸ fl5),sm4.trans sm5,rfl⟩ q) fun f s6 ⟨u,v,σ6,H6,e,J6,r,q6⟩=>?_
  subst e
  exact⟨v,σ6,H6,J6,r,q6⟩
 rw [arm_exec_Try]
 refine wpAny_bind (wpAny_standAt (wpAny_tryStmt_except (wpAny_mono (hb _ _ Eh pass [] s σ H D (into I) h1) (fun f s1 q=>?_) fun _ _ q=>q)))
 cases f with
 | next=>obtain⟨σ1,H1,J,q⟩:=q;exact wpAny_execs_nil ⟨σ1,H1,out J,q⟩
 | brk=>obtain⟨σ1,H1,J,q⟩:=q;exact⟨σ1,H1,out J,q⟩
 | cont=>obtain⟨σ1,H1,J,q⟩:=q;exact⟨σ1,H1,out J,q⟩
 | ret u=>obtain⟨v,σ1,H1,J,r,q⟩:=q;exact⟨v,σ1,H1,out J,r,q⟩
theorem zkl {X:Cx} {a:Addr} {oe:Obj}:zbF (hcx X a oe) (.builtin "isinstance") (fun xs H Q=>∃ c u,xs=[.ref a,c]∧(∀ u',RelV c u'→u'=u)∧PySem.W.kitCls X.K oe.cls u=some true∧Q (.bl true) H):=by
 intro pins s σ H xs us Q I r h
 obtain⟨c,u,rfl,hu,hk,q⟩:=h
 obtain⟨u1,u2,rfl,r1,r2⟩:=Vals.two r
 obtain rfl:u1=.ref a:=r1
 obtain rfl:=hu _ r2
 obtain⟨p,_⟩:=I.pin (a,oe) (List.mem_append_left _ (List.mem_append_right _ (List.mem_singleton.mpr rfl)))
 exact zph I.kIn (fun M=>(PySem.W.Looks.ld p).andThen .now) hk (fun z=>nomatch z) ⟨.bl true,H,I,rfl,q⟩
end L2
namespace TL
open PySem PySem.Spec PyProof.Rows L2
inductive T where
 | sc (v:V)
 | scr (ns:List Int)
 | lst (xs:List T)
 | tup (xs:List T)
inductive Md where
 | al | sp | fu
 deriving DecidableEq
def Scr (K:PySem.W.Frag) (H:Hp) (a:Addr) (ns:List Int):Prop:=
 (∃ o,H a=some (.frz o (.lst (ns.map V.int)))) ∨
  ∃ (o:Obj) (its:Array Value) (n:Nat),K.lookup a=some o∧o.cls=.type "list" ∧ o.dict=none∧o.data=.seq its n∧its.size≤sizeLine∧Vals (ns.map V.int) its.toList
theorem Scr.sq {K:PySem.W.Frag} {H:Hp} {a:Addr} {ns:List Int} (h:Scr K H a ns):SqL K H a (ns.map V.int):=h.elim (fun q=>.inl (.inr q)) .inr
section
variable (K:PySem.W.Frag) (H:Hp) (S:Addr→Prop)
mutual
noncomputable def Den:T→Md→List Addr→V→Prop
 | .sc w,_,A,v=>A=[]∧v=w
 | .scr ns,_,A,v=>A=[]∧∃ a,v=.ref a∧Scr K H a ns
 | .lst ts,.al,A,v=>A=[]∧∃ a vs,v=.ref a∧S a∧H a=some (.lst vs)∧Dens ts .al [] vs
 | .lst ts,.sp,A,v=>∃ a vs,v=.ref a∧A=[a]∧H a=some (.lst vs)∧Dens ts .al [] vs
 | .lst ts,.fu,A,v=>∃ a vs A',v=.ref a∧A=a :: A'∧H a=some (.lst vs)∧Dens ts .fu A' vs
 | .tup ts,.fu,A,v=>∃ a vs,v=.ref a∧SqT K H a vs∧Dens ts .fu A vs
 | .tup ts,.al,A,v=>A=[]∧∃ a vs,v=.ref a∧SqT K H a vs∧Dens ts .al [] vs
 | .tup ts,.sp,A,v=>A=[]∧∃ a vs,v=.ref a∧SqT K H a vs∧Dens ts .al [] vs
noncomputable def Dens:List T→Md→List Addr→List V→Prop
 | [],_,A,vs=>A=[]∧vs=[]
 | t :: ts,m,A,vs=>∃ A1 A2 v vs',A=A1 ++ A2∧vs=v :: vs'∧Den t m A1 v∧Dens ts m A2 vs'
end
end
structure Frm (K:PySem.W.Frag) (H H':Hp) (P:Addr→Prop):Prop where
 nodes:∀ b xs,P b→H b=some (.lst xs)→H' b=some (.lst xs)
 tups:∀ b xs,SqT K H b xs→SqT K H' b xs
 scrs:∀ b ns,Scr K H b ns→Scr K H' b ns
section
variable {K:PySem.W.Frag} {H H' H1 H2:Hp} {S S':Addr→Prop}
mutual
theorem Den.frm {P:Addr→Prop} (F:Frm K H H' P) (hS:∀ a,S a→P a) (hS':∀ a,S a→S' a):∀ {t:T} {m:Md} {A:List Addr} {v:V},(∀ a∈A,P a)→Den K H S t m A v→Den K H' S' t m A v
 | .sc w,m,A,v,_,h=>by unfold Den at h ⊢;exact h
 | .scr ns,m,A,v,_,h=>by unfold Den at h ⊢;obtain⟨e,a,q,r⟩:=h;exact⟨e,a,q,F.scrs _ _ r⟩
 | .lst ts,.al,A,v,_,h=>by
  unfold Den at h ⊢
  obtain⟨e,a,vs,q,s,r,d⟩:=h
  exact⟨e,a,vs,q,hS' a s,F.nodes _ _ (hS a s) r,Dens.frm F hS hS' (fun _ z=>nomatch z) d⟩
 | .lst ts,.sp,A,v,hA,h=>by
  unfold Den at h ⊢
  obtain⟨a,vs,q,e,r,d⟩:=h
  exact⟨a,vs,q,e,F.nodes _ _ (hA a (by rw [e];exact List.mem_singleton.mpr rfl)) r,Dens.frm F hS hS' (fun _ z=>nomatch z) d⟩
 | .lst ts,.fu,A,v,hA,h=>by
  unfold Den at h ⊢
  obtain⟨a,vs,A',q,e,r,d⟩:=h
  subst e
  exact⟨a,vs,A',q,rfl,F.nodes _ _ (hA a (List.mem_cons_self ..)) r,Dens.frm F hS hS' (fun b z=>hA b (List.mem_cons_of_mem _ z)) d⟩
 | .tup ts,.fu,A,v,hA,h=>by
  unfold Den at h ⊢
  obtain⟨a,vs,q,r,d⟩:=h
  exact⟨a,vs,q,F.tups _ _ r,Dens.frm F hS hS' hA d⟩
 | .tup ts,.al,A,v,hA,h=>by
  unfold Den at h ⊢
  obtain⟨e,a,vs,q,r,d⟩:=h
  exact⟨e,a,vs,q,F.tups _ _ r,Dens.frm F hS hS' (fun _ z=>nomatch z) d⟩
 | .tup ts,.sp,A,v,hA,h=>by
  unfold Den at h ⊢
  obtain⟨e,a,vs,q,r,d⟩:=h
  exact⟨e,a,vs,q,F.tups _ _ r,Dens.frm F hS hS' (fun _ z=>nomatch z) d⟩
theorem Dens.frm {P:Addr→Prop} (F:Frm K H H' P) (hS:∀ a,S a→P a) (hS':∀ a,S a→S' a):∀ {ts:List T} {m:Md} {A:List Addr} {vs:List V},(∀ a∈A,P a)→Dens K H S ts m A vs→Dens K H' S' ts m A vs
 | [],m,A,vs,_,h=>by unfold Dens at h ⊢;exact h
 | t :: ts,m,A,vs,hA,h=>by
  unfold Dens at h ⊢
  obtain⟨A1,A2,v,vs',e,q,d,r⟩:=h
  subst e
  exact⟨A1,A2,v,vs',rfl,q,Den.frm F hS hS' (fun a z=>hA a (List.mem_append_left _ z)) d,Dens.frm F hS hS' (fun a z=>hA a (List.mem_append_right _ z)) r⟩
end
theorem Scr.same {K:PySem.W.Frag} {a:Addr} {ns:List Int} (e:Same H H') (h:Scr K H a ns):Scr K H' a ns:=h.imp (fun ⟨o,q⟩=>⟨o,e _ _ q⟩) id
theorem zet {K:PySem.W.Frag} {a:Addr} {xs:List V} (e:Same H H') (h:SqT K H a xs):SqT K H' a xs:=by
 rcases h with (h | ⟨o,h⟩) | h
 ·exact .inl (.inl (e _ _ h))
 ·exact .inl (.inr ⟨o,e _ _ h⟩)
 ·exact .inr h
theorem Frm.same (e:Same H H'):Frm K H H' fun _=>True:=⟨fun b xs _ h=>e _ _ h,fun b xs h=>zet e h,fun b ns h=>h.same e⟩
theorem Den.mono {t:T} {m:Md} {A:List Addr} {v:V} (h:Den K H S t m A v) (e:Same H H') (hS:∀ a,S a→S' a):Den K H' S' t m A v:=Den.frm (Frm.same e) (fun _ _=>trivial) hS (fun _ _=>trivial) h
theorem Dens.mono {ts:List T} {m:Md} {A:List Addr} {vs:List V} (h:Dens K H S ts m A vs) (e:Same H H') (hS:∀ a,S a→S' a):Dens K H' S' ts m A vs:=Dens.frm (Frm.same e) (fun _ _=>trivial) hS (fun _ _=>trivial) h
theorem Den.monoS {t:T} {m:Md} {A:List Addr} {v:V} (h:Den K H S t m A v) (hS:∀ a,S a→S' a):Den K H S' t m A v:=h.mono (Same.refl _) hS
theorem Dens.monoS {ts:List T} {m:Md} {A:List Addr} {vs:List V} (h:Dens K H S ts m A vs) (hS:∀ a,S a→S' a):Dens K H S' ts m A vs:=h.mono (Same.refl _) hS
theorem Frm.upd {a:Addr} {xs:List V} {o:HO} (h:H a=some (.lst xs)):Frm K H (upd H a o) fun b=>b≠a:=
 ⟨fun b ys hb e=>by rw [zaw hb];exact e,fun b ys e=>by
  rcases e with (e | ⟨o',e⟩) | e
  ·exact .inl (.inl (by rw [zaw];exact e;intro z;rw [z,h] at e;cases e))
  ·exact .inl (.inr ⟨o',by rw [zaw];exact e;intro z;rw [z,h] at e;cases e⟩)
  ·exact .inr e,fun b ns e=>by
  rcases e with ⟨o',e⟩ | e
  ·exact .inl ⟨o',by rw [zaw];exact e;intro z;rw [z,h] at e;cases e⟩
  ·exact .inr e⟩
mutual
/-- of a thing that is wholly ours nothing is shared -/
theorem Den.fuS:∀ {t:T} {A:List Addr} {v:V},Den K H S t .fu A v→Den K H S' t .fu A v
 | .sc w,A,v,h=>by unfold Den at h ⊢;exact h
 | .scr ns,A,v,h=>by unfold Den at h ⊢;exact h
 | .lst ts,A,v,h=>by
  unfold Den at h ⊢
  obtain⟨a,vs,A',q,e,r,d⟩:=h
  exact⟨a,vs,A',q,e,r,Dens.fuS d⟩
 | .tup ts,A,v,h=>by
  unfold Den at h ⊢
  obtain⟨a,vs,q,r,d⟩:=h
  exact⟨a,vs,q,r,Dens.fuS d⟩
theorem Dens.fuS:∀ {ts:List T} {A:List Addr} {vs:List V},Dens K H S ts .fu A vs→Dens K H S' ts .fu A vs
 | [],A,vs,h=>by unfold Dens at h ⊢;exact h
 | t :: ts,A,vs,h=>by
  unfold Dens at h ⊢
  obtain⟨A1,A2,v,vs',e,q,d,r⟩:=h
  exact⟨A1,A2,v,vs',e,q,Den.fuS d,Dens.fuS r⟩
end
mutual
/-- what is ours stands -/
theorem Den.own:∀ {t:T} {m:Md} {A:List Addr} {v:V},Den K H S t m A v→∀ a∈A,∃ vs,H a=some (.lst vs)
 | .sc w,m,A,v,h,a,ha=>by unfold Den at h;rw [h.1] at ha;cases ha
 | .scr ns,m,A,v,h,a,ha=>by unfold Den at h;rw [h.1] at ha;cases ha
 | .lst ts,.al,A,v,h,a,ha=>by unfold Den at h;rw [h.1] at ha;cases ha
 | .lst ts,.sp,A,v,h,a,ha=>by
  unfold Den at h
  obtain⟨b,vs,q,e,r,d⟩:=h
  rw [e] at ha
  rw [List.mem_singleton.mp ha]
  exact⟨vs,r⟩
 | .lst ts,.fu,A,v,h,a,ha=>by
  unfold Den at h
  obtain⟨b,vs,A',q,e,r,d⟩:=h
  rw [e] at ha
  rcases List.mem_cons.mp ha with z | z
  ·rw [z];exact⟨vs,r⟩
  ·exact Dens.own d a z
 | .tup ts,.fu,A,v,h,a,ha=>by
  unfold Den at h
  obtain⟨b,vs,q,r,d⟩:=h
  exact Dens.own d a ha
 | .tup ts,.al,A,v,h,a,ha=>by unfold Den at h;rw [h.1] at ha;cases ha
 | .tup ts,.sp,A,v,h,a,ha=>by unfold Den at h;rw [h.1] at ha;cases ha
theorem Dens.own:∀ {ts:List T} {m:Md} {A:List Addr} {vs:List V},Dens K H S ts m A vs→∀ a∈A,∃ vs,H a=some (.lst vs)
 | [],m,A,vs,h,a,ha=>by unfold Dens at h;rw [h.1] at ha;cases ha
 | t :: ts,m,A,vs,h,a,ha=>by
  unfold Dens at h
  obtain⟨A1,A2,v,vs',e,q,d,r⟩:=h
  rw [e] at ha
  rcases List.mem_append.mp ha with z | z
  ·exact Den.own d a z
  ·exact Dens.own r a z
end
mutual
/-- what is ours may be shared out -/
theorem Den.out:∀ {t:T} {m:Md} {A:List Addr} {v:V},Den K H S t m A v→(∀ a,S a→S' a)→(∀ a∈A,S' a)→Den K H S' t .al [] v
 | .sc w,m,A,v,h,_,_=>by unfold Den at h ⊢;exact⟨rfl,h.2⟩
 | .scr ns,m,A,v,h,_,_=>by unfold Den at h ⊢;exact⟨rfl,h.2⟩
 | .lst ts,.al,A,v,h,k,hA=>by
  unfold Den at h ⊢
  obtain⟨e,a,vs,q,s,r,d⟩:=h
  exact⟨rfl,a,vs,q,k a s,r,d.monoS k⟩
 | .lst ts,.sp,A,v,h,k,hA=>by
  unfold Den at h ⊢
  obtain⟨a,vs,q,e,r,d⟩:=h
  exact⟨rfl,a,vs,q,hA a (by rw [e];exact List.mem_singleton.mpr rfl),r,d.monoS k⟩
 | .lst ts,.fu,A,v,h,k,hA=>by
  unfold Den at h ⊢
  obtain⟨a,vs,A',q,e,r,d⟩:=h
  subst e
  exact⟨rfl,a,vs,q,hA a (List.mem_cons_self ..),r,Dens.out d k fun b z=>hA b (List.mem_cons_of_mem _ z)⟩
 | .tup ts,.fu,A,v,h,k,hA=>by
  unfold Den at h ⊢
  obtain⟨a,vs,q,r,d⟩:=h
  exact⟨rfl,a,vs,q,r,Dens.out d k hA⟩
 | .tup ts,.al,A,v,h,k,hA=>by
  unfold Den at h ⊢
  obtain⟨e,a,vs,q,r,d⟩:=h
  exact⟨rfl,a,vs,q,r,d.monoS k⟩
 | .tup ts,.sp,A,v,h,k,hA=>by
  unfold Den at h ⊢
  obtain⟨e,a,vs,q,r,d⟩:=h
  exact⟨rfl,a,vs,q,r,d.monoS k⟩
theorem Dens.out:∀ {ts:List T} {m:Md} {A:List Addr} {vs:List V},Dens K H S ts m A vs→(∀ a,S a→S' a)→(∀ a∈A,S' a)→Dens K H S' ts .al [] vs
 | [],m,A,vs,h,_,_=>by unfold Dens at h ⊢;exact⟨rfl,h.2⟩
 | t :: ts,m,A,vs,h,k,hA=>by
  unfold Dens at h ⊢
  obtain⟨A1,A2,v,vs',e,q,d,r⟩:=h
  subst e
  exact⟨[],[],v,vs',rfl,q,Den.out d k fun a z=>hA a (List.mem_append_left _ z),Dens.out r k fun a z=>hA a (List.mem_append_right _ z)⟩
end
theorem Dens.length:∀ {ts:List T} {m:Md} {A:List Addr} {vs:List V},Dens K H S ts m A vs→vs.length=ts.length
 | [],m,A,vs,h=>by unfold Dens at h;rw [h.2];rfl
 | t :: ts,m,A,vs,h=>by
  unfold Dens at h
  obtain⟨A1,A2,v,vs',e,q,d,r⟩:=h
  rw [q,List.length_cons,List.length_cons,Dens.length r]
theorem Dens.nil {m:Md}:Dens K H S [] m [] []:=by unfold Dens;exact⟨rfl,rfl⟩
theorem Dens.cons {t:T} {ts:List T} {m:Md} {A1 A2:List Addr} {v:V} {vs:List V} (d:Den K H S t m A1 v) (r:Dens K H S ts m A2 vs):Dens K H S (t :: ts) m (A1 ++ A2) (v :: vs):=by
 unfold Dens
 exact⟨A1,A2,v,vs,rfl,rfl,d,r⟩
theorem Dens.cons0 {t:T} {ts:List T} {v:V} {vs:List V} (d:Den K H S t .al [] v) (r:Dens K H S ts .al [] vs):Dens K H S (t :: ts) .al [] (v :: vs):=Dens.cons (A1:=[]) (A2:=[]) d r
theorem Dens.append:∀ {ts us:List T} {m:Md} {A1 A2:List Addr} {vs ws:List V},Dens K H S ts m A1 vs→Dens K H S us m A2 ws→Dens K H S (ts ++ us) m (A1 ++ A2) (vs ++ ws)
 | [],us,m,A1,A2,vs,ws,h,g=>by
  unfold Dens at h
  obtain⟨rfl,rfl⟩:=h
  exact g
 | t :: ts,us,m,A1,A2,vs,ws,h,g=>by
  unfold Dens at h
  obtain⟨B1,B2,v,vs',rfl,rfl,d,r⟩:=h
  rw [List.append_assoc]
  exact Dens.cons d (Dens.append r g)
theorem Den.alA {t:T} {A:List Addr} {v:V} (h:Den K H S t .al A v):A=[]:=by
 cases t with
 | sc w=>unfold Den at h;exact h.1
 | scr ns=>unfold Den at h;exact h.1
 | lst ts=>unfold Den at h;exact h.1
 | tup ts=>unfold Den at h;exact h.1
theorem Dens.alA:∀ {ts:List T} {A:List Addr} {vs:List V},Dens K H S ts .al A vs→A=[]
 | [],A,vs,h=>by unfold Dens at h;exact h.1
 | t :: ts,A,vs,h=>by
  unfold Dens at h
  obtain⟨A1,A2,v,vs',e,q,d,r⟩:=h
  rw [e,d.alA,Dens.alA r]
  rfl
theorem Dens.get:∀ {ts:List T} {vs:List V} {i:Nat} {t:T},Dens K H S ts .al [] vs→ts[i]? = some t→∃ v,vs[i]? = some v∧Den K H S t .al [] v
 | [],vs,i,t,h,e=>by simp at e
 | u :: us,vs,i,t,h,e=>by
  unfold Dens at h
  obtain⟨A1,A2,v,vs',ea,rfl,d,r⟩:=h
  obtain⟨rfl,rfl⟩:=List.append_eq_nil_iff.mp ea.symm
  cases i with
  | zero=>simp at e;subst e;exact⟨v,rfl,d⟩
  | succ i =>
   obtain⟨w,h1,h2⟩:=Dens.get (i:=i) r (by simpa using e)
   exact⟨w,by simpa using h1,h2⟩
theorem Dens.take {ts:List T} {vs:List V} (n:Nat) (h:Dens K H S ts .al [] vs):Dens K H S (ts.take n) .al [] (vs.take n):=by
 induction n generalizing ts vs with
 | zero=>simp;exact Dens.nil
 | succ n ih =>
  cases ts with
  | nil=>unfold Dens at h;rw [h.2];simp;exact Dens.nil
  | cons t ts =>
   unfold Dens at h
   obtain⟨A1,A2,v,vs',ea,rfl,d,r⟩:=h
   obtain⟨rfl,rfl⟩:=List.append_eq_nil_iff.mp ea.symm
   rw [List.take_succ_cons,List.take_succ_cons]
   exact Dens.cons0 d (ih r)
theorem Dens.drop {ts:List T} {vs:List V} (n:Nat) (h:Dens K H S ts .al [] vs):Dens K H S (ts.drop n) .al [] (vs.drop n):=by
 induction n generalizing ts vs with
 | zero=>exact h
 | succ n ih =>
  cases ts with
  | nil=>unfold Dens at h;rw [h.2];exact Dens.nil
  | cons t ts =>
   unfold Dens at h
   obtain⟨A1,A2,v,vs',ea,rfl,d,r⟩:=h
   obtain⟨rfl,rfl⟩:=List.append_eq_nil_iff.mp ea.symm
   rw [List.drop_succ_cons,List.drop_succ_cons]
   exact ih r
theorem Dens.reverse {ts:List T} {vs:List V} (h:Dens K H S ts .al [] vs):Dens K H S ts.reverse .al [] vs.reverse:=by
 induction ts generalizing vs with
 | nil=>unfold Dens at h;rw [h.2];exact Dens.nil
 | cons t ts ih =>
  unfold Dens at h
  obtain⟨A1,A2,v,vs',ea,rfl,d,r⟩:=h
  obtain⟨rfl,rfl⟩:=List.append_eq_nil_iff.mp ea.symm
  rw [List.reverse_cons,List.reverse_cons]
  exact Dens.append (A1:=[]) (A2:=[]) (ih r) (Dens.cons0 d Dens.nil)
end
theorem zcP {K:PySem.W.Frag} {H:Hp} {S:Addr→Prop} {m:Md} (v:V):Den K H S (.sc v) m [] v:=by unfold Den;exact⟨rfl,rfl⟩
theorem zaf {K:PySem.W.Frag} {H:Hp} {S:Addr→Prop} {m:Md} {w v:V} {A:List Addr}:Den K H S (.sc w) m A v↔A=[]∧v=w:=by unfold Den;exact Iff.rfl
theorem zak {K:PySem.W.Frag} {H:Hp} {S:Addr→Prop} {ts:List T} {v:V} {A:List Addr}:Den K H S (.lst ts) .al A v↔A=[]∧∃ a vs,v=.ref a∧S a∧H a=some (.lst vs)∧Dens K H S ts .al [] vs:=by conv=>lhs;unfold Den
theorem zbu {K:PySem.W.Frag} {H:Hp} {S:Addr→Prop} {ts:List T} {v:V} {A:List Addr}:Den K H S (.lst ts) .sp A v↔∃ a vs,v=.ref a∧A=[a]∧H a=some (.lst vs)∧Dens K H S ts .al [] vs:=by conv=>lhs;unfold Den
theorem zau {K:PySem.W.Frag} {H:Hp} {S:Addr→Prop} {ts:List T} {v:V} {A:List Addr}:Den K H S (.lst ts) .fu A v↔∃ a vs A',v=.ref a∧A=a :: A'∧H a=some (.lst vs)∧Dens K H S ts .fu A' vs:=by conv=>lhs;unfold Den
theorem zao {K:PySem.W.Frag} {H:Hp} {S:Addr→Prop} {ts:List T} {v:V} {A:List Addr}:Den K H S (.tup ts) .al A v↔A=[]∧∃ a vs,v=.ref a∧SqT K H a vs∧Dens K H S ts .al [] vs:=by conv=>lhs;unfold Den
theorem zb9 {K:PySem.W.Frag} {H:Hp} {S:Addr→Prop} {ts:List T} {v:V} {A:List Addr}:Den K H S (.tup ts) .fu A v↔∃ a vs,v=.ref a∧SqT K H a vs∧Dens K H S ts .fu A vs:=by conv=>lhs;unfold Den
theorem zia {K:PySem.W.Frag} {H:Hp} {S:Addr→Prop} {ns:List Int} {m:Md} {v:V} {A:List Addr}:Den K H S (.scr ns) m A v↔A=[]∧∃ a,v=.ref a∧Scr K H a ns:=by conv=>lhs;unfold Den
end TL
namespace TL
open PySem PySem.Spec L2
inductive Res (α:Type) where
 | ok (a:α)
 | exc (c:Nat)
 | bad
noncomputable def Res.bind {α β:Type} (x:Res α) (f:α→Res β):Res β:=match x with
 | .ok a=>f a
 | .exc c=>.exc c
 | .bad=>.bad
@[simp] theorem Res.bind_ok {α β:Type} (a:α) (f:α→Res β):(Res.ok a).bind f=f a:=(rfl)
@[simp] theorem Res.bind_exc {α β:Type} (c:Nat) (f:α→Res β):(Res.exc c).bind f=.exc c:=(rfl)
noncomputable def Res.of {α:Type}:Option α→Res α
 | some a=>.ok a
 | none=>.bad
@[simp] theorem Res.of_some {α:Type} (a:α):Res.of (some a)=.ok a:=(rfl)
noncomputable abbrev VEnv:=List (Option T)
noncomputable abbrev SEnv:=List (Option (Md×T))
structure Z where
 H₀:Hp
 S₀:Addr→Prop
 cl:Nat→Addr
 E:XK
def Dom (S:Addr→Prop) (H:Hp):Prop:=∀ a,S a→H a≠none
structure Grow (H:Hp) (S:Addr→Prop) (H':Hp) (S':Addr→Prop):Prop where
 same:Same H H'
 up:∀ a,S a→S' a
 new:∀ a,S' a→S a∨H a=none
 dom:Dom S' H'
theorem za5 {H H':Hp} (e:Same H H') {a:Addr} (h:H' a=none):H a=none:=e.free h
theorem zbs {H H':Hp} (e:Same H H') {a:Addr} (h:H a≠none):H' a≠none:=fun z=>h (za5 e z)
theorem Grow.refl {H:Hp} {S:Addr→Prop} (d:Dom S H):Grow H S H S:=⟨Same.refl _,fun _ h=>h,fun _ h=>.inl h,d⟩
theorem Grow.trans {H H1 H2:Hp} {S S1 S2:Addr→Prop} (a:Grow H S H1 S1) (b:Grow H1 S1 H2 S2):Grow H S H2 S2:=
 ⟨a.same.trans b.same,fun c h=>b.up c (a.up c h),fun c h=>(b.new c h).elim (fun q=>a.new c q) fun q=>.inr (za5 a.same q),b.dom⟩
structure Got (K:PySem.W.Frag) (H:Hp) (S:Addr→Prop) (H':Hp) (S':Addr→Prop) (A:List Addr) (v:V) (md:Md) (t:T):Prop where
 g:Grow H S H' S'
 nd:A.Nodup
 ow:∀ a∈A,H a=none∧¬ S' a
 den:Den K H' S' t md A v
structure Gots (K:PySem.W.Frag) (H:Hp) (S:Addr→Prop) (H':Hp) (S':Addr→Prop) (A:List Addr) (vs:List V) (md:Md) (ts:List T):Prop where
 g:Grow H S H' S'
 nd:A.Nodup
 ow:∀ a∈A,H a=none∧¬ S' a
 den:Dens K H' S' ts md A vs
section
variable {K:PySem.W.Frag} {H H' H1 H2:Hp} {S S' S1 S2:Addr→Prop} {A:List Addr} {v:V} {vs:List V} {md:Md} {t:T} {ts:List T}
theorem Got.trans (a:Grow H S H1 S1) (b:Got K H1 S1 H2 S2 A v md t):Got K H S H2 S2 A v md t:=
 ⟨a.trans b.g,b.nd,fun x hx=>⟨za5 a.same (b.ow x hx).1,(b.ow x hx).2⟩,b.den⟩
theorem Got.al (b:Got K H S H' S' A v md t):Got K H S H' (fun a=>S' a∨a∈A) [] v .al t:=
 ⟨⟨b.g.same,fun a h=>.inl (b.g.up a h),fun a h=>h.elim (b.g.new a) fun q=>.inr (b.ow a q).1,fun a h=>h.elim (b.g.dom a) fun q z=>by
  obtain⟨vs,e⟩:=b.den.own a q
  rw [z] at e;cases e⟩,List.nodup_nil,fun _ z=>(nomatch z),b.den.out (fun a h=>.inl h) fun a h=>.inr h⟩
theorem Gots.al (b:Gots K H S H' S' A vs md ts):Gots K H S H' (fun a=>S' a∨a∈A) [] vs .al ts:=
 ⟨⟨b.g.same,fun a h=>.inl (b.g.up a h),fun a h=>h.elim (b.g.new a) fun q=>.inr (b.ow a q).1,fun a h=>h.elim (b.g.dom a) fun q z=>by
  obtain⟨vs,e⟩:=b.den.own a q
  rw [z] at e;cases e⟩,List.nodup_nil,fun _ z=>(nomatch z),b.den.out (fun a h=>.inl h) fun a h=>.inr h⟩
theorem Got.sc (d:Dom S H) (v:V):Got K H S H S [] v md (.sc v):=⟨.refl d,List.nodup_nil,fun _ z=>(nomatch z),zcP v⟩
theorem Got.newSp {p:Addr} (d:Dom S H) (hp:H p=none) (h:Dens K H S ts .al [] vs):Got K H S (upd H p (.lst vs)) S [p] (.ref p) .sp (.lst ts):=by
 have sm:Same H (upd H p (.lst vs)):=fun b o e=>by rw [zaw (zaA e hp)];exact e
 exact⟨⟨sm,fun _ h=>h,fun _ h=>.inl h,fun a h=>zbs sm (d a h)⟩,by simp,fun a ha=>by
  rw [List.mem_singleton.mp ha]
  exact⟨hp,fun z=>d p z hp⟩,zbu.mpr ⟨p,vs,rfl,rfl,zaL,h.mono sm fun _ h=>h⟩⟩
theorem Got.newFu {p:Addr} (g:Gots K H S H' S' A vs .fu ts) (hp:H' p=none):Got K H S (upd H' p (.lst vs)) S' (p :: A) (.ref p) .fu (.lst ts):=by
 have sm:Same H' (upd H' p (.lst vs)):=fun b o e=>by rw [zaw (zaA e hp)];exact e
 have np:p∉A:=fun z=>by
  obtain⟨ws,e⟩:=g.den.own p z
  rw [hp] at e;cases e
 refine ⟨⟨g.g.same.trans sm,g.g.up,g.g.new,fun a h=>zbs sm (g.g.dom a h)⟩,List.nodup_cons.mpr ⟨np,g.nd⟩,fun a ha=>?_,zau.mpr ⟨p,vs,A,rfl,rfl,zaL,g.den.mono sm fun _ h=>h⟩⟩
 rcases List.mem_cons.mp ha with z | z
 ·rw [z];exact⟨za5 g.g.same hp,fun q=>g.g.dom p q hp⟩
 ·exact g.ow a z
theorem Got.newTup {p:Addr} (g:Gots K H S H' S' A vs .fu ts) (hp:H' p=none):Got K H S (upd H' p (.tup vs)) S' A (.ref p) .fu (.tup ts):=by
 have sm:Same H' (upd H' p (.tup vs)):=fun b o e=>by rw [zaw (zaA e hp)];exact e
 exact⟨⟨g.g.same.trans sm,g.g.up,g.g.new,fun a h=>zbs sm (g.g.dom a h)⟩,g.nd,g.ow,zb9.mpr ⟨p,vs,rfl,.inl (.inl zaL),g.den.mono sm fun _ h=>h⟩⟩
theorem Got.newTupA {p:Addr} (g:Gots K H S H' S' [] vs .al ts) (hp:H' p=none):Got K H S (upd H' p (.tup vs)) S' [] (.ref p) .al (.tup ts):=by
 have sm:Same H' (upd H' p (.tup vs)):=fun b o e=>by rw [zaw (zaA e hp)];exact e
 exact⟨⟨g.g.same.trans sm,g.g.up,g.g.new,fun a h=>zbs sm (g.g.dom a h)⟩,g.nd,g.ow,zao.mpr ⟨rfl,p,vs,rfl,.inl (.inl zaL),g.den.mono sm fun _ h=>h⟩⟩
theorem Gots.nil (d:Dom S H):Gots K H S H S [] [] md []:=⟨.refl d,List.nodup_nil,fun _ z=>(nomatch z),Dens.nil⟩
theorem Gots.cons {A2:List Addr} (a:Got K H S H1 S1 A v md t) (b:Gots K H1 S1 H2 S2 A2 vs md ts):Gots K H S H2 S2 (A ++ A2) (v :: vs) md (t :: ts):=by
 have dj:∀ x∈A,x∉A2:=fun x hx hy=>by
  obtain⟨ws,e⟩:=a.den.own x hx
  rw [(b.ow x hy).1] at e;cases e
 refine ⟨a.g.trans b.g,List.nodup_append.mpr ⟨a.nd,b.nd,fun x hx y hy z=>dj x hx (z ▸ hy)⟩,fun x hx=>?_,Dens.cons (a.den.mono b.g.same b.g.up) b.den⟩
 rcases List.mem_append.mp hx with z | z
 ·refine ⟨(a.ow x z).1,fun q=>?_⟩
  rcases b.g.new x q with q | q
  ·exact (a.ow x z).2 q
  ·obtain⟨ws,e⟩:=a.den.own x z
   rw [q] at e;cases e
 ·exact⟨za5 a.g.same (b.ow x z).1,(b.ow x z).2⟩
theorem Gots.snoc {A2:List Addr} (a:Gots K H S H1 S1 A vs md ts) (b:Got K H1 S1 H2 S2 A2 v md t):Gots K H S H2 S2 (A ++ A2) (vs ++ [v]) md (ts ++ [t]):=by
 have dj:∀ x∈A,x∉A2:=fun x hx hy=>by
  obtain⟨ws,e⟩:=a.den.own x hx
  rw [(b.ow x hy).1] at e;cases e
 refine ⟨a.g.trans b.g,List.nodup_append.mpr ⟨a.nd,b.nd,fun x hx y hy z=>dj x hx (z ▸ hy)⟩,fun x hx=>?_,(a.den.mono b.g.same b.g.up).append (by simpa using Dens.cons b.den Dens.nil)⟩
 rcases List.mem_append.mp hx with z | z
 ·refine ⟨(a.ow x z).1,fun q=>?_⟩
  rcases b.g.new x q with q | q
  ·exact (a.ow x z).2 q
  ·obtain⟨ws,e⟩:=a.den.own x z
   rw [q] at e;cases e
 ·exact⟨za5 a.g.same (b.ow x z).1,(b.ow x z).2⟩
end
structure OkE (K:PySem.W.Frag) (z:Z) (S:Addr→Prop) (ρ:VEnv) (σ:St) (H:Hp):Prop where
 same:Same z.H₀ H
 dom:Dom S H
 sl:∀ (i:Nat) t,ρ[i]? = some (some t)→∃ v,σ[i]? = some (some v)∧Den K H S t .al [] v
theorem OkE.grow {K:PySem.W.Frag} {z:Z} {S S':Addr→Prop} {ρ:VEnv} {σ:St} {H H':Hp} (o:OkE K z S ρ σ H) (g:Grow H S H' S'):OkE K z S' ρ σ H':=
 ⟨o.same.trans g.same,g.dom,fun i t e=>let ⟨v,h1,h2⟩:=o.sl i t e;⟨v,h1,h2.mono g.same g.up⟩⟩
noncomputable def endE (K:PySem.W.Frag) (z:Z) (H:Hp) (S:Addr→Prop) (md:Md) (Q:VK):Res T→Prop
 | .ok t=>∀ v H' S' A,Got K H S H' S' A v md t→Q v H'
 | .exc c=>∀ H',Same z.H₀ H'→z.E (.ref (z.cl c)) none H'
 | .bad=>False
noncomputable def endA (K:PySem.W.Frag) (z:Z) (H:Hp) (S:Addr→Prop) (md:Md) (Q:List V→Hp→Prop):Res (List T)→Prop
 | .ok ts=>∀ vs H' S' A,Gots K H S H' S' A vs md ts→Q vs H'
 | .exc c=>∀ H',Same z.H₀ H'→z.E (.ref (z.cl c)) none H'
 | .bad=>False
noncomputable def endB (z:Z) (H:Hp) (S:Addr→Prop) (Q:Bool→Hp→Prop):Res Bool→Prop
 | .ok b=>∀ H' S',Grow H S H' S'→Q b H'
 | .exc c=>∀ H',Same z.H₀ H'→z.E (.ref (z.cl c)) none H'
 | .bad=>False
theorem endE.grow {K:PySem.W.Frag} {z:Z} {H H1:Hp} {S S1:Addr→Prop} {md:Md} {Q:VK} {r:Res T} (g:Grow H S H1 S1) (h:endE K z H S md Q r):endE K z H1 S1 md Q r:=by
 cases r with
 | ok t=>exact fun v H2 S2 A g2=>h v H2 S2 A (g2.trans g)
 | exc c=>exact h
 | bad=>exact h
def tr (K:PySem.W.Frag) (z:Z) (md:Md) (F:VEnv→Res T):TE:=fun σ H Q=>∃ S ρ,OkE K z S ρ σ H∧endE K z H S md Q (F ρ)
def tra (K:PySem.W.Frag) (z:Z) (md:Md) (F:VEnv→Res (List T)):TA:=fun σ H Q=>∃ S ρ,OkE K z S ρ σ H∧endA K z H S md Q (F ρ)
def trb (K:PySem.W.Frag) (z:Z) (F:VEnv→Res Bool):TT:=fun σ H Q=>∃ S ρ,OkE K z S ρ σ H∧endB z H S Q (F ρ)
abbrev JE (X:Cx) (z:Z) (md:Md) (F:VEnv→Res T) (e:Expr):Prop:=PE X e (tr X.K z md F)
abbrev JA (X:Cx) (z:Z) (md:Md) (F:VEnv→Res (List T)) (es:List Expr):Prop:=PA X es (tra X.K z md F)
abbrev JT (X:Cx) (z:Z) (F:VEnv→Res Bool) (e:Expr):Prop:=PT X e (trb X.K z F)
abbrev JW (X:Cx) (z:Z) (F:VEnv→Res Bool) (e:Expr):Prop:=PW X e (trb X.K z F)
theorem PE.imp {X:Cx} {e:Expr} {t t':TE} (h:PE X e t) (k:∀ σ H Q,t' σ H Q→t σ H Q):PE X e t':=fun pins s σ H Q I q=>h pins s σ H Q I (k σ H Q q)
theorem PA.imp {X:Cx} {e:List Expr} {t t':TA} (h:PA X e t) (k:∀ σ H Q,t' σ H Q→t σ H Q):PA X e t':=fun pos pins s σ H Q I q=>h pos pins s σ H Q I (k σ H Q q)
theorem PT.imp {X:Cx} {e:Expr} {t t':TT} (h:PT X e t) (k:∀ σ H Q,t' σ H Q→t σ H Q):PT X e t':=fun pins s σ H Q I q=>h pins s σ H Q I (k σ H Q q)
theorem PW.imp {X:Cx} {e:Expr} {t t':TT} (h:PW X e t) (k:∀ σ H Q,t' σ H Q→t σ H Q):PW X e t':=fun wh pins s σ H Q I q=>h wh pins s σ H Q I (k σ H Q q)
section
variable {X:Cx} {z:Z} {md md1 md2:Md} {F F1 F2:VEnv→Res T} {e a b:Expr} {es:List Expr} {pos:Pos} {K:PySem.W.Frag}
theorem zrL {σ:St} {H:Hp} {Q:VK} (h:tr K z .al F σ H Q):tr K z md F σ H Q:=by
 obtain⟨S,ρ,o,h⟩:=h
 refine ⟨S,ρ,o,?_⟩
 cases e:F ρ with
 | ok t=>rw [e] at h;exact fun v H' S' A g=>h v H' _ [] g.al
 | exc c=>rw [e] at h;exact h
 | bad=>rw [e] at h;exact h
theorem JE.al (h:JE X z md F e):JE X z .al F e:=PE.imp h fun _ _ _=>zrL
noncomputable def isSc:T→Bool
 | .sc _=>true
 | _=>false
noncomputable def chk (x:Res T):Res T:=x.bind fun t=>if isSc t then .ok t else .bad
@[simp] theorem ztr (v:V):chk (.ok (.sc v))=.ok (.sc v):=(rfl)
theorem JE.sc (h:JE X z md F e):JE X z md1 (fun ρ=>chk (F ρ)) e:=PE.imp h fun σ H Q q=>by
 obtain⟨S,ρ,o,q⟩:=q
 refine ⟨S,ρ,o,?_⟩
 replace q:endE X.K z H S md1 Q (chk (F ρ)):=q
 cases e:F ρ with
 | ok t =>
  rw [e] at q
  cases t with
  | sc w =>
   intro v H' S' A g
   refine q v H' S' A ⟨g.g,g.nd,g.ow,?_⟩
   have:=zaf.mp g.den
   exact zaf.mpr this
  | scr ns=>exact (show False from q).elim
  | lst ts=>exact (show False from q).elim
  | tup ts=>exact (show False from q).elim
 | exc c=>rw [e] at q;exact q
 | bad=>rw [e] at q;exact q
theorem zcD {F1:VEnv→Res T} {G:VEnv→T→Res T} {σ:St} {H:Hp} {Q:VK} {Q1:VK} (h:tr K z md (fun ρ=>(F1 ρ).bind (G ρ)) σ H Q)
  (k:∀ S ρ t v H' S',OkE K z S' ρ σ H'→F1 ρ=.ok t→Grow H S H' S'→Den K H' S' t .al [] v→endE K z H' S' md Q (G ρ t)→Q1 v H'):tr K z .al F1 σ H Q1:=by
 obtain⟨S,ρ,o,h⟩:=h
 refine ⟨S,ρ,o,?_⟩
 replace h:endE K z H S md Q ((F1 ρ).bind (G ρ)):=h
 cases e:F1 ρ with
 | ok t =>
  rw [e] at h
  intro v H' S' A g
  obtain rfl:=g.den.alA
  exact k S ρ t v H' S' (o.grow g.g) e g.g g.den (endE.grow g.g h)
 | exc c=>rw [e] at h;exact h
 | bad=>rw [e] at h;exact h
def endT (K:PySem.W.Frag) (H:Hp) (S:Addr→Prop) (md:Md) (Q:VK) (r:Option T):Prop:=match r with
 | some t=>∀ v H' S' A,Got K H S H' S' A v md t→Q v H'
 | none=>False
def rT (K:PySem.W.Frag) (md:Md) (g:T→T→Option T):R2:=fun x y H Q=>∃ S t u,Dom S H∧Den K H S t .al [] x∧Den K H S u .al [] y∧endT K H S md Q (g t u)
noncomputable def r1T (K:PySem.W.Frag) (md:Md) (g:T→Option T):V→Hp→VK→Prop:=fun x H Q=>∃ S t,Dom S H∧Den K H S t .al [] x∧endT K H S md Q (g t)
noncomputable def rCT (K:PySem.W.Frag) (md:Md) (g:List T→Option T):List V→Hp→VK→Prop:=fun xs H Q=>∃ S ts,Dom S H∧Dens K H S ts .al [] xs∧endT K H S md Q (g ts)
noncomputable def eOp (g:T→T→Option T) (F1 F2:VEnv→Res T):VEnv→Res T:=fun ρ=>(F1 ρ).bind fun t=>(F2 ρ).bind fun u=>.of (g t u)
noncomputable def eUn (g:T→Option T) (F1:VEnv→Res T):VEnv→Res T:=fun ρ=>(F1 ρ).bind fun t=>.of (g t)
theorem zei {H:Hp} {S:Addr→Prop} {Q:VK} {r:Option T} (h:endE K z H S md Q (.of r)):endT K H S md Q r:=by
 cases r with
 | some t=>exact h
 | none=>exact h
theorem ziN {g:T→T→Option T} {σ:St} {H:Hp} {Q:VK} (h:tr K z md (eOp g F1 F2) σ H Q):tOp (rT K md g) (tr K z .al F1) (tr K z .al F2) σ H Q:=by
 refine zcD h fun S ρ t v H' S' o _ g1 d q=>⟨S',ρ,o,?_⟩
 try dsimp only at q
 cases e2:F2 ρ with
 | exc c=>rw [e2] at q;exact q
 | bad=>rw [e2] at q;exact q
 | ok u =>
  rw [e2] at q
  intro v2 H2 S2 A2 g2
  obtain rfl:=g2.den.alA
  exact⟨S2,t,u,g2.g.dom,d.mono g2.g.same g2.g.up,g2.den,zei (z:=z) (endE.grow g2.g q)⟩
theorem zal {op:Operator} {g:T→T→Option T} (ho:OpR X (binaryOp op) (rT X.K md g)) (ha:JE X z md1 F1 a) (hb:JE X z md2 F2 b):JE X z md (eOp g F1 F2) (.BinOp a op b pos):=
 PE.imp (zr8 ho (JE.al ha) (JE.al hb)) fun _ _ _=>ziN
theorem zfb {op:CmpOp} {g:T→T→Option T} (ho:OpR X (compareOp op) (rT X.K md g)) (ha:JE X z md1 F1 a) (hb:JE X z md2 F2 b) (hm:behindInMarks op b=false):JE X z md (eOp g F1 F2) (.Compare a [op] [b] pos):=
 PE.imp (zoK ho (JE.al ha) (JE.al hb) hm) fun _ _ _=>ziN
theorem za0 {g:T→T→Option T} (ho:IxR X (rT X.K md g)) (ha:JE X z md1 F1 a) (hb:JE X z md2 F2 b) (hs:zfr b):JE X z md (eOp g F1 F2) (.Subscript a b pos):=
 PE.imp (zmz ho (JE.al ha) (JE.al hb) hs) fun _ _ _=>ziN
theorem zss {op:UnaryOp} {g:T→Option T} (ho:UnR X (unaryOp op) (r1T X.K md g)) (ha:JE X z md1 F1 a):JE X z md (eUn g F1) (.UnaryOp op a pos):=
 PE.imp (zqp ho (JE.al ha)) fun σ H Q h=>zcD h fun S ρ t v H' S' o _ g d q=>⟨S',t,g.dom,d,zei (z:=z) q⟩
noncomputable def asB:T→Option Bool
 | .sc (.bl b)=>some b
 | _=>none
noncomputable def eB (F:VEnv→Res T):VEnv→Res Bool:=fun ρ=>(F ρ).bind fun t=>.of (asB t)
theorem zdJ {t:T} {b:Bool} (h:asB t=some b):t=.sc (.bl b):=by
 unfold asB at h
 split at h
 ·cases h;rfl
 ·cases h
theorem zhJ {σ:St} {H:Hp} {Q:Bool→Hp→Prop} (h:trb K z (eB F) σ H Q):tr K z md F σ H (fun x H'=>∃ k,x=.bl k∧Q k H'):=by
 obtain⟨S,ρ,o,h⟩:=h
 refine ⟨S,ρ,o,?_⟩
 unfold eB at h
 try dsimp only at h
 cases e:F ρ with
 | exc c=>rw [e] at h;exact h
 | bad=>rw [e] at h;exact h
 | ok t =>
  rw [e,Res.bind_ok] at h
  intro v H' S' A g
  cases e2:asB t with
  | none=>rw [e2] at h;exact (show False from h).elim
  | some b =>
   rw [e2] at h
   obtain rfl:=zdJ e2
   obtain⟨rfl,rfl⟩:=zaf.mp g.den
   exact⟨_,rfl,h H' S' g.g⟩
theorem zaH {op:CmpOp} {g:T→T→Option T} (ho:OpR X (compareOp op) (rT X.K .al g)) (ha:JE X z md1 F1 a) (hb:JE X z md2 F2 b) (hm:behindInMarks op b=false):JT X z (eB (eOp g F1 F2)) (.Compare a [op] [b] pos):=
 PT.imp (zoC ho (JE.al ha) (JE.al hb) hm) fun σ H Q h=>ziN (md:=.al) (zhJ h)
theorem zeh {e:Expr} (h:JE X z md F e) (he:∀ whole,isTrue e X.env whole=(do let v ← whole;standAt e.pos;holding [v] (truthy v)):=by intro _;rfl):JT X z (eB F) e:=
 PT.imp (zqg h he) fun σ H Q q=>zhJ q
variable {B B1 B2:VEnv→Res Bool} {rest:List Expr}
theorem zh3 (h:JW X z B e):JT X z B e:=PW.pt h
theorem zgb {G:VEnv→Bool→Res Bool} {σ:St} {H:Hp} {Q:Bool→Hp→Prop} {Q1:Bool→Hp→Prop} (h:trb K z (fun ρ=>(B1 ρ).bind (G ρ)) σ H Q)
  (k:∀ b H' , trb K z (fun ρ=>G ρ b) σ H' Q→Q1 b H'):trb K z B1 σ H Q1:=by
 obtain⟨S,ρ,o,h⟩:=h
 refine ⟨S,ρ,o,?_⟩
 try dsimp only at h
 cases e:B1 ρ with
 | exc c=>rw [e] at h;exact h
 | bad=>rw [e] at h;exact h
 | ok t =>
  rw [e,Res.bind_ok] at h
  intro H' S' g
  refine k t H' ⟨S',ρ,o.grow g,?_⟩
  dsimp only
  cases e2:G ρ t with
  | exc c=>rw [e2] at h;exact h
  | bad=>rw [e2] at h;exact h
  | ok b=>rw [e2] at h;exact fun H2 S2 g2=>h H2 S2 (g.trans g2)
theorem zga {b:Bool} {σ:St} {H:Hp} {Q:Bool→Hp→Prop} (h:trb K z (fun _=>.ok b) σ H Q):Q b H:=by
 obtain⟨S,ρ,o,h⟩:=h
 exact h H S (.refl o.dom)
noncomputable def bAnd (B1 B2:VEnv→Res Bool):VEnv→Res Bool:=fun ρ=>(B1 ρ).bind fun b=>if b=true then B2 ρ else .ok false
noncomputable def bOr (B1 B2:VEnv→Res Bool):VEnv→Res Bool:=fun ρ=>(B1 ρ).bind fun b=>if b=true then .ok true else B2 ρ
noncomputable def bNot (B1:VEnv→Res Bool):VEnv→Res Bool:=fun ρ=>(B1 ρ).bind fun b=>.ok (!b)
theorem zpb (ha:JT X z B a):JW X z B (.BoolOp .And [a] pos):=zoA ha
theorem zfR (ha:JT X z B a):JW X z B (.BoolOp .Or [a] pos):=zqd ha
theorem zqQ (ha:JT X z B1 a) (hb:JW X z B2 (.BoolOp .And (b :: rest) pos)):JW X z (bAnd B1 B2) (.BoolOp .And (a :: b :: rest) pos):=
 PW.imp (zqe ha hb) fun σ H Q h=>zgb h fun b H' q=>by
  cases b with
  | true=>exact q
  | false=>rw [if_neg (by decide)];exact zga (z:=z) (K:=X.K) q
theorem zh2 (ha:JT X z B1 a) (hb:JW X z B2 (.BoolOp .Or (b :: rest) pos)):JW X z (bOr B1 B2) (.BoolOp .Or (a :: b :: rest) pos):=
 PW.imp (zr4 ha hb) fun σ H Q h=>zgb h fun b H' q=>by
  cases b with
  | false=>rw [if_neg (by decide)];exact q
  | true=>rw [if_pos rfl];exact zga (z:=z) (K:=X.K) q
theorem zdA (ha:JT X z B a):JT X z (bNot B) (.UnaryOp .Not a pos):=
 PT.imp (zqh ha) fun σ H Q h=>zgb h fun b H' q=>zga (z:=z) (K:=X.K) q
noncomputable def vAnd (F1 F2:VEnv→Res T):VEnv→Res T:=fun ρ=>(F1 ρ).bind fun t=>(Res.of (asB t)).bind fun b=>if b=true then F2 ρ else .ok (.sc (.bl false))
noncomputable def vNot (F1:VEnv→Res T):VEnv→Res T:=fun ρ=>(F1 ρ).bind fun t=>(Res.of (asB t)).bind fun b=>.ok (.sc (.bl !b))
theorem zlx {op} (h:JE X z md F a):JE X z md F (.BoolOp op [a] pos):=zqr h
theorem zlz (ha:JE X z md1 F1 a) (hb:JE X z md F2 (.BoolOp .And (b :: rest) pos)):JE X z md (vAnd F1 F2) (.BoolOp .And (a :: b :: rest) pos):=
 PE.imp (zqu (JE.al ha) hb) fun σ H Q h=>zcD h fun S ρ t v H' S' o _ g d q=>by
  try dsimp only at q
  cases e:asB t with
  | none=>rw [e] at q;exact (show False from q).elim
  | some b =>
   rw [e,Res.of_some,Res.bind_ok] at q
   obtain rfl:=zdJ e
   obtain⟨_,rfl⟩:=zaf.mp d
   refine ⟨b,rfl,?_⟩
   cases b with
   | true=>rw [if_pos rfl] at q ⊢;exact⟨S',ρ,o,q⟩
   | false=>rw [if_neg (by decide)] at q ⊢;exact q _ H' S' [] (Got.sc g.dom _)
theorem zqY (ha:JE X z md1 F1 a):JE X z md (vNot F1) (.UnaryOp .Not a pos):=
 PE.imp (zqs (JE.al ha)) fun σ H Q h=>zcD h fun S ρ t v H' S' o _ g d q=>by
  try dsimp only at q
  cases e:asB t with
  | none=>rw [e] at q;exact (show False from q).elim
  | some b =>
   rw [e,Res.of_some,Res.bind_ok] at q
   obtain rfl:=zdJ e
   obtain⟨_,rfl⟩:=zaf.mp d
   exact⟨b,rfl,q _ H' S' [] (Got.sc g.dom _)⟩
noncomputable def eVar (i:Nat):VEnv→Res T:=fun ρ=>match ρ[i]? with
 | some (some t)=>.ok t
 | _=>.bad
noncomputable def eC (v:V):VEnv→Res T:=fun _=>.ok (.sc v)
theorem zab {i:Nat} (h:PE X e (tVar i)):JE X z .al (eVar i) e:=PE.imp h fun σ H Q q=>by
 obtain⟨S,ρ,o,q⟩:=q
 unfold eVar at q
 split at q
 ·rename_i t e
  obtain⟨v,h1,h2⟩:=o.sl i t e
  exact⟨v,h1,q v H S [] ⟨.refl o.dom,List.nodup_nil,fun _ z=>(nomatch z),h2⟩⟩
 ·exact (show False from q).elim
theorem zdB {v:V} (h:PE X e (tC v)):JE X z md (eC v) e:=PE.imp h fun σ H Q q=>by
 obtain⟨S,ρ,o,q⟩:=q
 exact q v H S [] (Got.sc o.dom v)
theorem zac {i j}:JE X z md (eC (.int i)) (.Constant (.int i) j pos):=zdB zk6
theorem zfc {i j}:JE X z md (eC (.bl i)) (.Constant (.bool i) j pos):=zdB zr9
variable {Fs:VEnv→Res (List T)} {te:TE}
noncomputable def aNil:VEnv→Res (List T):=fun _=>.ok []
noncomputable def zae (F:VEnv→Res T) (Fs:VEnv→Res (List T)):VEnv→Res (List T):=fun ρ=>(F ρ).bind fun t=>(Fs ρ).bind fun ts=>.ok (t :: ts)
theorem zah:JA X z md aNil []:=PA.imp zc0 fun σ H Q q=>by
 obtain⟨S,ρ,o,q⟩:=q
 exact q [] H S [] (Gots.nil o.dom)
theorem zaa (ha:JE X z md F e) (hr:JA X z md Fs es) (hs:starEach (e :: es) X.env=(false,eval e X.env) :: starEach es X.env:=by rfl):JA X z md (zae F Fs) (e :: es):=
 PA.imp (zbk ha hr hs) fun σ H Q h=>by
  obtain⟨S,ρ,o,h⟩:=h
  refine ⟨S,ρ,o,?_⟩
  unfold zae at h
  try dsimp only at h
  cases e1:F ρ with
  | exc c=>rw [e1] at h;exact h
  | bad=>rw [e1] at h;exact h
  | ok t =>
   rw [e1,Res.bind_ok] at h
   intro v1 H1 S1 A1 g1
   refine ⟨S1,ρ,o.grow g1.g,?_⟩
   cases e2:Fs ρ with
   | exc c=>rw [e2] at h;exact h
   | bad=>rw [e2] at h;exact h
   | ok ts =>
    rw [e2] at h
    exact fun vs H2 S2 A2 g2=>h _ H2 S2 _ (Gots.cons g1 g2)
theorem JA.al (h:JA X z md Fs es):JA X z .al Fs es:=PA.imp h fun σ H Q q=>by
 obtain⟨S,ρ,o,q⟩:=q
 refine ⟨S,ρ,o,?_⟩
 cases e:Fs ρ with
 | ok t=>rw [e] at q;exact fun v H' S' A g=>q v H' _ [] g.al
 | exc c=>rw [e] at q;exact q
 | bad=>rw [e] at q;exact q
noncomputable def ze5 (ts:List T):Option T:=if ts.length≤sizeLine then some (.lst ts) else none
noncomputable def zgM (ts:List T):Option T:=if ts.length≤sizeLine then some (.tup ts) else none
noncomputable def eLst (Fs:VEnv→Res (List T)):VEnv→Res T:=fun ρ=>(Fs ρ).bind fun ts=>.of (ze5 ts)
noncomputable def eTup (Fs:VEnv→Res (List T)):VEnv→Res T:=fun ρ=>(Fs ρ).bind fun ts=>.of (zgM ts)
theorem zcf {G:List T→Res T} {σ:St} {H:Hp} {Q:VK} {Q1:List V→Hp→Prop} (h:tr K z md (fun ρ=>(Fs ρ).bind G) σ H Q)
  (k:∀ S ts vs H' S' A,Same z.H₀ H→Gots K H S H' S' A vs md1 ts→endE K z H S md Q (G ts)→Q1 vs H'):tra K z md1 Fs σ H Q1:=by
 obtain⟨S,ρ,o,h⟩:=h
 refine ⟨S,ρ,o,?_⟩
 try dsimp only at h
 cases e:Fs ρ with
 | ok t=>rw [e] at h;exact fun vs H' S' A g=>k S t vs H' S' A o.same g h
 | exc c=>rw [e] at h;exact h
 | bad=>rw [e] at h;exact h
theorem zdY {ts:List T} {t:T} (h:ze5 ts=some t):t=.lst ts∧ts.length≤sizeLine:=by
 unfold ze5 at h
 split at h
 ·cases h;exact⟨rfl,by assumption⟩
 ·cases h
theorem zfM {ts:List T} {t:T} (h:zgM ts=some t):t=.tup ts∧ts.length≤sizeLine:=by
 unfold zgM at h
 split at h
 ·cases h;exact⟨rfl,by assumption⟩
 ·cases h
theorem za6 (h:JA X z .fu Fs es):JE X z .fu (eLst Fs) (.List es pos):=PE.imp (znM h) fun σ H Q q=>zcf q fun S ts vs H' S' A _ g q=>by
 cases e:ze5 ts with
 | none=>rw [e] at q;exact (show False from q).elim
 | some t =>
  rw [e] at q
  obtain⟨rfl,hl⟩:=zdY e
  exact⟨by rw [g.den.length];exact hl,fun p hp=>q _ _ S' _ (Got.newFu g hp)⟩
theorem zly (h:JA X z md Fs es):JE X z .sp (eLst Fs) (.List es pos):=PE.imp (znM (JA.al h)) fun σ H Q q=>zcf q fun S ts vs H' S' A _ g q=>by
 obtain rfl:=g.den.alA
 cases e:ze5 ts with
 | none=>rw [e] at q;exact (show False from q).elim
 | some t =>
  rw [e] at q
  obtain⟨rfl,hl⟩:=zdY e
  exact⟨by rw [g.den.length];exact hl,fun p hp=>q _ _ S' _ ((Got.newSp g.g.dom hp g.den).trans g.g)⟩
theorem zqW {x1} (h:JA X z .fu Fs es):JE X z .fu (eTup Fs) (.Tuple es x1 pos):=PE.imp (znL h) fun σ H Q q=>zcf q fun S ts vs H' S' A _ g q=>by
 cases e:zgM ts with
 | none=>rw [e] at q;exact (show False from q).elim
 | some t =>
  rw [e] at q
  obtain⟨rfl,hl⟩:=zfM e
  exact⟨by rw [g.den.length];exact hl,fun p hp=>q _ _ S' _ (Got.newTup g hp)⟩
theorem zpg {x1} (h:JA X z md Fs es):JE X z .al (eTup Fs) (.Tuple es x1 pos):=PE.imp (znL (JA.al h)) fun σ H Q q=>zcf q fun S ts vs H' S' A _ g q=>by
 obtain rfl:=g.den.alA
 cases e:zgM ts with
 | none=>rw [e] at q;exact (show False from q).elim
 | some t =>
  rw [e] at q
  obtain⟨rfl,hl⟩:=zfM e
  exact⟨by rw [g.den.length];exact hl,fun p hp=>q _ _ S' _ (Got.newTupA g hp)⟩
noncomputable def endC (K:PySem.W.Frag) (cl:Nat→Addr) (H:Hp) (S:Addr→Prop) (md:Md) (Q:VK) (E:XK):Res T→Prop
 | .ok t=>∀ v H' S' A,Got K H S H' S' A v md t→Q v H'
 | .exc c=>∀ H',Same H H'→E (.ref (cl c)) none H'
 | .bad=>False
def spT (K:PySem.W.Frag) (cl:Nat→Addr) (n:Nat) (md:Md) (m:List T→Res T):Sp:=fun vs H Q E=>∃ S ts,ts.length=n∧Dom S H∧Dens K H S ts .al [] vs∧endC K cl H S md Q E (m ts)
noncomputable def zaN (n:Nat) (m:List T→Res T) (Fs:VEnv→Res (List T)):VEnv→Res T:=fun ρ=>(Fs ρ).bind fun ts=>if ts.length=n then m ts else .bad
theorem zpr {H:Hp} {S:Addr→Prop} {Q:VK} {r:Res T} (s:Same z.H₀ H) (h:endE K z H S md Q r):endC K z.cl H S md Q z.E r:=by
 cases r with
 | ok t=>exact h
 | exc c=>exact fun H2 s2=>h H2 (s.trans s2)
 | bad=>exact h
theorem zof {n:Nat} {m:List T→Res T} {σ:St} {H:Hp} {Q:VK} (h:tr K z md (zaN n m Fs) σ H Q):zp3 (spT K z.cl n md m) [] z.E (tra K z .al Fs) σ H Q:=zcf h fun S ts vs H' S' A s g q=>by
 obtain rfl:=g.den.alA
 by_cases hl:ts.length=n
 ·rw [if_pos hl] at q
  exact⟨S',ts,hl,g.g.dom,by rw [List.append_nil];exact g.den,zpr (s.trans g.g.same) (endE.grow g.g q)⟩
 ·rw [if_neg hl] at q;exact (show False from q).elim
theorem zar {k:Nat} {f:Addr} {fd:FuncData} {ps:List Str} {n:Nat} {m:List T→Res T} {CX:CXT} {x:Str} {p:Pos} (G:FnOk X.prog X.w X.K X.mg X.base CX k f fd ps (spT X.K z.cl n md m)) (hr:Room k X.A) (hg:Gl X x) (hm:X.mg x=some (.ref f)) (hk:PySem.W.keepIn X.K (.ref f)=true)
  (hb:zbc X.K fd ps []) (hx:zel CX X z.E) (ha:JA X z md1 Fs (e :: es)) (hdb:(x == ("__debug__" : Str))=false:=by decide) (he:starEach (e :: es) X.env=(false,eval e X.env) :: starEach es X.env:=by rfl) (hpl:(backTo pos (starEach es X.env)).any (·.1)=false:=by rfl) :
  JE X z md (zaN n m Fs) (.Call (.Name x p) (e :: es) [] pos):=
 PE.imp (zoL G hr hg hm hk hb .nil hx (JA.al ha) hdb he hpl) fun σ H Q=>zof
noncomputable def eB1 (g:List T→Option T) (Fs:VEnv→Res (List T)):VEnv→Res T:=fun ρ=>(Fs ρ).bind fun ts=>.of (g ts)
theorem zpZ {g:List T→Option T} {σ:St} {H:Hp} {Q:VK} (h:tr K z md (eB1 g Fs) σ H Q):tCB (rCT K md g) (tra K z .al Fs) σ H Q:=zcf h fun S ts vs H' S' A _ gg q=>by
 obtain rfl:=gg.den.alA
 exact⟨S',ts,gg.g.dom,gg.den,zei (z:=z) (endE.grow gg.g q)⟩
theorem zas {id:String} {x:Str} {p:Pos} {g:List T→Option T} (hc:zbF X (.builtin id) (rCT X.K md g)) (hg:Gl X x) (hm:X.mg x=none) (hv:bootBuiltins x=some (.builtin id)) (ha:JA X z md1 Fs (e :: es)) (hn:x ≠ "__name__" := by decide) (hdb:(x == ("__debug__" : Str))=false:=by decide)
  (he:starEach (e :: es) X.env=(false,eval e X.env) :: starEach es X.env:=by rfl) (hpl:(backTo pos (starEach es X.env)).any (·.1)=false:=by rfl):JE X z md (eB1 g Fs) (.Call (.Name x p) (e :: es) [] pos):=
 PE.imp (ziX hc hg hm hv (JA.al ha) hn hdb he hpl) fun σ H Q=>zpZ
theorem zbQ {id:String} {x:Str} {p:Pos} {g:List T→Option T} (hc:zbF X (.type id) (rCT X.K md g)) (hg:Gl X x) (hm:X.mg x=none) (hv:bootBuiltins x=some (.type id)) (ha:JA X z md1 Fs (e :: es)) (hn:x ≠ "__name__" := by decide) (hdb:(x == ("__debug__" : Str))=false:=by decide)
  (he:starEach (e :: es) X.env=(false,eval e X.env) :: starEach es X.env:=by rfl) (hpl:(backTo pos (starEach es X.env)).any (·.1)=false:=by rfl):JE X z md (eB1 g Fs) (.Call (.Name x p) (e :: es) [] pos):=
 PE.imp (zk8 hc hg hm hv (JA.al ha) hn hdb he hpl) fun σ H Q=>zpZ
end
end TL
namespace TL
open PySem PySem.Spec L2
inductive SRes where
 | nx (ρ:SEnv)
 | rt (md:Md) (t:T)
 | exc (c:Nat)
 | bad
structure Ok (K:PySem.W.Frag) (z:Z) (S:Addr→Prop) (As:Nat→List Addr) (ρ:SEnv) (σ:St) (H:Hp):Prop where
 same:Same z.H₀ H
 dom:Dom S H
 ln:ρ.length=σ.length
 s0:∀ a,z.S₀ a→S a
 s1:∀ a,S a→z.S₀ a∨z.H₀ a=none
 nd:∀ i,(As i).Nodup
 ow:∀ i,∀ a∈As i,¬ S a∧z.H₀ a=none∧H a≠none
 dj:∀ i j,i≠j→∀ a∈As i,a∉As j
 sl:∀ (i:Nat) m t,ρ[i]? = some (some (m,t))→∃ v,σ[i]? = some (some v)∧Den K H S t m (As i) v
structure Step (K:PySem.W.Frag) (S:Addr→Prop) (H:Hp) (S':Addr→Prop) (H':Hp):Prop where
 up:∀ a,S a→S' a
 frm:Frm K H H' S
theorem Step.refl {K:PySem.W.Frag} {S:Addr→Prop} {H:Hp}:Step K S H S H:=⟨fun _ h=>h,⟨fun _ _ _ h=>h,fun _ _ h=>h,fun _ _ h=>h⟩⟩
theorem Step.trans {K:PySem.W.Frag} {S S1 S2:Addr→Prop} {H H1 H2:Hp} (a:Step K S H S1 H1) (b:Step K S1 H1 S2 H2):Step K S H S2 H2:=
 ⟨fun c h=>b.up c (a.up c h),⟨fun c xs h e=>b.frm.nodes c xs (a.up c h) (a.frm.nodes c xs h e),fun c xs h=>b.frm.tups c xs (a.frm.tups c xs h),fun c xs h=>b.frm.scrs c xs (a.frm.scrs c xs h)⟩⟩
theorem Grow.step {K:PySem.W.Frag} {S S':Addr→Prop} {H H':Hp} (g:Grow H S H' S'):Step K S H S' H':=
 ⟨g.up,⟨fun c xs _ e=>g.same _ _ e,fun c xs h=>zet g.same h,fun c xs h=>h.same g.same⟩⟩
theorem Step.dens {K:PySem.W.Frag} {S S':Addr→Prop} {H H':Hp} {t:List T} {v:List V} (s:Step K S H S' H') (d:Dens K H S t .al [] v):Dens K H' S' t .al [] v:=Dens.frm s.frm (fun _ h=>h) s.up (fun _ z=>nomatch z) d
noncomputable def endS (K:PySem.W.Frag) (z:Z) (S:Addr→Prop) (H:Hp) (D:Ends):SRes→Prop
 | .nx ρ'=>∀ S' As' σ' H',Ok K z S' As' ρ' σ' H'→Step K S H S' H'→D.nx σ' H'
 | .rt md t=>∀ v H' S' A,Got K z.H₀ z.S₀ H' S' A v md t→D.rt v H'
 | .exc c=>∀ H',Same z.H₀ H'→z.E (.ref (z.cl c)) none H'
 | .bad=>False
def st (K:PySem.W.Frag) (z:Z) (R:SEnv→SRes):TS:=fun D σ H=>∃ S As ρ,Ok K z S As ρ σ H∧endS K z S H D (R ρ)
abbrev JS (X:Cx) (z:Z) (R:SEnv→SRes) (s:Stmt):Prop:=PS X s (st X.K z R)
abbrev JSs (X:Cx) (z:Z) (R:SEnv→SRes) (s:List Stmt):Prop:=PSs X s (st X.K z R)
theorem PS.imp {X:Cx} {e:Stmt} {t t':TS} (h:PS X e t) (k:∀ D σ H,t' D σ H→t D σ H):PS X e t':=fun pins s σ H Q I q=>h pins s σ H Q I (k Q σ H q)
theorem PSs.imp {X:Cx} {e:List Stmt} {t t':TS} (h:PSs X e t) (k:∀ D σ H,t' D σ H→t D σ H):PSs X e t':=fun pins s σ H Q I q=>h pins s σ H Q I (k Q σ H q)
theorem endS.step {K:PySem.W.Frag} {z:Z} {S S1:Addr→Prop} {H H1:Hp} {D:Ends} {r:SRes} (s:Step K S H S1 H1) (h:endS K z S H D r):endS K z S1 H1 D r:=by
 cases r with
 | nx ρ'=>exact fun S' As' σ' H' o q=>h S' As' σ' H' o (s.trans q)
 | rt md t=>exact h
 | exc c=>exact h
 | bad=>exact h
noncomputable def SRes.then (r:SRes) (f:SEnv→SRes):SRes:=match r with
 | .nx ρ=>f ρ
 | .rt md t=>.rt md t
 | .exc c=>.exc c
 | .bad=>.bad
@[simp] theorem SRes.then_nx (ρ:SEnv) (f:SEnv→SRes):(SRes.nx ρ).then f=f ρ:=(rfl)
@[simp] theorem SRes.then_rt (md:Md) (t:T) (f:SEnv→SRes):(SRes.rt md t).then f=.rt md t:=(rfl)
@[simp] theorem SRes.then_exc (c:Nat) (f:SEnv→SRes):(SRes.exc c).then f=.exc c:=(rfl)
noncomputable def Res.sthen {α:Type} (r:Res α) (f:α→SRes):SRes:=match r with
 | .ok t=>f t
 | .exc c=>.exc c
 | .bad=>.bad
@[simp] theorem Res.sthen_ok {α:Type} (t:α) (f:α→SRes):(Res.ok t).sthen f=f t:=(rfl)
@[simp] theorem Res.sthen_exc {α:Type} (c:Nat) (f:α→SRes):(Res.exc c:Res α).sthen f=.exc c:=(rfl)
noncomputable def view:List Bool→SEnv→VEnv
 | b :: bs,s :: ρ=>(if b=true then s.map (·.2) else none) :: view bs ρ
 | _,_=>[]
noncomputable def zaz:List Bool→SEnv→SEnv
 | b :: bs,s :: ρ=>(if b=true then s.map (fun p=>(.al,p.2)) else s) :: zaz bs ρ
 | _,ρ=>ρ
theorem ziL:∀ {M:List Bool} {ρ:SEnv} {i:Nat} {t:T},(view M ρ)[i]? = some (some t)→M[i]? = some true∧∃ m,ρ[i]? = some (some (m,t))
 | [],ρ,i,t,h=>by unfold view at h;simp at h
 | b :: bs,[],i,t,h=>by unfold view at h;simp at h
 | b :: bs,s :: ρ,0,t,h=>by
  unfold view at h
  simp at h
  obtain⟨rfl,m,rfl⟩:=h
  exact⟨rfl,m,rfl⟩
 | b :: bs,s :: ρ,i + 1,t,h=>by
  unfold view at h
  have:=ziL (M:=bs) (ρ:=ρ) (i:=i) (t:=t) (by simpa using h)
  simpa using this
theorem zfV:∀ {M:List Bool} {ρ:SEnv} {i:Nat} {m:Md} {t:T},(zaz M ρ)[i]? = some (some (m,t))→(M[i]? = some true∧m=.al∧∃ m',ρ[i]? = some (some (m',t)))∨(M[i]?≠some true∧ρ[i]? = some (some (m,t)))
 | [],ρ,i,m,t,h=>by unfold zaz at h;exact .inr ⟨by simp,h⟩
 | b :: bs,[],i,m,t,h=>by unfold zaz at h;simp at h
 | b :: bs,s :: ρ,0,m,t,h=>by
  unfold zaz at h
  cases b with
  | true =>
   simp at h
   obtain⟨⟨m',rfl⟩,rfl⟩:=h
   exact .inl ⟨rfl,rfl,m',rfl⟩
  | false =>
   simp at h
   subst h
   exact .inr ⟨by simp,rfl⟩
 | b :: bs,s :: ρ,i + 1,m,t,h=>by
  unfold zaz at h
  have:=zfV (M:=bs) (ρ:=ρ) (i:=i) (m:=m) (t:=t) (by simpa using h)
  simpa using this
theorem zcs:∀ (M:List Bool) (ρ:SEnv),(zaz M ρ).length=ρ.length
 | [],ρ=>by unfold zaz;rfl
 | b :: bs,[]=>by unfold zaz;rfl
 | b :: bs,s :: ρ=>by unfold zaz;rw [List.length_cons,List.length_cons,zcs]
section
variable {K:PySem.W.Frag} {z:Z} {S S':Addr→Prop} {As:Nat→List Addr} {ρ:SEnv} {σ:St} {H H':Hp} {M:List Bool} {A:List Addr} {v:V} {md:Md} {t:T}
noncomputable def SB (S:Addr→Prop) (As:Nat→List Addr) (M:List Bool):Addr→Prop:=fun a=>S a∨∃ i,M[i]? = some true∧a∈As i
theorem Ok.view (o:Ok K z S As ρ σ H) (M:List Bool):OkE K z (SB S As M) (view M ρ) σ H:=by
 refine ⟨o.same,fun a h=>?_,fun i t e=>?_⟩
 ·rcases h with h | ⟨i,_,h⟩
  ·exact o.dom a h
  ·exact (o.ow i a h).2.2
 ·obtain⟨hm,m,e⟩:=ziL e
  obtain⟨v,h1,h2⟩:=o.sl i m t e
  exact⟨v,h1,h2.out (fun a h=>.inl h) fun a h=>.inr ⟨i,hm,h⟩⟩
theorem Ok.sb1 (o:Ok K z S As ρ σ H) {a:Addr} (h:SB S As M a):z.S₀ a∨z.H₀ a=none:=by
 rcases h with h | ⟨i,_,h⟩
 ·exact o.s1 a h
 ·exact .inr (o.ow i a h).2.1
theorem Ok.got (o:Ok K z S As ρ σ H) (g:Got K H (SB S As M) H' S' A v md t):Got K z.H₀ z.S₀ H' S' A v md t:=
 ⟨⟨o.same.trans g.g.same,fun a h=>g.g.up a (.inl (o.s0 a h)),fun a h=>(g.g.new a h).elim (fun q=>o.sb1 q) fun q=>.inr (za5 o.same q),g.g.dom⟩,g.nd,fun a h=>⟨za5 o.same (g.ow a h).1,(g.ow a h).2⟩,g.den⟩
theorem Ok.putFu (o:Ok K z S As ρ σ H) (g:Got K H (SB S As M) H' S' A v .fu t) (i:Nat) (hi:i < ρ.length):Ok K z S (fun j=>if j=i then A else As j) (ρ.set i (some (.fu,t))) (σ.set i (some v)) H':=by
 have dj:∀ j,∀ a∈As j,a∉A:=fun j a h q=>(o.ow j a h).2.2 (g.ow a q).1
 refine ⟨o.same.trans g.g.same,fun a h=>zbs g.g.same (o.dom a h),by simp [o.ln],o.s0,o.s1,fun j=>?_,fun j a h=>?_,fun j k hjk a h=>?_,fun j m u e=>?_⟩
 ·by_cases hj:j=i
  ·rw [if_pos hj];exact g.nd
  ·rw [if_neg hj];exact o.nd j
 ·by_cases hj:j=i
  ·rw [if_pos hj] at h
   refine ⟨fun q=>(g.ow a h).2 (g.g.up a (.inl q)),za5 o.same (g.ow a h).1,fun q=>?_⟩
   obtain⟨ws,e⟩:=g.den.own a h
   rw [q] at e;cases e
  ·rw [if_neg hj] at h
   obtain⟨h1,h2,h3⟩:=o.ow j a h
   exact⟨h1,h2,zbs g.g.same h3⟩
 ·by_cases hj:j=i
  ·rw [if_pos hj] at h
   rw [if_neg (fun z=>hjk (hj.trans z.symm))]
   exact fun q=>dj k a q h
  ·rw [if_neg hj] at h
   by_cases hk:k=i
   ·rw [if_pos hk];exact dj j a h
   ·rw [if_neg hk];exact o.dj j k hjk a h
 ·by_cases hj:j=i
  ·subst hj
   rw [List.getElem?_set_self hi] at e
   cases e
   refine ⟨v,by rw [List.getElem?_set_self (by rw [← o.ln];exact hi)],?_⟩
   rw [if_pos rfl]
   exact g.den.fuS
  ·rw [List.getElem?_set_ne (Ne.symm hj)] at e
   obtain⟨w,h1,h2⟩:=o.sl j m u e
   refine ⟨w,by rw [List.getElem?_set_ne (Ne.symm hj)];exact h1,?_⟩
   rw [if_neg hj]
   exact h2.mono g.g.same fun _ h=>h
noncomputable def dAs (As:Nat→List Addr) (M:List Bool):Nat→List Addr:=fun j=>if M[j]? = some true then [] else As j
theorem Ok.share (o:Ok K z S As ρ σ H) (g:Grow H (SB S As M) H' S'):Ok K z S' (dAs As M) (zaz M ρ) σ H':=by
 refine ⟨o.same.trans g.same,g.dom,by rw [zcs];exact o.ln,fun a h=>g.up a (.inl (o.s0 a h)),fun a h=>(g.new a h).elim (fun q=>o.sb1 q) fun q=>.inr (za5 o.same q),fun j=>?_,fun j a h=>?_,fun j k hjk a h=>?_,fun j m u e=>?_⟩
 ·unfold dAs;split
  ·exact List.nodup_nil
  ·exact o.nd j
 ·unfold dAs at h;split at h
  ·cases h
  ·rename_i hj
   obtain⟨h1,h2,h3⟩:=o.ow j a h
   refine ⟨fun q=>?_,h2,zbs g.same h3⟩
   rcases g.new a q with (q | ⟨i,hi,q⟩) | q
   ·exact h1 q
   ·exact o.dj j i (fun z=>hj (z ▸ hi)) a h q
   ·exact h3 q
 ·unfold dAs at h ⊢
  split at h
  ·cases h
  ·split
   ·exact fun z=>nomatch z
   ·exact o.dj j k hjk a h
 ·rcases zfV e with ⟨hm,rfl,m',e⟩ | ⟨hm,e⟩
  ·obtain⟨w,h1,h2⟩:=o.sl j m' u e
   refine ⟨w,h1,?_⟩
   unfold dAs
   rw [if_pos hm]
   exact (h2.mono g.same fun _ h=>h).out (fun a h=>g.up a (.inl h)) fun a h=>g.up a (.inr ⟨j,hm,h⟩)
  ·obtain⟨w,h1,h2⟩:=o.sl j m u e
   refine ⟨w,h1,?_⟩
   unfold dAs
   rw [if_neg hm]
   exact h2.mono g.same fun a h=>g.up a (.inl h)
theorem Ok.put (o:Ok K z S As ρ σ H) (g:Got K H S H' S' A v md t) (i:Nat) (hi:i < ρ.length):Ok K z S' (fun j=>if j=i then A else As j) (ρ.set i (some (md,t))) (σ.set i (some v)) H':=by
 have dj:∀ j,∀ a∈As j,a∉A:=fun j a h q=>(o.ow j a h).2.2 (g.ow a q).1
 refine ⟨o.same.trans g.g.same,g.g.dom,by simp [o.ln],fun a h=>g.g.up a (o.s0 a h),fun a h=>(g.g.new a h).elim (o.s1 a) fun q=>.inr (za5 o.same q),fun j=>?_,fun j a h=>?_,fun j k hjk a h=>?_,fun j m u e=>?_⟩
 ·by_cases hj:j=i
  ·rw [if_pos hj];exact g.nd
  ·rw [if_neg hj];exact o.nd j
 ·by_cases hj:j=i
  ·rw [if_pos hj] at h
   refine ⟨(g.ow a h).2,za5 o.same (g.ow a h).1,fun q=>?_⟩
   obtain⟨ws,e⟩:=g.den.own a h
   rw [q] at e;cases e
  ·rw [if_neg hj] at h
   obtain⟨h1,h2,h3⟩:=o.ow j a h
   exact⟨fun q=>(g.g.new a q).elim h1 h3,h2,zbs g.g.same h3⟩
 ·by_cases hj:j=i
  ·rw [if_pos hj] at h
   rw [if_neg (fun z=>hjk (hj.trans z.symm))]
   exact fun q=>dj k a q h
  ·rw [if_neg hj] at h
   by_cases hk:k=i
   ·rw [if_pos hk];exact dj j a h
   ·rw [if_neg hk];exact o.dj j k hjk a h
 ·by_cases hj:j=i
  ·subst hj
   rw [List.getElem?_set_self hi] at e
   cases e
   refine ⟨v,by rw [List.getElem?_set_self (by rw [← o.ln];exact hi)],?_⟩
   rw [if_pos rfl]
   exact g.den
  ·rw [List.getElem?_set_ne (Ne.symm hj)] at e
   obtain⟨w,h1,h2⟩:=o.sl j m u e
   refine ⟨w,by rw [List.getElem?_set_ne (Ne.symm hj)];exact h1,?_⟩
   rw [if_neg hj]
   exact h2.mono g.g.same g.g.up
theorem Ok.putSp (o:Ok K z S As ρ σ H) (g:Got K H (SB S As M) H' S' A v md t) (i:Nat) (hi:i < ρ.length):Ok K z S' (fun j=>if j=i then A else dAs As M j) ((zaz M ρ).set i (some (md,t))) (σ.set i (some v)) H':=by
 have o2:=o.share g.g
 have dj:∀ j,∀ a∈dAs As M j,a∉A:=fun j a h q=>by
  unfold dAs at h;split at h
  ·cases h
  ·exact (o.ow j a h).2.2 (g.ow a q).1
 refine ⟨o2.same,o2.dom,by simp [o2.ln],o2.s0,o2.s1,fun j=>?_,fun j a h=>?_,fun j k hjk a h=>?_,fun j m u e=>?_⟩
 ·by_cases hj:j=i
  ·rw [if_pos hj];exact g.nd
  ·rw [if_neg hj];exact o2.nd j
 ·by_cases hj:j=i
  ·rw [if_pos hj] at h
   refine ⟨(g.ow a h).2,za5 o.same (g.ow a h).1,fun q=>?_⟩
   obtain⟨ws,e⟩:=g.den.own a h
   rw [q] at e;cases e
  ·rw [if_neg hj] at h;exact o2.ow j a h
 ·by_cases hj:j=i
  ·rw [if_pos hj] at h
   rw [if_neg (fun z=>hjk (hj.trans z.symm))]
   exact fun q=>dj k a q h
  ·rw [if_neg hj] at h
   by_cases hk:k=i
   ·rw [if_pos hk];exact dj j a h
   ·rw [if_neg hk];exact o2.dj j k hjk a h
 ·by_cases hj:j=i
  ·subst hj
   rw [List.getElem?_set_self (by rw [zcs];exact hi)] at e
   cases e
   refine ⟨v,by rw [List.getElem?_set_self (by rw [← o.ln];exact hi)],?_⟩
   rw [if_pos rfl]
   exact g.den
  ·rw [List.getElem?_set_ne (Ne.symm hj)] at e
   obtain⟨w,h1,h2⟩:=o2.sl j m u e
   refine ⟨w,by rw [List.getElem?_set_ne (Ne.symm hj)];exact h1,?_⟩
   rw [if_neg hj]
   exact h2
theorem zeJ (g:Grow H (SB S As M) H' S'):Step K S H S' H':=⟨fun a h=>g.up a (.inl h),⟨fun c xs _ e=>g.same _ _ e,fun c xs h=>zet g.same h,fun c xs h=>h.same g.same⟩⟩
theorem zaZ (e:Same H H'):Step K S H S H':=⟨fun a h=>h,⟨fun c xs _ q=>e _ _ q,fun c xs h=>zet e h,fun c xs h=>h.same e⟩⟩
end
section
variable {X:Cx} {z:Z} {md md1 md2:Md} {F F1 F2:VEnv→Res T} {B:VEnv→Res Bool} {e a b:Expr} {pos:Pos} {R R1 R2:SEnv→SRes} {s:Stmt} {ss ss2:List Stmt} {K:PySem.W.Frag}
noncomputable def sNil:SEnv→SRes:=.nx
noncomputable def sSeq (R1 R2:SEnv→SRes):SEnv→SRes:=fun ρ=>(R1 ρ).then R2
theorem zaF:JSs X z sNil []:=PSs.imp zoD fun D σ H h=>by
 obtain⟨S,As,ρ,o,h⟩:=h
 exact h S As σ H o .refl
theorem endS.seq {S:Addr→Prop} {H:Hp} {D:Ends} {r:SRes} (h:endS K z S H D (r.then R2)):endS K z S H { D with nx:=st K z R2 D } r:=by
 cases r with
 | nx ρ'=>exact fun S' As' σ' H' o q=>⟨S',As',ρ',o,h.step q⟩
 | rt md t=>exact h
 | exc c=>exact h
 | bad=>exact h
theorem zag (h1:JS X z R1 s) (h2:JSs X z R2 ss):JSs X z (sSeq R1 R2) (s :: ss):=PSs.imp (zmv h1 h2) fun D σ H h=>by
 obtain⟨S,As,ρ,o,h⟩:=h
 exact⟨S,As,ρ,o,endS.seq h⟩
theorem zaj (h1:JS X z R1 s):JSs X z R1 [s]:=zkY h1
theorem zeK {M:List Bool} {G:T→SEnv→SRes} {D:Ends} {σ:St} {H:Hp} {Q:VK} (h:st K z (fun ρ=>(F (view M ρ)).sthen fun t=>G t ρ) D σ H)
  (k:∀ S As ρ t v H' S' A,Ok K z S As ρ σ H→Got K H (SB S As M) H' S' A v md t→endS K z S H D (G t ρ)→Q v H'):tr K z md F σ H Q:=by
 obtain⟨S,As,ρ,o,h⟩:=h
 refine ⟨_,_,o.view M,?_⟩
 try dsimp only at h
 cases e:F (view M ρ) with
 | ok t=>rw [e] at h;exact fun v H' S' A g=>k S As ρ t v H' S' A o g h
 | exc c=>rw [e] at h;exact h
 | bad=>rw [e] at h;exact h
noncomputable def sRet (md:Md) (M:List Bool) (F:VEnv→Res T):SEnv→SRes:=fun ρ=>(F (view M ρ)).sthen fun t=>.rt md t
theorem zaD (M:List Bool) (he:JE X z md F e):JS X z (sRet md M F) (.Return (some e) pos):=PS.imp (znG he) fun D σ H h =>
 zeK h fun S As ρ t v H' S' A o g q=>q v H' S' A (o.got g)
noncomputable def zdV (i:Nat):SEnv→SRes:=fun ρ=>match ρ[i]? with
 | some (some (m,t))=>.rt m t
 | _=>.bad
theorem zcp {i:Nat} (he:PE X e (tVar i)):JS X z (zdV i) (.Return (some e) pos):=PS.imp (znG he) fun D σ H h=>by
 obtain⟨S,As,ρ,o,h⟩:=h
 unfold zdV at h
 split at h
 ·rename_i m t e
  obtain⟨v,h1,h2⟩:=o.sl i m t e
  exact⟨v,h1,h v H S (As i) ⟨⟨o.same,o.s0,o.s1,o.dom⟩,o.nd i,fun a q=>⟨(o.ow i a q).2.1,(o.ow i a q).1⟩,h2⟩⟩
 ·exact (show False from h).elim
noncomputable def sSet (i:Nat) (M:List Bool) (F:VEnv→Res T):SEnv→SRes:=fun ρ=>(F (view M ρ)).sthen fun t=>if i < ρ.length then .nx (ρ.set i (some (.fu,t))) else .bad
noncomputable def zkS (md:Md) (i:Nat) (M:List Bool) (F:VEnv→Res T):SEnv→SRes:=fun ρ=>(F (view M ρ)).sthen fun t=>if i < ρ.length then .nx ((zaz M ρ).set i (some (md,t))) else .bad
theorem zn3 {i:Nat} {M:List Bool} {te:TE} (ht:∀ σ H Q,tr K z .fu F σ H Q→te σ H Q) (D:Ends) (σ:St) (H:Hp) (h:st K z (sSet i M F) D σ H):tAsg te (zfi i) D σ H:=
 ht _ _ _ (zeK h fun S As ρ t v H' S' A o g q=>by
  by_cases hi:i < ρ.length
  ·rw [if_pos hi] at q
   exact q S _ _ H' (o.putFu g i hi) (zaZ g.g.same)
  ·rw [if_neg hi] at q;exact (show False from q).elim)
theorem zpx {i:Nat} {M:List Bool} {te:TE} (ht:∀ σ H Q,tr K z md F σ H Q→te σ H Q) (D:Ends) (σ:St) (H:Hp) (h:st K z (zkS md i M F) D σ H):tAsg te (zfi i) D σ H:=
 ht _ _ _ (zeK h fun S As ρ t v H' S' A o g q=>by
  by_cases hi:i < ρ.length
  ·rw [if_pos hi] at q
   exact q S' _ _ H' (o.putSp g i hi) (zeJ g.g)
  ·rw [if_neg hi] at q;exact (show False from q).elim)
theorem zav {i:Nat} {x:Str} {pos':Pos} (M:List Bool) (hN:X.N.Nodup) (hi:X.N[i]? = some x) (hx:Loc X.env.scope x) (he:JE X z .fu F e) (hs:swapsWith e (some (.Name x pos')) pos.line X.env=pure false:=by rfl)
  (hf:X.fn x=true∨X.env.scope.names.lookup x=some .local:=by first | exact .inl rfl | exact .inr rfl | assumption):JS X z (sSet i M F) (.Assign [.Name x pos'] e pos):=PS.imp (znF hN hi hx he hs hf) fun D σ H h=>zn3 (fun _ _ _ q=>q) D σ H h
theorem zlt {i:Nat} {x:Str} {pos':Pos} (M:List Bool) (hN:X.N.Nodup) (hi:X.N[i]? = some x) (hx:Loc X.env.scope x) (he:JE X z md F e) (hs:swapsWith e (some (.Name x pos')) pos.line X.env=pure false:=by rfl)
  (hf:X.fn x=true∨X.env.scope.names.lookup x=some .local:=by first | exact .inl rfl | exact .inr rfl | assumption):JS X z (zkS md i M F) (.Assign [.Name x pos'] e pos):=PS.imp (znF hN hi hx he hs hf) fun D σ H h=>zpx (fun _ _ _ q=>q) D σ H h
noncomputable def sIf (M:List Bool) (B:VEnv→Res Bool) (R1 R2:SEnv→SRes):SEnv→SRes:=fun ρ=>(B (view M ρ)).sthen fun b=>if b=true then R1 ρ else R2 ρ
theorem Ok.grow {S S':Addr→Prop} {As:Nat→List Addr} {ρ:SEnv} {σ:St} {H H':Hp} {M:List Bool} (o:Ok K z S As ρ σ H) (g:Grow H (SB S As M) H' S'):Ok K z S As ρ σ H':=
 ⟨o.same.trans g.same,fun a h=>zbs g.same (o.dom a h),o.ln,o.s0,o.s1,o.nd,fun i a h=>let ⟨h1,h2,h3⟩:=o.ow i a h;⟨h1,h2,zbs g.same h3⟩,o.dj,fun i m t e=>let ⟨v,h1,h2⟩:=o.sl i m t e;⟨v,h1,h2.mono g.same fun _ h=>h⟩⟩
theorem zbb (M:List Bool) (hc:JT X z B e) (h1:JSs X z R1 ss) (h2:JSs X z R2 ss2):JS X z (sIf M B R1 R2) (.If e ss ss2 pos):=PS.imp (zr7 hc h1 h2) fun D σ H h=>by
 obtain⟨S,As,ρ,o,h⟩:=h
 refine ⟨_,_,o.view M,?_⟩
 unfold sIf at h
 try dsimp only at h
 cases e:B (view M ρ) with
 | exc c=>rw [e] at h;exact h
 | bad=>rw [e] at h;exact h
 | ok b =>
  rw [e,Res.sthen_ok] at h
  intro H' S' g
  have o':=o.grow g
  cases b with
  | true=>rw [if_pos rfl] at h ⊢;exact⟨S,As,ρ,o',h.step (zaZ g.same)⟩
  | false=>rw [if_neg (by decide)] at h ⊢;exact⟨S,As,ρ,o',h.step (zaZ g.same)⟩
noncomputable def zmm (M:List Bool) (F:VEnv→Res T):SEnv→SRes:=fun ρ=>(F (view M ρ)).sthen fun _=>.nx ρ
theorem zlu (M:List Bool) (he:JE X z md F e) (hs:swapsWith e none pos.line X.env=pure false:=by rfl):JS X z (zmm M F) (.Expr e pos):=PS.imp (zdX he hs) fun D σ H h =>
 zeK h fun S As ρ t v H' S' A o g q=>q S As σ H' (o.grow g.g) (zaZ g.g.same)
noncomputable def zaB (N:List Str) (ts:List T):SEnv:=ts.map (fun t=>some (.al,t)) ++ List.replicate (N.length - ts.length) none
noncomputable def fin (md:Md):SRes→Res T
 | .nx _=>.ok (.sc .non)
 | .rt m t=>if m=md∨md=.al∨isSc t=true then .ok t else .bad
 | .exc c=>.exc c
 | .bad=>.bad
theorem zkH {K:PySem.W.Frag} {H:Hp} {S:Addr→Prop} {N:List Str} {ts:List T} {vs:List V} (h:Dens K H S ts .al [] vs) {i:Nat} {m:Md} {t:T} (e:(zaB N ts)[i]? = some (some (m,t))):∃ v,(L2.start N vs)[i]? = some (some v)∧Den K H S t m [] v:=by
 unfold zaB at e
 unfold L2.start
 have hl:=h.length
 by_cases hi:i < ts.length
 ·rw [List.getElem?_append_left (by rw [List.length_map];exact hi),List.getElem?_map] at e
  obtain⟨u,hu⟩:∃ u,ts[i]? = some u:=⟨ts[i],List.getElem?_eq_getElem hi⟩
  rw [hu] at e
  cases e
  obtain⟨v,h1,h2⟩:=h.get hu
  exact⟨v,by rw [List.getElem?_append_left (by rw [List.length_map,hl];exact hi),List.getElem?_map,h1];rfl,h2⟩
 ·rw [List.getElem?_append_right (by rw [List.length_map];lia),List.getElem?_replicate] at e
  split at e <;> cases e
theorem Got.weak {K:PySem.W.Frag} {H H':Hp} {S S':Addr→Prop} {A:List Addr} {v:V} {m:Md} {t:T} (g:Got K H S H' S' A v m t) (h:m=md∨md=.al∨isSc t=true):∃ S' A,Got K H S H' S' A v md t:=by
 rcases h with rfl | rfl | h
 ·exact⟨_,_,g⟩
 ·exact⟨_,_,g.al⟩
 ·cases t with
  | sc w=>exact⟨S',A,g.g,g.nd,g.ow,zaf.mpr (zaf.mp g.den)⟩
  | scr ns=>cases h
  | lst ts=>cases h
  | tup ts=>cases h
theorem zaQ {P:Program} {w:World} {K:PySem.W.Frag} {mg:Str→Option Value} {base:Heap} {cl:Nat→Addr} {x qual:Str} {st₀:Stmt} {f:Addr} {fd:FuncData} {N ps:List Str} {k n:Nat} {md:Md} {R:SEnv→SRes} (F:Fun K x qual st₀ f fd) (S:FnScope N ps (defScope st₀)) (hn:ps.length=n)
  (hbody:∀ (cdv:Value) (A:Around) (outer:List Env) (s:Shared) (H:Hp) (E:XK) (S₀:Addr→Prop),Dom S₀ H→Room k (A.deeper (PyProof.Rows.envOfC qual (defScope st₀) s.heap.objs.size f cdv)) →
   JSs (cxOf (CXe P w) P w K mg base N qual (defScope st₀) f cdv A outer s H E) ⟨H,S₀,cl,E⟩ R (defBody st₀)):FnOk P w K mg base (CXe P w) (k + 1) f fd ps (spT K cl n md fun ts=>fin md (R (zaB N ts))):=by
 refine Fun.okE F S (fun vs H Q E h=>?_) fun cdv A outer s H vs Q E hr h=>?_
 ·obtain⟨S,ts,h1,_,h2,_⟩:=h
  rw [h2.length,h1,hn]
 ·obtain⟨S₀,ts,h1,hd,h2,h3⟩:=h
  refine ⟨_,hbody cdv A outer s H E S₀ hd hr,S₀,fun _=>[],zaB N ts,?_,?_⟩
  ·refine ⟨Same.refl _,hd,?_,fun _ h=>h,fun _ h=>.inl h,fun _=>List.nodup_nil,fun _ _ z=>(nomatch z),fun _ _ _ _ z=>(nomatch z),fun i m t e=>zkH h2 e⟩
   unfold zaB L2.start
   rw [List.length_append,List.length_append,List.length_map,List.length_map,List.length_replicate,List.length_replicate,h2.length]
  ·replace h3:endC K cl H S₀ md Q E (fin md (R (zaB N ts))):=h3
   cases e:R (zaB N ts) with
   | nx ρ' =>
    rw [e] at h3
    intro S' As' σ' H' o q
    exact h3 .non H' S' [] ⟨⟨o.same,o.s0,o.s1,o.dom⟩,List.nodup_nil,fun _ z=>(nomatch z),zcP _⟩
   | rt m t =>
    rw [e] at h3
    by_cases hm:m=md∨md=.al∨isSc t=true
    ·have e3:fin md (.rt m t)=.ok t:=if_pos hm
     rw [e3] at h3
     intro v H' S' A g
     obtain⟨S2,A2,g2⟩:=g.weak hm
     exact h3 v H' S2 A2 g2
    ·have e3:fin md (.rt m t)=.bad:=if_neg hm
     rw [e3] at h3
     exact (show False from h3).elim
   | exc c=>rw [e] at h3;exact h3
   | bad=>rw [e] at h3;exact (show False from h3).elim
end
end TL
namespace L2
open PySem PySem.Spec PyProof.Rows
section
variable {prog:Program} {w:World} {A:Around} {R:Result→Shared→Prop} {s:Shared}
end
section
variable {X:Cx} {elt tg iter c:Expr} {scope:Scope} {pos:Pos} {wi:TI} {g:TG} {tt:TT} {te:TE} {N':List Str} {ix:List (Option Nat)}
end
end L2
namespace TL
open PySem PySem.Spec L2
structure JOk (K:PySem.W.Frag) (J:It) (H:Hp) (S:Addr→Prop) (ts:List T):Prop where
 go:∀ H2 S2,Step K S H S2 H2→Dom S2 H2→∀ (i:Nat) t,ts[i]? = some t→J.go i H2∧∀ x H3,J.yld i H2 x H3→Grow H2 S2 H3 S2∧Den K H3 S2 t .al [] x
 stop:∀ H2 S2,Step K S H S2 H2→Dom S2 H2→J.stop ts.length H2
noncomputable def endI (K:PySem.W.Frag) (z:Z) (H:Hp) (S:Addr→Prop) (R:It→Hp→Prop):Res (List T)→Prop
 | .ok ts=>∀ J H' S',Grow H S H' S'→JOk K J H' S' ts→R J H'
 | .exc c=>∀ H',Same z.H₀ H'→z.E (.ref (z.cl c)) none H'
 | .bad=>False
def tri (K:PySem.W.Frag) (z:Z) (I:VEnv→Res (List T)):TI:=fun σ H R=>∃ S ρ,OkE K z S ρ σ H∧endI K z H S R (I ρ)
abbrev JI (X:Cx) (z:Z) (tg:Expr) (I:VEnv→Res (List T)) (iter:Expr):Prop:=PI X tg iter (tri X.K z I)
theorem PI.imp {X:Cx} {tg e:Expr} {t t':TI} (h:PI X tg e t) (k:∀ σ H Q,t' σ H Q→t σ H Q):PI X tg e t':=fun pins s σ H Q I q=>h pins s σ H Q I (k σ H Q q)
noncomputable def asL:T→Option (List T)
 | .lst ts=>some ts
 | _=>none
noncomputable def asI:T→Option Int
 | .sc (.int i)=>some i
 | _=>none
theorem zm9 {t:T} {ts:List T} (h:asL t=some ts):t=.lst ts:=by
 unfold asL at h;split at h
 ·cases h;rfl
 ·cases h
theorem zjx {t:T} {i:Int} (h:asI t=some i):t=.sc (.int i):=by
 unfold asI at h;split at h
 ·cases h;rfl
 ·cases h
@[simp] theorem zsY (ts:List T):asL (.lst ts)=some ts:=(rfl)
@[simp] theorem zsZ (i:Int):asI (.sc (.int i))=some i:=(rfl)
@[simp] theorem ztt (i:Bool):asB (.sc (.bl i))=some i:=(rfl)
theorem zjc {K:PySem.W.Frag} {H:Hp} {S:Addr→Prop} {a:Addr} {vs:List V} {ts:List T} (hS:S a) (hH:H a=some (.lst vs)) (d:Dens K H S ts .al [] vs):JOk K (Itl K a) H S ts:=by
 refine ⟨fun H2 S2 s _ i t e=>?_,fun H2 S2 s _=>⟨vs,.of (s.frm.nodes _ _ hS hH),by rw [d.length];exact Nat.le_refl _⟩⟩
 have h2:SqL K H2 a vs:=.of (s.frm.nodes _ _ hS hH)
 obtain⟨v,h3,h4⟩:=(s.dens d).get e
 refine ⟨⟨vs,v,h2,h3⟩,fun x H3 y=>?_⟩
 obtain⟨rfl,y⟩:=y
 have:=y vs h2
 rw [h3] at this
 cases this
 exact⟨.refl (by assumption),h4⟩
section
variable {X:Cx} {z:Z} {md md1:Md} {F F1 F2:VEnv→Res T} {e a b tg:Expr} {es:List Expr} {pos:Pos} {K:PySem.W.Frag} {Fs:VEnv→Res (List T)}
noncomputable def iLst (F:VEnv→Res T):VEnv→Res (List T):=fun ρ=>(F ρ).bind fun t=>.of (asL t)
theorem zaR (h:JE X z md F e):JI X z tg (iLst F) e:=PI.imp (zoH (JE.al h)) fun σ H R q=>by
 obtain⟨S,ρ,o,q⟩:=q
 refine ⟨S,ρ,o,?_⟩
 unfold iLst at q
 try dsimp only at q
 cases e:F ρ with
 | exc c=>rw [e] at q;exact q
 | bad=>rw [e] at q;exact q
 | ok t =>
  rw [e,Res.bind_ok] at q
  intro v H' S' A g
  obtain rfl:=g.den.alA
  cases e2:asL t with
  | none=>rw [e2] at q;exact (show False from q).elim
  | some ts =>
   rw [e2] at q
   obtain rfl:=zm9 e2
   obtain⟨_,a,vs,rfl,h1,h2,h3⟩:=zak.mp g.den
   exact⟨a,rfl,⟨vs,.of h2⟩,q _ H' S' g.g (zjc h1 h2 h3)⟩
noncomputable def rngI (lo:Int) (n:Nat):List T:=(List.range n).map fun (k:Nat)=>.sc (.int (lo + (k:Int)))
theorem ziU {lo:Int} {n i:Nat} {t:T} (h:(rngI lo n)[i]? = some t):i < n∧t=.sc (.int (lo + (i:Int))):=by
 unfold rngI at h
 rw [List.getElem?_map] at h
 by_cases hi:i < n
 ·rw [List.getElem?_range hi] at h
  cases h
  exact⟨hi,rfl⟩
 ·rw [List.getElem?_eq_none (by rw [List.length_range];lia)] at h
  cases h
theorem zlw {H:Hp} {S:Addr→Prop} (lo:Int) (n:Nat):JOk K (Itr lo n) H S (rngI lo n):=by
 refine ⟨fun H2 S2 s d i t e=>?_,fun H2 S2 s _=>by
  show n≤(rngI lo n).length
  unfold rngI;rw [List.length_map,List.length_range];exact Nat.le_refl _⟩
 obtain⟨hi,rfl⟩:=ziU e
 refine ⟨hi,fun x H3 y=>?_⟩
 obtain⟨rfl,rfl⟩:=y
 exact⟨.refl d,zcP _⟩
noncomputable def rng1 (ts:List T):Option (List T):=match ts with
 | [.sc (.int j)]=>if -(2 ^ 62)≤j∧j < 2 ^ 62 then some (rngI 0 j.toNat) else none
 | _=>none
noncomputable def rng2 (ts:List T):Option (List T):=match ts with
 | [.sc (.int i),.sc (.int j)]=>if -(2 ^ 62)≤i∧i < 2 ^ 62∧-(2 ^ 62)≤j∧j < 2 ^ 62 then some (rngI i (j - i).toNat) else none
 | _=>none
noncomputable def iRng (g:List T→Option (List T)) (Fs:VEnv→Res (List T)):VEnv→Res (List T):=fun ρ=>(Fs ρ).bind fun ts=>.of (g ts)
theorem zaI {p:Pos} (hg:Gl X "range") (hm:X.mg "range" = none) (ha:JA X z md Fs [a]) (hs:starEach [a] X.env=[(false,eval a X.env)]:=by rfl):JI X z tg (iRng rng1 Fs) (.Call (.Name "range" p) [a] [] pos):=
 PI.imp (zk3 hg hm (JA.al ha) hs) fun σ H R q=>by
  obtain⟨S,ρ,o,q⟩:=q
  refine ⟨S,ρ,o,?_⟩
  unfold iRng at q
  try dsimp only at q
  cases e:Fs ρ with
  | exc c=>rw [e] at q;exact q
  | bad=>rw [e] at q;exact q
  | ok ts =>
   rw [e,Res.bind_ok] at q
   intro vs H' S' A g
   unfold rng1 at q
   split at q
   ·rename_i j
    split at q
    ·rename_i hj
     have d:=g.den
     unfold Dens at d
     obtain⟨A1,A2,v,vs',_,rfl,d1,d2⟩:=d
     unfold Dens at d2
     obtain⟨_,rfl⟩:=d2
     obtain⟨_,rfl⟩:=zaf.mp d1
     exact⟨j,rfl,hj.1,hj.2,q _ H' S' g.g (zlw _ _)⟩
    ·exact (show False from q).elim
   ·exact (show False from q).elim
end
def zpL (K:PySem.W.Frag) (g:TG) (gT:T→SEnv→Option SEnv):Prop:=∀ z S As ρ σ H t v ρ' (Q:St→Hp→Prop),Ok K z S As ρ σ H→Den K H S t .al [] v→gT t ρ=some ρ'→(∀ As' σ',Ok K z S As' ρ' σ' H→Q σ' H)→g v σ H Q
noncomputable def gS (i:Nat):T→SEnv→Option SEnv:=fun t ρ=>if i < ρ.length then some (ρ.set i (some (.al,t))) else none
noncomputable def zg6 (ρ:VEnv) (i:Nat):Bool:=match ρ[i]? with
 | some none=>true
 | _=>false
theorem zlB {ρ:VEnv} {i:Nat} (h:zg6 ρ i=true):ρ[i]? = some none:=by
 unfold zg6 at h
 split at h
 ·assumption
 ·cases h
noncomputable def gE (i:Nat):T→VEnv→Option VEnv:=fun t ρ=>if zg6 ρ i=true then some (ρ.set i (some t)) else none
noncomputable def gS2 (i j:Nat):T→SEnv→Option SEnv:=fun t ρ=>match t with
 | .tup [x,y]=>(gS i x ρ).bind (gS j y)
 | _=>none
theorem Ok.setAl {K:PySem.W.Frag} {z:Z} {S:Addr→Prop} {As:Nat→List Addr} {ρ:SEnv} {σ:St} {H:Hp} {t:T} {v:V} (o:Ok K z S As ρ σ H) (d:Den K H S t .al [] v) {i:Nat} (hi:i < ρ.length):Ok K z S (fun j=>if j=i then [] else As j) (ρ.set i (some (.al,t))) (σ.set i (some v)) H:=
 o.put ⟨.refl o.dom,List.nodup_nil,fun _ z=>(nomatch z),d⟩ i hi
theorem zaT {K:PySem.W.Frag} (i:Nat):zpL K (zfi i) (gS i):=by
 intro z S As ρ σ H t v ρ' Q o d e k
 unfold gS at e
 split at e
 ·cases e
  exact k _ _ (o.setAl d (by assumption))
 ·cases e
theorem zaX {α:Type} {l:List (Option α)} {i:Nat} {x:Option α} (h:l[i]? = some x):i < l.length:=(List.getElem?_eq_some_iff.mp h).1
theorem OkE.set {K:PySem.W.Frag} {z:Z} {S:Addr→Prop} {ρ:VEnv} {σ:St} {H:Hp} {t:T} {v:V} (o:OkE K z S ρ σ H) (d:Den K H S t .al [] v) {i:Nat} (hi:ρ[i]? = some none) (hl:i < σ.length):OkE K z S (ρ.set i (some t)) (σ.set i (some v)) H∧OkE K z S ρ (σ.set i (some v)) H:=by
 refine ⟨⟨o.same,o.dom,fun j u e=>?_⟩,⟨o.same,o.dom,fun j u e=>?_⟩⟩
 ·by_cases hj:j=i
  ·subst hj
   rw [List.getElem?_set_self (zaX hi)] at e
   cases e
   exact⟨v,by rw [List.getElem?_set_self hl],d⟩
  ·rw [List.getElem?_set_ne (Ne.symm hj)] at e
   obtain⟨w,h1,h2⟩:=o.sl j u e
   exact⟨w,by rw [List.getElem?_set_ne (Ne.symm hj)];exact h1,h2⟩
 ·have hj:j≠i:=fun q=>by subst q;rw [hi] at e;cases e
  obtain⟨w,h1,h2⟩:=o.sl j u e
  exact⟨w,by rw [List.getElem?_set_ne (Ne.symm hj)];exact h1,h2⟩
theorem zkn {K:PySem.W.Frag} (i:Nat) {n:Nat}:∀ z S ρ σ H t v ρ' (Q:St→Hp→Prop),OkE K z S ρ σ H→i < σ.length→Den K H S t .al [] v→gE i t ρ=some ρ'→(∀ σ',OkE K z S ρ' σ' H→OkE K z S ρ σ' H→σ'.length=σ.length→Q σ' H)→zfi i v σ H Q:=by
 intro z S ρ σ H t v ρ' Q o hl d e k
 unfold gE at e
 split at e
 ·cases e
  obtain⟨h1,h2⟩:=o.set d (zlB (by assumption)) hl
  exact k _ h1 h2 (by simp)
 ·cases e
section
variable {X:Cx} {z:Z} {md md1:Md} {F F1 F2:VEnv→Res T} {e a b tg iter:Expr} {es:List Expr} {pos:Pos} {K:PySem.W.Frag} {I:VEnv→Res (List T)} {B:SEnv→SRes} {body:List Stmt} {g:TG} {gT:T→SEnv→Option SEnv}
noncomputable def forL (gT:T→SEnv→Option SEnv) (B:SEnv→SRes):List T→SEnv→SRes
 | [],ρ=>.nx ρ
 | t :: ts,ρ=>match gT t ρ with
  | some ρ1=>(B ρ1).then (forL gT B ts)
  | none=>.bad
noncomputable def sFor (M:List Bool) (I:VEnv→Res (List T)) (gT:T→SEnv→Option SEnv) (B:SEnv→SRes):SEnv→SRes:=fun ρ=>(I (view M ρ)).sthen fun ts=>forL gT B ts (zaz M ρ)
theorem Ok.growS {S S':Addr→Prop} {As:Nat→List Addr} {ρ:SEnv} {σ:St} {H H':Hp} (o:Ok K z S As ρ σ H) (g:Grow H S H' S'):Ok K z S' As ρ σ H':=
 ⟨o.same.trans g.same,g.dom,o.ln,fun a h=>g.up a (o.s0 a h),fun a h=>(g.new a h).elim (o.s1 a) fun q=>.inr (za5 o.same q),o.nd,fun i a h=>let ⟨h1,h2,h3⟩:=o.ow i a h;⟨fun q=>(g.new a q).elim h1 h3,h2,zbs g.same h3⟩,o.dj,fun i m t e=>let ⟨v,h1,h2⟩:=o.sl i m t e;⟨v,h1,h2.mono g.same g.up⟩⟩
theorem zcL (M:List Bool) (hp:PassesOwn (model X.prog X.w) X.A X.env X.xe) (hc:X.calm=true) (hi:JI X z tg I iter) (hg:PG X tg g) (bg:zpL X.K g gT) (hb:JSs X z B body) (hs:∀ x,foldedSetIterable iter X.env x=pure x:=by intro _;rfl) :
  JS X z (sFor M I gT B) (.For tg iter body [] pos):=PS.imp (znH hp hc hi hg hb hs) fun D σ H h=>by
 obtain⟨S,As,ρ,o,h⟩:=h
 refine ⟨_,_,o.view M,?_⟩
 unfold sFor at h
 try dsimp only at h
 cases e:I (view M ρ) with
 | exc c=>rw [e] at h;exact h
 | bad=>rw [e] at h;exact h
 | ok ts =>
  rw [e,Res.sthen_ok] at h
  intro J H1 S1 gr jo
  have o1:=o.share gr
  refine ⟨fun i m σ2 H2=>m=ts.length - i∧i≤ts.length∧∃ S2 As2 ρ2,Ok X.K z S2 As2 ρ2 σ2 H2∧Step X.K S1 H1 S2 H2∧endS X.K z S2 H2 D (forL gT B (ts.drop i) ρ2),⟨ts.length,by simp,Nat.zero_le _,S1,_,_,o1,.refl,h.step (zeJ gr)⟩,?_⟩
  rintro i m σ2 H2 ⟨rfl,hi,S2,As2,ρ2,o2,s2,h2⟩
  by_cases hlt:i < ts.length
  ·have e1:ts[i]? = some ts[i]:=List.getElem?_eq_getElem hlt
   have e2:ts.drop i=ts[i] :: ts.drop (i + 1):=List.drop_eq_getElem_cons hlt
   obtain⟨hgo,hy⟩:=jo.go H2 S2 s2 o2.dom i _ e1
   rw [e2] at h2
   unfold forL at h2
   cases e3:gT ts[i] ρ2 with
   | none=>rw [e3] at h2;exact (show False from h2).elim
   | some ρ3 =>
    rw [e3] at h2
    replace h2:endS X.K z S2 H2 D ((B ρ3).then (forL gT B (ts.drop (i + 1)))):=h2
    refine .inr ⟨hgo,fun σ' H'=>∃ S3 As3 ρ3,Ok X.K z S3 As3 ρ3 σ' H'∧Step X.K S1 H1 S3 H'∧endS X.K z S3 H' D (forL gT B (ts.drop (i + 1)) ρ3),fun σ' H' ⟨S3,As3,ρ3,o3,s3,h3⟩=>⟨ts.length - (i + 1),by lia,rfl,hlt,S3,As3,ρ3,o3,s3,h3⟩,fun x H3 y=>?_⟩
    obtain⟨g3,d3⟩:=hy x H3 y
    refine bg z S2 As2 ρ2 σ2 H3 _ x ρ3 _ (o2.growS g3) d3 e3 fun As4 σ4 o4=>⟨S2,As4,ρ3,o4,?_⟩
    have s3:Step X.K S2 H2 S2 H3:=g3.step
    replace h2:=h2.step s3
    cases e5:B ρ3 with
    | nx ρ5=>rw [e5] at h2;exact fun S5 As5 σ5 H5 o5 s5=>⟨S5,As5,ρ5,o5,(s2.trans s3).trans s5,h2.step s5⟩
    | rt md t=>rw [e5] at h2;exact h2
    | exc c=>rw [e5] at h2;exact h2
    | bad=>rw [e5] at h2;exact (show False from h2).elim
  ·have ei:i=ts.length:=by lia
   subst ei
   rw [List.drop_length] at h2
   exact .inl ⟨jo.stop H2 S2 s2 o2.dom,h2 S2 As2 σ2 H2 o2 .refl⟩
end
end TL
namespace TL
open PySem PySem.Spec L2
noncomputable def nev (z:Z):Z:={ z with E:=fun _ _ _=>False }
noncomputable def Res.no {α:Type}:Res α→Res α
 | .ok a=>.ok a
 | .exc _=>.bad
 | .bad=>.bad
@[simp] theorem Res.no_ok {α:Type} (a:α):(Res.ok a).no=.ok a:=(rfl)
noncomputable def zbA (ix:List (Option Nat)) (ρ:VEnv):VEnv:=ix.map fun o=>o.bind fun j=>(ρ[j]?).join
noncomputable def mapL (gE:T→VEnv→Option VEnv) (F:VEnv→Res T) (ρ:VEnv):List T→Res (List T)
 | []=>.ok []
 | t :: ts=>(Res.of (gE t ρ)).bind fun ρ1=>(F ρ1).no.bind fun u=>(mapL gE F ρ ts).bind fun us=>.ok (u :: us)
noncomputable def zbe (ix:List (Option Nat)) (I:VEnv→Res (List T)) (gE:T→VEnv→Option VEnv) (F:VEnv→Res T):VEnv→Res T:=fun ρ=>(I ρ).bind fun ts=>(mapL gE F (zbA ix ρ) ts).bind fun us=>.of (ze5 us)
def zjK (K:PySem.W.Frag) (n:Nat) (g:TG) (gE:T→VEnv→Option VEnv):Prop:=∀ z S ρ σ H t v ρ' (Q:St→Hp→Prop),OkE K z S ρ σ H→σ.length=n→Den K H S t .al [] v→gE t ρ=some ρ'→(∀ σ',OkE K z S ρ' σ' H→OkE K z S ρ σ' H→σ'.length=n→Q σ' H)→g v σ H Q
theorem zaU {K:PySem.W.Frag} {n i:Nat} (hi:i < n):zjK K n (zfi i) (gE i):=by
 intro z S ρ σ H t v ρ' Q o hl d e k
 exact zkn (n:=n) i z S ρ σ H t v ρ' Q o (by lia) d e fun σ' h1 h2 h3=>k σ' h1 h2 (h3.trans hl)
theorem OkE.nev {K:PySem.W.Frag} {z:Z} {S:Addr→Prop} {ρ:VEnv} {σ:St} {H:Hp} (o:OkE K z S ρ σ H):OkE K (nev z) S ρ σ H:=⟨o.same,o.dom,o.sl⟩
theorem OkE.inner {K:PySem.W.Frag} {z:Z} {S:Addr→Prop} {ρ:VEnv} {σ:St} {H:Hp} (o:OkE K z S ρ σ H) (ix:List (Option Nat)):OkE K z S (zbA ix ρ) (inner ix σ) H:=by
 refine ⟨o.same,o.dom,fun i t e=>?_⟩
 unfold zbA at e
 rw [List.getElem?_map] at e
 cases q:ix[i]? with
 | none=>rw [q] at e;cases e
 | some oj =>
  rw [q] at e
  cases oj with
  | none=>cases e
  | some j =>
   have e':(ρ[j]?).join=some t:=Option.some.inj e
   have e2:ρ[j]? = some (some t):=by
    cases r:ρ[j]? with
    | none=>rw [r] at e';cases e'
    | some u=>rw [r] at e';cases e';rfl
   obtain⟨v,h1,h2⟩:=o.sl j t e2
   refine ⟨v,?_,h2⟩
   unfold L2.inner
   rw [List.getElem?_map,q]
   show some ((σ[j]?).join)=_
   rw [h1]
   rfl
section
variable {X:Cx} {z:Z} {md mdE:Md} {F:VEnv→Res T} {Bt:VEnv→Res Bool} {elt tg iter c:Expr} {pos:Pos} {K:PySem.W.Frag} {I:VEnv→Res (List T)} {g:TG} {gE:T→VEnv→Option VEnv} {ix:List (Option Nat)} {N':List Str} {scope:Scope}
def Made (K:PySem.W.Frag) (mdE md:Md):Prop:=∀ {H:Hp} {S:Addr→Prop} {H':Hp} {S':Addr→Prop} {A:List Addr} {vs:List V} {ts:List T} {p:Addr},Gots K H S H' S' A vs mdE ts→H' p=none→∃ S2 A2,Got K H S (upd H' p (.lst vs)) S2 A2 (.ref p) md (.lst ts)
theorem zaC:Made K .fu .fu:=fun g hp=>⟨_,_,Got.newFu g hp⟩
theorem zl0 (M:Made K mdE md) (bg:zjK K ix.length g gE) {σ:St} {H:Hp} {Q:VK} (h:tr K z md (zbe ix I gE F) σ H Q):zmi ix (tri K z I) g (tr K (nev z) mdE F) σ H Q:=by
 obtain⟨S,ρ,o,h⟩:=h
 refine ⟨S,ρ,o,?_⟩
 unfold zbe at h
 try dsimp only at h
 cases e:I ρ with
 | exc c=>rw [e] at h;exact h
 | bad=>rw [e] at h;exact h
 | ok ts =>
  rw [e,Res.bind_ok] at h
  intro J H1 S1 gr jo
  cases e2:mapL gE F (zbA ix ρ) ts with
  | bad=>rw [e2] at h;exact (show False from h).elim
  | exc c=>exact absurd e2 (by
    have:∀ l c,mapL gE F (zbA ix ρ) l≠.exc c:=by
     intro l
     induction l with
     | nil=>intro c q;unfold mapL at q;cases q
     | cons t l ih =>
      intro c q
      unfold mapL at q
      cases r:gE t (zbA ix ρ) with
      | none=>rw [r] at q;cases q
      | some ρ1 =>
       rw [r,Res.of_some,Res.bind_ok] at q
       cases r2:F ρ1 with
       | exc c=>rw [r2] at q;cases q
       | bad=>rw [r2] at q;cases q
       | ok u =>
        rw [r2,Res.no_ok,Res.bind_ok] at q
        cases r3:mapL gE F (zbA ix ρ) l with
        | exc c2=>exact ih _ r3
        | bad=>rw [r3] at q;cases q
        | ok us=>rw [r3] at q;cases q
    exact this ts c)
  | ok us =>
   rw [e2,Res.bind_ok] at h
   cases e3:ze5 us with
   | none=>rw [e3] at h;exact (show False from h).elim
   | some t0 =>
    rw [e3] at h
    obtain⟨rfl,hz⟩:=zdY e3
    have o1:=((o.grow gr).inner ix).nev
    refine ⟨fun i m acc σ2 H2=>m=ts.length - i∧i≤ts.length∧σ2.length=ix.length∧∃ S2 A us1 us2,us=us1 ++ us2∧mapL gE F (zbA ix ρ) (ts.drop i)=.ok us2∧Gots K H1 S1 H2 S2 A acc mdE us1∧OkE K (nev z) S2 (zbA ix ρ) σ2 H2,
     ⟨ts.length,by simp,Nat.zero_le _,by unfold L2.inner;rw [List.length_map],S1,[],[],us,rfl,e2,Gots.nil gr.dom,o1⟩,?_⟩
    rintro i m acc σ2 H2 ⟨rfl,hi,hl,S2,A,us1,us2,hu,hm,gs,o2⟩
    refine ⟨by rw [gs.den.length];rw [hu,List.length_append] at hz;lia,?_⟩
    by_cases hlt:i < ts.length
    ·have e1:ts[i]? = some ts[i]:=List.getElem?_eq_getElem hlt
     have ed:ts.drop i=ts[i] :: ts.drop (i + 1):=List.drop_eq_getElem_cons hlt
     obtain⟨hgo,hy⟩:=jo.go H2 S2 gs.g.step gs.g.dom i _ e1
     refine .inr ⟨hgo,fun x H3 y=>?_⟩
     obtain⟨g3,d3⟩:=hy x H3 y
     rw [ed] at hm
     unfold mapL at hm
     cases r:gE ts[i] (zbA ix ρ) with
     | none=>rw [r] at hm;cases hm
     | some ρ1 =>
      rw [r,Res.of_some,Res.bind_ok] at hm
      cases r2:F ρ1 with
      | exc c=>rw [r2] at hm;cases hm
      | bad=>rw [r2] at hm;cases hm
      | ok u =>
       rw [r2,Res.no_ok,Res.bind_ok] at hm
       cases r3:mapL gE F (zbA ix ρ) (ts.drop (i + 1)) with
       | exc c=>rw [r3] at hm;cases hm
       | bad=>rw [r3] at hm;cases hm
       | ok us3 =>
        rw [r3,Res.bind_ok] at hm
        cases hm
        refine bg (nev z) S2 _ σ2 H3 _ x ρ1 _ (o2.grow g3) hl d3 r fun σ4 o4 o5 hl4=>⟨S2,ρ1,o4,?_⟩
        rw [r2]
        intro v H4 S4 A4 g4
        have gs3:Gots K H1 S1 H3 S2 A acc mdE us1:=⟨gs.g.trans g3,gs.nd,gs.ow,gs.den.mono g3.same fun _ h=>h⟩
        exact⟨ts.length - (i + 1),by lia,rfl,hlt,hl4,S4,_,us1 ++ [u],us3,by rw [hu,List.append_assoc];rfl,r3,gs3.snoc g4,o5.grow g4.g⟩
    ·have ei:i=ts.length:=by lia
     subst ei
     rw [List.drop_length] at hm
     unfold mapL at hm
     cases hm
     rw [List.append_nil] at hu
     subst hu
     refine .inl ⟨jo.stop H2 S2 gs.g.step gs.g.dom,fun p hp=>?_⟩
     obtain⟨S5,A5,g5⟩:=M gs hp
     exact h _ _ S5 A5 (g5.trans gr)
theorem zaJ (M:Made X.K mdE md) (B:Blk X.env scope) (hix:ixOk X.N N' scope ix=true) (hc:X.calm=true) (hi:JI X z tg I iter) (hg:∀ C s₂ H₂ fp pn,PG (cxB X N' scope C s₂ H₂ fp pn) tg g) (bg:zjK X.K ix.length g gE)
  (he:∀ C s₂ H₂ fp pn,PE (cxB X N' scope C s₂ H₂ fp pn) elt (tr X.K (nev z) mdE F)) (hs:∀ x,foldedSetIterable iter X.env x=pure x:=by intro _;rfl):JE X z md (zbe ix I gE F) (.ListComp elt [⟨tg,iter,[],0⟩] scope pos):=
 PE.imp (zoJ B hix hc hi hg he hs) fun σ H Q h=>zl0 M bg h
theorem zdZ {i:Nat} {y:Str} {py spos:Pos} (Mk:List Bool) (M:Made X.K mdE .fu) (hN:X.N.Nodup) (hi':X.N[i]? = some y) (hy:X.env.scope.names.lookup y=some .local) (B:Blk X.env scope) (hix:ixOk X.N N' scope ix=true) (hc:X.calm=true) (hi:JI X z tg I iter)
  (hg:∀ C s₂ H₂ fp pn,PG (cxB X N' scope C s₂ H₂ fp pn) tg g) (bg:zjK X.K ix.length g gE) (he:∀ C s₂ H₂ fp pn,PE (cxB X N' scope C s₂ H₂ fp pn) elt (tr X.K (nev z) mdE F))
  (hsw:swapsWith (.ListComp elt [⟨tg,iter,[],0⟩] scope pos) (some (.Name y py)) spos.line X.env=pure true:=by rfl) (hs:∀ x,foldedSetIterable iter X.env x=pure x:=by intro _;rfl) :
  JS X z (sSet i Mk (zbe ix I gE F)) (.Assign [.Name y py] (.ListComp elt [⟨tg,iter,[],0⟩] scope pos) spos):=
 PS.imp (zj0 hN hi' hy B hix hc hi hg he hsw hs) fun D σ H h=>zn3 (fun _ _ _ q=>zl0 M bg q) D σ H h
end
end TL
namespace TL
open PySem PySem.Spec L2
mutual
noncomputable def eqT:T→T→Bool
 | .sc x,.sc y=>eqV x y
 | .lst xs,.lst ys=>eqTs xs ys
 | .tup xs,.tup ys=>eqTs xs ys
 | _,_=>false
noncomputable def eqTs:List T→List T→Bool
 | [],[]=>true
 | x :: xs,y :: ys=>eqT x y && eqTs xs ys
 | _,_=>false
end
noncomputable def okT:Nat→T→Bool
 | _,.sc v=>zfG v
 | _,.scr _=>false
 | 0,_=>false
 | d + 1,.lst ts=>ts.all (okT d)
 | d + 1,.tup ts=>ts.all (okT d)
noncomputable def eAt (ts us:List T) (j:Nat):Bool:=match ts[j]?,us[j]? with
 | some t,some u=>eqT t u
 | _,_=>false
theorem zdf:∀ (ts us:List T),ts.length=us.length→(List.range ts.length).all (eAt ts us)=eqTs ts us
 | [],[],_=>by unfold eqTs;rfl
 | [],u :: us,h=>by simp at h
 | t :: ts,[],h=>by simp at h
 | t :: ts,u :: us,h=>by
  have ih:=zdf ts us (by simpa using h)
  rw [List.length_cons,List.range_succ_eq_map,List.all_cons,List.all_map]
  unfold eqTs
  have e1:eAt (t :: ts) (u :: us) 0=eqT t u:=rfl
  have e2:(eAt (t :: ts) (u :: us) ∘ Nat.succ)=eAt ts us:=by funext j;rfl
  rw [e1,e2,ih]
theorem zcr:∀ (ts us:List T),ts.length≠us.length→eqTs ts us=false
 | [],[],h=>absurd rfl h
 | [],u :: us,_=>by unfold eqTs;rfl
 | t :: ts,[],_=>by unfold eqTs;rfl
 | t :: ts,u :: us,h=>by
  unfold eqTs
  rw [zcr ts us (by simpa using h),Bool.and_false]
theorem zji {v:V} (h:zfG v=true):eqV v v=true:=by
 cases v with
 | non=>rfl
 | bl b=>cases b <;> rfl
 | int i=>unfold eqV;simp
 | str x=>unfold eqV;simp
 | _=>cases h
section
variable {X:Cx} {pins:List (Addr×Obj)} {σ:St} {H:Hp} {s:Shared} {S:Addr→Prop}
theorem Inv.lst_tup (I:Inv X pins σ H s) {a:Addr} {vs ws:List V} (h1:H a=some (.lst vs)) (h2:SqT X.K H a ws):False:=by
 rcases h2 with (h2 | ⟨o,h2⟩) | ⟨o,its,n,h2,_⟩
 ·rw [h1] at h2;cases h2
 ·rw [h1] at h2;cases h2
 ·have:=(I.bs a o (I.mod.kin _ _ h2)).2
  rw [h1] at this;cases this
theorem zpt (I:Inv X pins σ H s):∀ (d:Nat) (t u:T) (x:V),okT d t=true→okT d u=true→Den X.K H S t .al [] x→Den X.K H S u .al [] x→t=u:=by
 intro d
 induction d with
 | zero =>
  intro t u x ht hu d1 d2
  cases t with
  | sc w =>
   cases u with
   | sc w2 =>
    obtain⟨_,rfl⟩:=zaf.mp d1
    obtain⟨_,rfl⟩:=zaf.mp d2
    rfl
   | _=>unfold okT at hu;cases hu
  | _=>unfold okT at ht;cases ht
 | succ d ih =>
  have seq:∀ (ts us:List T) (vs:List V),ts.all (okT d)=true→us.all (okT d)=true→Dens X.K H S ts .al [] vs→Dens X.K H S us .al [] vs→ts=us:=by
   intro ts
   induction ts with
   | nil =>
    intro us vs _ _ d1 d2
    unfold Dens at d1
    obtain⟨_,rfl⟩:=d1
    cases us with
    | nil=>rfl
    | cons u us=>unfold Dens at d2;obtain⟨_,_,_,_,_,q,_⟩:=d2;cases q
   | cons t ts iht =>
    intro us vs h1 h2 d1 d2
    unfold Dens at d1
    obtain⟨A1,A2,v,vs',ea,rfl,d3,d4⟩:=d1
    obtain⟨rfl,rfl⟩:=List.append_eq_nil_iff.mp ea.symm
    cases us with
    | nil=>unfold Dens at d2;obtain⟨_,q⟩:=d2;cases q
    | cons u us =>
     unfold Dens at d2
     obtain⟨B1,B2,v2,vs2,eb,q,d5,d6⟩:=d2
     cases q
     obtain⟨rfl,rfl⟩:=List.append_eq_nil_iff.mp eb.symm
     rw [List.all_cons,Bool.and_eq_true] at h1 h2
     rw [ih t u v h1.1 h2.1 d3 d5,iht us vs' h1.2 h2.2 d4 d6]
  intro t u x ht hu d1 d2
  cases t with
  | sc w =>
   obtain⟨_,rfl⟩:=zaf.mp d1
   cases u with
   | sc w2 =>
    obtain⟨_,rfl⟩:=zaf.mp d2
    rfl
   | lst us=>obtain⟨_,a,vs,rfl,_⟩:=zak.mp d2;cases ht
   | tup us=>obtain⟨_,a,vs,rfl,_⟩:=zao.mp d2;cases ht
   | scr ns=>unfold okT at hu;cases hu
  | scr ns=>unfold okT at ht;cases ht
  | lst ts =>
   obtain⟨_,a,vs,rfl,_,h1,h2⟩:=zak.mp d1
   cases u with
   | sc w2=>obtain⟨_,rfl⟩:=zaf.mp d2;cases hu
   | lst us =>
    obtain⟨_,a',vs',e,_,h3,h4⟩:=zak.mp d2
    cases e
    rw [h1] at h3
    cases h3
    rw [seq ts us vs ht hu h2 h4]
   | tup us =>
    obtain⟨_,a',vs',e,h3,h4⟩:=zao.mp d2
    cases e
    exact (Inv.lst_tup I h1 h3).elim
   | scr ns=>unfold okT at hu;cases hu
  | tup ts =>
   obtain⟨_,a,vs,rfl,h1,h2⟩:=zao.mp d1
   cases u with
   | sc w2=>obtain⟨_,rfl⟩:=zaf.mp d2;cases hu
   | lst us =>
    obtain⟨_,a',vs',e,_,h3,h4⟩:=zak.mp d2
    cases e
    exact (Inv.lst_tup I h3 h1).elim
   | tup us =>
    obtain⟨_,a',vs',e,h3,h4⟩:=zao.mp d2
    cases e
    obtain rfl:=I.tuple_inj h1 h3
    rw [seq ts us vs ht hu h2 h4]
   | scr ns=>unfold okT at hu;cases hu
theorem zmW:∀ (d:Nat) (t:T),okT d t=true→eqT t t=true:=by
 intro d
 induction d with
 | zero =>
  intro t h
  cases t with
  | sc w=>unfold eqT;exact zji h
  | _=>unfold okT at h;cases h
 | succ d ih =>
  have seq:∀ ts:List T,ts.all (okT d)=true→eqTs ts ts=true:=by
   intro ts
   induction ts with
   | nil=>intro _;unfold eqTs;rfl
   | cons t ts iht =>
    intro h
    rw [List.all_cons,Bool.and_eq_true] at h
    unfold eqTs
    rw [ih t h.1,iht h.2]
    rfl
  intro t h
  cases t with
  | sc w=>unfold eqT;exact zji h
  | scr ns=>unfold okT at h;cases h
  | lst ts=>unfold eqT;exact seq ts h
  | tup ts=>unfold eqT;exact seq ts h
theorem zjq (I:Inv X pins σ H s) (d:Nat) (t u:T) (x:V) (h1:okT d t=true) (h2:okT d u=true) (d1:Den X.K H S t .al [] x) (d2:Den X.K H S u .al [] x):eqT t u=true:=by
 rw [← zpt I d t u x h1 h2 d1 d2]
 exact zmW d t h1
theorem zlF (A:Around):A.in1.units=A.units + 1:=rfl
theorem zcY {A:Around} {d:Nat} (ih:∀ (A:Around) (t u:T) (x y:V) (vx vy:Value),okT d t=true→okT d u=true→A.units + d < cLine→Den X.K H S t .al [] x→Den X.K H S u .al [] y→RelV x vx→RelV y vy→SeqAt.EqAt A s vx vy (eqT t u))
  {ts us:List T} {vs ws:List V} {its its2:List Value} (h1:ts.all (okT d)=true) (h2:us.all (okT d)=true) (hA:A.units + (d + 1) < cLine) (d1:Dens X.K H S ts .al [] vs) (d2:Dens X.K H S us .al [] ws) (r1:Vals vs its) (r2:Vals ws its2) :
  ∀ j (g1:j < its.toArray.size) (g2:j < its2.toArray.size),SeqAt.EqAt A.in1 s its.toArray[j] its2.toArray[j] (eAt ts us j):=by
 intro j g1 g2
 have l1:=d1.length
 have l2:=d2.length
 have l3:=r1.length
 have l4:=r2.length
 simp only [List.size_toArray] at g1 g2
 have e1:ts[j]? = some ts[j]:=List.getElem?_eq_getElem (by lia)
 have e2:us[j]? = some us[j]:=List.getElem?_eq_getElem (by lia)
 obtain⟨v,q1,p1⟩:=d1.get e1
 obtain⟨w,q2,p2⟩:=d2.get e2
 obtain⟨x1,f1,b1⟩:=r1.get q1
 obtain⟨x2,f2,b2⟩:=r2.get q2
 have c1:its.toArray[j]=x1:=by
  have:its[j]? = some its[j]:=List.getElem?_eq_getElem g1
  rw [f1] at this
  simp
  exact (Option.some.inj this).symm
 have c2:its2.toArray[j]=x2:=by
  have:its2[j]? = some its2[j]:=List.getElem?_eq_getElem g2
  rw [f2] at this
  simp
  exact (Option.some.inj this).symm
 have ee:eAt ts us j=eqT ts[j] us[j]:=by unfold eAt;rw [e1,e2]
 rw [c1,c2,ee]
 exact ih A.in1 _ _ v w x1 x2 (List.all_eq_true.mp h1 _ (List.getElem_mem _)) (List.all_eq_true.mp h2 _ (List.getElem_mem _)) (by rw [zlF];lia) p1 p2 b1 b2
theorem zmV (I:Inv X pins σ H s):∀ (d:Nat) (A:Around) (t u:T) (x y:V) (vx vy:Value),okT d t=true→okT d u=true→A.units + d < cLine→Den X.K H S t .al [] x→Den X.K H S u .al [] y→RelV x vx→RelV y vy→SeqAt.EqAt A s vx vy (eqT t u):=by
 have scsc:∀ (A:Around) (w1 w2:V) (x y:V) (vx vy:Value),zfG w1=true→zfG w2=true→Den X.K H S (.sc w1) .al [] x→Den X.K H S (.sc w2) .al [] y→RelV x vx→RelV y vy→SeqAt.EqAt A s vx vy (eqT (.sc w1) (.sc w2)):=by
  intro A w1 w2 x y vx vy h1 h2 d1 d2 r1 r2
  obtain⟨_,rfl⟩:=zaf.mp d1
  obtain⟨_,rfl⟩:=zaf.mp d2
  unfold eqT
  exact zq2 r1 r2 h1 h2
 intro d
 induction d with
 | zero =>
  intro A t u x y vx vy ht hu _ d1 d2 r1 r2
  cases t with
  | sc w =>
   cases u with
   | sc w2=>exact scsc A w w2 x y vx vy ht hu d1 d2 r1 r2
   | _=>unfold okT at hu;cases hu
  | _=>unfold okT at ht;cases ht
 | succ d ih =>
  intro A t u x y vx vy ht hu hA d1 d2 r1 r2
  have hA0:A.units < cLine:=by lia
  cases t with
  | scr ns=>unfold okT at ht;cases ht
  | sc w =>
   cases u with
   | scr ns=>unfold okT at hu;cases hu
   | sc w2=>exact scsc A w w2 x y vx vy ht hu d1 d2 r1 r2
   | lst us =>
    obtain⟨_,rfl⟩:=zaf.mp d1
    obtain⟨_,a,vs,rfl,_,h1,h2⟩:=zak.mp d2
    cases r2
    obtain⟨its,_,pl,_⟩:=I.list (.of h1)
    have e:eqT (.sc x) (.lst us)=false:=by unfold eqT;rfl
    rw [e]
    cases x with
    | non=>cases r1;exact .none_list pl.isList hA0
    | bl b=>cases r1;exact .bool_list b pl.isList hA0
    | int i=>obtain⟨t,rfl⟩:=r1;exact .int_list i t pl.isList hA0
    | str i=>obtain⟨t,rfl⟩:=r1;exact .str_list i t pl.isList hA0
    | _=>cases ht
   | tup us =>
    obtain⟨_,rfl⟩:=zaf.mp d1
    obtain⟨_,a,vs,rfl,h1,h2⟩:=zao.mp d2
    cases r2
    obtain⟨its,_,pl,_⟩:=I.tuple h1
    have e:eqT (.sc x) (.tup us)=false:=by unfold eqT;rfl
    rw [e]
    cases x with
    | non=>cases r1;exact .none_tuple pl hA0
    | bl b=>cases r1;exact .bool_tuple b pl hA0
    | int i=>obtain⟨t,rfl⟩:=r1;exact .int_tuple i t pl hA0
    | str i=>obtain⟨t,rfl⟩:=r1;exact .str_tuple i t pl hA0
    | _=>cases ht
  | lst ts =>
   obtain⟨_,a,vs,rfl,_,h1,h2⟩:=zak.mp d1
   cases r1
   obtain⟨its,rv,pl,_⟩:=I.list (.of h1)
   cases u with
   | scr ns=>unfold okT at hu;cases hu
   | sc w =>
    obtain⟨_,rfl⟩:=zaf.mp d2
    have e:eqT (.lst ts) (.sc y)=false:=by unfold eqT;rfl
    rw [e]
    cases y with
    | non=>cases r2;exact .list_none pl.isList hA0
    | bl b=>cases r2;exact .list_bool b pl.isList hA0
    | int i=>obtain⟨t,rfl⟩:=r2;exact .list_int i t pl.isList hA0
    | str i=>obtain⟨t,rfl⟩:=r2;exact .list_str i t pl.isList hA0
    | _=>cases hu
   | tup us =>
    obtain⟨_,b,ws,rfl,h3,h4⟩:=zao.mp d2
    cases r2
    obtain⟨its2,rv2,pl2,_⟩:=I.tuple h3
    have e:eqT (.lst ts) (.tup us)=false:=by unfold eqT;rfl
    rw [e]
    exact .list_tuple pl.isList pl2 hA0
   | lst us =>
    have d2':=d2
    obtain⟨_,b,ws,rfl,_,h3,h4⟩:=zak.mp d2
    cases r2
    by_cases hab:a=b
    ·subst hab
     rw [zjq I (d + 1) _ _ _ ht hu d1 d2']
     exact .same _
    ·obtain⟨its2,rv2,pl2,_⟩:=I.list (.of h3)
     refine SeqAt.EqAt.of_refs hab ?_
     have l1:=h2.length;have l2:=h4.length;have l3:=rv.length;have l4:=rv2.length
     unfold eqT
     by_cases hl:ts.length=us.length
     ·rw [← zdf ts us hl]
      have:=SeqAt.RcAt.lists pl.isList pl2.isList (by simp;lia) hA0 (zcY ih ht hu hA h2 h4 rv rv2)
      simp only [List.size_toArray] at this
      rw [show its.length=ts.length by lia] at this
      exact this
     ·rw [zcr ts us hl]
      exact SeqAt.RcAt.lists_lengths pl.isList pl2.isList (by simp;lia) hA0
  | tup ts =>
   obtain⟨_,a,vs,rfl,h1,h2⟩:=zao.mp d1
   cases r1
   obtain⟨its,rv,pl,_⟩:=I.tuple h1
   cases u with
   | scr ns=>unfold okT at hu;cases hu
   | sc w =>
    obtain⟨_,rfl⟩:=zaf.mp d2
    have e:eqT (.tup ts) (.sc y)=false:=by unfold eqT;rfl
    rw [e]
    cases y with
    | non=>cases r2;exact .tuple_none pl hA0
    | bl b=>cases r2;exact .tuple_bool b pl hA0
    | int i=>obtain⟨t,rfl⟩:=r2;exact .tuple_int i t pl hA0
    | str i=>obtain⟨t,rfl⟩:=r2;exact .tuple_str i t pl hA0
    | _=>cases hu
   | lst us =>
    obtain⟨_,b,ws,rfl,_,h3,h4⟩:=zak.mp d2
    cases r2
    obtain⟨its2,rv2,pl2,_⟩:=I.list (.of h3)
    have e:eqT (.tup ts) (.lst us)=false:=by unfold eqT;rfl
    rw [e]
    exact .tuple_list pl pl2.isList hA0
   | tup us =>
    have d2':=d2
    obtain⟨_,b,ws,rfl,h3,h4⟩:=zao.mp d2
    cases r2
    by_cases hab:a=b
    ·subst hab
     rw [zjq I (d + 1) _ _ _ ht hu d1 d2']
     exact .same _
    ·obtain⟨its2,rv2,pl2,_⟩:=I.tuple h3
     refine SeqAt.EqAt.of_refs hab ?_
     have l1:=h2.length;have l2:=h4.length;have l3:=rv.length;have l4:=rv2.length
     have:=SeqAt.RcAt.tuples pl pl2 hA0 (zcY ih ht hu hA h2 h4 rv rv2)
     simp only [List.size_toArray] at this
     unfold eqT
     by_cases hl:ts.length=us.length
     ·rw [← zdf ts us hl]
      rw [show min its.length its2.length=ts.length by lia,show (its.length == its2.length)=true by simp;lia,Bool.and_true] at this
      exact this
     ·rw [zcr ts us hl]
      rw [show (its.length == its2.length)=false by simp;lia,Bool.and_false] at this
      exact this
end
end TL
namespace TL
open PySem PySem.Spec L2
theorem zqb {A:Around} {s:Shared} {y x:V} {p q:Value} (ry:RelV y p) (rx:RelV x q) (fy:zfG y=true) (fx:zfG x=true):SeqAt.RcAt A s p q (eqV y x):=by
 cases y with
 | non =>
  cases ry
  cases x with
  | non=>cases rx;exact SeqAt.RcAt.none_none
  | bl b=>cases rx;exact SeqAt.RcAt.none_bool b
  | int b=>obtain⟨u,rfl⟩:=rx;exact SeqAt.RcAt.none_int b u
  | str b=>obtain⟨u,rfl⟩:=rx;exact SeqAt.RcAt.none_str b u
  | _=>exact absurd (show false=true from fx) Bool.false_ne_true
 | bl a =>
  cases ry
  cases x with
  | non=>cases rx;exact SeqAt.RcAt.bool_none a
  | bl b=>cases rx;exact SeqAt.RcAt.bool_bool a b
  | int b=>obtain⟨u,rfl⟩:=rx;exact SeqAt.RcAt.bool_int a b u
  | str b=>obtain⟨u,rfl⟩:=rx;exact SeqAt.RcAt.bool_str a b u
  | _=>exact absurd (show false=true from fx) Bool.false_ne_true
 | int a =>
  obtain⟨t,rfl⟩:=ry
  cases x with
  | non=>cases rx;exact SeqAt.RcAt.int_none a t
  | bl b=>cases rx;exact SeqAt.RcAt.int_bool a t b
  | int b=>obtain⟨u,rfl⟩:=rx;exact SeqAt.RcAt.int_int a t b u
  | str b=>obtain⟨u,rfl⟩:=rx;exact SeqAt.RcAt.int_str a t b u
  | _=>exact absurd (show false=true from fx) Bool.false_ne_true
 | str a =>
  obtain⟨t,rfl⟩:=ry
  cases x with
  | non=>cases rx;exact SeqAt.RcAt.str_none a t
  | bl b=>cases rx;exact SeqAt.RcAt.str_bool a t b
  | int b=>obtain⟨u,rfl⟩:=rx;exact SeqAt.RcAt.str_int a t b u
  | str b=>obtain⟨u,rfl⟩:=rx;exact SeqAt.RcAt.str_str a t b u
  | _=>exact absurd (show false=true from fx) Bool.false_ne_true
 | _=>exact absurd (show false=true from fy) Bool.false_ne_true
theorem zmq {A:Around} {s:Shared} {y x:V} {p q:Value} (ry:RelV y p) (rx:RelV x q) (fy:zfG y=true) (fx:zfG x=true):SeqAt.RcNeAt A s p q (!eqV y x):=by
 cases y with
 | non =>
  cases ry
  cases x with
  | non=>cases rx;exact SeqAt.RcNeAt.none_none
  | bl b=>cases rx;exact SeqAt.RcNeAt.none_bool b
  | int b=>obtain⟨u,rfl⟩:=rx;exact SeqAt.RcNeAt.none_int b u
  | str b=>obtain⟨u,rfl⟩:=rx;exact SeqAt.RcNeAt.none_str b u
  | _=>exact absurd (show false=true from fx) Bool.false_ne_true
 | bl a =>
  cases ry
  cases x with
  | non=>cases rx;exact SeqAt.RcNeAt.bool_none a
  | bl b=>cases rx;exact SeqAt.RcNeAt.bool_bool a b
  | int b=>obtain⟨u,rfl⟩:=rx;exact SeqAt.RcNeAt.bool_int a b u
  | str b=>obtain⟨u,rfl⟩:=rx;exact SeqAt.RcNeAt.bool_str a b u
  | _=>exact absurd (show false=true from fx) Bool.false_ne_true
 | int a =>
  obtain⟨t,rfl⟩:=ry
  cases x with
  | non=>cases rx;exact SeqAt.RcNeAt.int_none a t
  | bl b=>cases rx;exact SeqAt.RcNeAt.int_bool a t b
  | int b=>obtain⟨u,rfl⟩:=rx;exact SeqAt.RcNeAt.int_int a t b u
  | str b=>obtain⟨u,rfl⟩:=rx;exact SeqAt.RcNeAt.int_str a t b u
  | _=>exact absurd (show false=true from fx) Bool.false_ne_true
 | str a =>
  obtain⟨t,rfl⟩:=ry
  cases x with
  | non=>cases rx;exact SeqAt.RcNeAt.str_none a t
  | bl b=>cases rx;exact SeqAt.RcNeAt.str_bool a t b
  | int b=>obtain⟨u,rfl⟩:=rx;exact SeqAt.RcNeAt.str_int a t b u
  | str b=>obtain⟨u,rfl⟩:=rx;exact SeqAt.RcNeAt.str_str a t b u
  | _=>exact absurd (show false=true from fx) Bool.false_ne_true
 | _=>exact absurd (show false=true from fy) Bool.false_ne_true
section
variable {X:Cx} {pins:List (Addr×Obj)} {σ:St} {H:Hp} {s:Shared} {S:Addr→Prop} {md:Md}
theorem zr3 (I:Inv X pins σ H s) (d:Nat) (A:Around) (t u:T) (x y:V) (vx vy:Value) (ht:okT (d + 1) t=true) (hu:okT (d + 1) u=true) (hA:A.units + (d + 1) < cLine) (d1:Den X.K H S t .al [] x) (d2:Den X.K H S u .al [] y) (r1:RelV x vx) (r2:RelV y vy):SeqAt.RcAt A s vx vy (eqT t u):=by
 have hA0:A.units < cLine:=by lia
 cases t with
 | scr ns=>unfold okT at ht;cases ht
 | sc w =>
  obtain⟨_,rfl⟩:=zaf.mp d1
  cases u with
  | scr ns=>unfold okT at hu;cases hu
  | sc w2 =>
   obtain⟨_,rfl⟩:=zaf.mp d2
   have e:eqT (.sc x) (.sc y)=eqV x y:=by unfold eqT;rfl
   rw [e]
   exact zqb r1 r2 ht hu
  | lst us =>
   obtain⟨_,a,vs,rfl,_,h1,h2⟩:=zak.mp d2
   cases r2
   obtain⟨its,_,pl,_⟩:=I.list (.of h1)
   have e:eqT (.sc x) (.lst us)=false:=by unfold eqT;rfl
   rw [e]
   cases x with
   | non=>cases r1;exact SeqAt.RcAt.none_list pl.isList hA0
   | bl b=>cases r1;exact SeqAt.RcAt.bool_list b pl.isList hA0
   | int i=>obtain⟨t,rfl⟩:=r1;exact SeqAt.RcAt.int_list i t pl.isList hA0
   | str i=>obtain⟨t,rfl⟩:=r1;exact SeqAt.RcAt.str_list i t pl.isList hA0
   | _=>cases ht
  | tup us =>
   obtain⟨_,a,vs,rfl,h1,h2⟩:=zao.mp d2
   cases r2
   obtain⟨its,_,pl,_⟩:=I.tuple h1
   have e:eqT (.sc x) (.tup us)=false:=by unfold eqT;rfl
   rw [e]
   cases x with
   | non=>cases r1;exact SeqAt.RcAt.none_tuple pl hA0
   | bl b=>cases r1;exact SeqAt.RcAt.bool_tuple b pl hA0
   | int i=>obtain⟨t,rfl⟩:=r1;exact SeqAt.RcAt.int_tuple i t pl hA0
   | str i=>obtain⟨t,rfl⟩:=r1;exact SeqAt.RcAt.str_tuple i t pl hA0
   | _=>cases ht
 | lst ts =>
  obtain⟨_,a,vs,rfl,_,h1,h2⟩:=zak.mp d1
  cases r1
  obtain⟨its,rv,pl,_⟩:=I.list (.of h1)
  cases u with
  | scr ns=>unfold okT at hu;cases hu
  | sc w =>
   obtain⟨_,rfl⟩:=zaf.mp d2
   have e:eqT (.lst ts) (.sc y)=false:=by unfold eqT;rfl
   rw [e]
   cases y with
   | non=>cases r2;exact SeqAt.RcAt.list_none pl.isList hA0
   | bl b=>cases r2;exact SeqAt.RcAt.list_bool b pl.isList hA0
   | int i=>obtain⟨t,rfl⟩:=r2;exact SeqAt.RcAt.list_int i t pl.isList hA0
   | str i=>obtain⟨t,rfl⟩:=r2;exact SeqAt.RcAt.list_str i t pl.isList hA0
   | _=>cases hu
  | tup us =>
   obtain⟨_,b,ws,rfl,h3,h4⟩:=zao.mp d2
   cases r2
   obtain⟨its2,rv2,pl2,_⟩:=I.tuple h3
   have e:eqT (.lst ts) (.tup us)=false:=by unfold eqT;rfl
   rw [e]
   exact SeqAt.RcAt.list_tuple pl.isList pl2 hA0
  | lst us =>
   obtain⟨_,b,ws,rfl,_,h3,h4⟩:=zak.mp d2
   cases r2
   obtain⟨its2,rv2,pl2,_⟩:=I.list (.of h3)
   have l1:=h2.length;have l2:=h4.length;have l3:=rv.length;have l4:=rv2.length
   unfold eqT
   by_cases hl:ts.length=us.length
   ·rw [← zdf ts us hl]
    have:=SeqAt.RcAt.lists pl.isList pl2.isList (by simp;lia) hA0 (zcY (zmV I d) ht hu hA h2 h4 rv rv2)
    simp only [List.size_toArray] at this
    rw [show its.length=ts.length by lia] at this
    exact this
   ·rw [zcr ts us hl]
    exact SeqAt.RcAt.lists_lengths pl.isList pl2.isList (by simp;lia) hA0
 | tup ts =>
  obtain⟨_,a,vs,rfl,h1,h2⟩:=zao.mp d1
  cases r1
  obtain⟨its,rv,pl,_⟩:=I.tuple h1
  cases u with
  | scr ns=>unfold okT at hu;cases hu
  | sc w =>
   obtain⟨_,rfl⟩:=zaf.mp d2
   have e:eqT (.tup ts) (.sc y)=false:=by unfold eqT;rfl
   rw [e]
   cases y with
   | non=>cases r2;exact SeqAt.RcAt.tuple_none pl hA0
   | bl b=>cases r2;exact SeqAt.RcAt.tuple_bool b pl hA0
   | int i=>obtain⟨t,rfl⟩:=r2;exact SeqAt.RcAt.tuple_int i t pl hA0
   | str i=>obtain⟨t,rfl⟩:=r2;exact SeqAt.RcAt.tuple_str i t pl hA0
   | _=>cases hu
  | lst us =>
   obtain⟨_,b,ws,rfl,_,h3,h4⟩:=zak.mp d2
   cases r2
   obtain⟨its2,rv2,pl2,_⟩:=I.list (.of h3)
   have e:eqT (.tup ts) (.lst us)=false:=by unfold eqT;rfl
   rw [e]
   exact SeqAt.RcAt.tuple_list pl pl2.isList hA0
  | tup us =>
   obtain⟨_,b,ws,rfl,h3,h4⟩:=zao.mp d2
   cases r2
   obtain⟨its2,rv2,pl2,_⟩:=I.tuple h3
   have l1:=h2.length;have l2:=h4.length;have l3:=rv.length;have l4:=rv2.length
   have:=SeqAt.RcAt.tuples pl pl2 hA0 (zcY (zmV I d) ht hu hA h2 h4 rv rv2)
   simp only [List.size_toArray] at this
   unfold eqT
   by_cases hl:ts.length=us.length
   ·rw [← zdf ts us hl]
    rw [show min its.length its2.length=ts.length by lia,show (its.length == its2.length)=true by simp;lia,Bool.and_true] at this
    exact this
   ·rw [zcr ts us hl]
    rw [show (its.length == its2.length)=false by simp;lia,Bool.and_false] at this
    exact this
theorem zow (I:Inv X pins σ H s) (d:Nat) (A:Around) (t u:T) (x y:V) (vx vy:Value) (ht:okT (d + 1) t=true) (hu:okT (d + 1) u=true) (hA:A.units + (d + 1) < cLine) (d1:Den X.K H S t .al [] x) (d2:Den X.K H S u .al [] y) (r1:RelV x vx) (r2:RelV y vy):SeqAt.RcNeAt A s vx vy (!eqT t u):=by
 have hA0:A.units < cLine:=by lia
 cases t with
 | scr ns=>unfold okT at ht;cases ht
 | sc w =>
  obtain⟨_,rfl⟩:=zaf.mp d1
  cases u with
  | scr ns=>unfold okT at hu;cases hu
  | sc w2 =>
   obtain⟨_,rfl⟩:=zaf.mp d2
   have e:eqT (.sc x) (.sc y)=eqV x y:=by unfold eqT;rfl
   rw [e]
   exact zmq r1 r2 ht hu
  | lst us =>
   obtain⟨_,a,vs,rfl,_,h1,h2⟩:=zak.mp d2
   cases r2
   obtain⟨its,_,pl,_⟩:=I.list (.of h1)
   have e:eqT (.sc x) (.lst us)=false:=by unfold eqT;rfl
   rw [e]
   cases x with
   | non=>cases r1;exact SeqAt.RcNeAt.none_list pl.isList hA0
   | bl b=>cases r1;exact SeqAt.RcNeAt.bool_list b pl.isList hA0
   | int i=>obtain⟨t,rfl⟩:=r1;exact SeqAt.RcNeAt.int_list i t pl.isList hA0
   | str i=>obtain⟨t,rfl⟩:=r1;exact SeqAt.RcNeAt.str_list i t pl.isList hA0
   | _=>cases ht
  | tup us =>
   obtain⟨_,a,vs,rfl,h1,h2⟩:=zao.mp d2
   cases r2
   obtain⟨its,_,pl,_⟩:=I.tuple h1
   have e:eqT (.sc x) (.tup us)=false:=by unfold eqT;rfl
   rw [e]
   cases x with
   | non=>cases r1;exact SeqAt.RcNeAt.none_tuple pl hA0
   | bl b=>cases r1;exact SeqAt.RcNeAt.bool_tuple b pl hA0
   | int i=>obtain⟨t,rfl⟩:=r1;exact SeqAt.RcNeAt.int_tuple i t pl hA0
   | str i=>obtain⟨t,rfl⟩:=r1;exact SeqAt.RcNeAt.str_tuple i t pl hA0
   | _=>cases ht
 | lst ts =>
  obtain⟨_,a,vs,rfl,_,h1,h2⟩:=zak.mp d1
  cases r1
  obtain⟨its,rv,pl,_⟩:=I.list (.of h1)
  cases u with
  | scr ns=>unfold okT at hu;cases hu
  | sc w =>
   obtain⟨_,rfl⟩:=zaf.mp d2
   have e:eqT (.lst ts) (.sc y)=false:=by unfold eqT;rfl
   rw [e]
   cases y with
   | non=>cases r2;exact SeqAt.RcNeAt.list_none pl.isList hA0
   | bl b=>cases r2;exact SeqAt.RcNeAt.list_bool b pl.isList hA0
   | int i=>obtain⟨t,rfl⟩:=r2;exact SeqAt.RcNeAt.list_int i t pl.isList hA0
   | str i=>obtain⟨t,rfl⟩:=r2;exact SeqAt.RcNeAt.list_str i t pl.isList hA0
   | _=>cases hu
  | tup us =>
   obtain⟨_,b,ws,rfl,h3,h4⟩:=zao.mp d2
   cases r2
   obtain⟨its2,rv2,pl2,_⟩:=I.tuple h3
   have e:eqT (.lst ts) (.tup us)=false:=by unfold eqT;rfl
   rw [e]
   exact SeqAt.RcNeAt.list_tuple pl.isList pl2 hA0
  | lst us =>
   obtain⟨_,b,ws,rfl,_,h3,h4⟩:=zak.mp d2
   cases r2
   obtain⟨its2,rv2,pl2,_⟩:=I.list (.of h3)
   have l1:=h2.length;have l2:=h4.length;have l3:=rv.length;have l4:=rv2.length
   unfold eqT
   by_cases hl:ts.length=us.length
   ·rw [← zdf ts us hl]
    have:=SeqAt.RcNeAt.lists pl.isList pl2.isList (by simp;lia) hA0 (zcY (zmV I d) ht hu hA h2 h4 rv rv2)
    simp only [List.size_toArray] at this
    rw [show its.length=ts.length by lia] at this
    exact this
   ·rw [zcr ts us hl]
    exact SeqAt.RcNeAt.lists_lengths pl.isList pl2.isList (by simp;lia) hA0
 | tup ts =>
  obtain⟨_,a,vs,rfl,h1,h2⟩:=zao.mp d1
  cases r1
  obtain⟨its,rv,pl,_⟩:=I.tuple h1
  cases u with
  | scr ns=>unfold okT at hu;cases hu
  | sc w =>
   obtain⟨_,rfl⟩:=zaf.mp d2
   have e:eqT (.tup ts) (.sc y)=false:=by unfold eqT;rfl
   rw [e]
   cases y with
   | non=>cases r2;exact SeqAt.RcNeAt.tuple_none pl hA0
   | bl b=>cases r2;exact SeqAt.RcNeAt.tuple_bool b pl hA0
   | int i=>obtain⟨t,rfl⟩:=r2;exact SeqAt.RcNeAt.tuple_int i t pl hA0
   | str i=>obtain⟨t,rfl⟩:=r2;exact SeqAt.RcNeAt.tuple_str i t pl hA0
   | _=>cases hu
  | lst us =>
   obtain⟨_,b,ws,rfl,_,h3,h4⟩:=zak.mp d2
   cases r2
   obtain⟨its2,rv2,pl2,_⟩:=I.list (.of h3)
   have e:eqT (.tup ts) (.lst us)=false:=by unfold eqT;rfl
   rw [e]
   exact SeqAt.RcNeAt.tuple_list pl pl2.isList hA0
  | tup us =>
   obtain⟨_,b,ws,rfl,h3,h4⟩:=zao.mp d2
   cases r2
   obtain⟨its2,rv2,pl2,_⟩:=I.tuple h3
   have l1:=h2.length;have l2:=h4.length;have l3:=rv.length;have l4:=rv2.length
   have:=SeqAt.RcNeAt.tuples pl pl2 hA0 (zcY (zmV I d) ht hu hA h2 h4 rv rv2)
   simp only [List.size_toArray] at this
   unfold eqT
   by_cases hl:ts.length=us.length
   ·rw [← zdf ts us hl]
    rw [show min its.length its2.length=ts.length by lia,show (its.length == its2.length)=true by simp;lia,Bool.and_true] at this
    exact this
   ·rw [zcr ts us hl]
    rw [show (its.length == its2.length)=false by simp;lia,Bool.and_false] at this
    exact this
theorem OpR.imp {f:Value→Value→Sem Value} {r r':R2} (h:OpR X f r) (k:∀ x y H Q,r' x y H Q→r x y H Q):OpR X f r':=fun pins s σ H x y v u Q I r1 r2 q=>h pins s σ H x y v u Q I r1 r2 (k x y H Q q)
theorem UnR.imp {f:Value→Sem Value} {r r':V→Hp→VK→Prop} (h:UnR X f r) (k:∀ x H Q,r' x H Q→r x H Q):UnR X f r':=fun pins s σ H x v Q I r1 q=>h pins s σ H x v Q I r1 (k x H Q q)
theorem zbF.imp {f:Value} {r r':List V→Hp→VK→Prop} (h:zbF X f r) (k:∀ x H Q,r' x H Q→r x H Q):zbF X f r':=fun pins s σ H xs us Q I r1 q=>h pins s σ H xs us Q I r1 (k xs H Q q)
noncomputable def oI (g:Int→Int→Option V):T→T→Option T
 | .sc (.int i),.sc (.int j)=>(g i j).map .sc
 | _,_=>none
theorem zdt {K:PySem.W.Frag} {g:Int→Int→Option V} {x y:V} {H:Hp} {Q:VK} (h:rT K md (oI g) x y H Q):∃ i j v,x=.int i∧y=.int j∧g i j=some v∧Q v H:=by
 obtain⟨S,t,u,dm,d1,d2,h⟩:=h
 unfold oI at h
 split at h
 ·rename_i i j
  obtain⟨_,rfl⟩:=zaf.mp d1
  obtain⟨_,rfl⟩:=zaf.mp d2
  cases e:g i j with
  | none=>rw [e] at h;exact (show False from h).elim
  | some v=>rw [e] at h;exact⟨i,j,v,rfl,rfl,e,h v H S [] (Got.sc dm v)⟩
 ·exact (show False from h).elim
noncomputable def iAdd (i j:Int):Option V:=some (.int (i + j))
noncomputable def iSub (i j:Int):Option V:=some (.int (i - j))
noncomputable def iMul (i j:Int):Option V:=if (-(2 ^ 64) < i∧i < 2 ^ 64)∨(-(2 ^ 64) < j∧j < 2 ^ 64) then some (.int (i * j)) else none
noncomputable def iDiv (i j:Int):Option V:=if 0 < j∧j < 1073741824 then some (.int (i / j)) else none
noncomputable def iMod (i j:Int):Option V:=if 0 < j then some (.int (i % j)) else none
noncomputable def iPow (i j:Int):Option V:=if 0≤j∧j≤1000000∧i.natAbs < 2 ^ 64 then some (.int (i ^ j.toNat)) else none
noncomputable def iLt (i j:Int):Option V:=some (.bl (decide (i < j)))
noncomputable def iLe (i j:Int):Option V:=some (.bl (decide (i≤j)))
noncomputable def iGt (i j:Int):Option V:=some (.bl (decide (j < i)))
theorem za4:OpR X (binaryOp .Add) (rT X.K md (oI iAdd)):=OpR.imp zqC fun x y H Q h=>by
 obtain⟨i,j,v,rfl,rfl,e,q⟩:=zdt h
 cases e
 exact⟨i,j,rfl,rfl,q⟩
theorem zeo:OpR X (binaryOp .Sub) (rT X.K md (oI iSub)):=OpR.imp zqw fun x y H Q h=>by
 obtain⟨i,j,v,rfl,rfl,e,q⟩:=zdt h
 cases e
 exact⟨i,j,rfl,rfl,q⟩
theorem zb4:OpR X (binaryOp .Mult) (rT X.K md (oI iMul)):=OpR.imp zqz fun x y H Q h=>by
 obtain⟨i,j,v,rfl,rfl,e,q⟩:=zdt h
 unfold iMul at e
 split at e
 ·cases e;exact⟨i,j,rfl,rfl,by assumption,q⟩
 ·cases e
theorem zbB:OpR X (binaryOp .FloorDiv) (rT X.K md (oI iDiv)):=OpR.imp zoM fun x y H Q h=>by
 obtain⟨i,j,v,rfl,rfl,e,q⟩:=zdt h
 unfold iDiv at e
 split at e
 ·cases e;exact⟨i,j,rfl,rfl,by assumption,q⟩
 ·cases e
theorem za7:OpR X (binaryOp .Mod) (rT X.K md (oI iMod)):=OpR.imp zqA fun x y H Q h=>by
 obtain⟨i,j,v,rfl,rfl,e,q⟩:=zdt h
 unfold iMod at e
 split at e
 ·cases e;exact⟨i,j,rfl,rfl,by assumption,q⟩
 ·cases e
theorem zsd:OpR X (binaryOp .Pow) (rT X.K md (oI iPow)):=OpR.imp zqy fun x y H Q h=>by
 obtain⟨i,j,v,rfl,rfl,e,q⟩:=zdt h
 unfold iPow at e
 split at e
 ·cases e;exact⟨i,j,rfl,rfl,by assumption,q⟩
 ·cases e
theorem o_lt:OpR X (compareOp .Lt) (rT X.K md (oI iLt)):=OpR.imp zsa fun x y H Q h=>by
 obtain⟨i,j,v,rfl,rfl,e,q⟩:=zdt h
 cases e
 exact⟨i,j,rfl,rfl,q⟩
theorem o_le:OpR X (compareOp .LtE) (rT X.K md (oI iLe)):=OpR.imp zsb fun x y H Q h=>by
 obtain⟨i,j,v,rfl,rfl,e,q⟩:=zdt h
 cases e
 exact⟨i,j,rfl,rfl,q⟩
theorem o_gt:OpR X (compareOp .Gt) (rT X.K md (oI iGt)):=OpR.imp zsc fun x y H Q h=>by
 obtain⟨i,j,v,rfl,rfl,e,q⟩:=zdt h
 cases e
 exact⟨i,j,rfl,rfl,q⟩
noncomputable def oNeg:T→Option T
 | .sc (.int i)=>some (.sc (.int (-i)))
 | _=>none
theorem zse:UnR X (unaryOp .USub) (r1T X.K md oNeg):=UnR.imp znA fun x H Q h=>by
 obtain⟨S,t,dm,d1,h⟩:=h
 unfold oNeg at h
 split at h
 ·rename_i i
  obtain⟨_,rfl⟩:=zaf.mp d1
  exact⟨i,rfl,h _ H S [] (Got.sc dm _)⟩
 ·exact (show False from h).elim
noncomputable def oEq (t u:T):Option T:=if okT 5 t=true∧okT 5 u=true then some (.sc (.bl (eqT t u))) else none
noncomputable def oNe (t u:T):Option T:=if okT 5 t=true∧okT 5 u=true then some (.sc (.bl (!eqT t u))) else none
theorem o_eq (hu:X.A.units + 5 < cLine):OpR X (compareOp .Eq) (rT X.K md oEq):=by
 intro pins s σ H x y v u Q I rx ry h
 obtain⟨S,t,w,dm,d1,d2,h⟩:=h
 unfold oEq at h
 split at h
 ·rename_i hk
  exact zr3 I 4 X.A t w x y v u hk.1 hk.2 hu d1 d2 rx ry _ _ _ _ ⟨.bl _,H,I,rfl,h _ H S [] (Got.sc dm _)⟩
 ·exact (show False from h).elim
theorem o_ne (hu:X.A.units + 5 < cLine):OpR X (compareOp .NotEq) (rT X.K md oNe):=by
 intro pins s σ H x y v u Q I rx ry h
 obtain⟨S,t,w,dm,d1,d2,h⟩:=h
 unfold oNe at h
 split at h
 ·rename_i hk
  exact zow I 4 X.A t w x y v u hk.1 hk.2 hu d1 d2 rx ry _ _ _ _ ⟨.bl _,H,I,rfl,h _ H S [] (Got.sc dm _)⟩
 ·exact (show False from h).elim
end
end TL
namespace TL
open PySem PySem.Spec L2
section
variable {X:Cx} {pins:List (Addr×Obj)} {σ:St} {H:Hp} {s:Shared} {S:Addr→Prop} {md:Md} {K:PySem.W.Frag}
noncomputable def zad (ns:List Int):List T:=ns.map fun n=>.sc (.int n)
noncomputable def oIx:T→T→Option T
 | .lst ts,.sc (.int i)=>atI ts i
 | .tup ts,.sc (.int i)=>atI ts i
 | .scr ns,.sc (.int i)=>(atI ns i).map fun n=>.sc (.int n)
 | _,_=>none
theorem zlY {ts:List T} {vs:List V} {i:Int} {t:T} (d:Dens K H S ts .al [] vs) (h:atI ts i=some t):∃ v,atI vs i=some v∧Den K H S t .al [] v:=by
 unfold atI at h ⊢
 rw [d.length]
 cases e:ixN ts.length i with
 | none=>rw [e] at h;cases h
 | some j =>
  rw [e] at h
  exact d.get h
theorem zif {α β:Type} (f:α→β) (xs:List α) (i:Int):atI (xs.map f) i=(atI xs i).map f:=by
 unfold atI
 rw [List.length_map]
 cases ixN xs.length i with
 | none=>rfl
 | some j=>simp
theorem o_ix:IxR X (rT X.K .al oIx):=by
 intro va sl pins s σ H x y v u Q I rx ry h hs
 obtain⟨S,t,w,dm,d1,d2,h⟩:=h
 unfold oIx at h
 split at h
 ·rename_i ts i
  obtain⟨_,a,vs,rfl,hS,h1,h2⟩:=zak.mp d1
  obtain⟨_,rfl⟩:=zaf.mp d2
  cases e:atI ts i with
  | none=>rw [e] at h;exact (show False from h).elim
  | some r =>
   rw [e] at h
   obtain⟨z,e1,e2⟩:=zlY h2 e
   exact zfd va sl pins s σ H _ _ v u Q I rx ry ⟨a,vs,i,z,rfl,rfl,.of h1,e1,h z H S [] ⟨.refl dm,List.nodup_nil,fun _ q=>(nomatch q),e2⟩⟩ hs
 ·rename_i ts i
  obtain⟨_,a,vs,rfl,h1,h2⟩:=zao.mp d1
  obtain⟨_,rfl⟩:=zaf.mp d2
  cases e:atI ts i with
  | none=>rw [e] at h;exact (show False from h).elim
  | some r =>
   rw [e] at h
   obtain⟨z,e1,e2⟩:=zlY h2 e
   exact zqZ va sl pins s σ H _ _ v u Q I rx ry ⟨a,vs,i,z,rfl,rfl,h1,e1,h z H S [] ⟨.refl dm,List.nodup_nil,fun _ q=>(nomatch q),e2⟩⟩ hs
 ·rename_i ns i
  obtain⟨_,a,rfl,h1⟩:=zia.mp d1
  obtain⟨_,rfl⟩:=zaf.mp d2
  cases e:atI ns i with
  | none=>rw [e] at h;exact (show False from h).elim
  | some r =>
   rw [e] at h
   exact zfd va sl pins s σ H _ _ v u Q I rx ry ⟨a,_,i,.int r,rfl,rfl,h1.sq,by rw [zif,e];rfl,h _ H S [] (Got.sc dm _)⟩ hs
 ·exact (show False from h).elim
noncomputable def zfH (ts:List T):Bool:=ts.all isSc
theorem zfj:∀ {ts:List T} {vs:List V},Dens K H S ts .al [] vs→zfH ts=true→Dens K H S ts .fu [] vs
 | [],vs,h,_=>by unfold Dens at h ⊢;exact h
 | t :: ts,vs,h,f=>by
  unfold zfH at f
  rw [List.all_cons,Bool.and_eq_true] at f
  unfold Dens at h ⊢
  obtain⟨A1,A2,v,vs',ea,q,d,r⟩:=h
  obtain⟨rfl,rfl⟩:=List.append_eq_nil_iff.mp ea.symm
  cases t with
  | sc w=>exact⟨[],[],v,vs',rfl,q,zaf.mpr (zaf.mp d),zfj r f.2⟩
  | scr _=>cases f.1
  | lst _=>cases f.1
  | tup _=>cases f.1
theorem zmE {ts:List T} {vs:List V} {p:Addr} (dm:Dom S H) (hp:H p=none) (d:Dens K H S ts .al [] vs) (hf:md=.sp∨(md=.fu∧zfH ts=true)):∃ A,Got K H S (upd H p (.lst vs)) S A (.ref p) md (.lst ts):=by
 rcases hf with rfl | ⟨rfl,hf⟩
 ·exact⟨_,Got.newSp dm hp d⟩
 ·exact⟨_,Got.newFu ⟨.refl dm,List.nodup_nil,fun _ z=>(nomatch z),zfj d hf⟩ hp⟩
noncomputable def zbV (md:Md) (ts:List T):Option T:=match md with
 | .sp=>some (.lst ts)
 | .fu=>if zfH ts=true then some (.lst ts) else none
 | .al=>none
theorem zkq {ts:List T} {t:T} (h:zbV md ts=some t):t=.lst ts∧(md=.sp∨(md=.fu∧zfH ts=true)):=by
 unfold zbV at h
 split at h
 ·cases h;exact⟨rfl,.inl rfl⟩
 ·split at h
  ·cases h;exact⟨rfl,.inr ⟨rfl,by assumption⟩⟩
  ·cases h
 ·cases h
theorem zdb {ts:List T} {vs:List V} {Q:VK} (dm:Dom S H) (d:Dens K H S ts .al [] vs) (h:endT K H S md Q (zbV md ts)):∀ p,H p=none→Q (.ref p) (upd H p (.lst vs)):=fun p hp=>by
 cases e:zbV md ts with
 | none=>rw [e] at h;exact (show False from h).elim
 | some t =>
  rw [e] at h
  obtain⟨rfl,hf⟩:=zkq e
  obtain⟨A,g⟩:=zmE dm hp d hf
  exact h _ _ S A g
noncomputable def oCat (md:Md):T→T→Option T
 | .lst xs,.lst ys=>if xs.length + ys.length≤sizeLine then zbV md (xs ++ ys) else none
 | _,_=>none
theorem zlf:OpR X (binaryOp .Add) (rT X.K md (oCat md)):=OpR.imp zqB fun x y H Q h=>by
 obtain⟨S,t,u,dm,d1,d2,h⟩:=h
 unfold oCat at h
 split at h
 ·rename_i xs ys
  split at h
  ·obtain⟨_,a,vs,rfl,hS,h1,h2⟩:=zak.mp d1
   obtain⟨_,b,ws,rfl,hS',h3,h4⟩:=zak.mp d2
   exact⟨a,b,vs,ws,rfl,rfl,h1,h3,by rw [h2.length,h4.length];assumption,zdb dm (h2.append h4) h⟩
  ·exact (show False from h).elim
 ·exact (show False from h).elim
noncomputable def repT (k:Nat) (xs:List T):List T:=(List.replicate k xs).flatten
theorem zjp {xs:List T} {vs:List V} (d:Dens K H S xs .al [] vs):∀ k,Dens K H S (repT k xs) .al [] (List.replicate k vs).flatten
 | 0=>Dens.nil
 | k + 1=>by
  unfold repT
  rw [List.replicate_succ,List.replicate_succ,List.flatten_cons,List.flatten_cons]
  exact d.append (A1:=[]) (A2:=[]) (zjp d k)
noncomputable def oRep (md:Md):T→T→Option T
 | .lst xs,.sc (.int k)=>if -(2 ^ 63)≤k∧k < 2 ^ 63∧xs.length * k.toNat≤sizeLine then zbV md (repT k.toNat xs) else none
 | _,_=>none
theorem zqD:OpR X (binaryOp .Mult) (rT X.K md (oRep md)):=OpR.imp zqx fun x y H Q h=>by
 obtain⟨S,t,u,dm,d1,d2,h⟩:=h
 unfold oRep at h
 split at h
 ·rename_i xs k
  split at h
  ·rename_i hk
   obtain⟨_,a,vs,rfl,hS,h1,h2⟩:=zak.mp d1
   obtain⟨_,rfl⟩:=zaf.mp d2
   exact⟨a,k,vs,rfl,rfl,h1,hk.1,hk.2.1,by rw [h2.length];exact hk.2.2,zdb dm (zjp h2 _) h⟩
  ·exact (show False from h).elim
 ·exact (show False from h).elim
theorem za9 {t:T} {xs:List V} (d:Dens K H S [t] .al [] xs):∃ v,xs=[v]∧Den K H S t .al [] v:=by
 unfold Dens at d
 obtain⟨A1,A2,v,vs,ea,rfl,d1,d2⟩:=d
 unfold Dens at d2
 obtain⟨rfl,rfl⟩:=List.append_eq_nil_iff.mp ea.symm
 exact⟨v,by rw [d2.2],d1⟩
theorem zgu {t u:T} {xs:List V} (d:Dens K H S [t,u] .al [] xs):∃ v w,xs=[v,w]∧Den K H S t .al [] v∧Den K H S u .al [] w:=by
 unfold Dens at d
 obtain⟨A1,A2,v,vs,ea,rfl,d1,d2⟩:=d
 obtain⟨rfl,rfl⟩:=List.append_eq_nil_iff.mp ea.symm
 obtain⟨w,rfl,d3⟩:=za9 d2
 exact⟨v,w,rfl,d1,d3⟩
noncomputable def cLen:List T→Option T
 | [.lst ts]=>some (.sc (.int ts.length))
 | [.tup ts]=>some (.sc (.int ts.length))
 | [.scr ns]=>some (.sc (.int ns.length))
 | _=>none
theorem zcB:zbF X (.builtin "len") (rCT X.K md cLen):=zbF.imp zhg fun xs H Q h=>by
 obtain⟨S,ts,dm,d,h⟩:=h
 unfold cLen at h
 split at h
 ·rename_i us
  obtain⟨v,rfl,d1⟩:=za9 d
  obtain⟨_,a,vs,rfl,hS,h1,h2⟩:=zak.mp d1
  exact⟨a,vs,rfl,.inl (.of h1),by rw [h2.length];exact h _ H S [] (Got.sc dm _)⟩
 ·rename_i us
  obtain⟨v,rfl,d1⟩:=za9 d
  obtain⟨_,a,vs,rfl,h1,h2⟩:=zao.mp d1
  exact⟨a,vs,rfl,.inr h1,by rw [h2.length];exact h _ H S [] (Got.sc dm _)⟩
 ·rename_i ns
  obtain⟨v,rfl,d1⟩:=za9 d
  obtain⟨_,a,rfl,h1⟩:=zia.mp d1
  exact⟨a,_,rfl,.inl h1.sq,by rw [List.length_map];exact h _ H S [] (Got.sc dm _)⟩
 ·exact (show False from h).elim
noncomputable def zeq (md:Md):List T→Option T
 | [.lst ts]=>zbV md ts
 | [.tup ts]=>zbV md ts
 | _=>none
theorem zhh:zbF X (.type "list") (rCT X.K md (zeq md)):=zbF.imp zhf fun xs H Q h=>by
 obtain⟨S,ts,dm,d,h⟩:=h
 unfold zeq at h
 split at h
 ·rename_i us
  obtain⟨v,rfl,d1⟩:=za9 d
  obtain⟨_,a,vs,rfl,hS,h1,h2⟩:=zak.mp d1
  exact⟨a,vs,rfl,.inl (.of h1),zdb dm h2 h⟩
 ·rename_i us
  obtain⟨v,rfl,d1⟩:=za9 d
  obtain⟨_,a,vs,rfl,h1,h2⟩:=zao.mp d1
  exact⟨a,vs,rfl,.inr h1,zdb dm h2 h⟩
 ·exact (show False from h).elim
noncomputable def cInt:List T→Option T
 | [.sc (.int i)]=>some (.sc (.int i))
 | [.sc (.bl b)]=>some (.sc (.int (if b then 1 else 0)))
 | _=>none
theorem zra:zbF X (.type "int") (rCT X.K md cInt):=zbF.imp zlT fun xs H Q h=>by
 obtain⟨S,ts,dm,d,h⟩:=h
 unfold cInt at h
 split at h
 ·obtain⟨v,rfl,d1⟩:=za9 d
  obtain⟨_,rfl⟩:=zaf.mp d1
  exact .inl ⟨_,rfl,h _ H S [] (Got.sc dm _)⟩
 ·obtain⟨v,rfl,d1⟩:=za9 d
  obtain⟨_,rfl⟩:=zaf.mp d1
  exact .inr ⟨_,rfl,h _ H S [] (Got.sc dm _)⟩
 ·exact (show False from h).elim
noncomputable def zbm:List T→Option (List Int)
 | []=>some []
 | t :: ts=>(asI t).bind fun i=>(zbm ts).map (i :: ·)
theorem zca:∀ {ts:List T} {vs:List V} {ns:List Int},Dens K H S ts .al [] vs→zbm ts=some ns→vs=ns.map V.int
 | [],vs,ns,d,h=>by unfold zbm at h;cases h;unfold Dens at d;rw [d.2];rfl
 | t :: ts,vs,ns,d,h=>by
  unfold zbm at h
  unfold Dens at d
  obtain⟨A1,A2,v,vs',ea,rfl,d1,d2⟩:=d
  obtain⟨rfl,rfl⟩:=List.append_eq_nil_iff.mp ea.symm
  cases e:asI t with
  | none=>rw [e] at h;cases h
  | some i =>
   rw [e] at h
   cases e2:zbm ts with
   | none=>rw [e2] at h;cases h
   | some ms =>
    rw [e2] at h
    have h':some (i :: ms)=some ns:=h
    cases h'
    obtain rfl:=zjx e
    obtain⟨_,rfl⟩:=zaf.mp d1
    rw [zca d2 e2]
    rfl
@[simp] theorem zcR:∀ ns:List Int,zbm (zad ns)=some ns
 | []=>rfl
 | n :: ns=>by
  show (asI (.sc (.int n))).bind (fun i=>(zbm (zad ns)).map (i :: ·))=_
  rw [zcR ns]
  rfl
theorem zd2:∀ (ns:List Int) (m:Md),Dens K H S (zad ns) m [] (ns.map V.int)
 | [],m=>Dens.nil
 | n :: ns,m=>Dens.cons (A1:=[]) (A2:=[]) (zcP _) (zd2 ns m)
theorem zcM (I:Inv X pins σ H s) {a:Addr} {vs:List V} {ns:List Int} (h:H a=some (.lst vs)) (e:vs=ns.map V.int):∃ its:List Value,PyProof.Rows.IntsAre its ns∧s.heap.IsList a its.toArray∧ns.length≤sizeLine∧its.length=ns.length:=by
 subst e
 obtain⟨its,r,pl,hz⟩:=I.list (.of h)
 have:=r.length
 rw [List.length_map] at this hz
 exact⟨its,zkf r,pl.isList,hz,this.symm⟩
noncomputable def cSum:List T→Option T
 | [.lst ts]=>(zbm ts).map fun ns=>.sc (.int ns.sum)
 | _=>none
noncomputable def cMin:List T→Option T
 | [.lst ts]=>(zbm ts).bind fun ns=>ns.min?.map fun n=>.sc (.int n)
 | _=>none
noncomputable def cMax:List T→Option T
 | [.lst ts]=>(zbm ts).bind fun ns=>ns.max?.map fun n=>.sc (.int n)
 | _=>none
theorem zq9 (hc:X.calm=true):zbF X (.builtin "sum") (rCT X.K md cSum):=by
 intro pins s σ H xs us Q I r h
 obtain⟨S,ts,dm,d,h⟩:=h
 unfold cSum at h
 split at h
 ·rename_i ts
  obtain⟨v,rfl,d1⟩:=za9 d
  obtain⟨_,a,vs,rfl,hS,h1,h2⟩:=zak.mp d1
  obtain⟨u,rfl,rx⟩:=zf9 r
  cases rx
  cases e:zbm ts with
  | none=>rw [e] at h;exact (show False from h).elim
  | some ns =>
   rw [e] at h
   obtain⟨its,i1,i2,_,_⟩:=zcM I h1 (zca h2 e)
   obtain⟨xs,ex⟩:=i1.allInts.items
   have hns:ns=xs.toList.map (·.1):=by rw [← i1.numsOf,← nums_intItems,← ex]
   rw [ex] at i2
   refine sum_intListG (I.ok.hd hc) i2 fun h' tk t' hk=>⟨.int ns.sum,H,I.kept hk,⟨t',?_⟩,h _ H S [] (Got.sc dm _)⟩
   rw [preSum_eq,List.take_of_length_le (by simp),hns]
 ·exact (show False from h).elim
theorem zsQ (hc:X.calm=true):zbF X (.builtin "min") (rCT X.K md cMin):=by
 intro pins s σ H xs us Q I r h
 obtain⟨S,ts,dm,d,h⟩:=h
 unfold cMin at h
 split at h
 ·rename_i ts
  obtain⟨v,rfl,d1⟩:=za9 d
  obtain⟨_,a,vs,rfl,hS,h1,h2⟩:=zak.mp d1
  obtain⟨u,rfl,rx⟩:=zf9 r
  cases rx
  cases e:zbm ts with
  | none=>rw [e] at h;exact (show False from h).elim
  | some ns =>
   rw [e] at h
   obtain⟨its,i1,i2,_,_⟩:=zcM I h1 (zca h2 e)
   cases e2:ns.min? with
   | none=>have h':endT X.K H S md Q ((ns.min?).map fun n=>.sc (.int n)):=h;rw [e2] at h';exact (show False from h').elim
   | some M =>
    have h':endT X.K H S md Q ((ns.min?).map fun n=>.sc (.int n)):=h
    rw [e2] at h'
    obtain⟨m1,m2⟩:=(List.min?_eq_some_iff).mp e2
    have hne:0 < ns.length:=List.length_pos_of_mem m1
    obtain⟨xs,ex⟩:=i1.allInts.items
    have hns:ns=xs.toList.map (·.1):=by rw [← i1.numsOf,← nums_intItems,← ex]
    rw [ex] at i2
    have hsz:0 < xs.size:=by rw [hns,List.length_map,Array.length_toList] at hne;exact hne
    refine min_intList (I.ok.hd hc) i2 hsz fun v h2 tk hv hk=>?_
    obtain⟨t,rfl⟩:=intItems_at hv
    obtain⟨q1,q2⟩:=argBest_lt (numAt xs) (xs.size - 1)
    refine ⟨.int M,H,I.kept hk,⟨t,?_⟩,h' _ H S [] (Got.sc dm _)⟩
    have a1:numAt xs (argBest (fun i j=>decide (numAt xs i < numAt xs j)) (xs.size - 1))∈ns:=by
     rw [hns,numAt_eq];exact getD_mem (by rw [List.length_map,Array.length_toList];lia)
    have a2:∀ z∈ns,numAt xs (argBest (fun i j=>decide (numAt xs i < numAt xs j)) (xs.size - 1))≤z:=fun z hz=>by
     rw [hns] at hz
     obtain⟨j,hj,rfl⟩:=mem_getD hz
     rw [List.length_map,Array.length_toList] at hj
     rw [← numAt_eq];exact q2 j (by lia)
    rw [Int.le_antisymm (a2 M m1) (m2 _ a1)]
 ·exact (show False from h).elim
theorem zsR (hc:X.calm=true):zbF X (.builtin "max") (rCT X.K md cMax):=by
 intro pins s σ H xs us Q I r h
 obtain⟨S,ts,dm,d,h⟩:=h
 unfold cMax at h
 split at h
 ·rename_i ts
  obtain⟨v,rfl,d1⟩:=za9 d
  obtain⟨_,a,vs,rfl,hS,h1,h2⟩:=zak.mp d1
  obtain⟨u,rfl,rx⟩:=zf9 r
  cases rx
  cases e:zbm ts with
  | none=>rw [e] at h;exact (show False from h).elim
  | some ns =>
   rw [e] at h
   obtain⟨its,i1,i2,_,_⟩:=zcM I h1 (zca h2 e)
   cases e2:ns.max? with
   | none=>have h':endT X.K H S md Q ((ns.max?).map fun n=>.sc (.int n)):=h;rw [e2] at h';exact (show False from h').elim
   | some M =>
    have h':endT X.K H S md Q ((ns.max?).map fun n=>.sc (.int n)):=h
    rw [e2] at h'
    obtain⟨m1,m2⟩:=(List.max?_eq_some_iff).mp e2
    have hne:0 < ns.length:=List.length_pos_of_mem m1
    obtain⟨xs,ex⟩:=i1.allInts.items
    have hns:ns=xs.toList.map (·.1):=by rw [← i1.numsOf,← nums_intItems,← ex]
    rw [ex] at i2
    have hsz:0 < xs.size:=by rw [hns,List.length_map,Array.length_toList] at hne;exact hne
    refine max_intList (I.ok.hd hc) i2 hsz fun v h2 tk hv hk=>?_
    obtain⟨t,rfl⟩:=intItems_at hv
    obtain⟨q1,q2⟩:=argBest_gt (numAt xs) (xs.size - 1)
    refine ⟨.int M,H,I.kept hk,⟨t,?_⟩,h' _ H S [] (Got.sc dm _)⟩
    have a1:numAt xs (argBest (fun i j=>decide (numAt xs i > numAt xs j)) (xs.size - 1))∈ns:=by
     rw [hns,numAt_eq];exact getD_mem (by rw [List.length_map,Array.length_toList];lia)
    have a2:∀ z∈ns,z≤numAt xs (argBest (fun i j=>decide (numAt xs i > numAt xs j)) (xs.size - 1)):=fun z hz=>by
     rw [hns] at hz
     obtain⟨j,hj,rfl⟩:=mem_getD hz
     rw [List.length_map,Array.length_toList] at hj
     rw [← numAt_eq];exact q2 j (by lia)
    rw [Int.le_antisymm (m2 _ a1) (a2 M m1)]
 ·exact (show False from h).elim
noncomputable def insI (x:Int):List Int→List Int
 | []=>[x]
 | y :: ys=>if x≤y then x :: y :: ys else y :: insI x ys
noncomputable def zbU:List Int→List Int
 | []=>[]
 | x :: xs=>insI x (zbU xs)
theorem zfh (x:Int):∀ ys:List Int,(insI x ys).Perm (x :: ys)
 | []=>.refl _
 | y :: ys=>by
  unfold insI
  split
  ·exact .refl _
  ·exact ((zfh x ys).cons y).trans (List.Perm.swap x y ys)
theorem zbr:∀ xs:List Int,(zbU xs).Perm xs
 | []=>.refl _
 | x :: xs=>(zfh x _).trans ((zbr xs).cons x)
theorem zfg (x:Int):∀ {ys:List Int},ys.Pairwise (·≤·)→(insI x ys).Pairwise (·≤·)
 | [],_=>by unfold insI;simp
 | y :: ys,h=>by
  unfold insI
  have h1:=List.pairwise_cons.mp h
  split
  ·rename_i hxy
   exact List.pairwise_cons.mpr ⟨fun z hz=>by rcases List.mem_cons.mp hz with rfl | hz;exact hxy;exact Int.le_trans hxy (h1.1 z hz),h⟩
  ·rename_i hxy
   refine List.pairwise_cons.mpr ⟨fun z hz=>?_,zfg x h1.2⟩
   rcases List.mem_cons.mp ((zfh x ys).mem_iff.mp hz) with rfl | hz
   ·lia
   ·exact h1.1 z hz
theorem zcE:∀ xs:List Int,(zbU xs).Pairwise (·≤·)
 | []=>List.Pairwise.nil
 | x :: xs=>zfg x (zcE xs)
theorem zeS {a b:List Int} (p:a.Perm b) (h1:a.Pairwise (·≤·)) (h2:b.Pairwise (·≤·)):a=b:=
 p.eq_of_pairwise (fun x y _ _ h g=>Int.le_antisymm h g) h1 h2
noncomputable def zd4:List T→Option T
 | [.lst ts]=>(zbm ts).map fun ns=>.lst (zad (zbU ns))
 | _=>none
theorem zjt:zbF X (.builtin "sorted") (rCT X.K .fu zd4):=by
 intro pins s σ H xs us Q I r h
 obtain⟨S,ts,dm,d,h⟩:=h
 unfold zd4 at h
 split at h
 ·rename_i ts
  obtain⟨v,rfl,d1⟩:=za9 d
  obtain⟨_,a,vs,rfl,hS,h1,h2⟩:=zak.mp d1
  obtain⟨u,rfl,rx⟩:=zf9 r
  cases rx
  cases e:zbm ts with
  | none=>rw [e] at h;exact (show False from h).elim
  | some ns =>
   rw [e] at h
   obtain⟨its,i1,i2,hz,hl⟩:=zcM I h1 (zca h2 e)
   refine Srt.sorted_any i2 i1 (by lia) fun out ns' a1 a2 a3=>?_
   have en:ns'=zbU ns:=zeS (a2.trans (zbr ns).symm) a3 (zcE ns)
   subst en
   obtain⟨e',he⟩:=PyProof.Rows.sortedAll_at s.heap its out
   refine ⟨.ref (s.heap.objs.size + 1),_,I.laid (t':=s.toks) (o:=.lst ((zbU ns).map V.int)) (fun b ob q=>PyProof.Rows.sortedAll_old q) (Nat.le_succ _) ⟨?_,_,e',zdp a1,?_⟩,rfl,h _ _ S _ (Got.newFu ⟨.refl dm,List.nodup_nil,fun _ z=>(nomatch z),zd2 _ _⟩ (I.hok.fresh (Nat.le_succ _)))⟩
   ·rw [List.length_map,(zbr ns).length_eq];exact hz
   ·rw [he]
 ·exact (show False from h).elim
end
end TL
namespace TL
open PySem PySem.Spec L2
section
variable {X:Cx} {z:Z} {pins:List (Addr×Obj)} {σ:St} {H:Hp} {s:Shared} {S:Addr→Prop} {md md1 md2:Md} {K:PySem.W.Frag} {F F1 F2:VEnv→Res T} {Fs:VEnv→Res (List T)} {e a b:Expr} {pos p2:Pos}
noncomputable abbrev OEnv:=VEnv→Res (Option Int)
noncomputable def zlg:OEnv:=fun _=>.ok none
noncomputable def zgY (F:VEnv→Res T):OEnv:=fun ρ=>(F ρ).bind fun t=>(Res.of (asI t)).bind fun i=>.ok (some i)
def tro (K:PySem.W.Frag) (z:Z) (F:OEnv):TO:=fun σ H Q=>∃ S ρ,OkE K z S ρ σ H∧match F ρ with
 | .ok o=>∀ H' S',Grow H S H' S'→Q o H'
 | .exc c=>∀ H',Same z.H₀ H'→z.E (.ref (z.cl c)) none H'
 | .bad=>False
theorem PO.imp {e:Option Expr} {t t':TO} (h:PO X e t) (k:∀ σ H Q,t' σ H Q→t σ H Q):PO X e t':=fun pins s σ H Q I q=>h pins s σ H Q I (k σ H Q q)
theorem zh4:PO X none (tro X.K z zlg):=PO.imp zoF fun σ H Q h=>by
 obtain⟨S,ρ,o,h⟩:=h
 exact h H S (.refl o.dom)
theorem zfa (h:JE X z md F e):PO X (some e) (tro X.K z (zgY F)):=PO.imp (zoE (JE.al h)) fun σ H Q h=>by
 obtain⟨S,ρ,o,h⟩:=h
 refine ⟨S,ρ,o,?_⟩
 unfold zgY at h
 try dsimp only at h
 cases e:F ρ with
 | exc c=>rw [e] at h;exact h
 | bad=>rw [e] at h;exact h
 | ok t =>
  rw [e,Res.bind_ok] at h
  intro v H' S' A g
  cases e2:asI t with
  | none=>rw [e2] at h;exact (show False from h).elim
  | some i =>
   rw [e2] at h
   obtain rfl:=zjx e2
   obtain⟨_,rfl⟩:=zaf.mp g.den
   exact⟨i,rfl,h H' S' g.g⟩
noncomputable def cutT (ts:List T) (lo hi:Option Int):List T:=(ts.drop (HT.sIx ts.length 0 lo)).take (HT.sIx ts.length ts.length hi - HT.sIx ts.length 0 lo)
theorem zmZ {ts:List T} {vs:List V} (d:Dens K H S ts .al [] vs) (lo hi:Option Int):Dens K H S (cutT ts lo hi) .al [] (cutV vs lo hi):=by
 unfold cutT cutV
 rw [d.length]
 exact (d.drop _).take _
noncomputable def eSl (md:Md) (F:VEnv→Res T) (Lo Hi:OEnv):VEnv→Res T:=fun ρ=>(F ρ).bind fun t=>(Lo ρ).bind fun lo=>(Hi ρ).bind fun hi=>.of ((asL t).bind fun ts=>zbV md (cutT ts lo hi))
theorem zey {lo hi:Option Expr} {Lo Hi:OEnv} (he:JE X z md1 F e) (hl:PO X lo (tro X.K z Lo)) (hh:PO X hi (tro X.K z Hi)):JE X z md (eSl md F Lo Hi) (.Subscript e (.Slice lo hi none p2) pos):=
 PE.imp (zmy zoj (JE.al he) hl hh) fun σ H Q h=>zcD h fun S ρ t v H1 S1 o _ g1 d q=>⟨S1,ρ,o,by
  try dsimp only at q
  cases e1:Lo ρ with
  | exc c=>rw [e1] at q;exact q
  | bad=>rw [e1] at q;exact q
  | ok l =>
   rw [e1,Res.bind_ok] at q
   intro H2 S2 g2
   refine ⟨S2,ρ,o.grow g2,?_⟩
   cases e2:Hi ρ with
   | exc c=>rw [e2] at q;exact q
   | bad=>rw [e2] at q;exact q
   | ok h =>
    rw [e2,Res.bind_ok] at q
    intro H3 S3 g3
    cases t with
    | lst ts =>
     have d3:=(d.mono g2.same g2.up).mono g3.same g3.up
     obtain⟨_,a,vs,rfl,hS,h1,h2⟩:=zak.mp d3
     exact⟨a,vs,rfl,.of h1,zdb g3.dom (zmZ h2 l h) (zei (z:=z) (endE.grow (g2.trans g3) q))⟩
    | sc _=>exact (show False from q).elim
    | scr _=>exact (show False from q).elim
    | tup _=>exact (show False from q).elim⟩
theorem zdF {α β:Type} {f g:α→Option β}:∀ {l:List α},(∀ x∈l,f x=g x)→l.filterMap f=l.filterMap g
 | [],_=>rfl
 | x :: l,h=>by
  rw [List.filterMap_cons,List.filterMap_cons,h x (List.mem_cons_self ..),zdF fun y hy=>h y (List.mem_cons_of_mem _ hy)]
theorem zkW (xs:List Value):(List.range xs.length).filterMap (fun (k:Nat)=>xs[((xs.length:Int) - 1 + -1 * (k:Int)).toNat]?)=xs.reverse:=by
 have h:=HT.pick_gen xs.reverse.toArray 0 xs.length
 have h2:(List.range xs.length).filterMap (fun (m:Nat)=>xs.reverse.toArray[(((0:Nat):Int) + (m:Int) * 1).toNat]?)=xs.reverse:=by
  have:=congrArg Array.toList h
  rw [List.take_of_length_le (by simp)] at this
  simpa using this
 refine Eq.trans (zdF ?_) h2
 intro k hk
 have hk:=List.mem_range.mp hk
 rw [show (((0:Nat):Int) + (k:Int) * 1).toNat=k by lia,show ((xs.length:Int) - 1 + -1 * (k:Int)).toNat=xs.length - 1 - k by lia]
 simp only [List.getElem?_toArray]
 rw [List.getElem?_reverse hk]
theorem zge (its:List Value):slicePick its.toArray none none (some (-1))=its.reverse.toArray:=by
 unfold slicePick
 have e:sliceBounds none none (some (-1)) its.toArray.size=((its.length:Int) - 1,-1,-1):=by
  simp [sliceBounds]
 rw [e]
 dsimp only
 unfold sliceRange
 have e2:(if (-1:Int) > 0 then (if ((its.length:Int) - 1) < -1 then (-1 - ((its.length:Int) - 1) + -1 - 1) / -1 else 0) else (if ((its.length:Int) - 1) > -1 then (((its.length:Int) - 1) - -1 - -1 - 1) / (- -1) else 0)).toNat=its.length:=by
  rw [if_neg (by decide)]
  by_cases h:((its.length:Int) - 1) > -1
  ·rw [if_pos h];simp
  ·rw [if_neg h];simp;lia
 dsimp only
 rw [e2,List.filterMap_map]
 congr 1
 rw [← zkW its]
 simp [Function.comp_def]
noncomputable def eRev (md:Md) (F:VEnv→Res T):VEnv→Res T:=fun ρ=>(F ρ).bind fun t=>.of ((asL t).bind fun ts=>zbV md ts.reverse)
theorem zqX {p3 p4:Pos} {jj} (he:JE X z md1 F e):JE X z md (eRev md F) (.Subscript e (.Slice none none (some (.UnaryOp .USub (.Constant (.int 1) jj p3) p4)) p2) pos):=by
 intro pins s σ H Q I h
 have he':=JE.al he
 refine PyProof.Rows.Subscript_ (thn (he' pins s σ H (fun x H1=>∃ a vs ts S1,x=.ref a∧H1 a=some (.lst vs)∧Dens X.K H1 S1 ts .al [] vs∧Dom S1 H1∧endT X.K H1 S1 md Q (zbV md ts.reverse)) I (zcD h fun S ρ t v H1 S1 o _ g1 d q=>?_)) fun v s1 ⟨x,H1,I1,r1,q1⟩=>?_)
 ·cases t with
  | lst ts =>
   obtain⟨_,a,vs,rfl,hS,h1,h2⟩:=zak.mp d
   exact⟨a,vs,ts,S1,rfl,h1,h2,g1.dom,zei (z:=z) q⟩
  | sc _=>exact (show False from q).elim
  | scr _=>exact (show False from q).elim
  | tup _=>exact (show False from q).elim
 ·obtain⟨a,vs,ts,S1,rfl,h1,h2,dm,q⟩:=q1
  cases r1
  refine wpAny_Slice ?_
  rw [evalPart_none]
  refine wpAny_pure ?_
  refine wpAny_pure ?_
  rw [evalPart_some]
  have hm:PE X (.UnaryOp .USub (.Constant (.int 1) jj p3) p4) (tUn (rU fun i=>.int (-i)) (tC (.int 1))):=zqp znA zk6
  refine thn (hm pins s1 σ H1 (fun x H2=>x=.int (-1)∧H2=H1) I1 ⟨1,rfl,rfl,rfl⟩) fun w s2 ⟨y,H2,I2,r2,e1,e2⟩=>?_
  subst e1 e2
  obtain⟨tk,rfl⟩:=r2
  have I4:Inv X pins σ H2 { s2 with heap:=s2.heap.push { cls:=.type "slice", data:=.fields #[.none,.none,.int (-1) tk] } }:=I2.kept (t':=s2.toks) fun b ob q=>Heap.get?_push_of_some _ q
  obtain⟨its,r,ht,hz⟩:=I4.list (.of h1)
  have hlen:=r.length
  refine PyProof.Rows.tail_any (ops:=[.ref a,.ref s2.heap.objs.size]) ht.isList.typeIs PySem.F.slot_list_getitem.lookup ?_ (by with_unfolding_all rfl)
  refine wpAny_getItem_list_slice ht.isList (Heap.IsSliceOf.new ..) .none .none (.int (-1) tk) (by decide) ?_ (by rw [List.size_toArray];lia)
  rw [zge]
  refine ⟨.ref _,_,I4.laid (t':=s2.toks) (o:=.lst vs.reverse) (fun b ob q=>Heap.get?_push_of_some _ q) (Nat.le_refl _) ?_,rfl,zdb dm h2.reverse q _ (I4.hok.fresh (Nat.le_refl _))⟩
  exact⟨by rw [List.length_reverse];exact hz,its.reverse,0,r.reverse,Heap.get?_push_size _ rfl⟩
end
end TL
namespace TL
open PySem PySem.Spec L2
open PyProof.Rows hiding St
section
variable {X:Cx} {z:Z} {pins:List (Addr×Obj)} {σ:St} {H:Hp} {s:Shared} {S:Addr→Prop} {md md1 md2 md3:Md} {K:PySem.W.Frag} {F F1 F2 F3:VEnv→Res T} {Fs:VEnv→Res (List T)} {e a b c:Expr} {pos p p2 p3:Pos}
def zoa (X:Cx) (e:Expr) (t:St→Hp→(Int→Int→Hp→Prop)→Prop):Prop:=
 ∀ (pins:List (Addr×Obj)) (s:Shared) (σ:St) (H:Hp) (Q:Int→Int→Hp→Prop),Inv X pins σ H s→t σ H Q →
  wpAny (model X.prog X.w) X.A (eval e X.env) (fun v s1=>∃ (r:Addr) (lo hi:Int) (t u w:Tok) (H1:Hp),v=.ref r∧IsRange s1.heap r lo hi 1 t u w∧Inv X pins σ H1 s1∧Q lo hi H1) X.xe s
noncomputable def tR2 (ta:TA):St→Hp→(Int→Int→Hp→Prop)→Prop:=fun σ H Q=>ta σ H fun vs H1=>∃ i j:Int,vs=[.int i,.int j]∧Q i j H1
theorem pr_2 {ta:TA} (hg:Gl X "range") (hm:X.mg "range" = none) (ha:PA X [a,b] ta) (hs:starEach [a,b] X.env=[(false,eval a X.env),(false,eval b X.env)]:=by rfl) (hs2:starEach [b] X.env=[(false,eval b X.env)]:=by rfl) :
  zoa X (.Call (.Name "range" p) [a,b] [] pos) (tR2 ta):=by
 intro pins s σ H Q I h
 refine PyProof.Rows.Call_ (zdz I hg hm boot_range (PyProof.Rows.callWith_type1 (thn (ha pos pins s σ H _ I h) fun us s1 ⟨vs,H1,I1,r1,q1⟩=>?_) (by rw [hs,hs2]) (by rw [hs2];rfl)))
 obtain⟨i,j,e,q⟩:=q1
 subst e
 cases r1 with
 | cons r rr =>
  cases rr with
  | cons r' rr =>
   cases rr
   obtain⟨t,rfl⟩:=r
   obtain⟨t',rfl⟩:=r'
   exact call_range_2 ⟨_,i,j,_,_,_,H1,rfl,IsRange.new ..,I1.kept fun b o e=>Heap.get?_push_of_some _ e,q⟩
def tLR (tr:St→Hp→(Int→Int→Hp→Prop)→Prop):TE:=fun σ H Q=>tr σ H fun lo hi H1=>(-(2 ^ 62)≤lo∧lo < 2 ^ 62∧-(2 ^ 62)≤hi∧hi < 2 ^ 62)∧(hi - lo).toNat≤1000000 ∧
 ∀ p,H1 p=none→Q (.ref p) (upd H1 p (.lst ((List.range (hi - lo).toNat).map fun (k:Nat)=>.int (lo + (k:Int)))))
theorem zjZ {lo:Int}:∀ {n:Nat} {acc:Array Value},ItemsOf (fun i v=>∃ t,v=Value.int (lo + (i:Int) * 1) t) acc n→Vals ((List.range n).map fun (k:Nat)=>V.int (lo + (k:Int))) acc.toList:=by
 intro n acc h
 obtain⟨h1,h2⟩:=h
 have gen:∀ (l:List Value) (k:Nat),(∀ j v,l[j]? = some v→∃ t,v=Value.int (lo + ((k + j:Nat):Int)) t)→Vals ((List.range' k l.length).map fun (k:Nat)=>V.int (lo + (k:Int))) l:=by
  intro l
  induction l with
  | nil=>intro k _;exact .nil
  | cons v l ih =>
   intro k hk
   rw [List.length_cons,List.range'_succ,List.map_cons]
   obtain⟨t,ht⟩:=hk 0 v rfl
   refine .cons ⟨t,by simpa using ht⟩ (ih (k + 1) fun j w hj=>?_)
   obtain⟨t,ht⟩:=hk (j + 1) w (by simpa using hj)
   exact⟨t,by rw [ht,show k + (j + 1)=k + 1 + j by lia]⟩
 have:=gen acc.toList 0 fun j v hj=>by
  obtain⟨t,ht⟩:=h2 j v (by simpa using hj)
  exact⟨t,by rw [ht];simp⟩
 rw [show acc.toList.length=n by simpa using h1,← List.range_eq_range'] at this
 exact this
theorem zgV {tr:St→Hp→(Int→Int→Hp→Prop)→Prop} (hc:X.calm=true) (hg:Gl X "list") (hm:X.mg "list" = none) (hr:zoa X e tr) (hs:starEach [e] X.env=[(false,eval e X.env)]:=by rfl):PE X (.Call (.Name "list" p) [e] [] pos) (tLR tr):=by
 intro pins s σ H Q I h
 refine Call_ (zdz I hg hm boot_list (callWith_type1 ?_ hs rfl))
 rw [hs]
 show wpAny _ _ (spliced ((false,eval e X.env) :: backTo pos [])) _ _ s
 refine Calls.spliced_cons (thn (hr pins s σ H _ I h) fun v s1 ⟨r,lo,hi,t,u,w,H1,e1,hr,I1,⟨b1,b2,b3,b4⟩,hn,q⟩=>Calls.spliced_nil ?_)
 subst e1
 have hsz:Builtin.Range.rangeSize lo hi 1=((hi - lo).toNat:Nat):=by rw [rangeSize_one];split <;> lia
 refine call_list_range (I1.ok.hd hc) hr (small_one b1 b2 b3 b4) hsz (by lia) fun h' tk acc' c' hk he hacc=>?_
 refine ⟨.ref _,_,I1.laid (t':=tk) (o:=.lst ((List.range (hi - lo).toNat).map fun (k:Nat)=>.int (lo + (k:Int)))) hk (Nat.le_refl _) ⟨?_,acc'.toList,c',zjZ hacc,by simpa using he⟩,rfl,q _ (I1.hok.fresh (Nat.le_refl _))⟩
 rw [List.length_map,List.length_range]
 exact Nat.le_trans hn (by decide)
end
end TL
namespace TL
open PySem PySem.Spec L2
open PyProof.Rows hiding St
section
variable {X:Cx} {z:Z} {pins:List (Addr×Obj)} {σ:St} {H:Hp} {s:Shared} {S:Addr→Prop} {md md1 md2 md3:Md} {K:PySem.W.Frag} {F F1 F2 F3:VEnv→Res T} {Fs:VEnv→Res (List T)} {e a b c:Expr} {pos p p2 p3:Pos}
noncomputable def eLR (g:List T→Option (List T)) (Fs:VEnv→Res (List T)):VEnv→Res T:=fun ρ=>(Fs ρ).bind fun ts=>.of ((g ts).bind fun us=>if us.length≤1000000 then some (.lst us) else none)
theorem zhR (lo:Int) (n:Nat):(rngI lo n).length=n:=by unfold rngI;rw [List.length_map,List.length_range]
theorem zlN {lo:Int} {n:Nat} {m:Md}:Dens K H S (rngI lo n) m [] ((List.range n).map fun (k:Nat)=>.int (lo + (k:Int))):=by
 unfold rngI
 generalize List.range n=l
 induction l with
 | nil=>exact Dens.nil
 | cons k l ih=>exact Dens.cons (A1:=[]) (A2:=[]) (zcP _) ih
theorem zlM {lo hi:Int} {n:Nat} {Q:VK} (dm:Dom S H) (hn:n=(hi - lo).toNat) (h:endT K H S .fu Q (if (rngI lo n).length≤1000000 then some (.lst (rngI lo n)) else none)) :
  (hi - lo).toNat≤1000000∧∀ p,H p=none→Q (.ref p) (upd H p (.lst ((List.range (hi - lo).toNat).map fun (k:Nat)=>.int (lo + (k:Int))))):=by
 subst hn
 rw [zhR] at h
 split at h
 ·exact⟨by assumption,fun p hp=>h _ _ S _ (Got.newFu ⟨.refl dm,List.nodup_nil,fun _ q=>(nomatch q),zlN⟩ hp)⟩
 ·exact (show False from h).elim
theorem zgs {q:Pos} (hc:X.calm=true) (hgl:Gl X "list") (hml:X.mg "list" = none) (hg:Gl X "range") (hm:X.mg "range" = none) (ha:JA X z md Fs [a,b]) (hs:starEach [a,b] X.env=[(false,eval a X.env),(false,eval b X.env)]:=by rfl) (hs3:starEach [b] X.env=[(false,eval b X.env)]:=by rfl)
  (hs2:starEach [.Call (.Name "range" p) [a,b] [] p2] X.env=[(false,eval (.Call (.Name "range" p) [a,b] [] p2) X.env)]:=by rfl):JE X z .fu (eLR rng2 Fs) (.Call (.Name "list" q) [.Call (.Name "range" p) [a,b] [] p2] [] pos):=
 PE.imp (zgV hc hgl hml (pr_2 hg hm (JA.al ha) hs hs3) hs2) fun σ H Q h=>zcf h fun S ts vs H' S' A _ gg q=>by
  obtain rfl:=gg.den.alA
  have q':=zei (z:=z) (endE.grow gg.g q)
  unfold rng2 at q'
  split at q'
  ·rename_i i j
   split at q'
   ·rename_i hj
    obtain⟨v,w,rfl,d1,d2⟩:=zgu gg.den
    obtain⟨_,rfl⟩:=zaf.mp d1
    obtain⟨_,rfl⟩:=zaf.mp d2
    exact⟨i,j,rfl,hj,zlM gg.g.dom rfl q'⟩
   ·exact (show False from q').elim
  ·exact (show False from q').elim
noncomputable def zb3:List T→Option (List Bool)
 | []=>some []
 | t :: ts=>(asB t).bind fun i=>(zb3 ts).map (i :: ·)
theorem zfY:∀ {ts:List T} {vs:List V} {ns:List Bool},Dens K H S ts .al [] vs→zb3 ts=some ns→vs=ns.map V.bl
 | [],vs,ns,d,h=>by unfold zb3 at h;cases h;unfold Dens at d;rw [d.2];rfl
 | t :: ts,vs,ns,d,h=>by
  unfold zb3 at h
  unfold Dens at d
  obtain⟨A1,A2,v,vs',ea,rfl,d1,d2⟩:=d
  obtain⟨rfl,rfl⟩:=List.append_eq_nil_iff.mp ea.symm
  cases e:asB t with
  | none=>rw [e] at h;cases h
  | some i =>
   rw [e] at h
   cases e2:zb3 ts with
   | none=>rw [e2] at h;cases h
   | some ms =>
    rw [e2] at h
    have h':some (i :: ms)=some ns:=h
    cases h'
    obtain rfl:=zdJ e
    obtain⟨_,rfl⟩:=zaf.mp d1
    rw [zfY d2 e2]
    rfl
noncomputable def cAll:List T→Option T
 | [.lst ts]=>(zb3 ts).map fun bs=>.sc (.bl (bs.all id))
 | _=>none
theorem zkX (bs:List Bool):(List.range bs.length).all (fun i=>bs.getD i true)=bs.all id:=by
 induction bs with
 | nil=>rfl
 | cons b bs ih =>
  rw [List.length_cons,List.range_succ_eq_map,List.all_cons,List.all_map,List.all_cons]
  have e:((fun i=>(b :: bs).getD i true) ∘ Nat.succ)=fun i=>bs.getD i true:=by funext i;simp
  rw [e,ih]
  rfl
theorem zju:∀ {bs:List Bool} {its:List Value},Vals (bs.map V.bl) its→∀ (i:Nat) (v:Value),its[i]? = some v→v=Value.bool (bs.getD i true)
 | [],_,.nil=>fun i v h=>by simp at h
 | b :: bs,u :: its,.cons r t=>fun i v h=>by
  cases i with
  | zero=>simp at h;subst h;cases r;rfl
  | succ i=>have:=zju t i v (by simpa using h);simpa using this
theorem zrb (hc:X.calm=true):zbF X (.builtin "all") (rCT X.K md cAll):=by
 intro pins s σ H xs us Q I r h
 obtain⟨S,ts,dm,d,h⟩:=h
 unfold cAll at h
 split at h
 ·rename_i ts
  obtain⟨v,rfl,d1⟩:=za9 d
  obtain⟨_,a,vs,rfl,hS,h1,h2⟩:=zak.mp d1
  obtain⟨u,rfl,rx⟩:=zf9 r
  cases rx
  cases e:zb3 ts with
  | none=>rw [e] at h;exact (show False from h).elim
  | some bs =>
   rw [e] at h
   obtain rfl:=zfY h2 e
   obtain⟨its,r,pl,hz⟩:=I.list (.of h1)
   have hl:=r.length
   rw [List.length_map] at hl
   have hlt:a < s.heap.objs.size:=by obtain⟨_,e,_⟩:=pl.isList;exact Heap.lt_size e
   refine call_all_walk (wpAny_pyIter_list pl.isList ?_)
   refine ⟨_,_,_,_,_,_,fun i=>bs.getD i true,rfl,Walks.list (A:=X.A.in1) (I.ok.hd hc) s.heap.objs.size a (Nat.ne_of_lt hlt) its.toArray,⟨⟨_,Heap.get?_push_size _ rfl,rfl,rfl⟩,pl.isList.push _⟩,?_,fun h' tk hk=>?_⟩
   ·intro i v s Q E hv hq
    obtain rfl:=zju r i v (by simpa using hv)
    exact wpAny_truthy_bool hq
   ·refine ⟨.bl (bs.all id),H,I.kept (h':=h') (t':=tk) fun b o e=>hk b o (fun hm=>?_) (Heap.get?_push_of_some _ e),?_,h _ H S [] (Got.sc dm _)⟩
    ·have:=Heap.lt_size e
     rw [List.mem_singleton.mp hm] at this
     exact Nat.lt_irrefl _ this
    ·show Value.bool _=Value.bool _
     rw [List.size_toArray,← hl,zkX]
 ·exact (show False from h).elim
noncomputable def tyN:T→Option String
 | .sc .non=>some "NoneType"
 | .sc (.bl _)=>some "bool"
 | .sc (.int _)=>some "int"
 | .lst _=>some "list"
 | .tup _=>some "tuple"
 | _=>none
noncomputable def isiB (n c:String):Option Bool:=if (Value.type n == Value.type c)=true then some true else if PySem.W.kitMeta c=true then (fastBuiltinMro n).map (·.contains (.type c)) else none
theorem zmN {n c:String} {b:Bool} (h:isiB n c=some b):PySem.W.kitOne K (.type n) (.type c)=some b:=h
@[simp] theorem zsu:isiB "list" "list" = some true:=by decide +kernel
@[simp] theorem zsv:isiB "int" "int" = some true:=by decide +kernel
@[simp] theorem zsw:isiB "int" "bool" = some false:=by decide +kernel
@[simp] theorem zsx:isiB "bool" "bool" = some true:=by decide +kernel
noncomputable def cIsi:List T→Option T
 | [t,.sc (.ty c)]=>(tyN t).bind fun n=>(isiB n c).map fun b=>.sc (.bl b)
 | _=>none
theorem zkm:zbF X (.builtin "isinstance") (rCT X.K md cIsi):=by
 intro pins s σ H xs us Q I r h
 obtain⟨S,ts,dm,d,h⟩:=h
 unfold cIsi at h
 split at h
 ·rename_i t c
  obtain⟨v,w,rfl,d1,d2⟩:=zgu d
  obtain⟨_,rfl⟩:=zaf.mp d2
  obtain⟨u1,u2,rfl,r1,r2⟩:=zpX r
  cases r2
  cases e:tyN t with
  | none=>rw [e] at h;exact (show False from h).elim
  | some n =>
   rw [e] at h
   cases e2:isiB n c with
   | none=>have h':endT X.K H S md Q ((isiB n c).map fun b=>.sc (.bl b)):=h;rw [e2] at h';exact (show False from h').elim
   | some b =>
    have h':endT X.K H S md Q ((isiB n c).map fun b=>.sc (.bl b)):=h
    rw [e2] at h'
    have k:=zmN (K:=X.K) e2
    have fin:∀ tk,EP X pins σ Q (.bool b) { s with toks:=tk }:=fun tk=>⟨.bl b,H,I.tok tk,rfl,h' _ H S [] (Got.sc dm _)⟩
    cases t with
    | sc x =>
     obtain⟨_,rfl⟩:=zaf.mp d1
     cases v with
     | non=>cases e;exact zdC I r1 .non k fin
     | bl y=>cases e;exact zdC I r1 (.bl y) k fin
     | int y=>cases e;exact zdC I r1 (.int y) k fin
     | _=>cases e
    | scr ns=>cases e
    | lst us =>
     cases e
     obtain⟨_,a,vs,rfl,hS,h1,h2⟩:=zak.mp d1
     exact zdC I r1 (.lst h1) k fin
    | tup us =>
     cases e
     obtain⟨_,a,vs,rfl,h1,h2⟩:=zao.mp d1
     cases r1
     obtain⟨its,_,⟨o,g1,g2,_⟩,_⟩:=I.tuple h1
     exact PySem.W.kia_one PySem.W.kitx_tuple I.kIn ⟨o,g1,g2⟩ k (fun z=>nomatch z) fin
 ·exact (show False from h).elim
noncomputable def zjn (g g':T→T→Option T) (F1 F2 F3:VEnv→Res T):VEnv→Res T:=fun ρ=>(F1 ρ).bind fun t=>(F2 ρ).bind fun u=>(Res.of (g t u)).bind fun r=>(Res.of (asB r)).bind fun k=>if k=true then (F3 ρ).bind fun w=>.of (g' u w) else .ok (.sc (.bl false))
theorem zmg {g g':T→T→Option T} {σ:St} {H:Hp} {Q:VK} (h:tr K z md (zjn g g' F1 F2 F3) σ H Q):znD (rT K .al g) (rT K md g') (tr K z .al F1) (tr K z .al F2) (tr K z .al F3) σ H Q:=by
 refine zcD h fun S ρ t v H1 S1 o1 _ g1 d1 q=>⟨S1,ρ,o1,?_⟩
 try dsimp only at q
 cases e2:F2 ρ with
 | exc c=>rw [e2] at q;exact q
 | bad=>rw [e2] at q;exact q
 | ok u =>
  rw [e2,Res.bind_ok] at q
  intro v2 H2 S2 A2 g2
  obtain rfl:=g2.den.alA
  refine ⟨S2,t,u,g2.g.dom,d1.mono g2.g.same g2.g.up,g2.den,?_⟩
  cases e3:g t u with
  | none=>rw [e3] at q;exact (show False from q).elim
  | some r =>
   rw [e3,Res.of_some,Res.bind_ok] at q
   intro v3 H3 S3 A3 g3
   cases e4:asB r with
   | none=>rw [e4] at q;exact (show False from q).elim
   | some k =>
    rw [e4,Res.of_some,Res.bind_ok] at q
    obtain rfl:=zdJ e4
    obtain⟨rfl,rfl⟩:=zaf.mp g3.den
    refine ⟨k,rfl,?_⟩
    cases k with
    | false=>rw [if_neg (by decide)] at q ⊢;exact q _ H3 S3 [] ((Got.sc g3.g.dom _).trans (g2.g.trans g3.g))
    | true =>
     rw [if_pos rfl] at q ⊢
     refine ⟨S3,ρ,(o1.grow g2.g).grow g3.g,?_⟩
     cases e5:F3 ρ with
     | exc c=>rw [e5] at q;exact q
     | bad=>rw [e5] at q;exact q
     | ok w =>
      rw [e5,Res.bind_ok] at q
      intro v4 H4 S4 A4 g4
      obtain rfl:=g4.den.alA
      exact⟨S4,u,w,g4.g.dom,(g2.den.mono g3.g.same g3.g.up).mono g4.g.same g4.g.up,g4.den,zei (z:=z) (endE.grow ((g2.g.trans g3.g).trans g4.g) q)⟩
theorem zmL {op op':CmpOp} {g g':T→T→Option T} (ho:OpR X (compareOp op) (rT X.K .al g)) (ho':OpR X (compareOp op') (rT X.K .al g')) (ha:JE X z md1 F1 a) (hb:JE X z md2 F2 b) (hc:JE X z md3 F3 c)
  (hm:lastMarks [op,op'] [b,c]=false:=by with_unfolding_all rfl):JT X z (eB (zjn g g' F1 F2 F3)) (.Compare a [op,op'] [b,c] pos):=
 PT.imp (zmu ho ho' (JE.al ha) (JE.al hb) (JE.al hc) hm) fun σ H Q h=>zmg (md:=.al) (zhJ h)
end
end TL
namespace TL
open PySem PySem.Spec L2
open PyProof.Rows hiding St
section
variable {K:PySem.W.Frag} {z:Z} {S S':Addr→Prop} {As:Nat→List Addr} {ρ:SEnv} {σ:St} {H H':Hp} {M:List Bool} {A A':List Addr} {v:V} {vs vs':List V} {md m m':Md} {t t':T} {ts:List T} {i:Nat} {a:Addr}
theorem zbw {o:HO} (ha:¬ S a) (h:H a=some (.lst vs)):Step K S H S (upd H a o):=by
 have f:=Frm.upd (K:=K) (o:=o) h
 exact⟨fun _ h=>h,⟨fun b xs hb e=>f.nodes b xs (fun q=>ha (q ▸ hb)) e,f.tups,f.scrs⟩⟩
theorem zgv {o:HO} (h:H a=some (.lst vs)) (ha:¬ S a) (hA:a∉A) (d:Den K H S t m A v):Den K (upd H a o) S t m A v:=
 Den.frm (Frm.upd h) (fun b hb q=>ha (q ▸ hb)) (fun _ h=>h) (fun b hb q=>hA (q ▸ hb)) d
theorem zbf {ws:List V} {o:HO} (h:H a=some (.lst vs)) (ha:¬ S a) (hA:a∉A) (d:Dens K H S ts m A ws):Dens K (upd H a o) S ts m A ws:=
 Dens.frm (Frm.upd h) (fun b hb q=>ha (q ▸ hb)) (fun _ h=>h) (fun b hb q=>hA (q ▸ hb)) d
theorem Ok.wr (o:Ok K z S As ρ σ H) (hi:i < ρ.length) (ha:a∈As i) (h:H a=some (.lst vs)) (hv:σ[i]? = some (some v)) (new:Den K (upd H a (.lst vs')) S t' m' A' v) (nd:A'.Nodup)
  (sub:∀ b∈A',b∈As i∨((∀ j,b∉As j)∧¬ S b∧z.H₀ b=none∧H b≠none)):Ok K z S (fun j=>if j=i then A' else As j) (ρ.set i (some (m',t'))) σ (upd H a (.lst vs')):=by
 obtain⟨a1,a2,a3⟩:=o.ow i a ha
 have big:∀ b,H b≠none→upd H a (.lst vs') b≠none:=fun b hb q=>by
  by_cases e:b=a
  ·subst e;rw [zaL] at q;cases q
  ·rw [zaw e] at q;exact hb q
 have inew:∀ b∈A',¬ S b∧z.H₀ b=none∧H b≠none∧∀ j,j≠i→b∉As j:=fun b hb=>by
  rcases sub b hb with q | ⟨q1,q2,q3,q4⟩
  ·obtain⟨x1,x2,x3⟩:=o.ow i b q
   exact⟨x1,x2,x3,fun j hj w=>o.dj j i hj b w q⟩
  ·exact⟨q2,q3,q4,fun j _=>q1 j⟩
 refine ⟨fun b ob e=>?_,fun b hb=>big b (o.dom b hb),by simp [o.ln],o.s0,o.s1,fun j=>?_,fun j b hb=>?_,fun j k hjk b hb=>?_,fun j m u e=>?_⟩
 ·have:b≠a:=fun q=>by rw [q,a2] at e;cases e
  rw [zaw this];exact o.same b ob e
 ·by_cases hj:j=i
  ·rw [if_pos hj];exact nd
  ·rw [if_neg hj];exact o.nd j
 ·by_cases hj:j=i
  ·rw [if_pos hj] at hb
   obtain⟨x1,x2,x3,_⟩:=inew b hb
   exact⟨x1,x2,big b x3⟩
  ·rw [if_neg hj] at hb
   obtain⟨x1,x2,x3⟩:=o.ow j b hb
   exact⟨x1,x2,big b x3⟩
 ·by_cases hj:j=i
  ·rw [if_pos hj] at hb
   rw [if_neg (fun q=>hjk (hj.trans q.symm))]
   exact (inew b hb).2.2.2 k fun q=>hjk (hj.trans q.symm)
  ·rw [if_neg hj] at hb
   by_cases hk:k=i
   ·rw [if_pos hk];exact fun q=>(inew b q).2.2.2 j hj hb
   ·rw [if_neg hk];exact o.dj j k hjk b hb
 ·by_cases hj:j=i
  ·subst hj
   rw [List.getElem?_set_self hi] at e
   cases e
   exact⟨v,hv,by rw [if_pos rfl];exact new⟩
  ·rw [List.getElem?_set_ne (Ne.symm hj)] at e
   obtain⟨w,h1,h2⟩:=o.sl j m u e
   refine ⟨w,h1,?_⟩
   rw [if_neg hj]
   exact zgv h a1 (fun q=>o.dj i j (Ne.symm hj) a ha q) h2
theorem Ok.toSp (o:Ok K z S As ρ σ H) (e:ρ[i]? = some (some (.fu,.lst ts))):∃ a vs,σ[i]? = some (some (.ref a))∧a∈As i∧H a=some (.lst vs) ∧
  Ok K z (fun b=>S b∨(b∈As i∧b≠a)) (fun j=>if j=i then [a] else As j) (ρ.set i (some (.sp,.lst ts))) σ H∧Step K S H (fun b=>S b∨(b∈As i∧b≠a)) H:=by
 obtain⟨v,hv,d⟩:=o.sl i _ _ e
 obtain⟨a,vs,A',rfl,ea,h1,h2⟩:=zau.mp d
 have hil:i < ρ.length:=zaX e
 have ha:a∈As i:=by rw [ea];exact List.mem_cons_self ..
 refine ⟨a,vs,hv,ha,h1,⟨o.same,fun b hb=>?_,by simp [o.ln],fun b hb=>.inl (o.s0 b hb),fun b hb=>?_,fun j=>?_,fun j b hb=>?_,fun j k hjk b hb=>?_,fun j m u e=>?_⟩,⟨fun b hb=>.inl hb,⟨fun b xs _ q=>q,fun b xs q=>q,fun b xs q=>q⟩⟩⟩
 ·rcases hb with hb | ⟨hb,_⟩
  ·exact o.dom b hb
  ·exact (o.ow i b hb).2.2
 ·rcases hb with hb | ⟨hb,_⟩
  ·exact o.s1 b hb
  ·exact .inr (o.ow i b hb).2.1
 ·by_cases hj:j=i
  ·rw [if_pos hj];simp
  ·rw [if_neg hj];exact o.nd j
 ·by_cases hj:j=i
  ·rw [if_pos hj] at hb
   rw [List.mem_singleton.mp hb]
   obtain⟨x1,x2,x3⟩:=o.ow i a ha
   exact⟨fun q=>q.elim x1 fun q=>q.2 rfl,x2,x3⟩
  ·rw [if_neg hj] at hb
   obtain⟨x1,x2,x3⟩:=o.ow j b hb
   exact⟨fun q=>q.elim x1 fun q=>o.dj j i hj b hb q.1,x2,x3⟩
 ·by_cases hj:j=i
  ·rw [if_pos hj] at hb
   rw [if_neg (fun q=>hjk (hj.trans q.symm)),List.mem_singleton.mp hb]
   exact o.dj i k (fun q=>hjk (hj.trans q)) a ha
  ·rw [if_neg hj] at hb
   by_cases hk:k=i
   ·rw [if_pos hk];intro q;rw [List.mem_singleton.mp q] at hb;exact o.dj j i hj a hb ha
   ·rw [if_neg hk];exact o.dj j k hjk b hb
 ·by_cases hj:j=i
  ·subst hj
   rw [List.getElem?_set_self hil] at e
   cases e
   refine ⟨_,hv,?_⟩
   rw [if_pos rfl]
   refine zbu.mpr ⟨a,vs,rfl,rfl,h1,h2.out (fun b hb=>.inl hb) fun b hb=>.inr ⟨by rw [ea];exact List.mem_cons_of_mem _ hb,fun q=>?_⟩⟩
   have:=o.nd j
   rw [ea] at this
   exact (List.nodup_cons.mp this).1 (q ▸ hb)
  ·rw [List.getElem?_set_ne (Ne.symm hj)] at e
   obtain⟨w,g1,g2⟩:=o.sl j m u e
   refine ⟨w,g1,?_⟩
   rw [if_neg hj]
   exact g2.monoS fun b hb=>.inl hb
theorem zhN {α:Type} {l:List α} {i:Nat} {x:α} (h:i < l.length):(l.set i x)[i]? = some x:=List.getElem?_set_self h
theorem Dens.split:∀ {ts:List T} {A:List Addr} {vs:List V} {k:Nat} {t:T},Dens K H S ts .fu A vs→ts[k]? = some t→∃ A1 Ak A2 v,A=A1 ++ (Ak ++ A2)∧vs[k]? = some v∧Den K H S t .fu Ak v ∧
  ∀ (H':Hp) (t':T) (Ak':List Addr) (v':V),Frm K H H' (fun b=>b∈A1∨b∈A2)→Den K H' S t' .fu Ak' v'→Dens K H' S (ts.set k t') .fu (A1 ++ (Ak' ++ A2)) (vs.set k v')
 | [],A,vs,k,t,d,e=>by simp at e
 | u :: us,A,vs,0,t,d,e=>by
  unfold Dens at d
  obtain⟨A1,A2,v,vs',rfl,rfl,d1,d2⟩:=d
  have e':u=t:=by simpa using e
  subst e'
  refine ⟨[],A1,A2,v,rfl,rfl,d1,fun H' t' Ak' v' f d'=>?_⟩
  show Dens K H' S (t' :: us) .fu (Ak' ++ A2) (v' :: vs')
  exact Dens.cons d' ((Dens.frm (S:=fun _=>False) (S':=S) (P:=fun b=>b∈[]∨b∈A2) f (fun _ q=>q.elim) (fun _ q=>q.elim) (fun b hb=>.inr hb) d2.fuS))
 | u :: us,A,vs,k + 1,t,d,e=>by
  unfold Dens at d
  obtain⟨A1,A2,v,vs',rfl,rfl,d1,d2⟩:=d
  obtain⟨B1,Bk,B2,w,rfl,h1,h2,h3⟩:=Dens.split (k:=k) d2 (by simpa using e)
  refine ⟨A1 ++ B1,Bk,B2,w,by rw [List.append_assoc],by simpa using h1,h2,fun H' t' Ak' v' f d'=>?_⟩
  show Dens K H' S (u :: us.set k t') .fu (A1 ++ B1 ++ (Ak' ++ B2)) (v :: vs'.set k v')
  rw [List.append_assoc]
  refine Dens.cons (Den.frm (S:=fun _=>False) (S':=S) f (fun _ q=>q.elim) (fun _ q=>q.elim) (fun b hb=>.inl (List.mem_append_left _ hb)) d1.fuS) (h3 H' t' Ak' v' ⟨fun b xs hb=>f.nodes b xs (hb.elim (fun q=>.inl (List.mem_append_right _ q)) .inr),f.tups,f.scrs⟩ d')
end
section
variable {X:Cx} {z:Z} {md md1:Md} {F F1 F2 F3:VEnv→Res T} {e a b:Expr} {pos p1 p2 p3:Pos} {K:PySem.W.Frag} {i:Nat} {x:Str}
noncomputable def zc4 (i:Nat) (ρ:SEnv) (k:Md→List T→SRes):SRes:=match ρ[i]? with
 | some (some (m,.lst ts))=>k m ts
 | _=>.bad
theorem zcC {S:Addr→Prop} {H:Hp} {D:Ends} {ρ:SEnv} {k:Md→List T→SRes} (h:endS K z S H D (zc4 i ρ k)):∃ m ts,ρ[i]? = some (some (m,.lst ts))∧endS K z S H D (k m ts):=by
 unfold zc4 at h
 split at h
 ·rename_i m ts e
  exact⟨m,ts,e,h⟩
 ·exact (show False from h).elim
noncomputable def zhn (i:Nat) (md:Md) (M:List Bool) (m:Md) (ts:List T) (t:T) (ρ:SEnv):SRes:=
  if ts.length < sizeLine then
   if m=.fu∧md=.fu then .nx (ρ.set i (some (.fu,.lst (ts ++ [t]))))
   else if m=.al∨M[i]? = some true then .bad
   else .nx ((zaz M ρ).set i (some (.sp,.lst (ts ++ [t]))))
  else .bad
noncomputable def sApp (i:Nat) (md:Md) (M:List Bool) (F:VEnv→Res T):SEnv→SRes:=fun ρ=>zc4 i ρ fun m ts=>(F (view M ρ)).sthen fun t=>zhn i md M m ts t ρ
theorem zcQ:∀ {M:List Bool} {ρ:SEnv} {i:Nat},M[i]?≠some true→(zaz M ρ)[i]? = ρ[i]?
 | [],ρ,i,h=>by unfold zaz;rfl
 | b :: bs,[],i,h=>by unfold zaz;rfl
 | b :: bs,s :: ρ,0,h=>by
  unfold zaz
  have:¬ b=true:=fun q=>h (by rw [q];rfl)
  rw [if_neg this]
  rfl
 | b :: bs,s :: ρ,i + 1,h=>by
  unfold zaz
  show (zaz bs ρ)[i]? = ρ[i]?
  exact zcQ (by simpa using h)
theorem zn4 {S:Addr→Prop} {As:Nat→List Addr} {ρ:SEnv} {σ:St} {H:Hp} {ts:List T} {t:T} {y:V} {D:Ends} (o:Ok K z S As ρ σ H) (e:ρ[i]? = some (some (.sp,.lst ts))) (hd:Den K H S t .al [] y)
  (h:endS K z S H D (.nx (ρ.set i (some (.sp,.lst (ts ++ [t])))))):∃ a vs,σ[i]? = some (some (.ref a))∧H a=some (.lst vs)∧vs.length=ts.length∧D.nx σ (upd H a (.lst (vs ++ [y]))):=by
 obtain⟨v,hv,d⟩:=o.sl i _ _ e
 obtain⟨a,vs,rfl,ea,h1,h2⟩:=zbu.mp d
 have ha:a∈As i:=by rw [ea];exact List.mem_singleton.mpr rfl
 have hS:=(o.ow i a ha).1
 refine ⟨a,vs,hv,h1,h2.length,h S _ σ _ (o.wr (zaX e) ha h1 hv (vs':=vs ++ [y]) (A':=[a]) (zbu.mpr ⟨a,_,rfl,rfl,zaL,?_⟩) (by simp) fun b hb=>.inl (by rw [List.mem_singleton.mp hb];exact ha)) (zbw hS h1)⟩
 exact (zbf (A:=[]) h1 hS (by simp) h2).append (A1:=[]) (A2:=[]) (Dens.cons0 (zgv (A:=[]) h1 hS (by simp) hd) Dens.nil)
theorem zna {M:List Bool} {S S':Addr→Prop} {As:Nat→List Addr} {ρ:SEnv} {σ:St} {H H':Hp} {m:Md} {ts:List T} {t:T} {y:V} {A:List Addr} {D:Ends} (o:Ok K z S As ρ σ H) (e:ρ[i]? = some (some (m,.lst ts))) (g:Got K H (SB S As M) H' S' A y md t) (h:endS K z S H D (zhn i md M m ts t ρ)) :
  ∃ a vs,σ[i]? = some (some (.ref a))∧H' a=some (.lst vs)∧vs.length < sizeLine∧D.nx σ (upd H' a (.lst (vs ++ [y]))):=by
 unfold zhn at h
 split at h
 ·rename_i hz
  split at h
  ·rename_i hm
   obtain⟨rfl,rfl⟩:=hm
   obtain⟨v,hv,d⟩:=o.sl i _ _ e
   obtain⟨a,vs,A',rfl,ea,h1,h2⟩:=zau.mp d
   have ha:a∈As i:=by rw [ea];exact List.mem_cons_self ..
   have o':=o.grow g.g
   obtain⟨a1,a2,a3⟩:=o.ow i a ha
   have h1':=g.g.same _ _ h1
   have nA:a∉A:=fun q=>a3 (g.ow a q).1
   have nd:=o.nd i
   rw [ea] at nd
   refine ⟨a,vs,hv,h1',by rw [h2.length];exact hz,h S _ σ _ (o'.wr (zaX e) ha h1' hv (vs':=vs ++ [y]) (A':=a :: (A' ++ A)) (zau.mpr ⟨a,_,_,rfl,rfl,zaL,?_⟩) ?_ fun b hb=>?_) ((zaZ g.g.same).trans (zbw a1 h1'))⟩
   ·exact (zbf h1' a1 (List.nodup_cons.mp nd).1 (h2.mono g.g.same fun _ q=>q)).append (by simpa using Dens.cons (zgv h1' a1 nA g.den.fuS) Dens.nil)
   ·refine List.nodup_cons.mpr ⟨fun q=>?_,List.nodup_append.mpr ⟨(List.nodup_cons.mp nd).2,g.nd,fun b hb c hc q=>?_⟩⟩
    ·rcases List.mem_append.mp q with q | q
     ·exact (List.nodup_cons.mp nd).1 q
     ·exact nA q
    ·subst q
     exact (o.ow i b (by rw [ea];exact List.mem_cons_of_mem _ hb)).2.2 (g.ow b hc).1
   ·rcases List.mem_cons.mp hb with q | q
    ·rw [q];exact .inl ha
    ·rcases List.mem_append.mp q with q | q
     ·exact .inl (by rw [ea];exact List.mem_cons_of_mem _ q)
     ·refine .inr ⟨fun j w=>(o.ow j b w).2.2 (g.ow b q).1,fun w=>(g.ow b q).2 (g.g.up b (.inl w)),za5 o.same (g.ow b q).1,fun w=>?_⟩
      obtain⟨ws,w'⟩:=g.den.own b q
      rw [w] at w';cases w'
  ·rename_i hm
   split at h
   ·exact (show False from h).elim
   ·rename_i hn
    have hn1:M[i]?≠some true:=fun q=>hn (.inr q)
    have hn2:m≠.al:=fun q=>hn (.inl q)
    have ga:=g.al
    have o1:=o.share ga.g
    have e1:(zaz M ρ)[i]? = some (some (m,.lst ts)):=by rw [zcQ hn1];exact e
    have st1:Step K S H _ H':=zeJ ga.g
    cases m with
    | al=>exact (hn2 rfl).elim
    | sp =>
     obtain⟨a,vs,q1,q2,q3,q4⟩:=zn4 (D:=D) o1 e1 ga.den (h.step st1)
     exact⟨a,vs,q1,q2,by lia,q4⟩
    | fu =>
     obtain⟨a,vs,q1,q2,q3,o2,s2⟩:=o1.toSp e1
     have hl1:i < (zaz M ρ).length:=zaX e1
     have h':endS K z (fun b=>(S' b∨b∈A)∨b∈dAs As M i∧b≠a) H' D (.nx (((zaz M ρ).set i (some (.sp,.lst ts))).set i (some (.sp,.lst (ts ++ [t]))))):=by
      rw [List.set_set]
      exact h.step (st1.trans s2)
     obtain⟨a',vs',r1,r2,r3,r4⟩:=zn4 (D:=D) (z:=z) o2 (zhN hl1) (ga.den.monoS fun b hb=>.inl hb) h'
     exact⟨a',vs',r1,r2,by lia,r4⟩
 ·exact (show False from h).elim
theorem zcF {S:Addr→Prop} {As:Nat→List Addr} {ρ:SEnv} {σ:St} {H:Hp} {m:Md} {ts:List T} (o:Ok K z S As ρ σ H) (e:ρ[i]? = some (some (m,.lst ts))):∃ a vs,σ[i]? = some (some (.ref a))∧H a=some (.lst vs)∧vs.length=ts.length:=by
 obtain⟨v,hv,d⟩:=o.sl i _ _ e
 cases m with
 | al=>obtain⟨_,a,vs,rfl,_,h1,h2⟩:=zak.mp d;exact⟨a,vs,hv,h1,h2.length⟩
 | sp=>obtain⟨a,vs,rfl,_,h1,h2⟩:=zbu.mp d;exact⟨a,vs,hv,h1,h2.length⟩
 | fu=>obtain⟨a,vs,A',rfl,_,h1,h2⟩:=zau.mp d;exact⟨a,vs,hv,h1,h2.length⟩
theorem zkI {M:List Bool} {G:Md→List T→T→SEnv→SRes} {D:Ends} {σ:St} {H:Hp} {r:V→List V→Hp→VK→Prop} (h:st K z (fun ρ=>zc4 i ρ fun m ts=>(F (view M ρ)).sthen fun t=>G m ts t ρ) D σ H)
  (k:∀ S As ρ m ts t y H' S' A a,Ok K z S As ρ σ H→ρ[i]? = some (some (m,.lst ts))→Got K H (SB S As M) H' S' A y md t→endS K z S H D (G m ts t ρ)→σ[i]? = some (some (.ref a))→r (.ref a) [y] H' (fun _ H2=>D.nx σ H2)) :
  zp2 (tBM K "list" r (tVar i) (zmh (tr K z md F) tNil)) D σ H:=by
 obtain⟨S,As,ρ,o,h⟩:=h
 obtain⟨m,ts,e1,h⟩:=zcC h
 obtain⟨a,vs,h1,h2,h3⟩:=zcF o e1
 refine ⟨_,h1,.inl ⟨rfl,vs,.of h2⟩,_,_,o.view M,?_⟩
 cases e:F (view M ρ) with
 | exc c=>rw [e] at h;exact h
 | bad=>rw [e] at h;exact h
 | ok t=>rw [e] at h;exact fun y H' S' A g=>k S As ρ m ts t y H' S' A a o e1 g h h1
theorem znW (M:List Bool) (hx:PE X a (tVar i)) (he:JE X z md F e) (hbase:attributeBase a "append" X.env (eval a X.env)=eval a X.env:=by rfl)
  (hfew:((backTo p2 (starEach [e] X.env)).all (fun x=>!x.1) && (backToKw p2 (keywordEach [] X.env)).all (fun x=>x.1.isSome) && decide ([e].length + ([]:List Keyword).length + (if ([]:List Keyword).isEmpty then 0 else 1) < 30))=true:=by rfl)
  (hline:(p1.endLine == p2.line)=true:=by rfl) (hst:starEach [e] X.env=(false,eval e X.env) :: starEach [] X.env:=by rfl) (hplain:(backTo p2 (starEach [] X.env)).any (·.1)=false:=by rfl)
  (hs:swapsWith (.Call (.Attribute a "append" p1) [e] [] p2) none pos.line X.env=pure false:=by rfl):JS X z (sApp i md M F) (.Expr (.Call (.Attribute a "append" p1) [e] [] p2) pos):=
 PS.imp (zdX (zk9 PySem.F.plainAttrs_list PySem.F.slot_list_append PySem.F.type_list_append ze2 hx (zbk he zc0 hst) hbase hfew hline hst hplain) hs) fun D σ H h=>zkI h fun S As ρ m ts t y H' S' A a o e1 g q ha=>by
  obtain⟨a',vs,h1,h2,h3,h4⟩:=zna o e1 g q
  rw [ha] at h1
  cases h1
  exact⟨a,vs,y,rfl,rfl,h2,h3,h4⟩
end
end TL
namespace TL
open PySem PySem.Spec L2
open PyProof.Rows hiding St
section
variable {X:Cx} {z:Z} {md md1 md2:Md} {F F1 F2 F3:VEnv→Res T} {e a b c:Expr} {pos p1 p2 p3 p4:Pos} {K:PySem.W.Frag} {i:Nat} {x:Str}
noncomputable def zlK (i:Nat) (md:Md) (M:List Bool) (m:Md) (ts:List T) (t:T) (ρ:SEnv):SRes:=match t with
 | .lst us =>
  if ts.length + us.length≤sizeLine then
   if m=.fu∧(md=.fu∨zfH us=true) then .nx (ρ.set i (some (.fu,.lst (ts ++ us))))
   else if m=.al∨M[i]? = some true then .bad
   else .nx ((zaz M ρ).set i (some (.sp,.lst (ts ++ us))))
  else .bad
 | _=>.bad
noncomputable def sExt (i:Nat) (md:Md) (M:List Bool) (F:VEnv→Res T):SEnv→SRes:=fun ρ=>zc4 i ρ fun m ts=>(F (view M ρ)).sthen fun t=>zlK i md M m ts t ρ
theorem znZ {S:Addr→Prop} {As:Nat→List Addr} {ρ:SEnv} {σ:St} {H:Hp} {ts us:List T} {ys:List V} {D:Ends} (o:Ok K z S As ρ σ H) (e:ρ[i]? = some (some (.sp,.lst ts))) (hd:Dens K H S us .al [] ys)
  (h:endS K z S H D (.nx (ρ.set i (some (.sp,.lst (ts ++ us)))))):∃ a vs,σ[i]? = some (some (.ref a))∧H a=some (.lst vs)∧vs.length=ts.length∧D.nx σ (upd H a (.lst (vs ++ ys))):=by
 obtain⟨v,hv,d⟩:=o.sl i _ _ e
 obtain⟨a,vs,rfl,ea,h1,h2⟩:=zbu.mp d
 have ha:a∈As i:=by rw [ea];exact List.mem_singleton.mpr rfl
 have hS:=(o.ow i a ha).1
 refine ⟨a,vs,hv,h1,h2.length,h S _ σ _ (o.wr (zaX e) ha h1 hv (vs':=vs ++ ys) (A':=[a]) (zbu.mpr ⟨a,_,rfl,rfl,zaL,?_⟩) (by simp) fun b hb=>.inl (by rw [List.mem_singleton.mp hb];exact ha)) (zbw hS h1)⟩
 exact (zbf (A:=[]) h1 hS (by simp) h2).append (A1:=[]) (A2:=[]) (zbf (A:=[]) h1 hS (by simp) hd)
theorem zmU {M:List Bool} {S S':Addr→Prop} {As:Nat→List Addr} {ρ:SEnv} {σ:St} {H H':Hp} {m:Md} {ts:List T} {t:T} {y:V} {A:List Addr} {D:Ends} (o:Ok K z S As ρ σ H) (e:ρ[i]? = some (some (m,.lst ts))) (g:Got K H (SB S As M) H' S' A y md t) (h:endS K z S H D (zlK i md M m ts t ρ)) :
  ∃ a vs b ws,σ[i]? = some (some (.ref a))∧y=.ref b∧H' a=some (.lst vs)∧H' b=some (.lst ws)∧vs.length + ws.length≤sizeLine∧D.nx σ (upd H' a (.lst (vs ++ ws))):=by
 cases t with
 | sc _=>exact (show False from h).elim
 | scr _=>exact (show False from h).elim
 | tup _=>exact (show False from h).elim
 | lst us =>
  have h0:endS K z S H D (if ts.length + us.length≤sizeLine then if m=.fu∧(md=.fu∨zfH us=true) then .nx (ρ.set i (some (.fu,.lst (ts ++ us)))) else if m=.al∨M[i]? = some true then .bad else .nx ((zaz M ρ).set i (some (.sp,.lst (ts ++ us)))) else .bad):=h
  clear h
  split at h0
  ·rename_i hz
   split at h0
   ·rename_i hm
    obtain⟨rfl,hm⟩:=hm
    obtain⟨b,ws,B,rfl,hb,dB,ndB,owB⟩:∃ b ws B,y=.ref b∧H' b=some (.lst ws)∧Dens K H' S us .fu B ws∧B.Nodup∧∀ c∈B,H c=none∧¬ S' c:=by
     rcases hm with rfl | hf
     ·obtain⟨b,ws,B,rfl,rfl,h1,h2⟩:=zau.mp g.den
      exact⟨b,ws,B,rfl,h1,h2.fuS,(List.nodup_cons.mp g.nd).2,fun c hc=>g.ow c (List.mem_cons_of_mem _ hc)⟩
     ·obtain⟨_,b,ws,rfl,_,h1,h2⟩:=zak.mp g.al.den
      exact⟨b,ws,[],rfl,h1,(zfj h2 hf).fuS,List.nodup_nil,fun _ q=>(nomatch q)⟩
    obtain⟨v,hv,d⟩:=o.sl i _ _ e
    obtain⟨a,vs,A',rfl,ea,h1,h2⟩:=zau.mp d
    have ha:a∈As i:=by rw [ea];exact List.mem_cons_self ..
    have o':=o.grow g.g
    obtain⟨a1,a2,a3⟩:=o.ow i a ha
    have h1':=g.g.same _ _ h1
    have nB:a∉B:=fun q=>a3 (owB a q).1
    have nd:=o.nd i
    rw [ea] at nd
    refine ⟨a,vs,b,ws,hv,rfl,h1',hb,by rw [h2.length,dB.length];exact hz,h0 S _ σ _ (o'.wr (zaX e) ha h1' hv (vs':=vs ++ ws) (A':=a :: (A' ++ B)) (zau.mpr ⟨a,_,_,rfl,rfl,zaL,?_⟩) ?_ fun c hc=>?_) ((zaZ g.g.same).trans (zbw a1 h1'))⟩
    ·exact (zbf h1' a1 (List.nodup_cons.mp nd).1 (h2.mono g.g.same fun _ q=>q)).append (zbf h1' a1 nB dB)
    ·refine List.nodup_cons.mpr ⟨fun q=>?_,List.nodup_append.mpr ⟨(List.nodup_cons.mp nd).2,ndB,fun c hc c' hc' q=>?_⟩⟩
     ·rcases List.mem_append.mp q with q | q
      ·exact (List.nodup_cons.mp nd).1 q
      ·exact nB q
     ·subst q
      exact (o.ow i c (by rw [ea];exact List.mem_cons_of_mem _ hc)).2.2 (owB c hc').1
    ·rcases List.mem_cons.mp hc with q | q
     ·rw [q];exact .inl ha
     ·rcases List.mem_append.mp q with q | q
      ·exact .inl (by rw [ea];exact List.mem_cons_of_mem _ q)
      ·refine .inr ⟨fun j w=>(o.ow j c w).2.2 (owB c q).1,fun w=>(owB c q).2 (g.g.up c (.inl w)),za5 o.same (owB c q).1,fun w=>?_⟩
       obtain⟨ws,w'⟩:=dB.own c q
       rw [w] at w';cases w'
   ·split at h0
    ·exact (show False from h0).elim
    ·rename_i hn
     have hn1:M[i]?≠some true:=fun q=>hn (.inr q)
     have hn2:m≠.al:=fun q=>hn (.inl q)
     have ga:=g.al
     obtain⟨_,b,ws,rfl,_,hb,dB⟩:=zak.mp ga.den
     have o1:=o.share ga.g
     have e1:(zaz M ρ)[i]? = some (some (m,.lst ts)):=by rw [zcQ hn1];exact e
     have st1:Step K S H _ H':=zeJ ga.g
     cases m with
     | al=>exact (hn2 rfl).elim
     | sp =>
      obtain⟨a,vs,q1,q2,q3,q4⟩:=znZ (D:=D) o1 e1 dB (h0.step st1)
      exact⟨a,vs,b,ws,q1,rfl,q2,hb,by rw [dB.length];lia,q4⟩
     | fu =>
      obtain⟨a,vs,q1,q2,q3,o2,s2⟩:=o1.toSp e1
      have hl1:i < (zaz M ρ).length:=zaX e1
      have h':endS K z (fun b=>(S' b∨b∈A)∨b∈dAs As M i∧b≠a) H' D (.nx (((zaz M ρ).set i (some (.sp,.lst ts))).set i (some (.sp,.lst (ts ++ us))))):=by
       rw [List.set_set]
       exact h0.step (st1.trans s2)
      obtain⟨a',vs',r1,r2,r3,r4⟩:=znZ (D:=D) (z:=z) o2 (zhN hl1) (dB.monoS fun b hb=>.inl hb) h'
      exact⟨a',vs',b,ws,r1,rfl,r2,hb,by rw [dB.length];lia,r4⟩
  ·exact (show False from h0).elim
theorem znV (M:List Bool) (hx:PE X a (tVar i)) (he:JE X z md F e) (hbase:attributeBase a "extend" X.env (eval a X.env)=eval a X.env:=by rfl)
  (hfew:((backTo p2 (starEach [e] X.env)).all (fun x=>!x.1) && (backToKw p2 (keywordEach [] X.env)).all (fun x=>x.1.isSome) && decide ([e].length + ([]:List Keyword).length + (if ([]:List Keyword).isEmpty then 0 else 1) < 30))=true:=by rfl)
  (hline:(p1.endLine == p2.line)=true:=by rfl) (hst:starEach [e] X.env=(false,eval e X.env) :: starEach [] X.env:=by rfl) (hplain:(backTo p2 (starEach [] X.env)).any (·.1)=false:=by rfl)
  (hs:swapsWith (.Call (.Attribute a "extend" p1) [e] [] p2) none pos.line X.env=pure false:=by rfl):JS X z (sExt i md M F) (.Expr (.Call (.Attribute a "extend" p1) [e] [] p2) pos):=
 PS.imp (zdX (zk9 PySem.F.plainAttrs_list PySem.F.slot_list_extend PySem.F.type_list_extend zll hx (zbk he zc0 hst) hbase hfew hline hst hplain) hs) fun D σ H h=>zkI h fun S As ρ m ts t y H' S' A a o e1 g q ha=>by
  obtain⟨a',vs,b,ws,h1,h2,h3,h4,h5,h6⟩:=zmU o e1 g q
  rw [ha] at h1
  cases h1
  exact⟨a,b,vs,ws,rfl,by rw [h2],h3,h4,h5,h6⟩
noncomputable def zox:V→List V→Hp→VK→Prop:=fun x vs H Q=>∃ (l:Addr) (xs:List V) (k:Int) (y:V),x=.ref l∧vs=[.int k,y]∧H l=some (.lst xs)∧0≤k∧k≤xs.length∧xs.length < sizeLine∧Q .non (upd H l (.lst (xs.take k.toNat ++ y :: xs.drop k.toNat)))
theorem zh8 (its:List Value) (k:Int) (u2:Value) (h0:0≤k) (hk:k≤its.length):(fun xs:Array Value=>have k:=if k < 0 then (k + ((xs.size:Nat):Int)).toNat else min k.toNat xs.size;(xs.extract 0 k).push u2 ++ xs.extract k) its.toArray=(its.take k.toNat ++ u2 :: its.drop k.toNat).toArray:=by
 have e1:(if k < 0 then (k + ((its.toArray.size:Nat):Int)).toNat else min k.toNat its.toArray.size)=k.toNat:=by
  rw [if_neg (by lia),List.size_toArray]
  lia
 show (its.toArray.extract 0 (if k < 0 then (k + ((its.toArray.size:Nat):Int)).toNat else min k.toNat its.toArray.size)).push u2 ++ its.toArray.extract (if k < 0 then (k + ((its.toArray.size:Nat):Int)).toNat else min k.toNat its.toArray.size)=_
 rw [e1]
 apply Array.ext'
 simp
 exact List.take_of_length_le (by simp)
theorem zlk:MtM X "list.insert" zox:=by
 intro pins s σ H x vs v us Q I rx rv h
 obtain⟨l,xs,k,y,rfl,rfl,hH,hk0,hk,hz,q⟩:=h
 cases rx
 obtain⟨u1,u2,rfl,⟨t,rfl⟩,r2⟩:=rv.two
 obtain⟨z,its,n,r,hl,e⟩:=I.lstM hH
 have hk63:k < 2 ^ 63:=by
  have:(sizeLine:Nat) < 2 ^ 63:=zg3
  lia
 have hfit:¬ (!Builtin.List.listFitsIndex k)=true:=by
  rw [fitsIndex_both (by lia) hk63]
  exact Bool.false_ne_true
 have hzz:its.toArray.size≤sizeLine:=by rw [List.size_toArray,← hl];exact Nat.le_of_lt hz
 generalize hit:its.toArray=items at e hzz
 have hM:=AutoListH.list_insert_list_int_val_1 l items n k t u2 hfit hzz
 refine call_meets PySem.F.slot_list_insert ⟨_,e,rfl⟩ PySem.F.entry_list_insert (PySem.F.args_list_insert_3 _ _ _) hM ⟨e,?_⟩
 subst hit
 exact⟨.non,_,I.lset (its':=its.take k.toNat ++ u2 :: its.drop k.toNat) (ys:=xs.take k.toNat ++ y :: xs.drop k.toNat) hH e (zh8 its k u2 hk0 (by lia)) ((r.take k.toNat).append (.cons r2 (r.drop k.toNat))) (by simp;lia),rfl,q⟩
noncomputable def zlE (i:Nat) (m:Md) (ts:List T) (u t:T) (ρ:SEnv):SRes:=match u,t with
 | .sc (.int k),.sc w=>if m=.fu∧0≤k∧k≤ts.length∧ts.length < sizeLine then .nx (ρ.set i (some (.fu,.lst (ts.take k.toNat ++ .sc w :: ts.drop k.toNat)))) else .bad
 | _,_=>.bad
noncomputable def sIns (i:Nat) (M:List Bool) (F1 F2:VEnv→Res T):SEnv→SRes:=fun ρ=>zc4 i ρ fun m ts=>(F1 (view M ρ)).sthen fun u=>(F2 (view M ρ)).sthen fun t=>zlE i m ts u t ρ
theorem zdc {S:Addr→Prop} {H:Hp}:∀ {ts:List T} {A:List Addr} {vs:List V} (k:Nat),Dens K H S ts .fu A vs→∃ A1 A2,A=A1 ++ A2∧Dens K H S (ts.take k) .fu A1 (vs.take k)∧Dens K H S (ts.drop k) .fu A2 (vs.drop k)
 | ts,A,vs,0,d=>⟨[],A,rfl,by simp;exact Dens.nil,d⟩
 | [],A,vs,k + 1,d=>by unfold Dens at d;obtain⟨rfl,rfl⟩:=d;exact⟨[],[],rfl,Dens.nil,Dens.nil⟩
 | t :: ts,A,vs,k + 1,d=>by
  unfold Dens at d
  obtain⟨A1,A2,v,vs',rfl,rfl,d1,d2⟩:=d
  obtain⟨B1,B2,rfl,h1,h2⟩:=zdc k d2
  exact⟨A1 ++ B1,B2,by rw [List.append_assoc],Dens.cons d1 h1,h2⟩
theorem znU (M:List Bool) (hx:PE X a (tVar i)) (hk:JE X z md1 F1 b) (he:JE X z md2 F2 e) (hbase:attributeBase a "insert" X.env (eval a X.env)=eval a X.env:=by rfl)
  (hfew:((backTo p2 (starEach [b,e] X.env)).all (fun x=>!x.1) && (backToKw p2 (keywordEach [] X.env)).all (fun x=>x.1.isSome) && decide ([b,e].length + ([]:List Keyword).length + (if ([]:List Keyword).isEmpty then 0 else 1) < 30))=true:=by rfl)
  (hline:(p1.endLine == p2.line)=true:=by rfl) (hst:starEach [b,e] X.env=(false,eval b X.env) :: starEach [e] X.env:=by rfl) (hst2:starEach [e] X.env=(false,eval e X.env) :: starEach [] X.env:=by rfl) (hplain:(backTo p2 (starEach [e] X.env)).any (·.1)=false:=by rfl)
  (hs:swapsWith (.Call (.Attribute a "insert" p1) [b,e] [] p2) none pos.line X.env=pure false:=by rfl):JS X z (sIns i M F1 F2) (.Expr (.Call (.Attribute a "insert" p1) [b,e] [] p2) pos):=
 PS.imp (zdX (zk9 PySem.F.plainAttrs_list PySem.F.slot_list_insert PySem.F.type_list_insert zlk hx (zbk (JE.al hk) (zbk (JE.al he) zc0 hst2) hst) hbase hfew hline hst hplain) hs) fun D σ H h=>by
  obtain⟨S,As,ρ,o,h⟩:=h
  obtain⟨m,ts,e1,h⟩:=zcC h
  obtain⟨a,vs,h1,h2,h3⟩:=zcF o e1
  refine ⟨_,h1,.inl ⟨rfl,vs,.of h2⟩,_,_,o.view M,?_⟩
  cases e2:F1 (view M ρ) with
  | exc c=>rw [e2] at h;exact h
  | bad=>rw [e2] at h;exact h
  | ok u =>
   rw [e2,Res.sthen_ok] at h
   intro y1 H1 S1 A1 g1
   obtain rfl:=g1.den.alA
   refine ⟨_,_,(o.view M).grow g1.g,?_⟩
   cases e3:F2 (view M ρ) with
   | exc c=>rw [e3] at h;exact h
   | bad=>rw [e3] at h;exact h
   | ok t =>
    rw [e3,Res.sthen_ok] at h
    intro y2 H2 S2 A2 g2
    unfold zlE at h
    split at h
    ·rename_i k w
     split at h
     ·rename_i hc
      obtain⟨rfl,hk0,hk1,hz⟩:=hc
      obtain⟨_,rfl⟩:=zaf.mp g1.den
      obtain⟨_,rfl⟩:=zaf.mp g2.den
      have gg:=g1.g.trans g2.g
      have o':=o.grow gg
      obtain⟨v,hv,d⟩:=o'.sl i _ _ e1
      obtain⟨a',vs',A',rfl,ea,q1,q2⟩:=zau.mp d
      rw [h1] at hv
      cases hv
      have ha:a∈As i:=by rw [ea];exact List.mem_cons_self ..
      obtain⟨a1,a2,a3⟩:=o'.ow i a ha
      have nd:=o'.nd i
      rw [ea] at nd
      obtain⟨B1,B2,rfl,d1,d2⟩:=zdc k.toNat q2
      have nA:=(List.nodup_cons.mp nd).1
      refine ⟨a,vs',k,y2,rfl,rfl,q1,hk0,by rw [q2.length];exact hk1,by rw [q2.length];exact hz,h S _ σ _ (o'.wr (zaX e1) ha q1 h1 (vs':=vs'.take k.toNat ++ y2 :: vs'.drop k.toNat) (A':=a :: (B1 ++ ([] ++ B2))) (zau.mpr ⟨a,_,_,rfl,rfl,zaL,?_⟩) (by simpa using nd) fun c hc=>.inl (by rw [ea];simpa using hc)) ((zaZ gg.same).trans (zbw a1 q1))⟩
      exact (zbf q1 a1 (fun q=>nA (List.mem_append_left _ q)) d1).append (Dens.cons (zcP _) (zbf q1 a1 (fun q=>nA (List.mem_append_right _ q)) d2))
     ·exact (show False from h).elim
    ·exact (show False from h).elim
end
end TL
namespace TL
open PySem PySem.Spec L2
open PyProof.Rows hiding St
section
variable {X:Cx} {z:Z} {md md1 md2 md3:Md} {F F1 F2 F3:VEnv→Res T} {e a b c:Expr} {pos p1 p2 p3 p4:Pos} {K:PySem.W.Frag} {i:Nat} {x:Str}
theorem znE {M:List Bool} {G:T→T→SEnv→SRes} {S:Addr→Prop} {As:Nat→List Addr} {ρ:SEnv} {D:Ends} {σ:St} {H:Hp} {R:V→VK} (o:Ok K z S As ρ σ H)
  (h:endS K z S H D ((F1 (view M ρ)).sthen fun t=>(F2 (view M ρ)).sthen fun u=>G t u ρ))
  (k:∀ t u y w H1 H2 S1 S2 A1 A2,Got K H (SB S As M) H1 S1 A1 y md1 t→Got K H1 S1 H2 S2 A2 w md2 u→endS K z S H D (G t u ρ)→R y w H2) :
  tr K z md1 F1 σ H fun y H1=>tr K z md2 F2 σ H1 (R y):=by
 refine ⟨_,_,o.view M,?_⟩
 cases e2:F1 (view M ρ) with
 | exc c=>rw [e2] at h;exact h
 | bad=>rw [e2] at h;exact h
 | ok t =>
  rw [e2,Res.sthen_ok] at h
  intro y1 H1 S1 A1 g1
  refine ⟨_,_,(o.view M).grow g1.g,?_⟩
  cases e3:F2 (view M ρ) with
  | exc c=>rw [e3] at h;exact h
  | bad=>rw [e3] at h;exact h
  | ok u =>
   rw [e3,Res.sthen_ok] at h
   exact fun y2 H2 S2 A2 g2=>k t u y1 y2 H1 H2 S1 S2 A1 A2 g1 g2 h
theorem Got.later {K:PySem.W.Frag} {H H1 H2:Hp} {S S1 S2:Addr→Prop} {A:List Addr} {y:V} {t:T} {md:Md} (g:Got K H S H1 S1 A y md t) (g2:Grow H1 S1 H2 S2):Got K H S H2 S2 A y md t:=
 ⟨g.g.trans g2,g.nd,fun a ha=>⟨(g.ow a ha).1,fun q=>(g2.new a q).elim (g.ow a ha).2 fun w=>by
  obtain⟨ws,w'⟩:=g.den.own a ha
  rw [w] at w';cases w'⟩,g.den.mono g2.same g2.up⟩
noncomputable def zgh (i:Nat) (m:Md) (ts:List T) (t u:T) (ρ:SEnv):SRes:=match u with
 | .sc (.int k)=>match ixN ts.length k with
  | some j=>if m=.fu then .nx (ρ.set i (some (.fu,.lst (ts.set j t)))) else .bad
  | none=>.bad
 | _=>.bad
noncomputable def sPut (i:Nat) (M:List Bool) (F1 F2:VEnv→Res T):SEnv→SRes:=fun ρ=>zc4 i ρ fun m ts=>(F1 (view M ρ)).sthen fun t=>(F2 (view M ρ)).sthen fun u=>zgh i m ts t u ρ
theorem zms {M:List Bool} {S S':Addr→Prop} {As:Nat→List Addr} {ρ:SEnv} {σ:St} {H H':Hp} {ts:List T} {t:T} {y:V} {A:List Addr} {D:Ends} {j:Nat} (o:Ok K z S As ρ σ H) (e:ρ[i]? = some (some (.fu,.lst ts))) (g:Got K H (SB S As M) H' S' A y .fu t) (hj:j < ts.length)
  (h:endS K z S H D (.nx (ρ.set i (some (.fu,.lst (ts.set j t)))))):∃ a vs,σ[i]? = some (some (.ref a))∧H' a=some (.lst vs)∧vs.length=ts.length∧D.nx σ (upd H' a (.lst (vs.set j y))):=by
 have o':=o.grow g.g
 obtain⟨v,hv,d⟩:=o'.sl i _ _ e
 obtain⟨a,vs,A',rfl,ea,h1,h2⟩:=zau.mp d
 have ha:a∈As i:=by rw [ea];exact List.mem_cons_self ..
 obtain⟨a1,a2,a3⟩:=o.ow i a ha
 obtain⟨A1,Ak,A2,w,rfl,q1,q2,q3⟩:=Dens.split h2 (List.getElem?_eq_getElem hj)
 have nd:=o.nd i
 rw [ea] at nd
 obtain⟨n1,n2⟩:=List.nodup_cons.mp nd
 have nA:a∉A:=fun q=>a3 (g.ow a q).1
 have old:∀ c∈A1 ++ A2,c∈As i∧c≠a:=fun c hc=>by
  have hc':c∈A1 ++ (Ak ++ A2):=by
   rcases List.mem_append.mp hc with q | q
   ·exact List.mem_append_left _ q
   ·exact List.mem_append_right _ (List.mem_append_right _ q)
  exact⟨by rw [ea];exact List.mem_cons_of_mem _ hc',fun q=>n1 (q ▸ hc')⟩
 have fresh:∀ c∈A,∀ j,c∉As j:=fun c hc j w=>(o.ow j c w).2.2 (g.ow c hc).1
 have f:=Frm.upd (K:=K) (o:=.lst (vs.set j y)) h1
 refine ⟨a,vs,hv,h1,h2.length,h S _ σ _ (o'.wr (zaX e) ha h1 hv (vs':=vs.set j y) (A':=a :: (A1 ++ (A ++ A2))) (zau.mpr ⟨a,_,_,rfl,rfl,zaL,?_⟩) ?_ fun c hc=>?_) ((zaZ g.g.same).trans (zbw a1 h1))⟩
 ·exact q3 _ t A y ⟨fun c xs hc=>f.nodes c xs (hc.elim (fun q=>(old c (List.mem_append_left _ q)).2) fun q=>(old c (List.mem_append_right _ q)).2),f.tups,f.scrs⟩ (zgv h1 a1 nA g.den.fuS)
 ·obtain⟨m1,m2,m3⟩:=List.nodup_append.mp n2
  obtain⟨k1,k2,k3⟩:=List.nodup_append.mp m2
  refine List.nodup_cons.mpr ⟨fun q=>?_,List.nodup_append.mpr ⟨m1,List.nodup_append.mpr ⟨g.nd,k2,fun c hc d hd q=>?_⟩,fun c hc d hd q=>?_⟩⟩
  ·rcases List.mem_append.mp q with q | q
   ·exact (old a (List.mem_append_left _ q)).2 rfl
   ·rcases List.mem_append.mp q with q | q
    ·exact nA q
    ·exact (old a (List.mem_append_right _ q)).2 rfl
  ·subst q;exact fresh c hc i (old c (List.mem_append_right _ hd)).1
  ·subst q
   rcases List.mem_append.mp hd with q | q
   ·exact fresh c q i (old c (List.mem_append_left _ hc)).1
   ·exact m3 c hc c (List.mem_append_right _ q) rfl
 ·rcases List.mem_cons.mp hc with q | q
  ·rw [q];exact .inl ha
  ·rcases List.mem_append.mp q with q | q
   ·exact .inl (old c (List.mem_append_left _ q)).1
   ·rcases List.mem_append.mp q with q | q
    ·refine .inr ⟨fresh c q,fun w=>(g.ow c q).2 (g.g.up c (.inl w)),za5 o.same (g.ow c q).1,fun w=>?_⟩
     obtain⟨ws,w'⟩:=g.den.own c q
     rw [w] at w';cases w'
    ·exact .inl (old c (List.mem_append_right _ q)).1
theorem znX {n:Nat} {k:Int} {j:Nat} (h:ixN n k=some j):j < n:=(zh7 h).2.1
theorem ze9 (M:List Bool) (hx:PE X a (tVar i)) (he:JE X z .fu F1 e) (hk:JE X z md2 F2 b) (hs:swapsWithSole [.Subscript a b p1] e pos.line X.env=pure false:=by rfl) (hw:swappedStores [.Subscript a b p1] e X.env=pure none:=by rfl)
  (ha:∀ v,assign (.Subscript a b p1) X.env v=(do
   let ov ← holding [v] (eval a X.env)
   let iv ← holding [v,ov] (eval b X.env)
   standAt p1
   holding [v,ov,iv] (setItem ov iv v)
   release [v,ov,iv] []):=by intro _;rfl) (hh:(assignEach [.Subscript a b p1] X.env).map (·.2)=[assign (.Subscript a b p1) X.env]:=by rfl) :
  JS X z (sPut i M F1 F2) (.Assign [.Subscript a b p1] e pos):=
 PS.imp (zk0 he (znK hx (JE.al hk) ziR ha) hs hw hh) fun D σ H h=>by
  obtain⟨S,As,ρ,o,h⟩:=h
  obtain⟨m,ts,e1,h⟩:=zcC h
  obtain⟨a,vs,h1,h2,h3⟩:=zcF o e1
  have:=znE (md1:=.fu) (md2:=.al) (R:=fun y w H2=>zqc (.ref a) w y H2 (D.nx σ)) o h fun t u y w H1 H2 S1 S2 A1 A2 g1 g2 q=>by
   unfold zgh at q
   split at q
   ·rename_i k
    split at q
    ·rename_i j ej
     split at q
     ·rename_i hm
      subst hm
      obtain⟨_,rfl⟩:=zaf.mp g2.den
      obtain⟨a',vs',r1,r2,r3,r4⟩:=zms o e1 (g1.later g2.g) (znX ej) q
      rw [h1] at r1
      cases r1
      exact⟨a,vs',k,j,rfl,rfl,r2,by rw [r3];exact ej,r4⟩
     ·exact (show False from q).elim
    ·exact (show False from q).elim
   ·exact (show False from q).elim
  obtain⟨S',ρ',o',h'⟩:=this
  refine ⟨S',ρ',o',?_⟩
  cases e2:F1 ρ' with
  | exc c=>rw [e2] at h';exact h'
  | bad=>rw [e2] at h';exact h'
  | ok t=>rw [e2] at h';exact fun y H1 S1 A1 g1=>⟨_,h1,h' y H1 S1 A1 g1⟩
theorem Ok.inner {S:Addr→Prop} {As:Nat→List Addr} {ρ:SEnv} {σ:St} {H:Hp} {ts us:List T} {k:Nat} (o:Ok K z S As ρ σ H) (e:ρ[i]? = some (some (.fu,.lst ts))) (hk:ts[k]? = some (.lst us)):∃ a vs b ws B,σ[i]? = some (some (.ref a))∧H a=some (.lst vs)∧vs.length=ts.length ∧
  vs[k]? = some (.ref b)∧H b=some (.lst ws)∧Dens K H S us .fu B ws∧¬ S b∧b∉B∧B.Nodup ∧
  ∀ us' ws' B',Dens K (upd H b (.lst ws')) S us' .fu B' ws'→B'.Nodup→b∉B'→(∀ c∈B',c∈B∨((∀ j,c∉As j)∧¬ S c∧z.H₀ c=none∧H c≠none))→∃ As',Ok K z S As' (ρ.set i (some (.fu,.lst (ts.set k (.lst us'))))) σ (upd H b (.lst ws')):=by
 obtain⟨v,hv,d⟩:=o.sl i _ _ e
 obtain⟨a,vs,A',rfl,ea,h1,h2⟩:=zau.mp d
 obtain⟨A1,Ak,A2,w,rfl,q1,q2,q3⟩:=Dens.split h2 hk
 obtain⟨b,ws,B,rfl,rfl,h3,h4⟩:=zau.mp q2
 have nd:=o.nd i
 rw [ea] at nd
 obtain⟨n1,n2⟩:=List.nodup_cons.mp nd
 obtain⟨m1,m2,m3⟩:=List.nodup_append.mp n2
 obtain⟨k1,k2,k3⟩:=List.nodup_append.mp m2
 obtain⟨l1,l2⟩:=List.nodup_cons.mp k1
 have hb:b∈As i:=by rw [ea];exact List.mem_cons_of_mem _ (List.mem_append_right _ (List.mem_append_left _ (List.mem_cons_self ..)))
 obtain⟨b1,b2,b3⟩:=o.ow i b hb
 have nb:b≠a:=fun q=>n1 (q ▸ List.mem_append_right _ (List.mem_append_left _ (List.mem_cons_self ..)))
 have b1':b∉A1:=fun q=>m3 b q b (List.mem_append_left _ (List.mem_cons_self ..)) rfl
 have b2':b∉A2:=fun q=>k3 b (List.mem_cons_self ..) b q rfl
 refine ⟨a,vs,b,ws,B,hv,h1,h2.length,q1,h3,h4,b1,l1,l2,fun us' ws' B' d' nd' nb' sub=>?_⟩
 have f:=Frm.upd (K:=K) (o:=.lst ws') h3
 have new:∀ c∈B',c∉A1∧c∉A2∧c≠a:=fun c hc=>by
  rcases sub c hc with q | q
  ·exact⟨fun w=>m3 c w c (List.mem_append_left _ (List.mem_cons_of_mem _ q)) rfl,fun w=>k3 c (List.mem_cons_of_mem _ q) c w rfl,fun w=>n1 (w ▸ List.mem_append_right _ (List.mem_append_left _ (List.mem_cons_of_mem _ q)))⟩
  ·have q':=q.1 i
   rw [ea] at q'
   exact⟨fun w=>q' (List.mem_cons_of_mem _ (List.mem_append_left _ w)),fun w=>q' (List.mem_cons_of_mem _ (List.mem_append_right _ (List.mem_append_right _ w))),fun w=>q' (w ▸ List.mem_cons_self ..)⟩
 refine ⟨_,o.wr (zaX e) hb h3 hv (vs':=ws') (t':=.lst (ts.set k (.lst us'))) (m':=.fu) (A':=a :: (A1 ++ ((b :: B') ++ A2))) (zau.mpr ⟨a,vs,_,rfl,rfl,by rw [zaw (Ne.symm nb)];exact h1,?_⟩) ?_ fun c hc=>?_⟩
 ·have:=q3 (upd H b (.lst ws')) (.lst us') (b :: B') (.ref b) ⟨fun c xs hc=>f.nodes c xs (hc.elim (fun q w=>b1' (w ▸ q)) fun q w=>b2' (w ▸ q)),f.tups,f.scrs⟩ (zau.mpr ⟨b,ws',B',rfl,rfl,zaL,d'⟩)
  rw [show vs.set k (.ref b)=vs from by
   have hlt:k < vs.length:=(List.getElem?_eq_some_iff.mp q1).1
   have:vs[k]=.ref b:=(List.getElem?_eq_some_iff.mp q1).2
   rw [← this];exact List.set_getElem_self hlt] at this
  exact this
 ·refine List.nodup_cons.mpr ⟨fun q=>?_,List.nodup_append.mpr ⟨m1,List.nodup_append.mpr ⟨List.nodup_cons.mpr ⟨nb',nd'⟩,k2,fun c hc d hd q=>?_⟩,fun c hc d hd q=>?_⟩⟩
  ·rcases List.mem_append.mp q with q | q
   ·exact n1 (List.mem_append_left _ q)
   ·rcases List.mem_append.mp q with q | q
    ·rcases List.mem_cons.mp q with q | q
     ·exact nb q.symm
     ·exact (new a q).2.2 rfl
    ·exact n1 (List.mem_append_right _ (List.mem_append_right _ q))
  ·subst q
   rcases List.mem_cons.mp hc with q | q
   ·exact b2' (q ▸ hd)
   ·exact (new c q).2.1 hd
  ·subst q
   rcases List.mem_append.mp hd with q | q
   ·rcases List.mem_cons.mp q with q | q
    ·exact b1' (q ▸ hc)
    ·exact (new c q).1 hc
   ·exact m3 c hc c (List.mem_append_right _ q) rfl
 ·rcases List.mem_cons.mp hc with q | q
  ·rw [q,ea];exact .inl (List.mem_cons_self ..)
  ·rcases List.mem_append.mp q with q | q
   ·exact .inl (by rw [ea];exact List.mem_cons_of_mem _ (List.mem_append_left _ q))
   ·rcases List.mem_append.mp q with q | q
    ·rcases List.mem_cons.mp q with q | q
     ·rw [q];exact .inl hb
     ·rcases sub c q with q | q
      ·exact .inl (by rw [ea];exact List.mem_cons_of_mem _ (List.mem_append_right _ (List.mem_append_left _ (List.mem_cons_of_mem _ q))))
      ·exact .inr q
    ·exact .inl (by rw [ea];exact List.mem_cons_of_mem _ (List.mem_append_right _ (List.mem_append_right _ q)))
noncomputable def zee (i:Nat) (m:Md) (ts:List T) (t u w:T) (ρ:SEnv):SRes:=match t,u,w with
 | .sc v,.sc (.int k),.sc (.int l)=>match ixN ts.length k with
  | some j=>match ts[j]? with
   | some (.lst us)=>match ixN us.length l with
    | some n=>if m=.fu then .nx (ρ.set i (some (.fu,.lst (ts.set j (.lst (us.set n (.sc v))))))) else .bad
    | none=>.bad
   | _=>.bad
  | none=>.bad
 | _,_,_=>.bad
noncomputable def zgT (i:Nat) (M:List Bool) (F1 F2 F3:VEnv→Res T):SEnv→SRes:=fun ρ=>zc4 i ρ fun m ts=>(F1 (view M ρ)).sthen fun t=>(F2 (view M ρ)).sthen fun u=>(F3 (view M ρ)).no.sthen fun w=>zee i m ts t u w ρ
theorem zmt {S:Addr→Prop} {H:Hp} {D:Ends} {m:Md} {ts:List T} {t u w:T} {ρ:SEnv} (h:endS K z S H D (zee i m ts t u w ρ)):∃ v k l j us n,t=.sc v∧u=.sc (.int k)∧w=.sc (.int l)∧ixN ts.length k=some j∧ts[j]? = some (.lst us)∧ixN us.length l=some n∧m=.fu∧endS K z S H D (.nx (ρ.set i (some (.fu,.lst (ts.set j (.lst (us.set n (.sc v)))))))):=by
 unfold zee at h
 split at h
 ·rename_i v k l
  split at h
  ·rename_i j ej
   split at h
   ·rename_i us eu
    split at h
    ·rename_i n en
     split at h
     ·exact⟨v,k,l,j,us,n,rfl,rfl,rfl,ej,eu,en,by assumption,h⟩
     ·exact (show False from h).elim
    ·exact (show False from h).elim
   ·exact (show False from h).elim
  ·exact (show False from h).elim
 ·exact (show False from h).elim
theorem zlA {n:Nat} {k:Int} {j:Nat} {α:Type} {xs:List α} {x:α} (h:ixN n k=some j) (hl:xs.length=n) (e:xs[j]? = some x):atI xs k=some x:=by
 unfold atI
 rw [hl,h]
 exact e
theorem zh9 {S:Addr→Prop} {H:Hp} {us:List T} {ws:List V} {B:List Addr} {n:Nat} (d:Dens K H S us .fu B ws) (hn:n < us.length) (v:V):∃ B',Dens K H S (us.set n (.sc v)) .fu B' (ws.set n v)∧(∀ c∈B',c∈B)∧(B.Nodup→B'.Nodup):=by
 obtain⟨A1,Ak,A2,w,rfl,q1,q2,q3⟩:=Dens.split d (List.getElem?_eq_getElem hn)
 refine ⟨A1 ++ ([] ++ A2),q3 H (.sc v) [] v ⟨fun _ _ _ e=>e,fun _ _ e=>e,fun _ _ e=>e⟩ (zcP v),fun c hc=>?_,fun nd=>?_⟩
 ·rcases List.mem_append.mp hc with q | q
  ·exact List.mem_append_left _ q
  ·exact List.mem_append_right _ (List.mem_append_right _ q)
 ·obtain⟨m1,m2,m3⟩:=List.nodup_append.mp nd
  exact List.nodup_append.mpr ⟨m1,(List.nodup_append.mp m2).2.1,fun c hc d hd=>m3 c hc d (List.mem_append_right _ hd)⟩
theorem zd0 (M:List Bool) (hx:PE X a (tVar i)) (he:JE X z md1 F1 e) (hk:JE X z md2 F2 b) (hj:JE X z md3 F3 c) (hsl:zfr b:=by intro o i;rfl) (hs:swapsWithSole [.Subscript (.Subscript a b p2) c p1] e pos.line X.env=pure false:=by rfl) (hw:swappedStores [.Subscript (.Subscript a b p2) c p1] e X.env=pure none:=by rfl)
  (ha:∀ v,assign (.Subscript (.Subscript a b p2) c p1) X.env v=(do
   let ov ← holding [v] (eval (.Subscript a b p2) X.env)
   let iv ← holding [v,ov] (eval c X.env)
   standAt p1
   holding [v,ov,iv] (setItem ov iv v)
   release [v,ov,iv] []):=by intro _;rfl) (hh:(assignEach [.Subscript (.Subscript a b p2) c p1] X.env).map (·.2)=[assign (.Subscript (.Subscript a b p2) c p1) X.env]:=by rfl) :
  JS X z (zgT i M F1 F2 F3) (.Assign [.Subscript (.Subscript a b p2) c p1] e pos):=
 PS.imp (zk0 (JE.al he) (znK (zmz zfd hx (JE.al hk) hsl) (JE.al hj) ziR ha) hs hw hh) fun D σ H h=>by
  obtain⟨S,As,ρ,o,h⟩:=h
  obtain⟨m,ts,e1,h⟩:=zcC h
  obtain⟨a,vs,h1,h2,h3⟩:=zcF o e1
  refine ⟨_,_,o.view M,?_⟩
  cases e2:F1 (view M ρ) with
  | exc c=>rw [e2] at h;exact h
  | bad=>rw [e2] at h;exact h
  | ok t =>
   rw [e2,Res.sthen_ok] at h
   intro y1 H1 S1 A1 g1
   obtain rfl:=g1.den.alA
   refine ⟨_,h1,_,_,(o.view M).grow g1.g,?_⟩
   cases e3:F2 (view M ρ) with
   | exc c=>rw [e3] at h;exact h
   | bad=>rw [e3] at h;exact h
   | ok u =>
    rw [e3,Res.sthen_ok] at h
    intro y2 H2 S2 A2 g2
    obtain rfl:=g2.den.alA
    cases e4:F3 (view M ρ) with
    | bad=>rw [e4] at h;exact (show False from h).elim
    | exc c=>rw [e4] at h;exact (show False from h).elim
    | ok w =>
     rw [e4,Res.no_ok,Res.sthen_ok] at h
     obtain⟨v,k,l,j,us,n,rfl,rfl,rfl,ej,eu,en,rfl,h9⟩:=zmt h
     obtain⟨_,rfl⟩:=zaf.mp g1.den
     obtain⟨_,rfl⟩:=zaf.mp g2.den
     have gg:=g1.g.trans g2.g
     have o2:=o.grow gg
     obtain⟨a',vs',b,ws,B,r1,r2,r3,r4,r5,_⟩:=o2.inner e1 eu
     rw [h1] at r1
     cases r1
     refine ⟨a,vs',k,.ref b,rfl,rfl,.of r2,zlA ej r3 r4,S2,view M ρ,((o.view M).grow gg),?_⟩
     rw [e4]
     intro y3 H3 S3 A3 g3
     obtain⟨_,rfl⟩:=zaf.mp g3.den
     have ggg:=gg.trans g3.g
     have o3:=o.grow ggg
     obtain⟨a'',vs'',b',ws',B',t1,t2,t3,t4,t5,t6,t7,t8,t9,t10⟩:=o3.inner e1 eu
     rw [h1] at t1
     cases t1
     have:b'=b:=by
      have:=g3.g.same _ _ r2
      rw [t2] at this
      cases this
      rw [t4] at r4
      cases r4
      rfl
     subst this
     obtain⟨B2,u1,u2,u3⟩:=zh9 t6 (znX en) y1
     have hl:=t6.length
     refine ⟨b',ws',l,n,rfl,rfl,t5,by rw [hl];exact en,?_⟩
     obtain⟨As',o4⟩:=t10 (us.set n (.sc y1)) (ws'.set n y1) B2 (zbf t5 t7 (fun q=>t8 (u2 _ q)) u1) (u3 t9) (fun q=>t8 (u2 _ q)) fun c hc=>.inl (u2 c hc)
     exact h9 S As' σ _ o4 ((zaZ ggg.same).trans (zbw t7 t5))
end
end TL
namespace TL
open PySem PySem.Spec L2
open PyProof.Rows hiding St
section
variable {X:Cx} {z:Z} {md md1 md2 md3:Md} {F F1 F2 F3:VEnv→Res T} {e a b c:Expr} {pos p1 p2 p3 p4:Pos} {K:PySem.W.Frag} {i:Nat} {x:Str}
noncomputable def zfz (i:Nat) (ρ:SEnv) (u:T) (k:Nat→List T→List T→SRes):SRes:=match ρ[i]?,u with
 | some (some (.fu,.lst ts)),.sc (.int l)=>match ixN ts.length l with
  | some j=>match ts[j]? with
   | some (.lst us)=>k j ts us
   | _=>.bad
  | none=>.bad
 | _,_=>.bad
theorem zgK {S:Addr→Prop} {H:Hp} {D:Ends} {ρ:SEnv} {u:T} {k:Nat→List T→List T→SRes} (h:endS K z S H D (zfz i ρ u k)):∃ ts l j us,ρ[i]? = some (some (.fu,.lst ts))∧u=.sc (.int l)∧ixN ts.length l=some j∧ts[j]? = some (.lst us)∧endS K z S H D (k j ts us):=by
 unfold zfz at h
 split at h
 ·rename_i ts l e
  split at h
  ·rename_i j ej
   split at h
   ·rename_i us eu
    exact⟨ts,l,j,us,e,rfl,ej,eu,h⟩
   ·exact (show False from h).elim
  ·exact (show False from h).elim
 ·exact (show False from h).elim
noncomputable def hasL (i:Nat) (ρ:SEnv) (r:SRes):SRes:=zc4 i ρ fun _ _=>r
theorem zhb {S:Addr→Prop} {H:Hp}:∀ {ts:List T} {A:List Addr} {vs:List V},Dens K H S ts .fu A vs→∃ A1 A2,A=A1 ++ A2∧Dens K H S ts.dropLast .fu A1 vs.dropLast:=by
 intro ts A vs d
 obtain⟨A1,A2,h1,h2,_⟩:=zdc (ts.length - 1) d
 refine ⟨A1,A2,h1,?_⟩
 rw [List.dropLast_eq_take,List.dropLast_eq_take,d.length]
 exact h2
end
end TL
namespace TL
open PySem PySem.Spec L2
open PyProof.Rows hiding St
noncomputable def endU (z:Z) (H:Hp) (S:Addr→Prop) (Q:VK):Res Unit→Prop
 | .ok _=>∀ x H' S',Grow H S H' S'→Q (.str x) H'
 | .exc c=>∀ H',Same z.H₀ H'→z.E (.ref (z.cl c)) none H'
 | .bad=>False
def trs (K:PySem.W.Frag) (z:Z) (F:VEnv→Res Unit):TE:=fun σ H Q=>∃ S ρ,OkE K z S ρ σ H∧endU z H S Q (F ρ)
noncomputable def uOk:VEnv→Res Unit:=fun _=>.ok ()
section
variable {X:Cx} {z:Z} {md md1:Md} {F F1 F2 F3:VEnv→Res T} {U:VEnv→Res Unit} {e a b c:Expr} {pos p1 p2 p3 p4:Pos} {K:PySem.W.Frag} {i:Nat} {x:Str}
theorem znS {j}:PE X (.Constant (.str x) j pos) (trs X.K z uOk):=PE.imp zqq fun σ H Q h=>by
 obtain⟨S,ρ,o,h⟩:=h
 exact h x H S (.refl o.dom)
def PJ (X:Cx) (parts:List Expr) (n:Nat) (t:St→Hp→(Hp→Prop)→Prop):Prop:=
 ∀ (out:Str) (pins:List (Addr×Obj)) (s:Shared) (σ:St) (H:Hp) (Q:Hp→Prop),out.length + n≤1000→Inv X pins σ H s→t σ H Q →
  wpAny (model X.prog X.w) X.A (joinParts out (evalEach parts X.env)) (fun u s'=>∃ x tk H',u=.str x tk∧Inv X pins σ H' s'∧Q H') X.xe s
noncomputable def tju (K:PySem.W.Frag) (z:Z) (F:VEnv→Res Unit):St→Hp→(Hp→Prop)→Prop:=fun σ H Q=>∃ S ρ,OkE K z S ρ σ H∧endU z H S (fun _=>Q) (F ρ)
theorem zdy:1000≤sizeLine:=by decide
theorem zqk:PJ X [] 0 (tju X.K z uOk):=by
 intro out pins s σ H Q hn I h
 obtain⟨S,ρ,o,h⟩:=h
 refine joinParts_nilE (joinParts_nil ⟨out,_,H,rfl,I.tok _,h out H S (.refl o.dom)⟩ (Nat.le_trans (by lia) zdy))
theorem znI {es:List Expr} {n j} (hr:PJ X es n (tju X.K z U)):PJ X (.Constant (.str x) j pos :: es) (x.length + n) (tju X.K z U):=by
 intro out pins s σ H Q hn I h
 refine joinParts_consE (joinParts_cons (Calls.Constant_str ⟨?_,?_⟩))
 ·exact Nat.le_trans (by rw [strLen_append];lia) zdy
 ·exact hr _ pins _ σ H Q (by rw [strLen_append];lia) (I.tok _) h
noncomputable def uInt (F:VEnv→Res T) (U:VEnv→Res Unit):VEnv→Res Unit:=fun ρ=>(F ρ).bind fun t=>match t with
 | .sc (.int i)=>if 0≤i∧i < 100 then U ρ else .bad
 | _=>.bad
theorem zgN:∀ k:Fin 100,(toString ((k.val:Nat):Int):Str).length≤2:=by decide +kernel
theorem zkK {i:Int} (h0:0≤i) (h1:i < 100):i.natAbs.log2 < 1920:=by
 have:i.natAbs < 2 ^ 7:=by lia
 have h2:i.natAbs.log2 < 7:=by
  by_cases h:i.natAbs=0
  ·rw [h];decide
  ·exact (Nat.log2_lt h).mpr this
 lia
theorem zkL {i:Int} (h0:0≤i) (h1:i < 100):(toString i:Str).length≤2:=by
 have:=zgN ⟨i.toNat,by lia⟩
 rw [show (((⟨i.toNat,by lia⟩:Fin 100).val:Nat):Int)=i by show ((i.toNat:Nat):Int)=i;lia] at this
 exact this
theorem zql {es:List Expr} {n} (he:JE X z md F e) (hr:PJ X es n (tju X.K z U)):PJ X (.FormattedValue e (-1) none pos :: es) (2 + n) (tju X.K z (uInt F U)):=by
 intro out pins s σ H Q hn I h
 obtain⟨S,ρ,o,h⟩:=h
 unfold uInt at h
 try dsimp only at h
 have he':=JE.al he
 refine joinParts_consE (joinParts_cons (FormattedValue_plain (thn (he' pins s σ H (fun v H1=>∃ i,v=.int i∧0≤i∧i < 100∧tju X.K z U σ H1 Q) I ⟨S,ρ,o,?_⟩) fun u s1 ⟨v,H1,J,r,i,e1,h0,h1,q⟩=>?_)))
 ·cases e1:F ρ with
  | exc c=>rw [e1] at h;exact h
  | bad=>rw [e1] at h;exact h
  | ok t =>
   rw [e1,Res.bind_ok] at h
   intro v H1 S1 A g
   split at h
   ·rename_i i
    split at h
    ·rename_i hi
     obtain⟨_,rfl⟩:=zaf.mp g.den
     refine ⟨i,rfl,hi.1,hi.2,S1,ρ,o.grow g.g,?_⟩
     cases e2:U ρ with
     | ok _=>rw [e2] at h;exact fun x H2 S2 g2=>h x H2 S2 (g.g.trans g2)
     | exc c=>rw [e2] at h;exact h
     | bad=>rw [e2] at h;exact h
    ·exact (show False from h).elim
   ·exact (show False from h).elim
 ·subst e1
  obtain⟨t,rfl⟩:=r
  have:=zkL h0 h1
  refine formatField_int_small (zkK h0 h1) ⟨?_,?_⟩
  ·exact Nat.le_trans (by rw [strLen_append];lia) zdy
  ·exact hr _ pins _ σ H1 Q (by rw [strLen_append];lia) (J.tok _) q
theorem zpc {v1 v2:Expr} {es:List Expr} {n:Nat} (h:PJ X (v1 :: v2 :: es) n (tju X.K z U)) (hn:n≤1000:=by decide):PE X (.JoinedStr (v1 :: v2 :: es) pos) (trs X.K z U):=by
 intro pins s σ H Q I hq
 obtain⟨S,ρ,o,hq⟩:=hq
 refine JoinedStr_many (thn (h Str.empty pins s σ H (fun H'=>∀ x,Q (.str x) H') (by show 0 + n≤1000;lia) I ⟨S,ρ,o,?_⟩) fun u s' ⟨x,tk,H',e,J,q⟩=>⟨.str x,H',J,⟨tk,e⟩,q x⟩)
 cases e2:U ρ with
 | ok _=>rw [e2] at hq;exact fun _ H2 S2 g2 y=>hq y H2 S2 g2
 | exc c=>rw [e2] at hq;exact hq
 | bad=>rw [e2] at hq;exact hq
noncomputable def zfO (c:Nat) (M:List Bool) (U:VEnv→Res Unit):SEnv→SRes:=fun ρ=>(U (view M ρ)).sthen fun _=>.exc c
abbrev bmV:List Value:=[.type "ValueError", .type "Exception", .type "BaseException", .type "object"]
theorem zgr {c:Nat} {C:Addr} {np cpos:Pos} (M:List Bool) (hcl:z.cl c=C) (hR:zma X z.E) (hh:X.A.handled=none) (hg:Gl X x) (hm:X.mg x=some (.ref C)) (hc:PySem.W.excIn X.K C bmV "ValueError.__new__" = true) (ha:PE X e (trs X.K z U)) (hdb:(x == ("__debug__" : Str))=false:=by decide)
  (he:starEach [e] X.env=[(false,eval e X.env)]:=by rfl):JS X z (zfO c M U) (.Raise (some (.Call (.Name x np) [e] [] cpos)) none pos):=
 PS.imp (zmw PySem.F.excBase_ValueError hR hh hg hm hc (zbk ha zc0 he) (by decide +kernel) hdb he) fun D σ H h=>by
  obtain⟨S,As,ρ,o,h⟩:=h
  refine ⟨_,_,o.view M,?_⟩
  unfold zfO at h
  try dsimp only at h
  cases e1:U (view M ρ) with
  | exc c=>rw [e1] at h;exact h
  | bad=>rw [e1] at h;exact h
  | ok u =>
   rw [e1,Res.sthen_ok] at h
   intro y H' S' g
   refine ⟨Nat.le_trans (by show 1≤1000;decide) zdy,?_⟩
   rw [← hcl]
   exact h H' (o.same.trans g.same)
noncomputable def subC (c c':Nat):Bool:=c' == 0 || c == c'
noncomputable def envE (n i:Nat) (a:Addr):SEnv:=(List.replicate n none).set i (some (.al,.sc (.ref a)))
noncomputable def trh (K:PySem.W.Frag) (z:Z) (Hd:Nat→SRes):Addr→VK→Hp→Prop:=fun C Q H=>∃ c,C=z.cl c∧Same z.H₀ H∧match Hd c with
 | .rt md t=>∀ v H' S' A,Got K z.H₀ z.S₀ H' S' A v md t→Q v H'
 | _=>False
abbrev JH (X:Cx) (z:Z) (Hd:Nat→SRes) (hs:List ExceptHandler):Prop:=PH X hs (trh X.K z Hd)
theorem PH.imp {hs:List ExceptHandler} {t t':Addr→VK→Hp→Prop} (h:PH X hs t) (k:∀ C Q H,t' C Q H→t C Q H):PH X hs t':=fun pins s σ H C a Q L q=>h pins s σ H C a Q L (k C Q H q)
noncomputable def hBad:Nat→SRes:=fun _=>.bad
theorem zqV:JH X z hBad []:=PH.imp zqn fun C Q H h=>by
 obtain⟨c,_,_,h⟩:=h
 exact h.elim
noncomputable def zmR (cs:List Nat) (c':Nat) (md:Md) (t:T) (Hd:Nat→SRes):Nat→SRes:=fun c=>if cs.contains c=true then (if subC c c'=true then .rt md t else Hd c) else .bad
theorem zpf {n:Str} {C':Addr} {c':Nat} {b₀:Stmt} {body:List Stmt} {rest:List ExceptHandler} {np:Pos} {md:Md} {t:T} {Hd:Nat→SRes} {Rh:Addr→SEnv→SRes} (cs:List Nat) (hcl:z.cl c'=C') (hdom:Dom z.S₀ z.H₀) (hg:Gl X x) (hm:X.mg x=some (.ref C')) (hN:X.N.Nodup) (hi:X.N[i]? = some n)
  (hx:X.env.scope.names.lookup n=some .local) (hsub:∀ c∈cs,PySem.W.exmOne X.K (.ref (z.cl c)) (.ref C')=some (subC c c'))
  (hsu:∀ a oe,(∃ c∈cs,subC c c'=true∧oe.cls=.ref (z.cl c))→PSs (hcx X a oe) (b₀ :: body) (st X.K z (Rh a))) (hres:∀ a,Rh a (envE X.N.length i a)=.rt md t) (hr:JH X z Hd rest) (hdb:(x == ("__debug__" : Str))=false:=by decide) :
  JH X z (zmR cs c' md t Hd) (.ExceptHandler (some (.Name x np)) (some n) (b₀ :: body) pos :: rest):=by
 classical
 refine PH.imp (zoI (ts:=fun a oe=>if (∃ c∈cs,subC c c'=true∧oe.cls=.ref (z.cl c)) then st X.K z (Rh a) else znC) hg hm hN hi hx (fun a oe=>?_) hr hdb) fun C Q H h=>?_
 ·split
  ·exact hsu a oe (by assumption)
  ·exact zkZ
 ·obtain⟨c,rfl,sm,h⟩:=h
  unfold zmR at h
  by_cases hc:cs.contains c=true
  ·have hc':c∈cs:=by simpa using hc
   refine ⟨subC c c',hsub c hc',?_⟩
   cases hs:subC c c' with
   | false =>
    rw [if_neg (by decide)]
    rw [if_pos hc,hs] at h
    exact⟨c,rfl,sm,h⟩
   | true =>
    rw [if_pos rfl]
    rw [if_pos hc,hs] at h
    intro a oe σ hcls ha hl
    have hex:∃ c∈cs,subC c c'=true∧oe.cls=.ref (z.cl c):=⟨c,hc',hs,hcls⟩
    rw [if_pos hex]
    refine ⟨z.S₀,fun _=>[],envE X.N.length i a,⟨sm,fun b hb=>zbs sm (hdom b hb),?_,fun _ h=>h,fun _ h=>.inl h,fun _=>List.nodup_nil,fun _ _ q=>(nomatch q),fun _ _ _ _ q=>(nomatch q),fun j m u e=>?_⟩,?_⟩
    ·unfold envE;simp [hl]
    ·unfold envE at e
     by_cases hj:j=i
     ·subst hj
      by_cases hlt:j < X.N.length
      ·rw [List.getElem?_set_self (by simpa using hlt)] at e
       cases e
       exact⟨.ref a,by rw [List.getElem?_set_self (by lia)],zcP _⟩
      ·rw [List.getElem?_eq_none (by simp;lia)] at e;cases e
     ·rw [List.getElem?_set_ne (Ne.symm hj),List.getElem?_replicate] at e
      split at e <;> cases e
    ·rw [hres a]
     exact h
  ·rw [if_neg hc] at h
   exact h.elim
noncomputable def sTry (R:SEnv→SRes) (Hd:Nat→SRes):SEnv→SRes:=fun ρ=>match R ρ with
 | .exc c=>match Hd c with
  | .rt md t=>.rt md t
  | _=>.bad
 | r=>r
theorem zqS {body:List Stmt} {h₀:ExceptHandler} {hs:List ExceptHandler} {R:SEnv→SRes} {Hd:Nat→SRes} (hst:X.stack=X.env :: X.outer) (hf:X.env.frame=some X.env.locals)
  (hb:∀ pn E' Eh,zel (CXe X.prog X.w) (tcx X pn E') Eh→PSs (tcx X pn E') body (st X.K { z with E:=Eh } R)) (hh:JH X z Hd (h₀ :: hs)):JS X z (sTry R Hd) (.Try body (h₀ :: hs) [] [] pos):=
 PS.imp (zqi hst hf hb hh) fun D σ H h=>by
  obtain⟨S,As,ρ,o,h⟩:=h
  have o':∀ E,Ok X.K { z with E:=E } S As ρ σ H:=fun E=>⟨o.same,o.dom,o.ln,o.s0,o.s1,o.nd,o.ow,o.dj,o.sl⟩
  unfold sTry at h
  cases e:R ρ with
  | nx ρ' =>
   rw [e] at h
   refine ⟨fun _ _ _=>False,⟨S,As,ρ,o' _,?_⟩,fun _ _ _ q=>q.elim⟩
   rw [e]
   exact fun S' As' σ' H' o1 s1=>h S' As' σ' H' ⟨o1.same,o1.dom,o1.ln,o1.s0,o1.s1,o1.nd,o1.ow,o1.dj,o1.sl⟩ s1
  | rt md t =>
   rw [e] at h
   refine ⟨fun _ _ _=>False,⟨S,As,ρ,o' _,?_⟩,fun _ _ _ q=>q.elim⟩
   rw [e]
   exact h
  | bad=>rw [e] at h;exact (show False from h).elim
  | exc c =>
   rw [e] at h
   refine ⟨fun cv _ H'=>cv=.ref (z.cl c)∧Same z.H₀ H',⟨S,As,ρ,o' _,?_⟩,fun cv r H' q=>?_⟩
   ·rw [e]
    exact fun H' sm=>⟨rfl,sm⟩
   ·obtain⟨rfl,sm⟩:=q
    refine ⟨_,rfl,c,rfl,sm,?_⟩
    replace h:endS X.K z S H D (match Hd c with | .rt md t=>.rt md t | _=>.bad):=h
    cases e2:Hd c with
    | rt md t=>rw [e2] at h;exact h
    | nx _=>rw [e2] at h;exact h
    | exc _=>rw [e2] at h;exact h
    | bad=>rw [e2] at h;exact h
noncomputable def eExc (i:Nat) (a:Addr):VEnv→Res T:=fun ρ=>match ρ[i]? with
 | some (some (.sc (.ref b)))=>if b=a then .ok (.sc (.bl true)) else .bad
 | _=>.bad
theorem zjd {E:Addr} {oe:Obj} {y:Str} {v:V} {u:Value} {p5:Pos} (hg:Gl (hcx X E oe) "isinstance") (hm:X.mg "isinstance" = none) (hx:PE (hcx X E oe) a (tVar i)) (hc:PE (hcx X E oe) b (tC v)) (hv:∀ u',RelV v u'→u'=u) (hk:PySem.W.kitCls X.K oe.cls u=some true)
  (he:starEach [a,b] (hcx X E oe).env=(false,eval a (hcx X E oe).env) :: starEach [b] (hcx X E oe).env:=by rfl) (he2:starEach [b] (hcx X E oe).env=(false,eval b (hcx X E oe).env) :: starEach [] (hcx X E oe).env:=by rfl) (hpl:(backTo pos (starEach [b] (hcx X E oe).env)).any (·.1)=false:=by rfl) :
  PE (hcx X E oe) (.Call (.Name "isinstance" p5) [a,b] [] pos) (tr X.K z md (eExc i E)):=
 PE.imp (ziX zkl hg hm boot_isinstance (zbk hx (zbk hc zc0 he2) he) (by decide) (by decide) he hpl) fun σ H Q h=>by
  obtain⟨S,ρ,o,h⟩:=h
  unfold eExc at h
  split at h
  ·rename_i b e
   split at h
   ·rename_i hb
    subst hb
    obtain⟨w,h1,h2⟩:=o.sl i _ e
    obtain⟨_,rfl⟩:=zaf.mp h2
    exact⟨_,h1,v,u,rfl,hv,hk,h _ H S [] (Got.sc o.dom _)⟩
   ·exact (show False from h).elim
  ·exact (show False from h).elim
end
end TL
namespace TL
open PySem PySem.Spec L2
open PyProof.Rows hiding St
noncomputable def Itz (K:PySem.W.Frag) (a b:Addr):It:=
 ⟨fun i H=>∃ xs ys x y,SqL K H a xs∧SqL K H b ys∧xs[i]? = some x∧ys[i]? = some y,
  fun i H v H'=>∃ p x y,H p=none∧v=.ref p∧H'=upd H p (.tup [x,y])∧∀ xs ys,SqL K H a xs→SqL K H b ys→xs[i]? = some x∧ys[i]? = some y,
  fun i H=>∃ xs ys,SqL K H a xs∧SqL K H b ys∧(xs.length≤i∨ys.length≤i)⟩
theorem Inv.turnedTup {X:Cx} {pins:List (Addr×Obj)} {σ:St} {H:Hp} {s:Shared} {h':Heap} {ch:List Addr} {p:Addr} {xs:List V} {its:List Value} {tk:Nat} (I:Inv X pins σ H s) (hf:∀ b∈ch,FpOk X pins H b) (hp:s.heap.objs.size≤p)
  (k:∀ b o,b∉ch→s.heap.get? b=some o→h'.get? b=some o) (hv:Vals xs its) (hz:xs.length≤sizeLine) (ht:IsTup h' p its.toArray):Inv X pins σ (upd H p (.tup xs)) { s with heap:=h',toks:=tk }:=by
 have hn:H p=none:=I.hok.fresh hp
 have un:Un (frs X.stack) ch H (upd H p (.tup xs)) s.heap h':=
  ⟨fun b o e _ _ hx=>k b o hx e,fun b o e _ _ hx=>⟨o.slots,k b o hx e⟩,fun b o e n _=>by rw [zaw (Nat.ne_of_lt (Nat.lt_of_lt_of_le (Heap.lt_size e) hp))];exact n,fun b o e hx=>⟨o,k b o hx e⟩,
   fun b ys q=>by rw [zaw (zaA q hn)];exact q,fun b u ys q=>by rw [zaw (zaA q hn)];exact q,fun b ps q=>⟨#[],by rw [zaw (zaA q hn),q];simp⟩⟩
 have hok:HOk X.prog X.w (upd H p (.tup xs)) h':=fun b u e=>by
  by_cases hb:b=p
  ·subst hb;rw [zaL] at e;cases e;exact⟨hz,its,hv,ht⟩
  ·rw [zaw hb] at e
   have nch:∀ c u,H c=some u→c∉ch:=fun c u q hc=>by rw [(hf c hc).1] at q;cases q
   refine (I.hok b u e).stay (fun c v hc r=>k c v ?_ r) (fun c q=>by rw [zaw (zaA q hn)];exact q) fun c ys q=>by rw [zaw (zaA q hn)];exact q
   rcases hc with rfl | hc
   ·exact nch _ _ e
   ·exact nch _ _ hc
 exact I.call (g':=s.gens) (t':=tk) (d':=s.drawn) un hok I.bare fun b hb=>let ⟨_,h1,_,h3,h4,h5⟩:=hf b hb;⟨h3,h1,h4,h5⟩
theorem Inv.turnedMany {X:Cx} {pins:List (Addr×Obj)} {σ:St} {H:Hp} {s:Shared} {h':Heap} {ch:List Addr} {tk:Nat} (I:Inv X pins σ H s) (hf:∀ b∈ch,FpOk X pins H b)
  (k:∀ b o,b∉ch→s.heap.get? b=some o→h'.get? b=some o):Inv X pins σ H { s with heap:=h',toks:=tk }:=by
 have un:Un (frs X.stack) ch H H s.heap h':=
  ⟨fun b o e _ _ hx=>k b o hx e,fun b o e _ _ hx=>⟨o.slots,k b o hx e⟩,fun b o e n _=>n,fun b o e hx=>⟨o,k b o hx e⟩,fun b ys q=>q,fun b u ys q=>q,fun b ps q=>⟨#[],by rw [q];simp⟩⟩
 have hok:HOk X.prog X.w H h':=fun b u e=>by
  have nch:∀ c u,H c=some u→c∉ch:=fun c u q hc=>by rw [(hf c hc).1] at q;cases q
  refine (I.hok b u e).stay (fun c v hc r=>k c v ?_ r) (fun c q=>q) fun c ys q=>q
  rcases hc with rfl | hc
  ·exact nch _ _ e
  ·exact nch _ _ hc
 exact I.call (g':=s.gens) (t':=tk) (d':=s.drawn) un hok I.bare fun b hb=>let ⟨_,h1,_,h3,h4,h5⟩:=hf b hb;⟨h3,h1,h4,h5⟩
theorem zkB {n a b:Nat} (ha:a < n) (hb:b < n):ZipApart (n + 4) (n + 2) (n + 3) n (n + 1) a b:=
 ⟨fun h=>absurd (show (n + 2:Nat)=n + 4 from h) (by lia),fun h=>absurd (show (n + 3:Nat)=n + 4 from h) (by lia),fun h=>absurd (show (n:Nat)=n + 4 from h) (by lia),fun h=>absurd (show (n + 1:Nat)=n + 4 from h) (by lia),fun h=>absurd (show (n + 2:Nat)=n + 3 from h) (by lia),fun h=>absurd (show (n + 2:Nat)=n from h) (by lia),fun h=>absurd (show (n + 2:Nat)=n + 1 from h) (by lia),fun h=>absurd (show (n + 3:Nat)=n from h) (by lia),fun h=>absurd (show (n + 3:Nat)=n + 1 from h) (by lia),fun h=>absurd (show (n:Nat)=n + 1 from h) (by lia),fun h=>absurd (show (a:Nat)=n + 4 from h) (by lia),fun h=>absurd (show (a:Nat)=n + 3 from h) (by lia),fun h=>absurd (show (a:Nat)=n from h) (by lia),fun h=>absurd (show (a:Nat)=n + 1 from h) (by lia),fun h=>absurd (show (b:Nat)=n + 4 from h) (by lia),fun h=>absurd (show (b:Nat)=n + 3 from h) (by lia),fun h=>absurd (show (b:Nat)=n from h) (by lia),fun h=>absurd (show (b:Nat)=n + 1 from h) (by lia)⟩
theorem zmf {P:Program} {w:World} {K:PySem.W.Frag} {elts:List Expr} {x1} {pos:Pos} (a b z TI TO i1 i2:Addr) (D:ZipApart z TI TO i1 i2 a b):Turn P w K (.Tuple elts x1 pos) (Itz K a b) [z,TI,TO,i1,i2] z
  (fun i h=>IsZip h z TI TO .none∧IsPair h TI (.ref i1) (.ref i2)∧(∃ u v,IsPair h TO u v)∧h.IsListIter i1 a i∧h.IsListIter i2 b i) where
 mem:=by simp
 obj:=fun i h st c hc=>by
  obtain⟨hz,hTI,⟨u,v,hTO⟩,h1,h2⟩:=st
  simp only [List.mem_cons,List.not_mem_nil,or_false] at hc
  rcases hc with rfl | rfl | rfl | rfl | rfl
  ·exact⟨_,hz,fun v z=>by cases z⟩
  ·exact⟨_,hTI,fun v z=>by cases z⟩
  ·exact⟨_,hTO,fun v z=>by cases z⟩
  ·obtain⟨o,e,c,d⟩:=h1
   exact⟨o,e,fun v z=>by rw [d] at z;cases z⟩
  ·obtain⟨o,e,c,d⟩:=h2
   exact⟨o,e,fun v z=>by rw [d] at z;cases z⟩
 keep:=fun i h h' st k=>by
  obtain⟨hz,hTI,⟨u,v,hTO⟩,h1,h2⟩:=st
  exact⟨k z (by simp) _ hz,k TI (by simp) _ hTI,⟨u,v,k TO (by simp) _ hTO⟩,h1.at fun o e=>k i1 (by simp) o e,h2.at fun o e=>k i2 (by simp) o e⟩
 item:=by
  intro X hP hw hK hc i pins s σ H E I hf st hg
  subst hP hw hK
  obtain⟨hz,hTI,⟨u0,v0,hTO⟩,h1,h2⟩:=st
  obtain⟨xs,ys,x,y,hq1,hq2,hx,hy⟩:=hg
  obtain⟨its1,rv1,p1,z1⟩:=I.list hq1
  obtain⟨its2,rv2,p2,z2⟩:=I.list hq2
  obtain⟨u,hu,ru⟩:=rv1.get hx
  obtain⟨v,hv,rv⟩:=rv2.get hy
  refine wpAny_pyNext_zip_item D hz hTI hTO h1 h2 p1.isList p2.isList (x:=u) (y:=v) (by simpa using hu) (by simpa using hv) fun h' a1 a2 a3 a4 a5 a6 a7=>⟨_,rfl,?_⟩
  have lt:∀ c∈[z,TI,TO,i1,i2],c < s.heap.objs.size:=fun c hc=>by
   simp only [List.mem_cons,List.not_mem_nil,or_false] at hc
   rcases hc with rfl | rfl | rfl | rfl | rfl
   ·exact Heap.lt_size hz
   ·exact Heap.lt_size hTI
   ·exact Heap.lt_size hTO
   ·obtain⟨o,e,_⟩:=h1;exact Heap.lt_size e
   ·obtain⟨o,e,_⟩:=h2;exact Heap.lt_size e
  have nz:s.heap.objs.size≠z:=Nat.ne_of_gt (lt z (by simp))
  refine wpAny_letOwnedTupleGo_zip (s:={ s with heap:=h' }) a1 fun h'' b1 b2=>?_
  have hn:H s.heap.objs.size=none:=I.hok.fresh (Nat.le_refl _)
  have kp:∀ c o,c∉[z,TI,TO,i1,i2]→s.heap.get? c=some o→h''.get? c=some o:=fun c o hc e=>by
   simp only [List.mem_cons,List.not_mem_nil,or_false,not_or] at hc
   exact (b2.2 c hc.1).trans (a7 c o hc.1 hc.2.2.1 hc.2.2.2.1 hc.2.2.2.2 e)
  have tp:IsTup h'' s.heap.objs.size [u,v].toArray:=⟨_,(b2.2 _ nz).trans a5,rfl,_,rfl⟩
  have I1:=Inv.turnedTup (xs:=[x,y]) (its:=[u,v]) (tk:=s.toks) I hf (Nat.le_refl _) kp (.cons ru (.cons rv .nil)) (by show 2≤sizeLine;decide) tp
  refine ⟨.ref s.heap.objs.size,_,I1,rfl,⟨s.heap.objs.size,x,y,hn,rfl,rfl,fun xs' ys' g1 g2=>by rw [I.list_inj g1 hq1,I.list_inj g2 hq2];exact⟨hx,hy⟩⟩,?_,fun c hc=>?_⟩
  ·exact⟨b1,(b2.2 TI D.TIz).trans (a7 TI _ D.TIz D.TITO D.TIi1 D.TIi2 hTI),⟨u,v,(b2.2 TO D.TOz).trans a2⟩,a3.at fun o e=>(b2.2 i1 D.i1z).trans e,a4.at fun o e=>(b2.2 i2 D.i2z).trans e⟩
  ·rw [zaw (Nat.ne_of_lt (lt c hc))];exact (hf c hc).1
 done:=by
  intro X hP hw hK hc i pins s σ H E I hf st hg
  subst hP hw hK
  obtain⟨hz,hTI,⟨u0,v0,hTO⟩,h1,h2⟩:=st
  obtain⟨xs,ys,hq1,hq2,hx⟩:=hg
  obtain⟨its1,rv1,p1,z1⟩:=I.list hq1
  obtain⟨its2,rv2,p2,z2⟩:=I.list hq2
  have l1:=rv1.length
  have l2:=rv2.length
  refine wpAny_pyNext_zip_end (I.ok.hd hc) D hz hTI hTO h1 h2 p1.isList p2.isList (hx.imp (fun q=>by simp;lia) fun q=>by simp;lia) fun h' kp=>⟨rfl,Inv.turnedMany (tk:=s.toks) I hf fun b o hb e=>?_⟩
  simp only [List.mem_cons,List.not_mem_nil,or_false,not_or] at hb
  exact kp b o hb.1 hb.2.2.1 hb.2.2.2.1 hb.2.2.2.2 e
 self:=fun _ _ _ _ _ st h=>wpAny_pyIter_zip st.1 h
section
variable {X:Cx} {z:Z} {md1 md2:Md} {F1 F2:VEnv→Res T} {a b:Expr} {pos p p2:Pos} {K:PySem.W.Frag} {elts:List Expr} {x1:Nat}
noncomputable def zipT (xs ys:List T):List T:=List.zipWith (fun x y=>.tup [x,y]) xs ys
noncomputable def iZip (F1 F2:VEnv→Res T):VEnv→Res (List T):=fun ρ=>(F1 ρ).bind fun t=>(F2 ρ).bind fun u=>.of ((asL t).bind fun xs=>(asL u).bind fun ys=>some (zipT xs ys))
theorem zpd {H:Hp} {S:Addr→Prop} {a b:Addr} {vs ws:List V} {ts us:List T} (hS:S a) (hH:H a=some (.lst vs)) (d:Dens K H S ts .al [] vs) (hS':S b) (hH':H b=some (.lst ws)) (d':Dens K H S us .al [] ws):JOk K (Itz K a b) H S (zipT ts us):=by
 have len:(zipT ts us).length=min ts.length us.length:=by unfold zipT;rw [List.length_zipWith]
 refine ⟨fun H2 S2 s dm i t e=>?_,fun H2 S2 s _=>⟨vs,ws,.of (s.frm.nodes _ _ hS hH),.of (s.frm.nodes _ _ hS' hH'),by rw [len,d.length,d'.length];lia⟩⟩
 have h2:SqL K H2 a vs:=.of (s.frm.nodes _ _ hS hH)
 have h2':SqL K H2 b ws:=.of (s.frm.nodes _ _ hS' hH')
 have hi:i < (zipT ts us).length:=(List.getElem?_eq_some_iff.mp e).1
 rw [len] at hi
 have e1:ts[i]? = some ts[i]:=List.getElem?_eq_getElem (by lia)
 have e2:us[i]? = some us[i]:=List.getElem?_eq_getElem (by lia)
 have et:t=.tup [ts[i],us[i]]:=by
  unfold zipT at e
  rw [List.getElem?_zipWith,e1,e2] at e
  exact (Option.some.inj e).symm
 subst et
 obtain⟨v,h3,h4⟩:=(s.dens d).get e1
 obtain⟨w,h5,h6⟩:=(s.dens d').get e2
 refine ⟨⟨vs,ws,v,w,h2,h2',h3,h5⟩,fun x H3 y=>?_⟩
 obtain⟨q,x',y',hn,rfl,rfl,y⟩:=y
 obtain⟨y1,y2⟩:=y vs ws h2 h2'
 rw [h3] at y1
 rw [h5] at y2
 cases y1
 cases y2
 have sm:Same H2 (upd H2 q (.tup [v,w])):=fun c o e=>by rw [zaw (zaA e hn)];exact e
 exact⟨⟨sm,fun _ h=>h,fun _ h=>.inl h,fun c h=>zbs sm (dm c h)⟩,zao.mpr ⟨rfl,q,_,rfl,.inl (.inl zaL),Dens.cons0 (h4.mono sm fun _ h=>h) (Dens.cons0 (h6.mono sm fun _ h=>h) Dens.nil)⟩⟩
theorem zqT (hg:Gl X "zip") (hm:X.mg "zip" = none) (ha:JE X z md1 F1 a) (hb:JE X z md2 F2 b) (hs:starEach [a,b] X.env=(false,eval a X.env) :: starEach [b] X.env:=by rfl) (hs2:starEach [b] X.env=(false,eval b X.env) :: starEach [] X.env:=by rfl) (hpl:(backTo pos (starEach [b] X.env)).any (·.1)=false:=by rfl) :
  JI X z (.Tuple elts x1 p2) (iZip F1 F2) (.Call (.Name "zip" p) [a,b] [] pos):=by
 intro pins s σ H R I h
 have hA:PA X [a,b] (zmh (tr X.K z .al F1) (zmh (tr X.K z .al F2) tNil)):=zbk (JE.al ha) (zbk (JE.al hb) zc0 hs2) hs
 refine Call_ (zdz I hg hm boot_zip (callWith_type1 (thn (hA pos pins s σ H (fun vs H1=>∃ a b xs ys ts us S1,vs=[.ref a,.ref b]∧S1 a∧S1 b∧H1 a=some (.lst xs)∧H1 b=some (.lst ys)∧Dens X.K H1 S1 ts .al [] xs∧Dens X.K H1 S1 us .al [] ys∧Dom S1 H1∧∀ J H' S',Grow H1 S1 H' S'→JOk X.K J H' S' (zipT ts us)→R J H') I ?_) fun us s1 ⟨vs,H1,I1,r1,q1⟩=>?_) hs hpl))
 ·obtain⟨S,ρ,o,h⟩:=h
  refine ⟨S,ρ,o,?_⟩
  unfold iZip at h
  try dsimp only at h
  cases e1:F1 ρ with
  | exc c=>rw [e1] at h;exact h
  | bad=>rw [e1] at h;exact h
  | ok t =>
   rw [e1,Res.bind_ok] at h
   intro v1 H1 S1 A1 g1
   obtain rfl:=g1.den.alA
   refine ⟨S1,ρ,o.grow g1.g,?_⟩
   cases e2:F2 ρ with
   | exc c=>rw [e2] at h;exact h
   | bad=>rw [e2] at h;exact h
   | ok u =>
    rw [e2,Res.bind_ok] at h
    intro v2 H2 S2 A2 g2
    obtain rfl:=g2.den.alA
    cases t with
    | lst ts =>
     cases u with
     | lst us =>
      obtain⟨_,a,xs,rfl,q1,q2,q3⟩:=zak.mp (g1.den.mono g2.g.same g2.g.up)
      obtain⟨_,b,ys,rfl,q4,q5,q6⟩:=zak.mp g2.den
      exact⟨a,b,xs,ys,ts,us,S2,rfl,q1,q4,q2,q5,q3,q6,g2.g.dom,fun J H' S' g=>h J H' S' ((g1.g.trans g2.g).trans g)⟩
     | sc _=>exact (show False from h).elim
     | scr _=>exact (show False from h).elim
     | tup _=>exact (show False from h).elim
    | sc _=>exact (show False from h).elim
    | scr _=>exact (show False from h).elim
    | tup _=>exact (show False from h).elim
 ·obtain⟨a,b,xs,ys,ts,us',S1,rfl,q1,q2,q3,q4,q5,q6,dm,q⟩:=q1
  obtain⟨u1,u2,rfl,r1,r2⟩:=zpX r1
  cases r1
  cases r2
  obtain⟨its1,rv1,p1,z1⟩:=I1.list (.of q3)
  obtain⟨its2,rv2,p2,z2⟩:=I1.list (.of q4)
  have la:a < s1.heap.objs.size:=I1.hok.lt q3
  have lb:b < s1.heap.objs.size:=I1.hok.lt q4
  refine call_zip_2 p1.isList p2.isList fun h' a1 a2 a3 a4 a5 a6 kp=>wpAny_pyIter_zip a1 ?_
  have I2:Inv X pins σ H1 { s1 with heap:=h' }:=I1.kept (t':=s1.toks) kp
  refine ⟨s1.heap.objs.size + 4,[s1.heap.objs.size + 4,s1.heap.objs.size + 2,s1.heap.objs.size + 3,s1.heap.objs.size,s1.heap.objs.size + 1],_,_,H1,rfl,I2,
   zmf a b _ _ _ _ _ (zkB la lb),⟨a1,a2,⟨_,_,a3⟩,a4,a5⟩,fun c hc=>?_,q _ H1 S1 (.refl dm) (zpd q1 q3 q5 q2 q4 q6)⟩
  ·have hge:s1.heap.objs.size≤c:=by
    simp only [List.mem_cons,List.not_mem_nil,or_false] at hc
    rcases hc with rfl | rfl | rfl | rfl | rfl <;> lia
   exact I1.fpOk hge (I1.hok.fresh hge)
end
end TL
namespace TL
open PySem PySem.Spec L2
open PyProof.Rows hiding St
def g2 (K:PySem.W.Frag) (i j:Nat):TG:=gTup K 2 (zmS (zfi i) (zmS (zfi j) gNil))
theorem zm0 {K:PySem.W.Frag} {H:Hp} {S:Addr→Prop} {x y:T} {v:V} (d:Den K H S (.tup [x,y]) .al [] v):∃ a u w,v=.ref a∧SqT K H a [u,w]∧Den K H S x .al [] u∧Den K H S y .al [] w:=by
 obtain⟨_,a,vs,rfl,h1,h2⟩:=zao.mp d
 obtain⟨u,w,rfl,h3,h4⟩:=zgu h2
 exact⟨a,u,w,rfl,h1,h3,h4⟩
theorem zlW {K:PySem.W.Frag} (i j:Nat):zpL K (g2 K i j) (gS2 i j):=by
 intro z S As ρ σ H t v ρ' Q o d e k
 unfold gS2 at e
 split at e
 ·rename_i x y
  obtain⟨a,u,w,rfl,h1,h2,h3⟩:=zm0 d
  cases e1:gS i x ρ with
  | none=>rw [e1] at e;cases e
  | some ρ1 =>
   rw [e1] at e
   refine ⟨a,[u,w],rfl,h1,rfl,u,[w],rfl,?_⟩
   refine zaT i z S As ρ σ H x u ρ1 _ o h2 e1 fun As1 σ1 o1=>⟨w,[],rfl,?_⟩
   exact zaT j z S As1 ρ1 σ1 H y w ρ' _ o1 h3 e fun As2 σ2 o2=>⟨rfl,k As2 σ2 o2⟩
 ·cases e
section
variable {X:Cx} {z:Z} {md md1 md2:Md} {F F1 F2:VEnv→Res T} {e a b:Expr} {pos px py pt pt2:Pos} {K:PySem.W.Frag} {i j:Nat} {x y:Str} {kt k2:Nat}
noncomputable def zmA (i j:Nat) (t u:T) (ρ:SEnv):SRes:=match t,u with
 | .sc v,.sc w=>if i < ρ.length∧j < ρ.length then .nx ((ρ.set i (some (.fu,.sc v))).set j (some (.fu,.sc w))) else .bad
 | _,_=>.bad
noncomputable def sPar (i j:Nat) (M:List Bool) (F1 F2:VEnv→Res T):SEnv→SRes:=fun ρ=>(F1 (view M ρ)).sthen fun t=>(F2 (view M ρ)).sthen fun u=>zmA i j t u ρ
theorem Ok.setSc {S:Addr→Prop} {As:Nat→List Addr} {ρ:SEnv} {σ:St} {H:Hp} (o:Ok K z S As ρ σ H) (v:V) {i:Nat} (hi:i < ρ.length):Ok K z S (fun j=>if j=i then [] else As j) (ρ.set i (some (.fu,.sc v))) (σ.set i (some v)) H:=
 o.put ⟨.refl o.dom,List.nodup_nil,fun _ z=>(nomatch z),zcP v⟩ i hi
theorem znT (M:List Bool) (hc:X.calm=true) (hN:X.N.Nodup) (hi:X.N[i]? = some x) (hj:X.N[j]? = some y) (hij:i≠j) (hx:X.env.scope.names.lookup x=some .local) (hy:X.env.scope.names.lookup y=some .local) (ha:JE X z md1 F1 a) (hb:JE X z md2 F2 b)
  (hw:swappedStores [.Tuple [.Name x px,.Name y py] kt pt] (.Tuple [a,b] k2 pt2) X.env=pure (some [x,y])) (hs:swapsWithSole [.Tuple [.Name x px,.Name y py] kt pt] (.Tuple [a,b] k2 pt2) pos.line X.env=pure false:=by rfl)
  (he:starEach [a,b] X.env=(false,eval a X.env) :: starEach [b] X.env:=by rfl) (he2:starEach [b] X.env=(false,eval b X.env) :: starEach [] X.env:=by rfl) :
  JS X z (sPar i j M F1 F2) (.Assign [.Tuple [.Name x px,.Name y py] kt pt] (.Tuple [a,b] k2 pt2) pos):=
 PS.imp (zqj hc hN hi hj hij hx hy (zbk (JE.al ha) (zbk (JE.al hb) zc0 he2) he) hw hs) fun D σ H h=>by
  obtain⟨S,As,ρ,o,h⟩:=h
  refine znE (md1:=.al) (md2:=.al) (R:=fun y w H2=>∃ v w',[y,w]=[v,w']∧D.nx ((σ.set i (some v)).set j (some w')) H2) o h fun t u y w H1 H2 S1 S2 A1 A2 g1 g2 q=>?_
  unfold zmA at q
  split at q
  ·rename_i v w'
   split at q
   ·rename_i hl
    obtain⟨_,rfl⟩:=zaf.mp g1.den
    obtain⟨_,rfl⟩:=zaf.mp g2.den
    have gg:=g1.g.trans g2.g
    have o1:=(o.grow gg).setSc y hl.1
    have o2:=o1.setSc w (i:=j) (by rw [List.length_set];exact hl.2)
    exact⟨y,w,rfl,q S _ _ H2 o2 (zaZ gg.same)⟩
   ·exact (show False from q).elim
  ·exact (show False from q).elim
noncomputable def gsT:List Nat→List T→SEnv→Option SEnv
 | [],[],ρ=>some ρ
 | i :: is,t :: ts,ρ=>(gS i t ρ).bind (gsT is ts)
 | _,_,_=>none
noncomputable def gNs:List Nat→TGs
 | []=>gNil
 | i :: is=>zmS (zfi i) (gNs is)
theorem zhi:∀ (is:List Nat) (z:Z) (S:Addr→Prop) (As:Nat→List Addr) (ρ:SEnv) (σ:St) (H:Hp) (ts:List T) (vs:List V) (ρ':SEnv) (Q:St→Hp→Prop),Ok K z S As ρ σ H→Dens K H S ts .al [] vs→gsT is ts ρ=some ρ'→(∀ As' σ',Ok K z S As' ρ' σ' H→Q σ' H)→gNs is vs σ H Q
 | [],z,S,As,ρ,σ,H,ts,vs,ρ',Q,o,d,e,k=>by
  cases ts with
  | nil=>cases e;unfold Dens at d;exact⟨d.2,k As σ o⟩
  | cons t ts=>cases e
 | i :: is,z,S,As,ρ,σ,H,ts,vs,ρ',Q,o,d,e,k=>by
  cases ts with
  | nil=>cases e
  | cons t ts =>
   unfold Dens at d
   obtain⟨A1,A2,v,vs',ea,rfl,d1,d2⟩:=d
   obtain⟨rfl,rfl⟩:=List.append_eq_nil_iff.mp ea.symm
   have e':(gS i t ρ).bind (gsT is ts)=some ρ':=e
   cases e1:gS i t ρ with
   | none=>rw [e1] at e';cases e'
   | some ρ1 =>
    rw [e1] at e'
    exact⟨v,vs',rfl,zaT i z S As ρ σ H t v ρ1 _ o d1 e1 fun As1 σ1 o1=>zhi is z S As1 ρ1 σ1 H ts vs' ρ' Q o1 d2 e' k⟩
noncomputable def sUnp (is:List Nat) (M:List Bool) (F:VEnv→Res T):SEnv→SRes:=fun ρ=>(F (view M ρ)).sthen fun t=>match t with
 | .tup ts=>match gsT is ts (zaz M ρ) with
  | some ρ'=>.nx ρ'
  | none=>.bad
 | _=>.bad
theorem zlH:∀ {is:List Nat} {ts:List T} {ρ ρ':SEnv},gsT is ts ρ=some ρ'→ts.length=is.length
 | [],[],_,_,_=>rfl
 | [],_ :: _,_,_,h=>by cases h
 | _ :: _,[],_,_,h=>by cases h
 | i :: is,t :: ts,ρ,ρ',h=>by
  have h':(gS i t ρ).bind (gsT is ts)=some ρ':=h
  cases e1:gS i t ρ with
  | none=>rw [e1] at h';cases h'
  | some ρ1=>rw [e1] at h';rw [List.length_cons,List.length_cons,zlH (ρ:=ρ1) (ρ':=ρ') h']
theorem zqR {es:List Expr} {n:Nat} (is:List Nat) (M:List Bool) (he:JE X z md F e) (hg:PG X (.Tuple es kt pt) (gTup X.K n (gNs is))) (hn:is.length=n) (hs:swapsWithSole [.Tuple es kt pt] e pos.line X.env=pure false:=by rfl) (hw:swappedStores [.Tuple es kt pt] e X.env=pure none:=by rfl)
  (hh:(assignEach [.Tuple es kt pt] X.env).map (·.2)=[assign (.Tuple es kt pt) X.env]:=by rfl):JS X z (sUnp is M F) (.Assign [.Tuple es kt pt] e pos):=
 PS.imp (zk0 (JE.al he) hg hs hw hh) fun D σ H h=>zeK h fun S As ρ t v H' S' A o g q=>by
  obtain rfl:=g.den.alA
  cases t with
  | sc _=>exact (show False from q).elim
  | scr _=>exact (show False from q).elim
  | lst _=>exact (show False from q).elim
  | tup ts =>
   obtain⟨_,a,vs,rfl,h1,h2⟩:=zao.mp g.den
   replace q:endS X.K z S H D (match gsT is ts (zaz M ρ) with | some ρ'=>.nx ρ' | none=>.bad):=q
   cases e1:gsT is ts (zaz M ρ) with
   | none=>rw [e1] at q;exact (show False from q).elim
   | some ρ' =>
    rw [e1] at q
    exact⟨a,vs,rfl,h1,by rw [h2.length,zlH e1];exact hn,zhi is z S' _ _ σ H' ts vs ρ' _ (o.share g.g) h2 e1 fun As' σ' o'=>q S' As' σ' H' o' (zeJ g.g)⟩
end
end TL
namespace TL
open PySem PySem.Spec L2
open PyProof.Rows hiding St
section
variable {X:Cx} {z:Z} {md md1 md2 md3:Md} {F F1 F2 F3:VEnv→Res T} {e a b c:Expr} {pos p1 p2 p3 p4 p5 p6:Pos} {K:PySem.W.Frag} {i:Nat} {x:Str}
noncomputable def ze8:List T→Option V
 | []=>none
 | [.sc v]=>some v
 | [_]=>none
 | _ :: ts=>ze8 ts
theorem zeg:∀ {us:List T} {v:V},ze8 us=some v→us=us.dropLast ++ [.sc v]
 | [],v,h=>by cases h
 | [.sc w],v,h=>by cases h;rfl
 | [.scr _],v,h=>by cases h
 | [.lst _],v,h=>by cases h
 | [.tup _],v,h=>by cases h
 | t :: u :: us,v,h=>by
  have h':ze8 (u :: us)=some v:=by
   cases t <;> exact h
  have:=zeg h'
  rw [List.dropLast_cons_of_ne_nil (by simp),List.cons_append,← this]
noncomputable def zgg (i:Nat) (M:List Bool) (F1 F2:VEnv→Res T):SEnv→SRes:=fun ρ=>hasL i ρ ((F1 (view M ρ)).sthen fun u=>(F2 (view M ρ)).no.sthen fun w=>zfz i ρ u fun j1 _ _=>zfz i ρ w fun j2 ts us2=>match ze8 us2 with
 | some v=>match (ts.set j2 (.lst us2.dropLast))[j1]? with
  | some (.lst us1)=>if us1.length < sizeLine then .nx (ρ.set i (some (.fu,.lst ((ts.set j2 (.lst us2.dropLast)).set j1 (.lst (us1 ++ [.sc v])))))) else .bad
  | _=>.bad
 | none=>.bad)
theorem zlv (M:List Bool) (hx:PE X a (tVar i)) (hk:JE X z md1 F1 b) (he:JE X z md2 F2 c) (hsl:zfr b:=by intro o i;rfl) (hsl2:zfr c:=by intro o i;rfl) (hx2:PE X e (tVar i))
  (hbase:attributeBase (.Subscript a b p3) "append" X.env (eval (.Subscript a b p3) X.env)=eval (.Subscript a b p3) X.env:=by rfl)
  (hfew:((backTo p2 (starEach [.Call (.Attribute (.Subscript e c p4) "pop" p5) [] [] p6] X.env)).all (fun x=>!x.1) && (backToKw p2 (keywordEach [] X.env)).all (fun x=>x.1.isSome) && decide ([Expr.Call (.Attribute (.Subscript e c p4) "pop" p5) [] [] p6].length + ([]:List Keyword).length + (if ([]:List Keyword).isEmpty then 0 else 1) < 30))=true:=by rfl)
  (hline:(p1.endLine == p2.line)=true:=by rfl) (hst:starEach [.Call (.Attribute (.Subscript e c p4) "pop" p5) [] [] p6] X.env=(false,eval (.Call (.Attribute (.Subscript e c p4) "pop" p5) [] [] p6) X.env) :: starEach [] X.env:=by rfl) (hplain:(backTo p2 (starEach [] X.env)).any (·.1)=false:=by rfl)
  (hbase2:attributeBase (.Subscript e c p4) "pop" X.env (eval (.Subscript e c p4) X.env)=eval (.Subscript e c p4) X.env:=by rfl) (hline2:(p5.endLine == p6.line)=true:=by rfl)
  (hs:swapsWith (.Call (.Attribute (.Subscript a b p3) "append" p1) [.Call (.Attribute (.Subscript e c p4) "pop" p5) [] [] p6] [] p2) none pos.line X.env=pure false:=by rfl) :
  JS X z (zgg i M F1 F2) (.Expr (.Call (.Attribute (.Subscript a b p3) "append" p1) [.Call (.Attribute (.Subscript e c p4) "pop" p5) [] [] p6] [] p2) pos):=
 PS.imp (zdX (zk9 PySem.F.plainAttrs_list PySem.F.slot_list_append PySem.F.type_list_append ze2 (zmz zfd hx (JE.al hk) hsl) (zbk (zqt PySem.F.plainAttrs_list PySem.F.slot_list_pop PySem.F.type_list_pop zqI (zmz zfd hx2 (JE.al he) hsl2) hbase2 hline2) zc0 hst) hbase hfew hline hst hplain) hs) fun D σ H h=>by
  obtain⟨S,As,ρ,o,h⟩:=h
  obtain⟨m,ts0,e1,h⟩:=zcC h
  obtain⟨a,vs,h1,h2,h3⟩:=zcF o e1
  refine ⟨_,h1,_,_,o.view M,?_⟩
  cases e2:F1 (view M ρ) with
  | exc c=>rw [e2] at h;exact h
  | bad=>rw [e2] at h;exact h
  | ok u =>
   rw [e2,Res.sthen_ok] at h
   intro y1 H1 S1 A1 g1
   obtain rfl:=g1.den.alA
   cases e3:F2 (view M ρ) with
   | exc c=>rw [e3] at h;exact (show False from h).elim
   | bad=>rw [e3] at h;exact (show False from h).elim
   | ok w =>
    rw [e3,Res.no_ok,Res.sthen_ok] at h
    obtain⟨ts,l1,j1,us1,er,rfl,ej1,eu1,h8⟩:=zgK h
    obtain⟨ts',l2,j2,us2,er',rfl,ej2,eu2,h9⟩:=zgK h8
    rw [er] at er'
    cases er'
    obtain⟨_,rfl⟩:=zaf.mp g1.den
    cases e5:ze8 us2 with
    | none=>rw [e5] at h9;exact (show False from h9).elim
    | some v =>
     rw [e5] at h9
     have h10:endS X.K z S H D (match (ts.set j2 (.lst us2.dropLast))[j1]? with
      | some (.lst us1)=>if us1.length < sizeLine then .nx (ρ.set i (some (.fu,.lst ((ts.set j2 (.lst us2.dropLast)).set j1 (.lst (us1 ++ [.sc v])))))) else .bad
      | _=>.bad):=h9
     clear h9
     split at h10
     ·rename_i us1' eu1'
      split at h10
      ·rename_i hz
       have o1:=o.grow g1.g
       obtain⟨a',vs',b,ws,B,r1,r2,r3,r4,r5,r6,_⟩:=o1.inner er eu1
       rw [h1] at r1
       cases r1
       refine ⟨a,vs',l1,.ref b,rfl,rfl,.of r2,zlA ej1 r3 r4,.inl ⟨rfl,ws,.of r5⟩,_,h1,S1,view M ρ,((o.view M).grow g1.g),?_⟩
       rw [e3]
       intro y3 H3 S3 A3 g3
       obtain⟨_,rfl⟩:=zaf.mp g3.den
       have gg:=g1.g.trans g3.g
       have o3:=o.grow gg
       obtain⟨a'',vs'',c',ws',B',t1,t2,t3,t4,t5,t6,t7,t8,t9,t10⟩:=o3.inner er eu2
       rw [h1] at t1
       cases t1
       have evs:vs''=vs':=by
        have:=g3.g.same _ _ r2
        rw [t2] at this
        cases this
        rfl
       subst evs
       obtain⟨B1,B2,eB,dB⟩:=zhb t6
       have hsp:=zeg e5
       have hlast:ws'[ws'.length - 1]? = some v:=by
        have hl:=t6.length
        have hpos:0 < us2.length:=by rw [hsp];simp
        have hu:us2[us2.length - 1]? = some (.sc v):=by
         have e0:us2.length - 1=us2.dropLast.length:=by simp
         rw [e0]
         conv=>lhs;arg 1;rw [hsp]
         rw [List.getElem?_append_right (Nat.le_refl _)]
         simp
        obtain⟨C1,Ck,C2,w0,_,q1,q2,_⟩:=Dens.split t6 hu
        obtain⟨_,rfl⟩:=zaf.mp q2
        rw [hl];exact q1
       refine ⟨a,vs'',l2,.ref c',rfl,rfl,.of t2,zlA ej2 t3 t4,.inl ⟨rfl,ws',.of t5⟩,c',ws',v,rfl,rfl,t5,hlast,?_⟩
       have nB:∀ d∈B1,d∈B':=fun d hd=>by rw [eB];exact List.mem_append_left _ hd
       obtain⟨As4,o4⟩:=t10 us2.dropLast ws'.dropLast B1 (zbf t5 t7 (fun q=>t8 (nB _ q)) dB) (by rw [eB] at t9;exact (List.nodup_append.mp t9).1) (fun q=>t8 (nB _ q)) fun d hd=>.inl (nB d hd)
       have er4:(ρ.set i (some (.fu,.lst (ts.set j2 (.lst us2.dropLast)))))[i]? = some (some (.fu,.lst (ts.set j2 (.lst us2.dropLast)))):=zhN (zaX er)
       obtain⟨a5,vs5,b5,ws5,B5,w1,w2,w3,w4,w5,w6,w7,w8,w9,w10⟩:=o4.inner er4 eu1'
       rw [h1] at w1
       cases w1
       have na:a≠c':=fun q=>by
        subst q
        rw [t5] at t2
        cases t2
        have:=t6.length
        obtain⟨vv,hv,dd⟩:=o3.sl i _ _ er
        rw [h1] at hv
        cases hv
        obtain⟨aa,vvs,AA,e7,e8,q1,q2⟩:=zau.mp dd
        cases e7
        rw [t5] at q1
        cases q1
        obtain⟨C1,Ck,C2,w0,rfl,x1,x2,_⟩:=Dens.split q2 eu2
        rw [t4] at x1
        cases x1
        obtain⟨b9,ws9,B9,e9,rfl,_⟩:=zau.mp x2
        cases e9
        have nd:=o3.nd i
        rw [e8] at nd
        exact (List.nodup_cons.mp nd).1 (List.mem_append_right _ (List.mem_append_left _ (List.mem_cons_self ..)))
       have ev5:vs5=vs'':=by
        rw [zaw na,t2] at w2
        cases w2
        rfl
       subst ev5
       rw [r4] at w4
       cases w4
       refine ⟨b,ws5,v,rfl,rfl,w5,by rw [w6.length];exact hz,?_⟩
       obtain⟨As6,o6⟩:=w10 (us1' ++ [.sc v]) (ws5 ++ [v]) (B5 ++ []) ((zbf w5 w7 w8 w6).append (Dens.cons (A1:=[]) (A2:=[]) (zcP _) Dens.nil)) (by simpa using w9) (by simpa using w8) fun d hd=>.inl (by simpa using hd)
       rw [List.set_set] at o6
       exact h10 S As6 σ _ o6 (((zaZ gg.same).trans (zbw t7 t5)).trans (zbw w7 w5))
      ·exact (show False from h10).elim
     ·exact (show False from h10).elim
end
end TL
namespace TL
open PySem PySem.Spec L2
open PyProof.Rows hiding St
section
variable {K:PySem.W.Frag} {H H':Hp} {S S':Addr→Prop}
end
section
variable {X:Cx} {z:Z} {md md1 md2 md3:Md} {F F1 F2 F3:VEnv→Res T} {e a b c a':Expr} {pos pos2 p1 p2 p3 p4:Pos} {K:PySem.W.Frag} {i p:Nat} {x:Str} {R:SEnv→SRes} {ss:List Stmt}
theorem Ok.drop {S:Addr→Prop} {As:Nat→List Addr} {ρ:SEnv} {σ:St} {H:Hp} (o:Ok K z S As ρ σ H) (p:Nat) (v:V):Ok K z S As (ρ.set p none) (σ.set p (some v)) H:=
 ⟨o.same,o.dom,by rw [List.length_set,List.length_set];exact o.ln,o.s0,o.s1,o.nd,o.ow,o.dj,fun j m t e=>by
  by_cases hj:j=p
  ·subst hj
   by_cases hl:j < ρ.length
   ·rw [List.getElem?_set_self hl] at e;cases e
   ·rw [List.getElem?_eq_none (by rw [List.length_set];lia)] at e;cases e
  ·rw [List.getElem?_set_ne (fun q=>hj q.symm)] at e
   rw [List.getElem?_set_ne (fun q=>hj q.symm)]
   exact o.sl j m t e⟩
end
end TL
namespace TL
open PySem PySem.Spec L2
open PyProof.Rows hiding St
section
variable {prog:Program} {w:World} {A:Around} {s:Shared} {R:Result→Shared→Prop} {E:Value→Shared→Prop} {J:Addr} {fp wr:List Addr} {G:Array GenState→Array GenState→Prop} {n:Nat} {P:Nat→Value→Prop} {Sx:Nat→Shared→Prop}
end
section
variable {X:Cx} {z:Z} {md md1:Md} {F:VEnv→Res T} {e:Expr} {p1 p2 p3 p4:Pos}
end
end TL
namespace TL
open PySem PySem.Spec L2
open PyProof.Rows hiding St
section
variable {X:Cx} {z:Z} {md md1:Md} {F:VEnv→Res T} {Fs:VEnv→Res (List T)} {e:Expr} {es:List Expr} {p pos:Pos} {i n:Nat} {K:PySem.W.Frag}
end
noncomputable def asS:T→Option (List T)
 | .lst ts=>some ts
 | .tup ts=>some ts
 | _=>none
@[simp] theorem zsX (ts:List T):asS (.lst ts)=some ts:=rfl
@[simp] theorem zsW (ts:List T):asS (.tup ts)=some ts:=rfl
noncomputable def iSeq (F:VEnv→Res T):VEnv→Res (List T):=fun ρ=>(F ρ).bind fun t=>.of (asS t)
section
variable {X:Cx} {z:Z} {md:Md} {F:VEnv→Res T} {e tg:Expr}
def zpn (K:PySem.W.Frag) (tl:TE):TI:=fun σ H R=>tl σ H fun x H1=>∃ a,x=.ref a∧(((∃ xs,SqL K H1 a xs)∧R (Itl K a) H1)∨((∃ xs,SqT K H1 a xs)∧R (Itt K a) H1))
theorem zk4 {l:Expr} {tl:TE} (hl:PE X l tl):PI X tg l (zpn X.K tl):=by
 intro pins s σ H R I h
 refine thn (hl pins s σ H _ I h) ?_
 rintro v s1 ⟨x,H1,I1,r1,a,rfl,q1⟩
 cases r1
 have fin:∀ b∈[s1.heap.objs.size],_:=fun b hb=>by
  obtain rfl:b=s1.heap.objs.size:=by simpa using hb
  exact I1.fpOk (Nat.le_refl _) (I1.hok.fresh (Nat.le_refl _))
 rcases q1 with ⟨⟨xs,hq⟩,q⟩ | ⟨⟨xs,hq⟩,q⟩
 ·obtain⟨its,rv,pl,_⟩:=I1.list hq
  refine wpAny_pyIter_list pl.isList ?_
  exact⟨_,[s1.heap.objs.size],_,_,H1,rfl,I1.kept (t':=s1.toks) fun b o w=>Heap.get?_push_of_some _ w,zgL a _,⟨_,Heap.get?_push_size _ rfl,rfl,rfl⟩,fin,q⟩
 ·obtain⟨its,rv,pl,_⟩:=I1.tuple hq
  have pt:s1.heap.IsTuple a its.toArray:=pl
  refine wpAny_pyIter_tuple pt ?_
  exact⟨_,[s1.heap.objs.size],_,_,H1,rfl,I1.kept (t':=s1.toks) fun b o w=>Heap.get?_push_of_some _ w,zfL a _,⟨_,Heap.get?_push_size _ rfl,rfl,rfl⟩,fin,q⟩
theorem zpe {K:PySem.W.Frag} {H:Hp} {S:Addr→Prop} {a:Addr} {vs:List V} {ts:List T} (hH:SqT K H a vs) (d:Dens K H S ts .al [] vs):JOk K (Itt K a) H S ts:=by
 refine ⟨fun H2 S2 s _ i t e=>?_,fun H2 S2 s _=>⟨vs,s.frm.tups _ _ hH,by rw [d.length];exact Nat.le_refl _⟩⟩
 have h2:SqT K H2 a vs:=s.frm.tups _ _ hH
 obtain⟨v,h3,h4⟩:=(s.dens d).get e
 refine ⟨⟨vs,v,h2,h3⟩,fun x H3 y=>?_⟩
 obtain⟨rfl,y⟩:=y
 have:=y vs h2
 rw [h3] at this
 cases this
 exact⟨.refl (by assumption),h4⟩
theorem zqU (h:JE X z md F e):JI X z tg (iSeq F) e:=PI.imp (zk4 (JE.al h)) fun σ H R q=>by
 obtain⟨S,ρ,o,q⟩:=q
 refine ⟨S,ρ,o,?_⟩
 unfold iSeq at q
 try dsimp only at q
 cases e:F ρ with
 | exc c=>rw [e] at q;exact q
 | bad=>rw [e] at q;exact q
 | ok t =>
  rw [e,Res.bind_ok] at q
  intro v H' S' A g
  obtain rfl:=g.den.alA
  cases t with
  | sc _=>exact (show False from q).elim
  | scr _=>exact (show False from q).elim
  | lst ts =>
   obtain⟨_,a,vs,rfl,h1,h2,h3⟩:=zak.mp g.den
   exact⟨a,rfl,.inl ⟨⟨vs,.of h2⟩,q _ H' S' g.g (zjc h1 h2 h3)⟩⟩
  | tup ts =>
   obtain⟨_,a,vs,rfl,h2,h3⟩:=zao.mp g.den
   exact⟨a,rfl,.inr ⟨⟨vs,h2⟩,q _ H' S' g.g (zpe h2 h3)⟩⟩
end
end TL
namespace TL
open PySem PySem.Spec L2
open PyProof.Rows hiding St
open PySem.SeqAt
open PySem.AutoSeq1 (wpAny_loadPart')
open PySem.MeetsSeq PySem.MeetsSeq2 PySem.MeetsSeq3
end TL
namespace TL
open PySem PySem.Spec L2
open PyProof.Rows hiding St
open PySem.SeqAt
section
variable {α:Type} {lt:α→α→Bool} (ir:∀ a,lt a a=false) (tr:∀ a b c,lt a b=true→lt b c=true→lt a c=true) (tot:∀ a b,lt a b=false→lt b a=false→a=b)
open Classical in
end
section
variable {β:Type} (lt:β→β→Bool)
variable {lt} (ir:∀ a,lt a a=false) (tr:∀ a b c,lt a b=true→lt b c=true→lt a c=true) (D:β→Prop) (tot:∀ a b,D a→D b→lt a b=false→lt b a=false→a=b)
include tr in
end
section
variable {prog:Program} {w:World} {A:Around} {E:Value→Shared→Prop} {s:Shared}
end
section
variable {X:Cx} {pins:List (Addr×Obj)} {σ:St} {H:Hp} {s:Shared} {S:Addr→Prop}
open Classical in
end
end TL
namespace TL
open PySem PySem.Spec L2
open PyProof.Rows hiding St
section
variable {X:Cx} {z:Z} {md md1:Md} {Fs:VEnv→Res (List T)} {e:Expr} {es:List Expr} {p p' pos cpos:Pos} {i n:Nat} {x:Str} {K:PySem.W.Frag}
end
end TL
namespace TL
open PySem PySem.Spec L2
open PyProof.Rows hiding St
noncomputable def zbn (v:V):List T→Option (List T)
 | []=>some []
 | .lst us :: r=>if us.length < sizeLine then (zbn v r).map (.lst (us ++ [.sc v]) :: ·) else none
 | _=>none
theorem zfZ {v:V}:∀ {ts ts':List T},zbn v ts=some ts'→ts'.length=ts.length
 | [],ts',h=>by unfold zbn at h;cases h;rfl
 | t :: r,ts',h=>by
  cases t with
  | lst us =>
   unfold zbn at h
   split at h
   ·cases e:zbn v r with
    | none=>rw [e] at h;cases h
    | some q=>rw [e] at h;cases h;rw [List.length_cons,List.length_cons,zfZ e]
   ·cases h
  | _=>unfold zbn at h;cases h
theorem zf0 {v:V}:∀ {ts ts':List T} {k:Nat},zbn v ts=some ts'→k < ts.length→∃ us,ts[k]? = some (.lst us)∧us.length < sizeLine∧ts'[k]? = some (.lst (us ++ [.sc v]))
 | [],ts',k,_,hk=>by simp at hk
 | t :: r,ts',k,h,hk=>by
  cases t with
  | lst us =>
   unfold zbn at h
   split at h
   ·rename_i hz
    cases e:zbn v r with
    | none=>rw [e] at h;cases h
    | some q =>
     rw [e] at h;cases h
     cases k with
     | zero=>exact⟨us,rfl,hz,rfl⟩
     | succ k =>
      obtain⟨w,a,b,c⟩:=zf0 (k:=k) e (by simpa using hk)
      exact⟨w,by simpa using a,b,by simpa using c⟩
   ·cases h
  | _=>unfold zbn at h;cases h
section
variable {X:Cx} {z:Z} {K:PySem.W.Frag} {i p:Nat} {x:Str} {a a' e:Expr} {pos p1 p2 p3 p4:Pos}
theorem Ok.forget {S:Addr→Prop} {As:Nat→List Addr} {ρ:SEnv} {σ:St} {H:Hp} (o:Ok K z S As ρ σ H) (p:Nat):Ok K z S As (ρ.set p none) σ H:=
 ⟨o.same,o.dom,by rw [List.length_set];exact o.ln,o.s0,o.s1,o.nd,o.ow,o.dj,fun j m t e=>by
  by_cases hj:j=p
  ·subst hj
   by_cases hl:j < ρ.length
   ·rw [List.getElem?_set_self hl] at e;cases e
   ·rw [List.getElem?_eq_none (by rw [List.length_set];lia)] at e;cases e
  ·rw [List.getElem?_set_ne (fun q=>hj q.symm)] at e
   exact o.sl j m t e⟩
theorem zo1 {α:Type} {ts ts':List α} {k:Nat} (hl:ts'.length=ts.length) (hk:k < ts.length):(ts'.take k ++ ts.drop k)[k]? = ts[k]?:=by
 rw [List.getElem?_append_right (by rw [List.length_take];lia),List.length_take,Nat.min_eq_left (by lia),Nat.sub_self,List.getElem?_drop,Nat.add_zero]
theorem zo0 {α:Type} {ts ts':List α} {k:Nat} {y:α} (hl:ts'.length=ts.length) (hk:k < ts.length) (hy:ts'[k]? = some y):(ts'.take k ++ ts.drop k).set k y=ts'.take (k + 1) ++ ts.drop (k + 1):=by
 have h1:(ts'.take k).length=k:=by rw [List.length_take];lia
 rw [List.set_append_right _ _ (by lia),h1,Nat.sub_self,List.drop_eq_getElem_cons hk,List.set_cons_zero]
 have h2:k < ts'.length:=by lia
 rw [List.getElem?_eq_getElem h2] at hy
 cases hy
 rw [List.take_succ_eq_append_getElem h2,List.append_assoc]
 rfl
end
end TL
namespace TL
open PySem PySem.Spec L2
section
variable {X:Cx} {z:Z} {K:PySem.W.Frag} {i p:Nat} {x:Str} {a a' e:Expr} {pos p1 p2 p3 p4:Pos}
theorem Ok.innerT {S:Addr→Prop} {As:Nat→List Addr} {ρ:SEnv} {σ:St} {H:Hp} {ts us:List T} {k:Nat} (o:Ok K z S As ρ σ H) (e:ρ[i]? = some (some (.fu,.tup ts))) (hk:ts[k]? = some (.lst us)):∃ a vs b ws B,σ[i]? = some (some (.ref a))∧SqT K H a vs∧vs.length=ts.length ∧
  vs[k]? = some (.ref b)∧H b=some (.lst ws)∧Dens K H S us .fu B ws∧¬ S b∧b∉B∧B.Nodup ∧
  ∀ us' ws' B',Dens K (upd H b (.lst ws')) S us' .fu B' ws'→B'.Nodup→b∉B'→(∀ c∈B',c∈B)→∃ As',Ok K z S As' (ρ.set i (some (.fu,.tup (ts.set k (.lst us'))))) σ (upd H b (.lst ws')):=by
 obtain⟨v,hv,d⟩:=o.sl i _ _ e
 obtain⟨a,vs,rfl,h1,h2⟩:=zb9.mp d
 obtain⟨A1,Ak,A2,w,ea,q1,q2,q3⟩:=Dens.split h2 hk
 obtain⟨b,ws,B,rfl,rfl,h3,h4⟩:=zau.mp q2
 have nd:=o.nd i
 rw [ea] at nd
 obtain⟨m1,m2,m3⟩:=List.nodup_append.mp nd
 obtain⟨k1,k2,k3⟩:=List.nodup_append.mp m2
 obtain⟨l1,l2⟩:=List.nodup_cons.mp k1
 have hb:b∈As i:=by rw [ea];exact List.mem_append_right _ (List.mem_append_left _ (List.mem_cons_self ..))
 obtain⟨b1,b2,b3⟩:=o.ow i b hb
 have b1':b∉A1:=fun q=>m3 b q b (List.mem_append_left _ (List.mem_cons_self ..)) rfl
 have b2':b∉A2:=fun q=>k3 b (List.mem_cons_self ..) b q rfl
 refine ⟨a,vs,b,ws,B,hv,h1,h2.length,q1,h3,h4,b1,l1,l2,fun us' ws' B' d' nd' nb' sub=>?_⟩
 have f:=Frm.upd (K:=K) (o:=.lst ws') h3
 have new:∀ c∈B',c∉A1∧c∉A2:=fun c hc=>⟨fun w=>m3 c w c (List.mem_append_left _ (List.mem_cons_of_mem _ (sub c hc))) rfl,fun w=>k3 c (List.mem_cons_of_mem _ (sub c hc)) c w rfl⟩
 refine ⟨_,o.wr (zaX e) hb h3 hv (vs':=ws') (t':=.tup (ts.set k (.lst us'))) (m':=.fu) (A':=A1 ++ ((b :: B') ++ A2)) (zb9.mpr ⟨a,vs,rfl,f.tups _ _ h1,?_⟩) ?_ fun c hc=>?_⟩
 ·have:=q3 (upd H b (.lst ws')) (.lst us') (b :: B') (.ref b) ⟨fun c xs hc=>f.nodes c xs (hc.elim (fun q w=>b1' (w ▸ q)) fun q w=>b2' (w ▸ q)),f.tups,f.scrs⟩ (zau.mpr ⟨b,ws',B',rfl,rfl,zaL,d'⟩)
  rw [show vs.set k (.ref b)=vs from by
   have hlt:k < vs.length:=(List.getElem?_eq_some_iff.mp q1).1
   have:vs[k]=.ref b:=(List.getElem?_eq_some_iff.mp q1).2
   rw [← this];exact List.set_getElem_self hlt] at this
  exact this
 ·refine List.nodup_append.mpr ⟨m1,List.nodup_append.mpr ⟨List.nodup_cons.mpr ⟨nb',nd'⟩,k2,fun c hc d hd q=>?_⟩,fun c hc d hd q=>?_⟩
  ·subst q
   rcases List.mem_cons.mp hc with q | q
   ·exact b2' (q ▸ hd)
   ·exact (new c q).2 hd
  ·subst q
   rcases List.mem_append.mp hd with q | q
   ·rcases List.mem_cons.mp q with q | q
    ·exact b1' (q ▸ hc)
    ·exact (new c q).1 hc
   ·exact m3 c hc c (List.mem_append_right _ q) rfl
 ·rcases List.mem_append.mp hc with q | q
  ·exact .inl (by rw [ea];exact List.mem_append_left _ q)
  ·rcases List.mem_append.mp q with q | q
   ·rcases List.mem_cons.mp q with q | q
    ·rw [q];exact .inl hb
    ·exact .inl (by rw [ea];exact List.mem_append_right _ (List.mem_append_left _ (List.mem_cons_of_mem _ (sub c q))))
   ·exact .inl (by rw [ea];exact List.mem_append_right _ (List.mem_append_right _ q))
noncomputable def zeu (i p:Nat) (v:V):SEnv→SRes:=fun ρ=>if p=i then .bad else if p < ρ.length then (match ρ[i]? with
 | some (some (.fu,.tup ts))=>(match zbn v ts with | some ts'=>.nx ((ρ.set p none).set i (some (.fu,.tup ts'))) | none=>.bad)
 | _=>.bad) else .bad
theorem zkd {c:Int} (hp:PassesOwn (model X.prog X.w) X.A X.env X.xe) (hc:X.calm=true) (hN:X.N.Nodup) (hi:X.N[p]? = some x) (hl:Loc X.env.scope x) (hx:PE X a (tVar i)) (hr:PE X a' (tVar p)) (he:PE X e (tC (.int c)))
  (hf:X.fn x=true∨X.env.scope.names.lookup x=some .local:=by first | exact .inl rfl | exact .inr rfl)
  (hbase:attributeBase a' "append" X.env (eval a' X.env)=eval a' X.env:=by rfl)
  (hfew:((backTo p2 (starEach [e] X.env)).all (fun x=>!x.1) && (backToKw p2 (keywordEach [] X.env)).all (fun x=>x.1.isSome) && decide ([e].length + ([]:List Keyword).length + (if ([]:List Keyword).isEmpty then 0 else 1) < 30))=true:=by rfl)
  (hline:(p1.endLine == p2.line)=true:=by rfl) (hst:starEach [e] X.env=(false,eval e X.env) :: starEach [] X.env:=by rfl) (hplain:(backTo p2 (starEach [] X.env)).any (·.1)=false:=by rfl)
  (hs:swapsWith (.Call (.Attribute a' "append" p1) [e] [] p2) none p4.line X.env=pure false:=by rfl) (hsI:∀ y,foldedSetIterable a X.env y=pure y:=by intro _;rfl) :
  JS X z (zeu i p (.int c)) (.For (.Name x p3) a [.Expr (.Call (.Attribute a' "append" p1) [e] [] p2) p4] [] pos):=
 PS.imp (znH hp hc (zqm hx) (zaq hN hi hl hf) (zkY (zdX (zk9 PySem.F.plainAttrs_list PySem.F.slot_list_append PySem.F.type_list_append ze2 hr (zbk he zc0 hst) hbase hfew hline hst hplain) hs)) hsI) fun D σ H h=>by
  obtain⟨S,As,ρ,o,h⟩:=h
  unfold zeu at h
  split at h
  ·exact (show False from h).elim
  rename_i hpi
  split at h
  rotate_left
  ·exact (show False from h).elim
  rename_i hpl
  split at h
  rotate_left
  ·exact (show False from h).elim
  rename_i ts e1
  cases ea:zbn (.int c) ts with
  | none=>rw [ea] at h;exact (show False from h).elim
  | some ts' =>
   rw [ea] at h
   have hlen:=zfZ ea
   obtain⟨v0,h1,d0⟩:=o.sl i _ _ e1
   obtain⟨a0,vs0,rfl,h2,h3⟩:=zb9.mp d0
   have oF:=o.forget p
   have eF:(ρ.set p none)[i]? = some (some (.fu,.tup ts)):=by rw [List.getElem?_set_ne hpi];exact e1
   have hpl':p < σ.length:=by rw [← o.ln];exact hpl
   refine ⟨_,h1,a0,rfl,⟨vs0,h2⟩,fun k m σ2 H2=>m=ts.length - k∧k≤ts.length∧σ2[i]? = some (some (.ref a0))∧p < σ2.length∧(∃ As2,Ok X.K z S As2 ((ρ.set p none).set i (some (.fu,.tup (ts'.take k ++ ts.drop k)))) σ2 H2)∧Step X.K S H S H2,
    ⟨ts.length,by simp,Nat.zero_le _,h1,hpl',⟨As,?_⟩,zaZ (Same.refl _)⟩,?_⟩
   ·have:(ρ.set p none).set i (some (.fu,.tup (ts'.take 0 ++ ts.drop 0)))=ρ.set p none:=by
     rw [List.take_zero,List.drop_zero,List.nil_append]
     refine List.ext_getElem? fun j=>?_
     by_cases hj:i=j
     ·subst hj;rw [List.getElem?_set_self (zaX eF),eF]
     ·rw [List.getElem?_set_ne hj]
    rw [this];exact oF
   ·rintro k m σ2 H2 ⟨rfl,hk,g1,g2,⟨As2,o2⟩,s2⟩
    have e2:((ρ.set p none).set i (some (.fu,.tup (ts'.take k ++ ts.drop k))))[i]? = some (some (.fu,.tup (ts'.take k ++ ts.drop k))):=List.getElem?_set_self (zaX eF)
    obtain⟨v1,q1,d1⟩:=o2.sl i _ _ e2
    obtain⟨a1,vs1,rfl,q2,q3⟩:=zb9.mp d1
    rw [g1] at q1
    cases q1
    have ll:(ts'.take k ++ ts.drop k).length=ts.length:=by rw [List.length_append,List.length_take,List.length_drop];lia
    by_cases hlt:k < ts.length
    ·obtain⟨us,u1,u2,u3⟩:=zf0 ea hlt
     have eu:(ts'.take k ++ ts.drop k)[k]? = some (.lst us):=by rw [zo1 hlen hlt];exact u1
     obtain⟨a2,vs2,b,ws,B,r1,r2,r3,r4,r5,r6,r7,r8,r9,r10⟩:=o2.innerT e2 eu
     rw [g1] at r1
     cases r1
     refine .inr ⟨⟨vs2,.ref b,r2,r4⟩,fun σ' H'=>σ'[i]? = some (some (.ref a0))∧p < σ'.length∧(∃ As3,Ok X.K z S As3 ((ρ.set p none).set i (some (.fu,.tup (ts'.take (k + 1) ++ ts.drop (k + 1))))) σ' H')∧Step X.K S H S H',fun σ' H' ⟨y1,y2,y3,y4⟩=>⟨ts.length - (k + 1),by lia,rfl,hlt,y1,y2,y3,y4⟩,?_⟩
     rintro v H3 ⟨rfl,hy⟩
     have:=hy vs2 r2
     rw [r4] at this
     cases this
     refine ⟨.ref b,List.getElem?_set_self g2,?_,?_⟩
     ·exact .inl ⟨rfl,ws,.of r5⟩
     ·obtain⟨As',o4⟩:=r10 (us ++ [.sc (.int c)]) (ws ++ [.int c]) B (by
       have:=zbf (K:=X.K) (o:=.lst (ws ++ [.int c])) r5 r7 r8 r6
       have:=this.append (A1:=B) (A2:=[]) (Dens.cons (A1:=[]) (A2:=[]) (zcP (.int c)) Dens.nil)
       rw [List.append_nil] at this
       exact this) r9 r8 fun c hc=>hc
      rw [List.set_set,zo0 hlen hlt u3] at o4
      refine ⟨b,ws,.int c,rfl,rfl,r5,by rw [r6.length];exact u2,by rw [List.getElem?_set_ne hpi];exact g1,by rw [List.length_set];exact g2,⟨As',?_⟩,s2.trans (zbw r7 r5)⟩
      have:=o4.drop p (.ref b)
      rw [List.set_comm _ _ (fun q=>hpi q.symm),List.set_set] at this
      exact this
    ·have ek:k=ts.length:=by lia
     subst ek
     have em:ts'.take ts.length ++ ts.drop ts.length=ts':=by rw [← hlen,List.take_length,hlen,List.drop_length,List.append_nil]
     rw [em] at o2
     refine .inl ⟨⟨vs1,q2,by rw [q3.length,ll];exact Nat.le_refl _⟩,h S As2 σ2 H2 o2 s2⟩
end
end TL
namespace Sx
open PySem PySem.Spec
open PyProof.Rows (IntsAre)
noncomputable def oS0 (led:Bool):Obj:={ cls:=.type "set", dict:=none,data:=.set #[] 0 (.fresh 0 0 led) }
section
variable {prog:Program} {w:World} {A:Around} {E:Value→Shared→Prop} {s:Shared} {a:Addr} {led:Bool} {k:Int} {t t0:Nat}
end
section
variable {prog:Program} {w:World} {A:Around} {E:Value→Shared→Prop} {s:Shared} {S I:Addr} {led:Bool} {k:Int} {t:Nat}
end
section
variable {prog:Program} {w:World} {A:Around} {R:Result→Shared→Prop} {I S:Addr} {fp wr:List Addr} {G:Array GenState→Array GenState→Prop} {n:Nat} {P:Nat→Value→Prop} {St:Nat→Shared→Prop} {led:Bool} {k:Int}
end
section
variable {prog:Program} {w:World} {A:Around} {E:Value→Shared→Prop} {s:Shared}
noncomputable abbrev ldOf (w:World):Bool:=!(w.params.followText "set-order")
theorem zol (v:Value) {R:Result→Shared→Prop} (h:R (.ok (.ret (.ref s.heap.objs.size))) { s with heap:=s.heap.push (oS0 (ldOf w)) }) :
  codeAny (model prog w) A (.call (.builtin "set.__new__") ⟨[.type "set", v],[]⟩) R s:=by
 refine codeAny_of_tree ?_
 show wpAny _ A.in1 (checkBuiltinCall "set.__new__" ⟨[.type "set", v],[]⟩ >>= fun _=>again (.builtin "set.__new__" ⟨[.type "set", v],[]⟩)) _ _ s
 rw [F.newCall_set_1 v]
 refine wpAny_bind (wpAny_pure (wpAny_pure ⟨plainId_quiet F.plain_set_new _,codeAny_builtin F.entry_set_new ?_⟩))
 rw [Around.under_plainId F.plain_set_new _]
 unfold Builtin.«set.__new__» Builtin.Frozenset.newClass
 have hsub:=sub_set_self
 obtain⟨hp,g,d,tk,os⟩:=s
 dsimp only
 wp_walk
 refine wpAny_askSetting ?_
 refine wpAny_pure ?_
 dsimp only
 simp only [newObj]
 exact wpAny_bind (wpAny_alloc (wpAny_pure (wpAny_pure h)))
set_option maxHeartbeats 3200000 in
set_option maxHeartbeats 3200000 in
end
end Sx
namespace Sx
open PySem PySem.Spec
theorem zmB:Manifest.owners.lookup (String.ofList ['r','o','t','a','r','e','t','i','_','t','e','s'].reverse)=some Manifest.sig_set_iterator:=by kernel_rfl
theorem zaG:Slot "set_iterator" "__next__" "set_iterator.__next__" :=
 .of (owner := "set_iterator") (n := "__next__") (by rw [typeLookup_type,builtinLookup_eq_fast];kernel_rfl) (by decide +kernel) (by decide +kernel) (by decide +kernel)
  (by first | exact .inl (by decide +kernel) | exact .inr (by decide +kernel)) (by rw [isSubtype_type];kernel_rfl)
theorem zbC:entryFor table "set_iterator.__next__" = some Builtin.«set_iterator.__next__»:=entryFor_of_tree (by kernel_rfl)
theorem zbZ (a:Value):argsOk "set_iterator.__next__" ⟨[a],[]⟩:=by
 unfold argsOk;rw [signature?_of (id := "set_iterator.__next__") (n:=['_','_','t','x','e','n','_','_']) (o:=['r','o','t','a','r','e','t','i','_','t','e','s']) (by kernel_rfl) zmB];kernel_rfl
theorem zfI:entryFor table "set.__iter__" = some Builtin.«frozenset.__iter__»:=
 entryFor_alias (id' := "frozenset.__iter__") (by kernel_rfl) rfl (by decide +kernel) (by kernel_rfl)
section
variable {prog:Program} {w:World} {A:Around} {E:Value→Shared→Prop} {s:Shared} {S I:Addr} {h k:Int} {t f:Nat} {x:Value}
theorem zdn {Q:Bool→Shared→Prop} (q:Q (w.params.followText "set-order") s):wpAny (model prog w) A setsByText Q E s:=by
 unfold setsByText
 exact wpAny_bind (wpAny_askSetting (wpAny_pure q))
noncomputable def oLs (vs:Array Value) (c:Nat):Obj:={ cls:=.type "list", dict:=none,data:=.seq vs c,slots:=#[] }
open PyProof.Rows Srt in
end
end Sx
namespace TL
open PySem PySem.Spec L2
section
variable {X:Cx} {z:Z} {md md1:Md} {F:VEnv→Res T} {e:Expr} {t:TE} {p1 p2 p3 p4:Pos}
theorem zlU:bootBuiltins "sorted" = some (.builtin "sorted"):=by kernel_rfl
theorem zgx:bootBuiltins "ValueError" = some (.type "ValueError"):=by kernel_rfl
theorem zrd:bootBuiltins "set" = some (.type "set"):=by kernel_rfl
end
end TL
namespace TL
open PySem PySem.Spec L2
section
variable {X:Cx} {z:Z} {md md1 md2:Md} {F1 F2:VEnv→Res T} {a e:Expr} {p1 p2:Pos}
end
end TL
namespace Sx
open PySem PySem.Spec
def Ris (xs:Array Nat):Prop:=xs.toList.Pairwise (· < ·)
theorem Ris.mono {xs:Array Nat} (h:Ris xs) {i k j:Nat} (hik:i≤k) (hk:k < xs.size):xs.getD i j≤xs.getD k j:=by
 have hi:i < xs.size:=by lia
 simp only [Array.getD_eq_getD_getElem?,Array.getElem?_eq_getElem hi,Array.getElem?_eq_getElem hk,Option.getD_some]
 rcases Nat.lt_or_ge i k with q | q
 ·have:=List.pairwise_iff_getElem.mp h i k (by simpa using hi) (by simpa using hk) q
  simp at this
  lia
 ·have:i=k:=by lia
  subst this;exact Nat.le_refl _
theorem zpo {xs:Array Nat} (h:Ris xs) (j:Nat):∀ (fuel lo hi:Nat),hi - lo≤fuel→lo≤hi→hi≤xs.size→(∀ i,i < lo→xs.getD i j < j)→(∀ i,hi≤i→i < xs.size→j≤xs.getD i j) →
  SetTable.below.go xs j fuel lo hi≤xs.size∧(∀ i,i < SetTable.below.go xs j fuel lo hi→xs.getD i j < j)∧∀ i,SetTable.below.go xs j fuel lo hi≤i→i < xs.size→j≤xs.getD i j:=by
 intro fuel
 induction fuel with
 | zero =>
  intro lo hi h1 h2 h3 h4 h5
  have:lo=hi:=by lia
  subst this
  exact⟨h3,h4,h5⟩
 | succ fuel ih =>
  intro lo hi h1 h2 h3 h4 h5
  unfold SetTable.below.go
  by_cases q:lo < hi
  ·rw [if_pos q]
   dsimp only
   have hm:(lo + hi) / 2 < hi:=by lia
   have hm2:lo≤(lo + hi) / 2:=by lia
   generalize (lo + hi) / 2=mid at hm hm2
   by_cases q2:xs.getD mid j < j
   ·rw [if_pos q2]
    refine ih (mid + 1) hi (by lia) (by lia) h3 (fun i hi'=>?_) h5
    exact Nat.lt_of_le_of_lt (h.mono (by lia) (by lia)) q2
   ·rw [if_neg q2]
    refine ih lo mid (by lia) hm2 (by lia) h4 (fun i hi' hs=>?_)
    have:=h.mono (j:=j) hi' hs
    lia
  ·rw [if_neg q]
   exact⟨by lia,h4,fun i hi' hs=>h5 i (by lia) hs⟩
theorem zd6 {xs:Array Nat} (h:Ris xs) (j:Nat):SetTable.below xs j≤xs.size∧(∀ i,i < SetTable.below xs j→xs.getD i j < j)∧∀ i,SetTable.below xs j≤i→i < xs.size→j≤xs.getD i j:=
 zpo h j xs.size 0 xs.size (by lia) (by lia) (Nat.le_refl _) (fun i hi=>absurd hi (by lia)) fun i h1 h2=>absurd h1 (by lia)
theorem zc8 {xs:Array Nat} {i j:Nat} (h:i < xs.size):xs.getD i j=xs[i]:=by simp [h]
theorem zkp {xs:Array Nat} (h:Ris xs) {i:Nat} (hi:i < xs.size):SetTable.below xs (xs[i] + 1)=i + 1:=by
 obtain⟨b1,b2,b3⟩:=zd6 h (xs[i] + 1)
 generalize SetTable.below xs (xs[i] + 1)=r at *
 rcases Nat.lt_trichotomy r (i + 1) with q | q | q
 ·have:=b3 i (by lia) hi
  rw [zc8 hi] at this
  lia
 ·exact q
 ·have:=b2 (i + 1) (by lia)
  rw [zc8 (by lia)] at this
  have h2:=List.pairwise_iff_getElem.mp h i (i + 1) (by simpa using hi) (by simp;lia) (by lia)
  simp at h2
  lia
theorem zko {xs:Array Nat} (h:Ris xs):SetTable.below xs 0=0:=by
 obtain⟨b1,b2,b3⟩:=zd6 h 0
 rcases Nat.eq_zero_or_pos (SetTable.below xs 0) with q | q
 ·exact q
 ·exact absurd (b2 0 q) (by lia)
theorem zgt {α:Type} (xs:Array α) (p:Nat) (x:α) (hp:p≤xs.size):(SetTable.insertAt xs p x).toList=xs.toList.take p ++ x :: xs.toList.drop p:=by
 unfold SetTable.insertAt
 simp
 rw [List.take_of_length_le (by simp)]
theorem Ris.put {xs:Array Nat} (h:Ris xs) {j:Nat} (hj:¬ xs[SetTable.below xs j]? = some j):Ris (SetTable.insertAt xs (SetTable.below xs j) j):=by
 obtain⟨b1,b2,b3⟩:=zd6 h j
 generalize hr:SetTable.below xs j=r at *
 unfold Ris
 rw [zgt _ _ _ b1]
 have lt:∀ y∈xs.toList.drop r,j < y:=by
  intro y hy
  obtain⟨k,hk,rfl⟩:=List.mem_iff_getElem.mp hy
  simp at hk
  have hk':r + k < xs.size:=by lia
  have:=b3 (r + k) (by lia) hk'
  rw [zc8 hk'] at this
  simp
  rcases Nat.lt_or_eq_of_le this with q | q
  ·exact q
  ·exfalso
   rcases Nat.eq_zero_or_pos k with z | z
   ·subst z
    apply hj
    rw [Array.getElem?_eq_getElem (by lia)]
    exact congrArg some q.symm
   ·have h0:=b3 r (Nat.le_refl _) (by lia)
    rw [zc8 (by lia)] at h0
    have h2:=List.pairwise_iff_getElem.mp h r (r + k) (by simp;lia) (by simp;lia) (by lia)
    simp at h2
    lia
 have gt:∀ y∈xs.toList.take r,y < j:=by
  intro y hy
  obtain⟨k,hk,rfl⟩:=List.mem_iff_getElem.mp hy
  simp at hk
  have:=b2 k (by lia)
  rw [zc8 (by lia)] at this
  simpa using this
 refine List.pairwise_append.mpr ⟨h.sublist (List.take_sublist _ _),List.pairwise_cons.mpr ⟨lt,h.sublist (List.drop_sublist _ _)⟩,fun a ha b hb=>?_⟩
 rcases List.mem_cons.mp hb with rfl | hb
 ·exact gt a ha
 ·exact Nat.lt_trans (gt a ha) (lt b hb)
theorem Ris.range (n:Nat):Ris (Array.range n):=by
 unfold Ris
 rw [Array.toList_range]
 exact List.pairwise_lt_range
theorem zj1 {t:SetTable} {f:Nat→Int} {h:Int}:∀ (fuel:Nat) (p:SetTable.Probe) (j:Nat) (d:Option Nat),(∀ e,p.dummy=some e→¬ t.place[SetTable.below t.place e]? = some e)→SetTable.probe.go t f h fuel p=some (.empty j d) →
  ¬ t.place[SetTable.below t.place j]? = some j∧∀ e,d=some e→¬ t.place[SetTable.below t.place e]? = some e:=by
 intro fuel
 induction fuel with
 | zero=>intro p j d _ e;cases e
 | succ fuel ih =>
  intro p j d hd e
  unfold SetTable.probe.go at e
  have adv:∀ q:SetTable.Probe,(t.advance q).dummy=q.dummy:=fun q=>by
   unfold SetTable.advance;split <;> rfl
  cases hs:t.slot p.j with
  | empty =>
   rw [hs] at e
   simp only [Option.some.injEq,SetTable.Met.empty.injEq] at e
   obtain⟨rfl,rfl⟩:=e
   refine ⟨fun z=>?_,hd⟩
   unfold SetTable.slot at hs
   rw [if_pos (by simpa using z)] at hs
   cases hs
  | dummy =>
   rw [hs] at e
   refine ih _ j d (fun e' he=>?_) e
   rw [adv] at he
   simp only [Option.some.injEq] at he
   subst he
   intro z
   unfold SetTable.slot at hs
   rw [if_pos (by simpa using z)] at hs
   cases hs
  | live i =>
   rw [hs] at e
   simp only at e
   split at e
   ·cases e
   ·exact ih _ j d (fun e' he=>hd e' (by rw [adv] at he;exact he)) e
structure TOk (led:Bool) (t:SetTable) (n:Nat):Prop where
 led:t.led=led
 ris:Ris t.place
 fit:t.fits n=true
theorem zls {led:Bool} {t:SetTable} {es:Array (Int×Value)} {h:Int} {x:Value} (T:TOk led t es.size):TOk led (layNew t es h x).2.1 (layNew t es h x).1.size:=by
 have hf:=layNew_fits t es h x
 refine ⟨?_,?_,hf⟩
 ·unfold layNew
  split
  ·dsimp only
   unfold SetTable.orStandIn
   split
   ·exact T.led
   ·exact T.led
  ·exact T.led
 ·unfold layNew
  split
  ·rename_i slot wd e
   dsimp only
   unfold SetTable.orStandIn
   split
   ·show Ris (SetTable.insertAt t.place (SetTable.below t.place slot) slot)
    refine T.ris.put ?_
    unfold SetTable.freeSlot at e
    split at e
    ·rename_i j d ep
     obtain⟨p1,p2⟩:=zj1 _ _ j d (fun e' he=>by cases he) ep
     simp only [Option.some.injEq,Prod.mk.injEq] at e
     obtain⟨rfl,_⟩:=e
     cases d with
     | none=>exact p1
     | some e'=>exact p2 e' rfl
    ·cases e
   ·exact Ris.range _
  ·exact Ris.range _
theorem zmp {led:Bool} {t:SetTable} {es:Array (Int×Value)} {wanted:Nat} (hl:t.led=led):TOk led (relayAll t es wanted).2.1 (relayAll t es wanted).1.size:=by
 have hf:=relayAll_fits t es wanted
 refine ⟨?_,?_,hf⟩
 ·unfold relayAll
  split
  ·rename_i t' order e
   dsimp only
   split
   ·unfold SetTable.relaid SetTable.laid at e
    dsimp only
    simp only [Option.bind_eq_bind,Option.bind_eq_some_iff,Option.pure_def,Option.some.injEq,Prod.mk.injEq] at e
    obtain⟨_,_,rfl,_⟩:=e
    exact hl
   ·exact hl
  ·exact hl
 ·unfold relayAll
  split
  ·rename_i t' order e
   dsimp only
   split
   ·unfold SetTable.relaid SetTable.laid at e
    dsimp only
    simp only [Option.bind_eq_bind,Option.bind_eq_some_iff,Option.pure_def,Option.some.injEq,Prod.mk.injEq] at e
    obtain⟨owner,_,rfl,_⟩:=e
    unfold Ris
    dsimp only
    refine List.Pairwise.map (R:=fun a b:Nat×Nat=>a.1 < b.1) Prod.fst (fun a b h=>h) ?_
    refine List.Pairwise.filterMap _ (fun a b hab x hx y hy=>?_) List.pairwise_lt_range
    obtain⟨x',_,rfl⟩:=Option.map_eq_some_iff.mp hx
    obtain⟨y',_,rfl⟩:=Option.map_eq_some_iff.mp hy
    exact hab
   ·exact Ris.range _
  ·exact Ris.range _
theorem zd1 {α:Type}:∀ {l:List α} {i:Nat} {x:α},l[i]? = some x→(x :: l.eraseIdx i).Perm l
 | [],i,x,h=>by simp at h
 | a :: l,0,x,h=>by simp at h;subst h;exact .refl _
 | a :: l,i + 1,x,h=>by
  simp at h
  rw [List.eraseIdx_cons_succ]
  exact (List.Perm.swap a x _).trans ((zd1 h).cons a)
theorem zoG {α:Type} (g:Nat→Nat):∀ (fuel k:Nat) (left:List α) (out:Array α),left.length=fuel→(pickOrder.go g fuel k left out).toList.Perm (out.toList ++ left):=by
 intro fuel
 induction fuel with
 | zero =>
  intro k left out h
  have:left=[]:=List.length_eq_zero_iff.mp h
  subst this
  unfold pickOrder.go
  simp
 | succ fuel ih =>
  intro k left out h
  unfold pickOrder.go
  have hlt:g k % left.length < left.length:=Nat.mod_lt _ (by lia)
  have e:left[g k % left.length]? = some left[g k % left.length]:=List.getElem?_eq_getElem hlt
  rw [e]
  refine (ih (k + 1) _ _ (by rw [List.length_eraseIdx_of_lt hlt];lia)).trans ?_
  rw [Array.toList_push,List.append_assoc]
  exact List.Perm.append_left _ (zd1 e)
theorem zeW {α:Type} (g:Nat→Nat) (xs:Array α):(pickOrder g xs).toList.Perm xs.toList:=by
 have:=zoG g xs.size 0 xs.toList #[] (by simp)
 simpa [pickOrder] using this
section
variable {prog:Program} {w:World} {A:Around} {E:Value→Shared→Prop} {s:Shared}
theorem zob {α:Type} {Q:List α→Shared→Prop}:∀ (n:Nat) (l:List α) (s:Shared),l.length=n→(∀ r d,r.Perm l→Q r { s with drawn:=d })→wpAny (model prog w) A (drawOrder n l) Q E s:=by
 intro n
 induction n generalizing Q with
 | zero =>
  intro l s h q
  have:l=[]:=List.length_eq_zero_iff.mp h
  subst this
  unfold drawOrder
  exact wpAny_pure (q [] s.drawn (.refl _))
 | succ n ih =>
  intro l s h q
  cases l with
  | nil=>simp at h
  | cons a l =>
   unfold drawOrder
   refine wpAny_bind ?_
   have hlt:w.draws .order (s.drawn.get .order) % (a :: l).length < (a :: l).length:=Nat.mod_lt _ (by simp)
   have key:wpAny (model prog w) A (match (a :: l)[w.draws .order (s.drawn.get .order) % (a :: l).length]? with
    | some x=>do
     let __do_lift ← drawOrder n ((a :: l).eraseIdx (w.draws .order (s.drawn.get .order) % (a :: l).length))
     pure (x :: __do_lift)
    | none=>unsupported "internal:drawOrder") Q E { s with drawn:=s.drawn.bump .order }:=by
    generalize w.draws .order (s.drawn.get .order) % (a :: l).length=i at hlt
    rw [List.getElem?_eq_getElem hlt]
    refine wpAny_bind (ih _ _ (by rw [List.length_eraseIdx_of_lt hlt,h];rfl) fun r d hr=>wpAny_pure (q _ d ?_))
    exact (hr.cons _).trans (zd1 (List.getElem?_eq_getElem hlt))
   intro Γ p hΓ
   exact⟨by simp,key⟩
end
noncomputable def nm:Value→Int
 | .int k _=>k
 | _=>0
structure SG (prog:Program) (w:World) (led:Bool) (h:Heap) (a:Addr) (es:Array (Int×Value)) (ep:Nat) (t:SetTable) (ds:List Int):Prop where
 ob:∃ o,h.get? a=some o∧o.ExactSet∧o.data=.set es ep t
 tok:TOk led t es.size
 el:∀ e∈es.toList,∃ k u,e=((intKind prog w).hash k,.int k u)
 pm:(es.toList.map fun e=>nm e.2).Perm ds
theorem SG.at {prog:Program} {w:World} {led:Bool} {h h':Heap} {a:Addr} {es:Array (Int×Value)} {ep:Nat} {t:SetTable} {ds:List Int} (x:SG prog w led h a es ep t ds) (e:∀ o,h.get? a=some o→h'.get? a=some o):SG prog w led h' a es ep t ds:=
 ⟨let ⟨o,ho,r⟩:=x.ob;⟨o,e _ ho,r⟩,x.tok,x.el,x.pm⟩
section
variable {prog:Program} {w:World} {A:Around} {E:Value→Shared→Prop} {s:Shared} {a:Addr} {es:Array (Int×Value)} {ep:Nat} {t:SetTable} {ds:List Int} {led:Bool} {k:Int} {u:Nat}
theorem ziP {o:Obj} {es':Array (Int×Value)} {t':SetTable} {h:Heap} (ho:h.get? a=some o) (hx:o.ExactSet) (hd:o.data=.set es ep t):∃ o',(h.update a (Obj.putSet es' t')).get? a=some o'∧o'.ExactSet∧o'.data=.set es' (ep + 1) t':=by
 have g:=Heap.get?_update_self (Obj.putSet es' t') ho (by rw [putSet_of es' t' hd];rfl)
 rw [putSet_of es' t' hd] at g
 exact⟨_,g,hx,rfl⟩
theorem zmX (h:∀ e∈es.toList,∃ k u,e=((intKind prog w).hash k,Value.int k u)):ElemsOf (intKind prog w) es.toList:=fun e he=>by
 obtain⟨k,u,rfl⟩:=h e he
 exact⟨⟨k,intKind_is _ _ _ _,rfl⟩,rfl⟩
theorem zjy {o:Obj} {es1:Array (Int×Value)} {t1:SetTable} {wd:Bool} {Q:Bool→Shared→Prop} {g:Bool→Sem Unit} (hg:∀ (b:Bool) (s₁:Shared) (Q':Unit→Shared→Prop),Q' () s₁→wpAny (model prog w) A (g b) Q' E s₁)
  (ho:s.heap.get? a=some o) (hx:o.ExactSet) (hd:o.data=.set es ep t) (T:TOk led t1 es1.size) (el:∀ e∈es1.toList,∃ k u,e=((intKind prog w).hash k,Value.int k u)) (pm:(es1.toList.map fun e=>nm e.2).Perm ds) (hz:es1.size < scanBound)
  (h:∀ h' es' ep' t',Heap.SameBut a s.heap h'→SG prog w led h' a es' ep' t' ds→Q true { s with heap:=h' }) :
  wpAny (model prog w) A (storeSet a es1 t1 >>= fun _=>(if (!wd && t1.tooFull)=true then g (relayAll t1 es1 (SetTable.grown es1.size)).2.2 >>= fun _=>storeSet a (relayAll t1 es1 (SetTable.grown es1.size)).1 (relayAll t1 es1 (SetTable.grown es1.size)).2.1 >>= fun _=>pure (some true)
   else pure (some true)))
   (fun r s'=>wpAny (model prog w) A (match r with | some added=>pure added | none=>setAddHashedIn a (.int k u) ((intKind prog w).hash k) 99999) Q E s') E s:=by
 refine wpAny_bind (wpAny_storeSet_of ho hd ?_ (fits_of_scanBound hz))
 obtain⟨o1,g1,x1,d1⟩:=ziP (es':=es1) (t':=t1) ho hx hd
 have sb:=Heap.SameBut.update s.heap a (Obj.putSet es1 t1)
 split
 ·have rp:=relayAll_perm t1 es1 (SetTable.grown es1.size)
  have rt:=zmp (es:=es1) (wanted:=SetTable.grown es1.size) T.led
  generalize relayAll t1 es1 (SetTable.grown es1.size)=R at rp rt ⊢
  obtain⟨es2,t2,gave⟩:=R
  dsimp only at rp rt ⊢
  have hz2:es2.size < scanBound:=by rw [← Array.length_toList,rp.length_eq,Array.length_toList];exact hz
  refine wpAny_bind (hg _ _ _ (wpAny_bind (wpAny_storeSet_of g1 d1 ?_ (fits_of_scanBound hz2))))
  refine wpAny_pure (wpAny_pure (h _ es2 (ep + 1 + 1) t2 (sb.trans (Heap.SameBut.update _ a _)) ⟨ziP g1 x1 d1,rt,fun e he=>el e (rp.mem_iff.mp he),(rp.map _).trans pm⟩))
 ·exact wpAny_pure (wpAny_pure (h _ es1 (ep + 1) t1 sb ⟨⟨o1,g1,x1,d1⟩,T,el,pm⟩))
theorem zoc {Q:Bool→Shared→Prop} (x:SG prog w led s.heap a es ep t ds) (hz:es.size + 1 < scanBound)
  (h:∀ b h' es' ep' t',Heap.SameBut a s.heap h'→SG prog w led h' a es' ep' t' (if k∈ds then ds else ds ++ [k])→Q b { s with heap:=h' }):wpAny (model prog w) A (setAddHashed a (.int k u) ((intKind prog w).hash k)) Q E s:=by
 obtain⟨o,ho,hx,hd⟩:=x.ob
 have he:=zmX x.el
 unfold setAddHashed setAddHashedIn
 refine wpAny_holding (wpAny_bind (wpAny_setState_of ho hd x.tok.fit ?_))
 dsimp only
 rw [byScan_of (knd:=intKind prog w) rfl (by lia) he]
 simp only [↓reduceIte]
 unfold setAddByScan
 refine wpAny_bind (wpAny_bind (wpAny_rule (wpAny_bind ?_)))
 refine wpAny_setScan_of (knd:=intKind prog w) (k:=k) (intKind_is _ _ _ _) ho hd x.tok.fit he ?_
 cases hr:es.toList.findIdx? (fun e=>(intKind prog w).is k e.2) with
 | some j =>
  dsimp only
  obtain⟨hj,pj,_⟩:=List.findIdx?_eq_some_iff_getElem.mp hr
  obtain⟨k',u',ej⟩:=x.el _ (List.getElem_mem hj)
  rw [ej] at pj
  have ek:k=k':=(intKind prog w).inj _ _ _ pj (intKind_is _ _ _ _)
  have hm:k∈ds:=x.pm.mem_iff.mp (List.mem_map.mpr ⟨_,List.getElem_mem hj,by rw [ej,ek];rfl⟩)
  refine wpAny_pure (wpAny_pure ?_)
  have:=h false s.heap es ep t (Heap.SameBut.refl _ _) (by rw [if_pos hm];exact x)
  exact this
 | none =>
  dsimp only
  have hm:k∉ds:=fun hm=>by
   obtain⟨e,he',ee⟩:=List.mem_map.mp (x.pm.mem_iff.mpr hm)
   obtain⟨k',u',rfl⟩:=x.el e he'
   have:=List.findIdx?_eq_none_iff.mp hr _ he'
   obtain rfl:k'=k:=ee
   rw [intKind_is] at this
   cases this
  have lp:=layNew_perm t es ((intKind prog w).hash k) (.int k u)
  have lt:=zls (h:=(intKind prog w).hash k) (x:=.int k u) x.tok
  generalize layNew t es ((intKind prog w).hash k) (.int k u)=L at lp lt ⊢
  obtain⟨es1,t1,wd,gave⟩:=L
  dsimp only at lp lt ⊢
  rw [Array.toList_push] at lp
  have gw:∀ (b:Bool) (s₁:Shared) (Q':Unit→Shared→Prop),Q' () s₁→wpAny (model prog w) A (match b with | true=>rule "set.scan.the-table-gave-way" | false=>pure ()) Q' E s₁:=by
   intro b s₁ Q' q
   cases b with
   | true=>exact wpAny_rule q
   | false=>exact wpAny_pure q
  refine wpAny_bind (gw _ _ _ ?_)
  have el1:∀ e∈es1.toList,∃ k u,e=((intKind prog w).hash k,Value.int k u):=fun e he=>by
   rcases List.mem_append.mp (lp.mem_iff.mp he) with z | z
   ·exact x.el e z
   ·exact⟨k,u,List.mem_singleton.mp z⟩
  have pm1:(es1.toList.map fun e=>nm e.2).Perm (ds ++ [k]):=by
   refine (lp.map _).trans ?_
   rw [List.map_append]
   exact List.Perm.append_right _ x.pm
  have hz1:es1.size < scanBound:=by
   rw [← Array.length_toList,lp.length_eq,List.length_append,Array.length_toList]
   exact hz
  have fin:=fun h' es' ep' t' sb (sg:SG prog w led h' a es' ep' t' (ds ++ [k]))=>h true h' es' ep' t' sb (by rw [if_neg hm];exact sg)
  split
  ·refine wpAny_bind (wpAny_pure ?_)
   simp only [↓reduceIte]
   exact zjy (fun b s₁ Q' q=>by cases b <;> first | exact wpAny_pure q | exact wpAny_rule q) ho hx hd lt el1 pm1 hz1 fin
  ·refine wpAny_bind (wpAny_pure ?_)
   simp only [↓reduceIte]
   exact zjy (fun b s₁ Q' q=>by cases b <;> first | exact wpAny_pure q | exact wpAny_rule q) ho hx hd lt el1 pm1 hz1 fin
end
end Sx
namespace Sx
open PySem PySem.Spec
open PyProof.Rows (IntsAre)
noncomputable def dstep (d:List Int) (k:Int):List Int:=if k∈d then d else d ++ [k]
noncomputable def dd (l:List Int):List Int:=l.foldl dstep []
theorem zpv (l:List Int) (k:Int):dd (l ++ [k])=dstep (dd l) k:=by unfold dd;rw [List.foldl_append];rfl
theorem dd_len (l:List Int):(dd l).length≤l.length:=by
 unfold dd
 have:∀ (l d:List Int),(l.foldl dstep d).length≤d.length + l.length:=by
  intro l
  induction l with
  | nil=>intro d;exact Nat.le_refl _
  | cons k l ih =>
   intro d
   refine Nat.le_trans (ih _) ?_
   unfold dstep
   split
   ·rw [List.length_cons];lia
   ·rw [List.length_append,List.length_cons,List.length_cons,List.length_nil];lia
 simpa using this l []
def Sq1 (prog:Program) (w:World) (led:Bool) (S:Addr) (ds:List Int) (h:Heap):Prop:=∃ es ep t,SG prog w led h S es ep t ds
theorem Sq1.at {prog:Program} {w:World} {led:Bool} {S:Addr} {ds:List Int} {h h':Heap} (x:Sq1 prog w led S ds h) (e:∀ o,h.get? S=some o→h'.get? S=some o):Sq1 prog w led S ds h':=let ⟨es,ep,t,y⟩:=x;⟨es,ep,t,y.at e⟩
section
variable {prog:Program} {w:World} {A:Around} {R:Result→Shared→Prop} {I S:Addr} {fp wr:List Addr} {G:Array GenState→Array GenState→Prop} {n:Nat} {P:Nat→Value→Prop} {St:Nat→Shared→Prop} {led:Bool} {ns:List Int}
theorem zme (W:WalksS prog w A.in1 I fp wr G n P St) (hn:n + 1 < scanBound) (hl:ns.length=n) (hSf:S∉fp) (hval:∀ i v,P i v→∃ k u,ns[i]? = some k∧v=.int k u) :
  ∀ (d i:Nat) (s:Shared),d + i=n→St i s→Sq1 prog w led S (dd (ns.take i)) s.heap →
   (∀ s',Moved (S :: wr) G s s'→Sq1 prog w led S (dd ns) s'.heap→R (.ok (.ret .none)) s') →
   codeAny (model prog w) A (.builtin "set.update.loop" ⟨[.ref S,.ref I],[]⟩) R s:=by
 have nS:S∉wr:=fun h=>hSf (W.sub _ h)
 intro d
 induction d with
 | zero =>
  intro i s hd st x hR
  obtain rfl:i=n:=by lia
  refine codeAny_builtin PyProof.Rows.F.entry_set_update_loop ?_
  rw [Around.under_plainId PyProof.Rows.F.plain_set_update_loop _]
  unfold Builtin.«set.update.loop»
  refine wpAny_bind (W.done s _ _ st fun s' mv=>?_)
  rw [List.take_of_length_le (by lia)] at x
  exact wpAny_pure (hR s' (mv.mono fun b hb=>List.mem_cons_of_mem _ hb) (x.at fun o e=>mv.heap S o nS e))
 | succ d ih =>
  intro i s hd st x hR
  refine codeAny_builtin PyProof.Rows.F.entry_set_update_loop ?_
  rw [Around.under_plainId PyProof.Rows.F.plain_set_update_loop _]
  unfold Builtin.«set.update.loop»
  refine wpAny_bind (W.item i s _ _ (by lia) st fun v s' hP st' mv=>?_)
  obtain⟨k,u,hk,rfl⟩:=hval i v hP
  have et:ns.take (i + 1)=ns.take i ++ [k]:=by rw [List.take_add_one,hk];rfl
  refine wpAny_bind (wpAny_holding ?_)
  unfold setAdd
  refine wpAny_holding (wpAny_bind ((intKind prog w).pyHash (k:=k) (intKind_is _ _ _ _) ?_))
  obtain⟨es,ep,t,y⟩:=x
  have hz:es.size≤i:=by
   have h1:=y.pm.length_eq
   have h2:=dd_len (ns.take i)
   rw [List.length_map,Array.length_toList] at h1
   rw [List.length_take] at h2
   lia
  refine zoc (led:=led) (s:={ s' with toks:=s'.toks + 1 }) (y.at fun o e=>mv.heap S o nS e) (by lia) fun b h' es' ep' t' sb y'=>?_
  refine wpAny_pure ⟨plainId_quiet PyProof.Rows.F.plain_set_update_loop _,ih (i + 1) _ (by lia) (W.frame _ s' _ _ st' (Nat.le_succ _) fun c hc o e=>?_) ⟨es',ep',t',by rw [et,zpv];exact y'⟩ fun s2 m2 x2=>?_⟩
  ·rw [sb.2 c fun q=>hSf (q ▸ hc)];exact e
  ·refine hR s2 (Moved.trans W.gtrans ((mv.mono fun c hc=>List.mem_cons_of_mem _ hc).then_heap (Nat.le_succ _) fun c o hc e=>?_) m2) x2
   rw [sb.2 c fun q=>hc (q ▸ List.mem_cons_self)];exact e
end
section
variable {prog:Program} {w:World} {A:Around} {E:Value→Shared→Prop} {s:Shared}
theorem zmT {h:Heap} {S:Addr} {led:Bool} (g:h.get? S=some (oS0 led)):Sq1 prog w led S (dd []) h:=
 ⟨#[],0,.fresh 0 0 led,⟨_,g,⟨rfl,rfl,rfl⟩,rfl⟩,⟨rfl,List.Pairwise.nil,rfl⟩,fun e he=>by simp at he,.refl _⟩
theorem zmO {its:Array Value} {ns:List Int} (h:IntsAre its.toList ns) (i:Nat) (v:Value) (e:its[i]? = some v):∃ k u,ns[i]? = some k∧v=Value.int k u:=by
 rw [← Array.getElem?_toList] at e
 generalize its.toList=l at h e
 induction h generalizing i with
 | nil=>simp at e
 | cons k u r ih =>
  cases i with
  | zero=>simp at e;exact⟨k,u,by simp,e.symm⟩
  | succ i=>simpa using ih i (by simpa using e)
set_option maxHeartbeats 3200000 in
theorem zkN {l S:Addr} {its:Array Value} {led:Bool} {ns:List Int} {R:Result→Shared→Prop} (hh:A.handled=none) (g0:s.heap.get? S=some (oS0 led)) (hl:s.heap.IsList l its) (hne:l≠S) (hn:its.size + 1 < scanBound)
  (hi:IntsAre its.toList ns)
  (h:∀ (h':Heap) (tk:Nat),Sq1 prog w led S (dd ns) h'→(∀ b o,b≠S→s.heap.get? b=some o→h'.get? b=some o)→s.toks≤tk→R (.ok (.ret .none)) { s with heap:=h',toks:=tk }) :
  codeAny (model prog w) A (.call (.builtin "set.__init__") ⟨[.ref S,.ref l],[]⟩) R s:=by
 have hT:s.TypeIs (.ref S) "set" := ⟨_,g0,rfl⟩
 refine codeAny_call_builtin F.called_set.init.plain F.entry_set_init (check_set_init_1 hT ?_)
 obtain⟨ol,hol,hcl,nl,hdl⟩:=id hl
 obtain⟨ocls,odict,odata,oslots⟩:=ol
 simp only at hcl hdl
 subst hcl hdl
 have w1:=F.sub_list_set
 have w2:=F.sub_list_frozenset
 have w3:(Value.type "list" == Value.type "dict")=false:=by decide
 have g0':=g0
 unfold oS0 at g0
 unfold Builtin.«set.__init__» noKeywords Builtin.Frozenset.updateFrom
 generalize hPI:pyIter=PI
 wp_walk
 subst hPI
 refine wpAny_pyIter_list hl ?_
 refine wpAny_bind (wpAny_runValue ?_)
 have nI:l≠s.heap.objs.size:=Nat.ne_of_lt (Heap.lt_size hol)
 have nS:S≠s.heap.objs.size:=Nat.ne_of_lt (Heap.lt_size g0)
 have hlen:ns.length=its.size:=by have:=hi.length;rw [Array.length_toList] at this;lia
 refine zme (led:=led) (n:=its.size) ((Walks.list (by simp [hh]) _ l nI its).toS) (S:=S) hn hlen (by simp [nS,Ne.symm hne]) (zmO hi) its.size 0 _ rfl ⟨⟨_,Heap.get?_push_size _ rfl,rfl,rfl⟩,hl.push _⟩ (zmT (Heap.get?_push_of_some _ g0')) fun s' mv x=>?_
 obtain⟨h',g',d',tk',os'⟩:=s'
 obtain rfl:g'=s.gens:=mv.gens
 obtain rfl:d'=s.drawn:=mv.drawn
 obtain rfl:os'=s.os:=mv.os
 refine wpAny_pure (wpAny_pure (h h' tk' x (fun b o hb e=>mv.heap b o ?_ (Heap.get?_push_of_some _ e)) mv.toks))
 simp only [List.mem_cons,List.not_mem_nil,or_false,not_or]
 exact⟨hb,Nat.ne_of_lt (Heap.lt_size e)⟩
set_option maxHeartbeats 3200000 in
theorem set_callG {l:Addr} {its:Array Value} {ns:List Int} {Q:Value→Shared→Prop} (hh:A.handled=none) (hl:s.heap.IsList l its) (hn:its.size + 1 < scanBound) (hi:IntsAre its.toList ns)
  (h:∀ (h':Heap) (tk:Nat),Sq1 prog w (ldOf w) s.heap.objs.size (dd ns) h'→(∀ b o,s.heap.get? b=some o→h'.get? b=some o)→s.toks≤tk→Q (.ref s.heap.objs.size) { s with heap:=h',toks:=tk }) :
  wpAny (model prog w) A (call (.type "set") [.ref l]) Q E s:=by
 obtain⟨c,tl,hmro⟩:=F.called_set.mro
 have w1:=F.called_set.made
 have w2:=F.called_set.sub
 have w3:=F.called_set.notType
 have w4:=F.called_set.canCreate
 have w5:=F.typeCall_set_1 (.ref l)
 refine wpAny_call (codeAny_of_tree ?_)
 show wpAny _ _ (callAny (Value.type "set") ⟨[Value.ref l],[]⟩) _ _ s
 refine wpAny_pure ⟨Code.quiet_builtin _ (by decide +kernel),?_⟩
 refine codeAny_builtin F.entry_type_call ?_
 rw [Around.under_plain (weight_type_call_type "set" [.ref l] []) rfl]
 repeat (any_goals (first | wp_step | assumption))
 refine codeAny_mono (zol (w:=w) (.ref l) (R:=fun r s1=>r=.ok (.ret (.ref s.heap.objs.size))∧s1 = { s with heap:=s.heap.push (oS0 (ldOf w)) }) ⟨rfl,rfl⟩) fun r s1 hr=>?_
 obtain⟨rfl,rfl⟩:=hr
 have g0:(s.heap.push (oS0 (ldOf w))).get? s.heap.objs.size=some (oS0 (ldOf w)):=Heap.get?_push_size _ rfl
 have hT:Shared.TypeIs { s with heap:=s.heap.push (oS0 (ldOf w)) } (.ref s.heap.objs.size) "set" := ⟨_,g0,rfl⟩
 have w6:=F.called_set.init.lookup
 have w7:=F.called_set.init.bind (.ref s.heap.objs.size)
 repeat (any_goals (first | wp_step | assumption))
 refine zkN (led:=ldOf w) (by simp [hh]) g0 (hl.push _) (Nat.ne_of_lt (let ⟨_,e,_⟩:=hl;Heap.lt_size e)) hn hi fun h' tk x1 x2 x3=>?_
 exact wpAny_pure (wpAny_pure (h h' tk x1 (fun b o e=>x2 b o (Nat.ne_of_lt (Heap.lt_size e)) (Heap.get?_push_of_some _ e)) x3))
end
end Sx
namespace Sx
open PySem PySem.Spec
noncomputable def plc (t:SetTable):Nat→Nat
 | 0=>0
 | i + 1=>t.place.getD i 0 + 1
noncomputable def vl (es:Array (Int×Value)) (i:Nat):Value:=(es[i]?.map (·.2)).getD .none
section
variable (w:World) (S:Addr) (es:Array (Int×Value)) (ep:Nat) (t:SetTable) (tp:Option (Addr×List Nat))
noncomputable def fOf (i:Nat):Value:=match tp with
 | some x=>.ref x.1
 | none=>if w.params.followText "set-order" = true then .int 0 0 else .int (plc t i) 0
noncomputable def zcA:List Value:=match tp with
 | some x=>x.2.map (vl es)
 | none=>if w.params.followText "set-order" = true then (pickOrder (w.params.setOrder S ep) es).toList.map (·.2) else es.toList.map (·.2)
def Ok3:Prop:=match tp with
 | some x=>w.params.followText "set-order" = false∧x.2.Perm (List.range es.size)
 | none=>w.params.followText "set-order" = true∨t.plain=true∨es.size≤1
end
def TP (tp:Option (Addr×List Nat)) (h:Heap):Prop:=match tp with
 | some x=>∃ o n,h.get? x.1=some o∧o.data=.seq (x.2.map fun (i:Nat)=>rawInt i).toArray n
 | none=>True
theorem zpU (es:Array (Int×Value)):(List.range es.size).map (vl es)=es.toList.map (·.2):=by
 refine List.ext_getElem (by simp) fun i h1 h2=>?_
 simp at h1
 simp [vl,h1]
theorem zi0 {w:World} {S:Addr} {es:Array (Int×Value)} {ep:Nat} {t:SetTable} {tp:Option (Addr×List Nat)} (h:Ok3 w es t tp):(zcA w S es ep tp).Perm (es.toList.map (·.2)):=by
 unfold zcA
 unfold Ok3 at h
 cases tp with
 | some x =>
  have q:(x.2.map (vl es)).Perm ((List.range es.size).map (vl es)):=h.2.map _
  rw [zpU] at q
  exact q
 | none =>
  dsimp only
  split
  ·exact (zeW _ es).map _
  ·exact .refl _
def SItG (h:Heap) (I S:Addr) (f:Value) (i n ep:Nat):Prop:=∃ o,h.get? I=some o∧o.cls=.type "set_iterator" ∧ o.data=.fields #[f,.int i 0,.ref S,.int n 0,.int ep 0]
theorem SItG.typeIs {s:Shared} {I S:Addr} {f:Value} {i n ep:Nat} (x:SItG s.heap I S f i n ep):s.TypeIs (.ref I) "set_iterator" := let ⟨o,ho,hc,_⟩:=x;⟨o,ho,hc⟩
section
variable {prog:Program} {w:World} {A:Around} {E:Value→Shared→Prop} {s:Shared} {S I:Addr} {es:Array (Int×Value)} {ep:Nat} {t:SetTable} {ds:List Int} {tp:Option (Addr×List Nat)} {i:Nat}
theorem zgI {Q:Option (Value×Nat)→Shared→Prop} (x:SG prog w (ldOf w) s.heap S es ep t ds) (hb:w.params.followText "set-order" = false) (hp:t.plain=true∨es.size≤1) (hi:i≤es.size)
  (h:Q ((es[i]?).map fun e=>(e.2,plc t (i + 1))) s):wpAny (model prog w) A (setNext S (plc t i) i ep) Q E s:=by
 obtain⟨o,ho,hx,hd⟩:=x.ob
 have hl:t.led=true:=by rw [x.tok.led];unfold ldOf;rw [hb];rfl
 have sz:t.place.size=es.size:=by
  have:=x.tok.fit
  unfold SetTable.fits at this
  simp at this
  exact this.1
 unfold setNext
 refine wpAny_bind (wpAny_setState_of ho hd x.tok.fit ?_)
 refine wpAny_bind (zdn ?_)
 dsimp only
 rw [hb]
 have hd2:(!t.plain && decide (es.size > 1))=false:=by
  rcases hp with hp | hp
  ·rw [hp];rfl
  ·rw [Bool.and_eq_false_iff];exact .inr (decide_eq_false (by lia))
 show wpAny _ _ (if (!t.plain && decide (es.size > 1))=true then _ else _) _ _ _
 rw [hd2,if_neg (by decide)]
 show wpAny _ _ ((if (!t.led && !es.isEmpty)=true then _ else pure ()) >>= _) _ _ _
 rw [hl,if_neg (by simp)]
 refine wpAny_bind (wpAny_pure ?_)
 have eb:SetTable.below t.place (plc t i)=i:=by
  cases i with
  | zero=>exact zko x.tok.ris
  | succ i =>
   have hi':i < t.place.size:=by lia
   show SetTable.below t.place (t.place.getD i 0 + 1)=i + 1
   rw [zc8 hi']
   exact zkp x.tok.ris hi'
 rw [eb]
 refine wpAny_pure ?_
 rcases Nat.lt_or_ge i es.size with q | q
 ·rw [Array.getElem?_eq_getElem q] at h ⊢
  rw [Array.getElem?_eq_getElem (by lia:i < t.place.size)]
  have e2:plc t (i + 1)=t.place[i] + 1:=by show t.place.getD i 0 + 1=_;rw [zc8 (by lia)]
  rw [e2] at h
  exact h
 ·rw [Array.getElem?_eq_none q] at h ⊢
  exact h
theorem zgH {Q:Option (Value×Nat)→Shared→Prop} (x:SG prog w (ldOf w) s.heap S es ep t ds) (hb:w.params.followText "set-order" = true)
  (h:Q (((pickOrder (w.params.setOrder S ep) es)[i]?).map fun e=>(e.2,0)) s):wpAny (model prog w) A (setNext S 0 i ep) Q E s:=by
 obtain⟨o,ho,hx,hd⟩:=x.ob
 unfold setNext
 refine wpAny_bind (wpAny_setState_of ho hd x.tok.fit ?_)
 refine wpAny_bind (zdn ?_)
 dsimp only
 rw [hb,if_pos rfl]
 simp only [bne_self_eq_false,Bool.false_eq_true,if_false]
 refine wpAny_bind ?_
 unfold setWalk
 refine wpAny_bind (wpAny_setState_of ho hd x.tok.fit ?_)
 refine wpAny_bind (zdn ?_)
 rw [hb,if_pos rfl]
 exact wpAny_bind (wpAny_askSetting (wpAny_pure (wpAny_pure h)))
theorem zje {Q:Option Value→Shared→Prop} {k nxt:Nat} {x:Value} (ho:∃ o,s.heap.get? S=some o∧o.data=.set es ep t) (hf:t.fits es.size=true) (it:SItG s.heap I S (.int k 0) i es.size ep)
  (hn:∀ (Q:Option (Value×Nat)→Shared→Prop) (E:Value→Shared→Prop),Q (some (x,nxt)) s→wpAny (model prog w) A.in1 (setNext S k i ep) Q E s)
  (q:∀ h',Heap.SameBut I s.heap h'→SItG h' I S (.int nxt 0) (i + 1) es.size ep→Q (some x) { s with heap:=h' }):wpAny (model prog w) A (pyNext (.ref I)) Q E s:=by
 obtain⟨o,hi,hc,hd⟩:=id it
 obtain⟨oS,hS,dS⟩:=ho
 unfold pyNext
 refine wpAny_bind (wpAny_attempt (wpAny_callSpecial?_slot (name:=Str.ofString "__next__") it.typeIs zaG (wpAny_call_entry zaG it.typeIs zbC ?_ (zbZ _))))
 unfold Builtin.«set_iterator.__next__»
 refine wpAny_bind (wpAny_pure (wpAny_bind (wpAny_fieldsOf hi hd ?_)))
 show wpAny _ _ (setEntries S >>= _) _ _ _
 refine wpAny_bind (wpAny_setEntries_of hS dS hf ?_)
 dsimp only
 rw [if_neg (by simp)]
 show wpAny _ _ (setNext S k i ep >>= _) _ _ _
 refine wpAny_bind (hn _ _ ?_)
 refine wpAny_bind (wpAny_setField hi hd (by simp) ?_)
 have g1:=Heap.get?_update_self (Obj.mapFields (·.setIfInBounds 0 (rawInt nxt))) hi (Obj.isFreed_of_fields (Obj.data_mapFields hd _))
 have d1:=Obj.data_mapFields hd (·.setIfInBounds 0 (rawInt nxt))
 refine wpAny_bind (wpAny_setField g1 d1 (by simp) (wpAny_pure ⟨x,rfl,wpAny_pure (q _ ?_ ?_)⟩))
 ·exact (Heap.SameBut.update ..).trans (Heap.SameBut.update ..)
 ·exact⟨_,Heap.get?_update_self _ g1 (Obj.isFreed_of_fields (Obj.data_mapFields d1 _)),((Obj.cls_mapFields ..).trans (Obj.cls_mapFields ..)).trans hc,by rw [Obj.data_mapFields d1];simp [rawInt]⟩
theorem ziQ {Q:Option Value→Shared→Prop} {h0:Heap} (hh:A.handled=none) (q:∀ h',(∀ b o,h0.get? b=some o→h'.get? b=some o)→Q none { s with heap:=h' }) :
  wpAny (model prog w) A.in1 (newExc (.type "StopIteration") [] >>= fun e=>(raiseNew e:Sem PySem.Fin)) (fun fin s'=>∃ v,fin=Fin.done (Flow.ret v)∧wpAny (model prog w) A (match (Except.ok (some v):Except Value (Option Value)) with
    | .ok (some v)=>pure (some v)
    | .ok none=>unsupported "iter:the-iterator's-class-has-lost-its-__next__-amid-the-walk"
    | .error e=>do if ← isInstance e (.type "StopIteration") then pure none else throw e) Q E s')
   (fun e s'=>wpAny (model prog w) A (match (Except.error e:Except Value (Option Value)) with
    | .ok (some v)=>pure (some v)
    | .ok none=>unsupported "iter:the-iterator's-class-has-lost-its-__next__-amid-the-walk"
    | .error e=>do if ← isInstance e (.type "StopIteration") then pure none else throw e) Q E s') { s with heap:=h0 }:=by
 refine wpAny_bind ?_
 simp only [newExc,newTuple]
 refine wpAny_bind (wpAny_newObj_type ?_ (by size_fits))
 refine wpAny_bind (m:=firstArgMember _ _) (wpAny_of_eq (a:=Value.none) (by first | rfl | (simp only [firstArgMember];rfl)) ?_)
 refine wpAny_newObj_type ?_ (by size_fits)
 simp only [raiseNew]
 refine wpAny_bind (wpAny_handled ?_)
 have h3:A.in1.handled=none:=hh
 rw [h3]
 refine wpAny_bind (wpAny_pure (wpAny_throw ?_))
 refine wpAny_bind (wpAny_isInstance (T := "StopIteration") (b:=true) ⟨_,Heap.get?_push_size _ rfl,rfl⟩ isSubtype_stop (wpAny_pure (q _ fun b o e=>?_)))
 exact Heap.get?_push_of_some _ (Heap.get?_push_of_some _ e)
theorem zjo {Q:Option Value→Shared→Prop} {k:Nat} (hh:A.handled=none) (ho:∃ o,s.heap.get? S=some o∧o.data=.set es ep t) (hf:t.fits es.size=true) (it:SItG s.heap I S (.int k 0) i es.size ep)
  (hn:∀ (Q:Option (Value×Nat)→Shared→Prop) (E:Value→Shared→Prop),Q none s→wpAny (model prog w) A.in1 (setNext S k i ep) Q E s)
  (q:∀ h',Heap.ExtBut I s.heap h'→Q none { s with heap:=h' }):wpAny (model prog w) A (pyNext (.ref I)) Q E s:=by
 obtain⟨o,hi,hc,hd⟩:=id it
 obtain⟨oS,hS,dS⟩:=ho
 unfold pyNext
 refine wpAny_bind (wpAny_attempt (wpAny_callSpecial?_slot (name:=Str.ofString "__next__") it.typeIs zaG (wpAny_call_entry zaG it.typeIs zbC ?_ (zbZ _))))
 unfold Builtin.«set_iterator.__next__»
 refine wpAny_bind (wpAny_pure (wpAny_bind (wpAny_fieldsOf hi hd ?_)))
 show wpAny _ _ (setEntries S >>= _) _ _ _
 refine wpAny_bind (wpAny_setEntries_of hS dS hf ?_)
 dsimp only
 rw [if_neg (by simp)]
 show wpAny _ _ (setNext S k i ep >>= _) _ _ _
 refine wpAny_bind (hn _ _ ?_)
 refine wpAny_bind (wpAny_setField hi hd (by simp) ?_)
 refine ziQ hh fun h' k=>q h' fun b o hb e=>k b o ?_
 exact (Heap.get?_update_other _ _ (Ne.symm hb)).trans e
theorem zmM {Q:Option Value→Shared→Prop} {p j:Nat} {pl:List Nat} {x:Value} (ho:∃ o,s.heap.get? S=some o∧o.data=.set es ep t) (hf:t.fits es.size=true) (it:SItG s.heap I S (.ref p) i es.size ep)
  (hp:TP (some (p,pl)) s.heap) (hj:pl[i]? = some j) (hx:(es[j]?).map (·.2)=some x)
  (q:∀ h',Heap.SameBut I s.heap h'→SItG h' I S (.ref p) (i + 1) es.size ep→Q (some x) { s with heap:=h' }):wpAny (model prog w) A (pyNext (.ref I)) Q E s:=by
 obtain⟨o,hi,hc,hd⟩:=id it
 obtain⟨oS,hS,dS⟩:=ho
 obtain⟨op,np,hp1,hp2⟩:=hp
 unfold pyNext
 refine wpAny_bind (wpAny_attempt (wpAny_callSpecial?_slot (name:=Str.ofString "__next__") it.typeIs zaG (wpAny_call_entry zaG it.typeIs zbC ?_ (zbZ _))))
 unfold Builtin.«set_iterator.__next__»
 refine wpAny_bind (wpAny_pure (wpAny_bind (wpAny_fieldsOf hi hd ?_)))
 show wpAny _ _ (setEntries S >>= _) _ _ _
 refine wpAny_bind (wpAny_setEntries_of hS dS hf ?_)
 dsimp only
 rw [if_neg (by simp)]
 show wpAny _ _ (seqItems? (.ref p) >>= _) _ _ _
 refine wpAny_bind (wpAny_seqItems hp1 hp2 ?_)
 have ej:((pl.map fun (i:Nat)=>rawInt i).toArray)[((i:Int)).toNat]? = some (rawInt (j:Int)):=by
  rw [List.getElem?_toArray,List.getElem?_map,Int.toNat_natCast,hj];rfl
 dsimp only
 rw [ej]
 show wpAny _ _ (setNextDrawn S ((j:Int)).toNat ((ep:Int)).toNat >>= _) _ _ _
 refine wpAny_bind ?_
 unfold setNextDrawn
 refine wpAny_bind (wpAny_setState_of hS dS hf ?_)
 dsimp only
 rw [Int.toNat_natCast,Int.toNat_natCast,if_neg (by simp)]
 obtain⟨⟨hh',x'⟩,e1,e2⟩:=Option.map_eq_some_iff.mp hx
 rw [e1]
 obtain rfl:x'=x:=e2
 refine wpAny_pure ?_
 refine wpAny_bind (wpAny_setField hi hd (by simp) (wpAny_pure ⟨_,rfl,wpAny_pure (q _ (Heap.SameBut.update ..) ?_)⟩))
 exact⟨_,Heap.get?_update_self _ hi (Obj.isFreed_of_fields (Obj.data_mapFields hd _)),(Obj.cls_mapFields ..).trans hc,by rw [Obj.data_mapFields hd];simp [rawInt]⟩
theorem zmY {Q:Option Value→Shared→Prop} {p:Nat} {pl:List Nat} (hh:A.handled=none) (ho:∃ o,s.heap.get? S=some o∧o.data=.set es ep t) (hf:t.fits es.size=true) (it:SItG s.heap I S (.ref p) i es.size ep)
  (hp:TP (some (p,pl)) s.heap) (hj:pl[i]? = none)
  (q:∀ h',Heap.ExtBut I s.heap h'→Q none { s with heap:=h' }):wpAny (model prog w) A (pyNext (.ref I)) Q E s:=by
 obtain⟨o,hi,hc,hd⟩:=id it
 obtain⟨oS,hS,dS⟩:=ho
 obtain⟨op,np,hp1,hp2⟩:=hp
 unfold pyNext
 refine wpAny_bind (wpAny_attempt (wpAny_callSpecial?_slot (name:=Str.ofString "__next__") it.typeIs zaG (wpAny_call_entry zaG it.typeIs zbC ?_ (zbZ _))))
 unfold Builtin.«set_iterator.__next__»
 refine wpAny_bind (wpAny_pure (wpAny_bind (wpAny_fieldsOf hi hd ?_)))
 show wpAny _ _ (setEntries S >>= _) _ _ _
 refine wpAny_bind (wpAny_setEntries_of hS dS hf ?_)
 dsimp only
 rw [if_neg (by simp)]
 show wpAny _ _ (seqItems? (.ref p) >>= _) _ _ _
 refine wpAny_bind (wpAny_seqItems hp1 hp2 ?_)
 have ej:((pl.map fun (i:Nat)=>rawInt i).toArray)[((i:Int)).toNat]? = none:=by
  rw [List.getElem?_toArray,List.getElem?_map,Int.toNat_natCast,hj];rfl
 dsimp only
 rw [ej]
 refine wpAny_bind (wpAny_setField hi hd (by simp) ?_)
 have g1:=Heap.get?_update_self (Obj.mapFields (·.setIfInBounds 0 (rawInt 0))) hi (Obj.isFreed_of_fields (Obj.data_mapFields hd _))
 have d1:=Obj.data_mapFields hd (·.setIfInBounds 0 (rawInt 0))
 refine wpAny_bind (wpAny_setField g1 d1 (by simp) ?_)
 refine ziQ hh fun h' k=>q h' fun b o hb e=>k b o ?_
 exact (Heap.get?_update_other _ _ (Ne.symm hb)).trans ((Heap.get?_update_other _ _ (Ne.symm hb)).trans e)
end
end Sx
namespace Sx
open PySem PySem.Spec
structure Stt (prog:Program) (w:World) (I S:Addr) (es:Array (Int×Value)) (ep:Nat) (t:SetTable) (ds:List Int) (tp:Option (Addr×List Nat)) (i:Nat) (h:Heap):Prop where
 sg:SG prog w (ldOf w) h S es ep t ds
 it:SItG h I S (fOf w t tp i) i es.size ep
 tp:TP tp h
section
variable {prog:Program} {w:World} {A:Around} {E:Value→Shared→Prop} {s:Shared} {S I:Addr} {es:Array (Int×Value)} {ep:Nat} {t:SetTable} {ds:List Int} {tp:Option (Addr×List Nat)} {i:Nat}
theorem Stt.obs {h:Heap} (x:Stt prog w I S es ep t ds tp i h):∃ o,h.get? S=some o∧o.data=.set es ep t:=let ⟨o,ho,_,hd⟩:=x.sg.ob;⟨o,ho,hd⟩
theorem TP.at {h h':Heap} (x:TP tp h) (k:∀ y,tp=some y→∀ o,h.get? y.1=some o→h'.get? y.1=some o):TP tp h':=by
 cases tp with
 | none=>exact trivial
 | some y=>obtain⟨o,n,e1,e2⟩:=x;exact⟨o,n,k y rfl o e1,e2⟩
theorem Stt.at {h h':Heap} (x:Stt prog w I S es ep t ds tp i h) (k:∀ b o,b=S∨b=I∨(∃ y,tp=some y∧b=y.1)→h.get? b=some o→h'.get? b=some o):Stt prog w I S es ep t ds tp i h':=
 ⟨x.sg.at fun o e=>k S o (.inl rfl) e,let ⟨o,h1,r⟩:=x.it;⟨o,k I o (.inr (.inl rfl)) h1,r⟩,x.tp.at fun y ey o e=>k y.1 o (.inr (.inr ⟨y,ey,rfl⟩)) e⟩
theorem Stt.next {h h':Heap} (x:Stt prog w I S es ep t ds tp i h) (nS:S≠I) (nP:∀ y,tp=some y→y.1≠I) (sb:Heap.SameBut I h h') (it:SItG h' I S (fOf w t tp (i + 1)) (i + 1) es.size ep):Stt prog w I S es ep t ds tp (i + 1) h':=
 ⟨x.sg.at fun o e=>by rw [sb.2 S nS];exact e,it,x.tp.at fun y ey o e=>by rw [sb.2 _ (nP y ey)];exact e⟩
theorem zrR {Q:Option Value→Shared→Prop} (ok:Ok3 w es t tp) (x:Stt prog w I S es ep t ds tp i s.heap) (nS:S≠I) (nP:∀ y,tp=some y→y.1≠I) (hi:i < es.size)
  (q:∀ v h',(zcA w S es ep tp)[i]? = some v→Heap.SameBut I s.heap h'→Stt prog w I S es ep t ds tp (i + 1) h'→Q (some v) { s with heap:=h' }):wpAny (model prog w) A (pyNext (.ref I)) Q E s:=by
 have nx:=fun h' (sb:Heap.SameBut I s.heap h') it=>x.next nS nP sb it
 have it:=x.it
 unfold Ok3 at ok
 cases tp with
 | some y =>
  obtain⟨p,pl⟩:=y
  have lp:pl.length=es.size:=by rw [ok.2.length_eq,List.length_range]
  have e1:pl[i]? = some pl[i]:=List.getElem?_eq_getElem (by lia)
  have lj:pl[i] < es.size:=List.mem_range.mp (ok.2.mem_iff.mp (List.getElem_mem _))
  refine zmM (j:=pl[i]) (x:=vl es pl[i]) x.obs x.sg.tok.fit it x.tp e1 (by simp [vl,lj]) fun h' sb it'=>q _ h' ?_ sb (nx h' sb it')
  show (pl.map (vl es))[i]? = _
  rw [List.getElem?_map,e1];rfl
 | none =>
  cases hb:w.params.followText "set-order" with
  | true =>
   have ef:∀ j,fOf w t none j=.int ((0:Nat):Int) 0:=fun j=>by unfold fOf;rw [hb];rfl
   rw [ef] at it
   have lp:(pickOrder (w.params.setOrder S ep) es).size=es.size:=by rw [← Array.length_toList,(zeW _ es).length_eq,Array.length_toList]
   have e1:(pickOrder (w.params.setOrder S ep) es)[i]? = some (pickOrder (w.params.setOrder S ep) es)[i]:=Array.getElem?_eq_getElem (by lia)
   refine zje (nxt:=0) (x:=(pickOrder (w.params.setOrder S ep) es)[i].2) x.obs x.sg.tok.fit it (fun Q E h=>zgH x.sg hb (by rw [e1];exact h)) fun h' sb it'=>q _ h' ?_ sb (nx h' sb (by rw [ef];exact it'))
   unfold zcA
   dsimp only
   rw [hb,if_pos rfl,List.getElem?_map,Array.getElem?_toList,e1];rfl
  | false =>
   have ef:∀ j,fOf w t none j=.int (plc t j:Int) 0:=fun j=>by unfold fOf;rw [hb];rfl
   rw [ef] at it
   have hp:t.plain=true∨es.size≤1:=ok.elim (fun z=>by rw [hb] at z;cases z) id
   have e1:es[i]? = some es[i]:=Array.getElem?_eq_getElem hi
   refine zje (nxt:=plc t (i + 1)) (x:=es[i].2) x.obs x.sg.tok.fit it (fun Q E h=>zgI x.sg hb hp (by lia) (by rw [e1];exact h)) fun h' sb it'=>q _ h' ?_ sb (nx h' sb (by rw [ef];exact it'))
   unfold zcA
   dsimp only
   rw [hb,if_neg (by decide),List.getElem?_map,Array.getElem?_toList,e1];rfl
theorem zsP {Q:Option Value→Shared→Prop} (hh:A.handled=none) (ok:Ok3 w es t tp) (x:Stt prog w I S es ep t ds tp es.size s.heap)
  (q:∀ h',Heap.ExtBut I s.heap h'→Q none { s with heap:=h' }):wpAny (model prog w) A (pyNext (.ref I)) Q E s:=by
 have it:=x.it
 unfold Ok3 at ok
 cases tp with
 | some y =>
  obtain⟨p,pl⟩:=y
  have lp:pl.length=es.size:=by rw [ok.2.length_eq,List.length_range]
  exact zmY hh x.obs x.sg.tok.fit it x.tp (List.getElem?_eq_none (by lia)) q
 | none =>
  cases hb:w.params.followText "set-order" with
  | true =>
   have ef:∀ j,fOf w t none j=.int ((0:Nat):Int) 0:=fun j=>by unfold fOf;rw [hb];rfl
   rw [ef] at it
   have lp:(pickOrder (w.params.setOrder S ep) es).size=es.size:=by rw [← Array.length_toList,(zeW _ es).length_eq,Array.length_toList]
   exact zjo hh x.obs x.sg.tok.fit it (fun Q E h=>zgH x.sg hb (by rw [Array.getElem?_eq_none (by lia)];exact h)) q
  | false =>
   have ef:∀ j,fOf w t none j=.int (plc t j:Int) 0:=fun j=>by unfold fOf;rw [hb];rfl
   rw [ef] at it
   have hp:t.plain=true∨es.size≤1:=ok.elim (fun z=>by rw [hb] at z;cases z) id
   exact zjo hh x.obs x.sg.tok.fit it (fun Q E h=>zgI x.sg hb hp (by lia) (by rw [Array.getElem?_eq_none (by lia)];exact h)) q
theorem zlJ {L:Addr} {R:Result→Shared→Prop} (hh:A.handled=none) (ok:Ok3 w es t tp) (nS:S≠I) (nP:∀ y,tp=some y→y.1≠I) (n1:L≠I) (n2:L≠S) (n3:∀ y,tp=some y→y.1≠L) (hz:es.size≤sizeLine) :
  ∀ (d i:Nat) (s:Shared) (c:Nat),d + i=es.size→Stt prog w I S es ep t ds tp i s.heap→s.heap.get? L=some (oLs ((zcA w S es ep tp).take i).toArray c) →
  (∀ h' c',(∀ b o,b≠L→b≠I→s.heap.get? b=some o→h'.get? b=some o)→h'.get? L=some (oLs (zcA w S es ep tp).toArray c')→R (.ok (.ret (.ref L))) { s with heap:=h' }) →
  codeAny (model prog w) A (.builtin "list.extend.loop" ⟨[.ref L,.ref I,.ref L],[]⟩) R s:=by
 have lo:(zcA w S es ep tp).length=es.size:=by rw [(zi0 (S:=S) (ep:=ep) ok).length_eq,List.length_map,Array.length_toList]
 intro d
 induction d with
 | zero =>
  intro i s c hd x hL q
  obtain rfl:i=es.size:=by lia
  refine codeAny_builtin F.entry_extend_loop ?_
  rw [Around.under_plainId F.plain_extend_loop _]
  unfold Builtin.«list.extend.loop»
  refine wpAny_bind (zsP (by simp [hh]) ok x fun h' k=>?_)
  rw [List.take_of_length_le (by lia)] at hL
  exact wpAny_pure (q h' c (fun b o b1 b2 e=>k b o b2 e) (k L _ n1 hL))
 | succ d ih =>
  intro i s c hd x hL q
  refine codeAny_builtin F.entry_extend_loop ?_
  rw [Around.under_plainId F.plain_extend_loop _]
  unfold Builtin.«list.extend.loop»
  refine wpAny_bind (zrR ok x nS nP (by lia) fun v h1 ev sb x1=>?_)
  have g1:h1.get? L=some (oLs ((zcA w S es ep tp).take i).toArray c):=by rw [sb.2 L n1];exact hL
  show wpAny _ A.in1 (updateSeq L (·.push v) >>= _) _ _ _
  have et:(zcA w S es ep tp).take (i + 1)=(zcA w S es ep tp).take i ++ [v]:=by rw [List.take_add_one,ev];rfl
  have sz:((zcA w S es ep tp).take i).toArray.size≤i:=by simp;lia
  refine wpAny_bind (wpAny_updateSeq g1 rfl ?_ (by lia) (by show (((zcA w S es ep tp).take i).toArray.push v).size≤sizeLine + 1;rw [Array.size_push];lia))
  have g3:=Heap.get?_update_self (Obj.mapSeq (·.push v)) g1 rfl
  have o3:∀ b,b≠L→(h1.update L (Obj.mapSeq (·.push v))).get? b=h1.get? b:=fun b hb=>Heap.get?_update_other _ _ (Ne.symm hb)
  have ea:((zcA w S es ep tp).take i ++ [v]).toArray=((zcA w S es ep tp).take i).toArray.push v:=by simp
  obtain⟨c2,g4⟩:∃ c2,(h1.update L (Obj.mapSeq (·.push v))).get? L=some (oLs ((zcA w S es ep tp).take (i + 1)).toArray c2):=by
   rw [et,ea]
   exact⟨_,g3⟩
  refine wpAny_pure ⟨plainId_quiet F.plain_extend_loop _,ih (i + 1) _ c2 (by lia) (x1.at fun b o hb e=>?_) g4 fun h' c' k1 k2=>q h' c' (fun b o b1 b2 e=>k1 b o b1 b2 ?_) k2⟩
  ·rw [o3 b]
   ·exact e
   ·rcases hb with rfl | rfl | ⟨y,ey,rfl⟩
    ·exact Ne.symm n2
    ·exact Ne.symm n1
    ·exact n3 y ey
  ·exact (o3 b b1).trans ((sb.2 b b2).trans e)
end
end Sx
namespace Sx
open PySem PySem.Spec
section
variable {prog:Program} {w:World} {A:Around} {E:Value→Shared→Prop} {s:Shared} {S I:Addr} {es:Array (Int×Value)} {ep:Nat} {t:SetTable} {ds:List Int} {tp:Option (Addr×List Nat)} {i:Nat}
theorem zsG {Q:Bool→Shared→Prop} (hT:s.TypeIs (.ref S) "set") (q:Q false s):wpAny (model prog w) A (Builtin.List.listLengthHint (.ref S)) Q E s:=by
 unfold Builtin.List.listLengthHint
 refine wpAny_bind (wpAny_specialOf hT F.slot_set_len.lookup ?_)
 have e1:splitId "set.__len__" = some ("set", "__len__"):=by decide +kernel
 dsimp only
 rw [e1]
 refine wpAny_bind (wpAny_isInstance hT sub_set_self ?_)
 simp only [Bool.not_true,Bool.false_eq_true,if_false]
 rw [if_pos (by decide +kernel)]
 exact wpAny_bind (wpAny_typeOf hT (wpAny_pure q))
theorem zst {Q:Value→Shared→Prop} (x:SG prog w (ldOf w) s.heap S es ep t ds) (hz:es.size≤sizeLine)
  (q:∀ I tp h' d,s.heap.objs.size≤I→(∀ y,tp=some y→s.heap.objs.size≤y.1∧y.1≠I)→(∀ b o,s.heap.get? b=some o→h'.get? b=some o)→Ok3 w es t tp→Stt prog w I S es ep t ds tp 0 h'→Q (.ref I) { s with heap:=h',drawn:=d }) :
  wpAny (model prog w) A (pyIter (.ref S)) Q E s:=by
 obtain⟨o,ho,hx,hd⟩:=x.ob
 have hT:s.TypeIs (.ref S) "set" := ⟨_,ho,hx.1⟩
 refine wpAny_pyIter_slot hT F.slot_set_iter (wpAny_call_entry F.slot_set_iter hT zfI ?_ (F.args_set_iter_1 _))
 unfold Builtin.«frozenset.__iter__»
 refine wpAny_bind (wpAny_pure ?_)
 refine wpAny_bind (wpAny_bind (wpAny_setEntries_of ho hd x.tok.fit (wpAny_pure ?_)))
 refine wpAny_bind ?_
 unfold setDrawn
 refine wpAny_bind (wpAny_setState_of ho hd x.tok.fit ?_)
 refine wpAny_bind (zdn (wpAny_pure ?_))
 dsimp only
 show wpAny _ _ (if (!(w.params.followText "set-order") && (!t.plain && decide (es.size > 1)))=true then _ else _) _ _ _
 by_cases hq:(!(w.params.followText "set-order") && (!t.plain && decide (es.size > 1)))=true
 ·rw [if_pos hq]
  have hb:w.params.followText "set-order" = false:=by
   rw [Bool.and_eq_true] at hq
   simpa using hq.1
  refine wpAny_bind (zob es.size (List.range es.size) s List.length_range fun r d hr=>?_)
  have lr:r.length=es.size:=by rw [hr.length_eq,List.length_range]
  refine wpAny_bind (wpAny_newTuple ?_ (hsz:=by rw [List.length_map,lr];exact hz))
  generalize eT:({ cls:=.type "tuple", data:=.seq (r.map fun (i:Nat)=>rawInt i).toArray }:Obj)=oT
  have g1:(s.heap.push oT).get? S=some o:=Heap.get?_push_of_some _ ho
  have gT:(s.heap.push oT).get? s.heap.objs.size=some oT:=Heap.get?_push_size _ (by rw [← eT];rfl)
  refine wpAny_bind (wpAny_setEpoch_of g1 hd x.tok.fit ?_)
  refine wpAny_bind (wpAny_newObj_type ?_)
  refine wpAny_pure ⟨_,rfl, "set_iterator", _,⟨_,Heap.get?_push_size _ rfl,rfl⟩,zaG.lookup,?_⟩
  have sz:(s.heap.push oT).objs.size=s.heap.objs.size + 1:=Heap.size_push ..
  refine q _ (some (s.heap.objs.size,r)) _ d (by show s.heap.objs.size≤(s.heap.push oT).objs.size;lia) (fun y ey=>by cases ey;exact⟨Nat.le_refl _,by show s.heap.objs.size≠(s.heap.push oT).objs.size;lia⟩) (fun b o e=>Heap.get?_push_of_some _ (Heap.get?_push_of_some _ e)) ⟨hb,hr⟩
   ⟨x.at fun o e=>Heap.get?_push_of_some _ (Heap.get?_push_of_some _ e),⟨_,Heap.get?_push_size _ rfl,rfl,rfl⟩,⟨oT,0,Heap.get?_push_of_some _ gT,by rw [← eT]⟩⟩
 ·rw [if_neg hq]
  refine wpAny_bind (wpAny_pure ?_)
  refine wpAny_bind (wpAny_setEpoch_of ho hd x.tok.fit ?_)
  refine wpAny_bind (wpAny_newObj_type ?_)
  refine wpAny_pure ⟨_,rfl, "set_iterator", _,⟨_,Heap.get?_push_size _ rfl,rfl⟩,zaG.lookup,?_⟩
  have ok:Ok3 w es t none:=by
   show w.params.followText "set-order" = true∨t.plain=true∨es.size≤1
   cases h1:w.params.followText "set-order" with
   | true=>exact .inl rfl
   | false =>
    cases h2:t.plain with
    | true=>exact .inr (.inl rfl)
    | false =>
     rw [h1,h2] at hq
     refine .inr (.inr ?_)
     simpa using hq
  refine q s.heap.objs.size none _ s.drawn (Nat.le_refl _) (fun y ey=>by cases ey) (fun b o e=>Heap.get?_push_of_some _ e) ok ⟨x.at fun o e=>Heap.get?_push_of_some _ e,⟨_,Heap.get?_push_size _ rfl,rfl,?_⟩,trivial⟩
  have ef:fOf w t none 0=.int ((0:Nat):Int) 0:=by
   unfold fOf
   dsimp only
   split <;> rfl
  rw [ef]
  rfl
theorem zm1 {Q:List Value→Shared→Prop} (hh:A.handled=none) (x:SG prog w (ldOf w) s.heap S es ep t ds) (hz:es.size≤sizeLine)
  (q:∀ vs h' d,s.heap.objs.size < h'.objs.size→(∀ b o,s.heap.get? b=some o→h'.get? b=some o)→vs.Perm (es.toList.map (·.2))→Q vs { s with heap:=h',drawn:=d }):wpAny (model prog w) A (collect (.ref S)) Q E s:=by
 obtain⟨oS,ho,hx,hd⟩:=x.ob
 have lS:=Heap.lt_size ho
 unfold collect
 refine wpAny_bind (wpAny_runValue (codeAny_builtin F.entry_proto_collect ?_))
 rw [Around.under_plainId F.plain_proto_collect _]
 unfold Builtin.«proto.collect»
 refine wpAny_bind (wpAny_newObj_type ?_)
 refine wpAny_pure ⟨plainId_quiet F.plain_list_iadd _,codeAny_builtin F.entry_list_iadd ?_⟩
 rw [Around.under_plainId F.plain_list_iadd _]
 generalize eL:({ cls:=.type "list", data:=.seq ([]:List Value).toArray }:Obj)=oL
 have gL:(s.heap.push oL).get? s.heap.objs.size=some oL:=Heap.get?_push_size _ (by rw [← eL];rfl)
 have x1:SG prog w (ldOf w) (s.heap.push oL) S es ep t ds:=x.at fun o e=>Heap.get?_push_of_some _ e
 have hT:({ s with heap:=s.heap.push oL }:Shared).TypeIs (.ref S) "set" := ⟨_,Heap.get?_push_of_some _ ho,hx.1⟩
 show wpAny _ _ (Builtin.List.listExtendWith (.ref s.heap.objs.size) (.ref S) (.ref s.heap.objs.size)) _ _ { s with heap:=s.heap.push oL }
 unfold Builtin.List.listExtendWith
 refine wpAny_bind (wpAny_typeOf hT ?_)
 have n1:Builtin.List.listSameRef (.ref s.heap.objs.size) (.ref S)=false:=by simp [Builtin.List.listSameRef];exact Nat.ne_of_gt lS
 have n2:(Value.type "set" == Value.type "list")=false:=by decide
 have n3:(Value.type "set" == Value.type "tuple")=false:=by decide
 simp only [n1,n2,n3,Bool.or_false,Bool.false_eq_true,if_false]
 refine wpAny_bind (zst (s:={ s with heap:=s.heap.push oL }) x1 hz fun I tp hp d lI lP kp ok st=>?_)
 have sz:(s.heap.push oL).objs.size=s.heap.objs.size + 1:=Heap.size_push ..
 replace lI:s.heap.objs.size < I:=by have:(s.heap.push oL).objs.size≤I:=lI;lia
 replace lP:∀ y,tp=some y→s.heap.objs.size < y.1∧y.1≠I:=fun y ey=>⟨by have:(s.heap.push oL).objs.size≤y.1:=(lP y ey).1;lia,(lP y ey).2⟩
 replace kp:∀ b o,(s.heap.push oL).get? b=some o→hp.get? b=some o:=kp
 have g3:=kp _ _ gL
 have old:∀ b o,s.heap.get? b=some o→hp.get? b=some o:=fun b o e=>kp b o (Heap.get?_push_of_some _ e)
 clear kp
 subst eL
 refine wpAny_bind (wpAny_holding (zsG ⟨_,old _ _ ho,hx.1⟩ ?_))
 rw [if_pos (by decide +kernel)]
 refine wpAny_bind (wpAny_rule (wpAny_bind ?_))
 show wpAny _ A.in1 (updateSeq s.heap.objs.size (·.push .none) >>= fun _=>updateSeq s.heap.objs.size (·.pop)) _ _ _
 refine wpAny_bind (wpAny_updateSeq g3 rfl ?_)
 have u1:=Heap.get?_update_self (Obj.mapSeq (·.push Value.none)) g3 rfl
 refine wpAny_updateSeq u1 rfl ?_
 have u2:=Heap.get?_update_self (Obj.mapSeq (·.pop)) u1 rfl
 have oth:∀ b,b≠s.heap.objs.size→((hp.update s.heap.objs.size (Obj.mapSeq (·.push Value.none))).update s.heap.objs.size (Obj.mapSeq (·.pop))).get? b=hp.get? b:=
  fun b hb=>(Heap.get?_update_other _ _ (Ne.symm hb)).trans (Heap.get?_update_other _ _ (Ne.symm hb))
 have st2:Stt prog w I S es ep t ds tp 0 ((hp.update s.heap.objs.size (Obj.mapSeq (·.push Value.none))).update s.heap.objs.size (Obj.mapSeq (·.pop))):=Stt.at st fun b o hb e=>by
  rw [oth b]
  ·exact e
  ·rcases hb with rfl | rfl | ⟨y,ey,rfl⟩
   ·exact Nat.ne_of_lt lS
   ·exact Nat.ne_of_gt lI
   ·exact Nat.ne_of_gt (lP y ey).1
 obtain⟨c,u3⟩:∃ c,((hp.update s.heap.objs.size (Obj.mapSeq (·.push Value.none))).update s.heap.objs.size (Obj.mapSeq (·.pop))).get? s.heap.objs.size=some (oLs ((zcA w S es ep tp).take 0).toArray c):=⟨_,u2⟩
 refine wpAny_pure ⟨plainId_quiet F.plain_extend_loop _,zlJ (S:=S) (es:=es) (t:=t) (tp:=tp) (ds:=ds) (ep:=ep) hh ok (Nat.ne_of_lt (Nat.lt_trans lS lI)) (fun y ey=>(lP y ey).2) (Nat.ne_of_lt lI) (Nat.ne_of_gt lS) (fun y ey=>Nat.ne_of_gt (lP y ey).1) hz es.size 0 _ c rfl st2 u3 fun h' c' k1 k2=>?_⟩
 show wpAny _ A (load s.heap.objs.size >>= _) _ _ _
 refine wpAny_bind (wpAny_load k2 (wpAny_pure (q (zcA w S es ep tp) h' d (Heap.lt_size k2) (fun b o e=>?_) (zi0 ok))))
 have lb:=Heap.lt_size e
 exact k1 b o (Nat.ne_of_lt lb) (Nat.ne_of_lt (Nat.lt_trans lb lI)) ((oth b (Nat.ne_of_lt lb)).trans (old b o e))
end
end Sx
namespace Sx
open PySem PySem.Spec
open PyProof.Rows (IntsAre)
section
variable {prog:Program} {w:World} {A:Around} {E:Value→Shared→Prop} {s:Shared} {S:Addr} {es:Array (Int×Value)} {ep:Nat} {t:SetTable} {ds:List Int}
theorem zpi:∀ {vs:List Value},(∀ v∈vs,∃ k u,v=Value.int k u)→IntsAre vs (vs.map nm):=by
 intro vs
 induction vs with
 | nil=>intro _;exact .nil
 | cons v vs ih =>
  intro h
  obtain⟨k,u,rfl⟩:=h v (by simp)
  exact .cons k u (ih fun v hv=>h v (by simp [hv]))
open PyProof.Rows Srt in
theorem sortedG {Q:Value→Shared→Prop} (hh:A.handled=none) (x:SG prog w (ldOf w) s.heap S es ep t ds) (hz:es.size≤sizeLine)
  (q:∀ h' a c d (out:Array Value) (ns:List Int),s.heap.objs.size≤a→(∀ b o,s.heap.get? b=some o→h'.get? b=some o)→h'.get? a=some (seqObj "list" out c)→IntsAre out.toList ns→ns.Perm ds→ns.Pairwise (·≤·)→Q (.ref a) { s with heap:=h',drawn:=d }) :
  wpAny (model prog w) A (call (.builtin "sorted") [.ref S]) Q E s:=by
 refine Calls.call_function_entry kind_sorted plain_sorted entry_sorted (args_sorted1 _) ?_
 unfold Builtin.«sorted»
 refine wpAny_bind (m:=checkCount "sorted" 1 1 _) (wpAny_pure (wpAny_bind (zm1 (by simp [hh]) x hz fun vs h1 d le k1 pv=>?_)))
 have lv:vs.length=es.size:=by rw [pv.length_eq,List.length_map,Array.length_toList]
 have hv:∀ v∈vs,∃ k u,v=Value.int k u:=fun v hv=>by
  obtain⟨e,he,rfl⟩:=List.mem_map.mp (pv.mem_iff.mp hv)
  obtain⟨k,u,rfl⟩:=x.el e he
  exact⟨k,u,rfl⟩
 have hI:=zpi hv
 have pk:(vs.map nm).Perm ds:=by
  refine (pv.map nm).trans ?_
  rw [List.map_map]
  exact x.pm
 refine wpAny_bind (wpAny_newList ?_ (hsz:=by rw [lv];exact hz))
 have e2:(h1.push (seqObj "list" vs.toArray 0)).get? h1.objs.size=some (seqObj "list" vs.toArray 0):=Heap.get?_push_size _ rfl
 refine wpAny_bind (wpAny_holding (wpAny_call_entry slot_list_sort ⟨_,e2,rfl⟩ entry_list_sort (@zdx prog w _ E _ zkg "int" _ _ _ _ e2 hI.intKeys (by rw [lv];exact hz) (by decide) (fun h' _=>⟨znY,fun u hu=>?_⟩) fun out z1 z2=>⟨_,rfl,wpAny_pure ⟨_,rfl,?_⟩⟩) (args_list_sort _)))
 ·obtain⟨k,u',rfl⟩:=hv u hu
  rfl
 ·obtain⟨ns',y1,y2,y3⟩:=sorted_out hI z1 z2
  obtain⟨c,hc⟩:=sortedHeap_at (out:=out.map (·.2)) e2
  refine q _ _ c d _ ns' (Nat.le_of_lt le) (fun b o e=>?_) hc y1 (y2.trans pk) y3
  have l2:=Heap.lt_size (k1 b o e)
  rw [sortedHeap_old (Nat.ne_of_lt l2) (by rw [Heap.size_push];exact Nat.lt_succ_of_lt l2)]
  exact Heap.get?_push_of_some _ (k1 b o e)
end
end Sx
namespace TL
open PySem PySem.Spec L2
noncomputable def cSSG:T→Option T
 | .lst ts=>(zbm ts).bind fun ns=>if ns.length≤1000 then some (.lst (zad (zbU (Sx.dd ns)))) else none
 | _=>none
noncomputable def eSSG (F:VEnv→Res T):VEnv→Res T:=fun ρ=>(F ρ).bind fun t=>.of (cSSG t)
def tSSG (t:TE):TE:=fun σ H Q=>t σ H fun v H1=>∃ (a:Addr) (ns:List Int),v=.ref a∧H1 a=some (.lst (ns.map V.int))∧ns.length≤1000∧∀ p,H1 p=none→Q (.ref p) (upd H1 p (.lst ((zbU (Sx.dd ns)).map V.int)))
theorem znQ:1000≤sizeLine:=by decide
section
variable {X:Cx} {z:Z} {md md1:Md} {F:VEnv→Res T} {e:Expr} {t:TE} {p1 p2 p3 p4:Pos}
theorem Inv.laidD {pins:List (Addr×Obj)} {σ:St} {H:Hp} {s:Shared} {h':Heap} {a:Addr} {o:HO} {t':Nat} {d':Drawn} (I:Inv X pins σ H s) (k:∀ b u,s.heap.get? b=some u→h'.get? b=some u) (hp:s.heap.objs.size≤a) (new:zbW X.prog X.w (upd H a o) h' a o) :
  Inv X pins σ (upd H a o) { s with heap:=h',toks:=t',drawn:=d' }:=by
 have:=Inv.laid (t':=t') I k hp new
 exact⟨this.ok,this.os,this.bare,this.base,this.loc,this.cell,this.free,this.freeC,this.pin,this.hok,this.len⟩
theorem zqv (hc:X.calm=true) (hg:Gl X "sorted") (hm:X.mg "sorted" = none) (hg2:Gl X "set") (hm2:X.mg "set" = none) (he:PE X e t)
  (s1:starEach [.Call (.Name "set" p1) [e] [] p2] X.env=[(false,eval (.Call (.Name "set" p1) [e] [] p2) X.env)]:=by rfl) (s2:starEach [e] X.env=[(false,eval e X.env)]:=by rfl) :
  PE X (.Call (.Name "sorted" p3) [.Call (.Name "set" p1) [e] [] p2] [] p4) (tSSG t):=by
 intro pins s σ H Q I h
 refine wpAny_Call_Name_kw (zdz I hg hm zlU ?_)
 refine PyProof.Rows.callWith_builtin1 ?_ s1 rfl
 rw [s1]
 refine Calls.spliced_cons ?_
 refine wpAny_Call_Name_kw (zdz I hg2 hm2 zrd ?_)
 refine PyProof.Rows.callWith_type1 ?_ s2 rfl
 rw [s2]
 refine Calls.spliced_cons (thn (he pins s σ H _ I h) fun u s1 ⟨v,H1,I1,r1,a,ns,e1,e2,e3,q⟩=>?_)
 subst e1
 cases r1
 obtain⟨its,i1,i2,hz,hl⟩:=zcM I1 e2 rfl
 have z1:its.toArray.size + 1 < scanBound:=by rw [List.size_toArray,hl];unfold scanBound;lia
 refine Calls.spliced_nil (Sx.set_callG (I1.ok.hd hc) i2 z1 (by simpa using i1) fun h' tk x1 x2 x3=>?_)
 obtain⟨es,ep,tb,x1⟩:=x1
 have dl:=Sx.dd_len ns
 have ez:es.size≤1000:=by
  have:=x1.pm.length_eq
  rw [List.length_map,Array.length_toList] at this
  lia
 refine Calls.spliced_nil (Sx.sortedG (I1.ok.hd hc) x1 (Nat.le_trans ez znQ) fun h2 a c d out ks k1 k2 k3 k4 k5 k6=>?_)
 obtain⟨oS,hoS,_⟩:=x1.ob
 have lt:s1.heap.objs.size < h'.objs.size:=Heap.lt_size hoS
 have k1':h'.objs.size≤a:=k1
 have la:s1.heap.objs.size≤a:=by lia
 have ek:ks=zbU (Sx.dd ns):=zeS (k5.trans (zbr _).symm) k6 (zcE _)
 subst ek
 exact⟨.ref a,_,Inv.laidD (s:=s1) (t':=tk) (d':=d) (o:=.lst ((zbU (Sx.dd ns)).map V.int)) I1 (fun b o q=>k2 b o (x2 b o q)) la ⟨by rw [List.length_map,(zbr _).length_eq];exact Nat.le_trans (by lia) znQ,_,c,zdp k4,k3⟩,rfl,q _ (I1.hok.fresh la)⟩
theorem zh6 (nm:md≠.al) (hc:X.calm=true) (hg:Gl X "sorted") (hm:X.mg "sorted" = none) (hg2:Gl X "set") (hm2:X.mg "set" = none) (he:JE X z md1 F e)
  (s1:starEach [.Call (.Name "set" p1) [e] [] p2] X.env=[(false,eval (.Call (.Name "set" p1) [e] [] p2) X.env)]:=by rfl) (s2:starEach [e] X.env=[(false,eval e X.env)]:=by rfl) :
  JE X z md (eSSG F) (.Call (.Name "sorted" p3) [.Call (.Name "set" p1) [e] [] p2] [] p4):=
 PE.imp (zqv hc hg hm hg2 hm2 (JE.al he) s1 s2) fun σ H Q h=>zcD h fun S ρ t v H1 S1 o _ g1 d q=>by
  unfold cSSG at q
  split at q
  ·rename_i ts0 ts
   cases ea:zbm ts0 with
   | none=>rw [ea] at q;exact (show False from q).elim
   | some ns =>
    rw [ea] at q
    replace q:endE X.K z H1 S1 md Q (.of (if ns.length≤1000 then some (.lst (zad (zbU (Sx.dd ns)))) else none)):=q
    split at q
    ·rename_i le
     obtain⟨_,a,vs,rfl,hS,h1,h2⟩:=zak.mp d
     have ev:=zca h2 ea
     subst ev
     refine ⟨a,ns,rfl,h1,le,zdb (K:=X.K) (md:=md) (ts:=zad (zbU (Sx.dd ns))) g1.dom (zd2 _ _) ?_⟩
     have q':=zei (z:=z) q
     cases md with
     | fu =>
      unfold zbV
      rw [if_pos (by unfold zfH zad;simp [isSc])]
      exact q'
     | sp=>exact q'
     | al=>exact absurd rfl nm
    ·exact (show False from q).elim
  ·exact (show False from q).elim
theorem zh5 (hc:X.calm=true) (hg:Gl X "sorted") (hm:X.mg "sorted" = none) (hg2:Gl X "set") (hm2:X.mg "set" = none) (he:JE X z md1 F e)
  (s1:starEach [.Call (.Name "set" p1) [e] [] p2] X.env=[(false,eval (.Call (.Name "set" p1) [e] [] p2) X.env)]:=by rfl) (s2:starEach [e] X.env=[(false,eval e X.env)]:=by rfl) :
  JE X z md (eSSG F) (.Call (.Name "sorted" p3) [.Call (.Name "set" p1) [e] [] p2] [] p4):=by
 cases md with
 | fu=>exact zh6 (by decide) hc hg hm hg2 hm2 he s1 s2
 | sp=>exact zh6 (by decide) hc hg hm hg2 hm2 he s1 s2
 | al=>exact JE.al (zh6 (md:=.fu) (by decide) hc hg hm hg2 hm2 he s1 s2)
end
end TL
namespace TL
open PySem PySem.Spec L2
open PyProof.Rows hiding St
theorem ziY {X:Cx} {P:Program} {w:World}:zel (CXe P w) X (fun _ _ _=>False):=fun _ _ _ _ _ _ _ h=>by
 obtain⟨_,_,_,_,_,h⟩:=h
 exact h.elim
theorem sz1:1≤sizeLine:=by decide
theorem sz2:2≤sizeLine:=by decide
def spL (K:PySem.W.Frag):Sp:=fun vs H Q _=>∃ (a:Addr) (ns:List Int),vs=[.ref a]∧Scr K H a ns∧ns.length≤63∧∀ H',Q (.bl true) H'
theorem law_fn {P:Program} {w:World} {K:PySem.W.Frag} {mg:Str→Option Value} {base:Heap} {k j:Nat} {f:Addr} {fd:FuncData} {cl:Nat→Addr} {m:List T→Res T} {x:Str} (F:FnOk P w K mg base (CXe P w) k f fd [x] (spT K cl 1 .fu m)) (hk:k≤j)
  (hm:∀ ns:List Int,ns.length≤63→m [.scr ns]=.ok (.sc (.bl true))):FnOk P w K mg base (CXe P w) j f fd [x] (spL K):=
 (F.mono hk).imp fun vs H Q E h=>by
  obtain⟨a,ns,rfl,hs,hl,q⟩:=h
  refine ⟨fun _=>False,[.scr ns],rfl,fun _ z=>z.elim,?_,?_⟩
  ·unfold Dens
   exact⟨[],[],.ref a,[],rfl,rfl,zia.mpr ⟨rfl,a,rfl,hs⟩,by unfold Dens;exact⟨rfl,rfl⟩⟩
  ·rw [hm ns hl]
   intro v H' S' A g
   obtain⟨_,rfl⟩:=zaf.mp g.den
   exact q H'
theorem zb7 {K:PySem.W.Frag} {a c:Value} {b:Bool} (h:PySem.W.exmOne K a c=some b):PySem.W.kitCls K a c=some b:=by
 unfold PySem.W.exmOne at h
 split at h
 ·exact h
 ·cases h
theorem zp4 {K:PySem.W.Frag} {H:Hp} {a:Addr} {ns:List Int} (hO:Only H) (hS:SqL K H a (ns.map V.int)):Scr K H a ns:=by
 rcases hS with (h | h) | h
 ·rcases hO a with q | ⟨o,xs,q⟩
  ·rw [q] at h;cases h
  ·rw [q] at h;cases h
 ·exact .inl h
 ·exact .inr h
theorem walk {l:PySem.W.OpenLaw} {q:Program} {loose:List Str} {XP:(Str→Option Value)→Heap→Prop} {YP:World→Heap→Prop} {d:DefRec} {K:Params→PySem.W.Frag} (hn:l.most=some 63) (hdf:d.params.defaults=[])
  (hY:∀ (w:World) (h:Heap),YP w h→(K w.params).In h)
  (F:∀ (w:World) (mg:Str→Option Value) (fa:Addr) (h:Heap),(K w.params).In h→h.Ns mainGlobals mg→mg d.name=some (.ref fa) →
   ∃ fd:FuncData,(∀ (s:Shared) (u:Value),BindsTo s fd ⟨[u],[]⟩ [("script", u)])∧∀ base:Heap,(K w.params).In base→base.Ns mainGlobals mg→FnOk l.prog w (K w.params) mg base (CXe l.prog w) 12 fa fd ["script"] (spL (K w.params))) :
  PySem.W.WalkO q loose XP YP l.row.toRowW d [] (fun f vs=>PySem.call f vs):=
 L2.walk_of (n:=63) (k:=12) (x := "script") (CX:=fun w=>CXe l.prog w) (sp:=fun w=>spL (K w.params)) hn (by decide) hdf ⟨rfl,by decide,by decide⟩ hY F
  (fun w H a ns hl hO hS=>⟨a,ns,rfl,zp4 hO hS,hl,fun _=>rfl⟩) fun w H s e s' h=>by
   obtain⟨_,_,_,_,_,h⟩:=h
   exact h.elim
theorem zbY {α:Type} {P:List α→Prop} {us:List α} (hl:us.length=1) (h:∀ a,P [a]):P us:=match us,hl with | [a],_=>h a
theorem zcK {α:Type} {P:List α→Prop} {us:List α} (hl:us.length=2) (h:∀ a b,P [a,b]):P us:=match us,hl with | [a,b],_=>h a b
theorem znR {α:Type} {P:List α→Prop} {us:List α} (hl:us.length=3) (h:∀ a b c,P [a,b,c]):P us:=match us,hl with | [a,b,c],_=>h a b c
end TL
namespace TL
open PySem PySem.Spec L2
@[simp] theorem zot (R1 R2:SEnv→SRes) (ρ:SEnv):sSeq R1 R2 ρ=((R1 ρ).then R2):=rfl
@[simp] theorem zrV (md:Md) (M:List Bool) (F:VEnv→Res T) (ρ:SEnv):sRet md M F ρ=((F (view M ρ)).sthen fun t=>.rt md t):=rfl
@[simp] theorem zrU (i:Nat) (M:List Bool) (F:VEnv→Res T) (ρ:SEnv):sSet i M F ρ=((F (view M ρ)).sthen fun t=>if i < ρ.length then .nx (ρ.set i (some (.fu,t))) else .bad):=rfl
@[simp] theorem zrn (md:Md) (i:Nat) (M:List Bool) (F:VEnv→Res T) (ρ:SEnv):zkS md i M F ρ=((F (view M ρ)).sthen fun t=>if i < ρ.length then .nx ((zaz M ρ).set i (some (md,t))) else .bad):=rfl
@[simp] theorem zs2 (M:List Bool) (B:VEnv→Res Bool) (R1 R2:SEnv→SRes) (ρ:SEnv):sIf M B R1 R2 ρ=((B (view M ρ)).sthen fun b=>if b=true then R1 ρ else R2 ρ):=rfl
@[simp] theorem zrq (M:List Bool) (F:VEnv→Res T) (ρ:SEnv):zmm M F ρ=((F (view M ρ)).sthen fun _=>.nx ρ):=rfl
@[simp] theorem zto (g:T→T→Option T) (F1 F2:VEnv→Res T) (ρ:VEnv):eOp g F1 F2 ρ=((F1 ρ).bind fun t=>(F2 ρ).bind fun u=>.of (g t u)):=rfl
@[simp] theorem ztm (g:T→Option T) (F1:VEnv→Res T) (ρ:VEnv):eUn g F1 ρ=((F1 ρ).bind fun t=>.of (g t)):=rfl
@[simp] theorem eB_ap (F:VEnv→Res T) (ρ:VEnv):eB F ρ=((F ρ).bind fun t=>.of (asB t)):=rfl
@[simp] theorem zsU (B1 B2:VEnv→Res Bool) (ρ:VEnv):bAnd B1 B2 ρ=((B1 ρ).bind fun b=>if b=true then B2 ρ else .ok false):=rfl
@[simp] theorem zts (B1 B2:VEnv→Res Bool) (ρ:VEnv):bOr B1 B2 ρ=((B1 ρ).bind fun b=>if b=true then .ok true else B2 ρ):=rfl
@[simp] theorem zsT (B1:VEnv→Res Bool) (ρ:VEnv):bNot B1 ρ=((B1 ρ).bind fun b=>.ok (!b)):=rfl
@[simp] theorem zrI (F1 F2:VEnv→Res T) (ρ:VEnv):vAnd F1 F2 ρ=((F1 ρ).bind fun t=>(Res.of (asB t)).bind fun b=>if b=true then F2 ρ else .ok (.sc (.bl false))):=rfl
@[simp] theorem zrH (F1:VEnv→Res T) (ρ:VEnv):vNot F1 ρ=((F1 ρ).bind fun t=>(Res.of (asB t)).bind fun b=>.ok (.sc (.bl !b))):=rfl
@[simp] theorem eC_ap (v:V) (ρ:VEnv):eC v ρ=(.ok (.sc v)):=rfl
@[simp] theorem zs0  (ρ:VEnv):aNil ρ=(.ok []):=rfl
@[simp] theorem zrG (F:VEnv→Res T) (Fs:VEnv→Res (List T)) (ρ:VEnv):zae F Fs ρ=((F ρ).bind fun t=>(Fs ρ).bind fun ts=>.ok (t :: ts)):=rfl
@[simp] theorem zsO (Fs:VEnv→Res (List T)) (ρ:VEnv):eLst Fs ρ=((Fs ρ).bind fun ts=>.of (ze5 ts)):=rfl
@[simp] theorem zsL (Fs:VEnv→Res (List T)) (ρ:VEnv):eTup Fs ρ=((Fs ρ).bind fun ts=>.of (zgM ts)):=rfl
@[simp] theorem zrA (n:Nat) (m:List T→Res T) (Fs:VEnv→Res (List T)) (ρ:VEnv):zaN n m Fs ρ=((Fs ρ).bind fun ts=>if ts.length=n then m ts else .bad):=rfl
@[simp] theorem ztq (g:List T→Option T) (Fs:VEnv→Res (List T)) (ρ:VEnv):eB1 g Fs ρ=((Fs ρ).bind fun ts=>.of (g ts)):=rfl
@[simp] theorem zsD (F:VEnv→Res T) (ρ:VEnv):iLst F ρ=((F ρ).bind fun t=>.of (asL t)):=rfl
@[simp] theorem zsB (g:List T→Option (List T)) (Fs:VEnv→Res (List T)) (ρ:VEnv):iRng g Fs ρ=((Fs ρ).bind fun ts=>.of (g ts)):=rfl
@[simp] theorem zrz (ix:List (Option Nat)) (I:VEnv→Res (List T)) (gE:T→VEnv→Option VEnv) (F:VEnv→Res T) (ρ:VEnv):zbe ix I gE F ρ=((I ρ).bind fun ts=>(mapL gE F (zbA ix ρ) ts).bind fun us=>.of (ze5 us)):=rfl
@[simp] theorem zr0 (M:List Bool) (I:VEnv→Res (List T)) (gT:T→SEnv→Option SEnv) (B:SEnv→SRes) (ρ:SEnv):sFor M I gT B ρ=((I (view M ρ)).sthen fun ts=>forL gT B ts (zaz M ρ)):=rfl
@[simp] theorem gS_ap (i:Nat) (t:T) (ρ:SEnv):gS i t ρ=(if i < ρ.length then some (ρ.set i (some (.al,t))) else none):=rfl
@[simp] theorem gE_ap (i:Nat) (t:T) (ρ:VEnv):gE i t ρ=(if zg6 ρ i=true then some (ρ.set i (some t)) else none):=rfl
@[simp] theorem zr2 (i:Nat) (md:Md) (M:List Bool) (F:VEnv→Res T) (ρ:SEnv):sApp i md M F ρ=(zc4 i ρ fun m ts=>(F (view M ρ)).sthen fun t=>zhn i md M m ts t ρ):=rfl
@[simp] theorem zr1 (i:Nat) (md:Md) (M:List Bool) (F:VEnv→Res T) (ρ:SEnv):sExt i md M F ρ=(zc4 i ρ fun m ts=>(F (view M ρ)).sthen fun t=>zlK i md M m ts t ρ):=rfl
@[simp] theorem zrZ (i:Nat) (M:List Bool) (F1 F2:VEnv→Res T) (ρ:SEnv):sIns i M F1 F2 ρ=(zc4 i ρ fun m ts=>(F1 (view M ρ)).sthen fun u=>(F2 (view M ρ)).sthen fun t=>zlE i m ts u t ρ):=rfl
@[simp] theorem zrW (i:Nat) (M:List Bool) (F1 F2:VEnv→Res T) (ρ:SEnv):sPut i M F1 F2 ρ=(zc4 i ρ fun m ts=>(F1 (view M ρ)).sthen fun t=>(F2 (view M ρ)).sthen fun u=>zgh i m ts t u ρ):=rfl
@[simp] theorem zrp (i:Nat) (M:List Bool) (F1 F2 F3:VEnv→Res T) (ρ:SEnv):zgT i M F1 F2 F3 ρ=(zc4 i ρ fun m ts=>(F1 (view M ρ)).sthen fun t=>(F2 (view M ρ)).sthen fun u=>(F3 (view M ρ)).no.sthen fun w=>zee i m ts t u w ρ):=rfl
@[simp] theorem zdW (i:Nat) (M:List Bool) (F1 F2:VEnv→Res T) (ρ:SEnv):zgg i M F1 F2 ρ=(hasL i ρ ((F1 (view M ρ)).sthen fun u=>(F2 (view M ρ)).no.sthen fun w=>zfz i ρ u fun j1 _ _=>zfz i ρ w fun j2 ts us2=>match ze8 us2 with
 | some v=>match (ts.set j2 (.lst us2.dropLast))[j1]? with
  | some (.lst us1)=>if us1.length < sizeLine then .nx (ρ.set i (some (.fu,.lst ((ts.set j2 (.lst us2.dropLast)).set j1 (.lst (us1 ++ [.sc v])))))) else .bad
  | _=>.bad
 | none=>.bad)):=rfl
@[simp] theorem zsy (F1 F2:VEnv→Res T) (ρ:VEnv):iZip F1 F2 ρ=((F1 ρ).bind fun t=>(F2 ρ).bind fun u=>.of ((asL t).bind fun xs=>(asL u).bind fun ys=>some (zipT xs ys))):=rfl
@[simp] theorem zrX (i j:Nat) (M:List Bool) (F1 F2:VEnv→Res T) (ρ:SEnv):sPar i j M F1 F2 ρ=((F1 (view M ρ)).sthen fun t=>(F2 (view M ρ)).sthen fun u=>zmA i j t u ρ):=rfl
@[simp] theorem zp8 (c:Nat) (M:List Bool) (U:VEnv→Res Unit) (ρ:SEnv):zfO c M U ρ=((U (view M ρ)).sthen fun _=>.exc c):=rfl
@[simp] theorem zs1  (ρ:VEnv):uOk ρ=(.ok ()):=rfl
@[simp] theorem zrJ (F:VEnv→Res T) (U:VEnv→Res Unit) (ρ:VEnv):uInt F U ρ=((F ρ).bind fun t=>match t with
 | .sc (.int i)=>if 0≤i∧i < 100 then U ρ else .bad
 | _=>.bad):=rfl
@[simp] theorem zru  (ρ:VEnv):zlg ρ=(.ok none):=rfl
@[simp] theorem zrs (F:VEnv→Res T) (ρ:VEnv):zgY F ρ=((F ρ).bind fun t=>(Res.of (asI t)).bind fun i=>.ok (some i)):=rfl
@[simp] theorem ztn (md:Md) (F:VEnv→Res T) (Lo Hi:OEnv) (ρ:VEnv):eSl md F Lo Hi ρ=((F ρ).bind fun t=>(Lo ρ).bind fun lo=>(Hi ρ).bind fun hi=>.of ((asL t).bind fun ts=>zbV md (cutT ts lo hi))):=rfl
@[simp] theorem zsN (md:Md) (F:VEnv→Res T) (ρ:VEnv):eRev md F ρ=((F ρ).bind fun t=>.of ((asL t).bind fun ts=>zbV md ts.reverse)):=rfl
@[simp] theorem ztp (g:List T→Option (List T)) (Fs:VEnv→Res (List T)) (ρ:VEnv):eLR g Fs ρ=((Fs ρ).bind fun ts=>.of ((g ts).bind fun us=>if us.length≤1000000 then some (.lst us) else none)):=rfl
@[simp] theorem zq4 (g g':T→T→Option T) (F1 F2 F3:VEnv→Res T) (ρ:VEnv):zjn g g' F1 F2 F3 ρ=((F1 ρ).bind fun t=>(F2 ρ).bind fun u=>(Res.of (g t u)).bind fun r=>(Res.of (asB r)).bind fun k=>if k=true then (F3 ρ).bind fun w=>.of (g' u w) else .ok (.sc (.bl false))):=rfl
@[simp] theorem zsA (F:VEnv→Res T) (ρ:VEnv):iSeq F ρ=((F ρ).bind fun t=>.of (asS t)):=rfl
@[simp] theorem zsI  (ρ:Nat):hBad ρ=(.bad):=rfl
@[simp] theorem zrx (cs:List Nat) (c':Nat) (md:Md) (t:T) (Hd:Nat→SRes) (c:Nat):zmR cs c' md t Hd c=(if cs.contains c=true then (if subC c c'=true then .rt md t else Hd c) else .bad):=rfl
@[simp] theorem zrT (R:SEnv→SRes) (Hd:Nat→SRes) (ρ:SEnv):sTry R Hd ρ=(match R ρ with
 | .exc c=>match Hd c with
  | .rt md t=>.rt md t
  | _=>.bad
 | r=>r):=rfl
@[simp] theorem zrS (is:List Nat) (M:List Bool) (F:VEnv→Res T) (ρ:SEnv):sUnp is M F ρ=((F (view M ρ)).sthen fun t=>match t with
 | .tup ts=>match gsT is ts (zaz M ρ) with
  | some ρ'=>.nx ρ'
  | none=>.bad
 | _=>.bad):=rfl
@[simp] theorem zs8 (i j:Nat) (t:T) (ρ:SEnv):gS2 i j t ρ=(match t with
 | .tup [x,y]=>(gS i x ρ).bind (gS j y)
 | _=>none):=rfl
@[simp] theorem zsM (F:VEnv→Res T) (ρ:VEnv):eSSG F ρ=((F ρ).bind fun t=>.of (cSSG t)):=rfl
@[simp] theorem zou (i p:Nat) (v:V) (ρ:SEnv):zeu i p v ρ=(if p=i then .bad else if p < ρ.length then (match ρ[i]? with
 | some (some (.fu,.tup ts))=>(match zbn v ts with | some ts'=>.nx ((ρ.set p none).set i (some (.fu,.tup ts'))) | none=>.bad)
 | _=>.bad) else .bad):=rfl
end TL
namespace TL
open PySem PySem.Spec L2
noncomputable def zai (b:List (List Int)):List T:=b.map fun r=>.lst (zad r)
@[simp] theorem zrj (ρ:SEnv):view [] ρ=[]:=rfl
@[simp] theorem zpV (M:List Bool):view M []=[]:=by cases M <;> (unfold view;rfl)
@[simp] theorem zpW (b:Bool) (bs:List Bool) (s:Option (Md×T)) (ρ:SEnv):view (b :: bs) (s :: ρ)=(if b=true then s.map (·.2) else none) :: view bs ρ:=rfl
@[simp] theorem zpS (ρ:SEnv):zaz [] ρ=ρ:=rfl
@[simp] theorem zpu (b:Bool) (bs:List Bool) (s:Option (Md×T)) (ρ:SEnv):zaz (b :: bs) (s :: ρ)=(if b=true then s.map (fun p=>(Md.al,p.2)) else s) :: zaz bs ρ:=rfl
@[simp] theorem zq0 (t:T) (md:Md):fin md (.rt md t)=.ok t:=if_pos (.inl rfl)
@[simp] theorem zta (t:T) (m:Md):fin .al (.rt m t)=.ok t:=if_pos (.inr (.inl rfl))
@[simp] theorem zs9 (md:Md) (ρ:SEnv):fin md (.nx ρ)=.ok (.sc .non):=rfl
@[simp] theorem zsK (md:Md) (c:Nat):fin md (.exc c)=.exc c:=rfl
@[simp] theorem zrm (N:List Str) (a:T):zaB N [a]=some (.al,a) :: List.replicate (N.length - 1) none:=rfl
@[simp] theorem zrl (N:List Str) (a b:T):zaB N [a,b]=some (.al,a) :: some (.al,b) :: List.replicate (N.length - 2) none:=rfl
@[simp] theorem zrk (N:List Str) (a b c:T):zaB N [a,b,c]=some (.al,a) :: some (.al,b) :: some (.al,c) :: List.replicate (N.length - 3) none:=rfl
@[simp] theorem ztl (t:T) (ρ:VEnv):eVar 0 (some t :: ρ)=.ok t:=rfl
@[simp] theorem ztb (i:Nat) (o:Option T) (ρ:VEnv):eVar (i + 1) (o :: ρ)=eVar i ρ:=rfl
@[simp] theorem ztk (o:Option T) (ρ:VEnv):eVar 1 (o :: ρ)=eVar 0 ρ:=rfl
@[simp] theorem ztj (o o1:Option T) (ρ:VEnv):eVar 2 (o :: o1 :: ρ)=eVar 0 ρ:=rfl
@[simp] theorem zti (o o1 o2:Option T) (ρ:VEnv):eVar 3 (o :: o1 :: o2 :: ρ)=eVar 0 ρ:=rfl
@[simp] theorem zth (o o1 o2 o3:Option T) (ρ:VEnv):eVar 4 (o :: o1 :: o2 :: o3 :: ρ)=eVar 0 ρ:=rfl
@[simp] theorem ztg (o o1 o2 o3 o4:Option T) (ρ:VEnv):eVar 5 (o :: o1 :: o2 :: o3 :: o4 :: ρ)=eVar 0 ρ:=rfl
@[simp] theorem ztf (o o1 o2 o3 o4 o5:Option T) (ρ:VEnv):eVar 6 (o :: o1 :: o2 :: o3 :: o4 :: o5 :: ρ)=eVar 0 ρ:=rfl
@[simp] theorem zte (o o1 o2 o3 o4 o5 o6:Option T) (ρ:VEnv):eVar 7 (o :: o1 :: o2 :: o3 :: o4 :: o5 :: o6 :: ρ)=eVar 0 ρ:=rfl
@[simp] theorem ztd (o o1 o2 o3 o4 o5 o6 o7:Option T) (ρ:VEnv):eVar 8 (o :: o1 :: o2 :: o3 :: o4 :: o5 :: o6 :: o7 :: ρ)=eVar 0 ρ:=rfl
@[simp] theorem ztc (o o1 o2 o3 o4 o5 o6 o7 o8:Option T) (ρ:VEnv):eVar 9 (o :: o1 :: o2 :: o3 :: o4 :: o5 :: o6 :: o7 :: o8 :: ρ)=eVar 0 ρ:=rfl
@[simp] theorem zro (i:Nat) (ρ:SEnv):zdV i ρ=(match ρ[i]? with | some (some (m,t))=>.rt m t | _=>.bad):=rfl
@[simp] theorem oI_ap (g:Int→Int→Option V) (i j:Int):oI g (.sc (.int i)) (.sc (.int j))=(g i j).map .sc:=rfl
@[simp] theorem zsF (i j:Int):iAdd i j=some (.int (i + j)):=rfl
@[simp] theorem zsz (i j:Int):iSub i j=some (.int (i - j)):=rfl
@[simp] theorem zs4 (i j:Int):iLt i j=some (.bl (decide (i < j))):=rfl
@[simp] theorem zs5 (i j:Int):iLe i j=some (.bl (decide (i≤j))):=rfl
@[simp] theorem zs6 (i j:Int):iGt i j=some (.bl (decide (j < i))):=rfl
theorem zbR {i j:Int} (h:(-(2 ^ 64) < i∧i < 2 ^ 64)∨(-(2 ^ 64) < j∧j < 2 ^ 64)):iMul i j=some (.int (i * j)):=if_pos h
@[simp] theorem zlD:zad []=[]:=rfl
@[simp] theorem zb8 (i:Int) (l:List Int):zad (i :: l)=.sc (.int i) :: zad l:=rfl
@[simp] theorem za1 (l:List Int):(zad l).length=l.length:=by unfold zad;simp
theorem zcN (a b:List Int):zad (a ++ b)=zad a ++ zad b:=by unfold zad;simp
@[simp] theorem zkh (l:List Int):zfH (zad l)=true:=by unfold zfH zad;simp [isSc]
@[simp] theorem zkT:zai []=[]:=rfl
@[simp] theorem zbG (r:List Int) (l:List (List Int)):zai (r :: l)=.lst (zad r) :: zai l:=rfl
@[simp] theorem zbP (l:List (List Int)):(zai l).length=l.length:=by unfold zai;simp
theorem zgy (l:List Int) (i:Int):atI (zad l) i=(atI l i).map fun n=>.sc (.int n):=zif _ _ _
theorem zm7 (l:List (List Int)) (i:Int):atI (zai l) i=(atI l i).map fun r=>.lst (zad r):=zif _ _ _
theorem zd7 {α:Type} {l:List α} {i:Int} {x:α} (h0:0≤i) (h:l[i.toNat]? = some x):atI l i=some x:=by
 unfold atI ixN
 have:i.toNat < l.length:=(List.getElem?_eq_some_iff.mp h).1
 rw [if_pos h0,if_pos (by lia)]
 exact h
theorem zdG:∀ a b:List Int,eqTs (zad a) (zad b)=decide (a=b)
 | [],[]=>by unfold eqTs;rfl
 | [],b :: bs=>by unfold eqTs;rfl
 | a :: as,[]=>by unfold eqTs;rfl
 | a :: as,b :: bs=>by
  rw [zb8,zb8];unfold eqTs;rw [zdG as bs]
  have:eqT (.sc (.int a)) (.sc (.int b))=decide (a=b):=by unfold eqT eqV;by_cases h:a=b <;> simp [h]
  rw [this]
  by_cases h1:a=b <;> by_cases h2:as=bs <;> simp [h1,h2]
theorem zha:∀ a b:List (List Int),eqTs (zai a) (zai b)=decide (a=b)
 | [],[]=>by unfold eqTs;rfl
 | [],b :: bs=>by unfold eqTs;rfl
 | a :: as,[]=>by unfold eqTs;rfl
 | a :: as,b :: bs=>by
  rw [zbG,zbG];unfold eqTs;rw [zha as bs]
  have:eqT (.lst (zad a)) (.lst (zad b))=decide (a=b):=by unfold eqT;exact zdG a b
  rw [this]
  by_cases h1:a=b <;> by_cases h2:as=bs <;> simp [h1,h2]
@[simp] theorem zgi (d:Nat) (i:Int):okT d (.sc (.int i))=true:=by unfold okT;rfl
@[simp] theorem zev (d:Nat) (l:List Int):okT (d + 1) (.lst (zad l))=true:=by
 unfold okT zad;simp
@[simp] theorem zi1 (d:Nat) (l:List (List Int)):okT (d + 2) (.lst (zai l))=true:=by
 unfold okT zai;simp
theorem zgk (a b:List Int):oEq (.lst (zad a)) (.lst (zad b))=some (.sc (.bl (decide (a=b)))):=by
 unfold oEq;rw [if_pos ⟨zev 4 a,zev 4 b⟩];unfold eqT;rw [zdG]
theorem zgj (a b:List Int):oNe (.lst (zad a)) (.lst (zad b))=some (.sc (.bl (!decide (a=b)))):=by
 unfold oNe;rw [if_pos ⟨zev 4 a,zev 4 b⟩];unfold eqT;rw [zdG]
theorem zlL (a b:Int):eqT (.sc (.int a)) (.sc (.int b))=decide (a=b):=by unfold eqT eqV;by_cases h:a=b <;> simp [h]
@[simp] theorem zsj (a b:Int):oEq (.sc (.int a)) (.sc (.int b))=some (.sc (.bl (decide (a=b)))):=by
 unfold oEq;rw [if_pos ⟨zgi 5 a,zgi 5 b⟩,zlL]
@[simp] theorem zsf (a b:Int):oNe (.sc (.int a)) (.sc (.int b))=some (.sc (.bl (!decide (a=b)))):=by
 unfold oNe;rw [if_pos ⟨zgi 5 a,zgi 5 b⟩,zlL]
noncomputable def rngZ (lo:Int) (n:Nat):List Int:=(List.range n).map fun (k:Nat)=>lo + (k:Int)
theorem zhS (lo:Int) (n:Nat):rngI lo n=zad (rngZ lo n):=by unfold rngI zad rngZ;rw [List.map_map];rfl
@[simp] theorem ziT (lo:Int) (n:Nat):(rngZ lo n).length=n:=by unfold rngZ;simp
theorem zkV {j:Int} (h:-(2 ^ 62)≤j∧j < 2 ^ 62):rng1 [.sc (.int j)]=some (zad (rngZ 0 j.toNat)):=by rw [← zhS];exact if_pos h
theorem zov {i j:Int} (h:-(2 ^ 62)≤i∧i < 2 ^ 62∧-(2 ^ 62)≤j∧j < 2 ^ 62):rng2 [.sc (.int i),.sc (.int j)]=some (zad (rngZ i (j - i).toNat)):=by rw [← zhS];exact if_pos h
theorem zjM {n:Nat} (h:n≤1000):n≤sizeLine:=Nat.le_trans h zdy
theorem zhK {n:Nat} (h:n < 1000):n < sizeLine:=zkM (by lia)
@[simp] theorem zsr {ts:List T} (h:ts.length≤1000):ze5 ts=some (.lst ts):=if_pos (zjM h)
@[simp] theorem zrK {ts:List T} (h:ts.length≤1000):zgM ts=some (.tup ts):=if_pos (zjM h)
@[simp] theorem zs7 {i j:Int} (h:0 < j) (h2:j < 1073741824):iDiv i j=some (.int (i / j)):=if_pos ⟨h,h2⟩
@[simp] theorem zs3 {i j:Int} (h:0 < j):iMod i j=some (.int (i % j)):=if_pos h
@[simp] theorem zg8 {i j:Int} (h:(-(2 ^ 64) < i∧i < 2 ^ 64)∨(-(2 ^ 64) < j∧j < 2 ^ 64)):iMul i j=some (.int (i * j)):=if_pos h
@[simp] theorem zrY (ρ:SEnv):sNil ρ=.nx ρ:=rfl
@[simp] theorem zsi (ts:List T) (i:Int):oIx (.lst ts) (.sc (.int i))=atI ts i:=rfl
@[simp] theorem zsg (ts:List T) (i:Int):oIx (.tup ts) (.sc (.int i))=atI ts i:=rfl
@[simp] theorem zsh (ns:List Int) (i:Int):oIx (.scr ns) (.sc (.int i))=(atI ns i).map fun n=>.sc (.int n):=rfl
@[simp] theorem zrD (ts:List T):cLen [.lst ts]=some (.sc (.int ts.length)):=rfl
@[simp] theorem zrB (ts:List T):cLen [.tup ts]=some (.sc (.int ts.length)):=rfl
@[simp] theorem zrC (ts:List Int):cLen [.scr ts]=some (.sc (.int ts.length)):=rfl
@[simp] theorem zn0 (l:List Int):zd4 [.lst (zad l)]=some (.lst (zad (zbU l))):=by unfold zd4;simp
@[simp] theorem zqa {j:Int} (h:-4611686018427387904≤j) (h2:j < 4611686018427387904):rng1 [.sc (.int j)]=some (zad (rngZ 0 j.toNat)):=zkV ⟨h,h2⟩
@[simp] theorem zri (i:Nat) (ρ:SEnv) (k:Md→List T→SRes):zc4 i ρ k=(match ρ[i]? with | some (some (m,.lst ts))=>k m ts | _=>.bad):=rfl
@[simp] theorem zrE (ts:List T):zbV .sp ts=some (.lst ts):=rfl
@[simp] theorem zgz (l:List Int):zbV .fu (zad l)=some (.lst (zad l)):=if_pos (zkh l)
@[simp] theorem zrf:zbV .fu []=some (.lst []):=rfl
@[simp] theorem zrc (md:Md) (ts:List T):zeq md [.lst ts]=zbV md ts:=rfl
@[simp] theorem zry (gT:T→SEnv→Option SEnv) (B:SEnv→SRes) (ρ:SEnv):forL gT B [] ρ=.nx ρ:=rfl
theorem zdD (gT:T→SEnv→Option SEnv) (B:SEnv→SRes) (t:T) (ts:List T) (ρ:SEnv):forL gT B (t :: ts) ρ=(match gT t ρ with | some ρ1=>(B ρ1).then (forL gT B ts) | none=>.bad):=rfl
theorem zjg {gT:T→SEnv→Option SEnv} {B:SEnv→SRes} (P:Nat→SEnv→Prop):∀ (ts:List T) (ρ:SEnv) (k:Nat),P k ρ →
  (∀ (j:Nat) (t:T) (ρ:SEnv),ts[j]? = some t→P (k + j) ρ→∃ ρ1,gT t ρ=some ρ1∧∃ ρ2,B ρ1=.nx ρ2∧P (k + j + 1) ρ2)→∃ ρ',forL gT B ts ρ=.nx ρ'∧P (k + ts.length) ρ'
 | [],ρ,k,h,_=>⟨ρ,rfl,h⟩
 | t :: ts,ρ,k,h,hs=>by
  obtain⟨ρ1,e1,ρ2,e2,h2⟩:=hs 0 t ρ rfl h
  obtain⟨ρ',e3,h3⟩:=zjg (gT:=gT) (B:=B) P ts ρ2 (k + 1) h2 fun j u ρ q hP=>by
   have:=hs (j + 1) u ρ q (by rw [← Nat.add_assoc,Nat.add_right_comm];exact hP)
   rw [← Nat.add_assoc k j 1,Nat.add_right_comm k j 1] at this
   exact this
  refine ⟨ρ',?_,?_⟩
  ·rw [zdD,e1]
   show (B ρ1).then _=_
   rw [e2,SRes.then_nx,e3]
  ·rw [List.length_cons,← Nat.add_assoc,Nat.add_right_comm];exact h3
theorem zcq {gT:T→SEnv→Option SEnv} {B:SEnv→SRes} (P:Nat→SEnv→Prop) (n:Nat) (ρ:SEnv) (h0:P 0 ρ)
  (hs:∀ (j:Nat) (ρ:SEnv),j < n→P j ρ→∃ ρ1,gT (.sc (.int j)) ρ=some ρ1∧∃ ρ2,B ρ1=.nx ρ2∧P (j + 1) ρ2):∃ ρ',forL gT B (zad (rngZ 0 n)) ρ=.nx ρ'∧P n ρ':=by
 obtain⟨ρ',h1,h2⟩:=zjg P (zad (rngZ 0 n)) ρ 0 h0 fun j t ρ e hP=>by
  rw [← zhS] at e
  obtain⟨hj,rfl⟩:=ziU e
  rw [Nat.zero_add] at hP ⊢
  rw [Int.zero_add]
  exact hs j ρ hj hP
 refine ⟨ρ',h1,?_⟩
 simpa using h2
theorem zmP (i:Nat) (m:Md) (ts:List T) (k:Int) (w:V) (ρ:SEnv):zlE i m ts (.sc (.int k)) (.sc w) ρ=if m=.fu∧0≤k∧k≤ts.length∧ts.length < sizeLine then .nx (ρ.set i (some (.fu,.lst (ts.take k.toNat ++ .sc w :: ts.drop k.toNat)))) else .bad:=rfl
theorem zfS (k:Nat) (l:List Int):(zad l).take k=zad (l.take k):=by unfold zad;simp
theorem zfT (k:Nat) (l:List Int):(zad l).drop k=zad (l.drop k):=by unfold zad;simp
@[simp] theorem zpQ {i:Nat} {l:List Int} {k w:Int} {ρ:SEnv} (h0:0≤k) (h1:k≤l.length) (h2:l.length < 1000):zlE i .fu (zad l) (.sc (.int k)) (.sc (.int w)) ρ=.nx (ρ.set i (some (.fu,.lst (zad (l.take k.toNat ++ w :: l.drop k.toNat))))):=by
 rw [zmP,if_pos ⟨rfl,h0,by rw [za1];exact h1,by rw [za1];exact zhK h2⟩,zcN,zb8,zfS,zfT]
theorem zg2 {F:VEnv→Res T} {ρ:VEnv} {gE:T→VEnv→Option VEnv} {f:Int→Int}:∀ (l:List Int),(∀ x∈l,∃ ρ1,gE (.sc (.int x)) ρ=some ρ1∧F ρ1=.ok (.sc (.int (f x))))→mapL gE F ρ (zad l)=.ok (zad (l.map f))
 | [],_=>rfl
 | x :: l,h=>by
  obtain⟨ρ1,e1,e2⟩:=h x (by simp)
  rw [zb8];unfold mapL
  rw [e1,Res.of_some,Res.bind_ok,e2,Res.no_ok,Res.bind_ok,zg2 l fun y hy=>h y (by simp [hy])]
  rfl
theorem zcX {α β:Type} {F:VEnv→Res T} {ρ:VEnv} {gE:T→VEnv→Option VEnv} {f:α→β} (ea:α→T) (eb:β→T):∀ (l:List α),(∀ x∈l,∃ ρ1,gE (ea x) ρ=some ρ1∧F ρ1=.ok (eb (f x)))→mapL gE F ρ (l.map ea)=.ok ((l.map f).map eb)
 | [],_=>rfl
 | x :: l,h=>by
  obtain⟨ρ1,e1,e2⟩:=h x (by simp)
  rw [List.map_cons];unfold mapL
  rw [e1,Res.of_some,Res.bind_ok,e2,Res.no_ok,Res.bind_ok,zcX ea eb l fun y hy=>h y (by simp [hy])]
  rfl
@[simp] theorem zpR (ρ:VEnv):zbA [] ρ=[]:=rfl
@[simp] theorem zpl (ix:List (Option Nat)) (ρ:VEnv):zbA (none :: ix) ρ=none :: zbA ix ρ:=rfl
@[simp] theorem zpk (j:Nat) (ix:List (Option Nat)) (ρ:VEnv):zbA (some j :: ix) ρ=(ρ[j]?).join :: zbA ix ρ:=rfl
@[simp] theorem zrw (ρ:VEnv):zg6 (none :: ρ) 0=true:=rfl
noncomputable def at0 (l:List Int) (i:Nat):Int:=l.getD i 0
noncomputable def zat (b:List (List Int)) (i:Nat):List Int:=b.getD i []
@[simp] theorem zsV {b:List (List Int)} {i:Int} (h0:0≤i) (h1:i < b.length):atI (zai b) i=some (.lst (zad (zat b i.toNat))):=by
 have h:i.toNat < b.length:=by lia
 rw [zm7,zd7 h0 (List.getElem?_eq_getElem h)]
 simp [zat,List.getD,h]
@[simp] theorem zie {l:List Int} {i:Int} (h0:0≤i) (h1:i < l.length):atI (zad l) i=some (.sc (.int (at0 l i.toNat))):=by
 have h:i.toNat < l.length:=by lia
 rw [zgy,zd7 h0 (List.getElem?_eq_getElem h)]
 simp [at0,List.getD,h]
noncomputable def cutZ {α:Type} (l:List α) (lo hi:Option Int):List α:=(l.drop (HT.sIx l.length 0 lo)).take (HT.sIx l.length l.length hi - HT.sIx l.length 0 lo)
@[simp] theorem zq8 (l:List Int) (lo hi:Option Int):cutT (zad l) lo hi=zad (cutZ l lo hi):=by unfold cutT cutZ;rw [za1,zfT,zfS]
theorem zjW (k:Nat) (l:List (List Int)):(zai l).take k=zai (l.take k):=by unfold zai;simp
theorem zjX (k:Nat) (l:List (List Int)):(zai l).drop k=zai (l.drop k):=by unfold zai;simp
theorem zgU (a b:List (List Int)):zai (a ++ b)=zai a ++ zai b:=by unfold zai;simp
@[simp] theorem zq7 (l:List (List Int)) (lo hi:Option Int):cutT (zai l) lo hi=zai (cutZ l lo hi):=by unfold cutT cutZ;rw [zbP,zjX,zjW]
theorem ze4 {F:VEnv→Res T} {ρ:VEnv} {gE:T→VEnv→Option VEnv} (f:Int→List Int) (l:List Int) (h:∀ x∈l,∃ ρ1,gE (.sc (.int x)) ρ=some ρ1∧F ρ1=.ok (.lst (zad (f x)))):mapL gE F ρ (zad l)=.ok (zai (l.map f)):=
 zcX (fun x=>.sc (.int x)) (fun r=>.lst (zad r)) l h
theorem ze3 {F:VEnv→Res T} {ρ:VEnv} {gE:T→VEnv→Option VEnv} (f:List Int→List Int) (l:List (List Int)) (h:∀ x∈l,∃ ρ1,gE (.lst (zad x)) ρ=some ρ1∧F ρ1=.ok (.lst (zad (f x)))):mapL gE F ρ (zai l)=.ok (zai (l.map f)):=
 zcX (fun r=>.lst (zad r)) (fun r=>.lst (zad r)) l h
theorem zgo {F:VEnv→Res T} {ρ:VEnv} {gE:T→VEnv→Option VEnv} (f:List Int→Int) (l:List (List Int)) (h:∀ x∈l,∃ ρ1,gE (.lst (zad x)) ρ=some ρ1∧F ρ1=.ok (.sc (.int (f x)))):mapL gE F ρ (zai l)=.ok (zad (l.map f)):=
 zcX (fun r=>.lst (zad r)) (fun x=>.sc (.int x)) l h
theorem zcm {F:VEnv→Res T} {ρ:VEnv} {gE:T→VEnv→Option VEnv} (f:Int→Int) (l:List Int) (h:∀ x∈l,∃ ρ1,gE (.sc (.int x)) ρ=some ρ1∧F ρ1=.ok (.sc (.int (f x)))):mapL gE F ρ (zad l)=.ok (zad (l.map f)):=zg2 l h
theorem zbX {n:Nat} {x:Int} (h:x∈rngZ 0 n):0≤x∧x < n:=by
 unfold rngZ at h
 obtain⟨k,hk,rfl⟩:=List.mem_map.mp h
 have:=List.mem_range.mp hk
 lia
structure Sq (n:Nat) (b:List (List Int)):Prop where
 len:b.length=n
 row:∀ r∈b,r.length=n
theorem Sq.get {n:Nat} {b:List (List Int)} (h:Sq n b) {i:Nat} (hi:i < n):(zat b i).length=n:=by
 have hi':i < b.length:=by rw [h.len];exact hi
 simp [zat,List.getD,hi']
 exact h.row _ (List.getElem_mem hi')
theorem Sq.map {n:Nat} {l:List Int} {f:Int→List Int} (hl:l.length=n) (hf:∀ x∈l,(f x).length=n):Sq n (l.map f):=⟨by simpa using hl,fun r hr=>by obtain⟨x,hx,rfl⟩:=List.mem_map.mp hr;exact hf x hx⟩
theorem Sq.mapR {n:Nat} {b:List (List Int)} {f:List Int→List Int} (h:Sq n b) (hf:∀ x∈b,(f x).length=n):Sq n (b.map f):=⟨by simpa using h.len,fun r hr=>by obtain⟨x,hx,rfl⟩:=List.mem_map.mp hr;exact hf x hx⟩
@[simp] theorem zmn {n:Nat} (h:n≤1000):rng1 [.sc (.int (n:Int))]=some (zad (rngZ 0 n)):=by
 rw [zkV ⟨by lia,by lia⟩];simp
theorem zg7 (l:List Int) (j:Nat) (x:Int):(zad l).set j (.sc (.int x))=zad (l.set j x):=by unfold zad;rw [List.map_set]
theorem zds (b:List (List Int)) (j:Nat) (r:List Int):(zai b).set j (.lst (zad r))=zai (b.set j r):=by unfold zai;rw [List.map_set]
@[simp] theorem zcV {i:Nat} {l:List Int} {x k:Int} {ρ:SEnv} (h0:0≤k) (h1:k < l.length):zgh i .fu (zad l) (.sc (.int x)) (.sc (.int k)) ρ=.nx (ρ.set i (some (.fu,.lst (zad (l.set k.toNat x))))):=by
 unfold zgh
 have:ixN (zad l).length k=some k.toNat:=by unfold ixN;rw [za1,if_pos h0,if_pos h1]
 simp only [this]
 rw [if_pos trivial,zg7]
@[simp] theorem zpM {i:Nat} {b:List (List Int)} {r:List Int} {k:Int} {ρ:SEnv} (h0:0≤k) (h1:k < b.length):zgh i .fu (zai b) (.lst (zad r)) (.sc (.int k)) ρ=.nx (ρ.set i (some (.fu,.lst (zai (b.set k.toNat r))))):=by
 unfold zgh
 have:ixN (zai b).length k=some k.toNat:=by unfold ixN;rw [zbP,if_pos h0,if_pos h1]
 simp only [this]
 rw [if_pos trivial,zds]
theorem ziV (n:Nat) (a:Int):repT n [.sc (.int a)]=zad (List.replicate n a):=by
 unfold repT zad
 induction n with
 | zero=>rfl
 | succ n ih=>rw [List.replicate_succ,List.flatten_cons,ih,List.replicate_succ];rfl
@[simp] theorem zrt {n:Nat} {a:Int} (h:n≤1000):oRep .fu (.lst [.sc (.int a)]) (.sc (.int (n:Int)))=some (.lst (zad (List.replicate n a))):=by
 unfold oRep
 simp only []
 rw [if_pos ⟨by lia,by lia,by rw [Int.toNat_natCast,List.length_singleton,Nat.one_mul];exact zjM h⟩,Int.toNat_natCast,ziV,zgz]
theorem zcj {i:Nat} {b:List (List Int)} {x k j:Int} {ρ:SEnv} (h0:0≤k) (h1:k < b.length) (h2:0≤j) (h3:j < (zat b k.toNat).length) :
  zee i .fu (zai b) (.sc (.int x)) (.sc (.int k)) (.sc (.int j)) ρ=.nx (ρ.set i (some (.fu,.lst (zai (b.set k.toNat ((zat b k.toNat).set j.toNat x)))))):=by
 unfold zee
 have hk:k.toNat < b.length:=by lia
 have e1:ixN (zai b).length k=some k.toNat:=by unfold ixN;rw [zbP,if_pos h0,if_pos h1]
 have e2:(zai b)[k.toNat]? = some (.lst (zad (zat b k.toNat))):=by unfold zai;rw [List.getElem?_map,List.getElem?_eq_getElem hk];simp [zat,List.getD,hk]
 have e3:ixN (zad (zat b k.toNat)).length j=some j.toNat:=by unfold ixN;rw [za1,if_pos h2,if_pos h3]
 simp only [e1,e2,e3]
 rw [if_pos trivial,zg7,zds]
theorem Sq.put {n:Nat} {b:List (List Int)} (h:Sq n b) {i j:Nat} {x:Int}:Sq n (b.set i ((zat b i).set j x)):=by
 by_cases hi:i < n
 ·refine ⟨by rw [List.length_set];exact h.len,fun r hr=>?_⟩
  rcases List.mem_or_eq_of_mem_set hr with hr | rfl
  ·exact h.row r hr
  ·rw [List.length_set];exact h.get hi
 ·rw [List.set_eq_of_length_le (by rw [h.len];lia)];exact h
structure Ord (n:Nat) (o:List Int):Prop where
 len:o.length=n
 rng:∀ x∈o,0≤x∧x < n
theorem Ord.get {n:Nat} {o:List Int} (h:Ord n o) {i:Nat} (hi:i < n):0≤at0 o i∧at0 o i < n:=by
 have hi':i < o.length:=by rw [h.len];exact hi
 simp only [at0,List.getD,List.getElem?_eq_getElem hi',Option.getD_some]
 exact h.rng _ (List.getElem_mem hi')
theorem Ord.set {n:Nat} {o:List Int} (h:Ord n o) (i:Nat) {x:Int} (h0:0≤x) (h1:x < n):Ord n (o.set i x):=
 ⟨by rw [List.length_set];exact h.len,fun y hy=>by rcases List.mem_or_eq_of_mem_set hy with hy | rfl;exact h.rng y hy;exact⟨h0,h1⟩⟩
@[simp] theorem zrF {i:Nat} {M:List Bool} {l:List Int} {x:Int} {ρ:SEnv} (h:l.length < 1000):zhn i .fu M .fu (zad l) (.sc (.int x)) ρ=.nx (ρ.set i (some (.fu,.lst (zad (l ++ [x]))))):=by
 unfold zhn
 rw [if_pos (by rw [za1];exact zhK h),if_pos ⟨rfl,rfl⟩,zcN];rfl
theorem zl1 {i:Nat} {M:List Bool} {m:Md} {b:List (List Int)} {r:List Int} {ρ:SEnv} (h:b.length < 1000) (hm:m≠.al) (hM:M[i]?≠some true):zhn i .al M m (zai b) (.lst (zad r)) ρ=.nx ((zaz M ρ).set i (some (.sp,.lst (zai (b ++ [r]))))):=by
 unfold zhn
 rw [if_pos (by rw [zbP];exact zhK h),if_neg (by simp),if_neg (by simp [hm,hM]),zgU];rfl
@[simp] theorem zq3 (l:List Int):zbV .fu (zad l).reverse=some (.lst (zad l.reverse)):=by
 have:(zad l).reverse=zad l.reverse:=by unfold zad;rw [List.map_reverse]
 rw [this,zgz]
theorem zn2 {l:List Int} {i:Int} (h0:0≤i) (h1:i < l.length):∃ x∈l,atI (zad l) i=some (.sc (.int x)):=by
 have h:i.toNat < l.length:=by lia
 exact⟨l[i.toNat],List.getElem_mem h,by rw [zgy,zd7 h0 (List.getElem?_eq_getElem h)];rfl⟩
@[simp] theorem zgZ {a b:List (List Int)} (h:a.length + b.length≤1000):oCat .sp (.lst (zai a)) (.lst (zai b))=some (.lst (zai (a ++ b))):=by
 show (if (zai a).length + (zai b).length≤sizeLine then zbV .sp (zai a ++ zai b) else none)=_
 rw [if_pos (by rw [zbP,zbP];exact zjM h),← zgU];rfl
@[simp] theorem ze0 {a b:List Int} (h:a.length + b.length≤1000):oCat .fu (.lst (zad a)) (.lst (zad b))=some (.lst (zad (a ++ b))):=by
 show (if (zad a).length + (zad b).length≤sizeLine then zbV .fu (zad a ++ zad b) else none)=_
 rw [if_pos (by rw [za1,za1];exact zjM h),← zcN,zgz]
@[simp] theorem zrr (i j:Nat) (v w:V) (ρ:SEnv):zmA i j (.sc v) (.sc w) ρ=if i < ρ.length∧j < ρ.length then .nx ((ρ.set i (some (.fu,.sc v))).set j (some (.fu,.sc w))) else .bad:=rfl
theorem zjr {α:Type} (l:List α) (k:Nat) (h:k≤l.length):cutZ l (some (k:Int)) none=l.drop k:=by
 unfold cutZ;rw [HT.sIx_nat,HT.sIx_none,Nat.min_eq_left h]
 exact List.take_of_length_le (by rw [List.length_drop];lia)
theorem zq6 {α:Type} (l:List α) (k:Nat) (h:k≤l.length):cutZ l none (some (k:Int))=l.take k:=by
 unfold cutZ;rw [HT.sIx_nat,HT.sIx_none,Nat.min_eq_left h,Nat.sub_zero,List.drop_zero]
@[simp] theorem zpN {a:List (List Int)} {r:List Int} (h:a.length + 1≤1000):oCat .sp (.lst (zai a)) (.lst [.lst (zad r)])=some (.lst (zai (a ++ [r]))):=zgZ (a:=a) (b:=[r]) h
@[simp] theorem zpO {a:List Int} {x:Int} (h:a.length + 1≤1000):oCat .fu (.lst (zad a)) (.lst [.sc (.int x)])=some (.lst (zad (a ++ [x]))):=ze0 (a:=a) (b:=[x]) h
@[simp] theorem zrv (i:Int):oNeg (.sc (.int i))=some (.sc (.int (-i))):=rfl
theorem zpm {i j:Int} (h:0≤j∧j≤1000000∧i.natAbs < 2 ^ 64):iPow i j=some (.int (i ^ j.toNat)):=if_pos h
theorem zeV {b:List (List Int)} {j:Nat} (h:j < b.length):(zai b)[j]? = some (.lst (zad (zat b j))):=by
 unfold zai;rw [List.getElem?_map,List.getElem?_eq_getElem h];simp [zat,List.getD,h]
theorem zfK {i:Nat} {ρ:SEnv} {b:List (List Int)} {l:Int} {k:Nat→List T→List T→SRes} (e:ρ[i]? = some (some (.fu,.lst (zai b)))) (h0:0≤l) (h1:l < b.length):zfz i ρ (.sc (.int l)) k=k l.toNat (zai b) (zad (zat b l.toNat)):=by
 unfold zfz
 have e1:ixN (zai b).length l=some l.toNat:=by unfold ixN;rw [zbP,if_pos h0,if_pos h1]
 simp only [e,e1,zeV (show l.toNat < b.length by lia)]
theorem ze7:∀ {r:List Int},r≠[]→∃ x,ze8 (zad r)=some (.int x)
 | [],h=>absurd rfl h
 | [x],_=>⟨x,rfl⟩
 | x :: y :: r,_=>by
  obtain⟨z,e⟩:=ze7 (r:=y :: r) (by simp)
  exact⟨z,e⟩
theorem zfF (r:List Int):(zad r).dropLast=zad r.dropLast:=by unfold zad;rw [List.map_dropLast]
structure Sml (b:List (List Int)):Prop where
 len:b.length≤13
 row:∀ r∈b,r.length≤13
theorem Sq.sml {n:Nat} {b:List (List Int)} (h:Sq n b) (hn:n≤12):Sml b:=⟨by rw [h.len];lia,fun r hr=>by rw [h.row r hr];lia⟩
theorem Sml.set {b:List (List Int)} (h:Sml b) (i:Nat) {r:List Int} (hr:r.length≤13):Sml (b.set i r):=
 ⟨by rw [List.length_set];exact h.len,fun x hx=>by rcases List.mem_or_eq_of_mem_set hx with hx | rfl;exact h.row x hx;exact hr⟩
noncomputable def zc3 (l:List Bool):List T:=l.map fun b=>.sc (.bl b)
@[simp] theorem zpT (l:List Bool):(zc3 l).length=l.length:=by unfold zc3;simp
theorem zdI:∀ l:List Bool,zb3 (zc3 l)=some l
 | []=>rfl
 | b :: l=>by
  show (asB (.sc (.bl b))).bind (fun i=>(zb3 (zc3 l)).map (i :: ·))=_
  rw [zdI l];rfl
@[simp] theorem zd5 (l:List Bool):cAll [.lst (zc3 l)]=some (.sc (.bl (l.all id))):=by
 show (zb3 (zc3 l)).map _=_
 rw [zdI];rfl
theorem zo5 {F:VEnv→Res T} {ρ:VEnv} {gE:T→VEnv→Option VEnv} (f:List Int→Bool) (l:List (List Int)) (h:∀ x∈l,∃ ρ1,gE (.lst (zad x)) ρ=some ρ1∧F ρ1=.ok (.sc (.bl (f x)))):mapL gE F ρ (zai l)=.ok (zc3 (l.map f)):=
 zcX (fun r=>.lst (zad r)) (fun x=>.sc (.bl x)) l h
theorem zo6 {F:VEnv→Res T} {ρ:VEnv} {gE:T→VEnv→Option VEnv} (f:Int→Bool) (l:List Int) (h:∀ x∈l,∃ ρ1,gE (.sc (.int x)) ρ=some ρ1∧F ρ1=.ok (.sc (.bl (f x)))):mapL gE F ρ (zad l)=.ok (zc3 (l.map f)):=
 zcX (fun x=>.sc (.int x)) (fun x=>.sc (.bl x)) l h
theorem zjh {k:Nat}:∀ (b:List (List Int)),(∀ r∈b,r.length≤k)→b.flatten.length≤b.length * k
 | [],_=>by simp
 | r :: b,h=>by
  have h1:=h r (by simp)
  have h2:=zjh b fun x hx=>h x (by simp [hx])
  rw [List.flatten_cons,List.length_append,List.length_cons,Nat.succ_mul];lia
theorem Sml.flat {b:List (List Int)} (h:Sml b):b.flatten.length≤169:=by
 have h1:=zjh (k:=13) b h.row
 have h2:=h.len
 have:b.length * 13≤13 * 13:=Nat.mul_le_mul_right 13 h2
 lia
theorem zki {i:Nat} {M:List Bool} {a b:List Int} {ρ:SEnv} (h:a.length + b.length≤1000):zlK i .al M .fu (zad a) (.lst (zad b)) ρ=.nx (ρ.set i (some (.fu,.lst (zad (a ++ b))))):=by
 unfold zlK
 simp [h,zjM h,zcN]
theorem zdE {L:SEnv→SRes} (hL:L=sExt 1 .al [false,false,true] (eVar 2)) (t0:Option (Md×T)):∀ (b:List (List Int)) (a:List Int) (x:Option (Md×T)),a.length + b.flatten.length≤1000→∃ x',forL (gS 2) L (zai b) [t0,some (.fu,.lst (zad a)),x]=.nx [t0,some (.fu,.lst (zad (a ++ b.flatten))),x']
 | [],a,x,_=>⟨x,by simp⟩
 | r :: b,a,x,h=>by
  rw [List.flatten_cons,List.length_append] at h
  obtain⟨x',e⟩:=zdE hL t0 b (a ++ r) (some (.al,.lst (zad r))) (by rw [List.length_append];lia)
  refine ⟨x',?_⟩
  rw [zbG,zdD]
  subst hL
  have q:=zki (i:=1) (M:=[false,false,true]) (a:=a) (b:=r) (ρ:=[t0,some (.fu,.lst (zad a)),some (.al,.lst (zad r))]) (by lia)
  simp [q]
  rw [e];simp
end TL
namespace TL
open PySem PySem.Spec L2
noncomputable def sumL:List Int→Int
 | []=>0
 | x :: l=>x + sumL l
noncomputable def sumN (n:Nat) (f:Nat→Int):Int:=sumL ((List.range n).map f)
theorem zgd:∀ a b:List Int,sumL (a ++ b)=sumL a + sumL b
 | [],b=>by simp [sumL]
 | x :: a,b=>by simp [sumL,zgd a b,Int.add_assoc]
theorem zgc:∀ l:List Int,l.sum=sumL l
 | []=>rfl
 | x :: l=>by rw [List.sum_cons,zgc l];rfl
theorem zkG {a b:List Int} (h:a.Perm b):sumL a=sumL b:=by
 induction h with
 | nil=>rfl
 | cons x _ ih=>simp [sumL,ih]
 | swap x y l=>simp [sumL];lia
 | trans _ _ i1 i2=>rw [i1,i2]
theorem ziO {s:Int}:∀ {l:List Int},(∀ x∈l,x=s)→sumL l=l.length * s
 | [],_=>by simp [sumL]
 | x :: l,h=>by
  have h1:=h x (by simp)
  have h2:=ziO (l:=l) fun y hy=>h y (by simp [hy])
  rw [sumL,h1,h2,List.length_cons]
  push_cast
  rw [Int.add_mul,Int.one_mul,Int.add_comm]
theorem zjN {n:Nat} {f g:Nat→Int} (h:∀ k,k < n→f k=g k):sumN n f=sumN n g:=by
 unfold sumN
 congr 1
 exact List.map_congr_left fun k hk=>h k (List.mem_range.mp hk)
theorem zeI (n:Nat) (f:Nat→Int):sumN (n + 1) f=sumN n f + f n:=by
 unfold sumN
 rw [List.range_succ,List.map_append,zgd]
 simp [sumL]
theorem zeH (f:Nat→Int):sumN 0 f=0:=rfl
theorem zkc {l:List Int} {n:Nat} (h:l.length=n):l=(List.range n).map (at0 l):=by
 refine List.ext_getElem (by simp [h]) fun k h1 h2=>?_
 simp [at0,List.getD,h1]
theorem zjO {l:List Int} {n:Nat} (h:l.length=n):sumL l=sumN n (at0 l):=by
 conv=>lhs;rw [zkc h]
 rfl
theorem ziS (n:Nat) (f:Nat→Int):(rngZ 0 n).map (fun i=>f i.toNat)=(List.range n).map f:=by
 unfold rngZ
 rw [List.map_map]
 refine List.map_congr_left fun k _=>?_
 simp
noncomputable def C2 (b:List (List Int)) (R C:Nat):Int:=at0 (zat b R) C
end TL
namespace Qk01
open PySem PySem.Spec L2 TL
open PyProof.Rows hiding St
noncomputable def top (i:Nat):Stmt:=PySem.Challenge.pw_likesums_k01_sums.main.body.getD i (.Pass ⟨0,0,0,0⟩)
noncomputable abbrev zbM:Stmt:=top 15
noncomputable abbrev zeM:Stmt:=top 18
noncomputable abbrev zhL:Stmt:=top 16
noncomputable abbrev zbo:Stmt:=top 19
noncomputable abbrev zbq:Stmt:=top 20
noncomputable abbrev zeN:Stmt:=top 22
noncomputable abbrev zeO:Stmt:=top 23
noncomputable abbrev zbL:Stmt:=top 24
noncomputable abbrev zbK:Stmt:=top 25
noncomputable abbrev zcg:Stmt:=top 26
noncomputable abbrev zeP:Stmt:=top 27
noncomputable abbrev zeQ:Stmt:=top 21
noncomputable abbrev zbp:Stmt:=top 28
noncomputable abbrev zc5:Stmt:=top 17
noncomputable abbrev zc6:Stmt:=top 29
noncomputable abbrev zeR:Stmt:=top 30
noncomputable abbrev zaO:Stmt:=top 6
noncomputable abbrev zch:Stmt:=top 7
noncomputable abbrev zaV:Stmt:=top 5
noncomputable abbrev zci:Stmt:=top 8
noncomputable abbrev zbO:Stmt:=top 9
noncomputable abbrev zbh:Stmt:=top 10
noncomputable abbrev zbi:Stmt:=top 11
noncomputable abbrev zeU:Stmt:=top 12
noncomputable abbrev zbN:Stmt:=top 13
noncomputable abbrev zhM:Stmt:=top 31
noncomputable abbrev s_law:Stmt:=top 32
noncomputable def zcc:List Str:=["script", "k"]
noncomputable def zfn (ρ:SEnv):SRes:=(sSeq (sIf [true,true] (eB (eOp (oI iLt) (eVar 1) (eB1 cLen (zae (eVar 0) aNil)))) (sRet .fu [true,true] (fun ρ=>chk ((eOp oIx (eVar 0) (eVar 1)) ρ))) sNil)
 (sRet .fu [false,false] (eC (.int 0)))) ρ
noncomputable def zbd (ts:List T):Res T:=fin .fu (zfn (zaB zcc ts))
noncomputable def zhA:List Str:=["found", "due"]
noncomputable def zn5 (ρ:SEnv):SRes:=(sRet .fu [true,true] (vAnd (eB1 cIsi (zae (eVar 0) (zae (eC (.ty "bool")) aNil))) (eOp (oEq) (eVar 0) (eVar 1)))) ρ
noncomputable def zi6 (ts:List T):Res T:=fin .fu (zn5 (zaB zhA ts))
noncomputable def zmc:List Str:=["cell", "k", "many", "some", "stir"]
@[simp] noncomputable def zpA (ρ:SEnv):SRes:=(sRet .fu [false,true,true,false,true] (eOp (oI iMod) (eOp (oI iDiv) (eOp (oI iMod) (eOp (oI iAdd) (eOp (oI iMul) (eVar 4) (eVar 4)) (eOp (oI iMul) (eC (.int 48271)) (eVar 1))) (eC (.int 1000000007))) (eC (.int 7))) (eVar 2))) ρ
@[simp] noncomputable def zpz (ρ:SEnv):SRes:=(sSeq (sSet 4 [false,false,false,false,true] (eOp (oI iMod) (eVar 4) (eC (.int 1000000007))))
 zpA) ρ
@[simp] noncomputable def zpy (ρ:SEnv):SRes:=(sSeq (sSet 4 [true,true,false,true,false] (eOp (oI iAdd) (eOp (oI iAdd) (eOp (oI iMul) (eOp (oI iAdd) (eOp (oI iMod) (eVar 0) (eC (.int 2147483647))) (eC (.int 12345))) (eOp oIx (eVar 3) (eOp (oI iMod) (eVar 1) (eC (.int 13))))) (eOp (oI iMul) (eC (.int 977)) (eVar 1))) (eOp (oI iMul) (eC (.int 7919)) (eOp (oI iDiv) (eVar 1) (eC (.int 13))))))
 zpz) ρ
noncomputable def zrh (ρ:SEnv):SRes:=(sSeq (sSet 3 [false,false,false,false,false] (eLst (zae (eC (.int 48271)) (zae (eC (.int 69621)) (zae (eC (.int 16807)) (zae (eC (.int 39373)) (zae (eC (.int 30269)) (zae (eC (.int 40014)) (zae (eC (.int 40692)) (zae (eC (.int 50021)) (zae (eC (.int 61687)) (zae (eC (.int 71993)) (zae (eC (.int 83869)) (zae (eC (.int 95561)) (zae (eC (.int 30307)) aNil)))))))))))))))
 zpy) ρ
noncomputable def zlm (ts:List T):Res T:=fin .fu (zrh (zaB zmc ts))
noncomputable def zcb:List Str:=["cell", "many", "left", "order", "k"]
@[simp] noncomputable def zht (ρ:SEnv):SRes:=(sSet 2 [false,false,true,false,true] (eOp (oI iDiv) (eVar 2) (eOp (oI iAdd) (eVar 4) (eC (.int 1))))) ρ
@[simp] noncomputable def zhs (ρ:SEnv):SRes:=(sSeq (sIns 3 [false,false,true,false,true] (eOp (oI iMod) (eVar 2) (eOp (oI iAdd) (eVar 4) (eC (.int 1)))) (eVar 4))
 zht) ρ
@[simp] noncomputable def zhr (ρ:SEnv):SRes:=(sIns 3 [false,false,true,false,true] (zaN 3 zlm (zae (eVar 2) (zae (eVar 4) (zae (eOp (oI iAdd) (eVar 4) (eC (.int 1))) aNil)))) (eVar 4)) ρ
noncomputable def zb0 (ρ:SEnv):SRes:=(sIf [true,false,false,false,false] (eB (eOp (oEq) (eOp (oI iMod) (eVar 0) (eC (.int 2))) (eC (.int 0)))) zhs zhr) ρ
@[simp] noncomputable def zhq (ρ:SEnv):SRes:=(sSeq (sFor [false,true,false,false,false] (iRng rng1 (zae (eVar 1) aNil)) (gS 4) zb0)
 (zdV 3)) ρ
@[simp] noncomputable def zhp (ρ:SEnv):SRes:=(sSeq (sSet 3 [false,false,false,false,false] (eLst aNil))
 zhq) ρ
noncomputable def zf1 (ρ:SEnv):SRes:=(sSeq (sSet 2 [true,false,false,false,false] (eOp (oI iDiv) (eVar 0) (eC (.int 2))))
 zhp) ρ
noncomputable def zb5 (ts:List T):Res T:=fin .fu (zf1 (zaB zcb ts))
noncomputable def zcd:List Str:=["cell", "size", "numbers"]
noncomputable def zen:VEnv→Res T:=(eOp (oI iAdd) (eVar 0) (eC (.int 1)))
noncomputable def zem:VEnv→Res T:=(eSl .fu (eVar 1) (zgY (eOp (oI iMul) (eVar 0) (eVar 2))) (zgY (eOp (oI iMul) (eOp (oI iAdd) (eVar 0) (eC (.int 1))) (eVar 2))))
@[simp] noncomputable def zhx (ρ:SEnv):SRes:=(sRet .fu [false,true,true] (zbe [none,some 2,some 1] (iRng rng1 (zae (eVar 1) aNil)) (gE 0) zem)) ρ
noncomputable def zf2 (ρ:SEnv):SRes:=(sSeq (sSet 2 [true,true,false] (zbe [none] (iLst (zaN 2 zb5 (zae (eVar 0) (zae (eOp (oI iMul) (eVar 1) (eVar 1)) aNil)))) (gE 0) zen))
 zhx) ρ
noncomputable def zbI (ts:List T):Res T:=fin .fu (zf2 (zaB zcd ts))
noncomputable def zhB:List Str:=["board", "size", "columns_v", "ways", "r", "c"]
@[simp] noncomputable def zng (ρ:SEnv):SRes:=(sPut 3 [true,true,false,true,true,true] (eOp (oI iAdd) (eOp oIx (eVar 3) (eC (.int 1))) (eOp (oI iMul) (eOp oIx (eOp oIx (eVar 0) (eVar 4)) (eVar 5)) (eB1 cInt (zae (eOp (oEq) (eOp (oI iAdd) (eVar 4) (eVar 5)) (eOp (oI iSub) (eVar 1) (eC (.int 1)))) aNil)))) (eC (.int 1))) ρ
@[simp] noncomputable def znf (ρ:SEnv):SRes:=(sSeq (sPut 3 [true,false,false,true,true,true] (eOp (oI iAdd) (eOp oIx (eVar 3) (eC (.int 0))) (eOp (oI iMul) (eOp oIx (eOp oIx (eVar 0) (eVar 4)) (eVar 5)) (eB1 cInt (zae (eOp (oEq) (eVar 4) (eVar 5)) aNil)))) (eC (.int 0)))
 zng) ρ
noncomputable def zeF (ρ:SEnv):SRes:=(sSeq (sPut 2 [true,false,true,false,true,true] (eOp (oI iAdd) (eOp oIx (eVar 2) (eVar 5)) (eOp oIx (eOp oIx (eVar 0) (eVar 4)) (eVar 5))) (eVar 5))
 znf) ρ
noncomputable def zeE (ρ:SEnv):SRes:=(sFor [false,true,false,false,false,false] (iRng rng1 (zae (eVar 1) aNil)) (gS 5) zeF) ρ
noncomputable def zgG:VEnv→Res T:=(eB1 cSum (zae (eVar 0) aNil))
@[simp] noncomputable def zne (ρ:SEnv):SRes:=(sRet .al [true,false,true,true,false,false] (eTup (zae (zbe [none] (iLst (eVar 0)) (gE 0) zgG) (zae (eVar 2) (zae (eVar 3) aNil))))) ρ
@[simp] noncomputable def znd (ρ:SEnv):SRes:=(sSeq (sFor [false,true,false,false,false,false] (iRng rng1 (zae (eVar 1) aNil)) (gS 4) zeE)
 zne) ρ
@[simp] noncomputable def znc (ρ:SEnv):SRes:=(sSeq (sSet 3 [false,false,false,false,false,false] (eLst (zae (eC (.int 0)) (zae (eC (.int 0)) aNil))))
 znd) ρ
@[simp] noncomputable def znb (ρ:SEnv):SRes:=(sSeq (sSet 2 [false,true,false,false,false,false] (eOp (oRep .fu) (eLst (zae (eC (.int 0)) aNil)) (eVar 1)))
 znc) ρ
noncomputable def zn6 (ρ:SEnv):SRes:=(sSeq (sSet 1 [true,false,false,false,false,false] (eB1 cLen (zae (eVar 0) aNil)))
 znb) ρ
noncomputable def zfQ (ts:List T):Res T:=fin .al (zn6 (zaB zhB ts))
noncomputable def zhC:List Str:=["board", "rows", "columns_v", "ways", "due"]
@[simp] noncomputable def zni (ρ:SEnv):SRes:=(sRet .fu [false,true,true,true,true] (eOp (oEq) (eSSG (eOp (oCat .fu) (eOp (oCat .fu) (eVar 1) (eVar 2)) (eVar 3))) (eLst (zae (fun ρ=>chk ((eVar 4) ρ)) aNil)))) ρ
@[simp] noncomputable def znh (ρ:SEnv):SRes:=(sSeq (sSet 4 [true,false,false,false,false] (eOp (oI iDiv) (eOp (oI iMul) (eB1 cLen (zae (eVar 0) aNil)) (eOp (oI iAdd) (eOp (oI iMul) (eB1 cLen (zae (eVar 0) aNil)) (eB1 cLen (zae (eVar 0) aNil))) (eC (.int 1)))) (eC (.int 2))))
 zni) ρ
noncomputable def zn7 (ρ:SEnv):SRes:=(sSeq (sUnp [1,2,3] [true,false,false,false,false] (zaN 1 zfQ (zae (eVar 0) aNil)))
 znh) ρ
noncomputable def zi7 (ts:List T):Res T:=fin .fu (zn7 (zaB zhC ts))
noncomputable def zcS:List Str:=["cell", "size", "half", "pairs", "order", "k", "one"]
@[simp] noncomputable def ziv (ρ:SEnv):SRes:=(sPut 4 [false,true,false,false,false,true,true] (eOp (oI iSub) (eOp (oI iSub) (eVar 1) (eC (.int 1))) (eVar 6)) (eOp (oI iSub) (eOp (oI iSub) (eVar 1) (eC (.int 1))) (eVar 5))) ρ
@[simp] noncomputable def ziu (ρ:SEnv):SRes:=(sSeq (sPut 4 [false,false,false,false,false,true,true] (fun ρ=>chk ((eVar 6) ρ)) (eVar 5))
 ziv) ρ
@[simp] noncomputable def zit (ρ:SEnv):SRes:=(sSeq (sIf [true,false,false,false,false,true,false] (eB (eOp (oEq) (zaN 3 zlm (zae (eVar 0) (zae (eOp (oI iAdd) (eC (.int 70)) (eVar 5)) (zae (eC (.int 2)) aNil)))) (eC (.int 1)))) (sSet 6 [false,true,false,false,false,false,true] (eOp (oI iSub) (eOp (oI iSub) (eVar 1) (eC (.int 1))) (eVar 6))) sNil)
 ziu) ρ
noncomputable def zcv (ρ:SEnv):SRes:=(sSeq (sSet 6 [false,false,false,true,false,true,false] (fun ρ=>chk ((eOp oIx (eVar 3) (eVar 5)) ρ)))
 zit) ρ
@[simp] noncomputable def zis (ρ:SEnv):SRes:=(sSeq (sFor [false,false,true,false,false,false,false] (iRng rng1 (zae (eVar 2) aNil)) (gS 5) zcv)
 (zdV 4)) ρ
@[simp] noncomputable def zir (ρ:SEnv):SRes:=(sSeq (sSet 4 [false,true,true,false,false,false,false] (eOp (oRep .fu) (eLst (zae (fun ρ=>chk ((eVar 2) ρ)) aNil)) (eVar 1)))
 zis) ρ
@[simp] noncomputable def ziq (ρ:SEnv):SRes:=(sSeq (sSet 3 [true,false,true,false,false,false,false] (zaN 2 zb5 (zae (eVar 0) (zae (eVar 2) aNil))))
 zir) ρ
noncomputable def zhy (ρ:SEnv):SRes:=(sSeq (sSet 2 [false,true,false,false,false,false,false] (eOp (oI iDiv) (eVar 1) (eC (.int 2))))
 ziq) ρ
noncomputable def zdv (ts:List T):Res T:=fin .fu (zhy (zaB zcS ts))
noncomputable def zdR:List Str:=["script", "base", "size", "board", "r", "row", "c", "order", "cell"]
noncomputable def zdi (ρ:SEnv):SRes:=(sApp 5 .fu [false,false,true,false,true,false,true,false,false] (eOp (oI iAdd) (eOp (oI iAdd) (eOp (oI iMul) (eVar 2) (eOp (oI iMod) (eOp (oI iAdd) (eOp (oI iAdd) (eOp (oI iAdd) (eVar 4) (eVar 6)) (eC (.int 1))) (eOp (oI iDiv) (eVar 2) (eC (.int 2)))) (eVar 2))) (eOp (oI iMod) (eOp (oI iAdd) (eOp (oI iAdd) (eVar 4) (eOp (oI iMul) (eC (.int 2)) (eVar 6))) (eC (.int 1))) (eVar 2))) (eC (.int 1)))) ρ
@[simp] noncomputable def zio (ρ:SEnv):SRes:=(sApp 3 .al [false,false,false,false,false,true,false,false,false] (eVar 5)) ρ
@[simp] noncomputable def zin (ρ:SEnv):SRes:=(sSeq (sFor [false,false,true,false,false,false,false,false,false] (iRng rng1 (zae (eVar 2) aNil)) (gS 6) zdi)
 zio) ρ
noncomputable def zcu (ρ:SEnv):SRes:=(sSeq (sSet 5 [false,false,false,false,false,false,false,false,false] (eLst aNil))
 zin) ρ
@[simp] noncomputable def zim (ρ:SEnv):SRes:=(sFor [false,false,true,false,false,false,false,false,false] (iRng rng1 (zae (eVar 2) aNil)) (gS 4) zcu) ρ
noncomputable def zfx:VEnv→Res T:=(fun ρ=>chk ((eOp oIx (eOp oIx (eVar 1) (eVar 2)) (eVar 0)) ρ))
noncomputable def zfw:VEnv→Res T:=(zbe [none,some 2,some 0] (iLst (eVar 1)) (gE 0) zfx)
noncomputable def zdl:VEnv→Res T:=(eRev .fu (eVar 0))
noncomputable def zfv:VEnv→Res T:=(fun ρ=>chk ((eOp oIx (eOp oIx (eVar 1) (eVar 0)) (eVar 2)) ρ))
noncomputable def zdk:VEnv→Res T:=(zbe [none,some 2,some 0] (iRng rng1 (zae (eVar 1) aNil)) (gE 0) zfv)
@[simp] noncomputable def zil (ρ:SEnv):SRes:=(sSet 3 [false,false,true,true,false,false,false,false,false] (zbe [none,some 2,some 3] (iRng rng1 (zae (eVar 2) aNil)) (gE 0) zdk)) ρ
noncomputable def zfu:VEnv→Res T:=(eOp (oI iSub) (eOp (oI iAdd) (eOp (oI iMul) (eVar 1) (eVar 1)) (eC (.int 1))) (eVar 0))
noncomputable def zdj:VEnv→Res T:=(zbe [none,some 1] (iLst (eVar 0)) (gE 0) zfu)
@[simp] noncomputable def zik (ρ:SEnv):SRes:=(sSet 3 [false,false,true,true,false,false,false,false,false] (zbe [none,some 2] (iLst (eVar 3)) (gE 0) zdj)) ρ
@[simp] noncomputable def zij (ρ:SEnv):SRes:=(sSeq (sIf [false,false,false,false,false,false,false,false,true] (eB (eOp (oEq) (eOp (oI iMod) (eOp (oI iDiv) (eVar 8) (eC (.int 4))) (eC (.int 2))) (eC (.int 1)))) zik sNil)
 (zdV 3)) ρ
@[simp] noncomputable def zii (ρ:SEnv):SRes:=(sSeq (sIf [false,false,false,false,false,false,false,false,true] (eB (eOp (oEq) (eOp (oI iMod) (eOp (oI iDiv) (eVar 8) (eC (.int 2))) (eC (.int 2))) (eC (.int 1)))) zil sNil)
 zij) ρ
@[simp] noncomputable def zih (ρ:SEnv):SRes:=(sSeq (sIf [false,false,false,false,false,false,false,false,true] (eB (eOp (oEq) (eOp (oI iMod) (eVar 8) (eC (.int 2))) (eC (.int 1)))) (sSet 3 [false,false,false,true,false,false,false,false,false] (zbe [none] (iLst (eVar 3)) (gE 0) zdl)) sNil)
 zii) ρ
@[simp] noncomputable def zig (ρ:SEnv):SRes:=(sSeq (sSet 8 [true,true,false,false,false,false,false,false,false] (zaN 2 zbd (zae (eVar 0) (zae (eOp (oI iAdd) (eVar 1) (eC (.int 1))) aNil))))
 zih) ρ
@[simp] noncomputable def zhu (ρ:SEnv):SRes:=(sSeq (sSet 3 [false,false,false,true,false,false,false,true,false] (zbe [none,some 7,some 3] (iLst (eVar 7)) (gE 0) zfw))
 zig) ρ
@[simp] noncomputable def zek (ρ:SEnv):SRes:=(sSeq (sSet 7 [true,true,true,false,false,false,false,false,false] (zaN 2 zdv (zae (zaN 2 zbd (zae (eVar 0) (zae (eVar 1) aNil))) (zae (eVar 2) aNil))))
 zhu) ρ
@[simp] noncomputable def zej (ρ:SEnv):SRes:=(sSeq (sIf [false,false,true,false,false,false,false,false,false] (eB (eOp (oEq) (eOp (oI iMod) (eVar 2) (eC (.int 2))) (eC (.int 1)))) (sSeq (sSet 3 [false,false,false,false,false,false,false,false,false] (eLst aNil))
 zim) sNil)
 zek) ρ
noncomputable def zfm (ρ:SEnv):SRes:=(sSeq (sSet 3 [false,false,false,false,false,false,false,false,false] (eLst (zae (eLst (zae (eC (.int 16)) (zae (eC (.int 2)) (zae (eC (.int 3)) (zae (eC (.int 13)) aNil))))) (zae (eLst (zae (eC (.int 5)) (zae (eC (.int 11)) (zae (eC (.int 10)) (zae (eC (.int 8)) aNil))))) (zae (eLst (zae (eC (.int 9)) (zae (eC (.int 7)) (zae (eC (.int 6)) (zae (eC (.int 12)) aNil))))) (zae (eLst (zae (eC (.int 4)) (zae (eC (.int 14)) (zae (eC (.int 15)) (zae (eC (.int 1)) aNil))))) aNil))))))
 zej) ρ
noncomputable def zcI (ts:List T):Res T:=fin .fu (zfm (zaB zdR ts))
noncomputable def zeD:List Str:=["script", "base", "cell", "size", "board", "r", "c", "other", "kept"]
@[simp] noncomputable def zkz (ρ:SEnv):SRes:=(sRet .fu [true,true,true,false,false,false,false,false,false] (zaN 3 zcI (zae (eVar 0) (zae (eVar 1) (zae (eOp oIx (eLst (zae (eC (.int 1)) (zae (eC (.int 3)) (zae (eC (.int 4)) (zae (eC (.int 5)) (zae (eC (.int 7)) (zae (eC (.int 9)) (zae (eC (.int 11)) aNil)))))))) (eOp (oI iMod) (eOp (oI iDiv) (eVar 2) (eC (.int 3))) (eC (.int 7)))) aNil))))) ρ
@[simp] noncomputable def zky (ρ:SEnv):SRes:=(sRet .sp [false,false,false,false,true,false,false,false,false] (eOp (oCat .sp) (eSl .sp (eVar 4) (zgY (eC (.int 1))) zlg) (eSl .sp (eVar 4) zlg (zgY (eC (.int 1)))))) ρ
noncomputable def zf4:VEnv→Res T:=(fun ρ=>chk ((eOp oIx (eVar 0) (eVar 1)) ρ))
noncomputable def zeb:VEnv→Res T:=(zbe [none,some 0] (iLst (eVar 1)) (gE 0) zf4)
@[simp] noncomputable def zkx (ρ:SEnv):SRes:=(sSet 4 [false,false,false,true,true,false,false,false,false] (zbe [none,some 4] (iRng rng1 (zae (eVar 3) aNil)) (gE 0) zeb)) ρ
@[simp] noncomputable def zkw (ρ:SEnv):SRes:=(sIf [false,false,true,false,false,false,false,false,false] (eB (eOp (oEq) (eOp (oI iMod) (eOp (oI iDiv) (eVar 2) (eC (.int 50000))) (eC (.int 2))) (eC (.int 1)))) zkx sNil) ρ
@[simp] noncomputable def zkv (ρ:SEnv):SRes:=(sSeq (zgT 4 [false,false,false,false,false,true,false,true,true] (eVar 8) (eVar 5) (eVar 7))
 zkw) ρ
@[simp] noncomputable def zku (ρ:SEnv):SRes:=(sSeq (zgT 4 [false,false,false,false,true,true,true,true,false] (eOp oIx (eOp oIx (eVar 4) (eVar 5)) (eVar 7)) (eVar 5) (eVar 6))
 zkv) ρ
@[simp] noncomputable def zkt (ρ:SEnv):SRes:=(sSeq (sSet 8 [false,false,false,false,true,true,true,false,false] (fun ρ=>chk ((eOp oIx (eOp oIx (eVar 4) (eVar 5)) (eVar 6)) ρ)))
 zku) ρ
@[simp] noncomputable def zks (ρ:SEnv):SRes:=(sSeq (sSet 7 [false,false,true,true,false,false,false,false,false] (eOp (oI iMod) (eOp (oI iDiv) (eVar 2) (eC (.int 7000))) (eVar 3)))
 zkt) ρ
@[simp] noncomputable def zkr (ρ:SEnv):SRes:=(sSeq (sPar 5 6 [false,false,true,true,false,false,false,false,false] (eOp (oI iMod) (eOp (oI iDiv) (eVar 2) (eC (.int 36))) (eVar 3)) (eOp (oI iMod) (eOp (oI iDiv) (eVar 2) (eC (.int 500))) (eVar 3)))
 zks) ρ
@[simp] noncomputable def zdg (ρ:SEnv):SRes:=(sSeq (sIf [false,false,true,false,false,false,false,false,false] (eB (eOp (oEq) (eOp (oI iMod) (eOp (oI iDiv) (eVar 2) (eC (.int 36))) (eC (.int 3))) (eC (.int 1)))) zky sNil)
 zkr) ρ
@[simp] noncomputable def ziz (ρ:SEnv):SRes:=(sSeq (sSet 4 [true,true,false,true,false,false,false,false,false] (zaN 3 zcI (zae (eVar 0) (zae (eVar 1) (zae (eVar 3) aNil)))))
 zdg) ρ
@[simp] noncomputable def zct (ρ:SEnv):SRes:=(sSeq (sIf [false,false,true,true,false,false,false,false,false] (bAnd (eB (eOp (oEq) (eOp (oI iMod) (eVar 2) (eC (.int 3))) (eC (.int 2)))) (eB (eOp (oEq) (eOp (oI iMod) (eVar 3) (eC (.int 2))) (eC (.int 1))))) ziz sNil)
 (zdV 4)) ρ
@[simp] noncomputable def ziy (ρ:SEnv):SRes:=(sSeq (sSet 4 [true,true,false,true,false,false,false,false,false] (zaN 2 zbI (zae (zaN 2 zbd (zae (eVar 0) (zae (eOp (oI iAdd) (eVar 1) (eC (.int 3))) aNil))) (zae (eVar 3) aNil))))
 zct) ρ
@[simp] noncomputable def zix (ρ:SEnv):SRes:=(sSeq (sSet 3 [false,false,true,false,false,false,false,false,false] (eOp (oI iAdd) (eC (.int 1)) (eOp (oI iMod) (eOp (oI iDiv) (eVar 2) (eC (.int 3))) (eC (.int 12)))))
 ziy) ρ
@[simp] noncomputable def ziw (ρ:SEnv):SRes:=(sSeq (sIf [false,false,true,false,false,false,false,false,false] (eB (eOp (oEq) (eOp (oI iMod) (eVar 2) (eC (.int 3))) (eC (.int 0)))) zkz sNil)
 zix) ρ
noncomputable def zdQ (ρ:SEnv):SRes:=(sSeq (sSet 2 [true,true,false,false,false,false,false,false,false] (zaN 2 zbd (zae (eVar 0) (zae (eOp (oI iAdd) (eVar 1) (eC (.int 2))) aNil))))
 ziw) ρ
noncomputable def zew (ts:List T):Res T:=fin .al (zdQ (zaB zeD ts))
noncomputable def zjB:List Str:=["board", "cell", "size", "way", "r", "c", "found"]
noncomputable def zjI:VEnv→Res T:=(eB1 (zeq .fu) (zae (eVar 0) aNil))
@[simp] noncomputable def znr (ρ:SEnv):SRes:=(sSeq (zgT 6 [false,true,false,false,true,true,true] (eOp (oI iSub) (eOp (oI iSub) (eOp oIx (eOp oIx (eVar 6) (eVar 5)) (eVar 4)) (eC (.int 1))) (eOp (oI iMod) (eOp (oI iDiv) (eVar 1) (eC (.int 1000))) (eC (.int 3)))) (eVar 5) (eVar 4))
 (zdV 6)) ρ
@[simp] noncomputable def znq (ρ:SEnv):SRes:=(sSeq (zgT 6 [false,true,false,false,true,true,true] (eOp (oI iAdd) (eOp (oI iAdd) (eOp oIx (eOp oIx (eVar 6) (eVar 4)) (eVar 5)) (eC (.int 1))) (eOp (oI iMod) (eOp (oI iDiv) (eVar 1) (eC (.int 1000))) (eC (.int 3)))) (eVar 4) (eVar 5))
 znr) ρ
noncomputable def zjH:VEnv→Res T:=(eOp (oI iDiv) (eOp (oI iAdd) (eOp (oI iMul) (eVar 1) (eVar 1)) (eC (.int 1))) (eC (.int 2)))
noncomputable def zjG:VEnv→Res T:=(zbe [none,some 1] (iLst (eVar 0)) (gE 0) zjH)
@[simp] noncomputable def znp (ρ:SEnv):SRes:=(sSeq (zgg 6 [false,false,true,false,true,false,false] (eOp (oI iMod) (eOp (oI iAdd) (eVar 4) (eC (.int 1))) (eVar 2)) (eVar 4))
 (zdV 6)) ρ
@[simp] noncomputable def zno (ρ:SEnv):SRes:=(sRet .al [false,true,false,false,false,false,true] (eOp oIx (eLst (zae (eLst aNil) (zae (eOp (oCat .sp) (eVar 6) (eLst (zae (eB1 (zeq .fu) (zae (eOp oIx (eVar 6) (eC (.int 0))) aNil)) aNil))) aNil))) (eOp (oI iMod) (eOp (oI iDiv) (eVar 1) (eC (.int 1000))) (eC (.int 2))))) ρ
noncomputable def zjF:VEnv→Res T:=(eOp (oI iAdd) (eVar 0) (eC (.int 1)))
noncomputable def zjE:VEnv→Res T:=(zbe [none] (iLst (eVar 0)) (gE 0) zjF)
@[simp] noncomputable def znn (ρ:SEnv):SRes:=(zgT 6 [false,false,true,false,true,true,true] (eOp oIx (eOp oIx (eVar 6) (eOp (oI iMod) (eOp (oI iAdd) (eVar 4) (eC (.int 1))) (eVar 2))) (eVar 5)) (eVar 4) (eVar 5)) ρ
@[simp] noncomputable def znm (ρ:SEnv):SRes:=(zgT 6 [false,true,true,false,true,true,false] (eOp oIx (eLst (zae (eC (.int 0)) (zae (eOp (oI iAdd) (eOp (oI iMul) (eVar 2) (eVar 2)) (eC (.int 1))) (zae (eUn oNeg (eC (.int 1))) (zae (eOp (oI iPow) (eC (.int 10)) (eC (.int 9))) aNil))))) (eOp (oI iMod) (eOp (oI iDiv) (eVar 1) (eC (.int 1000))) (eC (.int 4)))) (eVar 4) (eVar 5)) ρ
@[simp] noncomputable def znl (ρ:SEnv):SRes:=(sIf [false,false,false,true,false,false,false] (eB (eOp (oEq) (eVar 3) (eC (.int 4)))) (sRet .fu [false,false,false,false,false,false,true] (zbe [none] (iLst (eVar 6)) (gE 0) zjE)) znn) ρ
@[simp] noncomputable def znk (ρ:SEnv):SRes:=(sPut 6 [false,false,true,false,true,false,true] (eOp (oCat .fu) (eOp oIx (eVar 6) (eVar 4)) (eLst (zae (eOp (oI iAdd) (eOp (oI iMul) (eVar 2) (eVar 2)) (eC (.int 1))) aNil))) (eVar 4)) ρ
@[simp] noncomputable def znj (ρ:SEnv):SRes:=(sPut 6 [false,false,false,false,true,false,true] (eSl .fu (eOp oIx (eVar 6) (eVar 4)) (zgY (eC (.int 1))) zlg) (eVar 4)) ρ
@[simp] noncomputable def zl5 (ρ:SEnv):SRes:=(sIf [false,false,false,true,false,false,false] (eB (eOp (oEq) (eVar 3) (eC (.int 2)))) znk (sIf [false,false,false,true,false,false,false] (eB (eOp (oEq) (eVar 3) (eC (.int 3)))) znm znl)) ρ
@[simp] noncomputable def zfk (ρ:SEnv):SRes:=(sSeq (sIf [false,false,false,true,false,false,false] (eB (eOp (oEq) (eVar 3) (eC (.int 1)))) znj zl5)
 (zdV 6)) ρ
@[simp] noncomputable def zdN (ρ:SEnv):SRes:=(sSeq (sIf [false,false,false,true,false,false,false] (eB (eOp (oEq) (eVar 3) (eC (.int 0)))) zno sNil)
 zfk) ρ
@[simp] noncomputable def zdM (ρ:SEnv):SRes:=(sSeq (sIf [false,false,false,true,false,false,false] (eB (eOp (oEq) (eVar 3) (eC (.int 8)))) znp sNil)
 zdN) ρ
@[simp] noncomputable def zdL (ρ:SEnv):SRes:=(sSeq (sIf [false,false,false,true,false,false,false] (eB (eOp (oEq) (eVar 3) (eC (.int 7)))) (sRet .fu [true,false,true,false,false,false,false] (zbe [none,some 2] (iLst (eVar 0)) (gE 0) zjG)) sNil)
 zdM) ρ
@[simp] noncomputable def zdK (ρ:SEnv):SRes:=(sSeq (sIf [false,false,false,true,false,false,false] (eB (eOp (oEq) (eVar 3) (eC (.int 6)))) znq sNil)
 zdL) ρ
@[simp] noncomputable def zl4 (ρ:SEnv):SRes:=(sSeq (sSet 6 [true,false,false,false,false,false,false] (zbe [none] (iLst (eVar 0)) (gE 0) zjI))
 zdK) ρ
@[simp] noncomputable def zl3 (ρ:SEnv):SRes:=(sSeq (sPar 4 5 [false,true,true,false,false,false,false] (eOp (oI iMod) (eOp (oI iDiv) (eVar 1) (eC (.int 6))) (eVar 2)) (eOp (oI iMod) (eOp (oI iDiv) (eVar 1) (eC (.int 80))) (eVar 2)))
 zl4) ρ
@[simp] noncomputable def zl2 (ρ:SEnv):SRes:=(sSeq (sSet 3 [false,true,false,false,false,false,false] (eOp (oI iMod) (eVar 1) (eC (.int 9))))
 zl3) ρ
noncomputable def zjz (ρ:SEnv):SRes:=(sSeq (sSet 2 [true,false,false,false,false,false,false] (eB1 cLen (zae (eVar 0) aNil)))
 zl2) ρ
noncomputable def zi8 (ts:List T):Res T:=fin .al (zjz (zaB zjB ts))
noncomputable def zhD:List Str:=["board", "found", "row"]
noncomputable def zjC (ρ:SEnv):SRes:=(sExt 1 .al [false,false,true] (eVar 2)) ρ
@[simp] noncomputable def zns (ρ:SEnv):SRes:=(sSeq (sFor [true,false,false] (iLst (eVar 0)) (gS 2) zjC)
 (zdV 1)) ρ
noncomputable def zn8 (ρ:SEnv):SRes:=(sSeq (sSet 1 [false,false,false] (eLst aNil))
 zns) ρ
noncomputable def zi9 (ts:List T):Res T:=fin .fu (zn8 (zaB zhD ts))
noncomputable def zba:List Str:=["board", "size"]
noncomputable def zb1:VEnv→Res T:=(eOp (oEq) (eB1 cLen (zae (eVar 0) aNil)) (eVar 1))
noncomputable def zcU:VEnv→Res T:=(eOp (oI iAdd) (eVar 0) (eC (.int 1)))
@[simp] noncomputable def zhw (ρ:SEnv):SRes:=(sRet .fu [true,true] (eOp (oEq) (eB1 zd4 (zae (zaN 1 zi9 (zae (eVar 0) aNil)) aNil)) (zbe [none] (iRng rng1 (zae (eOp (oI iMul) (eVar 1) (eVar 1)) aNil)) (gE 0) zcU))) ρ
@[simp] noncomputable def zhv (ρ:SEnv):SRes:=(sSeq (sIf [true,true] (bOr (bNot (eB (zjn (oI iLe) (oI iLe) (eC (.int 1)) (eVar 1) (eC (.int 12))))) (bNot (eB (eB1 cAll (zae (zbe [none,some 1] (iLst (eVar 0)) (gE 0) zb1) aNil))))) (sRet .fu [false,false] (eC (.bl false))) sNil)
 zhw) ρ
noncomputable def zbJ (ρ:SEnv):SRes:=(sSeq (sSet 1 [true,false] (eB1 cLen (zae (eVar 0) aNil)))
 zhv) ρ
noncomputable def za8 (ts:List T):Res T:=fin .fu (zbJ (zaB zba ts))
noncomputable def zfs:List Str:=["found"]
noncomputable def zl7 (ρ:SEnv):SRes:=(sRet .fu [true] (vAnd (eB1 cIsi (zae (eVar 0) (zae (eC (.ty "int")) aNil))) (vNot (eB1 cIsi (zae (eVar 0) (zae (eC (.ty "bool")) aNil)))))) ρ
noncomputable def zgl (ts:List T):Res T:=fin .fu (zl7 (zaB zfs ts))
noncomputable def zft:List Str:=["found", "due", "one", "other"]
noncomputable def zfy:VEnv→Res T:=(zaN 1 zgl (zae (eVar 0) aNil))
noncomputable def zdT (ρ:SEnv):SRes:=(sIf [false,false,true,true] (bOr (bNot (eB (eB1 cIsi (zae (eVar 2) (zae (eC (.ty "list")) aNil))))) (bOr (eB (eOp (oNe) (eVar 2) (eVar 3))) (bNot (eB (eB1 cAll (zae (zbe [none] (iLst (eVar 2)) (gE 0) zfy) aNil)))))) (sRet .fu [false,false,false,false] (eC (.bl false))) sNil) ρ
@[simp] noncomputable def zl6 (ρ:SEnv):SRes:=(sSeq (sFor [true,true,false,false] (iZip (eVar 0) (eVar 1)) (gS2 2 3) zdT)
 (sRet .fu [false,false,false,false] (eC (.bl true)))) ρ
noncomputable def zl9 (ρ:SEnv):SRes:=(sSeq (sIf [true,true,false,false] (bOr (bNot (eB (eB1 cIsi (zae (eVar 0) (zae (eC (.ty "list")) aNil))))) (eB (eOp (oNe) (eB1 cLen (zae (eVar 0) aNil)) (eB1 cLen (zae (eVar 1) aNil))))) (sRet .fu [false,false,false,false] (eC (.bl false))) sNil)
 zl6) ρ
noncomputable def zgm (ts:List T):Res T:=fin .fu (zl9 (zaB zft ts))
noncomputable def zhE:List Str:=["board"]
noncomputable def zjJ:VEnv→Res T:=(eB1 (zeq .fu) (zae (eVar 0) aNil))
noncomputable def zn9 (ρ:SEnv):SRes:=(sRet .fu [true] (zbe [none] (iLst (eVar 0)) (gE 0) zjJ)) ρ
noncomputable def zja (ts:List T):Res T:=fin .fu (zn9 (zaB zhE ts))
noncomputable def zaP:List Str:=["board", "largest", "size", "row"]
noncomputable def zbg (ρ:SEnv):SRes:=(sIf [false,false,true,true] (eB (eOp (oNe) (eB1 cLen (zae (eVar 3) aNil)) (eVar 2))) (zfO 1 [false,false,false,false] uOk) sNil) ρ
@[simp] noncomputable def zes (ρ:SEnv):SRes:=(sFor [true,false,false,false] (iLst (eVar 0)) (gS 3) zbg) ρ
@[simp] noncomputable def zer (ρ:SEnv):SRes:=(sSeq (sIf [false,true,true,false] (bOr (eB (eOp (oI iLt) (eVar 2) (eC (.int 1)))) (eB (eOp (oI iGt) (eVar 2) (eVar 1)))) (zfO 1 [false,true,false,false] (uInt (eVar 1) uOk)) sNil)
 zes) ρ
noncomputable def zbz (ρ:SEnv):SRes:=(sSeq (sSet 2 [true,false,false,false] (eB1 cLen (zae (eVar 0) aNil)))
 zer) ρ
noncomputable def za2 (ts:List T):Res T:=fin .fu (zbz (zaB zaP ts))
noncomputable def zcZ:List Str:=["lists", "numbers", "part"]
noncomputable def zd9 (ρ:SEnv):SRes:=(sExt 1 .al [false,false,true] (eVar 2)) ρ
@[simp] noncomputable def zkA (ρ:SEnv):SRes:=(sSeq (sFor [true,false,false] (iSeq (eVar 0)) (gS 2) zd9)
 (zdV 1)) ρ
noncomputable def zgE (ρ:SEnv):SRes:=(sSeq (sSet 1 [false,false,false] (eLst aNil))
 zkA) ρ
noncomputable def zco (ts:List T):Res T:=fin .fu (zgE (zaB zcZ ts))
noncomputable def zaY:List Str:=["board"]
@[simp] noncomputable def zfl (ρ:SEnv):SRes:=(sIf [true] (eB (eOp (oNe) (eB1 zd4 (zae (zaN 1 zco (zae (eVar 0) aNil)) aNil)) (eLR rng2 (zae (eC (.int 1)) (zae (eOp (oI iAdd) (eOp (oI iMul) (eB1 cLen (zae (eVar 0) aNil)) (eB1 cLen (zae (eVar 0) aNil))) (eC (.int 1))) aNil))))) (zfO 1 [false] uOk) sNil) ρ
noncomputable def zbE (ρ:SEnv):SRes:=(sSeq (zmm [true] (zaN 2 za2 (zae (eVar 0) (zae (eC (.int 12)) aNil))))
 zfl) ρ
noncomputable def zaE (ts:List T):Res T:=fin .fu (zbE (zaB zaY ts))
noncomputable def zdS:List Str:=["board", "place"]
noncomputable def zec:VEnv→Res T:=(fun ρ=>chk ((eOp oIx (eVar 0) (eVar 1)) ρ))
noncomputable def zjA (ρ:SEnv):SRes:=(sRet .fu [true,true] (zbe [none,some 1] (iLst (eVar 0)) (gE 0) zec)) ρ
noncomputable def zex (ts:List T):Res T:=fin .fu (zjA (zaB zdS ts))
noncomputable def zcT:List Str:=["board"]
noncomputable def zdm:VEnv→Res T:=(zaN 2 zex (zae (eVar 1) (zae (eVar 0) aNil)))
noncomputable def zhz (ρ:SEnv):SRes:=(sRet .fu [true] (zbe [none,some 0] (iRng rng1 (zae (eB1 cLen (zae (eVar 0) aNil)) aNil)) (gE 0) zdm)) ρ
noncomputable def zdw (ts:List T):Res T:=fin .fu (zhz (zaB zcT ts))
noncomputable def zbS:List Str:=["board", "last", "falling", "rising"]
noncomputable def zcx:VEnv→Res T:=(fun ρ=>chk ((eOp oIx (eOp oIx (eVar 1) (eVar 0)) (eVar 0)) ρ))
noncomputable def zcw:VEnv→Res T:=(fun ρ=>chk ((eOp oIx (eOp oIx (eVar 1) (eVar 0)) (eOp (oI iSub) (eVar 2) (eVar 0))) ρ))
@[simp] noncomputable def zgD (ρ:SEnv):SRes:=(sRet .sp [false,false,true,true] (eLst (zae (eVar 2) (zae (eVar 3) aNil)))) ρ
@[simp] noncomputable def zgC (ρ:SEnv):SRes:=(sSeq (sSet 3 [true,true,false,false] (zbe [none,some 0,some 1] (iRng rng1 (zae (eB1 cLen (zae (eVar 0) aNil)) aNil)) (gE 0) zcw))
 zgD) ρ
@[simp] noncomputable def zgB (ρ:SEnv):SRes:=(sSeq (sSet 2 [true,false,false,false] (zbe [none,some 0] (iRng rng1 (zae (eB1 cLen (zae (eVar 0) aNil)) aNil)) (gE 0) zcx))
 zgC) ρ
noncomputable def zfo (ρ:SEnv):SRes:=(sSeq (sSet 1 [true,false,false,false] (eOp (oI iSub) (eB1 cLen (zae (eVar 0) aNil)) (eC (.int 1))))
 zgB) ρ
noncomputable def zcn (ts:List T):Res T:=fin .al (zfo (zaB zbS ts))
noncomputable def zbT:List Str:=["lines"]
noncomputable def zcy:VEnv→Res T:=(eB1 cSum (zae (eVar 0) aNil))
noncomputable def zfp (ρ:SEnv):SRes:=(sRet .fu [true] (zbe [none] (iLst (eVar 0)) (gE 0) zcy)) ρ
noncomputable def zbt (ts:List T):Res T:=fin .fu (zfp (zaB zbT ts))
noncomputable def zf3:List Str:=["board"]
@[simp] noncomputable def znt (ρ:SEnv):SRes:=(sRet .fu [true] (eTup (zae (zaN 1 zbt (zae (eVar 0) aNil)) (zae (zaN 1 zbt (zae (zaN 1 zdw (zae (eVar 0) aNil)) aNil)) (zae (zaN 1 zbt (zae (zaN 1 zcn (zae (eVar 0) aNil)) aNil)) aNil))))) ρ
noncomputable def zmb (ρ:SEnv):SRes:=(sSeq (zmm [true] (zaN 1 zaE (zae (eVar 0) aNil)))
 znt) ρ
noncomputable def zef (ts:List T):Res T:=fin .fu (zmb (zaB zf3 ts))
noncomputable def zce:List Str:=["board", "every_sum"]
@[simp] noncomputable def ziA (ρ:SEnv):SRes:=(sRet .fu [false,true] (eOp (oEq) (eB1 cMin (zae (eVar 1) aNil)) (eB1 cMax (zae (eVar 1) aNil)))) ρ
noncomputable def zfq (ρ:SEnv):SRes:=(sSeq (sSet 1 [true,false] (zaN 1 zco (zae (zaN 1 zef (zae (eVar 0) aNil)) aNil)))
 ziA) ρ
noncomputable def zb6 (ts:List T):Res T:=fin .fu (zfq (zaB zce ts))
noncomputable def zgF:List Str:=["board", "way", "e"]
@[simp] noncomputable def zpB (ρ:SEnv):SRes:=(sRet .fu [true,false,false] (zaN 1 zb6 (zae (eVar 0) aNil))) ρ
noncomputable def zl8 (ρ:SEnv):SRes:=(sTry (sSeq (sIf [false,true,false] (eB (eOp (oEq) (eVar 1) (eC (.int 0)))) (sRet .fu [true,false,false] (zaN 1 zef (zae (eVar 0) aNil))) sNil)
 zpB) (zmR [0,1] 1 .fu (.lst [(.sc (.bl true))]) hBad)) ρ
noncomputable def zfD (ts:List T):Res T:=fin .fu (zl8 (zaB zgF ts))
noncomputable def ziB:List Str:=["script", "board", "cell", "lap", "handed", "found", "like", "row"]
@[simp] noncomputable def zpK (ρ:SEnv):SRes:=(sSet 1 [true,false,false,false,false,false,false,false] (zaN 2 zbI (zae (zaN 2 zbd (zae (eVar 0) (zae (eC (.int 6)) aNil))) (zae (eC (.int 13)) aNil)))) ρ
@[simp] noncomputable def zpJ (ρ:SEnv):SRes:=(zkS .al 1 [false,true,true,false,false,false,false,false] (zaN 2 zi8 (zae (eVar 1) (zae (eOp (oI iDiv) (eVar 2) (eC (.int 3))) aNil)))) ρ
@[simp] noncomputable def zpI (ρ:SEnv):SRes:=(sIf [false,false,true,false,false,false,false,false] (eB (eOp (oEq) (eOp (oI iMod) (eVar 2) (eC (.int 17))) (eC (.int 5)))) zpK sNil) ρ
@[simp] noncomputable def zpH (ρ:SEnv):SRes:=(sIf [false,true,false,false,false,false,true,false] (bNot (eB (zaN 2 zi6 (zae (eVar 6) (zae (zaN 1 zi7 (zae (eVar 1) aNil)) aNil))))) (sRet .fu [false,false,false,false,false,false,false,false] (eC (.bl false))) (zeu 5 7 (.int 0))) ρ
@[simp] noncomputable def zpG (ρ:SEnv):SRes:=(sIf [false,false,false,false,false,true,true,false] (bOr (eB (eOp (oNe) (eVar 5) (eLst (zae (eC (.bl true)) aNil)))) (eB (eOp (oNe) (eVar 6) (eLst (zae (eC (.bl true)) aNil))))) (sRet .fu [false,false,false,false,false,false,false,false] (eC (.bl false))) sNil) ρ
@[simp] noncomputable def zpF (ρ:SEnv):SRes:=(sIf [false,true,false,false,false,true,false,false] (bOr (bNot (eB (eB1 cIsi (zae (eVar 5) (zae (eC (.ty "tuple")) aNil))))) (bNot (eB (zaN 2 zgm (zae (eB1 (zeq .sp) (zae (eVar 5) aNil)) (zae (eB1 (zeq .sp) (zae (zaN 1 zfQ (zae (eVar 1) aNil)) aNil)) aNil)))))) (sRet .fu [false,false,false,false,false,false,false,false] (eC (.bl false))) zpH) ρ
@[simp] noncomputable def zpE (ρ:SEnv):SRes:=(sIf [false,true,false,false,false,false,false,false] (bNot (eB (zaN 1 za8 (zae (eVar 1) aNil)))) zpG zpF) ρ
@[simp] noncomputable def zpD (ρ:SEnv):SRes:=(sSeq (sIf [false,true,false,false,true,false,false,false] (eB (eOp (oNe) (eVar 4) (eVar 1))) (sRet .fu [false,false,false,false,false,false,false,false] (eC (.bl false))) sNil)
 zpE) ρ
@[simp] noncomputable def zpC (ρ:SEnv):SRes:=(sSeq (sSet 6 [false,false,false,false,true,false,false,false] (zaN 2 zfD (zae (eVar 4) (zae (eC (.int 1)) aNil))))
 zpD) ρ
@[simp] noncomputable def znx (ρ:SEnv):SRes:=(sSeq (sSet 5 [false,false,false,false,true,false,false,false] (zaN 2 zfD (zae (eVar 4) (zae (eC (.int 0)) aNil))))
 zpC) ρ
noncomputable def zd8 (ρ:SEnv):SRes:=(sSeq (sSet 4 [false,true,false,false,false,false,false,false] (zaN 1 zja (zae (eVar 1) aNil)))
 znx) ρ
@[simp] noncomputable def znw (ρ:SEnv):SRes:=(sRet .fu [false,false,false,false,false,false,false,false] (eC (.bl true))) ρ
@[simp] noncomputable def zdP (ρ:SEnv):SRes:=(sSeq (sFor [false,false,false,false,false,false,false,false] (iRng rng1 (zae (eC (.int 2)) aNil)) (gS 3) zd8)
 znw) ρ
@[simp] noncomputable def znv (ρ:SEnv):SRes:=(sSeq (sIf [false,false,true,false,false,false,false,false] (eB (eOp (oEq) (eOp (oI iMod) (eVar 2) (eC (.int 3))) (eC (.int 1)))) zpJ zpI)
 zdP) ρ
@[simp] noncomputable def znu (ρ:SEnv):SRes:=(sSeq (sSet 2 [true,false,false,false,false,false,false,false] (zaN 2 zbd (zae (eVar 0) (zae (eC (.int 5)) aNil))))
 znv) ρ
noncomputable def zny (ρ:SEnv):SRes:=(sSeq (zkS .al 1 [true,false,false,false,false,false,false,false] (zaN 2 zew (zae (eVar 0) (zae (eC (.int 0)) aNil))))
 znu) ρ
noncomputable def zlo (ts:List T):Res T:=fin .fu (zny (zaB ziB ts))
theorem nd_0:(["number"]:List Str).Nodup:=zam (by decide +kernel)
theorem nd_1:(["k", "numbers", "size"]:List Str).Nodup:=zam (by decide +kernel)
theorem nd_2:(["row"]:List Str).Nodup:=zam (by decide +kernel)
theorem nd_3:(["k", "board"]:List Str).Nodup:=zam (by decide +kernel)
theorem nd_4:(["row", "k"]:List Str).Nodup:=zam (by decide +kernel)
theorem nd_5:(["one", "order", "board"]:List Str).Nodup:=zam (by decide +kernel)
theorem nd_6:(["two", "board", "one"]:List Str).Nodup:=zam (by decide +kernel)
theorem nd_7:(["r", "size", "board"]:List Str).Nodup:=zam (by decide +kernel)
theorem nd_8:(["c", "board", "r"]:List Str).Nodup:=zam (by decide +kernel)
theorem nd_9:(["row", "size"]:List Str).Nodup:=zam (by decide +kernel)
theorem zqH:(["number", "size"]:List Str).Nodup:=zam (by decide +kernel)
theorem zsq:(["k"]:List Str).Nodup:=zam (by decide +kernel)
theorem zsp:(["x"]:List Str).Nodup:=zam (by decide +kernel)
theorem zso:(["place", "board"]:List Str).Nodup:=zam (by decide +kernel)
theorem zsn:(["row", "place"]:List Str).Nodup:=zam (by decide +kernel)
theorem zsm:(["k", "board", "last"]:List Str).Nodup:=zam (by decide +kernel)
theorem zsl:(["line"]:List Str).Nodup:=zam (by decide +kernel)
set_option genInjectivity false in
set_option genSizeOf false in
structure Adr where
 fqcell_at:Addr
 dqcell_at:FuncData
 fqtold:Addr
 dqtold:FuncData
 fqmix:Addr
 dqmix:FuncData
 fqorder_by:Addr
 dqorder_by:FuncData
 fqboard_by:Addr
 dqboard_by:FuncData
 fqsums:Addr
 dqsums:FuncData
 fqlike:Addr
 dqlike:FuncData
 fqfair_by:Addr
 dqfair_by:FuncData
 fqlike_by:Addr
 dqlike_by:FuncData
 fqany_by:Addr
 dqany_by:FuncData
 fqhurt:Addr
 dqhurt:FuncData
 fqflat:Addr
 dqflat:FuncData
 fqis_board:Addr
 dqis_board:FuncData
 fqwhole:Addr
 dqwhole:FuncData
 fqboard:Addr
 dqboard:FuncData
 fqcopy:Addr
 dqcopy:FuncData
 f_check_square:Addr
 d_check_square:FuncData
 f_joined:Addr
 d_joined:FuncData
 f_check_board:Addr
 d_check_board:FuncData
 f_column:Addr
 d_column:FuncData
 f_columns:Addr
 d_columns:FuncData
 f_long_ways:Addr
 d_long_ways:FuncData
 f_line_sums:Addr
 d_line_sums:FuncData
 f_sums:Addr
 d_sums:FuncData
 f_is_like:Addr
 d_is_like:FuncData
 fqmet:Addr
 dqmet:FuncData
 f_law:Addr
 d_law:FuncData
 C_SumError:Addr
 C_BadBoard:Addr
 tk_LARGEST_SIZE:Nat
noncomputable def Adr.cl (t:Adr):Nat→Addr
 | 0=>t.C_SumError
 | 1=>t.C_BadBoard
 | _=>0
structure Txt (K:PySem.W.Frag) (mg:Str→Option Value) (t:Adr):Prop where
 Fqcell_at:Fun K "_law_cell_at" "_law_cell_at" zbM t.fqcell_at t.dqcell_at
 mgqcell_at:mg "_law_cell_at" = some (.ref t.fqcell_at)
 bqcell_at:zbc K t.dqcell_at ["script", "k"] []
 Fqtold:Fun K "_law_told" "_law_told" zeM t.fqtold t.dqtold
 mgqtold:mg "_law_told" = some (.ref t.fqtold)
 bqtold:zbc K t.dqtold ["found", "due"] []
 Fqmix:Fun K "_law_mix" "_law_mix" zhL t.fqmix t.dqmix
 mgqmix:mg "_law_mix" = some (.ref t.fqmix)
 bqmix:zbc K t.dqmix ["cell", "k", "many"] []
 Fqorder_by:Fun K "_law_order_by" "_law_order_by" zbo t.fqorder_by t.dqorder_by
 mgqorder_by:mg "_law_order_by" = some (.ref t.fqorder_by)
 bqorder_by:zbc K t.dqorder_by ["cell", "many"] []
 Fqboard_by:Fun K "_law_board_by" "_law_board_by" zbq t.fqboard_by t.dqboard_by
 mgqboard_by:mg "_law_board_by" = some (.ref t.fqboard_by)
 bqboard_by:zbc K t.dqboard_by ["cell", "size"] []
 Fqsums:Fun K "_law_sums" "_law_sums" zeN t.fqsums t.dqsums
 mgqsums:mg "_law_sums" = some (.ref t.fqsums)
 bqsums:zbc K t.dqsums ["board"] []
 Fqlike:Fun K "_law_like" "_law_like" zeO t.fqlike t.dqlike
 mgqlike:mg "_law_like" = some (.ref t.fqlike)
 bqlike:zbc K t.dqlike ["board"] []
 Fqfair_by:Fun K "_law_fair_by" "_law_fair_by" zbL t.fqfair_by t.dqfair_by
 mgqfair_by:mg "_law_fair_by" = some (.ref t.fqfair_by)
 bqfair_by:zbc K t.dqfair_by ["cell", "size"] []
 Fqlike_by:Fun K "_law_like_by" "_law_like_by" zbK t.fqlike_by t.dqlike_by
 mgqlike_by:mg "_law_like_by" = some (.ref t.fqlike_by)
 bqlike_by:zbc K t.dqlike_by ["script", "base", "size"] []
 Fqany_by:Fun K "_law_any_by" "_law_any_by" zcg t.fqany_by t.dqany_by
 mgqany_by:mg "_law_any_by" = some (.ref t.fqany_by)
 bqany_by:zbc K t.dqany_by ["script", "base"] []
 Fqhurt:Fun K "_law_hurt" "_law_hurt" zeP t.fqhurt t.dqhurt
 mgqhurt:mg "_law_hurt" = some (.ref t.fqhurt)
 bqhurt:zbc K t.dqhurt ["board", "cell"] []
 Fqflat:Fun K "_law_flat" "_law_flat" zeQ t.fqflat t.dqflat
 mgqflat:mg "_law_flat" = some (.ref t.fqflat)
 bqflat:zbc K t.dqflat ["board"] []
 Fqis_board:Fun K "_law_is_board" "_law_is_board" zbp t.fqis_board t.dqis_board
 mgqis_board:mg "_law_is_board" = some (.ref t.fqis_board)
 bqis_board:zbc K t.dqis_board ["board"] []
 Fqwhole:Fun K "_law_whole" "_law_whole" zc5 t.fqwhole t.dqwhole
 mgqwhole:mg "_law_whole" = some (.ref t.fqwhole)
 bqwhole:zbc K t.dqwhole ["found"] []
 Fqboard:Fun K "_law_board" "_law_board" zc6 t.fqboard t.dqboard
 mgqboard:mg "_law_board" = some (.ref t.fqboard)
 bqboard:zbc K t.dqboard ["found", "due"] []
 Fqcopy:Fun K "_law_copy" "_law_copy" zeR t.fqcopy t.dqcopy
 mgqcopy:mg "_law_copy" = some (.ref t.fqcopy)
 bqcopy:zbc K t.dqcopy ["board"] []
 F_check_square:Fun K "check_square" "check_square" zaO t.f_check_square t.d_check_square
 mg_check_square:mg "check_square" = some (.ref t.f_check_square)
 b_check_square:zbc K t.d_check_square ["board", "largest"] []
 F_joined:Fun K "joined" "joined" zch t.f_joined t.d_joined
 mg_joined:mg "joined" = some (.ref t.f_joined)
 b_joined:zbc K t.d_joined ["lists"] []
 F_check_board:Fun K "check_board" "check_board" zaV t.f_check_board t.d_check_board
 mg_check_board:mg "check_board" = some (.ref t.f_check_board)
 b_check_board:zbc K t.d_check_board ["board"] []
 F_column:Fun K "column" "column" zci t.f_column t.d_column
 mg_column:mg "column" = some (.ref t.f_column)
 b_column:zbc K t.d_column ["board", "place"] []
 F_columns:Fun K "columns" "columns" zbO t.f_columns t.d_columns
 mg_columns:mg "columns" = some (.ref t.f_columns)
 b_columns:zbc K t.d_columns ["board"] []
 F_long_ways:Fun K "long_ways" "long_ways" zbh t.f_long_ways t.d_long_ways
 mg_long_ways:mg "long_ways" = some (.ref t.f_long_ways)
 b_long_ways:zbc K t.d_long_ways ["board"] []
 F_line_sums:Fun K "line_sums" "line_sums" zbi t.f_line_sums t.d_line_sums
 mg_line_sums:mg "line_sums" = some (.ref t.f_line_sums)
 b_line_sums:zbc K t.d_line_sums ["lines"] []
 F_sums:Fun K "sums" "sums" zeU t.f_sums t.d_sums
 mg_sums:mg "sums" = some (.ref t.f_sums)
 b_sums:zbc K t.d_sums ["board"] []
 F_is_like:Fun K "is_like" "is_like" zbN t.f_is_like t.d_is_like
 mg_is_like:mg "is_like" = some (.ref t.f_is_like)
 b_is_like:zbc K t.d_is_like ["board"] []
 Fqmet:Fun K "_law_met" "_law_met" zhM t.fqmet t.dqmet
 mgqmet:mg "_law_met" = some (.ref t.fqmet)
 bqmet:zbc K t.dqmet ["board", "way"] []
 F_law:Fun K "law" "law" s_law t.f_law t.d_law
 mg_law:mg "law" = some (.ref t.f_law)
 b_law:zbc K t.d_law ["script"] []
 mg_SumError:mg "SumError" = some (.ref t.C_SumError)
 x_SumError:PySem.W.excIn K t.C_SumError bmV "ValueError.__new__" = true
 e_SumError_SumError:PySem.W.exmOne K (.ref t.C_SumError) (.ref t.C_SumError)=some true
 e_BadBoard_SumError:PySem.W.exmOne K (.ref t.C_BadBoard) (.ref t.C_SumError)=some true
 v_SumError:PySem.W.kitCls K (.ref t.C_SumError) (.type "ValueError")=some true
 k_SumError_SumError:PySem.W.kitCls K (.ref t.C_SumError) (.ref t.C_SumError)=some true
 k_BadBoard_SumError:PySem.W.kitCls K (.ref t.C_BadBoard) (.ref t.C_SumError)=some true
 mg_BadBoard:mg "BadBoard" = some (.ref t.C_BadBoard)
 x_BadBoard:PySem.W.excIn K t.C_BadBoard bmV "ValueError.__new__" = true
 e_SumError_BadBoard:PySem.W.exmOne K (.ref t.C_SumError) (.ref t.C_BadBoard)=some false
 e_BadBoard_BadBoard:PySem.W.exmOne K (.ref t.C_BadBoard) (.ref t.C_BadBoard)=some true
 v_BadBoard:PySem.W.kitCls K (.ref t.C_BadBoard) (.type "ValueError")=some true
 k_BadBoard_BadBoard:PySem.W.kitCls K (.ref t.C_BadBoard) (.ref t.C_BadBoard)=some true
 c_LARGEST_SIZE:mg "LARGEST_SIZE" = some (.int 12 t.tk_LARGEST_SIZE)
 n_ValueError:mg "ValueError" = none
 n_all:mg "all" = none
 n_bool:mg "bool" = none
 n_int:mg "int" = none
 n_isinstance:mg "isinstance" = none
 n_len:mg "len" = none
 n_list:mg "list" = none
 n_max:mg "max" = none
 n_min:mg "min" = none
 n_range:mg "range" = none
 n_set:mg "set" = none
 n_sorted:mg "sorted" = none
 n_sum:mg "sum" = none
 n_tuple:mg "tuple" = none
 n_zip:mg "zip" = none
seal PSs PS PE PA PT PW PI PG PGs PO PJ PH OpR IxR UnR zbF tr tra trb tri tro trs tju trh TL.st
section
variable {P:Program} {w:World} {K:PySem.W.Frag} {mg:Str→Option Value} {base:Heap} {t:Adr}
theorem Txt.e_BadBoard (T:Txt K mg t):∀ c∈[0,1],PySem.W.exmOne K (.ref (t.cl c)) (.ref t.C_BadBoard)=some (subC c 1):=by
 intro c h
 simp only [List.mem_cons,List.not_mem_nil,or_false] at h
 rcases h with rfl | rfl
 ·exact T.e_SumError_BadBoard
 ·exact T.e_BadBoard_BadBoard
theorem zfE (T:Txt K mg t) {oe:Obj} (h:∃ c∈[0,1],subC c 1=true∧oe.cls=.ref (t.cl c)):PySem.W.kitCls K oe.cls (.ref t.C_SumError)=some true:=by
 obtain⟨c,hc,h1,h2⟩:=h
 rw [h2]
 simp only [List.mem_cons,List.not_mem_nil,or_false] at hc
 rcases hc with rfl | rfl
 ·exact absurd h1 (by decide)
 ·exact T.k_BadBoard_SumError
theorem zep (T:Txt K mg t) {oe:Obj} (h:∃ c∈[0,1],subC c 1=true∧oe.cls=.ref (t.cl c)):PySem.W.kitCls K oe.cls (.type "ValueError")=some true:=by
 obtain⟨c,hc,h1,h2⟩:=h
 rw [h2]
 simp only [List.mem_cons,List.not_mem_nil,or_false] at hc
 rcases hc with rfl | rfl
 ·exact absurd h1 (by decide)
 ·exact T.v_BadBoard
theorem zjS:FnScope zcc ["script", "k"] (defScope zbM):=⟨rfl,rfl,rfl,by decide +kernel,rfl,by decide +kernel,by decide +kernel⟩
theorem zj8:zcc.Nodup:=zam (by decide +kernel)
theorem zbH (T:Txt K mg t):FnOk P w K mg base (CXe P w) 1 t.fqcell_at t.dqcell_at ["script", "k"] (spT K t.cl 2 .fu zbd):=
 zaQ (N:=zcc) T.Fqcell_at zjS rfl fun cdv A outer s H E S₀ hd hr=>by
 have hu5:(A.deeper (PyProof.Rows.envOfC "_law_cell_at" (defScope zbM) s.heap.objs.size t.fqcell_at cdv)).units + 5 < cLine:=by have:=hr.un;lia
 have nd:=zj8
 refine zag ?_ ?_
 ·refine zbb [true,true] (zaH (o_lt) (zab (pv 1)) (zas (md:=.al) zcB rfl T.n_len PySem.boot_len (zaa (zab (pv 0)) zah)) (zay _)) ?_ ?_
  ·refine zaj ?_
   exact (zaD [true,true] (JE.sc (md1:=.fu) (za0 o_ix (zab (pv 0)) (zab (pv 1)) (fun _ _=>rfl))))
  ·exact zaF
 refine zaj ?_
 exact (zaD [false,false] (zac (md:=.fu)))
theorem zom:FnScope zhA ["found", "due"] (defScope zeM):=⟨rfl,rfl,rfl,by decide +kernel,rfl,by decide +kernel,by decide +kernel⟩
theorem zoT:zhA.Nodup:=zam (by decide +kernel)
theorem zoN (T:Txt K mg t):FnOk P w K mg base (CXe P w) 1 t.fqtold t.dqtold ["found", "due"] (spT K t.cl 2 .fu zi6):=
 zaQ (N:=zhA) T.Fqtold zom rfl fun cdv A outer s H E S₀ hd hr=>by
 have hu5:(A.deeper (PyProof.Rows.envOfC "_law_told" (defScope zeM) s.heap.objs.size t.fqtold cdv)).units + 5 < cLine:=by have:=hr.un;lia
 have nd:=zoT
 refine zaj ?_
 exact (zaD [true,true] (zlz (md:=.fu) (zas (md:=.al) zkm rfl T.n_isinstance boot_isinstance (zaa (zab (pv 0)) (zaa (zdB (md:=.al) (zc7 (v:=.ty "bool") rfl T.n_bool boot_bool rfl)) zah))) (zlx (zfb (md:=.fu) (o_eq hu5) (zab (pv 0)) (zab (pv 1)) (zay _)))))
theorem zp5:FnScope zmc ["cell", "k", "many"] (defScope zhL):=⟨rfl,rfl,rfl,by decide +kernel,rfl,by decide +kernel,by decide +kernel⟩
theorem zqE:zmc.Nodup:=zam (by decide +kernel)
theorem znN (T:Txt K mg t):FnOk P w K mg base (CXe P w) 1 t.fqmix t.dqmix ["cell", "k", "many"] (spT K t.cl 3 .fu zlm):=
 zaQ (N:=zmc) T.Fqmix zp5 rfl fun cdv A outer s H E S₀ hd hr=>by
 have hu5:(A.deeper (PyProof.Rows.envOfC "_law_mix" (defScope zhL) s.heap.objs.size t.fqmix cdv)).units + 5 < cLine:=by have:=hr.un;lia
 have nd:=zqE
 refine zag ?_ ?_
 ·exact (zav (i:=3) [false,false,false,false,false] nd rfl (.inl rfl) (za6 (by refine zaa (zac (md:=.fu)) ?_;refine zaa (zac (md:=.fu)) ?_;refine zaa (zac (md:=.fu)) ?_;refine zaa (zac (md:=.fu)) ?_;refine zaa (zac (md:=.fu)) ?_;refine zaa (zac (md:=.fu)) ?_;refine zaa (zac (md:=.fu)) ?_;refine zaa (zac (md:=.fu)) ?_;refine zaa (zac (md:=.fu)) ?_;refine zaa (zac (md:=.fu)) ?_;refine zaa (zac (md:=.fu)) ?_;refine zaa (zac (md:=.fu)) ?_;refine zaa (zac (md:=.fu)) ?_;exact zah)))
 refine zag ?_ ?_
 ·exact (zav (i:=4) [true,true,false,true,false] nd rfl (.inl rfl) (zal (md:=.fu) za4 (zal (md:=.al) za4 (zal (md:=.al) zb4 (zal (md:=.al) za4 (zal (md:=.al) za7 (zab (pv 0)) (zac (md:=.al))) (zac (md:=.al))) (za0 o_ix (zab (pv 3)) (zal (md:=.al) za7 (zab (pv 1)) (zac (md:=.al))) (fun _ _=>rfl))) (zal (md:=.al) zb4 (zac (md:=.al)) (zab (pv 1)))) (zal (md:=.al) zb4 (zac (md:=.al)) (zal (md:=.al) zbB (zab (pv 1)) (zac (md:=.al))))))
 refine zag ?_ ?_
 ·exact (zav (i:=4) [false,false,false,false,true] nd rfl (.inl rfl) (zal (md:=.fu) za7 (zab (pv 4)) (zac (md:=.al))))
 refine zaj ?_
 exact (zaD [false,true,true,false,true] (zal (md:=.fu) za7 (zal (md:=.al) zbB (zal (md:=.al) za7 (zal (md:=.al) za4 (zal (md:=.al) zb4 (zab (pv 4)) (zab (pv 4))) (zal (md:=.al) zb4 (zac (md:=.al)) (zab (pv 1)))) (zac (md:=.al))) (zac (md:=.al))) (zab (pv 2))))
theorem zhO:FnScope zcb ["cell", "many"] (defScope zbo):=⟨rfl,rfl,rfl,by decide +kernel,rfl,by decide +kernel,by decide +kernel⟩
theorem zhV:zcb.Nodup:=zam (by decide +kernel)
theorem zeX (T:Txt K mg t):FnOk P w K mg base (CXe P w) 2 t.fqorder_by t.dqorder_by ["cell", "many"] (spT K t.cl 2 .fu zb5):=
 zaQ (N:=zcb) T.Fqorder_by zhO rfl fun cdv A outer s H E S₀ hd hr=>by
 have hu5:(A.deeper (PyProof.Rows.envOfC "_law_order_by" (defScope zbo) s.heap.objs.size t.fqorder_by cdv)).units + 5 < cLine:=by have:=hr.un;lia
 have nd:=zhV
 refine zag ?_ ?_
 ·exact (zav (i:=2) [true,false,false,false,false] nd rfl (.inl rfl) (zal (md:=.fu) zbB (zab (pv 0)) (zac (md:=.al))))
 refine zag ?_ ?_
 ·exact (zav (i:=3) [false,false,false,false,false] nd rfl (.inl rfl) (za6 zah))
 refine zag ?_ ?_
 ·refine zcL [false,true,false,false,false] ownE rfl (zaI rfl T.n_range (zaa (zab (pv 1)) zah)) (zaq (i:=4) nd rfl (.inl rfl)) (zaT 4) ?_
  refine zaj ?_
  refine zbb [true,false,false,false,false] (zaH (o_eq hu5) (zal (md:=.al) za7 (zab (pv 0)) (zac (md:=.al))) (zac (md:=.al)) (zay _)) ?_ ?_
  ·refine zag ?_ ?_
   ·exact (znU [false,false,true,false,true] (pv 3) (zal (md:=.al) za7 (zab (pv 2)) (zal (md:=.al) za4 (zab (pv 4)) (zac (md:=.al)))) (zab (pv 4)))
   refine zaj ?_
   exact (zav (i:=2) [false,false,true,false,true] nd rfl (.inl rfl) (zal (md:=.fu) zbB (zab (pv 2)) (zal (md:=.al) za4 (zab (pv 4)) (zac (md:=.al)))))
  ·refine zaj ?_
   exact (znU [false,false,true,false,true] (pv 3) (JE.al (zar (znN T) (hr.mono (by decide)) rfl T.mgqmix T.Fqmix.kp T.bqmix za3 (by refine zaa (zab (pv 2)) ?_;refine zaa (zab (pv 4)) ?_;refine zaa (zal (md:=.al) za4 (zab (pv 4)) (zac (md:=.al))) ?_;exact zah))) (zab (pv 4)))
 refine zaj ?_
 exact (zcp (pv 3))
theorem zhQ:FnScope zcd ["cell", "size"] (defScope zbq):=⟨rfl,rfl,rfl,by decide +kernel,rfl,by decide +kernel,by decide +kernel⟩
theorem zhX:zcd.Nodup:=zam (by decide +kernel)
theorem zeY (T:Txt K mg t):FnOk P w K mg base (CXe P w) 3 t.fqboard_by t.dqboard_by ["cell", "size"] (spT K t.cl 2 .fu zbI):=
 zaQ (N:=zcd) T.Fqboard_by zhQ rfl fun cdv A outer s H E S₀ hd hr=>by
 have hu5:(A.deeper (PyProof.Rows.envOfC "_law_board_by" (defScope zbq) s.heap.objs.size t.fqboard_by cdv)).units + 5 < cLine:=by have:=hr.un;lia
 have nd:=zhX
 refine zag ?_ ?_
 ·exact (zav (i:=2) [true,true,false] nd rfl (.inr rfl) (zaJ zaC (Blk.of rfl) (N':=["number"]) (ix:=[none]) rfl rfl (zaR (JE.al (zar (zeX T) (hr.mono (by decide)) rfl T.mgqorder_by T.Fqorder_by.kp T.bqorder_by za3 (zaa (zab (pv 0)) (zaa (zal (md:=.al) zb4 (zab (pv 1)) (zab (pv 1))) zah))))) (fun _ _ _ _ _=>zaq (i:=0) nd_0 rfl (by first | exact Or.inl rfl | exact Or.inr rfl)) (zaU (i:=0) (by decide)) (fun _ _ _ _ _=>(zal (md:=.fu) za4 (zab (pv 0)) (zac (md:=.al))))))
 refine zaj ?_
 exact (zaD [false,true,true] (zaJ zaC (Blk.of rfl) (N':=["k", "numbers", "size"]) (ix:=[none,some 2,some 1]) rfl rfl (zaI rfl T.n_range (zaa (zab (pv 1)) zah)) (fun _ _ _ _ _=>zaq (i:=0) nd_1 rfl (by first | exact Or.inl rfl | exact Or.inr rfl)) (zaU (i:=0) (by decide)) (fun _ _ _ _ _=>(zey (md:=.fu) (zab (pv 1)) (zfa (zal (md:=.al) zb4 (zab (pv 0)) (zab (pv 2)))) (zfa (zal (md:=.al) zb4 (zal (md:=.al) za4 (zab (pv 0)) (zac (md:=.al))) (zab (pv 2))))))))
theorem zon:FnScope zhB ["board"] (defScope zeN):=⟨rfl,rfl,rfl,by decide +kernel,rfl,by decide +kernel,by decide +kernel⟩
theorem zoU:zhB.Nodup:=zam (by decide +kernel)
theorem zla (T:Txt K mg t):FnOk P w K mg base (CXe P w) 1 t.fqsums t.dqsums ["board"] (spT K t.cl 1 .al zfQ):=
 zaQ (N:=zhB) T.Fqsums zon rfl fun cdv A outer s H E S₀ hd hr=>by
 have hu5:(A.deeper (PyProof.Rows.envOfC "_law_sums" (defScope zeN) s.heap.objs.size t.fqsums cdv)).units + 5 < cLine:=by have:=hr.un;lia
 have nd:=zoU
 refine zag ?_ ?_
 ·exact (zav (i:=1) [true,false,false,false,false,false] nd rfl (.inl rfl) (zas (md:=.fu) zcB rfl T.n_len PySem.boot_len (zaa (zab (pv 0)) zah)))
 refine zag ?_ ?_
 ·exact (zav (i:=2) [false,true,false,false,false,false] nd rfl (.inl rfl) (zal (zqD (md:=.fu)) (JE.al (za6 (zaa (zac (md:=.fu)) zah))) (zab (pv 1))))
 refine zag ?_ ?_
 ·exact (zav (i:=3) [false,false,false,false,false,false] nd rfl (.inl rfl) (za6 (zaa (zac (md:=.fu)) (zaa (zac (md:=.fu)) zah))))
 refine zag ?_ ?_
 ·refine zcL [false,true,false,false,false,false] ownE rfl (zaI rfl T.n_range (zaa (zab (pv 1)) zah)) (zaq (i:=4) nd rfl (.inl rfl)) (zaT 4) ?_
  refine zaj ?_
  refine zcL [false,true,false,false,false,false] ownE rfl (zaI rfl T.n_range (zaa (zab (pv 1)) zah)) (zaq (i:=5) nd rfl (.inl rfl)) (zaT 5) ?_
  refine zag ?_ ?_
  ·exact (ze9 [true,false,true,false,true,true] (pv 2) (zal (md:=.fu) za4 (za0 o_ix (zab (pv 2)) (zab (pv 5)) (fun _ _=>rfl)) (za0 o_ix (za0 o_ix (zab (pv 0)) (zab (pv 4)) (fun _ _=>rfl)) (zab (pv 5)) (fun _ _=>rfl))) (zab (pv 5)))
  refine zag ?_ ?_
  ·exact (ze9 [true,false,false,true,true,true] (pv 3) (zal (md:=.fu) za4 (za0 o_ix (zab (pv 3)) (zac (md:=.al)) (fun _ _=>rfl)) (zal (md:=.al) zb4 (za0 o_ix (za0 o_ix (zab (pv 0)) (zab (pv 4)) (fun _ _=>rfl)) (zab (pv 5)) (fun _ _=>rfl)) (zbQ (md:=.al) zra rfl T.n_int boot_int (zaa (zfb (md:=.al) (o_eq hu5) (zab (pv 4)) (zab (pv 5)) (zay _)) zah)))) (zac (md:=.al)))
  refine zaj ?_
  exact (ze9 [true,true,false,true,true,true] (pv 3) (zal (md:=.fu) za4 (za0 o_ix (zab (pv 3)) (zac (md:=.al)) (fun _ _=>rfl)) (zal (md:=.al) zb4 (za0 o_ix (za0 o_ix (zab (pv 0)) (zab (pv 4)) (fun _ _=>rfl)) (zab (pv 5)) (fun _ _=>rfl)) (zbQ (md:=.al) zra rfl T.n_int boot_int (zaa (zfb (md:=.al) (o_eq hu5) (zal (md:=.al) za4 (zab (pv 4)) (zab (pv 5))) (zal (md:=.al) zeo (zab (pv 1)) (zac (md:=.al))) (zay _)) zah)))) (zac (md:=.al)))
 refine zaj ?_
 exact (zaD [true,false,true,true,false,false] (zpg (by refine zaa (JE.al (zaJ zaC (Blk.of rfl) (N':=["row"]) (ix:=[none]) rfl rfl (zaR (zab (pv 0))) (fun _ _ _ _ _=>zaq (i:=0) nd_2 rfl (by first | exact Or.inl rfl | exact Or.inr rfl)) (zaU (i:=0) (by decide)) (fun _ _ _ _ _=>(zas (md:=.fu) (zq9 rfl) rfl T.n_sum boot_sum (zaa (zab (pv 0)) zah))))) ?_;refine zaa (zab (pv 2)) ?_;refine zaa (zab (pv 3)) ?_;exact zah)))
theorem zoo:FnScope zhC ["board"] (defScope zeO):=⟨rfl,rfl,rfl,by decide +kernel,rfl,by decide +kernel,by decide +kernel⟩
theorem zoV:zhC.Nodup:=zam (by decide +kernel)
theorem zoO (T:Txt K mg t):FnOk P w K mg base (CXe P w) 2 t.fqlike t.dqlike ["board"] (spT K t.cl 1 .fu zi7):=
 zaQ (N:=zhC) T.Fqlike zoo rfl fun cdv A outer s H E S₀ hd hr=>by
 have hu5:(A.deeper (PyProof.Rows.envOfC "_law_like" (defScope zeO) s.heap.objs.size t.fqlike cdv)).units + 5 < cLine:=by have:=hr.un;lia
 have nd:=zoV
 refine zag ?_ ?_
 ·exact (zqR [1,2,3] [true,false,false,false,false] (zar (zla T) (hr.mono (by decide)) rfl T.mgqsums T.Fqsums.kp T.bqsums za3 (zaa (zab (pv 0)) zah)) (znJ (n:=3) rfl (zdu (zaq (i:=1) nd rfl (.inl rfl)) (zdu (zaq (i:=2) nd rfl (.inl rfl)) (zdu (zaq (i:=3) nd rfl (.inl rfl)) zk5)))) rfl)
 refine zag ?_ ?_
 ·exact (zav (i:=4) [true,false,false,false,false] nd rfl (.inl rfl) (zal (md:=.fu) zbB (zal (md:=.al) zb4 (zas (md:=.al) zcB rfl T.n_len PySem.boot_len (zaa (zab (pv 0)) zah)) (zal (md:=.al) za4 (zal (md:=.al) zb4 (zas (md:=.al) zcB rfl T.n_len PySem.boot_len (zaa (zab (pv 0)) zah)) (zas (md:=.al) zcB rfl T.n_len PySem.boot_len (zaa (zab (pv 0)) zah))) (zac (md:=.al)))) (zac (md:=.al))))
 refine zaj ?_
 exact (zaD [false,true,true,true,true] (zfb (md:=.fu) (o_eq hu5) (JE.al (zh5 (md:=.fu) rfl rfl T.n_sorted rfl T.n_set (JE.al (zal (zlf (md:=.fu)) (JE.al (zal (zlf (md:=.fu)) (zab (pv 1)) (zab (pv 2)))) (zab (pv 3)))))) (JE.al (za6 (zaa (JE.sc (md1:=.fu) (zab (pv 4))) zah))) (zay _)))
theorem zjR:FnScope zcS ["cell", "size"] (defScope zbL):=⟨rfl,rfl,rfl,by decide +kernel,rfl,by decide +kernel,by decide +kernel⟩
theorem zj7:zcS.Nodup:=zam (by decide +kernel)
theorem zj3 (T:Txt K mg t):FnOk P w K mg base (CXe P w) 3 t.fqfair_by t.dqfair_by ["cell", "size"] (spT K t.cl 2 .fu zdv):=
 zaQ (N:=zcS) T.Fqfair_by zjR rfl fun cdv A outer s H E S₀ hd hr=>by
 have hu5:(A.deeper (PyProof.Rows.envOfC "_law_fair_by" (defScope zbL) s.heap.objs.size t.fqfair_by cdv)).units + 5 < cLine:=by have:=hr.un;lia
 have nd:=zj7
 refine zag ?_ ?_
 ·exact (zav (i:=2) [false,true,false,false,false,false,false] nd rfl (.inl rfl) (zal (md:=.fu) zbB (zab (pv 1)) (zac (md:=.al))))
 refine zag ?_ ?_
 ·exact (zav (i:=3) [true,false,true,false,false,false,false] nd rfl (.inl rfl) (zar (zeX T) (hr.mono (by decide)) rfl T.mgqorder_by T.Fqorder_by.kp T.bqorder_by za3 (zaa (zab (pv 0)) (zaa (zab (pv 2)) zah))))
 refine zag ?_ ?_
 ·exact (zav (i:=4) [false,true,true,false,false,false,false] nd rfl (.inl rfl) (zal (zqD (md:=.fu)) (JE.al (za6 (zaa (JE.sc (md1:=.fu) (zab (pv 2))) zah))) (zab (pv 1))))
 refine zag ?_ ?_
 ·refine zcL [false,false,true,false,false,false,false] ownE rfl (zaI rfl T.n_range (zaa (zab (pv 2)) zah)) (zaq (i:=5) nd rfl (.inl rfl)) (zaT 5) ?_
  refine zag ?_ ?_
  ·exact (zav (i:=6) [false,false,false,true,false,true,false] nd rfl (.inl rfl) (JE.sc (md1:=.fu) (za0 o_ix (zab (pv 3)) (zab (pv 5)) (fun _ _=>rfl))))
  refine zag ?_ ?_
  ·refine zbb [true,false,false,false,false,true,false] (zaH (o_eq hu5) (JE.al (zar (znN T) (hr.mono (by decide)) rfl T.mgqmix T.Fqmix.kp T.bqmix za3 (by refine zaa (zab (pv 0)) ?_;refine zaa (zal (md:=.al) za4 (zac (md:=.al)) (zab (pv 5))) ?_;refine zaa (zac (md:=.al)) ?_;exact zah))) (zac (md:=.al)) (zay _)) ?_ ?_
   ·refine zaj ?_
    exact (zav (i:=6) [false,true,false,false,false,false,true] nd rfl (.inl rfl) (zal (md:=.fu) zeo (zal (md:=.al) zeo (zab (pv 1)) (zac (md:=.al))) (zab (pv 6))))
   ·exact zaF
  refine zag ?_ ?_
  ·exact (ze9 [false,false,false,false,false,true,true] (pv 4) (JE.sc (md1:=.fu) (zab (pv 6))) (zab (pv 5)))
  refine zaj ?_
  exact (ze9 [false,true,false,false,false,true,true] (pv 4) (zal (md:=.fu) zeo (zal (md:=.al) zeo (zab (pv 1)) (zac (md:=.al))) (zab (pv 6))) (zal (md:=.al) zeo (zal (md:=.al) zeo (zab (pv 1)) (zac (md:=.al))) (zab (pv 5))))
 refine zaj ?_
 exact (zcp (pv 4))
theorem zjQ:FnScope zdR ["script", "base", "size"] (defScope zbK):=⟨rfl,rfl,rfl,by decide +kernel,rfl,by decide +kernel,by decide +kernel⟩
theorem zj6:zdR.Nodup:=zam (by decide +kernel)
theorem zfP (T:Txt K mg t):FnOk P w K mg base (CXe P w) 4 t.fqlike_by t.dqlike_by ["script", "base", "size"] (spT K t.cl 3 .fu zcI):=
 zaQ (N:=zdR) T.Fqlike_by zjQ rfl fun cdv A outer s H E S₀ hd hr=>by
 have hu5:(A.deeper (PyProof.Rows.envOfC "_law_like_by" (defScope zbK) s.heap.objs.size t.fqlike_by cdv)).units + 5 < cLine:=by have:=hr.un;lia
 have nd:=zj6
 refine zag ?_ ?_
 ·exact (zav (i:=3) [false,false,false,false,false,false,false,false,false] nd rfl (.inr rfl) (za6 (by refine zaa (za6 (by refine zaa (zac (md:=.fu)) ?_;refine zaa (zac (md:=.fu)) ?_;refine zaa (zac (md:=.fu)) ?_;refine zaa (zac (md:=.fu)) ?_;exact zah)) ?_;refine zaa (za6 (by refine zaa (zac (md:=.fu)) ?_;refine zaa (zac (md:=.fu)) ?_;refine zaa (zac (md:=.fu)) ?_;refine zaa (zac (md:=.fu)) ?_;exact zah)) ?_;refine zaa (za6 (by refine zaa (zac (md:=.fu)) ?_;refine zaa (zac (md:=.fu)) ?_;refine zaa (zac (md:=.fu)) ?_;refine zaa (zac (md:=.fu)) ?_;exact zah)) ?_;refine zaa (za6 (by refine zaa (zac (md:=.fu)) ?_;refine zaa (zac (md:=.fu)) ?_;refine zaa (zac (md:=.fu)) ?_;refine zaa (zac (md:=.fu)) ?_;exact zah)) ?_;exact zah)))
 refine zag ?_ ?_
 ·refine zbb [false,false,true,false,false,false,false,false,false] (zaH (o_eq hu5) (zal (md:=.al) za7 (zab (pv 2)) (zac (md:=.al))) (zac (md:=.al)) (zay _)) ?_ ?_
  ·refine zag ?_ ?_
   ·exact (zav (i:=3) [false,false,false,false,false,false,false,false,false] nd rfl (.inr rfl) (za6 zah))
   refine zaj ?_
   refine zcL [false,false,true,false,false,false,false,false,false] ownE rfl (zaI rfl T.n_range (zaa (zab (pv 2)) zah)) (zaq (i:=4) nd rfl (.inl rfl)) (zaT 4) ?_
   refine zag ?_ ?_
   ·exact (zav (i:=5) [false,false,false,false,false,false,false,false,false] nd rfl (.inl rfl) (za6 zah))
   refine zag ?_ ?_
   ·refine zcL [false,false,true,false,false,false,false,false,false] ownE rfl (zaI rfl T.n_range (zaa (zab (pv 2)) zah)) (zaq (i:=6) nd rfl (.inl rfl)) (zaT 6) ?_
    refine zaj ?_
    exact (znW [false,false,true,false,true,false,true,false,false] (pv 5) (zal (md:=.fu) za4 (zal (md:=.al) za4 (zal (md:=.al) zb4 (zab (pv 2)) (zal (md:=.al) za7 (zal (md:=.al) za4 (zal (md:=.al) za4 (zal (md:=.al) za4 (zab (pv 4)) (zab (pv 6))) (zac (md:=.al))) (zal (md:=.al) zbB (zab (pv 2)) (zac (md:=.al)))) (zab (pv 2)))) (zal (md:=.al) za7 (zal (md:=.al) za4 (zal (md:=.al) za4 (zab (pv 4)) (zal (md:=.al) zb4 (zac (md:=.al)) (zab (pv 6)))) (zac (md:=.al))) (zab (pv 2)))) (zac (md:=.al))))
   refine zaj ?_
   exact (znW [false,false,false,false,false,true,false,false,false] (pv 3) (zab (pv 5)))
  ·exact zaF
 refine zag ?_ ?_
 ·exact (zav (i:=7) [true,true,true,false,false,false,false,false,false] nd rfl (.inr rfl) (zar (zj3 T) (hr.mono (by decide)) rfl T.mgqfair_by T.Fqfair_by.kp T.bqfair_by za3 (zaa (JE.al (zar (zbH T) (hr.mono (by decide)) rfl T.mgqcell_at T.Fqcell_at.kp T.bqcell_at za3 (zaa (zab (pv 0)) (zaa (zab (pv 1)) zah)))) (zaa (zab (pv 2)) zah))))
 refine zag ?_ ?_
 ·exact (zav (i:=3) [false,false,false,true,false,false,false,true,false] nd rfl (.inr rfl) (zaJ zaC (Blk.of rfl) (N':=["one", "order", "board"]) (ix:=[none,some 7,some 3]) rfl rfl (zaR (zab (pv 7))) (fun _ _ _ _ _=>zaq (i:=0) nd_5 rfl (by first | exact Or.inl rfl | exact Or.inr rfl)) (zaU (i:=0) (by decide)) (fun _ _ _ _ _=>(zaJ zaC (Blk.of rfl) (N':=["two", "board", "one"]) (ix:=[none,some 2,some 0]) rfl rfl (zaR (zab (pv 1))) (fun _ _ _ _ _=>zaq (i:=0) nd_6 rfl (by first | exact Or.inl rfl | exact Or.inr rfl)) (zaU (i:=0) (by decide)) (fun _ _ _ _ _=>(JE.sc (md1:=.fu) (za0 o_ix (za0 o_ix (zab (pv 1)) (zab (pv 2)) (fun _ _=>rfl)) (zab (pv 0)) (fun _ _=>rfl))))))))
 refine zag ?_ ?_
 ·exact (zav (i:=8) [true,true,false,false,false,false,false,false,false] nd rfl (.inl rfl) (zar (zbH T) (hr.mono (by decide)) rfl T.mgqcell_at T.Fqcell_at.kp T.bqcell_at za3 (zaa (zab (pv 0)) (zaa (zal (md:=.al) za4 (zab (pv 1)) (zac (md:=.al))) zah))))
 refine zag ?_ ?_
 ·refine zbb [false,false,false,false,false,false,false,false,true] (zaH (o_eq hu5) (zal (md:=.al) za7 (zab (pv 8)) (zac (md:=.al))) (zac (md:=.al)) (zay _)) ?_ ?_
  ·refine zaj ?_
   exact (zav (i:=3) [false,false,false,true,false,false,false,false,false] nd rfl (.inr rfl) (zaJ zaC (Blk.of rfl) (N':=["row"]) (ix:=[none]) rfl rfl (zaR (zab (pv 3))) (fun _ _ _ _ _=>zaq (i:=0) nd_2 rfl (by first | exact Or.inl rfl | exact Or.inr rfl)) (zaU (i:=0) (by decide)) (fun _ _ _ _ _=>(zqX (md:=.fu) (zab (pv 0))))))
  ·exact zaF
 refine zag ?_ ?_
 ·refine zbb [false,false,false,false,false,false,false,false,true] (zaH (o_eq hu5) (zal (md:=.al) za7 (zal (md:=.al) zbB (zab (pv 8)) (zac (md:=.al))) (zac (md:=.al))) (zac (md:=.al)) (zay _)) ?_ ?_
  ·refine zaj ?_
   exact (zav (i:=3) [false,false,true,true,false,false,false,false,false] nd rfl (.inr rfl) (zaJ zaC (Blk.of rfl) (N':=["r", "size", "board"]) (ix:=[none,some 2,some 3]) rfl rfl (zaI rfl T.n_range (zaa (zab (pv 2)) zah)) (fun _ _ _ _ _=>zaq (i:=0) nd_7 rfl (by first | exact Or.inl rfl | exact Or.inr rfl)) (zaU (i:=0) (by decide)) (fun _ _ _ _ _=>(zaJ zaC (Blk.of rfl) (N':=["c", "board", "r"]) (ix:=[none,some 2,some 0]) rfl rfl (zaI rfl T.n_range (zaa (zab (pv 1)) zah)) (fun _ _ _ _ _=>zaq (i:=0) nd_8 rfl (by first | exact Or.inl rfl | exact Or.inr rfl)) (zaU (i:=0) (by decide)) (fun _ _ _ _ _=>(JE.sc (md1:=.fu) (za0 o_ix (za0 o_ix (zab (pv 1)) (zab (pv 0)) (fun _ _=>rfl)) (zab (pv 2)) (fun _ _=>rfl))))))))
  ·exact zaF
 refine zag ?_ ?_
 ·refine zbb [false,false,false,false,false,false,false,false,true] (zaH (o_eq hu5) (zal (md:=.al) za7 (zal (md:=.al) zbB (zab (pv 8)) (zac (md:=.al))) (zac (md:=.al))) (zac (md:=.al)) (zay _)) ?_ ?_
  ·refine zaj ?_
   exact (zav (i:=3) [false,false,true,true,false,false,false,false,false] nd rfl (.inr rfl) (zaJ zaC (Blk.of rfl) (N':=["row", "size"]) (ix:=[none,some 2]) rfl rfl (zaR (zab (pv 3))) (fun _ _ _ _ _=>zaq (i:=0) nd_9 rfl (by first | exact Or.inl rfl | exact Or.inr rfl)) (zaU (i:=0) (by decide)) (fun _ _ _ _ _=>(zaJ zaC (Blk.of rfl) (N':=["number", "size"]) (ix:=[none,some 1]) rfl rfl (zaR (zab (pv 0))) (fun _ _ _ _ _=>zaq (i:=0) zqH rfl (by first | exact Or.inl rfl | exact Or.inr rfl)) (zaU (i:=0) (by decide)) (fun _ _ _ _ _=>(zal (md:=.fu) zeo (zal (md:=.al) za4 (zal (md:=.al) zb4 (zab (pv 1)) (zab (pv 1))) (zac (md:=.al))) (zab (pv 0))))))))
  ·exact zaF
 refine zaj ?_
 exact (zcp (pv 3))
theorem zkP:FnScope zeD ["script", "base"] (defScope zcg):=⟨rfl,rfl,rfl,by decide +kernel,rfl,by decide +kernel,by decide +kernel⟩
theorem zlh:zeD.Nodup:=zam (by decide +kernel)
theorem zlb (T:Txt K mg t):FnOk P w K mg base (CXe P w) 5 t.fqany_by t.dqany_by ["script", "base"] (spT K t.cl 2 .al zew):=
 zaQ (N:=zeD) T.Fqany_by zkP rfl fun cdv A outer s H E S₀ hd hr=>by
 have hu5:(A.deeper (PyProof.Rows.envOfC "_law_any_by" (defScope zcg) s.heap.objs.size t.fqany_by cdv)).units + 5 < cLine:=by have:=hr.un;lia
 have nd:=zlh
 refine zag ?_ ?_
 ·exact (zav (i:=2) [true,true,false,false,false,false,false,false,false] nd rfl (.inl rfl) (zar (zbH T) (hr.mono (by decide)) rfl T.mgqcell_at T.Fqcell_at.kp T.bqcell_at za3 (zaa (zab (pv 0)) (zaa (zal (md:=.al) za4 (zab (pv 1)) (zac (md:=.al))) zah))))
 refine zag ?_ ?_
 ·refine zbb [false,false,true,false,false,false,false,false,false] (zaH (o_eq hu5) (zal (md:=.al) za7 (zab (pv 2)) (zac (md:=.al))) (zac (md:=.al)) (zay _)) ?_ ?_
  ·refine zaj ?_
   exact (zaD [true,true,true,false,false,false,false,false,false] (zar (zfP T) (hr.mono (by decide)) rfl T.mgqlike_by T.Fqlike_by.kp T.bqlike_by za3 (by refine zaa (zab (pv 0)) ?_;refine zaa (zab (pv 1)) ?_;refine zaa (za0 o_ix (JE.al (za6 (by refine zaa (zac (md:=.fu)) ?_;refine zaa (zac (md:=.fu)) ?_;refine zaa (zac (md:=.fu)) ?_;refine zaa (zac (md:=.fu)) ?_;refine zaa (zac (md:=.fu)) ?_;refine zaa (zac (md:=.fu)) ?_;refine zaa (zac (md:=.fu)) ?_;exact zah))) (zal (md:=.al) za7 (zal (md:=.al) zbB (zab (pv 2)) (zac (md:=.al))) (zac (md:=.al))) (fun _ _=>rfl)) ?_;exact zah)))
  ·exact zaF
 refine zag ?_ ?_
 ·exact (zav (i:=3) [false,false,true,false,false,false,false,false,false] nd rfl (.inl rfl) (zal (md:=.fu) za4 (zac (md:=.al)) (zal (md:=.al) za7 (zal (md:=.al) zbB (zab (pv 2)) (zac (md:=.al))) (zac (md:=.al)))))
 refine zag ?_ ?_
 ·exact (zav (i:=4) [true,true,false,true,false,false,false,false,false] nd rfl (.inr rfl) (zar (zeY T) (hr.mono (by decide)) rfl T.mgqboard_by T.Fqboard_by.kp T.bqboard_by za3 (zaa (JE.al (zar (zbH T) (hr.mono (by decide)) rfl T.mgqcell_at T.Fqcell_at.kp T.bqcell_at za3 (zaa (zab (pv 0)) (zaa (zal (md:=.al) za4 (zab (pv 1)) (zac (md:=.al))) zah)))) (zaa (zab (pv 3)) zah))))
 refine zag ?_ ?_
 ·refine zbb [false,false,true,true,false,false,false,false,false] (zh3 (zqQ (zaH (o_eq hu5) (zal (md:=.al) za7 (zab (pv 2)) (zac (md:=.al))) (zac (md:=.al)) (zay _)) (zpb (zaH (o_eq hu5) (zal (md:=.al) za7 (zab (pv 3)) (zac (md:=.al))) (zac (md:=.al)) (zay _))))) ?_ ?_
  ·refine zag ?_ ?_
   ·exact (zav (i:=4) [true,true,false,true,false,false,false,false,false] nd rfl (.inr rfl) (zar (zfP T) (hr.mono (by decide)) rfl T.mgqlike_by T.Fqlike_by.kp T.bqlike_by za3 (by refine zaa (zab (pv 0)) ?_;refine zaa (zab (pv 1)) ?_;refine zaa (zab (pv 3)) ?_;exact zah)))
   refine zag ?_ ?_
   ·refine zbb [false,false,true,false,false,false,false,false,false] (zaH (o_eq hu5) (zal (md:=.al) za7 (zal (md:=.al) zbB (zab (pv 2)) (zac (md:=.al))) (zac (md:=.al))) (zac (md:=.al)) (zay _)) ?_ ?_
    ·refine zaj ?_
     exact (zaD [false,false,false,false,true,false,false,false,false] (zal (zlf (md:=.sp)) (JE.al (zey (md:=.sp) (zab (pv 4)) (zfa (zac (md:=.al))) zh4)) (JE.al (zey (md:=.sp) (zab (pv 4)) zh4 (zfa (zac (md:=.al)))))))
    ·exact zaF
   refine zag ?_ ?_
   ·exact (znT (i:=5) (j:=6) [false,false,true,true,false,false,false,false,false] rfl nd rfl rfl (by decide) rfl rfl (zal (md:=.al) za7 (zal (md:=.al) zbB (zab (pv 2)) (zac (md:=.al))) (zab (pv 3))) (zal (md:=.al) za7 (zal (md:=.al) zbB (zab (pv 2)) (zac (md:=.al))) (zab (pv 3))) (by rfl))
   refine zag ?_ ?_
   ·exact (zav (i:=7) [false,false,true,true,false,false,false,false,false] nd rfl (.inl rfl) (zal (md:=.fu) za7 (zal (md:=.al) zbB (zab (pv 2)) (zac (md:=.al))) (zab (pv 3))))
   refine zag ?_ ?_
   ·exact (zav (i:=8) [false,false,false,false,true,true,true,false,false] nd rfl (.inl rfl) (JE.sc (md1:=.fu) (za0 o_ix (za0 o_ix (zab (pv 4)) (zab (pv 5)) (fun _ _=>rfl)) (zab (pv 6)) (fun _ _=>rfl))))
   refine zag ?_ ?_
   ·exact (zd0 [false,false,false,false,true,true,true,true,false] (pv 4) (za0 o_ix (za0 o_ix (zab (pv 4)) (zab (pv 5)) (fun _ _=>rfl)) (zab (pv 7)) (fun _ _=>rfl)) (zab (pv 5)) (zab (pv 6)) (fun _ _=>rfl))
   refine zag ?_ ?_
   ·exact (zd0 [false,false,false,false,false,true,false,true,true] (pv 4) (zab (pv 8)) (zab (pv 5)) (zab (pv 7)) (fun _ _=>rfl))
   refine zaj ?_
   refine zbb [false,false,true,false,false,false,false,false,false] (zaH (o_eq hu5) (zal (md:=.al) za7 (zal (md:=.al) zbB (zab (pv 2)) (zac (md:=.al))) (zac (md:=.al))) (zac (md:=.al)) (zay _)) ?_ ?_
   ·refine zaj ?_
    exact (zav (i:=4) [false,false,false,true,true,false,false,false,false] nd rfl (.inr rfl) (zaJ zaC (Blk.of rfl) (N':=["k", "board"]) (ix:=[none,some 4]) rfl rfl (zaI rfl T.n_range (zaa (zab (pv 3)) zah)) (fun _ _ _ _ _=>zaq (i:=0) nd_3 rfl (by first | exact Or.inl rfl | exact Or.inr rfl)) (zaU (i:=0) (by decide)) (fun _ _ _ _ _=>(zaJ zaC (Blk.of rfl) (N':=["row", "k"]) (ix:=[none,some 0]) rfl rfl (zaR (zab (pv 1))) (fun _ _ _ _ _=>zaq (i:=0) nd_4 rfl (by first | exact Or.inl rfl | exact Or.inr rfl)) (zaU (i:=0) (by decide)) (fun _ _ _ _ _=>(JE.sc (md1:=.fu) (za0 o_ix (zab (pv 0)) (zab (pv 1)) (fun _ _=>rfl))))))))
   ·exact zaF
  ·exact zaF
 refine zaj ?_
 exact (zcp (pv 4))
theorem zop:FnScope zjB ["board", "cell"] (defScope zeP):=⟨rfl,rfl,rfl,by decide +kernel,rfl,by decide +kernel,by decide +kernel⟩
theorem zoW:zjB.Nodup:=zam (by decide +kernel)
theorem zoP (T:Txt K mg t):FnOk P w K mg base (CXe P w) 1 t.fqhurt t.dqhurt ["board", "cell"] (spT K t.cl 2 .al zi8):=
 zaQ (N:=zjB) T.Fqhurt zop rfl fun cdv A outer s H E S₀ hd hr=>by
 have hu5:(A.deeper (PyProof.Rows.envOfC "_law_hurt" (defScope zeP) s.heap.objs.size t.fqhurt cdv)).units + 5 < cLine:=by have:=hr.un;lia
 have nd:=zoW
 refine zag ?_ ?_
 ·exact (zav (i:=2) [true,false,false,false,false,false,false] nd rfl (.inr rfl) (zas (md:=.fu) zcB rfl T.n_len PySem.boot_len (zaa (zab (pv 0)) zah)))
 refine zag ?_ ?_
 ·exact (zav (i:=3) [false,true,false,false,false,false,false] nd rfl (.inl rfl) (zal (md:=.fu) za7 (zab (pv 1)) (zac (md:=.al))))
 refine zag ?_ ?_
 ·exact (znT (i:=4) (j:=5) [false,true,true,false,false,false,false] rfl nd rfl rfl (by decide) rfl rfl (zal (md:=.al) za7 (zal (md:=.al) zbB (zab (pv 1)) (zac (md:=.al))) (zab (pv 2))) (zal (md:=.al) za7 (zal (md:=.al) zbB (zab (pv 1)) (zac (md:=.al))) (zab (pv 2))) (by rfl))
 refine zag ?_ ?_
 ·exact (zdZ (i:=6) [true,false,false,false,false,false,false] zaC nd rfl rfl (Blk.of rfl) (N':=["row"]) (ix:=[none]) rfl rfl (zaR (zab (pv 0))) (fun _ _ _ _ _=>zaq (i:=0) nd_2 rfl (by first | exact Or.inl rfl | exact Or.inr rfl)) (zaU (i:=0) (by decide)) (fun _ _ _ _ _=>(zbQ (md:=.fu) zhh rfl T.n_list boot_list (zaa (zab (pv 0)) zah))))
 refine zag ?_ ?_
 ·refine zbb [false,false,false,true,false,false,false] (zaH (o_eq hu5) (zab (pv 3)) (zac (md:=.al)) (zay _)) ?_ ?_
  ·refine zag ?_ ?_
   ·exact (zd0 [false,true,false,false,true,true,true] (pv 6) (zal (md:=.al) za4 (zal (md:=.al) za4 (za0 o_ix (za0 o_ix (zab (pv 6)) (zab (pv 4)) (fun _ _=>rfl)) (zab (pv 5)) (fun _ _=>rfl)) (zac (md:=.al))) (zal (md:=.al) za7 (zal (md:=.al) zbB (zab (pv 1)) (zac (md:=.al))) (zac (md:=.al)))) (zab (pv 4)) (zab (pv 5)) (fun _ _=>rfl))
   refine zag ?_ ?_
   ·exact (zd0 [false,true,false,false,true,true,true] (pv 6) (zal (md:=.al) zeo (zal (md:=.al) zeo (za0 o_ix (za0 o_ix (zab (pv 6)) (zab (pv 5)) (fun _ _=>rfl)) (zab (pv 4)) (fun _ _=>rfl)) (zac (md:=.al))) (zal (md:=.al) za7 (zal (md:=.al) zbB (zab (pv 1)) (zac (md:=.al))) (zac (md:=.al)))) (zab (pv 5)) (zab (pv 4)) (fun _ _=>rfl))
   refine zaj ?_
   exact (zcp (pv 6))
  ·exact zaF
 refine zag ?_ ?_
 ·refine zbb [false,false,false,true,false,false,false] (zaH (o_eq hu5) (zab (pv 3)) (zac (md:=.al)) (zay _)) ?_ ?_
  ·refine zaj ?_
   exact (zaD [true,false,true,false,false,false,false] (zaJ zaC (Blk.of rfl) (N':=["row", "size"]) (ix:=[none,some 2]) rfl rfl (zaR (zab (pv 0))) (fun _ _ _ _ _=>zaq (i:=0) nd_9 rfl (by first | exact Or.inl rfl | exact Or.inr rfl)) (zaU (i:=0) (by decide)) (fun _ _ _ _ _=>(zaJ zaC (Blk.of rfl) (N':=["number", "size"]) (ix:=[none,some 1]) rfl rfl (zaR (zab (pv 0))) (fun _ _ _ _ _=>zaq (i:=0) zqH rfl (by first | exact Or.inl rfl | exact Or.inr rfl)) (zaU (i:=0) (by decide)) (fun _ _ _ _ _=>(zal (md:=.fu) zbB (zal (md:=.al) za4 (zal (md:=.al) zb4 (zab (pv 1)) (zab (pv 1))) (zac (md:=.al))) (zac (md:=.al))))))))
  ·exact zaF
 refine zag ?_ ?_
 ·refine zbb [false,false,false,true,false,false,false] (zaH (o_eq hu5) (zab (pv 3)) (zac (md:=.al)) (zay _)) ?_ ?_
  ·refine zag ?_ ?_
   ·exact (zlv [false,false,true,false,true,false,false] (pv 6) (zal (md:=.al) za7 (zal (md:=.al) za4 (zab (pv 4)) (zac (md:=.al))) (zab (pv 2))) (zab (pv 4)) (fun _ _=>rfl) (fun _ _=>rfl) (pv 6))
   refine zaj ?_
   exact (zcp (pv 6))
  ·exact zaF
 refine zag ?_ ?_
 ·refine zbb [false,false,false,true,false,false,false] (zaH (o_eq hu5) (zab (pv 3)) (zac (md:=.al)) (zay _)) ?_ ?_
  ·refine zaj ?_
   exact (zaD [false,true,false,false,false,false,true] (za0 o_ix (JE.al (zly (zaa (JE.al (za6 zah)) (zaa (JE.al (zal (zlf (md:=.sp)) (zab (pv 6)) (JE.al (za6 (zaa (zbQ (md:=.fu) zhh rfl T.n_list boot_list (zaa (za0 o_ix (zab (pv 6)) (zac (md:=.al)) (fun _ _=>rfl)) zah)) zah))))) zah)))) (zal (md:=.al) za7 (zal (md:=.al) zbB (zab (pv 1)) (zac (md:=.al))) (zac (md:=.al))) (fun _ _=>rfl)))
  ·exact zaF
 refine zag ?_ ?_
 ·refine zbb [false,false,false,true,false,false,false] (zaH (o_eq hu5) (zab (pv 3)) (zac (md:=.al)) (zay _)) ?_ ?_
  ·refine zaj ?_
   exact (ze9 [false,false,false,false,true,false,true] (pv 6) (zey (md:=.fu) (za0 o_ix (zab (pv 6)) (zab (pv 4)) (fun _ _=>rfl)) (zfa (zac (md:=.al))) zh4) (zab (pv 4)))
  ·refine zaj ?_
   refine zbb [false,false,false,true,false,false,false] (zaH (o_eq hu5) (zab (pv 3)) (zac (md:=.al)) (zay _)) ?_ ?_
   ·refine zaj ?_
    exact (ze9 [false,false,true,false,true,false,true] (pv 6) (zal (zlf (md:=.fu)) (za0 o_ix (zab (pv 6)) (zab (pv 4)) (fun _ _=>rfl)) (JE.al (za6 (zaa (zal (md:=.fu) za4 (zal (md:=.al) zb4 (zab (pv 2)) (zab (pv 2))) (zac (md:=.al))) zah)))) (zab (pv 4)))
   ·refine zaj ?_
    refine zbb [false,false,false,true,false,false,false] (zaH (o_eq hu5) (zab (pv 3)) (zac (md:=.al)) (zay _)) ?_ ?_
    ·refine zaj ?_
     exact (zd0 [false,true,true,false,true,true,false] (pv 6) (za0 o_ix (JE.al (za6 (by refine zaa (zac (md:=.fu)) ?_;refine zaa (zal (md:=.fu) za4 (zal (md:=.al) zb4 (zab (pv 2)) (zab (pv 2))) (zac (md:=.al))) ?_;refine zaa (zss (md:=.fu) zse (zac (md:=.al))) ?_;refine zaa (zal (md:=.fu) zsd (zac (md:=.al)) (zac (md:=.al))) ?_;exact zah))) (zal (md:=.al) za7 (zal (md:=.al) zbB (zab (pv 1)) (zac (md:=.al))) (zac (md:=.al))) (fun _ _=>rfl)) (zab (pv 4)) (zab (pv 5)) (fun _ _=>rfl))
    ·refine zaj ?_
     refine zbb [false,false,false,true,false,false,false] (zaH (o_eq hu5) (zab (pv 3)) (zac (md:=.al)) (zay _)) ?_ ?_
     ·refine zaj ?_
      exact (zaD [false,false,false,false,false,false,true] (zaJ zaC (Blk.of rfl) (N':=["row"]) (ix:=[none]) rfl rfl (zaR (zab (pv 6))) (fun _ _ _ _ _=>zaq (i:=0) nd_2 rfl (by first | exact Or.inl rfl | exact Or.inr rfl)) (zaU (i:=0) (by decide)) (fun _ _ _ _ _=>(zaJ zaC (Blk.of rfl) (N':=["number"]) (ix:=[none]) rfl rfl (zaR (zab (pv 0))) (fun _ _ _ _ _=>zaq (i:=0) nd_0 rfl (by first | exact Or.inl rfl | exact Or.inr rfl)) (zaU (i:=0) (by decide)) (fun _ _ _ _ _=>(zal (md:=.fu) za4 (zab (pv 0)) (zac (md:=.al))))))))
     ·refine zaj ?_
      exact (zd0 [false,false,true,false,true,true,true] (pv 6) (za0 o_ix (za0 o_ix (zab (pv 6)) (zal (md:=.al) za7 (zal (md:=.al) za4 (zab (pv 4)) (zac (md:=.al))) (zab (pv 2))) (fun _ _=>rfl)) (zab (pv 5)) (fun _ _=>rfl)) (zab (pv 4)) (zab (pv 5)) (fun _ _=>rfl))
 refine zaj ?_
 exact (zcp (pv 6))
theorem zoq:FnScope zhD ["board"] (defScope zeQ):=⟨rfl,rfl,rfl,by decide +kernel,rfl,by decide +kernel,by decide +kernel⟩
theorem zoX:zhD.Nodup:=zam (by decide +kernel)
theorem zoQ (T:Txt K mg t):FnOk P w K mg base (CXe P w) 1 t.fqflat t.dqflat ["board"] (spT K t.cl 1 .fu zi9):=
 zaQ (N:=zhD) T.Fqflat zoq rfl fun cdv A outer s H E S₀ hd hr=>by
 have hu5:(A.deeper (PyProof.Rows.envOfC "_law_flat" (defScope zeQ) s.heap.objs.size t.fqflat cdv)).units + 5 < cLine:=by have:=hr.un;lia
 have nd:=zoX
 refine zag ?_ ?_
 ·exact (zav (i:=1) [false,false,false] nd rfl (.inl rfl) (za6 zah))
 refine zag ?_ ?_
 ·refine zcL [true,false,false] ownE rfl (zaR (zab (pv 0))) (zaq (i:=2) nd rfl (.inl rfl)) (zaT 2) ?_
  refine zaj ?_
  exact (znV [false,false,true] (pv 1) (zab (pv 2)))
 refine zaj ?_
 exact (zcp (pv 1))
theorem zhP:FnScope zba ["board"] (defScope zbp):=⟨rfl,rfl,rfl,by decide +kernel,rfl,by decide +kernel,by decide +kernel⟩
theorem zhW:zba.Nodup:=zam (by decide +kernel)
theorem zhU (T:Txt K mg t):FnOk P w K mg base (CXe P w) 2 t.fqis_board t.dqis_board ["board"] (spT K t.cl 1 .fu za8):=
 zaQ (N:=zba) T.Fqis_board zhP rfl fun cdv A outer s H E S₀ hd hr=>by
 have hu5:(A.deeper (PyProof.Rows.envOfC "_law_is_board" (defScope zbp) s.heap.objs.size t.fqis_board cdv)).units + 5 < cLine:=by have:=hr.un;lia
 have nd:=zhW
 refine zag ?_ ?_
 ·exact (zav (i:=1) [true,false] nd rfl (.inr rfl) (zas (md:=.fu) zcB rfl T.n_len PySem.boot_len (zaa (zab (pv 0)) zah)))
 refine zag ?_ ?_
 ·refine zbb [true,true] (zh3 (zh2 (zdA (zmL (o_le) (o_le) (zac (md:=.al)) (zab (pv 1)) (zac (md:=.al)))) (zfR (zdA (zeh (zas (md:=.al) (zrb rfl) rfl T.n_all boot_all (zaa (JE.al (zaJ zaC (Blk.of rfl) (N':=["row", "size"]) (ix:=[none,some 1]) rfl rfl (zaR (zab (pv 0))) (fun _ _ _ _ _=>zaq (i:=0) nd_9 rfl (by first | exact Or.inl rfl | exact Or.inr rfl)) (zaU (i:=0) (by decide)) (fun _ _ _ _ _=>(zfb (md:=.fu) (o_eq hu5) (zas (md:=.al) zcB rfl T.n_len PySem.boot_len (zaa (zab (pv 0)) zah)) (zab (pv 1)) (zay _))))) zah))))))) ?_ ?_
  ·refine zaj ?_
   exact (zaD [false,false] (zfc (md:=.fu)))
  ·exact zaF
 refine zaj ?_
 exact (zaD [true,true] (zfb (md:=.fu) (o_eq hu5) (JE.al (zas zjt rfl T.n_sorted boot_sorted (zaa (JE.al (zar (zoQ T) (hr.mono (by decide)) rfl T.mgqflat T.Fqflat.kp T.bqflat za3 (zaa (zab (pv 0)) zah))) zah))) (JE.al (zaJ zaC (Blk.of rfl) (N':=["k"]) (ix:=[none]) rfl rfl (zaI rfl T.n_range (zaa (zal (md:=.al) zb4 (zab (pv 1)) (zab (pv 1))) zah)) (fun _ _ _ _ _=>zaq (i:=0) zsq rfl (by first | exact Or.inl rfl | exact Or.inr rfl)) (zaU (i:=0) (by decide)) (fun _ _ _ _ _=>(zal (md:=.fu) za4 (zab (pv 0)) (zac (md:=.al)))))) (zay _)))
theorem zmk:FnScope zfs ["found"] (defScope zc5):=⟨rfl,rfl,rfl,by decide +kernel,rfl,by decide +kernel,by decide +kernel⟩
theorem zmF:zfs.Nodup:=zam (by decide +kernel)
theorem zmC (T:Txt K mg t):FnOk P w K mg base (CXe P w) 1 t.fqwhole t.dqwhole ["found"] (spT K t.cl 1 .fu zgl):=
 zaQ (N:=zfs) T.Fqwhole zmk rfl fun cdv A outer s H E S₀ hd hr=>by
 have hu5:(A.deeper (PyProof.Rows.envOfC "_law_whole" (defScope zc5) s.heap.objs.size t.fqwhole cdv)).units + 5 < cLine:=by have:=hr.un;lia
 have nd:=zmF
 refine zaj ?_
 exact (zaD [true] (zlz (md:=.fu) (zas (md:=.al) zkm rfl T.n_isinstance boot_isinstance (zaa (zab (pv 0)) (zaa (zdB (md:=.al) (zc7 (v:=.ty "int") rfl T.n_int boot_int rfl)) zah))) (zlx (zqY (md:=.fu) (zas (md:=.al) zkm rfl T.n_isinstance boot_isinstance (zaa (zab (pv 0)) (zaa (zdB (md:=.al) (zc7 (v:=.ty "bool") rfl T.n_bool boot_bool rfl)) zah)))))))
theorem zml:FnScope zft ["found", "due"] (defScope zc6):=⟨rfl,rfl,rfl,by decide +kernel,rfl,by decide +kernel,by decide +kernel⟩
theorem zmG:zft.Nodup:=zam (by decide +kernel)
theorem zmD (T:Txt K mg t):FnOk P w K mg base (CXe P w) 2 t.fqboard t.dqboard ["found", "due"] (spT K t.cl 2 .fu zgm):=
 zaQ (N:=zft) T.Fqboard zml rfl fun cdv A outer s H E S₀ hd hr=>by
 have hu5:(A.deeper (PyProof.Rows.envOfC "_law_board" (defScope zc6) s.heap.objs.size t.fqboard cdv)).units + 5 < cLine:=by have:=hr.un;lia
 have nd:=zmG
 refine zag ?_ ?_
 ·refine zbb [true,true,false,false] (zh3 (zh2 (zdA (zeh (zas (md:=.al) zkm rfl T.n_isinstance boot_isinstance (zaa (zab (pv 0)) (zaa (zdB (md:=.al) (zc7 (v:=.ty "list") rfl T.n_list boot_list rfl)) zah))))) (zfR (zaH (o_ne hu5) (zas (md:=.al) zcB rfl T.n_len PySem.boot_len (zaa (zab (pv 0)) zah)) (zas (md:=.al) zcB rfl T.n_len PySem.boot_len (zaa (zab (pv 1)) zah)) (zay _))))) ?_ ?_
  ·refine zaj ?_
   exact (zaD [false,false,false,false] (zfc (md:=.fu)))
  ·exact zaF
 refine zag ?_ ?_
 ·refine zcL [true,true,false,false] ownE rfl (zqT rfl T.n_zip (zab (pv 0)) (zab (pv 1))) (znJ rfl (zdu (zaq (i:=2) nd rfl (.inl rfl)) (zdu (zaq (i:=3) nd rfl (.inl rfl)) zk5))) (zlW 2 3) ?_
  refine zaj ?_
  refine zbb [false,false,true,true] (zh3 (zh2 (zdA (zeh (zas (md:=.al) zkm rfl T.n_isinstance boot_isinstance (zaa (zab (pv 2)) (zaa (zdB (md:=.al) (zc7 (v:=.ty "list") rfl T.n_list boot_list rfl)) zah))))) (zh2 (zaH (o_ne hu5) (zab (pv 2)) (zab (pv 3)) (zay _)) (zfR (zdA (zeh (zas (md:=.al) (zrb rfl) rfl T.n_all boot_all (zaa (JE.al (zaJ zaC (Blk.of rfl) (N':=["x"]) (ix:=[none]) rfl rfl (zaR (zab (pv 2))) (fun _ _ _ _ _=>zaq (i:=0) zsp rfl (by first | exact Or.inl rfl | exact Or.inr rfl)) (zaU (i:=0) (by decide)) (fun _ _ _ _ _=>(zar (zmC T) (hr.mono (by decide)) rfl T.mgqwhole T.Fqwhole.kp T.bqwhole ziY (zaa (zab (pv 0)) zah))))) zah)))))))) ?_ ?_
  ·refine zaj ?_
   exact (zaD [false,false,false,false] (zfc (md:=.fu)))
  ·exact zaF
 refine zaj ?_
 exact (zaD [false,false,false,false] (zfc (md:=.fu)))
theorem zor:FnScope zhE ["board"] (defScope zeR):=⟨rfl,rfl,rfl,by decide +kernel,rfl,by decide +kernel,by decide +kernel⟩
theorem zoY:zhE.Nodup:=zam (by decide +kernel)
theorem zoR (T:Txt K mg t):FnOk P w K mg base (CXe P w) 1 t.fqcopy t.dqcopy ["board"] (spT K t.cl 1 .fu zja):=
 zaQ (N:=zhE) T.Fqcopy zor rfl fun cdv A outer s H E S₀ hd hr=>by
 have hu5:(A.deeper (PyProof.Rows.envOfC "_law_copy" (defScope zeR) s.heap.objs.size t.fqcopy cdv)).units + 5 < cLine:=by have:=hr.un;lia
 have nd:=zoY
 refine zaj ?_
 exact (zaD [true] (zaJ zaC (Blk.of rfl) (N':=["row"]) (ix:=[none]) rfl rfl (zaR (zab (pv 0))) (fun _ _ _ _ _=>zaq (i:=0) nd_2 rfl (by first | exact Or.inl rfl | exact Or.inr rfl)) (zaU (i:=0) (by decide)) (fun _ _ _ _ _=>(zbQ (md:=.fu) zhh rfl T.n_list boot_list (zaa (zab (pv 0)) zah)))))
theorem zeT:FnScope zaP ["board", "largest"] (defScope zaO):=⟨rfl,rfl,rfl,by decide +kernel,rfl,by decide +kernel,by decide +kernel⟩
theorem ze1:zaP.Nodup:=zam (by decide +kernel)
theorem zeZ (T:Txt K mg t):FnOk P w K mg base (CXe P w) 1 t.f_check_square t.d_check_square ["board", "largest"] (spT K t.cl 2 .fu za2):=
 zaQ (N:=zaP) T.F_check_square zeT rfl fun cdv A outer s H E S₀ hd hr=>by
 have hu5:(A.deeper (PyProof.Rows.envOfC "check_square" (defScope zaO) s.heap.objs.size t.f_check_square cdv)).units + 5 < cLine:=by have:=hr.un;lia
 have nd:=ze1
 refine zag ?_ ?_
 ·exact (zav (i:=2) [true,false,false,false] nd rfl (.inl rfl) (zas (md:=.fu) zcB rfl T.n_len PySem.boot_len (zaa (zab (pv 0)) zah)))
 refine zag ?_ ?_
 ·refine zbb [false,true,true,false] (zh3 (zh2 (zaH (o_lt) (zab (pv 2)) (zac (md:=.al)) (zay _)) (zfR (zaH (o_gt) (zab (pv 2)) (zab (pv 1)) (zay _))))) ?_ ?_
  ·refine zaj ?_
   exact (zgr (c:=1) [false,true,false,false] rfl zhT hr.hd rfl T.mg_BadBoard T.x_BadBoard (zpc (znI (zql (zab (pv 1)) (znI zqk)))))
  ·exact zaF
 refine zaj ?_
 refine zcL [true,false,false,false] ownE rfl (zaR (zab (pv 0))) (zaq (i:=3) nd rfl (.inl rfl)) (zaT 3) ?_
 refine zaj ?_
 refine zbb [false,false,true,true] (zaH (o_ne hu5) (zas (md:=.al) zcB rfl T.n_len PySem.boot_len (zaa (zab (pv 3)) zah)) (zab (pv 2)) (zay _)) ?_ ?_
 ·refine zaj ?_
  exact (zgr (c:=1) [false,false,false,false] rfl zhT hr.hd rfl T.mg_BadBoard T.x_BadBoard znS)
 ·exact zaF
theorem zkQ:FnScope zcZ ["lists"] (defScope zch):=⟨rfl,rfl,rfl,by decide +kernel,rfl,by decide +kernel,by decide +kernel⟩
theorem zli:zcZ.Nodup:=zam (by decide +kernel)
theorem zgX (T:Txt K mg t):FnOk P w K mg base (CXe P w) 1 t.f_joined t.d_joined ["lists"] (spT K t.cl 1 .fu zco):=
 zaQ (N:=zcZ) T.F_joined zkQ rfl fun cdv A outer s H E S₀ hd hr=>by
 have hu5:(A.deeper (PyProof.Rows.envOfC "joined" (defScope zch) s.heap.objs.size t.f_joined cdv)).units + 5 < cLine:=by have:=hr.un;lia
 have nd:=zli
 refine zag ?_ ?_
 ·exact (zav (i:=1) [false,false,false] nd rfl (.inl rfl) (za6 zah))
 refine zag ?_ ?_
 ·refine zcL [true,false,false] ownE rfl (zqU (zab (pv 0))) (zaq (i:=2) nd rfl (.inl rfl)) (zaT 2) ?_
  refine zaj ?_
  exact (znV [false,false,true] (pv 1) (zab (pv 2)))
 refine zaj ?_
 exact (zcp (pv 1))
theorem zfA:FnScope zaY ["board"] (defScope zaV):=⟨rfl,rfl,rfl,by decide +kernel,rfl,by decide +kernel,by decide +kernel⟩
theorem zfC:zaY.Nodup:=zam (by decide +kernel)
theorem zfB (T:Txt K mg t):FnOk P w K mg base (CXe P w) 2 t.f_check_board t.d_check_board ["board"] (spT K t.cl 1 .fu zaE):=
 zaQ (N:=zaY) T.F_check_board zfA rfl fun cdv A outer s H E S₀ hd hr=>by
 have hu5:(A.deeper (PyProof.Rows.envOfC "check_board" (defScope zaV) s.heap.objs.size t.f_check_board cdv)).units + 5 < cLine:=by have:=hr.un;lia
 have nd:=zfC
 refine zag ?_ ?_
 ·exact (zlu [true] (zar (zeZ T) (hr.mono (by decide)) rfl T.mg_check_square T.F_check_square.kp T.b_check_square za3 (zaa (zab (pv 0)) (zaa (zdB (md:=.al) (zk7 (v:=.int 12) rfl T.c_LARGEST_SIZE ⟨_,rfl⟩)) zah))))
 refine zaj ?_
 refine zbb [true] (zaH (o_ne hu5) (JE.al (zas zjt rfl T.n_sorted boot_sorted (zaa (JE.al (zar (zgX T) (hr.mono (by decide)) rfl T.mg_joined T.F_joined.kp T.b_joined za3 (zaa (zab (pv 0)) zah))) zah))) (JE.al (zgs rfl rfl T.n_list rfl T.n_range (zaa (zac (md:=.al)) (zaa (zal (md:=.al) za4 (zal (md:=.al) zb4 (zas (md:=.al) zcB rfl T.n_len PySem.boot_len (zaa (zab (pv 0)) zah)) (zas (md:=.al) zcB rfl T.n_len PySem.boot_len (zaa (zab (pv 0)) zah))) (zac (md:=.al))) zah)))) (zay _)) ?_ ?_
 ·refine zaj ?_
  exact (zgr (c:=1) [false] rfl zhT hr.hd rfl T.mg_BadBoard T.x_BadBoard znS)
 ·exact zaF
theorem zkR:FnScope zdS ["board", "place"] (defScope zci):=⟨rfl,rfl,rfl,by decide +kernel,rfl,by decide +kernel,by decide +kernel⟩
theorem zlj:zdS.Nodup:=zam (by decide +kernel)
theorem zld (T:Txt K mg t):FnOk P w K mg base (CXe P w) 1 t.f_column t.d_column ["board", "place"] (spT K t.cl 2 .fu zex):=
 zaQ (N:=zdS) T.F_column zkR rfl fun cdv A outer s H E S₀ hd hr=>by
 have hu5:(A.deeper (PyProof.Rows.envOfC "column" (defScope zci) s.heap.objs.size t.f_column cdv)).units + 5 < cLine:=by have:=hr.un;lia
 have nd:=zlj
 refine zaj ?_
 exact (zaD [true,true] (zaJ zaC (Blk.of rfl) (N':=["row", "place"]) (ix:=[none,some 1]) rfl rfl (zaR (zab (pv 0))) (fun _ _ _ _ _=>zaq (i:=0) zsn rfl (by first | exact Or.inl rfl | exact Or.inr rfl)) (zaU (i:=0) (by decide)) (fun _ _ _ _ _=>(JE.sc (md1:=.fu) (za0 o_ix (zab (pv 0)) (zab (pv 1)) (fun _ _=>rfl))))))
theorem zjU:FnScope zcT ["board"] (defScope zbO):=⟨rfl,rfl,rfl,by decide +kernel,rfl,by decide +kernel,by decide +kernel⟩
theorem zka:zcT.Nodup:=zam (by decide +kernel)
theorem zj5 (T:Txt K mg t):FnOk P w K mg base (CXe P w) 2 t.f_columns t.d_columns ["board"] (spT K t.cl 1 .fu zdw):=
 zaQ (N:=zcT) T.F_columns zjU rfl fun cdv A outer s H E S₀ hd hr=>by
 have hu5:(A.deeper (PyProof.Rows.envOfC "columns" (defScope zbO) s.heap.objs.size t.f_columns cdv)).units + 5 < cLine:=by have:=hr.un;lia
 have nd:=zka
 refine zaj ?_
 exact (zaD [true] (zaJ zaC (Blk.of rfl) (N':=["place", "board"]) (ix:=[none,some 0]) rfl rfl (zaI rfl T.n_range (zaa (zas (md:=.al) zcB rfl T.n_len PySem.boot_len (zaa (zab (pv 0)) zah)) zah)) (fun _ _ _ _ _=>zaq (i:=0) zso rfl (by first | exact Or.inl rfl | exact Or.inr rfl)) (zaU (i:=0) (by decide)) (fun _ _ _ _ _=>(zar (zld T) (hr.mono (by decide)) rfl T.mg_column T.F_column.kp T.b_column ziY (zaa (zab (pv 1)) (zaa (zab (pv 0)) zah))))))
theorem zgR:FnScope zbS ["board"] (defScope zbh):=⟨rfl,rfl,rfl,by decide +kernel,rfl,by decide +kernel,by decide +kernel⟩
theorem zg0:zbS.Nodup:=zam (by decide +kernel)
theorem zgW (T:Txt K mg t):FnOk P w K mg base (CXe P w) 1 t.f_long_ways t.d_long_ways ["board"] (spT K t.cl 1 .al zcn):=
 zaQ (N:=zbS) T.F_long_ways zgR rfl fun cdv A outer s H E S₀ hd hr=>by
 have hu5:(A.deeper (PyProof.Rows.envOfC "long_ways" (defScope zbh) s.heap.objs.size t.f_long_ways cdv)).units + 5 < cLine:=by have:=hr.un;lia
 have nd:=zg0
 refine zag ?_ ?_
 ·exact (zav (i:=1) [true,false,false,false] nd rfl (.inr rfl) (zal (md:=.fu) zeo (zas (md:=.al) zcB rfl T.n_len PySem.boot_len (zaa (zab (pv 0)) zah)) (zac (md:=.al))))
 refine zag ?_ ?_
 ·exact (zdZ (i:=2) [true,false,false,false] zaC nd rfl rfl (Blk.of rfl) (N':=["k", "board"]) (ix:=[none,some 0]) rfl rfl (zaI rfl T.n_range (zaa (zas (md:=.al) zcB rfl T.n_len PySem.boot_len (zaa (zab (pv 0)) zah)) zah)) (fun _ _ _ _ _=>zaq (i:=0) nd_3 rfl (by first | exact Or.inl rfl | exact Or.inr rfl)) (zaU (i:=0) (by decide)) (fun _ _ _ _ _=>(JE.sc (md1:=.fu) (za0 o_ix (za0 o_ix (zab (pv 1)) (zab (pv 0)) (fun _ _=>rfl)) (zab (pv 0)) (fun _ _=>rfl)))))
 refine zag ?_ ?_
 ·exact (zdZ (i:=3) [true,true,false,false] zaC nd rfl rfl (Blk.of rfl) (N':=["k", "board", "last"]) (ix:=[none,some 0,some 1]) rfl rfl (zaI rfl T.n_range (zaa (zas (md:=.al) zcB rfl T.n_len PySem.boot_len (zaa (zab (pv 0)) zah)) zah)) (fun _ _ _ _ _=>zaq (i:=0) zsm rfl (by first | exact Or.inl rfl | exact Or.inr rfl)) (zaU (i:=0) (by decide)) (fun _ _ _ _ _=>(JE.sc (md1:=.fu) (za0 o_ix (za0 o_ix (zab (pv 1)) (zab (pv 0)) (fun _ _=>rfl)) (zal (md:=.al) zeo (zab (pv 2)) (zab (pv 0))) (fun _ _=>rfl)))))
 refine zaj ?_
 exact (zaD [false,false,true,true] (zly (zaa (zab (pv 2)) (zaa (zab (pv 3)) zah))))
theorem zgS:FnScope zbT ["lines"] (defScope zbi):=⟨rfl,rfl,rfl,by decide +kernel,rfl,by decide +kernel,by decide +kernel⟩
theorem zg1:zbT.Nodup:=zam (by decide +kernel)
theorem zcH (T:Txt K mg t):FnOk P w K mg base (CXe P w) 1 t.f_line_sums t.d_line_sums ["lines"] (spT K t.cl 1 .fu zbt):=
 zaQ (N:=zbT) T.F_line_sums zgS rfl fun cdv A outer s H E S₀ hd hr=>by
 have hu5:(A.deeper (PyProof.Rows.envOfC "line_sums" (defScope zbi) s.heap.objs.size t.f_line_sums cdv)).units + 5 < cLine:=by have:=hr.un;lia
 have nd:=zg1
 refine zaj ?_
 exact (zaD [true] (zaJ zaC (Blk.of rfl) (N':=["line"]) (ix:=[none]) rfl rfl (zaR (zab (pv 0))) (fun _ _ _ _ _=>zaq (i:=0) zsl rfl (by first | exact Or.inl rfl | exact Or.inr rfl)) (zaU (i:=0) (by decide)) (fun _ _ _ _ _=>(zas (md:=.fu) (zq9 rfl) rfl T.n_sum boot_sum (zaa (zab (pv 0)) zah)))))
theorem zos:FnScope zf3 ["board"] (defScope zeU):=⟨rfl,rfl,rfl,by decide +kernel,rfl,by decide +kernel,by decide +kernel⟩
theorem zoZ:zf3.Nodup:=zam (by decide +kernel)
theorem zlc (T:Txt K mg t):FnOk P w K mg base (CXe P w) 3 t.f_sums t.d_sums ["board"] (spT K t.cl 1 .fu zef):=
 zaQ (N:=zf3) T.F_sums zos rfl fun cdv A outer s H E S₀ hd hr=>by
 have hu5:(A.deeper (PyProof.Rows.envOfC "sums" (defScope zeU) s.heap.objs.size t.f_sums cdv)).units + 5 < cLine:=by have:=hr.un;lia
 have nd:=zoZ
 refine zag ?_ ?_
 ·exact (zlu [true] (zar (zfB T) (hr.mono (by decide)) rfl T.mg_check_board T.F_check_board.kp T.b_check_board za3 (zaa (zab (pv 0)) zah)))
 refine zaj ?_
 exact (zaD [true] (zqW (by refine zaa (zar (zcH T) (hr.mono (by decide)) rfl T.mg_line_sums T.F_line_sums.kp T.b_line_sums za3 (zaa (zab (pv 0)) zah)) ?_;refine zaa (zar (zcH T) (hr.mono (by decide)) rfl T.mg_line_sums T.F_line_sums.kp T.b_line_sums za3 (zaa (JE.al (zar (zj5 T) (hr.mono (by decide)) rfl T.mg_columns T.F_columns.kp T.b_columns za3 (zaa (zab (pv 0)) zah))) zah)) ?_;refine zaa (zar (zcH T) (hr.mono (by decide)) rfl T.mg_line_sums T.F_line_sums.kp T.b_line_sums za3 (zaa (zar (zgW T) (hr.mono (by decide)) rfl T.mg_long_ways T.F_long_ways.kp T.b_long_ways za3 (zaa (zab (pv 0)) zah)) zah)) ?_;exact zah)))
theorem zjT:FnScope zce ["board"] (defScope zbN):=⟨rfl,rfl,rfl,by decide +kernel,rfl,by decide +kernel,by decide +kernel⟩
theorem zj9:zce.Nodup:=zam (by decide +kernel)
theorem zj4 (T:Txt K mg t):FnOk P w K mg base (CXe P w) 4 t.f_is_like t.d_is_like ["board"] (spT K t.cl 1 .fu zb6):=
 zaQ (N:=zce) T.F_is_like zjT rfl fun cdv A outer s H E S₀ hd hr=>by
 have hu5:(A.deeper (PyProof.Rows.envOfC "is_like" (defScope zbN) s.heap.objs.size t.f_is_like cdv)).units + 5 < cLine:=by have:=hr.un;lia
 have nd:=zj9
 refine zag ?_ ?_
 ·exact (zav (i:=1) [true,false] nd rfl (.inl rfl) (zar (zgX T) (hr.mono (by decide)) rfl T.mg_joined T.F_joined.kp T.b_joined za3 (zaa (JE.al (zar (zlc T) (hr.mono (by decide)) rfl T.mg_sums T.F_sums.kp T.b_sums za3 (zaa (zab (pv 0)) zah))) zah)))
 refine zaj ?_
 exact (zaD [false,true] (zfb (md:=.fu) (o_eq hu5) (zas (md:=.al) (zsQ rfl) rfl T.n_min boot_min (zaa (zab (pv 1)) zah)) (zas (md:=.al) (zsR rfl) rfl T.n_max boot_max (zaa (zab (pv 1)) zah)) (zay _)))
theorem zp6:FnScope zgF ["board", "way"] (defScope zhM):=⟨rfl,rfl,rfl,by decide +kernel,rfl,by decide +kernel,by decide +kernel⟩
theorem zqF:zgF.Nodup:=zam (by decide +kernel)
theorem znO (T:Txt K mg t):FnOk P w K mg base (CXe P w) 5 t.fqmet t.dqmet ["board", "way"] (spT K t.cl 2 .fu zfD):=
 zaQ (N:=zgF) T.Fqmet zp6 rfl fun cdv A outer s H E S₀ hd hr=>by
 have hu5:(A.deeper (PyProof.Rows.envOfC "_law_met" (defScope zhM) s.heap.objs.size t.fqmet cdv)).units + 5 < cLine:=by have:=hr.un;lia
 have nd:=zqF
 refine zaj ?_
 refine zqS rfl rfl (fun pn E' Eh hp=>?_) ?_
 ·refine zag ?_ ?_
  ·refine zbb [false,true,false] (zaH (o_eq hu5) (zab (pv 1)) (zac (md:=.al)) (zay _)) ?_ ?_
   ·refine zaj ?_
    exact (zaD [true,false,false] (zar (zlc T) (hr.mono (by decide)) rfl T.mg_sums T.F_sums.kp T.b_sums hp (zaa (zab (pv 0)) zah)))
   ·exact zaF
  refine zaj ?_
  exact (zaD [true,false,false] (zar (zj4 T) (hr.mono (by decide)) rfl T.mg_is_like T.F_is_like.kp T.b_is_like hp (zaa (zab (pv 0)) zah)))
 ·refine zpf (i:=2) (c':=1) (Rh:=fun a=>(sRet .fu [false,false,true] (eLst (zae (vAnd (eExc 2 a) (eExc 2 a)) aNil)))) (t:=(.lst [(.sc (.bl true))])) (md:=.fu) [0,1] rfl hd rfl T.mg_BadBoard nd rfl rfl T.e_BadBoard (fun a oe hcs=>?_) (fun a=>?_) ?_
  ·refine zaj ?_
   exact (zaD [false,false,true] (za6 (zaa (zlz (md:=.fu) (zjd (md:=.al) (y := "e") rfl T.n_isinstance (pv 2) (zk7 (v:=.ref t.C_SumError) rfl T.mg_SumError rfl) (fun _ q=>q) (zfE T hcs)) (zlx (zjd (md:=.fu) (y := "e") rfl T.n_isinstance (pv 2) (zc7 (v:=.ty "ValueError") rfl T.n_ValueError zgx rfl) (fun _ q=>q) (zep T hcs)))) zah)))
  ·simp [sRet,eTup,eLst,zae,aNil,eC,eExc,view,envE,cxOf,zgF,vAnd,zgM,ze5,asB,Res.of,sz1,sz2]
  exact zqV
theorem zp7:FnScope ziB ["script"] (defScope s_law):=⟨rfl,rfl,rfl,by decide +kernel,rfl,by decide +kernel,by decide +kernel⟩
theorem zqG:ziB.Nodup:=zam (by decide +kernel)
theorem ok_law (T:Txt K mg t):FnOk P w K mg base (CXe P w) 6 t.f_law t.d_law ["script"] (spT K t.cl 1 .fu zlo):=
 zaQ (N:=ziB) T.F_law zp7 rfl fun cdv A outer s H E S₀ hd hr=>by
 have hu5:(A.deeper (PyProof.Rows.envOfC "law" (defScope s_law) s.heap.objs.size t.f_law cdv)).units + 5 < cLine:=by have:=hr.un;lia
 have nd:=zqG
 refine zag ?_ ?_
 ·exact (zlt (i:=1) [true,false,false,false,false,false,false,false] nd rfl (.inl rfl) (zar (zlb T) (hr.mono (by decide)) rfl T.mgqany_by T.Fqany_by.kp T.bqany_by za3 (zaa (zab (pv 0)) (zaa (zac (md:=.al)) zah))))
 refine zag ?_ ?_
 ·exact (zav (i:=2) [true,false,false,false,false,false,false,false] nd rfl (.inl rfl) (zar (zbH T) (hr.mono (by decide)) rfl T.mgqcell_at T.Fqcell_at.kp T.bqcell_at za3 (zaa (zab (pv 0)) (zaa (zac (md:=.al)) zah))))
 refine zag ?_ ?_
 ·refine zbb [false,false,true,false,false,false,false,false] (zaH (o_eq hu5) (zal (md:=.al) za7 (zab (pv 2)) (zac (md:=.al))) (zac (md:=.al)) (zay _)) ?_ ?_
  ·refine zaj ?_
   exact (zlt (i:=1) [false,true,true,false,false,false,false,false] nd rfl (.inl rfl) (zar (zoP T) (hr.mono (by decide)) rfl T.mgqhurt T.Fqhurt.kp T.bqhurt za3 (zaa (zab (pv 1)) (zaa (zal (md:=.al) zbB (zab (pv 2)) (zac (md:=.al))) zah))))
  ·refine zaj ?_
   refine zbb [false,false,true,false,false,false,false,false] (zaH (o_eq hu5) (zal (md:=.al) za7 (zab (pv 2)) (zac (md:=.al))) (zac (md:=.al)) (zay _)) ?_ ?_
   ·refine zaj ?_
    exact (zav (i:=1) [true,false,false,false,false,false,false,false] nd rfl (.inl rfl) (zar (zeY T) (hr.mono (by decide)) rfl T.mgqboard_by T.Fqboard_by.kp T.bqboard_by za3 (zaa (JE.al (zar (zbH T) (hr.mono (by decide)) rfl T.mgqcell_at T.Fqcell_at.kp T.bqcell_at za3 (zaa (zab (pv 0)) (zaa (zac (md:=.al)) zah)))) (zaa (zac (md:=.al)) zah))))
   ·exact zaF
 refine zag ?_ ?_
 ·refine zcL [false,false,false,false,false,false,false,false] ownE rfl (zaI rfl T.n_range (zaa (zac (md:=.al)) zah)) (zaq (i:=3) nd rfl (.inl rfl)) (zaT 3) ?_
  refine zag ?_ ?_
  ·exact (zav (i:=4) [false,true,false,false,false,false,false,false] nd rfl (.inl rfl) (zar (zoR T) (hr.mono (by decide)) rfl T.mgqcopy T.Fqcopy.kp T.bqcopy za3 (zaa (zab (pv 1)) zah)))
  refine zag ?_ ?_
  ·exact (zav (i:=5) [false,false,false,false,true,false,false,false] nd rfl (.inl rfl) (zar (znO T) (hr.mono (by decide)) rfl T.mgqmet T.Fqmet.kp T.bqmet za3 (zaa (zab (pv 4)) (zaa (zac (md:=.al)) zah))))
  refine zag ?_ ?_
  ·exact (zav (i:=6) [false,false,false,false,true,false,false,false] nd rfl (.inl rfl) (zar (znO T) (hr.mono (by decide)) rfl T.mgqmet T.Fqmet.kp T.bqmet za3 (zaa (zab (pv 4)) (zaa (zac (md:=.al)) zah))))
  refine zag ?_ ?_
  ·refine zbb [false,true,false,false,true,false,false,false] (zaH (o_ne hu5) (zab (pv 4)) (zab (pv 1)) (zay _)) ?_ ?_
   ·refine zaj ?_
    exact (zaD [false,false,false,false,false,false,false,false] (zfc (md:=.fu)))
   ·exact zaF
  refine zaj ?_
  refine zbb [false,true,false,false,false,false,false,false] (zdA (zeh (JE.al (zar (zhU T) (hr.mono (by decide)) rfl T.mgqis_board T.Fqis_board.kp T.bqis_board za3 (zaa (zab (pv 1)) zah))))) ?_ ?_
  ·refine zaj ?_
   refine zbb [false,false,false,false,false,true,true,false] (zh3 (zh2 (zaH (o_ne hu5) (zab (pv 5)) (JE.al (za6 (zaa (zfc (md:=.fu)) zah))) (zay _)) (zfR (zaH (o_ne hu5) (zab (pv 6)) (JE.al (za6 (zaa (zfc (md:=.fu)) zah))) (zay _))))) ?_ ?_
   ·refine zaj ?_
    exact (zaD [false,false,false,false,false,false,false,false] (zfc (md:=.fu)))
   ·exact zaF
  ·refine zaj ?_
   refine zbb [false,true,false,false,false,true,false,false] (zh3 (zh2 (zdA (zeh (zas (md:=.al) zkm rfl T.n_isinstance boot_isinstance (zaa (zab (pv 5)) (zaa (zdB (md:=.al) (zc7 (v:=.ty "tuple") rfl T.n_tuple boot_tuple rfl)) zah))))) (zfR (zdA (zeh (JE.al (zar (zmD T) (hr.mono (by decide)) rfl T.mgqboard T.Fqboard.kp T.bqboard za3 (zaa (JE.al (zbQ (md:=.sp) zhh rfl T.n_list boot_list (zaa (zab (pv 5)) zah))) (zaa (JE.al (zbQ (md:=.sp) zhh rfl T.n_list boot_list (zaa (zar (zla T) (hr.mono (by decide)) rfl T.mgqsums T.Fqsums.kp T.bqsums za3 (zaa (zab (pv 1)) zah)) zah))) zah))))))))) ?_ ?_
   ·refine zaj ?_
    exact (zaD [false,false,false,false,false,false,false,false] (zfc (md:=.fu)))
   ·refine zaj ?_
    refine zbb [false,true,false,false,false,false,true,false] (zdA (zeh (JE.al (zar (zoN T) (hr.mono (by decide)) rfl T.mgqtold T.Fqtold.kp T.bqtold za3 (zaa (zab (pv 6)) (zaa (JE.al (zar (zoO T) (hr.mono (by decide)) rfl T.mgqlike T.Fqlike.kp T.bqlike za3 (zaa (zab (pv 1)) zah))) zah)))))) ?_ ?_
    ·refine zaj ?_
     exact (zaD [false,false,false,false,false,false,false,false] (zfc (md:=.fu)))
    ·refine zaj ?_
     exact (zkd (i:=5) (p:=7) ownE rfl nd rfl (.inl rfl) (pv 5) (pv 7) zk6)
 refine zaj ?_
 exact (zaD [false,false,false,false,false,false,false,false] (zfc (md:=.fu)))
end
end Qk01
namespace Qk01
open PySem PySem.Spec L2 TL
noncomputable def zc2 (ns:List Int) (k:Nat):Int:=ns.getD k 0
theorem zd3 (ns:List Int) (k:Nat):zbd [.scr ns,.sc (.int k)]=.ok (.sc (.int (zc2 ns k))):=by
 unfold zc2
 by_cases h:k < ns.length
 ·have:atI ns (k:Int)=some ns[k]:=zd7 (by lia) (by simp [h])
  simp [zbd,zfn,zcc,h,this]
 ·simp [zbd,zfn,zcc,h]
theorem zoi (i:Int) (h0:0≤i) (h1:i < 13):∃ v:Int,0≤v∧v < 100000∧atI ([.sc (.int 48271),.sc (.int 69621),.sc (.int 16807),.sc (.int 39373),.sc (.int 30269),.sc (.int 40014),.sc (.int 40692),.sc (.int 50021),.sc (.int 61687),.sc (.int 71993),.sc (.int 83869),.sc (.int 95561),.sc (.int 30307)]:List T) i=some (.sc (.int v)):=by
 have e:([.sc (.int 48271),.sc (.int 69621),.sc (.int 16807),.sc (.int 39373),.sc (.int 30269),.sc (.int 40014),.sc (.int 40692),.sc (.int 50021),.sc (.int 61687),.sc (.int 71993),.sc (.int 83869),.sc (.int 95561),.sc (.int 30307)]:List T)=zad [48271,69621,16807,39373,30269,40014,40692,50021,61687,71993,83869,95561,30307]:=rfl
 rw [e,zgy]
 obtain⟨n,rfl⟩:=Int.eq_ofNat_of_zero_le h0
 have hn:n < ([48271,69621,16807,39373,30269,40014,40692,50021,61687,71993,83869,95561,30307]:List Int).length:=by simp;lia
 refine ⟨[48271,69621,16807,39373,30269,40014,40692,50021,61687,71993,83869,95561,30307][n],?_,?_,?_⟩
 ·have:∀ v∈([48271,69621,16807,39373,30269,40014,40692,50021,61687,71993,83869,95561,30307]:List Int),0≤v:=by decide
  exact this _ (List.getElem_mem hn)
 ·have:∀ v∈([48271,69621,16807,39373,30269,40014,40692,50021,61687,71993,83869,95561,30307]:List Int),v < 100000:=by decide
  exact this _ (List.getElem_mem hn)
 ·rw [zd7 (by lia) (List.getElem?_eq_getElem hn)];rfl
theorem mix (c k m:Int) (hk:0≤k) (hk2:k < 1000000) (hm:0 < m) (hm2:m < 1000000):∃ r,zlm [.sc (.int c),.sc (.int k),.sc (.int m)]=.ok (.sc (.int r))∧0≤r∧r < m:=by
 obtain⟨v,h0,h1,e⟩:=zoi (k % 13) (by lia) (by lia)
 have a1:(-(2 ^ 64) < c % 2147483647 + 12345∧c % 2147483647 + 12345 < 2 ^ 64):=by lia
 have a2:=zg8 (i:=c % 2147483647 + 12345) (j:=v) (.inl a1)
 have a3:=zg8 (i:=977) (j:=k) (.inl (by lia))
 have a4:=zg8 (i:=7919) (j:=k / 13) (.inl (by lia))
 generalize hs:((c % 2147483647 + 12345) * v + 977 * k + 7919 * (k / 13)) % 1000000007=s
 have hs':0≤s∧s < 1000000007:=by lia
 have a5:=zg8 (i:=s) (j:=s) (.inl (by lia))
 have a6:=zg8 (i:=48271) (j:=k) (.inl (by lia))
 refine ⟨(s * s + 48271 * k) % 1000000007 / 7 % m,?_,Int.emod_nonneg _ (by lia),Int.emod_lt_of_pos _ hm⟩
 simp [zlm,zrh,zmc,e,a2,a3,a4,hs,a5,a6,hm]
theorem zkU (n:Nat):rngZ 0 (n + 1)=rngZ 0 n ++ [(n:Int)]:=by
 unfold rngZ;rw [List.range_succ,List.map_append];simp
theorem ziZ (c m:Int) (h0:0≤m) (hm:m≤200):∃ p:List Int,zb5 [.sc (.int c),.sc (.int m)]=.ok (.lst (zad p))∧p.Perm (rngZ 0 m.toNat):=by
 obtain⟨ρ',e,o,l,p,rfl,hp⟩:=zcq (gT:=gS 4) (B:=zb0)
  (fun k ρ=>∃ (o:Option (Md×T)) (l:Int) (p:List Int),ρ=[some (.al,.sc (.int c)),some (.al,.sc (.int m)),some (.fu,.sc (.int l)),some (.fu,.lst (zad p)),o]∧p.Perm (rngZ 0 k)) m.toNat
  [some (.al,.sc (.int c)),some (.al,.sc (.int m)),some (.fu,.sc (.int (c / 2))),some (.fu,.lst (zad [])),none] ⟨none,c / 2,[],rfl,.refl _⟩ (by
   rintro j ρ hj ⟨o,l,p,rfl,hp⟩
   have hl:p.length=j:=by have:=hp.length_eq;simpa using this
   have perm:∀ r:Nat,(p.take r ++ (j:Int) :: p.drop r).Perm (rngZ 0 (j + 1)):=fun r=>by
    rw [zkU]
    refine (List.perm_middle).trans ?_
    rw [List.take_append_drop]
    exact (hp.cons _).trans (List.perm_append_singleton _ _).symm
   refine ⟨_,rfl,?_⟩
   by_cases hc:c % 2=0
   ·have hj1:(0:Int) < (j:Int) + 1:=by lia
    have hj2:(j:Int) + 1 < 1073741824:=by lia
    have i1:0≤l % ((j:Int) + 1):=Int.emod_nonneg _ (by lia)
    have i2:l % ((j:Int) + 1)≤(p.length:Int):=by have:=Int.emod_lt_of_pos l hj1;lia
    have i3:p.length < 1000:=by lia
    refine ⟨_,?_,some (.al,.sc (.int j)),l / ((j:Int) + 1),_,rfl,perm (l % ((j:Int) + 1)).toNat⟩
    simp [zb0,hc,hj1,hj2,i1,i2,i3]
   ·obtain⟨r,e,r0,r1⟩:=mix l j (j + 1) (by lia) (by lia) (by lia) (by lia)
    have i2:r≤(p.length:Int):=by lia
    have i3:p.length < 1000:=by lia
    refine ⟨_,?_,some (.al,.sc (.int j)),l,_,rfl,perm r.toNat⟩
    simp [zb0,hc,e,r0,i2,i3])
 refine ⟨p,?_,hp⟩
 have b1:-4611686018427387904≤m:=by lia
 have b2:m < 4611686018427387904:=by lia
 simp [zb5,zf1,zcb,b1,b2] at e ⊢
 simp [e]
theorem zfX (c:Int) (n:Nat) (h1:1≤n) (hn:n≤13):∃ b:List (List Int),zbI [.sc (.int c),.sc (.int n)]=.ok (.lst (zai b))∧Sq n b:=by
 have hs:(n:Int) * n≤169:=by
  have:n * n≤13 * 13:=Nat.mul_le_mul hn hn
  exact_mod_cast this
 have hs0:(0:Int)≤(n:Int) * n:=Int.mul_nonneg (by lia) (by lia)
 obtain⟨p,e,hp⟩:=ziZ c ((n:Int) * n) hs0 (by lia)
 have hl:p.length=n * n:=by
  have:=hp.length_eq
  rw [ziT] at this
  rw [this]
  exact_mod_cast Int.toNat_natCast (n * n)
 have b1:(-4611686018427387904:Int)≤n:=by lia
 have b2:(n:Int) < 4611686018427387904:=by lia
 have b3:∀ j:Int,(-(2 ^ 64) < j∧j < 2 ^ 64)∨(-(2 ^ 64) < (n:Int)∧(n:Int) < 2 ^ 64):=fun j=>.inr (by lia)
 have bz:n * n≤169:=by exact_mod_cast hs
 refine ⟨(rngZ 0 n).map fun k=>cutZ (p.map (· + 1)) (some (k * n)) (some ((k + 1) * n)),?_,?_⟩
 ·simp [zbI,zf2,zcd,b1,b2,e,zbR (b3 _)]
  rw [zcm (· + 1)]
  ·simp [hl,show n * n≤1000 by lia,show n≤1000 by lia]
   rw [ze4 (fun k=>cutZ (p.map (· + 1)) (some (k * n)) (some ((k + 1) * n)))]
   ·simp [show n≤1000 by lia]
   ·exact fun x hx=>⟨_,rfl,by simp [zem,zbR (b3 _)]⟩
  ·exact fun x hx=>⟨_,rfl,by simp [zen]⟩
 ·refine Sq.map (by simp) fun k hk=>?_
  obtain⟨h0,h3⟩:=zbX hk
  obtain⟨j,rfl⟩:=Int.eq_ofNat_of_zero_le h0
  unfold cutZ
  have e1:((j:Int) * n)=((j * n:Nat):Int):=by simp
  have e2:(((j:Int) + 1) * n)=(((j + 1) * n:Nat):Int):=by simp
  rw [e1,e2,HT.sIx_nat,HT.sIx_nat]
  have q1:(j + 1) * n≤n * n:=Nat.mul_le_mul_right n (by lia)
  have q2:(j + 1) * n=j * n + n:=Nat.succ_mul j n
  have q3:j * n≤n * n:=Nat.mul_le_mul_right n (by lia)
  rw [List.length_take,List.length_drop,List.length_map,hl,Nat.min_eq_left q1,Nat.min_eq_left q3]
  lia
theorem zm5 (c:Int) (n:Nat) (h1:1≤n) (hn:n≤12):∃ b:List (List Int),zbI [.sc (.int c),.sc (.int n)]=.ok (.lst (zai b))∧Sq n b:=zfX c n h1 (by lia)
theorem zmx {n:Nat} {p:List Int} (hp:p.Perm (rngZ 0 n)):Ord n p:=⟨by rw [hp.length_eq,ziT],fun x hx=>zbX (hp.mem_iff.mp hx)⟩
theorem zpq (c:Int) (n:Nat) (h1:1≤n) (hn:n≤12):∃ o:List Int,zdv [.sc (.int c),.sc (.int n)]=.ok (.lst (zad o))∧Ord n o:=by
 obtain⟨h,ed,hh⟩:∃ h:Nat,(n:Int) / 2=h∧n / 2=h:=⟨n / 2,by lia,rfl⟩
 obtain⟨p,ep,hp⟩:=ziZ c (h:Int) (by lia) (by lia)
 rw [Int.toNat_natCast] at hp
 have hp:=zmx hp
 obtain⟨ρ',e,x1,x2,o,rfl,ho⟩:=zcq (gT:=gS 5) (B:=zcv)
  (fun k ρ=>∃ (x1 x2:Option (Md×T)) (o:List Int),ρ=[some (.al,.sc (.int c)),some (.al,.sc (.int n)),some (.al,.sc (.int (h:Int))),some (.fu,.lst (zad p)),some (.fu,.lst (zad o)),x1,x2]∧Ord n o) h
  [some (.al,.sc (.int c)),some (.al,.sc (.int n)),some (.al,.sc (.int (h:Int))),some (.fu,.lst (zad p)),some (.fu,.lst (zad (List.replicate n (h:Int)))),none,none]
  ⟨none,none,_,rfl,⟨by simp,fun x hx=>by have:=List.eq_of_mem_replicate hx;lia⟩⟩ (by
   rintro j ρ hj ⟨x1,x2,o,rfl,ho⟩
   refine ⟨_,rfl,?_⟩
   obtain⟨r,er,r0,r1⟩:=mix c (70 + j) 2 (by lia) (by lia) (by lia) (by lia)
   have g:=hp.get (i:=j) hj
   have c1:(j:Int) < (p.length:Int):=by rw [hp.len];lia
   have c2:(j:Int) < (o.length:Int):=by rw [ho.len];lia
   have c3:0≤(n:Int) - 1 - j:=by lia
   have c4:(n:Int) - 1 - j < o.length:=by rw [ho.len];lia
   by_cases hr:r=1
   ·exact⟨_,by simp [zcv,er,hr,c1,c2];rw [zcV c3 (by rw [List.length_set];exact c4)];exact rfl,_,_,_,rfl,(ho.set _ (by lia) (by lia)).set _ (by lia) (by lia)⟩
   ·exact⟨_,by simp [zcv,er,hr,c1,c2];rw [zcV c3 (by rw [List.length_set];exact c4)];exact rfl,_,_,_,rfl,(ho.set _ (by lia) (by lia)).set _ (by lia) (by lia)⟩)
 refine ⟨o,?_,ho⟩
 simp [zdv,zhy,zcS,ed,ep,show n≤1000 by lia,show h≤1000 by lia] at e ⊢
 simp [e]
theorem zlq (n:Nat) (h1:1≤n) (hn:n≤12) (s:List Int) (ba:Int) (x7 x8:Option (Md×T)) (m3:Md) (hm3:m3≠.al):∃ ρ':SEnv,forL (gS 4) zcu (zad (rngZ 0 n)) [some (.al,.scr s),some (.al,.sc (.int ba)),some (.al,.sc (.int n)),some (m3,.lst (zai [])),none,none,none,x7,x8]=.nx ρ' ∧
  ∃ (x4 x5 x6:Option (Md×T)) (m:Md) (b:List (List Int)),ρ'=[some (.al,.scr s),some (.al,.sc (.int ba)),some (.al,.sc (.int n)),some (m,.lst (zai b)),x4,x5,x6,x7,x8]∧m≠.al∧b.length=n∧∀ r∈b,r.length=n:=by
 refine zcq (fun k ρ=>∃ (x4 x5 x6:Option (Md×T)) (m:Md) (b:List (List Int)),ρ=[some (.al,.scr s),some (.al,.sc (.int ba)),some (.al,.sc (.int n)),some (m,.lst (zai b)),x4,x5,x6,x7,x8]∧m≠.al∧b.length=k∧∀ r∈b,r.length=n) n _ ⟨_,_,_,_,[],rfl,hm3,rfl,fun _ h=>nomatch h⟩ ?_
 rintro j ρ hj ⟨x4,x5,x6,m,b,rfl,hm,hb,hr⟩
 refine ⟨_,rfl,?_⟩
 obtain⟨ρ',e,y6,row,rfl,hl⟩:=zcq (gT:=gS 6) (B:=zdi)
  (fun k ρ=>∃ (x6:Option (Md×T)) (row:List Int),ρ=[some (.al,.scr s),some (.al,.sc (.int ba)),some (.al,.sc (.int n)),some (m,.lst (zai b)),some (.al,.sc (.int j)),some (.fu,.lst (zad row)),x6,x7,x8]∧row.length=k) n
  [some (.al,.scr s),some (.al,.sc (.int ba)),some (.al,.sc (.int n)),some (m,.lst (zai b)),some (.al,.sc (.int j)),some (.fu,.lst (zad [])),x6,x7,x8] ⟨_,_,rfl,rfl⟩ (by
   rintro i ρ hi ⟨x6,row,rfl,hl⟩
   refine ⟨_,rfl,?_⟩
   have hn0:(0:Int) < n:=by lia
   have m1:=zbR (i:=(n:Int)) (j:=((j:Int) + i + 1 + n / 2) % n) (.inl (by lia))
   have m2:=zbR (i:=2) (j:=(i:Int)) (.inl (by lia))
   exact⟨_,by simp [zdi,show 0 < n by lia,m1,m2,show row.length < 1000 by lia];exact⟨rfl,rfl⟩,_,_,rfl,by simp [hl]⟩)
 have a1:=zl1 (i:=3) (M:=[false,false,false,false,false,true,false,false,false]) (m:=m) (b:=b) (r:=row) (ρ:=[some (.al,.scr s),some (.al,.sc (.int ba)),some (.al,.sc (.int n)),some (m,.lst (zai b)),some (.al,.sc (.int j)),some (.fu,.lst (zad row)),y6,x7,x8]) (by lia) hm (by simp)
 simp at e
 refine ⟨_,by simp [zcu,show n≤1000 by lia,e,a1];exact⟨rfl,rfl,rfl⟩,_,_,_,.sp,b ++ [row],rfl,by decide,by simp [hb],fun r h=>?_⟩
 rcases List.mem_append.mp h with h | h
 ·exact hr r h
 ·rw [List.mem_singleton.mp h,hl]
theorem zk2 {n:Nat} {b:List (List Int)} {o:List Int} (hn:n≤12) (hb:Sq n b) (ho:Ord n o) {F3 F4:VEnv→Res T} (e3:F3=fun ρ=>chk ((eOp oIx (eOp oIx (eVar 1) (eVar 2)) (eVar 0)) ρ)) (e4:F4=zbe [none,some 2,some 0] (iLst (eVar 1)) (gE 0) F3) :
  mapL (gE 0) F4 [none,some (.lst (zad o)),some (.lst (zai b))] (zad o)=.ok (zai (o.map fun i=>o.map fun j=>at0 (zat b i.toNat) j.toNat)):=by
 subst e3;subst e4
 refine ze4 _ _ fun i hi=>⟨_,rfl,?_⟩
 have hi:=ho.rng i hi
 simp
 rw [zcm fun j=>at0 (zat b i.toNat) j.toNat]
 ·simp [ho.len,show n≤1000 by lia]
 ·intro j hj
  have hj:=ho.rng j hj
  have g1:i < (b.length:Int):=by rw [hb.len];lia
  have g2:j < ((zat b i.toNat).length:Int):=by rw [hb.get (by lia)];lia
  exact⟨_,rfl,by simp [hi.1,hj.1,g1,g2]⟩
theorem zmo {n:Nat} {b:List (List Int)} (hb:Sq n b):mapL (gE 0) zdl [none] (zai b)=.ok (zai (b.map List.reverse))∧Sq n (b.map List.reverse):=
 ⟨ze3 _ _ fun r hr=>⟨_,rfl,by simp [zdl]⟩,hb.mapR fun r hr=>by rw [List.length_reverse];exact hb.row r hr⟩
theorem ziM {n:Nat} {b:List (List Int)} (hn:n≤12) (hb:Sq n b):∃ b',mapL (gE 0) zdk [none,some (.sc (.int n)),some (.lst (zai b))] (zad (rngZ 0 n))=.ok (zai b')∧Sq n b':=by
 refine ⟨(rngZ 0 n).map fun i=>(rngZ 0 n).map fun j=>at0 (zat b j.toNat) i.toNat,ze4 _ _ fun i hi=>⟨_,rfl,?_⟩,Sq.map (by simp) fun i hi=>by simp⟩
 have hi:=zbX hi
 simp [zdk,show n≤1000 by lia]
 rw [zcm fun j=>at0 (zat b j.toNat) i.toNat]
 ·simp [show n≤1000 by lia]
 ·intro j hj
  have hj:=zbX hj
  have g1:j < (b.length:Int):=by rw [hb.len];lia
  have g2:i < ((zat b j.toNat).length:Int):=by rw [hb.get (by lia)];lia
  exact⟨_,rfl,by simp [zfv,hi.1,hj.1,g1,g2]⟩
theorem zez {n:Nat} {b:List (List Int)} (hn:n≤12) (hb:Sq n b):∃ b',mapL (gE 0) zdj [none,some (.sc (.int n))] (zai b)=.ok (zai b')∧Sq n b':=by
 refine ⟨b.map fun r=>r.map fun x=>(n:Int) * n + 1 - x,ze3 _ _ fun r hr=>⟨_,rfl,?_⟩,hb.mapR fun r hr=>by rw [List.length_map];exact hb.row r hr⟩
 simp [zdj]
 rw [zcm fun x=>(n:Int) * n + 1 - x]
 ·simp [hb.row r hr,show n≤1000 by lia]
 ·exact fun x hx=>⟨_,rfl,by simp [zfu,zbR (i:=(n:Int)) (j:=n) (.inl (by lia))]⟩
theorem zjV (A B C:SEnv→SRes):sSeq A (sSeq B C)=sSeq (sSeq A B) C:=by
 funext ρ
 show (A ρ).then (fun ρ=>(B ρ).then C)=((A ρ).then B).then C
 cases A ρ <;> rfl
theorem zlr (s:List Int) (k n:Nat) (h1:1≤n) (hn:n≤12) (ho:n % 2=1∨n=4):∃ b:List (List Int),zcI [.scr s,.sc (.int k),.sc (.int n)]=.ok (.lst (zai b))∧Sq n b:=by
 obtain⟨o,eo,hO⟩:=zpq (zc2 s k) n h1 hn
 have c1:=zd3 s k
 have c2:=zd3 s (k + 1)
 rw [show ((k + 1:Nat):Int)=(k:Int) + 1 by lia] at c2
 have first:∃ (x4 x5 x6:Option (Md×T)) (m:Md) (b:List (List Int)),(sSeq (sSet 3 [false,false,false,false,false,false,false,false,false] (eLst (zae (eLst (zae (eC (.int 16)) (zae (eC (.int 2)) (zae (eC (.int 3)) (zae (eC (.int 13)) aNil))))) (zae (eLst (zae (eC (.int 5)) (zae (eC (.int 11)) (zae (eC (.int 10)) (zae (eC (.int 8)) aNil))))) (zae (eLst (zae (eC (.int 9)) (zae (eC (.int 7)) (zae (eC (.int 6)) (zae (eC (.int 12)) aNil))))) (zae (eLst (zae (eC (.int 4)) (zae (eC (.int 14)) (zae (eC (.int 15)) (zae (eC (.int 1)) aNil))))) aNil))))))
   (sIf [false,false,true,false,false,false,false,false,false] (eB (eOp (oEq) (eOp (oI iMod) (eVar 2) (eC (.int 2))) (eC (.int 1)))) (sSeq (sSet 3 [false,false,false,false,false,false,false,false,false] (eLst aNil))
    (sFor [false,false,true,false,false,false,false,false,false] (iRng rng1 (zae (eVar 2) aNil)) (gS 4) zcu)) sNil))
   [some (.al,.scr s),some (.al,.sc (.int k)),some (.al,.sc (.int n)),none,none,none,none,none,none]=.nx [some (.al,.scr s),some (.al,.sc (.int k)),some (.al,.sc (.int n)),some (m,.lst (zai b)),x4,x5,x6,none,none]∧m≠.al∧Sq n b:=by
  by_cases hodd:n % 2=1
  ·obtain⟨ρ',e,x4,x5,x6,m,b,rfl,hm,hb,hr⟩:=zlq n h1 hn s k none none .fu (by decide)
   refine ⟨x4,x5,x6,m,b,?_,hm,hb,hr⟩
   simp at e
   simp [show (n:Int) % 2=1 by lia,show n≤1000 by lia,e]
  ·have hn4:n=4:=by lia
   subst hn4
   refine ⟨none,none,none,.fu,[[16,2,3,13],[5,11,10,8],[9,7,6,12],[4,14,15,1]],?_,by decide,rfl,by decide⟩
   simp
 obtain⟨x4,x5,x6,m,b,e1,hm,hb⟩:=first
 have p1:=zk2 hn hb hO (F3:=zfx) (F4:=zfw) rfl rfl
 have hb1:Sq n (o.map fun i=>o.map fun j=>at0 (zat b i.toNat) j.toNat):=Sq.map hO.len fun x _=>by rw [List.length_map,hO.len]
 generalize (o.map fun i=>o.map fun j=>at0 (zat b i.toNat) j.toNat)=b1 at p1 hb1
 have ⟨p2,hb2⟩:=zmo hb1
 generalize b1.map List.reverse=b2 at p2 hb2
 obtain⟨b3,p3,hb3⟩:=ziM hn hb1
 obtain⟨b4,p4,hb4⟩:=ziM hn hb2
 obtain⟨c1',d1,hd1⟩:=zez hn hb1
 obtain⟨c2',d2,hd2⟩:=zez hn hb2
 obtain⟨c3',d3,hd3⟩:=zez hn hb3
 obtain⟨c4',d4,hd4⟩:=zez hn hb4
 have l1:∀ {b:List (List Int)},Sq n b→b.length≤1000:=fun h=>by rw [h.len];lia
 have e0:zcI [.scr s,.sc (.int k),.sc (.int n)]=fin .fu (zfm [some (.al,.scr s),some (.al,.sc (.int k)),some (.al,.sc (.int n)),none,none,none,none,none,none]):=rfl
 rw [e0]
 unfold zfm
 rw [show zej=sSeq _ zek from rfl,zjV,zot]
 erw [e1]
 by_cases q1:zc2 s (k + 1) % 2=1 <;> by_cases q2:zc2 s (k + 1) / 2 % 2=1 <;> by_cases q3:zc2 s (k + 1) / 4 % 2=1
 ·exact⟨c4',by simp [c1,c2,eo,p1,p2,p4,d4,q1,q2,q3,l1 hb1,l1 hb2,l1 hb4,l1 hd4,show n≤1000 by lia],hd4⟩
 ·exact⟨b4,by simp [c1,c2,eo,p1,p2,p4,q1,q2,q3,l1 hb1,l1 hb2,l1 hb4,show n≤1000 by lia],hb4⟩
 ·exact⟨c2',by simp [c1,c2,eo,p1,p2,d2,q1,q2,q3,l1 hb1,l1 hb2,l1 hd2,show n≤1000 by lia],hd2⟩
 ·exact⟨b2,by simp [c1,c2,eo,p1,p2,q1,q2,q3,l1 hb1,l1 hb2,show n≤1000 by lia],hb2⟩
 ·exact⟨c3',by simp [c1,c2,eo,p1,p3,d3,q1,q2,q3,l1 hb1,l1 hb3,l1 hd3,show n≤1000 by lia],hd3⟩
 ·exact⟨b3,by simp [c1,c2,eo,p1,p3,q1,q2,q3,l1 hb1,l1 hb3,show n≤1000 by lia],hb3⟩
 ·exact⟨c1',by simp [c1,c2,eo,p1,d1,q1,q2,q3,l1 hb1,l1 hd1,show n≤1000 by lia],hd1⟩
 ·exact⟨b1,by simp [c1,c2,eo,p1,q1,q2,q3,l1 hb1,show n≤1000 by lia],hb1⟩
theorem zok (i:Int) (h0:0≤i) (h1:i < 7):∃ n:Nat,1≤n∧n≤12∧(n % 2=1∨n=4)∧atI ([.sc (.int 1),.sc (.int 3),.sc (.int 4),.sc (.int 5),.sc (.int 7),.sc (.int 9),.sc (.int 11)]:List T) i=some (.sc (.int n)):=by
 obtain⟨x,hx,e⟩:=zn2 (l:=[1,3,4,5,7,9,11]) h0 (by simpa using h1)
 have:∀ x∈([1,3,4,5,7,9,11]:List Int),1≤x∧x≤12∧(x % 2=1∨x=4):=by decide
 obtain⟨a1,a2,a3⟩:=this x hx
 obtain⟨n,rfl⟩:=Int.eq_ofNat_of_zero_le (show 0≤x by lia)
 exact⟨n,by lia,by lia,by lia,e⟩
theorem zm2 {n:Nat} {b:List (List Int)} (hn:n≤12) (hb:Sq n b):∃ b',mapL (gE 0) zeb [none,some (.lst (zai b))] (zad (rngZ 0 n))=.ok (zai b')∧Sq n b':=by
 refine ⟨(rngZ 0 n).map fun i=>b.map fun r=>at0 r i.toNat,ze4 _ _ fun i hi=>⟨_,rfl,?_⟩,Sq.map (by simp) fun i hi=>by rw [List.length_map,hb.len]⟩
 have hi:=zbX hi
 simp [zeb]
 rw [zgo fun r=>at0 r i.toNat]
 ·simp [hb.len,show n≤1000 by lia]
 ·intro r hr
  have g2:i < (r.length:Int):=by rw [hb.row r hr];lia
  exact⟨_,rfl,by simp [zf4,hi.1,g2]⟩
theorem zrg (s:List Int) (k:Nat):∃ (n:Nat) (b:List (List Int)),zew [.scr s,.sc (.int k)]=.ok (.lst (zai b))∧1≤n∧n≤12∧Sq n b:=by
 have c2:=zd3 s (k + 2)
 have c3:=zd3 s (k + 3)
 rw [show ((k + 2:Nat):Int)=(k:Int) + 2 by lia] at c2
 rw [show ((k + 3:Nat):Int)=(k:Int) + 3 by lia] at c3
 generalize zc2 s (k + 2)=c at c2
 have e0:zew [.scr s,.sc (.int k)]=fin .al (zdQ [some (.al,.scr s),some (.al,.sc (.int k)),none,none,none,none,none,none,none]):=rfl
 rw [e0]
 by_cases q0:c % 3=0
 ·obtain⟨n,h1,h2,h3,e⟩:=zok (c / 3 % 7) (by lia) (by lia)
  obtain⟨b,eb,hb⟩:=zlr s k n h1 h2 h3
  exact⟨n,b,by simp [zdQ,c2,q0,e,eb],h1,h2,hb⟩
 ·obtain⟨n,en⟩:∃ n:Nat,1 + c / 3 % 12=(n:Int):=⟨(1 + c / 3 % 12).toNat,by lia⟩
  have h1:1≤n:=by lia
  have h2:n≤12:=by lia
  obtain⟨b0,eb0,hb0⟩:=zm5 (zc2 s (k + 3)) n h1 h2
  rw [show zdQ [some (.al,.scr s),some (.al,.sc (.int k)),none,none,none,none,none,none,none]=zct [some (.al,.scr s),some (.al,.sc (.int k)),some (.fu,.sc (.int c)),some (.fu,.sc (.int n)),some (.fu,.lst (zai b0)),none,none,none,none] by simp [zdQ,c2,c3,q0,en,eb0,-zct]]
  by_cases q1:c % 3=2∧n % 2=1
  ·obtain⟨q1,q2⟩:=q1
   have q2':(n:Int) % 2=1:=by lia
   obtain⟨b,eb,hb⟩:=zlr s k n h1 h2 (.inl q2)
   rw [show zct [some (.al,.scr s),some (.al,.sc (.int k)),some (.fu,.sc (.int c)),some (.fu,.sc (.int n)),some (.fu,.lst (zai b0)),none,none,none,none]=(zdg [some (.al,.scr s),some (.al,.sc (.int k)),some (.fu,.sc (.int c)),some (.fu,.sc (.int n)),some (.fu,.lst (zai b)),none,none,none,none]).then (zdV 4) by simp [q1,q2',eb,-zdg]]
   by_cases q3:c / 36 % 3=1
   ·refine ⟨n,b.drop 1 ++ b.take 1,?_,h1,h2,⟨by rw [List.length_append,List.length_drop,List.length_take,hb.len];lia,fun r hr=>?_⟩⟩
    ·have a1:=zjr b 1 (by rw [hb.len];lia)
     have a2:=zq6 b 1 (by rw [hb.len];lia)
     simp at a1 a2
     simp [q3,a1,a2]
     rw [zgZ (by rw [List.length_tail,List.length_take,hb.len];lia)]
     simp
    ·rcases List.mem_append.mp hr with hr | hr
     ·exact hb.row r (List.mem_of_mem_drop hr)
     ·exact hb.row r (List.mem_of_mem_take hr)
   ·obtain⟨r,er,r0,r1⟩:∃ r:Int,c / 36 % n=r∧0≤r∧r < n:=⟨_,rfl,Int.emod_nonneg _ (by lia),Int.emod_lt_of_pos _ (by lia)⟩
    obtain⟨d,ed,d0,d1⟩:∃ r:Int,c / 500 % n=r∧0≤r∧r < n:=⟨_,rfl,Int.emod_nonneg _ (by lia),Int.emod_lt_of_pos _ (by lia)⟩
    obtain⟨o,eo,o0,o1⟩:∃ r:Int,c / 7000 % n=r∧0≤r∧r < n:=⟨_,rfl,Int.emod_nonneg _ (by lia),Int.emod_lt_of_pos _ (by lia)⟩
    have g1:r < (b.length:Int):=by rw [hb.len];lia
    have g2:d < ((zat b r.toNat).length:Int):=by rw [hb.get (by lia)];lia
    have g3:o < ((zat b r.toNat).length:Int):=by rw [hb.get (by lia)];lia
    have hb1:Sq n (b.set r.toNat ((zat b r.toNat).set d.toNat (at0 (zat b r.toNat) o.toNat))):=hb.put
    have p1:=fun ρ=>zcj (i:=4) (b:=b) (x:=at0 (zat b r.toNat) o.toNat) (k:=r) (j:=d) (ρ:=ρ) r0 g1 d0 g2
    generalize (b.set r.toNat ((zat b r.toNat).set d.toNat (at0 (zat b r.toNat) o.toNat)))=b1 at hb1 p1
    have g4:r < (b1.length:Int):=by rw [hb1.len];lia
    have g5:o < ((zat b1 r.toNat).length:Int):=by rw [hb1.get (by lia)];lia
    have hb2:Sq n (b1.set r.toNat ((zat b1 r.toNat).set o.toNat (at0 (zat b r.toNat) d.toNat))):=hb1.put
    have p2:=fun ρ=>zcj (i:=4) (b:=b1) (x:=at0 (zat b r.toNat) d.toNat) (k:=r) (j:=o) (ρ:=ρ) r0 g4 o0 g5
    generalize (b1.set r.toNat ((zat b1 r.toNat).set o.toNat (at0 (zat b r.toNat) d.toNat)))=b2 at hb2 p2
    obtain⟨b3,p3,hb3⟩:=zm2 h2 hb2
    by_cases q4:c / 50000 % 2=1
    ·exact⟨n,b3,by simp [q3,show 0 < n by lia,er,ed,eo,r0,g1,d0,g2,o0,g3,p1,p2,q4,p3,show n≤1000 by lia,hb3.len],h1,h2,hb3⟩
    ·exact⟨n,b2,by simp [q3,show 0 < n by lia,er,ed,eo,r0,g1,d0,g2,o0,g3,p1,p2,q4],h1,h2,hb2⟩
  ·have:¬ (c % 3=2∧(n:Int) % 2=1):=by lia
   refine ⟨n,b0,?_,h1,h2,hb0⟩
   by_cases q2:c % 3=2
   ·simp [q2,show ¬ (n:Int) % 2=1 by lia]
   ·simp [q2]
theorem zhc {b:List (List Int)} {F:VEnv→Res T} (hF:F=eB1 (zeq .fu) (zae (eVar 0) aNil)):mapL (gE 0) F [none] (zai b)=.ok (zai b):=by
 subst hF
 have:=ze3 (F:=eB1 (zeq .fu) (zae (eVar 0) aNil)) (ρ:=[none]) (gE:=gE 0) (fun r=>r) b fun r hr=>⟨_,rfl,by simp⟩
 simpa using this
theorem hurt (b:List (List Int)) (c:Int) (n:Nat) (h1:1≤n) (h2:n≤12) (hb:Sq n b):∃ b',zi8 [.lst (zai b),.sc (.int c)]=.ok (.lst (zai b'))∧Sml b'∧(b'.length=n∨b'=[]∨∃ r∈b',r.length≠b'.length):=by
 have e0:zi8 [.lst (zai b),.sc (.int c)]=fin .al (zjz [some (.al,.lst (zai b)),some (.al,.sc (.int c)),none,none,none,none,none]):=rfl
 rw [e0]
 have lb:=hb.len
 have cp:=zhc (b:=b) (F:=zjI) rfl
 obtain⟨r,er,r0,r1⟩:∃ r:Int,c / 6 % n=r∧0≤r∧r < n:=⟨_,rfl,Int.emod_nonneg _ (by lia),Int.emod_lt_of_pos _ (by lia)⟩
 obtain⟨d,ed,d0,d1⟩:∃ r:Int,c / 80 % n=r∧0≤r∧r < n:=⟨_,rfl,Int.emod_nonneg _ (by lia),Int.emod_lt_of_pos _ (by lia)⟩
 obtain⟨o,eo,o0,o1⟩:∃ o:Int,(r + 1) % n=o∧0≤o∧o < n:=⟨_,rfl,Int.emod_nonneg _ (by lia),Int.emod_lt_of_pos _ (by lia)⟩
 have n0:0 < n:=by lia
 have nn:n≤1000:=by lia
 have g1:r < (b.length:Int):=by rw [hb.len];lia
 have g1':d < (b.length:Int):=by rw [hb.len];lia
 have g1o:o < (b.length:Int):=by rw [hb.len];lia
 have g2:d < ((zat b r.toNat).length:Int):=by rw [hb.get (by lia)];lia
 have g3:r < ((zat b d.toNat).length:Int):=by rw [hb.get (by lia)];lia
 have g4:d < ((zat b o.toNat).length:Int):=by rw [hb.get (by lia)];lia
 have sm:=hb.sml h2
 have pp:∀ (b:List (List Int)) (hb:Sq n b) (x:Int) (ρ:SEnv),zee 6 .fu (zai b) (.sc (.int x)) (.sc (.int r)) (.sc (.int d)) ρ=.nx (ρ.set 6 (some (.fu,.lst (zai (b.set r.toNat ((zat b r.toNat).set d.toNat x)))))):=
  fun b hb x ρ=>zcj r0 (by rw [hb.len];lia) d0 (by rw [hb.get (by lia)];lia)
 have pq:∀ (b:List (List Int)) (hb:Sq n b) (x:Int) (ρ:SEnv),zee 6 .fu (zai b) (.sc (.int x)) (.sc (.int d)) (.sc (.int r)) ρ=.nx (ρ.set 6 (some (.fu,.lst (zai (b.set d.toNat ((zat b d.toNat).set r.toNat x)))))):=
  fun b hb x ρ=>zcj d0 (by rw [hb.len];lia) r0 (by rw [hb.get (by lia)];lia)
 have mn:=zbR (i:=(n:Int)) (j:=n) (.inl (by lia))
 have pre:zjz [some (.al,.lst (zai b)),some (.al,.sc (.int c)),none,none,none,none,none]=zdK [some (.al,.lst (zai b)),some (.al,.sc (.int c)),some (.fu,.sc (.int n)),some (.fu,.sc (.int (c % 9))),some (.fu,.sc (.int r)),some (.fu,.sc (.int d)),some (.fu,.lst (zai b))]:=by
  simp [zjz,lb,n0,nn,er,ed,cp,-zdK]
 rw [pre]
 clear pre cp er ed
 by_cases w6:c % 9=6
 ·have hb1:∀ x,Sq n (b.set r.toNat ((zat b r.toNat).set d.toNat x)):=fun x=>hb.put
  have p1:=pp b hb (at0 (zat b r.toNat) d.toNat + 1 + c / 1000 % 3)
  have hb1:=hb1 (at0 (zat b r.toNat) d.toNat + 1 + c / 1000 % 3)
  generalize (b.set r.toNat ((zat b r.toNat).set d.toNat (at0 (zat b r.toNat) d.toNat + 1 + c / 1000 % 3)))=b1 at p1 hb1
  have k1:d < (b1.length:Int):=by rw [hb1.len];lia
  have k2:r < ((zat b1 d.toNat).length:Int):=by rw [hb1.get (by lia)];lia
  have p2:=pq b1 hb1 (at0 (zat b1 d.toNat) r.toNat - 1 - c / 1000 % 3)
  exact⟨_,by simp [lb,n0,nn,w6,r0,d0,r1,g2,p1,k1,k2,p2];exact rfl,(hb1.put).sml h2,.inl (hb1.put).len⟩
 rw [show zdK [some (.al,.lst (zai b)),some (.al,.sc (.int c)),some (.fu,.sc (.int n)),some (.fu,.sc (.int (c % 9))),some (.fu,.sc (.int r)),some (.fu,.sc (.int d)),some (.fu,.lst (zai b))]=zdL [some (.al,.lst (zai b)),some (.al,.sc (.int c)),some (.fu,.sc (.int n)),some (.fu,.sc (.int (c % 9))),some (.fu,.sc (.int r)),some (.fu,.sc (.int d)),some (.fu,.lst (zai b))] by simp [w6,-zdL]]
 by_cases w7:c % 9=7
 ·refine ⟨b.map fun row=>row.map fun _=>((n:Int) * n + 1) / 2,?_,(hb.mapR fun r hr=>by rw [List.length_map];exact hb.row r hr).sml h2,.inl (by rw [List.length_map,lb])⟩
  simp [lb,n0,nn,w7]
  rw [ze3 fun row=>row.map fun _=>((n:Int) * n + 1) / 2]
  ·simp [lb,nn]
  ·intro row hrow
   refine ⟨_,rfl,?_⟩
   simp [zjG]
   rw [zcm fun _=>((n:Int) * n + 1) / 2]
   ·simp [hb.row row hrow,nn]
   ·exact fun x hx=>⟨_,rfl,by simp [zjH,mn]⟩
 rw [show zdL [some (.al,.lst (zai b)),some (.al,.sc (.int c)),some (.fu,.sc (.int n)),some (.fu,.sc (.int (c % 9))),some (.fu,.sc (.int r)),some (.fu,.sc (.int d)),some (.fu,.lst (zai b))]=zdM [some (.al,.lst (zai b)),some (.al,.sc (.int c)),some (.fu,.sc (.int n)),some (.fu,.sc (.int (c % 9))),some (.fu,.sc (.int r)),some (.fu,.sc (.int d)),some (.fu,.lst (zai b))] by simp [w7,-zdM]]
 by_cases w8:c % 9=8
 ·obtain⟨x,ex⟩:=ze7 (r:=zat b r.toNat) (by intro h;rw [h] at g2;simp at g2;lia)
  let ρ0:SEnv:=[some (.al,.lst (zai b)),some (.al,.sc (.int c)),some (.fu,.sc (.int n)),some (.fu,.sc (.int 8)),some (.fu,.sc (.int r)),some (.fu,.sc (.int d)),some (.fu,.lst (zai b))]
  have a1:∀ k,zfz 6 ρ0 (.sc (.int o)) k=k o.toNat (zai b) (zad (zat b o.toNat)):=fun k=>zfK rfl o0 g1o
  have a2:∀ k,zfz 6 ρ0 (.sc (.int r)) k=k r.toNat (zai b) (zad (zat b r.toNat)):=fun k=>zfK rfl r0 g1
  have s1:Sml (b.set r.toNat (zat b r.toNat).dropLast):=sm.set _ (by rw [List.length_dropLast,hb.get (by lia)];lia)
  have hrw:∀ j,j < n→(zat (b.set r.toNat (zat b r.toNat).dropLast) j).length≤n:=fun j hj=>by
   unfold zat
   by_cases hj':r.toNat=j
   ·subst hj'
    rw [List.getD_eq_getElem?_getD,List.getElem?_set_self (by rw [lb];exact hj)]
    simp
    have:=hb.get hj
    unfold zat at this
    simp at this
    lia
   ·rw [List.getD_eq_getElem?_getD,List.getElem?_set_ne hj',← List.getD_eq_getElem?_getD]
    exact Nat.le_of_eq (hb.get hj)
  have hl:=hrw o.toNat (by lia)
  refine ⟨(b.set r.toNat (zat b r.toNat).dropLast).set o.toNat (zat (b.set r.toNat (zat b r.toNat).dropLast) o.toNat ++ [x]),?_,s1.set _ (by rw [List.length_append];simp;lia),.inl (by rw [List.length_set,List.length_set,lb])⟩
  have e3:((zai b).set r.toNat (.lst (zad (zat b r.toNat)).dropLast))=zai (b.set r.toNat (zat b r.toNat).dropLast):=by rw [zfF,zds]
  have e4:=zeV (b:=b.set r.toNat (zat b r.toNat).dropLast) (j:=o.toNat) (by rw [List.length_set,lb];lia)
  have e5:zad (zat (b.set r.toNat (zat b r.toNat).dropLast) o.toNat) ++ [.sc (.int x)]=zad (zat (b.set r.toNat (zat b r.toNat).dropLast) o.toNat ++ [x]):=by rw [zcN];rfl
  generalize hB:b.set r.toNat (zat b r.toNat).dropLast=B at *
  have a3:zgg 6 [false,false,true,false,true,false,false] (eOp (oI iMod) (eOp (oI iAdd) (eVar 4) (eC (.int 1))) (eVar 2)) (eVar 4) ρ0=.nx (ρ0.set 6 (some (.fu,.lst (zai (B.set o.toNat (zat B o.toNat ++ [x])))))):=by
   rw [zdW]
   unfold hasL
   simp [ρ0,n0,eo]
   rw [a1,a2]
   simp only [ex,e3,e4]
   rw [if_pos (zhK (by rw [za1];lia)),e5,zds]
  simp [ρ0,-zdW] at a3
  simp [lb,n0,nn,w8,-zdW,a3]
 rw [show zdM [some (.al,.lst (zai b)),some (.al,.sc (.int c)),some (.fu,.sc (.int n)),some (.fu,.sc (.int (c % 9))),some (.fu,.sc (.int r)),some (.fu,.sc (.int d)),some (.fu,.lst (zai b))]=zdN [some (.al,.lst (zai b)),some (.al,.sc (.int c)),some (.fu,.sc (.int n)),some (.fu,.sc (.int (c % 9))),some (.fu,.sc (.int r)),some (.fu,.sc (.int d)),some (.fu,.lst (zai b))] by simp [w8,-zdN]]
 by_cases w0:c % 9=0
 ·by_cases q:c / 1000 % 2=0
  ·refine ⟨[],?_,⟨by simp,by simp⟩,.inr (.inl rfl)⟩
   simp [lb,n0,nn,w0,q,show n + 1≤1000 by lia]
   rfl
  ·have q:c / 1000 % 2=1:=by lia
   refine ⟨b ++ [zat b 0],?_,⟨by rw [List.length_append,lb];simp;lia,fun r hr=>?_⟩,.inr (.inr ⟨zat b 0,by simp,by rw [List.length_append,lb,hb.get (by lia)];simp⟩)⟩
   ·simp [lb,n0,nn,w0,q,show n + 1≤1000 by lia]
    rfl
   ·rcases List.mem_append.mp hr with hr | hr
    ·exact sm.row r hr
    ·rw [List.mem_singleton.mp hr,hb.get (by lia)];lia
 rw [show zdN [some (.al,.lst (zai b)),some (.al,.sc (.int c)),some (.fu,.sc (.int n)),some (.fu,.sc (.int (c % 9))),some (.fu,.sc (.int r)),some (.fu,.sc (.int d)),some (.fu,.lst (zai b))]=zfk [some (.al,.lst (zai b)),some (.al,.sc (.int c)),some (.fu,.sc (.int n)),some (.fu,.sc (.int (c % 9))),some (.fu,.sc (.int r)),some (.fu,.sc (.int d)),some (.fu,.lst (zai b))] by simp [w0,-zfk]]
 by_cases w1:c % 9=1
 ·refine ⟨_,by simp [lb,n0,nn,w1,r0,r1];exact rfl,sm.set _ ?_,.inl (by rw [List.length_set,lb])⟩
  have:=zjr (zat b r.toNat) 1 (by rw [hb.get (by lia)];lia)
  simp at this
  rw [this,List.length_tail,hb.get (by lia)]
  lia
 by_cases w2:c % 9=2
 ·have hl:=hb.get (i:=r.toNat) (by lia)
  exact⟨_,by simp [lb,n0,nn,w2,r0,r1,mn,hl,show n + 1≤1000 by lia];exact rfl,sm.set _ (by rw [List.length_append,hl];simp;lia),.inl (by rw [List.length_set,lb])⟩
 by_cases w3:c % 9=3
 ·obtain⟨x,hx,ex⟩:=zn2 (l:=[0,(n:Int) * n + 1,-1,10 ^ 9]) (i:=c / 1000 % 4) (by lia) (by simp;lia)
  have p1:=pp b hb x
  have pw:=zpm (i:=10) (j:=9) (by decide)
  simp at pw ex
  exact⟨_,by simp [lb,n0,nn,w3,mn,pw,ex,p1];exact rfl,(hb.put).sml h2,.inl (hb.put).len⟩
 by_cases w4:c % 9=4
 ·refine ⟨b.map fun row=>row.map fun x=>x + 1,?_,(hb.mapR fun r hr=>by rw [List.length_map];exact hb.row r hr).sml h2,.inl (by rw [List.length_map,lb])⟩
  simp [lb,n0,nn,w4]
  rw [ze3 fun row=>row.map fun x=>x + 1]
  ·simp [lb,nn]
  ·intro row hrow
   refine ⟨_,rfl,?_⟩
   simp [zjE]
   rw [zcm fun x=>x + 1]
   ·simp [hb.row row hrow,nn]
   ·exact fun x hx=>⟨_,rfl,by simp [zjF]⟩
 ·have p1:=pp b hb (at0 (zat b o.toNat) d.toNat)
  exact⟨_,by simp [lb,n0,nn,w6,w7,w8,w0,w1,w2,w3,w4,r0,d0,o0,eo,r1,g2,o1,g4,p1];exact rfl,(hb.put).sml h2,.inl (hb.put).len⟩
def Bd (b:List (List Int)):Prop:=1≤b.length∧b.length≤12∧(∀ r∈b,r.length=b.length)∧zbU b.flatten=rngZ 1 (b.length * b.length)
theorem zg5 {b:List (List Int)} (hb:Sml b):zco [.lst (zai b)]=.ok (.lst (zad b.flatten)):=by
 obtain⟨x',e⟩:=zdE (L:=zd9) rfl (some (.al,.lst (zai b))) b [] none (by have:=hb.flat;simp at this ⊢;lia)
 simp at e
 simp [zco,zgE,zcZ,e]
theorem zjY (n:Nat):(rngZ 0 n).map (· + 1)=rngZ 1 n:=by
 unfold rngZ;rw [List.map_map];congr 1;funext k;simp;lia
theorem zeL (t0 t1:Option (Md×T)) (n:Nat):∀ (b:List (List Int)) (x:Option (Md×T)),∃ x',forL (gS 3) zbg (zai b) [t0,t1,some (.fu,.sc (.int n)),x]=(if ∀ r∈b,r.length=n then .nx [t0,t1,some (.fu,.sc (.int n)),x'] else .exc 1)
 | [],x=>⟨x,by simp⟩
 | r :: b,x=>by
  obtain⟨x',e⟩:=zeL t0 t1 n b (some (.al,.lst (zad r)))
  refine ⟨x',?_⟩
  rw [zbG,zdD]
  by_cases h:r.length=n
  ·have h':(r.length:Int)=n:=by lia
   simp [zbg,h]
   exact e
  ·simp [zbg,h,show ¬ (r.length:Int)=n by lia]
theorem zgP {b:List (List Int)}:za2 [.lst (zai b),.sc (.int 12)]=if 1≤b.length∧b.length≤12∧∀ r∈b,r.length=b.length then .ok (.sc .non) else .exc 1:=by
 obtain⟨x',e⟩:=zeL (some (.al,.lst (zai b))) (some (.al,.sc (.int 12))) b.length b none
 by_cases h0:b.length < 1
 ·have:(b.length:Int) < 1:=by lia
  rw [if_neg (by lia)]
  simp [za2,zbz,zaP,this]
 ·by_cases h2:12 < b.length
  ·have h3:(12:Int) < b.length:=by lia
   rw [if_neg (by lia)]
   simp [za2,zbz,zaP,h0,h3,show ¬ (b.length:Int) < 1 by lia]
  ·simp [za2,zbz,zaP,h0,h2,show ¬ (b.length:Int) < 1 by lia,show ¬ (12:Int) < b.length by lia,e]
   by_cases h4:∀ r∈b,r.length=b.length
   ·rw [if_pos h4,if_pos ⟨by lia,by lia,h4⟩];rfl
   ·rw [if_neg h4,if_neg (fun q=>h4 q.2.2)];rfl
theorem zjv {b:List (List Int)} (hb:Sml b):(Bd b→zaE [.lst (zai b)]=.ok (.sc .non))∧(¬ Bd b→zaE [.lst (zai b)]=.exc 1):=by
 have hl:=hb.len
 have hz:(b.length:Int) * b.length≤169:=by
  have:b.length * b.length≤13 * 13:=Nat.mul_le_mul hl hl
  exact_mod_cast this
 have hz0:(0:Int)≤(b.length:Int) * b.length:=Int.mul_nonneg (by lia) (by lia)
 have mn:=zbR (i:=(b.length:Int)) (j:=b.length) (.inl (by lia))
 have r2:=zov (i:=1) (j:=(b.length:Int) * b.length + 1) (by lia)
 have et:((b.length:Int) * b.length + 1 - 1).toNat=b.length * b.length:=by
  rw [Int.add_sub_cancel];exact_mod_cast Int.toNat_natCast (b.length * b.length)
 rw [et] at r2
 have hz':b.length * b.length≤169:=by exact_mod_cast hz
 by_cases h1:1≤b.length∧b.length≤12∧∀ r∈b,r.length=b.length
 ·have sq:=zgP (b:=b)
  rw [if_pos h1] at sq
  refine ⟨fun h=>?_,fun h=>?_⟩
  ·simp [zaE,zbE,zaY,sq,zg5 hb,mn,r2,show b.length * b.length≤1000000 by lia,zgj,h.2.2.2]
  ·have:¬ zbU b.flatten=rngZ 1 (b.length * b.length):=fun q=>h ⟨h1.1,h1.2.1,h1.2.2,q⟩
   simp [zaE,zbE,zaY,sq,zg5 hb,mn,r2,show b.length * b.length≤1000000 by lia,zgj,this]
 ·have sq:=zgP (b:=b)
  rw [if_neg h1] at sq
  refine ⟨fun h=>absurd ⟨h.1,h.2.1,h.2.2.1⟩ h1,fun h=>?_⟩
  simp [zaE,zbE,zaY,sq]
theorem zlI {b:List (List Int)} (hb:Sml b):zi9 [.lst (zai b)]=.ok (.lst (zad b.flatten)):=by
 obtain⟨x',e⟩:=zdE (L:=zjC) rfl (some (.al,.lst (zai b))) b [] none (by have:=hb.flat;simp at this ⊢;lia)
 simp at e
 simp [zi9,zn8,zhD,e]
theorem zfe {b:List (List Int)} (hb:Sml b):(Bd b→za8 [.lst (zai b)]=.ok (.sc (.bl true)))∧(¬ Bd b→za8 [.lst (zai b)]=.ok (.sc (.bl false))):=by
 have hl:=hb.len
 have hz':b.length * b.length≤169:=Nat.mul_le_mul hl hl
 have mn:=zbR (i:=(b.length:Int)) (j:=b.length) (.inl (by lia))
 have rn:=zmn (n:=b.length * b.length) (by lia)
 simp at rn
 have al:mapL (gE 0) zb1 [none,some (.sc (.int b.length))] (zai b)=.ok (zc3 (b.map fun r=>decide (r.length=b.length))):=by
  refine zo5 _ _ fun r hr=>⟨_,rfl,?_⟩
  by_cases h:r.length=b.length
  ·simp [zb1,h]
  ·simp [zb1,h,show ¬ (r.length:Int)=b.length by lia]
 have cp:mapL (gE 0) zcU [none] (zad (rngZ 0 (b.length * b.length)))=.ok (zad (rngZ 1 (b.length * b.length))):=by
  rw [zcm (· + 1),zjY]
  exact fun x hx=>⟨_,rfl,by simp [zcU]⟩
 by_cases h1:1≤b.length
 ·by_cases h2:b.length≤12
  ·by_cases h3:∀ r∈b,r.length=b.length
   ·have al1:(b.map fun r=>decide (r.length=b.length)).all id=true:=by simpa using h3
    refine ⟨fun h=>?_,fun h=>?_⟩
    ·simp [za8,zbJ,zba,al,show (1:Int)≤b.length by lia,show (b.length:Int)≤12 by lia,show b.length≤1000 by lia,zd5,al1,zlI hb,mn,rn,cp,show b.length * b.length≤1000 by lia,zgk,h.2.2.2]
    ·have:¬ zbU b.flatten=rngZ 1 (b.length * b.length):=fun q=>h ⟨h1,h2,h3,q⟩
     simp [za8,zbJ,zba,al,show (1:Int)≤b.length by lia,show (b.length:Int)≤12 by lia,show b.length≤1000 by lia,zd5,al1,zlI hb,mn,rn,cp,show b.length * b.length≤1000 by lia,zgk,this]
   ·refine ⟨fun h=>absurd h.2.2.1 h3,fun h=>?_⟩
    have:(b.map fun r=>decide (r.length=b.length)).all id=false:=by
     rw [Bool.eq_false_iff];intro q;exact h3 (by simpa using q)
    simp [za8,zbJ,zba,al,show (1:Int)≤b.length by lia,show (b.length:Int)≤12 by lia,show b.length≤1000 by lia,zd5,this]
  ·refine ⟨fun h=>absurd h.2.1 h2,fun h=>?_⟩
   simp [za8,zbJ,zba,show (1:Int)≤b.length by lia,show ¬ (b.length:Int)≤12 by lia]
 ·refine ⟨fun h=>absurd h.1 h1,fun h=>?_⟩
  simp [za8,zbJ,zba,show ¬ (1:Int)≤b.length by lia]
theorem zlP {b:List (List Int)} (h:b.length≤1000):zja [.lst (zai b)]=.ok (.lst (zai b)):=by
 simp [zja,zn9,zhE,zhc (b:=b) (F:=zjJ) rfl,h]
theorem zmd (x:Int):zgl [.sc (.int x)]=.ok (.sc (.bl true)):=by
 simp [zgl,zl7,zfs,cIsi,tyN]
theorem zfW (t0 t1:Option (Md×T)):∀ (b:List (List Int)) (x y:Option (Md×T)),(∀ r∈b,r.length≤1000)→∃ x' y',forL (gS2 2 3) zdT (zipT (zai b) (zai b)) [t0,t1,x,y]=.nx [t0,t1,x',y']
 | [],x,y,_=>⟨x,y,by simp [zipT]⟩
 | r :: b,x,y,h=>by
  obtain⟨x',y',e⟩:=zfW t0 t1 b (some (.al,.lst (zad r))) (some (.al,.lst (zad r))) fun r hr=>h r (by simp [hr])
  refine ⟨x',y',?_⟩
  have cp:mapL (gE 0) zfy [none] (zad r)=.ok (zc3 (r.map fun _=>true)):=zo6 _ _ fun x hx=>⟨_,rfl,by simp [zfy,zmd]⟩
  have al:(r.map fun _=>true).all id=true:=by simp
  rw [zbG]
  show forL (gS2 2 3) zdT (.tup [.lst (zad r),.lst (zad r)] :: zipT (zai b) (zai b)) _=_
  rw [zdD]
  simp [zdT,cIsi,tyN,zgj,cp,h r (by simp)]
  exact e
theorem zg4 {b:List (List Int)} (h:b.length≤1000) (hr:∀ r∈b,r.length≤1000):zgm [.lst (zai b),.lst (zai b)]=.ok (.sc (.bl true)):=by
 obtain⟨x',y',e⟩:=zfW (some (.al,.lst (zai b))) (some (.al,.lst (zai b))) b none none hr
 simp [zgm,zl9,zft,cIsi,tyN,e]
noncomputable def ifZ (p:Prop) [Decidable p]:Int:=if p then 1 else 0
theorem znP (x:Int) (p q:Prop) [Decidable p] [Decidable q] (h:p↔q):iMul x (if p then 1 else 0)=some (.int (x * ifZ q)):=by
 rw [zbR (.inr (by split <;> decide))]
 unfold ifZ
 simp only [h]
theorem zr6 (x y z:Int) (ρ:SEnv):zgh 3 .fu [.sc (.int x),.sc (.int y)] (.sc (.int z)) (.sc (.int 0)) ρ=.nx (ρ.set 3 (some (.fu,.lst [.sc (.int z),.sc (.int y)]))):=zcV (l:=[x,y]) (k:=0) (by decide) (by simp)
theorem zr5 (x y z:Int) (ρ:SEnv):zgh 3 .fu [.sc (.int x),.sc (.int y)] (.sc (.int z)) (.sc (.int 1)) ρ=.nx (ρ.set 3 (some (.fu,.lst [.sc (.int x),.sc (.int z)]))):=zcV (l:=[x,y]) (k:=1) (by decide) (by simp)
theorem zkE {n r c:Nat} {b:List (List Int)} (h:Sq n b) (hr:r < n) (hc:c < n) {cs:List Int} (hl:cs.length=n) (w0 w1:Int) (m0 m1 m4 m5:Md) :
  zeF [some (m0,.lst (zai b)),some (m1,.sc (.int n)),some (.fu,.lst (zad cs)),some (.fu,.lst (zad [w0,w1])),some (m4,.sc (.int r)),some (m5,.sc (.int c))] =
  .nx [some (m0,.lst (zai b)),some (m1,.sc (.int n)),some (.fu,.lst (zad (cs.set c (at0 cs c + C2 b r c)))),some (.fu,.lst (zad [w0 + C2 b r c * ifZ (r=c),w1 + C2 b r c * ifZ (c=n - 1 - r)])),some (m4,.sc (.int r)),some (m5,.sc (.int c))]:=by
 have e1:atI (zai b) (r:Int)=some (.lst (zad (zat b r))):=zd7 (by lia) (zeV (by rw [h.len];exact hr))
 have e2:atI (zad (zat b r)) (c:Int)=some (.sc (.int (C2 b r c))):=zie (by lia) (by rw [h.get hr];lia)
 have e3:atI (zad cs) (c:Int)=some (.sc (.int (at0 cs c))):=zie (by lia) (by lia)
 have l1:(c:Int) < cs.length:=by lia
 have a0:∀ x y:Int,atI [.sc (.int x),.sc (.int y)] 0=some (T.sc (.int x)):=fun _ _=>rfl
 have a1:∀ x y:Int,atI [.sc (.int x),.sc (.int y)] 1=some (T.sc (.int y)):=fun _ _=>rfl
 have m1:=znP (C2 b r c) ((r:Int)=c) (r=c) (by lia)
 have m2:=znP (C2 b r c) ((r:Int) + c=n - 1) (c=n - 1 - r) (by lia)
 simp [zeF,e1,e2,e3,l1,cInt,a0,a1,m1,m2,zr6,zr5]
noncomputable def colF (b:List (List Int)) (r c j:Nat):Int:=if j < c then sumN (r + 1) (fun R=>C2 b R j) else sumN r (fun R=>C2 b R j)
noncomputable def colL (n:Nat) (b:List (List Int)) (r c:Nat):List Int:=(List.range n).map (colF b r c)
theorem zm3 {n:Nat} {b:List (List Int)} {r c:Nat} (hc:c < n):(colL n b r c).set c (at0 (colL n b r c) c + C2 b r c)=colL n b r (c + 1):=by
 unfold colL
 have e:at0 ((List.range n).map (colF b r c)) c=sumN r (fun R=>C2 b R c):=by simp [at0,List.getD,hc,colF]
 rw [e]
 refine List.ext_getElem (by simp) fun k h1 h2=>?_
 simp at h1 h2
 rw [List.getElem_set]
 simp only [List.getElem_map,List.getElem_range]
 unfold colF
 by_cases q:c=k
 ·subst q
  rw [if_pos rfl,if_pos (by lia),zeI]
 ·rw [if_neg q]
  by_cases q2:k < c
  ·rw [if_pos q2,if_pos (by lia)]
  ·rw [if_neg q2,if_neg (by lia)]
noncomputable def wF (x:Int) (p c:Nat):Int:=if p < c then x else 0
theorem zkD (f:Nat→Int) (p c:Nat):wF (f p) p c + f c * ifZ (c=p)=wF (f p) p (c + 1):=by
 unfold wF ifZ
 by_cases q:c=p
 ·subst q;simp
 ·by_cases q2:p < c
  ·rw [if_pos q2,if_neg q,if_pos (by lia)];simp
  ·rw [if_neg q2,if_neg q,if_neg (by lia)];simp
theorem zmj {n r:Nat} {b:List (List Int)} (h:Sq n b) (hn:n≤12) (hr:r < n) (w0 w1:Int) (m0 m4:Md) (x5:Option (Md×T)) :
  ∃ y5,zeE [some (m0,.lst (zai b)),some (.al,.sc (.int n)),some (.fu,.lst (zad (colL n b r 0))),some (.fu,.lst (zad [w0,w1])),some (m4,.sc (.int r)),x5] =
  .nx [some (m0,.lst (zai b)),some (.al,.sc (.int n)),some (.fu,.lst (zad (colL n b (r + 1) 0))),some (.fu,.lst (zad [w0 + C2 b r r,w1 + C2 b r (n - 1 - r)])),some (m4,.sc (.int r)),y5]:=by
 obtain⟨ρ',e,y5,rfl⟩:=zcq (gT:=gS 5) (B:=zeF)
  (fun c ρ=>∃ x5,ρ=[some (m0,.lst (zai b)),some (.al,.sc (.int n)),some (.fu,.lst (zad (colL n b r c))),some (.fu,.lst (zad [w0 + wF (C2 b r r) r c,w1 + wF (C2 b r (n - 1 - r)) (n - 1 - r) c])),some (m4,.sc (.int r)),x5]) n
  [some (m0,.lst (zai b)),some (.al,.sc (.int n)),some (.fu,.lst (zad (colL n b r 0))),some (.fu,.lst (zad [w0,w1])),some (m4,.sc (.int r)),x5] ⟨x5,by simp [wF]⟩ (by
   rintro c ρ hc ⟨x5,rfl⟩
   refine ⟨_,rfl,?_⟩
   have z:=zkE h hr hc (cs:=colL n b r c) (by simp [colL]) (w0 + wF (C2 b r r) r c) (w1 + wF (C2 b r (n - 1 - r)) (n - 1 - r) c) m0 .al m4 .al
   have i1:ifZ (r=c)=ifZ (c=r):=by unfold ifZ;simp only [eq_comm]
   rw [zm3 hc,i1,Int.add_assoc,Int.add_assoc,zkD (fun k=>C2 b r k) r c,zkD (fun k=>C2 b r k) (n - 1 - r) c] at z
   exact⟨_,z,_,rfl⟩)
 have c1:colL n b r n=colL n b (r + 1) 0:=List.map_congr_left fun j hj=>by
  have:=List.mem_range.mp hj
  simp [colF,this]
 have c2:wF (C2 b r r) r n=C2 b r r:=if_pos hr
 have c3:wF (C2 b r (n - 1 - r)) (n - 1 - r) n=C2 b r (n - 1 - r):=if_pos (by lia)
 rw [c1,c2,c3] at e
 exact⟨y5,by simp at e;simp [zeE,show n≤1000 by lia,e]⟩
theorem zh0 {n:Nat} {b:List (List Int)} (h:Sq n b) (hn:n≤12) :
  zfQ [.lst (zai b)]=.ok (.tup [.lst (zad (b.map sumL)),.lst (zad ((List.range n).map fun C=>sumN n fun R=>C2 b R C)),.lst (zad [sumN n (fun k=>C2 b k k),sumN n (fun k=>C2 b k (n - 1 - k))])]):=by
 obtain⟨ρ',e,y4,y5,rfl⟩:=zcq (gT:=gS 4) (B:=zeE)
  (fun r ρ=>∃ x4 x5,ρ=[some (.al,.lst (zai b)),some (.al,.sc (.int n)),some (.fu,.lst (zad (colL n b r 0))),some (.fu,.lst (zad [sumN r (fun k=>C2 b k k),sumN r (fun k=>C2 b k (n - 1 - k))])),x4,x5]) n
  [some (.al,.lst (zai b)),some (.al,.sc (.int n)),some (.fu,.lst (zad (List.replicate n 0))),some (.fu,.lst (zad [0,0])),none,none]
  ⟨none,none,by
   have:List.replicate n (0:Int)=colL n b 0 0:=by
    refine List.ext_getElem (by simp [colL]) fun k h1 h2=>?_
    simp [colL,colF,zeH]
   rw [this,zeH,zeH]⟩ (by
   rintro r ρ hr ⟨x4,x5,rfl⟩
   refine ⟨_,rfl,?_⟩
   obtain⟨z5,z⟩:=zmj h hn hr (sumN r (fun k=>C2 b k k)) (sumN r (fun k=>C2 b k (n - 1 - k))) .al .al x5
   rw [← zeI r (fun k=>C2 b k k),← zeI r (fun k=>C2 b k (n - 1 - k))] at z
   exact⟨_,z,_,_,rfl⟩)
 have c1:colL n b n 0=(List.range n).map fun C=>sumN n fun R=>C2 b R C:=List.map_congr_left fun j hj=>by simp [colF]
 rw [c1] at e
 have e2:mapL (gE 0) zgG [none] (zai b)=.ok (zad (b.map sumL)):=zgo _ _ fun r hr=>⟨_,rfl,by
  have:zbm (zad r)=some r:=zcR r
  simp [zgG,cSum,this,zgc]⟩
 simp at e
 simp [zfQ,zn6,zhB,h.len,show n≤1000 by lia,e,e2,ziV]
theorem zm4 {n:Nat} {b:List (List Int)} (hb:Bd b):zaE [.lst (zai b)]=.ok (.sc .non):=
 (zjv (b:=b) ⟨by have:=hb.2.1;lia,fun r hr=>by rw [hb.2.2.1 r hr];have:=hb.2.1;lia⟩).1 hb
theorem zlQ {n:Nat} {b:List (List Int)} (hb:Sq n b) (hn:n≤12) {k:Int} (k0:0≤k) (k1:k < n):zex [.lst (zai b),.sc (.int k)]=.ok (.lst (zad (b.map fun r=>at0 r k.toNat))):=by
 have e:mapL (gE 0) zec [none,some (.sc (.int k))] (zai b)=.ok (zad (b.map fun r=>at0 r k.toNat)):=zgo _ _ fun r hr=>⟨_,rfl,by
  have g:k < (r.length:Int):=by rw [hb.row r hr];exact k1
  simp [zec,k0,g]⟩
 simp [zex,zjA,zdS,e,hb.len,show n≤1000 by lia]
theorem zkk {n:Nat} {b:List (List Int)} (hb:Sq n b) (hn:n≤12):zdw [.lst (zai b)]=.ok (.lst (zai ((rngZ 0 n).map fun k=>b.map fun r=>at0 r k.toNat))):=by
 have e:mapL (gE 0) zdm [none,some (.lst (zai b))] (zad (rngZ 0 n))=.ok (zai ((rngZ 0 n).map fun k=>b.map fun r=>at0 r k.toNat)):=ze4 _ _ fun k hk=>⟨_,rfl,by
  have:=zbX hk
  simp [zdm,zlQ hb hn this.1 this.2]⟩
 simp [zdw,zhz,zcT,e,hb.len,show n≤1000 by lia]
theorem zcJ {b:List (List Int)} (h:b.length≤1000):zbt [.lst (zai b)]=.ok (.lst (zad (b.map sumL))):=by
 have e:mapL (gE 0) zcy [none] (zai b)=.ok (zad (b.map sumL)):=zgo _ _ fun r hr=>⟨_,rfl,by simp [zcy,cSum,zgc]⟩
 simp [zbt,zfp,zbT,e,h]
theorem zo7 {n:Nat} {b:List (List Int)} (hb:Sq n b) (h1:1≤n) (hn:n≤12):zcn [.lst (zai b)]=.ok (.lst (zai [(rngZ 0 n).map fun k=>C2 b k.toNat k.toNat,(rngZ 0 n).map fun k=>C2 b k.toNat (n - 1 - k.toNat)])):=by
 have e1:mapL (gE 0) zcx [none,some (.lst (zai b))] (zad (rngZ 0 n))=.ok (zad ((rngZ 0 n).map fun k=>C2 b k.toNat k.toNat)):=zcm _ _ fun k hk=>⟨_,rfl,by
  obtain⟨k0,k1⟩:=zbX hk
  have g1:k < (b.length:Int):=by rw [hb.len];exact k1
  have g2:k < ((zat b k.toNat).length:Int):=by rw [hb.get (by lia)];exact k1
  simp [zcx,k0,g1,g2,C2]⟩
 have e2:mapL (gE 0) zcw [none,some (.lst (zai b)),some (.sc (.int ((n:Int) - 1)))] (zad (rngZ 0 n))=.ok (zad ((rngZ 0 n).map fun k=>C2 b k.toNat (n - 1 - k.toNat))):=zcm _ _ fun k hk=>⟨_,rfl,by
  obtain⟨k0,k1⟩:=zbX hk
  have g1:k < (b.length:Int):=by rw [hb.len];exact k1
  have a:=zie (l:=zat b k.toNat) (i:=(n:Int) - 1 - k) (by lia) (by rw [hb.get (by lia)];lia)
  rw [show ((n:Int) - 1 - k).toNat=n - 1 - k.toNat by lia] at a
  simp [zcw,k0,g1,a,C2]⟩
 simp [zcn,zfo,zbS,e1,e2,hb.len,show n≤1000 by lia]
noncomputable def sR (b:List (List Int)):List Int:=b.map sumL
noncomputable def sC (n:Nat) (b:List (List Int)):List Int:=(List.range n).map fun C=>sumN n fun R=>C2 b R C
noncomputable def sW (n:Nat) (b:List (List Int)):List Int:=[sumN n fun k=>C2 b k k,sumN n fun k=>C2 b k (n - 1 - k)]
theorem zkF {b:List (List Int)} (h:Bd b):zef [.lst (zai b)]=.ok (.tup [.lst (zad (sR b)),.lst (zad (sC b.length b)),.lst (zad (sW b.length b))]):=by
 have h1:=h.1
 have hn:=h.2.1
 have hq:Sq b.length b:=⟨rfl,h.2.2.1⟩
 generalize hN:b.length=n at *
 have c1:=zcJ (b:=b) (by lia)
 have c2:=zcJ (b:=(rngZ 0 n).map fun k=>b.map fun r=>at0 r k.toNat) (by simp;lia)
 have c3:=zcJ (b:=[(rngZ 0 n).map fun k=>C2 b k.toNat k.toNat,(rngZ 0 n).map fun k=>C2 b k.toNat (n - 1 - k.toNat)]) (by simp)
 have dg:∀ (f:Nat→Int),sumL ((rngZ 0 n).map fun k=>f k.toNat)=sumN n f:=fun f=>by rw [ziS];rfl
 have e2:(((rngZ 0 n).map fun k=>b.map fun r=>at0 r k.toNat)).map sumL=sC n b:=by
  rw [List.map_map]
  unfold sC
  rw [← ziS n (fun C=>sumN n fun R=>C2 b R C)]
  refine List.map_congr_left fun k hk=>?_
  show sumL (b.map fun r=>at0 r k.toNat)=_
  rw [zjO (n:=n) (by rw [List.length_map,hN])]
  refine zjN fun R hR=>?_
  have hR':R < b.length:=by lia
  unfold C2 at0 zat
  simp [List.getD,hR']
 have e3:([(rngZ 0 n).map fun k=>C2 b k.toNat k.toNat,(rngZ 0 n).map fun k=>C2 b k.toNat (n - 1 - k.toNat)]).map sumL=sW n b:=by
  simp only [List.map_cons,List.map_nil]
  rw [dg fun k=>C2 b k k,dg fun k=>C2 b k (n - 1 - k)]
  rfl
 rw [e2] at c2
 rw [e3] at c3
 have cl:=zkk hq hn
 have lo:=zo7 hq h1 hn
 generalize (rngZ 0 n).map (fun k=>b.map fun r=>at0 r k.toNat)=cs at *
 generalize zai [(rngZ 0 n).map fun k=>C2 b k.toNat k.toNat,(rngZ 0 n).map fun k=>C2 b k.toNat (n - 1 - k.toNat)]=ls at *
 have ck:=zm4 (n:=0) h
 simp [zef,zmb,zf3,ck,c1,cl,c2,lo,c3,sR]
theorem ze6 {b:List (List Int)} (h:Bd b):zfQ [.lst (zai b)]=.ok (.tup [.lst (zad (sR b)),.lst (zad (sC b.length b)),.lst (zad (sW b.length b))]):=
 zh0 ⟨rfl,h.2.2.1⟩ h.2.1
theorem zln (l:List Int) (x:Int):x∈Sx.dd l↔x∈l:=by
 have:∀ (l d:List Int),x∈l.foldl Sx.dstep d↔x∈d∨x∈l:=by
  intro l
  induction l with
  | nil=>intro d;simp
  | cons k l ih =>
   intro d
   rw [List.foldl_cons,ih]
   unfold Sx.dstep
   split
   ·rename_i h
    constructor
    ·rintro (q | q)
     ·exact .inl q
     ·exact .inr (List.mem_cons_of_mem _ q)
    ·rintro (q | q)
     ·exact .inl q
     ·rcases List.mem_cons.mp q with rfl | q
      ·exact .inl h
      ·exact .inr q
   ·simp only [List.mem_append,List.mem_cons,List.not_mem_nil,or_false]
    constructor
    ·rintro ((q | q) | q)
     ·exact .inl q
     ·exact .inr (.inl q)
     ·exact .inr (.inr q)
    ·rintro (q | q | q)
     ·exact .inl (.inl q)
     ·exact .inl (.inr q)
     ·exact .inr q
 simpa [Sx.dd] using this l []
theorem zsk (l:List Int):(Sx.dd l).Nodup:=by
 have:∀ (l d:List Int),d.Nodup→(l.foldl Sx.dstep d).Nodup:=by
  intro l
  induction l with
  | nil=>intro d h;exact h
  | cons k l ih =>
   intro d h
   rw [List.foldl_cons]
   refine ih _ ?_
   unfold Sx.dstep
   split
   ·exact h
   ·rename_i q
    refine List.nodup_append.mpr ⟨h,by simp,fun a ha b hb e=>?_⟩
    rw [List.mem_singleton.mp hb] at e
    exact q (e ▸ ha)
 exact this l [] List.nodup_nil
theorem zq5 {l:List Int} {s:Int}:zbU (Sx.dd l)=[s]↔l≠[]∧∀ x∈l,x=s:=by
 constructor
 ·intro h
  have p:=zbr (Sx.dd l)
  rw [h] at p
  have m:∀ x,x∈l↔x=s:=fun x=>by rw [← zln,← p.mem_iff,List.mem_singleton]
  refine ⟨fun q=>?_,fun x hx=>(m x).mp hx⟩
  have:=(m s).mpr rfl
  rw [q] at this
  cases this
 ·rintro ⟨h0,h⟩
  have e:Sx.dd l=[s]:=by
   have nd:=zsk l
   have al:∀ x∈Sx.dd l,x=s:=fun x hx=>h x ((zln l x).mp hx)
   cases q:Sx.dd l with
   | nil =>
    cases l with
    | nil=>exact absurd rfl h0
    | cons y l =>
     have:=(zln (y :: l) y).mpr (by simp)
     rw [q] at this
     cases this
   | cons a r =>
    rw [q] at nd al
    have ha:=al a (by simp)
    cases r with
    | nil=>rw [ha]
    | cons b r =>
     have hb:=al b (by simp)
     have:=(List.nodup_cons.mp nd).1
     rw [ha,hb] at this
     exact absurd (List.mem_cons_self ..) this
  rw [e];rfl
theorem zps {b:List (List Int)} {s:Int} (h:Bd b) (hs:∀ x∈sR b,x=s):s=(b.length:Int) * (b.length * b.length + 1) / 2:=by
 have h1:=h.1
 have hn:=h.2.1
 have hq:Sq b.length b:=⟨rfl,h.2.2.1⟩
 have p:b.flatten.Perm (rngZ 1 (b.length * b.length)):=by rw [← h.2.2.2];exact (zbr _).symm
 have e1:sumL (sR b)=(b.length:Int) * s:=by rw [ziO hs];unfold sR;rw [List.length_map]
 have fl:∀ b:List (List Int),sumL b.flatten=sumL (b.map sumL):=by
  intro b
  induction b with
  | nil=>rfl
  | cons r b ih=>rw [List.flatten_cons,zgd,ih];rfl
 have e2:sumL (sR b)=sumL b.flatten:=(fl b).symm
 rw [e2,zkG p] at e1
 generalize b.length=n at *
 rcases (show n=1∨n=2∨n=3∨n=4∨n=5∨n=6∨n=7∨n=8∨n=9∨n=10∨n=11∨n=12 by lia) with rfl | rfl | rfl | rfl | rfl | rfl | rfl | rfl | rfl | rfl | rfl | rfl
 ·have:sumL (rngZ 1 (1 * 1))=1:=by decide +kernel
  lia
 ·have:sumL (rngZ 1 (2 * 2))=10:=by decide +kernel
  lia
 ·have:sumL (rngZ 1 (3 * 3))=45:=by decide +kernel
  lia
 ·have:sumL (rngZ 1 (4 * 4))=136:=by decide +kernel
  lia
 ·have:sumL (rngZ 1 (5 * 5))=325:=by decide +kernel
  lia
 ·have:sumL (rngZ 1 (6 * 6))=666:=by decide +kernel
  lia
 ·have:sumL (rngZ 1 (7 * 7))=1225:=by decide +kernel
  lia
 ·have:sumL (rngZ 1 (8 * 8))=2080:=by decide +kernel
  lia
 ·have:sumL (rngZ 1 (9 * 9))=3321:=by decide +kernel
  lia
 ·have:sumL (rngZ 1 (10 * 10))=5050:=by decide +kernel
  lia
 ·have:sumL (rngZ 1 (11 * 11))=7381:=by decide +kernel
  lia
 ·have:sumL (rngZ 1 (12 * 12))=10440:=by decide +kernel
  lia
noncomputable abbrev allS (b:List (List Int)):List Int:=sR b ++ (sC b.length b ++ sW b.length b)
theorem zgA {b:List (List Int)}:(allS b).length=b.length + (b.length + 2):=by simp [allS,sR,sC,sW]
noncomputable def lik (b:List (List Int)):Bool:=decide (∀ x∈allS b,x=(b.length:Int) * (b.length * b.length + 1) / 2)
theorem zh1 {b:List (List Int)} (h:Bd b):zi7 [.lst (zai b)]=.ok (.sc (.bl (lik b))):=by
 have h1:=h.1
 have hn:=h.2.1
 have e1:=ze6 h
 have lA:(sR b).length=b.length:=by simp [sR]
 have lB:(sC b.length b).length=b.length:=by simp [sC]
 have lC:(sW b.length b).length=2:=rfl
 have eq:decide (zbU (Sx.dd (allS b))=[(b.length:Int) * (b.length * b.length + 1) / 2])=lik b:=by
  unfold lik
  have:(zbU (Sx.dd (allS b))=[(b.length:Int) * (b.length * b.length + 1) / 2])↔∀ x∈allS b,x=(b.length:Int) * (b.length * b.length + 1) / 2:=
   zq5.trans ⟨fun q=>q.2,fun q=>⟨fun z=>by have:=zgA (b:=b);rw [z] at this;simp at this,q⟩⟩
  simp only [this]
 have m1:=zbR (i:=(b.length:Int)) (j:=b.length) (.inl (by lia))
 have m2:=zbR (i:=(b.length:Int)) (j:=(b.length:Int) * b.length + 1) (.inl (by lia))
 have k1:oCat .fu (.lst (zad (sR b))) (.lst (zad (sC b.length b)))=some (.lst (zad (sR b ++ sC b.length b))):=ze0 (by lia)
 have k2:oCat .fu (.lst (zad (sR b ++ sC b.length b))) (.lst (zad (sW b.length b)))=some (.lst (zad (allS b))):=by
  show _=some (T.lst (zad (sR b ++ (sC b.length b ++ sW b.length b))))
  rw [← List.append_assoc]
  exact ze0 (by rw [List.length_append];lia)
 have c1:cSSG (.lst (zad (allS b)))=some (.lst (zad (zbU (Sx.dd (allS b))))):=by
  show (zbm (zad (allS b))).bind _=_
  rw [zcR]
  show (if (allS b).length≤1000 then _ else _)=_
  rw [if_pos (by rw [zgA];lia)]
 have k3:oEq (.lst (zad (zbU (Sx.dd (allS b))))) (.lst (zad [(b.length:Int) * (b.length * b.length + 1) / 2]))=some (.sc (.bl (lik b))):=by rw [zgk,eq]
 generalize zad (zbU (Sx.dd (allS b)))=z at *
 generalize zad (allS b)=y at *
 generalize zad (sR b ++ sC b.length b)=x at *
 generalize zad (sR b)=a1 at *
 generalize zad (sC b.length b)=a2 at *
 generalize zad (sW b.length b)=a3 at *
 simp only [zb8,zlD] at k3
 simp [zi7,zn7,zhC,e1,m1,m2,gsT,gS,k1,k2,c1,k3]
theorem zqJ {l:List Int} (h:l≠[]):∃ a b,l.min? = some a∧l.max? = some b∧(a=b↔∃ s,∀ x∈l,x=s):=by
 cases hm:l.min? with
 | none=>rw [List.min?_eq_none_iff] at hm;exact absurd hm h
 | some a =>
  cases hM:l.max? with
  | none=>rw [List.max?_eq_none_iff] at hM;exact absurd hM h
  | some b =>
   obtain⟨a1,a2⟩:=List.min?_eq_some_iff.mp hm
   obtain⟨b1,b2⟩:=List.max?_eq_some_iff.mp hM
   refine ⟨a,b,rfl,rfl,fun e=>⟨a,fun x hx=>?_⟩,fun ⟨s,hs⟩=>?_⟩
   ·have:=a2 x hx
    have:=b2 x hx
    lia
   ·rw [hs a a1,hs b b1]
theorem zke {b:List (List Int)} (h:Bd b):zb6 [.lst (zai b)]=.ok (.sc (.bl (lik b))):=by
 have h1:=h.1
 have hn:=h.2.1
 have e1:=zkF h
 have lA:(sR b).length=b.length:=by simp [sR]
 have lB:(sC b.length b).length=b.length:=by simp [sC]
 have lC:(sW b.length b).length=2:=rfl
 have jn:zco [.tup [.lst (zad (sR b)),.lst (zad (sC b.length b)),.lst (zad (sW b.length b))]]=.ok (.lst (zad (allS b))):=by
  obtain⟨x',e⟩:=zdE (L:=zd9) rfl (some (.al,.tup [.lst (zad (sR b)),.lst (zad (sC b.length b)),.lst (zad (sW b.length b))])) [sR b,sC b.length b,sW b.length b] [] none (by simp;lia)
  simp at e
  simp [zco,zgE,zcZ,e]
 obtain⟨a,c,q1,q2,q3⟩:=zqJ (l:=allS b) (fun z=>by have:=zgA (b:=b);rw [z] at this;simp at this)
 have ed:decide (a=c)=lik b:=by
  unfold lik
  have:(a=c)↔∀ x∈allS b,x=(b.length:Int) * (b.length * b.length + 1) / 2:=q3.trans ⟨fun ⟨s,hs⟩=>by
   have:=zps h (s:=s) fun x hx=>hs x (List.mem_append_left _ hx)
   rw [← this];exact hs,fun q=>⟨_,q⟩⟩
  simp only [this]
 generalize allS b=l at *
 generalize zad (sR b)=a1 at *
 generalize zad (sC b.length b)=a2 at *
 generalize zad (sW b.length b)=a3 at *
 simp [zb6,zfq,zce,e1,jn,cMin,cMax,q1,q2,ed]
theorem zi2 (a b:List (List Int)):oNe (.lst (zai a)) (.lst (zai b))=some (.sc (.bl (!decide (a=b)))):=by
 unfold oNe;rw [if_pos ⟨zi1 3 a,zi1 3 b⟩];unfold eqT;rw [zha]
theorem zo4 {B:List (List Int)} (h:Bd B):zfD [.lst (zai B),.sc (.int 0)]=.ok (.tup [.lst (zad (sR B)),.lst (zad (sC B.length B)),.lst (zad (sW B.length B))]):=by
 have e:=zkF h
 generalize zad (sR B)=a1 at *
 generalize zad (sC B.length B)=a2 at *
 generalize zad (sW B.length B)=a3 at *
 simp [zfD,zl8,zgF,e]
theorem zo3 {B:List (List Int)} (h:Bd B):zfD [.lst (zai B),.sc (.int 1)]=.ok (.sc (.bl (lik B))):=by
 simp [zfD,zl8,zgF,zke h]
theorem zsS {B:List (List Int)} (hB:Sml B) (h:¬ Bd B):zef [.lst (zai B)]=.exc 1∧zb6 [.lst (zai B)]=.exc 1:=by
 have c:zaE [.lst (zai B)]=.exc 1:=(zjv hB).2 h
 have s:zef [.lst (zai B)]=.exc 1:=by simp [zef,zmb,zf3,c]
 exact⟨s,by simp [zb6,zfq,zce,s]⟩
theorem zo2 {B:List (List Int)} (hB:Sml B) (h:¬ Bd B) (w:Int):zfD [.lst (zai B),.sc (.int w)]=.ok (.lst [.sc (.bl true)]):=by
 obtain⟨a,b⟩:=zsS hB h
 have sc:subC 1 1=true:=rfl
 by_cases q:w=0
 ·simp [zfD,zl8,zgF,q,a,sc]
 ·simp [zfD,zl8,zgF,q,b,sc]
theorem zog (x:Bool):zi6 [.sc (.bl x),.sc (.bl x)]=.ok (.sc (.bl true)):=by
 have:oEq (.sc (.bl x)) (.sc (.bl x))=some (.sc (.bl true)):=by cases x <;> rfl
 simp [zi6,zn5,zhA,cIsi,tyN,this]
theorem zho (a b c:List Int) (ha:a.length < 1000) (hb:b.length < 1000) (hc:c.length < 1000):∃ ts,zbn (.int 0) [.lst (zad a),.lst (zad b),.lst (zad c)]=some ts:=by
 unfold zbn
 rw [if_pos (by rw [za1];exact zhK ha)]
 unfold zbn
 rw [if_pos (by rw [za1];exact zhK hb)]
 unfold zbn
 rw [if_pos (by rw [za1];exact zhK hc)]
 unfold zbn
 exact⟨_,rfl⟩
noncomputable abbrev lawE (t0:Option (Md×T)) (m1:Md) (B:List (List Int)) (t2 x3 x4 x5 x6 x7:Option (Md×T)):SEnv:=[t0,some (m1,.lst (zai B)),t2,x3,x4,x5,x6,x7]
theorem zo9 {B:List (List Int)} (hB:Sml B) (h:¬ Bd B) (m1:Md) (t0 t2 x3 x4 x5 x6 x7:Option (Md×T)):∃ y4 y5 y6 y7,zd8 (lawE t0 m1 B t2 x3 x4 x5 x6 x7)=.nx (lawE t0 m1 B t2 x3 y4 y5 y6 y7):=by
 have l:=hB.len
 have e:=fun w=>zo2 hB h w
 have ib:=(zfe hB).2 h
 have nt:oNe (.lst [.sc (.bl true)]) (.lst [.sc (.bl true)])=some (.sc (.bl false)):=rfl
 exact⟨_,_,_,_,by
  simp [zd8,zlP (b:=B) (by lia),e,zi2,ib,nt]
  exact⟨rfl,rfl,rfl,rfl⟩⟩
theorem zqK {B:List (List Int)} (h:Bd B) (m1:Md) (t0 t2 x3 x4 x5 x6 x7:Option (Md×T)):∃ y4 y5 y6 y7,zd8 (lawE t0 m1 B t2 x3 x4 x5 x6 x7)=.nx (lawE t0 m1 B t2 x3 y4 y5 y6 y7):=by
 have l:=h.2.1
 have hq:Sq B.length B:=⟨rfl,h.2.2.1⟩
 have hB:=hq.sml l
 have e0:=zo4 h
 have e1:=zo3 h
 have ib:=(zfe hB).1 h
 have ls:=ze6 h
 have ll:=zh1 h
 have lA:(sR B).length=B.length:=by simp [sR]
 have lB:(sC B.length B).length=B.length:=by simp [sC]
 have lC:(sW B.length B).length=2:=rfl
 have lb:=zg4 (b:=[sR B,sC B.length B,sW B.length B]) (by simp) fun r hr=>by
  simp only [List.mem_cons,List.not_mem_nil,or_false] at hr
  rcases hr with rfl | rfl | rfl <;> lia
 obtain⟨ts,ap⟩:=zho (sR B) (sC B.length B) (sW B.length B) (by lia) (by lia) (by lia)
 have tl:=zog (lik B)
 simp only [zbG,zkT] at lb
 generalize zad (sR B)=a1 at *
 generalize zad (sC B.length B)=a2 at *
 generalize zad (sW B.length B)=a3 at *
 have ci:cIsi [.tup [.lst a1,.lst a2,.lst a3],.sc (.ty "tuple")]=some (.sc (.bl true)):=rfl
 have cl:zeq .sp [.tup [.lst a1,.lst a2,.lst a3]]=some (.lst [.lst a1,.lst a2,.lst a3]):=by simp [zeq,zbV]
 exact⟨_,_,_,_,by
  simp [zd8,zlP (b:=B) (by lia),e0,e1,zi2,ib,ls,ll,lb,tl,ap,ci,cl]
  exact⟨rfl,rfl,rfl,rfl⟩⟩
theorem zgq {B:List (List Int)} (hB:Sml B) (m1:Md) (t0 t2:Option (Md×T)):zdP (lawE t0 m1 B t2 none none none none none)=.rt .fu (.sc (.bl true)):=by
 have r5:rng1 [.sc (.int 2)]=some (zad (rngZ 0 2)):=rfl
 obtain⟨ρ',e,y3,y4,y5,y6,y7,rfl⟩:=zcq (gT:=gS 3) (B:=zd8) (fun _ ρ=>∃ y3 y4 y5 y6 y7,ρ=lawE t0 m1 B t2 y3 y4 y5 y6 y7) 2 (lawE t0 m1 B t2 none none none none none) ⟨_,_,_,_,_,rfl⟩ (by
  rintro w ρ hw ⟨y3,y4,y5,y6,y7,rfl⟩
  refine ⟨_,rfl,?_⟩
  by_cases h:Bd B
  ·obtain⟨z4,z5,z6,z7,e⟩:=zqK h m1 t0 t2 (some (.al,.sc (.int w))) y4 y5 y6 y7
   exact⟨_,e,_,_,_,_,_,rfl⟩
  ·obtain⟨z4,z5,z6,z7,e⟩:=zo9 hB h m1 t0 t2 (some (.al,.sc (.int w))) y4 y5 y6 y7
   exact⟨_,e,_,_,_,_,_,rfl⟩)
 unfold lawE at e
 simp [r5,e,-zqa]
theorem law_true (s:List Int) (_:s.length≤63):zlo [.scr s]=.ok (.sc (.bl true)):=by
 obtain⟨n,b,eb,h1,h2,hb⟩:=zrg s 0
 have c5:=zd3 s 5
 have c6:=zd3 s 6
 generalize zc2 s 5=c at c5
 simp at eb c5 c6
 obtain⟨b13,e13,h13⟩:=zfX (zc2 s 6) 13 (by lia) (by lia)
 have s13:Sml b13:=⟨by rw [h13.len];lia,fun r hr=>by rw [h13.row r hr];lia⟩
 simp at e13
 have tl:=fun m1 t0 t2=>zgq (hb.sml h2) m1 t0 t2
 have tl13:=fun m1 t0 t2=>zgq s13 m1 t0 t2
 unfold lawE at tl tl13
 by_cases q:c % 3=1
 ·obtain⟨B,e,sB,_⟩:=hurt b (c / 3) n h1 h2 hb
  have tlB:=fun m1 t0 t2=>zgq sB m1 t0 t2
  unfold lawE at tlB
  simp [zlo,zny,ziB,eb,c5,q,e,tlB,-zdP]
 ·by_cases q2:c % 17=5
  ·simp [zlo,zny,ziB,eb,c5,c6,q,q2,e13,tl13,-zdP]
  ·simp [zlo,zny,ziB,eb,c5,q,q2,tl,-zdP]
end Qk01
namespace Qk01
open PySem PySem.Spec L2 TL
open PyProof.Rows hiding St
theorem txt_mk {K:PySem.W.Frag} {h:Heap} {mg:Str→Option Value} {fa f_0 f_1 f_2 f_3 f_4 f_5 f_6 f_7 f_8 f_9 f_10 f_11 f_12 f_13 f_14 f_15 f_16 f_17 f_18 f_19 f_20 f_21 f_22 f_23 f_24 f_25 f_26 C_SumError C_BadBoard:Addr} (X:K.In h) (G:h.Ns mainGlobals mg) (hfa:mg "law" = some (.ref fa))
  {tk_LARGEST_SIZE:Nat}
  {od_0 an_0:Option Addr} {sl_0:Array (Option Value)} {oc_0 kV_0 dc_0 pm_0 cd_0 ct_0:Value}
  (a_0:PySem.W.nsIn K mainGlobals "_law_cell_at" = some (some (.ref f_0)))
  (l_0:K.lookup f_0=some ⟨oc_0,od_0,.func (PySem.W.fnOf "_law_cell_at" "_law_cell_at" (defArgs zbM) (defBody zbM) (defScope zbM) .none kV_0 dc_0 pm_0 an_0 cd_0 ct_0),sl_0⟩)
  (c_0:PySem.W.codeIn K cd_0 "_law_cell_at" = true) (k_0:PySem.W.keepIn K (.ref f_0)=true)
  {od_1 an_1:Option Addr} {sl_1:Array (Option Value)} {oc_1 kV_1 dc_1 pm_1 cd_1 ct_1:Value}
  (a_1:PySem.W.nsIn K mainGlobals "_law_told" = some (some (.ref f_1)))
  (l_1:K.lookup f_1=some ⟨oc_1,od_1,.func (PySem.W.fnOf "_law_told" "_law_told" (defArgs zeM) (defBody zeM) (defScope zeM) .none kV_1 dc_1 pm_1 an_1 cd_1 ct_1),sl_1⟩)
  (c_1:PySem.W.codeIn K cd_1 "_law_told" = true) (k_1:PySem.W.keepIn K (.ref f_1)=true)
  {od_2 an_2:Option Addr} {sl_2:Array (Option Value)} {oc_2 kV_2 dc_2 pm_2 cd_2 ct_2:Value}
  (a_2:PySem.W.nsIn K mainGlobals "_law_mix" = some (some (.ref f_2)))
  (l_2:K.lookup f_2=some ⟨oc_2,od_2,.func (PySem.W.fnOf "_law_mix" "_law_mix" (defArgs zhL) (defBody zhL) (defScope zhL) .none kV_2 dc_2 pm_2 an_2 cd_2 ct_2),sl_2⟩)
  (c_2:PySem.W.codeIn K cd_2 "_law_mix" = true) (k_2:PySem.W.keepIn K (.ref f_2)=true)
  {od_3 an_3:Option Addr} {sl_3:Array (Option Value)} {oc_3 kV_3 dc_3 pm_3 cd_3 ct_3:Value}
  (a_3:PySem.W.nsIn K mainGlobals "_law_order_by" = some (some (.ref f_3)))
  (l_3:K.lookup f_3=some ⟨oc_3,od_3,.func (PySem.W.fnOf "_law_order_by" "_law_order_by" (defArgs zbo) (defBody zbo) (defScope zbo) .none kV_3 dc_3 pm_3 an_3 cd_3 ct_3),sl_3⟩)
  (c_3:PySem.W.codeIn K cd_3 "_law_order_by" = true) (k_3:PySem.W.keepIn K (.ref f_3)=true)
  {od_4 an_4:Option Addr} {sl_4:Array (Option Value)} {oc_4 kV_4 dc_4 pm_4 cd_4 ct_4:Value}
  (a_4:PySem.W.nsIn K mainGlobals "_law_board_by" = some (some (.ref f_4)))
  (l_4:K.lookup f_4=some ⟨oc_4,od_4,.func (PySem.W.fnOf "_law_board_by" "_law_board_by" (defArgs zbq) (defBody zbq) (defScope zbq) .none kV_4 dc_4 pm_4 an_4 cd_4 ct_4),sl_4⟩)
  (c_4:PySem.W.codeIn K cd_4 "_law_board_by" = true) (k_4:PySem.W.keepIn K (.ref f_4)=true)
  {od_5 an_5:Option Addr} {sl_5:Array (Option Value)} {oc_5 kV_5 dc_5 pm_5 cd_5 ct_5:Value}
  (a_5:PySem.W.nsIn K mainGlobals "_law_sums" = some (some (.ref f_5)))
  (l_5:K.lookup f_5=some ⟨oc_5,od_5,.func (PySem.W.fnOf "_law_sums" "_law_sums" (defArgs zeN) (defBody zeN) (defScope zeN) .none kV_5 dc_5 pm_5 an_5 cd_5 ct_5),sl_5⟩)
  (c_5:PySem.W.codeIn K cd_5 "_law_sums" = true) (k_5:PySem.W.keepIn K (.ref f_5)=true)
  {od_6 an_6:Option Addr} {sl_6:Array (Option Value)} {oc_6 kV_6 dc_6 pm_6 cd_6 ct_6:Value}
  (a_6:PySem.W.nsIn K mainGlobals "_law_like" = some (some (.ref f_6)))
  (l_6:K.lookup f_6=some ⟨oc_6,od_6,.func (PySem.W.fnOf "_law_like" "_law_like" (defArgs zeO) (defBody zeO) (defScope zeO) .none kV_6 dc_6 pm_6 an_6 cd_6 ct_6),sl_6⟩)
  (c_6:PySem.W.codeIn K cd_6 "_law_like" = true) (k_6:PySem.W.keepIn K (.ref f_6)=true)
  {od_7 an_7:Option Addr} {sl_7:Array (Option Value)} {oc_7 kV_7 dc_7 pm_7 cd_7 ct_7:Value}
  (a_7:PySem.W.nsIn K mainGlobals "_law_fair_by" = some (some (.ref f_7)))
  (l_7:K.lookup f_7=some ⟨oc_7,od_7,.func (PySem.W.fnOf "_law_fair_by" "_law_fair_by" (defArgs zbL) (defBody zbL) (defScope zbL) .none kV_7 dc_7 pm_7 an_7 cd_7 ct_7),sl_7⟩)
  (c_7:PySem.W.codeIn K cd_7 "_law_fair_by" = true) (k_7:PySem.W.keepIn K (.ref f_7)=true)
  {od_8 an_8:Option Addr} {sl_8:Array (Option Value)} {oc_8 kV_8 dc_8 pm_8 cd_8 ct_8:Value}
  (a_8:PySem.W.nsIn K mainGlobals "_law_like_by" = some (some (.ref f_8)))
  (l_8:K.lookup f_8=some ⟨oc_8,od_8,.func (PySem.W.fnOf "_law_like_by" "_law_like_by" (defArgs zbK) (defBody zbK) (defScope zbK) .none kV_8 dc_8 pm_8 an_8 cd_8 ct_8),sl_8⟩)
  (c_8:PySem.W.codeIn K cd_8 "_law_like_by" = true) (k_8:PySem.W.keepIn K (.ref f_8)=true)
  {od_9 an_9:Option Addr} {sl_9:Array (Option Value)} {oc_9 kV_9 dc_9 pm_9 cd_9 ct_9:Value}
  (a_9:PySem.W.nsIn K mainGlobals "_law_any_by" = some (some (.ref f_9)))
  (l_9:K.lookup f_9=some ⟨oc_9,od_9,.func (PySem.W.fnOf "_law_any_by" "_law_any_by" (defArgs zcg) (defBody zcg) (defScope zcg) .none kV_9 dc_9 pm_9 an_9 cd_9 ct_9),sl_9⟩)
  (c_9:PySem.W.codeIn K cd_9 "_law_any_by" = true) (k_9:PySem.W.keepIn K (.ref f_9)=true)
  {od_10 an_10:Option Addr} {sl_10:Array (Option Value)} {oc_10 kV_10 dc_10 pm_10 cd_10 ct_10:Value}
  (a_10:PySem.W.nsIn K mainGlobals "_law_hurt" = some (some (.ref f_10)))
  (l_10:K.lookup f_10=some ⟨oc_10,od_10,.func (PySem.W.fnOf "_law_hurt" "_law_hurt" (defArgs zeP) (defBody zeP) (defScope zeP) .none kV_10 dc_10 pm_10 an_10 cd_10 ct_10),sl_10⟩)
  (c_10:PySem.W.codeIn K cd_10 "_law_hurt" = true) (k_10:PySem.W.keepIn K (.ref f_10)=true)
  {od_11 an_11:Option Addr} {sl_11:Array (Option Value)} {oc_11 kV_11 dc_11 pm_11 cd_11 ct_11:Value}
  (a_11:PySem.W.nsIn K mainGlobals "_law_flat" = some (some (.ref f_11)))
  (l_11:K.lookup f_11=some ⟨oc_11,od_11,.func (PySem.W.fnOf "_law_flat" "_law_flat" (defArgs zeQ) (defBody zeQ) (defScope zeQ) .none kV_11 dc_11 pm_11 an_11 cd_11 ct_11),sl_11⟩)
  (c_11:PySem.W.codeIn K cd_11 "_law_flat" = true) (k_11:PySem.W.keepIn K (.ref f_11)=true)
  {od_12 an_12:Option Addr} {sl_12:Array (Option Value)} {oc_12 kV_12 dc_12 pm_12 cd_12 ct_12:Value}
  (a_12:PySem.W.nsIn K mainGlobals "_law_is_board" = some (some (.ref f_12)))
  (l_12:K.lookup f_12=some ⟨oc_12,od_12,.func (PySem.W.fnOf "_law_is_board" "_law_is_board" (defArgs zbp) (defBody zbp) (defScope zbp) .none kV_12 dc_12 pm_12 an_12 cd_12 ct_12),sl_12⟩)
  (c_12:PySem.W.codeIn K cd_12 "_law_is_board" = true) (k_12:PySem.W.keepIn K (.ref f_12)=true)
  {od_13 an_13:Option Addr} {sl_13:Array (Option Value)} {oc_13 kV_13 dc_13 pm_13 cd_13 ct_13:Value}
  (a_13:PySem.W.nsIn K mainGlobals "_law_whole" = some (some (.ref f_13)))
  (l_13:K.lookup f_13=some ⟨oc_13,od_13,.func (PySem.W.fnOf "_law_whole" "_law_whole" (defArgs zc5) (defBody zc5) (defScope zc5) .none kV_13 dc_13 pm_13 an_13 cd_13 ct_13),sl_13⟩)
  (c_13:PySem.W.codeIn K cd_13 "_law_whole" = true) (k_13:PySem.W.keepIn K (.ref f_13)=true)
  {od_14 an_14:Option Addr} {sl_14:Array (Option Value)} {oc_14 kV_14 dc_14 pm_14 cd_14 ct_14:Value}
  (a_14:PySem.W.nsIn K mainGlobals "_law_board" = some (some (.ref f_14)))
  (l_14:K.lookup f_14=some ⟨oc_14,od_14,.func (PySem.W.fnOf "_law_board" "_law_board" (defArgs zc6) (defBody zc6) (defScope zc6) .none kV_14 dc_14 pm_14 an_14 cd_14 ct_14),sl_14⟩)
  (c_14:PySem.W.codeIn K cd_14 "_law_board" = true) (k_14:PySem.W.keepIn K (.ref f_14)=true)
  {od_15 an_15:Option Addr} {sl_15:Array (Option Value)} {oc_15 kV_15 dc_15 pm_15 cd_15 ct_15:Value}
  (a_15:PySem.W.nsIn K mainGlobals "_law_copy" = some (some (.ref f_15)))
  (l_15:K.lookup f_15=some ⟨oc_15,od_15,.func (PySem.W.fnOf "_law_copy" "_law_copy" (defArgs zeR) (defBody zeR) (defScope zeR) .none kV_15 dc_15 pm_15 an_15 cd_15 ct_15),sl_15⟩)
  (c_15:PySem.W.codeIn K cd_15 "_law_copy" = true) (k_15:PySem.W.keepIn K (.ref f_15)=true)
  {od_16 an_16:Option Addr} {sl_16:Array (Option Value)} {oc_16 kV_16 dc_16 pm_16 cd_16 ct_16:Value}
  (a_16:PySem.W.nsIn K mainGlobals "check_square" = some (some (.ref f_16)))
  (l_16:K.lookup f_16=some ⟨oc_16,od_16,.func (PySem.W.fnOf "check_square" "check_square" (defArgs zaO) (defBody zaO) (defScope zaO) .none kV_16 dc_16 pm_16 an_16 cd_16 ct_16),sl_16⟩)
  (c_16:PySem.W.codeIn K cd_16 "check_square" = true) (k_16:PySem.W.keepIn K (.ref f_16)=true)
  {od_17 an_17:Option Addr} {sl_17:Array (Option Value)} {oc_17 kV_17 dc_17 pm_17 cd_17 ct_17:Value}
  (a_17:PySem.W.nsIn K mainGlobals "joined" = some (some (.ref f_17)))
  (l_17:K.lookup f_17=some ⟨oc_17,od_17,.func (PySem.W.fnOf "joined" "joined" (defArgs zch) (defBody zch) (defScope zch) .none kV_17 dc_17 pm_17 an_17 cd_17 ct_17),sl_17⟩)
  (c_17:PySem.W.codeIn K cd_17 "joined" = true) (k_17:PySem.W.keepIn K (.ref f_17)=true)
  {od_18 an_18:Option Addr} {sl_18:Array (Option Value)} {oc_18 kV_18 dc_18 pm_18 cd_18 ct_18:Value}
  (a_18:PySem.W.nsIn K mainGlobals "check_board" = some (some (.ref f_18)))
  (l_18:K.lookup f_18=some ⟨oc_18,od_18,.func (PySem.W.fnOf "check_board" "check_board" (defArgs zaV) (defBody zaV) (defScope zaV) .none kV_18 dc_18 pm_18 an_18 cd_18 ct_18),sl_18⟩)
  (c_18:PySem.W.codeIn K cd_18 "check_board" = true) (k_18:PySem.W.keepIn K (.ref f_18)=true)
  {od_19 an_19:Option Addr} {sl_19:Array (Option Value)} {oc_19 kV_19 dc_19 pm_19 cd_19 ct_19:Value}
  (a_19:PySem.W.nsIn K mainGlobals "column" = some (some (.ref f_19)))
  (l_19:K.lookup f_19=some ⟨oc_19,od_19,.func (PySem.W.fnOf "column" "column" (defArgs zci) (defBody zci) (defScope zci) .none kV_19 dc_19 pm_19 an_19 cd_19 ct_19),sl_19⟩)
  (c_19:PySem.W.codeIn K cd_19 "column" = true) (k_19:PySem.W.keepIn K (.ref f_19)=true)
  {od_20 an_20:Option Addr} {sl_20:Array (Option Value)} {oc_20 kV_20 dc_20 pm_20 cd_20 ct_20:Value}
  (a_20:PySem.W.nsIn K mainGlobals "columns" = some (some (.ref f_20)))
  (l_20:K.lookup f_20=some ⟨oc_20,od_20,.func (PySem.W.fnOf "columns" "columns" (defArgs zbO) (defBody zbO) (defScope zbO) .none kV_20 dc_20 pm_20 an_20 cd_20 ct_20),sl_20⟩)
  (c_20:PySem.W.codeIn K cd_20 "columns" = true) (k_20:PySem.W.keepIn K (.ref f_20)=true)
  {od_21 an_21:Option Addr} {sl_21:Array (Option Value)} {oc_21 kV_21 dc_21 pm_21 cd_21 ct_21:Value}
  (a_21:PySem.W.nsIn K mainGlobals "long_ways" = some (some (.ref f_21)))
  (l_21:K.lookup f_21=some ⟨oc_21,od_21,.func (PySem.W.fnOf "long_ways" "long_ways" (defArgs zbh) (defBody zbh) (defScope zbh) .none kV_21 dc_21 pm_21 an_21 cd_21 ct_21),sl_21⟩)
  (c_21:PySem.W.codeIn K cd_21 "long_ways" = true) (k_21:PySem.W.keepIn K (.ref f_21)=true)
  {od_22 an_22:Option Addr} {sl_22:Array (Option Value)} {oc_22 kV_22 dc_22 pm_22 cd_22 ct_22:Value}
  (a_22:PySem.W.nsIn K mainGlobals "line_sums" = some (some (.ref f_22)))
  (l_22:K.lookup f_22=some ⟨oc_22,od_22,.func (PySem.W.fnOf "line_sums" "line_sums" (defArgs zbi) (defBody zbi) (defScope zbi) .none kV_22 dc_22 pm_22 an_22 cd_22 ct_22),sl_22⟩)
  (c_22:PySem.W.codeIn K cd_22 "line_sums" = true) (k_22:PySem.W.keepIn K (.ref f_22)=true)
  {od_23 an_23:Option Addr} {sl_23:Array (Option Value)} {oc_23 kV_23 dc_23 pm_23 cd_23 ct_23:Value}
  (a_23:PySem.W.nsIn K mainGlobals "sums" = some (some (.ref f_23)))
  (l_23:K.lookup f_23=some ⟨oc_23,od_23,.func (PySem.W.fnOf "sums" "sums" (defArgs zeU) (defBody zeU) (defScope zeU) .none kV_23 dc_23 pm_23 an_23 cd_23 ct_23),sl_23⟩)
  (c_23:PySem.W.codeIn K cd_23 "sums" = true) (k_23:PySem.W.keepIn K (.ref f_23)=true)
  {od_24 an_24:Option Addr} {sl_24:Array (Option Value)} {oc_24 kV_24 dc_24 pm_24 cd_24 ct_24:Value}
  (a_24:PySem.W.nsIn K mainGlobals "is_like" = some (some (.ref f_24)))
  (l_24:K.lookup f_24=some ⟨oc_24,od_24,.func (PySem.W.fnOf "is_like" "is_like" (defArgs zbN) (defBody zbN) (defScope zbN) .none kV_24 dc_24 pm_24 an_24 cd_24 ct_24),sl_24⟩)
  (c_24:PySem.W.codeIn K cd_24 "is_like" = true) (k_24:PySem.W.keepIn K (.ref f_24)=true)
  {od_25 an_25:Option Addr} {sl_25:Array (Option Value)} {oc_25 kV_25 dc_25 pm_25 cd_25 ct_25:Value}
  (a_25:PySem.W.nsIn K mainGlobals "_law_met" = some (some (.ref f_25)))
  (l_25:K.lookup f_25=some ⟨oc_25,od_25,.func (PySem.W.fnOf "_law_met" "_law_met" (defArgs zhM) (defBody zhM) (defScope zhM) .none kV_25 dc_25 pm_25 an_25 cd_25 ct_25),sl_25⟩)
  (c_25:PySem.W.codeIn K cd_25 "_law_met" = true) (k_25:PySem.W.keepIn K (.ref f_25)=true)
  {od_26 an_26:Option Addr} {sl_26:Array (Option Value)} {oc_26 kV_26 dc_26 pm_26 cd_26 ct_26:Value}
  (a_26:PySem.W.nsIn K mainGlobals "law" = some (some (.ref f_26)))
  (l_26:K.lookup f_26=some ⟨oc_26,od_26,.func (PySem.W.fnOf "law" "law" (defArgs s_law) (defBody s_law) (defScope s_law) .none kV_26 dc_26 pm_26 an_26 cd_26 ct_26),sl_26⟩)
  (c_26:PySem.W.codeIn K cd_26 "law" = true) (k_26:PySem.W.keepIn K (.ref f_26)=true)
  (aC_SumError:PySem.W.nsIn K mainGlobals "SumError" = some (some (.ref C_SumError)))
  (aC_BadBoard:PySem.W.nsIn K mainGlobals "BadBoard" = some (some (.ref C_BadBoard)))
  (xC_SumError:PySem.W.excIn K C_SumError bmV "ValueError.__new__" = true)
  (e_SumError_SumError:PySem.W.exmOne K (.ref C_SumError) (.ref C_SumError)=some true)
  (e_BadBoard_SumError:PySem.W.exmOne K (.ref C_BadBoard) (.ref C_SumError)=some true)
  (v_SumError:PySem.W.exmOne K (.ref C_SumError) (.type "ValueError")=some true)
  (xC_BadBoard:PySem.W.excIn K C_BadBoard bmV "ValueError.__new__" = true)
  (e_SumError_BadBoard:PySem.W.exmOne K (.ref C_SumError) (.ref C_BadBoard)=some false)
  (e_BadBoard_BadBoard:PySem.W.exmOne K (.ref C_BadBoard) (.ref C_BadBoard)=some true)
  (v_BadBoard:PySem.W.exmOne K (.ref C_BadBoard) (.type "ValueError")=some true)
  (n_LARGEST_SIZE:PySem.W.nsIn K mainGlobals "LARGEST_SIZE" = some (some (.int 12 tk_LARGEST_SIZE)))
  (z_ValueError:PySem.W.nsIn K mainGlobals "ValueError" = some none)
  (z_all:PySem.W.nsIn K mainGlobals "all" = some none)
  (z_bool:PySem.W.nsIn K mainGlobals "bool" = some none)
  (z_int:PySem.W.nsIn K mainGlobals "int" = some none)
  (z_isinstance:PySem.W.nsIn K mainGlobals "isinstance" = some none)
  (z_len:PySem.W.nsIn K mainGlobals "len" = some none)
  (z_list:PySem.W.nsIn K mainGlobals "list" = some none)
  (z_max:PySem.W.nsIn K mainGlobals "max" = some none)
  (z_min:PySem.W.nsIn K mainGlobals "min" = some none)
  (z_range:PySem.W.nsIn K mainGlobals "range" = some none)
  (z_set:PySem.W.nsIn K mainGlobals "set" = some none)
  (z_sorted:PySem.W.nsIn K mainGlobals "sorted" = some none)
  (z_sum:PySem.W.nsIn K mainGlobals "sum" = some none)
  (z_tuple:PySem.W.nsIn K mainGlobals "tuple" = some none)
  (z_zip:PySem.W.nsIn K mainGlobals "zip" = some none)
  : ∃ t:Adr,Txt K mg t∧t.f_law=fa∧∃ (kV doc pm:Value) (an:Option Addr) (cdv ct:Value),t.d_law=PySem.W.fnOf "law" "law" (defArgs s_law) (defBody s_law) (defScope s_law) .none kV doc pm an cdv ct:=by
 have e:=hfa.symm.trans (PySem.W.mg_of X G a_26)
 cases e
 have F_0:=zaS (st:=zbM) l_0 c_0 k_0
 have b_0:=F_0.binds (ps:=["script", "k"]) fun _ _ _ _ _ _ us hl=>zcK (P:=fun us=>bindArgs _ ⟨us,[]⟩=pure (List.zip _ us)) hl fun _ _=>rfl
 have F_1:=zaS (st:=zeM) l_1 c_1 k_1
 have b_1:=F_1.binds (ps:=["found", "due"]) fun _ _ _ _ _ _ us hl=>zcK (P:=fun us=>bindArgs _ ⟨us,[]⟩=pure (List.zip _ us)) hl fun _ _=>rfl
 have F_2:=zaS (st:=zhL) l_2 c_2 k_2
 have b_2:=F_2.binds (ps:=["cell", "k", "many"]) fun _ _ _ _ _ _ us hl=>znR (P:=fun us=>bindArgs _ ⟨us,[]⟩=pure (List.zip _ us)) hl fun _ _ _=>rfl
 have F_3:=zaS (st:=zbo) l_3 c_3 k_3
 have b_3:=F_3.binds (ps:=["cell", "many"]) fun _ _ _ _ _ _ us hl=>zcK (P:=fun us=>bindArgs _ ⟨us,[]⟩=pure (List.zip _ us)) hl fun _ _=>rfl
 have F_4:=zaS (st:=zbq) l_4 c_4 k_4
 have b_4:=F_4.binds (ps:=["cell", "size"]) fun _ _ _ _ _ _ us hl=>zcK (P:=fun us=>bindArgs _ ⟨us,[]⟩=pure (List.zip _ us)) hl fun _ _=>rfl
 have F_5:=zaS (st:=zeN) l_5 c_5 k_5
 have b_5:=F_5.binds (ps:=["board"]) fun _ _ _ _ _ _ us hl=>zbY (P:=fun us=>bindArgs _ ⟨us,[]⟩=pure (List.zip _ us)) hl fun _=>rfl
 have F_6:=zaS (st:=zeO) l_6 c_6 k_6
 have b_6:=F_6.binds (ps:=["board"]) fun _ _ _ _ _ _ us hl=>zbY (P:=fun us=>bindArgs _ ⟨us,[]⟩=pure (List.zip _ us)) hl fun _=>rfl
 have F_7:=zaS (st:=zbL) l_7 c_7 k_7
 have b_7:=F_7.binds (ps:=["cell", "size"]) fun _ _ _ _ _ _ us hl=>zcK (P:=fun us=>bindArgs _ ⟨us,[]⟩=pure (List.zip _ us)) hl fun _ _=>rfl
 have F_8:=zaS (st:=zbK) l_8 c_8 k_8
 have b_8:=F_8.binds (ps:=["script", "base", "size"]) fun _ _ _ _ _ _ us hl=>znR (P:=fun us=>bindArgs _ ⟨us,[]⟩=pure (List.zip _ us)) hl fun _ _ _=>rfl
 have F_9:=zaS (st:=zcg) l_9 c_9 k_9
 have b_9:=F_9.binds (ps:=["script", "base"]) fun _ _ _ _ _ _ us hl=>zcK (P:=fun us=>bindArgs _ ⟨us,[]⟩=pure (List.zip _ us)) hl fun _ _=>rfl
 have F_10:=zaS (st:=zeP) l_10 c_10 k_10
 have b_10:=F_10.binds (ps:=["board", "cell"]) fun _ _ _ _ _ _ us hl=>zcK (P:=fun us=>bindArgs _ ⟨us,[]⟩=pure (List.zip _ us)) hl fun _ _=>rfl
 have F_11:=zaS (st:=zeQ) l_11 c_11 k_11
 have b_11:=F_11.binds (ps:=["board"]) fun _ _ _ _ _ _ us hl=>zbY (P:=fun us=>bindArgs _ ⟨us,[]⟩=pure (List.zip _ us)) hl fun _=>rfl
 have F_12:=zaS (st:=zbp) l_12 c_12 k_12
 have b_12:=F_12.binds (ps:=["board"]) fun _ _ _ _ _ _ us hl=>zbY (P:=fun us=>bindArgs _ ⟨us,[]⟩=pure (List.zip _ us)) hl fun _=>rfl
 have F_13:=zaS (st:=zc5) l_13 c_13 k_13
 have b_13:=F_13.binds (ps:=["found"]) fun _ _ _ _ _ _ us hl=>zbY (P:=fun us=>bindArgs _ ⟨us,[]⟩=pure (List.zip _ us)) hl fun _=>rfl
 have F_14:=zaS (st:=zc6) l_14 c_14 k_14
 have b_14:=F_14.binds (ps:=["found", "due"]) fun _ _ _ _ _ _ us hl=>zcK (P:=fun us=>bindArgs _ ⟨us,[]⟩=pure (List.zip _ us)) hl fun _ _=>rfl
 have F_15:=zaS (st:=zeR) l_15 c_15 k_15
 have b_15:=F_15.binds (ps:=["board"]) fun _ _ _ _ _ _ us hl=>zbY (P:=fun us=>bindArgs _ ⟨us,[]⟩=pure (List.zip _ us)) hl fun _=>rfl
 have F_16:=zaS (st:=zaO) l_16 c_16 k_16
 have b_16:=F_16.binds (ps:=["board", "largest"]) fun _ _ _ _ _ _ us hl=>zcK (P:=fun us=>bindArgs _ ⟨us,[]⟩=pure (List.zip _ us)) hl fun _ _=>rfl
 have F_17:=zaS (st:=zch) l_17 c_17 k_17
 have b_17:=F_17.binds (ps:=["lists"]) fun _ _ _ _ _ _ us hl=>zbY (P:=fun us=>bindArgs _ ⟨us,[]⟩=pure (List.zip _ us)) hl fun _=>rfl
 have F_18:=zaS (st:=zaV) l_18 c_18 k_18
 have b_18:=F_18.binds (ps:=["board"]) fun _ _ _ _ _ _ us hl=>zbY (P:=fun us=>bindArgs _ ⟨us,[]⟩=pure (List.zip _ us)) hl fun _=>rfl
 have F_19:=zaS (st:=zci) l_19 c_19 k_19
 have b_19:=F_19.binds (ps:=["board", "place"]) fun _ _ _ _ _ _ us hl=>zcK (P:=fun us=>bindArgs _ ⟨us,[]⟩=pure (List.zip _ us)) hl fun _ _=>rfl
 have F_20:=zaS (st:=zbO) l_20 c_20 k_20
 have b_20:=F_20.binds (ps:=["board"]) fun _ _ _ _ _ _ us hl=>zbY (P:=fun us=>bindArgs _ ⟨us,[]⟩=pure (List.zip _ us)) hl fun _=>rfl
 have F_21:=zaS (st:=zbh) l_21 c_21 k_21
 have b_21:=F_21.binds (ps:=["board"]) fun _ _ _ _ _ _ us hl=>zbY (P:=fun us=>bindArgs _ ⟨us,[]⟩=pure (List.zip _ us)) hl fun _=>rfl
 have F_22:=zaS (st:=zbi) l_22 c_22 k_22
 have b_22:=F_22.binds (ps:=["lines"]) fun _ _ _ _ _ _ us hl=>zbY (P:=fun us=>bindArgs _ ⟨us,[]⟩=pure (List.zip _ us)) hl fun _=>rfl
 have F_23:=zaS (st:=zeU) l_23 c_23 k_23
 have b_23:=F_23.binds (ps:=["board"]) fun _ _ _ _ _ _ us hl=>zbY (P:=fun us=>bindArgs _ ⟨us,[]⟩=pure (List.zip _ us)) hl fun _=>rfl
 have F_24:=zaS (st:=zbN) l_24 c_24 k_24
 have b_24:=F_24.binds (ps:=["board"]) fun _ _ _ _ _ _ us hl=>zbY (P:=fun us=>bindArgs _ ⟨us,[]⟩=pure (List.zip _ us)) hl fun _=>rfl
 have F_25:=zaS (st:=zhM) l_25 c_25 k_25
 have b_25:=F_25.binds (ps:=["board", "way"]) fun _ _ _ _ _ _ us hl=>zcK (P:=fun us=>bindArgs _ ⟨us,[]⟩=pure (List.zip _ us)) hl fun _ _=>rfl
 have F_26:=zaS (st:=s_law) l_26 c_26 k_26
 have b_26:=F_26.binds (ps:=["script"]) fun _ _ _ _ _ _ us hl=>zbY (P:=fun us=>bindArgs _ ⟨us,[]⟩=pure (List.zip _ us)) hl fun _=>rfl
 exact⟨⟨f_0,_,f_1,_,f_2,_,f_3,_,f_4,_,f_5,_,f_6,_,f_7,_,f_8,_,f_9,_,f_10,_,f_11,_,f_12,_,f_13,_,f_14,_,f_15,_,f_16,_,f_17,_,f_18,_,f_19,_,f_20,_,f_21,_,f_22,_,f_23,_,f_24,_,f_25,_,fa,_,C_SumError,C_BadBoard,tk_LARGEST_SIZE⟩,⟨F_0,PySem.W.mg_of X G a_0,b_0,F_1,PySem.W.mg_of X G a_1,b_1,F_2,PySem.W.mg_of X G a_2,b_2,F_3,PySem.W.mg_of X G a_3,b_3,F_4,PySem.W.mg_of X G a_4,b_4,F_5,PySem.W.mg_of X G a_5,b_5,F_6,PySem.W.mg_of X G a_6,b_6,F_7,PySem.W.mg_of X G a_7,b_7,F_8,PySem.W.mg_of X G a_8,b_8,F_9,PySem.W.mg_of X G a_9,b_9,F_10,PySem.W.mg_of X G a_10,b_10,F_11,PySem.W.mg_of X G a_11,b_11,F_12,PySem.W.mg_of X G a_12,b_12,F_13,PySem.W.mg_of X G a_13,b_13,F_14,PySem.W.mg_of X G a_14,b_14,F_15,PySem.W.mg_of X G a_15,b_15,F_16,PySem.W.mg_of X G a_16,b_16,F_17,PySem.W.mg_of X G a_17,b_17,F_18,PySem.W.mg_of X G a_18,b_18,F_19,PySem.W.mg_of X G a_19,b_19,F_20,PySem.W.mg_of X G a_20,b_20,F_21,PySem.W.mg_of X G a_21,b_21,F_22,PySem.W.mg_of X G a_22,b_22,F_23,PySem.W.mg_of X G a_23,b_23,F_24,PySem.W.mg_of X G a_24,b_24,F_25,PySem.W.mg_of X G a_25,b_25,F_26,PySem.W.mg_of X G a_26,b_26,PySem.W.mg_of X G aC_SumError,xC_SumError,e_SumError_SumError,e_BadBoard_SumError,zb7 v_SumError,zb7 e_SumError_SumError,zb7 e_BadBoard_SumError,PySem.W.mg_of X G aC_BadBoard,xC_BadBoard,e_SumError_BadBoard,e_BadBoard_BadBoard,zb7 v_BadBoard,zb7 e_BadBoard_BadBoard,PySem.W.mg_of X G n_LARGEST_SIZE,PySem.W.mg_none_of X G z_ValueError,PySem.W.mg_none_of X G z_all,PySem.W.mg_none_of X G z_bool,PySem.W.mg_none_of X G z_int,PySem.W.mg_none_of X G z_isinstance,PySem.W.mg_none_of X G z_len,PySem.W.mg_none_of X G z_list,PySem.W.mg_none_of X G z_max,PySem.W.mg_none_of X G z_min,PySem.W.mg_none_of X G z_range,PySem.W.mg_none_of X G z_set,PySem.W.mg_none_of X G z_sorted,PySem.W.mg_none_of X G z_sum,PySem.W.mg_none_of X G z_tuple,PySem.W.mg_none_of X G z_zip⟩,rfl,_,_,_,_,_,_,rfl⟩
end Qk01
open PySem PySem.W PyProof.Rows
set_option maxRecDepth 100000 in
set_option maxHeartbeats 0 in
theorem PySem.Challenge.cw_likesums_k01_sums_holds : PySem.Challenge.rw_likesums_k01_sums.Holds := by
 w_on;o_law;k_head;(case hw=>w_witness2)
 k_fill
 refine TL.walk (l:=PySem.Challenge.rw_likesums_k01_sums) rfl rfl (fun w h Y=>PySem.W.kIn_of Y) ?F
 case F =>
  intro w mg fa h KX G hmg
  have T:∃ t:Qk01.Adr,Qk01.Txt (L2.KOf KX) mg t∧t.f_law=fa∧∃ (kV doc pm:Value) (an:Option Addr) (cdv ct:Value),t.d_law=PySem.W.fnOf "law" "law" (L2.defArgs Qk01.s_law) (L2.defBody Qk01.s_law) (L2.defScope Qk01.s_law) .none kV doc pm an cdv ct:=by
   dsimp only [L2.KOf]
   refine' Qk01.txt_mk KX G hmg ?c0 ?c1 ?c2 ?c3 ?c4 ?c5 ?c6 ?c7 ?c8 ?c9 ?c10 ?c11 ?c12 ?c13 ?c14 ?c15 ?c16 ?c17 ?c18 ?c19 ?c20 ?c21 ?c22 ?c23 ?c24 ?c25 ?c26 ?c27 ?c28 ?c29 ?c30 ?c31 ?c32 ?c33 ?c34 ?c35 ?c36 ?c37 ?c38 ?c39 ?c40 ?c41 ?c42 ?c43 ?c44 ?c45 ?c46 ?c47 ?c48 ?c49 ?c50 ?c51 ?c52 ?c53 ?c54 ?c55 ?c56 ?c57 ?c58 ?c59 ?c60 ?c61 ?c62 ?c63 ?c64 ?c65 ?c66 ?c67 ?c68 ?c69 ?c70 ?c71 ?c72 ?c73 ?c74 ?c75 ?c76 ?c77 ?c78 ?c79 ?c80 ?c81 ?c82 ?c83 ?c84 ?c85 ?c86 ?c87 ?c88 ?c89 ?c90 ?c91 ?c92 ?c93 ?c94 ?c95 ?c96 ?c97 ?c98 ?c99 ?c100 ?c101 ?c102 ?c103 ?c104 ?c105 ?c106 ?c107 ?c108 ?c109 ?c110 ?c111 ?c112 ?c113 ?c114 ?c115 ?c116 ?c117 ?c118 ?c119 ?c120 ?c121 ?c122 ?c123 ?c124 ?c125 ?c126 ?c127 ?c128 ?c129 ?c130 ?c131 ?c132 ?c133
   (case c0=>k_is)
   (case c1=>k_is)
   (case c2=>k_is)
   (case c3=>k_is)
   (case c4=>k_is)
   (case c5=>k_is)
   (case c6=>k_is)
   (case c7=>k_is)
   (case c8=>k_is)
   (case c9=>k_is)
   (case c10=>k_is)
   (case c11=>k_is)
   (case c12=>k_is)
   (case c13=>k_is)
   (case c14=>k_is)
   (case c15=>k_is)
   (case c16=>k_is)
   (case c17=>k_is)
   (case c18=>k_is)
   (case c19=>k_is)
   (case c20=>k_is)
   (case c21=>k_is)
   (case c22=>k_is)
   (case c23=>k_is)
   (case c24=>k_is)
   (case c25=>k_is)
   (case c26=>k_is)
   (case c27=>k_is)
   (case c28=>k_is)
   (case c29=>k_is)
   (case c30=>k_is)
   (case c31=>k_is)
   (case c32=>k_is)
   (case c33=>k_is)
   (case c34=>k_is)
   (case c35=>k_is)
   (case c36=>k_is)
   (case c37=>k_is)
   (case c38=>k_is)
   (case c39=>k_is)
   (case c40=>k_is)
   (case c41=>k_is)
   (case c42=>k_is)
   (case c43=>k_is)
   (case c44=>k_is)
   (case c45=>k_is)
   (case c46=>k_is)
   (case c47=>k_is)
   (case c48=>k_is)
   (case c49=>k_is)
   (case c50=>k_is)
   (case c51=>k_is)
   (case c52=>k_is)
   (case c53=>k_is)
   (case c54=>k_is)
   (case c55=>k_is)
   (case c56=>k_is)
   (case c57=>k_is)
   (case c58=>k_is)
   (case c59=>k_is)
   (case c60=>k_is)
   (case c61=>k_is)
   (case c62=>k_is)
   (case c63=>k_is)
   (case c64=>k_is)
   (case c65=>k_is)
   (case c66=>k_is)
   (case c67=>k_is)
   (case c68=>k_is)
   (case c69=>k_is)
   (case c70=>k_is)
   (case c71=>k_is)
   (case c72=>k_is)
   (case c73=>k_is)
   (case c74=>k_is)
   (case c75=>k_is)
   (case c76=>k_is)
   (case c77=>k_is)
   (case c78=>k_is)
   (case c79=>k_is)
   (case c80=>k_is)
   (case c81=>k_is)
   (case c82=>k_is)
   (case c83=>k_is)
   (case c84=>k_is)
   (case c85=>k_is)
   (case c86=>k_is)
   (case c87=>k_is)
   (case c88=>k_is)
   (case c89=>k_is)
   (case c90=>k_is)
   (case c91=>k_is)
   (case c92=>k_is)
   (case c93=>k_is)
   (case c94=>k_is)
   (case c95=>k_is)
   (case c96=>k_is)
   (case c97=>k_is)
   (case c98=>k_is)
   (case c99=>k_is)
   (case c100=>k_is)
   (case c101=>k_is)
   (case c102=>k_is)
   (case c103=>k_is)
   (case c104=>k_is)
   (case c105=>k_is)
   (case c106=>k_is)
   (case c107=>k_is)
   (case c108=>k_is)
   (case c109=>k_is)
   (case c110=>k_exc)
   (case c111=>kts_exm)
   (case c112=>kts_exm)
   (case c113=>kts_exm)
   (case c114=>k_exc)
   (case c115=>kts_exm)
   (case c116=>kts_exm)
   (case c117=>kts_exm)
   (case c118=>k_is)
   (case c119=>k_is)
   (case c120=>k_is)
   (case c121=>k_is)
   (case c122=>k_is)
   (case c123=>k_is)
   (case c124=>k_is)
   (case c125=>k_is)
   (case c126=>k_is)
   (case c127=>k_is)
   (case c128=>k_is)
   (case c129=>k_is)
   (case c130=>k_is)
   (case c131=>k_is)
   (case c132=>k_is)
   (case c133=>k_is)
  obtain⟨t,T,e,kV,doc,pm,an,cdv,ct,e2⟩:=T
  cases e
  refine ⟨t.d_law,fun s v=>?_,fun base _ _=>TL.law_fn (Qk01.ok_law T) (by decide) Qk01.law_true⟩
  rw [e2]
  exact .of_eq rfl
