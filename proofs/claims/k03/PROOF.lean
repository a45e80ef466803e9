import PyProof.Rows.All
import Wide.All
import OpenK.AllK
import Wide.FinOn
import Lean
import PyProof.EqAt
import PyProof.EqKinds
import PyProof.TupleCall
import PyProof.Rows.SortPure
import PyProof.Rows.SortWalk
import PyProof.NeKinds
import KE.KRevIter
import PyProof.ExcBaseAll.ValueError
import PyProof.Rows.SetFrom
import PyProof.SetRoads
import PyProof.CollectWalk
import PyProof.Rows.SeqMore2
import PySem.Challenge.RW_likesums_k03_kin
set_option Elab.async false
set_option linter.all false
set_option maxRecDepth 100000
set_option maxHeartbeats 0
namespace L2
open PySem PySem.Spec PyProof.Rows
noncomputable abbrev Key:=Sum Int Str
noncomputable def znK:Key→Value→Bool
 | .inl k,v=>Value.isInt k v
 | .inr x,v=>Value.isStrOf x v
noncomputable def keyH (w:World):Key→Int
 | .inl k=>hashInt k
 | .inr x=>hashStr w x
theorem zaR:∀ {k:Key} {v:Value},znK k v=true→(∃ i t,k=Sum.inl i∧v=Value.int i t)∨(∃ x t,k=Sum.inr x∧v=Value.str x t)
 | .inl i,v,h=>by
  obtain⟨t,e⟩:=Value.isInt_shape (k:=i) (v:=v) h
  exact .inl ⟨i,t,rfl,e⟩
 | .inr x,v,h=>by
  obtain⟨t,e⟩:=Value.isStrOf_shape (x:=x) (v:=v) h
  exact .inr ⟨x,t,rfl,e⟩
theorem zpq (a b:Int):decide ((Sum.inl a:Key)=Sum.inl b)=(a == b):=by
 by_cases e:a=b
 ·subst e;simp
 ·have h:¬ (Sum.inl a:Key)=Sum.inl b:=fun q=>e (Sum.inl.inj q)
  rw [decide_eq_false h]
  exact (beq_eq_false_iff_ne.mpr e).symm
theorem zpn (a b:Str):decide ((Sum.inr a:Key)=Sum.inr b)=decide (a=b):=by
 by_cases e:a=b
 ·subst e;simp
 ·have h:¬ (Sum.inr a:Key)=Sum.inr b:=fun q=>e (Sum.inr.inj q)
  rw [decide_eq_false h,decide_eq_false e]
theorem zpp (a:Int) (b:Str):decide ((Sum.inl a:Key)=Sum.inr b)=false:=decide_eq_false (fun q=>nomatch q)
theorem zpo (a:Str) (b:Int):decide ((Sum.inr a:Key)=Sum.inl b)=false:=decide_eq_false (fun q=>nomatch q)
noncomputable def zhc (prog:Program) (w:World):PySem.KeyKind prog w Key where
 is:=znK
 hash:=keyH w
 inj:=fun v a b ha hb=>by
  rcases zaR ha with ⟨i,t,rfl,rfl⟩ | ⟨x,t,rfl,rfl⟩
  ·rcases zaR hb with ⟨j,u,rfl,e⟩ | ⟨y,u,rfl,e⟩
   ·injection e with e1 _;rw [e1]
   ·exact nomatch e
  ·rcases zaR hb with ⟨j,u,rfl,e⟩ | ⟨y,u,rfl,e⟩
   ·exact nomatch e
   ·injection e with e1 _;rw [e1]
 byValue:=fun k v h=>by
  rcases zaR h with ⟨i,t,rfl,rfl⟩ | ⟨x,t,rfl,rfl⟩ <;> rfl
 pyHash:=fun hv h=>by
  rcases zaR hv with ⟨i,t,rfl,rfl⟩ | ⟨x,t,rfl,rfl⟩
  ·exact wpAny_pyHash_int h
  ·exact wpAny_pyHash_str h
 eqBool:=fun hu hv h=>by
  rcases zaR hu with ⟨i,t,rfl,rfl⟩ | ⟨x,t,rfl,rfl⟩
  ·rcases zaR hv with ⟨j,u,rfl,rfl⟩ | ⟨y,u,rfl,rfl⟩
   ·rw [zpq] at h;exact wpAny_eqBool_int h
   ·rw [zpp] at h;exact SeqAt.EqAt.int_str i t y u _ _ _ _ h
  ·rcases zaR hv with ⟨j,u,rfl,rfl⟩ | ⟨y,u,rfl,rfl⟩
   ·rw [zpo] at h;exact SeqAt.EqAt.str_int x t j u _ _ _ _ h
   ·rw [zpn] at h;exact wpAny_eqBool_str h
 «strs»:=fun k x t v h=>by
  rcases zaR h with ⟨i,u,rfl,e⟩ | ⟨y,u,rfl,e⟩
  ·exact nomatch e
  ·injection e with e1 _
   subst e1
   cases v <;> rfl
theorem zop (prog:Program) (w:World) (k:Key) (v:Value):(zhc prog w).is k v=znK k v:=rfl
end L2
namespace L2
open PySem PySem.Spec PyProof.Rows
inductive V where
 | non | bl (b:Bool) | int (i:Int) | str (x:Str) | byt (b:Array UInt8) | flt (b:UInt64) | ref (a:Addr) | ty (n:String)
 deriving DecidableEq
noncomputable def RelV:V→Value→Prop
 | .non,u=>u=Value.none
 | .bl b,u=>u=Value.bool b
 | .int i,u=>∃ t,u=Value.int i t
 | .str x,u=>∃ t,u=Value.str x t
 | .byt b,u=>∃ t,u=Value.bytes b t
 | .flt b,u=>∃ t,u=Value.float b t
 | .ref a,u=>u=Value.ref a
 | .ty n,u=>u=Value.type n
noncomputable abbrev Vals:List V→List Value→Prop:=Paired RelV
theorem Vals.length {xs:List V} {us:List Value} (r:Vals xs us):xs.length=us.length:=Paired.length r
theorem Vals.get:∀ {xs:List V} {us:List Value} {i:Nat} {x:V},Vals xs us→xs[i]? = some x→∃ u,us[i]? = some u∧RelV x u
 | _,_,_,_,.nil,e=>by simp at e
 | _,_,0,_,.cons r _,e=>by simp at e;subst e;exact⟨_,rfl,r⟩
 | _,_,i + 1,x,.cons _ t,e=>by
  obtain⟨u,h1,h2⟩:=Vals.get (i:=i) (x:=x) t (by simpa using e)
  exact⟨u,by simpa using h1,h2⟩
theorem Vals.set {x:V} {u:Value} (r:RelV x u):∀ {xs:List V} {us:List Value} (i:Nat),Vals xs us→Vals (xs.set i x) (us.set i u)
 | _,_,_,.nil=>.nil
 | _,_,0,.cons _ t=>.cons r t
 | _,_,i + 1,.cons q t=>.cons q (Vals.set r i t)
theorem Vals.append:∀ {xs ys:List V} {us ws:List Value},Vals xs us→Vals ys ws→Vals (xs ++ ys) (us ++ ws):=by
 intro xs ys us ws h g
 induction h with
 | nil=>exact g
 | cons r _ ih=>exact .cons r ih
theorem Vals.take:∀ {xs:List V} {us:List Value} (n:Nat),Vals xs us→Vals (xs.take n) (us.take n)
 | _,_,0,_=>.nil
 | _,_,_ + 1,.nil=>.nil
 | _,_,n + 1,.cons r t=>.cons r (Vals.take n t)
theorem Vals.drop:∀ {xs:List V} {us:List Value} (n:Nat),Vals xs us→Vals (xs.drop n) (us.drop n)
 | _,_,0,r=>r
 | _,_,_ + 1,.nil=>.nil
 | _,_,n + 1,.cons _ t=>Vals.drop n t
noncomputable def RelO:Option V→Option Value→Prop
 | some v,some u=>RelV v u
 | none,none=>True
 | _,_=>False
noncomputable def KV {κ:Type}:List (κ×V)→List (κ×Value)→Prop:=Paired fun (p:κ×V) (q:κ×Value)=>p.1=q.1∧RelV p.2 q.2
noncomputable def kV:Key→V
 | .inl i=>.int i
 | .inr x=>.str x
inductive HO where
 /-- a list -/
 | lst (xs:List V)
 /-- a tuple (never changes) -/
 | tup (xs:List V)
 /-- a dict whose keys are ints and texts;one whose keys are tuples of ints and texts (the empty one is both) -/
 | dK (kvs:List (Key×V)) | dT (kvs:List (List Key×V))
 /-- a set of ints: its members,its size -/
 | set (S:Int→Bool) (n:Nat)
 /-- an instance of the class at C,its dict at dx,its attributes -/
 | ins (C dx:Addr) (fs:List (Str×V))
 /-- the dict of the instance at x -/
 | own (x:Addr)
 /-- the dict of an exception -/
 | xd (fs:List (Str×V))
 /-- a bound method,f of x -/
 | met (f x:Addr)
 /-- a range object lo,lo + 1,.. below hi -/
 | rng (lo hi:Int)
 /-- a thing that is known to the object (the script;a dict while a loop walks it): read,never written while it is so -/
 | frz (o:Obj) (u:HO)
 /-- a code object's table -/
 | tbl (ps:Array Value)
 /-- any other thing,by what is true of its one object (a def of one's own: SetO a S n:=HO.ext fun h=>..) -/
 | ext (φ:Heap→Prop)
noncomputable abbrev Hp:=Addr→Option HO
noncomputable def upd (H:Hp) (a:Addr) (o:HO):Hp:=fun b=>if b=a then some o else H b
theorem zaB {H:Hp} {a:Addr} {o:HO}:upd H a o a=some o:=by unfold upd;rw [if_pos rfl]
theorem zat {H:Hp} {a b:Addr} {o:HO} (h:b≠a):upd H a o b=H b:=by unfold upd;rw [if_neg h]
theorem zaA {H:Hp} {a b:Addr} {o:HO} (h:H a=some o) (h':H b=none):a≠b:=by
 intro e;subst e;rw [h] at h';cases h'
section
variable (P:Program) (w:World)
noncomputable def zbS (H:Hp) (h:Heap) (a:Addr):HO→Prop
 | .lst xs=>xs.length≤sizeLine∧∃ (its:List Value) (n:Nat),Vals xs its∧h.get? a=some { cls:=.type "list", data:=.seq its.toArray n }
 | .tup xs=>xs.length≤sizeLine∧∃ its:List Value,Vals xs its∧IsTup h a its.toArray
 | .dK kvs=>kvs.length≤sizeLine∧(a == sysModules)=false∧∃ vs,KV kvs vs∧h.DictOf (zhc P w) a vs
 | .dT kvs=>kvs.length≤sizeLine∧(a == sysModules)=false∧∃ xs:List (List Key×Addr×Value),
   Paired (fun (p:List Key×V) (q:List Key×Addr×Value)=>p.1=q.1∧H q.2.1=some (.tup (p.1.map kV))∧RelV p.2 q.2.2) kvs xs ∧
   ∃ o es ep,h.get? a=some o∧o.ExactDict∧o.data=.dict es ep∧es.toList=xs.map (entryOfKey (tupleKind (zhc P w)))∧(xs.map (·.1)).Nodup
 | .set S n=>h.SetOf (intKind P w) a S n
 | .ins C dx fs=>H dx=some (.own a)∧fs.length≤1000∧dx≠a∧h.get? a=some (PySem.W.instObj C dx) ∧
   ∃ mA,h.Ns1 dx mA∧(∀ f,RelO (fs.lookup f) (mA f))∧PySem.Within mA (fs.map (·.1))
 | .own _=>∃ o,h.get? a=some o
 | .xd fs=>∃ mA,h.Ns1 a mA∧∀ f,RelO (fs.lookup f) (mA f)
 | .rng lo hi=>∃ t u v,h.get? a=some { cls:=.type "range", data:=.fields #[.int lo t,.int hi u,.int 1 v] }
 | .frz o u=>h.get? a=some o∧zbS H h a u
 | .tbl ps=>h.get? a=some { cls:=.none,data:=.fields ps }
 | .met f x=>h.get? a=some (PySem.W.methodObj (.ref f) (.ref x))
 | .ext φ=>φ h∧(∃ o,h.get? a=some o)∧∀ h1 h2:Heap,φ h1→(∀ o,h1.get? a=some o→h2.get? a=some o)→φ h2
def HOk (H:Hp) (h:Heap):Prop:=∀ a o,H a=some o→zbS P w H h a o
end
section
variable {P:Program} {w:World} {H H':Hp} {h h':Heap} {a:Addr} {o:HO}
theorem zbS.lt (x:zbS P w H h a o):a < h.objs.size:=by
 cases o with
 | lst xs=>obtain⟨_,_,_,_,e⟩:=x;exact Heap.lt_size e
 | tup xs=>obtain⟨_,_,_,p⟩:=x;exact p.lt
 | dK kvs=>obtain⟨_,_,_,_,o,_,_,e,_⟩:=x;exact Heap.lt_size e
 | dT kvs=>obtain⟨_,_,_,_,o,_,_,e,_⟩:=x;exact Heap.lt_size e
 | set S n=>obtain⟨o,_,_,_,e,_⟩:=x;exact Heap.lt_size e
 | ins C dx fs=>obtain⟨_,_,_,e,_⟩:=x;exact Heap.lt_size e
 | own y=>obtain⟨_,e⟩:=x;exact Heap.lt_size e
 | xd fs=>obtain⟨_,⟨_,_,_,e,_⟩,_⟩:=x;exact Heap.lt_size e
 | rng lo hi=>obtain⟨_,_,_,e⟩:=x;exact Heap.lt_size e
 | frz ob u=>obtain⟨e,_⟩:=x;exact Heap.lt_size e
 | tbl ps=>exact Heap.lt_size (show h.get? a=some _ from x)
 | met f y=>exact Heap.lt_size (show h.get? a=some _ from x)
 | ext φ=>obtain⟨_,⟨_,e⟩,_⟩:=x;exact Heap.lt_size e
theorem Paired.mapP {α β:Type} {F G:α→β→Prop}:∀ {l₁:List α} {l₂:List β},Paired F l₁ l₂→(∀ a b,F a b→G a b)→Paired G l₁ l₂
 | _,_,.nil,_=>.nil
 | _,_,.cons r t,f=>.cons (f _ _ r) (Paired.mapP t f)
theorem zbS.stay (x:zbS P w H h a o) (k:∀ b u,(b=a∨H b=some (.own a))→h.get? b=some u→h'.get? b=some u)
  (ho:∀ b,H b=some (.own a)→H' b=some (.own a)) (ht:∀ b xs,H b=some (.tup xs)→H' b=some (.tup xs)):zbS P w H' h' a o:=by
 induction o with
 | lst xs=>obtain⟨z,its,n,r,e⟩:=x;exact⟨z,its,n,r,k _ _ (.inl rfl) e⟩
 | tup xs=>obtain⟨z,its,r,ob,e,c⟩:=x;exact⟨z,its,r,ob,k _ _ (.inl rfl) e,c⟩
 | dK kvs=>obtain⟨z,y,vs,r,ob,es,ep,e,c⟩:=x;exact⟨z,y,vs,r,ob,es,ep,k _ _ (.inl rfl) e,c⟩
 | dT kvs =>
  obtain⟨z,y,xs,r,ob,es,ep,e,c⟩:=x
  exact⟨z,y,xs,Paired.mapP r fun p q z=>⟨z.1,ht _ _ z.2.1,z.2.2⟩,ob,es,ep,k _ _ (.inl rfl) e,c⟩
 | set S n=>obtain⟨ob,es,ep,t,e,c⟩:=x;exact⟨ob,es,ep,t,k _ _ (.inl rfl) e,c⟩
 | ins C dx fs =>
  obtain⟨d,z,ne,e,mA,⟨od,es,ep,e2,c⟩,r⟩:=x
  exact⟨ho _ d,z,ne,k _ _ (.inl rfl) e,mA,⟨od,es,ep,k _ _ (.inr d) e2,c⟩,r⟩
 | own y=>obtain⟨ob,e⟩:=x;exact⟨ob,k _ _ (.inl rfl) e⟩
 | xd fs=>obtain⟨mA,⟨od,es,ep,e,c⟩,r⟩:=x;exact⟨mA,⟨od,es,ep,k _ _ (.inl rfl) e,c⟩,r⟩
 | rng lo hi=>obtain⟨t,u,v,e⟩:=x;exact⟨t,u,v,k _ _ (.inl rfl) e⟩
 | frz ob u ih=>obtain⟨e,q⟩:=x;exact⟨k _ _ (.inl rfl) e,ih q⟩
 | tbl ps =>
  have e:h.get? a=some { cls:=.none,data:=.fields ps }:=x
  show h'.get? a=some { cls:=.none,data:=.fields ps }
  exact k a _ (.inl rfl) e
 | met f y =>
  have e:h.get? a=some (PySem.W.methodObj (.ref f) (.ref y)):=x
  show h'.get? a=some (PySem.W.methodObj (.ref f) (.ref y))
  exact k a _ (.inl rfl) e
 | ext φ=>obtain⟨p,⟨o,e⟩,st⟩:=x;exact⟨st _ _ p fun o q=>k _ _ (.inl rfl) q,⟨o,k _ _ (.inl rfl) e⟩,st⟩
theorem HOk.lt (x:HOk P w H h) (e:H a=some o):a < h.objs.size:=(x a o e).lt
theorem HOk.fresh (x:HOk P w H h) (e:h.objs.size≤a):H a=none:=by
 cases q:H a with
 | none=>rfl
 | some u=>exact absurd (Nat.lt_of_lt_of_le (x.lt q) e) (Nat.lt_irrefl _)
theorem HOk.kept (x:HOk P w H h) (k:∀ b u,h.get? b=some u→h'.get? b=some u):HOk P w H h':=fun a o e =>
 (x a o e).stay (fun b u _ q=>k b u q) (fun _ q=>q) fun _ _ q=>q
theorem HOk.laid (x:HOk P w H h) (k:∀ b u,h.get? b=some u→h'.get? b=some u) (hp:h.objs.size≤a) (new:zbS P w (upd H a o) h' a o):HOk P w (upd H a o) h':=fun b u e=>by
 have hn:=x.fresh hp
 by_cases hb:b=a
 ·subst hb;rw [zaB] at e;cases e;exact new
 ·rw [zat hb] at e
  exact (x b u e).stay (fun c v _ q=>k c v q) (fun c q=>by rw [zat (zaA q hn)];exact q) fun c xs q=>by rw [zat (zaA q hn)];exact q
end
def Rd (H:Hp) (a:Addr) (u:HO):Prop:=H a=some u∨∃ o,H a=some (.frz o u)
theorem Rd.ok {P:Program} {w:World} {H:Hp} {h:Heap} {a:Addr} {u:HO} (r:Rd H a u) (x:HOk P w H h):zbS P w H h a u:=by
 rcases r with r | ⟨o,r⟩
 ·exact x a u r
 ·obtain⟨_,q⟩:=x a _ r
  exact q
noncomputable def Mut:Option HO→Prop
 | some (.lst _)=>True
 | some (.dK _)=>True
 | some (.dT _)=>True
 | some (.set _ _)=>True
 | some (.ins _ _ _)=>True
 | some (.ext _)=>True
 | _=>False
section
variable {P:Program} {w:World} {H:Hp} {h h':Heap} {x e:Addr} {o':HO}
theorem HOk.write (ok:HOk P w H h) (mu:Mut (H x)) (he:e=x∨H e=some (.own x)) (k:∀ b u,b≠e→h.get? b=some u→h'.get? b=some u) (heo:∃ u,h'.get? e=some u)
  (new:zbS P w (upd H x o') h' x o'):HOk P w (upd H x o') h':=fun b u q=>by
 have nown:∀ c y,H c=some (.own y)→c≠x:=fun c y r z=>by subst z;rw [r] at mu;exact mu
 have ntup:∀ c xs,H c=some (.tup xs)→c≠x:=fun c xs r z=>by subst z;rw [r] at mu;exact mu
 by_cases hb:b=x
 ·subst hb;rw [zaB] at q;cases q;exact new
 ·rw [zat hb] at q
  by_cases hbe:b=e
  ·have q':H b=some (.own x):=by
    rcases he with z | z
    ·exact absurd (hbe.trans z) hb
    ·rw [hbe];exact z
   rw [q] at q';cases q'
   obtain⟨v,hv⟩:=heo
   exact⟨v,by rw [hbe];exact hv⟩
  ·refine (ok b u q).stay (fun c v hc r=>k c v ?_ r) (fun c r=>by rw [zat (nown c b r)];exact r) fun c xs r=>by rw [zat (ntup c xs r)];exact r
   rcases hc with rfl | hc
   ·exact hbe
   ·rintro rfl
    rcases he with z | z
    ·exact nown c b hc z
    ·rw [hc] at z;cases z;exact hb rfl
end
structure Un (fs ex:List Addr) (H H':Hp) (h h':Heap):Prop where
 keep:∀ b o,h.get? b=some o→H b=none→b∉fs→b∉ex→h'.get? b=some o
 slot:∀ b o,h.get? b=some o→H b=none→b∈fs→b∉ex→∃ sl,h'.get? b=some { o with slots:=sl }
 free:∀ b o,h.get? b=some o→H b=none→b∉ex→H' b=none
 there:∀ b o,h.get? b=some o→b∉ex→∃ o',h'.get? b=some o'
 tups:∀ b xs,H b=some (.tup xs)→H' b=some (.tup xs)
 frzs:∀ b o u,H b=some (.frz o u)→H' b=some (.frz o u)
 tbls:∀ b ps,H b=some (.tbl ps)→∃ more,H' b=some (.tbl (ps ++ more))
section
variable {fs fs' ex ex':List Addr} {H H1 H2:Hp} {h h1 h2 h':Heap} {a x e:Addr} {o:HO}
theorem Un.any (u:Un fs ex H H1 h h1) {b:Addr} {ob:Obj} (q:h.get? b=some ob) (n:H b=none) (hx:b∉ex):∃ sl,h1.get? b=some { ob with slots:=sl }:=by
 by_cases hb:b∈fs
 ·exact u.slot b ob q n hb hx
 ·exact⟨ob.slots,u.keep b ob q n hb hx⟩
theorem Un.kept (k:∀ b u,h.get? b=some u→h'.get? b=some u):Un fs ex H H h h':=
 ⟨fun b ob q _ _ _=>k b ob q,fun b ob q _ _ _=>⟨ob.slots,k b ob q⟩,fun _ _ _ n _=>n,fun b ob q _=>⟨ob,k b ob q⟩,fun _ _ q=>q,fun _ _ _ q=>q,fun _ ps q=>⟨#[],by rw [q];simp⟩⟩
theorem Un.refl:Un fs ex H H h h:=Un.kept fun _ _ q=>q
theorem Un.laid (k:∀ b u,h.get? b=some u→h'.get? b=some u) (hp:h.objs.size≤a) (hn:H a=none):Un fs ex H (upd H a o) h h' where
 keep:=fun b u q _ _ _=>k b u q
 slot:=fun b u q _ _ _=>⟨u.slots,k b u q⟩
 free:=fun b u q n _=>by rw [zat (Nat.ne_of_lt (Nat.lt_of_lt_of_le (Heap.lt_size q) hp))];exact n
 there:=fun b u q _=>⟨u,k b u q⟩
 tups:=fun b xs q=>by rw [zat (zaA q hn)];exact q
 frzs:=fun b u xs q=>by rw [zat (zaA q hn)];exact q
 tbls:=fun b ps q=>⟨#[],by rw [zat (zaA q hn),q];simp⟩
theorem Un.write (mu:Mut (H x)) (he:e=x∨H e=some (.own x)) (k:∀ b u,b≠e→h.get? b=some u→h'.get? b=some u) (heo:∃ u,h'.get? e=some u):Un fs ex H (upd H x o) h h':=by
 have hx:∀ b,H b=none→b≠x:=fun b n z=>by subst z;rw [n] at mu;exact mu
 have hb:∀ b,H b=none→b≠e:=fun b n z=>by
  subst z
  rcases he with r | r
  ·exact hx b n r
  ·rw [n] at r;cases r
 have hm:∀ b u,H b=some u→¬ Mut (some u)→b≠x:=fun b u q nm z=>by subst z;rw [q] at mu;exact nm mu
 refine ⟨fun b u q n _ _=>k b u (hb b n) q,fun b u q n _ _=>⟨u.slots,k b u (hb b n) q⟩,fun b u q n _=>by rw [zat (hx b n)];exact n,fun b u q _=>?_,
  fun b xs q=>by rw [zat (hm b _ q fun z=>z)];exact q,fun b u xs q=>by rw [zat (hm b _ q fun z=>z)];exact q,fun b ps q=>⟨#[],by rw [zat (hm b _ q fun z=>z),q];simp⟩⟩
 by_cases hbe:b=e
 ·subst hbe;exact heo
 ·exact⟨u,k b u hbe q⟩
end
noncomputable def trk (h:Heap) (H:Hp):List Addr:=(List.range h.objs.size).filter fun a=>(H a).isSome
noncomputable def hidT (h:Heap) (H:Hp):Heap:=PySem.W.hideAll h (trk h H)
theorem zkU (h:Heap) (H:Hp):(hidT h H).objs.size=h.objs.size:=PySem.W.hideAll_size _ _
theorem zl5 {h:Heap} {H:Hp} {b:Addr} {o:Obj} (e:h.get? b=some o) (n:H b=none):(hidT h H).get? b=some o:=
 PySem.W.hideAll_get _ e fun hm=>by
  have q:(H b).isSome=true:=(List.mem_filter.mp hm).2
  rw [n] at q;simp at q
theorem znz {h:Heap} {H:Hp} {b:Addr} {o:Obj} (e:(hidT h H).get? b=some o):h.get? b=some o∧H b=none:=by
 have e':h.get? b=some o:=PySem.W.of_hideAll (trk h H) e
 refine ⟨e',?_⟩
 cases q:H b with
 | none=>rfl
 | some x =>
  have hm:b∈trk h H:=List.mem_filter.mpr ⟨List.mem_range.mpr (Heap.lt_size e'),by simp [q]⟩
  have z:(hidT h H).get? b=none:=PySem.W.hideAll_none (trk h H) hm
  rw [z] at e;cases e
end L2
namespace L2
open PySem PySem.Spec PyProof.Rows
structure Mod (K:PySem.W.Frag) (mg:Str→Option Value) (base:Heap):Prop where
 kin:K.In base
 glob:base.Ns mainGlobals mg
 blt:∃ mb,base.Ns builtinsNs mb∧∀ x:Str,x ≠ "__name__" → mb x=bootBuiltins x
 nolimit:base.NoLimit
structure Cx where
 prog:Program
 w:World
 K:PySem.W.Frag
 mg:Str→Option Value
 base:Heap
 A:Around
 N:List Str
 s₀:Shared
 H₀:Hp
 env:Env
 outer:List Env
 stack:List Env
 ex:List Addr
 fn:Str→Bool
 calm:Bool
 pn:List (Addr×Obj)
 xe:Value→Shared→Prop
noncomputable def frs (l:List Env):List Addr:=l.filterMap (·.frame)
noncomputable abbrev Cx.fs (X:Cx):List Addr:=frs X.outer
def Vis (sc:Scope) (x:Str):Prop:=sc.names.lookup x=some .local∨sc.names.lookup x=some .cell∨sc.names.lookup x=some .free
def Loc (sc:Scope) (x:Str):Prop:=sc.names.lookup x=some .local∨sc.names.lookup x=some .cell
def Look (env:Env) (h:Heap) (m:Str→Option Value) (x:Str) (u:Value):Prop:=
 (env.kindOf x=some .local∧m x=some u)∨((env.kindOf x=some .cell∨env.kindOf x=some .free)∧∃ c,env.cells.lookup x=some c∧h.IsCell c (some u))
structure Cx.Ok (X:Cx):Prop where
 mod:Mod X.K X.mg X.base
 kind:X.env.scope.kind=.function
 glob:X.env.globals=mainGlobals
 blt:X.env.builtins=builtinsNs
 above:X.s₀.heap.objs.size≤X.env.locals
 inj:∀ x y c,X.env.cells.lookup x=some c→X.env.cells.lookup y=some c→x=y
 has:∀ x,(X.env.kindOf x=some .cell∨X.env.kindOf x=some .free)→∃ c,X.env.cells.lookup x=some c
 cab:∀ x c,X.fn x=true→X.env.cells.lookup x=some c→X.s₀.heap.objs.size≤c
 hd:X.calm=true→X.A.handled=none
 frames:X.A.frames=some X.stack
 stk:X.stack=X.outer∨(X.stack=X.env :: X.outer∧X.env.frame=some X.env.locals)
 exf:∀ b∈X.ex,b≠X.env.locals∧∀ x c,X.env.cells.lookup x=some c→c≠b
 bs:∀ b o,X.base.get? b=some o→X.s₀.heap.get? b=some o∧X.H₀ b=none
 bsz:X.base.objs.size≤X.s₀.heap.objs.size
 noex:∀ b o,X.base.get? b=some o→b∉X.ex
 exfs:∀ b∈X.ex,b∉X.fs
 funs:X.s₀.heap.FunFrames X.base X.outer
 frf:∀ b∈X.fs,X.H₀ b=none
structure Inv (X:Cx) (pins:List (Addr×Obj)) (σ:List (Option V)) (H:Hp) (s:Shared):Prop where
 ok:X.Ok
 os:s.os=X.s₀.os
 bare:AllBare s.gens
 base:Un X.fs X.ex X.H₀ H X.s₀.heap s.heap
 loc:∃ m,s.heap.Ns X.env.locals m∧∀ (i:Nat) (x:Str) (v:V),X.N[i]? = some x→σ[i]? = some (some v)→Vis X.env.scope x→∃ u,RelV v u∧Look X.env s.heap m x u
 cell:∀ x c,X.env.cells.lookup x=some c→∃ v,s.heap.IsCell c v
 free:H X.env.locals=none
 freeC:∀ x c,X.env.cells.lookup x=some c→H c=none
 pin:∀ p∈X.pn ++ pins,s.heap.get? p.1=some p.2∧H p.1=none∧p.1≠X.env.locals∧p.1∉X.fs∧∀ v,p.2.data≠.cell v
 hok:HOk X.prog X.w H s.heap
 len:σ.length=X.N.length
section
variable {X:Cx} {pins:List (Addr×Obj)} {σ:List (Option V)} {H H':Hp} {s:Shared} {h':Heap}
theorem Cx.Ok.nofr (ok:X.Ok) {b:Addr} {o:Obj} (e:X.base.get? b=some o):b∉X.fs:=fun hb=>by
 have:=(ok.funs.mem hb).1
 rw [e] at this;cases this
theorem Inv.bs (I:Inv X pins σ H s):∀ b o,X.base.get? b=some o→s.heap.get? b=some o∧H b=none:=fun b o e =>
 ⟨I.base.keep b o (I.ok.bs b o e).1 (I.ok.bs b o e).2 (I.ok.nofr e) (I.ok.noex b o e),I.base.free b o (I.ok.bs b o e).1 (I.ok.bs b o e).2 (I.ok.noex b o e)⟩
theorem Inv.bk (I:Inv X pins σ H s):∀ b o,X.base.get? b=some o→s.heap.get? b=some o:=fun b o e=>(I.bs b o e).1
theorem Inv.mod (I:Inv X pins σ H s):Mod X.K X.mg X.base:=I.ok.mod
theorem Inv.kIn (I:Inv X pins σ H s):X.K.In s.heap:=I.ok.mod.kin.keeps I.bk
theorem Inv.lt (I:Inv X pins σ H s):X.env.locals < s.heap.objs.size:=let ⟨_,hn,_⟩:=I.loc;hn.lt
theorem Inv.sz (I:Inv X pins σ H s):X.s₀.heap.objs.size≤s.heap.objs.size:=Nat.le_trans I.ok.above (Nat.le_of_lt I.lt)
theorem Inv.nofs (I:Inv X pins σ H s) {a:Addr} (h:s.heap.objs.size≤a):a∉X.fs:=fun hb=>by
 obtain⟨_,o,ho,_⟩:=I.ok.funs.mem hb
 exact absurd (Nat.lt_of_lt_of_le (Heap.lt_size ho) (Nat.le_trans I.sz h)) (Nat.lt_irrefl _)
theorem Inv.cne (I:Inv X pins σ H s):∀ x c,X.env.cells.lookup x=some c→c≠X.env.locals:=fun x c e z=>by
 obtain⟨v,o,ho,hd⟩:=I.cell x c e
 obtain⟨m,⟨o',es,ep,ho',hd',_⟩,_⟩:=I.loc
 rw [z,ho'] at ho;cases ho;rw [hd'] at hd;cases hd
theorem Inv.funs (I:Inv X pins σ H s):s.heap.FunFrames X.base X.outer:=by
 have all:∀ (l:List Env),(∀ b∈frs l,b∈X.fs)→X.s₀.heap.FunFrames X.base l→s.heap.FunFrames X.base l:=by
  intro l
  induction l with
  | nil=>intro _ _;trivial
  | cons env r ih =>
   intro hs hl
   obtain⟨hk,⟨L,o,hf,hn,ho,hd⟩,hr⟩:=hl
   have hL:L∈X.fs:=hs L (by unfold frs;rw [List.filterMap_cons,hf];exact List.mem_cons_self)
   obtain⟨sl,e⟩:=I.base.slot L o ho (I.ok.frf L hL) hL fun z=>I.ok.exfs L z hL
   exact⟨hk,⟨L,_,hf,hn,e,hd⟩,ih (fun b hb=>hs b (by unfold frs;rw [List.filterMap_cons,hf];exact List.mem_cons_of_mem _ hb)) hr⟩
 exact all X.outer (fun _ hb=>hb) I.ok.funs
theorem Inv.stack (I:Inv X pins σ H s):s.heap.FunFrames X.base X.stack:=by
 rcases I.ok.stk with e | ⟨e,hf⟩
 ·rw [e];exact I.funs
 ·rw [e]
  obtain⟨m,hn,_⟩:=I.loc
  refine .cons (by rw [I.ok.kind];decide) hf hn ?_ I.funs
  exact Heap.get?_none_of_le (Nat.le_trans I.ok.bsz I.ok.above)
theorem Inv.stkSub (I:Inv X pins σ H s):∀ b∈frs X.stack,b∈X.env.locals :: X.fs:=fun b hb=>by
 rcases I.ok.stk with e | ⟨e,hf⟩
 ·rw [e] at hb;exact List.mem_cons_of_mem _ hb
 ·rw [e] at hb
  unfold frs at hb
  rw [List.filterMap_cons,hf] at hb
  exact hb
theorem Inv.stkFree (I:Inv X pins σ H s):∀ b∈frs X.stack,H b=none:=fun b hb=>by
 rcases List.mem_cons.mp (I.stkSub b hb) with e | hb
 ·rw [e];exact I.free
 ·obtain⟨_,o,ho,_⟩:=I.ok.funs.mem hb
  exact I.base.free b o ho (I.ok.frf b hb) fun z=>I.ok.exfs b z hb
theorem Inv.step {g':Array GenState} {t':Nat} {d':Drawn} {ch:List Addr} (I:Inv X pins σ H s)
  (hch:∀ b∈ch,(b∈X.ex∨X.s₀.heap.objs.size≤b)∧b≠X.env.locals∧(∀ x c,X.env.cells.lookup x=some c→c≠b)∧∀ p∈X.pn ++ pins,p.1≠b)
  (keep:∀ b o,b≠X.env.locals→b∉X.fs→b∉ch→s.heap.get? b=some o→H b=none→h'.get? b=some o)
  (slot:∀ b o,b≠X.env.locals→b∈X.fs→b∉ch→s.heap.get? b=some o→H b=none→∃ sl,h'.get? b=some { o with slots:=sl }) (free:∀ b o,b∉ch→s.heap.get? b=some o→H b=none→H' b=none)
  (there:∀ b o,b∉ch→s.heap.get? b=some o→∃ o',h'.get? b=some o')
  (tups:∀ b xs,H b=some (.tup xs)→H' b=some (.tup xs)) (frzs:∀ b o u,H b=some (.frz o u)→H' b=some (.frz o u)) (tbls:∀ b ps,H b=some (.tbl ps)→∃ more,H' b=some (.tbl (ps ++ more)))
  (ns:∀ m,s.heap.Ns X.env.locals m→h'.Ns X.env.locals m) (hok:HOk X.prog X.w H' h') (hg:AllBare g') :
  Inv X pins σ H' { s with heap:=h',gens:=g',drawn:=d',toks:=t' }:=by
 have neL:∀ b o,X.s₀.heap.get? b=some o→b≠X.env.locals:=fun b o e=>Nat.ne_of_lt (Nat.lt_of_lt_of_le (Heap.lt_size e) I.ok.above)
 have neC:∀ b o,X.s₀.heap.get? b=some o→b∉X.ex→b∉ch:=fun b o e hx hb=>by
  rcases (hch b hb).1 with z | z
  ·exact hx z
  ·exact absurd (Nat.lt_of_lt_of_le (Heap.lt_size e) z) (Nat.lt_irrefl _)
 have cellK:∀ x c,X.env.cells.lookup x=some c→∀ v,s.heap.IsCell c v→h'.IsCell c v:=fun x c e v ⟨o,ho,hd⟩=>by
  have nch:c∉ch:=fun z=>(hch c z).2.2.1 x c e rfl
  by_cases hc:c∈X.fs
  ·obtain⟨sl,q⟩:=slot c o (I.cne x c e) hc nch ho (I.freeC x c e)
   exact⟨_,q,hd⟩
  ·exact⟨o,keep c o (I.cne x c e) hc nch ho (I.freeC x c e),hd⟩
 refine ⟨I.ok,I.os,hg,⟨fun b o e n hb hx=>?_,fun b o e n hb hx=>?_,fun b o e n hx=>?_,fun b o e hx=>?_,fun b xs e=>tups b xs (I.base.tups b xs e),fun b o xs e=>frzs b o xs (I.base.frzs b o xs e),fun b ps e=>?_⟩,?_,fun x c e=>?_,?_,fun x c e=>?_,fun p hp=>?_,hok,I.len⟩
 ·exact keep b o (neL b o e) hb (neC b o e hx) (I.base.keep b o e n hb hx) (I.base.free b o e n hx)
 ·obtain⟨sl,e1⟩:=I.base.slot b o e n hb hx
  obtain⟨sl',e2⟩:=slot b _ (neL b o e) hb (neC b o e hx) e1 (I.base.free b o e n hx)
  exact⟨sl',e2⟩
 ·obtain⟨o',e1⟩:=I.base.there b o e hx
  exact free b o' (neC b o e hx) e1 (I.base.free b o e n hx)
 ·obtain⟨o',e1⟩:=I.base.there b o e hx
  exact there b o' (neC b o e hx) e1
 ·obtain⟨m1,e1⟩:=I.base.tbls b ps e
  obtain⟨m2,e2⟩:=tbls b _ e1
  exact⟨m1 ++ m2,by rw [e2,Array.append_assoc]⟩
 ·obtain⟨m,hn,hl⟩:=I.loc
  refine ⟨m,ns m hn,fun i x v e1 e2 e3=>?_⟩
  obtain⟨u,r,l⟩:=hl i x v e1 e2 e3
  refine ⟨u,r,?_⟩
  rcases l with l | ⟨k,c,e,z⟩
  ·exact .inl l
  ·exact .inr ⟨k,c,e,cellK x c e _ z⟩
 ·obtain⟨v,z⟩:=I.cell x c e
  exact⟨v,cellK x c e v z⟩
 ·obtain⟨m,⟨o,_,_,ho,_⟩,_⟩:=I.loc
  exact free _ o (fun z=>(hch _ z).2.1 rfl) ho I.free
 ·obtain⟨v,o,ho,hd⟩:=I.cell x c e
  exact free c o (fun z=>(hch c z).2.2.1 x c e rfl) ho (I.freeC x c e)
 ·obtain⟨e,n,ne,nf,d⟩:=I.pin p hp
  have nch:p.1∉ch:=fun z=>(hch p.1 z).2.2.2 p hp rfl
  exact⟨keep p.1 p.2 ne nf nch e n,free p.1 p.2 nch e n,ne,nf,d⟩
theorem Inv.un {t':Nat} (I:Inv X pins σ H s) (u:Un X.fs [] H H' s.heap h') (hok:HOk X.prog X.w H' h'):Inv X pins σ H' { s with heap:=h',toks:=t' }:=by
 obtain⟨m,⟨o,es,ep,ho,r⟩,_⟩:=id I.loc
 obtain⟨sl,hL⟩:=u.any ho I.free (by simp)
 exact I.step (g':=s.gens) (d':=s.drawn) (ch:=[]) (fun _ z=>nomatch z) (fun b o _ hb _ e n=>u.keep b o e n hb (by simp)) (fun b o _ hb _ e n=>u.slot b o e n hb (by simp)) (fun b o _ e n=>u.free b o e n (by simp)) (fun b o _ e=>u.there b o e (by simp)) u.tups u.frzs u.tbls (fun m' hm=>by
  obtain⟨o',es',ep',ho',r'⟩:=hm
  rw [ho] at ho';cases ho'
  exact⟨_,es',ep',hL,r'⟩) hok I.bare
theorem Inv.call {g':Array GenState} {t':Nat} {d':Drawn} {ch:List Addr} (I:Inv X pins σ H s) (u:Un (frs X.stack) ch H H' s.heap h') (hok:HOk X.prog X.w H' h') (hg:AllBare g')
  (hch:∀ b∈ch,(b∈X.ex∨X.s₀.heap.objs.size≤b)∧b≠X.env.locals∧(∀ x c,X.env.cells.lookup x=some c→c≠b)∧∀ p∈X.pn ++ pins,p.1≠b) :
  Inv X pins σ H' { s with heap:=h',gens:=g',drawn:=d',toks:=t' }:=by
 obtain⟨m,⟨o,es,ep,ho,r⟩,_⟩:=id I.loc
 obtain⟨sl,hL⟩:=u.any ho I.free fun z=>(hch _ z).2.1 rfl
 exact I.step (ch:=ch) hch (fun b o hL hb hc e n=>u.keep b o e n (fun z=>(List.mem_cons.mp (I.stkSub b z)).elim hL hb) hc) (fun b o _ _ hc e n=>u.any e n hc) (fun b o hc e n=>u.free b o e n hc) (fun b o hc e=>u.there b o e hc) u.tups u.frzs u.tbls (fun m' hm=>by
  obtain⟨o',es',ep',ho',r'⟩:=hm
  rw [ho] at ho';cases ho'
  exact⟨_,es',ep',hL,r'⟩) hok hg
theorem Inv.turned {t':Nat} {it:Addr} (I:Inv X pins σ H s) (k:∀ b o,b≠it→s.heap.get? b=some o→h'.get? b=some o) (hn:H it=none) (hL:it≠X.env.locals)
  (h1:it∈X.ex∨X.s₀.heap.objs.size≤it) (h2:∀ x c,X.env.cells.lookup x=some c→c≠it) (h3:∀ p∈X.pn ++ pins,p.1≠it):Inv X pins σ H { s with heap:=h',toks:=t' }:=by
 have nit:∀ b u,H b=some u→b≠it:=fun b u e z=>by rw [z,hn] at e;cases e
 refine I.step (g':=s.gens) (d':=s.drawn) (ch:=[it]) (fun b hb=>?_) (fun b o _ _ hc e _=>k b o (fun z=>hc (by simp [z])) e) (fun b o _ _ hc e _=>⟨o.slots,k b o (fun z=>hc (by simp [z])) e⟩) (fun _ _ _ _ n=>n)
  (fun b o hc e=>⟨o,k b o (fun z=>hc (by simp [z])) e⟩) (fun _ _ e=>e) (fun _ _ _ e=>e) (fun b ps e=>⟨#[],by rw [e];simp⟩) (fun m hm=>?_) (fun b u e=>?_) I.bare
 ·have e:b=it:=by simpa using hb
  subst e
  exact⟨h1,hL,h2,h3⟩
 ·obtain⟨o,es,ep,ho,r⟩:=hm
  exact⟨o,es,ep,k _ o (Ne.symm hL) ho,r⟩
 ·refine (I.hok b u e).stay (fun c v hc q=>k c v ?_ q) (fun _ q=>q) fun _ _ q=>q
  rcases hc with z | z
  ·rw [z];exact nit b u e
  ·exact nit c _ z
theorem Inv.tok (I:Inv X pins σ H s) (t:Nat):Inv X pins σ H { s with toks:=t }:=I.un (h':=s.heap) (t':=t) Un.refl I.hok
theorem Inv.kept {t':Nat} (I:Inv X pins σ H s) (k:∀ b u,s.heap.get? b=some u→h'.get? b=some u):Inv X pins σ H { s with heap:=h',toks:=t' }:=I.un (Un.kept k) (I.hok.kept k)
theorem Inv.laid {a:Addr} {o:HO} {t':Nat} (I:Inv X pins σ H s) (k:∀ b u,s.heap.get? b=some u→h'.get? b=some u) (hp:s.heap.objs.size≤a) (new:zbS X.prog X.w (upd H a o) h' a o) :
  Inv X pins σ (upd H a o) { s with heap:=h',toks:=t' }:=I.un (Un.laid k hp (I.hok.fresh hp)) (I.hok.laid k hp new)
theorem Inv.write {x e:Addr} {o:HO} {t':Nat} (I:Inv X pins σ H s) (mu:Mut (H x)) (he:e=x∨H e=some (.own x)) (k:∀ b u,b≠e→s.heap.get? b=some u→h'.get? b=some u) (heo:∃ u,h'.get? e=some u)
  (new:zbS X.prog X.w (upd H x o) h' x o):Inv X pins σ (upd H x o) { s with heap:=h',toks:=t' }:=I.un (Un.write mu he k heo) (I.hok.write mu he k heo new)
theorem Inv.pins_of {pins':List (Addr×Obj)} (I:Inv X pins σ H s) (h:∀ p∈pins',s.heap.get? p.1=some p.2∧H p.1=none∧p.1≠X.env.locals∧p.1∉X.fs∧∀ v,p.2.data≠.cell v):Inv X pins' σ H s:=
 ⟨I.ok,I.os,I.bare,I.base,I.loc,I.cell,I.free,I.freeC,fun p hp=>(List.mem_append.mp hp).elim (fun z=>I.pin p (List.mem_append_left _ z)) (h p),I.hok,I.len⟩
theorem zil {N:List Str} (hN:N.Nodup) {i j:Nat} {x:Str} (a:N[i]? = some x) (b:N[j]? = some x):i=j:=by
 obtain⟨h1,e1⟩:=List.getElem?_eq_some_iff.mp a
 obtain⟨h2,e2⟩:=List.getElem?_eq_some_iff.mp b
 exact (List.getElem_inj hN).mp (e1.trans e2.symm)
theorem zjS {M:Model} {A:Around} {E:Value→Shared→Prop} {i:Nat} {x:Str} {v:V} {u:Value} {Q:Unit→Shared→Prop} (I:Inv X pins σ H s) (hN:X.N.Nodup) (hi:X.N[i]? = some x) (hx:Loc X.env.scope x) (r:RelV v u)
  (h:∀ s',Inv X pins (σ.set i (some v)) H s'→(∃ a,Heap.SameBut a s.heap s'.heap∧(a=X.env.locals∨X.env.cells.lookup x=some a))→Q () s') (hf:X.fn x=true∨X.env.scope.names.lookup x=some .local:=by first | exact .inl rfl | exact .inr rfl | assumption):wpAny M A (storeName X.env x u) Q E s:=by
 obtain⟨m,hn,hl⟩:=id I.loc
 have hcls:(X.env.scope.kind == .class || (X.env.scope.kind == .module && X.env.locals != X.env.globals))=false:=by rw [I.ok.kind];rfl
 have hiσ:i < σ.length:=by rw [I.len];exact (List.getElem?_eq_some_iff.mp hi).1
 have cne:=I.cne
 have tracked:∀ {a:Addr} {h':Heap},(∃ o,s.heap.get? a=some o∧H a=none)→Heap.SameBut a s.heap h'→HOk X.prog X.w H h':=fun {a h'} ha hs b ob e=>by
  obtain⟨_,_,hfree⟩:=ha
  refine (I.hok b ob e).stay (fun c w' hc q=>(hs.2 c ?_).trans q) (fun _ q=>q) fun _ _ q=>q
  rintro rfl
  rcases hc with rfl | hc
  ·rw [hfree] at e;cases e
  ·rw [hfree] at hc;cases hc
 rcases hx with hk | hk
 ·refine wpAny_storeName_local hk hn (fun h' hn' hs=>?_) hcls
  obtain⟨oL,_,_,hoL,_⟩:=id hn
  refine h _ ⟨I.ok,I.os,I.bare,⟨fun b o e n hb hx=>?_,fun b o e n hb hx=>?_,I.base.free,fun b o e hx=>?_,I.base.tups,I.base.frzs,I.base.tbls⟩,⟨_,hn',fun j y v' e1 e2 e3=>?_⟩,fun y c e=>?_,I.free,I.freeC,fun p hp=>?_,tracked ⟨oL,hoL,I.free⟩ hs,by simpa using I.len⟩ ⟨_,hs,.inl rfl⟩
  ·exact (hs.2 b (Nat.ne_of_lt (Nat.lt_of_lt_of_le (Heap.lt_size e) I.ok.above))).trans (I.base.keep b o e n hb hx)
  ·obtain⟨sl,e1⟩:=I.base.slot b o e n hb hx
   exact⟨sl,(hs.2 b (Nat.ne_of_lt (Nat.lt_of_lt_of_le (Heap.lt_size e) I.ok.above))).trans e1⟩
  ·obtain⟨o',e1⟩:=I.base.there b o e hx
   exact⟨o',(hs.2 b (Nat.ne_of_lt (Nat.lt_of_lt_of_le (Heap.lt_size e) I.ok.above))).trans e1⟩
  ·by_cases hj:j=i
   ·subst hj
    rw [hi] at e1;cases e1
    rw [List.getElem?_set_self hiσ] at e2
    cases e2
    exact⟨u,r,.inl ⟨hk,by simp⟩⟩
   ·rw [List.getElem?_set_ne (Ne.symm hj)] at e2
    obtain⟨u',r',q⟩:=hl j y v' e1 e2 e3
    refine ⟨u',r',?_⟩
    rcases q with ⟨k,e⟩ | ⟨k,c,e,z⟩
    ·refine .inl ⟨k,?_⟩
     have:y≠x:=fun e=>hj (zil hN e1 (e ▸ hi))
     simp [this,e]
    ·exact .inr ⟨k,c,e,z.sameBut hs (cne y c e)⟩
  ·obtain⟨w',z⟩:=I.cell y c e
   exact⟨w',z.sameBut hs (cne y c e)⟩
  ·obtain⟨e,n,ne,nf,d⟩:=I.pin p hp
   exact⟨(hs.2 p.1 ne).trans e,n,ne,nf,d⟩
 ·have hfn:X.fn x=true:=by
   rcases hf with z | z
   ·exact z
   ·rw [z] at hk;cases hk
  obtain⟨c,hc⟩:=I.ok.has x (.inl hk)
  obtain⟨w',z⟩:=I.cell x c hc
  refine wpAny_storeName_cell I.ok.kind hk hc z (fun h' hc' hs=>?_)
  obtain⟨oc,hoc,hocd⟩:=id z
  refine h { s with heap:=h' } ⟨I.ok,I.os,I.bare,⟨fun b o e n hb hx=>?_,fun b o e n hb hx=>?_,I.base.free,fun b o e hx=>?_,I.base.tups,I.base.frzs,I.base.tbls⟩,⟨m,hn.sameBut hs (Ne.symm (cne x c hc)),fun j y v' e1 e2 e3=>?_⟩,fun y c' e=>?_,I.free,I.freeC,fun p hp=>?_,tracked ⟨oc,hoc,I.freeC x c hc⟩ hs,by simpa using I.len⟩ ⟨c,hs,.inr hc⟩
  ·exact (hs.2 b (Nat.ne_of_lt (Nat.lt_of_lt_of_le (Heap.lt_size e) (I.ok.cab x c hfn hc)))).trans (I.base.keep b o e n hb hx)
  ·obtain⟨sl,e1⟩:=I.base.slot b o e n hb hx
   exact⟨sl,(hs.2 b (Nat.ne_of_lt (Nat.lt_of_lt_of_le (Heap.lt_size e) (I.ok.cab x c hfn hc)))).trans e1⟩
  ·obtain⟨o',e1⟩:=I.base.there b o e hx
   exact⟨o',(hs.2 b (Nat.ne_of_lt (Nat.lt_of_lt_of_le (Heap.lt_size e) (I.ok.cab x c hfn hc)))).trans e1⟩
  ·by_cases hj:j=i
   ·subst hj
    rw [hi] at e1;cases e1
    rw [List.getElem?_set_self hiσ] at e2
    cases e2
    exact⟨u,r,.inr ⟨.inl hk,c,hc,hc'⟩⟩
   ·rw [List.getElem?_set_ne (Ne.symm hj)] at e2
    obtain⟨u',r',q⟩:=hl j y v' e1 e2 e3
    refine ⟨u',r',?_⟩
    rcases q with q | ⟨k,c',e,z'⟩
    ·exact .inl q
    ·refine .inr ⟨k,c',e,z'.sameBut hs ?_⟩
     rintro rfl
     exact hj (zil hN e1 (I.ok.inj _ _ _ e hc ▸ hi))
  ·by_cases hcc:c'=c
   ·subst hcc;exact⟨_,hc'⟩
   ·obtain⟨w2,z2⟩:=I.cell y c' e
    exact⟨w2,z2.sameBut hs hcc⟩
  ·obtain⟨e,n,ne,nf,d⟩:=I.pin p hp
   refine ⟨(hs.2 p.1 ?_).trans e,n,ne,nf,d⟩
   intro q
   rw [q,hoc] at e
   have q':oc=p.2:=Option.some.inj e
   exact d w' (by rw [← q'];exact hocd)
theorem zdT {M:Model} {A:Around} {E:Value→Shared→Prop} {i:Nat} {x:Str} {v:V} {u:Value} {Q:Unit→Shared→Prop} (I:Inv X pins σ H s) (hN:X.N.Nodup) (hi:X.N[i]? = some x) (hx:Loc X.env.scope x) (r:RelV v u)
  (h:∀ s',Inv X pins (σ.set i (some v)) H s'→Q () s') (hf:X.fn x=true∨X.env.scope.names.lookup x=some .local:=by first | exact .inl rfl | exact .inr rfl | assumption):wpAny M A (storeName X.env x u) Q E s:=
 zjS I hN hi hx r (fun s' I' _=>h s' I') hf
theorem Inv.call' {s':Shared} {ch:List Addr} (I:Inv X pins σ H s) (ho:s'.os=s.os) (u:Un (frs X.stack) ch H H' s.heap s'.heap) (hok:HOk X.prog X.w H' s'.heap) (hg:AllBare s'.gens)
  (hch:∀ b∈ch,(b∈X.ex∨X.s₀.heap.objs.size≤b)∧b≠X.env.locals∧(∀ x c,X.env.cells.lookup x=some c→c≠b)∧∀ p∈X.pn ++ pins,p.1≠b):Inv X pins σ H' s':=by
 obtain⟨h',g',d',t',o'⟩:=s'
 have e:o'=s.os:=ho
 subst e
 exact I.call (g':=g') (t':=t') (d':=d') u hok hg hch
end
noncomputable abbrev XK:=Value→Option Addr→Hp→Prop
noncomputable abbrev St:=List (Option V)
noncomputable abbrev VK:=V→Hp→Prop
noncomputable abbrev TE:=St→Hp→VK→Prop
noncomputable abbrev TT:=St→Hp→(Bool→Hp→Prop)→Prop
noncomputable abbrev TA:=St→Hp→(List V→Hp→Prop)→Prop
structure Ends where
 nx:St→Hp→Prop
 rt:VK
 bk:St→Hp→Prop:=fun _ _=>False
 ct:St→Hp→Prop:=fun _ _=>False
noncomputable abbrev TS:=Ends→St→Hp→Prop
def EP (X:Cx) (pins:List (Addr×Obj)) (σ:St) (Q:VK) (u:Value) (s':Shared):Prop:=∃ v H',Inv X pins σ H' s'∧RelV v u∧Q v H'
def TP (X:Cx) (pins:List (Addr×Obj)) (σ:St) (Q:Bool→Hp→Prop) (b:Bool) (s':Shared):Prop:=∃ H',Inv X pins σ H' s'∧Q b H'
def AP (X:Cx) (pins:List (Addr×Obj)) (σ:St) (Q:List V→Hp→Prop) (us:List Value) (s':Shared):Prop:=∃ vs H',Inv X pins σ H' s'∧Vals vs us∧Q vs H'
def SP (X:Cx) (pins:List (Addr×Obj)) (D:Ends) (f:Flow) (s':Shared):Prop:=
 match f with
 | .next=>∃ σ' H',Inv X pins σ' H' s'∧D.nx σ' H'
 | .brk=>∃ σ' H',Inv X pins σ' H' s'∧D.bk σ' H'
 | .cont=>∃ σ' H',Inv X pins σ' H' s'∧D.ct σ' H'
 | .ret u=>∃ v σ' H',Inv X pins σ' H' s'∧RelV v u∧D.rt v H'
def PE (X:Cx) (e:Expr) (t:TE):Prop:=
 ∀ (pins:List (Addr×Obj)) (s:Shared) (σ:St) (H:Hp) (Q:VK),Inv X pins σ H s→t σ H Q→wpAny (model X.prog X.w) X.A (eval e X.env) (EP X pins σ Q) X.xe s
def PT (X:Cx) (e:Expr) (t:TT):Prop:=
 ∀ (pins:List (Addr×Obj)) (s:Shared) (σ:St) (H:Hp) (Q:Bool→Hp→Prop),Inv X pins σ H s→t σ H Q→wpAny (model X.prog X.w) X.A (isTrue e X.env (eval e X.env)) (TP X pins σ Q) X.xe s
def PW (X:Cx) (e:Expr) (t:TT):Prop:=
 ∀ (whole:Sem Value) (pins:List (Addr×Obj)) (s:Shared) (σ:St) (H:Hp) (Q:Bool→Hp→Prop),Inv X pins σ H s→t σ H Q→wpAny (model X.prog X.w) X.A (isTrue e X.env whole) (TP X pins σ Q) X.xe s
theorem PW.pt {X:Cx} {e:Expr} {t:TT} (h:PW X e t):PT X e t:=h _
def PA (X:Cx) (es:List Expr) (t:TA):Prop:=
 ∀ (pos:Pos) (pins:List (Addr×Obj)) (s:Shared) (σ:St) (H:Hp) (Q:List V→Hp→Prop),Inv X pins σ H s→t σ H Q→wpAny (model X.prog X.w) X.A (spliced (backTo pos (starEach es X.env))) (AP X pins σ Q) X.xe s
def PS (X:Cx) (st:Stmt) (t:TS):Prop:=
 ∀ (pins:List (Addr×Obj)) (s:Shared) (σ:St) (H:Hp) (D:Ends),Inv X pins σ H s→t D σ H→wpAny (model X.prog X.w) X.A (exec st X.env) (SP X pins D) X.xe s
def PSs (X:Cx) (st:List Stmt) (t:TS):Prop:=
 ∀ (pins:List (Addr×Obj)) (s:Shared) (σ:St) (H:Hp) (D:Ends),Inv X pins σ H s→t D σ H→wpAny (model X.prog X.w) X.A (execs st X.env) (SP X pins D) X.xe s
theorem thn {α:Type} {t:Sem α} {Q Q':α→Shared→Prop} {M:Model} {A:Around} {E:Value→Shared→Prop} {s:Shared} (h:wpAny M A t Q E s) (hQ:∀ a s,Q a s→Q' a s):wpAny M A t Q' E s:=wpAny_mono h hQ fun _ _ x=>x
end L2
namespace L2
open PySem PySem.Spec PyProof.Rows
section
variable {X:Cx}
def tVar (i:Nat):TE:=fun σ H Q=>∃ v,σ[i]? = some (some v)∧Q v H
def tC (v:V):TE:=fun _ H Q=>Q v H
theorem zo1 {i:Nat} {x:Str} {pos:Pos} (hN:X.N[i]? = some x) (hv:Vis X.env.scope x) (hd:(x == ("__debug__" : Str))=false:=by decide) (hcd:(x == ("__classdict__" : Str))=false:=by decide):PE X (.Name x pos) (tVar i):=by
 intro pins s σ H Q I h
 obtain⟨v,e,h⟩:=h
 obtain⟨m,hn,hl⟩:=I.loc
 obtain⟨u,r,l⟩:=hl i x v hN e hv
 have fin:EP X pins σ Q u s:=⟨v,H,I,r,h⟩
 rcases l with ⟨hk,hm⟩ | ⟨hk,c,hc,hcell⟩
 ·exact wpAny_Name (wpAny_loadName_local I.ok.kind hk hn hm fin) hd
 ·rcases hk with hk | hk
  ·exact wpAny_Name (wpAny_loadName_cell I.ok.kind hk hc hcell fin) hd
  ·exact wpAny_Name (wpAny_loadName_free I.ok.kind hk hc hcell fin hcd) hd
theorem zgc {i j pos}:PE X (.Constant (.int i) j pos) (tC (.int i)):=fun _ _ _ H _ I h=>wpAny_Constant_int ⟨.int i,H,I.tok _,⟨_,rfl⟩,h⟩
theorem zqO {b j pos}:PE X (.Constant (.bool b) j pos) (tC (.bl b)):=fun _ _ _ H _ I h=>Constant_bool ⟨.bl b,H,I,rfl,h⟩
theorem zo2 {x j pos}:PE X (.Constant (.str x) j pos) (tC (.str x)):=fun _ _ _ H _ I h=>Calls.Constant_str ⟨.str x,H,I.tok _,⟨_,rfl⟩,h⟩
def Gl (X:Cx) (x:Str):Prop:=X.env.kindOf x=some .globalImplicit
theorem zhf {E:Value→Shared→Prop} {pins:List (Addr×Obj)} {s:Shared} {σ:St} {H:Hp} {x:Str} {u:Value} {pos:Pos} {Q:Value→Shared→Prop} (I:Inv X pins σ H s) (hg:Gl X x) (hm:X.mg x=some u) (h:Q u s)
  (hd:(x == ("__debug__" : Str))=false:=by decide):wpAny (model X.prog X.w) X.A (eval (.Name x pos) X.env) Q E s:=
 Calls.Name_function_global I.ok.kind hg (Calls.loadGlobal_global (by rw [I.ok.glob];exact I.mod.glob.keeps I.bk) hm h) hd
theorem zdc {E:Value→Shared→Prop} {pins:List (Addr×Obj)} {s:Shared} {σ:St} {H:Hp} {x:Str} {u:Value} {pos:Pos} {Q:Value→Shared→Prop} (I:Inv X pins σ H s) (hg:Gl X x) (hm:X.mg x=none) (hv:bootBuiltins x=some u) (h:Q u s)
  (hn:x ≠ "__name__" := by decide) (hd:(x == ("__debug__" : Str))=false:=by decide):wpAny (model X.prog X.w) X.A (eval (.Name x pos) X.env) Q E s:=by
 obtain⟨mb,h1,h2⟩:=I.mod.blt
 exact Calls.Name_function_global I.ok.kind hg (Calls.loadGlobal_builtin (by rw [I.ok.glob];exact I.mod.glob.keeps I.bk) hm (by rw [I.ok.blt];exact h1.keeps I.bk) ((h2 x hn).trans hv) h) hd
theorem znt {x:Str} {v:V} {u:Value} {pos:Pos} (hg:Gl X x) (hm:X.mg x=some u) (r:RelV v u) (hd:(x == ("__debug__" : Str))=false:=by decide):PE X (.Name x pos) (tC v):=
 fun _ _ _ H _ I h=>zhf I hg hm ⟨v,H,I,r,h⟩ hd
theorem zee {x:Str} {v:V} {u:Value} {pos:Pos} (hg:Gl X x) (hm:X.mg x=none) (hv:bootBuiltins x=some u) (r:RelV v u) (hn:x ≠ "__name__" := by decide) (hd:(x == ("__debug__" : Str))=false:=by decide):PE X (.Name x pos) (tC v):=
 fun _ _ _ H _ I h=>zdc I hg hm hv ⟨v,H,I,r,h⟩ hn hd
variable {a b:Expr} {ta tb:TE} {pos:Pos}
def tB (t:TE):TT:=fun σ H Q=>t σ H fun x H1=>∃ c,x=.bl c∧Q c H1
theorem zoW {e:Expr} {t:TE} (h:PE X e t) (he:∀ whole,isTrue e X.env whole=(do let v ← whole;standAt e.pos;holding [v] (truthy v)):=by intro _;rfl):PT X e (tB t):=by
 intro pins s σ H Q I hw
 refine isTrue_plain (thn (h pins s σ H _ I hw) fun v s1 ⟨x,H1,I1,r1,q1⟩=>?_) (he _)
 obtain⟨d,rfl,q⟩:=q1
 cases r1
 exact wpAny_truthy_bool ⟨H1,I1,q⟩
variable {tA tB':TT} {rest:List Expr}
def tAnd (t u:TT):TT:=fun σ H Q=>t σ H fun c H1=>if c=true then u σ H1 Q else Q false H1
def tOr (t u:TT):TT:=fun σ H Q=>t σ H fun c H1=>if c=true then Q true H1 else u σ H1 Q
def tNot (t:TT):TT:=fun σ H Q=>t σ H fun c H1=>Q (!c) H1
theorem znn (ha:PT X a tA):PW X (.BoolOp .And [a] pos) tA:=by
 intro wh pins s σ H Q I h
 refine isTrue_and (thn (ha pins s σ H Q I h) fun c s1 e=>?_)
 cases c with
 | true=>exact isTrue_and_nil e
 | false=>exact e
theorem zoT (ha:PT X a tA):PW X (.BoolOp .Or [a] pos) tA:=by
 intro wh pins s σ H Q I h
 refine isTrue_or (thn (ha pins s σ H Q I h) fun c s1 e=>?_)
 cases c with
 | false=>exact isTrue_or_nil e
 | true=>exact e
theorem zoU (ha:PT X a tA) (hb:PW X (.BoolOp .And (b :: rest) pos) tB'):PW X (.BoolOp .And (a :: b :: rest) pos) (tAnd tA tB'):=by
 intro wh pins s σ H Q I h
 refine isTrue_and (thn (ha pins s σ H _ I h) fun c s1 ⟨H1,I1,q1⟩=>?_)
 cases c with
 | true=>exact hb wh pins s1 σ H1 Q I1 q1
 | false=>exact⟨H1,I1,q1⟩
theorem zqK (ha:PT X a tA) (hb:PW X (.BoolOp .Or (b :: rest) pos) tB'):PW X (.BoolOp .Or (a :: b :: rest) pos) (tOr tA tB'):=by
 intro wh pins s σ H Q I h
 refine isTrue_or (thn (ha pins s σ H _ I h) fun c s1 ⟨H1,I1,q1⟩=>?_)
 cases c with
 | true=>exact⟨H1,I1,q1⟩
 | false=>exact hb wh pins s1 σ H1 Q I1 q1
theorem zoX (ha:PT X a tA):PT X (.UnaryOp .Not a pos) (tNot tA):=by
 intro pins s σ H Q I h
 exact isTrue_not (ha pins s σ H (fun c H1=>Q (!c) H1) I h)
def zqx (ta tb:TE):TE:=fun σ H Q=>ta σ H fun x H1=>∃ c,x=.bl c∧if c=true then tb σ H1 Q else Q (.bl false) H1
def zqv (ta:TE):TE:=fun σ H Q=>ta σ H fun x H1=>∃ c,x=.bl c∧Q (.bl (!c)) H1
theorem zo3 {op} {t:TE} (h:PE X a t):PE X (.BoolOp op [a] pos) t:=fun pins s σ H Q I hw=>BoolOp_one (h pins s σ H Q I hw)
theorem zo6 (ha:PE X a ta) (hb:PE X (.BoolOp .And (b :: rest) pos) tb):PE X (.BoolOp .And (a :: b :: rest) pos) (zqx ta tb):=by
 intro pins s σ H Q I h
 refine BoolOp_and (thn (ha pins s σ H _ I h) fun v s1 ⟨x,H1,I1,r1,q1⟩=>?_)
 obtain⟨c,rfl,q1⟩:=q1
 cases r1
 refine wpAny_truthy_bool ?_
 cases c with
 | true=>exact hb pins s1 σ H1 Q I1 q1
 | false=>exact⟨.bl false,H1,I1,rfl,q1⟩
theorem zo4 (ha:PE X a ta):PE X (.UnaryOp .Not a pos) (zqv ta):=by
 intro pins s σ H Q I h
 refine UnaryOp_ (thn (ha pins s σ H _ I h) fun v s1 ⟨x,H1,I1,r1,q1⟩=>?_)
 obtain⟨c,rfl,q1⟩:=q1
 cases r1
 exact not_of (wpAny_truthy_bool ⟨.bl (!c),H1,I1,rfl,q1⟩)
end
end L2
namespace L2
open PySem PySem.Spec PyProof.Rows
def SqL (K:PySem.W.Frag) (H:Hp) (a:Addr) (xs:List V):Prop:=
 Rd H a (.lst xs) ∨
  ∃ (o:Obj) (its:Array Value) (n:Nat),K.lookup a=some o∧o.cls=.type "list" ∧ o.dict=none∧o.data=.seq its n∧its.size≤sizeLine∧Vals xs its.toList
def SqT (K:PySem.W.Frag) (H:Hp) (a:Addr) (xs:List V):Prop:=
 Rd H a (.tup xs) ∨
  ∃ (o:Obj) (its:Array Value) (n:Nat),K.lookup a=some o∧o.cls=.type "tuple" ∧ o.data=.seq its n∧its.size≤sizeLine∧Vals xs its.toList
noncomputable def absV:Value→Option V
 | .none=>some .non
 | .bool b=>some (.bl b)
 | .int i _=>some (.int i)
 | .str x _=>some (.str x)
 | .bytes b _=>some (.byt b)
 | .float b _=>some (.flt b)
 | .ref a=>some (.ref a)
 | .type n=>some (.ty n)
 | _=>none
theorem RelV.abs {x:V} {u:Value} (r:RelV x u):absV u=some x:=by
 cases x with
 | non=>cases r;rfl
 | bl _=>cases r;rfl
 | int _=>obtain⟨t,rfl⟩:=r;rfl
 | str _=>obtain⟨t,rfl⟩:=r;rfl
 | byt _=>obtain⟨t,rfl⟩:=r;rfl
 | flt _=>obtain⟨t,rfl⟩:=r;rfl
 | ref _=>cases r;rfl
 | ty _=>cases r;rfl
theorem RelV.inj {x y:V} {u:Value} (r:RelV x u) (q:RelV y u):x=y:=Option.some.inj (r.abs.symm.trans q.abs)
theorem Vals.inj:∀ {xs ys:List V} {us:List Value},Vals xs us→Vals ys us→xs=ys:=by
 intro xs ys us h
 induction h generalizing ys with
 | nil =>
  intro g
  cases g
  rfl
 | cons r t ih =>
  intro g
  cases g with
  | cons r' t'=>rw [r.inj r',ih t']
section
variable {X:Cx} {pins:List (Addr×Obj)} {σ:St} {H:Hp} {s:Shared} {a:Addr} {xs ys:List V}
theorem SqL.of {K:PySem.W.Frag} (h:H a=some (.lst xs)):SqL K H a xs:=.inl (.inl h)
theorem Inv.list (I:Inv X pins σ H s) (h:SqL X.K H a xs):∃ its:List Value,Vals xs its∧PlainL s.heap a its.toArray∧xs.length≤sizeLine:=by
 rcases h with h | ⟨o,its,n,hk,hc,hd,hs,hz,r⟩
 ·obtain⟨z,its,n,r,e⟩:=h.ok I.hok
  exact⟨its,r,⟨_,n,e,rfl,rfl,rfl⟩,z⟩
 ·refine ⟨its.toList,r,⟨o,n,I.kIn a o hk,hc,hd,by simpa using hs⟩,?_⟩
  have e:=r.length
  simp only [Array.length_toList] at e
  lia
theorem Inv.tuple (I:Inv X pins σ H s) (h:SqT X.K H a xs):∃ its:List Value,Vals xs its∧IsTup s.heap a its.toArray∧xs.length≤sizeLine:=by
 rcases h with h | ⟨o,its,n,hk,hc,hs,hz,r⟩
 ·obtain⟨z,its,r,p⟩:=h.ok I.hok
  exact⟨its,r,p,z⟩
 ·refine ⟨its.toList,r,⟨o,I.kIn a o hk,hc,n,by simpa using hs⟩,?_⟩
  have e:=r.length
  simp only [Array.length_toList] at e
  lia
theorem Inv.list_inj (I:Inv X pins σ H s) (h:SqL X.K H a xs) (h':SqL X.K H a ys):xs=ys:=by
 obtain⟨its,r,⟨o,n,e,_,_,d⟩,_⟩:=I.list h
 obtain⟨its',r',⟨o',n',e',_,_,d'⟩,_⟩:=I.list h'
 rw [e] at e';cases e'
 rw [d] at d'
 injection d' with d1 _
 have:its=its':=by simpa using congrArg Array.toList d1
 subst this
 exact r.inj r'
theorem Inv.tuple_inj (I:Inv X pins σ H s) (h:SqT X.K H a xs) (h':SqT X.K H a ys):xs=ys:=by
 obtain⟨its,r,⟨o,e,_,n,d⟩,_⟩:=I.tuple h
 obtain⟨its',r',⟨o',e',_,n',d'⟩,_⟩:=I.tuple h'
 rw [e] at e';cases e'
 rw [d] at d'
 injection d' with d1 _
 have:its=its':=by simpa using congrArg Array.toList d1
 subst this
 exact r.inj r'
end
section
variable {X:Cx} {pins:List (Addr×Obj)} {σ:St} {H:Hp} {s:Shared} {E:Value→Shared→Prop}
end
section
variable {X:Cx} {st:Stmt} {rest:List Stmt} {t u:TS} {e:Expr} {te:TE} {pos:Pos}
def zqw:TS:=fun D σ H=>D.nx σ H
def tSeq (t u:TS):TS:=fun D σ H=>t { D with nx:=u D } σ H
theorem znq:PSs X [] zqw:=fun _ _ σ H _ I h=>wpAny_execs_nil ⟨σ,H,I,h⟩
theorem zfA (h1:PS X st t) (h2:PSs X rest u):PSs X (st :: rest) (tSeq t u):=by
 intro pins s σ H D I h
 refine wpAny_execs_cons (thn (h1 pins s σ H { D with nx:=u D } I h) fun f s1 q=>?_)
 cases f with
 | next =>
  obtain⟨σ',H',I',q⟩:=q
  exact h2 pins s1 σ' H' D I' q
 | ret v=>exact q
 | brk=>exact q
 | cont=>exact q
theorem zfz (h1:PS X st t):PSs X [st] t:=by
 intro pins s σ H D I h
 refine wpAny_execs_cons (thn (h1 pins s σ H D I h) fun f s1 q=>?_)
 cases f with
 | next=>exact wpAny_execs_nil q
 | ret v=>exact q
 | brk=>exact q
 | cont=>exact q
theorem Inv.quiet {pins:List (Addr×Obj)} {σ:St} {H:Hp} {s:Shared} (I:Inv X pins σ H s):interactive X.env=false:=by simp [interactive,I.ok.kind]
def zoD (te:TE):TS:=fun D σ H=>te σ H fun _ H1=>D.nx σ H1
theorem zco (he:PE X e te) (hs:swapsWith e none pos.line X.env=pure false:=by rfl):PS X (.Expr e pos) (zoD te):=by
 intro pins s σ H D I h
 exact wpAny_Expr_any (thn (he pins s σ H _ I h) fun v s1 ⟨x,H1,I1,r1,q1⟩=>⟨σ,H1,I1,q1⟩) I.quiet hs
def tRet (te:TE):TS:=fun D σ H=>te σ H D.rt
theorem zkh (he:PE X e te):PS X (.Return (some e) pos) (tRet te):=by
 intro pins s σ H D I h
 exact wpAny_Return_some (thn (he pins s σ H _ I h) fun v s1 ⟨x,H1,I1,r1,q1⟩=>⟨x,σ,H1,I1,r1,q1⟩)
def tIfS (c:TT) (t u:TS):TS:=fun D σ H=>c σ H fun b H1=>if b=true then t D σ H1 else u D σ H1
theorem zqL {c:Expr} {a b:List Stmt} {tc:TT} (hc:PT X c tc) (ha:PSs X a t) (hb:PSs X b u):PS X (.If c a b pos) (tIfS tc t u):=by
 intro pins s σ H D I h
 refine wpAny_If (thn (hc pins s σ H _ I h) fun d s1 ⟨H1,I1,q1⟩=>?_)
 cases d with
 | true=>exact ha pins s1 σ H1 D I1 q1
 | false=>exact hb pins s1 σ H1 D I1 q1
end
noncomputable abbrev TG:=V→St→Hp→(St→Hp→Prop)→Prop
noncomputable abbrev TGs:=List V→St→Hp→(St→Hp→Prop)→Prop
def PG (X:Cx) (target:Expr) (t:TG):Prop:=
 ∀ (pins:List (Addr×Obj)) (s:Shared) (σ:St) (H:Hp) (v:V) (u:Value) (Q:St→Hp→Prop),Inv X pins σ H s→RelV v u→t v σ H Q →
  wpAny (model X.prog X.w) X.A (assign target X.env u) (fun _ s'=>∃ σ' H',Inv X pins σ' H' s'∧Q σ' H') X.xe s
def PGs (X:Cx) (ts:List Expr) (t:TGs):Prop:=
 ∀ (pins:List (Addr×Obj)) (s:Shared) (σ:St) (H:Hp) (vs:List V) (us:List Value) (Q:St→Hp→Prop),Inv X pins σ H s→Vals vs us→t vs σ H Q →
  wpAny (model X.prog X.w) X.A (assignInOrder ((assignEach ts X.env).map (·.2)) us) (fun _ s'=>∃ σ' H',Inv X pins σ' H' s'∧Q σ' H') X.xe s
noncomputable abbrev TSet:=V→V→V→Hp→(Hp→Prop)→Prop
def PSet (X:Cx) (t:TSet):Prop:=
 ∀ (pins:List (Addr×Obj)) (s:Shared) (σ:St) (H:Hp) (o i v:V) (ov iv u:Value) (Q:Hp→Prop),Inv X pins σ H s→RelV o ov→RelV i iv→RelV v u→t o i v H Q →
  wpAny (model X.prog X.w) X.A (setItem ov iv u) (fun _ s'=>∃ H',Inv X pins σ H' s'∧Q H') X.xe s
section
variable {X:Cx} {pos:Pos}
def zfN (i:Nat):TG:=fun v σ H Q=>Q (σ.set i (some v)) H
theorem zas {i:Nat} {x:Str} (hN:X.N.Nodup) (hi:X.N[i]? = some x) (hx:Loc X.env.scope x) (hf:X.fn x=true∨X.env.scope.names.lookup x=some .local:=by first | exact .inl rfl | exact .inr rfl | assumption):PG X (.Name x pos) (zfN i):=by
 intro pins s σ H v u Q I r h
 exact wpAny_assign_Name (zdT I hN hi hx r (fun s' I'=>⟨_,H,I',h⟩) hf)
def gNil:TGs:=fun vs σ H Q=>vs=[]∧Q σ H
def znS (t:TG) (u:TGs):TGs:=fun vs σ H Q=>∃ v r,vs=v :: r∧t v σ H fun σ' H'=>u r σ' H' Q
theorem zkk:PGs X [] gNil:=by
 intro pins s σ H vs us Q I r h
 obtain⟨e,h⟩:=h
 subst e
 cases r
 exact assignInOrder_nil ⟨σ,H,I,h⟩
theorem zdX {e:Expr} {es:List Expr} {t:TG} {u:TGs} (h1:PG X e t) (h2:PGs X es u)
  (hs:(assignEach (e :: es) X.env).map (·.2)=assign e X.env :: (assignEach es X.env).map (·.2):=by rfl):PGs X (e :: es) (znS t u):=by
 intro pins s σ H vs us Q I r h
 obtain⟨v,vr,e1,h⟩:=h
 subst e1
 cases r with
 | cons r rr =>
  rw [hs]
  refine assignInOrder_cons (thn (h1 pins s σ H _ _ _ I r h) fun _ s1 ⟨σ1,H1,I1,q1⟩=>?_)
  exact h2 pins s1 σ1 H1 _ _ Q I1 rr q1
def gTup (K:PySem.W.Frag) (n:Nat) (t:TGs):TG:=fun v σ H Q=>∃ a xs,v=.ref a∧SqT K H a xs∧xs.length=n∧t xs σ H Q
theorem zmz {es:List Expr} {k:Nat} {t:TGs} {n:Nat} (hc:X.calm=true) (h:PGs X es t)
  (hn:(assignEach es X.env).length=n:=by rfl) (hst:(assignEach es X.env).findIdx? (·.1)=none:=by rfl):PG X (.Tuple es k pos) (gTup X.K n t):=by
 intro pins s σ H v u Q I r hw
 obtain⟨a,xs,e1,hq,hl,hw⟩:=hw
 subst e1
 cases r
 obtain⟨its,rv,ht,hz⟩:=I.tuple hq
 refine assign_Tuple_tuple (I.ok.hd hc) ht (by simp [hn,← hl,rv.length]) hst fun h' hx=>?_
 have I1:Inv X pins σ H { s with heap:=h' }:=I.kept (t':=s.toks) fun b o e=>hx b o (Nat.ne_of_lt (Heap.lt_size e)) e
 exact h pins _ σ H xs _ Q I1 (by simpa using rv) hw
def gSub (to ti:TE) (t:TSet):TG:=fun v σ H Q=>to σ H fun o H1=>ti σ H1 fun i H2=>t o i v H2 fun H3=>Q σ H3
theorem zmA {o i:Expr} {to ti:TE} {t:TSet} (ho:PE X o to) (hi:PE X i ti) (hs:PSet X t)
  (ha:∀ v,assign (.Subscript o i pos) X.env v=(do
   let ov ← holding [v] (eval o X.env)
   let iv ← holding [v,ov] (eval i X.env)
   standAt pos
   holding [v,ov,iv] (setItem ov iv v)
   release [v,ov,iv] []):=by intro _;rfl):PG X (.Subscript o i pos) (gSub to ti t):=by
 intro pins s σ H v u Q I r h
 rw [ha]
 refine wpAny_bind (wpAny_holding (thn (ho pins s σ H _ I h) fun ov s1 ⟨x,H1,I1,r1,q1⟩=>?_))
 refine wpAny_bind (wpAny_holding (thn (hi pins s1 σ H1 _ I1 q1) fun iv s2 ⟨y,H2,I2,r2,q2⟩=>?_))
 refine wpAny_bind (wpAny_standAt (wpAny_bind (wpAny_holding (thn (hs pins s2 σ H2 x y v ov iv u _ I2 r1 r2 r q2) fun _ s3 ⟨H3,I3,q3⟩=>?_))))
 exact wpAny_release ⟨σ,H3,I3,q3⟩
def tAsg (te:TE) (g:TG):TS:=fun D σ H=>te σ H fun x H1=>g x σ H1 D.nx
theorem zmx {tg e:Expr} {te:TE} {g:TG} (he:PE X e te) (hg:PG X tg g) (hs:swapsWithSole [tg] e pos.line X.env=pure false:=by rfl) (hw:swappedStores [tg] e X.env=pure none:=by rfl)
  (h1:(assignEach [tg] X.env).map (·.2)=[assign tg X.env]:=by rfl):PS X (.Assign [tg] e pos) (tAsg te g):=by
 intro pins s σ H D I h
 refine wpAny_Assign_stores (thn (he pins s σ H _ I h) fun v s1 ⟨x,H1,I1,r1,q1⟩=>?_) hs hw
 rw [h1]
 exact thn (hg pins s1 σ H1 x v _ I1 r1 q1) fun _ s2 q=>q
theorem zkg {i:Nat} {x:Str} {e:Expr} {te:TE} {pos':Pos} (hN:X.N.Nodup) (hi:X.N[i]? = some x) (hx:Loc X.env.scope x) (he:PE X e te) (hs:swapsWith e (some (.Name x pos')) pos.line X.env=pure false:=by rfl) (hf:X.fn x=true∨X.env.scope.names.lookup x=some .local:=by first | exact .inl rfl | exact .inr rfl | assumption) :
  PS X (.Assign [.Name x pos'] e pos) (tAsg te (zfN i)):=by
 intro pins s σ H D I h
 refine wpAny_Assign_Name (thn (he pins s σ H _ I h) fun v s1 ⟨y,H1,I1,r1,q1⟩=>?_) hs
 exact zdT I1 hN hi hx r1 (fun s2 I2=>⟨_,H1,I2,q1⟩) hf
def tPar (i j:Nat) (ta:TA):TS:=fun D σ H=>ta σ H fun vs H1=>∃ v w,vs=[v,w]∧D.nx ((σ.set i (some v)).set j (some w)) H1
theorem zoY {i j:Nat} {x y:Str} {a b:Expr} {ta:TA} {px py pt:Pos} {kt k2 pt2} (hc:X.calm=true) (hN:X.N.Nodup) (hi:X.N[i]? = some x) (hj:X.N[j]? = some y) (hij:i≠j)
  (hx:X.env.scope.names.lookup x=some .local) (hy:X.env.scope.names.lookup y=some .local) (ha:PA X [a,b] ta)
  (hw:swappedStores [.Tuple [.Name x px,.Name y py] kt pt] (.Tuple [a,b] k2 pt2) X.env=pure (some [x,y]))
  (hs:swapsWithSole [.Tuple [.Name x px,.Name y py] kt pt] (.Tuple [a,b] k2 pt2) pos.line X.env=pure false:=by rfl) :
  PS X (.Assign [.Tuple [.Name x px,.Name y py] kt pt] (.Tuple [a,b] k2 pt2) pos) (tPar i j ta):=by
 intro pins s σ H D I h
 rw [exec_Assign_arm]
 refine wpAny_bind (wpAny_standAt ?_)
 rw [hs]
 refine wpAny_bind (wpAny_pure ?_)
 rw [if_neg (by decide)]
 refine wpAny_bind (Tuple_ (thn (ha _ pins s σ H _ I h) fun us s1 ⟨vs,H1,I1,r1,q1⟩=>?_))
 obtain⟨v,w,e1,q1⟩:=q1
 subst e1
 obtain⟨u1,u2,rfl,rv,rw'⟩:∃ u1 u2,us=[u1,u2]∧RelV v u1∧RelV w u2:=by
  cases r1 with
  | cons p q =>
   cases q with
   | cons p' q' =>
    cases q'
    exact⟨_,_,rfl,p,p'⟩
 refine wpAny_newObj_type ?_ (by show 2≤sizeLine;decide)
 have I2:Inv X pins σ H1 { s1 with heap:=s1.heap.push { cls:=.type "tuple", data:=.seq [u1,u2].toArray } }:=I1.kept (t':=s1.toks) fun b o e=>Heap.get?_push_of_some _ e
 rw [hw]
 refine wpAny_bind (wpAny_pure ?_)
 show wpAny (model X.prog X.w) X.A (do rule "assign.swapped-stores";let items ← unpackItems (.ref s1.heap.objs.size) 2 none;assignInOrder [fun v=>bindName X.env y v,fun v=>bindName X.env x v] items.reverse;pure Flow.next) _ _ _
 refine wpAny_bind (wpAny_rule (wpAny_bind (unpackItems_tuple (items:=#[u1,u2]) (I.ok.hd hc) (IsTup.new s1.heap _) fun h' hx'=>?_)))
 have I3:=I2.kept (h':=h') (t':=s1.toks) fun b o e=>hx' b o (Nat.ne_of_lt (Heap.lt_size e)) e
 show wpAny _ _ (assignInOrder [fun v=>bindName X.env y v,fun v=>bindName X.env x v] [u2,u1] >>= fun _=>pure Flow.next) _ _ _
 refine wpAny_bind (assignInOrder_cons (wpAny_bindName (zdT I3 hN hj (.inl hy) rw' (fun s2 I4=>?_) (.inr hy))))
 refine assignInOrder_cons (wpAny_bindName (zdT I4 hN hi (.inl hx) rv (fun s3 I5=>assignInOrder_nil (wpAny_pure ?_)) (.inr hx)))
 rw [List.set_comm _ _ (Ne.symm hij)] at I5
 exact⟨_,H1,I5,q1⟩
end
section
variable {X:Cx} {pos:Pos}
end
structure It where
 go:Nat→Hp→Prop
 yld:Nat→Hp→V→Hp→Prop
 stop:Nat→Hp→Prop
def FpOk (X:Cx) (pins:List (Addr×Obj)) (H:Hp) (b:Addr):Prop:=
 H b=none∧b≠X.env.locals∧b∉X.fs∧(b∈X.ex∨X.s₀.heap.objs.size≤b)∧(∀ x c,X.env.cells.lookup x=some c→c≠b)∧∀ p∈X.pn ++ pins,p.1≠b
theorem Inv.fpOk {X:Cx} {pins:List (Addr×Obj)} {σ:St} {H H':Hp} {s:Shared} {b:Addr} (I:Inv X pins σ H s) (hb:s.heap.objs.size≤b) (hn:H' b=none):FpOk X pins H' b:=by
 refine ⟨hn,Nat.ne_of_gt (Nat.lt_of_lt_of_le I.lt hb),I.nofs hb,.inr (Nat.le_trans I.sz hb),fun x c e z=>?_,fun p hp z=>?_⟩
 ·obtain⟨v,q⟩:=I.cell x c e
  exact absurd (Nat.lt_of_lt_of_le q.lt (by rw [z];exact hb)) (Nat.lt_irrefl _)
 ·exact absurd (Nat.lt_of_lt_of_le (Heap.lt_size (I.pin p hp).1) (by rw [z];exact hb)) (Nat.lt_irrefl _)
structure Turn (P:Program) (w:World) (K:PySem.W.Frag) (tg:Expr) (J:It) (fp:List Addr) (it:Addr) (tn:Nat→Heap→Prop):Prop where
 mem:it∈fp
 obj:∀ i h,tn i h→∀ b∈fp,∃ o,h.get? b=some o∧∀ v,o.data≠.cell v
 keep:∀ i h h',tn i h→(∀ b∈fp,∀ o,h.get? b=some o→h'.get? b=some o)→tn i h'
 item:∀ (X:Cx),X.prog=P→X.w=w→X.K=K→X.calm=true→∀ (i:Nat) (pins:List (Addr×Obj)) (s:Shared) (σ:St) (H:Hp) (E:Value→Shared→Prop),Inv X pins σ H s→(∀ b∈fp,FpOk X pins H b)→tn i s.heap→J.go i H →
  wpAny (model P w) X.A (pyNext (.ref it)) (fun r s1=>∃ u,r=some u ∧
   wpAny (model P w) X.A (letOwnedTupleGo tg (.ref it) u) (fun _ s2=>∃ x H',Inv X pins σ H' s2∧RelV x u∧J.yld i H x H'∧tn (i + 1) s2.heap∧∀ b∈fp,H' b=none) E s1) E s
 done:∀ (X:Cx),X.prog=P→X.w=w→X.K=K→X.calm=true→∀ (i:Nat) (pins:List (Addr×Obj)) (s:Shared) (σ:St) (H:Hp) (E:Value→Shared→Prop),Inv X pins σ H s→(∀ b∈fp,FpOk X pins H b)→tn i s.heap→J.stop i H →
  wpAny (model P w) X.A (pyNext (.ref it)) (fun r s1=>r=none∧Inv X pins σ H s1) E s
 self:∀ (A:Around) (i:Nat) (s:Shared) (Q:Value→Shared→Prop) (E:Value→Shared→Prop),tn i s.heap→Q (.ref it) s→wpAny (model P w) A (pyIter (.ref it)) Q E s
noncomputable abbrev TI:=St→Hp→(It→Hp→Prop)→Prop
def PIE (X:Cx) (pins:List (Addr×Obj)) (σ:St) (tg:Expr) (R:It→Hp→Prop) (itv:Value) (s2:Shared):Prop:=
 ∃ (it:Addr) (fp:List Addr) (tn:Nat→Heap→Prop) (J:It) (H':Hp),itv=.ref it∧Inv X pins σ H' s2∧Turn X.prog X.w X.K tg J fp it tn∧tn 0 s2.heap∧(∀ b∈fp,FpOk X pins H' b)∧R J H'
def PI (X:Cx) (tg iter:Expr) (wi:TI):Prop:=
 ∀ (pins:List (Addr×Obj)) (s:Shared) (σ:St) (H:Hp) (R:It→Hp→Prop),Inv X pins σ H s→wi σ H R →
  wpAny (model X.prog X.w) X.A (eval iter X.env) (fun v s1=>wpAny (model X.prog X.w) X.A (pyIter v) (PIE X pins σ tg R) X.xe s1) X.xe s
theorem zpD {M:Model} {A:Around} {E:Value→Shared→Prop} {s:Shared} {tg:Expr} {it:Addr} {u:Value} {o:Obj} {n:String} {vs:Array Value} {Q:Unit→Shared→Prop} (ho:s.heap.get? it=some o) (hc:o.cls=.type n) (hd:o.data=.fields vs)
    (hn:["enumerate", "zip", "dict_itemiterator", "dict_reverseitemiterator", "odict_iterator", "itertools.zip_longest", "itertools.pairwise"].contains n=false) (hQ:Q () s):wpAny M A (letOwnedTupleGo tg (.ref it) u) Q E s:=by
  unfold letOwnedTupleGo
  cases tg <;> first
    | exact wpAny_pure hQ
    | (cases u <;> first
        | exact wpAny_pure hQ
        | (refine wpAny_bind (wpAny_load ho ?_)
           rw [hc,hd]
           show wpAny M A (if (["enumerate", "zip", "dict_itemiterator", "dict_reverseitemiterator", "odict_iterator", "itertools.zip_longest", "itertools.pairwise"].contains n && vs[0]? == some (rawInt _))=true then _ else _) Q E s
           rw [if_neg (by intro h;rw [hn,Bool.false_and] at h;cases h)]
           exact wpAny_pure hQ))
noncomputable def Itl (K:PySem.W.Frag) (a:Addr):It:=
 ⟨fun i H=>∃ xs x,SqL K H a xs∧xs[i]? = some x,fun i H x H'=>H'=H∧∀ xs,SqL K H a xs→xs[i]? = some x,fun i H=>∃ xs,SqL K H a xs∧xs.length≤i⟩
noncomputable def Itr (lo:Int) (n:Nat):It:=⟨fun i _=>i < n,fun i H x H'=>H'=H∧x=.int (lo + i),fun i _=>n≤i⟩
theorem zjN {P:Program} {w:World} {K:PySem.W.Frag} {tg:Expr} (a it:Addr):Turn P w K tg (Itl K a) [it] it (fun i h=>h.IsListIter it a i) where
 mem:=by simp
 obj:=fun i h st b hb=>by
  have e:b=it:=by simpa using hb
  subst e
  obtain⟨o,e,c,d⟩:=st
  exact⟨o,e,fun v z=>by rw [d] at z;cases z⟩
 keep:=fun i h h' st k=>st.at fun o e=>k it (by simp) o e
 item:=by
  intro X hP hw hK hc i pins s σ H E I hf st hg
  subst hP hw hK
  obtain⟨xs,x,hq,hx⟩:=hg
  obtain⟨its,rv,p,hz⟩:=I.list hq
  obtain⟨u,hu,ru⟩:=rv.get hx
  obtain⟨f0,f1,f2,f3,f4,f5⟩:=hf it (by simp)
  refine wpAny_pyNext_list_item st p.isList (x:=u) (by simpa using hu) fun h' st' sb=>?_
  have I1:Inv X pins σ H { s with heap:=h' }:=I.turned (t':=s.toks) (fun b o hb e=>(sb.2 b hb).trans e) f0 f1 f3 f4 f5
  obtain⟨o,e,c,d⟩:=id st'
  exact⟨u,rfl,zpD (s:={ s with heap:=h' }) e c d (by decide) ⟨x,H,I1,ru,⟨rfl,fun ys hy=>by rw [I.list_inj hy hq];exact hx⟩,st',fun b hb=>(hf b hb).1⟩⟩
 done:=by
  intro X hP hw hK hc i pins s σ H E I hf st hg
  subst hP hw hK
  obtain⟨xs,hq,hx⟩:=hg
  obtain⟨its,rv,p,hz⟩:=I.list hq
  obtain⟨f0,f1,f2,f3,f4,f5⟩:=hf it (by simp)
  have hl:=rv.length
  exact wpAny_pyNext_list_end (I.ok.hd hc) st p.isList (by simp;lia) fun h' eb=>⟨rfl,I.turned (t':=s.toks) (fun b o hb e=>eb b o hb e) f0 f1 f3 f4 f5⟩
 self:=fun _ _ _ _ _ st h=>wpAny_pyIter_listiter st h
theorem ziY {P:Program} {w:World} {K:PySem.W.Frag} {tg:Expr} (it:Addr) (lo:Int) (n:Nat):Turn P w K tg (Itr lo n) [it] it (fun i h=>IsRangeIter h it (lo + (i:Nat) * 1) ((n:Int) - (i:Nat)) 1) where
 mem:=by simp
 obj:=fun i h st b hb=>by
  have e:b=it:=by simpa using hb
  subst e
  exact⟨_,st,fun v z=>by
   have z':Data.fields _=Data.cell v:=z
   cases z'⟩
 keep:=fun i h h' st k=>k it (by simp) _ st
 item:=by
  intro X hP hw hK hc i pins s σ H E I hf st hg
  subst hP hw hK
  obtain⟨f0,f1,f2,f3,f4,f5⟩:=hf it (by simp)
  have W:=Walks.range (prog:=X.prog) (w:=X.w) (I.ok.hd hc) it lo 1 n
  refine W.item i s _ _ hg st fun v h' tk hv st' kk=>?_
  obtain⟨t,rfl⟩:=hv
  have I1:Inv X pins σ H { s with heap:=h',toks:=tk }:=I.turned (fun b o hb e=>kk b o (by simpa using hb) e) f0 f1 f3 f4 f5
  refine ⟨_,rfl,zpD (s:={ s with heap:=h',toks:=tk }) (n := "range_iterator") st' rfl rfl (by decide) ⟨.int (lo + i),H,I1,⟨t,?_⟩,⟨rfl,rfl⟩,st',fun b hb=>(hf b hb).1⟩⟩
  rw [Int.mul_one]
 done:=by
  intro X hP hw hK hc i pins s σ H E I hf st hg
  subst hP hw hK
  obtain⟨f0,f1,f2,f3,f4,f5⟩:=hf it (by simp)
  exact wpAny_pyNext_range_end (I.ok.hd hc) st (by have:n≤i:=hg;lia) fun h' eb=>⟨rfl,I.turned (t':=s.toks) (fun b o hb e=>eb b o hb e) f0 f1 f3 f4 f5⟩
 self:=fun _ _ _ _ _ st h=>wpAny_pyIter_rangeiter st h
end L2
namespace L2
open PySem PySem.Spec PyProof.Rows
section
variable {X:Cx} {tg:Expr}
def zrh (K:PySem.W.Frag) (tl:TE):TI:=fun σ H R=>tl σ H fun x H1=>∃ a,x=.ref a∧(∃ xs,SqL K H1 a xs)∧R (Itl K a) H1
theorem zg2 {l:Expr} {tl:TE} (hl:PE X l tl):PI X tg l (zrh X.K tl):=by
 intro pins s σ H R I h
 refine thn (hl pins s σ H _ I h) fun v s1 ⟨x,H1,I1,r1,q1⟩=>?_
 obtain⟨a,e,⟨xs,hq⟩,q⟩:=q1
 subst e
 cases r1
 obtain⟨its,rv,p,hz⟩:=I1.list hq
 refine wpAny_pyIter_list p.isList ?_
 refine ⟨s1.heap.objs.size,[s1.heap.objs.size],_,_,H1,rfl,I1.kept (t':=s1.toks) fun b o e=>Heap.get?_push_of_some _ e,zjN a _,⟨_,Heap.get?_push_size _ rfl,rfl,rfl⟩,fun b hb=>?_,q⟩
 have e:b=s1.heap.objs.size:=by simpa using hb
 subst e
 exact I1.fpOk (Nat.le_refl _) (I1.hok.fresh (Nat.le_refl _))
theorem zlH {pins:List (Addr×Obj)} {σ:St} {H:Hp} {s:Shared} {R:It→Hp→Prop} {E:Value→Shared→Prop} {lo hi:Int} {t u v:Tok} {tk:Nat} (I:Inv X pins σ H s) (h1:-(2 ^ 62)≤lo) (h2:lo < 2 ^ 62) (h3:-(2 ^ 62)≤hi) (h4:hi < 2 ^ 62)
  (q:R (Itr lo (hi - lo).toNat) H):wpAny (model X.prog X.w) X.A (pyIter (.ref s.heap.objs.size)) (PIE X pins σ tg R) E { s with heap:=s.heap.push { cls:=.type "range", data:=.fields #[.int lo t,.int hi u,.int 1 v] },toks:=tk }:=by
 refine wpAny_pyIter_range (IsRange.new ..) (small_one h1 h2 h3 h4) ?_
 have I1:Inv X pins σ H { s with heap:=s.heap.push { cls:=.type "range", data:=.fields #[.int lo t,.int hi u,.int 1 v] },toks:=tk }:=I.kept fun b o e=>Heap.get?_push_of_some _ e
 refine ⟨(s.heap.push { cls:=.type "range", data:=.fields #[.int lo t,.int hi u,.int 1 v] }).objs.size,[(s.heap.push { cls:=.type "range", data:=.fields #[.int lo t,.int hi u,.int 1 v] }).objs.size],_,_,H,rfl,
  I1.kept (t':=tk) fun b o e=>Heap.get?_push_of_some _ e,ziY _ lo (hi - lo).toNat,?_,fun b hb=>?_,q⟩
 ·have e1:lo + ((0:Nat):Int) * 1=lo:=by simp
  have e2:(((hi - lo).toNat:Nat):Int) - ((0:Nat):Int)=Builtin.Range.rangeSize lo hi 1:=by rw [rangeSize_one];split <;> lia
  show IsRangeIter _ _ (lo + ((0:Nat):Int) * 1) ((((hi - lo).toNat:Nat):Int) - ((0:Nat):Int)) 1
  rw [e1,e2]
  exact Heap.get?_push_size _ rfl
 ·have e:b=(s.heap.push { cls:=.type "range", data:=.fields #[.int lo t,.int hi u,.int 1 v] }).objs.size:=by simpa using hb
  subst e
  exact I1.fpOk (Nat.le_refl _) (I1.hok.fresh (Nat.le_refl _))
def zpC (ta:TA):TI:=fun σ H R=>ta σ H fun vs H1=>∃ j:Int,vs=[.int j]∧-(2 ^ 62)≤j∧j < 2 ^ 62∧R (Itr 0 j.toNat) H1
theorem zga {a:Expr} {ta:TA} {p pos:Pos} (hg:Gl X "range") (hm:X.mg "range" = none) (ha:PA X [a] ta) (hs:starEach [a] X.env=[(false,eval a X.env)]:=by rfl):PI X tg (.Call (.Name "range" p) [a] [] pos) (zpC ta):=by
 intro pins s σ H R I h
 refine Call_ (zdc I hg hm boot_range (PyProof.Rows.callWith_type1 (thn (ha pos pins s σ H _ I h) fun us s1 ⟨vs,H1,I1,r1,q1⟩=>?_) hs rfl))
 obtain⟨j,e,q1,q2,q⟩:=q1
 subst e
 cases r1 with
 | cons r rr =>
  cases rr
  obtain⟨t,rfl⟩:=r
  exact call_range_1 (zlH I1 (by lia) (by lia) q1 q2 (by simpa using q))
def tFor (wi:TI) (g:TG) (tb:TS):TS:=fun D σ H=>wi σ H fun J H1=>∃ W:Nat→Nat→St→Hp→Prop,(∃ m,W 0 m σ H1)∧∀ i m σ H,W i m σ H →
 (J.stop i H∧D.nx σ H)∨(J.go i H∧∃ N:St→Hp→Prop,(∀ σ' H',N σ' H'→∃ m',m' < m∧W (i + 1) m' σ' H')∧∀ x H',J.yld i H x H'→g x σ H' fun σ2 H2=>tb { D with nx:=N,ct:=N,bk:=D.nx } σ2 H2)
noncomputable def zic (fp:List Addr) (h:Heap):List (Addr×Obj):=fp.filterMap fun b=>(h.get? b).map fun o=>(b,o)
theorem zcF {fp:List Addr} {h:Heap} {b:Addr} {o:Obj} (hb:b∈fp) (e:h.get? b=some o):(b,o)∈zic fp h:=List.mem_filterMap.mpr ⟨b,hb,by rw [e];rfl⟩
theorem zkt {fp:List Addr} {h:Heap} {p:Addr×Obj} (hp:p∈zic fp h):p.1∈fp∧h.get? p.1=some p.2:=by
 obtain⟨b,hb,e⟩:=List.mem_filterMap.mp hp
 cases q:h.get? b with
 | none=>rw [q] at e;cases e
 | some o =>
  rw [q] at e
  have e':(b,o)=p:=Option.some.inj e
  subst e'
  exact⟨hb,q⟩
theorem Inv.pinned {pins:List (Addr×Obj)} {σ:St} {H:Hp} {s:Shared} {fp:List Addr} (I:Inv X pins σ H s) (hf:∀ b∈fp,FpOk X pins H b) (ho:∀ b∈fp,∃ o,s.heap.get? b=some o∧∀ v,o.data≠.cell v):Inv X (pins ++ zic fp s.heap) σ H s:=
 I.pins_of fun p hp=>(List.mem_append.mp hp).elim (fun z=>I.pin p (List.mem_append_right _ z)) fun z=>by
  obtain⟨hb,e⟩:=zkt z
  obtain⟨f0,f1,f2,_⟩:=hf p.1 hb
  obtain⟨o,e',d⟩:=ho p.1 hb
  rw [e] at e';cases e'
  exact⟨e,f0,f1,f2,d⟩
theorem Inv.unpinned {pins pl:List (Addr×Obj)} {σ:St} {H:Hp} {s:Shared} (I:Inv X (pins ++ pl) σ H s):Inv X pins σ H s:=I.pins_of fun p hp=>I.pin p (List.mem_append_right _ (List.mem_append_left _ hp))
theorem zib {iter:Expr} {body:List Stmt} {wi:TI} {g:TG} {tb:TS} {pos:Pos} (hp:PassesOwn (model X.prog X.w) X.A X.env X.xe) (hc:X.calm=true) (hi:PI X tg iter wi) (hg:PG X tg g) (hb:PSs X body tb)
  (hs:∀ x,foldedSetIterable iter X.env x=pure x:=by intro _;rfl):PS X (.For tg iter body [] pos) (tFor wi g tb):=by
 intro pins s σ H D I h
 refine wpAny_For (thn (hi pins s σ H _ I h) fun v s1 h1=>thn h1 fun itv s2 h2=>?_) hs
 obtain⟨it,fp,tn,J,H2,e,I2,T,st2,f2,W,⟨m0,w0⟩,turn⟩:=h2
 subst e
 have stat:∀ {H':Hp},(∀ b∈fp,H' b=none)→∀ b∈fp,FpOk X pins H' b:=fun hn b hb=>⟨hn b hb,(f2 b hb).2⟩
 refine codeAny_forLoop_any (fun n s'=>∃ i σ' H',Inv X pins σ' H' s'∧tn i s'.heap∧(∀ b∈fp,H' b=none)∧W i n σ' H') ?_ m0 ⟨0,σ,H2,I2,st2,fun b hb=>(f2 b hb).1,w0⟩
 rintro n s3 ⟨i,σ3,H3,I3,st3,fr3,w3⟩
 rcases turn i n σ3 H3 w3 with ⟨stop,qn⟩ | ⟨go,N,hN,step⟩
 ·refine wpAny_passesOwn hp (thn (T.done X rfl rfl rfl hc i pins s3 σ3 H3 X.xe I3 (stat fr3) st3 stop) fun r s4 ⟨hr,I4⟩=>?_)
  subst hr
  exact wpAny_execs_nil ⟨σ3,H3,I4,qn⟩
 ·refine wpAny_passesOwn hp (thn (T.item X rfl rfl rfl hc i pins s3 σ3 H3 X.xe I3 (stat fr3) st3 go) fun r s4 ⟨u,hr,h4⟩=>?_)
  subst hr
  refine wpAny_passesOwn hp (thn h4 fun _ s5 ⟨x,H5,I5,r5,y5,st5,fr5⟩=>?_)
  have I5':=I5.pinned (stat fr5) (T.obj _ _ st5)
  refine wpAny_passesOwn hp (thn (hg _ s5 σ3 H5 x u _ I5' r5 (step x H5 y5)) fun _ s6 ⟨σ6,H6,I6,q6⟩=>?_)
  refine wpAny_passesOwn hp (thn (hb _ s6 σ6 H6 _ I6 q6) fun f s7 q7=>?_)
  have again:∀ {σ7:St} {H7:Hp},Inv X (pins ++ zic fp s5.heap) σ7 H7 s7→N σ7 H7→∃ m,m < n∧∃ i σ' H',Inv X pins σ' H' s7∧tn i s7.heap∧(∀ b∈fp,H' b=none)∧W i m σ' H':=fun {σ7 H7} I7 n7=>by
   obtain⟨m',hm,w7⟩:=hN σ7 H7 n7
   refine ⟨m',hm,i + 1,σ7,H7,I7.unpinned,T.keep _ _ _ st5 fun b hb o e=>(I7.pin (b,o) (List.mem_append_right _ (List.mem_append_right _ (zcF hb e)))).1,fun b hb=>?_,w7⟩
   obtain⟨o,e,d⟩:=T.obj _ _ st5 b hb
   exact (I7.pin (b,o) (List.mem_append_right _ (List.mem_append_right _ (zcF hb e)))).2.1
  cases f with
  | next=>obtain⟨σ7,H7,I7,n7⟩:=q7;exact again I7 n7
  | cont=>obtain⟨σ7,H7,I7,n7⟩:=q7;exact again I7 n7
  | brk=>obtain⟨σ7,H7,I7,q7⟩:=q7;exact⟨σ7,H7,I7.unpinned,q7⟩
  | ret v=>obtain⟨x7,σ7,H7,I7,r7,q7⟩:=q7;exact⟨x7,σ7,H7,I7.unpinned,r7,q7⟩
end
theorem zkV {lo:Int} {n:Nat} {g:TG} {tb:TS} {D:Ends} {σ:St} {H:Hp} (Pv:Nat→St→Hp→Prop) (h0:Pv 0 σ H)
  (hs:∀ i σ H,i < n→Pv i σ H→g (.int (lo + i)) σ H fun σ2 H2=>tb { D with nx:=Pv (i + 1),ct:=Pv (i + 1),bk:=D.nx } σ2 H2) (hd:∀ σ H,Pv n σ H→D.nx σ H) :
  ∃ W:Nat→Nat→St→Hp→Prop,(∃ m,W 0 m σ H)∧∀ i m σ H,W i m σ H →
   ((Itr lo n).stop i H∧D.nx σ H)∨((Itr lo n).go i H∧∃ N:St→Hp→Prop,(∀ σ' H',N σ' H'→∃ m',m' < m∧W (i + 1) m' σ' H')∧∀ x H',(Itr lo n).yld i H x H'→g x σ H' fun σ2 H2=>tb { D with nx:=N,ct:=N,bk:=D.nx } σ2 H2):=by
 refine ⟨fun i m σ H=>m=n - i∧i≤n∧Pv i σ H,⟨n,by simp,Nat.zero_le _,h0⟩,?_⟩
 rintro i m σ H ⟨rfl,hi,p⟩
 by_cases hlt:i < n
 ·refine .inr ⟨hlt,Pv (i + 1),fun σ' H' p'=>⟨n - (i + 1),by lia,rfl,hlt,p'⟩,fun x H' y=>?_⟩
  obtain⟨e,y⟩:=y
  subst e y
  exact hs i σ _ hlt p
 ·have e:i=n:=by lia
  subst e
  exact .inl ⟨Nat.le_refl _,hd σ H p⟩
end L2
namespace L2
open PySem PySem.Spec PyProof.Rows
noncomputable abbrev R2:=V→V→Hp→VK→Prop
def OpR (X:Cx) (f:Value→Value→Sem Value) (r:R2):Prop:=
 ∀ (pins:List (Addr×Obj)) (s:Shared) (σ:St) (H:Hp) (x y:V) (v u:Value) (Q:VK),Inv X pins σ H s→RelV x v→RelV y u→r x y H Q →
  wpAny (model X.prog X.w) X.A (f v u) (EP X pins σ Q) X.xe s
def UnR (X:Cx) (f:Value→Sem Value) (r:V→Hp→VK→Prop):Prop:=
 ∀ (pins:List (Addr×Obj)) (s:Shared) (σ:St) (H:Hp) (x:V) (v:Value) (Q:VK),Inv X pins σ H s→RelV x v→r x H Q →
  wpAny (model X.prog X.w) X.A (f v) (EP X pins σ Q) X.xe s
def zb2 (X:Cx) (f:Value) (r:List V→Hp→VK→Prop):Prop:=
 ∀ (pins:List (Addr×Obj)) (s:Shared) (σ:St) (H:Hp) (xs:List V) (us:List Value) (Q:VK),Inv X pins σ H s→Vals xs us→r xs H Q →
  wpAny (model X.prog X.w) X.A (call f us) (EP X pins σ Q) X.xe s
def tOp (r:R2) (ta tb:TE):TE:=fun σ H Q=>ta σ H fun x H1=>tb σ H1 fun y H2=>r x y H2 Q
def tUn (r:V→Hp→VK→Prop) (ta:TE):TE:=fun σ H Q=>ta σ H fun x H1=>r x H1 Q
def rI (C:Int→Int→Prop) (g:Int→Int→V):R2:=fun x y H Q=>∃ i j,x=.int i∧y=.int j∧C i j∧Q (g i j) H
def rI0 (g:Int→Int→V):R2:=fun x y H Q=>∃ i j,x=.int i∧y=.int j∧Q (g i j) H
noncomputable def rU (g:Int→V):V→Hp→VK→Prop:=fun x H Q=>∃ i,x=.int i∧Q (g i) H
section
variable {X:Cx} {a b c:Expr} {ta tb tc:TE} {pos:Pos}
theorem binT (ha:PE X a ta) (hb:PE X b tb) {pins:List (Addr×Obj)} {s:Shared} {σ:St} {H:Hp} {R:V→V→Hp→Prop} (I:Inv X pins σ H s)
  (h:ta σ H fun x H1=>tb σ H1 fun y H2=>R x y H2) {Q:Value→Shared→Prop} {f:Value→Value→Sem Value}
  (hf:∀ v u s2 x y H2,Inv X pins σ H2 s2→RelV x v→RelV y u→R x y H2→wpAny (model X.prog X.w) X.A (f v u) Q X.xe s2) :
  wpAny (model X.prog X.w) X.A (eval a X.env) (fun v s₁=>wpAny (model X.prog X.w) X.A (eval b X.env) (fun u s₂=>wpAny (model X.prog X.w) X.A (f v u) Q X.xe s₂) X.xe s₁) X.xe s:=by
 refine thn (ha pins s σ H _ I h) fun v s1 ⟨x,H1,I1,r1,q1⟩=>?_
 refine thn (hb pins s1 σ H1 _ I1 q1) fun u s2 ⟨y,H2,I2,r2,q2⟩=>?_
 exact hf v u s2 x y H2 I2 r1 r2 q2
theorem zqN {op:Operator} {r:R2} (ho:OpR X (binaryOp op) r) (ha:PE X a ta) (hb:PE X b tb):PE X (.BinOp a op b pos) (tOp r ta tb):=by
 intro pins s σ H Q I h
 exact wpAny_BinOp (binT ha hb I h fun v u s2 x y H2 I2 rx ry q=>ho pins s2 σ H2 x y v u Q I2 rx ry q)
theorem zqM {op:UnaryOp} {r:V→Hp→VK→Prop} (ho:UnR X (unaryOp op) r) (ha:PE X a ta):PE X (.UnaryOp op a pos) (tUn r ta):=by
 intro pins s σ H Q I h
 exact UnaryOp_ (thn (ha pins s σ H _ I h) fun v s1 ⟨x,H1,I1,r1,q1⟩=>ho pins s1 σ H1 x v Q I1 r1 q1)
theorem opI {f:Value→Value→Sem Value} {C:Int→Int→Prop} {g:Int→Int→Int}
  (rule:∀ (i j:Int) (t u:Tok) (s:Shared) (Q:Value→Shared→Prop) (E:Value→Shared→Prop),C i j→Q (.int (g i j) s.toks) { s with toks:=s.toks + 1 }→wpAny (model X.prog X.w) X.A (f (.int i t) (.int j u)) Q E s) :
  OpR X f (rI C fun i j=>.int (g i j)):=by
 intro pins s σ H x y v u Q I rx ry h
 obtain⟨i,j,rfl,rfl,hc,q⟩:=h
 obtain⟨t,rfl⟩:=rx
 obtain⟨t',rfl⟩:=ry
 exact rule i j t t' s _ _ hc ⟨.int (g i j),H,I.tok _,⟨_,rfl⟩,q⟩
theorem opI0 {f:Value→Value→Sem Value} {g:Int→Int→Int}
  (rule:∀ (i j:Int) (t u:Tok) (s:Shared) (Q:Value→Shared→Prop) (E:Value→Shared→Prop),Q (.int (g i j) s.toks) { s with toks:=s.toks + 1 }→wpAny (model X.prog X.w) X.A (f (.int i t) (.int j u)) Q E s) :
  OpR X f (rI0 fun i j=>.int (g i j)):=by
 intro pins s σ H x y v u Q I rx ry h
 obtain⟨i,j,rfl,rfl,q⟩:=h
 obtain⟨t,rfl⟩:=rx
 obtain⟨t',rfl⟩:=ry
 exact rule i j t t' s _ _ ⟨.int (g i j),H,I.tok _,⟨_,rfl⟩,q⟩
theorem opB0 {f:Value→Value→Sem Value} {g:Int→Int→Bool}
  (rule:∀ (i j:Int) (t u:Tok) (s:Shared) (Q:Value→Shared→Prop) (E:Value→Shared→Prop),Q (.bool (g i j)) s→wpAny (model X.prog X.w) X.A (f (.int i t) (.int j u)) Q E s) :
  OpR X f (rI0 fun i j=>.bl (g i j)):=by
 intro pins s σ H x y v u Q I rx ry h
 obtain⟨i,j,rfl,rfl,q⟩:=h
 obtain⟨t,rfl⟩:=rx
 obtain⟨t',rfl⟩:=ry
 exact rule i j t t' s _ _ ⟨.bl (g i j),H,I,rfl,q⟩
def CDiv (i j:Int):Prop:=0 < j∧j < 1073741824
def CMul (i j:Int):Prop:=(-(2 ^ 64) < i∧i < 2 ^ 64)∨(-(2 ^ 64) < j∧j < 2 ^ 64)
theorem CMul.ok {i j:Int} (h:CMul i j):IntMulOk i j:=by
 rcases h with ⟨h1,h2⟩ | ⟨h1,h2⟩
 ·exact .of_left (intBits_le_64 h1 h2)
 ·exact .of_right (intBits_le_64 h1 h2)
theorem zpc:OpR X (binaryOp .Add) (rI0 fun i j=>.int (i + j)):=opI0 fun _ _ _ _ _ _ _ q=>add_int q
theorem zo7:OpR X (binaryOp .Sub) (rI0 fun i j=>.int (i - j)):=opI0 fun _ _ _ _ _ _ _ q=>sub_int q
theorem zo9:OpR X (binaryOp .Mult) (rI CMul fun i j=>.int (i * j)):=opI fun _ _ _ _ _ _ _ hc q=>mul_int q hc.ok
theorem znx:OpR X (binaryOp .FloorDiv) (rI CDiv fun i j=>.int (i / j)):=opI fun i j _ _ _ _ _ hc q=>by
 have h1:(0:Int) < j:=hc.1
 have h2:j < 1073741824:=hc.2
 exact floordiv_int (by lia) (by rw [Int.fdiv_eq_ediv_of_nonneg i (by lia)];exact q) (.inl (PyProof.noPylong_small (by lia)))
theorem zpa:OpR X (binaryOp .Mod) (rI (fun _ j=>0 < j) fun i j=>.int (i % j)):=opI fun i j _ _ _ _ _ hc q=>by
 have h1:(0:Int) < j:=hc
 exact mod_int' (by lia) (by rw [Int.fmod_eq_emod_of_nonneg i (by lia)];exact q)
theorem unI {f:Value→Sem Value} {g:Int→Int}
  (rule:∀ (i:Int) (t:Tok) (s:Shared) (Q:Value→Shared→Prop) (E:Value→Shared→Prop),Q (.int (g i) s.toks) { s with toks:=s.toks + 1 }→wpAny (model X.prog X.w) X.A (f (.int i t)) Q E s) :
  UnR X f (rU fun i=>.int (g i)):=by
 intro pins s σ H x v Q I rx h
 obtain⟨i,rfl,q⟩:=h
 obtain⟨t,rfl⟩:=rx
 exact rule i t s _ _ ⟨.int (g i),H,I.tok _,⟨_,rfl⟩,q⟩
theorem zox:UnR X (unaryOp .USub) (rU fun i=>.int (-i)):=unI fun _ _ _ _ _ q=>neg_int q
end
section
variable {X:Cx} {a b c:Expr} {ta tb tc:TE} {pos:Pos}
theorem zqP:OpR X (compareOp .Lt) (rI0 fun i j=>.bl (decide (i < j))):=opB0 fun _ _ _ _ _ _ _ q=>lt_int q
theorem zqQ:OpR X (compareOp .Gt) (rI0 fun i j=>.bl (decide (j < i))):=opB0 fun _ _ _ _ _ _ _ q=>gt_int q
theorem zaT (b:Expr) {op:CmpOp} (h:op≠.In:=by decide) (h2:op≠.NotIn:=by decide):behindInMarks op b=false:=by
 have e1:(op == CmpOp.In)=false:=by cases op <;> first | rfl | exact absurd rfl h
 have e2:(op == CmpOp.NotIn)=false:=by cases op <;> first | rfl | exact absurd rfl h2
 cases b <;> simp [behindInMarks,e1,e2]
theorem znv {op:CmpOp} {r:R2} (ho:OpR X (compareOp op) r) (ha:PE X a ta) (hb:PE X b tb) (hm:behindInMarks op b=false):PE X (.Compare a [op] [b] pos) (tOp r ta tb):=by
 intro pins s σ H Q I h
 exact wpAny_Compare1 (binT ha hb I h fun v u s2 x y H2 I2 rx ry q=>ho pins s2 σ H2 x y v u Q I2 rx ry q) hm
def zqt (t:TE):TT:=fun σ H Q=>t σ H fun x H'=>∃ k,x=.bl k∧Q k H'
theorem znp {op:CmpOp} {r:R2} (ho:OpR X (compareOp op) r) (ha:PE X a ta) (hb:PE X b tb) (hm:behindInMarks op b=false):PT X (.Compare a [op] [b] pos) (zqt (tOp r ta tb)):=by
 intro pins s σ H Q I h
 refine wpAny_isTrue_Compare1 (thn (ha pins s σ H _ I h) fun v s1 ⟨x,H1,I1,r1,q1⟩=>thn (hb pins s1 σ H1 _ I1 q1) fun u s2 ⟨y,H2,I2,r2,q2⟩ =>
  thn (ho pins s2 σ H2 x y v u _ I2 r1 r2 q2) fun c s3 ⟨z,H3,I3,r3,k,e,q3⟩=>?_) hm
 subst e
 cases r3
 exact wpAny_truthy_bool ⟨H3,I3,q3⟩
theorem zgg:(sizeLine:Nat) < 2 ^ 63:=by rw [sizeLine_eq];decide
theorem zjM {x:V} {us:List Value} (r:Vals [x] us):∃ u,us=[u]∧RelV x u:=by
 cases r with
 | cons r1 r2=>cases r2;exact⟨_,rfl,r1⟩
theorem zow {x y:V} {us:List Value} (r:Vals [x,y] us):∃ u w',us=[u,w']∧RelV x u∧RelV y w':=by
 cases r with
 | cons r1 r2 =>
  cases r2 with
  | cons r3 r4=>cases r4;exact⟨_,_,rfl,r1,r3⟩
end
end L2
namespace L2
open PySem PySem.Spec PyProof.Rows
structure ObjM (h:Heap) (x dx C:Addr) (mA:Str→Option Value):Prop where
 obj:h.get? x=some (PySem.W.instObj C dx)
 ns:h.Ns1 dx mA
 ne:dx≠x
theorem zkJ {h:Heap} {dx:Addr} {mA:Str→Option Value} (n:h.Ns1 dx mA):∃ od,h.get? dx=some od∧∀ name,PySem.W.lookIn name od=some (mA name):=by
 obtain⟨o,es,ep,ho,hd,hk,_,hm⟩:=n
 refine ⟨o,ho,fun name=>?_⟩
 have e:=hm name
 unfold nsFind findBy at e
 rw [← Array.find?_toList] at e
 unfold PySem.W.lookIn
 rw [hd]
 dsimp only
 split
 ·rename_i y q
  rw [q] at e
  exact congrArg some e
 ·rename_i q
  rw [q] at e
  have a:es.toList.any (·.refKey)=false:=by
   rw [List.any_eq_false]
   intro y hy
   obtain⟨z,t,hkey⟩:=hk y (Array.mem_toList_iff.mp hy)
   simp [DictEntry.refKey,hkey]
  have a':¬ es.toList.any (·.refKey)=true:=by rw [a];exact Bool.false_ne_true
  rw [if_neg a']
  exact congrArg some e
theorem ObjM.look {h:Heap} {x dx C:Addr} {mA:Str→Option Value} (I:ObjM h x dx C mA):∃ od,PySem.W.InstAt h x (PySem.W.instObj C dx) C (some od)∧∀ name,PySem.W.lookIn name od=some (mA name):=
 let ⟨od,ho,hl⟩:=zkJ I.ns
 ⟨od,⟨I.obj,rfl,rfl,ho⟩,hl⟩
section
variable {prog:Program} {w:World} {A:Around} {E:Value→Shared→Prop} {s:Shared} {K:PySem.W.Frag} {x dx C f:Addr} {mA:Str→Option Value} {name:Str} {v:Value}
end
section
variable {P:Program} {w:World} {H H':Hp} {h h':Heap} {a C dx:Addr} {fs fs':List (Str×V)}
theorem znP (hok:HOk P w H h) (e:H a=some (.ins C dx fs)):∃ mA,ObjM h a dx C mA∧(∀ f,RelO (fs.lookup f) (mA f))∧PySem.Within mA (fs.map (·.1))∧fs.length≤1000∧H dx=some (.own a):=by
 obtain⟨d,z,ne,ob,mA,n,r,q⟩:=(show zbS P w H h a (.ins C dx fs) from hok a _ e)
 exact⟨mA,⟨ob,n,ne⟩,r,q,z,d⟩
end
structure Cls (K:PySem.W.Frag) (C:Addr):Prop where
 pg:PySem.W.plainGet K C Str.empty=true
 hd:PySem.W.hasDictIn K C=true
 po:PySem.W.plainOver K C=true
 sa:PySem.W.findIn K (.ref C) "__setattr__" = some (some (.builtin "object.__setattr__"))
theorem Cls.get {K:PySem.W.Frag} {C:Addr} (c:Cls K C) (f:Str):PySem.W.plainGet K C f=true:=c.pg
section
variable {X:Cx} {pins:List (Addr×Obj)} {σ:St} {H:Hp} {s:Shared} {a C dx:Addr} {fs:List (Str×V)} {f:Str} {v:V} {A:Around} {E:Value→Shared→Prop}
end
section
variable {X:Cx} {o e value:Expr} {f:Str} {pos pos' tpos:Pos} {ta tv:TE}
end
section
variable {X:Cx} {pins:List (Addr×Obj)} {σ:St} {H:Hp} {s:Shared} {A:Around} {E:Value→Shared→Prop} {Q:Value→Shared→Prop} {c:Value} {b:Bool}
inductive TyOf (K:PySem.W.Frag) (H:Hp):V→Value→Prop where
 | non:TyOf K H .non (.type "NoneType")
 | bl (x:Bool):TyOf K H (.bl x) (.type "bool")
 | int (i:Int):TyOf K H (.int i) (.type "int")
 | str (x:Str):TyOf K H (.str x) (.type "str")
 | flt (x:UInt64):TyOf K H (.flt x) (.type "float")
 | lst {a:Addr} {xs:List V} (e:H a=some (.lst xs)):TyOf K H (.ref a) (.type "list")
 | frz {a:Addr} {o:Obj} {xs:List V} (e:H a=some (.frz o (.lst xs))):TyOf K H (.ref a) (.type "list")
 | tup {a:Addr} {xs:List V} (e:H a=some (.tup xs)):TyOf K H (.ref a) (.type "tuple")
 | dK {a:Addr} {kvs:List (Key×V)} (e:H a=some (.dK kvs)):TyOf K H (.ref a) (.type "dict")
 | dT {a:Addr} {kvs:List (List Key×V)} (e:H a=some (.dT kvs)):TyOf K H (.ref a) (.type "dict")
 | ins {a C dx:Addr} {fs:List (Str×V)} (e:H a=some (.ins C dx fs)) (cl:Cls K C) (ha:PySem.W.findIn K (.ref C) "__class__" = some (some (.builtin "object.__class__")))
   (hn:PySem.W.specialIn K (.builtin "object.__class__") "__get__" = some (some (.builtin "getset_descriptor.__get__"))) (htk:PySem.W.takesIn K (.builtin "object.__class__")=some true)
   (hm:PySem.W.mroIn K C (.type "object")=some true):TyOf K H (.ref a) (.ref C)
theorem zdd {x:V} {u t:Value} (I:Inv X pins σ H s) (rx:RelV x u) (ty:TyOf X.K H x t) (e:PySem.W.kitOne X.K t c=some b) (h:∀ tk,Q (.bool b) { s with toks:=tk }) :
  wpAny (model X.prog X.w) A (call (.builtin "isinstance") [u,c]) Q E s:=by
 cases ty with
 | non=>cases (show u=Value.none from rx);exact PySem.W.kia_one PySem.W.kitx_none I.kIn True.intro e (fun z=>nomatch z) h
 | bl y=>cases (show u=Value.bool y from rx);exact PySem.W.kia_one PySem.W.kitx_bool I.kIn True.intro e (fun z=>nomatch z) h
 | int i=>obtain⟨t,q⟩:=(show ∃ t,u=Value.int i t from rx);cases q;exact PySem.W.kia_one PySem.W.kitx_int I.kIn True.intro e (fun z=>nomatch z) h
 | str y=>obtain⟨t,q⟩:=(show ∃ t,u=Value.str y t from rx);cases q;exact PySem.W.kia_one PySem.W.kitx_str I.kIn True.intro e (fun z=>nomatch z) h
 | flt y=>obtain⟨t,q⟩:=(show ∃ t,u=Value.float y t from rx);cases q;exact PySem.W.kia_one PySem.W.kitx_float I.kIn True.intro e (fun z=>nomatch z) h
 | @lst a xs ea =>
  cases (show u=Value.ref a from rx)
  obtain⟨_,_,n,_,h1⟩:=(show zbS X.prog X.w H s.heap a (.lst xs) from I.hok a _ ea)
  exact PySem.W.kia_one PySem.W.kitx_list I.kIn ⟨_,h1,rfl⟩ e (fun z=>nomatch z) h
 | @frz a ob xs ea =>
  cases (show u=Value.ref a from rx)
  obtain⟨_,_,_,n,_,h1⟩:=(show zbS X.prog X.w H s.heap a (.frz ob (.lst xs)) from I.hok a _ ea)
  exact PySem.W.kia_one PySem.W.kitx_list I.kIn ⟨_,h1,rfl⟩ e (fun z=>nomatch z) h
 | @tup a xs ea =>
  cases (show u=Value.ref a from rx)
  obtain⟨_,_,_,p⟩:=(show zbS X.prog X.w H s.heap a (.tup xs) from I.hok a _ ea)
  obtain⟨o,h1,h2,_⟩:=p
  exact PySem.W.kia_one PySem.W.kitx_tuple I.kIn ⟨o,h1,h2⟩ e (fun z=>nomatch z) h
 | @dK a kvs ea =>
  cases (show u=Value.ref a from rx)
  obtain⟨_,_,vs,_,p⟩:=(show zbS X.prog X.w H s.heap a (.dK kvs) from I.hok a _ ea)
  obtain⟨o,es,ep,h1,h2,_⟩:=p
  exact PySem.W.kia_one PySem.W.kitx_dict I.kIn ⟨o,h1,h2.1⟩ e (fun z=>nomatch z) h
 | @dT a kvs ea =>
  cases (show u=Value.ref a from rx)
  obtain⟨_,_,xs,_,o,es,ep,h1,h2,_⟩:=(show zbS X.prog X.w H s.heap a (.dT kvs) from I.hok a _ ea)
  exact PySem.W.kia_one PySem.W.kitx_dict I.kIn ⟨o,h1,h2.1⟩ e (fun z=>nomatch z) h
 | @ins a C dx fs ea cl ha hn htk hm =>
  cases (show u=Value.ref a from rx)
  obtain⟨mA,O,_⟩:=znP I.hok ea
  obtain⟨od,J,_⟩:=O.look
  exact PySem.W.kia_one (PySem.W.kitx_own (cl.get _) cl.hd ha hn htk hm) I.kIn J e (fun z=>nomatch z) h
end
end L2
namespace L2
open PySem PySem.Spec PyProof.Rows
structure Room (k:Nat) (A:Around):Prop where
 hd:A.handled=none
 dp:A.depth + 3 * k + 5 < recursionLimit
 un:A.units + 16 * k + 200 < cLine
theorem Room.mono {j k:Nat} {A:Around} (r:Room k A) (h:j≤k):Room j A:=⟨r.hd,by have:=r.dp;lia,by have:=r.un;lia⟩
theorem Room.deeper {k:Nat} {A:Around} (r:Room (k + 1) A) (env:Env):Room k (A.deeper env):=
 ⟨r.hd,by have:=r.dp;show A.depth + 1 + 3 * k + 5 < _;lia,by have:=r.un;show A.units + 3 + 16 * k + 200 < _;lia⟩
theorem Room.depth {k:Nat} {A:Around} (r:Room k A):A.depth < recursionLimit:=by have:=r.dp;lia
def tNil:TA:=fun _ H Q=>Q [] H
def zjP (ta:TE) (tr:TA):TA:=fun σ H Q=>ta σ H fun x H1=>tr σ H1 fun xs H2=>Q (x :: xs) H2
section
variable {X:Cx} {e:Expr} {es:List Expr} {te:TE} {t:TA} {pos:Pos}
theorem zbT:PA X [] tNil:=fun _ _ _ _ H Q I h=>Calls.spliced_nil ⟨[],H,I,.nil,h⟩
theorem za2 (ha:PE X e te) (hr:PA X es t) (hs:starEach (e :: es) X.env=(false,eval e X.env) :: starEach es X.env:=by rfl):PA X (e :: es) (zjP te t):=by
 intro pos pins s σ H Q I h
 rw [hs]
 show wpAny _ _ (spliced ((false,eval e X.env) :: backTo pos (starEach es X.env))) _ _ s
 refine Calls.spliced_cons (thn (ha pins s σ H _ I h) fun u s1 ⟨x,H1,I1,r1,q1⟩=>?_)
 exact thn (hr pos pins s1 σ H1 _ I1 q1) fun us s2 ⟨xs,H2,I2,r2,q2⟩=>⟨x :: xs,H2,I2,.cons r1 r2,q2⟩
def tLst (t:TA):TE:=fun σ H Q=>t σ H fun xs H1=>xs.length≤sizeLine∧∀ p,H1 p=none→Q (.ref p) (upd H1 p (.lst xs))
theorem zo5 (h:PA X es t):PE X (.List es pos) (tLst t):=by
 intro pins s σ H Q I hq
 refine wpAny_List_spliced (thn (h pos pins s σ H _ I hq) fun us s1 ⟨xs,H1,I1,r,z,q⟩=>⟨by rw [← r.length];exact z,?_⟩)
 have hf:H1 s1.heap.objs.size=none:=I1.hok.fresh (Nat.le_refl _)
 refine ⟨.ref s1.heap.objs.size,upd H1 s1.heap.objs.size (.lst xs),I1.laid (t':=s1.toks) (fun b u e=>Heap.get?_push_of_some _ e) (Nat.le_refl _) ?_,rfl,q _ hf⟩
 exact⟨z,us,0,r,Heap.get?_push_size _ rfl⟩
end
noncomputable abbrev Sp:=List V→Hp→VK→XK→Prop
noncomputable abbrev CXT:=List Env→Hp→Shared→XK→Value→Shared→Prop
structure Env0 (P:Program) (w:World) (K:PySem.W.Frag) (mg:Str→Option Value) (base:Heap) (A:Around) (outer:List Env) (s:Shared) (H:Hp):Prop where
 frames:A.frames=some outer
 mod:Mod K mg base
 bs:∀ b o,base.get? b=some o→s.heap.get? b=some o∧H b=none
 bsz:base.objs.size≤s.heap.objs.size
 funs:s.heap.FunFrames base outer
 frf:∀ b∈frs outer,H b=none
 hok:HOk P w H s.heap
 bare:AllBare s.gens
def CE (outer:List Env) (P:Program) (w:World) (H:Hp) (s:Shared) (Q:VK) (u:Value) (s':Shared):Prop:=
 ∃ v H',s'.os=s.os∧AllBare s'.gens∧Un (frs outer) [] H H' s.heap s'.heap∧HOk P w H' s'.heap∧RelV v u∧Q v H'
def CR (CX:CXT) (outer:List Env) (P:Program) (w:World) (H:Hp) (s:Shared) (Q:VK) (E:XK) (r:Result) (s':Shared):Prop:=
 match r with
 | .ok (.ret u)=>CE outer P w H s Q u s'
 | .ok _=>False
 | .error e=>CX outer H s E e s'
structure FnOk (P:Program) (w:World) (K:PySem.W.Frag) (mg:Str→Option Value) (base:Heap) (CX:CXT) (k:Nat) (f:Addr) (fd:FuncData) (ps:List Str) (sp:Sp):Prop where
 len:∀ vs H Q E,sp vs H Q E→vs.length=ps.length
 run:∀ (A:Around) (outer:List Env) (s:Shared) (H:Hp) (args:Args) (us:List Value) (vs:List V) (Q:VK) (E:XK),Room k A→Env0 P w K mg base A outer s H→BindsTo s fd args (ps.zip us)→Vals vs us→sp vs H Q E →
  codeAny (model P w) A (.call (.ref f) args) (CR CX outer P w H s Q E) s
theorem FnOk.mono {P:Program} {w:World} {K:PySem.W.Frag} {mg:Str→Option Value} {base:Heap} {CX:CXT} {j k:Nat} {f:Addr} {fd:FuncData} {ps:List Str} {sp:Sp} (F:FnOk P w K mg base CX j f fd ps sp) (h:j≤k) :
  FnOk P w K mg base CX k f fd ps sp:=⟨F.len,fun A outer s H args us vs Q E hr=>F.run A outer s H args us vs Q E (hr.mono h)⟩
theorem FnOk.imp {P:Program} {w:World} {K:PySem.W.Frag} {mg:Str→Option Value} {base:Heap} {CX:CXT} {k:Nat} {f:Addr} {fd:FuncData} {ps:List Str} {sp sp':Sp} (F:FnOk P w K mg base CX k f fd ps sp)
  (h:∀ vs H Q E,sp' vs H Q E→sp vs H Q E):FnOk P w K mg base CX k f fd ps sp':=
 ⟨fun vs H Q E q=>F.len vs H Q E (h _ _ _ _ q),fun A outer s H args us vs Q E hr he hb hv hs=>F.run A outer s H args us vs Q E hr he hb hv (h _ _ _ _ hs)⟩
section
variable {X:Cx} {pins:List (Addr×Obj)} {σ:St} {H:Hp} {s s':Shared}
theorem Inv.env0 (I:Inv X pins σ H s):Env0 X.prog X.w X.K X.mg X.base X.A X.stack s H:=
 ⟨I.ok.frames,I.ok.mod,I.bs,Nat.le_trans I.ok.bsz I.sz,I.stack,I.stkFree,I.hok,I.bare⟩
theorem Inv.after {Q:VK} {u:Value} (I:Inv X pins σ H s) (h:CE X.stack X.prog X.w H s Q u s'):EP X pins σ Q u s':=by
 obtain⟨v,H',os,bare,un,hok,r,q⟩:=h
 obtain⟨hh,g,d,t,os'⟩:=s'
 obtain rfl:os'=s.os:=os
 exact⟨v,H',I.call (h':=hh) (g':=g) (d':=d) (t':=t) (ch:=[]) un hok bare (fun b z=>absurd z (by simp)),r,q⟩
end
def zoE (sp:Sp) (dvs:List V) (E:XK) (t:TA):TE:=fun σ H Q=>t σ H fun vs H1=>sp (vs ++ dvs) H1 Q E
def zbj (K:PySem.W.Frag) (fd:FuncData) (ps:List Str) (ds:List Value):Prop:=
 ∀ (s:Shared) (us:List Value),K.In s.heap→(us ++ ds).length=ps.length→BindsTo s fd ⟨us,[]⟩ (ps.zip (us ++ ds))
theorem zbj.all {K:PySem.W.Frag} {fd:FuncData} {ps:List Str} (h:∀ us:List Value,us.length=ps.length→bindArgs fd ⟨us,[]⟩=pure (ps.zip us)):zbj K fd ps []:=fun s us _ hl=>by
 rw [List.append_nil] at hl ⊢
 exact .of_eq (h us hl)
def zgL (CX:CXT) (X:Cx) (E:XK):Prop:=∀ (pins:List (Addr×Obj)) (σ:St) (H:Hp) (s:Shared) (e:Value) (s':Shared),Inv X pins σ H s→CX X.stack H s E e s'→X.xe e s'
section
variable {X:Cx} {CX:CXT} {k:Nat} {f C:Addr} {fd:FuncData} {ps:List Str} {sp:Sp} {dvs:List V} {ds:List Value} {E:XK} {x m:Str} {p pos apos:Pos} {e o:Expr} {es:List Expr} {ta:TE} {t:TA}
theorem zoN {pins:List (Addr×Obj)} {σ:St} {H:Hp} {s:Shared} {Q:VK} {us:List Value} {vs:List V} (F:FnOk X.prog X.w X.K X.mg X.base CX k f fd ps sp) (hr:Room k X.A) (hb:zbj X.K fd ps ds) (hd:Vals dvs ds) (hx:zgL CX X E)
  (I:Inv X pins σ H s) (r:Vals vs us) (h:sp (vs ++ dvs) H Q E):wpAny (model X.prog X.w) X.A (call (.ref f) us) (EP X pins σ Q) X.xe s:=by
 have r2:Vals (vs ++ dvs) (us ++ ds):=r.append hd
 have hl:(us ++ ds).length=ps.length:=by rw [← r2.length];exact F.len _ _ _ _ h
 refine wpAny_call (codeAny_mono (F.run X.A X.stack s H ⟨us,[]⟩ (us ++ ds) (vs ++ dvs) Q E hr I.env0 (hb s us I.kIn hl) r2 h) fun r s' hq=>?_)
 cases r with
 | error e=>exact hx pins σ H s e s' I hq
 | ok fl =>
  cases fl with
  | ret u=>exact I.after hq
  | next=>exact False.elim hq
  | brk=>exact False.elim hq
  | cont=>exact False.elim hq
theorem znw (F:FnOk X.prog X.w X.K X.mg X.base CX k f fd ps sp) (hr:Room k X.A) (hg:Gl X x) (hm:X.mg x=some (.ref f)) (hk:PySem.W.keepIn X.K (.ref f)=true) (hb:zbj X.K fd ps ds) (hd:Vals dvs ds) (hx:zgL CX X E)
  (ha:PA X (e :: es) t) (hdb:(x == ("__debug__" : Str))=false:=by decide) (he:starEach (e :: es) X.env=(false,eval e X.env) :: starEach es X.env:=by rfl) (hpl:(backTo pos (starEach es X.env)).any (·.1)=false:=by rfl) :
  PE X (.Call (.Name x p) (e :: es) [] pos) (zoE sp dvs E t):=by
 intro pins s σ H Q I h
 refine wpAny_Call_Name_kw (zhf I hg hm ?_ hdb)
 refine PySem.W.callWith_K (h₀:=X.base) I.ok.mod.kin hk (thn (ha pos pins s σ H _ I h) fun us s1 ⟨vs,H1,I1,r,q⟩=>⟨I1.kIn,?_⟩) he hpl
 exact zoN F hr hb hd hx I1 r q
end
section
variable {X:Cx} {CX:CXT} {k:Nat} {f C:Addr} {fd:FuncData} {ps ks:List Str} {sp:Sp} {E:XK} {x m:Str} {p pos apos kpos:Pos} {e o:Expr} {es:List Expr} {kws:List Keyword} {te ta:TE} {t tk:TA} {nm:Option Str}
variable {g:List Value→List Value→List Value} {gV:List V→List V→List V}
end
structure FnScope (N P:List Str) (sc:Scope):Prop where
 kind:sc.kind=.function
 co:sc.isCoroutine=false
 gen:sc.isGenerator=false
 nd:N.Nodup
 pre:N.take P.length=P
 par:∀ x∈P,sc.names.lookup x=some .local∨sc.names.lookup x=some .cell
 nofree:∀ y∈sc.names,y.2≠.free
theorem zgy {kindOf:Str→Option NameKind} {x:Str}:∀ {binds:List (Str×Value)} {m:Str→Option Value},(∀ v,(x,v)∉binds)→bindL kindOf binds m x=m x
 | [],_,_=>rfl
 | (n,v) :: r,m,h=>by
  unfold bindL
  rw [zgy fun w hw=>h w (List.mem_cons_of_mem _ hw)]
  split
  ·have:x≠n:=by rintro rfl;exact h v List.mem_cons_self
   simp [this]
  ·rfl
theorem zgA {kindOf:Str→Option NameKind} {x:Str}:∀ {binds:List (Str×Value)} {m:Str→Option Value},(∀ v,(x,v)∉binds)→bindC kindOf binds m x=m x
 | [],_,_=>rfl
 | (n,v) :: r,m,h=>by
  unfold bindC
  rw [zgA fun w hw=>h w (List.mem_cons_of_mem _ hw)]
  split
  ·rfl
  ·have:x≠n:=by rintro rfl;exact h v List.mem_cons_self
   simp [this]
theorem zgz {kindOf:Str→Option NameKind} {x:Str} {v:Value}:∀ {P:List Str} {vs:List Value} {i:Nat} {m:Str→Option Value},P.Nodup→P[i]? = some x→vs[i]? = some v→kindOf x=some .local →
  bindL kindOf (P.zip vs) m x=some v
 | [],_,_,_,_,h,_,_=>by simp at h
 | _ :: _,[],_,_,_,_,h,_=>by simp at h
 | p :: P,w :: vs,0,m,nd,h1,h2,hk=>by
  simp at h1 h2;subst h1;subst h2
  show bindL kindOf ((p,w) :: P.zip vs) m p=_
  unfold bindL
  rw [zgy fun v hv=>(List.nodup_cons.mp nd).1 (List.of_mem_zip hv).1,if_pos hk]
  simp
 | p :: P,w :: vs,i + 1,m,nd,h1,h2,hk=>by
  show bindL kindOf ((p,w) :: P.zip vs) m x=_
  unfold bindL
  exact zgz (i:=i) (List.nodup_cons.mp nd).2 (by simpa using h1) (by simpa using h2) hk
theorem zgB {kindOf:Str→Option NameKind} {x:Str} {v:Value}:∀ {P:List Str} {vs:List Value} {i:Nat} {m:Str→Option Value},P.Nodup→P[i]? = some x→vs[i]? = some v→kindOf x≠some .local →
  bindC kindOf (P.zip vs) m x=some v
 | [],_,_,_,_,h,_,_=>by simp at h
 | _ :: _,[],_,_,_,_,h,_=>by simp at h
 | p :: P,w :: vs,0,m,nd,h1,h2,hk=>by
  simp at h1 h2;subst h1;subst h2
  show bindC kindOf ((p,w) :: P.zip vs) m p=_
  unfold bindC
  rw [zgA fun v hv=>(List.nodup_cons.mp nd).1 (List.of_mem_zip hv).1,if_neg hk]
  simp
 | p :: P,w :: vs,i + 1,m,nd,h1,h2,hk=>by
  show bindC kindOf ((p,w) :: P.zip vs) m x=_
  unfold bindC
  exact zgB (i:=i) (List.nodup_cons.mp nd).2 (by simpa using h1) (by simpa using h2) hk
noncomputable def start (N:List Str) (vs:List V):St:=vs.map some ++ List.replicate (N.length - vs.length) none
noncomputable def cxOf (CX:CXT) (P:Program) (w:World) (K:PySem.W.Frag) (mg:Str→Option Value) (base:Heap) (N:List Str) (qual:Str) (scope:Scope) (f:Addr) (cd:Value) (A:Around) (outer:List Env) (s:Shared) (H:Hp) (E:XK):Cx where
 prog:=P
 w:=w
 K:=K
 mg:=mg
 base:=base
 A:=A.deeper (envOfC qual scope s.heap.objs.size f cd)
 N:=N
 s₀:=s
 H₀:=H
 env:=envOfC qual scope s.heap.objs.size f cd
 outer:=outer
 stack:=envOfC qual scope s.heap.objs.size f cd :: outer
 ex:=[]
 calm:=true
 fn:=fun _=>true
 pn:=[]
 xe:=fun e s'=>wpAny (model P w) (A.deeper (envOfC qual scope s.heap.objs.size f cd)) (leaving (envOfC qual scope s.heap.objs.size f cd) e) (fun _ s''=>CX outer H s E e s'') (fun e' s''=>CX outer H s E e' s'') s'
theorem ziI {sc:Scope} {n:Nat} {x:Str} (h:sc.names.lookup x=some .cell):∃ c,(cellsFrom n sc.names []).lookup x=some c:=by
 have q:=PySem.W.cellsFrom_some sc.names n [] (.inl h)
 exact Option.isSome_iff_exists.mp q
theorem zkR {CX:CXT} {P:Program} {w:World} {K:PySem.W.Frag} {mg:Str→Option Value} {base:Heap} {N ps:List Str} {qual:Str} {scope:Scope} {f:Addr} {cd:Value} {A:Around} {outer:List Env} {s s1:Shared} {H:Hp} {E:XK} {us:List Value} {vs:List V}
  (S:FnScope N ps scope) (hd:A.handled=none) (e0:Env0 P w K mg base A outer s H) (hl:vs.length=ps.length) (r:Vals vs us)
  (x:InCallC s s.heap.objs.size (bindL (envOfC qual scope s.heap.objs.size f cd).kindOf (ps.zip us) fun _=>none) (cellsFrom (s.heap.objs.size + 1) scope.names []) (bindC (envOfC qual scope s.heap.objs.size f cd).kindOf (ps.zip us) fun _=>none) s1) :
  Inv (cxOf CX P w K mg base N qual scope f cd A outer s H E) [] (start N vs) H s1:=by
 have hpl:ps.length≤N.length:=by have:=congrArg List.length S.pre;rw [List.length_take] at this;lia
 obtain⟨h1,tk,rfl,hk⟩:=x.done
 have noA:∀ b:Addr,b∉(cxOf CX P w K mg base N qual scope f cd A outer s H E).ex:=fun b z=>absurd (show b∈([]:List Addr) from z) (by simp)
 refine ⟨⟨e0.mod,S.kind,rfl,rfl,Nat.le_refl _,fun y z c h1 h2=>?_,fun y hy=>?_,fun y c _ h=>?_,fun _=>hd,Around.frames_deeper e0.frames,.inr ⟨rfl,rfl⟩,fun b z=>absurd z (noA b),e0.bs,e0.bsz,fun b _ _=>noA b,fun b z=>absurd z (noA b),e0.funs,e0.frf⟩,
  rfl,e0.bare,Un.kept hk,⟨_,x.toInCall.ns,fun i y v h1 h2 h3=>?_⟩,fun y c h=>⟨_,x.cell y c h⟩,e0.hok.fresh (Nat.le_refl _),fun y c h=>?_,fun p hp=>absurd (show p∈([]:List (Addr×Obj)) from hp) (by simp),e0.hok.kept hk,?_⟩
 ·exact name_of_addr x.apart (PySem.mem_of_lookup h1) (PySem.mem_of_lookup h2)
 ·have hy:scope.names.lookup y=some .cell∨scope.names.lookup y=some .free:=hy
  rcases hy with hy | hy
  ·exact ziI hy
  ·exact absurd rfl (S.nofree _ (PySem.mem_of_lookup hy))
 ·exact Nat.le_of_lt (x.above y c (PySem.mem_of_lookup h))
 ·have hi:i < vs.length:=by
   unfold start at h2
   by_cases hi:i < vs.length
   ·exact hi
   ·rw [List.getElem?_append_right (by simpa using hi)] at h2
    rw [List.getElem?_replicate] at h2
    split at h2 <;> cases h2
  have ha:vs[i]? = some v:=by
   unfold start at h2
   rw [List.getElem?_append_left (by simpa using hi),List.getElem?_map] at h2
   cases e:vs[i]? with
   | none=>rw [e] at h2;cases h2
   | some a=>rw [e] at h2;cases h2;rfl
  obtain⟨u,hu,rv⟩:=r.get ha
  have hp:ps[i]? = some y:=by
   rw [← S.pre,List.getElem?_take_of_lt (by lia)];exact h1
  have ndP:ps.Nodup:=by rw [← S.pre];exact S.nd.sublist (List.take_sublist _ _)
  refine ⟨u,rv,?_⟩
  rcases S.par y (List.mem_of_getElem? hp) with k | k
  ·exact .inl ⟨k,zgz ndP hp hu k⟩
  ·obtain⟨c,e⟩:=ziI (n:=s.heap.objs.size + 1) k
   refine .inr ⟨.inl k,c,e,?_⟩
   have q:=x.cell y c e
   rw [zgB ndP hp hu (by show scope.names.lookup y≠_;rw [k];decide)] at q
   exact q
 ·exact e0.hok.fresh (Nat.le_of_lt (x.above y c (PySem.mem_of_lookup h)))
 ·unfold start
  show _=N.length
  rw [List.length_append,List.length_map,List.length_replicate]
  lia
theorem zrj {CX:CXT} {P:Program} {w:World} {K:PySem.W.Frag} {mg:Str→Option Value} {base:Heap} {k:Nat} {f:Addr} {name qual:Str} {params:Arguments} {body:List Stmt} {scope:Scope} {dV kV doc pm cdv ct oc:Value} {an od:Option Addr}
  {osl:Array (Option Value)} {N ps:List Str} {sp:Sp} (lk:K.lookup f=some ⟨oc,od,.func (PySem.W.fnOf name qual params body scope dV kV doc pm an cdv ct),osl⟩) (hcd:PySem.W.codeIn K cdv qual=true) (S:FnScope N ps scope)
  (len:∀ vs H Q E,sp vs H Q E→vs.length=ps.length)
  (hbody:∀ (A:Around) (outer:List Env) (s:Shared) (H:Hp) (vs:List V) (Q:VK) (E:XK),Room k (A.deeper (envOfC qual scope s.heap.objs.size f cdv))→sp vs H Q E →
   ∃ t,PSs (cxOf CX P w K mg base N qual scope f cdv A outer s H E) body t∧t { nx:=fun _ H'=>Q .non H',rt:=Q } (start N vs) H) :
  FnOk P w K mg base CX (k + 1) f (PySem.W.fnOf name qual params body scope dV kV doc pm an cdv ct) ps sp:=by
 refine ⟨len,fun A outer s H args us vs Q E hr e0 hb r hsp=>?_⟩
 have hl:=len _ _ _ _ hsp
 have KX:K.In s.heap:=e0.mod.kin.keeps fun b o e=>(e0.bs b o e).1
 have lim:s.heap.NoLimit:=e0.mod.nolimit.keeps fun b o e=>(e0.bs b o e).1
 have hkind:∀ y∈ps.zip us,scope.names.lookup y.1=some .local∨(scope.names.lookup y.1=some .cell∧((cellsFrom (s.heap.objs.size + 1) scope.names []).lookup y.1).isSome=true):=fun ⟨n,v⟩ hy=>by
  rcases S.par n (List.of_mem_zip hy).1 with q | q
  ·exact .inl q
  ·exact .inr ⟨q,PySem.W.cellsFrom_some _ _ _ (.inl q)⟩
 refine codeAny_call_function hr.depth (KX _ _ lk) rfl S.co S.gen rfl (PySem.W.codeRec_of KX hcd) (hb _ _ _ _ ?_)
 refine wpAny_newFunctionEnv_cells S.kind hkind fun env he s1 x=>?_
 subst he
 refine ⟨lim.keeps x.toInCall.keep,codeAny_func ?_⟩
 obtain⟨t,ht,hq⟩:=hbody A outer s H vs Q E (hr.deeper _) hsp
 have I:Inv (cxOf CX P w K mg base N qual scope f cdv A outer s H E) [] (start N vs) H s1:=zkR S hr.hd e0 hl r x
 refine wpAny_mono (ht [] s1 (start N vs) H _ I hq) (fun fl s' hs=>?_) fun e s' hs=>hs
 have fin:∀ {σ':St} {H':Hp} {v:V} {u:Value},Inv (cxOf CX P w K mg base N qual scope f cdv A outer s H E) [] σ' H' s'→RelV v u→Q v H'→CE outer P w H s Q u s':=
  fun {σ' H' v u} J rv q=>⟨v,H',J.os,J.bare,J.base,J.hok,rv,q⟩
 cases fl with
 | ret u =>
  obtain⟨v,σ',H',J,rv,q⟩:=hs
  exact fin J rv q
 | next =>
  obtain⟨σ',H',J,q⟩:=hs
  exact fin (v:=V.non) (u:=Value.none) J rfl q
 | brk =>
  obtain⟨_,_,_,q⟩:=hs
  exact False.elim q
 | cont =>
  obtain⟨_,_,_,q⟩:=hs
  exact False.elim q
end L2
namespace L2
open PySem PySem.Spec PyProof.Rows
section
variable {X:Cx} {x:Str} {p pos:Pos} {e:Expr} {es:List Expr} {t:TA} {id T:String} {r:List V→Hp→VK→Prop}
def tCB (r:List V→Hp→VK→Prop) (t:TA):TE:=fun σ H Q=>t σ H fun vs H1=>r vs H1 Q
theorem zie (hc:zb2 X (.builtin id) r) (hg:Gl X x) (hm:X.mg x=none) (hv:bootBuiltins x=some (.builtin id)) (ha:PA X (e :: es) t) (hn:x ≠ "__name__" := by decide) (hdb:(x == ("__debug__" : Str))=false:=by decide)
  (he:starEach (e :: es) X.env=(false,eval e X.env) :: starEach es X.env:=by rfl) (hpl:(backTo pos (starEach es X.env)).any (·.1)=false:=by rfl):PE X (.Call (.Name x p) (e :: es) [] pos) (tCB r t):=by
 intro pins s σ H Q I h
 refine wpAny_Call_Name_kw (zdc I hg hm hv ?_ hn hdb)
 exact PyProof.Rows.callWith_builtin1 (thn (ha pos pins s σ H _ I h) fun us s1 ⟨vs,H1,I1,r1,q1⟩=>hc pins s1 σ H1 vs us Q I1 r1 q1) he hpl
theorem zkl (hc:zb2 X (.type T) r) (hg:Gl X x) (hm:X.mg x=none) (hv:bootBuiltins x=some (.type T)) (ha:PA X (e :: es) t) (hn:x ≠ "__name__" := by decide) (hdb:(x == ("__debug__" : Str))=false:=by decide)
  (he:starEach (e :: es) X.env=(false,eval e X.env) :: starEach es X.env:=by rfl) (hpl:(backTo pos (starEach es X.env)).any (·.1)=false:=by rfl):PE X (.Call (.Name x p) (e :: es) [] pos) (tCB r t):=by
 intro pins s σ H Q I h
 refine wpAny_Call_Name_kw (zdc I hg hm hv ?_ hn hdb)
 exact PyProof.Rows.callWith_type1 (thn (ha pos pins s σ H _ I h) fun us s1 ⟨vs,H1,I1,r1,q1⟩=>hc pins s1 σ H1 vs us Q I1 r1 q1) he hpl
end
end L2
namespace HT
open PySem PyProof.Rows
theorem rcLt_int (A:Around) (s:Shared) (a:Int) (t:Tok) (c:Int) (u:Tok) (prog:Program) (w:World) (E:Value→Shared→Prop) (Q:Value→Shared→Prop) (h:Q (.bool (decide (a < c))) s) :
  wpAny (model prog w) A (richCompare .Lt (.int a t) (.int c u)) Q E s:=
 (PyProof.Rows.lt_int h:wpAny (model prog w) A (compareOp .Lt (.int a t) (.int c u)) Q E s)
section
open PySem.SeqAt
open PySem.AutoSeq1 (wpAny_loadPart')
open PySem.MeetsSeq PySem.MeetsSeq2 PySem.MeetsSeq3
end
section
variable {prog:Program} {w:World} {A:Around} {E:Value→Shared→Prop} {s:Shared}
noncomputable def sIx (n d:Nat):Option Int→Nat
 | none=>d
 | some v=>if v < 0 then (v + (n:Int)).toNat else min v.toNat n
theorem sIx_none (n d:Nat):sIx n d none=d:=rfl
theorem sIx_nat (n d k:Nat):sIx n d (some (k:Int))=min k n:=by
 show (if (k:Int) < 0 then ((k:Int) + (n:Int)).toNat else min (k:Int).toNat n)=min k n
 rw [if_neg (by lia),Int.toNat_natCast]
theorem pick_gen (xs:Array Value) (i k:Nat):((List.range k).filterMap fun (m:Nat)=>xs[((i:Int) + (m:Int) * 1).toNat]?).toArray=((xs.toList.drop i).take k).toArray:=by
 have e:(fun (m:Nat)=>xs[((i:Int) + (m:Int) * 1).toNat]?)=fun m=>xs[i + m]?:=by
  funext m
  have:((i:Int) + (m:Int) * 1).toNat=i + m:=by lia
  rw [this]
 rw [e]
 have:=pick_run xs i k
 rw [List.filterMap_map] at this
 have e2:((fun x=>xs[x]?) ∘ fun x=>i + x)=fun m=>xs[i + m]?:=rfl
 rw [e2] at this
 rw [this]
end
end HT
namespace L2
open PySem PySem.Spec PyProof.Rows
noncomputable abbrev TO:=St→Hp→(Option Int→Hp→Prop)→Prop
def PO (X:Cx) (e:Option Expr) (t:TO):Prop:=
 ∀ (pins:List (Addr×Obj)) (s:Shared) (σ:St) (H:Hp) (Q:Option Int→Hp→Prop),Inv X pins σ H s→t σ H Q →
  wpAny (model X.prog X.w) X.A (evalPart e X.env) (fun u s'=>∃ o H',Inv X pins σ H' s'∧IsPart u o∧Q o H') X.xe s
def zm3:TO:=fun _ H Q=>Q none H
def zqu (t:TE):TO:=fun σ H Q=>t σ H fun x H1=>∃ i,x=.int i∧Q (some i) H1
theorem zjo {ns:List Int}:∀ {us:List Value},Vals (ns.map V.int) us→IntsAre us ns:=by
 induction ns with
 | nil=>intro us r;rw [List.map_nil] at r;cases r;exact .nil
 | cons n ns ih =>
  intro us r
  rw [List.map_cons] at r
  cases r with
  | cons r1 r2 =>
   obtain⟨t,e⟩:=r1
   subst e
   exact .cons n t (ih r2)
section
variable {X:Cx} {e:Expr} {te:TE} {lo hi:Option Expr} {tl th:TO} {pos p2:Pos}
theorem zns:PO X none zm3:=by
 intro pins s σ H Q I h
 rw [evalPart_none]
 exact wpAny_pure ⟨none,H,I,.none,h⟩
theorem znr (h:PE X e te):PO X (some e) (zqu te):=by
 intro pins s σ H Q I hw
 rw [evalPart_some]
 refine thn (h pins s σ H _ I hw) fun u s1 ⟨x,H1,I1,r1,q1⟩=>?_
 obtain⟨i,rfl,q⟩:=q1
 obtain⟨t,rfl⟩:=r1
 exact⟨some i,H1,I1,.int i t,q⟩
def SlR (X:Cx) (r:V→Option Int→Option Int→Hp→VK→Prop):Prop:=
 ∀ (pins:List (Addr×Obj)) (s:Shared) (σ:St) (H:Hp) (x:V) (v vl vu:Value) (lo hi:Option Int) (sl:Addr) (Q:VK),Inv X pins σ H s→RelV x v→s.heap.IsSliceOf sl vl vu .none→IsPart vl lo→IsPart vu hi→r x lo hi H Q →
  ∃ T id,typeLookup (.type T) "__getitem__" = pure (some (.builtin id))∧s.TypeIs v T∧wpAny (model X.prog X.w) X.A (getItem v (.ref sl)) (EP X pins σ Q) X.xe s
def tSl (r:V→Option Int→Option Int→Hp→VK→Prop) (te:TE) (tl th:TO):TE:=fun σ H Q=>te σ H fun x H1=>tl σ H1 fun l H2=>th σ H2 fun u H3=>r x l u H3 Q
theorem zlL {r:V→Option Int→Option Int→Hp→VK→Prop} (hr:SlR X r) (he:PE X e te) (hl:PO X lo tl) (hu:PO X hi th):PE X (.Subscript e (.Slice lo hi none p2) pos) (tSl r te tl th):=by
 intro pins s σ H Q I h
 refine Subscript_ (thn (he pins s σ H _ I h) fun v s1 ⟨x,H1,I1,r1,q1⟩=>?_)
 refine wpAny_Slice (thn (hl pins s1 σ H1 _ I1 q1) fun vl s2 ⟨l,H2,I2,pl,q2⟩=>thn (hu pins s2 σ H2 _ I2 q2) fun vu s3 ⟨u,H3,I3,pu,q3⟩=>?_)
 rw [evalPart_none]
 refine wpAny_pure ?_
 have I4:Inv X pins σ H3 { s3 with heap:=s3.heap.push { cls:=.type "slice", data:=.fields #[vl,vu,.none] } }:=I3.kept (t':=s3.toks) fun b ob q=>Heap.get?_push_of_some _ q
 obtain⟨T,id,hT,ht,hg⟩:=hr pins { s3 with heap:=s3.heap.push { cls:=.type "slice", data:=.fields #[vl,vu,.none] } } σ H3 x v vl vu l u s3.heap.objs.size Q I4 r1 (Heap.IsSliceOf.new ..) pl pu q3
 show wpAny (model X.prog X.w) X.A (subscriptTail e (.Slice lo hi none p2) v (.ref s3.heap.objs.size)) (EP X pins σ Q) X.xe { s3 with heap:=s3.heap.push { cls:=.type "slice", data:=.fields #[vl,vu,.none] } }
 exact tail_any (ops:=[.ref s3.heap.objs.size,v]) ht hT hg (by with_unfolding_all rfl)
noncomputable def cutV (xs:List V) (lo hi:Option Int):List V:=(xs.drop (HT.sIx xs.length 0 lo)).take (HT.sIx xs.length xs.length hi - HT.sIx xs.length 0 lo)
theorem zhn (xs:List V) (lo hi:Option Int):(cutV xs lo hi).length≤xs.length:=by
 unfold cutV
 rw [List.length_take,List.length_drop]
 lia
end
end L2
namespace L2
open PySem PySem.Spec PyProof.Rows
noncomputable def ixN (n:Nat) (i:Int):Option Nat:=if 0≤i then (if i < n then some i.toNat else none) else if -(n:Int)≤i then some (i + n).toNat else none
noncomputable def atI {α:Type} (xs:List α) (i:Int):Option α:=(ixN xs.length i).bind fun j=>xs[j]?
theorem zhj {n:Nat} {i:Int} {j:Nat} (h:ixN n i=some j):seqIndex? i n=some j∧j < n∧-(n:Int)≤i∧i < n:=by
 unfold ixN at h
 by_cases h0:0≤i
 ·rw [if_pos h0] at h
  by_cases h1:i < n
  ·rw [if_pos h1] at h
   have e:i.toNat=j:=Option.some.inj h
   exact⟨by rw [seqIndex_of h0 h1,e],by lia,by lia,h1⟩
  ·rw [if_neg h1] at h;cases h
 ·rw [if_neg h0] at h
  by_cases h1:-(n:Int)≤i
  ·rw [if_pos h1] at h
   have e:(i + n).toNat=j:=Option.some.inj h
   exact⟨by rw [seqIndex_neg (by lia) h1,e],by lia,h1,by lia⟩
  ·rw [if_neg h1] at h;cases h
theorem zlg {α:Type} {xs:List α} {i:Int} {v:α} (h:atI xs i=some v):∃ j,seqIndex? i xs.length=some j∧xs[j]? = some v∧j < xs.length∧-(xs.length:Int)≤i∧i < xs.length:=by
 unfold atI at h
 cases e:ixN xs.length i with
 | none=>rw [e] at h;cases h
 | some j =>
  rw [e] at h
  obtain⟨h1,h2,h3,h4⟩:=zhj e
  exact⟨j,h1,h,h2,h3,h4⟩
def zeI (b:Expr):Prop:=∀ o i,subscripted b false o i=operate [o,i] (getItem o i)
def IxR (X:Cx) (r:R2):Prop:=
 ∀ (value slice:Expr) (pins:List (Addr×Obj)) (s:Shared) (σ:St) (H:Hp) (x y:V) (v u:Value) (Q:VK),Inv X pins σ H s→RelV x v→RelV y u→r x y H Q →
  subscripted slice false v u=operate [v,u] (getItem v u)→wpAny (model X.prog X.w) X.A (subscriptTail value slice v u) (EP X pins σ Q) X.xe s
def MtR (X:Cx) (id:String) (r:V→List V→Hp→VK→Prop):Prop:=
 ∀ (pins:List (Addr×Obj)) (s:Shared) (σ:St) (H:Hp) (x:V) (xs:List V) (v:Value) (us:List Value) (Q:VK),Inv X pins σ H s→RelV x v→Vals xs us→r x xs H Q →
  wpAny (model X.prog X.w) X.A (call (.builtin id) (v :: us)) (EP X pins σ Q) X.xe s
section
variable {X:Cx} {a b:Expr} {ta tb:TE} {pos:Pos}
theorem zlM {r:R2} (hr:IxR X r) (ha:PE X a ta) (hb:PE X b tb) (hs:zeI b):PE X (.Subscript a b pos) (tOp r ta tb):=by
 intro pins s σ H Q I h
 exact Subscript_ (binT ha hb I h fun v u s2 x y H2 I2 rx ry q=>hr a b pins s2 σ H2 x y v u Q I2 rx ry q (hs _ _))
def rIxL (K:PySem.W.Frag):R2:=fun x y H Q=>∃ p xs i v,x=.ref p∧y=.int i∧SqL K H p xs∧atI xs i=some v∧Q v H
def rIxT (K:PySem.W.Frag):R2:=fun x y H Q=>∃ p xs i v,x=.ref p∧y=.int i∧SqT K H p xs∧atI xs i=some v∧Q v H
theorem zep:IxR X (rIxL X.K):=by
 intro value slice pins s σ H x y v u Q I rx ry h hs
 obtain⟨p,xs,i,z,rfl,rfl,hq,he,q⟩:=h
 cases rx
 obtain⟨t,rfl⟩:=ry
 obtain⟨its,r,pl,hz⟩:=I.list hq
 obtain⟨j,h1,h2,h3,h4,h5⟩:=zlg he
 obtain⟨w,ew,rw'⟩:=r.get h2
 have hl:=r.length
 have hn:=zgg
 have fin:EP X pins σ Q w s:=⟨z,H,I,rw',q⟩
 by_cases h0:0≤i
 ·have hj:i.toNat=j:=by
   rw [seqIndex_of h0 h5] at h1
   exact Option.some.inj h1
  exact item_listR pl.isList h0 (by lia) (by rw [hj];simpa using ew) fin hs
 ·have hj:(i + (its.toArray.size:Int)).toNat=j:=by
   rw [seqIndex_neg (by lia) h4] at h1
   rw [List.size_toArray,← hl]
   exact Option.some.inj h1
  exact subscriptTail_builtinR (x:=w) pl.isList.typeIs slot_list_getitem.lookup
   (wpAny_getItem_list_neg (Q:=fun r s'=>r=w∧EP X pins σ Q r s') pl.isList (by lia) (by rw [List.size_toArray] <;> lia) (by lia) (by rw [hj];simpa using ew) ⟨rfl,fin⟩) hs
theorem zpz:IxR X (rIxT X.K):=by
 intro value slice pins s σ H x y v u Q I rx ry h hs
 obtain⟨p,xs,i,z,rfl,rfl,hq,he,q⟩:=h
 cases rx
 obtain⟨t,rfl⟩:=ry
 obtain⟨its,r,pl,hz⟩:=I.tuple hq
 obtain⟨j,h1,h2,h3,h4,h5⟩:=zlg he
 obtain⟨w,ew,rw'⟩:=r.get h2
 have hl:=r.length
 have hn:=zgg
 have fin:EP X pins σ Q w s:=⟨z,H,I,rw',q⟩
 exact subscriptTail_builtinR (x:=w) pl.typeIs slot_tuple_getitem.lookup
  (getItem_tuple (j:=j) (Q:=fun r s'=>r=w∧EP X pins σ Q r s') pl (by lia) (by lia) (by rw [List.size_toArray,← hl];exact h1) (by simpa using ew) ⟨rfl,fin⟩) hs
theorem zjh (its:List Value) (n j:Nat) (u:Value):Obj.mapSeq (·.setIfInBounds j u) { cls:=.type "list", data:=.seq its.toArray n } = { cls:=.type "list", data:=.seq (its.set j u).toArray n }:=by
 simp [Obj.mapSeq]
theorem Inv.lst {pins:List (Addr×Obj)} {σ:St} {H:Hp} {s:Shared} {p:Addr} {xs:List V} (I:Inv X pins σ H s) (h:H p=some (.lst xs)) :
  ∃ (its:List Value) (n:Nat),Vals xs its∧s.heap.get? p=some { cls:=.type "list", data:=.seq its.toArray n }∧xs.length≤sizeLine:=by
 obtain⟨z,its,n,r,e⟩:=I.hok p _ h
 exact⟨its,n,r,e,z⟩
theorem Inv.lstUpd {pins:List (Addr×Obj)} {σ:St} {H:Hp} {s:Shared} {p:Addr} {xs ys:List V} {its its':List Value} {n n':Nat} {f:Obj→Obj} (I:Inv X pins σ H s) (h:H p=some (.lst xs))
  (ho:s.heap.get? p=some { cls:=.type "list", data:=.seq its.toArray n }) (hf:f { cls:=.type "list", data:=.seq its.toArray n } = { cls:=.type "list", data:=.seq its'.toArray n' }) (r:Vals ys its') (hz:ys.length≤sizeLine) (t:Nat) :
  Inv X pins σ (upd H p (.lst ys)) { s with heap:=s.heap.update p f,toks:=t }:=by
 have e:(s.heap.update p f).get? p=some { cls:=.type "list", data:=.seq its'.toArray n' }:=by
  rw [Heap.get?_update_self f ho (by rw [hf] <;> rfl),hf]
 refine I.write (x:=p) (e:=p) (by rw [h];trivial) (.inl rfl) (fun b u hb q=>(Heap.get?_update_other _ _ (Ne.symm hb)).trans q) ⟨_,e⟩ ?_
 exact⟨hz,its',n',r,e⟩
noncomputable def zoS:V→V→V→Hp→(Hp→Prop)→Prop:=fun o i v H Q=>∃ p xs k j,o=.ref p∧i=.int k∧H p=some (.lst xs)∧ixN xs.length k=some j∧Q (upd H p (.lst (xs.set j v)))
theorem zh8:PSet X zoS:=by
 intro pins s σ H o i v ov iv u Q I ro ri rv h
 obtain⟨p,xs,k,j,rfl,rfl,hp,hj,q⟩:=h
 cases ro
 obtain⟨t,rfl⟩:=ri
 obtain⟨its,n,r,ho,hz⟩:=I.lst hp
 obtain⟨h1,h2,h3,h4⟩:=zhj hj
 have hl:=r.length
 have hn:=zgg
 have I':Inv X pins σ (upd H p (.lst (xs.set j v))) { s with heap:=s.heap.update p (Obj.mapSeq (·.setIfInBounds j u)) }:=
  I.lstUpd hp ho (zjh its n j u) (r.set rv j) (by rw [List.length_set];exact hz) s.toks
 by_cases h0:0≤k
 ·have hk:k.toNat=j:=by
   rw [seqIndex_of h0 h4] at h1
   exact Option.some.inj h1
  exact PySem.W.ki_setAt ho h0 (by lia) (by rw [List.size_toArray,← hl];exact h4) (by rw [hk];exact⟨_,I',q⟩)
 ·have hk:(k + (its.toArray.size:Int)).toNat=j:=by
   rw [seqIndex_neg (by lia) h3] at h1
   rw [List.size_toArray,← hl]
   exact Option.some.inj h1
  exact PySem.W.ki_setBack ho (by lia) (by rw [List.size_toArray,← hl];exact h3) (by lia) (by rw [hk];exact⟨_,I',q⟩)
theorem zf5 (lo hi:Option Int) (n:Nat):(sliceBounds lo hi none n).1=((HT.sIx n 0 lo:Nat):Int)∧(sliceBounds lo hi none n).2.1=((HT.sIx n n hi:Nat):Int)∧(sliceBounds lo hi none n).2.2=1:=by
 refine ⟨?_,?_,rfl⟩
 ·cases lo with
  | none=>simp [sliceBounds,HT.sIx]
  | some i =>
   simp only [sliceBounds,HT.sIx,Option.getD_none,show (1:Int) > 0 by decide,if_true]
   by_cases h:i < 0
   ·simp only [h,if_true] <;> lia
   ·simp only [h,if_false] <;> lia
 ·cases hi with
  | none=>simp [sliceBounds,HT.sIx]
  | some i =>
   simp only [sliceBounds,HT.sIx,Option.getD_none,show (1:Int) > 0 by decide,if_true]
   by_cases h:i < 0
   ·simp only [h,if_true] <;> lia
   ·simp only [h,if_false] <;> lia
theorem zfw (its:List Value) (lo hi:Option Int):slicePick its.toArray lo hi none=((its.drop (HT.sIx its.length 0 lo)).take (HT.sIx its.length its.length hi - HT.sIx its.length 0 lo)).toArray:=by
 obtain⟨h1,h2,h3⟩:=zf5 lo hi its.toArray.size
 unfold slicePick
 rw [h1,h2,h3]
 simp only [sliceRange_one,pick_run,List.size_toArray] <;> rfl
noncomputable def rSlL (K:PySem.W.Frag):V→Option Int→Option Int→Hp→VK→Prop:=fun x lo hi H Q=>∃ a xs,x=.ref a∧SqL K H a xs∧∀ p,H p=none→Q (.ref p) (upd H p (.lst (cutV xs lo hi)))
theorem zm6:SlR X (rSlL X.K):=by
 intro pins s σ H x v vl vu lo hi sl Q I rx hs pl pu h
 obtain⟨a,xs,rfl,hx,q⟩:=h
 cases rx
 obtain⟨its,r,ht,hz⟩:=I.list hx
 have hlen:=r.length
 refine ⟨"list", _,slot_list_getitem.lookup,ht.isList.typeIs,?_⟩
 refine wpAny_getItem_list_slice ht.isList hs pl pu .none (by simp) ?_ (by rw [List.size_toArray] <;> lia)
 rw [zfw,← hlen]
 refine ⟨.ref s.heap.objs.size,_,I.laid (t':=s.toks) (o:=.lst (cutV xs lo hi)) (fun b ob q=>Heap.get?_push_of_some _ q) (Nat.le_refl _) ?_,rfl,q _ (I.hok.fresh (Nat.le_refl _))⟩
 exact⟨Nat.le_trans (zhn xs lo hi) hz,_,0,(r.drop (HT.sIx xs.length 0 lo)).take (HT.sIx xs.length xs.length hi - HT.sIx xs.length 0 lo),Heap.get?_push_size _ rfl⟩
noncomputable def zdN:V→Bool
 | .non=>true
 | .bl _=>true
 | .int _=>true
 | .str _=>true
 | _=>false
noncomputable def eqV:V→V→Bool
 | .non,.non=>true
 | .bl a,.bl b=>a == b
 | .bl a,.int b=>(if a then 1 else 0) == b
 | .int a,.bl b=>a == (if b then 1 else 0)
 | .int a,.int b=>a == b
 | .str a,.str b=>a == b
 | _,_=>false
theorem zpI {A:Around} {s:Shared} {y x:V} {u v:Value} (ry:RelV y u) (rx:RelV x v) (fy:zdN y=true) (fx:zdN x=true):SeqAt.EqAt A s u v (eqV y x):=by
 cases y with
 | non =>
  cases ry
  cases x with
  | non=>cases rx;exact SeqAt.EqAt.same _
  | bl b=>cases rx;exact SeqAt.EqAt.none_bool b
  | int b=>obtain⟨t,rfl⟩:=rx;exact SeqAt.EqAt.none_int b t
  | str b=>obtain⟨t,rfl⟩:=rx;exact SeqAt.EqAt.none_str b t
  | _=>exact absurd (show false=true from fx) Bool.false_ne_true
 | bl a =>
  cases ry
  cases x with
  | non=>cases rx;exact SeqAt.EqAt.bool_none a
  | bl b=>cases rx;exact SeqAt.EqAt.bool_bool a b
  | int b=>obtain⟨t,rfl⟩:=rx;exact SeqAt.EqAt.bool_int a b t
  | str b=>obtain⟨t,rfl⟩:=rx;exact SeqAt.EqAt.bool_str a b t
  | _=>exact absurd (show false=true from fx) Bool.false_ne_true
 | int a =>
  obtain⟨t',rfl⟩:=ry
  cases x with
  | non=>cases rx;exact SeqAt.EqAt.int_none a t'
  | bl b=>cases rx;exact SeqAt.EqAt.int_bool a t' b
  | int b=>obtain⟨t,rfl⟩:=rx;exact SeqAt.EqAt.int_int a t' b t
  | str b=>obtain⟨t,rfl⟩:=rx;exact SeqAt.EqAt.int_str a t' b t
  | _=>exact absurd (show false=true from fx) Bool.false_ne_true
 | str a =>
  obtain⟨t',rfl⟩:=ry
  cases x with
  | non=>cases rx;exact SeqAt.EqAt.str_none a t'
  | bl b=>cases rx;exact SeqAt.EqAt.str_bool a t' b
  | int b=>obtain⟨t,rfl⟩:=rx;exact SeqAt.EqAt.str_int a t' b t
  | str b=>obtain⟨t,rfl⟩:=rx;exact SeqAt.EqAt.str_str a t' b t
  | _=>exact absurd (show false=true from fx) Bool.false_ne_true
 | _=>exact absurd (show false=true from fy) Bool.false_ne_true
theorem zgw:zb2 X (.builtin "len") (fun xs H Q=>∃ p ys,xs=[.ref p]∧(SqL X.K H p ys∨SqT X.K H p ys)∧Q (.int ys.length) H):=by
 intro pins s σ H xs us Q I r h
 obtain⟨p,ys,rfl,hq,q⟩:=h
 obtain⟨u,rfl,rx⟩:=zjM r
 cases rx
 have hn:=zgg
 rcases hq with hq | hq
 ·obtain⟨its,r',pl,hz⟩:=I.list hq
  have hlen:=r'.length
  exact Calls.call_len_list pl.isList (by simp only [List.size_toArray] <;> lia) ⟨.int ys.length,H,I.tok _,⟨s.toks + 1,by rw [List.size_toArray,hlen]⟩,q⟩
 ·obtain⟨its,r',pl,hz⟩:=I.tuple hq
  have hlen:=r'.length
  exact len_tuple pl (by simp only [List.size_toArray] <;> lia) ⟨.int ys.length,H,I.tok _,⟨s.toks + 1,by rw [List.size_toArray,hlen]⟩,q⟩
theorem zgv:zb2 X (.type "list") (fun xs H Q=>∃ p ys,xs=[.ref p]∧(SqL X.K H p ys∨SqT X.K H p ys)∧∀ l,H l=none→Q (.ref l) (upd H l (.lst ys))):=by
 intro pins s σ H xs us Q I r h
 obtain⟨p,ys,rfl,hq,q⟩:=h
 obtain⟨u,rfl,rx⟩:=zjM r
 cases rx
 have fin:∀ (its:List Value),Vals ys its→ys.length≤sizeLine→∀ (h':Heap) (c':Nat),(∀ b o',s.heap.get? b=some o'→h'.get? b=some o') →
   h'.get? s.heap.objs.size=some { cls:=.type "list", dict:=none,data:=.seq its.toArray c',slots:=#[] }→EP X pins σ Q (.ref s.heap.objs.size) { s with heap:=h' }:=fun its r' hz h' c' kp e =>
  ⟨.ref s.heap.objs.size,_,I.laid (t':=s.toks) kp (Nat.le_refl _) (show zbS X.prog X.w _ h' _ (.lst ys) from ⟨hz,its,c',r',e⟩),rfl,q _ (I.hok.fresh (Nat.le_refl _))⟩
 rcases hq with hq | hq
 ·obtain⟨its,r',pl,hz⟩:=I.list hq
  have hlen:=r'.length
  obtain⟨o,ho,hc,n,hd⟩:=pl.isList
  exact call_list_seq p (.inl rfl) ho hc hd (fun h' c' kp e=>fin its r' hz h' c' kp e) (by simp only [List.size_toArray] <;> lia)
 ·obtain⟨its,r',pl,hz⟩:=I.tuple hq
  have hlen:=r'.length
  obtain⟨o,ho,hc,n,hd⟩:=pl
  exact call_list_seq p (.inr rfl) ho hc hd (fun h' c' kp e=>fin its r' hz h' c' kp e) (by simp only [List.size_toArray] <;> lia)
def tyV (K:PySem.W.Frag) (T:String) (x:V) (H:Hp):Prop:=match x with
 | .str _=>T = "str"
 | .int _=>T = "int"
 | .ref p=>(T = "list" ∧ ∃ xs,SqL K H p xs)∨(T = "tuple" ∧ ∃ o,K.lookup p=some o∧o.cls=.type "tuple" ∧ o.dict=none) ∨
   (T = "dict" ∧ ((∃ kvs,H p=some (.dK kvs))∨∃ kvs,H p=some (.dT kvs)))∨(T = "set" ∧ ∃ S n,H p=some (.set S n))
 | _=>False
theorem zoy {pins:List (Addr×Obj)} {σ:St} {H:Hp} {s:Shared} {T:String} {x:V} {v:Value} (I:Inv X pins σ H s) (r:RelV x v) (ty:tyV X.K T x H) :
  s.TypeIs v T∧∀ a,v=.ref a→∃ ob,s.heap.get? a=some ob∧ob.dict=none:=by
 cases x with
 | str z =>
  obtain⟨t,rfl⟩:=r
  cases (show T = "str" from ty)
  exact⟨typeIs_str s z t,fun _ e=>nomatch e⟩
 | int i =>
  obtain⟨t,rfl⟩:=r
  cases (show T = "int" from ty)
  exact⟨typeIs_int s i t,fun _ e=>nomatch e⟩
 | ref p =>
  cases r
  rcases ty with ⟨rfl,xs,hq⟩ | ⟨rfl,o,hk,hc,hd⟩ | ⟨rfl,hk⟩ | ⟨rfl,S,n,hk⟩
  ·obtain⟨its,_,pl,_⟩:=I.list hq
   refine ⟨pl.isList.typeIs,fun a e=>?_⟩
   cases e
   obtain⟨o,n,e,c,hd,_⟩:=pl
   exact⟨o,e,hd⟩
  ·refine ⟨⟨o,I.kIn p o hk,hc⟩,fun a e=>?_⟩
   cases e
   exact⟨o,I.kIn _ o hk,hd⟩
  ·have z:∃ o,s.heap.get? p=some o∧o.ExactDict:=by
    rcases hk with ⟨kvs,hk⟩ | ⟨kvs,hk⟩
    ·obtain⟨_,_,_,_,o,_,_,e,ex,_⟩:=I.hok p _ hk
     exact⟨o,e,ex⟩
    ·obtain⟨_,_,_,_,o,_,_,e,ex,_⟩:=I.hok p _ hk
     exact⟨o,e,ex⟩
   obtain⟨o,e,ex⟩:=z
   refine ⟨⟨o,e,ex.1⟩,fun a e2=>?_⟩
   cases e2
   exact⟨o,e,ex.2.1⟩
  ·obtain⟨o,_,_,_,e,ex,_⟩:=I.hok p _ hk
   refine ⟨⟨o,e,ex.1⟩,fun a e2=>?_⟩
   cases e2
   exact⟨o,e,ex.2.1⟩
 | _=>exact False.elim ty
def tBM (K:PySem.W.Frag) (T:String) (r:V→List V→Hp→VK→Prop) (to:TE) (t:TA):TE:=fun σ H Q=>to σ H fun x H1=>tyV K T x H1∧t σ H1 fun xs H2=>r x xs H2 Q
variable {o e:Expr} {es:List Expr} {to:TE} {t:TA} {name:Str} {apos cpos:Pos} {T id:String} {r:V→List V→Hp→VK→Prop}
theorem zg3 (pa:PlainAttrs T) (slot:Slot T name id) (hty:typeOf (.builtin id)=pure (.type "method_descriptor")) (hm:MtR X id r) (ho:PE X o to) (ha:PA X (e :: es) t)
  (hbase:attributeBase o name X.env (eval o X.env)=eval o X.env:=by rfl)
  (hfew:((backTo cpos (starEach (e :: es) X.env)).all (fun x=>!x.1) && (backToKw cpos (keywordEach [] X.env)).all (fun x=>x.1.isSome)
   && decide ((e :: es).length + ([]:List Keyword).length + (if ([]:List Keyword).isEmpty then 0 else 1) < 30))=true:=by rfl)
  (hline:(apos.endLine == cpos.line)=true:=by rfl) (hs:starEach (e :: es) X.env=(false,eval e X.env) :: starEach es X.env:=by rfl) (hplain:(backTo cpos (starEach es X.env)).any (·.1)=false:=by rfl) :
  PE X (.Call (.Attribute o name apos) (e :: es) [] cpos) (tBM X.K T r to t):=by
 intro pins s σ H Q I h
 refine wpAny_Call_method_late hbase hfew hline rfl (thn (ho pins s σ H _ I h) fun v s1 ⟨x,H1,I1,r1,ty,q1⟩=>?_)
 obtain⟨h1,h2⟩:=zoy I1 r1 ty
 refine ⟨T,id,pa,slot,hty,h1,h2,?_⟩
 have hA:=ha cpos pins s1 σ H1 _ I1 q1
 rw [hs] at hA ⊢
 refine Calls.callWith_builtin (by show (false || (backTo cpos (starEach es X.env)).any (·.1))=false;rw [hplain] <;> rfl) (Calls.evalArgs_plain ?_)
 exact thn hA fun us s2 ⟨vs,H2,I2,r2,q2⟩=>hm pins s2 σ H2 x vs v us Q I2 r1 r2 q2
end
end L2
namespace L2
open PySem PySem.Spec PyProof.Rows
def MtM (X:Cx) (id:String) (r:V→List V→Hp→VK→Prop):Prop:=
 ∀ (pins:List (Addr×Obj)) (s:Shared) (σ:St) (H:Hp) (x:V) (xs:List V) (v:Value) (us:List Value) (Q:VK),Inv X pins σ H s→RelV x v→Vals xs us→r x xs H Q →
  wpAny (model X.prog X.w) X.A (call (.builtin id) (v :: us)) (EP X pins σ Q) X.xe s
theorem Vals.one:∀ {x:V} {us:List Value},Vals [x] us→∃ u,us=[u]∧RelV x u:=by
 intro x us h
 cases h with
 | cons r t =>
  cases t
  exact⟨_,rfl,r⟩
theorem Vals.two:∀ {x y:V} {us:List Value},Vals [x,y] us→∃ u v,us=[u,v]∧RelV x u∧RelV y v:=by
 intro x y us h
 cases h with
 | cons r t =>
  obtain⟨v,rfl,q⟩:=Vals.one t
  exact⟨_,v,rfl,r,q⟩
theorem Vals.reverse {xs:List V} {us:List Value} (h:Vals xs us):Vals xs.reverse us.reverse:=by
 induction h with
 | nil=>exact .nil
 | cons r t ih=>rw [List.reverse_cons,List.reverse_cons];exact Vals.append ih (.cons r .nil)
theorem Vals.rep {xs:List V} {us:List Value} (h:Vals xs us):∀ k:Nat,Vals (List.replicate k xs).flatten (List.replicate k us).flatten
 | 0=>.nil
 | k + 1=>by
  rw [List.replicate_succ,List.replicate_succ,List.flatten_cons,List.flatten_cons]
  exact Vals.append h (Vals.rep h k)
theorem zgp (its:List Value):∀ (k:Nat) (acc:List Value),
  List.foldl (fun x1 x2=>x1 ++ x2) acc.toArray (List.replicate k its.toArray)=(acc ++ (List.replicate k its).flatten).toArray
 | 0,acc=>by simp
 | k + 1,acc=>by
  have e:acc.toArray ++ its.toArray=(acc ++ its).toArray:=by simp
  have e2:(acc ++ its) ++ (List.replicate k its).flatten=acc ++ (List.replicate (k + 1) its).flatten:=by
   rw [List.replicate_succ,List.flatten_cons,List.append_assoc]
  rw [← e2,← zgp its k (acc ++ its),← e,List.replicate_succ,List.foldl_cons]
section
variable {X:Cx} {pins:List (Addr×Obj)} {σ:St} {H:Hp} {s:Shared} {l b:Addr} {xs ys zs:List V}
theorem Inv.lset {its its':List Value} {n:Nat} {f:Array Value→Array Value} {t':Nat} (I:Inv X pins σ H s) (hH:H l=some (.lst xs))
  (e:s.heap.get? l=some { cls:=.type "list", data:=.seq its.toArray n }) (hf:f its.toArray=its'.toArray) (hv:Vals ys its') (hz:ys.length≤sizeLine) :
  Inv X pins σ (upd H l (.lst ys)) { s with heap:=s.heap.update l (Obj.mapSeq f),toks:=t' }:=by
 have q:=PySem.IsL.update e f
 rw [hf] at q
 refine I.write (x:=l) (e:=l) (by rw [hH];exact trivial) (.inl rfl) (fun b' u hb hu=>(Heap.get?_update_other s.heap (Obj.mapSeq f) (Ne.symm hb)).trans hu) ⟨_,q⟩ ?_
 exact⟨hz,its',_,hv,q⟩
theorem Inv.lnew {its:List Value} {t':Nat} (I:Inv X pins σ H s) (hv:Vals ys its) (hz:ys.length≤sizeLine) :
  Inv X pins σ (upd H s.heap.objs.size (.lst ys)) { s with heap:=s.heap.push { cls:=.type "list", data:=.seq its.toArray },toks:=t' }:=
 I.laid (fun _ _ q=>Heap.get?_push_of_some _ q) (Nat.le_refl _) ⟨hz,its,0,hv,Heap.get?_push_size _ rfl⟩
theorem Inv.fresh (I:Inv X pins σ H s):H s.heap.objs.size=none:=I.hok.fresh (Nat.le_refl _)
theorem Inv.lstM (I:Inv X pins σ H s) (hH:H l=some (.lst xs)):xs.length≤sizeLine∧∃ (its:List Value) (n:Nat),Vals xs its∧xs.length=its.length∧s.heap.get? l=some { cls:=.type "list", data:=.seq its.toArray n }:=by
 obtain⟨z,its,n,r,e⟩:=I.hok l _ hH
 exact⟨z,its,n,r,r.length,e⟩
theorem zik {n:Nat} (h:n≤sizeLine):Builtin.List.listTooLong n=false:=by
 unfold Builtin.List.listTooLong
 exact decide_eq_false (by lia)
end
section
variable {X:Cx}
noncomputable def znm:V→List V→Hp→VK→Prop:=fun x vs H Q=>∃ l xs y,x=.ref l∧vs=[y]∧H l=some (.lst xs)∧xs.length < sizeLine∧Q .non (upd H l (.lst (xs ++ [y])))
theorem zcq:MtM X "list.append" znm:=by
 intro pins s σ H x vs v us Q I rx rv h
 obtain⟨l,xs,y,rfl,rfl,hH,hz,q⟩:=h
 cases rx
 obtain⟨u,rfl,ru⟩:=rv.one
 obtain⟨z,its,n,r,hl,e⟩:=I.lstM hH
 refine call_meets F.slot_list_append ⟨_,e,rfl⟩ F.entry_list_append (F.args_list_append_2 _ _) (PySem.list_append l its.toArray n u (by rw [List.size_toArray];lia)) ⟨e,?_⟩
 refine ⟨.non,_,I.lset (its':=its ++ [u]) hH e (by simp) (r.append (.cons ru .nil)) ?_,rfl,q⟩
 rw [List.length_append,List.length_singleton]
 lia
noncomputable def znl:V→List V→Hp→VK→Prop:=fun x vs H Q=>∃ l b xs zs,x=.ref l∧vs=[.ref b]∧H l=some (.lst xs)∧H b=some (.lst zs)∧xs.length + zs.length≤sizeLine∧Q .non (upd H l (.lst (xs ++ zs)))
theorem zkA:MtM X "list.extend" znl:=by
 intro pins s σ H x vs v us Q I rx rv h
 obtain⟨l,b,xs,zs,rfl,rfl,hH,hB,hz,q⟩:=h
 cases rx
 obtain⟨u,rfl,ru⟩:=rv.one
 cases ru
 obtain⟨z,its,n,r,hl,e⟩:=I.lstM hH
 obtain⟨z2,its2,n2,r2,hl2,e2⟩:=I.lstM hB
 have hsz:its.toArray.size + its2.toArray.size≤sizeLine:=by rw [List.size_toArray,List.size_toArray];lia
 have hlong:¬ (!its.toArray.isEmpty && Builtin.List.listTooLong (its.toArray.size + its2.toArray.size))=true:=by
  rw [zik hsz,Bool.and_false]
  exact Bool.false_ne_true
 refine call_meets F.slot_list_extend ⟨_,e,rfl⟩ F.entry_list_extend (F.args_list_extend_2 _ _)
  (AutoSeq1.list_extend_list_list_0 l its.toArray n b its2.toArray n2 hlong (by rw [List.size_toArray];lia) (by lia)) ⟨e,e2,?_⟩
 refine ⟨.non,_,I.lset (its':=its ++ its2) hH e (by simp) (r.append r2) ?_,rfl,q⟩
 rw [List.length_append]
 lia
def rCat:R2:=fun x y H Q=>∃ l b xs zs,x=.ref l∧y=.ref b∧H l=some (.lst xs)∧H b=some (.lst zs)∧xs.length + zs.length≤sizeLine∧∀ p,H p=none→Q (.ref p) (upd H p (.lst (xs ++ zs)))
theorem zpb:OpR X (binaryOp .Add) rCat:=by
 intro pins s σ H x y v u Q I rx ry h
 obtain⟨l,b,xs,zs,rfl,rfl,hH,hB,hz,q⟩:=h
 cases rx
 cases ry
 obtain⟨z,its,n,r,hl,e⟩:=I.lstM hH
 obtain⟨z2,its2,n2,r2,hl2,e2⟩:=I.lstM hB
 refine PySem.P.add_list e e2 ?_ (by rw [List.size_toArray,List.size_toArray];lia)
 have ea:its.toArray ++ its2.toArray=(its ++ its2).toArray:=by simp
 rw [ea]
 exact⟨.ref _,_,I.lnew (t':=s.toks) (r.append r2) (by rw [List.length_append];lia),rfl,q _ I.fresh⟩
def rRep:R2:=fun x y H Q=>∃ l k xs,x=.ref l∧y=.int k∧H l=some (.lst xs)∧-(2 ^ 63)≤k∧k < 2 ^ 63∧xs.length * k.toNat≤sizeLine ∧
 ∀ p,H p=none→Q (.ref p) (upd H p (.lst (List.replicate k.toNat xs).flatten))
theorem znJ {α:Type} (xs:List α) (k:Nat):(List.replicate k xs).flatten.length=k * xs.length:=by
 induction k with
 | zero=>simp
 | succ k ih=>rw [List.replicate_succ,List.flatten_cons,List.length_append,ih,Nat.succ_mul,Nat.add_comm]
theorem zo8:OpR X (binaryOp .Mult) rRep:=by
 intro pins s σ H x y v u Q I rx ry h
 obtain⟨l,k,xs,rfl,rfl,hH,h1,h2,hz,q⟩:=h
 cases rx
 obtain⟨t,rfl⟩:=ry
 obtain⟨z,its,n,r,hl,e⟩:=I.lstM hH
 have hlen:its.toArray.size * k.toNat≤sizeLine:=by rw [List.size_toArray,← hl];exact hz
 have hcap:¬ its.toArray.size * k.toNat > (2 ^ 63 - 1) / 8:=by
  have:(sizeLine:Nat)≤(2 ^ 63 - 1) / 8:=by decide
  lia
 have hfit:¬ (!Builtin.List.listFitsIndex k)=true:=by
  rw [fitsIndex_both h1 h2]
  exact Bool.false_ne_true
 have hlong:¬ Builtin.List.listTooLong (its.toArray.size * k.toNat)=true:=by
  rw [zik hlen]
  exact Bool.false_ne_true
 have hnew:List.foldl (fun x1 x2=>x1 ++ x2) #[] (List.replicate (if its.toArray.isEmpty=true then 0 else k.toNat) its.toArray)=(List.replicate k.toNat its).flatten.toArray:=by
  have f0:∀ m:Nat,List.foldl (fun x1 x2=>x1 ++ x2) #[] (List.replicate m its.toArray)=(List.replicate m its).flatten.toArray:=fun m=>by
   have:=zgp its m []
   rw [List.nil_append] at this
   exact this
  rw [f0]
  cases its with
  | nil=>simp
  | cons a r'=>rw [if_neg (by simp)]
 refine wpAny_binaryOp_repeat_ref (T := "list") (U := "int") (by decide) ⟨_,e,rfl⟩ (fun s'=>typeIs_int s' k t) noFill_list_mul F.fills_int_mul F.slot_int_rmul repeat_list F.slot_int_index.lookup
  (call_meets F.slot_int_rmul (typeIs_int s k t) F.entry_int_rmul (F.args_int_rmul_2 _ _) (int___rmul___int_list k t l its.toArray n)
   ⟨e,rfl,⟨_,e,rfl⟩,call_meets F.slot_list_mul ⟨_,e,rfl⟩ F.entry_list_mul (F.args_list_mul_2 _ _) (AutoListH.list___mul___list_int_3 l its.toArray n k t hfit hcap hlong) ⟨e,?_⟩⟩)
 rw [hnew]
 exact⟨.ref _,_,I.lnew (t':=s.toks) (r.rep k.toNat) (by rw [znJ,Nat.mul_comm];exact hz),rfl,q _ I.fresh⟩
end
section
variable {prog:Program} {w:World} {A:Around} {E:Value→Shared→Prop} {s:Shared}
set_option maxRecDepth 100000 in
end
section
variable {X:Cx}
end
end L2
namespace Att
open PySem PySem.W PySem.Calls PyProof.Rows
theorem zer {P:Params} {h:Heap}:∀ (ns:List Int) (vs:List Value),WellAll P h vs (ns.map WData.int)→IntsAre vs ns:=by
 intro ns
 induction ns with
 | nil =>
  intro vs w
  rw [List.map_nil] at w
  cases w
  exact .nil
 | cons n ns ih =>
  intro vs w
  rw [List.map_cons] at w
  cases w with
  | cons a b =>
   cases a
   exact .cons _ _ (ih _ b)
theorem zj0 {l:OpenLaw} {n:Nat} (hn:l.most=some n) {P:Params} {h:Heap} {args:List WData} {vals:List Value}
  (hpre:l.row.toRowW.claim.pre args=true) (hwl:WellAll P h vals args) :
  ∃ a vs ns,vals=[Value.ref a]∧args=[WData.list (ns.map WData.int)]∧h.get? a=some { cls:=.type "list", data:=.seq vs.toArray }∧IntsAre vs ns∧ns.length≤n:=by
 have hsh:WShape.hasAll [] args [.list .int]=true:=(pre_splitW hpre).1
 have hc:l.pre.holds [] { args:=args } = true:=(pre_splitW hpre).2
 obtain⟨d,r,rfl,h1,h2⟩:=hasAllW_cons hsh
 obtain rfl:=hasAllW_nil h2
 obtain⟨xs,rfl,h3⟩:=hasW_list h1
 obtain⟨ns,rfl⟩:=items_int h3
 have hlen:ns.length≤n:=by
  unfold OpenLaw.pre at hc
  have h4:(WTm.not (.lt (.lit (.int (n:Int))) (.len (.arg 0)))).holds [] { args:=[.list (ns.map .int)] } = true:=by
   have h4:=(holds_andW hc).1
   rw [hn] at h4
   exact h4
  have h5:=condW_of h4 (w_not (w_lt w_lit (w_len_list (w_arg rfl))))
  rw [List.length_map] at h5
  refine Nat.le_of_not_lt fun q=>?_
  have q':(n:Int) < ((ns.length:Nat):Int):=by lia
  first
   | (rw [decide_eq_true q'] at h5;exact absurd h5 (by decide))
   | (simp at h5;lia)
 cases hwl with
 | cons w1 w2 =>
  cases w2
  cases w1 with
  | list ho hall=>exact⟨_,_,ns,rfl,rfl,ho,zer ns _ hall,hlen⟩
theorem zki (l:OpenLaw) (args:List WData):l.row.toRowW.claim.post args (.bool true) args=true:=
 postW_of (r:=l.row.toRowW) (X:=(true == true))
  (show WShape.has [] (.bool true) .bool=true by first | rfl | decide | simp [WShape.has,WShape.arms,WShape.armsAll])
  (show (WTm.eq .res (.lit (.bool true))).value [] { args:=args,res:=some (.bool true),after:=args } = some (.bool (true == true)) from w_eq_bool (w_res rfl) w_lit) rfl
theorem attach_call {l:OpenLaw} {n:Nat} {q:Program} {loose:List Str} {XP:(Str→Option Value)→Heap→Prop} {YP:World→Heap→Prop} {d:DefRec}
  (hn:l.most=some n) (hdf:d.params.defaults=[])
  (call:∀ (w:World) (s₀ s₁:Shared) (mg mb:Str→Option Value) (fa:Addr) (o:Obj) (pm cd doc:Value) (a:Addr) (vs:List Value) (ns:List Int),
   Ground q loose [] XP w s₀ mg mb s₁.heap→YP w s₁.heap →
   s₁.heap.get? fa=some o→o.data=.func (docDef d.name d.params d.body d.scope pm cd doc)→s₁.heap.CodeRec cd d.name→mg d.name=some (.ref fa) →
   s₁.heap.get? a=some { cls:=.type "list", data:=.seq vs.toArray }→IntsAre vs ns→ns.length≤n→s₁.gens = #[] →
   codeAny (model l.prog w) callerA (.call (.ref fa) ⟨[.ref a],[]⟩) (fun r s'=>r=.ok (.ret (.bool true))∧OldK s₁.heap s'.heap∧s'.os=s₁.os∧AllBare s'.gens) s₁) :
  WalkO q loose XP YP l.row.toRowW d [] (fun f vs=>PySem.call f vs):=by
 intro w s₀ s₁ mg mb G Y fa o pm cd doc dV kV ho hd hcd hD hmg hg args vals as hpre hlay hrd hwl hlo
 obtain rfl:dV=.none:=Dflts.none hD hdf
 obtain rfl:kV=.none:=Dflts.noKw hD
 obtain⟨a,vs,ns,rfl,rfl,hobj,hints,hlen⟩:=zj0 hn hpre hwl
 refine enter_call (codeAny_mono (call w s₀ s₁ mg mb fa o pm cd doc a vs ns G Y ho (fd_plain hd) hcd hmg hobj hints hlen hg) fun r s' hq=>?_)
 obtain⟨rfl,h2,h3,h4⟩:=hq
 exact⟨.inl ⟨.bool true,.bool true,[],rfl,fun _=>rfl,.bool true,zki l _,fun _=>⟨List.Pairwise.nil,fun _ hm=>(nomatch hm)⟩⟩,h2,h3,h4⟩
section
variable {prog:Program} {w:World} {A:Around} {E:Value→Shared→Prop} {s:Shared} {K:Frag}
end
end Att
namespace L2
open PySem PySem.Spec PyProof.Rows
theorem zd7:∀ {vs:List Value} {ns:List Int},IntsAre vs ns→Vals (ns.map V.int) vs
 | _,_,.nil=>.nil
 | _,_,.cons n t h=>.cons ⟨t,rfl⟩ (zd7 h)
def Only (H:Hp):Prop:=∀ b,H b=none∨∃ o xs,H b=some (.frz o (.lst xs))
theorem zl1 {P:Program} {w:World} {K:PySem.W.Frag} {mg mb:Str→Option Value} {CX:CXT} {k:Nat} {fa a:Addr} {fd:FuncData} {x:Str} {sp:Sp} {s₁:Shared} {vs:List Value} {ns:List Int}
  (KX:K.In s₁.heap) (hns:s₁.heap.Ns mainGlobals mg) (hb:s₁.heap.Ns builtinsNs mb) (hbb:∀ x:Str,x ≠ "__name__" → mb x=bootBuiltins x) (hlim:s₁.heap.NoLimit) (hg:s₁.gens = #[])
  (ha:s₁.heap.get? a=some { cls:=.type "list", data:=.seq vs.toArray }) (hi:IntsAre vs ns) (hl:ns.length≤sizeLine) (hr:Room k callerA)
  (F:∀ base:Heap,K.In base→base.Ns mainGlobals mg→FnOk P w K mg base CX k fa fd [x] sp) (hbind:∀ (s:Shared) (u:Value),BindsTo s fd ⟨[u],[]⟩ [(x,u)])
  (hsp:∀ H:Hp,Only H→SqL K H a (ns.map V.int)→sp [.ref a] H (fun v _=>v=.bl true) fun _ _ _=>False)
  (hCX:∀ H e s',CX [] H s₁ (fun _ _ _=>False) e s'→False) :
  codeAny (model P w) callerA (.call (.ref fa) ⟨[.ref a],[]⟩) (fun r s'=>r=.ok (.ret (.bool true))∧OldK s₁.heap s'.heap∧s'.os=s₁.os∧AllBare s'.gens) s₁:=by
 have rv:=zd7 hi
 have lenV:=hi.length
 have core:∀ H:Hp,Only H→SqL K H a (ns.map V.int)→HOk P w H s₁.heap→(∀ b,H b≠none→b=a)→(H a≠none→K.lookup a=none) →
   codeAny (model P w) callerA (.call (.ref fa) ⟨[.ref a],[]⟩) (fun r s'=>r=.ok (.ret (.bool true))∧OldK s₁.heap s'.heap∧s'.os=s₁.os∧AllBare s'.gens) s₁:=by
  intro H hO hS hok hA hK
  have base_of:∀ {b:Addr} {o:Obj},s₁.heap.get? b=some o→H b=none→(hidT s₁.heap H).get? b=some o:=fun e n=>zl5 e n
  have noA:∀ {b:Addr} {o:Obj} {es:Array DictEntry} {ep:Nat},s₁.heap.get? b=some o→o.data=.dict es ep→H b=none:=fun {b o es ep} e d=>by
   cases q:H b with
   | none=>rfl
   | some u =>
    have e':b=a:=hA b (by rw [q];simp)
    subst e'
    rw [ha] at e;cases e
    have d':Data.seq vs.toArray _=Data.dict es ep:=d
    cases d'
  have nsK:∀ {b:Addr} {m:Str→Option Value},s₁.heap.Ns b m→(hidT s₁.heap H).Ns b m:=fun {b m} ⟨o,es,ep,e,d,r⟩=>⟨o,es,ep,base_of e (noA e d),d,r⟩
  have hKb:K.In (hidT s₁.heap H):=fun b o e=>base_of (KX b o e) (by
   cases q:H b with
   | none=>rfl
   | some u =>
    have e':b=a:=hA b (by rw [q];simp)
    subst e'
    rw [hK (by rw [q];simp)] at e;cases e)
  have hM:Mod K mg (hidT s₁.heap H):=⟨hKb,nsK hns,⟨mb,nsK hb,hbb⟩,let ⟨mc,h1,h2⟩:=hlim;⟨mc,nsK h1,h2⟩⟩
  have e0:Env0 P w K mg (hidT s₁.heap H) callerA [] s₁ H:=⟨rfl,hM,fun b o e=>znz e,Nat.le_of_eq (zkU _ _),trivial,fun b hb=>absurd (show b∈([]:List Addr) from hb) (by simp),hok,.of_eq hg⟩
  refine codeAny_mono ((F _ hKb (nsK hns)).run callerA [] s₁ H ⟨[.ref a],[]⟩ [.ref a] [.ref a] _ _ hr e0 (hbind s₁ (.ref a)) (.cons rfl .nil) (hsp H hO hS)) fun r s' h=>?_
  cases r with
  | error e=>exact (hCX H e s' h).elim
  | ok fl =>
   cases fl with
   | next=>exact False.elim h
   | brk=>exact False.elim h
   | cont=>exact False.elim h
   | ret u =>
    obtain⟨v,H',os,bare,un,hok',r',q⟩:=h
    have q':v=.bl true:=q
    subst q'
    obtain rfl:u=Value.bool true:=r'
    refine ⟨rfl,OldK.of_keep fun b o e=>?_,os,bare⟩
    cases q:H b with
    | none=>exact un.keep b o e q (by intro z;exact absurd (show b∈([]:List Addr) from z) (by simp)) (by simp)
    | some u =>
     rcases hO b with z | ⟨ob,xs,z⟩
     ·rw [q] at z;cases z
     ·have z2:=un.frzs b ob _ z
      obtain⟨e1,_⟩:=hok b _ z
      obtain⟨e2,_⟩:=hok' b _ z2
      rw [e] at e1;cases e1
      exact e2
 cases hk:K.lookup a with
 | some o =>
  have e:=KX a o hk
  rw [ha] at e
  cases e
  refine core (fun _=>none) (fun _=>.inl rfl) (.inr ⟨_,vs.toArray,_,hk,rfl,rfl,rfl,by rw [List.size_toArray,lenV];exact hl,by simpa using rv⟩) (fun b u z=>by have z':(none:Option HO)=some u:=z;cases z') (fun b z=>absurd rfl z) fun z=>absurd rfl z
 | none =>
  refine core (fun b=>if b=a then some (.frz { cls:=.type "list", data:=.seq vs.toArray } (.lst (ns.map V.int))) else none) (fun b=>?_) (.inl (.inr ⟨{ cls:=.type "list", data:=.seq vs.toArray },if_pos rfl⟩)) (fun b u z=>?_) (fun b z=>?_) fun _=>hk
  ·by_cases hb:b=a
   ·exact .inr ⟨_,_,if_pos hb⟩
   ·exact .inl (if_neg hb)
  ·by_cases hb:b=a
   ·have z':=(if_pos hb).symm.trans z
    cases z'
    subst hb
    exact⟨ha,by rw [List.length_map];exact hl,vs,_,rv,ha⟩
   ·have z':=(if_neg hb).symm.trans z
    cases z'
  ·by_cases hb:b=a
   ·exact hb
   ·exact absurd (if_neg hb) z
end L2
namespace L2
open PySem PySem.Spec PyProof.Rows
noncomputable abbrev KOf {K:PySem.W.Frag} {h:Heap} (_:K.In h):PySem.W.Frag:=K
theorem walk_of {l:PySem.W.OpenLaw} {n k:Nat} {q:Program} {loose:List Str} {XP:(Str→Option Value)→Heap→Prop} {YP:World→Heap→Prop} {d:DefRec} {K:Params→PySem.W.Frag} {CX:World→CXT} {sp:World→Sp} {x:Str}
  (hn:l.most=some n) (hn2:n≤sizeLine) (hdf:d.params.defaults=[]) (hr:Room k callerA)
  (hY:∀ (w:World) (h:Heap),YP w h→(K w.params).In h)
  (F:∀ (w:World) (mg:Str→Option Value) (fa:Addr) (h:Heap),(K w.params).In h→h.Ns mainGlobals mg→mg d.name=some (.ref fa) →
   ∃ fd:FuncData,(∀ (s:Shared) (u:Value),BindsTo s fd ⟨[u],[]⟩ [(x,u)]) ∧
    ∀ base:Heap,(K w.params).In base→base.Ns mainGlobals mg→FnOk l.prog w (K w.params) mg base (CX w) k fa fd [x] (sp w))
  (hsp:∀ (w:World) (H:Hp) (a:Addr) (ns:List Int),ns.length≤n→Only H→SqL (K w.params) H a (ns.map V.int)→sp w [.ref a] H (fun v _=>v=.bl true) fun _ _ _=>False)
  (hCX:∀ (w:World) (H:Hp) (s:Shared) (e:Value) (s':Shared),CX w [] H s (fun _ _ _=>False) e s'→False) :
  PySem.W.WalkO q loose XP YP l.row.toRowW d [] (fun f vs=>PySem.call f vs):=by
 refine Att.attach_call hn hdf fun w s₀ s₁ mg mb fa o pm cd doc a vs ns G Y ho hd hcd hmg hobj hints hlen hg=>?_
 have KX:=hY w _ Y
 obtain⟨fd,hb,hF⟩:=F w mg fa _ KX G.T.g hmg
 exact zl1 KX G.T.g G.T.b G.T.builtins G.T.nolimit hg hobj hints (Nat.le_trans hlen hn2) hr hF hb (fun H hO hS=>hsp w H a ns hlen hO hS) fun H e s'=>hCX w H s₁ e s'
end L2
namespace L2
open PySem PySem.Spec PyProof.Rows
noncomputable def defArgs (s:Stmt):Arguments:=match s with
 | .FunctionDef _ a _ _ _ _ _ _ _ _=>a
 | _=>{ posonlyargs:=[],args:=[],vararg:=none,kwonlyargs:=[],kw_defaults:=[],kwarg:=none,defaults:=[] }
noncomputable def defBody (s:Stmt):List Stmt:=match s with
 | .FunctionDef _ _ b _ _ _ _ _ _ _=>b
 | _=>[]
noncomputable def defScope (s:Stmt):Scope:=match s with
 | .FunctionDef _ _ _ _ _ _ sc _ _ _=>sc
 | _=>{ kind:=.function,names:=[],isGenerator:=false,isCoroutine:=false }
structure Fun (K:PySem.W.Frag) (x qual:Str) (st:Stmt) (f:Addr) (fd:FuncData):Prop where
 ex:∃ (oc:Value) (od:Option Addr) (kV doc pm:Value) (an:Option Addr) (cdv ct:Value) (osl:Array (Option Value)),
  fd=PySem.W.fnOf x qual (defArgs st) (defBody st) (defScope st) .none kV doc pm an cdv ct∧K.lookup f=some ⟨oc,od,.func fd,osl⟩∧PySem.W.codeIn K cdv qual=true
 kp:PySem.W.keepIn K (.ref f)=true
section
variable {P:Program} {w:World} {K:PySem.W.Frag} {mg:Str→Option Value} {base:Heap}
theorem Fun.binds {x qual:Str} {st:Stmt} {f:Addr} {fd:FuncData} {ps:List Str} (F:Fun K x qual st f fd)
  (h:∀ (kV doc pm:Value) (an:Option Addr) (cdv ct:Value) (us:List Value),us.length=ps.length→bindArgs (PySem.W.fnOf x qual (defArgs st) (defBody st) (defScope st) .none kV doc pm an cdv ct) ⟨us,[]⟩=pure (ps.zip us)):zbj K fd ps []:=by
 obtain⟨oc,od,kV,doc,pm,an,cdv,ct,osl,rfl,lk,hcd⟩:=F.ex
 exact .all (h kV doc pm an cdv ct)
theorem za5 {x qual:Str} {st:Stmt} {f:Addr} {oc:Value} {od an:Option Addr} {osl:Array (Option Value)} {kV doc pm cdv ct:Value} (l:K.lookup f=some ⟨oc,od,.func (PySem.W.fnOf x qual (defArgs st) (defBody st) (defScope st) .none kV doc pm an cdv ct),osl⟩)
  (c:PySem.W.codeIn K cdv qual=true) (k:PySem.W.keepIn K (.ref f)=true):Fun K x qual st f (PySem.W.fnOf x qual (defArgs st) (defBody st) (defScope st) .none kV doc pm an cdv ct):=⟨⟨oc,od,kV,doc,pm,an,cdv,ct,osl,rfl,l,c⟩,k⟩
end
theorem zjY {n:Nat} (h:n≤1000):n < sizeLine:=Nat.lt_of_le_of_lt h (by decide)
section
variable {X:Cx}
theorem pv (i:Nat) {x:Str} {pos:Pos} (hN:X.N[i]? = some x:=by rfl) (hv:Vis X.env.scope x:=by first | exact Or.inl rfl | exact Or.inr (Or.inl rfl) | exact Or.inr (Or.inr rfl)) (hd:(x == ("__debug__" : Str))=false:=by decide)
  (hcd:(x == ("__classdict__" : Str))=false:=by decide):PE X (.Name x pos) (tVar i):=zo1 hN hv hd hcd
end
def Same (H H':Hp):Prop:=∀ b o,H b=some o→H' b=some o
theorem Same.refl (H:Hp):Same H H:=fun _ _ h=>h
theorem Same.trans {H H1 H2:Hp} (a:Same H H1) (b:Same H1 H2):Same H H2:=fun c o h=>b c o (a c o h)
theorem Same.free {H H':Hp} (e:Same H H') {l:Addr} (h:H' l=Option.none):H l=Option.none:=by
 cases q:H l with
 | none=>rfl
 | some o =>
  rw [e l o q] at h
  cases h
end L2
namespace Srt
open PySem PyProof.Rows
section
variable {σ:Type} {M:Model} {A:Around} {E:Value→Shared→Prop} {s:Shared} {α:Type}
theorem zao {c:Prop} {d:Decidable c} {m n:StateT σ Sem α} {Q:α→σ→Prop} {st:σ} (h:c) (k:wpS M A E s m Q st):wpS M A E s (@ite _ c d m n) Q st:=by rw [if_pos h];exact k
theorem zan {c:Prop} {d:Decidable c} {m n:StateT σ Sem α} {Q:α→σ→Prop} {st:σ} (h:¬c) (k:wpS M A E s n Q st):wpS M A E s (@ite _ c d m n) Q st:=by rw [if_neg h];exact k
end
class SK where
 rk:Keyed→Int
 dom:Keyed→Prop
noncomputable abbrev key [SK] (p:Keyed):Int:=SK.rk p
def IntK [SK] (p:Keyed):Prop:=SK.dom p
class SKL (prog:Program) (w:World) (A:Around) (E:Value→Shared→Prop) (s:Shared) [SK]:Prop where
 lt:∀ {st:SortSt} {x y:Keyed} {Q:Option Bool→SortSt→Prop},kindOf st=oneType'→IntK x→IntK y→Q (some (decide (key x < key y))) st→wpS (model prog w) A E s (lt' x y) Q st
noncomputable def K [SK] (xs:Array Keyed) (i:Nat):Int:=match xs[i]? with
 | some p=>key p
 | none=>0
def zbi [SK] (xs:Array Keyed):Prop:=∀ p∈xs.toList,IntK p
def SortedTo [SK] (xs:Array Keyed) (k:Nat):Prop:=∀ i j,i≤j→j < k→K xs i≤K xs j
variable [SK]
theorem zdy {xs ys:Array Keyed} {i j:Nat} (h:xs[i]? = ys[j]?):K xs i=K ys j:=by unfold K;rw [h]
theorem zmp {xs:Array Keyed} {a d:Nat} (hs:a < xs.size) (hd:d≤a) (k:Nat):K (bubble xs a d) k=if k=a - d then K xs a else if a - d < k∧k≤a then K xs (k - 1) else K xs k:=by
 have e:=getElem?_bubble hs d hd k
 by_cases h1:k=a - d
 ·rw [if_pos h1] at e ⊢;exact zdy e
 ·rw [if_neg h1] at e ⊢
  by_cases h2:a - d < k∧k≤a
  ·rw [if_pos h2] at e ⊢;exact zdy e
  ·rw [if_neg h2] at e ⊢;exact zdy e
theorem zdq {xs:Array Keyed} {i j:Nat} (hj:j≤xs.size) (k:Nat):K (mirror xs i j ((j - i) / 2)) k=if i≤k∧k < j then K xs (i + j - 1 - k) else K xs k:=by
 have e:=getElem?_mirror_all (i:=i) hj k
 by_cases h1:i≤k∧k < j
 ·rw [if_pos h1] at e ⊢;exact zdy e
 ·rw [if_neg h1] at e ⊢;exact zdy e
theorem ziT {xs:Array Keyed} {a b:Nat} (hb:b≤xs.size) (e:∀ k,a≤k→k < b→K xs k=K xs (b - 1)):∀ k,K (mirror xs a b ((b - a) / 2)) k=K xs k:=fun k=>by
 by_cases h:a≤k∧k < b
 ·rw [zdq hb,if_pos h,e _ (by lia) (by lia),e k h.1 h.2]
 ·rw [zdq hb,if_neg h]
noncomputable def zcR:Bool→Keyed→Array Keyed→Nat→Nat→Nat→StateT SortSt Sem (Option Nat):=sortPriv% PySem.Builtin.gallop
section
variable {prog:Program} {w:World} {A:Around} {E:Value→Shared→Prop} {s:Shared} [SKL prog w A E s]
theorem zfX {st:SortSt} {x y:Keyed} {Q:Option Bool→SortSt→Prop} (hk:kindOf st=oneType') (hx:IntK x) (hy:IntK y) (h:Q (some (decide (key x < key y))) st) :
  wpS (model prog w) A E s (lt' x y) Q st:=SKL.lt hk hx hy h
theorem zav {st:SortSt} {arr:Array Keyed} {i:Nat} {p:Keyed} {Q:Keyed→SortSt→Prop} (h1:arr[i]? = some p) (h:Q p st):wpS (model prog w) A E s (elem' arr i) Q st:=by
 rw [elem'_eq,h1]
 exact wpS_pure h
noncomputable def ask (left:Bool) (k:Keyed) (arr:Array Keyed) (base i:Nat):Bool:=match arr[base + i]? with
 | some p=>if left then decide (key p < key k) else !decide (key k < key p)
 | none=>false
theorem zeV {left:Bool} {k:Keyed} {arr:Array Keyed} {base n hint:Nat} {st:SortSt} {Q:Option Nat→SortSt→Prop} (hk:kindOf st=oneType') (hkey:IntK k)
  (harr:∀ i,i < n→∃ p,arr[base + i]? = some p∧IntK p) (hn:hint < n) (mono:∀ i j,i≤j→j < n→ask left k arr base j=true→ask left k arr base i=true)
  (h:∀ m,m≤n→(∀ i,i < m→ask left k arr base i=true)→(∀ i,m≤i→i < n→ask left k arr base i=false)→Q (some m) st) :
  wpS (model prog w) A E s (zcR left k arr base n hint) Q st:=by
 have one:∀ (i:Nat) (R:Option Bool→SortSt→Prop),i < n→R (some (ask left k arr base i)) st→wpS (model prog w) A E s (do
   let x ← elem' arr (base + i)
   if left=true then lt' x k else do
    let r ← lt' k x
    pure (Option.map (fun x=>!x) r)) R st:=by
  intro i R hi hR
  obtain⟨p,e,hp⟩:=harr i hi
  refine wpS_bind (zav e ?_)
  unfold ask at hR
  rw [e] at hR
  cases left with
  | true=>exact zfX hk hp hkey hR
  | false=>exact wpS_bind (zfX hk hkey hp (wpS_pure hR))
 have half:∀ (lo hi:Nat),lo≤hi→hi≤n→(∀ i,i < lo→ask left k arr base i=true)→(∀ i,hi≤i→i < n→ask left k arr base i=false) →
   wpS (model prog w) A E s (forIn [:n] ((none,lo,hi):Option (Option Nat)×Nat×Nat) fun _ c =>
    if c.2.1≥c.2.2 then pure (ForInStep.done (none,c.2.1,c.2.2)) else do
     let r ← (do
      let x ← elem' arr (base + (c.2.1 + (c.2.2 - c.2.1) / 2))
      if left=true then lt' x k else do
       let r ← lt' k x
       pure (Option.map (fun x=>!x) r))
     match r with
     | some more=>if more=true then pure (ForInStep.yield (none,c.2.1 + (c.2.2 - c.2.1) / 2 + 1,c.2.2)) else pure (ForInStep.yield (none,c.2.1,c.2.1 + (c.2.2 - c.2.1) / 2))
     | _=>pure (ForInStep.done (some none,c.2.1,c.2.2)))
    (fun c st'=>st'=st∧c.1=none∧c.2.2≤n∧(∀ i,i < c.2.2→ask left k arr base i=true)∧(∀ i,c.2.2≤i→i < n→ask left k arr base i=false)) st:=by
  intro lo hi h1 h2 h3 h4
  refine wpS_forRange (I:=fun x c st'=>st'=st∧c.1=none∧c.2.1≤c.2.2∧c.2.2≤n∧c.2.2 - c.2.1≤n - x∧(∀ i,i < c.2.1→ask left k arr base i=true)∧(∀ i,c.2.2≤i→i < n→ask left k arr base i=false)) ?step ?fin ⟨rfl,rfl,h1,h2,by show hi - lo≤n - 0;lia,h3,h4⟩
  case fin =>
   rintro ⟨r,l,u⟩ st' ⟨rfl,e,h1,h2,h3,h4,h5⟩
   dsimp only at *
   have:l=u:=by lia
   subst this
   exact⟨rfl,e,h2,h4,h5⟩
  case step =>
   rintro x ⟨r,l,u⟩ st' _ hx ⟨rfl,e,h1,h2,h3,h4,h5⟩
   dsimp only at *
   subst e
   by_cases hge:l≥u
   ·refine zao hge ?_
    have:l=u:=by lia
    subst this
    exact wpS_pure ⟨rfl,rfl,h2,h4,h5⟩
   ·refine zan hge ?_
    have hm:l + (u - l) / 2 < n:=by lia
    refine wpS_bind (one _ _ hm ?_)
    cases e:ask left k arr base (l + (u - l) / 2) with
    | true =>
     dsimp only
     refine zao rfl ?_
     exact wpS_pure ⟨rfl,rfl,(by dsimp only;lia),h2,(by dsimp only;lia),fun i hi=>mono i _ (by dsimp only at hi;lia) hm e,h5⟩
    | false =>
     dsimp only
     refine zan (by simp) ?_
     refine wpS_pure ⟨rfl,rfl,(by dsimp only;lia),(by dsimp only;lia),(by dsimp only;lia),h4,fun i h6 h7=>?_⟩
     cases e':ask left k arr base i with
     | false=>rfl
     | true=>rw [mono _ i h6 h7 e'] at e;cases e
 refine wpS_bind (one hint _ hn ?_)
 cases e0:ask left k arr base hint with
 | true =>
  dsimp only
  refine zao rfl ?_
  refine wpS_bind (wpS_mono (wpS_forRange (a:=0) (b:=n) (I:=fun x c st'=>st'=st∧c.1=none∧c.2.1 < c.2.2∧x + 1≤c.2.2∧hint + c.2.1 < n∧ask left k arr base (hint + c.2.1)=true)
   (Q:=fun c st'=>st'=st∧c.1=none∧c.2.1 < c.2.2∧hint + c.2.1 < n∧ask left k arr base (hint + c.2.1)=true∧(n - hint≤c.2.2∨(c.2.2 < n - hint∧ask left k arr base (hint + c.2.2)=false))) ?step ?fin ?init) ?post)
  case init=>exact⟨rfl,rfl,by decide,by decide,by simpa using hn,by simpa using e0⟩
  case fin =>
   rintro ⟨r,l,u⟩ st' ⟨rfl,e,h1,h2,h3,h4⟩
   dsimp only at *
   exact⟨rfl,e,h1,h3,h4,.inl (by lia)⟩
  case step =>
   rintro x ⟨r,l,u⟩ st' _ hx ⟨rfl,e,h1,h2,h3,h4⟩
   dsimp only at *
   subst e
   by_cases hge:u≥n - hint
   ·refine zao hge ?_
    exact wpS_pure ⟨rfl,rfl,h1,h3,h4,.inl hge⟩
   ·refine zan hge ?_
    refine wpS_bind (one _ _ (by lia) ?_)
    cases e:ask left k arr base (hint + u) with
    | true =>
     dsimp only
     refine zan (by simp) ?_
     exact wpS_pure ⟨rfl,rfl,by show u < 2 * u + 1;lia,by show x + 1 + 1≤2 * u + 1;lia,by show hint + u < n;lia,e⟩
    | false =>
     dsimp only
     refine zao (by simp) ?_
     exact wpS_pure ⟨rfl,rfl,h1,h3,h4,.inr ⟨(by dsimp only;lia),e⟩⟩
  case post =>
   rintro ⟨r,l,u⟩ st' ⟨rfl,e,h1,h3,h4,h5⟩
   dsimp only at *
   subst e
   dsimp only
   refine wpS_bind (wpS_mono (half (hint + l + 1) (hint + min u (n - hint)) (by lia) (by lia) (fun i hi=>mono i _ (by lia) h3 h4) fun i h6 h7=>?_) ?_)
   ·rcases h5 with h5 | ⟨h5,h8⟩
    ·lia
    ·cases e':ask left k arr base i with
     | false=>rfl
     | true=>rw [mono _ i (by lia) h7 e'] at h8;cases h8
   ·rintro ⟨r,l',u'⟩ st' ⟨rfl,e,h1,h2,h3⟩
    dsimp only at *
    subst e
    exact wpS_pure (h _ h1 h2 h3)
 | false =>
  dsimp only
  refine zan (by simp) ?_
  refine wpS_bind (wpS_mono (wpS_forRange (a:=0) (b:=n) (I:=fun x c st'=>st'=st∧c.1=none∧c.2.1 < c.2.2∧x + 1≤c.2.2∧c.2.1≤hint∧ask left k arr base (hint - c.2.1)=false)
   (Q:=fun c st'=>st'=st∧c.1=none∧c.2.1 < c.2.2∧c.2.1≤hint∧ask left k arr base (hint - c.2.1)=false∧(hint + 1≤c.2.2∨(c.2.2 < hint + 1∧ask left k arr base (hint - c.2.2)=true))) ?step ?fin ?init) ?post)
  case init=>exact⟨rfl,rfl,by decide,by decide,by simp,by simpa using e0⟩
  case fin =>
   rintro ⟨r,l,u⟩ st' ⟨rfl,e,h1,h2,h3,h4⟩
   dsimp only at *
   exact⟨rfl,e,h1,h3,h4,.inl (by lia)⟩
  case step =>
   rintro x ⟨r,l,u⟩ st' _ hx ⟨rfl,e,h1,h2,h3,h4⟩
   dsimp only at *
   subst e
   by_cases hge:u≥hint + 1
   ·refine zao hge ?_
    exact wpS_pure ⟨rfl,rfl,h1,h3,h4,.inl hge⟩
   ·refine zan hge ?_
    refine wpS_bind (one _ _ (by lia) ?_)
    cases e:ask left k arr base (hint - u) with
    | true =>
     dsimp only
     refine zao rfl ?_
     exact wpS_pure ⟨rfl,rfl,h1,h3,h4,.inr ⟨(by dsimp only;lia),e⟩⟩
    | false =>
     dsimp only
     refine zan (by simp) ?_
     exact wpS_pure ⟨rfl,rfl,by show u < 2 * u + 1;lia,by show x + 1 + 1≤2 * u + 1;lia,by show u≤hint;lia,e⟩
  case post =>
   rintro ⟨r,l,u⟩ st' ⟨rfl,e,h1,h3,h4,h5⟩
   dsimp only at *
   subst e
   dsimp only
   refine wpS_bind (wpS_mono (half (hint + 1 - min u (hint + 1)) (hint - l) (by lia) (by lia) (fun i hi=>?_) fun i h6 h7=>?_) ?_)
   ·rcases h5 with h5 | ⟨h5,h8⟩
    ·lia
    ·exact mono i _ (by lia) (by lia) h8
   ·cases e':ask left k arr base i with
    | false=>rfl
    | true=>rw [mono _ i h6 h7 e'] at h4;cases h4
   ·rintro ⟨r,l',u'⟩ st' ⟨rfl,e,h1,h2,h3⟩
    dsimp only at *
    subst e
    exact wpS_pure (h _ h1 h2 h3)
end
end Srt
namespace Srt
open PySem PyProof.Rows
variable [SK]
def Sr (l:List Keyed):Prop:=l.Pairwise fun x y=>key x≤key y
theorem Sr.drop {l:List Keyed} (h:Sr l) (n:Nat):Sr (l.drop n):=List.Pairwise.sublist (List.drop_sublist _ _) h
theorem Sr.take {l:List Keyed} (h:Sr l) (n:Nat):Sr (l.take n):=List.Pairwise.sublist (List.take_sublist _ _) h
theorem Sr.cut {l:List Keyed} (h:Sr l) (n:Nat):∀ x∈l.take n,∀ y∈l.drop n,key x≤key y:=by
 have h':Sr (l.take n ++ l.drop n):=by rw [List.take_append_drop];exact h
 exact (List.pairwise_append.mp h').2.2
theorem Sr.get {l:List Keyed} (h:Sr l) {i j:Nat} {x y:Keyed} (hij:i≤j) (hx:l[i]? = some x) (hy:l[j]? = some y):key x≤key y:=by
 obtain⟨h1,e1⟩:=List.getElem?_eq_some_iff.mp hx
 obtain⟨h2,e2⟩:=List.getElem?_eq_some_iff.mp hy
 by_cases e:i=j
 ·subst e;rw [← e1,← e2];exact Int.le_refl _
 ·rw [← e1,← e2];exact List.pairwise_iff_getElem.mp h i j h1 h2 (by lia)
structure MI (A B out:List Keyed) (ia ib:Nat):Prop where
 perm:out.Perm (A.take ia ++ B.take ib)
 sor:Sr out
 leA:∀ x∈out,∀ y∈A.drop ia,key x≤key y
 leB:∀ x∈out,∀ y∈B.drop ib,key x≤key y
section
variable {A B out:List Keyed} {ia ib:Nat}
theorem MI.manyB (h:MI A B out ia ib) (sB:Sr B) (k:Nat) (le:∀ x∈(B.drop ib).take k,∀ y∈A.drop ia,key x≤key y):MI A B (out ++ (B.drop ib).take k) ia (ib + k):=by
 refine ⟨?_,List.pairwise_append.mpr ⟨h.sor,(sB.drop ib).take k,fun x hx y hy=>h.leB x hx y (List.mem_of_mem_take hy)⟩,fun x hx y hy=>?_,fun x hx y hy=>?_⟩
 ·rw [List.take_add,← List.append_assoc]
  exact h.perm.append_right _
 ·rcases List.mem_append.mp hx with hx | hx
  ·exact h.leA x hx y hy
  ·exact le x hx y hy
 ·rw [← List.drop_drop] at hy
  rcases List.mem_append.mp hx with hx | hx
  ·exact h.leB x hx y (List.mem_of_mem_drop hy)
  ·exact (sB.drop ib).cut k x hx y hy
theorem MI.manyA (h:MI A B out ia ib) (sA:Sr A) (k:Nat) (le:∀ x∈(A.drop ia).take k,∀ y∈B.drop ib,key x≤key y):MI A B (out ++ (A.drop ia).take k) (ia + k) ib:=by
 refine ⟨?_,List.pairwise_append.mpr ⟨h.sor,(sA.drop ia).take k,fun x hx y hy=>h.leA x hx y (List.mem_of_mem_take hy)⟩,fun x hx y hy=>?_,fun x hx y hy=>?_⟩
 ·rw [List.take_add]
  refine (h.perm.append_right _).trans ?_
  rw [List.append_assoc,List.append_assoc]
  exact List.perm_append_comm.append_left _
 ·rw [← List.drop_drop] at hy
  rcases List.mem_append.mp hx with hx | hx
  ·exact h.leA x hx y (List.mem_of_mem_drop hy)
  ·exact (sA.drop ia).cut k x hx y hy
 ·rcases List.mem_append.mp hx with hx | hx
  ·exact h.leB x hx y hy
  ·exact le x hx y hy
theorem zba {l:List Keyed} {i:Nat} {q:Keyed} (e:l[i]? = some q):(l.drop i).take 1=[q]:=by
 obtain⟨h1,e1⟩:=List.getElem?_eq_some_iff.mp e
 rw [List.drop_eq_getElem_cons h1,e1]
 rfl
theorem zca {l:List Keyed} {i:Nat} {y:Keyed} (h:y∈l.drop i):∃ j,i≤j∧l[j]? = some y:=by
 obtain⟨j,hj⟩:=List.getElem?_of_mem h
 rw [List.getElem?_drop] at hj
 exact⟨i + j,Nat.le_add_right _ _,hj⟩
theorem zaJ {l:List Keyed} {i k:Nat} {y:Keyed} (h:y∈(l.drop i).take k):∃ j,j < k∧l[i + j]? = some y:=by
 obtain⟨j,hj⟩:=List.getElem?_of_mem h
 rw [List.getElem?_take] at hj
 split at hj
 ·rename_i hlt
  rw [List.getElem?_drop] at hj
  exact⟨j,hlt,hj⟩
 ·cases hj
def Good (A B M:List Keyed):Prop:=M.Perm (A ++ B)∧Sr M
theorem MI.endAB (h:MI A B out ia ib) (sA:Sr A) (sB:Sr B) (le:∀ x∈A.drop ia,∀ y∈B.drop ib,key x≤key y):Good A B (out ++ A.drop ia ++ B.drop ib):=by
 refine ⟨?_,List.pairwise_append.mpr ⟨List.pairwise_append.mpr ⟨h.sor,sA.drop _,h.leA⟩,sB.drop _,fun x hx y hy=>?_⟩⟩
 ·refine ((h.perm.append_right _).append_right _).trans ?_
  have e:A ++ B=(A.take ia ++ A.drop ia) ++ (B.take ib ++ B.drop ib):=by rw [List.take_append_drop,List.take_append_drop]
  rw [e]
  simp only [List.append_assoc]
  refine List.Perm.append_left _ ?_
  rw [← List.append_assoc,← List.append_assoc]
  exact List.Perm.append_right _ List.perm_append_comm
 ·rcases List.mem_append.mp hx with hx | hx
  ·exact h.leB x hx y hy
  ·exact le x hx y hy
theorem MI.endBA (h:MI A B out ia ib) (sA:Sr A) (sB:Sr B) (le:∀ x∈B.drop ib,∀ y∈A.drop ia,key x≤key y):Good A B (out ++ B.drop ib ++ A.drop ia):=by
 refine ⟨?_,List.pairwise_append.mpr ⟨List.pairwise_append.mpr ⟨h.sor,sB.drop _,h.leB⟩,sA.drop _,fun x hx y hy=>?_⟩⟩
 ·refine ((h.perm.append_right _).append_right _).trans ?_
  have e:A ++ B=(A.take ia ++ A.drop ia) ++ (B.take ib ++ B.drop ib):=by rw [List.take_append_drop,List.take_append_drop]
  rw [e]
  simp only [List.append_assoc]
  refine List.Perm.append_left _ ?_
  rw [← List.append_assoc]
  exact List.perm_append_comm
 ·rcases List.mem_append.mp hx with hx | hx
  ·exact h.leA x hx y hy
  ·exact le x hx y hy
end
structure SameG (st st':SortSt):Prop where
 kind:kindOf st'=kindOf st
 arr:arrOf st'=arrOf st
 pend:pendingOf st'=pendingOf st
 failed:failedOf st'=failedOf st
theorem SameG.refl (st:SortSt):SameG st st:=⟨rfl,rfl,rfl,rfl⟩
theorem SameG.set {st st':SortSt} (h:SameG st st') (g:Nat):SameG st (SortSt.mk' (kindOf st') (arrOf st') (pendingOf st') g (failedOf st')):=⟨h.kind,h.arr,h.pend,h.failed⟩
theorem zaG {a:Array Keyed} {i:Nat} (h:i < a.size):∃ q,a[i]? = some q∧a.toList[i]? = some q:=⟨a[i],by simp [h],by simp [h]⟩
theorem zbm {a:Array Keyed} {i:Nat} {q:Keyed} (h:a[i]? = some q):a.toList[i]? = some q:=by rw [Array.getElem?_toList];exact h
noncomputable def zlW:Array Keyed→Array Keyed→StateT SortSt Sem (Array Keyed):=sortPriv% PySem.Builtin.mergeLo
noncomputable def zlX:Array Keyed→Array Keyed→StateT SortSt Sem (Array Keyed):=sortPriv% PySem.Builtin.mergeHi
theorem zml {a:Array Keyed} (sa:Sr a.toList) (left:Bool) (k:Keyed) (base n:Nat) (hn:base + n≤a.size):∀ i j,i≤j→j < n→ask left k a base j=true→ask left k a base i=true:=by
 intro i j hij hj h
 obtain⟨p,e1,e2⟩:=zaG (a:=a) (i:=base + i) (by lia)
 obtain⟨q,e3,e4⟩:=zaG (a:=a) (i:=base + j) (by lia)
 have hle:=sa.get (by lia) e2 e4
 unfold ask at h ⊢
 rw [e1]
 rw [e3] at h
 cases left with
 | true =>
  simp only [if_true,decide_eq_true_eq] at h ⊢
  lia
 | false =>
  simp only [Bool.false_eq_true,if_false,Bool.not_eq_true',decide_eq_false_iff_not] at h ⊢
  lia
noncomputable abbrev LoC:=Option (Array Keyed)×Array Keyed×Nat×Nat×Nat×Nat×Nat
noncomputable def loT2 (a b:Array Keyed) (mg ac bc:Nat) (out:Array Keyed) (ia ib:Nat):StateT SortSt Sem (ForInStep LoC):=elem' a ia >>= fun p =>
 if (ia + 1 + 1 == a.size)=true then pure (.done (some (out.push p ++ b.extract ib ++ a.extract (ia + 1)),out.push p,ia + 1,ib,mg,ac,bc))
 else if (decide (ac < 7) && decide (bc < 7))=true then pure (.done (none,out.push p,ia + 1,ib,mg,ac,bc))
 else pure (.yield (none,out.push p,ia + 1,ib,mg,ac,bc))
noncomputable def loT1 (a b:Array Keyed) (mg ac bc:Nat) (out:Array Keyed) (ia ib:Nat):StateT SortSt Sem (ForInStep LoC):=elem' b ib >>= fun q =>
 if (ib + 1 == b.size)=true then pure (.done (some (out.push q ++ a.extract ia ++ b.extract (ib + 1)),out.push q,ia,ib + 1,mg,ac,bc))
 else elem' a ia >>= fun p=>zcR true p b (ib + 1) (b.size - (ib + 1)) 0 >>= fun r=>match r with
  | some k=>if k > 0 then (if (ib + 1 + k == b.size)=true then pure (.done (some (out.push q ++ b.extract (ib + 1) (ib + 1 + k) ++ a.extract ia ++ b.extract (ib + 1 + k)),out.push q ++ b.extract (ib + 1) (ib + 1 + k),ia,ib + 1 + k,mg,ac,k))
    else loT2 a b mg ac k (out.push q ++ b.extract (ib + 1) (ib + 1 + k)) ia (ib + 1 + k)) else loT2 a b mg ac k (out.push q) ia (ib + 1)
  | _=>pure (.done (some (out.push q ++ a.extract ia ++ b.extract (ib + 1)),out.push q,ia,ib + 1,mg,ac,bc))
section
variable {prog:Program} {w:World} {X:Around} {E:Value→Shared→Prop} {s:Shared} [SKL prog w X E s]
theorem zfo {left:Bool} {k:Keyed} {a:Array Keyed} {base n hint:Nat} {st:SortSt} {Q:Option Nat→SortSt→Prop} (hk:kindOf st=oneType') (hkey:IntK k) (ha:∀ p∈a.toList,IntK p) (sa:Sr a.toList)
  (hb:base + n≤a.size) (hn:hint < n)
  (h:∀ m,m≤n→(∀ i p,i < m→a[base + i]? = some p→if left then key p < key k else key p≤key k)→(∀ i p,m≤i→i < n→a[base + i]? = some p→if left then key k≤key p else key k < key p)→Q (some m) st) :
  wpS (model prog w) X E s (zcR left k a base n hint) Q st:=by
 refine zeV hk hkey (fun i hi=>?_) hn (zml sa left k base n hb) fun m hm h1 h2=>h m hm (fun i p hi e=>?_) fun i p hi hi' e=>?_
 ·obtain⟨q,e1,e2⟩:=zaG (a:=a) (i:=base + i) (by lia)
  exact⟨q,e1,ha q (List.mem_of_getElem? e2)⟩
 ·have:=h1 i hi
  unfold ask at this
  rw [e] at this
  cases left with
  | true=>simpa using this
  | false=>simpa using this
 ·have:=h2 i hi hi'
  unfold ask at this
  rw [e] at this
  cases left with
  | true=>simpa using this
  | false=>simpa using this
end
theorem ziy {a b out:Array Keyed} {ia ib:Nat} (sa:Sr a.toList) (sb:Sr b.toList) (hM:MI a.toList b.toList out.toList ia ib) (e:ib=b.size):Good a.toList b.toList (out ++ a.extract ia ++ b.extract ib).toList:=by
 have szB:b.toList.length=b.size:=by simp
 have q:=hM.endAB sa sb fun x _ y hy=>by
  rw [List.drop_eq_nil_of_le (by lia)] at hy
  cases hy
 simpa [List.extract_eq_take_drop,List.take_of_length_le] using q
theorem ziz {a b out:Array Keyed} {ia ib:Nat} {la:Keyed} (sa:Sr a.toList) (sb:Sr b.toList) (ela:a[a.size - 1]? = some la) (hlast:∀ x∈b.toList,key x < key la) (hM:MI a.toList b.toList out.toList ia ib) (e:ia + 1=a.size) :
  Good a.toList b.toList (out ++ b.extract ib ++ a.extract ia).toList:=by
 have szA:a.toList.length=a.size:=by simp
 have q:=hM.endBA sa sb fun x hx y hy=>by
  obtain⟨j,hj,ej⟩:=zca hy
  have hj':j < a.toList.length:=(List.getElem?_eq_some_iff.mp ej).1
  have:j=a.size - 1:=by lia
  subst this
  rw [zbm ela] at ej
  cases ej
  exact Int.le_of_lt (hlast x (List.mem_of_mem_drop hx))
 simpa [List.extract_eq_take_drop,List.take_of_length_le] using q
def LoQ (a b:Array Keyed) (st:SortSt) (lim:Nat) (c:LoC) (st':SortSt):Prop:=SameG st st'∧c.1=none∧MI a.toList b.toList c.2.1.toList c.2.2.1 c.2.2.2.1∧c.2.2.1 + 1 < a.size∧c.2.2.2.1 < b.size∧lim≤c.2.2.1 + c.2.2.2.1
def LoE (a b:Array Keyed) (st:SortSt) (lim:Nat) (c:LoC) (st':SortSt):Prop:=SameG st st'∧((∃ M:Array Keyed,c.1=some M∧Good a.toList b.toList M.toList) ∨
 (c.1=none∧MI a.toList b.toList c.2.1.toList c.2.2.1 c.2.2.2.1∧c.2.2.1 + 1 < a.size∧c.2.2.2.1 < b.size∧lim≤c.2.2.1 + c.2.2.2.1))
section
variable {prog:Program} {w:World} {X:Around} {E:Value→Shared→Prop} {s:Shared} [SKL prog w X E s] {a b:Array Keyed} {st st2:SortSt} {la:Keyed} {lim:Nat}
theorem zhR (sa:Sr a.toList) (sb:Sr b.toList) (ela:a[a.size - 1]? = some la) (hlast:∀ x∈b.toList,key x < key la) {mg ac bc:Nat} {out:Array Keyed} {ia ib:Nat} {p:Keyed} (hG:SameG st st2)
  (hM:MI a.toList b.toList out.toList ia ib) (ep:a[ia]? = some p) (h1:ia + 1 < a.size) (h2:ib < b.size) (h3:lim≤ia + ib) (hle:∀ y∈b.toList.drop ib,key p≤key y) :
  wpS (model prog w) X E s (loT2 a b mg ac bc out ia ib) (fun r st'=>match r with | .done c'=>LoE a b st lim c' st' | .yield c'=>LoQ a b st lim c' st') st2:=by
 refine wpS_bind (zav ep ?_)
 have ep2:=zbm ep
 have hM':MI a.toList b.toList (out.push p).toList (ia + 1) ib:=by
  have z:=hM.manyA sa 1 (fun x hx y hy=>by
   rw [zba ep2] at hx
   rw [List.mem_singleton.mp hx]
   exact hle y hy)
  rw [zba ep2] at z
  simpa using z
 by_cases e3:(ia + 1 + 1 == a.size)=true
 ·refine zao e3 ?_
  exact wpS_pure ⟨hG,.inl ⟨_,rfl,ziz sa sb ela hlast hM' (by simpa using e3)⟩⟩
 ·refine zan e3 ?_
  have e3':ia + 1 + 1≠a.size:=by simpa using e3
  split
  ·exact wpS_pure ⟨hG,.inr ⟨rfl,hM',(by dsimp only;lia),h2,(by dsimp only;lia)⟩⟩
  ·exact wpS_pure ⟨hG,rfl,hM',(by dsimp only;lia),h2,(by dsimp only;lia)⟩
theorem zhS (hk:kindOf st=oneType') (ha:∀ p∈a.toList,IntK p) (hb:∀ p∈b.toList,IntK p) (sa:Sr a.toList) (sb:Sr b.toList) (ela:a[a.size - 1]? = some la) (hlast:∀ x∈b.toList,key x < key la)
  {mg ac bc:Nat} {out:Array Keyed} {ia ib:Nat} {q:Keyed} (hG:SameG st st2)
  (hM:MI a.toList b.toList out.toList ia ib) (eq:b[ib]? = some q) (h1:ia + 1 < a.size) (h2:ib < b.size) (h3:lim≤ia + ib) (hle:∀ y∈a.toList.drop ia,key q≤key y) :
  wpS (model prog w) X E s (loT1 a b mg ac bc out ia ib) (fun r st'=>match r with | .done c'=>LoE a b st lim c' st' | .yield c'=>LoQ a b st lim c' st') st2:=by
 refine wpS_bind (zav eq ?_)
 have eq2:=zbm eq
 have hM':MI a.toList b.toList (out.push q).toList ia (ib + 1):=by
  have z:=hM.manyB sb 1 (fun x hx y hy=>by
   rw [zba eq2] at hx
   rw [List.mem_singleton.mp hx]
   exact hle y hy)
  rw [zba eq2] at z
  simpa using z
 by_cases e3:(ib + 1 == b.size)=true
 ·refine zao e3 ?_
  exact wpS_pure ⟨hG,.inl ⟨_,rfl,ziy sa sb hM' (by simpa using e3)⟩⟩
 refine zan e3 ?_
 have e3':ib + 1≠b.size:=by simpa using e3
 obtain⟨p,ep,ep2⟩:=zaG (a:=a) (i:=ia) (by lia)
 refine wpS_bind (zav ep (wpS_bind (zfo (hG.kind.trans hk) (ha p (List.mem_of_getElem? ep2)) hb sb (by lia) (by lia) fun k hk1 hB1 hB2=>?_)))
 dsimp only
 simp only [if_true] at hB1 hB2
 have rest:∀ y∈b.toList.drop (ib + 1 + k),key p≤key y:=fun y hy=>by
  obtain⟨j,hj,ej⟩:=zca hy
  have hj':j < b.size:=by
   have:=(List.getElem?_eq_some_iff.mp ej).1
   simpa using this
  refine hB2 (j - (ib + 1)) y (by lia) (by lia) ?_
  rw [show ib + 1 + (j - (ib + 1))=j by lia,← Array.getElem?_toList]
  exact ej
 by_cases hk0:k > 0
 ·refine zao hk0 ?_
  have hM3:MI a.toList b.toList (out.push q ++ b.extract (ib + 1) (ib + 1 + k)).toList ia (ib + 1 + k):=by
   have z:=hM'.manyB sb k (fun x hx y hy=>by
    obtain⟨j,hj,ej⟩:=zaJ hx
    have z1:=hB1 j x hj (by rw [← Array.getElem?_toList];exact ej)
    obtain⟨i,hi,ei⟩:=zca hy
    have z2:=sa.get hi ep2 ei
    lia)
   simpa [List.extract_eq_take_drop] using z
  by_cases e4:(ib + 1 + k == b.size)=true
  ·refine zao e4 ?_
   exact wpS_pure ⟨hG,.inl ⟨_,rfl,ziy sa sb hM3 (by simpa using e4)⟩⟩
  ·refine zan e4 ?_
   have e4':ib + 1 + k≠b.size:=by simpa using e4
   exact zhR sa sb ela hlast hG hM3 ep h1 (by lia) (by lia) rest
 ·refine zan hk0 ?_
  have hk00:k=0:=by lia
  subst hk00
  exact zhR sa sb ela hlast hG hM' ep h1 (by lia) (by lia) rest
end
noncomputable def loT0 (a b:Array Keyed) (mg ac bc:Nat) (out:Array Keyed) (ia ib:Nat):StateT SortSt Sem (ForInStep LoC):=elem' b ib >>= fun q=>zcR false q a ia (a.size - ia) 0 >>= fun r=>match r with
 | some k=>if k > 0 then (if (ia + k + 1 == a.size)=true then pure (.done (some (out ++ a.extract ia (ia + k) ++ b.extract ib ++ a.extract (ia + k)),out ++ a.extract ia (ia + k),ia + k,ib,mg,k,bc))
   else if (ia + k == a.size)=true then pure (.done (some (out ++ a.extract ia (ia + k) ++ a.extract (ia + k) ++ b.extract ib),out ++ a.extract ia (ia + k),ia + k,ib,mg,k,bc))
   else loT1 a b mg k bc (out ++ a.extract ia (ia + k)) (ia + k) ib) else loT1 a b mg k bc out ia ib
 | _=>pure (.done (some (out ++ a.extract ia ++ b.extract ib),out,ia,ib,mg,ac,bc))
noncomputable abbrev Lo6:=Option (Array Keyed)×Array Keyed×Nat×Nat×Nat×Nat
noncomputable def loI (a b:Array Keyed) (mg ac bc:Nat) (out:Array Keyed) (ia ib:Nat):StateT SortSt Sem (ForInStep Lo6):=elem' b ib >>= fun q=>elem' a ia >>= fun p=>lt' q p >>= fun r=>match r with
 | some w=>if w=true then (elem' b ib >>= fun q=>if (ib + 1 == b.size)=true then pure (.done (some (out.push q ++ a.extract ia ++ b.extract (ib + 1)),out.push q,ia,ib + 1,0,bc + 1))
   else if bc + 1≥mg then pure (.done (none,out.push q,ia,ib + 1,0,bc + 1)) else pure (.yield (none,out.push q,ia,ib + 1,0,bc + 1)))
  else elem' a ia >>= fun p=>if (ia + 1 + 1 == a.size)=true then pure (.done (some (out.push p ++ b.extract ib ++ a.extract (ia + 1)),out.push p,ia + 1,ib,ac + 1,0))
   else if ac + 1≥mg then pure (.done (none,out.push p,ia + 1,ib,ac + 1,0)) else pure (.yield (none,out.push p,ia + 1,ib,ac + 1,0))
 | _=>pure (.done (some (out ++ a.extract ia ++ b.extract ib),out,ia,ib,ac,bc))
def Lo1 (a b:Array Keyed) (lim:Nat) (c:Option (Array Keyed)) (out:Array Keyed) (ia ib:Nat):Prop:=c=none∧MI a.toList b.toList out.toList ia ib∧ia + 1 < a.size∧ib < b.size∧lim≤ia + ib
theorem Lo1.mono {a b:Array Keyed} {l l':Nat} {c:Option (Array Keyed)} {out:Array Keyed} {ia ib:Nat} (h:Lo1 a b l c out ia ib) (e:l'≤l):Lo1 a b l' c out ia ib:=⟨h.1,h.2.1,h.2.2.1,h.2.2.2.1,Nat.le_trans e h.2.2.2.2⟩
section
variable {prog:Program} {w:World} {X:Around} {E:Value→Shared→Prop} {s:Shared} [SKL prog w X E s] {a b:Array Keyed} {st st2:SortSt} {la:Keyed} {lim:Nat}
theorem zmY (hk:kindOf st=oneType') (ha:∀ p∈a.toList,IntK p) (hb:∀ p∈b.toList,IntK p) (sa:Sr a.toList) (sb:Sr b.toList) (ela:a[a.size - 1]? = some la) (hlast:∀ x∈b.toList,key x < key la)
  {mg ac bc:Nat} {out:Array Keyed} {ia ib:Nat} (hM:MI a.toList b.toList out.toList ia ib) (h1:ia + 1 < a.size) (h2:ib < b.size) (h3:lim≤ia + ib) :
  wpS (model prog w) X E s (loI a b mg ac bc out ia ib) (fun r st'=>match r with | .done c=>st'=st∧((∃ M:Array Keyed,c.1=some M∧Good a.toList b.toList M.toList)∨Lo1 a b (lim + 1) c.1 c.2.1 c.2.2.1 c.2.2.2.1) | .yield c=>st'=st∧Lo1 a b (lim + 1) c.1 c.2.1 c.2.2.1 c.2.2.2.1) st:=by
 obtain⟨q,eq1,eq2⟩:=zaG (a:=b) (i:=ib) h2
 obtain⟨p,ep1,ep2⟩:=zaG (a:=a) (i:=ia) (Nat.lt_of_succ_lt h1)
 refine wpS_bind (zav eq1 (wpS_bind (zav ep1 (wpS_bind (zfX hk (hb q (List.mem_of_getElem? eq2)) (ha p (List.mem_of_getElem? ep2)) ?_)))))
 by_cases hlt:key q < key p
 ·refine zao (decide_eq_true hlt) (wpS_bind (zav eq1 ?_))
  have hM':MI a.toList b.toList (out.push q).toList ia (ib + 1):=by
   have z:=hM.manyB sb 1 (fun x hx y hy=>by
    rw [zba eq2] at hx
    rw [List.mem_singleton.mp hx]
    obtain⟨j,hj,ej⟩:=zca hy
    exact Int.le_trans (Int.le_of_lt hlt) (sa.get hj ep2 ej))
   rw [zba eq2] at z
   simpa using z
  by_cases e3:(ib + 1 == b.size)=true
  ·exact zao e3 (wpS_pure ⟨rfl,.inl ⟨_,rfl,ziy sa sb hM' (by simpa using e3)⟩⟩)
  ·have l:Lo1 a b (lim + 1) none (out.push q) ia (ib + 1):=⟨rfl,hM',h1,Nat.lt_of_le_of_ne h2 (by simpa using e3),Nat.succ_le_succ h3⟩
   refine zan e3 ?_
   split
   ·exact wpS_pure ⟨rfl,.inr l⟩
   ·exact wpS_pure ⟨rfl,l⟩
 ·refine zan (by simpa using hlt) (wpS_bind (zav ep1 ?_))
  have hM':MI a.toList b.toList (out.push p).toList (ia + 1) ib:=by
   have z:=hM.manyA sa 1 (fun x hx y hy=>by
    rw [zba ep2] at hx
    rw [List.mem_singleton.mp hx]
    obtain⟨j,hj,ej⟩:=zca hy
    exact Int.le_trans (Int.not_lt.mp hlt) (sb.get hj eq2 ej))
   rw [zba ep2] at z
   simpa using z
  by_cases e3:(ia + 1 + 1 == a.size)=true
  ·exact zao e3 (wpS_pure ⟨rfl,.inl ⟨_,rfl,ziz sa sb ela hlast hM' (by simpa using e3)⟩⟩)
  ·have l:Lo1 a b (lim + 1) none (out.push p) (ia + 1) ib:=⟨rfl,hM',Nat.lt_of_le_of_ne h1 (by simpa using e3),h2,by lia⟩
   refine zan e3 ?_
   split
   ·exact wpS_pure ⟨rfl,.inr l⟩
   ·exact wpS_pure ⟨rfl,l⟩
theorem zhT (hk:kindOf st=oneType') (ha:∀ p∈a.toList,IntK p) (hb:∀ p∈b.toList,IntK p) (sa:Sr a.toList) (sb:Sr b.toList) (ela:a[a.size - 1]? = some la) (hlast:∀ x∈b.toList,key x < key la)
  {mg ac bc:Nat} {out:Array Keyed} {ia ib:Nat} (hG:SameG st st2) (hM:MI a.toList b.toList out.toList ia ib) (h1:ia + 1 < a.size) (h2:ib < b.size) (h3:lim≤ia + ib) :
  wpS (model prog w) X E s (loT0 a b mg ac bc out ia ib) (fun r st'=>match r with | .done c'=>LoE a b st lim c' st' | .yield c'=>LoQ a b st lim c' st') st2:=by
 obtain⟨q,eq1,eq2⟩:=zaG (a:=b) (i:=ib) h2
 refine wpS_bind (zav eq1 (wpS_bind (zfo (hG.kind.trans hk) (hb q (List.mem_of_getElem? eq2)) ha sa (by lia) (by lia) fun k hk1 hA1 hA2=>?_)))
 simp only [Bool.false_eq_true,if_false] at hA1 hA2
 have rest:∀ y∈a.toList.drop (ia + k),key q≤key y:=fun y hy=>by
  obtain⟨j,hj,ej⟩:=zca hy
  have hj':j < a.size:=by
   have:=(List.getElem?_eq_some_iff.mp ej).1
   simpa using this
  refine Int.le_of_lt (hA2 (j - ia) y (by lia) (by lia) ?_)
  rw [show ia + (j - ia)=j by lia,← Array.getElem?_toList]
  exact ej
 by_cases hk0:k > 0
 ·refine zao hk0 ?_
  have hM3:MI a.toList b.toList (out ++ a.extract ia (ia + k)).toList (ia + k) ib:=by
   have z:=hM.manyA sa k (fun x hx y hy=>by
    obtain⟨j,hj,ej⟩:=zaJ hx
    have z1:=hA1 j x hj (by rw [← Array.getElem?_toList];exact ej)
    obtain⟨i,hi,ei⟩:=zca hy
    exact Int.le_trans z1 (sb.get hi eq2 ei))
   simpa [List.extract_eq_take_drop] using z
  by_cases e4:(ia + k + 1 == a.size)=true
  ·exact zao e4 (wpS_pure ⟨hG,.inl ⟨_,rfl,ziz sa sb ela hlast hM3 (by simpa using e4)⟩⟩)
  ·have hkb:¬ (a.size - 1 - ia < k):=fun hlt=>by
    have z1:=hA1 (a.size - 1 - ia) la hlt (by rw [show ia + (a.size - 1 - ia)=a.size - 1 by lia];exact ela)
    exact Int.not_lt.mpr z1 (hlast q (List.mem_of_getElem? eq2))
   have e4':ia + k + 1≠a.size:=by simpa using e4
   have e5:ia + k + 1 < a.size:=by lia
   refine zan e4 (zan (by simp;lia) ?_)
   exact wpS_mono (zhS (lim:=lim) hk ha hb sa sb ela hlast hG hM3 eq1 e5 h2 (by lia) rest) fun r st' z=>by cases r <;> exact z
 ·have hk00:k=0:=Nat.eq_zero_of_not_pos hk0
  subst hk00
  exact zan hk0 (wpS_mono (zhS (lim:=lim) hk ha hb sa sb ela hlast hG hM eq1 h1 h2 h3 rest) fun r st' z=>by cases r <;> exact z)
end
section
variable {prog:Program} {w:World} {X:Around} {E:Value→Shared→Prop} {s:Shared} [SKL prog w X E s]
theorem zgO {a b:Array Keyed} {st:SortSt} {Q:Array Keyed→SortSt→Prop} (hk:kindOf st=oneType') (ha:∀ p∈a.toList,IntK p) (hb:∀ p∈b.toList,IntK p) (sa:Sr a.toList) (sb:Sr b.toList)
  (na:0 < a.size) (nb:0 < b.size) (h0:∀ q,b[0]? = some q→∀ y∈a.toList,key q≤key y) (hl:∀ p,a[a.size - 1]? = some p→∀ x∈b.toList,key x < key p)
  (h:∀ (M:Array Keyed) st',SameG st st'→Good a.toList b.toList M.toList→Q M st'):wpS (model prog w) X E s (zlW a b) Q st:=by
 obtain⟨la,ela,ela'⟩:=zaG (a:=a) (i:=a.size - 1) (by lia)
 have hlast:=hl la ela
 refine wpS_bind (wpS_lift (wpAny_rule ⟨rfl,?_⟩))
 obtain⟨b0,eb0,eb0'⟩:=zaG (a:=b) (i:=0) nb
 refine wpS_bind (zav eb0 ?_)
 have M0:MI a.toList b.toList (#[b0]:Array Keyed).toList 0 1:=by
  have z:MI a.toList b.toList [] 0 0:=⟨by simp,List.Pairwise.nil,(fun x hx=>by cases hx),(fun x hx=>by cases hx)⟩
  have z':=z.manyB sb 1 (fun x hx y hy=>by
   rw [zba eb0'] at hx
   rw [List.mem_singleton.mp hx]
   exact h0 b0 eb0 y (by simpa using hy))
  rw [zba eb0'] at z'
  simpa using z'
 by_cases e1:(1 == b.size)=true
 ·exact zao e1 (wpS_pure (h _ _ (.refl _) (ziy sa sb M0 (by simpa using e1))))
 refine zan e1 ?_
 have e1':1 < b.size:=Nat.lt_of_le_of_ne nb (by simpa using e1)
 by_cases e2:(0 + 1 == a.size)=true
 ·exact zao e2 (wpS_pure (h _ _ (.refl _) (ziz sa sb ela hlast M0 (by simpa using e2))))
 refine zan e2 ?_
 have e2':0 + 1 < a.size:=Nat.lt_of_le_of_ne na (by simpa using e2)
 refine wpS_bind (wpS_get ?_)
 refine wpS_bind (wpS_mono (wpS_forRange (a:=0) (b:=a.size + b.size)
  (I:=fun x c st'=>SameG st st'∧Lo1 a b (x + 1) c.1 c.2.1 c.2.2.1 c.2.2.2.1)
  (Q:=fun c st'=>SameG st st'∧∃ M:Array Keyed,c.1=some M∧Good a.toList b.toList M.toList) ?step ?fin ?init) ?post)
 case init=>exact⟨.refl _,rfl,M0,e2',e1',Nat.le_refl 1⟩
 case fin =>
  rintro ⟨r,out,ia,ib,mg⟩ st' ⟨hG,e,hM,h1,h2,h3⟩
  dsimp only at h1 h2 h3
  lia
 case post =>
  rintro ⟨r,out,ia,ib,mg⟩ st' ⟨hG,M,e,hM⟩
  cases (show r=some M from e)
  exact wpS_pure (h _ _ hG hM)
 case step =>
  rintro x ⟨r,out,ia,ib,mg⟩ st1 _ hx ⟨hG,e,hM,h1,h2,h3⟩
  cases (show r=none from e)
  refine wpS_bind (wpS_mono (wpS_forRange (a:=0) (b:=a.size + b.size)
   (I:=fun y c st'=>st'=st1∧Lo1 a b (ia + ib + y) c.1 c.2.1 c.2.2.1 c.2.2.2.1)
   (Q:=fun c st'=>st'=st1∧((∃ M:Array Keyed,c.1=some M∧Good a.toList b.toList M.toList)∨Lo1 a b (ia + ib + 1) c.1 c.2.1 c.2.2.1 c.2.2.2.1)) ?istep ?ifin ?iinit) ?ipost)
  case iinit=>exact⟨rfl,rfl,hM,h1,h2,Nat.le_refl _⟩
  case ifin=>exact fun c st' hc=>⟨hc.1,.inr (hc.2.mono (by lia))⟩
  case istep =>
   rintro y ⟨r,out,ia',ib',ac,bc⟩ st' _ hy ⟨rfl,e,hM,h1,h2,h3⟩
   cases (show r=none from e)
   exact wpS_mono (zmY (lim:=ia + ib + y) (hG.kind.trans hk) ha hb sa sb ela hlast hM h1 h2 h3) fun r st' z=>by
    cases r with
    | done c=>exact⟨z.1,z.2.imp id fun z=>z.mono (by lia)⟩
    | yield c=>exact z
  case ipost =>
   rintro ⟨r,out1,ia1,ib1,ac1,bc1⟩ st' ⟨rfl,⟨M,e,hgood⟩ | ⟨e,hM1,g1,g2,g3⟩⟩
   ·cases (show r=some M from e)
    exact wpS_pure ⟨hG,M,rfl,hgood⟩
   cases (show r=none from e)
   refine wpS_bind (wpS_lift (wpAny_rule ⟨rfl,?_⟩))
   refine wpS_bind (wpS_mono (wpS_forRange (a:=0) (b:=a.size + b.size) (I:=fun _ c st'=>LoQ a b st (ia + ib + 1) c st') (Q:=fun c st'=>LoE a b st (ia + ib + 1) c st') ?jstep ?jfin ?jinit) ?jpost)
   case jinit=>exact⟨hG,rfl,hM1,g1,g2,g3⟩
   case jfin=>exact fun c st' hc=>⟨hc.1,.inr hc.2⟩
   case jpost =>
    rintro ⟨r,out2,ia2,ib2,mg2,ac2,bc2⟩ st2 ⟨hG2,⟨M,e,hgood⟩ | ⟨e,hM2,k1,k2,k3⟩⟩
    ·cases (show r=some M from e)
     exact wpS_pure ⟨hG2,M,rfl,hgood⟩
    ·cases (show r=none from e)
     exact wpS_bind (wpS_modify (wpS_pure ⟨hG2.set _,rfl,hM2,k1,k2,Nat.le_trans (Nat.succ_le_succ h3) k3⟩))
   case jstep =>
    rintro y ⟨r,out2,ia2,ib2,mg2,ac2,bc2⟩ st2 _ hy ⟨hG2,e,hM2,k1,k2,k3⟩
    cases (show r=none from e)
    by_cases hmg:mg2 > 1
    ·exact zao hmg (wpS_bind (wpS_modify (wpS_mono (zhT hk ha hb sa sb ela hlast (hG2.set _) hM2 k1 k2 k3) fun r st' z=>by cases r <;> exact z)))
    ·exact zan hmg (wpS_bind (wpS_modify (wpS_mono (zhT hk ha hb sa sb ela hlast (hG2.set _) hM2 k1 k2 k3) fun r st' z=>by cases r <;> exact z)))
end
end Srt
namespace Srt
open PySem PyProof.Rows
variable [SK]
structure MH (A B R:List Keyed) (na nb:Nat):Prop where
 perm:R.Perm (A.drop na ++ B.drop nb)
 sor:Sr R
 leA:∀ x∈A.take na,∀ y∈R,key x≤key y
 leB:∀ x∈B.take nb,∀ y∈R,key x≤key y
section
variable {A B R:List Keyed} {na nb:Nat}
theorem ze9 (l:List Keyed) {m n:Nat} (h:m≤n):l.drop m=(l.drop m).take (n - m) ++ l.drop n:=by
 have e:l.drop n=(l.drop m).drop (n - m):=by rw [List.drop_drop];congr 1;lia
 rw [e,List.take_append_drop]
theorem zeW (l:List Keyed) {m n:Nat} (h:m≤n):l.take n=l.take m ++ (l.drop m).take (n - m):=by
 rw [← List.take_add]
 congr 1
 lia
theorem MH.manyA (h:MH A B R na nb) (sA:Sr A) {m:Nat} (hm:m≤na) (le:∀ x∈B.take nb,∀ y∈(A.drop m).take (na - m),key x≤key y):MH A B ((A.drop m).take (na - m) ++ R) m nb:=by
 have hs:=zeW A hm
 refine ⟨?_,List.pairwise_append.mpr ⟨(sA.drop m).take _,h.sor,fun x hx y hy=>h.leA x (by rw [hs];exact List.mem_append_right _ hx) y hy⟩,fun x hx y hy=>?_,fun x hx y hy=>?_⟩
 ·refine (h.perm.append_left _).trans (List.Perm.of_eq ?_)
  rw [← List.append_assoc,← ze9 A hm]
 ·rcases List.mem_append.mp hy with hy | hy
  ·have hd:y∈A.drop m:=List.mem_of_mem_take hy
   exact sA.cut m x hx y hd
  ·exact h.leA x (by rw [hs];exact List.mem_append_left _ hx) y hy
 ·rcases List.mem_append.mp hy with hy | hy
  ·exact le x hx y hy
  ·exact h.leB x hx y hy
theorem MH.manyB (h:MH A B R na nb) (sB:Sr B) {m:Nat} (hm:m≤nb) (le:∀ x∈A.take na,∀ y∈(B.drop m).take (nb - m),key x≤key y):MH A B ((B.drop m).take (nb - m) ++ R) na m:=by
 have hs:=zeW B hm
 refine ⟨?_,List.pairwise_append.mpr ⟨(sB.drop m).take _,h.sor,fun x hx y hy=>h.leB x (by rw [hs];exact List.mem_append_right _ hx) y hy⟩,fun x hx y hy=>?_,fun x hx y hy=>?_⟩
 ·refine (h.perm.append_left _).trans ?_
  refine List.Perm.trans ?_ (List.Perm.of_eq (congrArg (A.drop na ++ ·) (ze9 B hm).symm))
  rw [← List.append_assoc,← List.append_assoc]
  exact List.Perm.append_right _ List.perm_append_comm
 ·rcases List.mem_append.mp hy with hy | hy
  ·exact le x hx y hy
  ·exact h.leA x hx y hy
 ·rcases List.mem_append.mp hy with hy | hy
  ·have hd:y∈B.drop m:=List.mem_of_mem_take hy
   exact sB.cut m x hx y hd
  ·exact h.leB x (by rw [hs];exact List.mem_append_left _ hx) y hy
theorem MH.endAB (h:MH A B R na nb) (sA:Sr A) (sB:Sr B) (le:∀ x∈A.take na,∀ y∈B.take nb,key x≤key y):Good A B (A.take na ++ B.take nb ++ R):=by
 refine ⟨?_,List.pairwise_append.mpr ⟨List.pairwise_append.mpr ⟨sA.take _,sB.take _,le⟩,h.sor,fun x hx y hy=>?_⟩⟩
 ·refine (h.perm.append_left _).trans ?_
  have e:A ++ B=(A.take na ++ A.drop na) ++ (B.take nb ++ B.drop nb):=by rw [List.take_append_drop,List.take_append_drop]
  rw [e]
  simp only [List.append_assoc]
  refine List.Perm.append_left _ ?_
  rw [← List.append_assoc,← List.append_assoc]
  exact List.Perm.append_right _ List.perm_append_comm
 ·rcases List.mem_append.mp hx with hx | hx
  ·exact h.leA x hx y hy
  ·exact h.leB x hx y hy
theorem MH.endBA (h:MH A B R na nb) (sA:Sr A) (sB:Sr B) (le:∀ x∈B.take nb,∀ y∈A.take na,key x≤key y):Good A B (B.take nb ++ A.take na ++ R):=by
 refine ⟨?_,List.pairwise_append.mpr ⟨List.pairwise_append.mpr ⟨sB.take _,sA.take _,le⟩,h.sor,fun x hx y hy=>?_⟩⟩
 ·refine (h.perm.append_left _).trans ?_
  have e:A ++ B=(A.take na ++ A.drop na) ++ (B.take nb ++ B.drop nb):=by rw [List.take_append_drop,List.take_append_drop]
  rw [e]
  refine (List.perm_append_comm.append_right _).trans ?_
  simp only [List.append_assoc]
  refine List.Perm.append_left _ ?_
  rw [← List.append_assoc,← List.append_assoc]
  exact List.Perm.append_right _ List.perm_append_comm
 ·rcases List.mem_append.mp hx with hx | hx
  ·exact h.leB x hx y hy
  ·exact h.leA x hx y hy
theorem zc5 {l:List Keyed} {n:Nat} {q:Keyed} (h:0 < n) (e:l[n - 1]? = some q):(l.drop (n - 1)).take (n - (n - 1))=[q]:=by
 rw [show n - (n - 1)=1 by lia]
 exact zba e
theorem zb8 {l:List Keyed} {n:Nat} {y:Keyed} (h:y∈l.take n):∃ j,j < n∧l[j]? = some y:=by
 obtain⟨j,hj⟩:=List.getElem?_of_mem h
 rw [List.getElem?_take] at hj
 split at hj
 ·exact⟨j,by assumption,hj⟩
 ·cases hj
end
theorem ziB {a b out:Array Keyed} {na nb:Nat} (sa:Sr a.toList) (sb:Sr b.toList) (hM:MH a.toList b.toList out.reverse.toList na nb) (e:na=0):Good a.toList b.toList (a.extract 0 na ++ b.extract 0 nb ++ out.reverse).toList:=by
 have q:=hM.endAB sa sb fun x hx y _=>by
  subst e
  simp at hx
 simpa [List.extract_eq_take_drop] using q
theorem ziA {a b out:Array Keyed} {na nb:Nat} {b0:Keyed} (sa:Sr a.toList) (sb:Sr b.toList) (eb:b[0]? = some b0) (h0:∀ y∈a.toList,key b0 < key y) (hM:MH a.toList b.toList out.reverse.toList na nb) (e:nb=1) :
  Good a.toList b.toList (b.extract 0 nb ++ a.extract 0 na ++ out.reverse).toList:=by
 have q:=hM.endBA sa sb fun x hx y hy=>by
  obtain⟨j,hj,ej⟩:=zb8 hx
  have:j=0:=by lia
  subst this
  rw [zbm eb] at ej
  cases ej
  exact Int.le_of_lt (h0 y (List.mem_of_mem_take hy))
 simpa [List.extract_eq_take_drop] using q
noncomputable abbrev HiC:=Option (Array Keyed)×Nat×Nat×Array Keyed×Nat×Nat×Nat
noncomputable def hiT2 (a b:Array Keyed) (mg ac bc na nb:Nat) (out:Array Keyed):StateT SortSt Sem (ForInStep HiC):=elem' a (na - 1) >>= fun p =>
 if (na - 1 == 0)=true then pure (.done (some (a.extract 0 (na - 1) ++ b.extract 0 nb ++ (out.push p).reverse),na - 1,nb,out.push p,mg,ac,bc))
 else if (decide (ac < 7) && decide (bc < 7))=true then pure (.done (none,na - 1,nb,out.push p,mg,ac,bc))
 else pure (.yield (none,na - 1,nb,out.push p,mg,ac,bc))
noncomputable def hiT1 (a b:Array Keyed) (mg ac bc na nb:Nat) (out:Array Keyed):StateT SortSt Sem (ForInStep HiC):=elem' b (nb - 1) >>= fun q =>
 if (nb - 1 == 1)=true then pure (.done (some (b.extract 0 (nb - 1) ++ a.extract 0 na ++ (out.push q).reverse),na,nb - 1,out.push q,mg,ac,bc))
 else elem' a (na - 1) >>= fun p=>zcR true p b 0 (nb - 1) (nb - 1 - 1) >>= fun r=>match r with
  | some m=>if nb - 1 - m > 0 then (if (m == 1)=true then pure (.done (some (b.extract 0 m ++ a.extract 0 na ++ (out.push q ++ (b.extract m (nb - 1)).reverse).reverse),na,m,out.push q ++ (b.extract m (nb - 1)).reverse,mg,ac,nb - 1 - m))
    else if (m == 0)=true then pure (.done (some (a.extract 0 na ++ b.extract 0 m ++ (out.push q ++ (b.extract m (nb - 1)).reverse).reverse),na,m,out.push q ++ (b.extract m (nb - 1)).reverse,mg,ac,nb - 1 - m))
    else hiT2 a b mg ac (nb - 1 - m) na m (out.push q ++ (b.extract m (nb - 1)).reverse)) else hiT2 a b mg ac (nb - 1 - m) na (nb - 1) (out.push q)
  | _=>pure (.done (some (a.extract 0 na ++ b.extract 0 (nb - 1) ++ (out.push q).reverse),na,nb - 1,out.push q,mg,ac,bc))
def HiQ (a b:Array Keyed) (st:SortSt) (lim:Nat) (c:HiC) (st':SortSt):Prop:=SameG st st'∧c.1=none∧MH a.toList b.toList c.2.2.2.1.reverse.toList c.2.1 c.2.2.1∧0 < c.2.1∧1 < c.2.2.1∧c.2.1 + c.2.2.1≤lim∧c.2.1≤a.size∧c.2.2.1≤b.size
def HiE (a b:Array Keyed) (st:SortSt) (lim:Nat) (c:HiC) (st':SortSt):Prop:=SameG st st'∧((∃ M:Array Keyed,c.1=some M∧Good a.toList b.toList M.toList) ∨
 (c.1=none∧MH a.toList b.toList c.2.2.2.1.reverse.toList c.2.1 c.2.2.1∧0 < c.2.1∧1 < c.2.2.1∧c.2.1 + c.2.2.1≤lim∧c.2.1≤a.size∧c.2.2.1≤b.size))
section
variable {prog:Program} {w:World} {X:Around} {E:Value→Shared→Prop} {s:Shared} [SKL prog w X E s] {a b:Array Keyed} {st st2:SortSt} {b0:Keyed} {lim:Nat}
theorem zno {out:Array Keyed} {na nb:Nat} {p:Keyed} (sa:Sr a.toList) (hM:MH a.toList b.toList out.reverse.toList na nb) (h1:0 < na) (ep:a[na - 1]? = some p) (hle:∀ x∈b.toList.take nb,key x≤key p) :
  MH a.toList b.toList (out.push p).reverse.toList (na - 1) nb:=by
 have z:=hM.manyA sa (m:=na - 1) (by lia) (fun x hx y hy=>by
  rw [zc5 h1 (zbm ep)] at hy
  rw [List.mem_singleton.mp hy]
  exact hle x hx)
 rw [zc5 h1 (zbm ep)] at z
 simpa using z
theorem zoV {out:Array Keyed} {na nb:Nat} {q:Keyed} (sb:Sr b.toList) (hM:MH a.toList b.toList out.reverse.toList na nb) (h1:0 < nb) (eq:b[nb - 1]? = some q) (hle:∀ x∈a.toList.take na,key x≤key q) :
  MH a.toList b.toList (out.push q).reverse.toList na (nb - 1):=by
 have z:=hM.manyB sb (m:=nb - 1) (by lia) (fun x hx y hy=>by
  rw [zc5 h1 (zbm eq)] at hy
  rw [List.mem_singleton.mp hy]
  exact hle x hx)
 rw [zc5 h1 (zbm eq)] at z
 simpa using z
theorem zhU (sa:Sr a.toList) (sb:Sr b.toList) {mg ac bc na nb:Nat} {out:Array Keyed} {p:Keyed} (hG:SameG st st2)
  (hM:MH a.toList b.toList out.reverse.toList na nb) (ep:a[na - 1]? = some p) (h1:0 < na) (h2:1 < nb) (h3:na + nb≤lim) (h4:na≤a.size) (h5:nb≤b.size) (hle:∀ x∈b.toList.take nb,key x≤key p) :
  wpS (model prog w) X E s (hiT2 a b mg ac bc na nb out) (fun r st'=>match r with | .done c'=>HiE a b st lim c' st' | .yield c'=>HiQ a b st lim c' st') st2:=by
 refine wpS_bind (zav ep ?_)
 have hM':=zno sa hM h1 ep hle
 by_cases e3:(na - 1 == 0)=true
 ·refine zao e3 ?_
  exact wpS_pure ⟨hG,.inl ⟨_,rfl,ziB sa sb hM' (by simpa using e3)⟩⟩
 ·refine zan e3 ?_
  have e3':na - 1≠0:=by simpa using e3
  split
  ·exact wpS_pure ⟨hG,.inr ⟨rfl,hM',(by dsimp only;lia),h2,(by dsimp only;lia),(by dsimp only;lia),h5⟩⟩
  ·exact wpS_pure ⟨hG,rfl,hM',(by dsimp only;lia),h2,(by dsimp only;lia),(by dsimp only;lia),h5⟩
theorem zhV (hk:kindOf st=oneType') (ha:∀ p∈a.toList,IntK p) (hb:∀ p∈b.toList,IntK p) (sa:Sr a.toList) (sb:Sr b.toList) (eb:b[0]? = some b0) (h0:∀ y∈a.toList,key b0 < key y)
  {mg ac bc na nb:Nat} {out:Array Keyed} {q:Keyed} (hG:SameG st st2)
  (hM:MH a.toList b.toList out.reverse.toList na nb) (eq:b[nb - 1]? = some q) (h1:0 < na) (h2:1 < nb) (h3:na + nb≤lim) (h4:na≤a.size) (h5:nb≤b.size) (hle:∀ x∈a.toList.take na,key x≤key q) :
  wpS (model prog w) X E s (hiT1 a b mg ac bc na nb out) (fun r st'=>match r with | .done c'=>HiE a b st lim c' st' | .yield c'=>HiQ a b st lim c' st') st2:=by
 refine wpS_bind (zav eq ?_)
 have hM':=zoV sb hM (by lia) eq hle
 by_cases e3:(nb - 1 == 1)=true
 ·refine zao e3 ?_
  exact wpS_pure ⟨hG,.inl ⟨_,rfl,ziA sa sb eb h0 hM' (by simpa using e3)⟩⟩
 refine zan e3 ?_
 have e3':nb - 1≠1:=by simpa using e3
 obtain⟨p,ep,ep2⟩:=zaG (a:=a) (i:=na - 1) (by lia)
 refine wpS_bind (zav ep (wpS_bind (zfo (hG.kind.trans hk) (ha p (List.mem_of_getElem? ep2)) hb sb (by lia) (by lia) fun m hm1 hB1 hB2=>?_)))
 dsimp only
 simp only [if_true,Nat.zero_add] at hB1 hB2
 have hm0:m≠0:=fun e=>by
  have z1:=hB2 0 b0 (by lia) (by lia) eb
  have z2:=h0 p (List.mem_of_getElem? ep2)
  lia
 have rest:∀ x∈b.toList.take m,key x≤key p:=fun x hx=>by
  obtain⟨j,hj,ej⟩:=zb8 hx
  exact Int.le_of_lt (hB1 j x hj (by rw [← Array.getElem?_toList];exact ej))
 by_cases hk0:nb - 1 - m > 0
 ·refine zao hk0 ?_
  have hM3:MH a.toList b.toList (out.push q ++ (b.extract m (nb - 1)).reverse).reverse.toList na m:=by
   have z:=hM'.manyB sb hm1 (fun x hx y hy=>by
    obtain⟨j,hj,ej⟩:=zaJ hy
    have z1:=hB2 (m + j) y (by lia) (by lia) (by rw [← Array.getElem?_toList];exact ej)
    obtain⟨i,hi,ei⟩:=zb8 hx
    have z2:=sa.get (i:=i) (j:=na - 1) (by lia) ei ep2
    lia)
   simpa [List.extract_eq_take_drop] using z
  by_cases e4:(m == 1)=true
  ·refine zao e4 ?_
   exact wpS_pure ⟨hG,.inl ⟨_,rfl,ziA sa sb eb h0 hM3 (by simpa using e4)⟩⟩
  ·refine zan e4 ?_
   have e4':m≠1:=by simpa using e4
   refine zan (by simpa using hm0) ?_
   exact zhU sa sb hG hM3 ep h1 (by lia) (by lia) h4 (by lia) rest
 ·refine zan hk0 ?_
  have e:m=nb - 1:=by lia
  subst e
  exact zhU sa sb hG hM' ep h1 (by lia) (by lia) h4 (by lia) rest
noncomputable def hiT0 (a b:Array Keyed) (mg ac bc na nb:Nat) (out:Array Keyed):StateT SortSt Sem (ForInStep HiC):=elem' b (nb - 1) >>= fun q=>zcR false q a 0 na (na - 1) >>= fun r=>match r with
 | some m=>if na - m > 0 then (if (m == 0)=true then pure (.done (some (a.extract 0 m ++ b.extract 0 nb ++ (out ++ (a.extract m na).reverse).reverse),m,nb,out ++ (a.extract m na).reverse,mg,na - m,bc))
   else hiT1 a b mg (na - m) bc m nb (out ++ (a.extract m na).reverse)) else hiT1 a b mg (na - m) bc na nb out
 | _=>pure (.done (some (a.extract 0 na ++ b.extract 0 nb ++ out.reverse),na,nb,out,mg,ac,bc))
noncomputable abbrev Hi6:=Option (Array Keyed)×Nat×Nat×Array Keyed×Nat×Nat
noncomputable def hiI (a b:Array Keyed) (mg ac bc na nb:Nat) (out:Array Keyed):StateT SortSt Sem (ForInStep Hi6):=elem' b (nb - 1) >>= fun q=>elem' a (na - 1) >>= fun p=>lt' q p >>= fun r=>match r with
 | some w=>if w=true then (elem' a (na - 1) >>= fun p=>if (na - 1 == 0)=true then pure (.done (some (a.extract 0 (na - 1) ++ b.extract 0 nb ++ (out.push p).reverse),na - 1,nb,out.push p,ac + 1,0))
   else if ac + 1≥mg then pure (.done (none,na - 1,nb,out.push p,ac + 1,0)) else pure (.yield (none,na - 1,nb,out.push p,ac + 1,0)))
  else elem' b (nb - 1) >>= fun q=>if (nb - 1 == 1)=true then pure (.done (some (b.extract 0 (nb - 1) ++ a.extract 0 na ++ (out.push q).reverse),na,nb - 1,out.push q,0,bc + 1))
   else if bc + 1≥mg then pure (.done (none,na,nb - 1,out.push q,0,bc + 1)) else pure (.yield (none,na,nb - 1,out.push q,0,bc + 1))
 | _=>pure (.done (some (a.extract 0 na ++ b.extract 0 nb ++ out.reverse),na,nb,out,ac,bc))
def Hi1 (a b:Array Keyed) (lim:Nat) (c:Option (Array Keyed)) (na nb:Nat) (out:Array Keyed):Prop:=c=none∧MH a.toList b.toList out.reverse.toList na nb∧0 < na∧1 < nb∧na + nb≤lim∧na≤a.size∧nb≤b.size
omit [SKL prog w X E s] in
theorem Hi1.mono {l l':Nat} {c:Option (Array Keyed)} {out:Array Keyed} {na nb:Nat} (h:Hi1 a b l c na nb out) (e:l≤l'):Hi1 a b l' c na nb out:=⟨h.1,h.2.1,h.2.2.1,h.2.2.2.1,Nat.le_trans h.2.2.2.2.1 e,h.2.2.2.2.2⟩
theorem zmZ (hk:kindOf st=oneType') (ha:∀ p∈a.toList,IntK p) (hb:∀ p∈b.toList,IntK p) (sa:Sr a.toList) (sb:Sr b.toList) (eb:b[0]? = some b0) (h0:∀ y∈a.toList,key b0 < key y)
  {mg ac bc na nb:Nat} {out:Array Keyed} (hM:MH a.toList b.toList out.reverse.toList na nb) (h1:0 < na) (h2:1 < nb) (h3:na + nb≤lim + 1) (h4:na≤a.size) (h5:nb≤b.size) :
  wpS (model prog w) X E s (hiI a b mg ac bc na nb out) (fun r st'=>match r with | .done c=>st'=st∧((∃ M:Array Keyed,c.1=some M∧Good a.toList b.toList M.toList)∨Hi1 a b lim c.1 c.2.1 c.2.2.1 c.2.2.2.1) | .yield c=>st'=st∧Hi1 a b lim c.1 c.2.1 c.2.2.1 c.2.2.2.1) st:=by
 obtain⟨q,eq1,eq2⟩:=zaG (a:=b) (i:=nb - 1) (by lia)
 obtain⟨p,ep1,ep2⟩:=zaG (a:=a) (i:=na - 1) (by lia)
 refine wpS_bind (zav eq1 (wpS_bind (zav ep1 (wpS_bind (zfX hk (hb q (List.mem_of_getElem? eq2)) (ha p (List.mem_of_getElem? ep2)) ?_)))))
 by_cases hlt:key q < key p
 ·refine zao (decide_eq_true hlt) (wpS_bind (zav ep1 ?_))
  have hM':=zno sa hM h1 ep1 fun x hx=>by
   obtain⟨j,hj,ej⟩:=zb8 hx
   exact Int.le_trans (sb.get (i:=j) (j:=nb - 1) (Nat.le_sub_one_of_lt hj) ej eq2) (Int.le_of_lt hlt)
  by_cases e3:(na - 1 == 0)=true
  ·exact zao e3 (wpS_pure ⟨rfl,.inl ⟨_,rfl,ziB sa sb hM' (by simpa using e3)⟩⟩)
  ·have l:Hi1 a b lim none (na - 1) nb (out.push p):=⟨rfl,hM',Nat.pos_of_ne_zero (by simpa using e3),h2,(by lia),Nat.le_trans (Nat.sub_le _ _) h4,h5⟩
   refine zan e3 ?_
   split
   ·exact wpS_pure ⟨rfl,.inr l⟩
   ·exact wpS_pure ⟨rfl,l⟩
 ·refine zan (by simpa using hlt) (wpS_bind (zav eq1 ?_))
  have hM':=zoV sb hM (Nat.zero_lt_of_lt h2) eq1 fun x hx=>by
   obtain⟨j,hj,ej⟩:=zb8 hx
   exact Int.le_trans (sa.get (i:=j) (j:=na - 1) (Nat.le_sub_one_of_lt hj) ej ep2) (Int.not_lt.mp hlt)
  by_cases e3:(nb - 1 == 1)=true
  ·exact zao e3 (wpS_pure ⟨rfl,.inl ⟨_,rfl,ziA sa sb eb h0 hM' (by simpa using e3)⟩⟩)
  ·have e3':nb - 1≠1:=by simpa using e3
   have l:Hi1 a b lim none na (nb - 1) (out.push q):=⟨rfl,hM',h1,(by lia),(by lia),h4,Nat.le_trans (Nat.sub_le _ _) h5⟩
   refine zan e3 ?_
   split
   ·exact wpS_pure ⟨rfl,.inr l⟩
   ·exact wpS_pure ⟨rfl,l⟩
theorem zhW (hk:kindOf st=oneType') (ha:∀ p∈a.toList,IntK p) (hb:∀ p∈b.toList,IntK p) (sa:Sr a.toList) (sb:Sr b.toList) (eb:b[0]? = some b0) (h0:∀ y∈a.toList,key b0 < key y)
  {mg ac bc na nb:Nat} {out:Array Keyed} (hG:SameG st st2) (hM:MH a.toList b.toList out.reverse.toList na nb) (h1:0 < na) (h2:1 < nb) (h3:na + nb≤lim) (h4:na≤a.size) (h5:nb≤b.size) :
  wpS (model prog w) X E s (hiT0 a b mg ac bc na nb out) (fun r st'=>match r with | .done c'=>HiE a b st lim c' st' | .yield c'=>HiQ a b st lim c' st') st2:=by
 obtain⟨q,eq1,eq2⟩:=zaG (a:=b) (i:=nb - 1) (by lia)
 refine wpS_bind (zav eq1 (wpS_bind (zfo (hG.kind.trans hk) (hb q (List.mem_of_getElem? eq2)) ha sa (by lia) (Nat.sub_one_lt_of_lt h1) fun m hm1 hA1 hA2=>?_)))
 simp only [Bool.false_eq_true,if_false,Nat.zero_add] at hA1 hA2
 have rest:∀ x∈a.toList.take m,key x≤key q:=fun x hx=>by
  obtain⟨j,hj,ej⟩:=zb8 hx
  exact hA1 j x hj (by rw [← Array.getElem?_toList];exact ej)
 by_cases hk0:na - m > 0
 ·refine zao hk0 ?_
  have hM3:MH a.toList b.toList (out ++ (a.extract m na).reverse).reverse.toList m nb:=by
   have z:=hM.manyA sa hm1 (fun x hx y hy=>by
    obtain⟨j,hj,ej⟩:=zaJ hy
    have z1:=hA2 (m + j) y (Nat.le_add_right m j) (by lia) (by rw [← Array.getElem?_toList];exact ej)
    obtain⟨i,hi,ei⟩:=zb8 hx
    exact Int.le_trans (sb.get (i:=i) (j:=nb - 1) (Nat.le_sub_one_of_lt hi) ei eq2) (Int.le_of_lt z1))
   simpa [List.extract_eq_take_drop] using z
  by_cases e4:(m == 0)=true
  ·exact zao e4 (wpS_pure ⟨hG,.inl ⟨_,rfl,ziB sa sb hM3 (by simpa using e4)⟩⟩)
  ·exact zan e4 (wpS_mono (zhV (lim:=lim) hk ha hb sa sb eb h0 hG hM3 eq1 (Nat.pos_of_ne_zero (by simpa using e4)) h2 (by lia) (Nat.le_trans hm1 h4) h5 rest) fun r st' z=>by cases r <;> exact z)
 ·have e:m=na:=by lia
  subst e
  exact zan hk0 (wpS_mono (zhV (lim:=lim) hk ha hb sa sb eb h0 hG hM eq1 h1 h2 h3 h4 h5 rest) fun r st' z=>by cases r <;> exact z)
theorem zgP {Q:Array Keyed→SortSt→Prop} (hk:kindOf st=oneType') (ha:∀ p∈a.toList,IntK p) (hb:∀ p∈b.toList,IntK p) (sa:Sr a.toList) (sb:Sr b.toList)
  (na0:0 < a.size) (nb0:0 < b.size) (h0':∀ q,b[0]? = some q→∀ y∈a.toList,key q < key y) (hl:∀ p,a[a.size - 1]? = some p→∀ x∈b.toList,key x < key p)
  (h:∀ (M:Array Keyed) st',SameG st st'→Good a.toList b.toList M.toList→Q M st'):wpS (model prog w) X E s (zlX a b) Q st:=by
 obtain⟨la,ela,ela'⟩:=zaG (a:=a) (i:=a.size - 1) (by lia)
 have hlast:=hl la ela
 obtain⟨b0,eb,eb'⟩:=zaG (a:=b) (i:=0) nb0
 have h0:=h0' b0 eb
 refine wpS_bind (wpS_lift (wpAny_rule ⟨rfl,?_⟩))
 refine wpS_bind (zav ela ?_)
 have M0:MH a.toList b.toList (#[la]:Array Keyed).reverse.toList (a.size - 1) b.size:=by
  have z:MH a.toList b.toList (#[]:Array Keyed).reverse.toList a.size b.size:=by
   have e:(#[]:Array Keyed).reverse.toList=[]:=by simp
   rw [e]
   refine ⟨?_,List.Pairwise.nil,(fun x _ y hy=>by cases hy),(fun x _ y hy=>by cases hy)⟩
   rw [List.drop_eq_nil_of_le (by simp),List.drop_eq_nil_of_le (by simp)]
   exact List.Perm.refl _
  exact zno sa z na0 ela fun x hx=>Int.le_of_lt (hlast x (List.mem_of_mem_take hx))
 by_cases e1:(a.size - 1 == 0)=true
 ·exact zao e1 (wpS_pure (h _ _ (.refl _) (ziB sa sb M0 (by simpa using e1))))
 refine zan e1 ?_
 have e1':a.size - 1≠0:=by simpa using e1
 by_cases e2:(b.size == 1)=true
 ·exact zao e2 (wpS_pure (h _ _ (.refl _) (ziA sa sb eb h0 M0 (by simpa using e2))))
 refine zan e2 ?_
 have e2':b.size≠1:=by simpa using e2
 refine wpS_bind (wpS_get ?_)
 refine wpS_bind (wpS_mono (wpS_forRange (a:=0) (b:=a.size + b.size)
  (I:=fun x c st'=>SameG st st'∧Hi1 a b (a.size + b.size - x - 1) c.1 c.2.1 c.2.2.1 c.2.2.2.1)
  (Q:=fun c st'=>SameG st st'∧∃ M:Array Keyed,c.1=some M∧Good a.toList b.toList M.toList) ?step ?fin ?init) ?post)
 case init=>exact⟨.refl _,rfl,M0,Nat.pos_of_ne_zero e1',Nat.lt_of_le_of_ne nb0 (Ne.symm e2'),(by dsimp only;lia),Nat.sub_le _ _,Nat.le_refl _⟩
 case fin =>
  rintro ⟨r,na,nb,out,mg⟩ st' ⟨hG,e,hM,h1,h2,h3,_⟩
  dsimp only at h1 h2 h3
  lia
 case post =>
  rintro ⟨r,na,nb,out,mg⟩ st' ⟨hG,M,e,hM⟩
  cases (show r=some M from e)
  exact wpS_pure (h _ _ hG hM)
 case step =>
  rintro x ⟨r,na,nb,out,mg⟩ st1 _ hx ⟨hG,e,hM,h1,h2,h3,h4⟩
  cases (show r=none from e)
  refine wpS_bind (wpS_mono (wpS_forRange (a:=0) (b:=a.size + b.size)
   (I:=fun y c st'=>st'=st1∧Hi1 a b (na + nb - y) c.1 c.2.1 c.2.2.1 c.2.2.2.1)
   (Q:=fun c st'=>st'=st1∧((∃ M:Array Keyed,c.1=some M∧Good a.toList b.toList M.toList)∨Hi1 a b (na + nb - 1) c.1 c.2.1 c.2.2.1 c.2.2.2.1)) ?istep ?ifin ?iinit) ?ipost)
  case iinit=>exact⟨rfl,rfl,hM,h1,h2,Nat.le_refl _,h4⟩
  case ifin=>exact fun c st' hc=>⟨hc.1,.inr (hc.2.mono (by lia))⟩
  case istep =>
   rintro y ⟨r,na',nb',out,ac,bc⟩ st' _ hy ⟨rfl,e,hM,h1,h2,h3,h4,h5⟩
   cases (show r=none from e)
   exact wpS_mono (zmZ (lim:=na + nb - y - 1) (hG.kind.trans hk) ha hb sa sb eb h0 hM h1 h2 (by dsimp only at h3 ⊢;lia) h4 h5) fun r st' z=>by
    cases r with
    | done c=>exact⟨z.1,z.2.imp id fun z=>z.mono (by lia)⟩
    | yield c=>exact z
  case ipost =>
   rintro ⟨r,na1,nb1,out1,ac1,bc1⟩ st' ⟨rfl,⟨M,e,hgood⟩ | ⟨e,hM1,g⟩⟩
   ·cases (show r=some M from e)
    exact wpS_pure ⟨hG,M,rfl,hgood⟩
   cases (show r=none from e)
   refine wpS_bind (wpS_lift (wpAny_rule ⟨rfl,?_⟩))
   refine wpS_bind (wpS_mono (wpS_forRange (a:=0) (b:=a.size + b.size) (I:=fun _ c st'=>HiQ a b st (na + nb - 1) c st') (Q:=fun c st'=>HiE a b st (na + nb - 1) c st') ?jstep ?jfin ?jinit) ?jpost)
   case jinit=>exact⟨hG,rfl,hM1,g⟩
   case jfin=>exact fun c st' hc=>⟨hc.1,.inr hc.2⟩
   case jpost =>
    rintro ⟨r,na2,nb2,out2,mg2,ac2,bc2⟩ st2 ⟨hG2,⟨M,e,hgood⟩ | ⟨e,hM2,k1,k2,k3,k4⟩⟩
    ·cases (show r=some M from e)
     exact wpS_pure ⟨hG2,M,rfl,hgood⟩
    ·cases (show r=none from e)
     exact wpS_bind (wpS_modify (wpS_pure ⟨hG2.set _,rfl,hM2,k1,k2,Nat.le_trans k3 (Nat.sub_le_sub_right h3 1),k4⟩))
   case jstep =>
    rintro y ⟨r,na2,nb2,out2,mg2,ac2,bc2⟩ st2 _ hy ⟨hG2,e,hM2,k1,k2,k3,k4,k5⟩
    cases (show r=none from e)
    by_cases hmg:mg2 > 1
    ·exact zao hmg (wpS_bind (wpS_modify (wpS_mono (zhW hk ha hb sa sb eb h0 (hG2.set _) hM2 k1 k2 k3 k4 k5) fun r st' z=>by cases r <;> exact z)))
    ·exact zan hmg (wpS_bind (wpS_modify (wpS_mono (zhW hk ha hb sa sb eb h0 (hG2.set _) hM2 k1 k2 k3 k4 k5) fun r st' z=>by cases r <;> exact z)))
end
end Srt
namespace Srt
open PySem PyProof.Rows
variable [SK]
structure SB (a₀:Array Keyed) (st:SortSt):Prop where
 perm:(arrOf st).Perm a₀
 kind:kindOf st=oneType'
 failed:failedOf st=none
theorem SB.size {a₀:Array Keyed} {st:SortSt} (h:SB a₀ st):(arrOf st).size=a₀.size:=h.perm.size_eq
theorem SB.setArr {a₀:Array Keyed} {st:SortSt} (h:SB a₀ st) {xs:Array Keyed} (hp:xs.Perm (arrOf st)):SB a₀ (setArr st xs):=⟨hp.trans h.perm,h.kind,h.failed⟩
theorem SB.int {a₀:Array Keyed} {st:SortSt} (h:SB a₀ st) (h0:zbi a₀):∀ p∈(arrOf st).toList,IntK p:=fun p hp=>h0 p ((Array.perm_iff_toList_perm.mp h.perm).mem_iff.mp hp)
theorem SB.at {a₀:Array Keyed} {st:SortSt} (h:SB a₀ st) (h0:zbi a₀) {i:Nat} (hi:i < a₀.size):∃ p,(arrOf st)[i]? = some p∧IntK p∧K (arrOf st) i=key p:=by
 obtain⟨p,e1,e2⟩:=zaG (a:=arrOf st) (i:=i) (by rw [h.size];exact hi)
 exact⟨p,e1,h.int h0 p (List.mem_of_getElem? e2),by unfold K;rw [e1]⟩
def SIn (xs:Array Keyed) (lo n:Nat):Prop:=∀ i j,i≤j→j < n→K xs (lo + i)≤K xs (lo + j)
def NIn (xs:Array Keyed) (lo n:Nat):Prop:=∀ i j,i≤j→j < n→K xs (lo + j)≤K xs (lo + i)
structure Kept (lo:Nat) (st st':SortSt):Prop where
 keys:∀ k,k < lo→K (arrOf st') k=K (arrOf st) k
 pend:pendingOf st'=pendingOf st
theorem Kept.refl (lo:Nat) (st:SortSt):Kept lo st st:=⟨fun _ _=>rfl,rfl⟩
theorem Kept.trans {lo:Nat} {st st1 st2:SortSt} (a:Kept lo st st1) (b:Kept lo st1 st2):Kept lo st st2:=⟨fun k h=>(b.keys k h).trans (a.keys k h),b.pend.trans a.pend⟩
theorem Kept.mirror {lo:Nat} {st:SortSt} {i j:Nat} (hi:lo≤i) (hj:j≤(arrOf st).size):Kept lo st (setArr st (mirror (arrOf st) i j ((j - i) / 2))):=
 ⟨fun k h=>by
  show K (PyProof.Rows.mirror (arrOf st) i j ((j - i) / 2)) k=_
  rw [zdq hj,if_neg (by lia)],rfl⟩
noncomputable def zk5:Nat→Nat→StateT SortSt Sem (Option Nat):=sortPriv% PySem.Builtin.countRun
noncomputable def zhq:Nat→Nat→Nat→StateT SortSt Sem Bool:=sortPriv% PySem.Builtin.binarySort
section
variable {prog:Program} {w:World} {X:Around} {E:Value→Shared→Prop} {s:Shared} [SKL prog w X E s] {a₀:Array Keyed}
theorem zc3 {st:SortSt} {i j:Nat} {Q:Option Bool→SortSt→Prop} (hB:SB a₀ st) (h0:zbi a₀) (hi:i < a₀.size) (hj:j < a₀.size) (h:Q (some (decide (K (arrOf st) i < K (arrOf st) j))) st) :
  wpS (model prog w) X E s (ltAt' i j) Q st:=by
 obtain⟨p,e1,hp,k1⟩:=hB.at h0 hi
 obtain⟨q,e2,hq,k2⟩:=hB.at h0 hj
 rw [k1,k2] at h
 rw [ltAt'_eq]
 exact wpS_bind (wpS_get (wpS_bind (zav e1 (wpS_bind (zav e2 (zfX hB.kind hp hq h))))))
theorem zjI {st:SortSt} {lo a nrem:Nat} (h0:zbi a₀) (hB:SB a₀ st) (hn:lo + nrem≤a₀.size) (ha:1≤a) (han:a≤nrem) (hs:SIn (arrOf st) lo a) :
  wpS (model prog w) X E s (forIn [a:nrem] ((none,a):Option (Option Nat)×Nat) fun _ c=>ltAt' (lo + c.2) (lo + c.2 - 1) >>= fun r=>match r with
   | some smaller=>if smaller=true then pure (ForInStep.done (none,c.2)) else pure (ForInStep.yield (none,c.2 + 1))
   | _=>pure (ForInStep.done (some none,c.2)))
   (fun c st'=>st'=st∧∃ n,c=(none,n)∧a≤n∧n≤nrem∧SIn (arrOf st) lo n∧(n=nrem∨K (arrOf st) (lo + n) < K (arrOf st) (lo + n - 1))) st:=by
 refine wpS_forRange (I:=fun x c st'=>st'=st∧c=(none,x)∧SIn (arrOf st) lo x) ?step ?fin ⟨rfl,rfl,hs⟩
 case fin =>
  rintro c st' ⟨rfl,rfl,hs'⟩
  rw [show max a nrem=nrem by lia] at hs' ⊢
  exact⟨rfl,nrem,rfl,han,Nat.le_refl _,hs',.inl rfl⟩
 case step =>
  rintro x c st' hax hxn ⟨rfl,rfl,hs'⟩
  dsimp only
  refine wpS_bind (zc3 hB h0 (by lia) (by lia) ?_)
  by_cases hless:K (arrOf st') (lo + x) < K (arrOf st') (lo + x - 1)
  ·simp only [hless,decide_true,if_true]
   exact wpS_pure ⟨rfl,x,rfl,hax,(by lia),hs',.inr hless⟩
  ·simp only [hless,decide_false,Bool.false_eq_true,if_false]
   refine wpS_pure ⟨rfl,rfl,fun i j hij hj=>?_⟩
   by_cases hjx:j < x
   ·exact hs' i j hij hjx
   ·have hj':j=x:=by lia
    subst hj'
    by_cases hi':i=j
    ·subst hi';exact Int.le_refl _
    ·have z:=hs' i (j - 1) (by lia) (by lia)
     rw [show lo + (j - 1)=lo + j - 1 by lia] at z
     exact Int.le_trans z (Int.not_lt.mp hless)
theorem zhZ {st:SortSt} {lo n nrem:Nat} (h0:zbi a₀) (hB:SB a₀ st) (hn:lo + nrem≤a₀.size) (h1:1≤n) (hnn:n≤nrem) (hs:NIn (arrOf st) lo n) :
  wpS (model prog w) X E s (forIn [n:nrem] ((none,n,0):Option (Option Nat)×Nat×Nat) fun _ c=>ltAt' (lo + c.2.1) (lo + c.2.1 - 1) >>= fun r=>match r with
   | some smaller =>
    if smaller=true then
     (if c.2.2 > 0 then reverseSlice' (lo + c.2.1 - (c.2.2 + 1)) (lo + c.2.1) >>= fun _=>pure (ForInStep.yield (none,c.2.1 + 1,0)) else pure (ForInStep.yield (none,c.2.1 + 1,0)))
    else ltAt' (lo + c.2.1 - 1) (lo + c.2.1) >>= fun r=>match r with
     | some larger=>if larger=true then pure (ForInStep.done (none,c.2.1,c.2.2)) else pure (ForInStep.yield (none,c.2.1 + 1,c.2.2 + 1))
     | _=>pure (ForInStep.done (some none,c.2.1,c.2.2))
   | _=>pure (ForInStep.done (some none,c.2.1,c.2.2)))
   (fun c st'=>∃ m neq,c=(none,m,neq)∧SB a₀ st'∧Kept lo st st'∧n≤m∧m≤nrem∧NIn (arrOf st') lo m∧neq + 1≤m∧(∀ i,m - (neq + 1)≤i→i < m→K (arrOf st') (lo + i)=K (arrOf st') (lo + (m - 1)))) st:=by
 refine wpS_forRange (I:=fun x c st'=>∃ neq,c=(none,x,neq)∧SB a₀ st'∧Kept lo st st'∧NIn (arrOf st') lo x∧neq + 1≤x ∧
   (∀ i,x - (neq + 1)≤i→i < x→K (arrOf st') (lo + i)=K (arrOf st') (lo + (x - 1)))) ?step ?fin ⟨0,rfl,hB,.refl _ _,hs,by lia,fun i h1 h2=>by congr 1;lia⟩
 case fin =>
  rintro c st' ⟨neq,rfl,hB',hK,hs',hq,he⟩
  rw [show max n nrem=nrem by lia] at hs' hq he ⊢
  exact⟨nrem,neq,rfl,hB',hK,hnn,Nat.le_refl _,hs',hq,he⟩
 case step =>
  rintro x c st' hax hxn ⟨neq,rfl,hB',hK,hs',hq,he⟩
  dsimp only
  have hsz:lo + x≤(arrOf st').size:=by rw [hB'.size];lia
  have ex:lo + (x - 1)=lo + x - 1:=by lia
  refine wpS_bind (zc3 hB' h0 (by lia) (by lia) ?_)
  by_cases hless:K (arrOf st') (lo + x) < K (arrOf st') (lo + x - 1)
  ·simp only [hless,decide_true,if_true]
   have step1:∀ xs:Array Keyed,(∀ k,K xs k=K (arrOf st') k)→NIn xs lo (x + 1):=by
    intro xs hk i j hij hj
    rw [hk,hk]
    by_cases hjx:j < x
    ·exact hs' i j hij hjx
    ·have hj':j=x:=by lia
     subst hj'
     by_cases hi':i=j
     ·subst hi';exact Int.le_refl _
     ·have z:=hs' i (j - 1) (by lia) (by lia)
      rw [ex] at z
      exact Int.le_trans (Int.le_of_lt hless) z
   by_cases hneq:neq > 0
   ·refine zao hneq ?_
    have hm:∀ k,K (mirror (arrOf st') (lo + x - (neq + 1)) (lo + x) ((lo + x - (lo + x - (neq + 1))) / 2)) k=K (arrOf st') k:=ziT hsz fun k h1 h2=>by
     have z:=he (k - lo) (by lia) (by lia)
     rw [ex,show lo + (k - lo)=k by lia] at z
     exact z
    refine wpS_bind (wpS_reverse (wpS_pure ⟨0,rfl,hB'.setArr (mirror_perm _ _ _ _),hK.trans (.mirror (by lia) hsz),step1 _ hm,by lia,fun i h1 h2=>by congr 1;lia⟩))
   ·refine zan hneq ?_
    exact wpS_pure ⟨0,rfl,hB',hK,step1 _ (fun _=>rfl),by lia,fun i h1 h2=>by congr 1;lia⟩
  ·simp only [hless,decide_false,Bool.false_eq_true,if_false]
   refine wpS_bind (zc3 hB' h0 (by lia) (by lia) ?_)
   by_cases hlarger:K (arrOf st') (lo + x - 1) < K (arrOf st') (lo + x)
   ·simp only [hlarger,decide_true,if_true]
    exact wpS_pure ⟨x,neq,rfl,hB',hK,hax,(by lia),hs',hq,he⟩
   ·simp only [hlarger,decide_false,Bool.false_eq_true,if_false]
    have heqx:K (arrOf st') (lo + x)=K (arrOf st') (lo + (x - 1)):=by rw [ex];lia
    refine wpS_pure ⟨neq + 1,rfl,hB',hK,fun i j hij hj=>?_,by lia,fun i h1 h2=>?_⟩
    ·by_cases hjx:j < x
     ·exact hs' i j hij hjx
     ·have hj':j=x:=by lia
      subst hj'
      by_cases hi':i=j
      ·subst hi';exact Int.le_refl _
      ·rw [heqx];exact hs' i (j - 1) (by lia) (by lia)
    ·rw [show x + 1 - 1=x by lia]
     by_cases hix:i=x
     ·subst hix;rfl
     ·rw [heqx];exact he i (by lia) (by lia)
theorem zhY {st:SortSt} {lo n nrem:Nat} {Q:Option Nat→SortSt→Prop} (h0:zbi a₀) (hB:SB a₀ st) (hn:lo + nrem≤a₀.size) (hnn:n + 1≤nrem) (hs:NIn (arrOf st) lo (n + 1))
  (h:∀ m st',SB a₀ st'→Kept lo st st'→1≤m→m≤nrem→SIn (arrOf st') lo m→Q (some m) st')
  {Dloop:StateT SortSt Sem (Option (Option Nat)×Nat×Nat)}
  (hD:wpS (model prog w) X E s Dloop (fun c st'=>∃ m neq,c=(none,m,neq)∧SB a₀ st'∧Kept lo st st'∧n + 1≤m∧m≤nrem∧NIn (arrOf st') lo m∧neq + 1≤m∧(∀ i,m - (neq + 1)≤i→i < m→K (arrOf st') (lo + i)=K (arrOf st') (lo + (m - 1)))) st)
  {rest:Option (Option Nat)×Nat×Nat→StateT SortSt Sem (Option Nat)}
  (hrest:∀ m neq,rest (none,m,neq)=(if neq > 0 then reverseSlice' (lo + m - (neq + 1)) (lo + m) >>= fun _=>reverseSlice' lo (lo + m) >>= fun _=>(forIn [m:nrem] ((none,m):Option (Option Nat)×Nat) fun _ c=>ltAt' (lo + c.2) (lo + c.2 - 1) >>= fun r=>match r with
    | some smaller=>if smaller=true then pure (ForInStep.done (none,c.2)) else pure (ForInStep.yield (none,c.2 + 1))
    | _=>pure (ForInStep.done (some none,c.2))) >>= fun c=>(match c.1 with | some r=>pure r | none=>pure (some c.2))
   else reverseSlice' lo (lo + m) >>= fun _=>(forIn [m:nrem] ((none,m):Option (Option Nat)×Nat) fun _ c=>ltAt' (lo + c.2) (lo + c.2 - 1) >>= fun r=>match r with
    | some smaller=>if smaller=true then pure (ForInStep.done (none,c.2)) else pure (ForInStep.yield (none,c.2 + 1))
    | _=>pure (ForInStep.done (some none,c.2))) >>= fun c=>(match c.1 with | some r=>pure r | none=>pure (some c.2)))) :
  wpS (model prog w) X E s (Dloop >>= rest) Q st:=by
 refine wpS_bind (wpS_mono hD ?_)
 rintro c st1 ⟨m,neq,rfl,hB1,hK1,hm1,hm2,hs1,hq,he⟩
 rw [hrest]
 have hsz:lo + m≤(arrOf st1).size:=by rw [hB1.size];lia
 have fin:∀ st2,SB a₀ st2→Kept lo st st2→NIn (arrOf st2) lo m→wpS (model prog w) X E s (reverseSlice' lo (lo + m) >>= fun _=>(forIn [m:nrem] ((none,m):Option (Option Nat)×Nat) fun _ c=>ltAt' (lo + c.2) (lo + c.2 - 1) >>= fun r=>match r with
    | some smaller=>if smaller=true then pure (ForInStep.done (none,c.2)) else pure (ForInStep.yield (none,c.2 + 1))
    | _=>pure (ForInStep.done (some none,c.2))) >>= fun c=>(match c.1 with | some r=>pure r | none=>pure (some c.2))) Q st2:=by
  intro st2 hB2 hK2 hs2
  have hsz2:lo + m≤(arrOf st2).size:=by rw [hB2.size];lia
  refine wpS_bind (wpS_reverse ?_)
  have hB3:SB a₀ (setArr st2 (mirror (arrOf st2) lo (lo + m) ((lo + m - lo) / 2))):=hB2.setArr (mirror_perm _ _ _ _)
  have hK3:Kept lo st (setArr st2 (mirror (arrOf st2) lo (lo + m) ((lo + m - lo) / 2))):=hK2.trans (.mirror (Nat.le_refl _) hsz2)
  refine wpS_bind (wpS_mono (zjI h0 hB3 hn (by lia) hm2 ?_) ?_)
  ·intro i j hij hj
   show K (mirror (arrOf st2) lo (lo + m) ((lo + m - lo) / 2)) (lo + i)≤K (mirror (arrOf st2) lo (lo + m) ((lo + m - lo) / 2)) (lo + j)
   rw [zdq hsz2,zdq hsz2,if_pos (by lia),if_pos (by lia)]
   have z:=hs2 (m - 1 - j) (m - 1 - i) (by lia) (by lia)
   rw [show lo + (m - 1 - i)=lo + (lo + m) - 1 - (lo + i) by lia,show lo + (m - 1 - j)=lo + (lo + m) - 1 - (lo + j) by lia] at z
   exact z
  ·rintro c st4 ⟨rfl,n4,rfl,g1,g2,g3,_⟩
   exact wpS_pure (h n4 _ hB3 hK3 (by lia) g2 g3)
 by_cases hneq:neq > 0
 ·refine zao hneq ?_
  refine wpS_bind (wpS_reverse ?_)
  refine fin _ (hB1.setArr (mirror_perm _ _ _ _)) (hK1.trans (.mirror (by lia) hsz)) ?_
  intro i j hij hj
  have hm:∀ k,K (mirror (arrOf st1) (lo + m - (neq + 1)) (lo + m) ((lo + m - (lo + m - (neq + 1))) / 2)) k=K (arrOf st1) k:=ziT hsz fun k h1 h2=>by
   have z:=he (k - lo) (by lia) (by lia)
   rw [show lo + (m - 1)=lo + m - 1 by lia,show lo + (k - lo)=k by lia] at z
   exact z
  show K (mirror (arrOf st1) _ _ _) (lo + j)≤K (mirror (arrOf st1) _ _ _) (lo + i)
  rw [hm,hm]
  exact hs1 i j hij hj
 ·refine zan hneq ?_
  exact fin st1 hB1 hK1 hs1
theorem zfp {st:SortSt} {lo nrem:Nat} {Q:Option Nat→SortSt→Prop} (h0:zbi a₀) (hB:SB a₀ st) (hn:lo + nrem≤a₀.size) (h1:1≤nrem)
  (h:∀ m st',SB a₀ st'→Kept lo st st'→1≤m→m≤nrem→SIn (arrOf st') lo m→Q (some m) st') :
  wpS (model prog w) X E s (zk5 lo nrem) Q st:=by
 refine wpS_bind (wpS_mono (zjI h0 hB hn (Nat.le_refl 1) h1 (fun i j hij hj=>by
  have:i=j:=by lia
  subst this
  exact Int.le_refl _)) ?_)
 rintro c st' ⟨rfl,n,rfl,hn1,hn2,hsn,hor⟩
 dsimp only
 by_cases hnn:n=nrem
 ·refine zao (by simpa using hnn) ?_
  exact wpS_pure (h n _ hB (.refl _ _) hn1 hn2 hsn)
 ·refine zan (by simpa using hnn) ?_
  have hlt:K (arrOf st') (lo + n) < K (arrOf st') (lo + n - 1):=hor.resolve_left hnn
  by_cases hgt:n > 1
  ·refine zao hgt ?_
   refine wpS_bind (zc3 hB h0 (by lia) (by lia) ?_)
   by_cases hrose:K (arrOf st') lo < K (arrOf st') (lo + n - 1)
   ·simp only [hrose,decide_true,if_true]
    exact wpS_pure (h n _ hB (.refl _ _) hn1 hn2 hsn)
   ·simp only [hrose,decide_false,Bool.false_eq_true,if_false]
    have hsz:lo + n≤(arrOf st').size:=by rw [hB.size];lia
    have hall:∀ k,lo≤k→k < lo + n→K (arrOf st') k=K (arrOf st') (lo + n - 1):=by
     intro k hk1 hk2
     have a1:=hsn 0 (k - lo) (by lia) (by lia)
     have a2:=hsn (k - lo) (n - 1) (by lia) (by lia)
     rw [show lo + 0=lo by lia,show lo + (k - lo)=k by lia] at a1
     rw [show lo + (k - lo)=k by lia,show lo + (n - 1)=lo + n - 1 by lia] at a2
     lia
    refine wpS_bind (wpS_reverse ?_)
    refine wpS_bind (wpS_lift (wpAny_rule ⟨rfl,?_⟩))
    have hB2:SB a₀ (setArr st' (mirror (arrOf st') lo (lo + n) ((lo + n - lo) / 2))):=hB.setArr (mirror_perm _ _ _ _)
    have hK2:Kept lo st' (setArr st' (mirror (arrOf st') lo (lo + n) ((lo + n - lo) / 2))):=.mirror (Nat.le_refl _) hsz
    have hN2:NIn (arrOf (setArr st' (mirror (arrOf st') lo (lo + n) ((lo + n - lo) / 2)))) lo (n + 1):=by
     intro i j hij hj
     show K (mirror (arrOf st') _ _ _) (lo + j)≤K (mirror (arrOf st') _ _ _) (lo + i)
     rw [ziT hsz hall,ziT hsz hall]
     by_cases hjn:j < n
     ·rw [hall (lo + i) (by lia) (by lia),hall (lo + j) (by lia) (by lia)];exact Int.le_refl _
     ·have hj':j=n:=by lia
      subst hj'
      by_cases hi':i=j
      ·subst hi';exact Int.le_refl _
      ·rw [hall (lo + i) (by lia) (by lia)];exact Int.le_of_lt hlt
    exact zhY h0 hB2 hn (by lia) hN2 (fun m st3 g1 g2 g3 g4 g5=>h m st3 g1 (hK2.trans g2) g3 g4 g5) (zhZ h0 hB2 hn (by lia) (by lia) hN2) fun m neq=>by
     dsimp only
     split
     ·congr 1;funext _;congr 1;funext _;congr 1;funext c;obtain⟨r,k⟩:=c;cases r <;> rfl
     ·congr 1;funext _;congr 1;funext c;obtain⟨r,k⟩:=c;cases r <;> rfl
  ·refine zan hgt ?_
   have hn1':n=1:=by lia
   subst hn1'
   refine wpS_bind (wpS_lift (wpAny_rule ⟨rfl,?_⟩))
   have hN2:NIn (arrOf st') lo (1 + 1):=by
    intro i j hij hj
    by_cases hi':i=j
    ·subst hi';exact Int.le_refl _
    ·have hi0:i=0:=by lia
     have hj1:j=1:=by lia
     subst hi0;subst hj1
     rw [show lo + 1 - 1=lo + 0 by lia] at hlt
     exact Int.le_of_lt hlt
   exact zhY h0 hB hn (by lia) hN2 (fun m st3 g1 g2 g3 g4 g5=>h m st3 g1 g2 g3 g4 g5) (zhZ h0 hB hn (by lia) (by lia) hN2) fun m neq=>by
     dsimp only
     split
     ·congr 1;funext _;congr 1;funext _;congr 1;funext c;obtain⟨r,k⟩:=c;cases r <;> rfl
     ·congr 1;funext _;congr 1;funext c;obtain⟨r,k⟩:=c;cases r <;> rfl
end
end Srt
namespace Srt
open PySem PyProof.Rows
variable [SK]
section
variable {prog:Program} {w:World} {X:Around} {E:Value→Shared→Prop} {s:Shared} [SKL prog w X E s] {a₀:Array Keyed}
theorem zd6 {st:SortSt} {lo n ok:Nat} {Q:Bool→SortSt→Prop} (h0:zbi a₀) (hB:SB a₀ st) (hn:lo + n≤a₀.size) (hok:ok≤n) (hs:SIn (arrOf st) lo ok)
  (h:∀ st',SB a₀ st'→Kept lo st st'→SIn (arrOf st') lo n→Q true st'):wpS (model prog w) X E s (zhq lo n ok) Q st:=by
 refine wpS_bind (wpS_mono (wpS_forRange (I:=fun k c st'=>c=(none,())∧SB a₀ st'∧Kept lo st st'∧SIn (arrOf st') lo (min k n))
  (Q:=fun c st'=>c=(none,())∧SB a₀ st'∧Kept lo st st'∧SIn (arrOf st') lo n) ?step ?fin ?init) ?post)
 case post =>
  rintro c st' ⟨rfl,hB',hK',hs'⟩
  exact wpS_pure (h st' hB' hK' hs')
 case init =>
  refine ⟨rfl,hB,.refl _ _,fun i j hij hj=>?_⟩
  by_cases h1:ok=0
  ·have:i=j:=by lia
   subst this;exact Int.le_refl _
  ·exact hs i j hij (by lia)
 case fin =>
  rintro c st' ⟨hc,hB',hK',hs'⟩
  refine ⟨hc,hB',hK',?_⟩
  rwa [show min (max (max ok 1) n) n=n by lia] at hs'
 case step =>
  rintro k c st' hak hkn ⟨rfl,hB',hK',hs'⟩
  rw [show min k n=k by lia] at hs'
  refine wpS_bind (wpS_mono (wpS_forRange (I:=fun x c st''=>st''=st'∧∃ l r,c=(none,l,r)∧l≤r∧r≤k∧r - l≤k - x ∧
    (∀ i,i < l→K (arrOf st') (lo + i)≤K (arrOf st') (lo + k))∧(∀ i,r≤i→i < k→K (arrOf st') (lo + k) < K (arrOf st') (lo + i)))
   (Q:=fun c st''=>st''=st'∧∃ l r,c=(none,l,r)∧l≤k ∧
    (∀ i,i < l→K (arrOf st') (lo + i)≤K (arrOf st') (lo + k))∧(∀ i,l≤i→i < k→K (arrOf st') (lo + k) < K (arrOf st') (lo + i))) ?istep ?ifin ?iinit) ?ipost)
  case iinit=>exact⟨rfl,0,k,rfl,by lia,by lia,by lia,fun i hi=>by lia,fun i h1 h2=>by lia⟩
  case ifin =>
   rintro c st'' ⟨rfl,l,r,rfl,hlr,hrk,hm,hlo,hhi⟩
   have:l=r:=by lia
   subst this
   exact⟨rfl,l,l,rfl,hrk,hlo,hhi⟩
  case istep =>
   rintro x c st'' _ hxk ⟨rfl,l,r,rfl,hlr,hrk,hm,hlo,hhi⟩
   dsimp only
   by_cases hge:l≥r
   ·refine zao hge ?_
    have:l=r:=by lia
    subst this
    exact wpS_pure ⟨rfl,l,l,rfl,hrk,hlo,hhi⟩
   ·refine zan hge ?_
    refine wpS_bind (zc3 hB' h0 (by lia) (by lia) ?_)
    by_cases hless:K (arrOf st'') (lo + k) < K (arrOf st'') (lo + (l + r) / 2)
    ·simp only [hless,decide_true,if_true]
     refine wpS_pure ⟨rfl,l,(l + r) / 2,rfl,by lia,by lia,by lia,hlo,fun i h1 h2=>?_⟩
     exact Int.lt_of_lt_of_le hless (hs' _ _ h1 h2)
    ·simp only [hless,decide_false,Bool.false_eq_true,if_false]
     refine wpS_pure ⟨rfl,(l + r) / 2 + 1,r,rfl,by lia,by lia,by lia,fun i h1=>?_,hhi⟩
     exact Int.le_trans (hs' i ((l + r) / 2) (by lia) (by lia)) (Int.not_lt.mp hless)
  case ipost =>
   rintro c st'' ⟨rfl,l,r,rfl,hlk,hlo,hhi⟩
   dsimp only
   have hks:lo + k < (arrOf st'').size:=by rw [hB'.size];lia
   refine wpS_bind (m:=moveDown' (lo + k) (lo + l)) ?_
   rw [moveDown'_eq]
   have eK:∀ i,K (bubble (arrOf st'') (lo + k) (lo + k - (lo + l))) i=if i=lo + l then K (arrOf st'') (lo + k) else if lo + l < i∧i≤lo + k then K (arrOf st'') (i - 1) else K (arrOf st'') i:=fun i=>by
    rw [zmp hks (by lia),show lo + k - (lo + k - (lo + l))=lo + l by lia]
   refine wpS_modify (wpS_pure ⟨rfl,hB'.setArr (bubble_perm _ _ _),hK'.trans ⟨fun i hi=>?_,rfl⟩,?_⟩)
   ·show K (bubble (arrOf st'') (lo + k) (lo + k - (lo + l))) i=_
    rw [eK,if_neg (by lia),if_neg (by lia)]
   ·rw [show min (k + 1) n=k + 1 by lia]
    intro i j hij hj
    show K (bubble (arrOf st'') (lo + k) (lo + k - (lo + l))) (lo + i)≤K (bubble (arrOf st'') (lo + k) (lo + k - (lo + l))) (lo + j)
    rw [eK,eK]
    by_cases c1:i < l
    ·rw [if_neg (by lia),if_neg (by lia)]
     by_cases c2:j < l
     ·rw [if_neg (by lia),if_neg (by lia)];exact hs' i j hij (by lia)
     ·by_cases c3:j=l
      ·rw [if_pos (by lia)];exact hlo i c1
      ·rw [if_neg (by lia),if_pos (by lia),show lo + j - 1=lo + (j - 1) by lia];exact hs' i (j - 1) (by lia) (by lia)
    ·by_cases c2:i=l
     ·rw [if_pos (by lia)]
      by_cases c3:j=l
      ·rw [if_pos (by lia)];exact Int.le_refl _
      ·rw [if_neg (by lia),if_pos (by lia),show lo + j - 1=lo + (j - 1) by lia];exact Int.le_of_lt (hhi (j - 1) (by lia) (by lia))
     ·rw [if_neg (by lia),if_pos (by lia),if_neg (by lia),if_pos (by lia),show lo + i - 1=lo + (i - 1) by lia,show lo + j - 1=lo + (j - 1) by lia]
      exact hs' (i - 1) (j - 1) (by lia) (by lia)
end
theorem zhg {α:Type} (sa:Nat):∀ (l:List α) (n:Nat) (xs:Array α) (i:Nat),sa + n + l.length≤xs.size →
  ((l.zipIdx n).foldl (fun a x=>match x with | (p,j)=>a.setIfInBounds (sa + j) p) xs)[i]? = if sa + n≤i∧i < sa + n + l.length then l[i - (sa + n)]? else xs[i]?
 | [],n,xs,i,_=>by
  rw [if_neg (by simp <;> lia)]
  rfl
 | p :: l,n,xs,i,h=>by
  rw [List.length_cons] at h
  rw [List.zipIdx_cons,List.foldl_cons,zhg sa l (n + 1) _ i (by simp;lia)]
  simp only [List.length_cons]
  by_cases h1:sa + (n + 1)≤i∧i < sa + (n + 1) + l.length
  ·rw [if_pos h1,if_pos (by lia),show i - (sa + n)=(i - (sa + (n + 1))) + 1 by lia,List.getElem?_cons_succ]
  ·rw [if_neg h1,Array.getElem?_setIfInBounds]
   by_cases h2:sa + n=i
   ·subst h2
    rw [if_pos rfl,if_pos (by lia),if_pos (by lia),Nat.sub_self,List.getElem?_cons_zero]
   ·rw [if_neg h2,if_neg (by lia)]
theorem zir {α:Type} (sa:Nat):∀ (l:List α) (n:Nat) (xs:Array α),((l.zipIdx n).foldl (fun a x=>match x with | (p,j)=>a.setIfInBounds (sa + j) p) xs).size=xs.size
 | [],_,_=>rfl
 | p :: l,n,xs=>by
  rw [List.zipIdx_cons,List.foldl_cons,zir sa l (n + 1)]
  simp
theorem zlZ {α:Type} {sa:Nat} {l:List α} {xs:Array α} (h:sa + l.length≤xs.size) :
  (l.zipIdx.foldl (fun a x=>match x with | (p,j)=>a.setIfInBounds (sa + j) p) xs).toList=xs.toList.take sa ++ l ++ xs.toList.drop (sa + l.length):=by
 apply List.ext_getElem?
 intro i
 have hx:xs.toList.length=xs.size:=by simp
 rw [Array.getElem?_toList,zhg sa l 0 xs i (by lia)]
 simp only [Nat.add_zero]
 by_cases h1:i < sa
 ·rw [if_neg (by lia),List.append_assoc,List.getElem?_append_left (by rw [List.length_take];lia),List.getElem?_take_of_lt h1,Array.getElem?_toList]
 ·by_cases h2:i < sa + l.length
  ·rw [if_pos (by lia),List.append_assoc,List.getElem?_append_right (by rw [List.length_take];lia),List.getElem?_append_left (by rw [List.length_take];lia),List.length_take,show min sa xs.toList.length=sa by lia]
  ·rw [if_neg (by lia),List.getElem?_append_right (by rw [List.length_append,List.length_take];lia),List.length_append,List.length_take,show min sa xs.toList.length=sa by lia,List.getElem?_drop,Array.getElem?_toList]
   congr 1
   lia
theorem zcX {xs:Array Keyed} {lo n:Nat} (h:lo + n≤xs.size):SIn xs lo n↔Sr ((xs.toList.drop lo).take n):=by
 have hl:((xs.toList.drop lo).take n).length=n:=by rw [List.length_take,List.length_drop];simp;lia
 have kk:∀ i (hi:i < ((xs.toList.drop lo).take n).length),K xs (lo + i)=key ((xs.toList.drop lo).take n)[i]:=fun i hi=>by
  rw [hl] at hi
  obtain⟨p,e1,e2⟩:=zaG (a:=xs) (i:=lo + i) (by lia)
  have e3:((xs.toList.drop lo).take n)[i]? = some p:=by rw [List.getElem?_take_of_lt hi,List.getElem?_drop];exact e2
  obtain⟨hi',e4⟩:=List.getElem?_eq_some_iff.mp e3
  rw [e4]
  unfold K
  rw [e1]
 constructor
 ·intro hs
  refine List.pairwise_iff_getElem.mpr fun i j hi hj hij=>?_
  rw [← kk i hi,← kk j hj]
  exact hs i j (by lia) (by lia)
 ·intro hs i j hij hj
  rw [kk i (by lia),kk j (by lia)]
  by_cases e:i=j
  ·subst e;exact Int.le_refl _
  ·exact List.pairwise_iff_getElem.mp hs i j (by lia) (by lia) (by lia)
end Srt
namespace Srt
open PySem PyProof.Rows
variable [SK]
noncomputable def zfF:Nat→StateT SortSt Sem Bool:=sortPriv% PySem.Builtin.mergeAt
noncomputable def Cov (xs:Array Keyed):Nat→List (Nat×Nat×Nat)→Nat→Prop
 | s,[],e=>s=e
 | s,(b,n,_) :: r,e=>b=s∧1≤n∧SIn xs b n∧Cov xs (s + n) r e
theorem Cov.le {xs:Array Keyed}:∀ {l:List (Nat×Nat×Nat)} {s e:Nat},Cov xs s l e→s + l.length≤e
 | [],s,e,h=>by
  have h':s=e:=h
  subst h'
  exact Nat.le_refl _
 | (b,n,p) :: r,s,e,h=>by
  obtain⟨_,h1,_,h2⟩:=h
  have:=Cov.le h2
  rw [List.length_cons]
  lia
theorem Cov.append {xs:Array Keyed}:∀ {l₁ l₂:List (Nat×Nat×Nat)} {s e:Nat},Cov xs s (l₁ ++ l₂) e↔∃ m,Cov xs s l₁ m∧Cov xs m l₂ e
 | [],l₂,s,e=>by
  constructor
  ·intro h;exact⟨s,rfl,h⟩
  ·rintro ⟨m,h1,h2⟩
   have h1':s=m:=h1
   subst h1'
   exact h2
 | (b,n,p) :: r,l₂,s,e=>by
  constructor
  ·rintro ⟨h1,h2,h3,h4⟩
   obtain⟨m,h5,h6⟩:=Cov.append.mp h4
   exact⟨m,⟨h1,h2,h3,h5⟩,h6⟩
  ·rintro ⟨m,⟨h1,h2,h3,h5⟩,h6⟩
   exact⟨h1,h2,h3,Cov.append.mpr ⟨m,h5,h6⟩⟩
theorem Cov.congr {xs ys:Array Keyed}:∀ {l:List (Nat×Nat×Nat)} {s e:Nat},(∀ k,s≤k→k < e→K ys k=K xs k)→Cov xs s l e→Cov ys s l e
 | [],_,_,_,h=>h
 | (b,n,p) :: r,s,e,hk,h=>by
  obtain⟨h1,h2,h3,h4⟩:=h
  have hle:=h4.le
  refine ⟨h1,h2,fun i j hij hj=>?_,Cov.congr (fun k a b=>hk k (by lia) b) h4⟩
  rw [hk _ (by lia) (by lia),hk _ (by lia) (by lia)]
  exact h3 i j hij hj
theorem zi9 {α:Type} {p:Array α} {l₁ l₂:List α} {a b v:α} (h:p.toList=l₁ ++ a :: b :: l₂):((p.setIfInBounds l₁.length v).eraseIdxIfInBounds (l₁.length + 1)).toList=l₁ ++ v :: l₂:=by
 obtain⟨pl⟩:=p
 have h':pl=l₁ ++ a :: b :: l₂:=h
 subst h'
 rw [List.setIfInBounds_toArray,List.eraseIdxIfInBounds_toArray]
 show ((l₁ ++ a :: b :: l₂).set l₁.length v).eraseIdx (l₁.length + 1)=_
 rw [List.set_append_right _ _ (Nat.le_refl _),Nat.sub_self,List.set_cons_zero,List.eraseIdx_append_of_length_le (by lia)]
 simp
theorem zqs {α:Type} (P M T:List α) (n:Nat) (h:P.length + M.length≤n):(P ++ (M ++ T)).take n=P ++ M ++ T.take (n - P.length - M.length):=by
 rw [List.take_append,List.take_of_length_le (by lia),List.take_append,List.take_of_length_le (by lia),List.append_assoc]
theorem K_of {xs:Array Keyed} {i:Nat} {z:Keyed} (e:xs.toList[i]? = some z):K xs i=key z:=by
 rw [Array.getElem?_toList] at e
 unfold K
 rw [e]
theorem zlk {a:Array Keyed} {base n:Nat} (sa:SIn a base n) (left:Bool) (k:Keyed) (hn:base + n≤a.size):∀ i j,i≤j→j < n→ask left k a base j=true→ask left k a base i=true:=by
 intro i j hij hj h
 obtain⟨p,e1,e2⟩:=zaG (a:=a) (i:=base + i) (by lia)
 obtain⟨q,e3,e4⟩:=zaG (a:=a) (i:=base + j) (by lia)
 have hle:=sa i j hij hj
 rw [K_of e2,K_of e4] at hle
 unfold ask at h ⊢
 rw [e1]
 rw [e3] at h
 cases left with
 | true =>
  simp only [if_true,decide_eq_true_eq] at h ⊢
  lia
 | false =>
  simp only [Bool.false_eq_true,if_false,Bool.not_eq_true',decide_eq_false_iff_not] at h ⊢
  lia
section
variable {prog:Program} {w:World} {X:Around} {E:Value→Shared→Prop} {s:Shared} [SKL prog w X E s] {a₀:Array Keyed}
theorem zhX {left:Bool} {k:Keyed} {a:Array Keyed} {base n hint:Nat} {st:SortSt} {Q:Option Nat→SortSt→Prop} (hk:kindOf st=oneType') (hkey:IntK k) (ha:∀ p∈a.toList,IntK p) (sa:SIn a base n)
  (hb:base + n≤a.size) (hn:hint < n)
  (h:∀ m,m≤n→(∀ i,i < m→if left then K a (base + i) < key k else K a (base + i)≤key k)→(∀ i,m≤i→i < n→if left then key k≤K a (base + i) else key k < K a (base + i))→Q (some m) st) :
  wpS (model prog w) X E s (zcR left k a base n hint) Q st:=by
 refine zeV hk hkey (fun i hi=>?_) hn (zlk sa left k hb) fun m hm h1 h2=>h m hm (fun i hi=>?_) fun i hi hi'=>?_
 ·obtain⟨q,e1,e2⟩:=zaG (a:=a) (i:=base + i) (by lia)
  exact⟨q,e1,ha q (List.mem_of_getElem? e2)⟩
 ·obtain⟨q,e1,e2⟩:=zaG (a:=a) (i:=base + i) (by lia)
  have:=h1 i hi
  unfold ask at this
  rw [e1] at this
  rw [K_of e2]
  cases left with
  | true=>simpa using this
  | false=>simpa using this
 ·obtain⟨q,e1,e2⟩:=zaG (a:=a) (i:=base + i) (by lia)
  have:=h2 i hi hi'
  unfold ask at this
  rw [e1] at this
  rw [K_of e2]
  cases left with
  | true=>simpa using this
  | false=>simpa using this
end
section
variable {prog:Program} {w:World} {X:Around} {E:Value→Shared→Prop} {s:Shared} [SKL prog w X E s] {a₀:Array Keyed}
theorem zgQ {st:SortSt} {l₁ l₂:List (Nat×Nat×Nat)} {sa na pw sb nb pb e:Nat} {Q:Bool→SortSt→Prop} (hp:(pendingOf st).toList=l₁ ++ (sa,na,pw) :: (sb,nb,pb) :: l₂)
  (h0:zbi a₀) (hB:SB a₀ st) (hC:Cov (arrOf st) 0 (pendingOf st).toList e) (he:e≤a₀.size)
  (h:∀ st',SB a₀ st'→Cov (arrOf st') 0 (pendingOf st').toList e→(pendingOf st').toList=l₁ ++ (sa,na + nb,pw) :: l₂→(∀ k,e≤k→K (arrOf st') k=K (arrOf st) k)→Q true st') :
  wpS (model prog w) X E s (zfF l₁.length) Q st:=by
 obtain⟨m1,hC1,hsa,hna,sA,hsb,hnb,sB,hC2⟩:=Cov.append.mp (hp ▸ hC)
 have hsa':sa=m1:=hsa
 have hsb':sb=m1 + na:=hsb
 subst hsa' hsb'
 have hle2:=hC2.le
 have hsz:=hB.size
 have hint:=hB.int h0
 have hLs:(arrOf st).toList.length=(arrOf st).size:=by simp
 have fin:∀ st',SB a₀ st'→(pendingOf st').toList=l₁ ++ (sa,na + nb,pw) :: l₂→(∀ k,k < sa∨sa + na + nb≤k→K (arrOf st') k=K (arrOf st) k)→SIn (arrOf st') sa (na + nb)→Q true st':=by
  intro st' hB' hp' hK' hS'
  refine h st' hB' ?_ hp' fun k hk=>hK' k (.inr (by lia))
  rw [hp']
  refine Cov.append.mpr ⟨sa,hC1.congr fun k _ hk=>hK' k (.inl hk),rfl,by lia,hS',?_⟩
  rw [← Nat.add_assoc]
  exact hC2.congr fun k hk _=>hK' k (.inr hk)
 have e1:(pendingOf st)[l₁.length]? = some (sa,na,pw):=by
  rw [← Array.getElem?_toList,hp,List.getElem?_append_right (Nat.le_refl _),Nat.sub_self];rfl
 have e2:(pendingOf st)[l₁.length + 1]? = some (sa + na,nb,pb):=by
  rw [← Array.getElem?_toList,hp,List.getElem?_append_right (by lia),show l₁.length + 1 - l₁.length=1 by lia];rfl
 have hpm:=zi9 (v:=(sa,na + nb,pw)) hp
 have hSS:SIn (arrOf st) sa na:=sA
 have hSB':SIn (arrOf st) (sa + na) nb:=sB
 have lA:=(zcX (xs:=arrOf st) (lo:=sa) (n:=na) (by lia)).mp hSS
 have lB:=(zcX (xs:=arrOf st) (lo:=sa + na) (n:=nb) (by lia)).mp hSB'
 refine wpS_bind (wpS_get ?_)
 rw [e1,e2]
 dsimp only
 refine wpS_bind (m:=set _) ?_
 show wpS _ _ _ _ (modify fun _=>_) _ _
 refine wpS_modify ?_
 have KS:∀ i,i < (arrOf st).size→∃ p,(arrOf st)[i]? = some p∧(arrOf st).toList[i]? = some p∧IntK p∧K (arrOf st) i=key p:=fun i hi=>by
  obtain⟨p,q1,q2⟩:=zaG (a:=arrOf st) (i:=i) hi
  exact⟨p,q1,q2,hint p (List.mem_of_getElem? q2),K_of q2⟩
 obtain⟨b0,eb,eb2,ib0,kb0⟩:=KS (sa + na) (by lia)
 refine wpS_bind (zav eb (wpS_bind (zhX (a:=arrOf st) hB.kind ib0 hint hSS (by lia) (by lia) fun k hk1 fA0 gA0=>?_)))
 have fA:∀ i,i < k→K (arrOf st) (sa + i)≤K (arrOf st) (sa + na):=fun i hi=>by
  rw [kb0]
  simpa using fA0 i hi
 have gA:∀ i,k≤i→i < na→K (arrOf st) (sa + na) < K (arrOf st) (sa + i):=fun i hi hi'=>by
  rw [kb0]
  simpa using gA0 i hi hi'
 clear fA0 gA0
 dsimp only
 have hB1:SB a₀ (setPending st (((pendingOf st).setIfInBounds l₁.length (sa,na + nb,pw)).eraseIdxIfInBounds (l₁.length + 1))):=⟨hB.perm,hB.kind,hB.failed⟩
 by_cases c1:(na - k == 0)=true
 ·refine zao c1 ?_
  have c1':na - k=0:=by simpa using c1
  refine wpS_pure (fin _ hB1 hpm (fun _ _=>rfl) fun i j hij hj=>?_)
  show K (arrOf st) (sa + i)≤K (arrOf st) (sa + j)
  by_cases d1:j < na
  ·exact hSS i j hij d1
  ·by_cases d2:i < na
   ·have z1:=fA i (by lia)
    have z2:=hSB' 0 (j - na) (by lia) (by lia)
    rw [Nat.add_zero,show sa + na + (j - na)=sa + j by lia] at z2
    lia
   ·have z2:=hSB' (i - na) (j - na) (by lia) (by lia)
    rw [show sa + na + (j - na)=sa + j by lia,show sa + na + (i - na)=sa + i by lia] at z2
    exact z2
 refine zan c1 ?_
 have c1':na - k≠0:=by simpa using c1
 have ei:sa + k + (na - k) - 1=sa + na - 1:=by lia
 obtain⟨al,ea,ea2,ia0,ka0⟩:=KS (sa + na - 1) (by lia)
 refine wpS_bind (zav (p:=al) (by rw [ei];exact ea) (wpS_bind (zhX (a:=arrOf st) hB.kind ia0 hint hSB' (by lia) (by lia) fun m hm1 fB0 gB0=>?_)))
 have fB:∀ i,i < m→K (arrOf st) (sa + na + i) < K (arrOf st) (sa + na - 1):=fun i hi=>by
  rw [ka0]
  simpa using fB0 i hi
 have gB:∀ i,m≤i→i < nb→K (arrOf st) (sa + na - 1)≤K (arrOf st) (sa + na + i):=fun i hi hi'=>by
  rw [ka0]
  simpa using gB0 i hi hi'
 clear fB0 gB0
 dsimp only
 by_cases c2:(m == 0)=true
 ·refine zao c2 ?_
  have c2':m=0:=by simpa using c2
  refine wpS_pure (fin _ hB1 hpm (fun _ _=>rfl) fun i j hij hj=>?_)
  show K (arrOf st) (sa + i)≤K (arrOf st) (sa + j)
  by_cases d1:j < na
  ·exact hSS i j hij d1
  ·by_cases d2:i < na
   ·have z1:=gB (j - na) (by lia) (by lia)
    have z2:=hSS i (na - 1) (by lia) (by lia)
    rw [show sa + (na - 1)=sa + na - 1 by lia] at z2
    rw [show sa + na + (j - na)=sa + j by lia] at z1
    lia
   ·have z2:=hSB' (i - na) (j - na) (by lia) (by lia)
    rw [show sa + na + (j - na)=sa + j by lia,show sa + na + (i - na)=sa + i by lia] at z2
    exact z2
 refine zan c2 ?_
 have c2':m≠0:=by simpa using c2
 have xl:((arrOf st).extract (sa + k) (sa + na)).toList=((arrOf st).toList.drop (sa + k)).take (na - k):=by
  simp only [Array.toList_extract,List.extract_eq_take_drop]
  congr 1
  lia
 have yl:((arrOf st).extract (sa + na) (sa + na + m)).toList=((arrOf st).toList.drop (sa + na)).take m:=by
  simp only [Array.toList_extract,List.extract_eq_take_drop]
  congr 1
  lia
 have xs:((arrOf st).extract (sa + k) (sa + na)).size=na - k:=by simp;lia
 have ys:((arrOf st).extract (sa + na) (sa + na + m)).size=m:=by simp;lia
 have inx:∀ z∈((arrOf st).extract (sa + k) (sa + na)).toList,∃ j,j < na - k∧K (arrOf st) (sa + k + j)=key z∧IntK z:=fun z hz=>by
  rw [xl] at hz
  obtain⟨j,hj,ej⟩:=zaJ hz
  exact⟨j,hj,K_of ej,hint z (List.mem_of_getElem? ej)⟩
 have iny:∀ z∈((arrOf st).extract (sa + na) (sa + na + m)).toList,∃ j,j < m∧K (arrOf st) (sa + na + j)=key z∧IntK z:=fun z hz=>by
  rw [yl] at hz
  obtain⟨j,hj,ej⟩:=zaJ hz
  exact⟨j,hj,K_of ej,hint z (List.mem_of_getElem? ej)⟩
 have sx:Sr ((arrOf st).extract (sa + k) (sa + na)).toList:=by
  rw [xl]
  refine (zcX (by lia)).mp fun i j hij hj=>?_
  have z:=hSS (k + i) (k + j) (by lia) (by lia)
  rw [← Nat.add_assoc,← Nat.add_assoc] at z
  exact z
 have sy:Sr ((arrOf st).extract (sa + na) (sa + na + m)).toList:=by
  rw [yl]
  exact (zcX (by lia)).mp fun i j hij hj=>hSB' i j hij (by lia)
 have hy0:∀ q,((arrOf st).extract (sa + na) (sa + na + m))[0]? = some q→∀ z∈((arrOf st).extract (sa + k) (sa + na)).toList,key q < key z:=fun q hq z hz=>by
  have e:=zbm hq
  rw [yl,List.getElem?_take_of_lt (by lia),List.getElem?_drop,Nat.add_zero] at e
  obtain⟨j,hj,kz,_⟩:=inx z hz
  have z1:=gA (k + j) (by lia) (by lia)
  rw [← Nat.add_assoc,kz,K_of e] at z1
  exact z1
 have hxl:∀ p,((arrOf st).extract (sa + k) (sa + na))[((arrOf st).extract (sa + k) (sa + na)).size - 1]? = some p→∀ z∈((arrOf st).extract (sa + na) (sa + na + m)).toList,key z < key p:=fun p hp z hz=>by
  have e:=zbm hp
  rw [xs,xl,List.getElem?_take_of_lt (by lia),List.getElem?_drop,show sa + k + (na - k - 1)=sa + na - 1 by lia] at e
  obtain⟨j,hj,kz,_⟩:=iny z hz
  have z1:=fB j hj
  rw [kz,K_of e] at z1
  exact z1
 have last:∀ (M:Array Keyed) st',SameG (setPending st (((pendingOf st).setIfInBounds l₁.length (sa,na + nb,pw)).eraseIdxIfInBounds (l₁.length + 1))) st'→Good ((arrOf st).extract (sa + k) (sa + na)).toList ((arrOf st).extract (sa + na) (sa + na + m)).toList M.toList →
   Q true (PyProof.Rows.setArr st' (M.toList.zipIdx.foldl (fun a x=>match x with | (p,j)=>a.setIfInBounds (sa + k + j) p) (arrOf st'))):=by
  intro M st' hG ⟨gp,gs⟩
  have eA:arrOf st'=arrOf st:=hG.arr
  have eP:(pendingOf st').toList=l₁ ++ (sa,na + nb,pw) :: l₂:=by rw [hG.pend];exact hpm
  have lM:M.toList.length=na - k + m:=by
   have:=gp.length_eq
   rw [this,List.length_append,Array.length_toList,Array.length_toList,xs,ys]
  have newL:=zlZ (sa:=sa + k) (l:=M.toList) (xs:=arrOf st) (by lia)
  have hsplit:(arrOf st).toList=(arrOf st).toList.take (sa + k) ++ (((arrOf st).extract (sa + k) (sa + na)).toList ++ ((arrOf st).extract (sa + na) (sa + na + m)).toList) ++ (arrOf st).toList.drop (sa + k + M.toList.length):=by
   have e:((arrOf st).extract (sa + k) (sa + na)).toList ++ ((arrOf st).extract (sa + na) (sa + na + m)).toList=((arrOf st).toList.drop (sa + k)).take (na - k + m):=by
    rw [xl,yl,List.take_add,List.drop_drop]
    congr 2
    congr 1
    lia
   rw [e,lM,← List.take_add,List.take_append_drop]
  have eNew:arrOf (PyProof.Rows.setArr st' (M.toList.zipIdx.foldl (fun a x=>match x with | (p,j)=>a.setIfInBounds (sa + k + j) p) (arrOf st')))=M.toList.zipIdx.foldl (fun a x=>match x with | (p,j)=>a.setIfInBounds (sa + k + j) p) (arrOf st):=by
   show M.toList.zipIdx.foldl _ (arrOf st')=_
   rw [eA]
  generalize hN:M.toList.zipIdx.foldl (fun a x=>match x with | (p,j)=>a.setIfInBounds (sa + k + j) p) (arrOf st)=N at eNew newL
  have szN:N.size=(arrOf st).size:=by rw [← hN];exact zir _ _ _ _
  have getN:∀ i,i < sa + k∨sa + na + m≤i→N[i]? = (arrOf st)[i]?:=fun i hi=>by
   rw [← hN,zhg (sa + k) M.toList 0 (arrOf st) i (by lia),if_neg (by lia)]
  have perm:N.Perm (arrOf st):=by
   refine Array.perm_iff_toList_perm.mpr ?_
   rw [newL]
   conv=>rhs;rw [hsplit]
   exact (gp.append_left _).append_right _
  refine fin _ ⟨by rw [eNew];exact perm.trans hB.perm,hG.kind.trans hB.kind,hG.failed.trans hB.failed⟩ eP (fun i hi=>?_) ?_
  ·rw [eNew]
   exact zdy (getN i (by lia))
  ·rw [eNew]
   refine (zcX (by lia)).mpr ?_
   have e3:(N.toList.drop sa).take (na + nb)=((arrOf st).toList.drop sa).take k ++ M.toList ++ ((arrOf st).toList.drop (sa + na + m)).take (nb - m):=by
    have lP:(((arrOf st).toList.drop sa).take k).length=k:=by rw [List.length_take,List.length_drop];lia
    rw [newL,lM,show sa + k + (na - k + m)=sa + na + m by lia,List.append_assoc,List.drop_append_of_le_length (by rw [List.length_take];lia),List.drop_take,show sa + k - sa=k by lia,
     zqs _ _ _ _ (by rw [lP,lM];lia),lP,lM,show na + nb - k - (na - k + m)=nb - m by lia]
   rw [e3]
   have inM:∀ z∈M.toList,(∃ j,k≤j∧j < na∧K (arrOf st) (sa + j)=key z)∨∃ j,j < m∧K (arrOf st) (sa + na + j)=key z:=fun z hz=>by
    rcases List.mem_append.mp (gp.mem_iff.mp hz) with hz | hz
    ·obtain⟨j,hj,kz,_⟩:=inx z hz
     exact .inl ⟨k + j,by lia,by lia,by rw [← Nat.add_assoc];exact kz⟩
    ·obtain⟨j,hj,kz,_⟩:=iny z hz
     exact .inr ⟨j,hj,kz⟩
   have inA:∀ z∈((arrOf st).toList.drop sa).take k,∃ j,j < k∧K (arrOf st) (sa + j)=key z:=fun z hz=>by
    obtain⟨j,hj,ej⟩:=zaJ hz
    exact⟨j,hj,K_of ej⟩
   have inB:∀ z∈((arrOf st).toList.drop (sa + na + m)).take (nb - m),∃ j,m≤j∧j < nb∧K (arrOf st) (sa + na + j)=key z:=fun z hz=>by
    obtain⟨j,hj,ej⟩:=zaJ hz
    exact⟨m + j,by lia,by lia,by rw [← Nat.add_assoc];exact K_of ej⟩
   have first:∀ j,j < nb→K (arrOf st) (sa + na)≤K (arrOf st) (sa + na + j):=fun j hj=>by
    have z:=hSB' 0 j (by lia) hj
    rw [Nat.add_zero] at z
    exact z
   have lastA:∀ j,j < na→K (arrOf st) (sa + j)≤K (arrOf st) (sa + na - 1):=fun j hj=>by
    have z:=hSS j (na - 1) (by lia) (by lia)
    rw [show sa + (na - 1)=sa + na - 1 by lia] at z
    exact z
   refine List.pairwise_append.mpr ⟨List.pairwise_append.mpr ⟨(zcX (by lia)).mp fun i j hij hj=>hSS i j hij (by lia),gs,fun x hx y hy=>?_⟩,(zcX (by lia)).mp fun i j hij hj=>?_,fun x hx y hy=>?_⟩
   ·obtain⟨i,hi,kx⟩:=inA x hx
    have z1:=fA i hi
    rw [← kx]
    rcases inM y hy with ⟨j,h1,h2,ky⟩ | ⟨j,h1,ky⟩
    ·rw [← ky];exact hSS i j (by lia) h2
    ·rw [← ky]
     have:=first j (by lia)
     lia
   ·have z:=hSB' (m + i) (m + j) (by lia) (by lia)
    rw [← Nat.add_assoc,← Nat.add_assoc] at z
    exact z
   ·obtain⟨j,h1,h2,ky⟩:=inB y hy
    rw [← ky]
    rcases List.mem_append.mp hx with hx | hx
    ·obtain⟨i,hi,kx⟩:=inA x hx
     rw [← kx]
     have z1:=fA i hi
     have:=first j h2
     lia
    ·rcases inM x hx with ⟨i,g1,g2,kx⟩ | ⟨i,g1,kx⟩
     ·rw [← kx]
      have z1:=gB j h1 h2
      have:=lastA i g2
      lia
     ·rw [← kx];exact hSB' i j (by lia) h2
 by_cases c3:na - k≤m
 ·refine zao c3 ?_
  refine wpS_bind (zgO (a:=(arrOf st).extract (sa + k) (sa + na)) (b:=(arrOf st).extract (sa + na) (sa + na + m)) hB1.kind (fun p hp=>let ⟨_,_,_,q⟩:=inx p hp;q) (fun p hp=>let ⟨_,_,_,q⟩:=iny p hp;q) sx sy (by lia) (by lia) (fun q hq z hz=>Int.le_of_lt (hy0 q hq z hz)) hxl fun M st' hG hM=>?_)
  refine wpS_bind (wpS_modify (wpS_bind (wpS_get (wpS_pure ?_))))
  have ef:(failedOf st').isNone=true:=by rw [hG.failed];show (failedOf st).isNone=true;rw [hB.failed];rfl
  show Q (failedOf st').isNone _
  rw [ef]
  exact last M st' hG hM
 ·refine zan c3 ?_
  refine wpS_bind (zgP (a:=(arrOf st).extract (sa + k) (sa + na)) (b:=(arrOf st).extract (sa + na) (sa + na + m)) hB1.kind (fun p hp=>let ⟨_,_,_,q⟩:=inx p hp;q) (fun p hp=>let ⟨_,_,_,q⟩:=iny p hp;q) sx sy (by lia) (by lia) hy0 hxl fun M st' hG hM=>?_)
  refine wpS_bind (wpS_modify (wpS_bind (wpS_get (wpS_pure ?_))))
  have ef:(failedOf st').isNone=true:=by rw [hG.failed];show (failedOf st).isNone=true;rw [hB.failed];rfl
  show Q (failedOf st').isNone _
  rw [ef]
  exact last M st' hG hM
end
end Srt
namespace Srt
open PySem PyProof.Rows
variable [SK]
theorem Cov.powers {xs:Array Keyed}:∀ {l l':List (Nat×Nat×Nat)} {s e:Nat},l.map (fun p=>(p.1,p.2.1))=l'.map (fun p=>(p.1,p.2.1))→Cov xs s l e→Cov xs s l' e
 | [],[],_,_,_,h=>h
 | [],_ :: _,_,_,q,_=>by simp at q
 | _ :: _,[],_,_,q,_=>by simp at q
 | (b,n,p) :: r,(b',n',p') :: r',s,e,q,h=>by
  simp only [List.map_cons,List.cons.injEq,Prod.mk.injEq] at q
  obtain⟨⟨rfl,rfl⟩,q⟩:=q
  obtain⟨h1,h2,h3,h4⟩:=h
  exact⟨h1,h2,h3,Cov.powers q h4⟩
theorem zoz {α:Type} {l:List α} {i:Nat} (h:i + 1 < l.length):∃ l₁ a b l₂,l=l₁ ++ a :: b :: l₂∧l₁.length=i:=by
 refine ⟨l.take i,l[i],l[i + 1],l.drop (i + 2),?_,by rw [List.length_take];lia⟩
 conv=>lhs;rw [← List.take_append_drop i l]
 congr 1
 rw [List.drop_eq_getElem_cons (by lia),List.drop_eq_getElem_cons (by lia)]
noncomputable def zjV:StateT SortSt Sem Unit:=sortPriv% PySem.Builtin.sortRuns
section
variable {prog:Program} {w:World} {X:Around} {E:Value→Shared→Prop} {s:Shared} [SKL prog w X E s] {a₀:Array Keyed}
theorem zdC {st:SortSt} {i e:Nat} {Q:Bool→SortSt→Prop} (hi:i + 1 < (pendingOf st).size) (h0:zbi a₀) (hB:SB a₀ st) (hC:Cov (arrOf st) 0 (pendingOf st).toList e) (he:e≤a₀.size)
  (h:∀ st',SB a₀ st'→Cov (arrOf st') 0 (pendingOf st').toList e→(pendingOf st').size + 1=(pendingOf st).size→(∀ k,e≤k→K (arrOf st') k=K (arrOf st) k)→Q true st') :
  wpS (model prog w) X E s (zfF i) Q st:=by
 obtain⟨l₁,⟨sa,na,pw⟩,⟨sb,nb,pb⟩,l₂,hl,hlen⟩:=zoz (l:=(pendingOf st).toList) (i:=i) (by simpa using hi)
 subst hlen
 refine zgQ hl h0 hB hC he fun st' g1 g2 g3 g4=>h st' g1 g2 ?_ g4
 have e1:=congrArg List.length g3
 have e2:=congrArg List.length hl
 simp only [Array.length_toList,List.length_append,List.length_cons] at e1 e2
 lia
structure Mid (a₀:Array Keyed) (lo:Nat) (st:SortSt):Prop where
 b:SB a₀ st
 cov:Cov (arrOf st) 0 (pendingOf st).toList lo
 le:lo≤a₀.size
theorem zfn {st:SortSt} {Q:Unit→SortSt→Prop} (h0:zbi a₀) (hB:SB a₀ st) (hp:pendingOf st = #[]) (h2:1≤a₀.size)
  (h:∀ st',(arrOf st').Perm a₀→failedOf st'=none→SortedTo (arrOf st') a₀.size→Q () st'):wpS (model prog w) X E s zjV Q st:=by
 refine wpS_bind (wpS_get ?_)
 dsimp only
 have hsz:(arrOf st).size=a₀.size:=hB.size
 rw [show (arrOf st).size=a₀.size from hsz]
 generalize (sortPriv% PySem.Builtin.minRun) a₀.size a₀.size 0=minrun
 refine wpS_bind (wpS_mono (wpS_forRange (a:=0) (b:=a₀.size) (I:=fun x c st'=>c.1=none∧x≤c.2∧Mid a₀ c.2 st') (Q:=fun c st'=>c.1=none∧Mid a₀ a₀.size st') ?step ?fin ?init) ?post)
 case init =>
  refine ⟨rfl,Nat.le_refl _,hB,?_,Nat.zero_le _⟩
  rw [hp]
  rfl
 case fin =>
  rintro ⟨r,lo⟩ st' ⟨e,h1,hM⟩
  dsimp only at *
  have:lo=a₀.size:=by have:=hM.le;lia
  subst this
  exact⟨e,hM⟩
 case step =>
  rintro x ⟨r,lo⟩ st1 _ hx ⟨e,h1,hM⟩
  dsimp only at *
  subst e
  have hle:=hM.le
  by_cases hge:lo≥a₀.size
  ·refine zao hge ?_
   have:lo=a₀.size:=by lia
   subst this
   exact wpS_pure ⟨rfl,hM⟩
  refine zan hge ?_
  refine wpS_bind (zfp h0 hM.b (by lia) (by lia) fun m st2 hB2 hK2 m1 m2 hS2=>?_)
  dsimp only
  have covK:∀ {st3:SortSt},Kept lo st1 st3→Cov (arrOf st3) 0 (pendingOf st3).toList lo:=fun {st3} hK=>by
   rw [hK.pend]
   exact hM.cov.congr fun k _ hk=>hK.keys k hk
  have push:∀ (n:Nat) (st3:SortSt),SB a₀ st3→Cov (arrOf st3) 0 (pendingOf st3).toList lo→1≤n→lo + n≤a₀.size→SIn (arrOf st3) lo n→Mid a₀ (lo + n) (setPending st3 ((pendingOf st3).push (lo,n,0))):=by
   intro n st3 g1 g2 g3 g4 g5
   refine ⟨⟨g1.perm,g1.kind,g1.failed⟩,?_,g4⟩
   show Cov (arrOf st3) 0 ((pendingOf st3).push (lo,n,0)).toList (lo + n)
   rw [Array.toList_push]
   exact Cov.append.mpr ⟨lo,g2,rfl,g3,g5,rfl⟩
  have merges:∀ (pw n:Nat) (st3:SortSt),SB a₀ st3→Cov (arrOf st3) 0 (pendingOf st3).toList lo→SIn (arrOf st3) lo n→lo + n≤a₀.size →
    wpS (model prog w) X E s (forIn [:a₀.size] ((none,()):Option Unit×Unit) fun _ _=>get >>= fun st=>match (if (pendingOf st).size > 1 then (pendingOf st)[(pendingOf st).size - 2]? else none) with
     | some (_,_,older)=>if older≤pw then pure (ForInStep.done (none,())) else zfF ((pendingOf st).size - 2) >>= fun ok=>if (!ok)=true then pure (ForInStep.done (some (),())) else pure (ForInStep.yield (none,()))
     | _=>pure (ForInStep.done (none,())))
     (fun c st4=>c=(none,())∧SB a₀ st4∧Cov (arrOf st4) 0 (pendingOf st4).toList lo∧SIn (arrOf st4) lo n) st3:=by
   intro pw n st3 g1 g2 g3 g4
   refine wpS_forRange (I:=fun _ c st4=>c=(none,())∧SB a₀ st4∧Cov (arrOf st4) 0 (pendingOf st4).toList lo∧SIn (arrOf st4) lo n) ?_ (fun _ _ z=>z) ⟨rfl,g1,g2,g3⟩
   rintro y c st4 _ _ ⟨rfl,k1,k2,k3⟩
   refine wpS_bind (wpS_get ?_)
   by_cases c1:(pendingOf st4).size > 1
   ·rw [if_pos c1]
    obtain⟨q,eq⟩:∃ q,(pendingOf st4)[(pendingOf st4).size - 2]? = some q:=⟨_,Array.getElem?_eq_getElem (by lia)⟩
    obtain⟨q1,q2,older⟩:=q
    rw [eq]
    dsimp only
    by_cases c2:older≤pw
    ·refine zao c2 ?_
     exact wpS_pure ⟨rfl,k1,k2,k3⟩
    ·refine zan c2 ?_
     refine wpS_bind (zdC (by lia) h0 k1 k2 hle fun st5 t1 t2 t3 t4=>?_)
     simp only [Bool.not_true,Bool.false_eq_true,if_false]
     refine wpS_pure ⟨rfl,t1,t2,fun i j hij hj=>?_⟩
     rw [t4 _ (by lia),t4 _ (by lia)]
     exact k3 i j hij hj
   ·rw [if_neg c1]
    exact wpS_pure ⟨rfl,k1,k2,k3⟩
  have mods:∀ (pw:Nat) (st4:SortSt),Cov (arrOf st4) 0 (pendingOf st4).toList lo→Cov (arrOf st4) 0 ((pendingOf st4).modify ((pendingOf st4).size - 1) fun x=>match x with | (st,len,_)=>(st,len,pw)).toList lo:=by
   intro pw st4 g
   refine Cov.powers ?_ g
   apply List.ext_getElem?
   intro i
   rw [List.getElem?_map,List.getElem?_map,Array.getElem?_toList,Array.getElem?_toList,Array.getElem?_modify]
   split
   ·cases q:(pendingOf st4)[i]? with
    | none=>rfl
    | some z=>rfl
   ·rfl
  by_cases c1:m < minrun
  ·refine zao c1 ?_
   refine wpS_bind (wpS_lift (wpAny_rule ⟨rfl,?_⟩))
   refine wpS_bind (zd6 h0 hB2 (by lia) (by lia) hS2 fun st3 hB3 hK3 hS3=>?_)
   simp only [Bool.not_true,Bool.false_eq_true,if_false]
   have hK:=hK2.trans hK3
   refine wpS_bind (wpS_get ?_)
   cases eb:(pendingOf st3).back? with
   | none =>
    dsimp only
    exact wpS_bind (wpS_modify (wpS_pure ⟨rfl,(by dsimp only;lia),push _ st3 hB3 (covK hK) (by lia) (by lia) hS3⟩))
   | some q =>
    obtain⟨s1,n1,p1⟩:=q
    dsimp only
    refine wpS_bind (wpS_mono (merges _ (min (a₀.size - lo) minrun) st3 hB3 (covK hK) hS3 (by lia)) ?_)
    rintro c st4 ⟨rfl,k1,k2,k3⟩
    dsimp only
    refine wpS_bind (wpS_modify (wpS_bind (wpS_modify (wpS_pure ⟨rfl,(by dsimp only;lia),push _ _ ⟨k1.perm,k1.kind,k1.failed⟩ (mods _ st4 k2) (by lia) (by lia) k3⟩))))
  ·refine zan c1 ?_
   refine wpS_bind (wpS_get ?_)
   cases eb:(pendingOf st2).back? with
   | none =>
    dsimp only
    exact wpS_bind (wpS_modify (wpS_pure ⟨rfl,(by dsimp only;lia),push _ st2 hB2 (covK hK2) (by lia) (by lia) hS2⟩))
   | some q =>
    obtain⟨s1,n1,p1⟩:=q
    dsimp only
    refine wpS_bind (wpS_mono (merges _ m st2 hB2 (covK hK2) hS2 (by lia)) ?_)
    rintro c st4 ⟨rfl,k1,k2,k3⟩
    dsimp only
    refine wpS_bind (wpS_modify (wpS_bind (wpS_modify (wpS_pure ⟨rfl,(by dsimp only;lia),push _ _ ⟨k1.perm,k1.kind,k1.failed⟩ (mods _ st4 k2) (by lia) (by lia) k3⟩))))
 case post =>
  rintro ⟨r,lo⟩ st1 ⟨e,hM⟩
  dsimp only at *
  subst e
  dsimp only
  refine wpS_bind (wpS_mono (wpS_forRange (a:=0) (b:=a₀.size) (I:=fun x c st'=>c=(none,())∧Mid a₀ a₀.size st'∧(pendingOf st').size + x≤a₀.size) (Q:=fun c st'=>c=(none,())∧Mid a₀ a₀.size st'∧(pendingOf st').size≤1) ?jstep ?jfin ?jinit) ?jpost)
  case jinit =>
   have:=hM.cov.le
   simp at this
   exact⟨rfl,hM,by lia⟩
  case jfin =>
   rintro c st' ⟨rfl,hM',hx⟩
   exact⟨rfl,hM',by lia⟩
  case jstep =>
   rintro x c st' _ hx ⟨rfl,hM',hx'⟩
   refine wpS_bind (wpS_get ?_)
   by_cases c1:(pendingOf st').size≤1
   ·refine zao c1 ?_
    exact wpS_pure ⟨rfl,hM',c1⟩
   ·refine zan c1 ?_
    refine wpS_bind (zdC ?_ h0 hM'.b hM'.cov (Nat.le_refl _) fun st5 t1 t2 t3 t4=>?_)
    ·have pick:∀ (c:Prop) [Decidable c],(if c then (pendingOf st').size - 2 - 1 else (pendingOf st').size - 2) + 1 < (pendingOf st').size:=fun c _=>by split <;> lia
     exact pick _
    ·simp only [Bool.not_true,Bool.false_eq_true,if_false]
     exact wpS_pure ⟨rfl,⟨t1,t2,Nat.le_refl _⟩,by lia⟩
  case jpost =>
   rintro c st' ⟨rfl,hM',hx'⟩
   refine wpS_pure (h st' hM'.b.perm hM'.b.failed ?_)
   have hc:=hM'.cov
   have hlen:(pendingOf st').toList.length≤1:=by simpa using hx'
   match hl:(pendingOf st').toList,hlen,hc with
   | [],_,hc =>
    have:0=a₀.size:=hc
    lia
   | [(b,n,p)],_,hc =>
    obtain⟨e1,_,g3,e2⟩:=hc
    have e2':0 + n=a₀.size:=e2
    subst e1
    intro i j hij hj
    have z:=g3 i j hij (by lia)
    simpa using z
end
end Srt
namespace Srt
open PySem PyProof.Rows
section
variable {prog:Program} {w:World} {X:Around} {E:Value→Shared→Prop} {s:Shared}
theorem zgN {α β:Type} {m:α→Sem β} {f:α→β}:∀ {vs:List α} {Q:List β→Shared→Prop},(∀ v∈vs,∀ Q:β→Shared→Prop,Q (f v) s→wpAny (model prog w) X (m v) Q E s)→Q (vs.map f) s→wpAny (model prog w) X (vs.mapM m) Q E s
 | [],Q,_,h=>by rw [List.mapM_nil];exact wpAny_pure h
 | v :: vs,Q,hm,h=>by
  rw [List.mapM_cons]
  exact wpAny_bind (hm v (by simp) _ (wpAny_bind (zgN (fun u hu=>hm u (by simp [hu])) (wpAny_pure h))))
theorem zpm {T:String} {v:Value} {vs:List Value} {Q:SortKind→Shared→Prop} (hT:(Value.type T != Value.type "tuple")=true) (ht:∀ u∈v :: vs,s.TypeIs u T) (h:Q oneType' s):wpAny (model prog w) X (keyKind' (v :: vs).toArray) Q E s:=by
 rw [keyKind'_eq,List.mapM_toArray,map_eq_pure_bind]
 refine wpAny_bind (wpAny_bind (zgN (f:=fun _=>none) (fun u hu Q hq=>?_) (wpAny_pure ?_)))
 ·show wpAny _ _ (typeOf u >>= fun t=>if (t != Value.type "tuple")=true then pure none else _) _ _ _
  refine wpAny_bind (wpAny_typeOf (ht u hu) ?_)
  rw [if_pos hT]
  exact wpAny_pure hq
 ·rw [if_neg (by simp),if_neg (by simp),oneTypeOnly'_eq,List.mapM_toArray,map_eq_pure_bind]
  refine wpAny_bind (wpAny_bind (wpAny_bind (zgN (f:=fun _=>Value.type T) (fun u hu Q hq=>wpAny_typeOf (ht u hu) hq) (wpAny_pure ?_))))
  have h0:(List.map (fun _=>Value.type T) (v :: vs)).toArray[0]? = some (Value.type T):=by simp
  have hall:((List.map (fun _=>Value.type T) (v :: vs)).toArray.all fun x=>x == Value.type T)=true:=by
   simp only [List.all_toArray,List.all_map,List.all_eq_true]
   intro _ _
   simp
  rw [h0]
  dsimp only
  rw [hall,if_pos rfl]
  exact wpAny_pure (wpAny_pure h)
variable [SK]
theorem zfH {T:String} {a:Addr} {vs:List Value} {n:Nat} {P:Fin→Shared→Prop} (ho:s.heap.get? a=some (seqObj "list" vs.toArray n)) (h0:zbi (pairsOf vs)) (hz:vs.length≤sizeLine) (hT:(Value.type T != Value.type "tuple")=true)
  (hL:∀ h':Heap,(∀ b o,b≠a→s.heap.get? b=some o→h'.get? b=some o)→SKL prog w X E { s with heap:=h' }∧∀ u∈vs,({ s with heap:=h' }:Shared).TypeIs u T)
  (h:∀ out:Array Keyed,out.Perm (pairsOf vs)→SortedTo out (pairsOf vs).size→P (.done (.ret .none)) { s with heap:=sortedHeap s.heap a vs (out.map (·.2)) }) :
  wpAny (model prog w) X (Builtin.«list.sort» ⟨[.ref a],[]⟩) P E s:=by
 rw [list_sort_plain]
 refine wpAny_bind (listItems_at ho rfl (wpAny_bind (listUpdate_at ho rfl ?_ (by rw [List.size_toArray];exact hz))))
 obtain⟨e1,ho1⟩:∃ e1,(s.heap.update a (Obj.mapSeq fun _=>#[])).get? a=some (seqObj "list" #[] e1):=⟨_,get?_update_seq ho (fun _=>#[])⟩
 refine wpAny_bind (seqEpoch_at ho1 rfl (wpAny_bind (wpAny_newTuple ?_ (hsz:=hz))))
 refine wpAny_bind (wpAny_newList (wpAny_holding ?_))
 have hlt:a < s.heap.objs.size:=Heap.lt_size ho
 have ho2:(((s.heap.update a (Obj.mapSeq fun _=>#[])).push (seqObj "tuple" vs.toArray 0)).push (seqObj "list" #[] 0)).get? a=some (seqObj "list" #[] e1):=by
  refine Heap.get?_push_of_some _ (Heap.get?_push_of_some _ ?_)
  exact ho1
 show wpAny (model prog w) X _ P E { s with heap:=(((s.heap.update a (Obj.mapSeq fun _=>#[])).push (seqObj "tuple" vs.toArray 0)).push (seqObj "list" #[] 0)) }
 dsimp only
 have lens:vs.toArray.size=vs.length:=List.size_toArray ..
 obtain⟨i1,i2⟩:=hL (((s.heap.update a (Obj.mapSeq fun _=>#[])).push (seqObj "tuple" vs.toArray 0)).push (seqObj "list" #[] 0)) fun b o hb e=>Heap.get?_push_of_some _ (Heap.get?_push_of_some _ (by rw [Heap.get?_update_other _ _ (Ne.symm hb)];exact e))
 have done:∀ st':SortSt,(arrOf st').Perm (pairsOf vs)→SortedTo (arrOf st') (pairsOf vs).size→P (.done (.ret .none)) { s with heap:=sortedHeap s.heap a vs ((arrOf st').map (·.2)) }:=fun st' q1 q2=>h _ q1 q2
 clear hL h
 match vs,lens,h0,hz,done,ho,ho2,i1,i2 with
 | [],_,h0,hz,done,ho,ho2,i1,i2 =>
  refine wpAny_bind (wpAny_pure ?_)
  rw [if_pos (show ([]:List Value).toArray.size < 2 by decide),StateT.run_pure]
  refine wpAny_bind (wpAny_pure (wpAny_bind (seqEpoch_at ho2 rfl (wpAny_bind (listUpdate_at ho2 rfl ?_ (hsz2:=by rw [Array.size_map];show (([]:List Value).toArray.zip ([]:List Value).toArray).size≤_;simp))))))
  simp only [bne_self_eq_false,Bool.false_eq_true,if_false]
  exact wpAny_pure (done (SortSt.mk' general' (([]:List Value).toArray.zip ([]:List Value).toArray) #[] 7 none) (Array.Perm.refl _) fun i j _ hj=>absurd hj (by rw [pairsOf_size];simp))
 | [v],_,h0,hz,done,ho,ho2,i1,i2 =>
  refine wpAny_bind (wpAny_pure ?_)
  rw [if_pos (show ([v]:List Value).toArray.size < 2 by simp),StateT.run_pure]
  refine wpAny_bind (wpAny_pure (wpAny_bind (seqEpoch_at ho2 rfl (wpAny_bind (listUpdate_at ho2 rfl ?_ (hsz2:=by rw [Array.size_map];show (([v]:List Value).toArray.zip ([v]:List Value).toArray).size≤_;simp))))))
  simp only [bne_self_eq_false,Bool.false_eq_true,if_false]
  refine wpAny_pure (done (SortSt.mk' general' (([v]:List Value).toArray.zip ([v]:List Value).toArray) #[] 7 none) (Array.Perm.refl _) fun i j hij hj=>?_)
  rw [pairsOf_size] at hj
  have:i=j:=by simp at hj;lia
  subst this
  exact Int.le_refl _
 | v₁ :: v₂ :: rest,lens,h0,hz,done,ho,ho2,i1,i2 =>
  have two:¬ (v₁ :: v₂ :: rest).toArray.size < 2:=by rw [lens];simp
  rw [if_neg two,if_neg two]
  refine wpAny_bind (zpm hT i2 (wpAny_bind (wpAny_mono (zfn (a₀:=pairsOf (v₁ :: v₂ :: rest)) (st:=SortSt.mk' oneType' ((v₁ :: v₂ :: rest).toArray.zip (v₁ :: v₂ :: rest).toArray) #[] 7 none)
   (Q:=fun _ st'=>(arrOf st').Perm (pairsOf (v₁ :: v₂ :: rest))∧failedOf st'=none∧SortedTo (arrOf st') (pairsOf (v₁ :: v₂ :: rest)).size) h0 ⟨Array.Perm.refl _,rfl,rfl⟩ rfl
   (by rw [pairsOf_size];simp) fun st' z1 z2 z3=>⟨z1,z2,z3⟩) ?_ fun _ _ z=>z)))
  rintro ⟨⟨⟩,st'⟩ s' ⟨rfl,q1,q2,q3⟩
  dsimp only
  refine wpAny_bind (seqEpoch_at ho2 rfl (wpAny_bind (listUpdate_at ho2 rfl ?_ (hsz2:=?_))))
  ·rw [q2]
   simp only [bne_self_eq_false,Bool.false_eq_true,if_false]
   exact wpAny_pure (done st' q1 q3)
  ·have e:((arrOf st').map (·.2)).size=(v₁ :: v₂ :: rest).length:=by rw [Array.size_map,q1.size_eq,pairsOf_size]
   show ((arrOf st').map (·.2)).size≤sizeLine + 1
   lia
theorem sorted_gen {T:String} {l:Addr} {vs:List Value} {Q:Value→Shared→Prop} (hl:s.heap.IsList l vs.toArray) (h0:zbi (pairsOf vs)) (hz:vs.length≤sizeLine) (hT:(Value.type T != Value.type "tuple")=true)
  (hL:∀ h':Heap,(∀ b o,s.heap.get? b=some o→h'.get? b=some o)→∀ E,SKL prog w X.in1.in1 E { s with heap:=h' }∧∀ u∈vs,({ s with heap:=h' }:Shared).TypeIs u T)
  (h:∀ out:Array Keyed,out.Perm (pairsOf vs)→SortedTo out (pairsOf vs).size→Q (.ref (s.heap.objs.size + 1)) { s with heap:=sortedAll s.heap vs (out.map (·.2)) }) :
  wpAny (model prog w) X (call (.builtin "sorted") [.ref l]) Q E s:=by
 refine Calls.call_function_entry kind_sorted plain_sorted entry_sorted (args_sorted1 _) ?_
 unfold Builtin.«sorted»
 refine wpAny_bind (m:=checkCount "sorted" 1 1 _) (wpAny_pure (wpAny_bind (collect_list hl ?_ hz)))
 refine wpAny_bind (wpAny_newList ?_ (hsz:=hz))
 have e1:((s.heap.push (seqObj "list" #[] 0)).update s.heap.objs.size (Obj.mapSeq (· ++ vs.toArray))).objs.size=s.heap.objs.size + 1:=by rw [Heap.size_update,size_push']
 have e2:(((s.heap.push (seqObj "list" #[] 0)).update s.heap.objs.size (Obj.mapSeq (· ++ vs.toArray))).push (seqObj "list" vs.toArray 0)).get? (s.heap.objs.size + 1)=some (seqObj "list" vs.toArray 0):=by
  have z:=Heap.get?_push_size ((s.heap.push (seqObj "list" #[] 0)).update s.heap.objs.size (Obj.mapSeq (· ++ vs.toArray))) (o:=seqObj "list" vs.toArray 0) rfl
  rw [e1] at z
  exact z
 show wpAny _ _ _ _ _ { s with heap:=(((s.heap.push (seqObj "list" #[] 0)).update s.heap.objs.size (Obj.mapSeq (· ++ vs.toArray))).push (seqObj "list" vs.toArray 0)) }
 rw [e1]
 refine wpAny_bind (wpAny_holding (wpAny_call_entry slot_list_sort ⟨_,e2,rfl⟩ entry_list_sort (zfH e2 h0 hz hT (fun h' k=>hL h' (fun b o e=>k b o (fun q=>absurd (Heap.lt_size e) (by rw [q];exact Nat.not_lt.mpr (Nat.le_succ _))) (Heap.get?_push_of_some _ (by rw [Heap.get?_update_other _ _ (fun q=>absurd (Heap.lt_size e) (by rw [← q];exact Nat.lt_irrefl _))];exact Heap.get?_push_of_some _ e))) _) fun out z1 z2=>⟨_,rfl,wpAny_pure ⟨_,rfl,h out z1 z2⟩⟩) (args_list_sort _)))
end
section
variable {prog:Program} {w:World} {X:Around} {E:Value→Shared→Prop} {s:Shared}
theorem zit:∀ {vs:List Value} {ns:List Int},IntsAre vs ns→∀ u∈vs,∃ n t,u=.int n t
 | _,_,.nil,u,h=>nomatch h
 | _,_,.cons n t r,u,h=>by
  rcases List.mem_cons.mp h with rfl | h
  ·exact⟨n,t,rfl⟩
  ·exact zit r u h
@[reducible] noncomputable def zkS:SK:=⟨fun p=>numOf p.1,fun p=>∃ n t,p.1=.int n t⟩
theorem zpB:@SKL prog w X E s zkS:=by
 refine @SKL.mk prog w X E s zkS ?_
 rintro st x y Q hk ⟨a,t,ea⟩ ⟨b,u,eb⟩ h
 rw [lt'_eq]
 refine wpS_bind (wpS_get ?_)
 rw [hk,keyLt'_oneType,ea,eb]
 refine wpS_bind (wpS_lift (wpAny_attempt (oneLt_int ⟨rfl,?_⟩)))
 have e1:@key zkS x=a:=by show numOf x.1=a;rw [ea];rfl
 have e2:@key zkS y=b:=by show numOf y.1=b;rw [eb];rfl
 rw [e1,e2] at h
 exact wpS_pure h
theorem sorted_any {l:Addr} {vs:List Value} {ns:List Int} {Q:Value→Shared→Prop} (hl:s.heap.IsList l vs.toArray) (hI:IntsAre vs ns) (hz:vs.length≤sizeLine)
  (h:∀ (out:Array Value) (ns':List Int),IntsAre out.toList ns'→ns'.Perm ns→ns'.Pairwise (·≤·)→Q (.ref (s.heap.objs.size + 1)) { s with heap:=sortedAll s.heap vs out }) :
  wpAny (model prog w) X (call (.builtin "sorted") [.ref l]) Q E s:=by
 refine @sorted_gen prog w X E s zkS "int" l vs Q hl hI.intKeys hz (by decide) (fun h' _ E=>⟨zpB,fun u hu=>?_⟩) fun out q1 q2=>?_
 ·obtain⟨n,t,rfl⟩:=zit hI u hu
  rfl
 ·obtain⟨ns',z1,z2,z3⟩:=sorted_out hI q1 q2
  exact h _ ns' z1 z2 z3
end
end Srt
namespace L2
open PySem PySem.Spec PyProof.Rows
noncomputable def zbA (cells cs:List (Str×Addr)) (x:Str×NameKind):List (Str×Addr):=if (x.2 == .free)=true then (x.1,(cells.lookup x.1).getD 0) :: cs else cs
noncomputable def zcO (cells:List (Str×Addr)) (names:List (Str×NameKind)):List (Str×Addr):=names.foldl (zbA cells) []
theorem zcu {α β:Type} (f:α→β→Sem (ForInStep β)) (g:β→α→β):∀ (l:List α) (b:β),(∀ x∈l,∀ b,f x b=pure (.yield (g b x)))→forIn l b f=(pure (l.foldl g b):Sem β)
 | [],b,_=>by rw [List.forIn_nil];rfl
 | x :: l,b,h=>by
  rw [List.forIn_cons,h x List.mem_cons_self b,pure_bind]
  exact zcu f g l (g b x) fun y hy=>h y (List.mem_cons_of_mem _ hy)
theorem zfR {scope:Scope} {env:Env} (h:∀ x∈scope.names,x.2=.free→∃ c,env.cells.lookup x.1=some c) :
  closureFor scope env=pure (zcO env.cells scope.names):=by
 unfold closureFor zcO
 dsimp only
 rw [zcu _ (zbA env.cells) _ _ fun x hx cs=>?_]
 ·rfl
 ·obtain⟨n,k⟩:=x
  unfold zbA
  cases hk:k == NameKind.free with
  | false=>simp [hk]
  | true =>
   obtain⟨c,hc⟩:=h (n,k) hx (by simpa using hk)
   have hc':env.cells.lookup n=some c:=hc
   simp only [hk,if_true]
   unfold cellOf
   rw [hc']
   rfl
theorem zd1 {cells:List (Str×Addr)}:∀ (names:List (Str×NameKind)) (acc:List (Str×Addr)) (p:Str×Addr),p∈names.foldl (zbA cells) acc→p∈acc∨((p.1,NameKind.free)∈names∧p.2=(cells.lookup p.1).getD 0)
 | [],acc,p,h=>.inl h
 | (n,k) :: r,acc,p,h=>by
  rw [List.foldl_cons] at h
  rcases zd1 r _ p h with h | ⟨h1,h2⟩
  ·unfold zbA at h
   split at h
   ·rename_i hk
    have hk':k=.free:=by simpa using hk
    subst hk'
    rcases List.mem_cons.mp h with e | h
    ·subst e;exact .inr ⟨List.mem_cons_self,rfl⟩
    ·exact .inl h
   ·exact .inl h
  ·exact .inr ⟨List.mem_cons_of_mem _ h1,h2⟩
theorem zgu {cells:List (Str×Addr)} {x:Str}:∀ (names:List (Str×NameKind)) (acc:List (Str×Addr)),acc.lookup x=some ((cells.lookup x).getD 0)→(names.foldl (zbA cells) acc).lookup x=some ((cells.lookup x).getD 0)
 | [],acc,h=>h
 | (n,k) :: r,acc,h=>by
  rw [List.foldl_cons]
  refine zgu r _ ?_
  unfold zbA
  split
  ·rw [List.lookup_cons]
   cases e:x == n with
   | true=>rw [beq_iff_eq.mp e]
   | false=>exact h
  ·exact h
theorem zcU {cells:List (Str×Addr)} {x:Str}:∀ (names:List (Str×NameKind)) (acc:List (Str×Addr)),(x,NameKind.free)∈names→(names.foldl (zbA cells) acc).lookup x=some ((cells.lookup x).getD 0)
 | (n,k) :: r,acc,h=>by
  rw [List.foldl_cons]
  rcases List.mem_cons.mp h with e | h
  ·cases e
   refine zgu r _ ?_
   unfold zbA
   rw [if_pos (by rfl),List.lookup_cons]
   simp
  ·exact zcU r _ h
theorem zk8:∀ (names:List (Str×NameKind)) (n:Nat) (acc:List (Str×Addr)) (p:Str×Addr),p∈cellsFrom n names acc→p∈acc∨(n≤p.2∧(p.1,NameKind.cell)∈names)
 | [],_,_,_,h=>.inl h
 | (x,k) :: r,n,acc,p,h=>by
  unfold cellsFrom at h
  split at h
  ·rename_i hk
   have hk':k=.cell:=by simpa using hk
   subst hk'
   rcases zk8 r _ _ p h with h | ⟨h1,h2⟩
   ·rcases List.mem_cons.mp h with e | h
    ·subst e;exact .inr ⟨Nat.le_refl _,List.mem_cons_self⟩
    ·exact .inl h
   ·exact .inr ⟨by lia,List.mem_cons_of_mem _ h2⟩
  ·rcases zk8 r _ _ p h with h | ⟨h1,h2⟩
   ·exact .inl h
   ·exact .inr ⟨h1,List.mem_cons_of_mem _ h2⟩
theorem zk9:∀ (names:List (Str×NameKind)) (n:Nat) (acc:List (Str×Addr)),(∀ p∈acc,p.2 < n)→(∀ p∈acc,∀ q∈acc,p.2=q.2→p.1=q.1) →
  ∀ p∈cellsFrom n names acc,∀ q∈cellsFrom n names acc,p.2=q.2→p.1=q.1
 | [],_,_,_,h=>h
 | (x,k) :: r,n,acc,hl,h=>by
  unfold cellsFrom
  split
  ·refine zk9 r (n + 1) ((x,n) :: acc) (fun p hp=>?_) fun p hp q hq e=>?_
   ·rcases List.mem_cons.mp hp with z | hp
    ·subst z;exact Nat.lt_succ_self _
    ·exact Nat.lt_succ_of_lt (hl p hp)
   ·rcases List.mem_cons.mp hp with z | hp <;> rcases List.mem_cons.mp hq with z' | hq
    ·rw [z,z']
    ·subst z
     have h1:q.2 < n:=hl q hq
     have e':n=q.2:=e
     rw [← e'] at h1
     exact absurd h1 (Nat.lt_irrefl _)
    ·subst z'
     have h1:p.2 < n:=hl p hp
     have e':p.2=n:=e
     rw [e'] at h1
     exact absurd h1 (Nat.lt_irrefl _)
    ·exact h p hp q hq e
  ·exact zk9 r n acc hl h
theorem zd2 {x:Str}:∀ (names:List (Str×NameKind)) (n:Nat) (acc:List (Str×Addr)),(x,NameKind.cell)∉names→(cellsFrom n names acc).lookup x=acc.lookup x
 | [],_,_,_=>rfl
 | (y,k) :: r,n,acc,h=>by
  have hr:(x,NameKind.cell)∉r:=fun z=>h (List.mem_cons_of_mem _ z)
  unfold cellsFrom
  split
  ·rename_i hk
   have hk':k=.cell:=by simpa using hk
   subst hk'
   rw [zd2 r _ _ hr,List.lookup_cons]
   cases e:x == y with
   | true=>exact absurd (by rw [beq_iff_eq.mp e];exact List.mem_cons_self) h
   | false=>rfl
  ·exact zd2 r _ _ hr
theorem zho:∀ (names:List (Str×NameKind)) (h:Heap) (acc:List (Str×Addr)) (p:Str×Addr),p∈cellsFrom h.objs.size names acc→p∈acc∨(pushCells h names).IsCell p.2 none
 | [],_,_,_,q=>.inl q
 | (y,k) :: r,h,acc,p,q=>by
  unfold cellsFrom at q
  unfold pushCells
  split at q
  ·rename_i hk
   rw [if_pos hk]
   have e:h.objs.size + 1=(h.push { cls:=.type "cell", data:=.cell none }).objs.size:=(Heap.size_push ..).symm
   rw [e] at q
   rcases zho r _ _ p q with q | q
   ·rcases List.mem_cons.mp q with z | q
    ·subst z
     refine .inr ⟨_,pushCells_keeps _ _ _ _ (Heap.get?_push_size _ rfl),rfl⟩
    ·exact .inl q
   ·exact .inr q
  ·rename_i hk
   rw [if_neg hk]
   exact zho r _ _ p q
theorem zfq {M:Model} {A:Around} {E:Value→Shared→Prop} {s:Shared} {scope:Scope} {env:Env} {cl:List (Str×Addr)} {Q:Env→Shared→Prop}
  (hQ:Q (newEnv scope s.heap.objs.size env.globals (cellsFrom (s.heap.objs.size + 1) scope.names cl) env.qual none .none (some env) builtinsNs)
   { s with heap:=pushCells (s.heap.push { cls:=.type "dict", data:=.dict #[] }) scope.names }) :
  wpAny M A (newFunctionEnv scope env.globals cl [] env.qual none .none (some env)) Q E s:=by
 simp only [newFunctionEnv,Option.isSome_some,if_true]
 refine wpAny_bind (wpAny_alloc ?_)
 refine wpAny_bind (wpAny_layCells _ (fun name kind cells=>by cases hkc:kind == NameKind.cell <;> simp [hkc]) _ _ _ _ ?_)
 rw [List.forIn_nil]
 refine wpAny_bind (wpAny_pure (wpAny_pure ?_))
 have e:({ s with heap:=s.heap.push { cls:=.type "dict", data:=.dict #[] } }:Shared).heap.objs.size=s.heap.objs.size + 1:=Heap.size_push ..
 rw [e]
 exact hQ
noncomputable def ziK (env:Env) (scope:Scope) (C:Addr):Env:=
 { scope:=relabel scope env,locals:=C,globals:=env.globals,cells:=cellsFrom (C + 1) scope.names (zcO env.cells scope.names),qual:=env.qual,func:=none,code:=env.code,frame:=env.frame,builtins:=env.builtins }
noncomputable def cxB (X:Cx) (N':List Str) (scope:Scope) (C:Addr) (s₂:Shared) (H₂:Hp) (fp:List Addr) (pn:List (Addr×Obj)):Cx:=
 { X with N:=N',s₀:=s₂,H₀:=H₂,env:=ziK X.env scope C,outer:=X.stack,ex:=fp,fn:=fun x=>scope.names.lookup x == some .cell,pn:=pn,xe:=fun _ _=>False }
noncomputable def zim:List Str→Bool
 | []=>true
 | x :: r=>!r.contains x && zim r
theorem zal:∀ {l:List Str},zim l=true→l.Nodup
 | [],_=>List.nodup_nil
 | x :: r,h=>by
  unfold zim at h
  rw [Bool.and_eq_true] at h
  refine List.nodup_cons.mpr ⟨fun hm=>?_,zal h.2⟩
  have h1:=h.1
  rw [List.contains_iff_mem.mpr hm] at h1
  cases h1
noncomputable def zpP (env:Env) (scope:Scope):Bool:=
 scope.kind == .function && zim (scope.names.map (·.1)) && scope.names.all fun x=>!(x.2 == .free) || env.kindOf x.1 == some .cell || env.kindOf x.1 == some .free
structure Blk (env:Env) (scope:Scope):Prop where
 kind:scope.kind=.function
 nd:(scope.names.map (·.1)).Nodup
 cap:∀ x∈scope.names,x.2=.free→env.kindOf x.1=some .cell∨env.kindOf x.1=some .free
theorem Blk.of {env:Env} {scope:Scope} (h:zpP env scope=true):Blk env scope:=by
 unfold zpP at h
 rw [Bool.and_eq_true,Bool.and_eq_true] at h
 obtain⟨⟨h1,h2⟩,h3⟩:=h
 refine ⟨by simpa using h1,zal h2,fun x hx hf=>?_⟩
 have h4:=List.all_eq_true.mp h3 x hx
 rw [Bool.or_eq_true,Bool.or_eq_true] at h4
 rcases h4 with (h4 | h4) | h4
 ·rw [hf] at h4
  exact absurd h4 (by decide)
 ·exact .inl (by simpa using h4)
 ·exact .inr (by simpa using h4)
theorem zbb {α:Type}:∀ {l:List (Str×α)} {x:Str} {v:α},(l.map (·.1)).Nodup→(x,v)∈l→l.lookup x=some v
 | (y,u) :: r,x,v,nd,h=>by
  rw [List.map_cons] at nd
  obtain⟨n1,n2⟩:=List.nodup_cons.mp nd
  rw [List.lookup_cons]
  rcases List.mem_cons.mp h with e | hr
  ·cases e;simp
  ·have hne:(x == y)=false:=by
    cases e:x == y with
    | false=>rfl
    | true =>
     have e':=beq_iff_eq.mp e
     refine absurd ?_ n1
     rw [← e']
     exact (show x∈r.map (fun p:Str×α=>p.1) from List.mem_map_of_mem (a:=(x,v)) hr)
   rw [hne]
   exact zbb n2 hr
theorem zbl {env:Env} {x:Str} {k':NameKind}:∀ {names:List (Str×NameKind)},
  (names.map fun (n,k)=>if (k == NameKind.free && env.scope.kind == .function && env.kindOf n == some .cell) then (n,NameKind.cell) else (n,k)).lookup x=some k' →
  ∃ k,names.lookup x=some k∧(k'=k∨k=.free)
 | [],h=>by simp at h
 | (n,k) :: r,h=>by
  have ih:=@zbl env x k' r
  have hh:((if (k == NameKind.free && env.scope.kind == .function && env.kindOf n == some .cell)=true then (n,NameKind.cell) else (n,k)) :: r.map fun (n,k)=>if (k == NameKind.free && env.scope.kind == .function && env.kindOf n == some .cell) then (n,NameKind.cell) else (n,k)).lookup x=some k':=h
  by_cases hc:(k == NameKind.free && env.scope.kind == .function && env.kindOf n == some .cell)=true
  ·rw [if_pos hc,List.lookup_cons] at hh
   rw [List.lookup_cons]
   cases e:x == n with
   | true =>
    refine ⟨k,rfl,.inr ?_⟩
    rw [Bool.and_eq_true,Bool.and_eq_true] at hc
    simpa using hc.1.1
   | false =>
    rw [e] at hh
    exact ih hh
  ·rw [if_neg hc,List.lookup_cons] at hh
   rw [List.lookup_cons]
   cases e:x == n with
   | true =>
    rw [e] at hh
    exact⟨k,rfl,.inl (Option.some.inj hh).symm⟩
   | false =>
    rw [e] at hh
    exact ih hh
theorem zcn {env:Env} {x:Str}:∀ {names:List (Str×NameKind)},names.lookup x=some .free →
  (names.map fun (n,k)=>if (k == NameKind.free && env.scope.kind == .function && env.kindOf n == some .cell) then (n,NameKind.cell) else (n,k)).lookup x≠some .local
 | [],h=>by simp at h
 | (n,k) :: r,h=>fun h'=>by
  have hh:((if (k == NameKind.free && env.scope.kind == .function && env.kindOf n == some .cell)=true then (n,NameKind.cell) else (n,k)) :: r.map fun (n,k)=>if (k == NameKind.free && env.scope.kind == .function && env.kindOf n == some .cell) then (n,NameKind.cell) else (n,k)).lookup x=some .local:=h'
  rw [List.lookup_cons] at h
  by_cases hc:(k == NameKind.free && env.scope.kind == .function && env.kindOf n == some .cell)=true
  ·rw [if_pos hc,List.lookup_cons] at hh
   cases e:x == n with
   | true=>rw [e] at hh;cases hh
   | false=>rw [e] at hh h;exact zcn h hh
  ·rw [if_neg hc,List.lookup_cons] at hh
   cases e:x == n with
   | true=>rw [e] at hh h;cases h;cases hh
   | false=>rw [e] at hh h;exact zcn h hh
noncomputable def inner (ix:List (Option Nat)) (σ:St):St:=ix.map fun o=>o.bind fun j=>(σ[j]?).join
noncomputable def ixOk (N N':List Str) (scope:Scope) (ix:List (Option Nat)):Bool:=
 ix.length == N'.length && (ix.zip N').all fun p=>match p.1 with
  | none=>true
  | some j=>N[j]? == some p.2 && scope.names.lookup p.2 == some .free
section
variable {X:Cx} {pins:List (Addr×Obj)} {σ:St} {H:Hp} {s:Shared} {scope:Scope}
theorem Inv.stk_lt (I:Inv X pins σ H s) {b:Addr} (hb:b∈frs X.stack):b < s.heap.objs.size:=by
 rcases List.mem_cons.mp (I.stkSub b hb) with e | hb
 ·rw [e];exact I.lt
 ·by_cases h:b < s.heap.objs.size
  ·exact h
  ·exact absurd hb (I.nofs (Nat.le_of_not_lt h))
theorem zmj (B:Blk X.env scope) (I:Inv X pins σ H s):closureFor scope X.env=pure (zcO X.env.cells scope.names):=
 zfR fun x hx hf=>I.ok.has x.1 (B.cap x hx hf)
theorem zd3 (B:Blk X.env scope) (I:Inv X pins σ H s) {C:Addr} {p:Str×Addr} (h:p∈cellsFrom (C + 1) scope.names (zcO X.env.cells scope.names)) :
  (X.env.cells.lookup p.1=some p.2∧(p.1,NameKind.free)∈scope.names)∨(C + 1≤p.2∧(p.1,NameKind.cell)∈scope.names):=by
 rcases zk8 _ _ _ p h with h | h
 ·rcases zd1 _ _ p h with h | ⟨h1,h2⟩
  ·exact absurd h (by simp)
  ·obtain⟨c,hc⟩:=I.ok.has p.1 (B.cap _ h1 rfl)
   rw [hc] at h2
   exact .inl ⟨by rw [hc,h2];rfl,h1⟩
 ·exact .inr h
theorem Inv.cell_lt (I:Inv X pins σ H s) {x:Str} {c:Addr} (h:X.env.cells.lookup x=some c):c < s.heap.objs.size:=by
 obtain⟨v,z⟩:=I.cell x c h
 exact z.lt
noncomputable def zbQ (h:Heap) (scope:Scope):Heap:=pushCells ((h.push { cls:=.type "list", data:=.seq ([]:List Value).toArray }).push { cls:=.type "dict", data:=.dict #[] }) scope.names
theorem zdh {h:Heap} {scope:Scope} {b:Addr} {o:Obj} (e:h.get? b=some o):(zbQ h scope).get? b=some o:=
 pushCells_keeps _ _ _ _ (Heap.get?_push_of_some _ (Heap.get?_push_of_some _ e))
theorem zmU {N':List Str} {C:Addr} {fp:List Addr} (B:Blk X.env scope) (I:Inv X pins σ H s) (hC:C=s.heap.objs.size + 1) (hf:∀ b∈fp,FpOk X pins H b) (hfl:∀ b∈fp,b < s.heap.objs.size) :
  (cxB X N' scope C s H fp (X.pn ++ pins)).Ok:=by
 have nd:=B.nd
 refine ⟨I.ok.mod,B.kind,I.ok.glob,I.ok.blt,(by show s.heap.objs.size≤C;rw [hC];exact Nat.le_succ _),fun x y c h1 h2=>?_,fun x hx=>?_,fun x c hfn h=>?_,I.ok.hd,I.ok.frames,.inl rfl,fun b hb=>⟨?_,fun x c h z=>?_⟩,I.bs,
  Nat.le_trans I.ok.bsz I.sz,fun b o e hb=>?_,fun b hb hm=>?_,I.stack,I.stkFree⟩
 ·have hlt:∀ p∈zcO X.env.cells scope.names,p.2 < C + 1∧X.env.cells.lookup p.1=some p.2:=fun p hp=>by
   rcases zd1 _ _ p hp with h | ⟨h1,h2⟩
   ·exact absurd h (by simp)
   ·obtain⟨c,hc⟩:=I.ok.has p.1 (B.cap _ h1 rfl)
    rw [hc] at h2
    have:=I.cell_lt hc
    have e:p.2=c:=h2
    exact⟨by rw [e,hC];exact Nat.lt_succ_of_lt (Nat.lt_succ_of_lt this),by rw [hc,e]⟩
  exact zk9 _ _ _ (fun p hp=>(hlt p hp).1) (fun p hp q hq e=>I.ok.inj _ _ _ (hlt p hp).2 (by rw [e];exact (hlt q hq).2)) (x,c) (PySem.mem_of_lookup h1) (y,c) (PySem.mem_of_lookup h2) rfl
 ·have hx':(relabel scope X.env).names.lookup x=some .cell∨(relabel scope X.env).names.lookup x=some .free:=hx
  have:∃ k,scope.names.lookup x=some k∧(k=.cell∨k=.free):=by
   rcases hx' with h | h
   ·obtain⟨k,h1,h2⟩:=zbl h
    rcases h2 with h2 | h2
    ·exact⟨k,h1,.inl h2.symm⟩
    ·exact⟨k,h1,.inr h2⟩
   ·obtain⟨k,h1,h2⟩:=zbl h
    rcases h2 with h2 | h2
    ·exact⟨k,h1,.inr h2.symm⟩
    ·exact⟨k,h1,.inr h2⟩
  obtain⟨k,h1,h2⟩:=this
  rcases h2 with rfl | rfl
  ·exact Option.isSome_iff_exists.mp (PySem.W.cellsFrom_some scope.names (C + 1) _ (.inl h1))
  ·refine ⟨_,(zd2 _ _ _ fun hm=>?_).trans (zcU _ _ (PySem.mem_of_lookup h1))⟩
   have:=zbb nd hm
   rw [h1] at this
   cases this
 ·have hfn':scope.names.lookup x=some .cell:=by simpa [cxB] using hfn
  rcases zd3 B I (PySem.mem_of_lookup h) with ⟨_,h1⟩ | ⟨h1,_⟩
  ·have:=zbb nd h1
   rw [hfn'] at this
   cases this
  ·show s.heap.objs.size≤c
   have h1':C + 1≤c:=h1
   rw [hC] at h1'
   exact Nat.le_trans (Nat.le_add_right _ 2) h1'
 ·have:=hfl b hb
  show b≠C
  rw [hC]
  exact Nat.ne_of_lt (Nat.lt_succ_of_lt this)
 ·subst z
  have h':(cellsFrom (C + 1) scope.names (zcO X.env.cells scope.names)).lookup x=some c:=h
  rcases zd3 B I (PySem.mem_of_lookup h') with ⟨h1,_⟩ | ⟨h1,_⟩
  ·exact (hf c hb).2.2.2.2.1 x c h1 rfl
  ·have:=hfl c hb
   have h1':C + 1≤c:=h1
   rw [hC] at h1'
   exact absurd (Nat.lt_of_lt_of_le this (Nat.le_trans (Nat.le_add_right _ 2) h1')) (Nat.lt_irrefl _)
 ·rcases (hf b hb).2.2.2.1 with z | z
  ·exact I.ok.noex b o e z
  ·exact absurd (Nat.lt_of_lt_of_le (Heap.lt_size e) (Nat.le_trans I.ok.bsz z)) (Nat.lt_irrefl _)
 ·obtain⟨_,h2,h3,_⟩:=hf b hb
  rcases List.mem_cons.mp (I.stkSub b hm) with e | e
  ·exact h2 e
  ·exact h3 e
theorem zld {N':List Str} {ix:List (Option Nat)} {fp:List Addr} (B:Blk X.env scope) (hix:ixOk X.N N' scope ix=true) (I:Inv X pins σ H s) (hf:∀ b∈fp,FpOk X pins H b) (hfl:∀ b∈fp,b < s.heap.objs.size) :
  Inv (cxB X N' scope (s.heap.objs.size + 1) s H fp (X.pn ++ pins)) [] (inner ix σ) H { s with heap:=zbQ s.heap scope }:=by
 unfold ixOk at hix
 rw [Bool.and_eq_true] at hix
 have hlen:ix.length=N'.length:=by simpa using hix.1
 have old:∀ b o,s.heap.get? b=some o→(zbQ s.heap scope).get? b=some o:=fun b o e=>zdh e
 have e1:(s.heap.push { cls:=.type "list", data:=.seq ([]:List Value).toArray }).objs.size=s.heap.objs.size + 1:=Heap.size_push ..
 have e2:((s.heap.push { cls:=.type "list", data:=.seq ([]:List Value).toArray }).push { cls:=.type "dict", data:=.dict #[] }).objs.size=s.heap.objs.size + 1 + 1:=by rw [Heap.size_push,e1]
 have ns:(zbQ s.heap scope).Ns (s.heap.objs.size + 1) (fun _=>none):=by
  have q:=(Heap.Ns.new (s.heap.push { cls:=.type "list", data:=.seq ([]:List Value).toArray }) (.type "dict"))
  rw [e1] at q
  exact q.keeps fun b o e=>pushCells_keeps _ _ _ _ e
 have cellsOk:∀ x c,(cellsFrom (s.heap.objs.size + 1 + 1) scope.names (zcO X.env.cells scope.names)).lookup x=some c→(∃ v,(zbQ s.heap scope).IsCell c v)∧H c=none:=fun x c h=>by
  rcases zd3 B I (PySem.mem_of_lookup h) with ⟨h1,_⟩ | ⟨h1,_⟩
  ·have h1':X.env.cells.lookup x=some c:=h1
   obtain⟨v,z⟩:=I.cell x c h1'
   exact⟨⟨v,z.keeps old⟩,I.freeC x c h1'⟩
  ·have h1':s.heap.objs.size + 1 + 1≤c:=h1
   refine ⟨?_,I.hok.fresh (Nat.le_trans (Nat.le_add_right _ 2) h1')⟩
   have q:=PySem.mem_of_lookup h
   rw [← e2] at q
   rcases zho _ _ _ _ q with q | q
   ·rcases zd1 _ _ _ q with q | ⟨q1,q2⟩
    ·exact absurd q (by simp)
    ·obtain⟨c',hc'⟩:=I.ok.has x (B.cap _ q1 rfl)
     have q2':c=(X.env.cells.lookup x).getD 0:=q2
     rw [hc'] at q2'
     have:=I.cell_lt hc'
     have e:c=c':=q2'
     rw [e] at h1'
     exact absurd (Nat.lt_of_lt_of_le this (Nat.le_trans (Nat.le_add_right _ 2) h1')) (Nat.lt_irrefl _)
   ·exact⟨_,q⟩
 refine ⟨zmU B I rfl hf hfl,rfl,I.bare,Un.kept old,⟨_,ns,fun i x v e1 e2 e3=>?_⟩,fun x c h=>(cellsOk x c h).1,I.hok.fresh (by show s.heap.objs.size≤s.heap.objs.size + 1;lia),fun x c h=>(cellsOk x c h).2,fun p hp=>?_,I.hok.kept old,?_⟩
 ·have e1':N'[i]? = some x:=e1
  unfold inner at e2
  rw [List.getElem?_map] at e2
  cases q:ix[i]? with
  | none=>rw [q] at e2;cases e2
  | some o =>
   rw [q] at e2
   cases o with
   | none=>cases e2
   | some j =>
    have e2':(σ[j]?).join=some v:=Option.some.inj e2
    have hσ:σ[j]? = some (some v):=by
     cases z:σ[j]? with
     | none=>rw [z] at e2';cases e2'
     | some o'=>rw [z] at e2';cases o' with
      | none=>cases e2'
      | some v'=>cases e2';rfl
    have hm:(some j,x)∈ix.zip N':=List.mem_of_getElem? (by rw [List.getElem?_zip_eq_some];exact⟨q,e1'⟩)
    have hz:=List.all_eq_true.mp hix.2 _ hm
    rw [Bool.and_eq_true] at hz
    have hN:X.N[j]? = some x:=by simpa using hz.1
    have hfr:scope.names.lookup x=some .free:=by simpa using hz.2
    have hmem:=PySem.mem_of_lookup hfr
    have hk:=B.cap (x,.free) hmem rfl
    obtain⟨m,hn,hl⟩:=I.loc
    have vis:Vis X.env.scope x:=by
     rcases hk with k | k
     ·exact .inr (.inl k)
     ·exact .inr (.inr k)
    obtain⟨u,r,l⟩:=hl j x v hN hσ vis
    refine ⟨u,r,?_⟩
    rcases l with ⟨k,_⟩ | ⟨k,c,hc,hcell⟩
    ·rcases hk with k' | k'
     ·have:X.env.kindOf x=some .cell:=k'
      rw [k] at this;cases this
     ·have:X.env.kindOf x=some .free:=k'
      rw [k] at this;cases this
    ·have hne:(x,NameKind.cell)∉scope.names:=fun z=>by
      have:=zbb B.nd z
      rw [hfr] at this;cases this
     have hcl:(cellsFrom (s.heap.objs.size + 1 + 1) scope.names (zcO X.env.cells scope.names)).lookup x=some c:=by
      rw [zd2 _ _ _ hne]
      unfold zcO
      rw [zcU _ _ hmem,hc]
      rfl
     refine .inr ⟨?_,c,hcl,hcell.keeps old⟩
     have hvis:(relabel scope X.env).names.lookup x=some .local∨(relabel scope X.env).names.lookup x=some .cell∨(relabel scope X.env).names.lookup x=some .free:=e3
     rcases hvis with z | z
     ·obtain⟨k',h1,h2⟩:=zbl z
      rw [hfr] at h1
      cases h1
      rcases h2 with h2 | h2
      ·cases h2
      ·exfalso
       exact zcn hfr z
     ·exact z
 ·have hp':p∈(X.pn ++ pins) ++ []:=hp
  rw [List.append_nil] at hp'
  obtain⟨e,n,ne,nf,d⟩:=I.pin p hp'
  refine ⟨old _ _ e,n,?_,fun hm=>?_,d⟩
  ·have:=Heap.lt_size e
   show p.1≠s.heap.objs.size + 1
   exact Nat.ne_of_lt (Nat.lt_succ_of_lt this)
  ·rcases List.mem_cons.mp (I.stkSub p.1 hm) with z | z
   ·exact ne z
   ·exact nf z
 ·show (inner ix σ).length=N'.length
  unfold inner
  rw [List.length_map,hlen]
end
end L2
namespace L2
open PySem PySem.Spec PyProof.Rows
structure Loose (X:Cx) (pins:List (Addr×Obj)) (H:Hp) (C:Addr):Prop where
 free:H C=none
 ne:C≠X.env.locals
 ab:X.s₀.heap.objs.size≤C
 cl:∀ x c,X.env.cells.lookup x=some c→c≠C
 pn:∀ p∈X.pn ++ pins,p.1≠C
theorem Inv.loose {X:Cx} {pins:List (Addr×Obj)} {σ:St} {H H':Hp} {s:Shared} {C:Addr} (I:Inv X pins σ H s) (hb:s.heap.objs.size≤C) (hn:H' C=none):Loose X pins H' C:=by
 obtain⟨h1,h2,h3,h4,h5,h6⟩:=I.fpOk (H':=H') hb hn
 exact⟨h1,h2,Nat.le_trans I.sz hb,h5,h6⟩
theorem Inv.loosed {X:Cx} {pins:List (Addr×Obj)} {σ:St} {H:Hp} {s:Shared} {C:Addr} {h':Heap} (I:Inv X pins σ H s) (L:Loose X pins H C) (hs:Heap.SameBut C s.heap h'):Inv X pins σ H { s with heap:=h' }:=
 I.turned (t':=s.toks) (fun b o hb e=>(hs.2 b hb).trans e) L.free L.ne (.inr L.ab) L.cl L.pn
section
variable {X:Cx} {scope:Scope} {N':List Str} {pins pl:List (Addr×Obj)} {σ σ':St} {H H':Hp} {s s':Shared} {fp:List Addr} {acc:List V} {its:List Value} {k:Nat}
theorem znY (I:Inv X pins σ H s) (hf:∀ b∈fp,FpOk X pins H b) (J:Inv (cxB X N' scope (s.heap.objs.size + 1) s H fp (X.pn ++ pins)) pl σ' H' s')
  (hD:s'.heap.get? s.heap.objs.size=some { cls:=.type "list", data:=.seq its.toArray k }) (rv:Vals acc its) (hz:acc.length≤sizeLine) (hD0:H' s.heap.objs.size=none) :
  Inv X pins σ (upd H' s.heap.objs.size (.lst acc)) s'∧Loose X pins (upd H' s.heap.objs.size (.lst acc)) (s.heap.objs.size + 1):=by
 have ub:Un (frs X.stack) fp H H' s.heap s'.heap:=J.base
 have hne:∀ b o,s.heap.get? b=some o→b≠s.heap.objs.size:=fun b o e=>Nat.ne_of_lt (Heap.lt_size e)
 have hsome:∀ b u,H' b=some u→b≠s.heap.objs.size:=fun b u e=>zaA e hD0
 refine ⟨I.call' (s':=s') (ch:=fp) J.os ⟨ub.keep,ub.slot,fun b o e n hx=>?_,ub.there,fun b xs e=>?_,fun b o u e=>?_,fun b ps e=>?_⟩ (fun b u e=>?_) J.bare fun b hb=>?_,?_⟩
 ·rw [zat (hne b o e)];exact ub.free b o e n hx
 ·have:=ub.tups b xs e
  rw [zat (hsome b _ this)];exact this
 ·have:=ub.frzs b o u e
  rw [zat (hsome b _ this)];exact this
 ·obtain⟨more,this⟩:=ub.tbls b ps e
  exact⟨more,by rw [zat (hsome b _ this)];exact this⟩
 ·by_cases hb:b=s.heap.objs.size
  ·subst hb
   rw [zaB] at e
   cases e
   exact⟨hz,its,k,rv,hD⟩
  ·rw [zat hb] at e
   exact (J.hok b u e).stay (fun _ _ _ q=>q) (fun c q=>by rw [zat (hsome c _ q)];exact q) fun c xs q=>by rw [zat (hsome c _ q)];exact q
 ·obtain⟨_,h2,h3,h4,h5,h6⟩:=hf b hb
  exact⟨h4,h2,h5,h6⟩
 ·refine I.loose (Nat.le_succ _) ?_
  rw [zat (Nat.succ_ne_self _)]
  exact J.free
end
section
variable {prog:Program} {w:World} {A:Around} {R:Result→Shared→Prop} {s:Shared}
theorem zcT {elt target iter:Expr} {scope:Scope} {pos:Pos} {it acc:Value} {env:Env} (I:Nat→Shared→Prop)
  (turn:∀ n s,I n s→wpAny (model prog w) A (pyNext it) (fun r s₁=>match r with
   | none=>R (.ok .next) s₁
   | some v=>wpAny (model prog w) A (letOwnedTupleGo target it v) (fun _ s₂=>wpAny (model prog w) A (assign target env v) (fun _ s₃=>wpAny (model prog w) A (eval elt env) (fun x s₄ =>
     wpAny (model prog w) A (call (.builtin "list.append") [acc,x]) (fun _ s₅=>∃ m,m < n∧I m s₅) (fun _ _=>False) s₄) (fun _ _=>False) s₃) (fun _ _=>False) s₂) (fun _ _=>False) s₁) (fun _ _=>False) s)
  (n:Nat) (h:I n s):codeAny (model prog w) A (.compLoop (.ListComp elt [⟨target,iter,[],0⟩] scope pos) 0 it acc env) R s:=by
 refine codeAny_loop rfl I (fun n s hI=>?_) n h
 show wpAny _ _ ((compTurn (.ListComp elt [⟨target,iter,[],0⟩] scope pos) 0 it acc env).onRaise (fun x=>do noteFrame x env;theTreesLotGoes x)) _ _ s
 refine wpAny_noted ?_
 rw [compTurn_list1]
 refine wpAny_bind (wpAny_standAt (wpAny_bind (wpAny_mono (turn n s hI) (fun r s₁ h₁=>?_) fun _ _ h'=>h'.elim)))
 cases r with
 | none=>exact wpAny_pure h₁
 | some v =>
  refine wpAny_bind (wpAny_mono h₁ (fun _ s₂ h₂=>?_) fun _ _ h'=>h'.elim)
  exact wpAny_bind (wpAny_mono h₂ (fun _ s₃ h₃=>wpAny_bind (wpAny_bind (wpAny_mono h₃ (fun x s₄ h₄=>wpAny_bind (wpAny_mono h₄
   (fun _ s₅ h₅=>wpAny_pure (wpAny_pure ⟨rfl,h₅⟩)) fun _ _ h'=>h'.elim)) fun _ _ h'=>h'.elim))) fun _ _ h'=>h'.elim)
end
def zm4 (ix:List (Option Nat)) (wi:TI) (g:TG) (te:TE):TE:=fun σ H Q=>wi σ H fun J H1=>∃ W:Nat→Nat→List V→St→Hp→Prop,(∃ m,W 0 m [] (inner ix σ) H1) ∧
 ∀ i m acc σ' H',W i m acc σ' H'→acc.length≤sizeLine∧((J.stop i H'∧∀ p,H' p=none→Q (.ref p) (upd H' p (.lst acc))) ∨
  (J.go i H'∧∀ x H2,J.yld i H' x H2→g x σ' H2 fun σ2 H3=>te σ2 H3 fun v H4=>∃ m',m' < m∧W (i + 1) m' (acc ++ [v]) σ2 H4))
section
variable {X:Cx} {elt tg iter:Expr} {scope:Scope} {pos:Pos} {wi:TI} {g:TG} {te:TE} {N':List Str} {ix:List (Option Nat)}
theorem zk6 (B:Blk X.env scope) (hix:ixOk X.N N' scope ix=true) (hc:X.calm=true) (hi:PI X tg iter wi)
  (hg:∀ C s₂ H₂ fp pn,PG (cxB X N' scope C s₂ H₂ fp pn) tg g) (he:∀ C s₂ H₂ fp pn,PE (cxB X N' scope C s₂ H₂ fp pn) elt te) (hs:∀ x,foldedSetIterable iter X.env x=pure x)
  {pins:List (Addr×Obj)} {s:Shared} {σ:St} {H:Hp} {Q:VK} (I:Inv X pins σ H s) (h:zm4 ix wi g te σ H Q) (use:Option (Value→Sem Unit)) (QQ:Value→Shared→Prop)
  (hU:∀ D C H' acc s',Inv X pins σ (upd H' D (.lst acc)) s'→Loose X pins (upd H' D (.lst acc)) C→(∃ m,s'.heap.Ns C m)→Q (.ref D) (upd H' D (.lst acc))→compPost (model X.prog X.w) X.A X.xe use QQ (.ref D) C (.ok .next) s') :
  wpAny (model X.prog X.w) X.A (comprehension (.ListComp elt [⟨tg,iter,[],0⟩] scope pos) scope X.env (firstIterPos [⟨tg,iter,[],0⟩] pos) (newList []) false (eval iter X.env) use) QQ X.xe s:=by
 refine wpAny_comprehension_free rfl hs (zmj B I) B.kind (fun x hx hl=>?_) ?_
 ·obtain⟨n,k⟩:=x
  have hl':k=.local:=hl
  subst hl'
  exact zbb B.nd hx
 refine thn (hi pins s σ H _ I h) fun v s1 h1=>thn h1 fun itv s2 h2=>?_
 obtain⟨it,fp,tn,J,H2,e,I2,T,st2,f2,W,⟨m0,w0⟩,turn⟩:=h2
 subst e
 have hfl:∀ b∈fp,b < s2.heap.objs.size:=fun b hb=>by
  obtain⟨o,e,_⟩:=T.obj _ _ st2 b hb
  exact Heap.lt_size e
 refine wpAny_newObj_type ?_
 refine zfq ?_
 have e1:(s2.heap.push { cls:=.type "list", dict:=none,data:=.seq ([]:List Value).toArray }).objs.size=s2.heap.objs.size + 1:=Heap.size_push ..
 show codeAny (model X.prog X.w) X.A (.compStart (.ListComp elt [⟨tg,iter,[],0⟩] scope pos) 0 (.ref it) (.ref s2.heap.objs.size) (ziK X.env scope (s2.heap.push { cls:=.type "list", dict:=none,data:=.seq ([]:List Value).toArray }).objs.size))
  (compPost (model X.prog X.w) X.A X.xe use QQ (.ref s2.heap.objs.size) (s2.heap.push { cls:=.type "list", dict:=none,data:=.seq ([]:List Value).toArray }).objs.size) { s2 with heap:=zbQ s2.heap scope }
 rw [e1]
 have old:∀ b o,s2.heap.get? b=some o→(zbQ s2.heap scope).get? b=some o:=fun b o e=>zdh e
 have hst4:tn 0 (zbQ s2.heap scope):=T.keep _ _ _ st2 fun b _ o e=>old b o e
 have hD4:(zbQ s2.heap scope).get? s2.heap.objs.size=some { cls:=.type "list", data:=.seq ([]:List Value).toArray }:=
  pushCells_keeps _ _ _ _ (Heap.get?_push_of_some _ (Heap.get?_push_size _ rfl))
 have hD2:H2 s2.heap.objs.size=none:=I2.hok.fresh (Nat.le_refl _)
 have cellNe:∀ x c,(ziK X.env scope (s2.heap.objs.size + 1)).cells.lookup x=some c→c≠s2.heap.objs.size:=fun x c h=>by
  rcases zd3 B I2 (PySem.mem_of_lookup h) with ⟨h1,_⟩ | ⟨h1,_⟩
  ·exact Nat.ne_of_lt (I2.cell_lt h1)
  ·have h1':s2.heap.objs.size + 1 + 1≤c:=h1
   exact Nat.ne_of_gt (Nat.lt_of_lt_of_le (Nat.lt_succ_of_lt (Nat.lt_succ_self _)) h1')
 have pinNe:∀ p∈X.pn ++ pins,p.1≠s2.heap.objs.size:=fun p hp=>Nat.ne_of_lt (Heap.lt_size (I2.pin p hp).1)
 have stat:∀ {H':Hp} {o:Obj},(∀ b∈fp,H' b=none)→∀ b∈fp,FpOk (cxB X N' scope (s2.heap.objs.size + 1) s2 H2 fp (X.pn ++ pins)) [(s2.heap.objs.size,o)] H' b:=fun {H' o} hn b hb=>by
  obtain⟨_,h2,h3,h4,h5,h6⟩:=f2 b hb
  have hlt:=hfl b hb
  refine ⟨hn b hb,(by show b≠s2.heap.objs.size + 1;exact Nat.ne_of_lt (Nat.lt_succ_of_lt hlt)),fun hm=>?_,.inl hb,fun x c h=>((zmU B I2 rfl f2 hfl).exf b hb).2 x c h,fun p hp=>?_⟩
  ·rcases List.mem_cons.mp (I2.stkSub b hm) with z | z
   ·exact h2 z
   ·exact h3 z
  ·rcases List.mem_append.mp hp with hp | hp
   ·exact h6 p hp
   ·rw [List.mem_singleton.mp hp]
    show s2.heap.objs.size≠b
    exact Nat.ne_of_gt hlt
 have pinD:∀ {σ':St} {H':Hp} {s':Shared} {o:Obj},Inv (cxB X N' scope (s2.heap.objs.size + 1) s2 H2 fp (X.pn ++ pins)) [] σ' H' s'→s'.heap.get? s2.heap.objs.size=some o→(∀ v,o.data≠.cell v)→H' s2.heap.objs.size=none →
   Inv (cxB X N' scope (s2.heap.objs.size + 1) s2 H2 fp (X.pn ++ pins)) [(s2.heap.objs.size,o)] σ' H' s':=fun {σ' H' s' o} J ho hd hn=>J.pins_of fun p hp=>by
  rw [List.mem_singleton.mp hp]
  refine ⟨ho,hn,by show s2.heap.objs.size≠s2.heap.objs.size + 1;exact Nat.ne_of_lt (Nat.lt_succ_self _),fun hm=>?_,hd⟩
  exact absurd (I2.stk_lt hm) (Nat.lt_irrefl _)
 have loop:codeAny (model X.prog X.w) X.A (.compLoop (.ListComp elt [⟨tg,iter,[],0⟩] scope pos) 0 (.ref it) (.ref s2.heap.objs.size) (ziK X.env scope (s2.heap.objs.size + 1)))
   (compPost (model X.prog X.w) X.A X.xe use QQ (.ref s2.heap.objs.size) (s2.heap.objs.size + 1)) { s2 with heap:=zbQ s2.heap scope }:=by
  refine zcT (fun n s'=>∃ i σ' H' acc its k,Inv (cxB X N' scope (s2.heap.objs.size + 1) s2 H2 fp (X.pn ++ pins)) [] σ' H' s'∧s'.heap.get? s2.heap.objs.size=some { cls:=.type "list", data:=.seq its k } ∧
   Vals acc its.toList∧tn i s'.heap∧(∀ b∈fp,H' b=none)∧H' s2.heap.objs.size=none∧W i n acc σ' H') ?_ m0 ⟨0,_,_,[],#[],0,zld B hix I2 f2 hfl,hD4,.nil,hst4,fun b hb=>(f2 b hb).1,hD2,w0⟩
  rintro n s3 ⟨i,σ3,H3,acc,its,k,J3,hD3,rv,st3,fr3,hn3,w3⟩
  obtain⟨hz,hor⟩:=turn i n acc σ3 H3 w3
  have J3p:=pinD J3 hD3 (fun v z=>by cases z) hn3
  rcases hor with ⟨stop,q⟩ | ⟨go,step⟩
  ·refine thn (T.done (cxB X N' scope (s2.heap.objs.size + 1) s2 H2 fp (X.pn ++ pins)) rfl rfl rfl hc i _ s3 σ3 H3 _ J3p (stat fr3) st3 stop) fun r s4 ⟨hr,J4⟩=>?_
   subst hr
   have hD4':=(J4.pin (s2.heap.objs.size,_) (List.mem_append_right _ (List.mem_singleton.mpr rfl))).1
   obtain⟨Ie,Le⟩:=znY (its:=its.toList) (k:=k) I2 f2 J4 (by simpa using hD4') rv hz hn3
   obtain⟨m,hm,_⟩:=J4.loc
   exact hU _ _ _ _ s4 Ie Le ⟨m,hm⟩ (q _ hn3)
  ·refine thn (T.item (cxB X N' scope (s2.heap.objs.size + 1) s2 H2 fp (X.pn ++ pins)) rfl rfl rfl hc i _ s3 σ3 H3 _ J3p (stat fr3) st3 go) fun r s4 ⟨u,hr,h4⟩=>?_
   subst hr
   refine thn h4 fun _ s5 ⟨x,H5,J5,r5,y5,st5,fr5⟩=>?_
   have J5':=J5.pinned (stat fr5) (T.obj _ _ st5)
   refine thn (hg _ _ _ _ _ _ s5 σ3 H5 x u _ J5' r5 (step x H5 y5)) fun _ s6 ⟨σ6,H6,J6,q6⟩=>?_
   refine thn (he _ _ _ _ _ _ s6 σ6 H6 _ J6 q6) fun v s7 ⟨y,H7,J7,r7,m',hm',w7⟩=>?_
   have hD7:=J7.pin (s2.heap.objs.size,{ cls:=.type "list", data:=.seq its k }) (List.mem_append_right _ (List.mem_append_left _ (List.mem_singleton.mpr rfl)))
   have J7u:Inv (cxB X N' scope (s2.heap.objs.size + 1) s2 H2 fp (X.pn ++ pins)) [] σ6 H7 s7:=J7.pins_of fun p hp=>by cases hp
   have st7:tn (i + 1) s7.heap:=T.keep _ _ _ st5 fun b hb o e=>(J7.pin (b,o) (List.mem_append_right _ (List.mem_append_right _ (zcF hb e)))).1
   have fr7:∀ b∈fp,H7 b=none:=fun b hb=>by
    obtain⟨o,e,d⟩:=T.obj _ _ st5 b hb
    exact (J7.pin (b,o) (List.mem_append_right _ (List.mem_append_right _ (zcF hb e)))).2.1
   have hlen:=rv.length
   refine wpAny_list_append_plain (l:=s2.heap.objs.size) (items:=its) ⟨k,hD7.1⟩ (fun h' ⟨k',hp'⟩ hs'=>?_) (by simp only [Array.length_toList] at hlen;lia)
   refine ⟨m',hm',i + 1,σ6,H7,acc ++ [y],its.push v,k',?_,hp',?_,?_,fr7,hD7.2.1,w7⟩
   ·exact J7u.turned (t':=s7.toks) (it:=s2.heap.objs.size) (fun b o hb e=>(hs'.2 b hb).trans e) hD7.2.1 (by show s2.heap.objs.size≠s2.heap.objs.size + 1;exact Nat.ne_of_lt (Nat.lt_succ_self _)) (.inr (Nat.le_refl _)) cellNe
     fun p hp=>pinNe p (by have hp':p∈(X.pn ++ pins) ++ []:=hp;rw [List.append_nil] at hp';exact hp')
   ·rw [Array.toList_push]
    exact rv.append (.cons r7 .nil)
   ·exact T.keep _ _ _ st7 fun b hb o e=>(hs'.2 b (Nat.ne_of_lt (hfl b hb))).trans e
 exact codeAny_compStart_list loop (T.self _ _ _ _ _ hst4 loop)
theorem znu (B:Blk X.env scope) (hix:ixOk X.N N' scope ix=true) (hc:X.calm=true) (hi:PI X tg iter wi)
  (hg:∀ C s₂ H₂ fp pn,PG (cxB X N' scope C s₂ H₂ fp pn) tg g) (he:∀ C s₂ H₂ fp pn,PE (cxB X N' scope C s₂ H₂ fp pn) elt te) (hs:∀ x,foldedSetIterable iter X.env x=pure x:=by intro _;rfl) :
  PE X (.ListComp elt [⟨tg,iter,[],0⟩] scope pos) (zm4 ix wi g te):=by
 intro pins s σ H Q I h
 rw [eval_ListComp]
 refine zk6 B hix hc hi hg he hs I h none (EP X pins σ Q) fun D C H' acc s' I' L hm q=>?_
 obtain⟨m,hm⟩:=hm
 exact⟨m,hm,fun h' hs'=>⟨.ref D,_,I'.loosed L hs',rfl,q⟩⟩
end
end L2
namespace L2
open PySem PySem.Spec PyProof.Rows
section
variable {P:Program} {w:World} {H H':Hp} {h h':Heap} {a:Addr} {o:HO}
theorem zbS.stands (x:zbS P w H h a o):∃ ob,h.get? a=some ob:=by
 cases o with
 | lst xs=>exact let ⟨_,_,_,_,e⟩:=x;⟨_,e⟩
 | tup xs=>exact let ⟨_,_,_,o,e,_⟩:=x;⟨o,e⟩
 | dK kvs=>exact let ⟨_,_,_,_,o,_,_,e,_⟩:=x;⟨o,e⟩
 | dT kvs=>exact let ⟨_,_,_,_,o,_,_,e,_⟩:=x;⟨o,e⟩
 | set S n=>exact let ⟨o,_,_,_,e,_⟩:=x;⟨o,e⟩
 | ins C dx fs=>exact let ⟨_,_,_,e,_⟩:=x;⟨_,e⟩
 | own y=>exact x
 | xd fs=>exact let ⟨_,⟨o,_,_,e,_⟩,_⟩:=x;⟨o,e⟩
 | rng lo hi=>exact let ⟨_,_,_,e⟩:=x;⟨_,e⟩
 | frz ob u=>exact⟨ob,x.1⟩
 | tbl ps=>exact⟨_,x⟩
 | met f y=>exact⟨_,x⟩
 | ext φ=>exact x.2.1
theorem HOk.kept_on (x:HOk P w H h) (k:∀ b u,(∃ o,H b=some o)→h.get? b=some u→h'.get? b=some u):HOk P w H h':=fun a o e =>
 (x a o e).stay (fun b u q z=>k b u (q.elim (fun q=>⟨o,q ▸ e⟩) fun q=>⟨_,q⟩) z) (fun _ q=>q) fun _ _ q=>q
theorem HOk.gone (x:HOk P w H h) (e:h.get? a=none):H a=none:=by
 cases q:H a with
 | none=>rfl
 | some o =>
  obtain⟨ob,z⟩:=(x a o q).stands
  rw [e] at z
  cases z
end
structure Fly (P:Program) (w:World) (fr:List Env) (H:Hp) (s:Shared) (H':Hp) (C a:Addr) (s':Shared):Prop where
 os:s'.os=s.os
 bare:AllBare s'.gens
 un:Un (frs fr) [] H H' s.heap s'.heap
 hok:HOk P w H' s'.heap
 new:s.heap.get? a=none
 free:H' a=none
 fly:∃ B t,Heap.FlyingW B fr a (.ref C) (.ref t) s'.heap∧(∀ b o,H' b=some o→∃ ob,B.get? b=some ob) ∧
  (∀ b o,s.heap.get? b=some o→H b=none→b∉frs fr→B.get? b=some o)∧(∀ b o,s.heap.get? b=some o→b∉frs fr→∃ ob,B.get? b=some ob)
noncomputable def CXe (P:Program) (w:World):CXT:=fun outer H s E e s'=>∃ H' C a,e=.ref a∧Fly P w outer H s H' C a s'∧E (.ref C) none H'
section
variable {X:Cx} {pins:List (Addr×Obj)} {σ:St} {H H':Hp} {s s':Shared} {C a:Addr} {M:Model} {A:Around} {E:Value→Shared→Prop}
theorem zex {B h:Heap} {l:List Env} (F:h.FunFrames B l) {b:Addr} (hb:b∈frs l):∃ o,h.get? b=some o∧∀ vs,o.data≠.fields vs:=(F.mem hb).2
theorem Fly.moved (I:Inv X pins σ H s) (F:Fly X.prog X.w X.stack H s H' C a s') {B h2:Heap} (fr':s'.heap.FunFrames B X.stack) (st:B.StaysIn h2) (sB:B.StaysIn s'.heap) (sm:s'.heap.UpToSlots h2)
  (k1:∀ b o,H' b=some o→∃ ob,B.get? b=some ob)
  (k2:∀ b o,s.heap.get? b=some o→H b=none→b∉frs X.stack→B.get? b=some o) (k3:∀ b o,s.heap.get? b=some o→b∉frs X.stack→∃ ob,B.get? b=some ob):Inv X pins σ H' { s' with heap:=h2 }:=by
 have slots:∀ b∈frs X.stack,∀ o,s'.heap.get? b=some o→∃ sl,h2.get? b=some { o with slots:=sl }:=fun b hb o e=>by
  obtain⟨o',e',d⟩:=zex fr' hb
  rw [e] at e'
  cases e'
  exact sm b o e d
 refine I.call' (s':={ s' with heap:=h2 }) (ch:=[]) F.os ⟨fun b o e n nf _=>st b o (k2 b o e n nf),fun b o e n hf hx=>?_,F.un.free,fun b o e hx=>?_,F.un.tups,F.un.frzs,F.un.tbls⟩ ?_ F.bare (fun b hb=>nomatch hb)
 ·obtain⟨sl,e1⟩:=F.un.slot b o e n hf hx
  obtain⟨sl',e2⟩:=slots b hf _ e1
  exact⟨sl',e2⟩
 ·by_cases hf:b∈frs X.stack
  ·obtain⟨o1,e1⟩:=F.un.there b o e hx
   obtain⟨sl',e2⟩:=slots b hf _ e1
   exact⟨_,e2⟩
  ·obtain⟨ob,z⟩:=k3 b o e hf
   exact⟨ob,st _ _ z⟩
 ·refine F.hok.kept_on fun b u ⟨o,q⟩ e=>?_
  obtain⟨ob,z⟩:=k1 b o q
  have:=sB b ob z
  rw [e] at this
  cases this
  exact st b _ z
theorem Fly.outer (I:Inv X pins σ H s) (J:Inv X pins σ H' s') (hx:X.ex=[]) (hs:X.stack=X.env :: X.outer) (hf:X.env.frame=some X.env.locals) (new:s.heap.get? a=none) (free:H' a=none) {B:Heap} {t:Addr}
  (fl:Heap.FlyingW B X.outer a (.ref C) (.ref t) s'.heap) (k1:∀ b o,H' b=some o→∃ ob,B.get? b=some ob)
  (k2:∀ b o,s.heap.get? b=some o→H b=none→b∉frs X.stack→B.get? b=some o) (k3:∀ b o,s.heap.get? b=some o→b∉frs X.stack→∃ ob,B.get? b=some ob) :
  Fly X.prog X.w X.outer X.H₀ X.s₀ H' C a s':=by
 have nx:∀ b,b∉X.ex:=fun b hb=>by rw [hx] at hb;cases hb
 have ns:∀ b o,X.s₀.heap.get? b=some o→b∉frs X.outer→b∉frs X.stack:=fun b o e n q=>by
  have z:frs X.stack=X.env.locals :: frs X.outer:=by rw [hs];unfold frs;rw [List.filterMap_cons,hf]
  rw [z] at q
  rcases List.mem_cons.mp q with q | q
  ·have h1:=Heap.lt_size e
   rw [q] at h1
   exact absurd (Nat.lt_of_lt_of_le h1 I.ok.above) (Nat.lt_irrefl _)
  ·exact n q
 refine ⟨J.os,J.bare,by have:=J.base;rw [hx] at this;exact this,J.hok,?_,free,B,t,fl,k1,fun b o e n nf=>?_,fun b o e nf=>?_⟩
 ·cases q:X.s₀.heap.get? a with
  | none=>rfl
  | some o =>
   obtain⟨o',z⟩:=I.base.there a o q (nx a)
   rw [new] at z
   cases z
 ·exact k2 b o (I.base.keep b o e n nf (nx b)) (I.base.free b o e n (nx b)) (ns b o e nf)
 ·obtain⟨o',z⟩:=I.base.there b o e (nx b)
  exact k3 b o' z (ns b o e nf)
theorem Fly.leave {Q:Unit→Shared→Prop} (I:Inv X pins σ H s) (hx:X.ex=[]) (hs:X.stack=X.env :: X.outer) (hf:X.env.frame=some X.env.locals) (F:Fly X.prog X.w X.stack H s H' C a s') (hA:A.frames=some X.stack)
  (k:∀ s2,Fly X.prog X.w X.outer X.H₀ X.s₀ H' C a s2→Q () s2):wpAny M A (leaving X.env (.ref a)) Q E s':=by
 obtain⟨B,t,fl,k1,k2,k3⟩:=F.fly
 have fl':Heap.FlyingW B (X.env :: X.outer) a (.ref C) (.ref t) s'.heap:=hs ▸ fl
 refine wpAny_leaves_onW (hA.trans (congrArg some hs)) hf fl' fun h2 fl2 sm=>k _ ?_
 exact Fly.outer I (F.moved I fl.2.2.1 fl2.1 fl.1 sm k1 k2 k3) hx hs hf F.new F.free fl2 k1 k2 k3
theorem Fly.made {Q:Unit→Shared→Prop} {h1:Heap} {args:List Value} (I:Inv X pins σ H s) (hx:X.ex=[]) (hs:X.stack=X.env :: X.outer) (hf:X.env.frame=some X.env.locals) (mk:Heap.MadeExcOf s.heap h1 a (.ref C) args) (hA:A.frames=some X.stack)
  (k:∀ s2,Fly X.prog X.w X.outer X.H₀ X.s₀ H C a s2→Q () s2):wpAny M A (leaving X.env (.ref a)) Q E { s with heap:=h1 }:=by
 have fs0:s.heap.FunFrames X.base X.stack:=I.stack
 have mem:∀ e∈X.stack,∀ b,e.frame=some b→b∈frs X.stack:=fun e he b hb=>List.mem_filterMap.mpr ⟨e,he,hb⟩
 have fs1:s.heap.FunFrames (PySem.W.hideAll s.heap (frs X.stack)) X.stack:=PySem.W.funFrames_hide fs0 mem
 have sB:(PySem.W.hideAll s.heap (frs X.stack)).StaysIn s.heap:=fun b o e=>PySem.W.of_hideAll _ e
 have free:H a=none:=I.hok.gone mk.new
 have k2:∀ b o,s.heap.get? b=some o→b∉frs X.stack→(PySem.W.hideAll s.heap (frs X.stack)).get? b=some o:=fun b o e n=>PySem.W.hideAll_get _ e n
 have k1:∀ b o,H b=some o→∃ ob,(PySem.W.hideAll s.heap (frs X.stack)).get? b=some ob:=fun b o q=>by
  obtain⟨ob,z⟩:=(I.hok b o q).stands
  exact⟨ob,k2 b ob z fun hb=>by rw [I.stkFree b hb] at q;cases q⟩
 refine wpAny_leaves_madeW (base:=PySem.W.hideAll s.heap (frs X.stack)) (h:=s.heap) (hA.trans (congrArg some hs)) hf sB (hs ▸ fs1) mk fun h2 t fl2 _ _ sm=>k _ ?_
 have slots:∀ b∈frs X.stack,∀ o,s.heap.get? b=some o→∃ sl,h2.get? b=some { o with slots:=sl }:=fun b hb o e=>by
  obtain⟨o',e',d⟩:=zex fs0 hb
  rw [e] at e'
  cases e'
  exact sm b o (mk.keeps b o e) d
 have J:Inv X pins σ H { s with heap:=h2 }:=by
  refine I.call' (s':={ s with heap:=h2 }) (ch:=[]) rfl ⟨fun b o e n nf _=>fl2.1 b o (k2 b o e nf),fun b o e n hb hx=>slots b hb o e,fun b o e n _=>n,fun b o e hx=>?_,fun _ _ q=>q,fun _ _ _ q=>q,fun b ps q=>⟨#[],by rw [Array.append_empty];exact q⟩⟩ ?_ I.bare (fun b hb=>nomatch hb)
  ·by_cases hb:b∈frs X.stack
   ·obtain⟨sl,z⟩:=slots b hb o e
    exact⟨_,z⟩
   ·exact⟨o,fl2.1 b o (k2 b o e hb)⟩
  ·refine I.hok.kept_on fun b u ⟨o,q⟩ e=>fl2.1 b u (k2 b u e fun hb=>?_)
   rw [I.stkFree b hb] at q
   cases q
 exact Fly.outer (s':={ s with heap:=h2 }) I J hx hs hf mk.new free fl2 k1 (fun b o e _ nf=>k2 b o e nf) fun b o e nf=>⟨o,k2 b o e nf⟩
end
end L2
namespace L2
open PySem PySem.Spec PyProof.Rows
section
variable {P:Program} {w:World} {K:PySem.W.Frag} {mg:Str→Option Value} {base:Heap}
theorem zbq {N:List Str} {qual:Str} {scope:Scope} {f:Addr} {cd:Value} {A:Around} {outer:List Env} {s:Shared} {H:Hp} {E:XK}:zgL (CXe P w) (cxOf (CXe P w) P w K mg base N qual scope f cd A outer s H E) E:=by
 intro pins σ H1 s1 e s' I h
 obtain⟨H',C,a,he,F,hE⟩:=h
 subst he
 exact Fly.leave I rfl rfl rfl F I.ok.frames fun s2 F2=>⟨H',C,a,rfl,F2,hE⟩
def zlr (X:Cx) (E:XK):Prop:=∀ (pins:List (Addr×Obj)) (σ:St) (H:Hp) (s:Shared) (C a:Addr) (args:List Value) (h1:Heap),Inv X pins σ H s→Heap.MadeExcOf s.heap h1 a (.ref C) args→E (.ref C) none H→X.xe (.ref a) { s with heap:=h1 }
theorem zg1 {N:List Str} {qual:Str} {scope:Scope} {f:Addr} {cd:Value} {A:Around} {outer:List Env} {s:Shared} {H:Hp} {E:XK}:zlr (cxOf (CXe P w) P w K mg base N qual scope f cd A outer s H E) E:=by
 intro pins σ H1 s1 C a args h1 I mk hE
 exact Fly.made I rfl rfl rfl mk I.ok.frames fun s2 F2=>⟨H1,C,a,rfl,F2,hE⟩
theorem ownE {N:List Str} {qual:Str} {scope:Scope} {f:Addr} {cd:Value} {A:Around} {outer:List Env} {s:Shared} {H:Hp} {E:XK} :
  PassesOwn (model P w) (cxOf (CXe P w) P w K mg base N qual scope f cd A outer s H E).A (cxOf (CXe P w) P w K mg base N qual scope f cd A outer s H E).env (cxOf (CXe P w) P w K mg base N qual scope f cd A outer s H E).xe:=
 PassesOwn.leaving (Q₁:=fun e s''=>CXe P w outer H s E e s'') (E₁:=fun e' s''=>CXe P w outer H s E e' s'')
theorem Fun.okE {x qual:Str} {st:Stmt} {f:Addr} {fd:FuncData} {N ps:List Str} {k:Nat} {sp:Sp} (F:Fun K x qual st f fd) (S:FnScope N ps (defScope st)) (len:∀ vs H Q E,sp vs H Q E→vs.length=ps.length)
  (hbody:∀ (cdv:Value) (A:Around) (outer:List Env) (s:Shared) (H:Hp) (vs:List V) (Q:VK) (E:XK),Room k (A.deeper (envOfC qual (defScope st) s.heap.objs.size f cdv))→sp vs H Q E →
   ∃ t,PSs (cxOf (CXe P w) P w K mg base N qual (defScope st) f cdv A outer s H E) (defBody st) t∧t { nx:=fun _ H'=>Q .non H',rt:=Q } (start N vs) H):FnOk P w K mg base (CXe P w) (k + 1) f fd ps sp:=by
 obtain⟨oc,od,kV,doc,pm,an,cdv,ct,osl,rfl,lk,hcd⟩:=F.ex
 exact zrj lk hcd S len fun A outer s H vs Q E hr hsp=>hbody cdv A outer s H vs Q E hr hsp
end
theorem zpH {K:PySem.W.Frag} {h:Heap} {C:Addr} {bmB:List Value} {newId:String} (X:K.In h) (q:PySem.W.excIn K C bmB newId=true) :
  ∃ bm N nm qn bs hd sn sub ab col dd k0 k1 k2 k3 k5 mN,h.get? C=some (excClassObj nm qn C N bs bm hd sn sub ab col dd k0 k1 k2 k3 k5 newId)∧h.Ns N mN∧mN "__init__" = none∧OwnTail h bmB bm:=by
 unfold PySem.W.excIn at q
 split at q
 case h_2=>exact nomatch q
 case h_1 dd cd sl ho =>
  have hc:=X _ _ ho
  split at q
  case h_2=>exact nomatch q
  case h_1 C' bm k0 k1 k2 k3 n k5 hm hs =>
   rw [Bool.and_eq_true,Bool.and_eq_true,Bool.and_eq_true,Bool.and_eq_true,Bool.and_eq_true] at q
   obtain⟨⟨⟨⟨⟨q1,q2⟩,q3⟩,q4⟩,q5⟩,q6⟩:=q
   replace q1:=eq_of_beq q1
   replace q2:=eq_of_beq q2
   replace q6:=eq_of_beq q6
   replace q3:cd.hasDel=false:=by simpa using q3
   subst q1 q2
   have es:sl = #[k0,k1,k2,k3,some (.builtin n),k5]:=Array.ext' (by rw [hs])
   subst es
   cases cd
   dsimp only at hm q3 q5 q6 hc
   subst hm q3
   exact⟨bm,_,_,_,_,_,_,_,_,_,dd,k0,k1,k2,k3,k5,_,hc,.of_isNs (PySem.W.isNs_of_in X q5),PySem.W.nsMap_none_of_in X q5 q6,PySem.W.tail_of_in X q4⟩
def zoC (C:Addr) (E:XK) (ta:TA):TS:=fun _ σ H=>ta σ H fun xs H1=>xs.length≤sizeLine∧E (.ref C) none H1
theorem zlK {X:Cx} {E:XK} {x:Str} {C:Addr} {bmB:List Value} {B newId initId:String} {e:Expr} {ta:TA} {np cpos pos:Pos} (F:ExcBaseFacts B newId initId bmB) (hR:zlr X E) (hh:X.A.handled=none) (hg:Gl X x) (hm:X.mg x=some (.ref C))
  (hc:PySem.W.excIn X.K C bmB newId=true) (ha:PA X [e] ta) (hb:bmB.contains (.type "BaseException")=true:=by decide +kernel) (hdb:(x == ("__debug__" : Str))=false:=by decide)
  (he:starEach [e] X.env=[(false,eval e X.env)]:=by rfl):PS X (.Raise (some (.Call (.Name x np) [e] [] cpos)) none pos) (zoC C E ta):=by
 intro pins s σ H D I h
 obtain⟨bm,N,nm,qn,bs,hd,sn,sub,ab,col,dd,k0,k1,k2,k3,k5,mN,o1,o2,o3,o4⟩:=zpH I.mod.kin hc
 have p:=ha cpos pins s σ H (fun xs H1=>xs.length≤sizeLine∧E (.ref C) none H1) I h
 refine wpAny_Raise_call_subT (nm:=nm) (q:=qn) (N:=N) (bs:=bs) (bm:=bm) (hdct:=hd) (sn:=sn) (sub:=sub) (ab:=ab) (col:=col) (dd:=dd) (k0:=k0) (k1:=k1) (k2:=k2) (k3:=k3) (k5:=k5) F (o4.hasType hb) hh (by rw [he];rfl) o3 (zhf I hg hm ⟨rfl,?_⟩ hdb)
 rw [he] at p ⊢
 refine Calls.evalArgs_plain (thn p fun us s2 ⟨vs,H1,J,r,l,q⟩=>⟨rfl,?_,J.bk _ _ o1,o2.keeps J.bk,o4.keeps J.bk,fun h1 a mk=>hR pins σ H1 s2 C a us h1 J mk q⟩)
 rw [← r.length]
 exact l
end L2
namespace L2
open PySem PySem.Spec PyProof.Rows
section
variable {X:Cx} {pins:List (Addr×Obj)} {σ:St} {H H':Hp} {s s' s3:Shared} {C a:Addr} {M:Model} {A:Around} {E:Value→Shared→Prop}
end
end L2
namespace TL
open PySem PySem.Spec PyProof.Rows L2
inductive T where
 | sc (v:V)
 | scr (ns:List Int)
 | lst (xs:List T)
 | tup (xs:List T)
inductive Md where
 | al | sp | fu
 deriving DecidableEq
def Scr (K:PySem.W.Frag) (H:Hp) (a:Addr) (ns:List Int):Prop:=
 (∃ o,H a=some (.frz o (.lst (ns.map V.int)))) ∨
  ∃ (o:Obj) (its:Array Value) (n:Nat),K.lookup a=some o∧o.cls=.type "list" ∧ o.dict=none∧o.data=.seq its n∧its.size≤sizeLine∧Vals (ns.map V.int) its.toList
theorem Scr.sq {K:PySem.W.Frag} {H:Hp} {a:Addr} {ns:List Int} (h:Scr K H a ns):SqL K H a (ns.map V.int):=h.elim (fun q=>.inl (.inr q)) .inr
section
variable (K:PySem.W.Frag) (H:Hp) (S:Addr→Prop)
mutual
noncomputable def Den:T→Md→List Addr→V→Prop
 | .sc w,_,A,v=>A=[]∧v=w
 | .scr ns,_,A,v=>A=[]∧∃ a,v=.ref a∧Scr K H a ns
 | .lst ts,.al,A,v=>A=[]∧∃ a vs,v=.ref a∧S a∧H a=some (.lst vs)∧Dens ts .al [] vs
 | .lst ts,.sp,A,v=>∃ a vs,v=.ref a∧A=[a]∧H a=some (.lst vs)∧Dens ts .al [] vs
 | .lst ts,.fu,A,v=>∃ a vs A',v=.ref a∧A=a :: A'∧H a=some (.lst vs)∧Dens ts .fu A' vs
 | .tup ts,.fu,A,v=>∃ a vs,v=.ref a∧SqT K H a vs∧Dens ts .fu A vs
 | .tup ts,.al,A,v=>A=[]∧∃ a vs,v=.ref a∧SqT K H a vs∧Dens ts .al [] vs
 | .tup ts,.sp,A,v=>A=[]∧∃ a vs,v=.ref a∧SqT K H a vs∧Dens ts .al [] vs
noncomputable def Dens:List T→Md→List Addr→List V→Prop
 | [],_,A,vs=>A=[]∧vs=[]
 | t :: ts,m,A,vs=>∃ A1 A2 v vs',A=A1 ++ A2∧vs=v :: vs'∧Den t m A1 v∧Dens ts m A2 vs'
end
end
structure Frm (K:PySem.W.Frag) (H H':Hp) (P:Addr→Prop):Prop where
 nodes:∀ b xs,P b→H b=some (.lst xs)→H' b=some (.lst xs)
 tups:∀ b xs,SqT K H b xs→SqT K H' b xs
 scrs:∀ b ns,Scr K H b ns→Scr K H' b ns
section
variable {K:PySem.W.Frag} {H H' H1 H2:Hp} {S S':Addr→Prop}
mutual
theorem Den.frm {P:Addr→Prop} (F:Frm K H H' P) (hS:∀ a,S a→P a) (hS':∀ a,S a→S' a):∀ {t:T} {m:Md} {A:List Addr} {v:V},(∀ a∈A,P a)→Den K H S t m A v→Den K H' S' t m A v
 | .sc w,m,A,v,_,h=>by unfold Den at h ⊢;exact h
 | .scr ns,m,A,v,_,h=>by unfold Den at h ⊢;obtain⟨e,a,q,r⟩:=h;exact⟨e,a,q,F.scrs _ _ r⟩
 | .lst ts,.al,A,v,_,h=>by
  unfold Den at h ⊢
  obtain⟨e,a,vs,q,s,r,d⟩:=h
  exact⟨e,a,vs,q,hS' a s,F.nodes _ _ (hS a s) r,Dens.frm F hS hS' (fun _ z=>nomatch z) d⟩
 | .lst ts,.sp,A,v,hA,h=>by
  unfold Den at h ⊢
  obtain⟨a,vs,q,e,r,d⟩:=h
  exact⟨a,vs,q,e,F.nodes _ _ (hA a (by rw [e];exact List.mem_singleton.mpr rfl)) r,Dens.frm F hS hS' (fun _ z=>nomatch z) d⟩
 | .lst ts,.fu,A,v,hA,h=>by
  unfold Den at h ⊢
  obtain⟨a,vs,A',q,e,r,d⟩:=h
  subst e
  exact⟨a,vs,A',q,rfl,F.nodes _ _ (hA a (List.mem_cons_self ..)) r,Dens.frm F hS hS' (fun b z=>hA b (List.mem_cons_of_mem _ z)) d⟩
 | .tup ts,.fu,A,v,hA,h=>by
  unfold Den at h ⊢
  obtain⟨a,vs,q,r,d⟩:=h
  exact⟨a,vs,q,F.tups _ _ r,Dens.frm F hS hS' hA d⟩
 | .tup ts,.al,A,v,hA,h=>by
  unfold Den at h ⊢
  obtain⟨e,a,vs,q,r,d⟩:=h
  exact⟨e,a,vs,q,F.tups _ _ r,Dens.frm F hS hS' (fun _ z=>nomatch z) d⟩
 | .tup ts,.sp,A,v,hA,h=>by
  unfold Den at h ⊢
  obtain⟨e,a,vs,q,r,d⟩:=h
  exact⟨e,a,vs,q,F.tups _ _ r,Dens.frm F hS hS' (fun _ z=>nomatch z) d⟩
theorem Dens.frm {P:Addr→Prop} (F:Frm K H H' P) (hS:∀ a,S a→P a) (hS':∀ a,S a→S' a):∀ {ts:List T} {m:Md} {A:List Addr} {vs:List V},(∀ a∈A,P a)→Dens K H S ts m A vs→Dens K H' S' ts m A vs
 | [],m,A,vs,_,h=>by unfold Dens at h ⊢;exact h
 | t :: ts,m,A,vs,hA,h=>by
  unfold Dens at h ⊢
  obtain⟨A1,A2,v,vs',e,q,d,r⟩:=h
  subst e
  exact⟨A1,A2,v,vs',rfl,q,Den.frm F hS hS' (fun a z=>hA a (List.mem_append_left _ z)) d,Dens.frm F hS hS' (fun a z=>hA a (List.mem_append_right _ z)) r⟩
end
theorem Scr.same {K:PySem.W.Frag} {a:Addr} {ns:List Int} (e:Same H H') (h:Scr K H a ns):Scr K H' a ns:=h.imp (fun ⟨o,q⟩=>⟨o,e _ _ q⟩) id
theorem zdU {K:PySem.W.Frag} {a:Addr} {xs:List V} (e:Same H H') (h:SqT K H a xs):SqT K H' a xs:=by
 rcases h with (h | ⟨o,h⟩) | h
 ·exact .inl (.inl (e _ _ h))
 ·exact .inl (.inr ⟨o,e _ _ h⟩)
 ·exact .inr h
theorem Frm.same (e:Same H H'):Frm K H H' fun _=>True:=⟨fun b xs _ h=>e _ _ h,fun b xs h=>zdU e h,fun b ns h=>h.same e⟩
theorem Den.mono {t:T} {m:Md} {A:List Addr} {v:V} (h:Den K H S t m A v) (e:Same H H') (hS:∀ a,S a→S' a):Den K H' S' t m A v:=Den.frm (Frm.same e) (fun _ _=>trivial) hS (fun _ _=>trivial) h
theorem Dens.mono {ts:List T} {m:Md} {A:List Addr} {vs:List V} (h:Dens K H S ts m A vs) (e:Same H H') (hS:∀ a,S a→S' a):Dens K H' S' ts m A vs:=Dens.frm (Frm.same e) (fun _ _=>trivial) hS (fun _ _=>trivial) h
theorem Den.monoS {t:T} {m:Md} {A:List Addr} {v:V} (h:Den K H S t m A v) (hS:∀ a,S a→S' a):Den K H S' t m A v:=h.mono (Same.refl _) hS
theorem Dens.monoS {ts:List T} {m:Md} {A:List Addr} {vs:List V} (h:Dens K H S ts m A vs) (hS:∀ a,S a→S' a):Dens K H S' ts m A vs:=h.mono (Same.refl _) hS
theorem Frm.upd {a:Addr} {xs:List V} {o:HO} (h:H a=some (.lst xs)):Frm K H (upd H a o) fun b=>b≠a:=
 ⟨fun b ys hb e=>by rw [zat hb];exact e,fun b ys e=>by
  rcases e with (e | ⟨o',e⟩) | e
  ·exact .inl (.inl (by rw [zat];exact e;intro z;rw [z,h] at e;cases e))
  ·exact .inl (.inr ⟨o',by rw [zat];exact e;intro z;rw [z,h] at e;cases e⟩)
  ·exact .inr e,fun b ns e=>by
  rcases e with ⟨o',e⟩ | e
  ·exact .inl ⟨o',by rw [zat];exact e;intro z;rw [z,h] at e;cases e⟩
  ·exact .inr e⟩
mutual
/-- of a thing that is wholly ours nothing is shared -/
theorem Den.fuS:∀ {t:T} {A:List Addr} {v:V},Den K H S t .fu A v→Den K H S' t .fu A v
 | .sc w,A,v,h=>by unfold Den at h ⊢;exact h
 | .scr ns,A,v,h=>by unfold Den at h ⊢;exact h
 | .lst ts,A,v,h=>by
  unfold Den at h ⊢
  obtain⟨a,vs,A',q,e,r,d⟩:=h
  exact⟨a,vs,A',q,e,r,Dens.fuS d⟩
 | .tup ts,A,v,h=>by
  unfold Den at h ⊢
  obtain⟨a,vs,q,r,d⟩:=h
  exact⟨a,vs,q,r,Dens.fuS d⟩
theorem Dens.fuS:∀ {ts:List T} {A:List Addr} {vs:List V},Dens K H S ts .fu A vs→Dens K H S' ts .fu A vs
 | [],A,vs,h=>by unfold Dens at h ⊢;exact h
 | t :: ts,A,vs,h=>by
  unfold Dens at h ⊢
  obtain⟨A1,A2,v,vs',e,q,d,r⟩:=h
  exact⟨A1,A2,v,vs',e,q,Den.fuS d,Dens.fuS r⟩
end
mutual
/-- what is ours stands -/
theorem Den.own:∀ {t:T} {m:Md} {A:List Addr} {v:V},Den K H S t m A v→∀ a∈A,∃ vs,H a=some (.lst vs)
 | .sc w,m,A,v,h,a,ha=>by unfold Den at h;rw [h.1] at ha;cases ha
 | .scr ns,m,A,v,h,a,ha=>by unfold Den at h;rw [h.1] at ha;cases ha
 | .lst ts,.al,A,v,h,a,ha=>by unfold Den at h;rw [h.1] at ha;cases ha
 | .lst ts,.sp,A,v,h,a,ha=>by
  unfold Den at h
  obtain⟨b,vs,q,e,r,d⟩:=h
  rw [e] at ha
  rw [List.mem_singleton.mp ha]
  exact⟨vs,r⟩
 | .lst ts,.fu,A,v,h,a,ha=>by
  unfold Den at h
  obtain⟨b,vs,A',q,e,r,d⟩:=h
  rw [e] at ha
  rcases List.mem_cons.mp ha with z | z
  ·rw [z];exact⟨vs,r⟩
  ·exact Dens.own d a z
 | .tup ts,.fu,A,v,h,a,ha=>by
  unfold Den at h
  obtain⟨b,vs,q,r,d⟩:=h
  exact Dens.own d a ha
 | .tup ts,.al,A,v,h,a,ha=>by unfold Den at h;rw [h.1] at ha;cases ha
 | .tup ts,.sp,A,v,h,a,ha=>by unfold Den at h;rw [h.1] at ha;cases ha
theorem Dens.own:∀ {ts:List T} {m:Md} {A:List Addr} {vs:List V},Dens K H S ts m A vs→∀ a∈A,∃ vs,H a=some (.lst vs)
 | [],m,A,vs,h,a,ha=>by unfold Dens at h;rw [h.1] at ha;cases ha
 | t :: ts,m,A,vs,h,a,ha=>by
  unfold Dens at h
  obtain⟨A1,A2,v,vs',e,q,d,r⟩:=h
  rw [e] at ha
  rcases List.mem_append.mp ha with z | z
  ·exact Den.own d a z
  ·exact Dens.own r a z
end
mutual
/-- what is ours may be shared out -/
theorem Den.out:∀ {t:T} {m:Md} {A:List Addr} {v:V},Den K H S t m A v→(∀ a,S a→S' a)→(∀ a∈A,S' a)→Den K H S' t .al [] v
 | .sc w,m,A,v,h,_,_=>by unfold Den at h ⊢;exact⟨rfl,h.2⟩
 | .scr ns,m,A,v,h,_,_=>by unfold Den at h ⊢;exact⟨rfl,h.2⟩
 | .lst ts,.al,A,v,h,k,hA=>by
  unfold Den at h ⊢
  obtain⟨e,a,vs,q,s,r,d⟩:=h
  exact⟨rfl,a,vs,q,k a s,r,d.monoS k⟩
 | .lst ts,.sp,A,v,h,k,hA=>by
  unfold Den at h ⊢
  obtain⟨a,vs,q,e,r,d⟩:=h
  exact⟨rfl,a,vs,q,hA a (by rw [e];exact List.mem_singleton.mpr rfl),r,d.monoS k⟩
 | .lst ts,.fu,A,v,h,k,hA=>by
  unfold Den at h ⊢
  obtain⟨a,vs,A',q,e,r,d⟩:=h
  subst e
  exact⟨rfl,a,vs,q,hA a (List.mem_cons_self ..),r,Dens.out d k fun b z=>hA b (List.mem_cons_of_mem _ z)⟩
 | .tup ts,.fu,A,v,h,k,hA=>by
  unfold Den at h ⊢
  obtain⟨a,vs,q,r,d⟩:=h
  exact⟨rfl,a,vs,q,r,Dens.out d k hA⟩
 | .tup ts,.al,A,v,h,k,hA=>by
  unfold Den at h ⊢
  obtain⟨e,a,vs,q,r,d⟩:=h
  exact⟨rfl,a,vs,q,r,d.monoS k⟩
 | .tup ts,.sp,A,v,h,k,hA=>by
  unfold Den at h ⊢
  obtain⟨e,a,vs,q,r,d⟩:=h
  exact⟨rfl,a,vs,q,r,d.monoS k⟩
theorem Dens.out:∀ {ts:List T} {m:Md} {A:List Addr} {vs:List V},Dens K H S ts m A vs→(∀ a,S a→S' a)→(∀ a∈A,S' a)→Dens K H S' ts .al [] vs
 | [],m,A,vs,h,_,_=>by unfold Dens at h ⊢;exact⟨rfl,h.2⟩
 | t :: ts,m,A,vs,h,k,hA=>by
  unfold Dens at h ⊢
  obtain⟨A1,A2,v,vs',e,q,d,r⟩:=h
  subst e
  exact⟨[],[],v,vs',rfl,q,Den.out d k fun a z=>hA a (List.mem_append_left _ z),Dens.out r k fun a z=>hA a (List.mem_append_right _ z)⟩
end
theorem Dens.length:∀ {ts:List T} {m:Md} {A:List Addr} {vs:List V},Dens K H S ts m A vs→vs.length=ts.length
 | [],m,A,vs,h=>by unfold Dens at h;rw [h.2];rfl
 | t :: ts,m,A,vs,h=>by
  unfold Dens at h
  obtain⟨A1,A2,v,vs',e,q,d,r⟩:=h
  rw [q,List.length_cons,List.length_cons,Dens.length r]
theorem Dens.nil {m:Md}:Dens K H S [] m [] []:=by unfold Dens;exact⟨rfl,rfl⟩
theorem Dens.cons {t:T} {ts:List T} {m:Md} {A1 A2:List Addr} {v:V} {vs:List V} (d:Den K H S t m A1 v) (r:Dens K H S ts m A2 vs):Dens K H S (t :: ts) m (A1 ++ A2) (v :: vs):=by
 unfold Dens
 exact⟨A1,A2,v,vs,rfl,rfl,d,r⟩
theorem Dens.cons0 {t:T} {ts:List T} {v:V} {vs:List V} (d:Den K H S t .al [] v) (r:Dens K H S ts .al [] vs):Dens K H S (t :: ts) .al [] (v :: vs):=Dens.cons (A1:=[]) (A2:=[]) d r
theorem Dens.append:∀ {ts us:List T} {m:Md} {A1 A2:List Addr} {vs ws:List V},Dens K H S ts m A1 vs→Dens K H S us m A2 ws→Dens K H S (ts ++ us) m (A1 ++ A2) (vs ++ ws)
 | [],us,m,A1,A2,vs,ws,h,g=>by
  unfold Dens at h
  obtain⟨rfl,rfl⟩:=h
  exact g
 | t :: ts,us,m,A1,A2,vs,ws,h,g=>by
  unfold Dens at h
  obtain⟨B1,B2,v,vs',rfl,rfl,d,r⟩:=h
  rw [List.append_assoc]
  exact Dens.cons d (Dens.append r g)
theorem Den.alA {t:T} {A:List Addr} {v:V} (h:Den K H S t .al A v):A=[]:=by
 cases t with
 | sc w=>unfold Den at h;exact h.1
 | scr ns=>unfold Den at h;exact h.1
 | lst ts=>unfold Den at h;exact h.1
 | tup ts=>unfold Den at h;exact h.1
theorem Dens.alA:∀ {ts:List T} {A:List Addr} {vs:List V},Dens K H S ts .al A vs→A=[]
 | [],A,vs,h=>by unfold Dens at h;exact h.1
 | t :: ts,A,vs,h=>by
  unfold Dens at h
  obtain⟨A1,A2,v,vs',e,q,d,r⟩:=h
  rw [e,d.alA,Dens.alA r]
  rfl
theorem Dens.get:∀ {ts:List T} {vs:List V} {i:Nat} {t:T},Dens K H S ts .al [] vs→ts[i]? = some t→∃ v,vs[i]? = some v∧Den K H S t .al [] v
 | [],vs,i,t,h,e=>by simp at e
 | u :: us,vs,i,t,h,e=>by
  unfold Dens at h
  obtain⟨A1,A2,v,vs',ea,rfl,d,r⟩:=h
  obtain⟨rfl,rfl⟩:=List.append_eq_nil_iff.mp ea.symm
  cases i with
  | zero=>simp at e;subst e;exact⟨v,rfl,d⟩
  | succ i =>
   obtain⟨w,h1,h2⟩:=Dens.get (i:=i) r (by simpa using e)
   exact⟨w,by simpa using h1,h2⟩
theorem Dens.take {ts:List T} {vs:List V} (n:Nat) (h:Dens K H S ts .al [] vs):Dens K H S (ts.take n) .al [] (vs.take n):=by
 induction n generalizing ts vs with
 | zero=>simp;exact Dens.nil
 | succ n ih =>
  cases ts with
  | nil=>unfold Dens at h;rw [h.2];simp;exact Dens.nil
  | cons t ts =>
   unfold Dens at h
   obtain⟨A1,A2,v,vs',ea,rfl,d,r⟩:=h
   obtain⟨rfl,rfl⟩:=List.append_eq_nil_iff.mp ea.symm
   rw [List.take_succ_cons,List.take_succ_cons]
   exact Dens.cons0 d (ih r)
theorem Dens.drop {ts:List T} {vs:List V} (n:Nat) (h:Dens K H S ts .al [] vs):Dens K H S (ts.drop n) .al [] (vs.drop n):=by
 induction n generalizing ts vs with
 | zero=>exact h
 | succ n ih =>
  cases ts with
  | nil=>unfold Dens at h;rw [h.2];exact Dens.nil
  | cons t ts =>
   unfold Dens at h
   obtain⟨A1,A2,v,vs',ea,rfl,d,r⟩:=h
   obtain⟨rfl,rfl⟩:=List.append_eq_nil_iff.mp ea.symm
   rw [List.drop_succ_cons,List.drop_succ_cons]
   exact ih r
theorem Dens.reverse {ts:List T} {vs:List V} (h:Dens K H S ts .al [] vs):Dens K H S ts.reverse .al [] vs.reverse:=by
 induction ts generalizing vs with
 | nil=>unfold Dens at h;rw [h.2];exact Dens.nil
 | cons t ts ih =>
  unfold Dens at h
  obtain⟨A1,A2,v,vs',ea,rfl,d,r⟩:=h
  obtain⟨rfl,rfl⟩:=List.append_eq_nil_iff.mp ea.symm
  rw [List.reverse_cons,List.reverse_cons]
  exact Dens.append (A1:=[]) (A2:=[]) (ih r) (Dens.cons0 d Dens.nil)
end
theorem zcN {K:PySem.W.Frag} {H:Hp} {S:Addr→Prop} {m:Md} (v:V):Den K H S (.sc v) m [] v:=by unfold Den;exact⟨rfl,rfl⟩
theorem zac {K:PySem.W.Frag} {H:Hp} {S:Addr→Prop} {m:Md} {w v:V} {A:List Addr}:Den K H S (.sc w) m A v↔A=[]∧v=w:=by unfold Den;exact Iff.rfl
theorem zag {K:PySem.W.Frag} {H:Hp} {S:Addr→Prop} {ts:List T} {v:V} {A:List Addr}:Den K H S (.lst ts) .al A v↔A=[]∧∃ a vs,v=.ref a∧S a∧H a=some (.lst vs)∧Dens K H S ts .al [] vs:=by conv=>lhs;unfold Den
theorem zbh {K:PySem.W.Frag} {H:Hp} {S:Addr→Prop} {ts:List T} {v:V} {A:List Addr}:Den K H S (.lst ts) .sp A v↔∃ a vs,v=.ref a∧A=[a]∧H a=some (.lst vs)∧Dens K H S ts .al [] vs:=by conv=>lhs;unfold Den
theorem zam {K:PySem.W.Frag} {H:Hp} {S:Addr→Prop} {ts:List T} {v:V} {A:List Addr}:Den K H S (.lst ts) .fu A v↔∃ a vs A',v=.ref a∧A=a :: A'∧H a=some (.lst vs)∧Dens K H S ts .fu A' vs:=by conv=>lhs;unfold Den
theorem zar {K:PySem.W.Frag} {H:Hp} {S:Addr→Prop} {ts:List T} {v:V} {A:List Addr}:Den K H S (.tup ts) .al A v↔A=[]∧∃ a vs,v=.ref a∧SqT K H a vs∧Dens K H S ts .al [] vs:=by conv=>lhs;unfold Den
theorem zhm {K:PySem.W.Frag} {H:Hp} {S:Addr→Prop} {ns:List Int} {m:Md} {v:V} {A:List Addr}:Den K H S (.scr ns) m A v↔A=[]∧∃ a,v=.ref a∧Scr K H a ns:=by conv=>lhs;unfold Den
end TL
namespace TL
open PySem PySem.Spec L2
inductive Res (α:Type) where
 | ok (a:α)
 | exc (c:Nat)
 | bad
noncomputable def Res.bind {α β:Type} (x:Res α) (f:α→Res β):Res β:=match x with
 | .ok a=>f a
 | .exc c=>.exc c
 | .bad=>.bad
@[simp] theorem Res.bind_ok {α β:Type} (a:α) (f:α→Res β):(Res.ok a).bind f=f a:=(rfl)
noncomputable def Res.of {α:Type}:Option α→Res α
 | some a=>.ok a
 | none=>.bad
@[simp] theorem Res.of_some {α:Type} (a:α):Res.of (some a)=.ok a:=(rfl)
noncomputable abbrev VEnv:=List (Option T)
noncomputable abbrev SEnv:=List (Option (Md×T))
structure Z where
 H₀:Hp
 S₀:Addr→Prop
 cl:Nat→Addr
 E:XK
def Dom (S:Addr→Prop) (H:Hp):Prop:=∀ a,S a→H a≠none
structure Grow (H:Hp) (S:Addr→Prop) (H':Hp) (S':Addr→Prop):Prop where
 same:Same H H'
 up:∀ a,S a→S' a
 new:∀ a,S' a→S a∨H a=none
 dom:Dom S' H'
theorem zaV {H H':Hp} (e:Same H H') {a:Addr} (h:H' a=none):H a=none:=e.free h
theorem zbP {H H':Hp} (e:Same H H') {a:Addr} (h:H a≠none):H' a≠none:=fun z=>h (zaV e z)
theorem Grow.refl {H:Hp} {S:Addr→Prop} (d:Dom S H):Grow H S H S:=⟨Same.refl _,fun _ h=>h,fun _ h=>.inl h,d⟩
theorem Grow.trans {H H1 H2:Hp} {S S1 S2:Addr→Prop} (a:Grow H S H1 S1) (b:Grow H1 S1 H2 S2):Grow H S H2 S2:=
 ⟨a.same.trans b.same,fun c h=>b.up c (a.up c h),fun c h=>(b.new c h).elim (fun q=>a.new c q) fun q=>.inr (zaV a.same q),b.dom⟩
structure Got (K:PySem.W.Frag) (H:Hp) (S:Addr→Prop) (H':Hp) (S':Addr→Prop) (A:List Addr) (v:V) (md:Md) (t:T):Prop where
 g:Grow H S H' S'
 nd:A.Nodup
 ow:∀ a∈A,H a=none∧¬ S' a
 den:Den K H' S' t md A v
structure Gots (K:PySem.W.Frag) (H:Hp) (S:Addr→Prop) (H':Hp) (S':Addr→Prop) (A:List Addr) (vs:List V) (md:Md) (ts:List T):Prop where
 g:Grow H S H' S'
 nd:A.Nodup
 ow:∀ a∈A,H a=none∧¬ S' a
 den:Dens K H' S' ts md A vs
section
variable {K:PySem.W.Frag} {H H' H1 H2:Hp} {S S' S1 S2:Addr→Prop} {A:List Addr} {v:V} {vs:List V} {md:Md} {t:T} {ts:List T}
theorem Got.trans (a:Grow H S H1 S1) (b:Got K H1 S1 H2 S2 A v md t):Got K H S H2 S2 A v md t:=
 ⟨a.trans b.g,b.nd,fun x hx=>⟨zaV a.same (b.ow x hx).1,(b.ow x hx).2⟩,b.den⟩
theorem Got.al (b:Got K H S H' S' A v md t):Got K H S H' (fun a=>S' a∨a∈A) [] v .al t:=
 ⟨⟨b.g.same,fun a h=>.inl (b.g.up a h),fun a h=>h.elim (b.g.new a) fun q=>.inr (b.ow a q).1,fun a h=>h.elim (b.g.dom a) fun q z=>by
  obtain⟨vs,e⟩:=b.den.own a q
  rw [z] at e;cases e⟩,List.nodup_nil,fun _ z=>(nomatch z),b.den.out (fun a h=>.inl h) fun a h=>.inr h⟩
theorem Gots.al (b:Gots K H S H' S' A vs md ts):Gots K H S H' (fun a=>S' a∨a∈A) [] vs .al ts:=
 ⟨⟨b.g.same,fun a h=>.inl (b.g.up a h),fun a h=>h.elim (b.g.new a) fun q=>.inr (b.ow a q).1,fun a h=>h.elim (b.g.dom a) fun q z=>by
  obtain⟨vs,e⟩:=b.den.own a q
  rw [z] at e;cases e⟩,List.nodup_nil,fun _ z=>(nomatch z),b.den.out (fun a h=>.inl h) fun a h=>.inr h⟩
theorem Got.sc (d:Dom S H) (v:V):Got K H S H S [] v md (.sc v):=⟨.refl d,List.nodup_nil,fun _ z=>(nomatch z),zcN v⟩
theorem Got.newSp {p:Addr} (d:Dom S H) (hp:H p=none) (h:Dens K H S ts .al [] vs):Got K H S (upd H p (.lst vs)) S [p] (.ref p) .sp (.lst ts):=by
 have sm:Same H (upd H p (.lst vs)):=fun b o e=>by rw [zat (zaA e hp)];exact e
 exact⟨⟨sm,fun _ h=>h,fun _ h=>.inl h,fun a h=>zbP sm (d a h)⟩,by simp,fun a ha=>by
  rw [List.mem_singleton.mp ha]
  exact⟨hp,fun z=>d p z hp⟩,zbh.mpr ⟨p,vs,rfl,rfl,zaB,h.mono sm fun _ h=>h⟩⟩
theorem Got.newFu {p:Addr} (g:Gots K H S H' S' A vs .fu ts) (hp:H' p=none):Got K H S (upd H' p (.lst vs)) S' (p :: A) (.ref p) .fu (.lst ts):=by
 have sm:Same H' (upd H' p (.lst vs)):=fun b o e=>by rw [zat (zaA e hp)];exact e
 have np:p∉A:=fun z=>by
  obtain⟨ws,e⟩:=g.den.own p z
  rw [hp] at e;cases e
 refine ⟨⟨g.g.same.trans sm,g.g.up,g.g.new,fun a h=>zbP sm (g.g.dom a h)⟩,List.nodup_cons.mpr ⟨np,g.nd⟩,fun a ha=>?_,zam.mpr ⟨p,vs,A,rfl,rfl,zaB,g.den.mono sm fun _ h=>h⟩⟩
 rcases List.mem_cons.mp ha with z | z
 ·rw [z];exact⟨zaV g.g.same hp,fun q=>g.g.dom p q hp⟩
 ·exact g.ow a z
theorem Gots.nil (d:Dom S H):Gots K H S H S [] [] md []:=⟨.refl d,List.nodup_nil,fun _ z=>(nomatch z),Dens.nil⟩
theorem Gots.cons {A2:List Addr} (a:Got K H S H1 S1 A v md t) (b:Gots K H1 S1 H2 S2 A2 vs md ts):Gots K H S H2 S2 (A ++ A2) (v :: vs) md (t :: ts):=by
 have dj:∀ x∈A,x∉A2:=fun x hx hy=>by
  obtain⟨ws,e⟩:=a.den.own x hx
  rw [(b.ow x hy).1] at e;cases e
 refine ⟨a.g.trans b.g,List.nodup_append.mpr ⟨a.nd,b.nd,fun x hx y hy z=>dj x hx (z ▸ hy)⟩,fun x hx=>?_,Dens.cons (a.den.mono b.g.same b.g.up) b.den⟩
 rcases List.mem_append.mp hx with z | z
 ·refine ⟨(a.ow x z).1,fun q=>?_⟩
  rcases b.g.new x q with q | q
  ·exact (a.ow x z).2 q
  ·obtain⟨ws,e⟩:=a.den.own x z
   rw [q] at e;cases e
 ·exact⟨zaV a.g.same (b.ow x z).1,(b.ow x z).2⟩
theorem Gots.snoc {A2:List Addr} (a:Gots K H S H1 S1 A vs md ts) (b:Got K H1 S1 H2 S2 A2 v md t):Gots K H S H2 S2 (A ++ A2) (vs ++ [v]) md (ts ++ [t]):=by
 have dj:∀ x∈A,x∉A2:=fun x hx hy=>by
  obtain⟨ws,e⟩:=a.den.own x hx
  rw [(b.ow x hy).1] at e;cases e
 refine ⟨a.g.trans b.g,List.nodup_append.mpr ⟨a.nd,b.nd,fun x hx y hy z=>dj x hx (z ▸ hy)⟩,fun x hx=>?_,(a.den.mono b.g.same b.g.up).append (by simpa using Dens.cons b.den Dens.nil)⟩
 rcases List.mem_append.mp hx with z | z
 ·refine ⟨(a.ow x z).1,fun q=>?_⟩
  rcases b.g.new x q with q | q
  ·exact (a.ow x z).2 q
  ·obtain⟨ws,e⟩:=a.den.own x z
   rw [q] at e;cases e
 ·exact⟨zaV a.g.same (b.ow x z).1,(b.ow x z).2⟩
end
structure OkE (K:PySem.W.Frag) (z:Z) (S:Addr→Prop) (ρ:VEnv) (σ:St) (H:Hp):Prop where
 same:Same z.H₀ H
 dom:Dom S H
 sl:∀ (i:Nat) t,ρ[i]? = some (some t)→∃ v,σ[i]? = some (some v)∧Den K H S t .al [] v
theorem OkE.grow {K:PySem.W.Frag} {z:Z} {S S':Addr→Prop} {ρ:VEnv} {σ:St} {H H':Hp} (o:OkE K z S ρ σ H) (g:Grow H S H' S'):OkE K z S' ρ σ H':=
 ⟨o.same.trans g.same,g.dom,fun i t e=>let ⟨v,h1,h2⟩:=o.sl i t e;⟨v,h1,h2.mono g.same g.up⟩⟩
noncomputable def endE (K:PySem.W.Frag) (z:Z) (H:Hp) (S:Addr→Prop) (md:Md) (Q:VK):Res T→Prop
 | .ok t=>∀ v H' S' A,Got K H S H' S' A v md t→Q v H'
 | .exc c=>∀ H',Same z.H₀ H'→z.E (.ref (z.cl c)) none H'
 | .bad=>False
noncomputable def endA (K:PySem.W.Frag) (z:Z) (H:Hp) (S:Addr→Prop) (md:Md) (Q:List V→Hp→Prop):Res (List T)→Prop
 | .ok ts=>∀ vs H' S' A,Gots K H S H' S' A vs md ts→Q vs H'
 | .exc c=>∀ H',Same z.H₀ H'→z.E (.ref (z.cl c)) none H'
 | .bad=>False
noncomputable def endB (z:Z) (H:Hp) (S:Addr→Prop) (Q:Bool→Hp→Prop):Res Bool→Prop
 | .ok b=>∀ H' S',Grow H S H' S'→Q b H'
 | .exc c=>∀ H',Same z.H₀ H'→z.E (.ref (z.cl c)) none H'
 | .bad=>False
theorem endE.grow {K:PySem.W.Frag} {z:Z} {H H1:Hp} {S S1:Addr→Prop} {md:Md} {Q:VK} {r:Res T} (g:Grow H S H1 S1) (h:endE K z H S md Q r):endE K z H1 S1 md Q r:=by
 cases r with
 | ok t=>exact fun v H2 S2 A g2=>h v H2 S2 A (g2.trans g)
 | exc c=>exact h
 | bad=>exact h
def tr (K:PySem.W.Frag) (z:Z) (md:Md) (F:VEnv→Res T):TE:=fun σ H Q=>∃ S ρ,OkE K z S ρ σ H∧endE K z H S md Q (F ρ)
def tra (K:PySem.W.Frag) (z:Z) (md:Md) (F:VEnv→Res (List T)):TA:=fun σ H Q=>∃ S ρ,OkE K z S ρ σ H∧endA K z H S md Q (F ρ)
def trb (K:PySem.W.Frag) (z:Z) (F:VEnv→Res Bool):TT:=fun σ H Q=>∃ S ρ,OkE K z S ρ σ H∧endB z H S Q (F ρ)
abbrev JE (X:Cx) (z:Z) (md:Md) (F:VEnv→Res T) (e:Expr):Prop:=PE X e (tr X.K z md F)
abbrev JA (X:Cx) (z:Z) (md:Md) (F:VEnv→Res (List T)) (es:List Expr):Prop:=PA X es (tra X.K z md F)
abbrev JT (X:Cx) (z:Z) (F:VEnv→Res Bool) (e:Expr):Prop:=PT X e (trb X.K z F)
abbrev JW (X:Cx) (z:Z) (F:VEnv→Res Bool) (e:Expr):Prop:=PW X e (trb X.K z F)
theorem PE.imp {X:Cx} {e:Expr} {t t':TE} (h:PE X e t) (k:∀ σ H Q,t' σ H Q→t σ H Q):PE X e t':=fun pins s σ H Q I q=>h pins s σ H Q I (k σ H Q q)
theorem PA.imp {X:Cx} {e:List Expr} {t t':TA} (h:PA X e t) (k:∀ σ H Q,t' σ H Q→t σ H Q):PA X e t':=fun pos pins s σ H Q I q=>h pos pins s σ H Q I (k σ H Q q)
theorem PT.imp {X:Cx} {e:Expr} {t t':TT} (h:PT X e t) (k:∀ σ H Q,t' σ H Q→t σ H Q):PT X e t':=fun pins s σ H Q I q=>h pins s σ H Q I (k σ H Q q)
theorem PW.imp {X:Cx} {e:Expr} {t t':TT} (h:PW X e t) (k:∀ σ H Q,t' σ H Q→t σ H Q):PW X e t':=fun wh pins s σ H Q I q=>h wh pins s σ H Q I (k σ H Q q)
section
variable {X:Cx} {z:Z} {md md1 md2:Md} {F F1 F2:VEnv→Res T} {e a b:Expr} {es:List Expr} {pos:Pos} {K:PySem.W.Frag}
theorem zqr {σ:St} {H:Hp} {Q:VK} (h:tr K z .al F σ H Q):tr K z md F σ H Q:=by
 obtain⟨S,ρ,o,h⟩:=h
 refine ⟨S,ρ,o,?_⟩
 cases e:F ρ with
 | ok t=>rw [e] at h;exact fun v H' S' A g=>h v H' _ [] g.al
 | exc c=>rw [e] at h;exact h
 | bad=>rw [e] at h;exact h
theorem JE.al (h:JE X z md F e):JE X z .al F e:=PE.imp h fun _ _ _=>zqr
noncomputable def isSc:T→Bool
 | .sc _=>true
 | _=>false
noncomputable def chk (x:Res T):Res T:=x.bind fun t=>if isSc t then .ok t else .bad
@[simp] theorem zrU (v:V):chk (.ok (.sc v))=.ok (.sc v):=(rfl)
theorem JE.sc (h:JE X z md F e):JE X z md1 (fun ρ=>chk (F ρ)) e:=PE.imp h fun σ H Q q=>by
 obtain⟨S,ρ,o,q⟩:=q
 refine ⟨S,ρ,o,?_⟩
 replace q:endE X.K z H S md1 Q (chk (F ρ)):=q
 cases e:F ρ with
 | ok t =>
  rw [e] at q
  cases t with
  | sc w =>
   intro v H' S' A g
   refine q v H' S' A ⟨g.g,g.nd,g.ow,?_⟩
   have:=zac.mp g.den
   exact zac.mpr this
  | scr ns=>exact (show False from q).elim
  | lst ts=>exact (show False from q).elim
  | tup ts=>exact (show False from q).elim
 | exc c=>rw [e] at q;exact q
 | bad=>rw [e] at q;exact q
theorem zdr {F1:VEnv→Res T} {G:VEnv→T→Res T} {σ:St} {H:Hp} {Q:VK} {Q1:VK} (h:tr K z md (fun ρ=>(F1 ρ).bind (G ρ)) σ H Q)
  (k:∀ S ρ t v H' S',OkE K z S' ρ σ H'→F1 ρ=.ok t→Grow H S H' S'→Den K H' S' t .al [] v→endE K z H' S' md Q (G ρ t)→Q1 v H'):tr K z .al F1 σ H Q1:=by
 obtain⟨S,ρ,o,h⟩:=h
 refine ⟨S,ρ,o,?_⟩
 replace h:endE K z H S md Q ((F1 ρ).bind (G ρ)):=h
 cases e:F1 ρ with
 | ok t =>
  rw [e] at h
  intro v H' S' A g
  obtain rfl:=g.den.alA
  exact k S ρ t v H' S' (o.grow g.g) e g.g g.den (endE.grow g.g h)
 | exc c=>rw [e] at h;exact h
 | bad=>rw [e] at h;exact h
def endT (K:PySem.W.Frag) (H:Hp) (S:Addr→Prop) (md:Md) (Q:VK) (r:Option T):Prop:=match r with
 | some t=>∀ v H' S' A,Got K H S H' S' A v md t→Q v H'
 | none=>False
def rT (K:PySem.W.Frag) (md:Md) (g:T→T→Option T):R2:=fun x y H Q=>∃ S t u,Dom S H∧Den K H S t .al [] x∧Den K H S u .al [] y∧endT K H S md Q (g t u)
noncomputable def rCT (K:PySem.W.Frag) (md:Md) (g:List T→Option T):List V→Hp→VK→Prop:=fun xs H Q=>∃ S ts,Dom S H∧Dens K H S ts .al [] xs∧endT K H S md Q (g ts)
noncomputable def eOp (g:T→T→Option T) (F1 F2:VEnv→Res T):VEnv→Res T:=fun ρ=>(F1 ρ).bind fun t=>(F2 ρ).bind fun u=>.of (g t u)
theorem ze8 {H:Hp} {S:Addr→Prop} {Q:VK} {r:Option T} (h:endE K z H S md Q (.of r)):endT K H S md Q r:=by
 cases r with
 | some t=>exact h
 | none=>exact h
theorem zh2 {g:T→T→Option T} {σ:St} {H:Hp} {Q:VK} (h:tr K z md (eOp g F1 F2) σ H Q):tOp (rT K md g) (tr K z .al F1) (tr K z .al F2) σ H Q:=by
 refine zdr h fun S ρ t v H' S' o _ g1 d q=>⟨S',ρ,o,?_⟩
 try dsimp only at q
 cases e2:F2 ρ with
 | exc c=>rw [e2] at q;exact q
 | bad=>rw [e2] at q;exact q
 | ok u =>
  rw [e2] at q
  intro v2 H2 S2 A2 g2
  obtain rfl:=g2.den.alA
  exact⟨S2,t,u,g2.g.dom,d.mono g2.g.same g2.g.up,g2.den,ze8 (z:=z) (endE.grow g2.g q)⟩
theorem zap {op:Operator} {g:T→T→Option T} (ho:OpR X (binaryOp op) (rT X.K md g)) (ha:JE X z md1 F1 a) (hb:JE X z md2 F2 b):JE X z md (eOp g F1 F2) (.BinOp a op b pos):=
 PE.imp (zqN ho (JE.al ha) (JE.al hb)) fun _ _ _=>zh2
theorem zpx {op:CmpOp} {g:T→T→Option T} (ho:OpR X (compareOp op) (rT X.K md g)) (ha:JE X z md1 F1 a) (hb:JE X z md2 F2 b) (hm:behindInMarks op b=false):JE X z md (eOp g F1 F2) (.Compare a [op] [b] pos):=
 PE.imp (znv ho (JE.al ha) (JE.al hb) hm) fun _ _ _=>zh2
theorem zcs {g:T→T→Option T} (ho:IxR X (rT X.K md g)) (ha:JE X z md1 F1 a) (hb:JE X z md2 F2 b) (hs:zeI b):JE X z md (eOp g F1 F2) (.Subscript a b pos):=
 PE.imp (zlM ho (JE.al ha) (JE.al hb) hs) fun _ _ _=>zh2
noncomputable def asB:T→Option Bool
 | .sc (.bl b)=>some b
 | _=>none
noncomputable def eB (F:VEnv→Res T):VEnv→Res Bool:=fun ρ=>(F ρ).bind fun t=>.of (asB t)
theorem zd4 {t:T} {b:Bool} (h:asB t=some b):t=.sc (.bl b):=by
 unfold asB at h
 split at h
 ·cases h;rfl
 ·cases h
theorem zjO {σ:St} {H:Hp} {Q:Bool→Hp→Prop} (h:trb K z (eB F) σ H Q):tr K z md F σ H (fun x H'=>∃ k,x=.bl k∧Q k H'):=by
 obtain⟨S,ρ,o,h⟩:=h
 refine ⟨S,ρ,o,?_⟩
 unfold eB at h
 try dsimp only at h
 cases e:F ρ with
 | exc c=>rw [e] at h;exact h
 | bad=>rw [e] at h;exact h
 | ok t =>
  rw [e,Res.bind_ok] at h
  intro v H' S' A g
  cases e2:asB t with
  | none=>rw [e2] at h;exact (show False from h).elim
  | some b =>
   rw [e2] at h
   obtain rfl:=zd4 e2
   obtain⟨rfl,rfl⟩:=zac.mp g.den
   exact⟨_,rfl,h H' S' g.g⟩
theorem zaX {op:CmpOp} {g:T→T→Option T} (ho:OpR X (compareOp op) (rT X.K .al g)) (ha:JE X z md1 F1 a) (hb:JE X z md2 F2 b) (hm:behindInMarks op b=false):JT X z (eB (eOp g F1 F2)) (.Compare a [op] [b] pos):=
 PT.imp (znp ho (JE.al ha) (JE.al hb) hm) fun σ H Q h=>zh2 (md:=.al) (zjO h)
theorem zem {e:Expr} (h:JE X z md F e) (he:∀ whole,isTrue e X.env whole=(do let v ← whole;standAt e.pos;holding [v] (truthy v)):=by intro _;rfl):JT X z (eB F) e:=
 PT.imp (zoW h he) fun σ H Q q=>zjO q
variable {B B1 B2:VEnv→Res Bool} {rest:List Expr}
theorem zjl (h:JW X z B e):JT X z B e:=PW.pt h
theorem zfs {G:VEnv→Bool→Res Bool} {σ:St} {H:Hp} {Q:Bool→Hp→Prop} {Q1:Bool→Hp→Prop} (h:trb K z (fun ρ=>(B1 ρ).bind (G ρ)) σ H Q)
  (k:∀ b H' , trb K z (fun ρ=>G ρ b) σ H' Q→Q1 b H'):trb K z B1 σ H Q1:=by
 obtain⟨S,ρ,o,h⟩:=h
 refine ⟨S,ρ,o,?_⟩
 try dsimp only at h
 cases e:B1 ρ with
 | exc c=>rw [e] at h;exact h
 | bad=>rw [e] at h;exact h
 | ok t =>
  rw [e,Res.bind_ok] at h
  intro H' S' g
  refine k t H' ⟨S',ρ,o.grow g,?_⟩
  dsimp only
  cases e2:G ρ t with
  | exc c=>rw [e2] at h;exact h
  | bad=>rw [e2] at h;exact h
  | ok b=>rw [e2] at h;exact fun H2 S2 g2=>h H2 S2 (g.trans g2)
theorem zfr {b:Bool} {σ:St} {H:Hp} {Q:Bool→Hp→Prop} (h:trb K z (fun _=>.ok b) σ H Q):Q b H:=by
 obtain⟨S,ρ,o,h⟩:=h
 exact h H S (.refl o.dom)
noncomputable def bAnd (B1 B2:VEnv→Res Bool):VEnv→Res Bool:=fun ρ=>(B1 ρ).bind fun b=>if b=true then B2 ρ else .ok false
noncomputable def bOr (B1 B2:VEnv→Res Bool):VEnv→Res Bool:=fun ρ=>(B1 ρ).bind fun b=>if b=true then .ok true else B2 ρ
noncomputable def bNot (B1:VEnv→Res Bool):VEnv→Res Bool:=fun ρ=>(B1 ρ).bind fun b=>.ok (!b)
theorem znL (ha:JT X z B a):JW X z B (.BoolOp .And [a] pos):=znn ha
theorem zgh (ha:JT X z B a):JW X z B (.BoolOp .Or [a] pos):=zoT ha
theorem zpr (ha:JT X z B1 a) (hb:JW X z B2 (.BoolOp .And (b :: rest) pos)):JW X z (bAnd B1 B2) (.BoolOp .And (a :: b :: rest) pos):=
 PW.imp (zoU ha hb) fun σ H Q h=>zfs h fun b H' q=>by
  cases b with
  | true=>exact q
  | false=>rw [if_neg (by decide)];exact zfr (z:=z) (K:=X.K) q
theorem zhh (ha:JT X z B1 a) (hb:JW X z B2 (.BoolOp .Or (b :: rest) pos)):JW X z (bOr B1 B2) (.BoolOp .Or (a :: b :: rest) pos):=
 PW.imp (zqK ha hb) fun σ H Q h=>zfs h fun b H' q=>by
  cases b with
  | false=>rw [if_neg (by decide)];exact q
  | true=>rw [if_pos rfl];exact zfr (z:=z) (K:=X.K) q
theorem zen (ha:JT X z B a):JT X z (bNot B) (.UnaryOp .Not a pos):=
 PT.imp (zoX ha) fun σ H Q h=>zfs h fun b H' q=>zfr (z:=z) (K:=X.K) q
noncomputable def vAnd (F1 F2:VEnv→Res T):VEnv→Res T:=fun ρ=>(F1 ρ).bind fun t=>(Res.of (asB t)).bind fun b=>if b=true then F2 ρ else .ok (.sc (.bl false))
noncomputable def vNot (F1:VEnv→Res T):VEnv→Res T:=fun ρ=>(F1 ρ).bind fun t=>(Res.of (asB t)).bind fun b=>.ok (.sc (.bl !b))
theorem zpv {op} (h:JE X z md F a):JE X z md F (.BoolOp op [a] pos):=zo3 h
theorem zpy (ha:JE X z md1 F1 a) (hb:JE X z md F2 (.BoolOp .And (b :: rest) pos)):JE X z md (vAnd F1 F2) (.BoolOp .And (a :: b :: rest) pos):=
 PE.imp (zo6 (JE.al ha) hb) fun σ H Q h=>zdr h fun S ρ t v H' S' o _ g d q=>by
  try dsimp only at q
  cases e:asB t with
  | none=>rw [e] at q;exact (show False from q).elim
  | some b =>
   rw [e,Res.of_some,Res.bind_ok] at q
   obtain rfl:=zd4 e
   obtain⟨_,rfl⟩:=zac.mp d
   refine ⟨b,rfl,?_⟩
   cases b with
   | true=>rw [if_pos rfl] at q ⊢;exact⟨S',ρ,o,q⟩
   | false=>rw [if_neg (by decide)] at q ⊢;exact q _ H' S' [] (Got.sc g.dom _)
theorem zpw (ha:JE X z md1 F1 a):JE X z md (vNot F1) (.UnaryOp .Not a pos):=
 PE.imp (zo4 (JE.al ha)) fun σ H Q h=>zdr h fun S ρ t v H' S' o _ g d q=>by
  try dsimp only at q
  cases e:asB t with
  | none=>rw [e] at q;exact (show False from q).elim
  | some b =>
   rw [e,Res.of_some,Res.bind_ok] at q
   obtain rfl:=zd4 e
   obtain⟨_,rfl⟩:=zac.mp d
   exact⟨b,rfl,q _ H' S' [] (Got.sc g.dom _)⟩
noncomputable def eVar (i:Nat):VEnv→Res T:=fun ρ=>match ρ[i]? with
 | some (some t)=>.ok t
 | _=>.bad
noncomputable def eC (v:V):VEnv→Res T:=fun _=>.ok (.sc v)
theorem zab {i:Nat} (h:PE X e (tVar i)):JE X z .al (eVar i) e:=PE.imp h fun σ H Q q=>by
 obtain⟨S,ρ,o,q⟩:=q
 unfold eVar at q
 split at q
 ·rename_i t e
  obtain⟨v,h1,h2⟩:=o.sl i t e
  exact⟨v,h1,q v H S [] ⟨.refl o.dom,List.nodup_nil,fun _ z=>(nomatch z),h2⟩⟩
 ·exact (show False from q).elim
theorem zdG {v:V} (h:PE X e (tC v)):JE X z md (eC v) e:=PE.imp h fun σ H Q q=>by
 obtain⟨S,ρ,o,q⟩:=q
 exact q v H S [] (Got.sc o.dom v)
theorem zad {i j}:JE X z md (eC (.int i)) (.Constant (.int i) j pos):=zdG zgc
theorem zgk {i j}:JE X z md (eC (.bl i)) (.Constant (.bool i) j pos):=zdG zqO
variable {Fs:VEnv→Res (List T)} {te:TE}
noncomputable def aNil:VEnv→Res (List T):=fun _=>.ok []
noncomputable def zah (F:VEnv→Res T) (Fs:VEnv→Res (List T)):VEnv→Res (List T):=fun ρ=>(F ρ).bind fun t=>(Fs ρ).bind fun ts=>.ok (t :: ts)
theorem zaj:JA X z md aNil []:=PA.imp zbT fun σ H Q q=>by
 obtain⟨S,ρ,o,q⟩:=q
 exact q [] H S [] (Gots.nil o.dom)
theorem zaa (ha:JE X z md F e) (hr:JA X z md Fs es) (hs:starEach (e :: es) X.env=(false,eval e X.env) :: starEach es X.env:=by rfl):JA X z md (zah F Fs) (e :: es):=
 PA.imp (za2 ha hr hs) fun σ H Q h=>by
  obtain⟨S,ρ,o,h⟩:=h
  refine ⟨S,ρ,o,?_⟩
  unfold zah at h
  try dsimp only at h
  cases e1:F ρ with
  | exc c=>rw [e1] at h;exact h
  | bad=>rw [e1] at h;exact h
  | ok t =>
   rw [e1,Res.bind_ok] at h
   intro v1 H1 S1 A1 g1
   refine ⟨S1,ρ,o.grow g1.g,?_⟩
   cases e2:Fs ρ with
   | exc c=>rw [e2] at h;exact h
   | bad=>rw [e2] at h;exact h
   | ok ts =>
    rw [e2] at h
    exact fun vs H2 S2 A2 g2=>h _ H2 S2 _ (Gots.cons g1 g2)
theorem JA.al (h:JA X z md Fs es):JA X z .al Fs es:=PA.imp h fun σ H Q q=>by
 obtain⟨S,ρ,o,q⟩:=q
 refine ⟨S,ρ,o,?_⟩
 cases e:Fs ρ with
 | ok t=>rw [e] at q;exact fun v H' S' A g=>q v H' _ [] g.al
 | exc c=>rw [e] at q;exact q
 | bad=>rw [e] at q;exact q
noncomputable def zel (ts:List T):Option T:=if ts.length≤sizeLine then some (.lst ts) else none
noncomputable def eLst (Fs:VEnv→Res (List T)):VEnv→Res T:=fun ρ=>(Fs ρ).bind fun ts=>.of (zel ts)
theorem zdR {G:List T→Res T} {σ:St} {H:Hp} {Q:VK} {Q1:List V→Hp→Prop} (h:tr K z md (fun ρ=>(Fs ρ).bind G) σ H Q)
  (k:∀ S ts vs H' S' A,Same z.H₀ H→Gots K H S H' S' A vs md1 ts→endE K z H S md Q (G ts)→Q1 vs H'):tra K z md1 Fs σ H Q1:=by
 obtain⟨S,ρ,o,h⟩:=h
 refine ⟨S,ρ,o,?_⟩
 try dsimp only at h
 cases e:Fs ρ with
 | ok t=>rw [e] at h;exact fun vs H' S' A g=>k S t vs H' S' A o.same g h
 | exc c=>rw [e] at h;exact h
 | bad=>rw [e] at h;exact h
theorem ze2 {ts:List T} {t:T} (h:zel ts=some t):t=.lst ts∧ts.length≤sizeLine:=by
 unfold zel at h
 split at h
 ·cases h;exact⟨rfl,by assumption⟩
 ·cases h
theorem zbI (h:JA X z .fu Fs es):JE X z .fu (eLst Fs) (.List es pos):=PE.imp (zo5 h) fun σ H Q q=>zdR q fun S ts vs H' S' A _ g q=>by
 cases e:zel ts with
 | none=>rw [e] at q;exact (show False from q).elim
 | some t =>
  rw [e] at q
  obtain⟨rfl,hl⟩:=ze2 e
  exact⟨by rw [g.den.length];exact hl,fun p hp=>q _ _ S' _ (Got.newFu g hp)⟩
noncomputable def endC (K:PySem.W.Frag) (cl:Nat→Addr) (H:Hp) (S:Addr→Prop) (md:Md) (Q:VK) (E:XK):Res T→Prop
 | .ok t=>∀ v H' S' A,Got K H S H' S' A v md t→Q v H'
 | .exc c=>∀ H',Same H H'→E (.ref (cl c)) none H'
 | .bad=>False
def spT (K:PySem.W.Frag) (cl:Nat→Addr) (n:Nat) (md:Md) (m:List T→Res T):Sp:=fun vs H Q E=>∃ S ts,ts.length=n∧Dom S H∧Dens K H S ts .al [] vs∧endC K cl H S md Q E (m ts)
noncomputable def za0 (n:Nat) (m:List T→Res T) (Fs:VEnv→Res (List T)):VEnv→Res T:=fun ρ=>(Fs ρ).bind fun ts=>if ts.length=n then m ts else .bad
theorem znU {H:Hp} {S:Addr→Prop} {Q:VK} {r:Res T} (s:Same z.H₀ H) (h:endE K z H S md Q r):endC K z.cl H S md Q z.E r:=by
 cases r with
 | ok t=>exact h
 | exc c=>exact fun H2 s2=>h H2 (s.trans s2)
 | bad=>exact h
theorem zm2 {n:Nat} {m:List T→Res T} {σ:St} {H:Hp} {Q:VK} (h:tr K z md (za0 n m Fs) σ H Q):zoE (spT K z.cl n md m) [] z.E (tra K z .al Fs) σ H Q:=zdR h fun S ts vs H' S' A s g q=>by
 obtain rfl:=g.den.alA
 by_cases hl:ts.length=n
 ·rw [if_pos hl] at q
  exact⟨S',ts,hl,g.g.dom,by rw [List.append_nil];exact g.den,znU (s.trans g.g.same) (endE.grow g.g q)⟩
 ·rw [if_neg hl] at q;exact (show False from q).elim
theorem zax {k:Nat} {f:Addr} {fd:FuncData} {ps:List Str} {n:Nat} {m:List T→Res T} {CX:CXT} {x:Str} {p:Pos} (G:FnOk X.prog X.w X.K X.mg X.base CX k f fd ps (spT X.K z.cl n md m)) (hr:Room k X.A) (hg:Gl X x) (hm:X.mg x=some (.ref f)) (hk:PySem.W.keepIn X.K (.ref f)=true)
  (hb:zbj X.K fd ps []) (hx:zgL CX X z.E) (ha:JA X z md1 Fs (e :: es)) (hdb:(x == ("__debug__" : Str))=false:=by decide) (he:starEach (e :: es) X.env=(false,eval e X.env) :: starEach es X.env:=by rfl) (hpl:(backTo pos (starEach es X.env)).any (·.1)=false:=by rfl) :
  JE X z md (za0 n m Fs) (.Call (.Name x p) (e :: es) [] pos):=
 PE.imp (znw G hr hg hm hk hb .nil hx (JA.al ha) hdb he hpl) fun σ H Q=>zm2
noncomputable def eB1 (g:List T→Option T) (Fs:VEnv→Res (List T)):VEnv→Res T:=fun ρ=>(Fs ρ).bind fun ts=>.of (g ts)
theorem zoB {g:List T→Option T} {σ:St} {H:Hp} {Q:VK} (h:tr K z md (eB1 g Fs) σ H Q):tCB (rCT K md g) (tra K z .al Fs) σ H Q:=zdR h fun S ts vs H' S' A _ gg q=>by
 obtain rfl:=gg.den.alA
 exact⟨S',ts,gg.g.dom,gg.den,ze8 (z:=z) (endE.grow gg.g q)⟩
theorem zay {id:String} {x:Str} {p:Pos} {g:List T→Option T} (hc:zb2 X (.builtin id) (rCT X.K md g)) (hg:Gl X x) (hm:X.mg x=none) (hv:bootBuiltins x=some (.builtin id)) (ha:JA X z md1 Fs (e :: es)) (hn:x ≠ "__name__" := by decide) (hdb:(x == ("__debug__" : Str))=false:=by decide)
  (he:starEach (e :: es) X.env=(false,eval e X.env) :: starEach es X.env:=by rfl) (hpl:(backTo pos (starEach es X.env)).any (·.1)=false:=by rfl):JE X z md (eB1 g Fs) (.Call (.Name x p) (e :: es) [] pos):=
 PE.imp (zie hc hg hm hv (JA.al ha) hn hdb he hpl) fun σ H Q=>zoB
theorem zgj {id:String} {x:Str} {p:Pos} {g:List T→Option T} (hc:zb2 X (.type id) (rCT X.K md g)) (hg:Gl X x) (hm:X.mg x=none) (hv:bootBuiltins x=some (.type id)) (ha:JA X z md1 Fs (e :: es)) (hn:x ≠ "__name__" := by decide) (hdb:(x == ("__debug__" : Str))=false:=by decide)
  (he:starEach (e :: es) X.env=(false,eval e X.env) :: starEach es X.env:=by rfl) (hpl:(backTo pos (starEach es X.env)).any (·.1)=false:=by rfl):JE X z md (eB1 g Fs) (.Call (.Name x p) (e :: es) [] pos):=
 PE.imp (zkl hc hg hm hv (JA.al ha) hn hdb he hpl) fun σ H Q=>zoB
end
end TL
namespace TL
open PySem PySem.Spec L2
inductive SRes where
 | nx (ρ:SEnv)
 | rt (md:Md) (t:T)
 | exc (c:Nat)
 | bad
structure Ok (K:PySem.W.Frag) (z:Z) (S:Addr→Prop) (As:Nat→List Addr) (ρ:SEnv) (σ:St) (H:Hp):Prop where
 same:Same z.H₀ H
 dom:Dom S H
 ln:ρ.length=σ.length
 s0:∀ a,z.S₀ a→S a
 s1:∀ a,S a→z.S₀ a∨z.H₀ a=none
 nd:∀ i,(As i).Nodup
 ow:∀ i,∀ a∈As i,¬ S a∧z.H₀ a=none∧H a≠none
 dj:∀ i j,i≠j→∀ a∈As i,a∉As j
 sl:∀ (i:Nat) m t,ρ[i]? = some (some (m,t))→∃ v,σ[i]? = some (some v)∧Den K H S t m (As i) v
structure Step (K:PySem.W.Frag) (S:Addr→Prop) (H:Hp) (S':Addr→Prop) (H':Hp):Prop where
 up:∀ a,S a→S' a
 frm:Frm K H H' S
theorem Step.refl {K:PySem.W.Frag} {S:Addr→Prop} {H:Hp}:Step K S H S H:=⟨fun _ h=>h,⟨fun _ _ _ h=>h,fun _ _ h=>h,fun _ _ h=>h⟩⟩
theorem Step.trans {K:PySem.W.Frag} {S S1 S2:Addr→Prop} {H H1 H2:Hp} (a:Step K S H S1 H1) (b:Step K S1 H1 S2 H2):Step K S H S2 H2:=
 ⟨fun c h=>b.up c (a.up c h),⟨fun c xs h e=>b.frm.nodes c xs (a.up c h) (a.frm.nodes c xs h e),fun c xs h=>b.frm.tups c xs (a.frm.tups c xs h),fun c xs h=>b.frm.scrs c xs (a.frm.scrs c xs h)⟩⟩
theorem Grow.step {K:PySem.W.Frag} {S S':Addr→Prop} {H H':Hp} (g:Grow H S H' S'):Step K S H S' H':=
 ⟨g.up,⟨fun c xs _ e=>g.same _ _ e,fun c xs h=>zdU g.same h,fun c xs h=>h.same g.same⟩⟩
theorem Step.dens {K:PySem.W.Frag} {S S':Addr→Prop} {H H':Hp} {t:List T} {v:List V} (s:Step K S H S' H') (d:Dens K H S t .al [] v):Dens K H' S' t .al [] v:=Dens.frm s.frm (fun _ h=>h) s.up (fun _ z=>nomatch z) d
noncomputable def endS (K:PySem.W.Frag) (z:Z) (S:Addr→Prop) (H:Hp) (D:Ends):SRes→Prop
 | .nx ρ'=>∀ S' As' σ' H',Ok K z S' As' ρ' σ' H'→Step K S H S' H'→D.nx σ' H'
 | .rt md t=>∀ v H' S' A,Got K z.H₀ z.S₀ H' S' A v md t→D.rt v H'
 | .exc c=>∀ H',Same z.H₀ H'→z.E (.ref (z.cl c)) none H'
 | .bad=>False
def st (K:PySem.W.Frag) (z:Z) (R:SEnv→SRes):TS:=fun D σ H=>∃ S As ρ,Ok K z S As ρ σ H∧endS K z S H D (R ρ)
abbrev JS (X:Cx) (z:Z) (R:SEnv→SRes) (s:Stmt):Prop:=PS X s (st X.K z R)
abbrev JSs (X:Cx) (z:Z) (R:SEnv→SRes) (s:List Stmt):Prop:=PSs X s (st X.K z R)
theorem PS.imp {X:Cx} {e:Stmt} {t t':TS} (h:PS X e t) (k:∀ D σ H,t' D σ H→t D σ H):PS X e t':=fun pins s σ H Q I q=>h pins s σ H Q I (k Q σ H q)
theorem PSs.imp {X:Cx} {e:List Stmt} {t t':TS} (h:PSs X e t) (k:∀ D σ H,t' D σ H→t D σ H):PSs X e t':=fun pins s σ H Q I q=>h pins s σ H Q I (k Q σ H q)
theorem endS.step {K:PySem.W.Frag} {z:Z} {S S1:Addr→Prop} {H H1:Hp} {D:Ends} {r:SRes} (s:Step K S H S1 H1) (h:endS K z S H D r):endS K z S1 H1 D r:=by
 cases r with
 | nx ρ'=>exact fun S' As' σ' H' o q=>h S' As' σ' H' o (s.trans q)
 | rt md t=>exact h
 | exc c=>exact h
 | bad=>exact h
noncomputable def SRes.then (r:SRes) (f:SEnv→SRes):SRes:=match r with
 | .nx ρ=>f ρ
 | .rt md t=>.rt md t
 | .exc c=>.exc c
 | .bad=>.bad
@[simp] theorem SRes.then_nx (ρ:SEnv) (f:SEnv→SRes):(SRes.nx ρ).then f=f ρ:=(rfl)
@[simp] theorem SRes.then_rt (md:Md) (t:T) (f:SEnv→SRes):(SRes.rt md t).then f=.rt md t:=(rfl)
@[simp] theorem SRes.then_exc (c:Nat) (f:SEnv→SRes):(SRes.exc c).then f=.exc c:=(rfl)
noncomputable def Res.sthen {α:Type} (r:Res α) (f:α→SRes):SRes:=match r with
 | .ok t=>f t
 | .exc c=>.exc c
 | .bad=>.bad
@[simp] theorem Res.sthen_ok {α:Type} (t:α) (f:α→SRes):(Res.ok t).sthen f=f t:=(rfl)
@[simp] theorem Res.sthen_exc {α:Type} (c:Nat) (f:α→SRes):(Res.exc c:Res α).sthen f=.exc c:=(rfl)
noncomputable def view:List Bool→SEnv→VEnv
 | b :: bs,s :: ρ=>(if b=true then s.map (·.2) else none) :: view bs ρ
 | _,_=>[]
noncomputable def zaz:List Bool→SEnv→SEnv
 | b :: bs,s :: ρ=>(if b=true then s.map (fun p=>(.al,p.2)) else s) :: zaz bs ρ
 | _,ρ=>ρ
theorem zh0:∀ {M:List Bool} {ρ:SEnv} {i:Nat} {t:T},(view M ρ)[i]? = some (some t)→M[i]? = some true∧∃ m,ρ[i]? = some (some (m,t))
 | [],ρ,i,t,h=>by unfold view at h;simp at h
 | b :: bs,[],i,t,h=>by unfold view at h;simp at h
 | b :: bs,s :: ρ,0,t,h=>by
  unfold view at h
  simp at h
  obtain⟨rfl,m,rfl⟩:=h
  exact⟨rfl,m,rfl⟩
 | b :: bs,s :: ρ,i + 1,t,h=>by
  unfold view at h
  have:=zh0 (M:=bs) (ρ:=ρ) (i:=i) (t:=t) (by simpa using h)
  simpa using this
theorem zfb:∀ {M:List Bool} {ρ:SEnv} {i:Nat} {m:Md} {t:T},(zaz M ρ)[i]? = some (some (m,t))→(M[i]? = some true∧m=.al∧∃ m',ρ[i]? = some (some (m',t)))∨(M[i]?≠some true∧ρ[i]? = some (some (m,t)))
 | [],ρ,i,m,t,h=>by unfold zaz at h;exact .inr ⟨by simp,h⟩
 | b :: bs,[],i,m,t,h=>by unfold zaz at h;simp at h
 | b :: bs,s :: ρ,0,m,t,h=>by
  unfold zaz at h
  cases b with
  | true =>
   simp at h
   obtain⟨⟨m',rfl⟩,rfl⟩:=h
   exact .inl ⟨rfl,rfl,m',rfl⟩
  | false =>
   simp at h
   subst h
   exact .inr ⟨by simp,rfl⟩
 | b :: bs,s :: ρ,i + 1,m,t,h=>by
  unfold zaz at h
  have:=zfb (M:=bs) (ρ:=ρ) (i:=i) (m:=m) (t:=t) (by simpa using h)
  simpa using this
theorem zce:∀ (M:List Bool) (ρ:SEnv),(zaz M ρ).length=ρ.length
 | [],ρ=>by unfold zaz;rfl
 | b :: bs,[]=>by unfold zaz;rfl
 | b :: bs,s :: ρ=>by unfold zaz;rw [List.length_cons,List.length_cons,zce]
section
variable {K:PySem.W.Frag} {z:Z} {S S':Addr→Prop} {As:Nat→List Addr} {ρ:SEnv} {σ:St} {H H':Hp} {M:List Bool} {A:List Addr} {v:V} {md:Md} {t:T}
noncomputable def SB (S:Addr→Prop) (As:Nat→List Addr) (M:List Bool):Addr→Prop:=fun a=>S a∨∃ i,M[i]? = some true∧a∈As i
theorem Ok.view (o:Ok K z S As ρ σ H) (M:List Bool):OkE K z (SB S As M) (view M ρ) σ H:=by
 refine ⟨o.same,fun a h=>?_,fun i t e=>?_⟩
 ·rcases h with h | ⟨i,_,h⟩
  ·exact o.dom a h
  ·exact (o.ow i a h).2.2
 ·obtain⟨hm,m,e⟩:=zh0 e
  obtain⟨v,h1,h2⟩:=o.sl i m t e
  exact⟨v,h1,h2.out (fun a h=>.inl h) fun a h=>.inr ⟨i,hm,h⟩⟩
theorem Ok.sb1 (o:Ok K z S As ρ σ H) {a:Addr} (h:SB S As M a):z.S₀ a∨z.H₀ a=none:=by
 rcases h with h | ⟨i,_,h⟩
 ·exact o.s1 a h
 ·exact .inr (o.ow i a h).2.1
theorem Ok.got (o:Ok K z S As ρ σ H) (g:Got K H (SB S As M) H' S' A v md t):Got K z.H₀ z.S₀ H' S' A v md t:=
 ⟨⟨o.same.trans g.g.same,fun a h=>g.g.up a (.inl (o.s0 a h)),fun a h=>(g.g.new a h).elim (fun q=>o.sb1 q) fun q=>.inr (zaV o.same q),g.g.dom⟩,g.nd,fun a h=>⟨zaV o.same (g.ow a h).1,(g.ow a h).2⟩,g.den⟩
theorem Ok.putFu (o:Ok K z S As ρ σ H) (g:Got K H (SB S As M) H' S' A v .fu t) (i:Nat) (hi:i < ρ.length):Ok K z S (fun j=>if j=i then A else As j) (ρ.set i (some (.fu,t))) (σ.set i (some v)) H':=by
 have dj:∀ j,∀ a∈As j,a∉A:=fun j a h q=>(o.ow j a h).2.2 (g.ow a q).1
 refine ⟨o.same.trans g.g.same,fun a h=>zbP g.g.same (o.dom a h),by simp [o.ln],o.s0,o.s1,fun j=>?_,fun j a h=>?_,fun j k hjk a h=>?_,fun j m u e=>?_⟩
 ·by_cases hj:j=i
  ·rw [if_pos hj];exact g.nd
  ·rw [if_neg hj];exact o.nd j
 ·by_cases hj:j=i
  ·rw [if_pos hj] at h
   refine ⟨fun q=>(g.ow a h).2 (g.g.up a (.inl q)),zaV o.same (g.ow a h).1,fun q=>?_⟩
   obtain⟨ws,e⟩:=g.den.own a h
   rw [q] at e;cases e
  ·rw [if_neg hj] at h
   obtain⟨h1,h2,h3⟩:=o.ow j a h
   exact⟨h1,h2,zbP g.g.same h3⟩
 ·by_cases hj:j=i
  ·rw [if_pos hj] at h
   rw [if_neg (fun z=>hjk (hj.trans z.symm))]
   exact fun q=>dj k a q h
  ·rw [if_neg hj] at h
   by_cases hk:k=i
   ·rw [if_pos hk];exact dj j a h
   ·rw [if_neg hk];exact o.dj j k hjk a h
 ·by_cases hj:j=i
  ·subst hj
   rw [List.getElem?_set_self hi] at e
   cases e
   refine ⟨v,by rw [List.getElem?_set_self (by rw [← o.ln];exact hi)],?_⟩
   rw [if_pos rfl]
   exact g.den.fuS
  ·rw [List.getElem?_set_ne (Ne.symm hj)] at e
   obtain⟨w,h1,h2⟩:=o.sl j m u e
   refine ⟨w,by rw [List.getElem?_set_ne (Ne.symm hj)];exact h1,?_⟩
   rw [if_neg hj]
   exact h2.mono g.g.same fun _ h=>h
noncomputable def dAs (As:Nat→List Addr) (M:List Bool):Nat→List Addr:=fun j=>if M[j]? = some true then [] else As j
theorem Ok.share (o:Ok K z S As ρ σ H) (g:Grow H (SB S As M) H' S'):Ok K z S' (dAs As M) (zaz M ρ) σ H':=by
 refine ⟨o.same.trans g.same,g.dom,by rw [zce];exact o.ln,fun a h=>g.up a (.inl (o.s0 a h)),fun a h=>(g.new a h).elim (fun q=>o.sb1 q) fun q=>.inr (zaV o.same q),fun j=>?_,fun j a h=>?_,fun j k hjk a h=>?_,fun j m u e=>?_⟩
 ·unfold dAs;split
  ·exact List.nodup_nil
  ·exact o.nd j
 ·unfold dAs at h;split at h
  ·cases h
  ·rename_i hj
   obtain⟨h1,h2,h3⟩:=o.ow j a h
   refine ⟨fun q=>?_,h2,zbP g.same h3⟩
   rcases g.new a q with (q | ⟨i,hi,q⟩) | q
   ·exact h1 q
   ·exact o.dj j i (fun z=>hj (z ▸ hi)) a h q
   ·exact h3 q
 ·unfold dAs at h ⊢
  split at h
  ·cases h
  ·split
   ·exact fun z=>nomatch z
   ·exact o.dj j k hjk a h
 ·rcases zfb e with ⟨hm,rfl,m',e⟩ | ⟨hm,e⟩
  ·obtain⟨w,h1,h2⟩:=o.sl j m' u e
   refine ⟨w,h1,?_⟩
   unfold dAs
   rw [if_pos hm]
   exact (h2.mono g.same fun _ h=>h).out (fun a h=>g.up a (.inl h)) fun a h=>g.up a (.inr ⟨j,hm,h⟩)
  ·obtain⟨w,h1,h2⟩:=o.sl j m u e
   refine ⟨w,h1,?_⟩
   unfold dAs
   rw [if_neg hm]
   exact h2.mono g.same fun a h=>g.up a (.inl h)
theorem Ok.put (o:Ok K z S As ρ σ H) (g:Got K H S H' S' A v md t) (i:Nat) (hi:i < ρ.length):Ok K z S' (fun j=>if j=i then A else As j) (ρ.set i (some (md,t))) (σ.set i (some v)) H':=by
 have dj:∀ j,∀ a∈As j,a∉A:=fun j a h q=>(o.ow j a h).2.2 (g.ow a q).1
 refine ⟨o.same.trans g.g.same,g.g.dom,by simp [o.ln],fun a h=>g.g.up a (o.s0 a h),fun a h=>(g.g.new a h).elim (o.s1 a) fun q=>.inr (zaV o.same q),fun j=>?_,fun j a h=>?_,fun j k hjk a h=>?_,fun j m u e=>?_⟩
 ·by_cases hj:j=i
  ·rw [if_pos hj];exact g.nd
  ·rw [if_neg hj];exact o.nd j
 ·by_cases hj:j=i
  ·rw [if_pos hj] at h
   refine ⟨(g.ow a h).2,zaV o.same (g.ow a h).1,fun q=>?_⟩
   obtain⟨ws,e⟩:=g.den.own a h
   rw [q] at e;cases e
  ·rw [if_neg hj] at h
   obtain⟨h1,h2,h3⟩:=o.ow j a h
   exact⟨fun q=>(g.g.new a q).elim h1 h3,h2,zbP g.g.same h3⟩
 ·by_cases hj:j=i
  ·rw [if_pos hj] at h
   rw [if_neg (fun z=>hjk (hj.trans z.symm))]
   exact fun q=>dj k a q h
  ·rw [if_neg hj] at h
   by_cases hk:k=i
   ·rw [if_pos hk];exact dj j a h
   ·rw [if_neg hk];exact o.dj j k hjk a h
 ·by_cases hj:j=i
  ·subst hj
   rw [List.getElem?_set_self hi] at e
   cases e
   refine ⟨v,by rw [List.getElem?_set_self (by rw [← o.ln];exact hi)],?_⟩
   rw [if_pos rfl]
   exact g.den
  ·rw [List.getElem?_set_ne (Ne.symm hj)] at e
   obtain⟨w,h1,h2⟩:=o.sl j m u e
   refine ⟨w,by rw [List.getElem?_set_ne (Ne.symm hj)];exact h1,?_⟩
   rw [if_neg hj]
   exact h2.mono g.g.same g.g.up
theorem Ok.putSp (o:Ok K z S As ρ σ H) (g:Got K H (SB S As M) H' S' A v md t) (i:Nat) (hi:i < ρ.length):Ok K z S' (fun j=>if j=i then A else dAs As M j) ((zaz M ρ).set i (some (md,t))) (σ.set i (some v)) H':=by
 have o2:=o.share g.g
 have dj:∀ j,∀ a∈dAs As M j,a∉A:=fun j a h q=>by
  unfold dAs at h;split at h
  ·cases h
  ·exact (o.ow j a h).2.2 (g.ow a q).1
 refine ⟨o2.same,o2.dom,by simp [o2.ln],o2.s0,o2.s1,fun j=>?_,fun j a h=>?_,fun j k hjk a h=>?_,fun j m u e=>?_⟩
 ·by_cases hj:j=i
  ·rw [if_pos hj];exact g.nd
  ·rw [if_neg hj];exact o2.nd j
 ·by_cases hj:j=i
  ·rw [if_pos hj] at h
   refine ⟨(g.ow a h).2,zaV o.same (g.ow a h).1,fun q=>?_⟩
   obtain⟨ws,e⟩:=g.den.own a h
   rw [q] at e;cases e
  ·rw [if_neg hj] at h;exact o2.ow j a h
 ·by_cases hj:j=i
  ·rw [if_pos hj] at h
   rw [if_neg (fun z=>hjk (hj.trans z.symm))]
   exact fun q=>dj k a q h
  ·rw [if_neg hj] at h
   by_cases hk:k=i
   ·rw [if_pos hk];exact dj j a h
   ·rw [if_neg hk];exact o2.dj j k hjk a h
 ·by_cases hj:j=i
  ·subst hj
   rw [List.getElem?_set_self (by rw [zce];exact hi)] at e
   cases e
   refine ⟨v,by rw [List.getElem?_set_self (by rw [← o.ln];exact hi)],?_⟩
   rw [if_pos rfl]
   exact g.den
  ·rw [List.getElem?_set_ne (Ne.symm hj)] at e
   obtain⟨w,h1,h2⟩:=o2.sl j m u e
   refine ⟨w,by rw [List.getElem?_set_ne (Ne.symm hj)];exact h1,?_⟩
   rw [if_neg hj]
   exact h2
theorem zft (g:Grow H (SB S As M) H' S'):Step K S H S' H':=⟨fun a h=>g.up a (.inl h),⟨fun c xs _ e=>g.same _ _ e,fun c xs h=>zdU g.same h,fun c xs h=>h.same g.same⟩⟩
theorem zaN (e:Same H H'):Step K S H S H':=⟨fun a h=>h,⟨fun c xs _ q=>e _ _ q,fun c xs h=>zdU e h,fun c xs h=>h.same e⟩⟩
end
section
variable {X:Cx} {z:Z} {md md1 md2:Md} {F F1 F2:VEnv→Res T} {B:VEnv→Res Bool} {e a b:Expr} {pos:Pos} {R R1 R2:SEnv→SRes} {s:Stmt} {ss ss2:List Stmt} {K:PySem.W.Frag}
noncomputable def sNil:SEnv→SRes:=.nx
noncomputable def sSeq (R1 R2:SEnv→SRes):SEnv→SRes:=fun ρ=>(R1 ρ).then R2
theorem zaH:JSs X z sNil []:=PSs.imp znq fun D σ H h=>by
 obtain⟨S,As,ρ,o,h⟩:=h
 exact h S As σ H o .refl
theorem endS.seq {S:Addr→Prop} {H:Hp} {D:Ends} {r:SRes} (h:endS K z S H D (r.then R2)):endS K z S H { D with nx:=st K z R2 D } r:=by
 cases r with
 | nx ρ'=>exact fun S' As' σ' H' o q=>⟨S',As',ρ',o,h.step q⟩
 | rt md t=>exact h
 | exc c=>exact h
 | bad=>exact h
theorem zae (h1:JS X z R1 s) (h2:JSs X z R2 ss):JSs X z (sSeq R1 R2) (s :: ss):=PSs.imp (zfA h1 h2) fun D σ H h=>by
 obtain⟨S,As,ρ,o,h⟩:=h
 exact⟨S,As,ρ,o,endS.seq h⟩
theorem zak (h1:JS X z R1 s):JSs X z R1 [s]:=zfz h1
theorem zfu {M:List Bool} {G:T→SEnv→SRes} {D:Ends} {σ:St} {H:Hp} {Q:VK} (h:st K z (fun ρ=>(F (view M ρ)).sthen fun t=>G t ρ) D σ H)
  (k:∀ S As ρ t v H' S' A,Ok K z S As ρ σ H→Got K H (SB S As M) H' S' A v md t→endS K z S H D (G t ρ)→Q v H'):tr K z md F σ H Q:=by
 obtain⟨S,As,ρ,o,h⟩:=h
 refine ⟨_,_,o.view M,?_⟩
 try dsimp only at h
 cases e:F (view M ρ) with
 | ok t=>rw [e] at h;exact fun v H' S' A g=>k S As ρ t v H' S' A o g h
 | exc c=>rw [e] at h;exact h
 | bad=>rw [e] at h;exact h
noncomputable def sRet (md:Md) (M:List Bool) (F:VEnv→Res T):SEnv→SRes:=fun ρ=>(F (view M ρ)).sthen fun t=>.rt md t
theorem za1 (M:List Bool) (he:JE X z md F e):JS X z (sRet md M F) (.Return (some e) pos):=PS.imp (zkh he) fun D σ H h =>
 zfu h fun S As ρ t v H' S' A o g q=>q v H' S' A (o.got g)
noncomputable def zfx (i:Nat):SEnv→SRes:=fun ρ=>match ρ[i]? with
 | some (some (m,t))=>.rt m t
 | _=>.bad
theorem zeo {i:Nat} (he:PE X e (tVar i)):JS X z (zfx i) (.Return (some e) pos):=PS.imp (zkh he) fun D σ H h=>by
 obtain⟨S,As,ρ,o,h⟩:=h
 unfold zfx at h
 split at h
 ·rename_i m t e
  obtain⟨v,h1,h2⟩:=o.sl i m t e
  exact⟨v,h1,h v H S (As i) ⟨⟨o.same,o.s0,o.s1,o.dom⟩,o.nd i,fun a q=>⟨(o.ow i a q).2.1,(o.ow i a q).1⟩,h2⟩⟩
 ·exact (show False from h).elim
noncomputable def sSet (i:Nat) (M:List Bool) (F:VEnv→Res T):SEnv→SRes:=fun ρ=>(F (view M ρ)).sthen fun t=>if i < ρ.length then .nx (ρ.set i (some (.fu,t))) else .bad
noncomputable def zgX (md:Md) (i:Nat) (M:List Bool) (F:VEnv→Res T):SEnv→SRes:=fun ρ=>(F (view M ρ)).sthen fun t=>if i < ρ.length then .nx ((zaz M ρ).set i (some (md,t))) else .bad
theorem zpR {i:Nat} {M:List Bool} {te:TE} (ht:∀ σ H Q,tr K z .fu F σ H Q→te σ H Q) (D:Ends) (σ:St) (H:Hp) (h:st K z (sSet i M F) D σ H):tAsg te (zfN i) D σ H:=
 ht _ _ _ (zfu h fun S As ρ t v H' S' A o g q=>by
  by_cases hi:i < ρ.length
  ·rw [if_pos hi] at q
   exact q S _ _ H' (o.putFu g i hi) (zaN g.g.same)
  ·rw [if_neg hi] at q;exact (show False from q).elim)
theorem zn2 {i:Nat} {M:List Bool} {te:TE} (ht:∀ σ H Q,tr K z md F σ H Q→te σ H Q) (D:Ends) (σ:St) (H:Hp) (h:st K z (zgX md i M F) D σ H):tAsg te (zfN i) D σ H:=
 ht _ _ _ (zfu h fun S As ρ t v H' S' A o g q=>by
  by_cases hi:i < ρ.length
  ·rw [if_pos hi] at q
   exact q S' _ _ H' (o.putSp g i hi) (zft g.g)
  ·rw [if_neg hi] at q;exact (show False from q).elim)
theorem zaw {i:Nat} {x:Str} {pos':Pos} (M:List Bool) (hN:X.N.Nodup) (hi:X.N[i]? = some x) (hx:Loc X.env.scope x) (he:JE X z .fu F e) (hs:swapsWith e (some (.Name x pos')) pos.line X.env=pure false:=by rfl)
  (hf:X.fn x=true∨X.env.scope.names.lookup x=some .local:=by first | exact .inl rfl | exact .inr rfl | assumption):JS X z (sSet i M F) (.Assign [.Name x pos'] e pos):=PS.imp (zkg hN hi hx he hs hf) fun D σ H h=>zpR (fun _ _ _ q=>q) D σ H h
theorem zfI {i:Nat} {x:Str} {pos':Pos} (M:List Bool) (hN:X.N.Nodup) (hi:X.N[i]? = some x) (hx:Loc X.env.scope x) (he:JE X z md F e) (hs:swapsWith e (some (.Name x pos')) pos.line X.env=pure false:=by rfl)
  (hf:X.fn x=true∨X.env.scope.names.lookup x=some .local:=by first | exact .inl rfl | exact .inr rfl | assumption):JS X z (zgX md i M F) (.Assign [.Name x pos'] e pos):=PS.imp (zkg hN hi hx he hs hf) fun D σ H h=>zn2 (fun _ _ _ q=>q) D σ H h
noncomputable def sIf (M:List Bool) (B:VEnv→Res Bool) (R1 R2:SEnv→SRes):SEnv→SRes:=fun ρ=>(B (view M ρ)).sthen fun b=>if b=true then R1 ρ else R2 ρ
theorem Ok.grow {S S':Addr→Prop} {As:Nat→List Addr} {ρ:SEnv} {σ:St} {H H':Hp} {M:List Bool} (o:Ok K z S As ρ σ H) (g:Grow H (SB S As M) H' S'):Ok K z S As ρ σ H':=
 ⟨o.same.trans g.same,fun a h=>zbP g.same (o.dom a h),o.ln,o.s0,o.s1,o.nd,fun i a h=>let ⟨h1,h2,h3⟩:=o.ow i a h;⟨h1,h2,zbP g.same h3⟩,o.dj,fun i m t e=>let ⟨v,h1,h2⟩:=o.sl i m t e;⟨v,h1,h2.mono g.same fun _ h=>h⟩⟩
theorem zbH (M:List Bool) (hc:JT X z B e) (h1:JSs X z R1 ss) (h2:JSs X z R2 ss2):JS X z (sIf M B R1 R2) (.If e ss ss2 pos):=PS.imp (zqL hc h1 h2) fun D σ H h=>by
 obtain⟨S,As,ρ,o,h⟩:=h
 refine ⟨_,_,o.view M,?_⟩
 unfold sIf at h
 try dsimp only at h
 cases e:B (view M ρ) with
 | exc c=>rw [e] at h;exact h
 | bad=>rw [e] at h;exact h
 | ok b =>
  rw [e,Res.sthen_ok] at h
  intro H' S' g
  have o':=o.grow g
  cases b with
  | true=>rw [if_pos rfl] at h ⊢;exact⟨S,As,ρ,o',h.step (zaN g.same)⟩
  | false=>rw [if_neg (by decide)] at h ⊢;exact⟨S,As,ρ,o',h.step (zaN g.same)⟩
noncomputable def zj5 (M:List Bool) (F:VEnv→Res T):SEnv→SRes:=fun ρ=>(F (view M ρ)).sthen fun _=>.nx ρ
theorem zhi (M:List Bool) (he:JE X z md F e) (hs:swapsWith e none pos.line X.env=pure false:=by rfl):JS X z (zj5 M F) (.Expr e pos):=PS.imp (zco he hs) fun D σ H h =>
 zfu h fun S As ρ t v H' S' A o g q=>q S As σ H' (o.grow g.g) (zaN g.g.same)
noncomputable def zaD (N:List Str) (ts:List T):SEnv:=ts.map (fun t=>some (.al,t)) ++ List.replicate (N.length - ts.length) none
noncomputable def fin (md:Md):SRes→Res T
 | .nx _=>.ok (.sc .non)
 | .rt m t=>if m=md∨md=.al∨isSc t=true then .ok t else .bad
 | .exc c=>.exc c
 | .bad=>.bad
theorem zjT {K:PySem.W.Frag} {H:Hp} {S:Addr→Prop} {N:List Str} {ts:List T} {vs:List V} (h:Dens K H S ts .al [] vs) {i:Nat} {m:Md} {t:T} (e:(zaD N ts)[i]? = some (some (m,t))):∃ v,(L2.start N vs)[i]? = some (some v)∧Den K H S t m [] v:=by
 unfold zaD at e
 unfold L2.start
 have hl:=h.length
 by_cases hi:i < ts.length
 ·rw [List.getElem?_append_left (by rw [List.length_map];exact hi),List.getElem?_map] at e
  obtain⟨u,hu⟩:∃ u,ts[i]? = some u:=⟨ts[i],List.getElem?_eq_getElem hi⟩
  rw [hu] at e
  cases e
  obtain⟨v,h1,h2⟩:=h.get hu
  exact⟨v,by rw [List.getElem?_append_left (by rw [List.length_map,hl];exact hi),List.getElem?_map,h1];rfl,h2⟩
 ·rw [List.getElem?_append_right (by rw [List.length_map];lia),List.getElem?_replicate] at e
  split at e <;> cases e
theorem Got.weak {K:PySem.W.Frag} {H H':Hp} {S S':Addr→Prop} {A:List Addr} {v:V} {m:Md} {t:T} (g:Got K H S H' S' A v m t) (h:m=md∨md=.al∨isSc t=true):∃ S' A,Got K H S H' S' A v md t:=by
 rcases h with rfl | rfl | h
 ·exact⟨_,_,g⟩
 ·exact⟨_,_,g.al⟩
 ·cases t with
  | sc w=>exact⟨S',A,g.g,g.nd,g.ow,zac.mpr (zac.mp g.den)⟩
  | scr ns=>cases h
  | lst ts=>cases h
  | tup ts=>cases h
theorem za4 {P:Program} {w:World} {K:PySem.W.Frag} {mg:Str→Option Value} {base:Heap} {cl:Nat→Addr} {x qual:Str} {st₀:Stmt} {f:Addr} {fd:FuncData} {N ps:List Str} {k n:Nat} {md:Md} {R:SEnv→SRes} (F:Fun K x qual st₀ f fd) (S:FnScope N ps (defScope st₀)) (hn:ps.length=n)
  (hbody:∀ (cdv:Value) (A:Around) (outer:List Env) (s:Shared) (H:Hp) (E:XK) (S₀:Addr→Prop),Dom S₀ H→Room k (A.deeper (PyProof.Rows.envOfC qual (defScope st₀) s.heap.objs.size f cdv)) →
   JSs (cxOf (CXe P w) P w K mg base N qual (defScope st₀) f cdv A outer s H E) ⟨H,S₀,cl,E⟩ R (defBody st₀)):FnOk P w K mg base (CXe P w) (k + 1) f fd ps (spT K cl n md fun ts=>fin md (R (zaD N ts))):=by
 refine Fun.okE F S (fun vs H Q E h=>?_) fun cdv A outer s H vs Q E hr h=>?_
 ·obtain⟨S,ts,h1,_,h2,_⟩:=h
  rw [h2.length,h1,hn]
 ·obtain⟨S₀,ts,h1,hd,h2,h3⟩:=h
  refine ⟨_,hbody cdv A outer s H E S₀ hd hr,S₀,fun _=>[],zaD N ts,?_,?_⟩
  ·refine ⟨Same.refl _,hd,?_,fun _ h=>h,fun _ h=>.inl h,fun _=>List.nodup_nil,fun _ _ z=>(nomatch z),fun _ _ _ _ z=>(nomatch z),fun i m t e=>zjT h2 e⟩
   unfold zaD L2.start
   rw [List.length_append,List.length_append,List.length_map,List.length_map,List.length_replicate,List.length_replicate,h2.length]
  ·replace h3:endC K cl H S₀ md Q E (fin md (R (zaD N ts))):=h3
   cases e:R (zaD N ts) with
   | nx ρ' =>
    rw [e] at h3
    intro S' As' σ' H' o q
    exact h3 .non H' S' [] ⟨⟨o.same,o.s0,o.s1,o.dom⟩,List.nodup_nil,fun _ z=>(nomatch z),zcN _⟩
   | rt m t =>
    rw [e] at h3
    by_cases hm:m=md∨md=.al∨isSc t=true
    ·have e3:fin md (.rt m t)=.ok t:=if_pos hm
     rw [e3] at h3
     intro v H' S' A g
     obtain⟨S2,A2,g2⟩:=g.weak hm
     exact h3 v H' S2 A2 g2
    ·have e3:fin md (.rt m t)=.bad:=if_neg hm
     rw [e3] at h3
     exact (show False from h3).elim
   | exc c=>rw [e] at h3;exact h3
   | bad=>rw [e] at h3;exact (show False from h3).elim
end
end TL
namespace L2
open PySem PySem.Spec PyProof.Rows
section
variable {prog:Program} {w:World} {A:Around} {R:Result→Shared→Prop} {s:Shared}
end
section
variable {X:Cx} {elt tg iter c:Expr} {scope:Scope} {pos:Pos} {wi:TI} {g:TG} {tt:TT} {te:TE} {N':List Str} {ix:List (Option Nat)}
end
end L2
namespace TL
open PySem PySem.Spec L2
structure JOk (K:PySem.W.Frag) (J:It) (H:Hp) (S:Addr→Prop) (ts:List T):Prop where
 go:∀ H2 S2,Step K S H S2 H2→Dom S2 H2→∀ (i:Nat) t,ts[i]? = some t→J.go i H2∧∀ x H3,J.yld i H2 x H3→Grow H2 S2 H3 S2∧Den K H3 S2 t .al [] x
 stop:∀ H2 S2,Step K S H S2 H2→Dom S2 H2→J.stop ts.length H2
noncomputable def endI (K:PySem.W.Frag) (z:Z) (H:Hp) (S:Addr→Prop) (R:It→Hp→Prop):Res (List T)→Prop
 | .ok ts=>∀ J H' S',Grow H S H' S'→JOk K J H' S' ts→R J H'
 | .exc c=>∀ H',Same z.H₀ H'→z.E (.ref (z.cl c)) none H'
 | .bad=>False
def tri (K:PySem.W.Frag) (z:Z) (I:VEnv→Res (List T)):TI:=fun σ H R=>∃ S ρ,OkE K z S ρ σ H∧endI K z H S R (I ρ)
abbrev JI (X:Cx) (z:Z) (tg:Expr) (I:VEnv→Res (List T)) (iter:Expr):Prop:=PI X tg iter (tri X.K z I)
theorem PI.imp {X:Cx} {tg e:Expr} {t t':TI} (h:PI X tg e t) (k:∀ σ H Q,t' σ H Q→t σ H Q):PI X tg e t':=fun pins s σ H Q I q=>h pins s σ H Q I (k σ H Q q)
noncomputable def asL:T→Option (List T)
 | .lst ts=>some ts
 | _=>none
noncomputable def asI:T→Option Int
 | .sc (.int i)=>some i
 | _=>none
theorem zmm {t:T} {ts:List T} (h:asL t=some ts):t=.lst ts:=by
 unfold asL at h;split at h
 ·cases h;rfl
 ·cases h
theorem zfU {t:T} {i:Int} (h:asI t=some i):t=.sc (.int i):=by
 unfold asI at h;split at h
 ·cases h;rfl
 ·cases h
@[simp] theorem zrr (ts:List T):asL (.lst ts)=some ts:=(rfl)
@[simp] theorem zrs (i:Int):asI (.sc (.int i))=some i:=(rfl)
@[simp] theorem zrW (i:Bool):asB (.sc (.bl i))=some i:=(rfl)
theorem zl2 {K:PySem.W.Frag} {H:Hp} {S:Addr→Prop} {a:Addr} {vs:List V} {ts:List T} (hS:S a) (hH:H a=some (.lst vs)) (d:Dens K H S ts .al [] vs):JOk K (Itl K a) H S ts:=by
 refine ⟨fun H2 S2 s _ i t e=>?_,fun H2 S2 s _=>⟨vs,.of (s.frm.nodes _ _ hS hH),by rw [d.length];exact Nat.le_refl _⟩⟩
 have h2:SqL K H2 a vs:=.of (s.frm.nodes _ _ hS hH)
 obtain⟨v,h3,h4⟩:=(s.dens d).get e
 refine ⟨⟨vs,v,h2,h3⟩,fun x H3 y=>?_⟩
 obtain⟨rfl,y⟩:=y
 have:=y vs h2
 rw [h3] at this
 cases this
 exact⟨.refl (by assumption),h4⟩
section
variable {X:Cx} {z:Z} {md md1:Md} {F F1 F2:VEnv→Res T} {e a b tg:Expr} {es:List Expr} {pos:Pos} {K:PySem.W.Frag} {Fs:VEnv→Res (List T)}
noncomputable def iLst (F:VEnv→Res T):VEnv→Res (List T):=fun ρ=>(F ρ).bind fun t=>.of (asL t)
theorem zaW (h:JE X z md F e):JI X z tg (iLst F) e:=PI.imp (zg2 (JE.al h)) fun σ H R q=>by
 obtain⟨S,ρ,o,q⟩:=q
 refine ⟨S,ρ,o,?_⟩
 unfold iLst at q
 try dsimp only at q
 cases e:F ρ with
 | exc c=>rw [e] at q;exact q
 | bad=>rw [e] at q;exact q
 | ok t =>
  rw [e,Res.bind_ok] at q
  intro v H' S' A g
  obtain rfl:=g.den.alA
  cases e2:asL t with
  | none=>rw [e2] at q;exact (show False from q).elim
  | some ts =>
   rw [e2] at q
   obtain rfl:=zmm e2
   obtain⟨_,a,vs,rfl,h1,h2,h3⟩:=zag.mp g.den
   exact⟨a,rfl,⟨vs,.of h2⟩,q _ H' S' g.g (zl2 h1 h2 h3)⟩
noncomputable def rngI (lo:Int) (n:Nat):List T:=(List.range n).map fun (k:Nat)=>.sc (.int (lo + (k:Int)))
theorem zia {lo:Int} {n i:Nat} {t:T} (h:(rngI lo n)[i]? = some t):i < n∧t=.sc (.int (lo + (i:Int))):=by
 unfold rngI at h
 rw [List.getElem?_map] at h
 by_cases hi:i < n
 ·rw [List.getElem?_range hi] at h
  cases h
  exact⟨hi,rfl⟩
 ·rw [List.getElem?_eq_none (by rw [List.length_range];lia)] at h
  cases h
theorem zkO {H:Hp} {S:Addr→Prop} (lo:Int) (n:Nat):JOk K (Itr lo n) H S (rngI lo n):=by
 refine ⟨fun H2 S2 s d i t e=>?_,fun H2 S2 s _=>by
  show n≤(rngI lo n).length
  unfold rngI;rw [List.length_map,List.length_range];exact Nat.le_refl _⟩
 obtain⟨hi,rfl⟩:=zia e
 refine ⟨hi,fun x H3 y=>?_⟩
 obtain⟨rfl,rfl⟩:=y
 exact⟨.refl d,zcN _⟩
noncomputable def rng1 (ts:List T):Option (List T):=match ts with
 | [.sc (.int j)]=>if -(2 ^ 62)≤j∧j < 2 ^ 62 then some (rngI 0 j.toNat) else none
 | _=>none
noncomputable def rng2 (ts:List T):Option (List T):=match ts with
 | [.sc (.int i),.sc (.int j)]=>if -(2 ^ 62)≤i∧i < 2 ^ 62∧-(2 ^ 62)≤j∧j < 2 ^ 62 then some (rngI i (j - i).toNat) else none
 | _=>none
noncomputable def iRng (g:List T→Option (List T)) (Fs:VEnv→Res (List T)):VEnv→Res (List T):=fun ρ=>(Fs ρ).bind fun ts=>.of (g ts)
theorem zaP {p:Pos} (hg:Gl X "range") (hm:X.mg "range" = none) (ha:JA X z md Fs [a]) (hs:starEach [a] X.env=[(false,eval a X.env)]:=by rfl):JI X z tg (iRng rng1 Fs) (.Call (.Name "range" p) [a] [] pos):=
 PI.imp (zga hg hm (JA.al ha) hs) fun σ H R q=>by
  obtain⟨S,ρ,o,q⟩:=q
  refine ⟨S,ρ,o,?_⟩
  unfold iRng at q
  try dsimp only at q
  cases e:Fs ρ with
  | exc c=>rw [e] at q;exact q
  | bad=>rw [e] at q;exact q
  | ok ts =>
   rw [e,Res.bind_ok] at q
   intro vs H' S' A g
   unfold rng1 at q
   split at q
   ·rename_i j
    split at q
    ·rename_i hj
     have d:=g.den
     unfold Dens at d
     obtain⟨A1,A2,v,vs',_,rfl,d1,d2⟩:=d
     unfold Dens at d2
     obtain⟨_,rfl⟩:=d2
     obtain⟨_,rfl⟩:=zac.mp d1
     exact⟨j,rfl,hj.1,hj.2,q _ H' S' g.g (zkO _ _)⟩
    ·exact (show False from q).elim
   ·exact (show False from q).elim
end
def zoo (K:PySem.W.Frag) (g:TG) (gT:T→SEnv→Option SEnv):Prop:=∀ z S As ρ σ H t v ρ' (Q:St→Hp→Prop),Ok K z S As ρ σ H→Den K H S t .al [] v→gT t ρ=some ρ'→(∀ As' σ',Ok K z S As' ρ' σ' H→Q σ' H)→g v σ H Q
noncomputable def gS (i:Nat):T→SEnv→Option SEnv:=fun t ρ=>if i < ρ.length then some (ρ.set i (some (.al,t))) else none
noncomputable def zeq (ρ:VEnv) (i:Nat):Bool:=match ρ[i]? with
 | some none=>true
 | _=>false
theorem zgl {ρ:VEnv} {i:Nat} (h:zeq ρ i=true):ρ[i]? = some none:=by
 unfold zeq at h
 split at h
 ·assumption
 ·cases h
noncomputable def gE (i:Nat):T→VEnv→Option VEnv:=fun t ρ=>if zeq ρ i=true then some (ρ.set i (some t)) else none
noncomputable def gS2 (i j:Nat):T→SEnv→Option SEnv:=fun t ρ=>match t with
 | .tup [x,y]=>(gS i x ρ).bind (gS j y)
 | _=>none
noncomputable def gE2 (i j:Nat):T→VEnv→Option VEnv:=fun t ρ=>match t with
 | .tup [x,y]=>if i=j then none else if zeq ρ j=true then (gE i x ρ).bind (gE j y) else none
 | _=>none
theorem Ok.setAl {K:PySem.W.Frag} {z:Z} {S:Addr→Prop} {As:Nat→List Addr} {ρ:SEnv} {σ:St} {H:Hp} {t:T} {v:V} (o:Ok K z S As ρ σ H) (d:Den K H S t .al [] v) {i:Nat} (hi:i < ρ.length):Ok K z S (fun j=>if j=i then [] else As j) (ρ.set i (some (.al,t))) (σ.set i (some v)) H:=
 o.put ⟨.refl o.dom,List.nodup_nil,fun _ z=>(nomatch z),d⟩ i hi
theorem zaZ {K:PySem.W.Frag} (i:Nat):zoo K (zfN i) (gS i):=by
 intro z S As ρ σ H t v ρ' Q o d e k
 unfold gS at e
 split at e
 ·cases e
  exact k _ _ (o.setAl d (by assumption))
 ·cases e
theorem zaM {α:Type} {l:List (Option α)} {i:Nat} {x:Option α} (h:l[i]? = some x):i < l.length:=(List.getElem?_eq_some_iff.mp h).1
theorem OkE.set {K:PySem.W.Frag} {z:Z} {S:Addr→Prop} {ρ:VEnv} {σ:St} {H:Hp} {t:T} {v:V} (o:OkE K z S ρ σ H) (d:Den K H S t .al [] v) {i:Nat} (hi:ρ[i]? = some none) (hl:i < σ.length):OkE K z S (ρ.set i (some t)) (σ.set i (some v)) H∧OkE K z S ρ (σ.set i (some v)) H:=by
 refine ⟨⟨o.same,o.dom,fun j u e=>?_⟩,⟨o.same,o.dom,fun j u e=>?_⟩⟩
 ·by_cases hj:j=i
  ·subst hj
   rw [List.getElem?_set_self (zaM hi)] at e
   cases e
   exact⟨v,by rw [List.getElem?_set_self hl],d⟩
  ·rw [List.getElem?_set_ne (Ne.symm hj)] at e
   obtain⟨w,h1,h2⟩:=o.sl j u e
   exact⟨w,by rw [List.getElem?_set_ne (Ne.symm hj)];exact h1,h2⟩
 ·have hj:j≠i:=fun q=>by subst q;rw [hi] at e;cases e
  obtain⟨w,h1,h2⟩:=o.sl j u e
  exact⟨w,by rw [List.getElem?_set_ne (Ne.symm hj)];exact h1,h2⟩
theorem zju {K:PySem.W.Frag} (i:Nat) {n:Nat}:∀ z S ρ σ H t v ρ' (Q:St→Hp→Prop),OkE K z S ρ σ H→i < σ.length→Den K H S t .al [] v→gE i t ρ=some ρ'→(∀ σ',OkE K z S ρ' σ' H→OkE K z S ρ σ' H→σ'.length=σ.length→Q σ' H)→zfN i v σ H Q:=by
 intro z S ρ σ H t v ρ' Q o hl d e k
 unfold gE at e
 split at e
 ·cases e
  obtain⟨h1,h2⟩:=o.set d (zgl (by assumption)) hl
  exact k _ h1 h2 (by simp)
 ·cases e
section
variable {X:Cx} {z:Z} {md md1:Md} {F F1 F2:VEnv→Res T} {e a b tg iter:Expr} {es:List Expr} {pos:Pos} {K:PySem.W.Frag} {I:VEnv→Res (List T)} {B:SEnv→SRes} {body:List Stmt} {g:TG} {gT:T→SEnv→Option SEnv}
noncomputable def forL (gT:T→SEnv→Option SEnv) (B:SEnv→SRes):List T→SEnv→SRes
 | [],ρ=>.nx ρ
 | t :: ts,ρ=>match gT t ρ with
  | some ρ1=>(B ρ1).then (forL gT B ts)
  | none=>.bad
noncomputable def sFor (M:List Bool) (I:VEnv→Res (List T)) (gT:T→SEnv→Option SEnv) (B:SEnv→SRes):SEnv→SRes:=fun ρ=>(I (view M ρ)).sthen fun ts=>forL gT B ts (zaz M ρ)
theorem Ok.growS {S S':Addr→Prop} {As:Nat→List Addr} {ρ:SEnv} {σ:St} {H H':Hp} (o:Ok K z S As ρ σ H) (g:Grow H S H' S'):Ok K z S' As ρ σ H':=
 ⟨o.same.trans g.same,g.dom,o.ln,fun a h=>g.up a (o.s0 a h),fun a h=>(g.new a h).elim (o.s1 a) fun q=>.inr (zaV o.same q),o.nd,fun i a h=>let ⟨h1,h2,h3⟩:=o.ow i a h;⟨fun q=>(g.new a q).elim h1 h3,h2,zbP g.same h3⟩,o.dj,fun i m t e=>let ⟨v,h1,h2⟩:=o.sl i m t e;⟨v,h1,h2.mono g.same g.up⟩⟩
theorem zcM (M:List Bool) (hp:PassesOwn (model X.prog X.w) X.A X.env X.xe) (hc:X.calm=true) (hi:JI X z tg I iter) (hg:PG X tg g) (bg:zoo X.K g gT) (hb:JSs X z B body) (hs:∀ x,foldedSetIterable iter X.env x=pure x:=by intro _;rfl) :
  JS X z (sFor M I gT B) (.For tg iter body [] pos):=PS.imp (zib hp hc hi hg hb hs) fun D σ H h=>by
 obtain⟨S,As,ρ,o,h⟩:=h
 refine ⟨_,_,o.view M,?_⟩
 unfold sFor at h
 try dsimp only at h
 cases e:I (view M ρ) with
 | exc c=>rw [e] at h;exact h
 | bad=>rw [e] at h;exact h
 | ok ts =>
  rw [e,Res.sthen_ok] at h
  intro J H1 S1 gr jo
  have o1:=o.share gr
  refine ⟨fun i m σ2 H2=>m=ts.length - i∧i≤ts.length∧∃ S2 As2 ρ2,Ok X.K z S2 As2 ρ2 σ2 H2∧Step X.K S1 H1 S2 H2∧endS X.K z S2 H2 D (forL gT B (ts.drop i) ρ2),⟨ts.length,by simp,Nat.zero_le _,S1,_,_,o1,.refl,h.step (zft gr)⟩,?_⟩
  rintro i m σ2 H2 ⟨rfl,hi,S2,As2,ρ2,o2,s2,h2⟩
  by_cases hlt:i < ts.length
  ·have e1:ts[i]? = some ts[i]:=List.getElem?_eq_getElem hlt
   have e2:ts.drop i=ts[i] :: ts.drop (i + 1):=List.drop_eq_getElem_cons hlt
   obtain⟨hgo,hy⟩:=jo.go H2 S2 s2 o2.dom i _ e1
   rw [e2] at h2
   unfold forL at h2
   cases e3:gT ts[i] ρ2 with
   | none=>rw [e3] at h2;exact (show False from h2).elim
   | some ρ3 =>
    rw [e3] at h2
    replace h2:endS X.K z S2 H2 D ((B ρ3).then (forL gT B (ts.drop (i + 1)))):=h2
    refine .inr ⟨hgo,fun σ' H'=>∃ S3 As3 ρ3,Ok X.K z S3 As3 ρ3 σ' H'∧Step X.K S1 H1 S3 H'∧endS X.K z S3 H' D (forL gT B (ts.drop (i + 1)) ρ3),fun σ' H' ⟨S3,As3,ρ3,o3,s3,h3⟩=>⟨ts.length - (i + 1),by lia,rfl,hlt,S3,As3,ρ3,o3,s3,h3⟩,fun x H3 y=>?_⟩
    obtain⟨g3,d3⟩:=hy x H3 y
    refine bg z S2 As2 ρ2 σ2 H3 _ x ρ3 _ (o2.growS g3) d3 e3 fun As4 σ4 o4=>⟨S2,As4,ρ3,o4,?_⟩
    have s3:Step X.K S2 H2 S2 H3:=g3.step
    replace h2:=h2.step s3
    cases e5:B ρ3 with
    | nx ρ5=>rw [e5] at h2;exact fun S5 As5 σ5 H5 o5 s5=>⟨S5,As5,ρ5,o5,(s2.trans s3).trans s5,h2.step s5⟩
    | rt md t=>rw [e5] at h2;exact h2
    | exc c=>rw [e5] at h2;exact h2
    | bad=>rw [e5] at h2;exact (show False from h2).elim
  ·have ei:i=ts.length:=by lia
   subst ei
   rw [List.drop_length] at h2
   exact .inl ⟨jo.stop H2 S2 s2 o2.dom,h2 S2 As2 σ2 H2 o2 .refl⟩
end
end TL
namespace TL
open PySem PySem.Spec L2
noncomputable def nev (z:Z):Z:={ z with E:=fun _ _ _=>False }
noncomputable def Res.no {α:Type}:Res α→Res α
 | .ok a=>.ok a
 | .exc _=>.bad
 | .bad=>.bad
@[simp] theorem Res.no_ok {α:Type} (a:α):(Res.ok a).no=.ok a:=(rfl)
noncomputable def zbt (ix:List (Option Nat)) (ρ:VEnv):VEnv:=ix.map fun o=>o.bind fun j=>(ρ[j]?).join
noncomputable def mapL (gE:T→VEnv→Option VEnv) (F:VEnv→Res T) (ρ:VEnv):List T→Res (List T)
 | []=>.ok []
 | t :: ts=>(Res.of (gE t ρ)).bind fun ρ1=>(F ρ1).no.bind fun u=>(mapL gE F ρ ts).bind fun us=>.ok (u :: us)
noncomputable def zbc (ix:List (Option Nat)) (I:VEnv→Res (List T)) (gE:T→VEnv→Option VEnv) (F:VEnv→Res T):VEnv→Res T:=fun ρ=>(I ρ).bind fun ts=>(mapL gE F (zbt ix ρ) ts).bind fun us=>.of (zel us)
def ziV (K:PySem.W.Frag) (n:Nat) (g:TG) (gE:T→VEnv→Option VEnv):Prop:=∀ z S ρ σ H t v ρ' (Q:St→Hp→Prop),OkE K z S ρ σ H→σ.length=n→Den K H S t .al [] v→gE t ρ=some ρ'→(∀ σ',OkE K z S ρ' σ' H→OkE K z S ρ σ' H→σ'.length=n→Q σ' H)→g v σ H Q
theorem zaY {K:PySem.W.Frag} {n i:Nat} (hi:i < n):ziV K n (zfN i) (gE i):=by
 intro z S ρ σ H t v ρ' Q o hl d e k
 exact zju (n:=n) i z S ρ σ H t v ρ' Q o (by lia) d e fun σ' h1 h2 h3=>k σ' h1 h2 (h3.trans hl)
theorem OkE.nev {K:PySem.W.Frag} {z:Z} {S:Addr→Prop} {ρ:VEnv} {σ:St} {H:Hp} (o:OkE K z S ρ σ H):OkE K (nev z) S ρ σ H:=⟨o.same,o.dom,o.sl⟩
theorem OkE.inner {K:PySem.W.Frag} {z:Z} {S:Addr→Prop} {ρ:VEnv} {σ:St} {H:Hp} (o:OkE K z S ρ σ H) (ix:List (Option Nat)):OkE K z S (zbt ix ρ) (inner ix σ) H:=by
 refine ⟨o.same,o.dom,fun i t e=>?_⟩
 unfold zbt at e
 rw [List.getElem?_map] at e
 cases q:ix[i]? with
 | none=>rw [q] at e;cases e
 | some oj =>
  rw [q] at e
  cases oj with
  | none=>cases e
  | some j =>
   have e':(ρ[j]?).join=some t:=Option.some.inj e
   have e2:ρ[j]? = some (some t):=by
    cases r:ρ[j]? with
    | none=>rw [r] at e';cases e'
    | some u=>rw [r] at e';cases e';rfl
   obtain⟨v,h1,h2⟩:=o.sl j t e2
   refine ⟨v,?_,h2⟩
   unfold L2.inner
   rw [List.getElem?_map,q]
   show some ((σ[j]?).join)=_
   rw [h1]
   rfl
section
variable {X:Cx} {z:Z} {md mdE:Md} {F:VEnv→Res T} {Bt:VEnv→Res Bool} {elt tg iter c:Expr} {pos:Pos} {K:PySem.W.Frag} {I:VEnv→Res (List T)} {g:TG} {gE:T→VEnv→Option VEnv} {ix:List (Option Nat)} {N':List Str} {scope:Scope}
def Made (K:PySem.W.Frag) (mdE md:Md):Prop:=∀ {H:Hp} {S:Addr→Prop} {H':Hp} {S':Addr→Prop} {A:List Addr} {vs:List V} {ts:List T} {p:Addr},Gots K H S H' S' A vs mdE ts→H' p=none→∃ S2 A2,Got K H S (upd H' p (.lst vs)) S2 A2 (.ref p) md (.lst ts)
theorem zaE:Made K .fu .fu:=fun g hp=>⟨_,_,Got.newFu g hp⟩
theorem zn3 (M:Made K mdE md) (bg:ziV K ix.length g gE) {σ:St} {H:Hp} {Q:VK} (h:tr K z md (zbc ix I gE F) σ H Q):zm4 ix (tri K z I) g (tr K (nev z) mdE F) σ H Q:=by
 obtain⟨S,ρ,o,h⟩:=h
 refine ⟨S,ρ,o,?_⟩
 unfold zbc at h
 try dsimp only at h
 cases e:I ρ with
 | exc c=>rw [e] at h;exact h
 | bad=>rw [e] at h;exact h
 | ok ts =>
  rw [e,Res.bind_ok] at h
  intro J H1 S1 gr jo
  cases e2:mapL gE F (zbt ix ρ) ts with
  | bad=>rw [e2] at h;exact (show False from h).elim
  | exc c=>exact absurd e2 (by
    have:∀ l c,mapL gE F (zbt ix ρ) l≠.exc c:=by
     intro l
     induction l with
     | nil=>intro c q;unfold mapL at q;cases q
     | cons t l ih =>
      intro c q
      unfold mapL at q
      cases r:gE t (zbt ix ρ) with
      | none=>rw [r] at q;cases q
      | some ρ1 =>
       rw [r,Res.of_some,Res.bind_ok] at q
       cases r2:F ρ1 with
       | exc c=>rw [r2] at q;cases q
       | bad=>rw [r2] at q;cases q
       | ok u =>
        rw [r2,Res.no_ok,Res.bind_ok] at q
        cases r3:mapL gE F (zbt ix ρ) l with
        | exc c2=>exact ih _ r3
        | bad=>rw [r3] at q;cases q
        | ok us=>rw [r3] at q;cases q
    exact this ts c)
  | ok us =>
   rw [e2,Res.bind_ok] at h
   cases e3:zel us with
   | none=>rw [e3] at h;exact (show False from h).elim
   | some t0 =>
    rw [e3] at h
    obtain⟨rfl,hz⟩:=ze2 e3
    have o1:=((o.grow gr).inner ix).nev
    refine ⟨fun i m acc σ2 H2=>m=ts.length - i∧i≤ts.length∧σ2.length=ix.length∧∃ S2 A us1 us2,us=us1 ++ us2∧mapL gE F (zbt ix ρ) (ts.drop i)=.ok us2∧Gots K H1 S1 H2 S2 A acc mdE us1∧OkE K (nev z) S2 (zbt ix ρ) σ2 H2,
     ⟨ts.length,by simp,Nat.zero_le _,by unfold L2.inner;rw [List.length_map],S1,[],[],us,rfl,e2,Gots.nil gr.dom,o1⟩,?_⟩
    rintro i m acc σ2 H2 ⟨rfl,hi,hl,S2,A,us1,us2,hu,hm,gs,o2⟩
    refine ⟨by rw [gs.den.length];rw [hu,List.length_append] at hz;lia,?_⟩
    by_cases hlt:i < ts.length
    ·have e1:ts[i]? = some ts[i]:=List.getElem?_eq_getElem hlt
     have ed:ts.drop i=ts[i] :: ts.drop (i + 1):=List.drop_eq_getElem_cons hlt
     obtain⟨hgo,hy⟩:=jo.go H2 S2 gs.g.step gs.g.dom i _ e1
     refine .inr ⟨hgo,fun x H3 y=>?_⟩
     obtain⟨g3,d3⟩:=hy x H3 y
     rw [ed] at hm
     unfold mapL at hm
     cases r:gE ts[i] (zbt ix ρ) with
     | none=>rw [r] at hm;cases hm
     | some ρ1 =>
      rw [r,Res.of_some,Res.bind_ok] at hm
      cases r2:F ρ1 with
      | exc c=>rw [r2] at hm;cases hm
      | bad=>rw [r2] at hm;cases hm
      | ok u =>
       rw [r2,Res.no_ok,Res.bind_ok] at hm
       cases r3:mapL gE F (zbt ix ρ) (ts.drop (i + 1)) with
       | exc c=>rw [r3] at hm;cases hm
       | bad=>rw [r3] at hm;cases hm
       | ok us3 =>
        rw [r3,Res.bind_ok] at hm
        cases hm
        refine bg (nev z) S2 _ σ2 H3 _ x ρ1 _ (o2.grow g3) hl d3 r fun σ4 o4 o5 hl4=>⟨S2,ρ1,o4,?_⟩
        rw [r2]
        intro v H4 S4 A4 g4
        have gs3:Gots K H1 S1 H3 S2 A acc mdE us1:=⟨gs.g.trans g3,gs.nd,gs.ow,gs.den.mono g3.same fun _ h=>h⟩
        exact⟨ts.length - (i + 1),by lia,rfl,hlt,hl4,S4,_,us1 ++ [u],us3,by rw [hu,List.append_assoc];rfl,r3,gs3.snoc g4,o5.grow g4.g⟩
    ·have ei:i=ts.length:=by lia
     subst ei
     rw [List.drop_length] at hm
     unfold mapL at hm
     cases hm
     rw [List.append_nil] at hu
     subst hu
     refine .inl ⟨jo.stop H2 S2 gs.g.step gs.g.dom,fun p hp=>?_⟩
     obtain⟨S5,A5,g5⟩:=M gs hp
     exact h _ _ S5 A5 (g5.trans gr)
theorem zaF (M:Made X.K mdE md) (B:Blk X.env scope) (hix:ixOk X.N N' scope ix=true) (hc:X.calm=true) (hi:JI X z tg I iter) (hg:∀ C s₂ H₂ fp pn,PG (cxB X N' scope C s₂ H₂ fp pn) tg g) (bg:ziV X.K ix.length g gE)
  (he:∀ C s₂ H₂ fp pn,PE (cxB X N' scope C s₂ H₂ fp pn) elt (tr X.K (nev z) mdE F)) (hs:∀ x,foldedSetIterable iter X.env x=pure x:=by intro _;rfl):JE X z md (zbc ix I gE F) (.ListComp elt [⟨tg,iter,[],0⟩] scope pos):=
 PE.imp (znu B hix hc hi hg he hs) fun σ H Q h=>zn3 M bg h
end
end TL
namespace TL
open PySem PySem.Spec L2
mutual
noncomputable def eqT:T→T→Bool
 | .sc x,.sc y=>eqV x y
 | .lst xs,.lst ys=>eqTs xs ys
 | .tup xs,.tup ys=>eqTs xs ys
 | _,_=>false
noncomputable def eqTs:List T→List T→Bool
 | [],[]=>true
 | x :: xs,y :: ys=>eqT x y && eqTs xs ys
 | _,_=>false
end
noncomputable def okT:Nat→T→Bool
 | _,.sc v=>zdN v
 | _,.scr _=>false
 | 0,_=>false
 | d + 1,.lst ts=>ts.all (okT d)
 | d + 1,.tup ts=>ts.all (okT d)
noncomputable def eAt (ts us:List T) (j:Nat):Bool:=match ts[j]?,us[j]? with
 | some t,some u=>eqT t u
 | _,_=>false
theorem zcV:∀ (ts us:List T),ts.length=us.length→(List.range ts.length).all (eAt ts us)=eqTs ts us
 | [],[],_=>by unfold eqTs;rfl
 | [],u :: us,h=>by simp at h
 | t :: ts,[],h=>by simp at h
 | t :: ts,u :: us,h=>by
  have ih:=zcV ts us (by simpa using h)
  rw [List.length_cons,List.range_succ_eq_map,List.all_cons,List.all_map]
  unfold eqTs
  have e1:eAt (t :: ts) (u :: us) 0=eqT t u:=rfl
  have e2:(eAt (t :: ts) (u :: us) ∘ Nat.succ)=eAt ts us:=by funext j;rfl
  rw [e1,e2,ih]
theorem zcd:∀ (ts us:List T),ts.length≠us.length→eqTs ts us=false
 | [],[],h=>absurd rfl h
 | [],u :: us,_=>by unfold eqTs;rfl
 | t :: ts,[],_=>by unfold eqTs;rfl
 | t :: ts,u :: us,h=>by
  unfold eqTs
  rw [zcd ts us (by simpa using h),Bool.and_false]
theorem zix {v:V} (h:zdN v=true):eqV v v=true:=by
 cases v with
 | non=>rfl
 | bl b=>cases b <;> rfl
 | int i=>unfold eqV;simp
 | str x=>unfold eqV;simp
 | _=>cases h
section
variable {X:Cx} {pins:List (Addr×Obj)} {σ:St} {H:Hp} {s:Shared} {S:Addr→Prop}
theorem Inv.lst_tup (I:Inv X pins σ H s) {a:Addr} {vs ws:List V} (h1:H a=some (.lst vs)) (h2:SqT X.K H a ws):False:=by
 rcases h2 with (h2 | ⟨o,h2⟩) | ⟨o,its,n,h2,_⟩
 ·rw [h1] at h2;cases h2
 ·rw [h1] at h2;cases h2
 ·have:=(I.bs a o (I.mod.kin _ _ h2)).2
  rw [h1] at this;cases this
theorem zk4 (I:Inv X pins σ H s):∀ (d:Nat) (t u:T) (x:V),okT d t=true→okT d u=true→Den X.K H S t .al [] x→Den X.K H S u .al [] x→t=u:=by
 intro d
 induction d with
 | zero =>
  intro t u x ht hu d1 d2
  cases t with
  | sc w =>
   cases u with
   | sc w2 =>
    obtain⟨_,rfl⟩:=zac.mp d1
    obtain⟨_,rfl⟩:=zac.mp d2
    rfl
   | _=>unfold okT at hu;cases hu
  | _=>unfold okT at ht;cases ht
 | succ d ih =>
  have seq:∀ (ts us:List T) (vs:List V),ts.all (okT d)=true→us.all (okT d)=true→Dens X.K H S ts .al [] vs→Dens X.K H S us .al [] vs→ts=us:=by
   intro ts
   induction ts with
   | nil =>
    intro us vs _ _ d1 d2
    unfold Dens at d1
    obtain⟨_,rfl⟩:=d1
    cases us with
    | nil=>rfl
    | cons u us=>unfold Dens at d2;obtain⟨_,_,_,_,_,q,_⟩:=d2;cases q
   | cons t ts iht =>
    intro us vs h1 h2 d1 d2
    unfold Dens at d1
    obtain⟨A1,A2,v,vs',ea,rfl,d3,d4⟩:=d1
    obtain⟨rfl,rfl⟩:=List.append_eq_nil_iff.mp ea.symm
    cases us with
    | nil=>unfold Dens at d2;obtain⟨_,q⟩:=d2;cases q
    | cons u us =>
     unfold Dens at d2
     obtain⟨B1,B2,v2,vs2,eb,q,d5,d6⟩:=d2
     cases q
     obtain⟨rfl,rfl⟩:=List.append_eq_nil_iff.mp eb.symm
     rw [List.all_cons,Bool.and_eq_true] at h1 h2
     rw [ih t u v h1.1 h2.1 d3 d5,iht us vs' h1.2 h2.2 d4 d6]
  intro t u x ht hu d1 d2
  cases t with
  | sc w =>
   obtain⟨_,rfl⟩:=zac.mp d1
   cases u with
   | sc w2 =>
    obtain⟨_,rfl⟩:=zac.mp d2
    rfl
   | lst us=>obtain⟨_,a,vs,rfl,_⟩:=zag.mp d2;cases ht
   | tup us=>obtain⟨_,a,vs,rfl,_⟩:=zar.mp d2;cases ht
   | scr ns=>unfold okT at hu;cases hu
  | scr ns=>unfold okT at ht;cases ht
  | lst ts =>
   obtain⟨_,a,vs,rfl,_,h1,h2⟩:=zag.mp d1
   cases u with
   | sc w2=>obtain⟨_,rfl⟩:=zac.mp d2;cases hu
   | lst us =>
    obtain⟨_,a',vs',e,_,h3,h4⟩:=zag.mp d2
    cases e
    rw [h1] at h3
    cases h3
    rw [seq ts us vs ht hu h2 h4]
   | tup us =>
    obtain⟨_,a',vs',e,h3,h4⟩:=zar.mp d2
    cases e
    exact (Inv.lst_tup I h1 h3).elim
   | scr ns=>unfold okT at hu;cases hu
  | tup ts =>
   obtain⟨_,a,vs,rfl,h1,h2⟩:=zar.mp d1
   cases u with
   | sc w2=>obtain⟨_,rfl⟩:=zac.mp d2;cases hu
   | lst us =>
    obtain⟨_,a',vs',e,_,h3,h4⟩:=zag.mp d2
    cases e
    exact (Inv.lst_tup I h3 h1).elim
   | tup us =>
    obtain⟨_,a',vs',e,h3,h4⟩:=zar.mp d2
    cases e
    obtain rfl:=I.tuple_inj h1 h3
    rw [seq ts us vs ht hu h2 h4]
   | scr ns=>unfold okT at hu;cases hu
theorem zl9:∀ (d:Nat) (t:T),okT d t=true→eqT t t=true:=by
 intro d
 induction d with
 | zero =>
  intro t h
  cases t with
  | sc w=>unfold eqT;exact zix h
  | _=>unfold okT at h;cases h
 | succ d ih =>
  have seq:∀ ts:List T,ts.all (okT d)=true→eqTs ts ts=true:=by
   intro ts
   induction ts with
   | nil=>intro _;unfold eqTs;rfl
   | cons t ts iht =>
    intro h
    rw [List.all_cons,Bool.and_eq_true] at h
    unfold eqTs
    rw [ih t h.1,iht h.2]
    rfl
  intro t h
  cases t with
  | sc w=>unfold eqT;exact zix h
  | scr ns=>unfold okT at h;cases h
  | lst ts=>unfold eqT;exact seq ts h
  | tup ts=>unfold eqT;exact seq ts h
theorem ziF (I:Inv X pins σ H s) (d:Nat) (t u:T) (x:V) (h1:okT d t=true) (h2:okT d u=true) (d1:Den X.K H S t .al [] x) (d2:Den X.K H S u .al [] x):eqT t u=true:=by
 rw [← zk4 I d t u x h1 h2 d1 d2]
 exact zl9 d t h1
theorem zew (A:Around):A.in1.units=A.units + 1:=rfl
theorem zcH {A:Around} {d:Nat} (ih:∀ (A:Around) (t u:T) (x y:V) (vx vy:Value),okT d t=true→okT d u=true→A.units + d < cLine→Den X.K H S t .al [] x→Den X.K H S u .al [] y→RelV x vx→RelV y vy→SeqAt.EqAt A s vx vy (eqT t u))
  {ts us:List T} {vs ws:List V} {its its2:List Value} (h1:ts.all (okT d)=true) (h2:us.all (okT d)=true) (hA:A.units + (d + 1) < cLine) (d1:Dens X.K H S ts .al [] vs) (d2:Dens X.K H S us .al [] ws) (r1:Vals vs its) (r2:Vals ws its2) :
  ∀ j (g1:j < its.toArray.size) (g2:j < its2.toArray.size),SeqAt.EqAt A.in1 s its.toArray[j] its2.toArray[j] (eAt ts us j):=by
 intro j g1 g2
 have l1:=d1.length
 have l2:=d2.length
 have l3:=r1.length
 have l4:=r2.length
 simp only [List.size_toArray] at g1 g2
 have e1:ts[j]? = some ts[j]:=List.getElem?_eq_getElem (by lia)
 have e2:us[j]? = some us[j]:=List.getElem?_eq_getElem (by lia)
 obtain⟨v,q1,p1⟩:=d1.get e1
 obtain⟨w,q2,p2⟩:=d2.get e2
 obtain⟨x1,f1,b1⟩:=r1.get q1
 obtain⟨x2,f2,b2⟩:=r2.get q2
 have c1:its.toArray[j]=x1:=by
  have:its[j]? = some its[j]:=List.getElem?_eq_getElem g1
  rw [f1] at this
  simp
  exact (Option.some.inj this).symm
 have c2:its2.toArray[j]=x2:=by
  have:its2[j]? = some its2[j]:=List.getElem?_eq_getElem g2
  rw [f2] at this
  simp
  exact (Option.some.inj this).symm
 have ee:eAt ts us j=eqT ts[j] us[j]:=by unfold eAt;rw [e1,e2]
 rw [c1,c2,ee]
 exact ih A.in1 _ _ v w x1 x2 (List.all_eq_true.mp h1 _ (List.getElem_mem _)) (List.all_eq_true.mp h2 _ (List.getElem_mem _)) (by rw [zew];lia) p1 p2 b1 b2
theorem zkX (I:Inv X pins σ H s):∀ (d:Nat) (A:Around) (t u:T) (x y:V) (vx vy:Value),okT d t=true→okT d u=true→A.units + d < cLine→Den X.K H S t .al [] x→Den X.K H S u .al [] y→RelV x vx→RelV y vy→SeqAt.EqAt A s vx vy (eqT t u):=by
 have scsc:∀ (A:Around) (w1 w2:V) (x y:V) (vx vy:Value),zdN w1=true→zdN w2=true→Den X.K H S (.sc w1) .al [] x→Den X.K H S (.sc w2) .al [] y→RelV x vx→RelV y vy→SeqAt.EqAt A s vx vy (eqT (.sc w1) (.sc w2)):=by
  intro A w1 w2 x y vx vy h1 h2 d1 d2 r1 r2
  obtain⟨_,rfl⟩:=zac.mp d1
  obtain⟨_,rfl⟩:=zac.mp d2
  unfold eqT
  exact zpI r1 r2 h1 h2
 intro d
 induction d with
 | zero =>
  intro A t u x y vx vy ht hu _ d1 d2 r1 r2
  cases t with
  | sc w =>
   cases u with
   | sc w2=>exact scsc A w w2 x y vx vy ht hu d1 d2 r1 r2
   | _=>unfold okT at hu;cases hu
  | _=>unfold okT at ht;cases ht
 | succ d ih =>
  intro A t u x y vx vy ht hu hA d1 d2 r1 r2
  have hA0:A.units < cLine:=by lia
  cases t with
  | scr ns=>unfold okT at ht;cases ht
  | sc w =>
   cases u with
   | scr ns=>unfold okT at hu;cases hu
   | sc w2=>exact scsc A w w2 x y vx vy ht hu d1 d2 r1 r2
   | lst us =>
    obtain⟨_,rfl⟩:=zac.mp d1
    obtain⟨_,a,vs,rfl,_,h1,h2⟩:=zag.mp d2
    cases r2
    obtain⟨its,_,pl,_⟩:=I.list (.of h1)
    have e:eqT (.sc x) (.lst us)=false:=by unfold eqT;rfl
    rw [e]
    cases x with
    | non=>cases r1;exact .none_list pl.isList hA0
    | bl b=>cases r1;exact .bool_list b pl.isList hA0
    | int i=>obtain⟨t,rfl⟩:=r1;exact .int_list i t pl.isList hA0
    | str i=>obtain⟨t,rfl⟩:=r1;exact .str_list i t pl.isList hA0
    | _=>cases ht
   | tup us =>
    obtain⟨_,rfl⟩:=zac.mp d1
    obtain⟨_,a,vs,rfl,h1,h2⟩:=zar.mp d2
    cases r2
    obtain⟨its,_,pl,_⟩:=I.tuple h1
    have e:eqT (.sc x) (.tup us)=false:=by unfold eqT;rfl
    rw [e]
    cases x with
    | non=>cases r1;exact .none_tuple pl hA0
    | bl b=>cases r1;exact .bool_tuple b pl hA0
    | int i=>obtain⟨t,rfl⟩:=r1;exact .int_tuple i t pl hA0
    | str i=>obtain⟨t,rfl⟩:=r1;exact .str_tuple i t pl hA0
    | _=>cases ht
  | lst ts =>
   obtain⟨_,a,vs,rfl,_,h1,h2⟩:=zag.mp d1
   cases r1
   obtain⟨its,rv,pl,_⟩:=I.list (.of h1)
   cases u with
   | scr ns=>unfold okT at hu;cases hu
   | sc w =>
    obtain⟨_,rfl⟩:=zac.mp d2
    have e:eqT (.lst ts) (.sc y)=false:=by unfold eqT;rfl
    rw [e]
    cases y with
    | non=>cases r2;exact .list_none pl.isList hA0
    | bl b=>cases r2;exact .list_bool b pl.isList hA0
    | int i=>obtain⟨t,rfl⟩:=r2;exact .list_int i t pl.isList hA0
    | str i=>obtain⟨t,rfl⟩:=r2;exact .list_str i t pl.isList hA0
    | _=>cases hu
   | tup us =>
    obtain⟨_,b,ws,rfl,h3,h4⟩:=zar.mp d2
    cases r2
    obtain⟨its2,rv2,pl2,_⟩:=I.tuple h3
    have e:eqT (.lst ts) (.tup us)=false:=by unfold eqT;rfl
    rw [e]
    exact .list_tuple pl.isList pl2 hA0
   | lst us =>
    have d2':=d2
    obtain⟨_,b,ws,rfl,_,h3,h4⟩:=zag.mp d2
    cases r2
    by_cases hab:a=b
    ·subst hab
     rw [ziF I (d + 1) _ _ _ ht hu d1 d2']
     exact .same _
    ·obtain⟨its2,rv2,pl2,_⟩:=I.list (.of h3)
     refine SeqAt.EqAt.of_refs hab ?_
     have l1:=h2.length;have l2:=h4.length;have l3:=rv.length;have l4:=rv2.length
     unfold eqT
     by_cases hl:ts.length=us.length
     ·rw [← zcV ts us hl]
      have:=SeqAt.RcAt.lists pl.isList pl2.isList (by simp;lia) hA0 (zcH ih ht hu hA h2 h4 rv rv2)
      simp only [List.size_toArray] at this
      rw [show its.length=ts.length by lia] at this
      exact this
     ·rw [zcd ts us hl]
      exact SeqAt.RcAt.lists_lengths pl.isList pl2.isList (by simp;lia) hA0
  | tup ts =>
   obtain⟨_,a,vs,rfl,h1,h2⟩:=zar.mp d1
   cases r1
   obtain⟨its,rv,pl,_⟩:=I.tuple h1
   cases u with
   | scr ns=>unfold okT at hu;cases hu
   | sc w =>
    obtain⟨_,rfl⟩:=zac.mp d2
    have e:eqT (.tup ts) (.sc y)=false:=by unfold eqT;rfl
    rw [e]
    cases y with
    | non=>cases r2;exact .tuple_none pl hA0
    | bl b=>cases r2;exact .tuple_bool b pl hA0
    | int i=>obtain⟨t,rfl⟩:=r2;exact .tuple_int i t pl hA0
    | str i=>obtain⟨t,rfl⟩:=r2;exact .tuple_str i t pl hA0
    | _=>cases hu
   | lst us =>
    obtain⟨_,b,ws,rfl,_,h3,h4⟩:=zag.mp d2
    cases r2
    obtain⟨its2,rv2,pl2,_⟩:=I.list (.of h3)
    have e:eqT (.tup ts) (.lst us)=false:=by unfold eqT;rfl
    rw [e]
    exact .tuple_list pl pl2.isList hA0
   | tup us =>
    have d2':=d2
    obtain⟨_,b,ws,rfl,h3,h4⟩:=zar.mp d2
    cases r2
    by_cases hab:a=b
    ·subst hab
     rw [ziF I (d + 1) _ _ _ ht hu d1 d2']
     exact .same _
    ·obtain⟨its2,rv2,pl2,_⟩:=I.tuple h3
     refine SeqAt.EqAt.of_refs hab ?_
     have l1:=h2.length;have l2:=h4.length;have l3:=rv.length;have l4:=rv2.length
     have:=SeqAt.RcAt.tuples pl pl2 hA0 (zcH ih ht hu hA h2 h4 rv rv2)
     simp only [List.size_toArray] at this
     unfold eqT
     by_cases hl:ts.length=us.length
     ·rw [← zcV ts us hl]
      rw [show min its.length its2.length=ts.length by lia,show (its.length == its2.length)=true by simp;lia,Bool.and_true] at this
      exact this
     ·rw [zcd ts us hl]
      rw [show (its.length == its2.length)=false by simp;lia,Bool.and_false] at this
      exact this
end
end TL
namespace TL
open PySem PySem.Spec L2
theorem zoQ {A:Around} {s:Shared} {y x:V} {p q:Value} (ry:RelV y p) (rx:RelV x q) (fy:zdN y=true) (fx:zdN x=true):SeqAt.RcAt A s p q (eqV y x):=by
 cases y with
 | non =>
  cases ry
  cases x with
  | non=>cases rx;exact SeqAt.RcAt.none_none
  | bl b=>cases rx;exact SeqAt.RcAt.none_bool b
  | int b=>obtain⟨u,rfl⟩:=rx;exact SeqAt.RcAt.none_int b u
  | str b=>obtain⟨u,rfl⟩:=rx;exact SeqAt.RcAt.none_str b u
  | _=>exact absurd (show false=true from fx) Bool.false_ne_true
 | bl a =>
  cases ry
  cases x with
  | non=>cases rx;exact SeqAt.RcAt.bool_none a
  | bl b=>cases rx;exact SeqAt.RcAt.bool_bool a b
  | int b=>obtain⟨u,rfl⟩:=rx;exact SeqAt.RcAt.bool_int a b u
  | str b=>obtain⟨u,rfl⟩:=rx;exact SeqAt.RcAt.bool_str a b u
  | _=>exact absurd (show false=true from fx) Bool.false_ne_true
 | int a =>
  obtain⟨t,rfl⟩:=ry
  cases x with
  | non=>cases rx;exact SeqAt.RcAt.int_none a t
  | bl b=>cases rx;exact SeqAt.RcAt.int_bool a t b
  | int b=>obtain⟨u,rfl⟩:=rx;exact SeqAt.RcAt.int_int a t b u
  | str b=>obtain⟨u,rfl⟩:=rx;exact SeqAt.RcAt.int_str a t b u
  | _=>exact absurd (show false=true from fx) Bool.false_ne_true
 | str a =>
  obtain⟨t,rfl⟩:=ry
  cases x with
  | non=>cases rx;exact SeqAt.RcAt.str_none a t
  | bl b=>cases rx;exact SeqAt.RcAt.str_bool a t b
  | int b=>obtain⟨u,rfl⟩:=rx;exact SeqAt.RcAt.str_int a t b u
  | str b=>obtain⟨u,rfl⟩:=rx;exact SeqAt.RcAt.str_str a t b u
  | _=>exact absurd (show false=true from fx) Bool.false_ne_true
 | _=>exact absurd (show false=true from fy) Bool.false_ne_true
theorem zlG {A:Around} {s:Shared} {y x:V} {p q:Value} (ry:RelV y p) (rx:RelV x q) (fy:zdN y=true) (fx:zdN x=true):SeqAt.RcNeAt A s p q (!eqV y x):=by
 cases y with
 | non =>
  cases ry
  cases x with
  | non=>cases rx;exact SeqAt.RcNeAt.none_none
  | bl b=>cases rx;exact SeqAt.RcNeAt.none_bool b
  | int b=>obtain⟨u,rfl⟩:=rx;exact SeqAt.RcNeAt.none_int b u
  | str b=>obtain⟨u,rfl⟩:=rx;exact SeqAt.RcNeAt.none_str b u
  | _=>exact absurd (show false=true from fx) Bool.false_ne_true
 | bl a =>
  cases ry
  cases x with
  | non=>cases rx;exact SeqAt.RcNeAt.bool_none a
  | bl b=>cases rx;exact SeqAt.RcNeAt.bool_bool a b
  | int b=>obtain⟨u,rfl⟩:=rx;exact SeqAt.RcNeAt.bool_int a b u
  | str b=>obtain⟨u,rfl⟩:=rx;exact SeqAt.RcNeAt.bool_str a b u
  | _=>exact absurd (show false=true from fx) Bool.false_ne_true
 | int a =>
  obtain⟨t,rfl⟩:=ry
  cases x with
  | non=>cases rx;exact SeqAt.RcNeAt.int_none a t
  | bl b=>cases rx;exact SeqAt.RcNeAt.int_bool a t b
  | int b=>obtain⟨u,rfl⟩:=rx;exact SeqAt.RcNeAt.int_int a t b u
  | str b=>obtain⟨u,rfl⟩:=rx;exact SeqAt.RcNeAt.int_str a t b u
  | _=>exact absurd (show false=true from fx) Bool.false_ne_true
 | str a =>
  obtain⟨t,rfl⟩:=ry
  cases x with
  | non=>cases rx;exact SeqAt.RcNeAt.str_none a t
  | bl b=>cases rx;exact SeqAt.RcNeAt.str_bool a t b
  | int b=>obtain⟨u,rfl⟩:=rx;exact SeqAt.RcNeAt.str_int a t b u
  | str b=>obtain⟨u,rfl⟩:=rx;exact SeqAt.RcNeAt.str_str a t b u
  | _=>exact absurd (show false=true from fx) Bool.false_ne_true
 | _=>exact absurd (show false=true from fy) Bool.false_ne_true
section
variable {X:Cx} {pins:List (Addr×Obj)} {σ:St} {H:Hp} {s:Shared} {S:Addr→Prop} {md:Md}
theorem zqJ (I:Inv X pins σ H s) (d:Nat) (A:Around) (t u:T) (x y:V) (vx vy:Value) (ht:okT (d + 1) t=true) (hu:okT (d + 1) u=true) (hA:A.units + (d + 1) < cLine) (d1:Den X.K H S t .al [] x) (d2:Den X.K H S u .al [] y) (r1:RelV x vx) (r2:RelV y vy):SeqAt.RcAt A s vx vy (eqT t u):=by
 have hA0:A.units < cLine:=by lia
 cases t with
 | scr ns=>unfold okT at ht;cases ht
 | sc w =>
  obtain⟨_,rfl⟩:=zac.mp d1
  cases u with
  | scr ns=>unfold okT at hu;cases hu
  | sc w2 =>
   obtain⟨_,rfl⟩:=zac.mp d2
   have e:eqT (.sc x) (.sc y)=eqV x y:=by unfold eqT;rfl
   rw [e]
   exact zoQ r1 r2 ht hu
  | lst us =>
   obtain⟨_,a,vs,rfl,_,h1,h2⟩:=zag.mp d2
   cases r2
   obtain⟨its,_,pl,_⟩:=I.list (.of h1)
   have e:eqT (.sc x) (.lst us)=false:=by unfold eqT;rfl
   rw [e]
   cases x with
   | non=>cases r1;exact SeqAt.RcAt.none_list pl.isList hA0
   | bl b=>cases r1;exact SeqAt.RcAt.bool_list b pl.isList hA0
   | int i=>obtain⟨t,rfl⟩:=r1;exact SeqAt.RcAt.int_list i t pl.isList hA0
   | str i=>obtain⟨t,rfl⟩:=r1;exact SeqAt.RcAt.str_list i t pl.isList hA0
   | _=>cases ht
  | tup us =>
   obtain⟨_,a,vs,rfl,h1,h2⟩:=zar.mp d2
   cases r2
   obtain⟨its,_,pl,_⟩:=I.tuple h1
   have e:eqT (.sc x) (.tup us)=false:=by unfold eqT;rfl
   rw [e]
   cases x with
   | non=>cases r1;exact SeqAt.RcAt.none_tuple pl hA0
   | bl b=>cases r1;exact SeqAt.RcAt.bool_tuple b pl hA0
   | int i=>obtain⟨t,rfl⟩:=r1;exact SeqAt.RcAt.int_tuple i t pl hA0
   | str i=>obtain⟨t,rfl⟩:=r1;exact SeqAt.RcAt.str_tuple i t pl hA0
   | _=>cases ht
 | lst ts =>
  obtain⟨_,a,vs,rfl,_,h1,h2⟩:=zag.mp d1
  cases r1
  obtain⟨its,rv,pl,_⟩:=I.list (.of h1)
  cases u with
  | scr ns=>unfold okT at hu;cases hu
  | sc w =>
   obtain⟨_,rfl⟩:=zac.mp d2
   have e:eqT (.lst ts) (.sc y)=false:=by unfold eqT;rfl
   rw [e]
   cases y with
   | non=>cases r2;exact SeqAt.RcAt.list_none pl.isList hA0
   | bl b=>cases r2;exact SeqAt.RcAt.list_bool b pl.isList hA0
   | int i=>obtain⟨t,rfl⟩:=r2;exact SeqAt.RcAt.list_int i t pl.isList hA0
   | str i=>obtain⟨t,rfl⟩:=r2;exact SeqAt.RcAt.list_str i t pl.isList hA0
   | _=>cases hu
  | tup us =>
   obtain⟨_,b,ws,rfl,h3,h4⟩:=zar.mp d2
   cases r2
   obtain⟨its2,rv2,pl2,_⟩:=I.tuple h3
   have e:eqT (.lst ts) (.tup us)=false:=by unfold eqT;rfl
   rw [e]
   exact SeqAt.RcAt.list_tuple pl.isList pl2 hA0
  | lst us =>
   obtain⟨_,b,ws,rfl,_,h3,h4⟩:=zag.mp d2
   cases r2
   obtain⟨its2,rv2,pl2,_⟩:=I.list (.of h3)
   have l1:=h2.length;have l2:=h4.length;have l3:=rv.length;have l4:=rv2.length
   unfold eqT
   by_cases hl:ts.length=us.length
   ·rw [← zcV ts us hl]
    have:=SeqAt.RcAt.lists pl.isList pl2.isList (by simp;lia) hA0 (zcH (zkX I d) ht hu hA h2 h4 rv rv2)
    simp only [List.size_toArray] at this
    rw [show its.length=ts.length by lia] at this
    exact this
   ·rw [zcd ts us hl]
    exact SeqAt.RcAt.lists_lengths pl.isList pl2.isList (by simp;lia) hA0
 | tup ts =>
  obtain⟨_,a,vs,rfl,h1,h2⟩:=zar.mp d1
  cases r1
  obtain⟨its,rv,pl,_⟩:=I.tuple h1
  cases u with
  | scr ns=>unfold okT at hu;cases hu
  | sc w =>
   obtain⟨_,rfl⟩:=zac.mp d2
   have e:eqT (.tup ts) (.sc y)=false:=by unfold eqT;rfl
   rw [e]
   cases y with
   | non=>cases r2;exact SeqAt.RcAt.tuple_none pl hA0
   | bl b=>cases r2;exact SeqAt.RcAt.tuple_bool b pl hA0
   | int i=>obtain⟨t,rfl⟩:=r2;exact SeqAt.RcAt.tuple_int i t pl hA0
   | str i=>obtain⟨t,rfl⟩:=r2;exact SeqAt.RcAt.tuple_str i t pl hA0
   | _=>cases hu
  | lst us =>
   obtain⟨_,b,ws,rfl,_,h3,h4⟩:=zag.mp d2
   cases r2
   obtain⟨its2,rv2,pl2,_⟩:=I.list (.of h3)
   have e:eqT (.tup ts) (.lst us)=false:=by unfold eqT;rfl
   rw [e]
   exact SeqAt.RcAt.tuple_list pl pl2.isList hA0
  | tup us =>
   obtain⟨_,b,ws,rfl,h3,h4⟩:=zar.mp d2
   cases r2
   obtain⟨its2,rv2,pl2,_⟩:=I.tuple h3
   have l1:=h2.length;have l2:=h4.length;have l3:=rv.length;have l4:=rv2.length
   have:=SeqAt.RcAt.tuples pl pl2 hA0 (zcH (zkX I d) ht hu hA h2 h4 rv rv2)
   simp only [List.size_toArray] at this
   unfold eqT
   by_cases hl:ts.length=us.length
   ·rw [← zcV ts us hl]
    rw [show min its.length its2.length=ts.length by lia,show (its.length == its2.length)=true by simp;lia,Bool.and_true] at this
    exact this
   ·rw [zcd ts us hl]
    rw [show (its.length == its2.length)=false by simp;lia,Bool.and_false] at this
    exact this
theorem znj (I:Inv X pins σ H s) (d:Nat) (A:Around) (t u:T) (x y:V) (vx vy:Value) (ht:okT (d + 1) t=true) (hu:okT (d + 1) u=true) (hA:A.units + (d + 1) < cLine) (d1:Den X.K H S t .al [] x) (d2:Den X.K H S u .al [] y) (r1:RelV x vx) (r2:RelV y vy):SeqAt.RcNeAt A s vx vy (!eqT t u):=by
 have hA0:A.units < cLine:=by lia
 cases t with
 | scr ns=>unfold okT at ht;cases ht
 | sc w =>
  obtain⟨_,rfl⟩:=zac.mp d1
  cases u with
  | scr ns=>unfold okT at hu;cases hu
  | sc w2 =>
   obtain⟨_,rfl⟩:=zac.mp d2
   have e:eqT (.sc x) (.sc y)=eqV x y:=by unfold eqT;rfl
   rw [e]
   exact zlG r1 r2 ht hu
  | lst us =>
   obtain⟨_,a,vs,rfl,_,h1,h2⟩:=zag.mp d2
   cases r2
   obtain⟨its,_,pl,_⟩:=I.list (.of h1)
   have e:eqT (.sc x) (.lst us)=false:=by unfold eqT;rfl
   rw [e]
   cases x with
   | non=>cases r1;exact SeqAt.RcNeAt.none_list pl.isList hA0
   | bl b=>cases r1;exact SeqAt.RcNeAt.bool_list b pl.isList hA0
   | int i=>obtain⟨t,rfl⟩:=r1;exact SeqAt.RcNeAt.int_list i t pl.isList hA0
   | str i=>obtain⟨t,rfl⟩:=r1;exact SeqAt.RcNeAt.str_list i t pl.isList hA0
   | _=>cases ht
  | tup us =>
   obtain⟨_,a,vs,rfl,h1,h2⟩:=zar.mp d2
   cases r2
   obtain⟨its,_,pl,_⟩:=I.tuple h1
   have e:eqT (.sc x) (.tup us)=false:=by unfold eqT;rfl
   rw [e]
   cases x with
   | non=>cases r1;exact SeqAt.RcNeAt.none_tuple pl hA0
   | bl b=>cases r1;exact SeqAt.RcNeAt.bool_tuple b pl hA0
   | int i=>obtain⟨t,rfl⟩:=r1;exact SeqAt.RcNeAt.int_tuple i t pl hA0
   | str i=>obtain⟨t,rfl⟩:=r1;exact SeqAt.RcNeAt.str_tuple i t pl hA0
   | _=>cases ht
 | lst ts =>
  obtain⟨_,a,vs,rfl,_,h1,h2⟩:=zag.mp d1
  cases r1
  obtain⟨its,rv,pl,_⟩:=I.list (.of h1)
  cases u with
  | scr ns=>unfold okT at hu;cases hu
  | sc w =>
   obtain⟨_,rfl⟩:=zac.mp d2
   have e:eqT (.lst ts) (.sc y)=false:=by unfold eqT;rfl
   rw [e]
   cases y with
   | non=>cases r2;exact SeqAt.RcNeAt.list_none pl.isList hA0
   | bl b=>cases r2;exact SeqAt.RcNeAt.list_bool b pl.isList hA0
   | int i=>obtain⟨t,rfl⟩:=r2;exact SeqAt.RcNeAt.list_int i t pl.isList hA0
   | str i=>obtain⟨t,rfl⟩:=r2;exact SeqAt.RcNeAt.list_str i t pl.isList hA0
   | _=>cases hu
  | tup us =>
   obtain⟨_,b,ws,rfl,h3,h4⟩:=zar.mp d2
   cases r2
   obtain⟨its2,rv2,pl2,_⟩:=I.tuple h3
   have e:eqT (.lst ts) (.tup us)=false:=by unfold eqT;rfl
   rw [e]
   exact SeqAt.RcNeAt.list_tuple pl.isList pl2 hA0
  | lst us =>
   obtain⟨_,b,ws,rfl,_,h3,h4⟩:=zag.mp d2
   cases r2
   obtain⟨its2,rv2,pl2,_⟩:=I.list (.of h3)
   have l1:=h2.length;have l2:=h4.length;have l3:=rv.length;have l4:=rv2.length
   unfold eqT
   by_cases hl:ts.length=us.length
   ·rw [← zcV ts us hl]
    have:=SeqAt.RcNeAt.lists pl.isList pl2.isList (by simp;lia) hA0 (zcH (zkX I d) ht hu hA h2 h4 rv rv2)
    simp only [List.size_toArray] at this
    rw [show its.length=ts.length by lia] at this
    exact this
   ·rw [zcd ts us hl]
    exact SeqAt.RcNeAt.lists_lengths pl.isList pl2.isList (by simp;lia) hA0
 | tup ts =>
  obtain⟨_,a,vs,rfl,h1,h2⟩:=zar.mp d1
  cases r1
  obtain⟨its,rv,pl,_⟩:=I.tuple h1
  cases u with
  | scr ns=>unfold okT at hu;cases hu
  | sc w =>
   obtain⟨_,rfl⟩:=zac.mp d2
   have e:eqT (.tup ts) (.sc y)=false:=by unfold eqT;rfl
   rw [e]
   cases y with
   | non=>cases r2;exact SeqAt.RcNeAt.tuple_none pl hA0
   | bl b=>cases r2;exact SeqAt.RcNeAt.tuple_bool b pl hA0
   | int i=>obtain⟨t,rfl⟩:=r2;exact SeqAt.RcNeAt.tuple_int i t pl hA0
   | str i=>obtain⟨t,rfl⟩:=r2;exact SeqAt.RcNeAt.tuple_str i t pl hA0
   | _=>cases hu
  | lst us =>
   obtain⟨_,b,ws,rfl,_,h3,h4⟩:=zag.mp d2
   cases r2
   obtain⟨its2,rv2,pl2,_⟩:=I.list (.of h3)
   have e:eqT (.tup ts) (.lst us)=false:=by unfold eqT;rfl
   rw [e]
   exact SeqAt.RcNeAt.tuple_list pl pl2.isList hA0
  | tup us =>
   obtain⟨_,b,ws,rfl,h3,h4⟩:=zar.mp d2
   cases r2
   obtain⟨its2,rv2,pl2,_⟩:=I.tuple h3
   have l1:=h2.length;have l2:=h4.length;have l3:=rv.length;have l4:=rv2.length
   have:=SeqAt.RcNeAt.tuples pl pl2 hA0 (zcH (zkX I d) ht hu hA h2 h4 rv rv2)
   simp only [List.size_toArray] at this
   unfold eqT
   by_cases hl:ts.length=us.length
   ·rw [← zcV ts us hl]
    rw [show min its.length its2.length=ts.length by lia,show (its.length == its2.length)=true by simp;lia,Bool.and_true] at this
    exact this
   ·rw [zcd ts us hl]
    rw [show (its.length == its2.length)=false by simp;lia,Bool.and_false] at this
    exact this
theorem OpR.imp {f:Value→Value→Sem Value} {r r':R2} (h:OpR X f r) (k:∀ x y H Q,r' x y H Q→r x y H Q):OpR X f r':=fun pins s σ H x y v u Q I r1 r2 q=>h pins s σ H x y v u Q I r1 r2 (k x y H Q q)
theorem zb2.imp {f:Value} {r r':List V→Hp→VK→Prop} (h:zb2 X f r) (k:∀ x H Q,r' x H Q→r x H Q):zb2 X f r':=fun pins s σ H xs us Q I r1 q=>h pins s σ H xs us Q I r1 (k xs H Q q)
noncomputable def oI (g:Int→Int→Option V):T→T→Option T
 | .sc (.int i),.sc (.int j)=>(g i j).map .sc
 | _,_=>none
theorem zec {K:PySem.W.Frag} {g:Int→Int→Option V} {x y:V} {H:Hp} {Q:VK} (h:rT K md (oI g) x y H Q):∃ i j v,x=.int i∧y=.int j∧g i j=some v∧Q v H:=by
 obtain⟨S,t,u,dm,d1,d2,h⟩:=h
 unfold oI at h
 split at h
 ·rename_i i j
  obtain⟨_,rfl⟩:=zac.mp d1
  obtain⟨_,rfl⟩:=zac.mp d2
  cases e:g i j with
  | none=>rw [e] at h;exact (show False from h).elim
  | some v=>rw [e] at h;exact⟨i,j,v,rfl,rfl,e,h v H S [] (Got.sc dm v)⟩
 ·exact (show False from h).elim
noncomputable def iAdd (i j:Int):Option V:=some (.int (i + j))
noncomputable def iSub (i j:Int):Option V:=some (.int (i - j))
noncomputable def iMul (i j:Int):Option V:=if (-(2 ^ 64) < i∧i < 2 ^ 64)∨(-(2 ^ 64) < j∧j < 2 ^ 64) then some (.int (i * j)) else none
noncomputable def iDiv (i j:Int):Option V:=if 0 < j∧j < 1073741824 then some (.int (i / j)) else none
noncomputable def iMod (i j:Int):Option V:=if 0 < j then some (.int (i % j)) else none
noncomputable def iLt (i j:Int):Option V:=some (.bl (decide (i < j)))
noncomputable def iGt (i j:Int):Option V:=some (.bl (decide (j < i)))
theorem zby:OpR X (binaryOp .Add) (rT X.K md (oI iAdd)):=OpR.imp zpc fun x y H Q h=>by
 obtain⟨i,j,v,rfl,rfl,e,q⟩:=zec h
 cases e
 exact⟨i,j,rfl,rfl,q⟩
theorem zg7:OpR X (binaryOp .Sub) (rT X.K md (oI iSub)):=OpR.imp zo7 fun x y H Q h=>by
 obtain⟨i,j,v,rfl,rfl,e,q⟩:=zec h
 cases e
 exact⟨i,j,rfl,rfl,q⟩
theorem zdM:OpR X (binaryOp .Mult) (rT X.K md (oI iMul)):=OpR.imp zo9 fun x y H Q h=>by
 obtain⟨i,j,v,rfl,rfl,e,q⟩:=zec h
 unfold iMul at e
 split at e
 ·cases e;exact⟨i,j,rfl,rfl,by assumption,q⟩
 ·cases e
theorem zcp:OpR X (binaryOp .FloorDiv) (rT X.K md (oI iDiv)):=OpR.imp znx fun x y H Q h=>by
 obtain⟨i,j,v,rfl,rfl,e,q⟩:=zec h
 unfold iDiv at e
 split at e
 ·cases e;exact⟨i,j,rfl,rfl,by assumption,q⟩
 ·cases e
theorem zbv:OpR X (binaryOp .Mod) (rT X.K md (oI iMod)):=OpR.imp zpa fun x y H Q h=>by
 obtain⟨i,j,v,rfl,rfl,e,q⟩:=zec h
 unfold iMod at e
 split at e
 ·cases e;exact⟨i,j,rfl,rfl,by assumption,q⟩
 ·cases e
theorem o_lt:OpR X (compareOp .Lt) (rT X.K md (oI iLt)):=OpR.imp zqP fun x y H Q h=>by
 obtain⟨i,j,v,rfl,rfl,e,q⟩:=zec h
 cases e
 exact⟨i,j,rfl,rfl,q⟩
theorem o_gt:OpR X (compareOp .Gt) (rT X.K md (oI iGt)):=OpR.imp zqQ fun x y H Q h=>by
 obtain⟨i,j,v,rfl,rfl,e,q⟩:=zec h
 cases e
 exact⟨i,j,rfl,rfl,q⟩
noncomputable def oEq (t u:T):Option T:=if okT 5 t=true∧okT 5 u=true then some (.sc (.bl (eqT t u))) else none
noncomputable def oNe (t u:T):Option T:=if okT 5 t=true∧okT 5 u=true then some (.sc (.bl (!eqT t u))) else none
theorem o_eq (hu:X.A.units + 5 < cLine):OpR X (compareOp .Eq) (rT X.K md oEq):=by
 intro pins s σ H x y v u Q I rx ry h
 obtain⟨S,t,w,dm,d1,d2,h⟩:=h
 unfold oEq at h
 split at h
 ·rename_i hk
  exact zqJ I 4 X.A t w x y v u hk.1 hk.2 hu d1 d2 rx ry _ _ _ _ ⟨.bl _,H,I,rfl,h _ H S [] (Got.sc dm _)⟩
 ·exact (show False from h).elim
theorem o_ne (hu:X.A.units + 5 < cLine):OpR X (compareOp .NotEq) (rT X.K md oNe):=by
 intro pins s σ H x y v u Q I rx ry h
 obtain⟨S,t,w,dm,d1,d2,h⟩:=h
 unfold oNe at h
 split at h
 ·rename_i hk
  exact znj I 4 X.A t w x y v u hk.1 hk.2 hu d1 d2 rx ry _ _ _ _ ⟨.bl _,H,I,rfl,h _ H S [] (Got.sc dm _)⟩
 ·exact (show False from h).elim
end
end TL
namespace TL
open PySem PySem.Spec L2
section
variable {X:Cx} {pins:List (Addr×Obj)} {σ:St} {H:Hp} {s:Shared} {S:Addr→Prop} {md:Md} {K:PySem.W.Frag}
noncomputable def zai (ns:List Int):List T:=ns.map fun n=>.sc (.int n)
noncomputable def oIx:T→T→Option T
 | .lst ts,.sc (.int i)=>atI ts i
 | .tup ts,.sc (.int i)=>atI ts i
 | .scr ns,.sc (.int i)=>(atI ns i).map fun n=>.sc (.int n)
 | _,_=>none
theorem zlh {ts:List T} {vs:List V} {i:Int} {t:T} (d:Dens K H S ts .al [] vs) (h:atI ts i=some t):∃ v,atI vs i=some v∧Den K H S t .al [] v:=by
 unfold atI at h ⊢
 rw [d.length]
 cases e:ixN ts.length i with
 | none=>rw [e] at h;cases h
 | some j =>
  rw [e] at h
  exact d.get h
theorem zhr {α β:Type} (f:α→β) (xs:List α) (i:Int):atI (xs.map f) i=(atI xs i).map f:=by
 unfold atI
 rw [List.length_map]
 cases ixN xs.length i with
 | none=>rfl
 | some j=>simp
theorem o_ix:IxR X (rT X.K .al oIx):=by
 intro va sl pins s σ H x y v u Q I rx ry h hs
 obtain⟨S,t,w,dm,d1,d2,h⟩:=h
 unfold oIx at h
 split at h
 ·rename_i ts i
  obtain⟨_,a,vs,rfl,hS,h1,h2⟩:=zag.mp d1
  obtain⟨_,rfl⟩:=zac.mp d2
  cases e:atI ts i with
  | none=>rw [e] at h;exact (show False from h).elim
  | some r =>
   rw [e] at h
   obtain⟨z,e1,e2⟩:=zlh h2 e
   exact zep va sl pins s σ H _ _ v u Q I rx ry ⟨a,vs,i,z,rfl,rfl,.of h1,e1,h z H S [] ⟨.refl dm,List.nodup_nil,fun _ q=>(nomatch q),e2⟩⟩ hs
 ·rename_i ts i
  obtain⟨_,a,vs,rfl,h1,h2⟩:=zar.mp d1
  obtain⟨_,rfl⟩:=zac.mp d2
  cases e:atI ts i with
  | none=>rw [e] at h;exact (show False from h).elim
  | some r =>
   rw [e] at h
   obtain⟨z,e1,e2⟩:=zlh h2 e
   exact zpz va sl pins s σ H _ _ v u Q I rx ry ⟨a,vs,i,z,rfl,rfl,h1,e1,h z H S [] ⟨.refl dm,List.nodup_nil,fun _ q=>(nomatch q),e2⟩⟩ hs
 ·rename_i ns i
  obtain⟨_,a,rfl,h1⟩:=zhm.mp d1
  obtain⟨_,rfl⟩:=zac.mp d2
  cases e:atI ns i with
  | none=>rw [e] at h;exact (show False from h).elim
  | some r =>
   rw [e] at h
   exact zep va sl pins s σ H _ _ v u Q I rx ry ⟨a,_,i,.int r,rfl,rfl,h1.sq,by rw [zhr,e];rfl,h _ H S [] (Got.sc dm _)⟩ hs
 ·exact (show False from h).elim
noncomputable def zfO (ts:List T):Bool:=ts.all isSc
theorem zeA:∀ {ts:List T} {vs:List V},Dens K H S ts .al [] vs→zfO ts=true→Dens K H S ts .fu [] vs
 | [],vs,h,_=>by unfold Dens at h ⊢;exact h
 | t :: ts,vs,h,f=>by
  unfold zfO at f
  rw [List.all_cons,Bool.and_eq_true] at f
  unfold Dens at h ⊢
  obtain⟨A1,A2,v,vs',ea,q,d,r⟩:=h
  obtain⟨rfl,rfl⟩:=List.append_eq_nil_iff.mp ea.symm
  cases t with
  | sc w=>exact⟨[],[],v,vs',rfl,q,zac.mpr (zac.mp d),zeA r f.2⟩
  | scr _=>cases f.1
  | lst _=>cases f.1
  | tup _=>cases f.1
theorem zlS {ts:List T} {vs:List V} {p:Addr} (dm:Dom S H) (hp:H p=none) (d:Dens K H S ts .al [] vs) (hf:md=.sp∨(md=.fu∧zfO ts=true)):∃ A,Got K H S (upd H p (.lst vs)) S A (.ref p) md (.lst ts):=by
 rcases hf with rfl | ⟨rfl,hf⟩
 ·exact⟨_,Got.newSp dm hp d⟩
 ·exact⟨_,Got.newFu ⟨.refl dm,List.nodup_nil,fun _ z=>(nomatch z),zeA d hf⟩ hp⟩
noncomputable def zcf (md:Md) (ts:List T):Option T:=match md with
 | .sp=>some (.lst ts)
 | .fu=>if zfO ts=true then some (.lst ts) else none
 | .al=>none
theorem zjv {ts:List T} {t:T} (h:zcf md ts=some t):t=.lst ts∧(md=.sp∨(md=.fu∧zfO ts=true)):=by
 unfold zcf at h
 split at h
 ·cases h;exact⟨rfl,.inl rfl⟩
 ·split at h
  ·cases h;exact⟨rfl,.inr ⟨rfl,by assumption⟩⟩
  ·cases h
 ·cases h
theorem zcS {ts:List T} {vs:List V} {Q:VK} (dm:Dom S H) (d:Dens K H S ts .al [] vs) (h:endT K H S md Q (zcf md ts)):∀ p,H p=none→Q (.ref p) (upd H p (.lst vs)):=fun p hp=>by
 cases e:zcf md ts with
 | none=>rw [e] at h;exact (show False from h).elim
 | some t =>
  rw [e] at h
  obtain⟨rfl,hf⟩:=zjv e
  obtain⟨A,g⟩:=zlS dm hp d hf
  exact h _ _ S A g
noncomputable def oCat (md:Md):T→T→Option T
 | .lst xs,.lst ys=>if xs.length + ys.length≤sizeLine then zcf md (xs ++ ys) else none
 | _,_=>none
theorem zqS:OpR X (binaryOp .Add) (rT X.K md (oCat md)):=OpR.imp zpb fun x y H Q h=>by
 obtain⟨S,t,u,dm,d1,d2,h⟩:=h
 unfold oCat at h
 split at h
 ·rename_i xs ys
  split at h
  ·obtain⟨_,a,vs,rfl,hS,h1,h2⟩:=zag.mp d1
   obtain⟨_,b,ws,rfl,hS',h3,h4⟩:=zag.mp d2
   exact⟨a,b,vs,ws,rfl,rfl,h1,h3,by rw [h2.length,h4.length];assumption,zcS dm (h2.append h4) h⟩
  ·exact (show False from h).elim
 ·exact (show False from h).elim
noncomputable def repT (k:Nat) (xs:List T):List T:=(List.replicate k xs).flatten
theorem ziE {xs:List T} {vs:List V} (d:Dens K H S xs .al [] vs):∀ k,Dens K H S (repT k xs) .al [] (List.replicate k vs).flatten
 | 0=>Dens.nil
 | k + 1=>by
  unfold repT
  rw [List.replicate_succ,List.replicate_succ,List.flatten_cons,List.flatten_cons]
  exact d.append (A1:=[]) (A2:=[]) (ziE d k)
noncomputable def oRep (md:Md):T→T→Option T
 | .lst xs,.sc (.int k)=>if -(2 ^ 63)≤k∧k < 2 ^ 63∧xs.length * k.toNat≤sizeLine then zcf md (repT k.toNat xs) else none
 | _,_=>none
theorem zqR:OpR X (binaryOp .Mult) (rT X.K md (oRep md)):=OpR.imp zo8 fun x y H Q h=>by
 obtain⟨S,t,u,dm,d1,d2,h⟩:=h
 unfold oRep at h
 split at h
 ·rename_i xs k
  split at h
  ·rename_i hk
   obtain⟨_,a,vs,rfl,hS,h1,h2⟩:=zag.mp d1
   obtain⟨_,rfl⟩:=zac.mp d2
   exact⟨a,k,vs,rfl,rfl,h1,hk.1,hk.2.1,by rw [h2.length];exact hk.2.2,zcS dm (ziE h2 _) h⟩
  ·exact (show False from h).elim
 ·exact (show False from h).elim
theorem zbz {t:T} {xs:List V} (d:Dens K H S [t] .al [] xs):∃ v,xs=[v]∧Den K H S t .al [] v:=by
 unfold Dens at d
 obtain⟨A1,A2,v,vs,ea,rfl,d1,d2⟩:=d
 unfold Dens at d2
 obtain⟨rfl,rfl⟩:=List.append_eq_nil_iff.mp ea.symm
 exact⟨v,by rw [d2.2],d1⟩
theorem zfP {t u:T} {xs:List V} (d:Dens K H S [t,u] .al [] xs):∃ v w,xs=[v,w]∧Den K H S t .al [] v∧Den K H S u .al [] w:=by
 unfold Dens at d
 obtain⟨A1,A2,v,vs,ea,rfl,d1,d2⟩:=d
 obtain⟨rfl,rfl⟩:=List.append_eq_nil_iff.mp ea.symm
 obtain⟨w,rfl,d3⟩:=zbz d2
 exact⟨v,w,rfl,d1,d3⟩
noncomputable def cLen:List T→Option T
 | [.lst ts]=>some (.sc (.int ts.length))
 | [.tup ts]=>some (.sc (.int ts.length))
 | [.scr ns]=>some (.sc (.int ns.length))
 | _=>none
theorem zdO:zb2 X (.builtin "len") (rCT X.K md cLen):=zb2.imp zgw fun xs H Q h=>by
 obtain⟨S,ts,dm,d,h⟩:=h
 unfold cLen at h
 split at h
 ·rename_i us
  obtain⟨v,rfl,d1⟩:=zbz d
  obtain⟨_,a,vs,rfl,hS,h1,h2⟩:=zag.mp d1
  exact⟨a,vs,rfl,.inl (.of h1),by rw [h2.length];exact h _ H S [] (Got.sc dm _)⟩
 ·rename_i us
  obtain⟨v,rfl,d1⟩:=zbz d
  obtain⟨_,a,vs,rfl,h1,h2⟩:=zar.mp d1
  exact⟨a,vs,rfl,.inr h1,by rw [h2.length];exact h _ H S [] (Got.sc dm _)⟩
 ·rename_i ns
  obtain⟨v,rfl,d1⟩:=zbz d
  obtain⟨_,a,rfl,h1⟩:=zhm.mp d1
  exact⟨a,_,rfl,.inl h1.sq,by rw [List.length_map];exact h _ H S [] (Got.sc dm _)⟩
 ·exact (show False from h).elim
noncomputable def zhp (md:Md):List T→Option T
 | [.lst ts]=>zcf md ts
 | [.tup ts]=>zcf md ts
 | _=>none
theorem zmS:zb2 X (.type "list") (rCT X.K md (zhp md)):=zb2.imp zgv fun xs H Q h=>by
 obtain⟨S,ts,dm,d,h⟩:=h
 unfold zhp at h
 split at h
 ·rename_i us
  obtain⟨v,rfl,d1⟩:=zbz d
  obtain⟨_,a,vs,rfl,hS,h1,h2⟩:=zag.mp d1
  exact⟨a,vs,rfl,.inl (.of h1),zcS dm h2 h⟩
 ·rename_i us
  obtain⟨v,rfl,d1⟩:=zbz d
  obtain⟨_,a,vs,rfl,h1,h2⟩:=zar.mp d1
  exact⟨a,vs,rfl,.inr h1,zcS dm h2 h⟩
 ·exact (show False from h).elim
noncomputable def zbw:List T→Option (List Int)
 | []=>some []
 | t :: ts=>(asI t).bind fun i=>(zbw ts).map (i :: ·)
theorem zbX:∀ {ts:List T} {vs:List V} {ns:List Int},Dens K H S ts .al [] vs→zbw ts=some ns→vs=ns.map V.int
 | [],vs,ns,d,h=>by unfold zbw at h;cases h;unfold Dens at d;rw [d.2];rfl
 | t :: ts,vs,ns,d,h=>by
  unfold zbw at h
  unfold Dens at d
  obtain⟨A1,A2,v,vs',ea,rfl,d1,d2⟩:=d
  obtain⟨rfl,rfl⟩:=List.append_eq_nil_iff.mp ea.symm
  cases e:asI t with
  | none=>rw [e] at h;cases h
  | some i =>
   rw [e] at h
   cases e2:zbw ts with
   | none=>rw [e2] at h;cases h
   | some ms =>
    rw [e2] at h
    have h':some (i :: ms)=some ns:=h
    cases h'
    obtain rfl:=zfU e
    obtain⟨_,rfl⟩:=zac.mp d1
    rw [zbX d2 e2]
    rfl
theorem ziP:∀ {ts:List T} {ns:List Int},zbw ts=some ns→ts=zai ns
 | [],ns,h=>by unfold zbw at h;cases h;rfl
 | t :: ts,ns,h=>by
  unfold zbw at h
  cases e:asI t with
  | none=>rw [e] at h;cases h
  | some i =>
   rw [e] at h
   cases e2:zbw ts with
   | none=>rw [e2] at h;cases h
   | some ms =>
    rw [e2] at h
    have h':some (i :: ms)=some ns:=h
    cases h'
    obtain rfl:=zfU e
    rw [ziP e2]
    rfl
@[simp] theorem za9:∀ ns:List Int,zbw (zai ns)=some ns
 | []=>rfl
 | n :: ns=>by
  show (asI (.sc (.int n))).bind (fun i=>(zbw (zai ns)).map (i :: ·))=_
  rw [za9 ns]
  rfl
theorem zfa:∀ (ns:List Int) (m:Md),Dens K H S (zai ns) m [] (ns.map V.int)
 | [],m=>Dens.nil
 | n :: ns,m=>Dens.cons (A1:=[]) (A2:=[]) (zcN _) (zfa ns m)
theorem zes (I:Inv X pins σ H s) {a:Addr} {vs:List V} {ns:List Int} (h:H a=some (.lst vs)) (e:vs=ns.map V.int):∃ its:List Value,PyProof.Rows.IntsAre its ns∧s.heap.IsList a its.toArray∧ns.length≤sizeLine∧its.length=ns.length:=by
 subst e
 obtain⟨its,r,pl,hz⟩:=I.list (.of h)
 have:=r.length
 rw [List.length_map] at this hz
 exact⟨its,zjo r,pl.isList,hz,this.symm⟩
noncomputable def insI (x:Int):List Int→List Int
 | []=>[x]
 | y :: ys=>if x≤y then x :: y :: ys else y :: insI x ys
noncomputable def zeS:List Int→List Int
 | []=>[]
 | x :: xs=>insI x (zeS xs)
theorem zeu (x:Int):∀ ys:List Int,(insI x ys).Perm (x :: ys)
 | []=>.refl _
 | y :: ys=>by
  unfold insI
  split
  ·exact .refl _
  ·exact ((zeu x ys).cons y).trans (List.Perm.swap x y ys)
theorem zcC:∀ xs:List Int,(zeS xs).Perm xs
 | []=>.refl _
 | x :: xs=>(zeu x _).trans ((zcC xs).cons x)
theorem zet (x:Int):∀ {ys:List Int},ys.Pairwise (·≤·)→(insI x ys).Pairwise (·≤·)
 | [],_=>by unfold insI;simp
 | y :: ys,h=>by
  unfold insI
  have h1:=List.pairwise_cons.mp h
  split
  ·rename_i hxy
   exact List.pairwise_cons.mpr ⟨fun z hz=>by rcases List.mem_cons.mp hz with rfl | hz;exact hxy;exact Int.le_trans hxy (h1.1 z hz),h⟩
  ·rename_i hxy
   refine List.pairwise_cons.mpr ⟨fun z hz=>?_,zet x h1.2⟩
   rcases List.mem_cons.mp ((zeu x ys).mem_iff.mp hz) with rfl | hz
   ·lia
   ·exact h1.1 z hz
theorem zcm:∀ xs:List Int,(zeS xs).Pairwise (·≤·)
 | []=>List.Pairwise.nil
 | x :: xs=>zet x (zcm xs)
theorem zea {a b:List Int} (p:a.Perm b) (h1:a.Pairwise (·≤·)) (h2:b.Pairwise (·≤·)):a=b:=
 p.eq_of_pairwise (fun x y _ _ h g=>Int.le_antisymm h g) h1 h2
noncomputable def zeB:List T→Option T
 | [.lst ts]=>(zbw ts).map fun ns=>.lst (zai (zeS ns))
 | _=>none
theorem zmf:zb2 X (.builtin "sorted") (rCT X.K .fu zeB):=by
 intro pins s σ H xs us Q I r h
 obtain⟨S,ts,dm,d,h⟩:=h
 unfold zeB at h
 split at h
 ·rename_i ts
  obtain⟨v,rfl,d1⟩:=zbz d
  obtain⟨_,a,vs,rfl,hS,h1,h2⟩:=zag.mp d1
  obtain⟨u,rfl,rx⟩:=zjM r
  cases rx
  cases e:zbw ts with
  | none=>rw [e] at h;exact (show False from h).elim
  | some ns =>
   rw [e] at h
   obtain⟨its,i1,i2,hz,hl⟩:=zes I h1 (zbX h2 e)
   refine Srt.sorted_any i2 i1 (by lia) fun out ns' a1 a2 a3=>?_
   have en:ns'=zeS ns:=zea (a2.trans (zcC ns).symm) a3 (zcm ns)
   subst en
   obtain⟨e',he⟩:=PyProof.Rows.sortedAll_at s.heap its out
   refine ⟨.ref (s.heap.objs.size + 1),_,I.laid (t':=s.toks) (o:=.lst ((zeS ns).map V.int)) (fun b ob q=>PyProof.Rows.sortedAll_old q) (Nat.le_succ _) ⟨?_,_,e',zd7 a1,?_⟩,rfl,h _ _ S _ (Got.newFu ⟨.refl dm,List.nodup_nil,fun _ z=>(nomatch z),zfa _ _⟩ (I.hok.fresh (Nat.le_succ _)))⟩
   ·rw [List.length_map,(zcC ns).length_eq];exact hz
   ·rw [he]
 ·exact (show False from h).elim
end
end TL
namespace TL
open PySem PySem.Spec L2
section
variable {X:Cx} {z:Z} {pins:List (Addr×Obj)} {σ:St} {H:Hp} {s:Shared} {S:Addr→Prop} {md md1 md2:Md} {K:PySem.W.Frag} {F F1 F2:VEnv→Res T} {Fs:VEnv→Res (List T)} {e a b:Expr} {pos p2:Pos}
noncomputable abbrev OEnv:=VEnv→Res (Option Int)
noncomputable def zlQ:OEnv:=fun _=>.ok none
noncomputable def zg8 (F:VEnv→Res T):OEnv:=fun ρ=>(F ρ).bind fun t=>(Res.of (asI t)).bind fun i=>.ok (some i)
def tro (K:PySem.W.Frag) (z:Z) (F:OEnv):TO:=fun σ H Q=>∃ S ρ,OkE K z S ρ σ H∧match F ρ with
 | .ok o=>∀ H' S',Grow H S H' S'→Q o H'
 | .exc c=>∀ H',Same z.H₀ H'→z.E (.ref (z.cl c)) none H'
 | .bad=>False
theorem PO.imp {e:Option Expr} {t t':TO} (h:PO X e t) (k:∀ σ H Q,t' σ H Q→t σ H Q):PO X e t':=fun pins s σ H Q I q=>h pins s σ H Q I (k σ H Q q)
theorem zkP:PO X none (tro X.K z zlQ):=PO.imp zns fun σ H Q h=>by
 obtain⟨S,ρ,o,h⟩:=h
 exact h H S (.refl o.dom)
theorem zfK (h:JE X z md F e):PO X (some e) (tro X.K z (zg8 F)):=PO.imp (znr (JE.al h)) fun σ H Q h=>by
 obtain⟨S,ρ,o,h⟩:=h
 refine ⟨S,ρ,o,?_⟩
 unfold zg8 at h
 try dsimp only at h
 cases e:F ρ with
 | exc c=>rw [e] at h;exact h
 | bad=>rw [e] at h;exact h
 | ok t =>
  rw [e,Res.bind_ok] at h
  intro v H' S' A g
  cases e2:asI t with
  | none=>rw [e2] at h;exact (show False from h).elim
  | some i =>
   rw [e2] at h
   obtain rfl:=zfU e2
   obtain⟨_,rfl⟩:=zac.mp g.den
   exact⟨i,rfl,h H' S' g.g⟩
noncomputable def cutT (ts:List T) (lo hi:Option Int):List T:=(ts.drop (HT.sIx ts.length 0 lo)).take (HT.sIx ts.length ts.length hi - HT.sIx ts.length 0 lo)
theorem zmb {ts:List T} {vs:List V} (d:Dens K H S ts .al [] vs) (lo hi:Option Int):Dens K H S (cutT ts lo hi) .al [] (cutV vs lo hi):=by
 unfold cutT cutV
 rw [d.length]
 exact (d.drop _).take _
noncomputable def eSl (md:Md) (F:VEnv→Res T) (Lo Hi:OEnv):VEnv→Res T:=fun ρ=>(F ρ).bind fun t=>(Lo ρ).bind fun lo=>(Hi ρ).bind fun hi=>.of ((asL t).bind fun ts=>zcf md (cutT ts lo hi))
theorem zfL {lo hi:Option Expr} {Lo Hi:OEnv} (he:JE X z md1 F e) (hl:PO X lo (tro X.K z Lo)) (hh:PO X hi (tro X.K z Hi)):JE X z md (eSl md F Lo Hi) (.Subscript e (.Slice lo hi none p2) pos):=
 PE.imp (zlL zm6 (JE.al he) hl hh) fun σ H Q h=>zdr h fun S ρ t v H1 S1 o _ g1 d q=>⟨S1,ρ,o,by
  try dsimp only at q
  cases e1:Lo ρ with
  | exc c=>rw [e1] at q;exact q
  | bad=>rw [e1] at q;exact q
  | ok l =>
   rw [e1,Res.bind_ok] at q
   intro H2 S2 g2
   refine ⟨S2,ρ,o.grow g2,?_⟩
   cases e2:Hi ρ with
   | exc c=>rw [e2] at q;exact q
   | bad=>rw [e2] at q;exact q
   | ok h =>
    rw [e2,Res.bind_ok] at q
    intro H3 S3 g3
    cases t with
    | lst ts =>
     have d3:=(d.mono g2.same g2.up).mono g3.same g3.up
     obtain⟨_,a,vs,rfl,hS,h1,h2⟩:=zag.mp d3
     exact⟨a,vs,rfl,.of h1,zcS g3.dom (zmb h2 l h) (ze8 (z:=z) (endE.grow (g2.trans g3) q))⟩
    | sc _=>exact (show False from q).elim
    | scr _=>exact (show False from q).elim
    | tup _=>exact (show False from q).elim⟩
theorem zdf {α β:Type} {f g:α→Option β}:∀ {l:List α},(∀ x∈l,f x=g x)→l.filterMap f=l.filterMap g
 | [],_=>rfl
 | x :: l,h=>by
  rw [List.filterMap_cons,List.filterMap_cons,h x (List.mem_cons_self ..),zdf fun y hy=>h y (List.mem_cons_of_mem _ hy)]
theorem zkd (xs:List Value):(List.range xs.length).filterMap (fun (k:Nat)=>xs[((xs.length:Int) - 1 + -1 * (k:Int)).toNat]?)=xs.reverse:=by
 have h:=HT.pick_gen xs.reverse.toArray 0 xs.length
 have h2:(List.range xs.length).filterMap (fun (m:Nat)=>xs.reverse.toArray[(((0:Nat):Int) + (m:Int) * 1).toNat]?)=xs.reverse:=by
  have:=congrArg Array.toList h
  rw [List.take_of_length_le (by simp)] at this
  simpa using this
 refine Eq.trans (zdf ?_) h2
 intro k hk
 have hk:=List.mem_range.mp hk
 rw [show (((0:Nat):Int) + (k:Int) * 1).toNat=k by lia,show ((xs.length:Int) - 1 + -1 * (k:Int)).toNat=xs.length - 1 - k by lia]
 simp only [List.getElem?_toArray]
 rw [List.getElem?_reverse hk]
theorem zfv (its:List Value):slicePick its.toArray none none (some (-1))=its.reverse.toArray:=by
 unfold slicePick
 have e:sliceBounds none none (some (-1)) its.toArray.size=((its.length:Int) - 1,-1,-1):=by
  simp [sliceBounds]
 rw [e]
 dsimp only
 unfold sliceRange
 have e2:(if (-1:Int) > 0 then (if ((its.length:Int) - 1) < -1 then (-1 - ((its.length:Int) - 1) + -1 - 1) / -1 else 0) else (if ((its.length:Int) - 1) > -1 then (((its.length:Int) - 1) - -1 - -1 - 1) / (- -1) else 0)).toNat=its.length:=by
  rw [if_neg (by decide)]
  by_cases h:((its.length:Int) - 1) > -1
  ·rw [if_pos h];simp
  ·rw [if_neg h];simp;lia
 dsimp only
 rw [e2,List.filterMap_map]
 congr 1
 rw [← zkd its]
 simp [Function.comp_def]
noncomputable def eRev (md:Md) (F:VEnv→Res T):VEnv→Res T:=fun ρ=>(F ρ).bind fun t=>.of ((asL t).bind fun ts=>zcf md ts.reverse)
theorem zkQ {p3 p4:Pos} {jj} (he:JE X z md1 F e):JE X z md (eRev md F) (.Subscript e (.Slice none none (some (.UnaryOp .USub (.Constant (.int 1) jj p3) p4)) p2) pos):=by
 intro pins s σ H Q I h
 have he':=JE.al he
 refine PyProof.Rows.Subscript_ (thn (he' pins s σ H (fun x H1=>∃ a vs ts S1,x=.ref a∧H1 a=some (.lst vs)∧Dens X.K H1 S1 ts .al [] vs∧Dom S1 H1∧endT X.K H1 S1 md Q (zcf md ts.reverse)) I (zdr h fun S ρ t v H1 S1 o _ g1 d q=>?_)) fun v s1 ⟨x,H1,I1,r1,q1⟩=>?_)
 ·cases t with
  | lst ts =>
   obtain⟨_,a,vs,rfl,hS,h1,h2⟩:=zag.mp d
   exact⟨a,vs,ts,S1,rfl,h1,h2,g1.dom,ze8 (z:=z) q⟩
  | sc _=>exact (show False from q).elim
  | scr _=>exact (show False from q).elim
  | tup _=>exact (show False from q).elim
 ·obtain⟨a,vs,ts,S1,rfl,h1,h2,dm,q⟩:=q1
  cases r1
  refine wpAny_Slice ?_
  rw [evalPart_none]
  refine wpAny_pure ?_
  refine wpAny_pure ?_
  rw [evalPart_some]
  have hm:PE X (.UnaryOp .USub (.Constant (.int 1) jj p3) p4) (tUn (rU fun i=>.int (-i)) (tC (.int 1))):=zqM zox zgc
  refine thn (hm pins s1 σ H1 (fun x H2=>x=.int (-1)∧H2=H1) I1 ⟨1,rfl,rfl,rfl⟩) fun w s2 ⟨y,H2,I2,r2,e1,e2⟩=>?_
  subst e1 e2
  obtain⟨tk,rfl⟩:=r2
  have I4:Inv X pins σ H2 { s2 with heap:=s2.heap.push { cls:=.type "slice", data:=.fields #[.none,.none,.int (-1) tk] } }:=I2.kept (t':=s2.toks) fun b ob q=>Heap.get?_push_of_some _ q
  obtain⟨its,r,ht,hz⟩:=I4.list (.of h1)
  have hlen:=r.length
  refine PyProof.Rows.tail_any (ops:=[.ref a,.ref s2.heap.objs.size]) ht.isList.typeIs PySem.F.slot_list_getitem.lookup ?_ (by with_unfolding_all rfl)
  refine wpAny_getItem_list_slice ht.isList (Heap.IsSliceOf.new ..) .none .none (.int (-1) tk) (by decide) ?_ (by rw [List.size_toArray];lia)
  rw [zfv]
  refine ⟨.ref _,_,I4.laid (t':=s2.toks) (o:=.lst vs.reverse) (fun b ob q=>Heap.get?_push_of_some _ q) (Nat.le_refl _) ?_,rfl,zcS dm h2.reverse q _ (I4.hok.fresh (Nat.le_refl _))⟩
  exact⟨by rw [List.length_reverse];exact hz,its.reverse,0,r.reverse,Heap.get?_push_size _ rfl⟩
end
end TL
namespace TL
open PySem PySem.Spec L2
open PyProof.Rows hiding St
section
variable {X:Cx} {z:Z} {pins:List (Addr×Obj)} {σ:St} {H:Hp} {s:Shared} {S:Addr→Prop} {md md1 md2 md3:Md} {K:PySem.W.Frag} {F F1 F2 F3:VEnv→Res T} {Fs:VEnv→Res (List T)} {e a b c:Expr} {pos p p2 p3:Pos}
def zmX (X:Cx) (e:Expr) (t:St→Hp→(Int→Int→Hp→Prop)→Prop):Prop:=
 ∀ (pins:List (Addr×Obj)) (s:Shared) (σ:St) (H:Hp) (Q:Int→Int→Hp→Prop),Inv X pins σ H s→t σ H Q →
  wpAny (model X.prog X.w) X.A (eval e X.env) (fun v s1=>∃ (r:Addr) (lo hi:Int) (t u w:Tok) (H1:Hp),v=.ref r∧IsRange s1.heap r lo hi 1 t u w∧Inv X pins σ H1 s1∧Q lo hi H1) X.xe s
noncomputable def tR2 (ta:TA):St→Hp→(Int→Int→Hp→Prop)→Prop:=fun σ H Q=>ta σ H fun vs H1=>∃ i j:Int,vs=[.int i,.int j]∧Q i j H1
theorem pr_2 {ta:TA} (hg:Gl X "range") (hm:X.mg "range" = none) (ha:PA X [a,b] ta) (hs:starEach [a,b] X.env=[(false,eval a X.env),(false,eval b X.env)]:=by rfl) (hs2:starEach [b] X.env=[(false,eval b X.env)]:=by rfl) :
  zmX X (.Call (.Name "range" p) [a,b] [] pos) (tR2 ta):=by
 intro pins s σ H Q I h
 refine PyProof.Rows.Call_ (zdc I hg hm boot_range (PyProof.Rows.callWith_type1 (thn (ha pos pins s σ H _ I h) fun us s1 ⟨vs,H1,I1,r1,q1⟩=>?_) (by rw [hs,hs2]) (by rw [hs2];rfl)))
 obtain⟨i,j,e,q⟩:=q1
 subst e
 cases r1 with
 | cons r rr =>
  cases rr with
  | cons r' rr =>
   cases rr
   obtain⟨t,rfl⟩:=r
   obtain⟨t',rfl⟩:=r'
   exact call_range_2 ⟨_,i,j,_,_,_,H1,rfl,IsRange.new ..,I1.kept fun b o e=>Heap.get?_push_of_some _ e,q⟩
def tLR (tr:St→Hp→(Int→Int→Hp→Prop)→Prop):TE:=fun σ H Q=>tr σ H fun lo hi H1=>(-(2 ^ 62)≤lo∧lo < 2 ^ 62∧-(2 ^ 62)≤hi∧hi < 2 ^ 62)∧(hi - lo).toNat≤1000000 ∧
 ∀ p,H1 p=none→Q (.ref p) (upd H1 p (.lst ((List.range (hi - lo).toNat).map fun (k:Nat)=>.int (lo + (k:Int)))))
theorem zi8 {lo:Int}:∀ {n:Nat} {acc:Array Value},ItemsOf (fun i v=>∃ t,v=Value.int (lo + (i:Int) * 1) t) acc n→Vals ((List.range n).map fun (k:Nat)=>V.int (lo + (k:Int))) acc.toList:=by
 intro n acc h
 obtain⟨h1,h2⟩:=h
 have gen:∀ (l:List Value) (k:Nat),(∀ j v,l[j]? = some v→∃ t,v=Value.int (lo + ((k + j:Nat):Int)) t)→Vals ((List.range' k l.length).map fun (k:Nat)=>V.int (lo + (k:Int))) l:=by
  intro l
  induction l with
  | nil=>intro k _;exact .nil
  | cons v l ih =>
   intro k hk
   rw [List.length_cons,List.range'_succ,List.map_cons]
   obtain⟨t,ht⟩:=hk 0 v rfl
   refine .cons ⟨t,by simpa using ht⟩ (ih (k + 1) fun j w hj=>?_)
   obtain⟨t,ht⟩:=hk (j + 1) w (by simpa using hj)
   exact⟨t,by rw [ht,show k + (j + 1)=k + 1 + j by lia]⟩
 have:=gen acc.toList 0 fun j v hj=>by
  obtain⟨t,ht⟩:=h2 j v (by simpa using hj)
  exact⟨t,by rw [ht];simp⟩
 rw [show acc.toList.length=n by simpa using h1,← List.range_eq_range'] at this
 exact this
theorem zgb {tr:St→Hp→(Int→Int→Hp→Prop)→Prop} (hc:X.calm=true) (hg:Gl X "list") (hm:X.mg "list" = none) (hr:zmX X e tr) (hs:starEach [e] X.env=[(false,eval e X.env)]:=by rfl):PE X (.Call (.Name "list" p) [e] [] pos) (tLR tr):=by
 intro pins s σ H Q I h
 refine Call_ (zdc I hg hm boot_list (callWith_type1 ?_ hs rfl))
 rw [hs]
 show wpAny _ _ (spliced ((false,eval e X.env) :: backTo pos [])) _ _ s
 refine Calls.spliced_cons (thn (hr pins s σ H _ I h) fun v s1 ⟨r,lo,hi,t,u,w,H1,e1,hr,I1,⟨b1,b2,b3,b4⟩,hn,q⟩=>Calls.spliced_nil ?_)
 subst e1
 have hsz:Builtin.Range.rangeSize lo hi 1=((hi - lo).toNat:Nat):=by rw [rangeSize_one];split <;> lia
 refine call_list_range (I1.ok.hd hc) hr (small_one b1 b2 b3 b4) hsz (by lia) fun h' tk acc' c' hk he hacc=>?_
 refine ⟨.ref _,_,I1.laid (t':=tk) (o:=.lst ((List.range (hi - lo).toNat).map fun (k:Nat)=>.int (lo + (k:Int)))) hk (Nat.le_refl _) ⟨?_,acc'.toList,c',zi8 hacc,by simpa using he⟩,rfl,q _ (I1.hok.fresh (Nat.le_refl _))⟩
 rw [List.length_map,List.length_range]
 exact Nat.le_trans hn (by decide)
end
end TL
namespace TL
open PySem PySem.Spec L2
open PyProof.Rows hiding St
section
variable {X:Cx} {z:Z} {pins:List (Addr×Obj)} {σ:St} {H:Hp} {s:Shared} {S:Addr→Prop} {md md1 md2 md3:Md} {K:PySem.W.Frag} {F F1 F2 F3:VEnv→Res T} {Fs:VEnv→Res (List T)} {e a b c:Expr} {pos p p2 p3:Pos}
noncomputable def eLR (g:List T→Option (List T)) (Fs:VEnv→Res (List T)):VEnv→Res T:=fun ρ=>(Fs ρ).bind fun ts=>.of ((g ts).bind fun us=>if us.length≤1000000 then some (.lst us) else none)
theorem zgZ (lo:Int) (n:Nat):(rngI lo n).length=n:=by unfold rngI;rw [List.length_map,List.length_range]
theorem zk1 {lo:Int} {n:Nat} {m:Md}:Dens K H S (rngI lo n) m [] ((List.range n).map fun (k:Nat)=>.int (lo + (k:Int))):=by
 unfold rngI
 generalize List.range n=l
 induction l with
 | nil=>exact Dens.nil
 | cons k l ih=>exact Dens.cons (A1:=[]) (A2:=[]) (zcN _) ih
theorem zkZ {lo hi:Int} {n:Nat} {Q:VK} (dm:Dom S H) (hn:n=(hi - lo).toNat) (h:endT K H S .fu Q (if (rngI lo n).length≤1000000 then some (.lst (rngI lo n)) else none)) :
  (hi - lo).toNat≤1000000∧∀ p,H p=none→Q (.ref p) (upd H p (.lst ((List.range (hi - lo).toNat).map fun (k:Nat)=>.int (lo + (k:Int))))):=by
 subst hn
 rw [zgZ] at h
 split at h
 ·exact⟨by assumption,fun p hp=>h _ _ S _ (Got.newFu ⟨.refl dm,List.nodup_nil,fun _ q=>(nomatch q),zk1⟩ hp)⟩
 ·exact (show False from h).elim
theorem zfM {q:Pos} (hc:X.calm=true) (hgl:Gl X "list") (hml:X.mg "list" = none) (hg:Gl X "range") (hm:X.mg "range" = none) (ha:JA X z md Fs [a,b]) (hs:starEach [a,b] X.env=[(false,eval a X.env),(false,eval b X.env)]:=by rfl) (hs3:starEach [b] X.env=[(false,eval b X.env)]:=by rfl)
  (hs2:starEach [.Call (.Name "range" p) [a,b] [] p2] X.env=[(false,eval (.Call (.Name "range" p) [a,b] [] p2) X.env)]:=by rfl):JE X z .fu (eLR rng2 Fs) (.Call (.Name "list" q) [.Call (.Name "range" p) [a,b] [] p2] [] pos):=
 PE.imp (zgb hc hgl hml (pr_2 hg hm (JA.al ha) hs hs3) hs2) fun σ H Q h=>zdR h fun S ts vs H' S' A _ gg q=>by
  obtain rfl:=gg.den.alA
  have q':=ze8 (z:=z) (endE.grow gg.g q)
  unfold rng2 at q'
  split at q'
  ·rename_i i j
   split at q'
   ·rename_i hj
    obtain⟨v,w,rfl,d1,d2⟩:=zfP gg.den
    obtain⟨_,rfl⟩:=zac.mp d1
    obtain⟨_,rfl⟩:=zac.mp d2
    exact⟨i,j,rfl,hj,zkZ gg.g.dom rfl q'⟩
   ·exact (show False from q').elim
  ·exact (show False from q').elim
noncomputable def zbR:List T→Option (List Bool)
 | []=>some []
 | t :: ts=>(asB t).bind fun i=>(zbR ts).map (i :: ·)
theorem zfd:∀ {ts:List T} {vs:List V} {ns:List Bool},Dens K H S ts .al [] vs→zbR ts=some ns→vs=ns.map V.bl
 | [],vs,ns,d,h=>by unfold zbR at h;cases h;unfold Dens at d;rw [d.2];rfl
 | t :: ts,vs,ns,d,h=>by
  unfold zbR at h
  unfold Dens at d
  obtain⟨A1,A2,v,vs',ea,rfl,d1,d2⟩:=d
  obtain⟨rfl,rfl⟩:=List.append_eq_nil_iff.mp ea.symm
  cases e:asB t with
  | none=>rw [e] at h;cases h
  | some i =>
   rw [e] at h
   cases e2:zbR ts with
   | none=>rw [e2] at h;cases h
   | some ms =>
    rw [e2] at h
    have h':some (i :: ms)=some ns:=h
    cases h'
    obtain rfl:=zd4 e
    obtain⟨_,rfl⟩:=zac.mp d1
    rw [zfd d2 e2]
    rfl
noncomputable def cAll:List T→Option T
 | [.lst ts]=>(zbR ts).map fun bs=>.sc (.bl (bs.all id))
 | _=>none
theorem zke (bs:List Bool):(List.range bs.length).all (fun i=>bs.getD i true)=bs.all id:=by
 induction bs with
 | nil=>rfl
 | cons b bs ih =>
  rw [List.length_cons,List.range_succ_eq_map,List.all_cons,List.all_map,List.all_cons]
  have e:((fun i=>(b :: bs).getD i true) ∘ Nat.succ)=fun i=>bs.getD i true:=by funext i;simp
  rw [e,ih]
  rfl
theorem ziJ:∀ {bs:List Bool} {its:List Value},Vals (bs.map V.bl) its→∀ (i:Nat) (v:Value),its[i]? = some v→v=Value.bool (bs.getD i true)
 | [],_,.nil=>fun i v h=>by simp at h
 | b :: bs,u :: its,.cons r t=>fun i v h=>by
  cases i with
  | zero=>simp at h;subst h;cases r;rfl
  | succ i=>have:=ziJ t i v (by simpa using h);simpa using this
theorem znX (hc:X.calm=true):zb2 X (.builtin "all") (rCT X.K md cAll):=by
 intro pins s σ H xs us Q I r h
 obtain⟨S,ts,dm,d,h⟩:=h
 unfold cAll at h
 split at h
 ·rename_i ts
  obtain⟨v,rfl,d1⟩:=zbz d
  obtain⟨_,a,vs,rfl,hS,h1,h2⟩:=zag.mp d1
  obtain⟨u,rfl,rx⟩:=zjM r
  cases rx
  cases e:zbR ts with
  | none=>rw [e] at h;exact (show False from h).elim
  | some bs =>
   rw [e] at h
   obtain rfl:=zfd h2 e
   obtain⟨its,r,pl,hz⟩:=I.list (.of h1)
   have hl:=r.length
   rw [List.length_map] at hl
   have hlt:a < s.heap.objs.size:=by obtain⟨_,e,_⟩:=pl.isList;exact Heap.lt_size e
   refine call_all_walk (wpAny_pyIter_list pl.isList ?_)
   refine ⟨_,_,_,_,_,_,fun i=>bs.getD i true,rfl,Walks.list (A:=X.A.in1) (I.ok.hd hc) s.heap.objs.size a (Nat.ne_of_lt hlt) its.toArray,⟨⟨_,Heap.get?_push_size _ rfl,rfl,rfl⟩,pl.isList.push _⟩,?_,fun h' tk hk=>?_⟩
   ·intro i v s Q E hv hq
    obtain rfl:=ziJ r i v (by simpa using hv)
    exact wpAny_truthy_bool hq
   ·refine ⟨.bl (bs.all id),H,I.kept (h':=h') (t':=tk) fun b o e=>hk b o (fun hm=>?_) (Heap.get?_push_of_some _ e),?_,h _ H S [] (Got.sc dm _)⟩
    ·have:=Heap.lt_size e
     rw [List.mem_singleton.mp hm] at this
     exact Nat.lt_irrefl _ this
    ·show Value.bool _=Value.bool _
     rw [List.size_toArray,← hl,zke]
 ·exact (show False from h).elim
noncomputable def tyN:T→Option String
 | .sc .non=>some "NoneType"
 | .sc (.bl _)=>some "bool"
 | .sc (.int _)=>some "int"
 | .lst _=>some "list"
 | .tup _=>some "tuple"
 | _=>none
noncomputable def isiB (n c:String):Option Bool:=if (Value.type n == Value.type c)=true then some true else if PySem.W.kitMeta c=true then (fastBuiltinMro n).map (·.contains (.type c)) else none
theorem zl3 {n c:String} {b:Bool} (h:isiB n c=some b):PySem.W.kitOne K (.type n) (.type c)=some b:=h
@[simp] theorem zra:isiB "list" "list" = some true:=by decide +kernel
@[simp] theorem zrb:isiB "int" "int" = some true:=by decide +kernel
@[simp] theorem zrc:isiB "int" "bool" = some false:=by decide +kernel
noncomputable def cIsi:List T→Option T
 | [t,.sc (.ty c)]=>(tyN t).bind fun n=>(isiB n c).map fun b=>.sc (.bl b)
 | _=>none
theorem zlb:zb2 X (.builtin "isinstance") (rCT X.K md cIsi):=by
 intro pins s σ H xs us Q I r h
 obtain⟨S,ts,dm,d,h⟩:=h
 unfold cIsi at h
 split at h
 ·rename_i t c
  obtain⟨v,w,rfl,d1,d2⟩:=zfP d
  obtain⟨_,rfl⟩:=zac.mp d2
  obtain⟨u1,u2,rfl,r1,r2⟩:=zow r
  cases r2
  cases e:tyN t with
  | none=>rw [e] at h;exact (show False from h).elim
  | some n =>
   rw [e] at h
   cases e2:isiB n c with
   | none=>have h':endT X.K H S md Q ((isiB n c).map fun b=>.sc (.bl b)):=h;rw [e2] at h';exact (show False from h').elim
   | some b =>
    have h':endT X.K H S md Q ((isiB n c).map fun b=>.sc (.bl b)):=h
    rw [e2] at h'
    have k:=zl3 (K:=X.K) e2
    have fin:∀ tk,EP X pins σ Q (.bool b) { s with toks:=tk }:=fun tk=>⟨.bl b,H,I.tok tk,rfl,h' _ H S [] (Got.sc dm _)⟩
    cases t with
    | sc x =>
     obtain⟨_,rfl⟩:=zac.mp d1
     cases v with
     | non=>cases e;exact zdd I r1 .non k fin
     | bl y=>cases e;exact zdd I r1 (.bl y) k fin
     | int y=>cases e;exact zdd I r1 (.int y) k fin
     | _=>cases e
    | scr ns=>cases e
    | lst us =>
     cases e
     obtain⟨_,a,vs,rfl,hS,h1,h2⟩:=zag.mp d1
     exact zdd I r1 (.lst h1) k fin
    | tup us =>
     cases e
     obtain⟨_,a,vs,rfl,h1,h2⟩:=zar.mp d1
     cases r1
     obtain⟨its,_,⟨o,g1,g2,_⟩,_⟩:=I.tuple h1
     exact PySem.W.kia_one PySem.W.kitx_tuple I.kIn ⟨o,g1,g2⟩ k (fun z=>nomatch z) fin
 ·exact (show False from h).elim
end
end TL
namespace TL
open PySem PySem.Spec L2
open PyProof.Rows hiding St
section
variable {K:PySem.W.Frag} {z:Z} {S S':Addr→Prop} {As:Nat→List Addr} {ρ:SEnv} {σ:St} {H H':Hp} {M:List Bool} {A A':List Addr} {v:V} {vs vs':List V} {md m m':Md} {t t':T} {ts:List T} {i:Nat} {a:Addr}
theorem zbk {o:HO} (ha:¬ S a) (h:H a=some (.lst vs)):Step K S H S (upd H a o):=by
 have f:=Frm.upd (K:=K) (o:=o) h
 exact⟨fun _ h=>h,⟨fun b xs hb e=>f.nodes b xs (fun q=>ha (q ▸ hb)) e,f.tups,f.scrs⟩⟩
theorem zdx {o:HO} (h:H a=some (.lst vs)) (ha:¬ S a) (hA:a∉A) (d:Den K H S t m A v):Den K (upd H a o) S t m A v:=
 Den.frm (Frm.upd h) (fun b hb q=>ha (q ▸ hb)) (fun _ h=>h) (fun b hb q=>hA (q ▸ hb)) d
theorem za6 {ws:List V} {o:HO} (h:H a=some (.lst vs)) (ha:¬ S a) (hA:a∉A) (d:Dens K H S ts m A ws):Dens K (upd H a o) S ts m A ws:=
 Dens.frm (Frm.upd h) (fun b hb q=>ha (q ▸ hb)) (fun _ h=>h) (fun b hb q=>hA (q ▸ hb)) d
theorem Ok.wr (o:Ok K z S As ρ σ H) (hi:i < ρ.length) (ha:a∈As i) (h:H a=some (.lst vs)) (hv:σ[i]? = some (some v)) (new:Den K (upd H a (.lst vs')) S t' m' A' v) (nd:A'.Nodup)
  (sub:∀ b∈A',b∈As i∨((∀ j,b∉As j)∧¬ S b∧z.H₀ b=none∧H b≠none)):Ok K z S (fun j=>if j=i then A' else As j) (ρ.set i (some (m',t'))) σ (upd H a (.lst vs')):=by
 obtain⟨a1,a2,a3⟩:=o.ow i a ha
 have big:∀ b,H b≠none→upd H a (.lst vs') b≠none:=fun b hb q=>by
  by_cases e:b=a
  ·subst e;rw [zaB] at q;cases q
  ·rw [zat e] at q;exact hb q
 have inew:∀ b∈A',¬ S b∧z.H₀ b=none∧H b≠none∧∀ j,j≠i→b∉As j:=fun b hb=>by
  rcases sub b hb with q | ⟨q1,q2,q3,q4⟩
  ·obtain⟨x1,x2,x3⟩:=o.ow i b q
   exact⟨x1,x2,x3,fun j hj w=>o.dj j i hj b w q⟩
  ·exact⟨q2,q3,q4,fun j _=>q1 j⟩
 refine ⟨fun b ob e=>?_,fun b hb=>big b (o.dom b hb),by simp [o.ln],o.s0,o.s1,fun j=>?_,fun j b hb=>?_,fun j k hjk b hb=>?_,fun j m u e=>?_⟩
 ·have:b≠a:=fun q=>by rw [q,a2] at e;cases e
  rw [zat this];exact o.same b ob e
 ·by_cases hj:j=i
  ·rw [if_pos hj];exact nd
  ·rw [if_neg hj];exact o.nd j
 ·by_cases hj:j=i
  ·rw [if_pos hj] at hb
   obtain⟨x1,x2,x3,_⟩:=inew b hb
   exact⟨x1,x2,big b x3⟩
  ·rw [if_neg hj] at hb
   obtain⟨x1,x2,x3⟩:=o.ow j b hb
   exact⟨x1,x2,big b x3⟩
 ·by_cases hj:j=i
  ·rw [if_pos hj] at hb
   rw [if_neg (fun q=>hjk (hj.trans q.symm))]
   exact (inew b hb).2.2.2 k fun q=>hjk (hj.trans q.symm)
  ·rw [if_neg hj] at hb
   by_cases hk:k=i
   ·rw [if_pos hk];exact fun q=>(inew b q).2.2.2 j hj hb
   ·rw [if_neg hk];exact o.dj j k hjk b hb
 ·by_cases hj:j=i
  ·subst hj
   rw [List.getElem?_set_self hi] at e
   cases e
   exact⟨v,hv,by rw [if_pos rfl];exact new⟩
  ·rw [List.getElem?_set_ne (Ne.symm hj)] at e
   obtain⟨w,h1,h2⟩:=o.sl j m u e
   refine ⟨w,h1,?_⟩
   rw [if_neg hj]
   exact zdx h a1 (fun q=>o.dj i j (Ne.symm hj) a ha q) h2
theorem Ok.toSp (o:Ok K z S As ρ σ H) (e:ρ[i]? = some (some (.fu,.lst ts))):∃ a vs,σ[i]? = some (some (.ref a))∧a∈As i∧H a=some (.lst vs) ∧
  Ok K z (fun b=>S b∨(b∈As i∧b≠a)) (fun j=>if j=i then [a] else As j) (ρ.set i (some (.sp,.lst ts))) σ H∧Step K S H (fun b=>S b∨(b∈As i∧b≠a)) H:=by
 obtain⟨v,hv,d⟩:=o.sl i _ _ e
 obtain⟨a,vs,A',rfl,ea,h1,h2⟩:=zam.mp d
 have hil:i < ρ.length:=zaM e
 have ha:a∈As i:=by rw [ea];exact List.mem_cons_self ..
 refine ⟨a,vs,hv,ha,h1,⟨o.same,fun b hb=>?_,by simp [o.ln],fun b hb=>.inl (o.s0 b hb),fun b hb=>?_,fun j=>?_,fun j b hb=>?_,fun j k hjk b hb=>?_,fun j m u e=>?_⟩,⟨fun b hb=>.inl hb,⟨fun b xs _ q=>q,fun b xs q=>q,fun b xs q=>q⟩⟩⟩
 ·rcases hb with hb | ⟨hb,_⟩
  ·exact o.dom b hb
  ·exact (o.ow i b hb).2.2
 ·rcases hb with hb | ⟨hb,_⟩
  ·exact o.s1 b hb
  ·exact .inr (o.ow i b hb).2.1
 ·by_cases hj:j=i
  ·rw [if_pos hj];simp
  ·rw [if_neg hj];exact o.nd j
 ·by_cases hj:j=i
  ·rw [if_pos hj] at hb
   rw [List.mem_singleton.mp hb]
   obtain⟨x1,x2,x3⟩:=o.ow i a ha
   exact⟨fun q=>q.elim x1 fun q=>q.2 rfl,x2,x3⟩
  ·rw [if_neg hj] at hb
   obtain⟨x1,x2,x3⟩:=o.ow j b hb
   exact⟨fun q=>q.elim x1 fun q=>o.dj j i hj b hb q.1,x2,x3⟩
 ·by_cases hj:j=i
  ·rw [if_pos hj] at hb
   rw [if_neg (fun q=>hjk (hj.trans q.symm)),List.mem_singleton.mp hb]
   exact o.dj i k (fun q=>hjk (hj.trans q)) a ha
  ·rw [if_neg hj] at hb
   by_cases hk:k=i
   ·rw [if_pos hk];intro q;rw [List.mem_singleton.mp q] at hb;exact o.dj j i hj a hb ha
   ·rw [if_neg hk];exact o.dj j k hjk b hb
 ·by_cases hj:j=i
  ·subst hj
   rw [List.getElem?_set_self hil] at e
   cases e
   refine ⟨_,hv,?_⟩
   rw [if_pos rfl]
   refine zbh.mpr ⟨a,vs,rfl,rfl,h1,h2.out (fun b hb=>.inl hb) fun b hb=>.inr ⟨by rw [ea];exact List.mem_cons_of_mem _ hb,fun q=>?_⟩⟩
   have:=o.nd j
   rw [ea] at this
   exact (List.nodup_cons.mp this).1 (q ▸ hb)
  ·rw [List.getElem?_set_ne (Ne.symm hj)] at e
   obtain⟨w,g1,g2⟩:=o.sl j m u e
   refine ⟨w,g1,?_⟩
   rw [if_neg hj]
   exact g2.monoS fun b hb=>.inl hb
theorem zjZ {α:Type} {l:List α} {i:Nat} {x:α} (h:i < l.length):(l.set i x)[i]? = some x:=List.getElem?_set_self h
theorem Dens.split:∀ {ts:List T} {A:List Addr} {vs:List V} {k:Nat} {t:T},Dens K H S ts .fu A vs→ts[k]? = some t→∃ A1 Ak A2 v,A=A1 ++ (Ak ++ A2)∧vs[k]? = some v∧Den K H S t .fu Ak v ∧
  ∀ (H':Hp) (t':T) (Ak':List Addr) (v':V),Frm K H H' (fun b=>b∈A1∨b∈A2)→Den K H' S t' .fu Ak' v'→Dens K H' S (ts.set k t') .fu (A1 ++ (Ak' ++ A2)) (vs.set k v')
 | [],A,vs,k,t,d,e=>by simp at e
 | u :: us,A,vs,0,t,d,e=>by
  unfold Dens at d
  obtain⟨A1,A2,v,vs',rfl,rfl,d1,d2⟩:=d
  have e':u=t:=by simpa using e
  subst e'
  refine ⟨[],A1,A2,v,rfl,rfl,d1,fun H' t' Ak' v' f d'=>?_⟩
  show Dens K H' S (t' :: us) .fu (Ak' ++ A2) (v' :: vs')
  exact Dens.cons d' ((Dens.frm (S:=fun _=>False) (S':=S) (P:=fun b=>b∈[]∨b∈A2) f (fun _ q=>q.elim) (fun _ q=>q.elim) (fun b hb=>.inr hb) d2.fuS))
 | u :: us,A,vs,k + 1,t,d,e=>by
  unfold Dens at d
  obtain⟨A1,A2,v,vs',rfl,rfl,d1,d2⟩:=d
  obtain⟨B1,Bk,B2,w,rfl,h1,h2,h3⟩:=Dens.split (k:=k) d2 (by simpa using e)
  refine ⟨A1 ++ B1,Bk,B2,w,by rw [List.append_assoc],by simpa using h1,h2,fun H' t' Ak' v' f d'=>?_⟩
  show Dens K H' S (u :: us.set k t') .fu (A1 ++ B1 ++ (Ak' ++ B2)) (v :: vs'.set k v')
  rw [List.append_assoc]
  refine Dens.cons (Den.frm (S:=fun _=>False) (S':=S) f (fun _ q=>q.elim) (fun _ q=>q.elim) (fun b hb=>.inl (List.mem_append_left _ hb)) d1.fuS) (h3 H' t' Ak' v' ⟨fun b xs hb=>f.nodes b xs (hb.elim (fun q=>.inl (List.mem_append_right _ q)) .inr),f.tups,f.scrs⟩ d')
end
section
variable {X:Cx} {z:Z} {md md1:Md} {F F1 F2 F3:VEnv→Res T} {e a b:Expr} {pos p1 p2 p3:Pos} {K:PySem.W.Frag} {i:Nat} {x:Str}
noncomputable def zcK (i:Nat) (ρ:SEnv) (k:Md→List T→SRes):SRes:=match ρ[i]? with
 | some (some (m,.lst ts))=>k m ts
 | _=>.bad
theorem zck {S:Addr→Prop} {H:Hp} {D:Ends} {ρ:SEnv} {k:Md→List T→SRes} (h:endS K z S H D (zcK i ρ k)):∃ m ts,ρ[i]? = some (some (m,.lst ts))∧endS K z S H D (k m ts):=by
 unfold zcK at h
 split at h
 ·rename_i m ts e
  exact⟨m,ts,e,h⟩
 ·exact (show False from h).elim
noncomputable def zcy (i:Nat) (md:Md) (M:List Bool) (m:Md) (ts:List T) (t:T) (ρ:SEnv):SRes:=
  if ts.length < sizeLine then
   if m=.fu∧md=.fu then .nx (ρ.set i (some (.fu,.lst (ts ++ [t]))))
   else if m=.al∨M[i]? = some true then .bad
   else .nx ((zaz M ρ).set i (some (.sp,.lst (ts ++ [t]))))
  else .bad
noncomputable def sApp (i:Nat) (md:Md) (M:List Bool) (F:VEnv→Res T):SEnv→SRes:=fun ρ=>zcK i ρ fun m ts=>(F (view M ρ)).sthen fun t=>zcy i md M m ts t ρ
theorem zcv:∀ {M:List Bool} {ρ:SEnv} {i:Nat},M[i]?≠some true→(zaz M ρ)[i]? = ρ[i]?
 | [],ρ,i,h=>by unfold zaz;rfl
 | b :: bs,[],i,h=>by unfold zaz;rfl
 | b :: bs,s :: ρ,0,h=>by
  unfold zaz
  have:¬ b=true:=fun q=>h (by rw [q];rfl)
  rw [if_neg this]
  rfl
 | b :: bs,s :: ρ,i + 1,h=>by
  unfold zaz
  show (zaz bs ρ)[i]? = ρ[i]?
  exact zcv (by simpa using h)
theorem zmV {S:Addr→Prop} {As:Nat→List Addr} {ρ:SEnv} {σ:St} {H:Hp} {ts:List T} {t:T} {y:V} {D:Ends} (o:Ok K z S As ρ σ H) (e:ρ[i]? = some (some (.sp,.lst ts))) (hd:Den K H S t .al [] y)
  (h:endS K z S H D (.nx (ρ.set i (some (.sp,.lst (ts ++ [t])))))):∃ a vs,σ[i]? = some (some (.ref a))∧H a=some (.lst vs)∧vs.length=ts.length∧D.nx σ (upd H a (.lst (vs ++ [y]))):=by
 obtain⟨v,hv,d⟩:=o.sl i _ _ e
 obtain⟨a,vs,rfl,ea,h1,h2⟩:=zbh.mp d
 have ha:a∈As i:=by rw [ea];exact List.mem_singleton.mpr rfl
 have hS:=(o.ow i a ha).1
 refine ⟨a,vs,hv,h1,h2.length,h S _ σ _ (o.wr (zaM e) ha h1 hv (vs':=vs ++ [y]) (A':=[a]) (zbh.mpr ⟨a,_,rfl,rfl,zaB,?_⟩) (by simp) fun b hb=>.inl (by rw [List.mem_singleton.mp hb];exact ha)) (zbk hS h1)⟩
 exact (za6 (A:=[]) h1 hS (by simp) h2).append (A1:=[]) (A2:=[]) (Dens.cons0 (zdx (A:=[]) h1 hS (by simp) hd) Dens.nil)
theorem zmn {M:List Bool} {S S':Addr→Prop} {As:Nat→List Addr} {ρ:SEnv} {σ:St} {H H':Hp} {m:Md} {ts:List T} {t:T} {y:V} {A:List Addr} {D:Ends} (o:Ok K z S As ρ σ H) (e:ρ[i]? = some (some (m,.lst ts))) (g:Got K H (SB S As M) H' S' A y md t) (h:endS K z S H D (zcy i md M m ts t ρ)) :
  ∃ a vs,σ[i]? = some (some (.ref a))∧H' a=some (.lst vs)∧vs.length < sizeLine∧D.nx σ (upd H' a (.lst (vs ++ [y]))):=by
 unfold zcy at h
 split at h
 ·rename_i hz
  split at h
  ·rename_i hm
   obtain⟨rfl,rfl⟩:=hm
   obtain⟨v,hv,d⟩:=o.sl i _ _ e
   obtain⟨a,vs,A',rfl,ea,h1,h2⟩:=zam.mp d
   have ha:a∈As i:=by rw [ea];exact List.mem_cons_self ..
   have o':=o.grow g.g
   obtain⟨a1,a2,a3⟩:=o.ow i a ha
   have h1':=g.g.same _ _ h1
   have nA:a∉A:=fun q=>a3 (g.ow a q).1
   have nd:=o.nd i
   rw [ea] at nd
   refine ⟨a,vs,hv,h1',by rw [h2.length];exact hz,h S _ σ _ (o'.wr (zaM e) ha h1' hv (vs':=vs ++ [y]) (A':=a :: (A' ++ A)) (zam.mpr ⟨a,_,_,rfl,rfl,zaB,?_⟩) ?_ fun b hb=>?_) ((zaN g.g.same).trans (zbk a1 h1'))⟩
   ·exact (za6 h1' a1 (List.nodup_cons.mp nd).1 (h2.mono g.g.same fun _ q=>q)).append (by simpa using Dens.cons (zdx h1' a1 nA g.den.fuS) Dens.nil)
   ·refine List.nodup_cons.mpr ⟨fun q=>?_,List.nodup_append.mpr ⟨(List.nodup_cons.mp nd).2,g.nd,fun b hb c hc q=>?_⟩⟩
    ·rcases List.mem_append.mp q with q | q
     ·exact (List.nodup_cons.mp nd).1 q
     ·exact nA q
    ·subst q
     exact (o.ow i b (by rw [ea];exact List.mem_cons_of_mem _ hb)).2.2 (g.ow b hc).1
   ·rcases List.mem_cons.mp hb with q | q
    ·rw [q];exact .inl ha
    ·rcases List.mem_append.mp q with q | q
     ·exact .inl (by rw [ea];exact List.mem_cons_of_mem _ q)
     ·refine .inr ⟨fun j w=>(o.ow j b w).2.2 (g.ow b q).1,fun w=>(g.ow b q).2 (g.g.up b (.inl w)),zaV o.same (g.ow b q).1,fun w=>?_⟩
      obtain⟨ws,w'⟩:=g.den.own b q
      rw [w] at w';cases w'
  ·rename_i hm
   split at h
   ·exact (show False from h).elim
   ·rename_i hn
    have hn1:M[i]?≠some true:=fun q=>hn (.inr q)
    have hn2:m≠.al:=fun q=>hn (.inl q)
    have ga:=g.al
    have o1:=o.share ga.g
    have e1:(zaz M ρ)[i]? = some (some (m,.lst ts)):=by rw [zcv hn1];exact e
    have st1:Step K S H _ H':=zft ga.g
    cases m with
    | al=>exact (hn2 rfl).elim
    | sp =>
     obtain⟨a,vs,q1,q2,q3,q4⟩:=zmV (D:=D) o1 e1 ga.den (h.step st1)
     exact⟨a,vs,q1,q2,by lia,q4⟩
    | fu =>
     obtain⟨a,vs,q1,q2,q3,o2,s2⟩:=o1.toSp e1
     have hl1:i < (zaz M ρ).length:=zaM e1
     have h':endS K z (fun b=>(S' b∨b∈A)∨b∈dAs As M i∧b≠a) H' D (.nx (((zaz M ρ).set i (some (.sp,.lst ts))).set i (some (.sp,.lst (ts ++ [t]))))):=by
      rw [List.set_set]
      exact h.step (st1.trans s2)
     obtain⟨a',vs',r1,r2,r3,r4⟩:=zmV (D:=D) (z:=z) o2 (zjZ hl1) (ga.den.monoS fun b hb=>.inl hb) h'
     exact⟨a',vs',r1,r2,by lia,r4⟩
 ·exact (show False from h).elim
theorem zbo {S:Addr→Prop} {As:Nat→List Addr} {ρ:SEnv} {σ:St} {H:Hp} {m:Md} {ts:List T} (o:Ok K z S As ρ σ H) (e:ρ[i]? = some (some (m,.lst ts))):∃ a vs,σ[i]? = some (some (.ref a))∧H a=some (.lst vs)∧vs.length=ts.length:=by
 obtain⟨v,hv,d⟩:=o.sl i _ _ e
 cases m with
 | al=>obtain⟨_,a,vs,rfl,_,h1,h2⟩:=zag.mp d;exact⟨a,vs,hv,h1,h2.length⟩
 | sp=>obtain⟨a,vs,rfl,_,h1,h2⟩:=zbh.mp d;exact⟨a,vs,hv,h1,h2.length⟩
 | fu=>obtain⟨a,vs,A',rfl,_,h1,h2⟩:=zam.mp d;exact⟨a,vs,hv,h1,h2.length⟩
theorem zjU {M:List Bool} {G:Md→List T→T→SEnv→SRes} {D:Ends} {σ:St} {H:Hp} {r:V→List V→Hp→VK→Prop} (h:st K z (fun ρ=>zcK i ρ fun m ts=>(F (view M ρ)).sthen fun t=>G m ts t ρ) D σ H)
  (k:∀ S As ρ m ts t y H' S' A a,Ok K z S As ρ σ H→ρ[i]? = some (some (m,.lst ts))→Got K H (SB S As M) H' S' A y md t→endS K z S H D (G m ts t ρ)→σ[i]? = some (some (.ref a))→r (.ref a) [y] H' (fun _ H2=>D.nx σ H2)) :
  zoD (tBM K "list" r (tVar i) (zjP (tr K z md F) tNil)) D σ H:=by
 obtain⟨S,As,ρ,o,h⟩:=h
 obtain⟨m,ts,e1,h⟩:=zck h
 obtain⟨a,vs,h1,h2,h3⟩:=zbo o e1
 refine ⟨_,h1,.inl ⟨rfl,vs,.of h2⟩,_,_,o.view M,?_⟩
 cases e:F (view M ρ) with
 | exc c=>rw [e] at h;exact h
 | bad=>rw [e] at h;exact h
 | ok t=>rw [e] at h;exact fun y H' S' A g=>k S As ρ m ts t y H' S' A a o e1 g h h1
theorem zis (M:List Bool) (hx:PE X a (tVar i)) (he:JE X z md F e) (hbase:attributeBase a "append" X.env (eval a X.env)=eval a X.env:=by rfl)
  (hfew:((backTo p2 (starEach [e] X.env)).all (fun x=>!x.1) && (backToKw p2 (keywordEach [] X.env)).all (fun x=>x.1.isSome) && decide ([e].length + ([]:List Keyword).length + (if ([]:List Keyword).isEmpty then 0 else 1) < 30))=true:=by rfl)
  (hline:(p1.endLine == p2.line)=true:=by rfl) (hst:starEach [e] X.env=(false,eval e X.env) :: starEach [] X.env:=by rfl) (hplain:(backTo p2 (starEach [] X.env)).any (·.1)=false:=by rfl)
  (hs:swapsWith (.Call (.Attribute a "append" p1) [e] [] p2) none pos.line X.env=pure false:=by rfl):JS X z (sApp i md M F) (.Expr (.Call (.Attribute a "append" p1) [e] [] p2) pos):=
 PS.imp (zco (zg3 PySem.F.plainAttrs_list PySem.F.slot_list_append PySem.F.type_list_append zcq hx (za2 he zbT hst) hbase hfew hline hst hplain) hs) fun D σ H h=>zjU h fun S As ρ m ts t y H' S' A a o e1 g q ha=>by
  obtain⟨a',vs,h1,h2,h3,h4⟩:=zmn o e1 g q
  rw [ha] at h1
  cases h1
  exact⟨a,vs,y,rfl,rfl,h2,h3,h4⟩
end
end TL
namespace TL
open PySem PySem.Spec L2
open PyProof.Rows hiding St
section
variable {X:Cx} {z:Z} {md md1 md2:Md} {F F1 F2 F3:VEnv→Res T} {e a b c:Expr} {pos p1 p2 p3 p4:Pos} {K:PySem.W.Frag} {i:Nat} {x:Str}
noncomputable def zkW (i:Nat) (md:Md) (M:List Bool) (m:Md) (ts:List T) (t:T) (ρ:SEnv):SRes:=match t with
 | .lst us =>
  if ts.length + us.length≤sizeLine then
   if m=.fu∧(md=.fu∨zfO us=true) then .nx (ρ.set i (some (.fu,.lst (ts ++ us))))
   else if m=.al∨M[i]? = some true then .bad
   else .nx ((zaz M ρ).set i (some (.sp,.lst (ts ++ us))))
  else .bad
 | _=>.bad
noncomputable def sExt (i:Nat) (md:Md) (M:List Bool) (F:VEnv→Res T):SEnv→SRes:=fun ρ=>zcK i ρ fun m ts=>(F (view M ρ)).sthen fun t=>zkW i md M m ts t ρ
theorem zmQ {S:Addr→Prop} {As:Nat→List Addr} {ρ:SEnv} {σ:St} {H:Hp} {ts us:List T} {ys:List V} {D:Ends} (o:Ok K z S As ρ σ H) (e:ρ[i]? = some (some (.sp,.lst ts))) (hd:Dens K H S us .al [] ys)
  (h:endS K z S H D (.nx (ρ.set i (some (.sp,.lst (ts ++ us)))))):∃ a vs,σ[i]? = some (some (.ref a))∧H a=some (.lst vs)∧vs.length=ts.length∧D.nx σ (upd H a (.lst (vs ++ ys))):=by
 obtain⟨v,hv,d⟩:=o.sl i _ _ e
 obtain⟨a,vs,rfl,ea,h1,h2⟩:=zbh.mp d
 have ha:a∈As i:=by rw [ea];exact List.mem_singleton.mpr rfl
 have hS:=(o.ow i a ha).1
 refine ⟨a,vs,hv,h1,h2.length,h S _ σ _ (o.wr (zaM e) ha h1 hv (vs':=vs ++ ys) (A':=[a]) (zbh.mpr ⟨a,_,rfl,rfl,zaB,?_⟩) (by simp) fun b hb=>.inl (by rw [List.mem_singleton.mp hb];exact ha)) (zbk hS h1)⟩
 exact (za6 (A:=[]) h1 hS (by simp) h2).append (A1:=[]) (A2:=[]) (za6 (A:=[]) h1 hS (by simp) hd)
theorem zl8 {M:List Bool} {S S':Addr→Prop} {As:Nat→List Addr} {ρ:SEnv} {σ:St} {H H':Hp} {m:Md} {ts:List T} {t:T} {y:V} {A:List Addr} {D:Ends} (o:Ok K z S As ρ σ H) (e:ρ[i]? = some (some (m,.lst ts))) (g:Got K H (SB S As M) H' S' A y md t) (h:endS K z S H D (zkW i md M m ts t ρ)) :
  ∃ a vs b ws,σ[i]? = some (some (.ref a))∧y=.ref b∧H' a=some (.lst vs)∧H' b=some (.lst ws)∧vs.length + ws.length≤sizeLine∧D.nx σ (upd H' a (.lst (vs ++ ws))):=by
 cases t with
 | sc _=>exact (show False from h).elim
 | scr _=>exact (show False from h).elim
 | tup _=>exact (show False from h).elim
 | lst us =>
  have h0:endS K z S H D (if ts.length + us.length≤sizeLine then if m=.fu∧(md=.fu∨zfO us=true) then .nx (ρ.set i (some (.fu,.lst (ts ++ us)))) else if m=.al∨M[i]? = some true then .bad else .nx ((zaz M ρ).set i (some (.sp,.lst (ts ++ us)))) else .bad):=h
  clear h
  split at h0
  ·rename_i hz
   split at h0
   ·rename_i hm
    obtain⟨rfl,hm⟩:=hm
    obtain⟨b,ws,B,rfl,hb,dB,ndB,owB⟩:∃ b ws B,y=.ref b∧H' b=some (.lst ws)∧Dens K H' S us .fu B ws∧B.Nodup∧∀ c∈B,H c=none∧¬ S' c:=by
     rcases hm with rfl | hf
     ·obtain⟨b,ws,B,rfl,rfl,h1,h2⟩:=zam.mp g.den
      exact⟨b,ws,B,rfl,h1,h2.fuS,(List.nodup_cons.mp g.nd).2,fun c hc=>g.ow c (List.mem_cons_of_mem _ hc)⟩
     ·obtain⟨_,b,ws,rfl,_,h1,h2⟩:=zag.mp g.al.den
      exact⟨b,ws,[],rfl,h1,(zeA h2 hf).fuS,List.nodup_nil,fun _ q=>(nomatch q)⟩
    obtain⟨v,hv,d⟩:=o.sl i _ _ e
    obtain⟨a,vs,A',rfl,ea,h1,h2⟩:=zam.mp d
    have ha:a∈As i:=by rw [ea];exact List.mem_cons_self ..
    have o':=o.grow g.g
    obtain⟨a1,a2,a3⟩:=o.ow i a ha
    have h1':=g.g.same _ _ h1
    have nB:a∉B:=fun q=>a3 (owB a q).1
    have nd:=o.nd i
    rw [ea] at nd
    refine ⟨a,vs,b,ws,hv,rfl,h1',hb,by rw [h2.length,dB.length];exact hz,h0 S _ σ _ (o'.wr (zaM e) ha h1' hv (vs':=vs ++ ws) (A':=a :: (A' ++ B)) (zam.mpr ⟨a,_,_,rfl,rfl,zaB,?_⟩) ?_ fun c hc=>?_) ((zaN g.g.same).trans (zbk a1 h1'))⟩
    ·exact (za6 h1' a1 (List.nodup_cons.mp nd).1 (h2.mono g.g.same fun _ q=>q)).append (za6 h1' a1 nB dB)
    ·refine List.nodup_cons.mpr ⟨fun q=>?_,List.nodup_append.mpr ⟨(List.nodup_cons.mp nd).2,ndB,fun c hc c' hc' q=>?_⟩⟩
     ·rcases List.mem_append.mp q with q | q
      ·exact (List.nodup_cons.mp nd).1 q
      ·exact nB q
     ·subst q
      exact (o.ow i c (by rw [ea];exact List.mem_cons_of_mem _ hc)).2.2 (owB c hc').1
    ·rcases List.mem_cons.mp hc with q | q
     ·rw [q];exact .inl ha
     ·rcases List.mem_append.mp q with q | q
      ·exact .inl (by rw [ea];exact List.mem_cons_of_mem _ q)
      ·refine .inr ⟨fun j w=>(o.ow j c w).2.2 (owB c q).1,fun w=>(owB c q).2 (g.g.up c (.inl w)),zaV o.same (owB c q).1,fun w=>?_⟩
       obtain⟨ws,w'⟩:=dB.own c q
       rw [w] at w';cases w'
   ·split at h0
    ·exact (show False from h0).elim
    ·rename_i hn
     have hn1:M[i]?≠some true:=fun q=>hn (.inr q)
     have hn2:m≠.al:=fun q=>hn (.inl q)
     have ga:=g.al
     obtain⟨_,b,ws,rfl,_,hb,dB⟩:=zag.mp ga.den
     have o1:=o.share ga.g
     have e1:(zaz M ρ)[i]? = some (some (m,.lst ts)):=by rw [zcv hn1];exact e
     have st1:Step K S H _ H':=zft ga.g
     cases m with
     | al=>exact (hn2 rfl).elim
     | sp =>
      obtain⟨a,vs,q1,q2,q3,q4⟩:=zmQ (D:=D) o1 e1 dB (h0.step st1)
      exact⟨a,vs,b,ws,q1,rfl,q2,hb,by rw [dB.length];lia,q4⟩
     | fu =>
      obtain⟨a,vs,q1,q2,q3,o2,s2⟩:=o1.toSp e1
      have hl1:i < (zaz M ρ).length:=zaM e1
      have h':endS K z (fun b=>(S' b∨b∈A)∨b∈dAs As M i∧b≠a) H' D (.nx (((zaz M ρ).set i (some (.sp,.lst ts))).set i (some (.sp,.lst (ts ++ us))))):=by
       rw [List.set_set]
       exact h0.step (st1.trans s2)
      obtain⟨a',vs',r1,r2,r3,r4⟩:=zmQ (D:=D) (z:=z) o2 (zjZ hl1) (dB.monoS fun b hb=>.inl hb) h'
      exact⟨a',vs',b,ws,r1,rfl,r2,hb,by rw [dB.length];lia,r4⟩
  ·exact (show False from h0).elim
theorem zpu (M:List Bool) (hx:PE X a (tVar i)) (he:JE X z md F e) (hbase:attributeBase a "extend" X.env (eval a X.env)=eval a X.env:=by rfl)
  (hfew:((backTo p2 (starEach [e] X.env)).all (fun x=>!x.1) && (backToKw p2 (keywordEach [] X.env)).all (fun x=>x.1.isSome) && decide ([e].length + ([]:List Keyword).length + (if ([]:List Keyword).isEmpty then 0 else 1) < 30))=true:=by rfl)
  (hline:(p1.endLine == p2.line)=true:=by rfl) (hst:starEach [e] X.env=(false,eval e X.env) :: starEach [] X.env:=by rfl) (hplain:(backTo p2 (starEach [] X.env)).any (·.1)=false:=by rfl)
  (hs:swapsWith (.Call (.Attribute a "extend" p1) [e] [] p2) none pos.line X.env=pure false:=by rfl):JS X z (sExt i md M F) (.Expr (.Call (.Attribute a "extend" p1) [e] [] p2) pos):=
 PS.imp (zco (zg3 PySem.F.plainAttrs_list PySem.F.slot_list_extend PySem.F.type_list_extend zkA hx (za2 he zbT hst) hbase hfew hline hst hplain) hs) fun D σ H h=>zjU h fun S As ρ m ts t y H' S' A a o e1 g q ha=>by
  obtain⟨a',vs,b,ws,h1,h2,h3,h4,h5,h6⟩:=zl8 o e1 g q
  rw [ha] at h1
  cases h1
  exact⟨a,b,vs,ws,rfl,by rw [h2],h3,h4,h5,h6⟩
noncomputable def znk:V→List V→Hp→VK→Prop:=fun x vs H Q=>∃ (l:Addr) (xs:List V) (k:Int) (y:V),x=.ref l∧vs=[.int k,y]∧H l=some (.lst xs)∧0≤k∧k≤xs.length∧xs.length < sizeLine∧Q .non (upd H l (.lst (xs.take k.toNat ++ y :: xs.drop k.toNat)))
theorem zhk (its:List Value) (k:Int) (u2:Value) (h0:0≤k) (hk:k≤its.length):(fun xs:Array Value=>have k:=if k < 0 then (k + ((xs.size:Nat):Int)).toNat else min k.toNat xs.size;(xs.extract 0 k).push u2 ++ xs.extract k) its.toArray=(its.take k.toNat ++ u2 :: its.drop k.toNat).toArray:=by
 have e1:(if k < 0 then (k + ((its.toArray.size:Nat):Int)).toNat else min k.toNat its.toArray.size)=k.toNat:=by
  rw [if_neg (by lia),List.size_toArray]
  lia
 show (its.toArray.extract 0 (if k < 0 then (k + ((its.toArray.size:Nat):Int)).toNat else min k.toNat its.toArray.size)).push u2 ++ its.toArray.extract (if k < 0 then (k + ((its.toArray.size:Nat):Int)).toNat else min k.toNat its.toArray.size)=_
 rw [e1]
 apply Array.ext'
 simp
 exact List.take_of_length_le (by simp)
theorem zkz:MtM X "list.insert" znk:=by
 intro pins s σ H x vs v us Q I rx rv h
 obtain⟨l,xs,k,y,rfl,rfl,hH,hk0,hk,hz,q⟩:=h
 cases rx
 obtain⟨u1,u2,rfl,⟨t,rfl⟩,r2⟩:=rv.two
 obtain⟨z,its,n,r,hl,e⟩:=I.lstM hH
 have hk63:k < 2 ^ 63:=by
  have:(sizeLine:Nat) < 2 ^ 63:=zgg
  lia
 have hfit:¬ (!Builtin.List.listFitsIndex k)=true:=by
  rw [fitsIndex_both (by lia) hk63]
  exact Bool.false_ne_true
 have hzz:its.toArray.size≤sizeLine:=by rw [List.size_toArray,← hl];exact Nat.le_of_lt hz
 generalize hit:its.toArray=items at e hzz
 have hM:=AutoListH.list_insert_list_int_val_1 l items n k t u2 hfit hzz
 refine call_meets PySem.F.slot_list_insert ⟨_,e,rfl⟩ PySem.F.entry_list_insert (PySem.F.args_list_insert_3 _ _ _) hM ⟨e,?_⟩
 subst hit
 exact⟨.non,_,I.lset (its':=its.take k.toNat ++ u2 :: its.drop k.toNat) (ys:=xs.take k.toNat ++ y :: xs.drop k.toNat) hH e (zhk its k u2 hk0 (by lia)) ((r.take k.toNat).append (.cons r2 (r.drop k.toNat))) (by simp;lia),rfl,q⟩
noncomputable def zkT (i:Nat) (m:Md) (ts:List T) (u t:T) (ρ:SEnv):SRes:=match u,t with
 | .sc (.int k),.sc w=>if m=.fu∧0≤k∧k≤ts.length∧ts.length < sizeLine then .nx (ρ.set i (some (.fu,.lst (ts.take k.toNat ++ .sc w :: ts.drop k.toNat)))) else .bad
 | _,_=>.bad
noncomputable def sIns (i:Nat) (M:List Bool) (F1 F2:VEnv→Res T):SEnv→SRes:=fun ρ=>zcK i ρ fun m ts=>(F1 (view M ρ)).sthen fun u=>(F2 (view M ρ)).sthen fun t=>zkT i m ts u t ρ
theorem zez {S:Addr→Prop} {H:Hp}:∀ {ts:List T} {A:List Addr} {vs:List V} (k:Nat),Dens K H S ts .fu A vs→∃ A1 A2,A=A1 ++ A2∧Dens K H S (ts.take k) .fu A1 (vs.take k)∧Dens K H S (ts.drop k) .fu A2 (vs.drop k)
 | ts,A,vs,0,d=>⟨[],A,rfl,by simp;exact Dens.nil,d⟩
 | [],A,vs,k + 1,d=>by unfold Dens at d;obtain⟨rfl,rfl⟩:=d;exact⟨[],[],rfl,Dens.nil,Dens.nil⟩
 | t :: ts,A,vs,k + 1,d=>by
  unfold Dens at d
  obtain⟨A1,A2,v,vs',rfl,rfl,d1,d2⟩:=d
  obtain⟨B1,B2,rfl,h1,h2⟩:=zez k d2
  exact⟨A1 ++ B1,B2,by rw [List.append_assoc],Dens.cons d1 h1,h2⟩
theorem zmM (M:List Bool) (hx:PE X a (tVar i)) (hk:JE X z md1 F1 b) (he:JE X z md2 F2 e) (hbase:attributeBase a "insert" X.env (eval a X.env)=eval a X.env:=by rfl)
  (hfew:((backTo p2 (starEach [b,e] X.env)).all (fun x=>!x.1) && (backToKw p2 (keywordEach [] X.env)).all (fun x=>x.1.isSome) && decide ([b,e].length + ([]:List Keyword).length + (if ([]:List Keyword).isEmpty then 0 else 1) < 30))=true:=by rfl)
  (hline:(p1.endLine == p2.line)=true:=by rfl) (hst:starEach [b,e] X.env=(false,eval b X.env) :: starEach [e] X.env:=by rfl) (hst2:starEach [e] X.env=(false,eval e X.env) :: starEach [] X.env:=by rfl) (hplain:(backTo p2 (starEach [e] X.env)).any (·.1)=false:=by rfl)
  (hs:swapsWith (.Call (.Attribute a "insert" p1) [b,e] [] p2) none pos.line X.env=pure false:=by rfl):JS X z (sIns i M F1 F2) (.Expr (.Call (.Attribute a "insert" p1) [b,e] [] p2) pos):=
 PS.imp (zco (zg3 PySem.F.plainAttrs_list PySem.F.slot_list_insert PySem.F.type_list_insert zkz hx (za2 (JE.al hk) (za2 (JE.al he) zbT hst2) hst) hbase hfew hline hst hplain) hs) fun D σ H h=>by
  obtain⟨S,As,ρ,o,h⟩:=h
  obtain⟨m,ts,e1,h⟩:=zck h
  obtain⟨a,vs,h1,h2,h3⟩:=zbo o e1
  refine ⟨_,h1,.inl ⟨rfl,vs,.of h2⟩,_,_,o.view M,?_⟩
  cases e2:F1 (view M ρ) with
  | exc c=>rw [e2] at h;exact h
  | bad=>rw [e2] at h;exact h
  | ok u =>
   rw [e2,Res.sthen_ok] at h
   intro y1 H1 S1 A1 g1
   obtain rfl:=g1.den.alA
   refine ⟨_,_,(o.view M).grow g1.g,?_⟩
   cases e3:F2 (view M ρ) with
   | exc c=>rw [e3] at h;exact h
   | bad=>rw [e3] at h;exact h
   | ok t =>
    rw [e3,Res.sthen_ok] at h
    intro y2 H2 S2 A2 g2
    unfold zkT at h
    split at h
    ·rename_i k w
     split at h
     ·rename_i hc
      obtain⟨rfl,hk0,hk1,hz⟩:=hc
      obtain⟨_,rfl⟩:=zac.mp g1.den
      obtain⟨_,rfl⟩:=zac.mp g2.den
      have gg:=g1.g.trans g2.g
      have o':=o.grow gg
      obtain⟨v,hv,d⟩:=o'.sl i _ _ e1
      obtain⟨a',vs',A',rfl,ea,q1,q2⟩:=zam.mp d
      rw [h1] at hv
      cases hv
      have ha:a∈As i:=by rw [ea];exact List.mem_cons_self ..
      obtain⟨a1,a2,a3⟩:=o'.ow i a ha
      have nd:=o'.nd i
      rw [ea] at nd
      obtain⟨B1,B2,rfl,d1,d2⟩:=zez k.toNat q2
      have nA:=(List.nodup_cons.mp nd).1
      refine ⟨a,vs',k,y2,rfl,rfl,q1,hk0,by rw [q2.length];exact hk1,by rw [q2.length];exact hz,h S _ σ _ (o'.wr (zaM e1) ha q1 h1 (vs':=vs'.take k.toNat ++ y2 :: vs'.drop k.toNat) (A':=a :: (B1 ++ ([] ++ B2))) (zam.mpr ⟨a,_,_,rfl,rfl,zaB,?_⟩) (by simpa using nd) fun c hc=>.inl (by rw [ea];simpa using hc)) ((zaN gg.same).trans (zbk a1 q1))⟩
      exact (za6 q1 a1 (fun q=>nA (List.mem_append_left _ q)) d1).append (Dens.cons (zcN _) (za6 q1 a1 (fun q=>nA (List.mem_append_right _ q)) d2))
     ·exact (show False from h).elim
    ·exact (show False from h).elim
end
end TL
namespace TL
open PySem PySem.Spec L2
open PyProof.Rows hiding St
section
variable {X:Cx} {z:Z} {md md1 md2 md3:Md} {F F1 F2 F3:VEnv→Res T} {e a b c:Expr} {pos p1 p2 p3 p4:Pos} {K:PySem.W.Frag} {i:Nat} {x:Str}
theorem zms {M:List Bool} {G:T→T→SEnv→SRes} {S:Addr→Prop} {As:Nat→List Addr} {ρ:SEnv} {D:Ends} {σ:St} {H:Hp} {R:V→VK} (o:Ok K z S As ρ σ H)
  (h:endS K z S H D ((F1 (view M ρ)).sthen fun t=>(F2 (view M ρ)).sthen fun u=>G t u ρ))
  (k:∀ t u y w H1 H2 S1 S2 A1 A2,Got K H (SB S As M) H1 S1 A1 y md1 t→Got K H1 S1 H2 S2 A2 w md2 u→endS K z S H D (G t u ρ)→R y w H2) :
  tr K z md1 F1 σ H fun y H1=>tr K z md2 F2 σ H1 (R y):=by
 refine ⟨_,_,o.view M,?_⟩
 cases e2:F1 (view M ρ) with
 | exc c=>rw [e2] at h;exact h
 | bad=>rw [e2] at h;exact h
 | ok t =>
  rw [e2,Res.sthen_ok] at h
  intro y1 H1 S1 A1 g1
  refine ⟨_,_,(o.view M).grow g1.g,?_⟩
  cases e3:F2 (view M ρ) with
  | exc c=>rw [e3] at h;exact h
  | bad=>rw [e3] at h;exact h
  | ok u =>
   rw [e3,Res.sthen_ok] at h
   exact fun y2 H2 S2 A2 g2=>k t u y1 y2 H1 H2 S1 S2 A1 A2 g1 g2 h
theorem Got.later {K:PySem.W.Frag} {H H1 H2:Hp} {S S1 S2:Addr→Prop} {A:List Addr} {y:V} {t:T} {md:Md} (g:Got K H S H1 S1 A y md t) (g2:Grow H1 S1 H2 S2):Got K H S H2 S2 A y md t:=
 ⟨g.g.trans g2,g.nd,fun a ha=>⟨(g.ow a ha).1,fun q=>(g2.new a q).elim (g.ow a ha).2 fun w=>by
  obtain⟨ws,w'⟩:=g.den.own a ha
  rw [w] at w';cases w'⟩,g.den.mono g2.same g2.up⟩
noncomputable def zkf (i:Nat) (m:Md) (ts:List T) (t u:T) (ρ:SEnv):SRes:=match u with
 | .sc (.int k)=>match ixN ts.length k with
  | some j=>if m=.fu then .nx (ρ.set i (some (.fu,.lst (ts.set j t)))) else .bad
  | none=>.bad
 | _=>.bad
noncomputable def sPut (i:Nat) (M:List Bool) (F1 F2:VEnv→Res T):SEnv→SRes:=fun ρ=>zcK i ρ fun m ts=>(F1 (view M ρ)).sthen fun t=>(F2 (view M ρ)).sthen fun u=>zkf i m ts t u ρ
theorem zlI {M:List Bool} {S S':Addr→Prop} {As:Nat→List Addr} {ρ:SEnv} {σ:St} {H H':Hp} {ts:List T} {t:T} {y:V} {A:List Addr} {D:Ends} {j:Nat} (o:Ok K z S As ρ σ H) (e:ρ[i]? = some (some (.fu,.lst ts))) (g:Got K H (SB S As M) H' S' A y .fu t) (hj:j < ts.length)
  (h:endS K z S H D (.nx (ρ.set i (some (.fu,.lst (ts.set j t)))))):∃ a vs,σ[i]? = some (some (.ref a))∧H' a=some (.lst vs)∧vs.length=ts.length∧D.nx σ (upd H' a (.lst (vs.set j y))):=by
 have o':=o.grow g.g
 obtain⟨v,hv,d⟩:=o'.sl i _ _ e
 obtain⟨a,vs,A',rfl,ea,h1,h2⟩:=zam.mp d
 have ha:a∈As i:=by rw [ea];exact List.mem_cons_self ..
 obtain⟨a1,a2,a3⟩:=o.ow i a ha
 obtain⟨A1,Ak,A2,w,rfl,q1,q2,q3⟩:=Dens.split h2 (List.getElem?_eq_getElem hj)
 have nd:=o.nd i
 rw [ea] at nd
 obtain⟨n1,n2⟩:=List.nodup_cons.mp nd
 have nA:a∉A:=fun q=>a3 (g.ow a q).1
 have old:∀ c∈A1 ++ A2,c∈As i∧c≠a:=fun c hc=>by
  have hc':c∈A1 ++ (Ak ++ A2):=by
   rcases List.mem_append.mp hc with q | q
   ·exact List.mem_append_left _ q
   ·exact List.mem_append_right _ (List.mem_append_right _ q)
  exact⟨by rw [ea];exact List.mem_cons_of_mem _ hc',fun q=>n1 (q ▸ hc')⟩
 have fresh:∀ c∈A,∀ j,c∉As j:=fun c hc j w=>(o.ow j c w).2.2 (g.ow c hc).1
 have f:=Frm.upd (K:=K) (o:=.lst (vs.set j y)) h1
 refine ⟨a,vs,hv,h1,h2.length,h S _ σ _ (o'.wr (zaM e) ha h1 hv (vs':=vs.set j y) (A':=a :: (A1 ++ (A ++ A2))) (zam.mpr ⟨a,_,_,rfl,rfl,zaB,?_⟩) ?_ fun c hc=>?_) ((zaN g.g.same).trans (zbk a1 h1))⟩
 ·exact q3 _ t A y ⟨fun c xs hc=>f.nodes c xs (hc.elim (fun q=>(old c (List.mem_append_left _ q)).2) fun q=>(old c (List.mem_append_right _ q)).2),f.tups,f.scrs⟩ (zdx h1 a1 nA g.den.fuS)
 ·obtain⟨m1,m2,m3⟩:=List.nodup_append.mp n2
  obtain⟨k1,k2,k3⟩:=List.nodup_append.mp m2
  refine List.nodup_cons.mpr ⟨fun q=>?_,List.nodup_append.mpr ⟨m1,List.nodup_append.mpr ⟨g.nd,k2,fun c hc d hd q=>?_⟩,fun c hc d hd q=>?_⟩⟩
  ·rcases List.mem_append.mp q with q | q
   ·exact (old a (List.mem_append_left _ q)).2 rfl
   ·rcases List.mem_append.mp q with q | q
    ·exact nA q
    ·exact (old a (List.mem_append_right _ q)).2 rfl
  ·subst q;exact fresh c hc i (old c (List.mem_append_right _ hd)).1
  ·subst q
   rcases List.mem_append.mp hd with q | q
   ·exact fresh c q i (old c (List.mem_append_left _ hc)).1
   ·exact m3 c hc c (List.mem_append_right _ q) rfl
 ·rcases List.mem_cons.mp hc with q | q
  ·rw [q];exact .inl ha
  ·rcases List.mem_append.mp q with q | q
   ·exact .inl (old c (List.mem_append_left _ q)).1
   ·rcases List.mem_append.mp q with q | q
    ·refine .inr ⟨fresh c q,fun w=>(g.ow c q).2 (g.g.up c (.inl w)),zaV o.same (g.ow c q).1,fun w=>?_⟩
     obtain⟨ws,w'⟩:=g.den.own c q
     rw [w] at w';cases w'
    ·exact .inl (old c (List.mem_append_right _ q)).1
theorem zmP {n:Nat} {k:Int} {j:Nat} (h:ixN n k=some j):j < n:=(zhj h).2.1
theorem zmL (M:List Bool) (hx:PE X a (tVar i)) (he:JE X z .fu F1 e) (hk:JE X z md2 F2 b) (hs:swapsWithSole [.Subscript a b p1] e pos.line X.env=pure false:=by rfl) (hw:swappedStores [.Subscript a b p1] e X.env=pure none:=by rfl)
  (ha:∀ v,assign (.Subscript a b p1) X.env v=(do
   let ov ← holding [v] (eval a X.env)
   let iv ← holding [v,ov] (eval b X.env)
   standAt p1
   holding [v,ov,iv] (setItem ov iv v)
   release [v,ov,iv] []):=by intro _;rfl) (hh:(assignEach [.Subscript a b p1] X.env).map (·.2)=[assign (.Subscript a b p1) X.env]:=by rfl) :
  JS X z (sPut i M F1 F2) (.Assign [.Subscript a b p1] e pos):=
 PS.imp (zmx he (zmA hx (JE.al hk) zh8 ha) hs hw hh) fun D σ H h=>by
  obtain⟨S,As,ρ,o,h⟩:=h
  obtain⟨m,ts,e1,h⟩:=zck h
  obtain⟨a,vs,h1,h2,h3⟩:=zbo o e1
  have:=zms (md1:=.fu) (md2:=.al) (R:=fun y w H2=>zoS (.ref a) w y H2 (D.nx σ)) o h fun t u y w H1 H2 S1 S2 A1 A2 g1 g2 q=>by
   unfold zkf at q
   split at q
   ·rename_i k
    split at q
    ·rename_i j ej
     split at q
     ·rename_i hm
      subst hm
      obtain⟨_,rfl⟩:=zac.mp g2.den
      obtain⟨a',vs',r1,r2,r3,r4⟩:=zlI o e1 (g1.later g2.g) (zmP ej) q
      rw [h1] at r1
      cases r1
      exact⟨a,vs',k,j,rfl,rfl,r2,by rw [r3];exact ej,r4⟩
     ·exact (show False from q).elim
    ·exact (show False from q).elim
   ·exact (show False from q).elim
  obtain⟨S',ρ',o',h'⟩:=this
  refine ⟨S',ρ',o',?_⟩
  cases e2:F1 ρ' with
  | exc c=>rw [e2] at h';exact h'
  | bad=>rw [e2] at h';exact h'
  | ok t=>rw [e2] at h';exact fun y H1 S1 A1 g1=>⟨_,h1,h' y H1 S1 A1 g1⟩
theorem Ok.inner {S:Addr→Prop} {As:Nat→List Addr} {ρ:SEnv} {σ:St} {H:Hp} {ts us:List T} {k:Nat} (o:Ok K z S As ρ σ H) (e:ρ[i]? = some (some (.fu,.lst ts))) (hk:ts[k]? = some (.lst us)):∃ a vs b ws B,σ[i]? = some (some (.ref a))∧H a=some (.lst vs)∧vs.length=ts.length ∧
  vs[k]? = some (.ref b)∧H b=some (.lst ws)∧Dens K H S us .fu B ws∧¬ S b∧b∉B∧B.Nodup ∧
  ∀ us' ws' B',Dens K (upd H b (.lst ws')) S us' .fu B' ws'→B'.Nodup→b∉B'→(∀ c∈B',c∈B∨((∀ j,c∉As j)∧¬ S c∧z.H₀ c=none∧H c≠none))→∃ As',Ok K z S As' (ρ.set i (some (.fu,.lst (ts.set k (.lst us'))))) σ (upd H b (.lst ws')):=by
 obtain⟨v,hv,d⟩:=o.sl i _ _ e
 obtain⟨a,vs,A',rfl,ea,h1,h2⟩:=zam.mp d
 obtain⟨A1,Ak,A2,w,rfl,q1,q2,q3⟩:=Dens.split h2 hk
 obtain⟨b,ws,B,rfl,rfl,h3,h4⟩:=zam.mp q2
 have nd:=o.nd i
 rw [ea] at nd
 obtain⟨n1,n2⟩:=List.nodup_cons.mp nd
 obtain⟨m1,m2,m3⟩:=List.nodup_append.mp n2
 obtain⟨k1,k2,k3⟩:=List.nodup_append.mp m2
 obtain⟨l1,l2⟩:=List.nodup_cons.mp k1
 have hb:b∈As i:=by rw [ea];exact List.mem_cons_of_mem _ (List.mem_append_right _ (List.mem_append_left _ (List.mem_cons_self ..)))
 obtain⟨b1,b2,b3⟩:=o.ow i b hb
 have nb:b≠a:=fun q=>n1 (q ▸ List.mem_append_right _ (List.mem_append_left _ (List.mem_cons_self ..)))
 have b1':b∉A1:=fun q=>m3 b q b (List.mem_append_left _ (List.mem_cons_self ..)) rfl
 have b2':b∉A2:=fun q=>k3 b (List.mem_cons_self ..) b q rfl
 refine ⟨a,vs,b,ws,B,hv,h1,h2.length,q1,h3,h4,b1,l1,l2,fun us' ws' B' d' nd' nb' sub=>?_⟩
 have f:=Frm.upd (K:=K) (o:=.lst ws') h3
 have new:∀ c∈B',c∉A1∧c∉A2∧c≠a:=fun c hc=>by
  rcases sub c hc with q | q
  ·exact⟨fun w=>m3 c w c (List.mem_append_left _ (List.mem_cons_of_mem _ q)) rfl,fun w=>k3 c (List.mem_cons_of_mem _ q) c w rfl,fun w=>n1 (w ▸ List.mem_append_right _ (List.mem_append_left _ (List.mem_cons_of_mem _ q)))⟩
  ·have q':=q.1 i
   rw [ea] at q'
   exact⟨fun w=>q' (List.mem_cons_of_mem _ (List.mem_append_left _ w)),fun w=>q' (List.mem_cons_of_mem _ (List.mem_append_right _ (List.mem_append_right _ w))),fun w=>q' (w ▸ List.mem_cons_self ..)⟩
 refine ⟨_,o.wr (zaM e) hb h3 hv (vs':=ws') (t':=.lst (ts.set k (.lst us'))) (m':=.fu) (A':=a :: (A1 ++ ((b :: B') ++ A2))) (zam.mpr ⟨a,vs,_,rfl,rfl,by rw [zat (Ne.symm nb)];exact h1,?_⟩) ?_ fun c hc=>?_⟩
 ·have:=q3 (upd H b (.lst ws')) (.lst us') (b :: B') (.ref b) ⟨fun c xs hc=>f.nodes c xs (hc.elim (fun q w=>b1' (w ▸ q)) fun q w=>b2' (w ▸ q)),f.tups,f.scrs⟩ (zam.mpr ⟨b,ws',B',rfl,rfl,zaB,d'⟩)
  rw [show vs.set k (.ref b)=vs from by
   have hlt:k < vs.length:=(List.getElem?_eq_some_iff.mp q1).1
   have:vs[k]=.ref b:=(List.getElem?_eq_some_iff.mp q1).2
   rw [← this];exact List.set_getElem_self hlt] at this
  exact this
 ·refine List.nodup_cons.mpr ⟨fun q=>?_,List.nodup_append.mpr ⟨m1,List.nodup_append.mpr ⟨List.nodup_cons.mpr ⟨nb',nd'⟩,k2,fun c hc d hd q=>?_⟩,fun c hc d hd q=>?_⟩⟩
  ·rcases List.mem_append.mp q with q | q
   ·exact n1 (List.mem_append_left _ q)
   ·rcases List.mem_append.mp q with q | q
    ·rcases List.mem_cons.mp q with q | q
     ·exact nb q.symm
     ·exact (new a q).2.2 rfl
    ·exact n1 (List.mem_append_right _ (List.mem_append_right _ q))
  ·subst q
   rcases List.mem_cons.mp hc with q | q
   ·exact b2' (q ▸ hd)
   ·exact (new c q).2.1 hd
  ·subst q
   rcases List.mem_append.mp hd with q | q
   ·rcases List.mem_cons.mp q with q | q
    ·exact b1' (q ▸ hc)
    ·exact (new c q).1 hc
   ·exact m3 c hc c (List.mem_append_right _ q) rfl
 ·rcases List.mem_cons.mp hc with q | q
  ·rw [q,ea];exact .inl (List.mem_cons_self ..)
  ·rcases List.mem_append.mp q with q | q
   ·exact .inl (by rw [ea];exact List.mem_cons_of_mem _ (List.mem_append_left _ q))
   ·rcases List.mem_append.mp q with q | q
    ·rcases List.mem_cons.mp q with q | q
     ·rw [q];exact .inl hb
     ·rcases sub c q with q | q
      ·exact .inl (by rw [ea];exact List.mem_cons_of_mem _ (List.mem_append_right _ (List.mem_append_left _ (List.mem_cons_of_mem _ q))))
      ·exact .inr q
    ·exact .inl (by rw [ea];exact List.mem_cons_of_mem _ (List.mem_append_right _ (List.mem_append_right _ q)))
noncomputable def ze0 (i:Nat) (m:Md) (ts:List T) (t u w:T) (ρ:SEnv):SRes:=match t,u,w with
 | .sc v,.sc (.int k),.sc (.int l)=>match ixN ts.length k with
  | some j=>match ts[j]? with
   | some (.lst us)=>match ixN us.length l with
    | some n=>if m=.fu then .nx (ρ.set i (some (.fu,.lst (ts.set j (.lst (us.set n (.sc v))))))) else .bad
    | none=>.bad
   | _=>.bad
  | none=>.bad
 | _,_,_=>.bad
noncomputable def zlC (i:Nat) (M:List Bool) (F1 F2 F3:VEnv→Res T):SEnv→SRes:=fun ρ=>zcK i ρ fun m ts=>(F1 (view M ρ)).sthen fun t=>(F2 (view M ρ)).sthen fun u=>(F3 (view M ρ)).no.sthen fun w=>ze0 i m ts t u w ρ
theorem zlJ {S:Addr→Prop} {H:Hp} {D:Ends} {m:Md} {ts:List T} {t u w:T} {ρ:SEnv} (h:endS K z S H D (ze0 i m ts t u w ρ)):∃ v k l j us n,t=.sc v∧u=.sc (.int k)∧w=.sc (.int l)∧ixN ts.length k=some j∧ts[j]? = some (.lst us)∧ixN us.length l=some n∧m=.fu∧endS K z S H D (.nx (ρ.set i (some (.fu,.lst (ts.set j (.lst (us.set n (.sc v)))))))):=by
 unfold ze0 at h
 split at h
 ·rename_i v k l
  split at h
  ·rename_i j ej
   split at h
   ·rename_i us eu
    split at h
    ·rename_i n en
     split at h
     ·exact⟨v,k,l,j,us,n,rfl,rfl,rfl,ej,eu,en,by assumption,h⟩
     ·exact (show False from h).elim
    ·exact (show False from h).elim
   ·exact (show False from h).elim
  ·exact (show False from h).elim
 ·exact (show False from h).elim
theorem zmO {n:Nat} {k:Int} {j:Nat} {α:Type} {xs:List α} {x:α} (h:ixN n k=some j) (hl:xs.length=n) (e:xs[j]? = some x):atI xs k=some x:=by
 unfold atI
 rw [hl,h]
 exact e
theorem zhl {S:Addr→Prop} {H:Hp} {us:List T} {ws:List V} {B:List Addr} {n:Nat} (d:Dens K H S us .fu B ws) (hn:n < us.length) (v:V):∃ B',Dens K H S (us.set n (.sc v)) .fu B' (ws.set n v)∧(∀ c∈B',c∈B)∧(B.Nodup→B'.Nodup):=by
 obtain⟨A1,Ak,A2,w,rfl,q1,q2,q3⟩:=Dens.split d (List.getElem?_eq_getElem hn)
 refine ⟨A1 ++ ([] ++ A2),q3 H (.sc v) [] v ⟨fun _ _ _ e=>e,fun _ _ e=>e,fun _ _ e=>e⟩ (zcN v),fun c hc=>?_,fun nd=>?_⟩
 ·rcases List.mem_append.mp hc with q | q
  ·exact List.mem_append_left _ q
  ·exact List.mem_append_right _ (List.mem_append_right _ q)
 ·obtain⟨m1,m2,m3⟩:=List.nodup_append.mp nd
  exact List.nodup_append.mpr ⟨m1,(List.nodup_append.mp m2).2.1,fun c hc d hd=>m3 c hc d (List.mem_append_right _ hd)⟩
theorem zkN (M:List Bool) (hx:PE X a (tVar i)) (he:JE X z md1 F1 e) (hk:JE X z md2 F2 b) (hj:JE X z md3 F3 c) (hsl:zeI b:=by intro o i;rfl) (hs:swapsWithSole [.Subscript (.Subscript a b p2) c p1] e pos.line X.env=pure false:=by rfl) (hw:swappedStores [.Subscript (.Subscript a b p2) c p1] e X.env=pure none:=by rfl)
  (ha:∀ v,assign (.Subscript (.Subscript a b p2) c p1) X.env v=(do
   let ov ← holding [v] (eval (.Subscript a b p2) X.env)
   let iv ← holding [v,ov] (eval c X.env)
   standAt p1
   holding [v,ov,iv] (setItem ov iv v)
   release [v,ov,iv] []):=by intro _;rfl) (hh:(assignEach [.Subscript (.Subscript a b p2) c p1] X.env).map (·.2)=[assign (.Subscript (.Subscript a b p2) c p1) X.env]:=by rfl) :
  JS X z (zlC i M F1 F2 F3) (.Assign [.Subscript (.Subscript a b p2) c p1] e pos):=
 PS.imp (zmx (JE.al he) (zmA (zlM zep hx (JE.al hk) hsl) (JE.al hj) zh8 ha) hs hw hh) fun D σ H h=>by
  obtain⟨S,As,ρ,o,h⟩:=h
  obtain⟨m,ts,e1,h⟩:=zck h
  obtain⟨a,vs,h1,h2,h3⟩:=zbo o e1
  refine ⟨_,_,o.view M,?_⟩
  cases e2:F1 (view M ρ) with
  | exc c=>rw [e2] at h;exact h
  | bad=>rw [e2] at h;exact h
  | ok t =>
   rw [e2,Res.sthen_ok] at h
   intro y1 H1 S1 A1 g1
   obtain rfl:=g1.den.alA
   refine ⟨_,h1,_,_,(o.view M).grow g1.g,?_⟩
   cases e3:F2 (view M ρ) with
   | exc c=>rw [e3] at h;exact h
   | bad=>rw [e3] at h;exact h
   | ok u =>
    rw [e3,Res.sthen_ok] at h
    intro y2 H2 S2 A2 g2
    obtain rfl:=g2.den.alA
    cases e4:F3 (view M ρ) with
    | bad=>rw [e4] at h;exact (show False from h).elim
    | exc c=>rw [e4] at h;exact (show False from h).elim
    | ok w =>
     rw [e4,Res.no_ok,Res.sthen_ok] at h
     obtain⟨v,k,l,j,us,n,rfl,rfl,rfl,ej,eu,en,rfl,h9⟩:=zlJ h
     obtain⟨_,rfl⟩:=zac.mp g1.den
     obtain⟨_,rfl⟩:=zac.mp g2.den
     have gg:=g1.g.trans g2.g
     have o2:=o.grow gg
     obtain⟨a',vs',b,ws,B,r1,r2,r3,r4,r5,_⟩:=o2.inner e1 eu
     rw [h1] at r1
     cases r1
     refine ⟨a,vs',k,.ref b,rfl,rfl,.of r2,zmO ej r3 r4,S2,view M ρ,((o.view M).grow gg),?_⟩
     rw [e4]
     intro y3 H3 S3 A3 g3
     obtain⟨_,rfl⟩:=zac.mp g3.den
     have ggg:=gg.trans g3.g
     have o3:=o.grow ggg
     obtain⟨a'',vs'',b',ws',B',t1,t2,t3,t4,t5,t6,t7,t8,t9,t10⟩:=o3.inner e1 eu
     rw [h1] at t1
     cases t1
     have:b'=b:=by
      have:=g3.g.same _ _ r2
      rw [t2] at this
      cases this
      rw [t4] at r4
      cases r4
      rfl
     subst this
     obtain⟨B2,u1,u2,u3⟩:=zhl t6 (zmP en) y1
     have hl:=t6.length
     refine ⟨b',ws',l,n,rfl,rfl,t5,by rw [hl];exact en,?_⟩
     obtain⟨As',o4⟩:=t10 (us.set n (.sc y1)) (ws'.set n y1) B2 (za6 t5 t7 (fun q=>t8 (u2 _ q)) u1) (u3 t9) (fun q=>t8 (u2 _ q)) fun c hc=>.inl (u2 c hc)
     exact h9 S As' σ _ o4 ((zaN ggg.same).trans (zbk t7 t5))
end
end TL
namespace TL
open PySem PySem.Spec L2
open PyProof.Rows hiding St
section
variable {X:Cx} {z:Z} {md md1 md2 md3:Md} {F F1 F2 F3:VEnv→Res T} {e a b c:Expr} {pos p1 p2 p3 p4:Pos} {K:PySem.W.Frag} {i:Nat} {x:Str}
noncomputable def ziX (i:Nat) (ρ:SEnv) (u:T) (k:Nat→List T→List T→SRes):SRes:=match ρ[i]?,u with
 | some (some (.fu,.lst ts)),.sc (.int l)=>match ixN ts.length l with
  | some j=>match ts[j]? with
   | some (.lst us)=>k j ts us
   | _=>.bad
  | none=>.bad
 | _,_=>.bad
theorem zjJ {S:Addr→Prop} {H:Hp} {D:Ends} {ρ:SEnv} {u:T} {k:Nat→List T→List T→SRes} (h:endS K z S H D (ziX i ρ u k)):∃ ts l j us,ρ[i]? = some (some (.fu,.lst ts))∧u=.sc (.int l)∧ixN ts.length l=some j∧ts[j]? = some (.lst us)∧endS K z S H D (k j ts us):=by
 unfold ziX at h
 split at h
 ·rename_i ts l e
  split at h
  ·rename_i j ej
   split at h
   ·rename_i us eu
    exact⟨ts,l,j,us,e,rfl,ej,eu,h⟩
   ·exact (show False from h).elim
  ·exact (show False from h).elim
 ·exact (show False from h).elim
noncomputable def hasL (i:Nat) (ρ:SEnv) (r:SRes):SRes:=zcK i ρ fun _ _=>r
noncomputable def znc (i:Nat) (M:List Bool) (F1 F2:VEnv→Res T):SEnv→SRes:=fun ρ=>hasL i ρ ((F1 (view M ρ)).sthen fun u=>(F2 (view M ρ)).no.sthen fun t=>ziX i ρ u fun j ts us=>match t with
 | .sc v=>if us.length < sizeLine then .nx (ρ.set i (some (.fu,.lst (ts.set j (.lst (us ++ [.sc v])))))) else .bad
 | _=>.bad)
theorem znN (M:List Bool) (hx:PE X a (tVar i)) (hk:JE X z md1 F1 b) (he:JE X z md2 F2 e) (hsl:zeI b:=by intro o i;rfl) (hbase:attributeBase (.Subscript a b p3) "append" X.env (eval (.Subscript a b p3) X.env)=eval (.Subscript a b p3) X.env:=by rfl)
  (hfew:((backTo p2 (starEach [e] X.env)).all (fun x=>!x.1) && (backToKw p2 (keywordEach [] X.env)).all (fun x=>x.1.isSome) && decide ([e].length + ([]:List Keyword).length + (if ([]:List Keyword).isEmpty then 0 else 1) < 30))=true:=by rfl)
  (hline:(p1.endLine == p2.line)=true:=by rfl) (hst:starEach [e] X.env=(false,eval e X.env) :: starEach [] X.env:=by rfl) (hplain:(backTo p2 (starEach [] X.env)).any (·.1)=false:=by rfl)
  (hs:swapsWith (.Call (.Attribute (.Subscript a b p3) "append" p1) [e] [] p2) none pos.line X.env=pure false:=by rfl):JS X z (znc i M F1 F2) (.Expr (.Call (.Attribute (.Subscript a b p3) "append" p1) [e] [] p2) pos):=
 PS.imp (zco (zg3 PySem.F.plainAttrs_list PySem.F.slot_list_append PySem.F.type_list_append zcq (zlM zep hx (JE.al hk) hsl) (za2 (JE.al he) zbT hst) hbase hfew hline hst hplain) hs) fun D σ H h=>by
  obtain⟨S,As,ρ,o,h⟩:=h
  obtain⟨m,ts0,e1,h⟩:=zck h
  obtain⟨a,vs,h1,h2,h3⟩:=zbo o e1
  refine ⟨_,h1,_,_,o.view M,?_⟩
  cases e2:F1 (view M ρ) with
  | exc c=>rw [e2] at h;exact h
  | bad=>rw [e2] at h;exact h
  | ok u =>
   rw [e2,Res.sthen_ok] at h
   intro y1 H1 S1 A1 g1
   obtain rfl:=g1.den.alA
   cases e3:F2 (view M ρ) with
   | exc c=>rw [e3] at h;exact (show False from h).elim
   | bad=>rw [e3] at h;exact (show False from h).elim
   | ok t =>
    rw [e3,Res.no_ok,Res.sthen_ok] at h
    obtain⟨ts,l,j,us,er,rfl,ej,eu,h9⟩:=zjJ h
    obtain⟨_,rfl⟩:=zac.mp g1.den
    cases t with
    | scr _=>exact (show False from h9).elim
    | lst _=>exact (show False from h9).elim
    | tup _=>exact (show False from h9).elim
    | sc v =>
     replace h9:endS X.K z S H D (if us.length < sizeLine then .nx (ρ.set i (some (.fu,.lst (ts.set j (.lst (us ++ [.sc v])))))) else .bad):=h9
     split at h9
     ·rename_i hz
      have o1:=o.grow g1.g
      obtain⟨a',vs',b,ws,B,r1,r2,r3,r4,r5,r6,_⟩:=o1.inner er eu
      rw [h1] at r1
      cases r1
      refine ⟨a,vs',l,.ref b,rfl,rfl,.of r2,zmO ej r3 r4,.inl ⟨rfl,ws,.of r5⟩,S1,view M ρ,((o.view M).grow g1.g),?_⟩
      rw [e3]
      intro y3 H3 S3 A3 g3
      obtain⟨_,rfl⟩:=zac.mp g3.den
      have gg:=g1.g.trans g3.g
      have o3:=o.grow gg
      obtain⟨a'',vs'',b',ws',B',t1,t2,t3,t4,t5,t6,t7,t8,t9,t10⟩:=o3.inner er eu
      rw [h1] at t1
      cases t1
      have:b'=b:=by
       have:=g3.g.same _ _ r2
       rw [t2] at this
       cases this
       rw [t4] at r4
       cases r4
       rfl
      subst this
      refine ⟨b',ws',y3,rfl,rfl,t5,by rw [t6.length];exact hz,?_⟩
      obtain⟨As',o4⟩:=t10 (us ++ [.sc y3]) (ws' ++ [y3]) (B' ++ []) ((za6 t5 t7 t8 t6).append (Dens.cons (A1:=[]) (A2:=[]) (zcN _) Dens.nil)) (by simpa using t9) (by simpa using t8) fun c hc=>.inl (by simpa using hc)
      exact h9 S As' σ _ o4 ((zaN gg.same).trans (zbk t7 t5))
     ·exact (show False from h9).elim
end
end TL
namespace TL
open PySem PySem.Spec L2
open PyProof.Rows hiding St
noncomputable def endU (z:Z) (H:Hp) (S:Addr→Prop) (Q:VK):Res Unit→Prop
 | .ok _=>∀ x H' S',Grow H S H' S'→Q (.str x) H'
 | .exc c=>∀ H',Same z.H₀ H'→z.E (.ref (z.cl c)) none H'
 | .bad=>False
def trs (K:PySem.W.Frag) (z:Z) (F:VEnv→Res Unit):TE:=fun σ H Q=>∃ S ρ,OkE K z S ρ σ H∧endU z H S Q (F ρ)
noncomputable def uOk:VEnv→Res Unit:=fun _=>.ok ()
section
variable {X:Cx} {z:Z} {md md1:Md} {F F1 F2 F3:VEnv→Res T} {U:VEnv→Res Unit} {e a b c:Expr} {pos p1 p2 p3 p4:Pos} {K:PySem.W.Frag} {i:Nat} {x:Str}
theorem zmK {j}:PE X (.Constant (.str x) j pos) (trs X.K z uOk):=PE.imp zo2 fun σ H Q h=>by
 obtain⟨S,ρ,o,h⟩:=h
 exact h x H S (.refl o.dom)
def PJ (X:Cx) (parts:List Expr) (n:Nat) (t:St→Hp→(Hp→Prop)→Prop):Prop:=
 ∀ (out:Str) (pins:List (Addr×Obj)) (s:Shared) (σ:St) (H:Hp) (Q:Hp→Prop),out.length + n≤1000→Inv X pins σ H s→t σ H Q →
  wpAny (model X.prog X.w) X.A (joinParts out (evalEach parts X.env)) (fun u s'=>∃ x tk H',u=.str x tk∧Inv X pins σ H' s'∧Q H') X.xe s
noncomputable def tju (K:PySem.W.Frag) (z:Z) (F:VEnv→Res Unit):St→Hp→(Hp→Prop)→Prop:=fun σ H Q=>∃ S ρ,OkE K z S ρ σ H∧endU z H S (fun _=>Q) (F ρ)
theorem zdb:1000≤sizeLine:=by decide
theorem zoZ:PJ X [] 0 (tju X.K z uOk):=by
 intro out pins s σ H Q hn I h
 obtain⟨S,ρ,o,h⟩:=h
 refine joinParts_nilE (joinParts_nil ⟨out,_,H,rfl,I.tok _,h out H S (.refl o.dom)⟩ (Nat.le_trans (by lia) zdb))
theorem zmy {es:List Expr} {n j} (hr:PJ X es n (tju X.K z U)):PJ X (.Constant (.str x) j pos :: es) (x.length + n) (tju X.K z U):=by
 intro out pins s σ H Q hn I h
 refine joinParts_consE (joinParts_cons (Calls.Constant_str ⟨?_,?_⟩))
 ·exact Nat.le_trans (by rw [strLen_append];lia) zdb
 ·exact hr _ pins _ σ H Q (by rw [strLen_append];lia) (I.tok _) h
noncomputable def uInt (F:VEnv→Res T) (U:VEnv→Res Unit):VEnv→Res Unit:=fun ρ=>(F ρ).bind fun t=>match t with
 | .sc (.int i)=>if 0≤i∧i < 100 then U ρ else .bad
 | _=>.bad
theorem zf0:∀ k:Fin 100,(toString ((k.val:Nat):Int):Str).length≤2:=by decide +kernel
theorem zjW {i:Int} (h0:0≤i) (h1:i < 100):i.natAbs.log2 < 1920:=by
 have:i.natAbs < 2 ^ 7:=by lia
 have h2:i.natAbs.log2 < 7:=by
  by_cases h:i.natAbs=0
  ·rw [h];decide
  ·exact (Nat.log2_lt h).mpr this
 lia
theorem zjX {i:Int} (h0:0≤i) (h1:i < 100):(toString i:Str).length≤2:=by
 have:=zf0 ⟨i.toNat,by lia⟩
 rw [show (((⟨i.toNat,by lia⟩:Fin 100).val:Nat):Int)=i by show ((i.toNat:Nat):Int)=i;lia] at this
 exact this
theorem zo0 {es:List Expr} {n} (he:JE X z md F e) (hr:PJ X es n (tju X.K z U)):PJ X (.FormattedValue e (-1) none pos :: es) (2 + n) (tju X.K z (uInt F U)):=by
 intro out pins s σ H Q hn I h
 obtain⟨S,ρ,o,h⟩:=h
 unfold uInt at h
 try dsimp only at h
 have he':=JE.al he
 refine joinParts_consE (joinParts_cons (FormattedValue_plain (thn (he' pins s σ H (fun v H1=>∃ i,v=.int i∧0≤i∧i < 100∧tju X.K z U σ H1 Q) I ⟨S,ρ,o,?_⟩) fun u s1 ⟨v,H1,J,r,i,e1,h0,h1,q⟩=>?_)))
 ·cases e1:F ρ with
  | exc c=>rw [e1] at h;exact h
  | bad=>rw [e1] at h;exact h
  | ok t =>
   rw [e1,Res.bind_ok] at h
   intro v H1 S1 A g
   split at h
   ·rename_i i
    split at h
    ·rename_i hi
     obtain⟨_,rfl⟩:=zac.mp g.den
     refine ⟨i,rfl,hi.1,hi.2,S1,ρ,o.grow g.g,?_⟩
     cases e2:U ρ with
     | ok _=>rw [e2] at h;exact fun x H2 S2 g2=>h x H2 S2 (g.g.trans g2)
     | exc c=>rw [e2] at h;exact h
     | bad=>rw [e2] at h;exact h
    ·exact (show False from h).elim
   ·exact (show False from h).elim
 ·subst e1
  obtain⟨t,rfl⟩:=r
  have:=zjX h0 h1
  refine formatField_int_small (zjW h0 h1) ⟨?_,?_⟩
  ·exact Nat.le_trans (by rw [strLen_append];lia) zdb
  ·exact hr _ pins _ σ H1 Q (by rw [strLen_append];lia) (J.tok _) q
theorem znM {v1 v2:Expr} {es:List Expr} {n:Nat} (h:PJ X (v1 :: v2 :: es) n (tju X.K z U)) (hn:n≤1000:=by decide):PE X (.JoinedStr (v1 :: v2 :: es) pos) (trs X.K z U):=by
 intro pins s σ H Q I hq
 obtain⟨S,ρ,o,hq⟩:=hq
 refine JoinedStr_many (thn (h Str.empty pins s σ H (fun H'=>∀ x,Q (.str x) H') (by show 0 + n≤1000;lia) I ⟨S,ρ,o,?_⟩) fun u s' ⟨x,tk,H',e,J,q⟩=>⟨.str x,H',J,⟨tk,e⟩,q x⟩)
 cases e2:U ρ with
 | ok _=>rw [e2] at hq;exact fun _ H2 S2 g2 y=>hq y H2 S2 g2
 | exc c=>rw [e2] at hq;exact hq
 | bad=>rw [e2] at hq;exact hq
noncomputable def zeX (c:Nat) (M:List Bool) (U:VEnv→Res Unit):SEnv→SRes:=fun ρ=>(U (view M ρ)).sthen fun _=>.exc c
abbrev bmV:List Value:=[.type "ValueError", .type "Exception", .type "BaseException", .type "object"]
theorem zfJ {c:Nat} {C:Addr} {np cpos:Pos} (M:List Bool) (hcl:z.cl c=C) (hR:zlr X z.E) (hh:X.A.handled=none) (hg:Gl X x) (hm:X.mg x=some (.ref C)) (hc:PySem.W.excIn X.K C bmV "ValueError.__new__" = true) (ha:PE X e (trs X.K z U)) (hdb:(x == ("__debug__" : Str))=false:=by decide)
  (he:starEach [e] X.env=[(false,eval e X.env)]:=by rfl):JS X z (zeX c M U) (.Raise (some (.Call (.Name x np) [e] [] cpos)) none pos):=
 PS.imp (zlK PySem.F.excBase_ValueError hR hh hg hm hc (za2 ha zbT he) (by decide +kernel) hdb he) fun D σ H h=>by
  obtain⟨S,As,ρ,o,h⟩:=h
  refine ⟨_,_,o.view M,?_⟩
  unfold zeX at h
  try dsimp only at h
  cases e1:U (view M ρ) with
  | exc c=>rw [e1] at h;exact h
  | bad=>rw [e1] at h;exact h
  | ok u =>
   rw [e1,Res.sthen_ok] at h
   intro y H' S' g
   refine ⟨Nat.le_trans (by show 1≤1000;decide) zdb,?_⟩
   rw [← hcl]
   exact h H' (o.same.trans g.same)
end
end TL
namespace TL
open PySem PySem.Spec L2
open PyProof.Rows hiding St
noncomputable def Itz (K:PySem.W.Frag) (a b:Addr):It:=
 ⟨fun i H=>∃ xs ys x y,SqL K H a xs∧SqL K H b ys∧xs[i]? = some x∧ys[i]? = some y,
  fun i H v H'=>∃ p x y,H p=none∧v=.ref p∧H'=upd H p (.tup [x,y])∧∀ xs ys,SqL K H a xs→SqL K H b ys→xs[i]? = some x∧ys[i]? = some y,
  fun i H=>∃ xs ys,SqL K H a xs∧SqL K H b ys∧(xs.length≤i∨ys.length≤i)⟩
theorem Inv.turnedTup {X:Cx} {pins:List (Addr×Obj)} {σ:St} {H:Hp} {s:Shared} {h':Heap} {ch:List Addr} {p:Addr} {xs:List V} {its:List Value} {tk:Nat} (I:Inv X pins σ H s) (hf:∀ b∈ch,FpOk X pins H b) (hp:s.heap.objs.size≤p)
  (k:∀ b o,b∉ch→s.heap.get? b=some o→h'.get? b=some o) (hv:Vals xs its) (hz:xs.length≤sizeLine) (ht:IsTup h' p its.toArray):Inv X pins σ (upd H p (.tup xs)) { s with heap:=h',toks:=tk }:=by
 have hn:H p=none:=I.hok.fresh hp
 have un:Un (frs X.stack) ch H (upd H p (.tup xs)) s.heap h':=
  ⟨fun b o e _ _ hx=>k b o hx e,fun b o e _ _ hx=>⟨o.slots,k b o hx e⟩,fun b o e n _=>by rw [zat (Nat.ne_of_lt (Nat.lt_of_lt_of_le (Heap.lt_size e) hp))];exact n,fun b o e hx=>⟨o,k b o hx e⟩,
   fun b ys q=>by rw [zat (zaA q hn)];exact q,fun b u ys q=>by rw [zat (zaA q hn)];exact q,fun b ps q=>⟨#[],by rw [zat (zaA q hn),q];simp⟩⟩
 have hok:HOk X.prog X.w (upd H p (.tup xs)) h':=fun b u e=>by
  by_cases hb:b=p
  ·subst hb;rw [zaB] at e;cases e;exact⟨hz,its,hv,ht⟩
  ·rw [zat hb] at e
   have nch:∀ c u,H c=some u→c∉ch:=fun c u q hc=>by rw [(hf c hc).1] at q;cases q
   refine (I.hok b u e).stay (fun c v hc r=>k c v ?_ r) (fun c q=>by rw [zat (zaA q hn)];exact q) fun c ys q=>by rw [zat (zaA q hn)];exact q
   rcases hc with rfl | hc
   ·exact nch _ _ e
   ·exact nch _ _ hc
 exact I.call (g':=s.gens) (t':=tk) (d':=s.drawn) un hok I.bare fun b hb=>let ⟨_,h1,_,h3,h4,h5⟩:=hf b hb;⟨h3,h1,h4,h5⟩
theorem Inv.turnedMany {X:Cx} {pins:List (Addr×Obj)} {σ:St} {H:Hp} {s:Shared} {h':Heap} {ch:List Addr} {tk:Nat} (I:Inv X pins σ H s) (hf:∀ b∈ch,FpOk X pins H b)
  (k:∀ b o,b∉ch→s.heap.get? b=some o→h'.get? b=some o):Inv X pins σ H { s with heap:=h',toks:=tk }:=by
 have un:Un (frs X.stack) ch H H s.heap h':=
  ⟨fun b o e _ _ hx=>k b o hx e,fun b o e _ _ hx=>⟨o.slots,k b o hx e⟩,fun b o e n _=>n,fun b o e hx=>⟨o,k b o hx e⟩,fun b ys q=>q,fun b u ys q=>q,fun b ps q=>⟨#[],by rw [q];simp⟩⟩
 have hok:HOk X.prog X.w H h':=fun b u e=>by
  have nch:∀ c u,H c=some u→c∉ch:=fun c u q hc=>by rw [(hf c hc).1] at q;cases q
  refine (I.hok b u e).stay (fun c v hc r=>k c v ?_ r) (fun c q=>q) fun c ys q=>q
  rcases hc with rfl | hc
  ·exact nch _ _ e
  ·exact nch _ _ hc
 exact I.call (g':=s.gens) (t':=tk) (d':=s.drawn) un hok I.bare fun b hb=>let ⟨_,h1,_,h3,h4,h5⟩:=hf b hb;⟨h3,h1,h4,h5⟩
theorem zjH {n a b:Nat} (ha:a < n) (hb:b < n):ZipApart (n + 4) (n + 2) (n + 3) n (n + 1) a b:=
 ⟨fun h=>absurd (show (n + 2:Nat)=n + 4 from h) (by lia),fun h=>absurd (show (n + 3:Nat)=n + 4 from h) (by lia),fun h=>absurd (show (n:Nat)=n + 4 from h) (by lia),fun h=>absurd (show (n + 1:Nat)=n + 4 from h) (by lia),fun h=>absurd (show (n + 2:Nat)=n + 3 from h) (by lia),fun h=>absurd (show (n + 2:Nat)=n from h) (by lia),fun h=>absurd (show (n + 2:Nat)=n + 1 from h) (by lia),fun h=>absurd (show (n + 3:Nat)=n from h) (by lia),fun h=>absurd (show (n + 3:Nat)=n + 1 from h) (by lia),fun h=>absurd (show (n:Nat)=n + 1 from h) (by lia),fun h=>absurd (show (a:Nat)=n + 4 from h) (by lia),fun h=>absurd (show (a:Nat)=n + 3 from h) (by lia),fun h=>absurd (show (a:Nat)=n from h) (by lia),fun h=>absurd (show (a:Nat)=n + 1 from h) (by lia),fun h=>absurd (show (b:Nat)=n + 4 from h) (by lia),fun h=>absurd (show (b:Nat)=n + 3 from h) (by lia),fun h=>absurd (show (b:Nat)=n from h) (by lia),fun h=>absurd (show (b:Nat)=n + 1 from h) (by lia)⟩
theorem zlz {P:Program} {w:World} {K:PySem.W.Frag} {elts:List Expr} {x1} {pos:Pos} (a b z TI TO i1 i2:Addr) (D:ZipApart z TI TO i1 i2 a b):Turn P w K (.Tuple elts x1 pos) (Itz K a b) [z,TI,TO,i1,i2] z
  (fun i h=>IsZip h z TI TO .none∧IsPair h TI (.ref i1) (.ref i2)∧(∃ u v,IsPair h TO u v)∧h.IsListIter i1 a i∧h.IsListIter i2 b i) where
 mem:=by simp
 obj:=fun i h st c hc=>by
  obtain⟨hz,hTI,⟨u,v,hTO⟩,h1,h2⟩:=st
  simp only [List.mem_cons,List.not_mem_nil,or_false] at hc
  rcases hc with rfl | rfl | rfl | rfl | rfl
  ·exact⟨_,hz,fun v z=>by cases z⟩
  ·exact⟨_,hTI,fun v z=>by cases z⟩
  ·exact⟨_,hTO,fun v z=>by cases z⟩
  ·obtain⟨o,e,c,d⟩:=h1
   exact⟨o,e,fun v z=>by rw [d] at z;cases z⟩
  ·obtain⟨o,e,c,d⟩:=h2
   exact⟨o,e,fun v z=>by rw [d] at z;cases z⟩
 keep:=fun i h h' st k=>by
  obtain⟨hz,hTI,⟨u,v,hTO⟩,h1,h2⟩:=st
  exact⟨k z (by simp) _ hz,k TI (by simp) _ hTI,⟨u,v,k TO (by simp) _ hTO⟩,h1.at fun o e=>k i1 (by simp) o e,h2.at fun o e=>k i2 (by simp) o e⟩
 item:=by
  intro X hP hw hK hc i pins s σ H E I hf st hg
  subst hP hw hK
  obtain⟨hz,hTI,⟨u0,v0,hTO⟩,h1,h2⟩:=st
  obtain⟨xs,ys,x,y,hq1,hq2,hx,hy⟩:=hg
  obtain⟨its1,rv1,p1,z1⟩:=I.list hq1
  obtain⟨its2,rv2,p2,z2⟩:=I.list hq2
  obtain⟨u,hu,ru⟩:=rv1.get hx
  obtain⟨v,hv,rv⟩:=rv2.get hy
  refine wpAny_pyNext_zip_item D hz hTI hTO h1 h2 p1.isList p2.isList (x:=u) (y:=v) (by simpa using hu) (by simpa using hv) fun h' a1 a2 a3 a4 a5 a6 a7=>⟨_,rfl,?_⟩
  have lt:∀ c∈[z,TI,TO,i1,i2],c < s.heap.objs.size:=fun c hc=>by
   simp only [List.mem_cons,List.not_mem_nil,or_false] at hc
   rcases hc with rfl | rfl | rfl | rfl | rfl
   ·exact Heap.lt_size hz
   ·exact Heap.lt_size hTI
   ·exact Heap.lt_size hTO
   ·obtain⟨o,e,_⟩:=h1;exact Heap.lt_size e
   ·obtain⟨o,e,_⟩:=h2;exact Heap.lt_size e
  have nz:s.heap.objs.size≠z:=Nat.ne_of_gt (lt z (by simp))
  refine wpAny_letOwnedTupleGo_zip (s:={ s with heap:=h' }) a1 fun h'' b1 b2=>?_
  have hn:H s.heap.objs.size=none:=I.hok.fresh (Nat.le_refl _)
  have kp:∀ c o,c∉[z,TI,TO,i1,i2]→s.heap.get? c=some o→h''.get? c=some o:=fun c o hc e=>by
   simp only [List.mem_cons,List.not_mem_nil,or_false,not_or] at hc
   exact (b2.2 c hc.1).trans (a7 c o hc.1 hc.2.2.1 hc.2.2.2.1 hc.2.2.2.2 e)
  have tp:IsTup h'' s.heap.objs.size [u,v].toArray:=⟨_,(b2.2 _ nz).trans a5,rfl,_,rfl⟩
  have I1:=Inv.turnedTup (xs:=[x,y]) (its:=[u,v]) (tk:=s.toks) I hf (Nat.le_refl _) kp (.cons ru (.cons rv .nil)) (by show 2≤sizeLine;decide) tp
  refine ⟨.ref s.heap.objs.size,_,I1,rfl,⟨s.heap.objs.size,x,y,hn,rfl,rfl,fun xs' ys' g1 g2=>by rw [I.list_inj g1 hq1,I.list_inj g2 hq2];exact⟨hx,hy⟩⟩,?_,fun c hc=>?_⟩
  ·exact⟨b1,(b2.2 TI D.TIz).trans (a7 TI _ D.TIz D.TITO D.TIi1 D.TIi2 hTI),⟨u,v,(b2.2 TO D.TOz).trans a2⟩,a3.at fun o e=>(b2.2 i1 D.i1z).trans e,a4.at fun o e=>(b2.2 i2 D.i2z).trans e⟩
  ·rw [zat (Nat.ne_of_lt (lt c hc))];exact (hf c hc).1
 done:=by
  intro X hP hw hK hc i pins s σ H E I hf st hg
  subst hP hw hK
  obtain⟨hz,hTI,⟨u0,v0,hTO⟩,h1,h2⟩:=st
  obtain⟨xs,ys,hq1,hq2,hx⟩:=hg
  obtain⟨its1,rv1,p1,z1⟩:=I.list hq1
  obtain⟨its2,rv2,p2,z2⟩:=I.list hq2
  have l1:=rv1.length
  have l2:=rv2.length
  refine wpAny_pyNext_zip_end (I.ok.hd hc) D hz hTI hTO h1 h2 p1.isList p2.isList (hx.imp (fun q=>by simp;lia) fun q=>by simp;lia) fun h' kp=>⟨rfl,Inv.turnedMany (tk:=s.toks) I hf fun b o hb e=>?_⟩
  simp only [List.mem_cons,List.not_mem_nil,or_false,not_or] at hb
  exact kp b o hb.1 hb.2.2.1 hb.2.2.2.1 hb.2.2.2.2 e
 self:=fun _ _ _ _ _ st h=>wpAny_pyIter_zip st.1 h
section
variable {X:Cx} {z:Z} {md1 md2:Md} {F1 F2:VEnv→Res T} {a b:Expr} {pos p p2:Pos} {K:PySem.W.Frag} {elts:List Expr} {x1:Nat}
noncomputable def zipT (xs ys:List T):List T:=List.zipWith (fun x y=>.tup [x,y]) xs ys
noncomputable def iZip (F1 F2:VEnv→Res T):VEnv→Res (List T):=fun ρ=>(F1 ρ).bind fun t=>(F2 ρ).bind fun u=>.of ((asL t).bind fun xs=>(asL u).bind fun ys=>some (zipT xs ys))
theorem znO {H:Hp} {S:Addr→Prop} {a b:Addr} {vs ws:List V} {ts us:List T} (hS:S a) (hH:H a=some (.lst vs)) (d:Dens K H S ts .al [] vs) (hS':S b) (hH':H b=some (.lst ws)) (d':Dens K H S us .al [] ws):JOk K (Itz K a b) H S (zipT ts us):=by
 have len:(zipT ts us).length=min ts.length us.length:=by unfold zipT;rw [List.length_zipWith]
 refine ⟨fun H2 S2 s dm i t e=>?_,fun H2 S2 s _=>⟨vs,ws,.of (s.frm.nodes _ _ hS hH),.of (s.frm.nodes _ _ hS' hH'),by rw [len,d.length,d'.length];lia⟩⟩
 have h2:SqL K H2 a vs:=.of (s.frm.nodes _ _ hS hH)
 have h2':SqL K H2 b ws:=.of (s.frm.nodes _ _ hS' hH')
 have hi:i < (zipT ts us).length:=(List.getElem?_eq_some_iff.mp e).1
 rw [len] at hi
 have e1:ts[i]? = some ts[i]:=List.getElem?_eq_getElem (by lia)
 have e2:us[i]? = some us[i]:=List.getElem?_eq_getElem (by lia)
 have et:t=.tup [ts[i],us[i]]:=by
  unfold zipT at e
  rw [List.getElem?_zipWith,e1,e2] at e
  exact (Option.some.inj e).symm
 subst et
 obtain⟨v,h3,h4⟩:=(s.dens d).get e1
 obtain⟨w,h5,h6⟩:=(s.dens d').get e2
 refine ⟨⟨vs,ws,v,w,h2,h2',h3,h5⟩,fun x H3 y=>?_⟩
 obtain⟨q,x',y',hn,rfl,rfl,y⟩:=y
 obtain⟨y1,y2⟩:=y vs ws h2 h2'
 rw [h3] at y1
 rw [h5] at y2
 cases y1
 cases y2
 have sm:Same H2 (upd H2 q (.tup [v,w])):=fun c o e=>by rw [zat (zaA e hn)];exact e
 exact⟨⟨sm,fun _ h=>h,fun _ h=>.inl h,fun c h=>zbP sm (dm c h)⟩,zar.mpr ⟨rfl,q,_,rfl,.inl (.inl zaB),Dens.cons0 (h4.mono sm fun _ h=>h) (Dens.cons0 (h6.mono sm fun _ h=>h) Dens.nil)⟩⟩
theorem zmN (hg:Gl X "zip") (hm:X.mg "zip" = none) (ha:JE X z md1 F1 a) (hb:JE X z md2 F2 b) (hs:starEach [a,b] X.env=(false,eval a X.env) :: starEach [b] X.env:=by rfl) (hs2:starEach [b] X.env=(false,eval b X.env) :: starEach [] X.env:=by rfl) (hpl:(backTo pos (starEach [b] X.env)).any (·.1)=false:=by rfl) :
  JI X z (.Tuple elts x1 p2) (iZip F1 F2) (.Call (.Name "zip" p) [a,b] [] pos):=by
 intro pins s σ H R I h
 have hA:PA X [a,b] (zjP (tr X.K z .al F1) (zjP (tr X.K z .al F2) tNil)):=za2 (JE.al ha) (za2 (JE.al hb) zbT hs2) hs
 refine Call_ (zdc I hg hm boot_zip (callWith_type1 (thn (hA pos pins s σ H (fun vs H1=>∃ a b xs ys ts us S1,vs=[.ref a,.ref b]∧S1 a∧S1 b∧H1 a=some (.lst xs)∧H1 b=some (.lst ys)∧Dens X.K H1 S1 ts .al [] xs∧Dens X.K H1 S1 us .al [] ys∧Dom S1 H1∧∀ J H' S',Grow H1 S1 H' S'→JOk X.K J H' S' (zipT ts us)→R J H') I ?_) fun us s1 ⟨vs,H1,I1,r1,q1⟩=>?_) hs hpl))
 ·obtain⟨S,ρ,o,h⟩:=h
  refine ⟨S,ρ,o,?_⟩
  unfold iZip at h
  try dsimp only at h
  cases e1:F1 ρ with
  | exc c=>rw [e1] at h;exact h
  | bad=>rw [e1] at h;exact h
  | ok t =>
   rw [e1,Res.bind_ok] at h
   intro v1 H1 S1 A1 g1
   obtain rfl:=g1.den.alA
   refine ⟨S1,ρ,o.grow g1.g,?_⟩
   cases e2:F2 ρ with
   | exc c=>rw [e2] at h;exact h
   | bad=>rw [e2] at h;exact h
   | ok u =>
    rw [e2,Res.bind_ok] at h
    intro v2 H2 S2 A2 g2
    obtain rfl:=g2.den.alA
    cases t with
    | lst ts =>
     cases u with
     | lst us =>
      obtain⟨_,a,xs,rfl,q1,q2,q3⟩:=zag.mp (g1.den.mono g2.g.same g2.g.up)
      obtain⟨_,b,ys,rfl,q4,q5,q6⟩:=zag.mp g2.den
      exact⟨a,b,xs,ys,ts,us,S2,rfl,q1,q4,q2,q5,q3,q6,g2.g.dom,fun J H' S' g=>h J H' S' ((g1.g.trans g2.g).trans g)⟩
     | sc _=>exact (show False from h).elim
     | scr _=>exact (show False from h).elim
     | tup _=>exact (show False from h).elim
    | sc _=>exact (show False from h).elim
    | scr _=>exact (show False from h).elim
    | tup _=>exact (show False from h).elim
 ·obtain⟨a,b,xs,ys,ts,us',S1,rfl,q1,q2,q3,q4,q5,q6,dm,q⟩:=q1
  obtain⟨u1,u2,rfl,r1,r2⟩:=zow r1
  cases r1
  cases r2
  obtain⟨its1,rv1,p1,z1⟩:=I1.list (.of q3)
  obtain⟨its2,rv2,p2,z2⟩:=I1.list (.of q4)
  have la:a < s1.heap.objs.size:=I1.hok.lt q3
  have lb:b < s1.heap.objs.size:=I1.hok.lt q4
  refine call_zip_2 p1.isList p2.isList fun h' a1 a2 a3 a4 a5 a6 kp=>wpAny_pyIter_zip a1 ?_
  have I2:Inv X pins σ H1 { s1 with heap:=h' }:=I1.kept (t':=s1.toks) kp
  refine ⟨s1.heap.objs.size + 4,[s1.heap.objs.size + 4,s1.heap.objs.size + 2,s1.heap.objs.size + 3,s1.heap.objs.size,s1.heap.objs.size + 1],_,_,H1,rfl,I2,
   zlz a b _ _ _ _ _ (zjH la lb),⟨a1,a2,⟨_,_,a3⟩,a4,a5⟩,fun c hc=>?_,q _ H1 S1 (.refl dm) (znO q1 q3 q5 q2 q4 q6)⟩
  ·have hge:s1.heap.objs.size≤c:=by
    simp only [List.mem_cons,List.not_mem_nil,or_false] at hc
    rcases hc with rfl | rfl | rfl | rfl | rfl <;> lia
   exact I1.fpOk hge (I1.hok.fresh hge)
end
end TL
namespace TL
open PySem PySem.Spec L2
open PyProof.Rows hiding St
def g2 (K:PySem.W.Frag) (i j:Nat):TG:=gTup K 2 (znS (zfN i) (znS (zfN j) gNil))
theorem ziG {K:PySem.W.Frag} {H:Hp} {S:Addr→Prop} {x y:T} {v:V} (d:Den K H S (.tup [x,y]) .al [] v):∃ a u w,v=.ref a∧SqT K H a [u,w]∧Den K H S x .al [] u∧Den K H S y .al [] w:=by
 obtain⟨_,a,vs,rfl,h1,h2⟩:=zar.mp d
 obtain⟨u,w,rfl,h3,h4⟩:=zfP h2
 exact⟨a,u,w,rfl,h1,h3,h4⟩
theorem zle {K:PySem.W.Frag} (i j:Nat):zoo K (g2 K i j) (gS2 i j):=by
 intro z S As ρ σ H t v ρ' Q o d e k
 unfold gS2 at e
 split at e
 ·rename_i x y
  obtain⟨a,u,w,rfl,h1,h2,h3⟩:=ziG d
  cases e1:gS i x ρ with
  | none=>rw [e1] at e;cases e
  | some ρ1 =>
   rw [e1] at e
   refine ⟨a,[u,w],rfl,h1,rfl,u,[w],rfl,?_⟩
   refine zaZ i z S As ρ σ H x u ρ1 _ o h2 e1 fun As1 σ1 o1=>⟨w,[],rfl,?_⟩
   exact zaZ j z S As1 ρ1 σ1 H y w ρ' _ o1 h3 e fun As2 σ2 o2=>⟨rfl,k As2 σ2 o2⟩
 ·cases e
theorem zpQ {K:PySem.W.Frag} {n i j:Nat} (hi:i < n) (hj:j < n):ziV K n (g2 K i j) (gE2 i j):=by
 intro z S ρ σ H t v ρ' Q o hl d e k
 unfold gE2 at e
 split at e
 ·rename_i x y
  split at e
  ·cases e
  ·rename_i hij
   split at e
   ·rename_i hf
    obtain⟨a,u,w,rfl,h1,h2,h3⟩:=ziG d
    cases e1:gE i x ρ with
    | none=>rw [e1] at e;cases e
    | some ρ1 =>
     rw [e1] at e
     refine ⟨a,[u,w],rfl,h1,rfl,u,[w],rfl,?_⟩
     refine zaY hi z S ρ σ H x u ρ1 _ o hl h2 e1 fun σ1 o1 o1' hl1=>⟨w,[],rfl,?_⟩
     refine zaY hj z S ρ1 σ1 H y w ρ' _ o1 hl1 h3 e fun σ2 o2 o3 hl2=>⟨rfl,k σ2 o2 ?_ hl2⟩
     unfold gE at e1
     split at e1
     ·rename_i hfi
      cases e1
      refine ⟨o.same,o.dom,fun l t el=>o3.sl l t ?_⟩
      have hl:l≠i:=fun q=>by subst q;rw [zgl hfi] at el;cases el
      rw [List.getElem?_set_ne (Ne.symm hl)]
      exact el
     ·cases e1
   ·cases e
 ·cases e
section
variable {X:Cx} {z:Z} {md md1 md2:Md} {F F1 F2:VEnv→Res T} {e a b:Expr} {pos px py pt pt2:Pos} {K:PySem.W.Frag} {i j:Nat} {x y:Str} {kt k2:Nat}
noncomputable def zlN (i j:Nat) (t u:T) (ρ:SEnv):SRes:=match t,u with
 | .sc v,.sc w=>if i < ρ.length∧j < ρ.length then .nx ((ρ.set i (some (.fu,.sc v))).set j (some (.fu,.sc w))) else .bad
 | _,_=>.bad
noncomputable def sPar (i j:Nat) (M:List Bool) (F1 F2:VEnv→Res T):SEnv→SRes:=fun ρ=>(F1 (view M ρ)).sthen fun t=>(F2 (view M ρ)).sthen fun u=>zlN i j t u ρ
theorem Ok.setSc {S:Addr→Prop} {As:Nat→List Addr} {ρ:SEnv} {σ:St} {H:Hp} (o:Ok K z S As ρ σ H) (v:V) {i:Nat} (hi:i < ρ.length):Ok K z S (fun j=>if j=i then [] else As j) (ρ.set i (some (.fu,.sc v))) (σ.set i (some v)) H:=
 o.put ⟨.refl o.dom,List.nodup_nil,fun _ z=>(nomatch z),zcN v⟩ i hi
theorem zps (M:List Bool) (hc:X.calm=true) (hN:X.N.Nodup) (hi:X.N[i]? = some x) (hj:X.N[j]? = some y) (hij:i≠j) (hx:X.env.scope.names.lookup x=some .local) (hy:X.env.scope.names.lookup y=some .local) (ha:JE X z md1 F1 a) (hb:JE X z md2 F2 b)
  (hw:swappedStores [.Tuple [.Name x px,.Name y py] kt pt] (.Tuple [a,b] k2 pt2) X.env=pure (some [x,y])) (hs:swapsWithSole [.Tuple [.Name x px,.Name y py] kt pt] (.Tuple [a,b] k2 pt2) pos.line X.env=pure false:=by rfl)
  (he:starEach [a,b] X.env=(false,eval a X.env) :: starEach [b] X.env:=by rfl) (he2:starEach [b] X.env=(false,eval b X.env) :: starEach [] X.env:=by rfl) :
  JS X z (sPar i j M F1 F2) (.Assign [.Tuple [.Name x px,.Name y py] kt pt] (.Tuple [a,b] k2 pt2) pos):=
 PS.imp (zoY hc hN hi hj hij hx hy (za2 (JE.al ha) (za2 (JE.al hb) zbT he2) he) hw hs) fun D σ H h=>by
  obtain⟨S,As,ρ,o,h⟩:=h
  refine zms (md1:=.al) (md2:=.al) (R:=fun y w H2=>∃ v w',[y,w]=[v,w']∧D.nx ((σ.set i (some v)).set j (some w')) H2) o h fun t u y w H1 H2 S1 S2 A1 A2 g1 g2 q=>?_
  unfold zlN at q
  split at q
  ·rename_i v w'
   split at q
   ·rename_i hl
    obtain⟨_,rfl⟩:=zac.mp g1.den
    obtain⟨_,rfl⟩:=zac.mp g2.den
    have gg:=g1.g.trans g2.g
    have o1:=(o.grow gg).setSc y hl.1
    have o2:=o1.setSc w (i:=j) (by rw [List.length_set];exact hl.2)
    exact⟨y,w,rfl,q S _ _ H2 o2 (zaN gg.same)⟩
   ·exact (show False from q).elim
  ·exact (show False from q).elim
end
end TL
namespace TL
open PySem PySem.Spec L2
open PyProof.Rows hiding St
section
variable {X:Cx} {z:Z} {md md1 md2 md3:Md} {F F1 F2 F3:VEnv→Res T} {e a b c:Expr} {pos p1 p2 p3 p4 p5 p6:Pos} {K:PySem.W.Frag} {i:Nat} {x:Str}
end
end TL
namespace TL
open PySem PySem.Spec L2
open PyProof.Rows hiding St
section
variable {K:PySem.W.Frag} {H H':Hp} {S S':Addr→Prop}
theorem zk3 {t:T} {ts:List T} {vs:List V} (h:Dens K H S (t :: ts) .al [] vs):∃ v us,vs=v :: us∧Den K H S t .al [] v∧Dens K H S ts .al [] us:=by
 unfold Dens at h
 obtain⟨A1,A2,v',vs',e1,e2,h1,h2⟩:=h
 obtain⟨rfl,rfl⟩:=List.append_eq_nil_iff.mp e1.symm
 exact⟨_,_,e2,h1,h2⟩
theorem zma {vs:List V} (h:Dens K H S [] .al [] vs):vs=[]:=by unfold Dens at h;exact h.2
end
section
variable {X:Cx} {z:Z} {md md1 md2 md3:Md} {F F1 F2 F3:VEnv→Res T} {e a b c a':Expr} {pos pos2 p1 p2 p3 p4:Pos} {K:PySem.W.Frag} {i p:Nat} {x:Str} {R:SEnv→SRes} {ss:List Stmt}
theorem Ok.drop {S:Addr→Prop} {As:Nat→List Addr} {ρ:SEnv} {σ:St} {H:Hp} (o:Ok K z S As ρ σ H) (p:Nat) (v:V):Ok K z S As (ρ.set p none) (σ.set p (some v)) H:=
 ⟨o.same,o.dom,by rw [List.length_set,List.length_set];exact o.ln,o.s0,o.s1,o.nd,o.ow,o.dj,fun j m t e=>by
  by_cases hj:j=p
  ·subst hj
   by_cases hl:j < ρ.length
   ·rw [List.getElem?_set_self hl] at e;cases e
   ·rw [List.getElem?_eq_none (by rw [List.length_set];lia)] at e;cases e
  ·rw [List.getElem?_set_ne (fun q=>hj q.symm)] at e
   rw [List.getElem?_set_ne (fun q=>hj q.symm)]
   exact o.sl j m t e⟩
end
end TL
namespace TL
open PySem PySem.Spec L2
open PyProof.Rows hiding St
theorem zoL:typeLookup (.type "list_reverseiterator") "__len__" = pure none:=by rw [typeLookup_type,builtinLookup_eq_fast];kernel_rfl
theorem zng:typeLookup (.type "list_reverseiterator") "__length_hint__" = pure (some (.builtin "list_reverseiterator.__length_hint__")):=by rw [typeLookup_type,builtinLookup_eq_fast];kernel_rfl
section
variable {prog:Program} {w:World} {A:Around} {s:Shared} {R:Result→Shared→Prop} {E:Value→Shared→Prop} {J:Addr} {fp wr:List Addr} {G:Array GenState→Array GenState→Prop} {n:Nat} {P:Nat→Value→Prop} {Sx:Nat→Shared→Prop}
theorem zoM (V:WalksS prog w A.in1 J fp wr G n P Sx) (ht:∀ i q,Sx i q→q.TypeIs (.ref J) "list_reverseiterator") (L:Addr) (res:Value) (c:Nat) (h0:Sx 0 s) (hL:L∉fp) (hJ:J∈fp)
  (hl:s.heap.get? L=some { cls:=.type "list", data:=.seq #[] c })
  (k:∀ q acc d,Moved (L :: wr) G s q→q.heap.get? L=some { cls:=.type "list", dict:=none,data:=.seq acc d,slots:=#[] }→ItemsOf P acc n→R (.ok (.ret res)) q) (hn:n≤sizeLine) :
  wpAny (model prog w) A.in1 (Builtin.List.listExtendWith (.ref L) (.ref J) res)
   (fun f q=>match f with | .done g=>R (.ok g) q | .again g=>g.quiet=true∧codeAny (model prog w) A g R q) (fun e q=>R (.error e) q) s:=by
 have ne:L≠J:=fun e=>hL (e ▸ hJ)
 unfold Builtin.List.listExtendWith
 refine wpAny_bind (wpAny_typeOf (ht 0 _ h0) ?_)
 have e1:Builtin.List.listSameRef (.ref L) (.ref J)=false:=by simp [Builtin.List.listSameRef,ne]
 rw [if_neg (by rw [e1];decide)]
 refine wpAny_bind (V.self 0 _ _ _ h0 ?_)
 refine wpAny_bind (wpAny_holding ?_)
 unfold Builtin.List.listLengthHint
 refine wpAny_bind (wpAny_specialOf (ht 0 _ h0) zoL ?_)
 show wpAny _ A.in1 (specialOf (Value.ref J) (Str.ofString "__length_hint__") >>= _) _ _ _
 refine wpAny_bind (wpAny_specialOf (ht 0 _ h0) zng ?_)
 generalize hid:("list_reverseiterator.__length_hint__" : String)=iz
 wp_delta
 rw [show splitId iz=some ("list_reverseiterator", "__length_hint__") from by subst hid;decide +kernel]
 subst hid
 refine wpAny_bind (wpAny_isInstance (b:=true) (ht 0 _ h0) (by rw [isSubtype_type];kernel_rfl) ?_)
 refine wpAny_pure ?_
 rw [if_neg (by decide)]
 exact wpAny_pure ⟨plainId_quiet F.plain_extend_loop _,codeAny_extend_loopS V hn _ hL _ n 0 _ _ _ rfl (Nat.zero_le _) h0 hl (ItemsOf.nil P) fun q acc d m1 m2 m3=>k q acc d m1 m2 m3⟩
theorem znf (V:WalksS prog w A.in1 J fp wr G n P Sx) (ht:∀ i q,Sx i q→q.TypeIs (.ref J) "list_reverseiterator") (L:Addr) (h0:Sx 0 s) (hL:L∉fp) (hJ:J∈fp)
  (hl:s.heap.get? L=some { cls:=.type "list", data:=.seq #[] })
  (k:∀ q acc d,Moved (L :: wr) G s q→q.heap.get? L=some { cls:=.type "list", dict:=none,data:=.seq acc d,slots:=#[] }→ItemsOf P acc n→R (.ok (.ret .none)) q) (hn:n≤sizeLine) :
  wpAny (model prog w) A.in1 (Builtin.«list.__init__» ⟨[.ref L,.ref J],[]⟩)
   (fun f q=>match f with | .done g=>R (.ok g) q | .again g=>g.quiet=true∧codeAny (model prog w) A g R q) (fun e q=>R (.error e) q) s:=by
 show wpAny _ A.in1 (Builtin.List.listItems (.ref L) >>= fun old=>Builtin.List.listUpdate (.ref L) (fun _=>#[]) >>= fun _=>letGo old.toList.reverse >>= fun _=>Builtin.List.listExtendWith (.ref L) (.ref J) .none) _ _ s
 unfold Builtin.List.listItems
 refine wpAny_bind (wpAny_bind (wpAny_seqItems hl rfl (wpAny_pure ?_)))
 show wpAny _ A.in1 (updateSeq L (fun _=>#[]) >>= fun _=>letGo (#[]:Array Value).toList.reverse >>= fun _=>Builtin.List.listExtendWith (.ref L) (.ref J) .none) _ _ s
 refine wpAny_bind (wpAny_updateSeq hl rfl ?_)
 have l2:=Heap.get?_update_self (Obj.mapSeq (fun _=>(#[]:Array Value))) hl rfl
 have ot:∀ b o,b≠L→s.heap.get? b=some o→(s.heap.update L (Obj.mapSeq (fun _=>(#[]:Array Value)))).get? b=some o:=fun b o hb e=>by rw [Heap.get?_update_other _ _ (Ne.symm hb)];exact e
 refine wpAny_bind (wpAny_letGo ?_)
 refine zoM (hn:=hn) V ht L .none _ (V.frame 0 s _ s.toks h0 (Nat.le_refl _) fun b hb o e=>ot b o (fun q=>hL (q ▸ hb)) e) hL hJ l2 fun q acc d m1 m2 m3=>?_
 exact k q acc d (Moved.trans V.gtrans ((Moved.refl V.grefl).then_heap (Nat.le_refl _) fun b o hb e=>ot b o (fun q=>hb (q ▸ List.mem_cons_self)) e) m1) m2 m3
theorem zne {Q:Value→Shared→Prop} (V:WalksS prog w A.in1.in1 J fp wr G n P Sx) (ht:∀ i q,Sx i q→q.TypeIs (.ref J) "list_reverseiterator") (h0:Sx 0 s) (hfp:∀ b∈fp,b < s.heap.objs.size) (hJ:J∈fp)
  (k:∀ q acc d,Moved (s.heap.objs.size :: wr) G { s with heap:=s.heap.push { cls:=.type "list", data:=.seq #[] } } q →
   q.heap.get? s.heap.objs.size=some { cls:=.type "list", dict:=none,data:=.seq acc d,slots:=#[] }→ItemsOf P acc n→Q (.ref s.heap.objs.size) q) (hn:n≤sizeLine) :
  wpAny (model prog w) A (call (.type "list") [.ref J]) Q E s:=by
 have hL:s.heap.objs.size∉fp:=fun m=>Nat.lt_irrefl _ (hfp _ m)
 refine callType_codes (Q₁:=fun ob t=>ob=.ref s.heap.objs.size∧t = { s with heap:=s.heap.push { cls:=.type "list", data:=.seq #[] } }) F.called_list (F.typeCall_list_1 _) F.entry_list_init
  (code_list_new _ ⟨rfl,rfl⟩) ?_
 rintro ob t ⟨rfl,rfl⟩
 have hl:(s.heap.push { cls:=.type "list", data:=.seq #[] }).get? s.heap.objs.size=some { cls:=.type "list", data:=.seq #[] }:=Heap.get?_push_size _ rfl
 refine ⟨⟨_,hl,rfl⟩,F.args_list_init_2 _ _,znf (hn:=hn) V ht _ (V.frame 0 s _ s.toks h0 (Nat.le_refl _) fun b _ o e=>Heap.get?_push_of_some _ e) hL hJ hl fun q acc d m1 m2 m3=>?_⟩
 exact⟨rfl,k q acc d m1 m2 m3⟩
theorem zkc {its:List Value} {acc:Array Value} (h:ItemsOf (fun i v=>its.toArray[its.toArray.size - 1 - i]? = some v) acc its.toArray.size):acc=its.reverse.toArray:=by
 obtain⟨h1,h2⟩:=h
 have h1:acc.size=its.length:=h1
 apply Array.ext'
 rw [List.toList_toArray]
 refine List.ext_getElem? fun j=>?_
 by_cases hj:j < its.length
 ·have hj':j < acc.size:=by lia
  have e1:acc[j]? = some acc[j]:=Array.getElem?_eq_getElem hj'
  have e2:its.toArray[its.toArray.size - 1 - j]? = some acc[j]:=h2 j _ e1
  rw [Array.getElem?_toList,e1,List.getElem?_reverse hj]
  simpa using e2.symm
 ·rw [List.getElem?_eq_none (by rw [Array.length_toList];lia),List.getElem?_eq_none (by rw [List.length_reverse];lia)]
theorem zme (hh:A.handled=none) {l:Addr} {its:List Value} {Q:Value→Shared→Prop} (hl:s.heap.IsList l its.toArray) (hz:its.length≤sizeLine)
  (k:∀ (h':Heap) (c tk:Nat),(∀ b o,s.heap.get? b=some o→h'.get? b=some o)→h'.get? (s.heap.objs.size + 1)=some { cls:=.type "list", dict:=none,data:=.seq its.reverse.toArray c,slots:=#[] }→s.toks≤tk→Q (.ref (s.heap.objs.size + 1)) { s with heap:=h',toks:=tk }) :
  wpAny (model prog w) A (call (.type "list") [.ref s.heap.objs.size]) Q E { s with heap:=s.heap.push (revObj l ((its.toArray.size:Int) - 1)) }:=by
 obtain⟨ol,hol,_⟩:=id hl
 have ll:l < s.heap.objs.size:=Heap.lt_size hol
 have sz1:(s.heap.push (revObj l ((its.toArray.size:Int) - 1))).objs.size=s.heap.objs.size + 1:=by simp [Heap.push]
 have V:=(Walks.listRev (prog:=prog) (w:=w) (A:=A.in1.in1) hh s.heap.objs.size l (Nat.ne_of_lt ll) its.toArray).toS
 refine zne (hn:=by rw [List.size_toArray];exact hz) V (fun i q x=>x.2.1.typeIs) ⟨Nat.zero_le _,⟨_,Heap.get?_push_size _ rfl,rfl,by show (revObj _ _).data=_;unfold revObj;simp⟩,hl.at fun o e=>Heap.get?_push_of_some _ e⟩ (fun b hb=>?_) (by simp) fun q acc d m1 m2 m3=>?_
 ·simp only [List.mem_cons,List.not_mem_nil,or_false] at hb
  show b < (s.heap.push (revObj l ((its.toArray.size:Int) - 1))).objs.size
  rw [sz1]
  rcases hb with q | q
  ·rw [q];exact Nat.lt_succ_self _
  ·rw [q];exact Nat.lt_succ_of_lt ll
 ·have e:q = { s with heap:=q.heap,toks:=q.toks }:=by
   have g1:=m1.gens
   have g2:=m1.drawn
   have g3:=m1.os
   cases q
   simp only at g1 g2 g3 ⊢
   subst g1;subst g2;subst g3
   rfl
  have sz2:({ s with heap:=s.heap.push (revObj l ((its.toArray.size:Int) - 1)) }:Shared).heap.objs.size=s.heap.objs.size + 1:=sz1
  rw [sz2] at m1 m2 ⊢
  rw [zkc m3] at m2
  rw [e]
  refine k q.heap d q.toks (fun b o hb=>?_) m2 m1.toks
  have hb':=Heap.lt_size hb
  exact m1.heap b o (fun q=>by
   simp only [List.mem_cons,List.not_mem_nil,or_false] at q
   rcases q with q | q
   ·rw [q] at hb';exact Nat.not_lt.mpr (Nat.le_succ _) hb'
   ·rw [q] at hb';exact Nat.lt_irrefl _ hb') (Heap.get?_push_of_some _ (Heap.get?_push_of_some _ hb))
end
section
variable {X:Cx} {z:Z} {md md1:Md} {F:VEnv→Res T} {e:Expr} {p1 p2 p3 p4:Pos}
def tRev (K:PySem.W.Frag) (t:TE):TE:=fun σ H Q=>t σ H fun v H1=>∃ a ys,v=.ref a∧SqL K H1 a ys∧∀ l,H1 l=none→Q (.ref l) (upd H1 l (.lst ys.reverse))
theorem zjL:∀ {vs:List V} {us:List Value},Vals vs us→Vals vs.reverse us.reverse:=fun {vs us} h=>by
 induction h with
 | nil=>exact .nil
 | cons a b ih =>
  rw [List.reverse_cons,List.reverse_cons]
  exact Vals.append ih (.cons a .nil)
theorem zja {t:TE} (hc:X.calm=true) (hg:Gl X "list") (hm:X.mg "list" = none) (hg2:Gl X "reversed") (hm2:X.mg "reversed" = none) (he:PE X e t)
  (s1:starEach [.Call (.Name "reversed" p1) [e] [] p2] X.env=[(false,eval (.Call (.Name "reversed" p1) [e] [] p2) X.env)]:=by rfl) (s2:starEach [e] X.env=[(false,eval e X.env)]:=by rfl) :
  PE X (.Call (.Name "list" p3) [.Call (.Name "reversed" p1) [e] [] p2] [] p4) (tRev X.K t):=by
 intro pins s σ H Q I h
 refine Call_ (zdc I hg hm boot_list (callWith_type1 ?_ s1 rfl))
 rw [s1]
 show wpAny _ _ (spliced ((false,eval (.Call (.Name "reversed" p1) [e] [] p2) X.env) :: backTo p4 [])) _ _ s
 refine Calls.spliced_cons (Call_ (zdc I hg2 hm2 boot_reversed (callWith_type1 ?_ s2 rfl)))
 rw [s2]
 show wpAny _ _ (spliced ((false,eval e X.env) :: backTo p2 [])) _ _ s
 refine Calls.spliced_cons (thn (he pins s σ H _ I h) fun u s1 ⟨x,H1,I1,r1,a,ys,ex,hq,q⟩=>Calls.spliced_nil ?_)
 subst ex
 cases r1
 obtain⟨its,r',pl,hz⟩:=I1.list hq
 have hl:=r'.length
 refine call_reversed_list pl.isList (Calls.spliced_nil ?_)
 refine zme (I1.ok.hd hc) pl.isList (by lia) fun h' c tk kp hn ht=>?_
 exact⟨.ref _,_,I1.laid (t':=tk) (o:=.lst ys.reverse) kp (Nat.le_succ _) ⟨by rw [List.length_reverse];exact hz,its.reverse,c,zjL r',hn⟩,rfl,q _ (I1.hok.fresh (Nat.le_succ _))⟩
theorem ze3 (hc:X.calm=true) (hg:Gl X "list") (hm:X.mg "list" = none) (hg2:Gl X "reversed") (hm2:X.mg "reversed" = none) (he:JE X z md1 F e)
  (s1:starEach [.Call (.Name "reversed" p1) [e] [] p2] X.env=[(false,eval (.Call (.Name "reversed" p1) [e] [] p2) X.env)]:=by rfl) (s2:starEach [e] X.env=[(false,eval e X.env)]:=by rfl) :
  JE X z md (eRev md F) (.Call (.Name "list" p3) [.Call (.Name "reversed" p1) [e] [] p2] [] p4):=
 PE.imp (zja hc hg hm hg2 hm2 (JE.al he) s1 s2) fun σ H Q h=>zdr h fun S ρ t v H1 S1 o _ g1 d q=>by
  cases t with
  | lst ts =>
   obtain⟨_,a,vs,rfl,hS,h1,h2⟩:=zag.mp d
   exact⟨a,vs,rfl,.of h1,zcS g1.dom h2.reverse (ze8 (z:=z) q)⟩
  | sc _=>exact (show False from q).elim
  | scr _=>exact (show False from q).elim
  | tup _=>exact (show False from q).elim
end
end TL
namespace TL
open PySem PySem.Spec L2
open PyProof.Rows hiding St
section
variable {X:Cx} {z:Z} {md md1:Md} {F:VEnv→Res T} {Fs:VEnv→Res (List T)} {e:Expr} {es:List Expr} {p pos:Pos} {i n:Nat} {K:PySem.W.Frag}
end
section
variable {X:Cx} {z:Z} {md:Md} {F:VEnv→Res T} {e tg:Expr}
end
end TL
namespace TL
open PySem PySem.Spec L2
open PyProof.Rows hiding St
open PySem.SeqAt
open PySem.AutoSeq1 (wpAny_loadPart')
open PySem.MeetsSeq PySem.MeetsSeq2 PySem.MeetsSeq3
def LtAt (A:Around) (s:Shared) (x y:Value) (b:Bool):Prop:=∀ (prog:Program) (w:World) (E:Value→Shared→Prop) (Q:Value→Shared→Prop),Q (.bool b) s→wpAny (model prog w) A (richCompare .Lt x y) Q E s
noncomputable def lx (e r:Nat→Bool):List Nat→Bool
 | []=>false
 | j :: js=>if e j=true then lx e r js else r j
theorem znE (l b:Addr) (xs ys:Array Value) (n n2:Nat) (dd dd2:Option Addr) (sl sl2:Array (Option Value)) (hz:xs.size=ys.size) (e r:Nat→Bool) (k:Nat) :
  ∀ i:Nat,xs.size - i=k→Meets (Builtin.«list.__eq__.loop» ⟨[.ref l,.ref b,rawInt i,rawInt 0],[]⟩)
   (fun A R s=>(s.heap.get? l=some { cls:=.type "list", dict:=dd,data:=.seq xs n,slots:=sl }∧s.heap.get? b=some { cls:=.type "list", dict:=dd2,data:=.seq ys n2,slots:=sl2 }) ∧
    ((∀ j (h1:j < xs.size) (h2:j < ys.size),EqAt A.in1 s xs[j] ys[j] (e j))∧∀ j (h1:j < xs.size) (h2:j < ys.size),e j=false→LtAt A.in1 s xs[j] ys[j] (r j)) ∧
    R (.ok (.ret (.bool (lx e r ((List.range xs.size).drop i))))) s):=by
 induction k with
 | zero =>
  intro i hk prog w A R s h
  obtain⟨hp,g,d,tk,os⟩:=s;obtain⟨⟨hl,hb⟩,he,h⟩:=h
  wp_walk using wpAny_loadPart' hl,wpAny_loadPart' hb
  have i1:xs[((i:Nat):Int).toNat]? = none:=by simp;lia
  have i2:ys[((i:Nat):Int).toNat]? = none:=by simp;lia
  rw [show (List.range xs.size).drop i=[] by simp;lia] at h
  rw [i1,i2]
  wp_walk using wpAny_loadPart' hl,wpAny_loadPart' hb
  show R (.ok (.ret (.bool (decide (xs.size < ys.size))))) _
  rw [hz,decide_eq_false (Nat.lt_irrefl _)]
  exact h
 | succ k ih =>
  intro i hk prog w A R s h
  obtain⟨hp,g,d,tk,os⟩:=s;obtain⟨⟨hl,hb⟩,⟨he,hr⟩,h⟩:=h
  wp_walk using wpAny_loadPart' hl,wpAny_loadPart' hb
  have l1:i < xs.size:=by lia
  have l2:i < ys.size:=by lia
  have i1:xs[((i:Nat):Int).toNat]? = some xs[i]:=by simp [l1]
  have i2:ys[((i:Nat):Int).toNat]? = some ys[i]:=by simp [l2]
  have hd:(List.range xs.size).drop i=i :: (List.range xs.size).drop (i + 1):=by simp [List.drop_eq_getElem_cons,l1]
  rw [hd] at h
  unfold lx at h
  rw [i1,i2]
  refine wpAny_bind (he i l1 l2 prog w _ _ ?_)
  cases q:e i with
  | true =>
   rw [q,if_pos rfl] at h
   wp_walk
   rw [show ((i:Int) + 1)=((i + 1:Nat):Int) by push_cast;rfl]
   refine ⟨plainId_quiet plain_eq_loop _,codeAny_builtin entry_eq_loop ?_⟩
   rw [Around.under_plainId plain_eq_loop _]
   exact ih (i + 1) (by lia) prog w A R _ ⟨⟨hl,hb⟩,⟨he,hr⟩,h⟩
  | false =>
   rw [q,if_neg Bool.false_ne_true] at h
   wp_walk using wpAny_loadPart' hl,wpAny_loadPart' hb
   rw [i1,i2]
   have hri:=hr i l1 l2 q prog w
   wp_walk using hri
   exact h
theorem zkK (l b:Addr) (xs ys:Array Value) (n n2:Nat) (dd dd2:Option Addr) (sl sl2:Array (Option Value)) (hz:xs.size=ys.size) (e r:Nat→Bool) :
  Meets (Builtin.«list.__lt__» ⟨[.ref l,.ref b],[]⟩)
   (fun A R s=>(s.heap.get? l=some { cls:=.type "list", dict:=dd,data:=.seq xs n,slots:=sl }∧s.heap.get? b=some { cls:=.type "list", dict:=dd2,data:=.seq ys n2,slots:=sl2 }) ∧
    ((∀ j (h1:j < xs.size) (h2:j < ys.size),EqAt A.in1 s xs[j] ys[j] (e j))∧∀ j (h1:j < xs.size) (h2:j < ys.size),e j=false→LtAt A.in1 s xs[j] ys[j] (r j)) ∧
    R (.ok (.ret (.bool (lx e r (List.range xs.size))))) s):=by
 intro prog w A R s h
 obtain⟨hp,g,d,tk,os⟩:=s;obtain⟨⟨hl,hb⟩,he,h⟩:=h
 have f3:=AutoSeq1.sub_list_list
 wp_walk using wpAny_loadPart' hl,wpAny_loadPart' hb
 refine ⟨plainId_quiet plain_eq_loop _,codeAny_builtin entry_eq_loop ?_⟩
 rw [Around.under_plainId plain_eq_loop _]
 exact znE l b xs ys n n2 dd dd2 sl sl2 hz e r _ 0 rfl prog w A R _ ⟨⟨hl,hb⟩,he,h⟩
theorem LtAt.lists {A:Around} {s:Shared} {l b:Addr} {xs ys:Array Value} {e r:Nat→Bool} (hl:s.heap.IsList l xs) (hb:s.heap.IsList b ys) (hz:xs.size=ys.size) (hu:A.units < cLine)
  (he:∀ j (h1:j < xs.size) (h2:j < ys.size),EqAt A.in1 s xs[j] ys[j] (e j)) (hr:∀ j (h1:j < xs.size) (h2:j < ys.size),e j=false→LtAt A.in1 s xs[j] ys[j] (r j)):LtAt A s (.ref l) (.ref b) (lx e r (List.range xs.size)):=fun prog w E Q h=>by
 obtain⟨⟨cls,dd,data,sl⟩,ho,hc,n,hd⟩:=id hl
 obtain⟨⟨cls2,dd2,data2,sl2⟩,ho2,hc2,n2,hd2⟩:=id hb
 simp only at hc hd hc2 hd2
 subst hc hd hc2 hd2
 exact richCompare_meets_room (op:=.Lt) ⟨_,ho,rfl⟩ ⟨_,ho2,rfl⟩ PySem.F.slot_list_lt PySem.F.entry_list_lt (PySem.F.args_list_lt_2 _ _) (zkK l b xs ys n n2 dd dd2 sl sl2 hz e r)
  ⟨⟨ho,ho2⟩,⟨he,hr⟩,show Value.bool (lx e r (List.range xs.size))≠Value.notImplemented∧Q (.bool (lx e r (List.range xs.size))) s from ⟨(fun x=>nomatch x),h⟩⟩ hu
theorem LtAt.ints (A:Around) (s:Shared) (a c:Int) (t u:Tok):LtAt A s (.int a t) (.int c u) (decide (a < c)):=fun prog w E Q h=>HT.rcLt_int A s a t c u prog w E Q h
end TL
namespace TL
open PySem PySem.Spec L2
open PyProof.Rows hiding St
open PySem.SeqAt
section
variable {α:Type} {lt:α→α→Bool} (ir:∀ a,lt a a=false) (tr:∀ a b c,lt a b=true→lt b c=true→lt a c=true) (tot:∀ a b,lt a b=false→lt b a=false→a=b)
open Classical in
noncomputable def lxF (lt:α→α→Bool) (x y:Nat→α) (js:List Nat):Bool:=lx (fun j=>decide (x j=y j)) (fun j=>lt (x j) (y j)) js
include ir in
theorem zdv (x:Nat→α):∀ js,lxF lt x x js=false
 | []=>rfl
 | j :: js=>by unfold lxF lx;rw [if_pos (by simp)];exact zdv x js
include tot in
theorem zkH (x y:Nat→α):∀ js,lxF lt x y js=false→lxF lt y x js=false→∀ j∈js,x j=y j
 | [],_,_,j,h=>nomatch h
 | i :: js,h1,h2,j,hj=>by
  unfold lxF lx at h1 h2
  by_cases e:x i=y i
  ·rw [if_pos (by simp [e])] at h1 h2
   rcases List.mem_cons.mp hj with rfl | hj
   ·exact e
   ·exact zkH x y js h1 h2 j hj
  ·rw [if_neg (by simp [e])] at h1
   rw [if_neg (by simp [Ne.symm e])] at h2
   exact absurd (tot _ _ h1 h2) e
include ir tr in
theorem zek (x y z:Nat→α):∀ js,lxF lt x y js=true→lxF lt y z js=true→lxF lt x z js=true
 | [],h,_=>nomatch h
 | i :: js,h1,h2=>by
  unfold lxF lx at h1 h2 ⊢
  by_cases e:x i=y i
  ·rw [if_pos (by simp [e])] at h1
   by_cases e2:y i=z i
   ·rw [if_pos (by simp [e2])] at h2
    rw [if_pos (by simp [e,e2])]
    exact zek x y z js h1 h2
   ·rw [if_neg (by simp [e2])] at h2
    rw [if_neg (by simp [e,e2]),e]
    exact h2
  ·rw [if_neg (by simp [e])] at h1
   by_cases e2:y i=z i
   ·rw [if_neg (by simp [← e2,e]),← e2]
    exact h1
   ·rw [if_neg (by simp [e2])] at h2
    have h3:=tr _ _ _ h1 h2
    have e3:¬ x i=z i:=fun q=>by rw [q,ir] at h3;cases h3
    rw [if_neg (by simp [e3])]
    exact h3
end
theorem zfG {e e' r r':Nat→Bool}:∀ {js:List Nat},(∀ j∈js,e j=e' j∧r j=r' j)→lx e r js=lx e' r' js
 | [],_=>rfl
 | j :: js,h=>by
  unfold lx
  obtain⟨h1,h2⟩:=h j (by simp)
  rw [h1,h2,zfG fun i hi=>h i (by simp [hi])]
section
variable {β:Type} (lt:β→β→Bool)
noncomputable def rnk (bs:List β) (b:β):Nat:=(bs.filter fun x=>lt x b).length
variable {lt} (ir:∀ a,lt a a=false) (tr:∀ a b c,lt a b=true→lt b c=true→lt a c=true) (D:β→Prop) (tot:∀ a b,D a→D b→lt a b=false→lt b a=false→a=b)
include tr in
theorem zj8 {a b:β} (h:lt a b=true):∀ bs:List β,rnk lt bs a≤rnk lt bs b
 | []=>Nat.le_refl _
 | x :: bs=>by
  have ih:=zj8 h bs
  unfold rnk at *
  rw [List.filter_cons,List.filter_cons]
  by_cases q:lt x a=true
  ·rw [if_pos q,if_pos (tr _ _ _ q h)];simpa using ih
  ·rw [if_neg q]
   by_cases q2:lt x b=true
   ·rw [if_pos q2];exact Nat.le_succ_of_le ih
   ·rw [if_neg q2];exact ih
include ir tr in
theorem zmt {a b:β} (h:lt a b=true):∀ bs:List β,a∈bs→rnk lt bs a < rnk lt bs b
 | [],m=>nomatch m
 | x :: bs,m=>by
  have le:=zj8 (lt:=lt) tr h bs
  have e1:rnk lt (x :: bs) a=(if lt x a=true then 1 else 0) + rnk lt bs a:=by unfold rnk;rw [List.filter_cons];split <;> simp <;> lia
  have e2:rnk lt (x :: bs) b=(if lt x b=true then 1 else 0) + rnk lt bs b:=by unfold rnk;rw [List.filter_cons];split <;> simp <;> lia
  rw [e1,e2]
  rcases List.mem_cons.mp m with rfl | m
  ·rw [ir,h,if_neg Bool.false_ne_true,if_pos rfl];lia
  ·have ih:=zmt h bs m
   by_cases q:lt x a=true
   ·rw [if_pos q,if_pos (tr _ _ _ q h)];lia
   ·rw [if_neg q];split <;> lia
include ir tr tot in
theorem zfy {bs:List β} (hD:∀ b∈bs,D b) {a b:β} (ha:a∈bs) (hb:b∈bs):decide ((rnk lt bs a:Int) < rnk lt bs b)=lt a b:=by
 cases h:lt a b with
 | true=>exact decide_eq_true (by have:=zmt ir tr h bs ha;lia)
 | false =>
  refine decide_eq_false fun q=>?_
  cases h2:lt b a with
  | true=>have:=zj8 tr h2 bs;lia
  | false=>rw [tot a b (hD a ha) (hD b hb) h h2] at q;lia
include ir tr tot in
theorem zj9 {bs:List β} (hD:∀ b∈bs,D b) {a b:β} (ha:a∈bs) (hb:b∈bs) (e:rnk lt bs a=rnk lt bs b):a=b:=by
 refine tot a b (hD a ha) (hD b hb) ?_ ?_
 ·rw [← zfy ir tr D tot hD ha hb,e];simp
 ·rw [← zfy ir tr D tot hD hb ha,e];simp
end
noncomputable def ltR (n:Nat) (x y:List Int):Bool:=lx (fun j=>decide (x.getD j 0=y.getD j 0)) (fun j=>decide (x.getD j 0 < y.getD j 0)) (List.range n)
noncomputable def ltB (n:Nat) (x y:List (List Int)):Bool:=lx (fun j=>decide (x.getD j []=y.getD j [])) (fun j=>ltR n (x.getD j []) (y.getD j [])) (List.range n)
def Shp (n:Nat) (b:List (List Int)):Prop:=b.length=n∧∀ r∈b,r.length=n
theorem zkI (n:Nat) (x y:List Int):ltR n x y=lxF (fun a b:Int=>decide (a < b)) (fun j=>x.getD j 0) (fun j=>y.getD j 0) (List.range n):=zfG fun j _=>⟨by congr,rfl⟩
theorem zmG (a:Int):decide (a < a)=false:=by simp
theorem zpk (a b c:Int) (h1:decide (a < b)=true) (h2:decide (b < c)=true):decide (a < c)=true:=by simp at *;lia
theorem znG (a b:Int) (h1:decide (a < b)=false) (h2:decide (b < a)=false):a=b:=by simp at *;lia
theorem zmF (n:Nat) (x:List Int):ltR n x x=false:=by rw [zkI];exact zdv zmG _ _
theorem zpj (n:Nat) (x y z:List Int) (h1:ltR n x y=true) (h2:ltR n y z=true):ltR n x z=true:=by rw [zkI] at *;exact zek zmG zpk _ _ _ _ h1 h2
theorem znF {n:Nat} {x y:List Int} (hx:x.length=n) (hy:y.length=n) (h1:ltR n x y=false) (h2:ltR n y x=false):x=y:=by
 rw [zkI] at *
 have:=zkH znG _ _ _ h1 h2
 refine List.ext_getElem (by rw [hx,hy]) fun j p q=>?_
 have:=this j (List.mem_range.mpr (by lia))
 simpa [List.getD,p,q] using this
theorem zmH (n:Nat) (x y:List (List Int)):ltB n x y=lxF (ltR n) (fun j=>x.getD j []) (fun j=>y.getD j []) (List.range n):=zfG fun j _=>⟨by congr,rfl⟩
theorem ziq (n:Nat) (x:List (List Int)):ltB n x x=false:=by rw [zmH];exact zdv (zmF n) _ _
theorem zio (n:Nat) (x y z:List (List Int)) (h1:ltB n x y=true) (h2:ltB n y z=true):ltB n x z=true:=by rw [zmH] at *;exact zek (zmF n) (zpj n) _ _ _ _ h1 h2
theorem zhd {n:Nat} (x y:List (List Int)) (hx:Shp n x) (hy:Shp n y) (h1:ltB n x y=false) (h2:ltB n y x=false):x=y:=by
 have key:∀ js:List Nat,(∀ j∈js,j < n)→lx (fun j=>decide (x.getD j []=y.getD j [])) (fun j=>ltR n (x.getD j []) (y.getD j [])) js=false→lx (fun j=>decide (y.getD j []=x.getD j [])) (fun j=>ltR n (y.getD j []) (x.getD j [])) js=false→∀ j∈js,x.getD j []=y.getD j []:=by
  intro js
  induction js with
  | nil=>intro _ _ _ j hj;cases hj
  | cons i js ih =>
   intro hlt a b j hj
   unfold lx at a b
   have hi:=hlt i (by simp)
   by_cases e:x.getD i []=y.getD i []
   ·rw [if_pos (by simpa using e)] at a
    rw [if_pos (by simpa using e.symm)] at b
    rcases List.mem_cons.mp hj with rfl | hj
    ·exact e
    ·exact ih (fun k hk=>hlt k (by simp [hk])) a b j hj
   ·rw [if_neg (by simpa using e)] at a
    rw [if_neg (by simpa using Ne.symm e)] at b
    have lx':i < x.length:=by rw [hx.1];exact hi
    have ly':i < y.length:=by rw [hy.1];exact hi
    have e1:(x.getD i []).length=n:=by simp [List.getD,lx'];exact hx.2 _ (List.getElem_mem lx')
    have e2:(y.getD i []).length=n:=by simp [List.getD,ly'];exact hy.2 _ (List.getElem_mem ly')
    exact absurd (znF e1 e2 a b) e
 have:=key (List.range n) (fun j hj=>List.mem_range.mp hj) h1 h2
 refine List.ext_getElem (by rw [hx.1,hy.1]) fun j p q=>?_
 have:=this j (List.mem_range.mpr (by rw [← hx.1];exact p))
 simpa [List.getD,p,q] using this
noncomputable def insB (n:Nat) (b:List (List Int)):List (List (List Int))→List (List (List Int))
 | []=>[b]
 | c :: cs=>if ltB n c b=true then c :: insB n b cs else b :: c :: cs
noncomputable def zaO (n:Nat):List (List (List Int))→List (List (List Int))
 | []=>[]
 | b :: bs=>insB n b (zaO n bs)
theorem zev (n:Nat) (b:List (List Int)):∀ cs,(insB n b cs).Perm (b :: cs)
 | []=>.refl _
 | c :: cs=>by
  unfold insB;split
  ·exact ((zev n b cs).cons c).trans (.swap b c cs)
  ·exact .refl _
theorem zaI (n:Nat):∀ bs,(zaO n bs).Perm bs
 | []=>.refl _
 | b :: bs=>(zev n b _).trans ((zaI n bs).cons b)
theorem zbL {n:Nat} {all:List (List (List Int))} (hD:∀ b∈all,Shp n b):∀ bs,(∀ b∈bs,b∈all)→(zaO n bs).Pairwise fun a b=>rnk (ltB n) all a≤rnk (ltB n) all b
 | [],_=>.nil
 | b :: bs,hs=>by
  have ih:=zbL hD bs fun c hc=>hs c (by simp [hc])
  have hb:=hs b (by simp)
  have hm:∀ c∈zaO n bs,c∈all:=fun c hc=>hs c (by simp [(zaI n bs).mem_iff.mp hc])
  show (insB n b (zaO n bs)).Pairwise _
  generalize zaO n bs=cs at ih hm
  induction cs with
  | nil=>exact List.pairwise_singleton ..
  | cons c cs ihc =>
   have R:=@zfy _ _ (ziq n) (zio n) (Shp n) (fun a b=>zhd a b) all hD
   obtain⟨p1,p2⟩:=List.pairwise_cons.mp ih
   unfold insB;split
   ·rename_i q
    refine List.pairwise_cons.mpr ⟨fun d hd=>?_,ihc p2 fun c hc=>hm c (by simp [hc])⟩
    rcases List.mem_cons.mp ((zev n b cs).mem_iff.mp hd) with rfl | hd
    ·have:=R (hm c (by simp)) hb
     rw [q] at this
     have:=of_decide_eq_true this
     lia
    ·exact p1 d hd
   ·rename_i q
    have:=R (hm c (by simp)) hb
    rw [Bool.eq_false_iff.mpr q] at this
    have:=of_decide_eq_false this
    refine List.pairwise_cons.mpr ⟨fun d hd=>?_,ih⟩
    rcases List.mem_cons.mp hd with rfl | hd
    ·lia
    ·have:=p1 d hd;lia
noncomputable def zcx:List T→Option (List (List Int))
 | []=>some []
 | .lst ts :: us=>(zbw ts).bind fun r=>(zcx us).map (r :: ·)
 | _=>none
noncomputable def zdj:List T→Option (List (List (List Int)))
 | []=>some []
 | .lst ts :: us=>(zcx ts).bind fun b=>(zdj us).map (b :: ·)
 | _=>none
noncomputable def bdT (b:List (List Int)):T:=.lst (b.map fun r=>.lst (zai r))
theorem ziN:∀ {ts:List T} {b:List (List Int)},zcx ts=some b→ts=b.map fun r=>.lst (zai r)
 | [],b,h=>by unfold zcx at h;cases h;rfl
 | t :: us,b,h=>by
  cases t with
  | lst ts =>
   unfold zcx at h
   cases e1:zbw ts with
   | none=>rw [e1] at h;cases h
   | some r =>
    cases e2:zcx us with
    | none=>rw [e1,e2] at h;cases h
    | some c =>
     rw [e1,e2] at h
     cases h
     rw [ziP e1,ziN e2];rfl
  | _=>unfold zcx at h;cases h
theorem zhs:∀ {ts:List T} {bs:List (List (List Int))},zdj ts=some bs→ts=bs.map bdT
 | [],b,h=>by unfold zdj at h;cases h;rfl
 | t :: us,b,h=>by
  cases t with
  | lst ts =>
   unfold zdj at h
   cases e1:zcx ts with
   | none=>rw [e1] at h;cases h
   | some r =>
    cases e2:zdj us with
    | none=>rw [e1,e2] at h;cases h
    | some c =>
     rw [e1,e2] at h
     cases h
     rw [ziN e1,zhs e2];rfl
  | _=>unfold zdj at h;cases h
noncomputable def zcw:List T→Option T
 | [.lst ts]=>(zdj ts).bind fun bs=>if bs.all (fun b=>b.length == (bs.headD []).length && b.all fun r=>r.length == (bs.headD []).length)=true then some (.lst ((zaO (bs.headD []).length bs).map bdT)) else none
 | _=>none
section
variable {prog:Program} {w:World} {A:Around} {E:Value→Shared→Prop} {s:Shared}
theorem zg4 {l b:Addr} {xs ys:Array Value} {e r:Nat→Bool} {Q:Bool→Shared→Prop} (hl:s.heap.IsList l xs) (hb:s.heap.IsList b ys) (hz:xs.size=ys.size) (hu:A.units < cLine)
  (he:∀ j (h1:j < xs.size) (h2:j < ys.size),EqAt A.in1 s xs[j] ys[j] (e j)) (hr:∀ j (h1:j < xs.size) (h2:j < ys.size),e j=false→LtAt A.in1 s xs[j] ys[j] (r j)) (h:Q (lx e r (List.range xs.size)) s) :
  wpAny (model prog w) A (oneLt' true (.ref l) (.ref b)) Q E s:=by
 obtain⟨⟨cls,dd,data,sl⟩,ho,hc,n,hd⟩:=id hl
 obtain⟨⟨cls2,dd2,data2,sl2⟩,ho2,hc2,n2,hd2⟩:=id hb
 simp only at hc hd hc2 hd2
 subst hc hd hc2 hd2
 rw [oneLt'_eq]
 simp only [if_true]
 refine wpAny_bind (wpAny_cRoomFor hu ?_)
 refine wpAny_bind (wpAny_callSpecialIfBound?_slot ⟨_,ho,rfl⟩ PySem.F.slot_list_lt (call_meets PySem.F.slot_list_lt ⟨_,ho,rfl⟩ PySem.F.entry_list_lt (PySem.F.args_list_lt_2 _ _) (zkK l b xs ys n n2 dd dd2 sl sl2 hz e r) ⟨⟨ho,ho2⟩,⟨he,hr⟩,?_⟩))
 exact wpAny_truthy_bool h
end
section
variable {X:Cx} {pins:List (Addr×Obj)} {σ:St} {H:Hp} {s:Shared} {S:Addr→Prop}
def Dn (K:PySem.W.Frag) (H:Hp) (S:Addr→Prop) (v:Value) (b:List (List Int)):Prop:=∃ x,RelV x v∧Den K H S (bdT b) .al [] x
theorem zmD (b:List (List Int)):okT 2 (bdT b)=true:=by unfold bdT okT;simp [okT,zai,zdN]
theorem zks (r:List Int):okT 1 (.lst (zai r))=true:=by unfold okT;simp [okT,zai,zdN]
theorem zgn:∀ {a b:List Int},zai a=zai b→a=b
 | [],[],_=>rfl
 | [],_ :: _,h=>by cases h
 | _ :: _,[],h=>by cases h
 | x :: a,y :: b,h=>by
  unfold zai at h
  rw [List.map_cons,List.map_cons] at h
  injection h with h1 h2
  injection h1 with h1
  injection h1 with h1
  rw [h1,zgn (a:=a) (b:=b) h2]
theorem zn0 {a b:List (List Int)} (h:bdT a=bdT b):a=b:=by
 unfold bdT at h
 injection h with h
 induction a generalizing b with
 | nil=>cases b with
  | nil=>rfl
  | cons _ _=>cases h
 | cons r a ih=>cases b with
  | nil=>cases h
  | cons q b =>
   rw [List.map_cons,List.map_cons] at h
   injection h with h1 h2
   injection h1 with h1
   rw [zgn h1,ih h2]
theorem Dn.uniq (I:Inv X pins σ H s) {v:Value} {a b:List (List Int)} (h1:Dn X.K H S v a) (h2:Dn X.K H S v b):a=b:=by
 obtain⟨x,r1,d1⟩:=h1
 obtain⟨y,r2,d2⟩:=h2
 obtain⟨_,p,vs,rfl,_⟩:=zag.mp d1
 obtain⟨_,q,ws,rfl,_⟩:=zag.mp d2
 cases r1
 cases r2
 exact zn0 (zk4 I 2 _ _ _ (zmD a) (zmD b) d1 d2)
theorem ze7:∀ a b:List Int,eqTs (zai a) (zai b)=decide (a=b)
 | [],[]=>by unfold eqTs;rfl
 | [],b :: bs=>by unfold eqTs;rfl
 | a :: as,[]=>by unfold eqTs;rfl
 | a :: as,b :: bs=>by
  show eqTs (.sc (.int a) :: zai as) (.sc (.int b) :: zai bs)=_
  unfold eqTs;rw [ze7 as bs]
  have:eqT (.sc (.int a)) (.sc (.int b))=decide (a=b):=by unfold eqT eqV;by_cases h:a=b <;> simp [h]
  rw [this]
  by_cases h1:a=b <;> by_cases h2:as=bs <;> simp [h1,h2]
theorem znZ (a b:Int):(a == b)=decide (a=b):=by by_cases h:a=b <;> simp [h]
theorem zoP (I:Inv X pins σ H s) {A:Around} {n:Nat} {r q:List Int} {x y:V} {u v:Value} (hr:r.length=n) (hq:q.length=n) (hu:A.units < cLine) (d1:Den X.K H S (.lst (zai r)) .al [] x) (d2:Den X.K H S (.lst (zai q)) .al [] y) (r1:RelV x u) (r2:RelV y v):LtAt A s u v (ltR n r q):=by
 obtain⟨_,p,vs,rfl,_,h1,e1⟩:=zag.mp d1
 obtain⟨_,p2,ws,rfl,_,h2,e2⟩:=zag.mp d2
 cases r1
 cases r2
 have v1:=zbX e1 (za9 r)
 have v2:=zbX e2 (za9 q)
 obtain⟨its,i1,i2,_,l1⟩:=zes I h1 v1
 obtain⟨its2,j1,j2,_,l2⟩:=zes I h2 v2
 have z1:its.toArray.size=n:=by rw [List.size_toArray];lia
 have z2:its2.toArray.size=n:=by rw [List.size_toArray];lia
 have g:∀ {its:List Value} {ns:List Int} (i1:IntsAre its ns) (j:Nat) (h:j < its.toArray.size),∃ t,its.toArray[j]=.int (ns.getD j 0) t:=fun {its ns} i1 j h=>by
  exact i1.int_at j _ (by rw [List.getElem?_toArray.symm,Array.getElem?_eq_getElem h])
 have:=LtAt.lists (A:=A) (e:=fun j=>decide (r.getD j 0=q.getD j 0)) (r:=fun j=>decide (r.getD j 0 < q.getD j 0)) i2 j2 (by lia) hu
  (fun j a b=>by
   obtain⟨t,e1⟩:=g i1 j a
   obtain⟨t2,e2⟩:=g j1 j b
   rw [e1,e2]
   have:=SeqAt.EqAt.int_int (A:=A.in1) (s:=s) (r.getD j 0) t (q.getD j 0) t2
   rw [znZ] at this
   exact this)
  (fun j a b _=>by
   obtain⟨t,e1⟩:=g i1 j a
   obtain⟨t2,e2⟩:=g j1 j b
   rw [e1,e2]
   exact LtAt.ints A.in1 s _ _ t t2)
 rw [z1] at this
 exact this
theorem zmh (I:Inv X pins σ H s) {A:Around} {n:Nat} {b c:List (List Int)} {u v:Value} {prog:Program} {w:World} {E:Value→Shared→Prop} {Q:Bool→Shared→Prop} (hb:Shp n b) (hc:Shp n c) (hu:A.units + 3 < cLine) (d1:Dn X.K H S u b) (d2:Dn X.K H S v c) (h:Q (ltB n b c) s):wpAny (model prog w) A (oneLt' true u v) Q E s:=by
 obtain⟨x,r1,d1⟩:=d1
 obtain⟨y,r2,d2⟩:=d2
 obtain⟨_,p,vs,rfl,_,h1,e1⟩:=zag.mp d1
 obtain⟨_,p2,ws,rfl,_,h2,e2⟩:=zag.mp d2
 cases r1
 cases r2
 obtain⟨its,k1,i2,_⟩:=I.list (.of h1)
 obtain⟨its2,k2,j2,_⟩:=I.list (.of h2)
 have l1:its.toArray.size=n:=by rw [List.size_toArray,← k1.length,e1.length,List.length_map,hb.1]
 have l2:its2.toArray.size=n:=by rw [List.size_toArray,← k2.length,e2.length,List.length_map,hc.1]
 have g:∀ {b:List (List Int)} {vs:List V} {its:List Value} (e:Dens X.K H S (b.map fun r=>.lst (zai r)) .al [] vs) (k:Vals vs its) (j:Nat) (h:j < its.toArray.size),∃ z,Den X.K H S (.lst (zai (b.getD j []))) .al [] z∧RelV z its.toArray[j]:=fun {b vs its} e k j h=>by
  have hl:j < b.length:=by
   have:=e.length
   rw [List.length_map] at this
   rw [List.size_toArray,← k.length,this] at h
   exact h
  obtain⟨z,e3,e4⟩:=e.get (i:=j) (t:=.lst (zai (b.getD j []))) (by rw [List.getElem?_map,List.getElem?_eq_getElem hl];simp [List.getD,hl])
  obtain⟨u,e5,e6⟩:=k.get e3
  refine ⟨z,e4,?_⟩
  have:its.toArray[j]=u:=by
   have h':j < its.length:=by rw [List.size_toArray] at h;exact h
   rw [List.getElem?_eq_getElem h'] at e5
   simpa using e5
  rw [this]
  exact e6
 have e0:ltB n b c=lx (fun j=>decide (b.getD j []=c.getD j [])) (fun j=>ltR n (b.getD j []) (c.getD j [])) (List.range its.toArray.size):=by rw [l1];rfl
 rw [e0] at h
 refine zg4 i2.isList j2.isList (by lia) (by lia) (fun j a1 a2=>?_) (fun j a1 a2 _=>?_) h
 ·obtain⟨z1,q1,q2⟩:=g e1 k1 j a1
  obtain⟨z2,q3,q4⟩:=g e2 k2 j a2
  have:=zkX I 1 A.in1 _ _ z1 z2 _ _ (zks _) (zks _) (by rw [zew];lia) q1 q3 q2 q4
  have e:eqT (.lst (zai (b.getD j []))) (.lst (zai (c.getD j [])))=decide (b.getD j []=c.getD j []):=by
   unfold eqT;exact ze7 _ _
  rw [e] at this
  exact this
 ·obtain⟨z1,q1,q2⟩:=g e1 k1 j a1
  obtain⟨z2,q3,q4⟩:=g e2 k2 j a2
  have lb:j < b.length:=by rw [hb.1];lia
  have lc:j < c.length:=by rw [hc.1];lia
  refine zoP I (n:=n) ?_ ?_ (by rw [zew];lia) q1 q3 q2 q4
  ·simp [List.getD,lb];exact hb.2 _ (List.getElem_mem lb)
  ·simp [List.getD,lc];exact hc.2 _ (List.getElem_mem lc)
noncomputable def Dns (K:PySem.W.Frag) (H:Hp) (S:Addr→Prop):List Value→List (List (List Int))→Prop
 | [],[]=>True
 | v :: vs,b :: bs=>Dn K H S v b∧Dns K H S vs bs
 | _,_=>False
theorem zmR:∀ {bs:List (List (List Int))} {vs:List V} {us:List Value},Dens X.K H S (bs.map bdT) .al [] vs→Vals vs us→Dns X.K H S us bs
 | [],vs,us,d,r=>by
  have:=zma (K:=X.K) (H:=H) (S:=S) d
  subst this
  cases r
  trivial
 | b :: bs,vs,us,d,r=>by
  obtain⟨v,ws,rfl,d1,d2⟩:=zk3 d
  cases r with
  | cons r1 r2=>exact⟨⟨v,r1,d1⟩,zmR d2 r2⟩
theorem zmE:∀ {bs:List (List (List Int))} {us:List Value},Dns X.K H S us bs→∃ vs,Vals vs us∧Dens X.K H S (bs.map bdT) .al [] vs
 | [],[],_=>⟨[],.nil,Dens.nil⟩
 | [],_ :: _,h=>h.elim
 | _ :: _,[],h=>h.elim
 | b :: bs,u :: us,⟨⟨x,r,d⟩,h⟩=>by
  obtain⟨vs,r2,d2⟩:=zmE h
  exact⟨x :: vs,.cons r r2,Dens.cons (A1:=[]) (A2:=[]) d d2⟩
theorem zk0:∀ {bs:List (List (List Int))} {us:List Value},Dns X.K H S us bs→∀ u∈us,∃ b∈bs,Dn X.K H S u b
 | [],[],_,u,h=>nomatch h
 | [],_ :: _,h,_,_=>h.elim
 | _ :: _,[],h,_,_=>h.elim
 | b :: bs,v :: us,⟨h1,h2⟩,u,hu=>by
  rcases List.mem_cons.mp hu with rfl | hu
  ·exact⟨b,by simp,h1⟩
  ·obtain⟨c,hc,q⟩:=zk0 h2 u hu
   exact⟨c,by simp [hc],q⟩
open Classical in
noncomputable def bdOf (K:PySem.W.Frag) (H:Hp) (S:Addr→Prop) (v:Value):List (List Int):=if h:∃ b,Dn K H S v b then h.choose else []
theorem zfT (I:Inv X pins σ H s) {v:Value} {b:List (List Int)} (h:Dn X.K H S v b):bdOf X.K H S v=b:=by
 have hx:∃ b,Dn X.K H S v b:=⟨b,h⟩
 unfold bdOf
 rw [dif_pos hx]
 exact Dn.uniq I hx.choose_spec h
theorem ziL (I:Inv X pins σ H s):∀ {bs:List (List (List Int))} {us:List Value},Dns X.K H S us bs→us.map (bdOf X.K H S)=bs
 | [],[],_=>rfl
 | [],_ :: _,h=>h.elim
 | _ :: _,[],h=>h.elim
 | b :: bs,u :: us,⟨h1,h2⟩=>by rw [List.map_cons,zfT I h1,ziL I h2]
theorem ziD (I:Inv X pins σ H s):∀ {us:List Value},(∀ u∈us,∃ b,Dn X.K H S u b)→Dns X.K H S us (us.map (bdOf X.K H S))
 | [],_=>trivial
 | u :: us,h=>by
  obtain⟨b,hb⟩:=h u (by simp)
  refine ⟨?_,ziD I fun v hv=>h v (by simp [hv])⟩
  rw [zfT I hb];exact hb
theorem zfm:∀ (us:List Value),us.zip us=us.map fun u=>(u,u)
 | []=>rfl
 | u :: us=>by rw [List.zip_cons_cons,zfm us];rfl
noncomputable def rfV:Value→V
 | .ref a=>.ref a
 | _=>.non
theorem zh1:∀ {vs:List V} {us:List Value},Vals vs us→(∀ v∈vs,∃ a,v=V.ref a)→vs=us.map rfV:=by
 intro vs us h
 induction h with
 | nil=>intro _;rfl
 | cons r _ ih =>
  intro k
  obtain⟨a,rfl⟩:=k _ (List.mem_cons_self ..)
  cases r
  rw [List.map_cons,← ih fun v hv=>k v (by simp [hv])]
  rfl
theorem zfQ:∀ {bs:List (List (List Int))} {vs:List V},Dens X.K H S (bs.map bdT) .al [] vs→∀ v∈vs,∃ a,v=V.ref a
 | [],vs,d,v,hv=>by
  unfold Dens at d
  rw [d.2] at hv
  cases hv
 | b :: bs,vs,d,v,hv=>by
  rw [List.map_cons] at d
  unfold Dens at d
  obtain⟨A1,A2,w,vs',ea,rfl,d1,d2⟩:=d
  obtain⟨rfl,rfl⟩:=List.append_eq_nil_iff.mp ea.symm
  rcases List.mem_cons.mp hv with rfl | hv
  ·obtain⟨_,a,_,rfl,_⟩:=zag.mp d1
   exact⟨a,rfl⟩
  ·exact zfQ d2 v hv
noncomputable def zoR (K:PySem.W.Frag):List V→Hp→VK→Prop:=fun xs H Q=>∃ S a vs ts t',Dom S H∧xs=[.ref a]∧H a=some (.lst vs)∧Dens K H S ts .al [] vs∧zcw [.lst ts]=some t'∧∀ ts' p ys,t'=.lst ts'→H p=none→ys.Perm vs→Dens K H S ts' .al [] ys→Q (.ref p) (upd H p (.lst ys))
theorem zgx (hu:X.A.units + 5 < cLine):zb2 X (.builtin "sorted") (zoR X.K):=by
 intro pins s σ H xs us Q I r h
 obtain⟨S,a,vs,ts,t',dm,rfl,h1,h2,ec,h⟩:=h
 obtain⟨u,rfl,rx⟩:=zjM r
 cases rx
 replace ec:(zdj ts).bind (fun bs=>if bs.all (fun b=>b.length == (bs.headD []).length && b.all fun r=>r.length == (bs.headD []).length)=true then some (T.lst ((zaO (bs.headD []).length bs).map bdT)) else none)=some t':=ec
 cases e:zdj ts with
 | none=>rw [e] at ec;cases ec
 | some bs =>
   rw [e] at ec
   obtain rfl:=zhs e
   have ec:(if bs.all (fun b=>b.length == (bs.headD []).length && b.all fun r=>r.length == (bs.headD []).length)=true then some (T.lst ((zaO (bs.headD []).length bs).map bdT)) else none)=some t':=ec
   generalize (bs.headD []).length=n at ec
   split at ec
   ·rename_i hall
    cases ec
    have hD:∀ b∈bs,Shp n b:=fun b hb=>by
     have:=List.all_eq_true.mp hall b hb
     simp only [Bool.and_eq_true,beq_iff_eq,List.all_eq_true] at this
     exact this
    obtain⟨its,rv,pl,hz⟩:=I.list (.of h1)
    have hn:=zmR h2 rv
    have hm:=zk0 hn
    let inst:Srt.SK:=⟨fun p=>rnk (ltB n) bs (bdOf X.K H S p.1),fun p=>∃ b∈bs,Dn X.K H S p.1 b⟩
    have tot:∀ a b,Shp n a→Shp n b→ltB n a b=false→ltB n b a=false→a=b:=fun a b=>zhd a b
    have fin:∀ out:Array Keyed,out.Perm (pairsOf its)→@Srt.SortedTo inst out (pairsOf its).size→EP X pins σ Q (.ref (s.heap.objs.size + 1)) { s with heap:=sortedAll s.heap its (out.map (·.2)) }:=fun out q1 q2=>by
     have p1:out.toList.Perm (its.map fun u=>(u,u)):=by
      have:=Array.perm_iff_toList_perm.mp q1
      rw [pairsOf_toList,zfm] at this
      exact this
     have eq2:∀ p∈out.toList,p.1=p.2∧p.2∈its:=fun p hp=>by
      obtain⟨u,hu,rfl⟩:=List.mem_map.mp (p1.mem_iff.mp hp)
      exact⟨rfl,hu⟩
     have p2:(out.toList.map (·.2)).Perm its:=by
      have:=p1.map (·.2)
      rw [List.map_map] at this
      have e:(its.map ((fun p:Keyed=>p.2) ∘ fun u=>(u,u)))=its:=by
       have:((fun p:Keyed=>p.2) ∘ fun u:Value=>((u,u):Keyed))=id:=rfl
       rw [this,List.map_id]
      rw [e] at this
      exact this
     have dn:=ziD I (us:=out.toList.map (·.2)) fun u hu=>by
      obtain⟨b,_,q⟩:=hm u (p2.mem_iff.mp hu)
      exact⟨b,q⟩
     have pB:((out.toList.map (·.2)).map (bdOf X.K H S)).Perm bs:=by
      have:=p2.map (bdOf X.K H S)
      rw [ziL I hn] at this
      exact this
     have sB:((out.toList.map (·.2)).map (bdOf X.K H S)).Pairwise fun a b=>rnk (ltB n) bs a≤rnk (ltB n) bs b:=by
      rw [List.pairwise_iff_getElem]
      intro i j hi hj hij
      simp only [List.length_map,Array.length_toList] at hi hj
      have:=q2 i j (Nat.le_of_lt hij) (by rw [← q1.size_eq];exact hj)
      unfold Srt.K at this
      rw [Array.getElem?_eq_getElem hi,Array.getElem?_eq_getElem hj] at this
      have this:(rnk (ltB n) bs (bdOf X.K H S out[i].1):Int)≤rnk (ltB n) bs (bdOf X.K H S out[j].1):=this
      rw [(eq2 out[i] (by simp)).1,(eq2 out[j] (by simp)).1] at this
      simp only [List.getElem_map,Array.getElem_toList]
      lia
     have eB:(out.toList.map (·.2)).map (bdOf X.K H S)=zaO n bs:=
      (pB.trans (zaI n bs).symm).eq_of_pairwise (fun x y hx hy h1 h2=>zj9 (ziq n) (zio n) (Shp n) tot hD (pB.mem_iff.mp hx) ((zaI n bs).mem_iff.mp hy) (by lia)) sB (zbL hD bs fun b hb=>hb)
     rw [eB] at dn
     obtain⟨ys,r3,d3⟩:=zmE dn
     obtain⟨e',he⟩:=sortedAll_at s.heap its (out.map (·.2))
     have hl:ys.length≤sizeLine:=by rw [d3.length,List.length_map,(zaI n bs).length_eq];have:=h2.length;rw [List.length_map] at this;lia
     have pY:ys.Perm vs:=by
      rw [zh1 r3 (zfQ d3),zh1 rv (zfQ h2)]
      exact p2.map rfV
     refine ⟨.ref (s.heap.objs.size + 1),_,I.laid (t':=s.toks) (o:=.lst ys) (fun b ob q=>sortedAll_old q) (Nat.le_succ _) ⟨hl,out.toList.map (·.2),e',r3,?_⟩,rfl,h _ _ ys rfl (I.hok.fresh (Nat.le_succ _)) pY d3⟩
     rw [he]
     have:out.map (·.2)=(out.toList.map (·.2)).toArray:=by apply Array.ext';rw [Array.toList_map,List.toList_toArray]
     rw [this]
    refine @Srt.sorted_gen X.prog X.w X.A X.xe s inst "list" a its _ pl.isList (fun p hp=>?_) (by rw [← rv.length];exact hz) (by decide) (fun h' kp E=>⟨?_,fun u hu=>?_⟩) fin
    ·rw [pairsOf_toList,zfm] at hp
     obtain⟨u,hu,rfl⟩:=List.mem_map.mp hp
     exact hm u hu
    ·refine @Srt.SKL.mk _ _ _ _ _ inst ?_
     rintro st x y Q' hk ⟨b,hb,db⟩ ⟨c,hc,dc⟩ hq
     have I':Inv X pins σ H { s with heap:=h',toks:=s.toks }:=I.kept kp
     rw [lt'_eq]
     refine wpS_bind (wpS_get ?_)
     rw [hk,keyLt'_oneType]
     have e1:@Srt.key inst x=rnk (ltB n) bs b:=by show (rnk (ltB n) bs (bdOf X.K H S x.1):Int)=_;rw [zfT I db]
     have e2:@Srt.key inst y=rnk (ltB n) bs c:=by show (rnk (ltB n) bs (bdOf X.K H S y.1):Int)=_;rw [zfT I dc]
     rw [e1,e2,zfy (ziq n) (zio n) (Shp n) tot hD hb hc] at hq
     refine wpS_bind (wpS_lift (wpAny_attempt (zmh I' (hD b hb) (hD c hc) (by show X.A.units + 1 + 1 + 3 < cLine;lia) db dc ⟨rfl,?_⟩)))
     exact wpS_pure hq
    ·obtain⟨b,_,x,rr,dd⟩:=hm u hu
     obtain⟨_,p,ws,rfl,_,g1,_⟩:=zag.mp dd
     cases rr
     obtain⟨its2,_,pl2,_⟩:=I.list (.of g1)
     obtain⟨o,ho,hc,_⟩:=pl2.isList
     exact⟨o,kp _ _ ho,hc⟩
   ·cases ec
theorem zla (hu:X.A.units + 5 < cLine):zb2 X (.builtin "sorted") (rCT X.K .sp zcw):=zb2.imp (zgx hu) fun xs H Q h=>by
 obtain⟨S,ts,dm,d,h⟩:=h
 cases ec:zcw ts with
 | none=>rw [ec] at h;exact (show False from h).elim
 | some t' =>
  rw [ec] at h
  have ec2:=ec
  unfold zcw at ec
  split at ec
  ·rename_i ts
   obtain⟨v,rfl,d1⟩:=zbz d
   obtain⟨_,a,vs,rfl,hS,h1,h2⟩:=zag.mp d1
   exact⟨S,a,vs,ts,t',dm,rfl,h1,h2,ec2,fun ts' p ys et hp _ dy=>by subst et;exact h _ _ S _ (Got.newSp dm hp dy)⟩
  ·cases ec
end
end TL
namespace TL
open PySem PySem.Spec L2
open PyProof.Rows hiding St
section
variable {X:Cx} {z:Z} {md md1:Md} {Fs:VEnv→Res (List T)} {e:Expr} {es:List Expr} {p p' pos cpos:Pos} {i n:Nat} {x:Str} {K:PySem.W.Frag}
end
end TL
namespace TL
open PySem PySem.Spec L2
open PyProof.Rows hiding St
noncomputable def zbx (v:V):List T→Option (List T)
 | []=>some []
 | .lst us :: r=>if us.length < sizeLine then (zbx v r).map (.lst (us ++ [.sc v]) :: ·) else none
 | _=>none
theorem zff {v:V}:∀ {ts ts':List T},zbx v ts=some ts'→ts'.length=ts.length
 | [],ts',h=>by unfold zbx at h;cases h;rfl
 | t :: r,ts',h=>by
  cases t with
  | lst us =>
   unfold zbx at h
   split at h
   ·cases e:zbx v r with
    | none=>rw [e] at h;cases h
    | some q=>rw [e] at h;cases h;rw [List.length_cons,List.length_cons,zff e]
   ·cases h
  | _=>unfold zbx at h;cases h
theorem zfg {v:V}:∀ {ts ts':List T} {k:Nat},zbx v ts=some ts'→k < ts.length→∃ us,ts[k]? = some (.lst us)∧us.length < sizeLine∧ts'[k]? = some (.lst (us ++ [.sc v]))
 | [],ts',k,_,hk=>by simp at hk
 | t :: r,ts',k,h,hk=>by
  cases t with
  | lst us =>
   unfold zbx at h
   split at h
   ·rename_i hz
    cases e:zbx v r with
    | none=>rw [e] at h;cases h
    | some q =>
     rw [e] at h;cases h
     cases k with
     | zero=>exact⟨us,rfl,hz,rfl⟩
     | succ k =>
      obtain⟨w,a,b,c⟩:=zfg (k:=k) e (by simpa using hk)
      exact⟨w,by simpa using a,b,by simpa using c⟩
   ·cases h
  | _=>unfold zbx at h;cases h
section
variable {X:Cx} {z:Z} {K:PySem.W.Frag} {i p:Nat} {x:Str} {a a' e:Expr} {pos p1 p2 p3 p4:Pos}
theorem Ok.forget {S:Addr→Prop} {As:Nat→List Addr} {ρ:SEnv} {σ:St} {H:Hp} (o:Ok K z S As ρ σ H) (p:Nat):Ok K z S As (ρ.set p none) σ H:=
 ⟨o.same,o.dom,by rw [List.length_set];exact o.ln,o.s0,o.s1,o.nd,o.ow,o.dj,fun j m t e=>by
  by_cases hj:j=p
  ·subst hj
   by_cases hl:j < ρ.length
   ·rw [List.getElem?_set_self hl] at e;cases e
   ·rw [List.getElem?_eq_none (by rw [List.length_set];lia)] at e;cases e
  ·rw [List.getElem?_set_ne (fun q=>hj q.symm)] at e
   exact o.sl j m t e⟩
theorem zkE {α:Type} {ts ts':List α} {k:Nat} (hl:ts'.length=ts.length) (hk:k < ts.length):(ts'.take k ++ ts.drop k)[k]? = ts[k]?:=by
 rw [List.getElem?_append_right (by rw [List.length_take];lia),List.length_take,Nat.min_eq_left (by lia),Nat.sub_self,List.getElem?_drop,Nat.add_zero]
theorem zkD {α:Type} {ts ts':List α} {k:Nat} {y:α} (hl:ts'.length=ts.length) (hk:k < ts.length) (hy:ts'[k]? = some y):(ts'.take k ++ ts.drop k).set k y=ts'.take (k + 1) ++ ts.drop (k + 1):=by
 have h1:(ts'.take k).length=k:=by rw [List.length_take];lia
 rw [List.set_append_right _ _ (by lia),h1,Nat.sub_self,List.drop_eq_getElem_cons hk,List.set_cons_zero]
 have h2:k < ts'.length:=by lia
 rw [List.getElem?_eq_getElem h2] at hy
 cases hy
 rw [List.take_succ_eq_append_getElem h2,List.append_assoc]
 rfl
end
end TL
namespace TL
open PySem PySem.Spec L2
section
variable {X:Cx} {z:Z} {K:PySem.W.Frag} {i p:Nat} {x:Str} {a a' e:Expr} {pos p1 p2 p3 p4:Pos}
end
end TL
namespace Sx
open PySem PySem.Spec
open PyProof.Rows (IntsAre)
section
variable {prog:Program} {w:World} {A:Around} {E:Value→Shared→Prop} {s:Shared} {a:Addr} {led:Bool} {k:Int} {t t0:Nat}
end
section
variable {prog:Program} {w:World} {A:Around} {E:Value→Shared→Prop} {s:Shared} {S I:Addr} {led:Bool} {k:Int} {t:Nat}
end
section
variable {prog:Program} {w:World} {A:Around} {R:Result→Shared→Prop} {I S:Addr} {fp wr:List Addr} {G:Array GenState→Array GenState→Prop} {n:Nat} {P:Nat→Value→Prop} {St:Nat→Shared→Prop} {led:Bool} {k:Int}
end
section
variable {prog:Program} {w:World} {A:Around} {E:Value→Shared→Prop} {s:Shared}
set_option maxHeartbeats 3200000 in
set_option maxHeartbeats 3200000 in
end
end Sx
namespace Sx
open PySem PySem.Spec
section
variable {prog:Program} {w:World} {A:Around} {E:Value→Shared→Prop} {s:Shared} {S I:Addr} {h k:Int} {t f:Nat} {x:Value}
open PyProof.Rows Srt in
end
end Sx
namespace TL
open PySem PySem.Spec L2
section
variable {X:Cx} {z:Z} {md md1:Md} {F:VEnv→Res T} {e:Expr} {t:TE} {p1 p2 p3 p4:Pos}
theorem zlc:bootBuiltins "sorted" = some (.builtin "sorted"):=by kernel_rfl
end
end TL
namespace TL
open PySem PySem.Spec L2
section
variable {X:Cx} {z:Z} {md md1 md2:Md} {F1 F2:VEnv→Res T} {a e:Expr} {p1 p2:Pos}
end
end TL
namespace Sx
open PySem PySem.Spec
section
variable {prog:Program} {w:World} {A:Around} {E:Value→Shared→Prop} {s:Shared}
end
section
variable {prog:Program} {w:World} {A:Around} {E:Value→Shared→Prop} {s:Shared} {a:Addr} {es:Array (Int×Value)} {ep:Nat} {t:SetTable} {ds:List Int} {led:Bool} {k:Int} {u:Nat}
end
end Sx
namespace Sx
open PySem PySem.Spec
open PyProof.Rows (IntsAre)
section
variable {prog:Program} {w:World} {A:Around} {R:Result→Shared→Prop} {I S:Addr} {fp wr:List Addr} {G:Array GenState→Array GenState→Prop} {n:Nat} {P:Nat→Value→Prop} {St:Nat→Shared→Prop} {led:Bool} {ns:List Int}
end
section
variable {prog:Program} {w:World} {A:Around} {E:Value→Shared→Prop} {s:Shared}
set_option maxHeartbeats 3200000 in
set_option maxHeartbeats 3200000 in
end
end Sx
namespace Sx
open PySem PySem.Spec
section
variable (w:World) (S:Addr) (es:Array (Int×Value)) (ep:Nat) (t:SetTable) (tp:Option (Addr×List Nat))
end
section
variable {prog:Program} {w:World} {A:Around} {E:Value→Shared→Prop} {s:Shared} {S I:Addr} {es:Array (Int×Value)} {ep:Nat} {t:SetTable} {ds:List Int} {tp:Option (Addr×List Nat)} {i:Nat}
end
end Sx
namespace Sx
open PySem PySem.Spec
section
variable {prog:Program} {w:World} {A:Around} {E:Value→Shared→Prop} {s:Shared} {S I:Addr} {es:Array (Int×Value)} {ep:Nat} {t:SetTable} {ds:List Int} {tp:Option (Addr×List Nat)} {i:Nat}
end
end Sx
namespace Sx
open PySem PySem.Spec
section
variable {prog:Program} {w:World} {A:Around} {E:Value→Shared→Prop} {s:Shared} {S I:Addr} {es:Array (Int×Value)} {ep:Nat} {t:SetTable} {ds:List Int} {tp:Option (Addr×List Nat)} {i:Nat}
end
end Sx
namespace Sx
open PySem PySem.Spec
open PyProof.Rows (IntsAre)
section
variable {prog:Program} {w:World} {A:Around} {E:Value→Shared→Prop} {s:Shared} {S:Addr} {es:Array (Int×Value)} {ep:Nat} {t:SetTable} {ds:List Int}
open PyProof.Rows Srt in
end
end Sx
namespace TL
open PySem PySem.Spec L2
section
variable {X:Cx} {z:Z} {md md1:Md} {F:VEnv→Res T} {e:Expr} {t:TE} {p1 p2 p3 p4:Pos}
end
end TL
namespace TL
open PySem PySem.Spec L2
noncomputable def kinL (mT mM:List T→Res T):Nat→T→Res (List T)
 | 0,_=>.ok []
 | k + 1,t=>(mT [t]).bind fun u=>(mM [u]).bind fun v=>(kinL mT mM k u).bind fun r=>.ok (u :: v :: r)
noncomputable def sKin (f c q k:Nat) (mT mM:List T→Res T):SEnv→SRes:=fun ρ=>if f=c∨f=q∨c=q∨400 < k then .bad else if q < ρ.length then (match ρ[f]?,ρ[c]? with
 | some (some (.fu,.lst [])),some (some (.al,t))=>(kinL mT mM k t).sthen fun ts=>.nx (((ρ.set c none).set q none).set f (some (.fu,.lst ts)))
 | _,_=>.bad) else .bad
section
variable {X:Cx} {z:Z} {K:PySem.W.Frag} {f c q k:Nat}
theorem zll {M:List Bool} {S S':Addr→Prop} {As:Nat→List Addr} {ρ:SEnv} {σ:St} {H H':Hp} {ts:List T} {t:T} {y:V} {A:List Addr} (o:Ok K z S As ρ σ H) (e:ρ[f]? = some (some (.fu,.lst ts))) (g:Got K H (SB S As M) H' S' A y .fu t) :
  ∃ a vs,σ[f]? = some (some (.ref a))∧H' a=some (.lst vs)∧vs.length=ts.length∧∃ As',Ok K z S As' (ρ.set f (some (.fu,.lst (ts ++ [t])))) σ (upd H' a (.lst (vs ++ [y])))∧Step K S H S (upd H' a (.lst (vs ++ [y])))∧(∀ b∈A,b∈As' f∧b≠a):=by
 obtain⟨v,hv,d⟩:=o.sl f _ _ e
 obtain⟨a,vs,A',rfl,ea,h1,h2⟩:=zam.mp d
 have ha:a∈As f:=by rw [ea];exact List.mem_cons_self ..
 have o':=o.grow g.g
 obtain⟨a1,a2,a3⟩:=o.ow f a ha
 have h1':=g.g.same _ _ h1
 have nA:a∉A:=fun q=>a3 (g.ow a q).1
 have nd:=o.nd f
 rw [ea] at nd
 refine ⟨a,vs,hv,h1',h2.length,_,o'.wr (zaM e) ha h1' hv (vs':=vs ++ [y]) (A':=a :: (A' ++ A)) (zam.mpr ⟨a,_,_,rfl,rfl,zaB,?_⟩) ?_ (fun b hb=>?_),(zaN g.g.same).trans (zbk a1 h1'),fun b hb=>⟨?_,fun w=>nA (w ▸ hb)⟩⟩
 ·exact (za6 h1' a1 (List.nodup_cons.mp nd).1 (h2.mono g.g.same fun _ q=>q)).append (by simpa using Dens.cons (zdx h1' a1 nA g.den.fuS) Dens.nil)
 ·refine List.nodup_cons.mpr ⟨fun q=>?_,List.nodup_append.mpr ⟨(List.nodup_cons.mp nd).2,g.nd,fun b hb c hc q=>?_⟩⟩
  ·rcases List.mem_append.mp q with q | q
   ·exact (List.nodup_cons.mp nd).1 q
   ·exact nA q
  ·subst q
   exact (o.ow f b (by rw [ea];exact List.mem_cons_of_mem _ hb)).2.2 (g.ow b hc).1
 ·rcases List.mem_cons.mp hb with q | q
  ·rw [q];exact .inl ha
  ·rcases List.mem_append.mp q with q | q
   ·exact .inl (by rw [ea];exact List.mem_cons_of_mem _ q)
   ·refine .inr ⟨fun j w=>(o.ow j b w).2.2 (g.ow b q).1,fun w=>(g.ow b q).2 (g.g.up b (.inl w)),zaV o.same (g.ow b q).1,fun w=>?_⟩
    obtain⟨ws,w'⟩:=g.den.own b q
    rw [w] at w';cases w'
 ·show b∈(if f=f then a :: (A' ++ A) else As f)
  rw [if_pos rfl]
  exact List.mem_cons_of_mem _ (List.mem_append_right _ hb)
noncomputable def oneM (f:Nat):List Bool:=List.replicate f false ++ [true]
theorem zig {f i:Nat}:(oneM f)[i]? = some true↔i=f:=by
 unfold oneM
 constructor
 ·intro h
  rcases Nat.lt_trichotomy i f with p | p | p
  ·rw [List.getElem?_append_left (by simpa using p)] at h
   simp [p] at h
  ·exact p
  ·rw [List.getElem?_eq_none (by simp;lia)] at h;cases h
 ·rintro rfl
  simp
noncomputable def oneV (c:Nat) (t:T):VEnv:=List.replicate c none ++ [some t]
theorem zlO {c i:Nat} {t u:T} (h:(oneV c t)[i]? = some (some u)):i=c∧u=t:=by
 unfold oneV at h
 rcases Nat.lt_trichotomy i c with p | p | p
 ·rw [List.getElem?_append_left (by simpa using p)] at h
  simp [p] at h
 ·subst p
  simp at h
  exact⟨rfl,h.symm⟩
 ·rw [List.getElem?_eq_none (by simp;lia)] at h;cases h
theorem zkn (c:Nat) (t:T):eVar c (oneV c t)=.ok t:=by
 unfold eVar oneV
 simp
theorem lent {S:Addr→Prop} {As:Nat→List Addr} {ρ:SEnv} {σ:St} {H:Hp} {t:T} {v:V} (o:Ok K z S As ρ σ H) (hv:σ[c]? = some (some v)) (d:Den K H (SB S As (oneM f)) t .al [] v):OkE K z (SB S As (oneM f)) (oneV c t) σ H:=by
 refine ⟨o.same,fun a h=>?_,fun i u e=>?_⟩
 ·rcases h with h | ⟨i,_,h⟩
  ·exact o.dom a h
  ·exact (o.ow i a h).2.2
 ·obtain⟨rfl,rfl⟩:=zlO e
  exact⟨v,hv,d⟩
theorem znI {S S':Addr→Prop} {As As':Nat→List Addr} {H H' H2:Hp} {A:List Addr} {t:T} {y:V} {a:Addr} {vs ws:List V} (h1:H' a=some (.lst vs)) (d:Den K H' S' t .fu A y) (na:∀ b∈A,b∈As' f∧b≠a):Den K (upd H' a (.lst ws)) (SB S As' (oneM f)) t .al [] y:=by
 have nA:a∉A:=fun q=>(na a q).2 rfl
 have d1:Den K (upd H' a (.lst ws)) (fun _=>False) t .fu A y:=zdx (S:=fun _=>False) h1 (fun q=>q.elim) nA d.fuS
 exact d1.out (fun _ q=>q.elim) fun b hb=>.inr ⟨f,zig.mpr rfl,(na b hb).1⟩
variable {x:Str} {eT eM fe1 fe2 ce iter:Expr} {mT mM:List T→Res T} {pos p1 p2 p3 p4 p5 p6 p7 p8:Pos} {nm:Str}
theorem zpt (hf0:PassesOwn (model X.prog X.w) X.A X.env X.xe) (hc:X.calm=true) (hN:X.N.Nodup) (hq:X.N[q]? = some x) (hl:Loc X.env.scope x) (hqf:X.fn x=true∨X.env.scope.names.lookup x=some .local)
  (hcn:X.N[c]? = some nm) (hcl:Loc X.env.scope nm) (hcf:X.fn nm=true∨X.env.scope.names.lookup nm=some .local)
  (hi:PI X (.Name x p3) iter (zpC (zjP (tC (.int k)) tNil))) (hT:JE X z .fu (za0 1 mT (zah (eVar c) aNil)) eT) (hM:JE X z .fu (za0 1 mM (zah (eVar c) aNil)) eM)
  (hx1:PE X fe1 (tVar f)) (hx2:PE X fe2 (tVar f)) (hxc:PE X ce (tVar c))
  (hb1:attributeBase fe1 "append" X.env (eval fe1 X.env)=eval fe1 X.env:=by rfl)
  (hw1:((backTo p2 (starEach [ce] X.env)).all (fun x=>!x.1) && (backToKw p2 (keywordEach [] X.env)).all (fun x=>x.1.isSome) && decide ([ce].length + ([]:List Keyword).length + (if ([]:List Keyword).isEmpty then 0 else 1) < 30))=true:=by rfl)
  (hn1:(p1.endLine == p2.line)=true:=by rfl) (hs1:starEach [ce] X.env=(false,eval ce X.env) :: starEach [] X.env:=by rfl) (hp1:(backTo p2 (starEach [] X.env)).any (·.1)=false:=by rfl)
  (hz1:swapsWith (.Call (.Attribute fe1 "append" p1) [ce] [] p2) none p4.line X.env=pure false:=by rfl)
  (hb2:attributeBase fe2 "append" X.env (eval fe2 X.env)=eval fe2 X.env:=by rfl)
  (hw2:((backTo p6 (starEach [eM] X.env)).all (fun x=>!x.1) && (backToKw p6 (keywordEach [] X.env)).all (fun x=>x.1.isSome) && decide ([eM].length + ([]:List Keyword).length + (if ([]:List Keyword).isEmpty then 0 else 1) < 30))=true:=by rfl)
  (hn2:(p5.endLine == p6.line)=true:=by rfl) (hs2:starEach [eM] X.env=(false,eval eM X.env) :: starEach [] X.env:=by rfl) (hp2:(backTo p6 (starEach [] X.env)).any (·.1)=false:=by rfl)
  (hz2:swapsWith (.Call (.Attribute fe2 "append" p5) [eM] [] p6) none p7.line X.env=pure false:=by rfl)
  (hzs:swapsWith eT (some (.Name nm p8)) pos.line X.env=pure false:=by rfl) (hsI:∀ y,foldedSetIterable iter X.env y=pure y:=by intro _;rfl) {pos2:Pos} :
  JS X z (sKin f c q k mT mM) (.For (.Name x p3) iter [.Assign [.Name nm p8] eT pos,.Expr (.Call (.Attribute fe1 "append" p1) [ce] [] p2) p4,.Expr (.Call (.Attribute fe2 "append" p5) [eM] [] p6) p7] [] pos2):=
 PS.imp (zib hf0 hc hi (zas hN hq hl hqf) (zfA (zkg hN hcn hcl hT hzs hcf) (zfA (zco (zg3 PySem.F.plainAttrs_list PySem.F.slot_list_append PySem.F.type_list_append zcq hx1 (za2 hxc zbT hs1) hb1 hw1 hn1 hs1 hp1) hz1)
  (zfz (zco (zg3 PySem.F.plainAttrs_list PySem.F.slot_list_append PySem.F.type_list_append zcq hx2 (za2 hM zbT hs2) hb2 hw2 hn2 hs2 hp2) hz2)))) hsI) fun D σ H h=>by
  obtain⟨S,As,ρ,o,h⟩:=h
  unfold sKin at h
  split at h
  ·exact (show False from h).elim
  rename_i hne
  split at h
  rotate_left
  ·exact (show False from h).elim
  rename_i hql
  split at h
  rotate_left
  ·exact (show False from h).elim
  rename_i t0 e1 e2
  have nfc:f≠c:=fun w=>hne (.inl w)
  have nfq:f≠q:=fun w=>hne (.inr (.inl w))
  have ncq:c≠q:=fun w=>hne (.inr (.inr (.inl w)))
  have hk:k≤400:=by lia
  have hfl:f < ρ.length:=zaM e1
  have hcl':c < ρ.length:=zaM e2
  refine ⟨k,rfl,by lia,by lia,?_⟩
  have ek:((k:Int)).toNat=k:=Int.toNat_natCast k
  rw [ek]
  let rk:=fun ts=>((ρ.set c none).set q none).set f (some (Md.fu,T.lst ts))
  have rkf:∀ ts,(rk ts)[f]? = some (some (.fu,.lst ts)):=fun ts=>List.getElem?_set_self (by rw [List.length_set,List.length_set];exact hfl)
  have rks:∀ ts ts',(rk ts).set f (some (.fu,.lst ts'))=rk ts':=fun ts ts'=>List.set_set ..
  have rkc:∀ ts,(rk ts).set c none=rk ts:=fun ts=>by
   show (((ρ.set c none).set q none).set f _).set c none=_
   rw [List.set_comm _ _ nfc,List.set_comm _ _ (Ne.symm ncq),List.set_set]
  have rkq:∀ ts,(rk ts).set q none=rk ts:=fun ts=>by
   show (((ρ.set c none).set q none).set f _).set q none=_
   rw [List.set_comm _ _ nfq,List.set_set]
  obtain⟨v0,hv0,d0⟩:=o.sl c _ _ e2
  have ea0:=d0.alA
  rw [ea0] at d0
  refine zkV (fun i σ' H'=>∃ ts t As' v,kinL mT mM k t0=(kinL mT mM (k - i) t).bind (fun r=>.ok (ts ++ r))∧ts.length≤2 * i∧Ok X.K z S As' (rk ts) σ' H'∧Step X.K S H S H'∧σ'[c]? = some (some v)∧Den X.K H' (SB S As' (oneM f)) t .al [] v) ?_ ?_ ?_
  ·refine ⟨[],t0,As,v0,?_,by simp,?_,Step.refl,hv0,d0.monoS fun b hb=>.inl hb⟩
   ·rw [Nat.sub_zero]
    cases kinL mT mM k t0 <;> rfl
   ·have:=(o.forget c).forget q
    have e3:rk []=(ρ.set c none).set q none:=by
     refine List.ext_getElem? fun j=>?_
     by_cases hj:f=j
     ·subst hj
      rw [rkf,List.getElem?_set_ne (Ne.symm nfq),List.getElem?_set_ne (Ne.symm nfc),e1]
     ·exact List.getElem?_set_ne hj
    rw [e3]
    exact this
  ·rintro i σ1 H1 hi ⟨ts,t,As1,v,ek1,hlen,o1,s1,hv,d⟩
   have h1:endS X.K z S H D ((kinL mT mM k t0).sthen fun ts=>.nx (rk ts)):=h
   rw [ek1,show k - i=(k - (i + 1)) + 1 by lia] at h1
   show tAsg _ _ _ _ _
   have o2:Ok X.K z S As1 (rk ts) (σ1.set q (some (.int (0 + i)))) H1:=by
    have:=o1.drop q (.int (0 + i))
    rw [rkq] at this
    exact this
   have hv2:(σ1.set q (some (V.int (0 + i))))[c]? = some (some v):=by rw [List.getElem?_set_ne (Ne.symm ncq)];exact hv
   generalize σ1.set q (some (V.int (0 + i)))=σ2 at o2 hv2
   refine ⟨_,_,lent o2 hv2 d,?_⟩
   have eF:za0 1 mT (zah (eVar c) aNil) (oneV c t)=mT [t]:=by
    show ((eVar c (oneV c t)).bind fun a=>(aNil (oneV c t)).bind fun r=>.ok (a :: r)).bind _=_
    rw [zkn]
    rfl
   rw [eF]
   unfold kinL at h1
   cases et:mT [t] with
   | exc c=>rw [et] at h1;exact h1
   | bad=>rw [et] at h1;exact h1
   | ok u =>
    rw [et] at h1
    intro y H2 S2 A2 g
    have hc2:c < σ2.length:=by rw [← o2.ln];show c < (((ρ.set c none).set q none).set f _).length;simp only [List.length_set];exact hcl'
    have o3:Ok X.K z S As1 (rk ts) (σ2.set c (some y)) H1:=by
     have:=o2.drop c y
     rw [rkc] at this
     exact this
    have hv3:(σ2.set c (some y))[c]? = some (some y):=List.getElem?_set_self hc2
    obtain⟨a,vs,w1,w2,w3,As4,o4,s4,na⟩:=zll o3 (rkf ts) g
    rw [rks] at o4
    have d4:Den X.K (upd H2 a (.lst (vs ++ [y]))) (SB S As4 (oneM f)) u .al [] y:=znI (H:=H1) (H2:=H2) (As:=As1) w2 g.den na
    have z1:vs.length < sizeLine:=by rw [w3];exact Nat.lt_of_le_of_lt (show ts.length≤800 by lia) (by decide)
    refine ⟨_,w1,.inl ⟨rfl,vs,.of w2⟩,y,hv3,a,vs,y,rfl,rfl,w2,z1,?_⟩
    have w4:(upd H2 a (.lst (vs ++ [y]))) a=some (.lst (vs ++ [y])):=zaB
    generalize σ2.set c (some y)=σ3 at o3 hv3 w1 o4
    generalize upd H2 a (.lst (vs ++ [y]))=H4 at o4 s4 d4 w4
    obtain⟨a',vs',r1,r2,r3⟩:=zbo o4 (rkf (ts ++ [u]))
    rw [w1] at r1
    cases r1
    refine ⟨_,w1,.inl ⟨rfl,vs',.of r2⟩,_,_,lent o4 hv3 d4,?_⟩
    have eM:za0 1 mM (zah (eVar c) aNil) (oneV c u)=mM [u]:=by
     show ((eVar c (oneV c u)).bind fun a=>(aNil (oneV c u)).bind fun r=>.ok (a :: r)).bind _=_
     rw [zkn]
     rfl
    rw [eM]
    replace h1:endS X.K z S H D ((((mM [u]).bind fun v=>(kinL mT mM (k - (i + 1)) u).bind fun r=>.ok (u :: v :: r)).bind fun r=>.ok (ts ++ r)).sthen fun ts=>.nx (rk ts)):=h1
    cases em:mM [u] with
    | exc c=>rw [em] at h1;exact h1
    | bad=>rw [em] at h1;exact h1
    | ok m =>
     rw [em] at h1
     intro y2 H5 S5 A5 g5
     obtain⟨a2,vs2,x1,x2,x3,As6,o6,s6,na6⟩:=zll o4 (rkf (ts ++ [u])) g5
     rw [w1] at x1
     cases x1
     rw [rks] at o6
     have z2:vs2.length < sizeLine:=by rw [x3,List.length_append];exact Nat.lt_of_le_of_lt (show ts.length + 1≤900 by lia) (by decide)
     refine ⟨a,vs2,y2,rfl,rfl,x2,z2,ts ++ [u] ++ [m],u,As6,y,?_,by simp only [List.length_append,List.length_cons,List.length_nil];lia,o6,(s1.trans s4).trans s6,hv3,?_⟩
     ·rw [ek1,show k - i=(k - (i + 1)) + 1 by lia]
      conv=>lhs;unfold kinL
      rw [et]
      show (((mM [u]).bind fun v=>(kinL mT mM (k - (i + 1)) u).bind fun r=>.ok (u :: v :: r)).bind fun r=>.ok (ts ++ r))=_
      rw [em]
      show (((kinL mT mM (k - (i + 1)) u).bind fun r=>.ok (u :: m :: r)).bind fun r=>.ok (ts ++ r))=_
      cases kinL mT mM (k - (i + 1)) u with
      | ok r=>show Res.ok (ts ++ (u :: m :: r))=Res.ok (ts ++ [u] ++ [m] ++ r);simp
      | exc c=>rfl
      | bad=>rfl
     ·have ev:vs2=vs ++ [y]:=by
       have:=g5.g.same _ _ w4
       rw [x2] at this
       cases this;rfl
      obtain⟨v6,q1,q2⟩:=o6.sl f _ _ (rkf (ts ++ [u] ++ [m]))
      rw [w1] at q1
      cases q1
      obtain⟨a6,vs6,A6,e6,ea6,q3,q4⟩:=zam.mp q2
      cases e6
      rw [zaB] at q3
      cases q3
      have hu:(ts ++ [u] ++ [m])[ts.length]? = some u:=by simp
      obtain⟨B1,Bk,B2,v7,eB,q5,q6,_⟩:=Dens.split q4 hu
      rw [ev] at q5
      have:v7=y:=by
       rw [← w3] at q5
       simp at q5
       exact q5.symm
      subst this
      exact q6.out (fun b hb=>.inl hb) fun b hb=>.inr ⟨f,zig.mpr rfl,by rw [ea6,eB];exact List.mem_cons_of_mem _ (List.mem_append_right _ (List.mem_append_left _ hb))⟩
  ·rintro σ1 H1 ⟨ts,t,As1,v,ek1,hlen,o1,s1,hv,d⟩
   rw [Nat.sub_self] at ek1
   have ek2:kinL mT mM k t0=.ok ts:=by
    rw [ek1]
    show Res.ok (ts ++ [])=_
    rw [List.append_nil]
   rw [ek2] at h
   exact h S As1 σ1 H1 o1 s1
end
end TL
namespace TL
open PySem PySem.Spec L2
section
variable {X:Cx} {z:Z} {K:PySem.W.Frag} {H:Hp} {S:Addr→Prop} {i:Nat} {a:Expr} {pos p1 p2 p3 p4:Pos}
theorem zk2 {vs ys:List V} (p:vs.Perm ys):∀ {ts:List T} {A:List Addr},Dens K H S ts .fu A vs→∃ ts' A',Dens K H S ts' .fu A' ys∧ts'.Perm ts∧A'.Perm A:=by
 induction p with
 | nil=>intro ts A d;exact⟨ts,A,d,.refl _,.refl _⟩
 | cons x _ ih =>
  intro ts A d
  cases ts with
  | nil=>unfold Dens at d;cases d.2
  | cons t ts =>
   unfold Dens at d
   obtain⟨A1,A2,v,vs',rfl,e,d1,d2⟩:=d
   cases e
   obtain⟨ts',A',d3,p1,p2⟩:=ih d2
   exact⟨t :: ts',A1 ++ A',Dens.cons d1 d3,p1.cons t,List.Perm.append_left _ p2⟩
 | swap x y l =>
  intro ts A d
  cases ts with
  | nil=>unfold Dens at d;cases d.2
  | cons t ts =>
   unfold Dens at d
   obtain⟨A1,A2,v,vs',rfl,e,d1,d2⟩:=d
   cases e
   cases ts with
   | nil=>unfold Dens at d2;cases d2.2
   | cons u ts =>
    unfold Dens at d2
    obtain⟨A3,A4,v,vs',rfl,e,d3,d4⟩:=d2
    cases e
    refine ⟨u :: t :: ts,A3 ++ (A1 ++ A4),Dens.cons d3 (Dens.cons d1 d4),.swap _ _ _,?_⟩
    rw [← List.append_assoc,← List.append_assoc]
    exact List.Perm.append_right _ List.perm_append_comm
 | trans _ _ ih1 ih2 =>
  intro ts A d
  obtain⟨t1,A1,d1,q1,q2⟩:=ih1 d
  obtain⟨t2,A2,d2,q3,q4⟩:=ih2 d1
  exact⟨t2,A2,d2,q3.trans q1,q4.trans q2⟩
theorem znh {r q:List Int} {v:V} (d1:Den K H S (.lst (zai r)) .al [] v) (d2:Den K H S (.lst (zai q)) .al [] v):r=q:=by
 obtain⟨_,a,vs,rfl,_,h1,h2⟩:=zag.mp d1
 obtain⟨_,b,ws,e,_,h3,h4⟩:=zag.mp d2
 cases e
 rw [h1] at h3
 cases h3
 have e1:=zbX h2 (za9 r)
 have e2:=zbX h4 (za9 q)
 rw [e1] at e2
 exact (List.map_inj_right (fun x y e=>by cases e;rfl)).mp e2
theorem zh9:∀ {b c:List (List Int)} {vs:List V},Dens K H S (b.map fun r=>T.lst (zai r)) .al [] vs→Dens K H S (c.map fun r=>T.lst (zai r)) .al [] vs→b=c
 | [],[],vs,_,_=>rfl
 | [],r :: c,vs,d1,d2=>by
  unfold Dens at d1
  rw [d1.2,List.map_cons] at d2
  unfold Dens at d2
  obtain⟨_,_,_,_,_,e,_⟩:=d2
  cases e
 | r :: b,[],vs,d1,d2=>by
  unfold Dens at d2
  rw [d2.2,List.map_cons] at d1
  unfold Dens at d1
  obtain⟨_,_,_,_,_,e,_⟩:=d1
  cases e
 | r :: b,q :: c,vs,d1,d2=>by
  rw [List.map_cons] at d1 d2
  unfold Dens at d1 d2
  obtain⟨A1,A2,v,vs',ea,rfl,x1,x2⟩:=d1
  obtain⟨A3,A4,v2,vs2,eb,e,x3,x4⟩:=d2
  cases e
  obtain⟨rfl,rfl⟩:=List.append_eq_nil_iff.mp ea.symm
  obtain⟨rfl,rfl⟩:=List.append_eq_nil_iff.mp eb.symm
  rw [znh x1 x3,zh9 x2 x4]
theorem zlf:∀ {bs cs:List (List (List Int))} {vs:List V},Dens K H S (bs.map bdT) .al [] vs→Dens K H S (cs.map bdT) .al [] vs→bs=cs
 | [],[],vs,_,_=>rfl
 | [],r :: c,vs,d1,d2=>by
  unfold Dens at d1
  rw [d1.2,List.map_cons] at d2
  unfold Dens at d2
  obtain⟨_,_,_,_,_,e,_⟩:=d2
  cases e
 | r :: b,[],vs,d1,d2=>by
  unfold Dens at d2
  rw [d2.2,List.map_cons] at d1
  unfold Dens at d1
  obtain⟨_,_,_,_,_,e,_⟩:=d1
  cases e
 | r :: b,q :: c,vs,d1,d2=>by
  rw [List.map_cons] at d1 d2
  unfold Dens at d1 d2
  obtain⟨A1,A2,v,vs',ea,rfl,x1,x2⟩:=d1
  obtain⟨A3,A4,v2,vs2,eb,e,x3,x4⟩:=d2
  cases e
  obtain⟨rfl,rfl⟩:=List.append_eq_nil_iff.mp ea.symm
  obtain⟨rfl,rfl⟩:=List.append_eq_nil_iff.mp eb.symm
  have er:r=q:=by
   obtain⟨_,a,ws,rfl,_,h1,h2⟩:=zag.mp x1
   obtain⟨_,b',us,e,_,h3,h4⟩:=zag.mp x3
   cases e
   rw [h1] at h3
   cases h3
   exact zh9 h2 h4
  rw [er,zlf x2 x4]
noncomputable def zdV (i:Nat):SEnv→SRes:=fun ρ=>match ρ[i]? with
 | some (some (.fu,.lst ts))=>(match zcw [.lst ts] with | some t=>.rt .fu t | none=>.bad)
 | _=>.bad
theorem zjm (hu:X.A.units + 5 < cLine) (hg:Gl X "sorted") (hm:X.mg "sorted" = none) (hx:PE X a (tVar i)) (hs:starEach [a] X.env=(false,eval a X.env) :: starEach [] X.env:=by rfl) (hpl:(backTo p2 (starEach [] X.env)).any (·.1)=false:=by rfl) :
  JS X z (zdV i) (.Return (some (.Call (.Name "sorted" p1) [a] [] p2)) pos):=
 PS.imp (zkh (zie (zgx hu) hg hm zlc (za2 hx zbT hs) (by decide) (by decide) hs hpl)) fun D σ H h=>by
  obtain⟨S,As,ρ,o,h⟩:=h
  unfold zdV at h
  split at h
  rotate_left
  ·exact (show False from h).elim
  rename_i ts e1
  cases ec:zcw [.lst ts] with
  | none=>rw [ec] at h;exact (show False from h).elim
  | some t' =>
   rw [ec] at h
   obtain⟨v,hv,d⟩:=o.sl i _ _ e1
   obtain⟨a0,vs,A',rfl,ea,h1,h2⟩:=zam.mp d
   refine ⟨_,hv,fun b=>S b∨b∈As i,a0,vs,ts,t',fun b hb=>hb.elim (o.dom b) fun q=>(o.ow i b q).2.2,rfl,h1,h2.out (fun b hb=>.inl hb) (fun b hb=>.inr (by rw [ea];exact List.mem_cons_of_mem _ hb)),ec,fun ts' p ys et hp py dy=>?_⟩
   subst et
   obtain⟨t2,A2,d2,q1,q2⟩:=zk2 py.symm h2
   have ec':(zdj ts).bind (fun bs=>if bs.all (fun b=>b.length == (bs.headD []).length && b.all fun r=>r.length == (bs.headD []).length)=true then some (T.lst ((zaO (bs.headD []).length bs).map bdT)) else none)=some (.lst ts'):=ec
   have et:t2=ts':=by
    cases eb:zdj ts with
    | none=>rw [eb] at ec';cases ec'
    | some bs =>
     rw [eb] at ec'
     have ec2:(if bs.all (fun b=>b.length == (bs.headD []).length && b.all fun r=>r.length == (bs.headD []).length)=true then some (T.lst ((zaO (bs.headD []).length bs).map bdT)) else none)=some (.lst ts'):=ec'
     split at ec2
     ·cases ec2
      obtain rfl:=zhs eb
      obtain⟨b2,rfl⟩:∃ b2:List (List (List Int)),t2=b2.map bdT:=by
       have:∀ t∈t2,∃ b,t=bdT b:=fun t ht=>by
        obtain⟨b,_,rfl⟩:=List.mem_map.mp (q1.mem_iff.mp ht)
        exact⟨b,rfl⟩
       clear d2 q1
       induction t2 with
       | nil=>exact⟨[],rfl⟩
       | cons t t2 ih =>
        obtain⟨b,rfl⟩:=this t (by simp)
        obtain⟨b2,rfl⟩:=ih fun t ht=>this t (by simp [ht])
        exact⟨b :: b2,rfl⟩
      have d3:Dens X.K H (fun b=>S b∨b∈As i) (b2.map bdT) .al [] ys:=d2.out (fun b hb=>.inl hb) fun b hb=>.inr (by rw [ea];exact List.mem_cons_of_mem _ (q2.mem_iff.mp hb))
      rw [zlf d3 dy]
     ·cases ec2
   subst et
   have nd:=o.nd i
   rw [ea] at nd
   have mA:∀ b∈A2,b∈As i:=fun b hb=>by rw [ea];exact List.mem_cons_of_mem _ (q2.mem_iff.mp hb)
   exact h _ _ S _ (Got.newFu ⟨⟨o.same,o.s0,o.s1,o.dom⟩,q2.nodup_iff.mpr (List.nodup_cons.mp nd).2,fun b hb=>⟨(o.ow i b (mA b hb)).2.1,(o.ow i b (mA b hb)).1⟩,d2⟩ hp)
end
end TL
namespace TL
open PySem PySem.Spec L2
noncomputable def eHd (F:VEnv→Res T):VEnv→Res T:=fun ρ=>(F ρ).bind fun t=>match t with
 | .lst (u :: _)=>.ok u
 | _=>.bad
section
variable {X:Cx} {z:Z} {K:PySem.W.Frag} {F:VEnv→Res T} {e b:Expr} {pos:Pos}
theorem zq9 (he:JE X z .fu F e) (hb:PE X b (tC (.int 0))) (hs:zeI b):JE X z .fu (eHd F) (.Subscript e b pos):=
 PE.imp (zlM zep he hb hs) fun σ H Q h=>by
  obtain⟨S,ρ,o,h⟩:=h
  refine ⟨S,ρ,o,?_⟩
  replace h:endE X.K z H S .fu Q ((F ρ).bind fun t=>match t with | .lst (u :: _)=>.ok u | _=>.bad):=h
  cases eF:F ρ with
  | exc c=>rw [eF] at h;exact h
  | bad=>rw [eF] at h;exact h
  | ok t =>
   rw [eF] at h
   intro v H' S' A g
   cases t with
   | sc _=>exact (show False from h).elim
   | scr _=>exact (show False from h).elim
   | tup _=>exact (show False from h).elim
   | lst ts =>
    cases ts with
    | nil=>exact (show False from h).elim
    | cons u us =>
     obtain⟨a,vs,A',rfl,ea,h1,h2⟩:=zam.mp g.den
     unfold Dens at h2
     obtain⟨A1,A2,w,vs',e2,rfl,d1,d2⟩:=h2
     have nd:=g.nd
     rw [ea,e2] at nd
     have mA:∀ b∈A1,b∈A:=fun b hb=>by rw [ea,e2];exact List.mem_cons_of_mem _ (List.mem_append_left _ hb)
     exact⟨a,w :: vs',0,w,rfl,rfl,.of h1,by simp [atI,ixN],h w H' S' A1 ⟨g.g,(List.nodup_append.mp (List.nodup_cons.mp nd).2).1,fun b hb=>g.ow b (mA b hb),d1⟩⟩
end
noncomputable def za3 (v:V):List T→Option (List T)
 | []=>some []
 | .lst us :: r=>(zbx v us).bind fun us'=>(za3 v r).map (.lst us' :: ·)
 | _=>none
theorem zht {v:V}:∀ {ts ts':List T},za3 v ts=some ts'→ts'.length=ts.length:=by
 intro ts
 induction ts with
 | nil=>intro ts' h;unfold za3 at h;cases h;rfl
 | cons t r ih =>
  intro ts' h
  cases t with
  | lst us =>
   unfold za3 at h
   cases e1:zbx v us with
   | none=>rw [e1] at h;cases h
   | some us' =>
    rw [e1] at h
    cases e2:za3 v r with
    | none=>rw [e2] at h;cases h
    | some r'=>rw [e2] at h;cases h;rw [List.length_cons,List.length_cons,ih e2]
  | _=>unfold za3 at h;cases h
theorem zhu {v:V}:∀ {ts ts':List T} {k:Nat},za3 v ts=some ts'→k < ts.length→∃ us us',ts[k]? = some (.lst us)∧zbx v us=some us'∧ts'[k]? = some (.lst us'):=by
 intro ts
 induction ts with
 | nil=>intro ts' k _ hk;simp at hk
 | cons t r ih =>
  intro ts' k h hk
  cases t with
  | lst us =>
   unfold za3 at h
   cases e1:zbx v us with
   | none=>rw [e1] at h;cases h
   | some us' =>
    rw [e1] at h
    cases e2:za3 v r with
    | none=>rw [e2] at h;cases h
    | some r' =>
     rw [e2] at h;cases h
     cases k with
     | zero=>exact⟨us,us',rfl,e1,rfl⟩
     | succ k=>simpa using ih e2 (k:=k) (by simpa using hk)
  | _=>unfold za3 at h;cases h
section
variable {X:Cx} {z:Z} {K:PySem.W.Frag} {i:Nat}
theorem Ok.inner2 {S:Addr→Prop} {As:Nat→List Addr} {ρ:SEnv} {σ:St} {H:Hp} {ts us rs:List T} {k j:Nat} (o:Ok K z S As ρ σ H) (e:ρ[i]? = some (some (.fu,.lst ts))) (hk:ts[k]? = some (.lst us)) (hj:us[j]? = some (.lst rs)) :
  ∃ a vs b ws d xs B,σ[i]? = some (some (.ref a))∧H a=some (.lst vs)∧vs[k]? = some (.ref b)∧H b=some (.lst ws)∧ws.length=us.length∧ws[j]? = some (.ref d)∧H d=some (.lst xs)∧Dens K H S rs .fu B xs∧¬ S d∧d∉B∧d≠a∧d≠b ∧
  ∀ rs' xs',Dens K (upd H d (.lst xs')) S rs' .fu B xs'→∃ As',Ok K z S As' (ρ.set i (some (.fu,.lst (ts.set k (.lst (us.set j (.lst rs'))))))) σ (upd H d (.lst xs')):=by
 obtain⟨v,hv,d0⟩:=o.sl i _ _ e
 obtain⟨a,vs,A',rfl,ea,h1,h2⟩:=zam.mp d0
 obtain⟨A1,Ak,A2,w,rfl,q1,q2,q3⟩:=Dens.split h2 hk
 obtain⟨b,ws,Bk,rfl,rfl,h3,h4⟩:=zam.mp q2
 obtain⟨B1,Bj,B2,w2,rfl,r1,r2,r3⟩:=Dens.split h4 hj
 obtain⟨d,xs,B,rfl,rfl,h5,h6⟩:=zam.mp r2
 have nd:=o.nd i
 rw [ea] at nd
 obtain⟨n1,n2⟩:=List.nodup_cons.mp nd
 obtain⟨m1,m2,m3⟩:=List.nodup_append.mp n2
 obtain⟨k1,k2,k3⟩:=List.nodup_append.mp m2
 obtain⟨l1,l2⟩:=List.nodup_cons.mp k1
 obtain⟨s1,s2,s3⟩:=List.nodup_append.mp l2
 obtain⟨t1,t2,t3⟩:=List.nodup_append.mp s2
 obtain⟨u1,u2⟩:=List.nodup_cons.mp t1
 have dB:d∈B1 ++ ((d :: B) ++ B2):=List.mem_append_right _ (List.mem_append_left _ (List.mem_cons_self ..))
 have dk:d∈(b :: (B1 ++ ((d :: B) ++ B2))):=List.mem_cons_of_mem _ dB
 have dA:d∈A1 ++ ((b :: (B1 ++ ((d :: B) ++ B2))) ++ A2):=List.mem_append_right _ (List.mem_append_left _ dk)
 have hd:d∈As i:=by rw [ea];exact List.mem_cons_of_mem _ dA
 have nda:d≠a:=fun q=>n1 (q ▸ dA)
 have ndb:d≠b:=fun q=>l1 (q ▸ dB)
 have nA1:d∉A1:=fun q=>m3 d q d (List.mem_append_left _ dk) rfl
 have nA2:d∉A2:=fun q=>k3 d dk d q rfl
 have nB1:d∉B1:=fun q=>s3 d q d (List.mem_append_left _ (List.mem_cons_self ..)) rfl
 have nB2:d∉B2:=fun q=>t3 d (List.mem_cons_self ..) d q rfl
 refine ⟨a,vs,b,ws,d,xs,B,hv,h1,q1,h3,h4.length,r1,h5,h6,(o.ow i d hd).1,u1,nda,ndb,fun rs' xs' d'=>?_⟩
 have f:=Frm.upd (K:=K) (o:=.lst xs') h5
 have sv:∀ {l:List V} {n:Nat} {y:V},l[n]? = some y→l.set n y=l:=fun {l n y} q=>by
  have hlt:=(List.getElem?_eq_some_iff.mp q).1
  have:=(List.getElem?_eq_some_iff.mp q).2
  rw [← this];exact List.set_getElem_self hlt
 have e2:=r3 (upd H d (.lst xs')) (.lst rs') (d :: B) (.ref d) ⟨fun c ys hc=>f.nodes c ys (hc.elim (fun q w=>nB1 (w ▸ q)) fun q w=>nB2 (w ▸ q)),f.tups,f.scrs⟩ (zam.mpr ⟨d,xs',B,rfl,rfl,zaB,d'⟩)
 rw [sv r1] at e2
 have e3:=q3 (upd H d (.lst xs')) (.lst (us.set j (.lst rs'))) (b :: (B1 ++ ((d :: B) ++ B2))) (.ref b) ⟨fun c ys hc=>f.nodes c ys (hc.elim (fun q w=>nA1 (w ▸ q)) fun q w=>nA2 (w ▸ q)),f.tups,f.scrs⟩ (zam.mpr ⟨b,ws,_,rfl,rfl,by rw [zat (Ne.symm ndb)];exact h3,e2⟩)
 rw [sv q1] at e3
 exact⟨_,o.wr (zaM e) hd h5 hv (vs':=xs') (t':=.lst (ts.set k (.lst (us.set j (.lst rs'))))) (m':=.fu) (A':=a :: (A1 ++ ((b :: (B1 ++ ((d :: B) ++ B2))) ++ A2))) (zam.mpr ⟨a,vs,_,rfl,rfl,by rw [zat (Ne.symm nda)];exact h1,e3⟩) nd fun c hc=>.inl (by rw [ea];exact hc)⟩
variable {p q:Nat} {x y:Str} {a a' a2 e:Expr} {pos p1 p2 p3 p4 p5 p6:Pos}
noncomputable def zdW (i p q:Nat) (v:V):SEnv→SRes:=fun ρ=>if p=i∨q=i∨p=q then .bad else if p < ρ.length∧q < ρ.length then (match ρ[i]? with
 | some (some (.fu,.lst ts))=>(match za3 v ts with | some ts'=>.nx (((ρ.set p none).set q none).set i (some (.fu,.lst ts'))) | none=>.bad)
 | _=>.bad) else .bad
theorem zjn {c:Int} (hp:PassesOwn (model X.prog X.w) X.A X.env X.xe) (hc:X.calm=true) (hN:X.N.Nodup) (hi:X.N[p]? = some x) (hl:Loc X.env.scope x) (hi2:X.N[q]? = some y) (hl2:Loc X.env.scope y) (hx:PE X a (tVar i)) (hx2:PE X a2 (tVar p)) (hr:PE X a' (tVar q)) (he:PE X e (tC (.int c)))
  (hf:X.fn x=true∨X.env.scope.names.lookup x=some .local:=by first | exact .inl rfl | exact .inr rfl)
  (hf2:X.fn y=true∨X.env.scope.names.lookup y=some .local:=by first | exact .inl rfl | exact .inr rfl)
  (hbase:attributeBase a' "append" X.env (eval a' X.env)=eval a' X.env:=by rfl)
  (hfew:((backTo p2 (starEach [e] X.env)).all (fun x=>!x.1) && (backToKw p2 (keywordEach [] X.env)).all (fun x=>x.1.isSome) && decide ([e].length + ([]:List Keyword).length + (if ([]:List Keyword).isEmpty then 0 else 1) < 30))=true:=by rfl)
  (hline:(p1.endLine == p2.line)=true:=by rfl) (hst:starEach [e] X.env=(false,eval e X.env) :: starEach [] X.env:=by rfl) (hplain:(backTo p2 (starEach [] X.env)).any (·.1)=false:=by rfl)
  (hs:swapsWith (.Call (.Attribute a' "append" p1) [e] [] p2) none p4.line X.env=pure false:=by rfl) (hsI:∀ y,foldedSetIterable a X.env y=pure y:=by intro _;rfl) (hsI2:∀ y,foldedSetIterable a2 X.env y=pure y:=by intro _;rfl) :
  JS X z (zdW i p q (.int c)) (.For (.Name x p3) a [.For (.Name y p5) a2 [.Expr (.Call (.Attribute a' "append" p1) [e] [] p2) p4] [] p6] [] pos):=
 PS.imp (zib hp hc (zg2 hx) (zas hN hi hl hf) (zfz (zib hp hc (zg2 hx2) (zas hN hi2 hl2 hf2) (zfz (zco (zg3 PySem.F.plainAttrs_list PySem.F.slot_list_append PySem.F.type_list_append zcq hr (za2 he zbT hst) hbase hfew hline hst hplain) hs)) hsI2)) hsI) fun D σ H h=>by
  obtain⟨S,As,ρ,o,h⟩:=h
  unfold zdW at h
  split at h
  ·exact (show False from h).elim
  rename_i hne
  split at h
  rotate_left
  ·exact (show False from h).elim
  rename_i hpl
  split at h
  rotate_left
  ·exact (show False from h).elim
  rename_i ts e1
  have npi:p≠i:=fun w=>hne (.inl w)
  have nqi:q≠i:=fun w=>hne (.inr (.inl w))
  have npq:p≠q:=fun w=>hne (.inr (.inr w))
  cases ea:za3 (.int c) ts with
  | none=>rw [ea] at h;exact (show False from h).elim
  | some ts' =>
   rw [ea] at h
   have hlen:=zht ea
   have hil:i < ρ.length:=zaM e1
   let rk:=fun us=>((ρ.set p none).set q none).set i (some (Md.fu,T.lst us))
   have rki:∀ us,(rk us)[i]? = some (some (.fu,.lst us)):=fun us=>List.getElem?_set_self (by rw [List.length_set,List.length_set];exact hil)
   have rks:∀ us us',(rk us).set i (some (.fu,.lst us'))=rk us':=fun us us'=>List.set_set ..
   have rkp:∀ us,(rk us).set p none=rk us:=fun us=>by
    show (((ρ.set p none).set q none).set i _).set p none=_
    rw [List.set_comm _ _ (Ne.symm npi),List.set_comm _ _ (Ne.symm npq),List.set_set]
   have rkq:∀ us,(rk us).set q none=rk us:=fun us=>by
    show (((ρ.set p none).set q none).set i _).set q none=_
    rw [List.set_comm _ _ (Ne.symm nqi),List.set_set]
   obtain⟨a0,vs0,h1,h2,h3⟩:=zbo o e1
   have hpl':p < σ.length∧q < σ.length:=by rw [← o.ln];exact hpl
   have o0:Ok X.K z S As (rk ts) σ H:=by
    have:=(o.forget p).forget q
    have e3:rk ts=(ρ.set p none).set q none:=by
     refine List.ext_getElem? fun j=>?_
     by_cases hj:i=j
     ·subst hj
      rw [rki,List.getElem?_set_ne nqi,List.getElem?_set_ne npi,e1]
     ·exact List.getElem?_set_ne hj
    rw [e3]
    exact this
   refine ⟨_,h1,a0,rfl,⟨vs0,.of h2⟩,fun k m σ2 H2=>m=ts.length - k∧k≤ts.length∧σ2[i]? = some (some (.ref a0))∧(p < σ2.length∧q < σ2.length)∧(∃ As2,Ok X.K z S As2 (rk (ts'.take k ++ ts.drop k)) σ2 H2)∧Step X.K S H S H2,
    ⟨ts.length,by simp,Nat.zero_le _,h1,hpl',⟨As,by simpa using o0⟩,zaN (Same.refl _)⟩,?_⟩
   rintro k m σ2 H2 ⟨rfl,hk,g1,g2,⟨As2,o2⟩,s2⟩
   obtain⟨a1,vs1,q1,q2,q3⟩:=zbo o2 (rki _)
   rw [g1] at q1
   cases q1
   have ll:(ts'.take k ++ ts.drop k).length=ts.length:=by rw [List.length_append,List.length_take,List.length_drop];lia
   by_cases hlt:k < ts.length
   ·obtain⟨us,us',u1,u2,u3⟩:=zhu ea hlt
    have eu:(ts'.take k ++ ts.drop k)[k]? = some (.lst us):=by rw [zkE hlen hlt];exact u1
    have hul:=zff u2
    obtain⟨a2,vs2,b,ws,B,r1,r2,r3,r4,r5,r6,r7,r8,r9,r10⟩:=o2.inner (rki _) eu
    rw [g1] at r1
    cases r1
    refine .inr ⟨⟨vs2,.ref b,.of r2,r4⟩,fun σ' H'=>σ'[i]? = some (some (.ref a0))∧(p < σ'.length∧q < σ'.length)∧(∃ As3,Ok X.K z S As3 (rk (ts'.take (k + 1) ++ ts.drop (k + 1))) σ' H')∧Step X.K S H S H',fun σ' H' ⟨y1,y2,y3,y4⟩=>⟨ts.length - (k + 1),by lia,rfl,hlt,y1,y2,y3,y4⟩,?_⟩
    rintro v H3 ⟨rfl,hy⟩
    have:=hy vs2 (.of r2)
    rw [r4] at this
    cases this
    have op:Ok X.K z S As2 (rk (ts'.take k ++ ts.drop k)) (σ2.set p (some (.ref b))) H3:=by
     have:=o2.drop p (.ref b)
     rw [rkp] at this
     exact this
    have g1p:(σ2.set p (some (V.ref b)))[i]? = some (some (.ref a0)):=by rw [List.getElem?_set_ne npi];exact g1
    have gp:(σ2.set p (some (V.ref b)))[p]? = some (some (.ref b)):=List.getElem?_set_self g2.1
    have g2p:p < (σ2.set p (some (V.ref b))).length∧q < (σ2.set p (some (V.ref b))).length:=by rw [List.length_set];exact g2
    show tFor _ _ _ _ (σ2.set p (some (V.ref b))) H3
    generalize σ2.set p (some (V.ref b))=σ3 at op g1p gp g2p
    have bl:k < (ts'.take k ++ ts.drop k).length:=by lia
    have b0:(ts'.take k ++ ts.drop k).set k (.lst us)=ts'.take k ++ ts.drop k:=by
     have:=(List.getElem?_eq_some_iff.mp eu).2
     rw [← this];exact List.set_getElem_self bl
    have b1:(ts'.take k ++ ts.drop k).set k (.lst us')=ts'.take (k + 1) ++ ts.drop (k + 1):=zkD hlen hlt u3
    generalize ts'.take k ++ ts.drop k=bs at op eu bl b0 b1
    refine ⟨_,gp,b,rfl,⟨ws,.of r5⟩,fun j m σ4 H4=>m=us.length - j∧j≤us.length∧σ4[i]? = some (some (.ref a0))∧(p < σ4.length∧q < σ4.length)∧H4 a0=some (.lst vs2)∧H4 b=some (.lst ws)∧(∃ As4,Ok X.K z S As4 (rk (bs.set k (.lst (us'.take j ++ us.drop j)))) σ4 H4)∧Step X.K S H S H4,
     ⟨us.length,by simp,Nat.zero_le _,g1p,g2p,r2,r5,⟨As2,by rw [List.take_zero,List.drop_zero,List.nil_append,b0];exact op⟩,s2⟩,?_⟩
    rintro j m σ4 H4 ⟨rfl,hj,y1,y2,y3,y4,⟨As4,o4⟩,s4⟩
    have lw:ws.length=us.length:=r6.length
    by_cases hjl:j < us.length
    ·obtain⟨rs,x1,x2,x3⟩:=zfg u2 hjl
     have eu2:(us'.take j ++ us.drop j)[j]? = some (.lst rs):=by rw [zkE hul hjl];exact x1
     have ek2:(bs.set k (.lst (us'.take j ++ us.drop j)))[k]? = some (.lst (us'.take j ++ us.drop j)):=List.getElem?_set_self bl
     obtain⟨a5,vs5,b5,ws5,d,xs,B5,f1,f2,f3,f4,f5,f6,f7,f8,f9,f10,f11,f12,f13⟩:=o4.inner2 (rki _) ek2 eu2
     rw [y1] at f1
     cases f1
     rw [y3] at f2
     cases f2
     rw [r4] at f3
     cases f3
     rw [y4] at f4
     cases f4
     refine .inr ⟨⟨ws,.ref d,.of y4,f6⟩,fun σ' H'=>σ'[i]? = some (some (.ref a0))∧(p < σ'.length∧q < σ'.length)∧H' a0=some (.lst vs2)∧H' b=some (.lst ws)∧(∃ As6,Ok X.K z S As6 (rk (bs.set k (.lst (us'.take (j + 1) ++ us.drop (j + 1))))) σ' H')∧Step X.K S H S H',fun σ' H' ⟨w1,w2,w3,w4,w5,w6⟩=>⟨us.length - (j + 1),by lia,rfl,hjl,w1,w2,w3,w4,w5,w6⟩,?_⟩
     rintro v5 H5 ⟨rfl,hy5⟩
     have:=hy5 ws (.of y4)
     rw [f6] at this
     cases this
     refine ⟨.ref d,List.getElem?_set_self y2.2,.inl ⟨rfl,xs,.of f7⟩,?_⟩
     obtain⟨As6,o6⟩:=f13 (rs ++ [.sc (.int c)]) (xs ++ [.int c]) (by
      have:=za6 (K:=X.K) (o:=.lst (xs ++ [.int c])) f7 f9 f10 f8
      have:=this.append (A1:=B5) (A2:=[]) (Dens.cons (A1:=[]) (A2:=[]) (zcN (.int c)) Dens.nil)
      rw [List.append_nil] at this
      exact this)
     rw [rks,List.set_set,zkD hul hjl x3] at o6
     refine ⟨d,xs,.int c,rfl,rfl,f7,by rw [f8.length];exact x2,by rw [List.getElem?_set_ne nqi];exact y1,by rw [List.length_set];exact y2,by rw [zat (Ne.symm f11)];exact y3,by rw [zat (Ne.symm f12)];exact y4,⟨As6,?_⟩,s4.trans (zbk f9 f7)⟩
     have:=o6.drop q (.ref d)
     rw [rkq] at this
     exact this
    ·have ej:j=us.length:=by lia
     subst ej
     have em:us'.take us.length ++ us.drop us.length=us':=by rw [← hul,List.take_length,hul,List.drop_length,List.append_nil]
     rw [em,b1] at o4
     exact .inl ⟨⟨ws,.of y4,by lia⟩,y1,y2,⟨As4,o4⟩,s4⟩
   ·have ek:k=ts.length:=by lia
    subst ek
    have em:ts'.take ts.length ++ ts.drop ts.length=ts':=by rw [← hlen,List.take_length,hlen,List.drop_length,List.append_nil]
    rw [em] at o2
    refine .inl ⟨⟨vs1,.of q2,by rw [q3,ll];exact Nat.le_refl _⟩,h S As2 σ2 H2 o2 s2⟩
end
end TL
namespace TL
open PySem PySem.Spec L2
open PyProof.Rows hiding St
theorem zfB {X:Cx} {P:Program} {w:World}:zgL (CXe P w) X (fun _ _ _=>False):=fun _ _ _ _ _ _ _ h=>by
 obtain⟨_,_,_,_,_,h⟩:=h
 exact h.elim
theorem sz1:1≤sizeLine:=by decide
theorem sz2:2≤sizeLine:=by decide
def spL (K:PySem.W.Frag):Sp:=fun vs H Q _=>∃ (a:Addr) (ns:List Int),vs=[.ref a]∧Scr K H a ns∧ns.length≤63∧∀ H',Q (.bl true) H'
theorem law_fn {P:Program} {w:World} {K:PySem.W.Frag} {mg:Str→Option Value} {base:Heap} {k j:Nat} {f:Addr} {fd:FuncData} {cl:Nat→Addr} {m:List T→Res T} {x:Str} (F:FnOk P w K mg base (CXe P w) k f fd [x] (spT K cl 1 .fu m)) (hk:k≤j)
  (hm:∀ ns:List Int,ns.length≤63→m [.scr ns]=.ok (.sc (.bl true))):FnOk P w K mg base (CXe P w) j f fd [x] (spL K):=
 (F.mono hk).imp fun vs H Q E h=>by
  obtain⟨a,ns,rfl,hs,hl,q⟩:=h
  refine ⟨fun _=>False,[.scr ns],rfl,fun _ z=>z.elim,?_,?_⟩
  ·unfold Dens
   exact⟨[],[],.ref a,[],rfl,rfl,zhm.mpr ⟨rfl,a,rfl,hs⟩,by unfold Dens;exact⟨rfl,rfl⟩⟩
  ·rw [hm ns hl]
   intro v H' S' A g
   obtain⟨_,rfl⟩:=zac.mp g.den
   exact q H'
theorem zbW {K:PySem.W.Frag} {a c:Value} {b:Bool} (h:PySem.W.exmOne K a c=some b):PySem.W.kitCls K a c=some b:=by
 unfold PySem.W.exmOne at h
 split at h
 ·exact h
 ·cases h
theorem zoF {K:PySem.W.Frag} {H:Hp} {a:Addr} {ns:List Int} (hO:Only H) (hS:SqL K H a (ns.map V.int)):Scr K H a ns:=by
 rcases hS with (h | h) | h
 ·rcases hO a with q | ⟨o,xs,q⟩
  ·rw [q] at h;cases h
  ·rw [q] at h;cases h
 ·exact .inl h
 ·exact .inr h
theorem walk {l:PySem.W.OpenLaw} {q:Program} {loose:List Str} {XP:(Str→Option Value)→Heap→Prop} {YP:World→Heap→Prop} {d:DefRec} {K:Params→PySem.W.Frag} (hn:l.most=some 63) (hdf:d.params.defaults=[])
  (hY:∀ (w:World) (h:Heap),YP w h→(K w.params).In h)
  (F:∀ (w:World) (mg:Str→Option Value) (fa:Addr) (h:Heap),(K w.params).In h→h.Ns mainGlobals mg→mg d.name=some (.ref fa) →
   ∃ fd:FuncData,(∀ (s:Shared) (u:Value),BindsTo s fd ⟨[u],[]⟩ [("script", u)])∧∀ base:Heap,(K w.params).In base→base.Ns mainGlobals mg→FnOk l.prog w (K w.params) mg base (CXe l.prog w) 12 fa fd ["script"] (spL (K w.params))) :
  PySem.W.WalkO q loose XP YP l.row.toRowW d [] (fun f vs=>PySem.call f vs):=
 L2.walk_of (n:=63) (k:=12) (x := "script") (CX:=fun w=>CXe l.prog w) (sp:=fun w=>spL (K w.params)) hn (by decide) hdf ⟨rfl,by decide,by decide⟩ hY F
  (fun w H a ns hl hO hS=>⟨a,ns,rfl,zoF hO hS,hl,fun _=>rfl⟩) fun w H s e s' h=>by
   obtain⟨_,_,_,_,_,h⟩:=h
   exact h.elim
theorem zcr {α:Type} {P:List α→Prop} {us:List α} (hl:us.length=1) (h:∀ a,P [a]):P us:=match us,hl with | [a],_=>h a
theorem zdE {α:Type} {P:List α→Prop} {us:List α} (hl:us.length=2) (h:∀ a b,P [a,b]):P us:=match us,hl with | [a,b],_=>h a b
theorem zmI {α:Type} {P:List α→Prop} {us:List α} (hl:us.length=3) (h:∀ a b c,P [a,b,c]):P us:=match us,hl with | [a,b,c],_=>h a b c
end TL
namespace TL
open PySem PySem.Spec L2
@[simp] theorem zm9 (R1 R2:SEnv→SRes) (ρ:SEnv):sSeq R1 R2 ρ=((R1 ρ).then R2):=rfl
@[simp] theorem zqA (md:Md) (M:List Bool) (F:VEnv→Res T) (ρ:SEnv):sRet md M F ρ=((F (view M ρ)).sthen fun t=>.rt md t):=rfl
@[simp] theorem zqz (i:Nat) (M:List Bool) (F:VEnv→Res T) (ρ:SEnv):sSet i M F ρ=((F (view M ρ)).sthen fun t=>if i < ρ.length then .nx (ρ.set i (some (.fu,t))) else .bad):=rfl
@[simp] theorem zp3 (md:Md) (i:Nat) (M:List Bool) (F:VEnv→Res T) (ρ:SEnv):zgX md i M F ρ=((F (view M ρ)).sthen fun t=>if i < ρ.length then .nx ((zaz M ρ).set i (some (md,t))) else .bad):=rfl
@[simp] theorem zrv (M:List Bool) (B:VEnv→Res Bool) (R1 R2:SEnv→SRes) (ρ:SEnv):sIf M B R1 R2 ρ=((B (view M ρ)).sthen fun b=>if b=true then R1 ρ else R2 ρ):=rfl
@[simp] theorem zp6 (M:List Bool) (F:VEnv→Res T) (ρ:SEnv):zj5 M F ρ=((F (view M ρ)).sthen fun _=>.nx ρ):=rfl
@[simp] theorem zrQ (g:T→T→Option T) (F1 F2:VEnv→Res T) (ρ:VEnv):eOp g F1 F2 ρ=((F1 ρ).bind fun t=>(F2 ρ).bind fun u=>.of (g t u)):=rfl
@[simp] theorem eB_ap (F:VEnv→Res T) (ρ:VEnv):eB F ρ=((F ρ).bind fun t=>.of (asB t)):=rfl
@[simp] theorem zro (B1 B2:VEnv→Res Bool) (ρ:VEnv):bAnd B1 B2 ρ=((B1 ρ).bind fun b=>if b=true then B2 ρ else .ok false):=rfl
@[simp] theorem zrV (B1 B2:VEnv→Res Bool) (ρ:VEnv):bOr B1 B2 ρ=((B1 ρ).bind fun b=>if b=true then .ok true else B2 ρ):=rfl
@[simp] theorem zrn (B1:VEnv→Res Bool) (ρ:VEnv):bNot B1 ρ=((B1 ρ).bind fun b=>.ok (!b)):=rfl
@[simp] theorem zqp (F1 F2:VEnv→Res T) (ρ:VEnv):vAnd F1 F2 ρ=((F1 ρ).bind fun t=>(Res.of (asB t)).bind fun b=>if b=true then F2 ρ else .ok (.sc (.bl false))):=rfl
@[simp] theorem zqo (F1:VEnv→Res T) (ρ:VEnv):vNot F1 ρ=((F1 ρ).bind fun t=>(Res.of (asB t)).bind fun b=>.ok (.sc (.bl !b))):=rfl
@[simp] theorem eC_ap (v:V) (ρ:VEnv):eC v ρ=(.ok (.sc v)):=rfl
@[simp] theorem zrt  (ρ:VEnv):aNil ρ=(.ok []):=rfl
@[simp] theorem zqn (F:VEnv→Res T) (Fs:VEnv→Res (List T)) (ρ:VEnv):zah F Fs ρ=((F ρ).bind fun t=>(Fs ρ).bind fun ts=>.ok (t :: ts)):=rfl
@[simp] theorem zrm (Fs:VEnv→Res (List T)) (ρ:VEnv):eLst Fs ρ=((Fs ρ).bind fun ts=>.of (zel ts)):=rfl
@[simp] theorem zqg (n:Nat) (m:List T→Res T) (Fs:VEnv→Res (List T)) (ρ:VEnv):za0 n m Fs ρ=((Fs ρ).bind fun ts=>if ts.length=n then m ts else .bad):=rfl
@[simp] theorem zrT (g:List T→Option T) (Fs:VEnv→Res (List T)) (ρ:VEnv):eB1 g Fs ρ=((Fs ρ).bind fun ts=>.of (g ts)):=rfl
@[simp] theorem zrg (F:VEnv→Res T) (ρ:VEnv):iLst F ρ=((F ρ).bind fun t=>.of (asL t)):=rfl
@[simp] theorem zrf (g:List T→Option (List T)) (Fs:VEnv→Res (List T)) (ρ:VEnv):iRng g Fs ρ=((Fs ρ).bind fun ts=>.of (g ts)):=rfl
@[simp] theorem zqf (ix:List (Option Nat)) (I:VEnv→Res (List T)) (gE:T→VEnv→Option VEnv) (F:VEnv→Res T) (ρ:VEnv):zbc ix I gE F ρ=((I ρ).bind fun ts=>(mapL gE F (zbt ix ρ) ts).bind fun us=>.of (zel us)):=rfl
@[simp] theorem zqG (M:List Bool) (I:VEnv→Res (List T)) (gT:T→SEnv→Option SEnv) (B:SEnv→SRes) (ρ:SEnv):sFor M I gT B ρ=((I (view M ρ)).sthen fun ts=>forL gT B ts (zaz M ρ)):=rfl
@[simp] theorem gS_ap (i:Nat) (t:T) (ρ:SEnv):gS i t ρ=(if i < ρ.length then some (ρ.set i (some (.al,t))) else none):=rfl
@[simp] theorem gE_ap (i:Nat) (t:T) (ρ:VEnv):gE i t ρ=(if zeq ρ i=true then some (ρ.set i (some t)) else none):=rfl
@[simp] theorem zqI (i:Nat) (md:Md) (M:List Bool) (F:VEnv→Res T) (ρ:SEnv):sApp i md M F ρ=(zcK i ρ fun m ts=>(F (view M ρ)).sthen fun t=>zcy i md M m ts t ρ):=rfl
@[simp] theorem zqH (i:Nat) (md:Md) (M:List Bool) (F:VEnv→Res T) (ρ:SEnv):sExt i md M F ρ=(zcK i ρ fun m ts=>(F (view M ρ)).sthen fun t=>zkW i md M m ts t ρ):=rfl
@[simp] theorem zqF (i:Nat) (M:List Bool) (F1 F2:VEnv→Res T) (ρ:SEnv):sIns i M F1 F2 ρ=(zcK i ρ fun m ts=>(F1 (view M ρ)).sthen fun u=>(F2 (view M ρ)).sthen fun t=>zkT i m ts u t ρ):=rfl
@[simp] theorem zqB (i:Nat) (M:List Bool) (F1 F2:VEnv→Res T) (ρ:SEnv):sPut i M F1 F2 ρ=(zcK i ρ fun m ts=>(F1 (view M ρ)).sthen fun t=>(F2 (view M ρ)).sthen fun u=>zkf i m ts t u ρ):=rfl
@[simp] theorem zp5 (i:Nat) (M:List Bool) (F1 F2 F3:VEnv→Res T) (ρ:SEnv):zlC i M F1 F2 F3 ρ=(zcK i ρ fun m ts=>(F1 (view M ρ)).sthen fun t=>(F2 (view M ρ)).sthen fun u=>(F3 (view M ρ)).no.sthen fun w=>ze0 i m ts t u w ρ):=rfl
@[simp] theorem zp7 (i:Nat) (M:List Bool) (F1 F2:VEnv→Res T) (ρ:SEnv):znc i M F1 F2 ρ=(hasL i ρ ((F1 (view M ρ)).sthen fun u=>(F2 (view M ρ)).no.sthen fun t=>ziX i ρ u fun j ts us=>match t with
 | .sc v=>if us.length < sizeLine then .nx (ρ.set i (some (.fu,.lst (ts.set j (.lst (us ++ [.sc v])))))) else .bad
 | _=>.bad)):=rfl
@[simp] theorem zrd (F1 F2:VEnv→Res T) (ρ:VEnv):iZip F1 F2 ρ=((F1 ρ).bind fun t=>(F2 ρ).bind fun u=>.of ((asL t).bind fun xs=>(asL u).bind fun ys=>some (zipT xs ys))):=rfl
@[simp] theorem zqC (i j:Nat) (M:List Bool) (F1 F2:VEnv→Res T) (ρ:SEnv):sPar i j M F1 F2 ρ=((F1 (view M ρ)).sthen fun t=>(F2 (view M ρ)).sthen fun u=>zlN i j t u ρ):=rfl
@[simp] theorem zoK (c:Nat) (M:List Bool) (U:VEnv→Res Unit) (ρ:SEnv):zeX c M U ρ=((U (view M ρ)).sthen fun _=>.exc c):=rfl
@[simp] theorem zru  (ρ:VEnv):uOk ρ=(.ok ()):=rfl
@[simp] theorem zqq (F:VEnv→Res T) (U:VEnv→Res Unit) (ρ:VEnv):uInt F U ρ=((F ρ).bind fun t=>match t with
 | .sc (.int i)=>if 0≤i∧i < 100 then U ρ else .bad
 | _=>.bad):=rfl
@[simp] theorem zqc  (ρ:VEnv):zlQ ρ=(.ok none):=rfl
@[simp] theorem zqa (F:VEnv→Res T) (ρ:VEnv):zg8 F ρ=((F ρ).bind fun t=>(Res.of (asI t)).bind fun i=>.ok (some i)):=rfl
@[simp] theorem zrP (md:Md) (F:VEnv→Res T) (Lo Hi:OEnv) (ρ:VEnv):eSl md F Lo Hi ρ=((F ρ).bind fun t=>(Lo ρ).bind fun lo=>(Hi ρ).bind fun hi=>.of ((asL t).bind fun ts=>zcf md (cutT ts lo hi))):=rfl
@[simp] theorem zrl (md:Md) (F:VEnv→Res T) (ρ:VEnv):eRev md F ρ=((F ρ).bind fun t=>.of ((asL t).bind fun ts=>zcf md ts.reverse)):=rfl
@[simp] theorem zrR (g:List T→Option (List T)) (Fs:VEnv→Res (List T)) (ρ:VEnv):eLR g Fs ρ=((Fs ρ).bind fun ts=>.of ((g ts).bind fun us=>if us.length≤1000000 then some (.lst us) else none)):=rfl
@[simp] theorem zrA (i j:Nat) (t:T) (ρ:SEnv):gS2 i j t ρ=(match t with
 | .tup [x,y]=>(gS i x ρ).bind (gS j y)
 | _=>none):=rfl
@[simp] theorem zrB (i j:Nat) (t:T) (ρ:VEnv):gE2 i j t ρ=(match t with
 | .tup [x,y]=>if i=j then none else if zeq ρ j=true then (gE i x ρ).bind (gE j y) else none
 | _=>none):=rfl
@[simp] theorem zqE (f c q k:Nat) (mT mM:List T→Res T) (ρ:SEnv):sKin f c q k mT mM ρ=(if f=c∨f=q∨c=q∨400 < k then .bad else if q < ρ.length then (match ρ[f]?,ρ[c]? with
 | some (some (.fu,.lst [])),some (some (.al,t))=>(kinL mT mM k t).sthen fun ts=>.nx (((ρ.set c none).set q none).set f (some (.fu,.lst ts)))
 | _,_=>.bad) else .bad):=rfl
@[simp] theorem zna (i:Nat) (ρ:SEnv):zdV i ρ=(match ρ[i]? with
 | some (some (.fu,.lst ts))=>(match zcw [.lst ts] with | some t=>.rt .fu t | none=>.bad)
 | _=>.bad):=rfl
@[simp] theorem zrS (F:VEnv→Res T) (ρ:VEnv):eHd F ρ=((F ρ).bind fun t=>match t with
 | .lst (u :: _)=>.ok u
 | _=>.bad):=rfl
@[simp] theorem znb (i p q:Nat) (v:V) (ρ:SEnv):zdW i p q v ρ=(if p=i∨q=i∨p=q then .bad else if p < ρ.length∧q < ρ.length then (match ρ[i]? with
 | some (some (.fu,.lst ts))=>(match za3 v ts with | some ts'=>.nx (((ρ.set p none).set q none).set i (some (.fu,.lst ts'))) | none=>.bad)
 | _=>.bad) else .bad):=rfl
end TL
namespace TL
open PySem PySem.Spec L2
noncomputable def zaf (b:List (List Int)):List T:=b.map fun r=>.lst (zai r)
@[simp] theorem zpZ (ρ:SEnv):view [] ρ=[]:=rfl
@[simp] theorem zou (M:List Bool):view M []=[]:=by cases M <;> (unfold view;rfl)
@[simp] theorem zov (b:Bool) (bs:List Bool) (s:Option (Md×T)) (ρ:SEnv):view (b :: bs) (s :: ρ)=(if b=true then s.map (·.2) else none) :: view bs ρ:=rfl
@[simp] theorem zos (ρ:SEnv):zaz [] ρ=ρ:=rfl
@[simp] theorem znV (b:Bool) (bs:List Bool) (s:Option (Md×T)) (ρ:SEnv):zaz (b :: bs) (s :: ρ)=(if b=true then s.map (fun p=>(Md.al,p.2)) else s) :: zaz bs ρ:=rfl
@[simp] theorem zpG (t:T) (md:Md):fin md (.rt md t)=.ok t:=if_pos (.inl rfl)
@[simp] theorem zrD (t:T) (m:Md):fin .al (.rt m t)=.ok t:=if_pos (.inr (.inl rfl))
@[simp] theorem zrC (md:Md) (ρ:SEnv):fin md (.nx ρ)=.ok (.sc .non):=rfl
@[simp] theorem zrk (md:Md) (c:Nat):fin md (.exc c)=.exc c:=rfl
@[simp] theorem zp2 (N:List Str) (a:T):zaD N [a]=some (.al,a) :: List.replicate (N.length - 1) none:=rfl
@[simp] theorem zp1 (N:List Str) (a b:T):zaD N [a,b]=some (.al,a) :: some (.al,b) :: List.replicate (N.length - 2) none:=rfl
@[simp] theorem zp0 (N:List Str) (a b c:T):zaD N [a,b,c]=some (.al,a) :: some (.al,b) :: some (.al,c) :: List.replicate (N.length - 3) none:=rfl
@[simp] theorem zrO (t:T) (ρ:VEnv):eVar 0 (some t :: ρ)=.ok t:=rfl
@[simp] theorem zrE (i:Nat) (o:Option T) (ρ:VEnv):eVar (i + 1) (o :: ρ)=eVar i ρ:=rfl
@[simp] theorem zrN (o:Option T) (ρ:VEnv):eVar 1 (o :: ρ)=eVar 0 ρ:=rfl
@[simp] theorem zrM (o o1:Option T) (ρ:VEnv):eVar 2 (o :: o1 :: ρ)=eVar 0 ρ:=rfl
@[simp] theorem zrL (o o1 o2:Option T) (ρ:VEnv):eVar 3 (o :: o1 :: o2 :: ρ)=eVar 0 ρ:=rfl
@[simp] theorem zrK (o o1 o2 o3:Option T) (ρ:VEnv):eVar 4 (o :: o1 :: o2 :: o3 :: ρ)=eVar 0 ρ:=rfl
@[simp] theorem zrJ (o o1 o2 o3 o4:Option T) (ρ:VEnv):eVar 5 (o :: o1 :: o2 :: o3 :: o4 :: ρ)=eVar 0 ρ:=rfl
@[simp] theorem zrI (o o1 o2 o3 o4 o5:Option T) (ρ:VEnv):eVar 6 (o :: o1 :: o2 :: o3 :: o4 :: o5 :: ρ)=eVar 0 ρ:=rfl
@[simp] theorem zrH (o o1 o2 o3 o4 o5 o6:Option T) (ρ:VEnv):eVar 7 (o :: o1 :: o2 :: o3 :: o4 :: o5 :: o6 :: ρ)=eVar 0 ρ:=rfl
@[simp] theorem zrG (o o1 o2 o3 o4 o5 o6 o7:Option T) (ρ:VEnv):eVar 8 (o :: o1 :: o2 :: o3 :: o4 :: o5 :: o6 :: o7 :: ρ)=eVar 0 ρ:=rfl
@[simp] theorem zrF (o o1 o2 o3 o4 o5 o6 o7 o8:Option T) (ρ:VEnv):eVar 9 (o :: o1 :: o2 :: o3 :: o4 :: o5 :: o6 :: o7 :: o8 :: ρ)=eVar 0 ρ:=rfl
@[simp] theorem zp4 (i:Nat) (ρ:SEnv):zfx i ρ=(match ρ[i]? with | some (some (m,t))=>.rt m t | _=>.bad):=rfl
@[simp] theorem oI_ap (g:Int→Int→Option V) (i j:Int):oI g (.sc (.int i)) (.sc (.int j))=(g i j).map .sc:=rfl
@[simp] theorem zri (i j:Int):iAdd i j=some (.int (i + j)):=rfl
@[simp] theorem zre (i j:Int):iSub i j=some (.int (i - j)):=rfl
@[simp] theorem zrx (i j:Int):iLt i j=some (.bl (decide (i < j))):=rfl
@[simp] theorem zry (i j:Int):iGt i j=some (.bl (decide (j < i))):=rfl
theorem zdw {i j:Int} (h:(-(2 ^ 64) < i∧i < 2 ^ 64)∨(-(2 ^ 64) < j∧j < 2 ^ 64)):iMul i j=some (.int (i * j)):=if_pos h
@[simp] theorem zpA:zai []=[]:=rfl
@[simp] theorem zcI (i:Int) (l:List Int):zai (i :: l)=.sc (.int i) :: zai l:=rfl
@[simp] theorem zbs (l:List Int):(zai l).length=l.length:=by unfold zai;simp
theorem zde (a b:List Int):zai (a ++ b)=zai a ++ zai b:=by unfold zai;simp
@[simp] theorem zjp (l:List Int):zfO (zai l)=true:=by unfold zfO zai;simp [isSc]
@[simp] theorem zoO:zaf []=[]:=rfl
@[simp] theorem zbg (r:List Int) (l:List (List Int)):zaf (r :: l)=.lst (zai r) :: zaf l:=rfl
@[simp] theorem zbp (l:List (List Int)):(zaf l).length=l.length:=by unfold zaf;simp
theorem ziM (l:List Int) (i:Int):atI (zai l) i=(atI l i).map fun n=>.sc (.int n):=zhr _ _ _
theorem zmk (l:List (List Int)) (i:Int):atI (zaf l) i=(atI l i).map fun r=>.lst (zai r):=zhr _ _ _
theorem zeC {α:Type} {l:List α} {i:Int} {x:α} (h0:0≤i) (h:l[i.toNat]? = some x):atI l i=some x:=by
 unfold atI ixN
 have:i.toNat < l.length:=(List.getElem?_eq_some_iff.mp h).1
 rw [if_pos h0,if_pos (by lia)]
 exact h
theorem zey:∀ a b:List Int,eqTs (zai a) (zai b)=decide (a=b)
 | [],[]=>by unfold eqTs;rfl
 | [],b :: bs=>by unfold eqTs;rfl
 | a :: as,[]=>by unfold eqTs;rfl
 | a :: as,b :: bs=>by
  rw [zcI,zcI];unfold eqTs;rw [zey as bs]
  have:eqT (.sc (.int a)) (.sc (.int b))=decide (a=b):=by unfold eqT eqV;by_cases h:a=b <;> simp [h]
  rw [this]
  by_cases h1:a=b <;> by_cases h2:as=bs <;> simp [h1,h2]
theorem zgr:∀ a b:List (List Int),eqTs (zaf a) (zaf b)=decide (a=b)
 | [],[]=>by unfold eqTs;rfl
 | [],b :: bs=>by unfold eqTs;rfl
 | a :: as,[]=>by unfold eqTs;rfl
 | a :: as,b :: bs=>by
  rw [zbg,zbg];unfold eqTs;rw [zgr as bs]
  have:eqT (.lst (zai a)) (.lst (zai b))=decide (a=b):=by unfold eqT;exact zey a b
  rw [this]
  by_cases h1:a=b <;> by_cases h2:as=bs <;> simp [h1,h2]
@[simp] theorem zfC (d:Nat) (i:Int):okT d (.sc (.int i))=true:=by unfold okT;rfl
@[simp] theorem zij (d:Nat) (l:List Int):okT (d + 1) (.lst (zai l))=true:=by
 unfold okT zai;simp
@[simp] theorem zii (d:Nat) (l:List (List Int)):okT (d + 2) (.lst (zaf l))=true:=by
 unfold okT zaf;simp
theorem zfD (a b:List Int):oNe (.lst (zai a)) (.lst (zai b))=some (.sc (.bl (!decide (a=b)))):=by
 unfold oNe;rw [if_pos ⟨zij 4 a,zij 4 b⟩];unfold eqT;rw [zey]
theorem zkY (a b:Int):eqT (.sc (.int a)) (.sc (.int b))=decide (a=b):=by unfold eqT eqV;by_cases h:a=b <;> simp [h]
@[simp] theorem zqX (a b:Int):oEq (.sc (.int a)) (.sc (.int b))=some (.sc (.bl (decide (a=b)))):=by
 unfold oEq;rw [if_pos ⟨zfC 5 a,zfC 5 b⟩,zkY]
@[simp] theorem zqT (a b:Int):oNe (.sc (.int a)) (.sc (.int b))=some (.sc (.bl (!decide (a=b)))):=by
 unfold oNe;rw [if_pos ⟨zfC 5 a,zfC 5 b⟩,zkY]
noncomputable def rngZ (lo:Int) (n:Nat):List Int:=(List.range n).map fun (k:Nat)=>lo + (k:Int)
theorem zg0 (lo:Int) (n:Nat):rngI lo n=zai (rngZ lo n):=by unfold rngI zai rngZ;rw [List.map_map];rfl
@[simp] theorem zbN (lo:Int) (n:Nat):(rngZ lo n).length=n:=by unfold rngZ;simp
theorem zkb {j:Int} (h:-(2 ^ 62)≤j∧j < 2 ^ 62):rng1 [.sc (.int j)]=some (zai (rngZ 0 j.toNat)):=by rw [← zg0];exact if_pos h
theorem zni {i j:Int} (h:-(2 ^ 62)≤i∧i < 2 ^ 62∧-(2 ^ 62)≤j∧j < 2 ^ 62):rng2 [.sc (.int i),.sc (.int j)]=some (zai (rngZ i (j - i).toNat)):=by rw [← zg0];exact if_pos h
theorem zjQ {n:Nat} (h:n≤1000):n≤sizeLine:=Nat.le_trans h zdb
theorem zf1 {n:Nat} (h:n < 1000):n < sizeLine:=zjY (by lia)
theorem zlY {ts:List T} (h:ts.length≤1000):zel ts=some (.lst ts):=if_pos (zjQ h)
@[simp] theorem zq7 {ts:List T} (h:ts.length≤1000):zel ts=some (.lst ts):=if_pos (zjQ h)
@[simp] theorem zrz {i j:Int} (h:0 < j) (h2:j < 1073741824):iDiv i j=some (.int (i / j)):=if_pos ⟨h,h2⟩
@[simp] theorem zrw {i j:Int} (h:0 < j):iMod i j=some (.int (i % j)):=if_pos h
@[simp] theorem zgo {i j:Int} (h:(-(2 ^ 64) < i∧i < 2 ^ 64)∨(-(2 ^ 64) < j∧j < 2 ^ 64)):iMul i j=some (.int (i * j)):=if_pos h
@[simp] theorem zqD (ρ:SEnv):sNil ρ=.nx ρ:=rfl
@[simp] theorem zqW (ts:List T) (i:Int):oIx (.lst ts) (.sc (.int i))=atI ts i:=rfl
@[simp] theorem zqU (ts:List T) (i:Int):oIx (.tup ts) (.sc (.int i))=atI ts i:=rfl
@[simp] theorem zqV (ns:List Int) (i:Int):oIx (.scr ns) (.sc (.int i))=(atI ns i).map fun n=>.sc (.int n):=rfl
@[simp] theorem zqj (ts:List T):cLen [.lst ts]=some (.sc (.int ts.length)):=rfl
@[simp] theorem zqh (ts:List T):cLen [.tup ts]=some (.sc (.int ts.length)):=rfl
@[simp] theorem zqi (ts:List Int):cLen [.scr ts]=some (.sc (.int ts.length)):=rfl
@[simp] theorem zmT (l:List Int):zeB [.lst (zai l)]=some (.lst (zai (zeS l))):=by unfold zeB;simp
@[simp] theorem zmu {j:Int} (h:-4611686018427387904≤j) (h2:j < 4611686018427387904):rng1 [.sc (.int j)]=some (zai (rngZ 0 j.toNat)):=zkb ⟨h,h2⟩
@[simp] theorem zpY (i:Nat) (ρ:SEnv) (k:Md→List T→SRes):zcK i ρ k=(match ρ[i]? with | some (some (m,.lst ts))=>k m ts | _=>.bad):=rfl
@[simp] theorem zql (ts:List T):zcf .sp ts=some (.lst ts):=rfl
@[simp] theorem ziO (l:List Int):zcf .fu (zai l)=some (.lst (zai l)):=if_pos (zjp l)
@[simp] theorem zpS:zcf .fu []=some (.lst []):=rfl
@[simp] theorem zpO (md:Md) (ts:List T):zhp md [.lst ts]=zcf md ts:=rfl
@[simp] theorem zqe (gT:T→SEnv→Option SEnv) (B:SEnv→SRes) (ρ:SEnv):forL gT B [] ρ=.nx ρ:=rfl
theorem zct (gT:T→SEnv→Option SEnv) (B:SEnv→SRes) (t:T) (ts:List T) (ρ:SEnv):forL gT B (t :: ts) ρ=(match gT t ρ with | some ρ1=>(B ρ1).then (forL gT B ts) | none=>.bad):=rfl
theorem ziv {gT:T→SEnv→Option SEnv} {B:SEnv→SRes} (P:Nat→SEnv→Prop):∀ (ts:List T) (ρ:SEnv) (k:Nat),P k ρ →
  (∀ (j:Nat) (t:T) (ρ:SEnv),ts[j]? = some t→P (k + j) ρ→∃ ρ1,gT t ρ=some ρ1∧∃ ρ2,B ρ1=.nx ρ2∧P (k + j + 1) ρ2)→∃ ρ',forL gT B ts ρ=.nx ρ'∧P (k + ts.length) ρ'
 | [],ρ,k,h,_=>⟨ρ,rfl,h⟩
 | t :: ts,ρ,k,h,hs=>by
  obtain⟨ρ1,e1,ρ2,e2,h2⟩:=hs 0 t ρ rfl h
  obtain⟨ρ',e3,h3⟩:=ziv (gT:=gT) (B:=B) P ts ρ2 (k + 1) h2 fun j u ρ q hP=>by
   have:=hs (j + 1) u ρ q (by rw [← Nat.add_assoc,Nat.add_right_comm];exact hP)
   rw [← Nat.add_assoc k j 1,Nat.add_right_comm k j 1] at this
   exact this
  refine ⟨ρ',?_,?_⟩
  ·rw [zct,e1]
   show (B ρ1).then _=_
   rw [e2,SRes.then_nx,e3]
  ·rw [List.length_cons,← Nat.add_assoc,Nat.add_right_comm];exact h3
theorem zcJ {gT:T→SEnv→Option SEnv} {B:SEnv→SRes} (P:Nat→SEnv→Prop) (n:Nat) (ρ:SEnv) (h0:P 0 ρ)
  (hs:∀ (j:Nat) (ρ:SEnv),j < n→P j ρ→∃ ρ1,gT (.sc (.int j)) ρ=some ρ1∧∃ ρ2,B ρ1=.nx ρ2∧P (j + 1) ρ2):∃ ρ',forL gT B (zai (rngZ 0 n)) ρ=.nx ρ'∧P n ρ':=by
 obtain⟨ρ',h1,h2⟩:=ziv P (zai (rngZ 0 n)) ρ 0 h0 fun j t ρ e hP=>by
  rw [← zg0] at e
  obtain⟨hj,rfl⟩:=zia e
  rw [Nat.zero_add] at hP ⊢
  rw [Int.zero_add]
  exact hs j ρ hj hP
 refine ⟨ρ',h1,?_⟩
 simpa using h2
theorem zl4 (i:Nat) (m:Md) (ts:List T) (k:Int) (w:V) (ρ:SEnv):zkT i m ts (.sc (.int k)) (.sc w) ρ=if m=.fu∧0≤k∧k≤ts.length∧ts.length < sizeLine then .nx (ρ.set i (some (.fu,.lst (ts.take k.toNat ++ .sc w :: ts.drop k.toNat)))) else .bad:=rfl
theorem ze4 (k:Nat) (l:List Int):(zai l).take k=zai (l.take k):=by unfold zai;simp
theorem ze5 (k:Nat) (l:List Int):(zai l).drop k=zai (l.drop k):=by unfold zai;simp
@[simp] theorem zoq {i:Nat} {l:List Int} {k w:Int} {ρ:SEnv} (h0:0≤k) (h1:k≤l.length) (h2:l.length < 1000):zkT i .fu (zai l) (.sc (.int k)) (.sc (.int w)) ρ=.nx (ρ.set i (some (.fu,.lst (zai (l.take k.toNat ++ w :: l.drop k.toNat))))):=by
 rw [zl4,if_pos ⟨rfl,h0,by rw [zbs];exact h1,by rw [zbs];exact zf1 h2⟩,zde,zcI,ze4,ze5]
theorem zgf {F:VEnv→Res T} {ρ:VEnv} {gE:T→VEnv→Option VEnv} {f:Int→Int}:∀ (l:List Int),(∀ x∈l,∃ ρ1,gE (.sc (.int x)) ρ=some ρ1∧F ρ1=.ok (.sc (.int (f x))))→mapL gE F ρ (zai l)=.ok (zai (l.map f))
 | [],_=>rfl
 | x :: l,h=>by
  obtain⟨ρ1,e1,e2⟩:=h x (by simp)
  rw [zcI];unfold mapL
  rw [e1,Res.of_some,Res.bind_ok,e2,Res.no_ok,Res.bind_ok,zgf l fun y hy=>h y (by simp [hy])]
  rfl
theorem zcG {α β:Type} {F:VEnv→Res T} {ρ:VEnv} {gE:T→VEnv→Option VEnv} {f:α→β} (ea:α→T) (eb:β→T):∀ (l:List α),(∀ x∈l,∃ ρ1,gE (ea x) ρ=some ρ1∧F ρ1=.ok (eb (f x)))→mapL gE F ρ (l.map ea)=.ok ((l.map f).map eb)
 | [],_=>rfl
 | x :: l,h=>by
  obtain⟨ρ1,e1,e2⟩:=h x (by simp)
  rw [List.map_cons];unfold mapL
  rw [e1,Res.of_some,Res.bind_ok,e2,Res.no_ok,Res.bind_ok,zcG ea eb l fun y hy=>h y (by simp [hy])]
  rfl
@[simp] theorem zor (ρ:VEnv):zbt [] ρ=[]:=rfl
@[simp] theorem znR (ix:List (Option Nat)) (ρ:VEnv):zbt (none :: ix) ρ=none :: zbt ix ρ:=rfl
@[simp] theorem znQ (j:Nat) (ix:List (Option Nat)) (ρ:VEnv):zbt (some j :: ix) ρ=(ρ[j]?).join :: zbt ix ρ:=rfl
@[simp] theorem zqd (ρ:VEnv):zeq (none :: ρ) 0=true:=rfl
noncomputable def at0 (l:List Int) (i:Nat):Int:=l.getD i 0
noncomputable def zaq (b:List (List Int)) (i:Nat):List Int:=b.getD i []
@[simp] theorem zrp {b:List (List Int)} {i:Int} (h0:0≤i) (h1:i < b.length):atI (zaf b) i=some (.lst (zai (zaq b i.toNat))):=by
 have h:i.toNat < b.length:=by lia
 rw [zmk,zeC h0 (List.getElem?_eq_getElem h)]
 simp [zaq,List.getD,h]
@[simp] theorem zrq {l:List Int} {i:Int} (h0:0≤i) (h1:i < l.length):atI (zai l) i=some (.sc (.int (at0 l i.toNat))):=by
 have h:i.toNat < l.length:=by lia
 rw [ziM,zeC h0 (List.getElem?_eq_getElem h)]
 simp [at0,List.getD,h]
noncomputable def cutZ {α:Type} (l:List α) (lo hi:Option Int):List α:=(l.drop (HT.sIx l.length 0 lo)).take (HT.sIx l.length l.length hi - HT.sIx l.length 0 lo)
@[simp] theorem zpN (l:List Int) (lo hi:Option Int):cutT (zai l) lo hi=zai (cutZ l lo hi):=by unfold cutT cutZ;rw [zbs,ze5,ze4]
theorem zi6 (k:Nat) (l:List (List Int)):(zaf l).take k=zaf (l.take k):=by unfold zaf;simp
theorem zi7 (k:Nat) (l:List (List Int)):(zaf l).drop k=zaf (l.drop k):=by unfold zaf;simp
theorem zf7 (a b:List (List Int)):zaf (a ++ b)=zaf a ++ zaf b:=by unfold zaf;simp
@[simp] theorem zpM (l:List (List Int)) (lo hi:Option Int):cutT (zaf l) lo hi=zaf (cutZ l lo hi):=by unfold cutT cutZ;rw [zbp,zi7,zi6]
theorem zdu {F:VEnv→Res T} {ρ:VEnv} {gE:T→VEnv→Option VEnv} (f:Int→List Int) (l:List Int) (h:∀ x∈l,∃ ρ1,gE (.sc (.int x)) ρ=some ρ1∧F ρ1=.ok (.lst (zai (f x)))):mapL gE F ρ (zai l)=.ok (zaf (l.map f)):=
 zcG (fun x=>.sc (.int x)) (fun r=>.lst (zai r)) l h
theorem zdt {F:VEnv→Res T} {ρ:VEnv} {gE:T→VEnv→Option VEnv} (f:List Int→List Int) (l:List (List Int)) (h:∀ x∈l,∃ ρ1,gE (.lst (zai x)) ρ=some ρ1∧F ρ1=.ok (.lst (zai (f x)))):mapL gE F ρ (zaf l)=.ok (zaf (l.map f)):=
 zcG (fun r=>.lst (zai r)) (fun r=>.lst (zai r)) l h
theorem zkF {F:VEnv→Res T} {ρ:VEnv} {gE:T→VEnv→Option VEnv} (f:List Int→Int) (l:List (List Int)) (h:∀ x∈l,∃ ρ1,gE (.lst (zai x)) ρ=some ρ1∧F ρ1=.ok (.sc (.int (f x)))):mapL gE F ρ (zaf l)=.ok (zai (l.map f)):=
 zcG (fun r=>.lst (zai r)) (fun x=>.sc (.int x)) l h
theorem zej {F:VEnv→Res T} {ρ:VEnv} {gE:T→VEnv→Option VEnv} (f:Int→Int) (l:List Int) (h:∀ x∈l,∃ ρ1,gE (.sc (.int x)) ρ=some ρ1∧F ρ1=.ok (.sc (.int (f x)))):mapL gE F ρ (zai l)=.ok (zai (l.map f)):=zgf l h
theorem zbM {n:Nat} {x:Int} (h:x∈rngZ 0 n):0≤x∧x < n:=by
 unfold rngZ at h
 obtain⟨k,hk,rfl⟩:=List.mem_map.mp h
 have:=List.mem_range.mp hk
 lia
structure Sq (n:Nat) (b:List (List Int)):Prop where
 len:b.length=n
 row:∀ r∈b,r.length=n
theorem Sq.get {n:Nat} {b:List (List Int)} (h:Sq n b) {i:Nat} (hi:i < n):(zaq b i).length=n:=by
 have hi':i < b.length:=by rw [h.len];exact hi
 simp [zaq,List.getD,hi']
 exact h.row _ (List.getElem_mem hi')
theorem Sq.map {n:Nat} {l:List Int} {f:Int→List Int} (hl:l.length=n) (hf:∀ x∈l,(f x).length=n):Sq n (l.map f):=⟨by simpa using hl,fun r hr=>by obtain⟨x,hx,rfl⟩:=List.mem_map.mp hr;exact hf x hx⟩
theorem Sq.mapR {n:Nat} {b:List (List Int)} {f:List Int→List Int} (h:Sq n b) (hf:∀ x∈b,(f x).length=n):Sq n (b.map f):=⟨by simpa using h.len,fun r hr=>by obtain⟨x,hx,rfl⟩:=List.mem_map.mp hr;exact hf x hx⟩
@[simp] theorem zp8 {n:Nat} (h:n≤1000):rng1 [.sc (.int (n:Int))]=some (zai (rngZ 0 n)):=by
 rw [zkb ⟨by lia,by lia⟩];simp
theorem zgm (l:List Int) (j:Nat) (x:Int):(zai l).set j (.sc (.int x))=zai (l.set j x):=by unfold zai;rw [List.map_set]
theorem zj6 (b:List (List Int)) (j:Nat) (r:List Int):(zaf b).set j (.lst (zai r))=zaf (b.set j r):=by unfold zaf;rw [List.map_set]
@[simp] theorem zeZ {i:Nat} {l:List Int} {x k:Int} {ρ:SEnv} (h0:0≤k) (h1:k < l.length):zkf i .fu (zai l) (.sc (.int x)) (.sc (.int k)) ρ=.nx (ρ.set i (some (.fu,.lst (zai (l.set k.toNat x))))):=by
 unfold zkf
 have:ixN (zai l).length k=some k.toNat:=by unfold ixN;rw [zbs,if_pos h0,if_pos h1]
 simp only [this]
 rw [if_pos trivial,zgm]
theorem zlF (n:Nat) (a:Int):repT n [.sc (.int a)]=zai (List.replicate n a):=by
 unfold repT zai
 induction n with
 | zero=>rfl
 | succ n ih=>rw [List.replicate_succ,List.flatten_cons,ih,List.replicate_succ];rfl
@[simp] theorem zqb {n:Nat} {a:Int} (h:n≤1000):oRep .fu (.lst [.sc (.int a)]) (.sc (.int (n:Int)))=some (.lst (zai (List.replicate n a))):=by
 unfold oRep
 simp only []
 rw [if_pos ⟨by lia,by lia,by rw [Int.toNat_natCast,List.length_singleton,Nat.one_mul];exact zjQ h⟩,Int.toNat_natCast,zlF,ziO]
theorem zed {i:Nat} {b:List (List Int)} {x k j:Int} {ρ:SEnv} (h0:0≤k) (h1:k < b.length) (h2:0≤j) (h3:j < (zaq b k.toNat).length) :
  ze0 i .fu (zaf b) (.sc (.int x)) (.sc (.int k)) (.sc (.int j)) ρ=.nx (ρ.set i (some (.fu,.lst (zaf (b.set k.toNat ((zaq b k.toNat).set j.toNat x)))))):=by
 unfold ze0
 have hk:k.toNat < b.length:=by lia
 have e1:ixN (zaf b).length k=some k.toNat:=by unfold ixN;rw [zbp,if_pos h0,if_pos h1]
 have e2:(zaf b)[k.toNat]? = some (.lst (zai (zaq b k.toNat))):=by unfold zaf;rw [List.getElem?_map,List.getElem?_eq_getElem hk];simp [zaq,List.getD,hk]
 have e3:ixN (zai (zaq b k.toNat)).length j=some j.toNat:=by unfold ixN;rw [zbs,if_pos h2,if_pos h3]
 simp only [e1,e2,e3]
 rw [if_pos trivial,zgm,zj6]
theorem Sq.put {n:Nat} {b:List (List Int)} (h:Sq n b) {i j:Nat} {x:Int}:Sq n (b.set i ((zaq b i).set j x)):=by
 by_cases hi:i < n
 ·refine ⟨by rw [List.length_set];exact h.len,fun r hr=>?_⟩
  rcases List.mem_or_eq_of_mem_set hr with hr | rfl
  ·exact h.row r hr
  ·rw [List.length_set];exact h.get hi
 ·rw [List.set_eq_of_length_le (by rw [h.len];lia)];exact h
structure Ord (n:Nat) (o:List Int):Prop where
 len:o.length=n
 rng:∀ x∈o,0≤x∧x < n
theorem Ord.get {n:Nat} {o:List Int} (h:Ord n o) {i:Nat} (hi:i < n):0≤at0 o i∧at0 o i < n:=by
 have hi':i < o.length:=by rw [h.len];exact hi
 simp only [at0,List.getD,List.getElem?_eq_getElem hi',Option.getD_some]
 exact h.rng _ (List.getElem_mem hi')
theorem Ord.set {n:Nat} {o:List Int} (h:Ord n o) (i:Nat) {x:Int} (h0:0≤x) (h1:x < n):Ord n (o.set i x):=
 ⟨by rw [List.length_set];exact h.len,fun y hy=>by rcases List.mem_or_eq_of_mem_set hy with hy | rfl;exact h.rng y hy;exact⟨h0,h1⟩⟩
@[simp] theorem zqm {i:Nat} {M:List Bool} {l:List Int} {x:Int} {ρ:SEnv} (h:l.length < 1000):zcy i .fu M .fu (zai l) (.sc (.int x)) ρ=.nx (ρ.set i (some (.fu,.lst (zai (l ++ [x]))))):=by
 unfold zcy
 rw [if_pos (by rw [zbs];exact zf1 h),if_pos ⟨rfl,rfl⟩,zde];rfl
theorem zlm {i:Nat} {M:List Bool} {m:Md} {b:List (List Int)} {r:List Int} {ρ:SEnv} (h:b.length < 1000) (hm:m≠.al) (hM:M[i]?≠some true):zcy i .al M m (zaf b) (.lst (zai r)) ρ=.nx ((zaz M ρ).set i (some (.sp,.lst (zaf (b ++ [r]))))):=by
 unfold zcy
 rw [if_pos (by rw [zbp];exact zf1 h),if_neg (by simp),if_neg (by simp [hm,hM]),zf7];rfl
@[simp] theorem zpJ (l:List Int):zcf .fu (zai l).reverse=some (.lst (zai l.reverse)):=by
 have:(zai l).reverse=zai l.reverse:=by unfold zai;rw [List.map_reverse]
 rw [this,ziO]
@[simp] theorem zku {a b:List (List Int)} (h:a.length + b.length≤1000):oCat .sp (.lst (zaf a)) (.lst (zaf b))=some (.lst (zaf (a ++ b))):=by
 show (if (zaf a).length + (zaf b).length≤sizeLine then zcf .sp (zaf a ++ zaf b) else none)=_
 rw [if_pos (by rw [zbp,zbp];exact zjQ h),← zf7];rfl
@[simp] theorem zp9 (i j:Nat) (v w:V) (ρ:SEnv):zlN i j (.sc v) (.sc w) ρ=if i < ρ.length∧j < ρ.length then .nx ((ρ.set i (some (.fu,.sc v))).set j (some (.fu,.sc w))) else .bad:=rfl
theorem zmc {α:Type} (l:List α) (k:Nat) (h:k≤l.length):cutZ l (some (k:Int)) none=l.drop k:=by
 unfold cutZ;rw [HT.sIx_nat,HT.sIx_none,Nat.min_eq_left h]
 exact List.take_of_length_le (by rw [List.length_drop];lia)
theorem zpL {α:Type} (l:List α) (k:Nat) (h:k≤l.length):cutZ l none (some (k:Int))=l.take k:=by
 unfold cutZ;rw [HT.sIx_nat,HT.sIx_none,Nat.min_eq_left h,Nat.sub_zero,List.drop_zero]
theorem zj7 {b:List (List Int)} {j:Nat} (h:j < b.length):(zaf b)[j]? = some (.lst (zai (zaq b j))):=by
 unfold zaf;rw [List.getElem?_map,List.getElem?_eq_getElem h];simp [zaq,List.getD,h]
theorem ziW {i:Nat} {ρ:SEnv} {b:List (List Int)} {l:Int} {k:Nat→List T→List T→SRes} (e:ρ[i]? = some (some (.fu,.lst (zaf b)))) (h0:0≤l) (h1:l < b.length):ziX i ρ (.sc (.int l)) k=k l.toNat (zaf b) (zai (zaq b l.toNat)):=by
 unfold ziX
 have e1:ixN (zaf b).length l=some l.toNat:=by unfold ixN;rw [zbp,if_pos h0,if_pos h1]
 simp only [e,e1,zj7 (show l.toNat < b.length by lia)]
structure Sml (b:List (List Int)):Prop where
 len:b.length≤13
 row:∀ r∈b,r.length≤13
noncomputable def zbu (l:List Bool):List T:=l.map fun b=>.sc (.bl b)
@[simp] theorem zot (l:List Bool):(zbu l).length=l.length:=by unfold zbu;simp
theorem zdi:∀ l:List Bool,zbR (zbu l)=some l
 | []=>rfl
 | b :: l=>by
  show (asB (.sc (.bl b))).bind (fun i=>(zbR (zbu l)).map (i :: ·))=_
  rw [zdi l];rfl
@[simp] theorem zjt (l:List Bool):cAll [.lst (zbu l)]=some (.sc (.bl (l.all id))):=by
 show (zbR (zbu l)).map _=_
 rw [zdi];rfl
theorem znB {F:VEnv→Res T} {ρ:VEnv} {gE:T→VEnv→Option VEnv} (f:List Int→Bool) (l:List (List Int)) (h:∀ x∈l,∃ ρ1,gE (.lst (zai x)) ρ=some ρ1∧F ρ1=.ok (.sc (.bl (f x)))):mapL gE F ρ (zaf l)=.ok (zbu (l.map f)):=
 zcG (fun r=>.lst (zai r)) (fun x=>.sc (.bl x)) l h
theorem znC {F:VEnv→Res T} {ρ:VEnv} {gE:T→VEnv→Option VEnv} (f:Int→Bool) (l:List Int) (h:∀ x∈l,∃ ρ1,gE (.sc (.int x)) ρ=some ρ1∧F ρ1=.ok (.sc (.bl (f x)))):mapL gE F ρ (zai l)=.ok (zbu (l.map f)):=
 zcG (fun x=>.sc (.int x)) (fun x=>.sc (.bl x)) l h
theorem flat_len {k:Nat}:∀ (b:List (List Int)),(∀ r∈b,r.length≤k)→b.flatten.length≤b.length * k
 | [],_=>by simp
 | r :: b,h=>by
  have h1:=h r (by simp)
  have h2:=flat_len b fun x hx=>h x (by simp [hx])
  rw [List.flatten_cons,List.length_append,List.length_cons,Nat.succ_mul];lia
theorem Sml.flat {b:List (List Int)} (h:Sml b):b.flatten.length≤169:=by
 have h1:=flat_len (k:=13) b h.row
 have h2:=h.len
 have:b.length * 13≤13 * 13:=Nat.mul_le_mul_right 13 h2
 lia
theorem zjq {i:Nat} {M:List Bool} {a b:List Int} {ρ:SEnv} (h:a.length + b.length≤1000):zkW i .al M .fu (zai a) (.lst (zai b)) ρ=.nx (ρ.set i (some (.fu,.lst (zai (a ++ b))))):=by
 unfold zkW
 simp [h,zjQ h,zde]
theorem zgq {L:SEnv→SRes} (hL:L=sExt 1 .al [false,false,true] (eVar 2)) (t0:Option (Md×T)):∀ (b:List (List Int)) (a:List Int) (x:Option (Md×T)),a.length + b.flatten.length≤1000→∃ x',forL (gS 2) L (zaf b) [t0,some (.fu,.lst (zai a)),x]=.nx [t0,some (.fu,.lst (zai (a ++ b.flatten))),x']
 | [],a,x,_=>⟨x,by simp⟩
 | r :: b,a,x,h=>by
  rw [List.flatten_cons,List.length_append] at h
  obtain⟨x',e⟩:=zgq hL t0 b (a ++ r) (some (.al,.lst (zai r))) (by rw [List.length_append];lia)
  refine ⟨x',?_⟩
  rw [zbg,zct]
  subst hL
  have q:=zjq (i:=1) (M:=[false,false,true]) (a:=a) (b:=r) (ρ:=[t0,some (.fu,.lst (zai a)),some (.al,.lst (zai r))]) (by lia)
  simp [q]
  rw [e];simp
end TL
namespace TL
open PySem PySem.Spec L2
noncomputable def sumL:List Int→Int
 | []=>0
 | x :: l=>x + sumL l
noncomputable def sumN (n:Nat) (f:Nat→Int):Int:=sumL ((List.range n).map f)
theorem zh5:∀ a b:List Int,sumL (a ++ b)=sumL a + sumL b
 | [],b=>by simp [sumL]
 | x :: a,b=>by simp [sumL,zh5 a b,Int.add_assoc]
theorem zf3 {a b:List Int} (h:a.Perm b):sumL a=sumL b:=by
 induction h with
 | nil=>rfl
 | cons x _ ih=>simp [sumL,ih]
 | swap x y l=>simp [sumL];lia
 | trans _ _ i1 i2=>rw [i1,i2]
theorem zau {n:Nat} {f g:Nat→Int} (h:∀ k,k < n→f k=g k):sumN n f=sumN n g:=by
 unfold sumN
 congr 1
 exact List.map_congr_left fun k hk=>h k (List.mem_range.mp hk)
theorem zf2 (n:Nat) (f:Nat→Int):sumN (n + 1) f=sumN n f + f n:=by
 unfold sumN
 rw [List.range_succ,List.map_append,zh5]
 simp [sumL]
theorem zjR (f:Nat→Int):sumN 0 f=0:=rfl
theorem zdS (n:Nat) (f:Nat→Int) (c:Int):sumN n (fun k=>c - f k)=n * c - sumN n f:=by
 induction n with
 | zero=>simp [zjR]
 | succ n ih=>rw [zf2,zf2,ih];push_cast;rw [Int.add_mul,Int.one_mul];lia
theorem zh4 (n:Nat) (f:Nat→Int):sumN n (fun k=>f (n - 1 - k))=sumN n f:=by
 unfold sumN
 have:(List.range n).map (fun k=>f (n - 1 - k))=((List.range n).map f).reverse:=by
  refine List.ext_getElem (by simp) fun k h1 h2=>?_
  simp at h1
  rw [List.getElem_reverse]
  simp
 rw [this]
 exact zf3 (List.reverse_perm _)
theorem zji {l:List Int} {n:Nat} (h:l.length=n):l=(List.range n).map (at0 l):=by
 refine List.ext_getElem (by simp [h]) fun k h1 h2=>?_
 simp [at0,List.getD,h1]
theorem zlD (n:Nat) (f:Nat→Int):(rngZ 0 n).map (fun i=>f i.toNat)=(List.range n).map f:=by
 unfold rngZ
 rw [List.map_map]
 refine List.map_congr_left fun k _=>?_
 simp
theorem zc6 {n:Nat} {o:List Int} (h:o.Perm (rngZ 0 n)) (f:Nat→Int):sumN n (fun k=>f (at0 o k).toNat)=sumN n f:=by
 have hl:o.length=n:=by rw [h.length_eq,zbN]
 have e:sumL (o.map fun i=>f i.toNat)=sumN n f:=by
  rw [zf3 (h.map _),zlD];rfl
 rw [← e]
 unfold sumN
 conv=>rhs;rw [zji hl,List.map_map]
 rfl
theorem zds:∀ {r l:List Int},r.Nodup→(∀ v∈r,v∈l)→l.length=r.length→l.Perm r
 | [],l,_,_,h=>by
  rw [List.length_nil] at h
  rw [List.length_eq_zero_iff.mp h]
 | v :: r,l,nd,hs,h=>by
  obtain⟨n1,n2⟩:=List.nodup_cons.mp nd
  have hv:=hs v (by simp)
  have p:=List.perm_cons_erase hv
  refine p.trans (.cons v (zds n2 (fun w hw=>?_) ?_))
  ·exact (List.mem_erase_of_ne (fun q:w=v=>n1 (q ▸ hw))).mpr (hs w (by simp [hw]))
  ·rw [List.length_erase_of_mem hv,h];simp
theorem zeY (a:Int) (n:Nat):(rngZ a n).Nodup:=by
 unfold rngZ
 refine List.Pairwise.map _ (fun x y h=>?_) (List.nodup_range (n:=n))
 lia
theorem zgY (a:Int) (n:Nat):(rngZ a n).Pairwise (·≤·):=by
 unfold rngZ
 refine List.Pairwise.map _ (fun x y h=>?_) (List.pairwise_lt_range (n:=n))
 lia
theorem zb9 {a:Int} {n:Nat} {x:Int}:x∈rngZ a n↔a≤x∧x < a + n:=by
 unfold rngZ
 constructor
 ·intro h
  obtain⟨k,hk,rfl⟩:=List.mem_map.mp h
  have:=List.mem_range.mp hk
  lia
 ·intro h
  exact List.mem_map.mpr ⟨(x - a).toNat,List.mem_range.mpr (by lia),by lia⟩
theorem ziZ {l:List Int} {a:Int} {n:Nat} (hl:l.length=n) (h:∀ v,a≤v→v < a + n→v∈l):zeS l=rngZ a n:=by
 have p:l.Perm (rngZ a n):=zds (zeY a n) (fun v hv=>by have:=zb9.mp hv;exact h v this.1 this.2) (by rw [hl,zbN])
 exact zea ((zcC l).trans p) (zcm l) (zgY a n)
noncomputable def C2 (b:List (List Int)) (R C:Nat):Int:=at0 (zaq b R) C
structure Lk (n:Nat) (s:Int) (b:List (List Int)):Prop where
 sq:Sq n b
 sur:∀ v:Int,1≤v→v < 1 + ((n * n:Nat):Int)→∃ R C,R < n∧C < n∧C2 b R C=v
 row:∀ R,R < n→sumN n (fun C=>C2 b R C)=s
 col:∀ C,C < n→sumN n (fun R=>C2 b R C)=s
 d1:sumN n (fun k=>C2 b k k)=s
 d2:sumN n (fun k=>C2 b k (n - 1 - k))=s
theorem Sq.mem {n:Nat} {b:List (List Int)} (h:Sq n b) {R C:Nat} (hR:R < n) (hC:C < n):C2 b R C∈b.flatten:=by
 have h1:R < b.length:=by rw [h.len];exact hR
 have e:zaq b R=b[R]:=by simp [zaq,List.getD,h1]
 have h2:C < (b[R]).length:=by rw [h.row _ (List.getElem_mem h1)];exact hC
 refine List.mem_flatten.mpr ⟨b[R],List.getElem_mem h1,?_⟩
 unfold C2
 rw [e]
 unfold at0
 simp [List.getD,h2]
theorem Sq.flat_len {n:Nat} {b:List (List Int)} (h:Sq n b):b.flatten.length=n * n:=by
 have:∀ (l:List (List Int)),(∀ r∈l,r.length=n)→l.flatten.length=l.length * n:=by
  intro l
  induction l with
  | nil=>simp
  | cons r l ih =>
   intro hl
   rw [List.flatten_cons,List.length_append,hl r (by simp),ih fun x hx=>hl x (by simp [hx]),List.length_cons,Nat.succ_mul,Nat.add_comm]
 rw [this b h.row,h.len]
theorem Lk.mir {n:Nat} {s:Int} {b b':List (List Int)} (h:Lk n s b) (hq:Sq n b') (e:∀ R C,R < n→C < n→C2 b' R C=C2 b R (n - 1 - C)):Lk n s b':=by
 refine ⟨hq,fun v h1 h2=>?_,fun R hR=>?_,fun C hC=>?_,?_,?_⟩
 ·obtain⟨R,C,hR,hC,q⟩:=h.sur v h1 h2
  exact⟨R,n - 1 - C,hR,by lia,by rw [e R _ hR (by lia),← q];congr 1;lia⟩
 ·rw [zau fun C hC=>e R C hR hC,zh4 n (fun C=>C2 b R C)]
  exact h.row R hR
 ·rw [zau fun R hR=>e R C hR hC]
  exact h.col _ (by lia)
 ·rw [zau fun k hk=>e k k hk hk]
  exact h.d2
 ·rw [zau fun k hk=>e k (n - 1 - k) hk (by lia),← h.d1]
  exact zau fun k hk=>by congr 1;lia
theorem Lk.tra {n:Nat} {s:Int} {b b':List (List Int)} (h:Lk n s b) (hq:Sq n b') (e:∀ R C,R < n→C < n→C2 b' R C=C2 b C R):Lk n s b':=by
 refine ⟨hq,fun v h1 h2=>?_,fun R hR=>?_,fun C hC=>?_,?_,?_⟩
 ·obtain⟨R,C,hR,hC,q⟩:=h.sur v h1 h2
  exact⟨C,R,hC,hR,by rw [e C R hC hR,q]⟩
 ·rw [zau fun C hC=>e R C hR hC];exact h.col R hR
 ·rw [zau fun R hR=>e R C hR hC];exact h.row C hC
 ·rw [zau fun k hk=>e k k hk hk];exact h.d1
 ·rw [zau fun k hk=>e k (n - 1 - k) hk (by lia),← zh4 n,← h.d2]
  exact zau fun k hk=>by congr 1;lia
theorem Lk.dwn {n:Nat} {s:Int} {b b':List (List Int)} (h:Lk n s b) (hq:Sq n b') (e:∀ R C,R < n→C < n→C2 b' R C=((n * n:Nat):Int) + 1 - C2 b R C):Lk n (n * (((n * n:Nat):Int) + 1) - s) b':=by
 refine ⟨hq,fun v h1 h2=>?_,fun R hR=>?_,fun C hC=>?_,?_,?_⟩
 ·obtain⟨R,C,hR,hC,q⟩:=h.sur (((n * n:Nat):Int) + 1 - v) (by lia) (by lia)
  exact⟨R,C,hR,hC,by rw [e R C hR hC,q];lia⟩
 ·rw [zau fun C hC=>e R C hR hC,zdS,h.row R hR]
 ·rw [zau fun R hR=>e R C hR hC,zdS,h.col C hC]
 ·rw [zau fun k hk=>e k k hk hk,zdS,h.d1]
 ·rw [zau fun k hk=>e k (n - 1 - k) hk (by lia),zdS,h.d2]
theorem Lk.pick {n:Nat} {s:Int} {b b':List (List Int)} {o:List Int} (h:Lk n s b) (hp:o.Perm (rngZ 0 n)) (hf:∀ k,k < n→at0 o k + at0 o (n - 1 - k)=(n:Int) - 1) (hq:Sq n b') (e:∀ R C,R < n→C < n→C2 b' R C=C2 b (at0 o R).toNat (at0 o C).toNat):Lk n s b':=by
 have hl:o.length=n:=by rw [hp.length_eq,zbN]
 have rg:∀ k,k < n→0≤at0 o k∧at0 o k < n:=fun k hk=>by
  have:at0 o k∈o:=by unfold at0;simp [List.getD,hl,hk]
  have:=zb9.mp (hp.mem_iff.mp this)
  lia
 have ix:∀ k,k < n→∃ j,j < n∧(at0 o j).toNat=k:=fun k hk=>by
  have:(k:Int)∈o:=hp.mem_iff.mpr (zb9.mpr (by lia))
  obtain⟨j,hj,q⟩:=List.mem_iff_getElem.mp this
  refine ⟨j,by lia,?_⟩
  unfold at0
  simp [List.getD,hj,q]
 refine ⟨hq,fun v h1 h2=>?_,fun R hR=>?_,fun C hC=>?_,?_,?_⟩
 ·obtain⟨R,C,hR,hC,q⟩:=h.sur v h1 h2
  obtain⟨i,hi,ei⟩:=ix R hR
  obtain⟨j,hj,ej⟩:=ix C hC
  exact⟨i,j,hi,hj,by rw [e i j hi hj,ei,ej,q]⟩
 ·have:=rg R hR
  rw [zau fun C hC=>e R C hR hC,zc6 hp (fun C=>C2 b (at0 o R).toNat C)];exact h.row _ (by lia)
 ·have:=rg C hC
  rw [zau fun R hR=>e R C hR hC,zc6 hp (fun R=>C2 b R (at0 o C).toNat)];exact h.col _ (by lia)
 ·rw [zau fun k hk=>e k k hk hk,zc6 hp (fun k=>C2 b k k)];exact h.d1
 ·rw [← h.d2,← zc6 hp (fun k=>C2 b k (n - 1 - k))]
  refine zau fun k hk=>?_
  rw [e k (n - 1 - k) hk (by lia)]
  have:=hf k hk
  have:=rg k hk
  congr 1
  lia
end TL
namespace Qk03
open PySem PySem.Spec L2 TL
open PyProof.Rows hiding St
noncomputable def top (i:Nat):Stmt:=PySem.Challenge.pw_likesums_k03_kin.main.body.getD i (.Pass ⟨0,0,0,0⟩)
noncomputable abbrev zaK:Stmt:=top 6
noncomputable abbrev zb5:Stmt:=top 7
noncomputable abbrev zaQ:Stmt:=top 5
noncomputable abbrev zb6:Stmt:=top 8
noncomputable abbrev zbF:Stmt:=top 9
noncomputable abbrev zb4:Stmt:=top 11
noncomputable abbrev zbf:Stmt:=top 12
noncomputable abbrev zgW:Stmt:=top 13
noncomputable abbrev za8:Stmt:=top 14
noncomputable abbrev zbE:Stmt:=top 16
noncomputable abbrev zgR:Stmt:=top 17
noncomputable abbrev zbd:Stmt:=top 19
noncomputable abbrev zbe:Stmt:=top 20
noncomputable abbrev zbD:Stmt:=top 21
noncomputable abbrev zbC:Stmt:=top 22
noncomputable abbrev zb3:Stmt:=top 23
noncomputable abbrev zcP:Stmt:=top 18
noncomputable abbrev zcQ:Stmt:=top 24
noncomputable abbrev zd9:Stmt:=top 25
noncomputable abbrev zgS:Stmt:=top 26
noncomputable abbrev s_law:Stmt:=top 27
noncomputable def zaL:List Str:=["board", "largest", "size", "row"]
noncomputable def za7 (ρ:SEnv):SRes:=(sIf [false,false,true,true] (eB (eOp (oNe) (eB1 cLen (zah (eVar 3) aNil)) (eVar 2))) (zeX 1 [false,false,false,false] uOk) sNil) ρ
@[simp] noncomputable def zdQ (ρ:SEnv):SRes:=(sFor [true,false,false,false] (iLst (eVar 0)) (gS 3) za7) ρ
@[simp] noncomputable def zdP (ρ:SEnv):SRes:=(sSeq (sIf [false,true,true,false] (bOr (eB (eOp (oI iLt) (eVar 2) (eC (.int 1)))) (eB (eOp (oI iGt) (eVar 2) (eVar 1)))) (zeX 1 [false,true,false,false] (uInt (eVar 1) uOk)) sNil)
 zdQ) ρ
noncomputable def zbn (ρ:SEnv):SRes:=(sSeq (sSet 2 [true,false,false,false] (eB1 cLen (zah (eVar 0) aNil)))
 zdP) ρ
noncomputable def zaU (ts:List T):Res T:=fin .fu (zbn (zaD zaL ts))
noncomputable def zdn:List Str:=["lists", "numbers", "part"]
noncomputable def zfk (ρ:SEnv):SRes:=(sExt 1 .al [false,false,true] (eVar 2)) ρ
@[simp] noncomputable def zjG (ρ:SEnv):SRes:=(sSeq (sFor [true,false,false] (iLst (eVar 0)) (gS 2) zfk)
 (zfx 1)) ρ
noncomputable def ziR (ρ:SEnv):SRes:=(sSeq (sSet 1 [false,false,false] (eLst aNil))
 zjG) ρ
noncomputable def zdZ (ts:List T):Res T:=fin .fu (ziR (zaD zdn ts))
noncomputable def zaS:List Str:=["board"]
@[simp] noncomputable def zeE (ρ:SEnv):SRes:=(sIf [true] (eB (eOp (oNe) (eB1 zeB (zah (za0 1 zdZ (zah (eVar 0) aNil)) aNil)) (eLR rng2 (zah (eC (.int 1)) (zah (eOp (oI iAdd) (eOp (oI iMul) (eB1 cLen (zah (eVar 0) aNil)) (eB1 cLen (zah (eVar 0) aNil))) (eC (.int 1))) aNil))))) (zeX 1 [false] uOk) sNil) ρ
noncomputable def zbB (ρ:SEnv):SRes:=(sSeq (zj5 [true] (za0 2 zaU (zah (eVar 0) (zah (eC (.int 12)) aNil))))
 zeE) ρ
noncomputable def zaC (ts:List T):Res T:=fin .fu (zbB (zaD zaS ts))
noncomputable def zdo:List Str:=["board", "place"]
noncomputable def zdB:VEnv→Res T:=(fun ρ=>chk ((eOp oIx (eVar 0) (eVar 1)) ρ))
noncomputable def ziS (ρ:SEnv):SRes:=(sRet .fu [true,true] (zbc [none,some 1] (iLst (eVar 0)) (gE 0) zdB)) ρ
noncomputable def zd0 (ts:List T):Res T:=fin .fu (ziS (zaD zdo ts))
noncomputable def zcA:List Str:=["board"]
noncomputable def zc2:VEnv→Res T:=(za0 2 zd0 (zah (eVar 1) (zah (eVar 0) aNil)))
noncomputable def zgK (ρ:SEnv):SRes:=(sRet .fu [true] (zbc [none,some 0] (iRng rng1 (zah (eB1 cLen (zah (eVar 0) aNil)) aNil)) (gE 0) zc2)) ρ
noncomputable def zda (ts:List T):Res T:=fin .fu (zgK (zaD zcA ts))
noncomputable def zdm:List Str:=["board"]
noncomputable def zdA:VEnv→Res T:=(eRev .fu (eVar 0))
@[simp] noncomputable def zjF (ρ:SEnv):SRes:=(sRet .fu [true] (zbc [none] (iLst (za0 1 zda (zah (eVar 0) aNil))) (gE 0) zdA)) ρ
noncomputable def ziQ (ρ:SEnv):SRes:=(sSeq (zj5 [true] (za0 1 zaC (zah (eVar 0) aNil)))
 zjF) ρ
noncomputable def zc9 (ts:List T):Res T:=fin .fu (ziQ (zaD zdm ts))
noncomputable def zb1:List Str:=["board"]
noncomputable def zcB:VEnv→Res T:=(eRev .fu (eVar 0))
noncomputable def zfj (ρ:SEnv):SRes:=(sSeq (zj5 [true] (za0 1 zaC (zah (eVar 0) aNil)))
 (sRet .fu [true] (zbc [none] (iLst (eVar 0)) (gE 0) zcB))) ρ
noncomputable def zbV (ts:List T):Res T:=fin .fu (zfj (zaD zb1 ts))
noncomputable def zlv:List Str:=["board", "found", "current", "turn"]
@[simp] noncomputable def zom (ρ:SEnv):SRes:=(sSeq (zgX .al 2 [true,false,false,false] (eVar 0))
 (sSeq (sKin 1 2 3 4 zc9 zbV)
 (zdV 1))) ρ
noncomputable def zpX (ρ:SEnv):SRes:=(sSeq (sSet 1 [false,false,false,false] (eLst aNil))
 zom) ρ
noncomputable def zkG (ts:List T):Res T:=fin .fu (zpX (zaD zlv ts))
noncomputable def zbJ:List Str:=["board"]
noncomputable def zeH (ρ:SEnv):SRes:=(sRet .fu [true] (eHd (za0 1 zkG (zah (eVar 0) aNil)))) ρ
noncomputable def zcb (ts:List T):Res T:=fin .fu (zeH (zaD zbJ ts))
noncomputable def zbZ:List Str:=["script", "k"]
noncomputable def zeG (ρ:SEnv):SRes:=(sSeq (sIf [true,true] (eB (eOp (oI iLt) (eVar 1) (eB1 cLen (zah (eVar 0) aNil)))) (sRet .fu [true,true] (fun ρ=>chk ((eOp oIx (eVar 0) (eVar 1)) ρ))) sNil)
 (sRet .fu [false,false] (eC (.int 0)))) ρ
noncomputable def zbr (ts:List T):Res T:=fin .fu (zeG (zaD zbZ ts))
noncomputable def zls:List Str:=["cell", "k", "many", "some", "stir"]
@[simp] noncomputable def zn6 (ρ:SEnv):SRes:=(sRet .fu [false,true,true,false,true] (eOp (oI iMod) (eOp (oI iDiv) (eOp (oI iMod) (eOp (oI iAdd) (eOp (oI iMul) (eVar 4) (eVar 4)) (eOp (oI iMul) (eC (.int 48271)) (eVar 1))) (eC (.int 1000000007))) (eC (.int 7))) (eVar 2))) ρ
@[simp] noncomputable def zn5 (ρ:SEnv):SRes:=(sSeq (sSet 4 [false,false,false,false,true] (eOp (oI iMod) (eVar 4) (eC (.int 1000000007))))
 zn6) ρ
@[simp] noncomputable def zn4 (ρ:SEnv):SRes:=(sSeq (sSet 4 [true,true,false,true,false] (eOp (oI iAdd) (eOp (oI iAdd) (eOp (oI iMul) (eOp (oI iAdd) (eOp (oI iMod) (eVar 0) (eC (.int 2147483647))) (eC (.int 12345))) (eOp oIx (eVar 3) (eOp (oI iMod) (eVar 1) (eC (.int 13))))) (eOp (oI iMul) (eC (.int 977)) (eVar 1))) (eOp (oI iMul) (eC (.int 7919)) (eOp (oI iDiv) (eVar 1) (eC (.int 13))))))
 zn5) ρ
noncomputable def zpU (ρ:SEnv):SRes:=(sSeq (sSet 3 [false,false,false,false,false] (eLst (zah (eC (.int 48271)) (zah (eC (.int 69621)) (zah (eC (.int 16807)) (zah (eC (.int 39373)) (zah (eC (.int 30269)) (zah (eC (.int 40014)) (zah (eC (.int 40692)) (zah (eC (.int 50021)) (zah (eC (.int 61687)) (zah (eC (.int 71993)) (zah (eC (.int 83869)) (zah (eC (.int 95561)) (zah (eC (.int 30307)) aNil)))))))))))))))
 zn4) ρ
noncomputable def zkB (ts:List T):Res T:=fin .fu (zpU (zaD zls ts))
noncomputable def zbY:List Str:=["cell", "many", "left", "order", "k"]
@[simp] noncomputable def zgG (ρ:SEnv):SRes:=(sSet 2 [false,false,true,false,true] (eOp (oI iDiv) (eVar 2) (eOp (oI iAdd) (eVar 4) (eC (.int 1))))) ρ
@[simp] noncomputable def zgF (ρ:SEnv):SRes:=(sSeq (sIns 3 [false,false,true,false,true] (eOp (oI iMod) (eVar 2) (eOp (oI iAdd) (eVar 4) (eC (.int 1)))) (eVar 4))
 zgG) ρ
@[simp] noncomputable def zgE (ρ:SEnv):SRes:=(sIns 3 [false,false,true,false,true] (za0 3 zkB (zah (eVar 2) (zah (eVar 4) (zah (eOp (oI iAdd) (eVar 4) (eC (.int 1))) aNil)))) (eVar 4)) ρ
noncomputable def zbO (ρ:SEnv):SRes:=(sIf [true,false,false,false,false] (eB (eOp (oEq) (eOp (oI iMod) (eVar 0) (eC (.int 2))) (eC (.int 0)))) zgF zgE) ρ
@[simp] noncomputable def zgD (ρ:SEnv):SRes:=(sSeq (sFor [false,true,false,false,false] (iRng rng1 (zah (eVar 1) aNil)) (gS 4) zbO)
 (zfx 3)) ρ
@[simp] noncomputable def zgC (ρ:SEnv):SRes:=(sSeq (sSet 3 [false,false,false,false,false] (eLst aNil))
 zgD) ρ
noncomputable def zfh (ρ:SEnv):SRes:=(sSeq (sSet 2 [true,false,false,false,false] (eOp (oI iDiv) (eVar 0) (eC (.int 2))))
 zgC) ρ
noncomputable def zbU (ts:List T):Res T:=fin .fu (zfh (zaD zbY ts))
noncomputable def zb0:List Str:=["cell", "size", "numbers"]
noncomputable def zdL:VEnv→Res T:=(eOp (oI iAdd) (eVar 0) (eC (.int 1)))
noncomputable def zdK:VEnv→Res T:=(eSl .fu (eVar 1) (zg8 (eOp (oI iMul) (eVar 0) (eVar 2))) (zg8 (eOp (oI iMul) (eOp (oI iAdd) (eVar 0) (eC (.int 1))) (eVar 2))))
@[simp] noncomputable def zgI (ρ:SEnv):SRes:=(sRet .fu [false,true,true] (zbc [none,some 2,some 1] (iRng rng1 (zah (eVar 1) aNil)) (gE 0) zdK)) ρ
noncomputable def zfi (ρ:SEnv):SRes:=(sSeq (sSet 2 [true,true,false] (zbc [none] (iLst (za0 2 zbU (zah (eVar 0) (zah (eOp (oI iMul) (eVar 1) (eVar 1)) aNil)))) (gE 0) zdL))
 zgI) ρ
noncomputable def zcE (ts:List T):Res T:=fin .fu (zfi (zaD zb0 ts))
noncomputable def zcz:List Str:=["cell", "size", "half", "pairs", "order", "k", "one"]
@[simp] noncomputable def zhJ (ρ:SEnv):SRes:=(sPut 4 [false,true,false,false,false,true,true] (eOp (oI iSub) (eOp (oI iSub) (eVar 1) (eC (.int 1))) (eVar 6)) (eOp (oI iSub) (eOp (oI iSub) (eVar 1) (eC (.int 1))) (eVar 5))) ρ
@[simp] noncomputable def zhI (ρ:SEnv):SRes:=(sSeq (sPut 4 [false,false,false,false,false,true,true] (fun ρ=>chk ((eVar 6) ρ)) (eVar 5))
 zhJ) ρ
@[simp] noncomputable def zhH (ρ:SEnv):SRes:=(sSeq (sIf [true,false,false,false,false,true,false] (eB (eOp (oEq) (za0 3 zkB (zah (eVar 0) (zah (eOp (oI iAdd) (eC (.int 70)) (eVar 5)) (zah (eC (.int 2)) aNil)))) (eC (.int 1)))) (sSet 6 [false,true,false,false,false,false,true] (eOp (oI iSub) (eOp (oI iSub) (eVar 1) (eC (.int 1))) (eVar 6))) sNil)
 zhI) ρ
noncomputable def zci (ρ:SEnv):SRes:=(sSeq (sSet 6 [false,false,false,true,false,true,false] (fun ρ=>chk ((eOp oIx (eVar 3) (eVar 5)) ρ)))
 zhH) ρ
@[simp] noncomputable def zhG (ρ:SEnv):SRes:=(sSeq (sFor [false,false,true,false,false,false,false] (iRng rng1 (zah (eVar 2) aNil)) (gS 5) zci)
 (zfx 4)) ρ
@[simp] noncomputable def zhF (ρ:SEnv):SRes:=(sSeq (sSet 4 [false,true,true,false,false,false,false] (eOp (oRep .fu) (eLst (zah (fun ρ=>chk ((eVar 2) ρ)) aNil)) (eVar 1)))
 zhG) ρ
@[simp] noncomputable def zhE (ρ:SEnv):SRes:=(sSeq (sSet 3 [true,false,true,false,false,false,false] (za0 2 zbU (zah (eVar 0) (zah (eVar 2) aNil))))
 zhF) ρ
noncomputable def zgJ (ρ:SEnv):SRes:=(sSeq (sSet 2 [false,true,false,false,false,false,false] (eOp (oI iDiv) (eVar 1) (eC (.int 2))))
 zhE) ρ
noncomputable def zc8 (ts:List T):Res T:=fin .fu (zgJ (zaD zcz ts))
noncomputable def zdl:List Str:=["script", "base", "size", "board", "r", "row", "c", "order", "cell"]
noncomputable def zcY (ρ:SEnv):SRes:=(sApp 5 .fu [false,false,true,false,true,false,true,false,false] (eOp (oI iAdd) (eOp (oI iAdd) (eOp (oI iMul) (eVar 2) (eOp (oI iMod) (eOp (oI iAdd) (eOp (oI iAdd) (eOp (oI iAdd) (eVar 4) (eVar 6)) (eC (.int 1))) (eOp (oI iDiv) (eVar 2) (eC (.int 2)))) (eVar 2))) (eOp (oI iMod) (eOp (oI iAdd) (eOp (oI iAdd) (eVar 4) (eOp (oI iMul) (eC (.int 2)) (eVar 6))) (eC (.int 1))) (eVar 2))) (eC (.int 1)))) ρ
@[simp] noncomputable def zhD (ρ:SEnv):SRes:=(sApp 3 .al [false,false,false,false,false,true,false,false,false] (eVar 5)) ρ
@[simp] noncomputable def zhC (ρ:SEnv):SRes:=(sSeq (sFor [false,false,true,false,false,false,false,false,false] (iRng rng1 (zah (eVar 2) aNil)) (gS 6) zcY)
 zhD) ρ
noncomputable def zch (ρ:SEnv):SRes:=(sSeq (sSet 5 [false,false,false,false,false,false,false,false,false] (eLst aNil))
 zhC) ρ
@[simp] noncomputable def zhB (ρ:SEnv):SRes:=(sFor [false,false,true,false,false,false,false,false,false] (iRng rng1 (zah (eVar 2) aNil)) (gS 4) zch) ρ
noncomputable def zeP:VEnv→Res T:=(fun ρ=>chk ((eOp oIx (eOp oIx (eVar 1) (eVar 2)) (eVar 0)) ρ))
noncomputable def zeO:VEnv→Res T:=(zbc [none,some 2,some 0] (iLst (eVar 1)) (gE 0) zeP)
noncomputable def zc1:VEnv→Res T:=(eRev .fu (eVar 0))
noncomputable def zeN:VEnv→Res T:=(fun ρ=>chk ((eOp oIx (eOp oIx (eVar 1) (eVar 0)) (eVar 2)) ρ))
noncomputable def zc0:VEnv→Res T:=(zbc [none,some 2,some 0] (iRng rng1 (zah (eVar 1) aNil)) (gE 0) zeN)
@[simp] noncomputable def zhA (ρ:SEnv):SRes:=(sSet 3 [false,false,true,true,false,false,false,false,false] (zbc [none,some 2,some 3] (iRng rng1 (zah (eVar 2) aNil)) (gE 0) zc0)) ρ
noncomputable def zeM:VEnv→Res T:=(eOp (oI iSub) (eOp (oI iAdd) (eOp (oI iMul) (eVar 1) (eVar 1)) (eC (.int 1))) (eVar 0))
noncomputable def zcZ:VEnv→Res T:=(zbc [none,some 1] (iLst (eVar 0)) (gE 0) zeM)
@[simp] noncomputable def zhz (ρ:SEnv):SRes:=(sSet 3 [false,false,true,true,false,false,false,false,false] (zbc [none,some 2] (iLst (eVar 3)) (gE 0) zcZ)) ρ
@[simp] noncomputable def zhy (ρ:SEnv):SRes:=(sSeq (sIf [false,false,false,false,false,false,false,false,true] (eB (eOp (oEq) (eOp (oI iMod) (eOp (oI iDiv) (eVar 8) (eC (.int 4))) (eC (.int 2))) (eC (.int 1)))) zhz sNil)
 (zfx 3)) ρ
@[simp] noncomputable def zhx (ρ:SEnv):SRes:=(sSeq (sIf [false,false,false,false,false,false,false,false,true] (eB (eOp (oEq) (eOp (oI iMod) (eOp (oI iDiv) (eVar 8) (eC (.int 2))) (eC (.int 2))) (eC (.int 1)))) zhA sNil)
 zhy) ρ
@[simp] noncomputable def zhw (ρ:SEnv):SRes:=(sSeq (sIf [false,false,false,false,false,false,false,false,true] (eB (eOp (oEq) (eOp (oI iMod) (eVar 8) (eC (.int 2))) (eC (.int 1)))) (sSet 3 [false,false,false,true,false,false,false,false,false] (zbc [none] (iLst (eVar 3)) (gE 0) zc1)) sNil)
 zhx) ρ
@[simp] noncomputable def zhv (ρ:SEnv):SRes:=(sSeq (sSet 8 [true,true,false,false,false,false,false,false,false] (za0 2 zbr (zah (eVar 0) (zah (eOp (oI iAdd) (eVar 1) (eC (.int 1))) aNil))))
 zhw) ρ
@[simp] noncomputable def zgH (ρ:SEnv):SRes:=(sSeq (sSet 3 [false,false,false,true,false,false,false,true,false] (zbc [none,some 7,some 3] (iLst (eVar 7)) (gE 0) zeO))
 zhv) ρ
@[simp] noncomputable def zdJ (ρ:SEnv):SRes:=(sSeq (sSet 7 [true,true,true,false,false,false,false,false,false] (za0 2 zc8 (zah (za0 2 zbr (zah (eVar 0) (zah (eVar 1) aNil))) (zah (eVar 2) aNil))))
 zgH) ρ
@[simp] noncomputable def zdI (ρ:SEnv):SRes:=(sSeq (sIf [false,false,true,false,false,false,false,false,false] (eB (eOp (oEq) (eOp (oI iMod) (eVar 2) (eC (.int 2))) (eC (.int 1)))) (sSeq (sSet 3 [false,false,false,false,false,false,false,false,false] (eLst aNil))
 zhB) sNil)
 zdJ) ρ
noncomputable def zeF (ρ:SEnv):SRes:=(sSeq (sSet 3 [false,false,false,false,false,false,false,false,false] (eLst (zah (eLst (zah (eC (.int 16)) (zah (eC (.int 2)) (zah (eC (.int 3)) (zah (eC (.int 13)) aNil))))) (zah (eLst (zah (eC (.int 5)) (zah (eC (.int 11)) (zah (eC (.int 10)) (zah (eC (.int 8)) aNil))))) (zah (eLst (zah (eC (.int 9)) (zah (eC (.int 7)) (zah (eC (.int 6)) (zah (eC (.int 12)) aNil))))) (zah (eLst (zah (eC (.int 4)) (zah (eC (.int 14)) (zah (eC (.int 15)) (zah (eC (.int 1)) aNil))))) aNil))))))
 zdI) ρ
noncomputable def zbG (ts:List T):Res T:=fin .fu (zeF (zaD zdl ts))
noncomputable def zd5:List Str:=["script", "base", "cell", "size", "board", "r", "c", "other", "kept"]
@[simp] noncomputable def zjE (ρ:SEnv):SRes:=(sRet .fu [true,true,true,false,false,false,false,false,false] (za0 3 zbG (zah (eVar 0) (zah (eVar 1) (zah (eOp oIx (eLst (zah (eC (.int 1)) (zah (eC (.int 3)) (zah (eC (.int 4)) (zah (eC (.int 5)) (zah (eC (.int 7)) (zah (eC (.int 9)) (zah (eC (.int 11)) aNil)))))))) (eOp (oI iMod) (eOp (oI iDiv) (eVar 2) (eC (.int 3))) (eC (.int 7)))) aNil))))) ρ
@[simp] noncomputable def zjD (ρ:SEnv):SRes:=(sRet .sp [false,false,false,false,true,false,false,false,false] (eOp (oCat .sp) (eSl .sp (eVar 4) (zg8 (eC (.int 1))) zlQ) (eSl .sp (eVar 4) zlQ (zg8 (eC (.int 1)))))) ρ
noncomputable def zfl:VEnv→Res T:=(fun ρ=>chk ((eOp oIx (eVar 0) (eVar 1)) ρ))
noncomputable def zdz:VEnv→Res T:=(zbc [none,some 0] (iLst (eVar 1)) (gE 0) zfl)
@[simp] noncomputable def zjC (ρ:SEnv):SRes:=(sSet 4 [false,false,false,true,true,false,false,false,false] (zbc [none,some 4] (iRng rng1 (zah (eVar 3) aNil)) (gE 0) zdz)) ρ
@[simp] noncomputable def zjB (ρ:SEnv):SRes:=(sIf [false,false,true,false,false,false,false,false,false] (eB (eOp (oEq) (eOp (oI iMod) (eOp (oI iDiv) (eVar 2) (eC (.int 50000))) (eC (.int 2))) (eC (.int 1)))) zjC sNil) ρ
@[simp] noncomputable def zjA (ρ:SEnv):SRes:=(sSeq (zlC 4 [false,false,false,false,false,true,false,true,true] (eVar 8) (eVar 5) (eVar 7))
 zjB) ρ
@[simp] noncomputable def zjz (ρ:SEnv):SRes:=(sSeq (zlC 4 [false,false,false,false,true,true,true,true,false] (eOp oIx (eOp oIx (eVar 4) (eVar 5)) (eVar 7)) (eVar 5) (eVar 6))
 zjA) ρ
@[simp] noncomputable def zjy (ρ:SEnv):SRes:=(sSeq (sSet 8 [false,false,false,false,true,true,true,false,false] (fun ρ=>chk ((eOp oIx (eOp oIx (eVar 4) (eVar 5)) (eVar 6)) ρ)))
 zjz) ρ
@[simp] noncomputable def zjx (ρ:SEnv):SRes:=(sSeq (sSet 7 [false,false,true,true,false,false,false,false,false] (eOp (oI iMod) (eOp (oI iDiv) (eVar 2) (eC (.int 7000))) (eVar 3)))
 zjy) ρ
@[simp] noncomputable def zjw (ρ:SEnv):SRes:=(sSeq (sPar 5 6 [false,false,true,true,false,false,false,false,false] (eOp (oI iMod) (eOp (oI iDiv) (eVar 2) (eC (.int 36))) (eVar 3)) (eOp (oI iMod) (eOp (oI iDiv) (eVar 2) (eC (.int 500))) (eVar 3)))
 zjx) ρ
@[simp] noncomputable def zcW (ρ:SEnv):SRes:=(sSeq (sIf [false,false,true,false,false,false,false,false,false] (eB (eOp (oEq) (eOp (oI iMod) (eOp (oI iDiv) (eVar 2) (eC (.int 36))) (eC (.int 3))) (eC (.int 1)))) zjD sNil)
 zjw) ρ
@[simp] noncomputable def zhN (ρ:SEnv):SRes:=(sSeq (sSet 4 [true,true,false,true,false,false,false,false,false] (za0 3 zbG (zah (eVar 0) (zah (eVar 1) (zah (eVar 3) aNil)))))
 zcW) ρ
@[simp] noncomputable def zcg (ρ:SEnv):SRes:=(sSeq (sIf [false,false,true,true,false,false,false,false,false] (bAnd (eB (eOp (oEq) (eOp (oI iMod) (eVar 2) (eC (.int 3))) (eC (.int 2)))) (eB (eOp (oEq) (eOp (oI iMod) (eVar 3) (eC (.int 2))) (eC (.int 1))))) zhN sNil)
 (zfx 4)) ρ
@[simp] noncomputable def zhM (ρ:SEnv):SRes:=(sSeq (sSet 4 [true,true,false,true,false,false,false,false,false] (za0 2 zcE (zah (za0 2 zbr (zah (eVar 0) (zah (eOp (oI iAdd) (eVar 1) (eC (.int 3))) aNil))) (zah (eVar 3) aNil))))
 zcg) ρ
@[simp] noncomputable def zhL (ρ:SEnv):SRes:=(sSeq (sSet 3 [false,false,true,false,false,false,false,false,false] (eOp (oI iAdd) (eC (.int 1)) (eOp (oI iMod) (eOp (oI iDiv) (eVar 2) (eC (.int 3))) (eC (.int 12)))))
 zhM) ρ
@[simp] noncomputable def zhK (ρ:SEnv):SRes:=(sSeq (sIf [false,false,true,false,false,false,false,false,false] (eB (eOp (oEq) (eOp (oI iMod) (eVar 2) (eC (.int 3))) (eC (.int 0)))) zjE sNil)
 zhL) ρ
noncomputable def zdk (ρ:SEnv):SRes:=(sSeq (sSet 2 [true,true,false,false,false,false,false,false,false] (za0 2 zbr (zah (eVar 0) (zah (eOp (oI iAdd) (eVar 1) (eC (.int 2))) aNil))))
 zhK) ρ
noncomputable def zdY (ts:List T):Res T:=fin .al (zdk (zaD zd5 ts))
noncomputable def zeJ:List Str:=["found"]
noncomputable def zlp (ρ:SEnv):SRes:=(sRet .fu [true] (vAnd (eB1 cIsi (zah (eVar 0) (zah (eC (.ty "int")) aNil))) (vNot (eB1 cIsi (zah (eVar 0) (zah (eC (.ty "bool")) aNil)))))) ρ
noncomputable def zfE (ts:List T):Res T:=fin .fu (zlp (zaD zeJ ts))
noncomputable def zeK:List Str:=["found", "due", "one", "other"]
noncomputable def zeQ:VEnv→Res T:=(za0 1 zfE (zah (eVar 0) aNil))
noncomputable def zdp (ρ:SEnv):SRes:=(sIf [false,false,true,true] (bOr (bNot (eB (eB1 cIsi (zah (eVar 2) (zah (eC (.ty "list")) aNil))))) (bOr (eB (eOp (oNe) (eVar 2) (eVar 3))) (bNot (eB (eB1 cAll (zah (zbc [none] (iLst (eVar 2)) (gE 0) zeQ) aNil)))))) (sRet .fu [false,false,false,false] (eC (.bl false))) sNil) ρ
@[simp] noncomputable def zlo (ρ:SEnv):SRes:=(sSeq (sFor [true,true,false,false] (iZip (eVar 0) (eVar 1)) (gS2 2 3) zdp)
 (sRet .fu [false,false,false,false] (eC (.bl true)))) ρ
noncomputable def zlq (ρ:SEnv):SRes:=(sSeq (sIf [true,true,false,false] (bOr (bNot (eB (eB1 cIsi (zah (eVar 0) (zah (eC (.ty "list")) aNil))))) (eB (eOp (oNe) (eB1 cLen (zah (eVar 0) aNil)) (eB1 cLen (zah (eVar 1) aNil))))) (sRet .fu [false,false,false,false] (eC (.bl false))) sNil)
 zlo) ρ
noncomputable def zei (ts:List T):Res T:=fin .fu (zlq (zaD zeK ts))
noncomputable def zgM:List Str:=["board"]
noncomputable def ziU:VEnv→Res T:=(eB1 (zhp .fu) (zah (eVar 0) aNil))
noncomputable def zmW (ρ:SEnv):SRes:=(sRet .fu [true] (zbc [none] (iLst (eVar 0)) (gE 0) ziU)) ρ
noncomputable def zin (ts:List T):Res T:=fin .fu (zmW (zaD zgM ts))
noncomputable def zlt:List Str:=["board", "size", "found", "way", "made"]
noncomputable def zlx:VEnv→Res T:=(eB1 (zhp .fu) (zah (eVar 0) aNil))
noncomputable def zlw:VEnv→Res T:=(fun ρ=>chk ((eOp oIx (eOp oIx (eVar 1) (eVar 0)) (eVar 2)) ρ))
noncomputable def zhP:VEnv→Res T:=(zbc [none,some 2,some 0] (iRng rng1 (zah (eVar 1) aNil)) (gE 0) zlw)
noncomputable def zhO:VEnv→Res T:=(eRev .fu (eVar 0))
@[simp] noncomputable def zoc (ρ:SEnv):SRes:=(sSeq (sIf [false,false,false,true,false] (eB (eOp (oEq) (eOp (oI iMod) (eVar 3) (eC (.int 2))) (eC (.int 1)))) (sSet 4 [false,false,false,false,true] (zbc [none] (iLst (eVar 4)) (gE 0) zhO)) sNil)
 (sApp 2 .al [false,false,false,false,true] (eVar 4))) ρ
@[simp] noncomputable def zob (ρ:SEnv):SRes:=(sSeq (sIf [false,false,false,true,false] (eB (eOp (oEq) (eOp (oI iMod) (eOp (oI iDiv) (eVar 3) (eC (.int 2))) (eC (.int 2))) (eC (.int 1)))) (zgX .sp 4 [false,false,false,false,true] (eRev .sp (eVar 4))) sNil)
 zoc) ρ
@[simp] noncomputable def zoa (ρ:SEnv):SRes:=(sSeq (sIf [false,false,false,true,false] (eB (eOp (oEq) (eOp (oI iDiv) (eVar 3) (eC (.int 4))) (eC (.int 1)))) (sSet 4 [false,true,false,false,true] (zbc [none,some 1,some 4] (iRng rng1 (zah (eVar 1) aNil)) (gE 0) zhP)) sNil)
 zob) ρ
noncomputable def zbK (ρ:SEnv):SRes:=(sSeq (sSet 4 [true,false,false,false,false] (zbc [none] (iLst (eVar 0)) (gE 0) zlx))
 zoa) ρ
@[simp] noncomputable def zn9 (ρ:SEnv):SRes:=(sRet .sp [false,false,true,false,false] (eB1 zcw (zah (eVar 2) aNil))) ρ
@[simp] noncomputable def zn8 (ρ:SEnv):SRes:=(sSeq (sFor [false,false,false,false,false] (iRng rng1 (zah (eC (.int 8)) aNil)) (gS 3) zbK)
 zn9) ρ
@[simp] noncomputable def zn7 (ρ:SEnv):SRes:=(sSeq (sSet 2 [false,false,false,false,false] (eLst aNil))
 zn8) ρ
noncomputable def zpV (ρ:SEnv):SRes:=(sSeq (sSet 1 [true,false,false,false,false] (eB1 cLen (zah (eVar 0) aNil)))
 zn7) ρ
noncomputable def zlV (ts:List T):Res T:=fin .al (zpV (zaD zlt ts))
noncomputable def zlu:List Str:=["script", "board", "due", "lap", "handed", "found", "first", "one", "row"]
noncomputable def zeR:VEnv→Res T:=(za0 2 zei (zah (eVar 0) (zah (eVar 1) aNil)))
noncomputable def zhQ:VEnv→Res T:=(eOp (oEq) (eB1 cLen (zah (eVar 0) aNil)) (eOp (oI iAdd) (eB1 cLen (zah (eVar 1) aNil)) (eC (.int 1))))
noncomputable def zeL (ρ:SEnv):SRes:=(sIf [false,true,false,false,false,false,false,true,false] (bNot (eB (eB1 cAll (zah (zbc [none,some 1] (iLst (eVar 7)) (gE 0) zhQ) aNil)))) (sRet .fu [false,false,false,false,false,false,false,false,false] (eC (.bl false))) sNil) ρ
@[simp] noncomputable def zol (ρ:SEnv):SRes:=(sIf [false,true,false,false,true,false,false,false,false] (eB (eOp (oNe) (eVar 4) (eVar 1))) (sRet .fu [false,false,false,false,false,false,false,false,false] (eC (.bl false))) sNil) ρ
@[simp] noncomputable def zok (ρ:SEnv):SRes:=(sSeq (sApp 6 .fu [false,false,false,false,false,false,false,false,false] (eLst aNil))
 zol) ρ
@[simp] noncomputable def zoj (ρ:SEnv):SRes:=(sSeq (znc 6 [false,false,false,false,false,false,false,false,false] (eC (.int 0)) (eC (.int 0)))
 zok) ρ
@[simp] noncomputable def zoi (ρ:SEnv):SRes:=(sSeq (sFor [false,false,false,false,false,true,false,false,false] (iLst (eVar 5)) (gS 7) zeL)
 zoj) ρ
@[simp] noncomputable def zoh (ρ:SEnv):SRes:=(sSeq (sIf [false,false,true,false,false,true,true,false,false] (bOr (bNot (eB (za0 2 zei (zah (eVar 6) (zah (eOp oIx (eVar 2) (eC (.int 0))) aNil))))) (bNot (eB (eB1 cAll (zah (zbc [none,none] (iZip (eVar 5) (eVar 2)) (gE2 0 1) zeR) aNil))))) (sRet .fu [false,false,false,false,false,false,false,false,false] (eC (.bl false))) sNil)
 (sSeq (zdW 5 7 8 (.int 0))
 zoi)) ρ
@[simp] noncomputable def zog (ρ:SEnv):SRes:=(sSeq (sIf [false,true,false,false,true,true,false,false,false] (bOr (eB (eOp (oNe) (eVar 4) (eVar 1))) (bOr (bNot (eB (eB1 cIsi (zah (eVar 5) (zah (eC (.ty "list")) aNil))))) (eB (eOp (oNe) (eB1 cLen (zah (eVar 5) aNil)) (eC (.int 8)))))) (sRet .fu [false,false,false,false,false,false,false,false,false] (eC (.bl false))) sNil)
 zoh) ρ
@[simp] noncomputable def zof (ρ:SEnv):SRes:=(sSeq (sSet 6 [false,false,false,false,true,false,false,false,false] (za0 1 zcb (zah (eVar 4) aNil)))
 zog) ρ
@[simp] noncomputable def zoe (ρ:SEnv):SRes:=(sSeq (sSet 5 [false,false,false,false,true,false,false,false,false] (za0 1 zkG (zah (eVar 4) aNil)))
 zof) ρ
noncomputable def zfW (ρ:SEnv):SRes:=(sSeq (sSet 4 [false,true,false,false,false,false,false,false,false] (za0 1 zin (zah (eVar 1) aNil)))
 zoe) ρ
@[simp] noncomputable def zod (ρ:SEnv):SRes:=(sRet .fu [false,false,false,false,false,false,false,false,false] (eC (.bl true))) ρ
@[simp] noncomputable def zfV (ρ:SEnv):SRes:=(sSeq (sFor [false,false,false,false,false,false,false,false,false] (iRng rng1 (zah (eC (.int 2)) aNil)) (gS 3) zfW)
 zod) ρ
@[simp] noncomputable def zmo (ρ:SEnv):SRes:=(sSeq (zgX .al 2 [false,true,false,false,false,false,false,false,false] (za0 1 zlV (zah (eVar 1) aNil)))
 zfV) ρ
noncomputable def zpW (ρ:SEnv):SRes:=(sSeq (zgX .al 1 [true,false,false,false,false,false,false,false,false] (za0 2 zdY (zah (eVar 0) (zah (eC (.int 0)) aNil))))
 zmo) ρ
noncomputable def znD (ts:List T):Res T:=fin .fu (zpW (zaD zlu ts))
theorem nd_0:(["one", "other"]:List Str).Nodup:=zal (by decide +kernel)
theorem nd_1:(["row", "board"]:List Str).Nodup:=zal (by decide +kernel)
theorem nd_2:(["line"]:List Str).Nodup:=zal (by decide +kernel)
theorem nd_3:(["place", "board"]:List Str).Nodup:=zal (by decide +kernel)
theorem nd_4:(["row", "place"]:List Str).Nodup:=zal (by decide +kernel)
theorem nd_5:(["row"]:List Str).Nodup:=zal (by decide +kernel)
theorem nd_6:(["k", "board"]:List Str).Nodup:=zal (by decide +kernel)
theorem nd_7:(["row", "k"]:List Str).Nodup:=zal (by decide +kernel)
theorem nd_8:(["number"]:List Str).Nodup:=zal (by decide +kernel)
theorem nd_9:(["k", "numbers", "size"]:List Str).Nodup:=zal (by decide +kernel)
theorem zq6:(["one", "order", "board"]:List Str).Nodup:=zal (by decide +kernel)
theorem zq5:(["two", "board", "one"]:List Str).Nodup:=zal (by decide +kernel)
theorem zq4:(["r", "size", "board"]:List Str).Nodup:=zal (by decide +kernel)
theorem zq3:(["c", "board", "r"]:List Str).Nodup:=zal (by decide +kernel)
theorem zq2:(["row", "size"]:List Str).Nodup:=zal (by decide +kernel)
theorem zq1:(["number", "size"]:List Str).Nodup:=zal (by decide +kernel)
theorem zq0:(["x"]:List Str).Nodup:=zal (by decide +kernel)
theorem zqZ:(["r", "size", "made"]:List Str).Nodup:=zal (by decide +kernel)
theorem zqY:(["c", "made", "r"]:List Str).Nodup:=zal (by decide +kernel)
set_option genInjectivity false in
set_option genSizeOf false in
structure Adr where
 f_check_square:Addr
 d_check_square:FuncData
 f_joined:Addr
 d_joined:FuncData
 f_check_board:Addr
 d_check_board:FuncData
 f_column:Addr
 d_column:FuncData
 f_columns:Addr
 d_columns:FuncData
 f_turned:Addr
 d_turned:FuncData
 f_mirrored:Addr
 d_mirrored:FuncData
 f_kin:Addr
 d_kin:FuncData
 f_first_kin:Addr
 d_first_kin:FuncData
 fqcell_at:Addr
 dqcell_at:FuncData
 fqmix:Addr
 dqmix:FuncData
 fqorder_by:Addr
 dqorder_by:FuncData
 fqboard_by:Addr
 dqboard_by:FuncData
 fqfair_by:Addr
 dqfair_by:FuncData
 fqlike_by:Addr
 dqlike_by:FuncData
 fqany_by:Addr
 dqany_by:FuncData
 fqwhole:Addr
 dqwhole:FuncData
 fqboard:Addr
 dqboard:FuncData
 fqcopy:Addr
 dqcopy:FuncData
 fqkin:Addr
 dqkin:FuncData
 f_law:Addr
 d_law:FuncData
 C_SumError:Addr
 C_BadBoard:Addr
 tk_LARGEST_SIZE:Nat
noncomputable def Adr.cl (t:Adr):Nat→Addr
 | 0=>t.C_SumError
 | 1=>t.C_BadBoard
 | _=>0
structure Txt (K:PySem.W.Frag) (mg:Str→Option Value) (t:Adr):Prop where
 F_check_square:Fun K "check_square" "check_square" zaK t.f_check_square t.d_check_square
 mg_check_square:mg "check_square" = some (.ref t.f_check_square)
 b_check_square:zbj K t.d_check_square ["board", "largest"] []
 F_joined:Fun K "joined" "joined" zb5 t.f_joined t.d_joined
 mg_joined:mg "joined" = some (.ref t.f_joined)
 b_joined:zbj K t.d_joined ["lists"] []
 F_check_board:Fun K "check_board" "check_board" zaQ t.f_check_board t.d_check_board
 mg_check_board:mg "check_board" = some (.ref t.f_check_board)
 b_check_board:zbj K t.d_check_board ["board"] []
 F_column:Fun K "column" "column" zb6 t.f_column t.d_column
 mg_column:mg "column" = some (.ref t.f_column)
 b_column:zbj K t.d_column ["board", "place"] []
 F_columns:Fun K "columns" "columns" zbF t.f_columns t.d_columns
 mg_columns:mg "columns" = some (.ref t.f_columns)
 b_columns:zbj K t.d_columns ["board"] []
 F_turned:Fun K "turned" "turned" zb4 t.f_turned t.d_turned
 mg_turned:mg "turned" = some (.ref t.f_turned)
 b_turned:zbj K t.d_turned ["board"] []
 F_mirrored:Fun K "mirrored" "mirrored" zbf t.f_mirrored t.d_mirrored
 mg_mirrored:mg "mirrored" = some (.ref t.f_mirrored)
 b_mirrored:zbj K t.d_mirrored ["board"] []
 F_kin:Fun K "kin" "kin" zgW t.f_kin t.d_kin
 mg_kin:mg "kin" = some (.ref t.f_kin)
 b_kin:zbj K t.d_kin ["board"] []
 F_first_kin:Fun K "first_kin" "first_kin" za8 t.f_first_kin t.d_first_kin
 mg_first_kin:mg "first_kin" = some (.ref t.f_first_kin)
 b_first_kin:zbj K t.d_first_kin ["board"] []
 Fqcell_at:Fun K "_law_cell_at" "_law_cell_at" zbE t.fqcell_at t.dqcell_at
 mgqcell_at:mg "_law_cell_at" = some (.ref t.fqcell_at)
 bqcell_at:zbj K t.dqcell_at ["script", "k"] []
 Fqmix:Fun K "_law_mix" "_law_mix" zgR t.fqmix t.dqmix
 mgqmix:mg "_law_mix" = some (.ref t.fqmix)
 bqmix:zbj K t.dqmix ["cell", "k", "many"] []
 Fqorder_by:Fun K "_law_order_by" "_law_order_by" zbd t.fqorder_by t.dqorder_by
 mgqorder_by:mg "_law_order_by" = some (.ref t.fqorder_by)
 bqorder_by:zbj K t.dqorder_by ["cell", "many"] []
 Fqboard_by:Fun K "_law_board_by" "_law_board_by" zbe t.fqboard_by t.dqboard_by
 mgqboard_by:mg "_law_board_by" = some (.ref t.fqboard_by)
 bqboard_by:zbj K t.dqboard_by ["cell", "size"] []
 Fqfair_by:Fun K "_law_fair_by" "_law_fair_by" zbD t.fqfair_by t.dqfair_by
 mgqfair_by:mg "_law_fair_by" = some (.ref t.fqfair_by)
 bqfair_by:zbj K t.dqfair_by ["cell", "size"] []
 Fqlike_by:Fun K "_law_like_by" "_law_like_by" zbC t.fqlike_by t.dqlike_by
 mgqlike_by:mg "_law_like_by" = some (.ref t.fqlike_by)
 bqlike_by:zbj K t.dqlike_by ["script", "base", "size"] []
 Fqany_by:Fun K "_law_any_by" "_law_any_by" zb3 t.fqany_by t.dqany_by
 mgqany_by:mg "_law_any_by" = some (.ref t.fqany_by)
 bqany_by:zbj K t.dqany_by ["script", "base"] []
 Fqwhole:Fun K "_law_whole" "_law_whole" zcP t.fqwhole t.dqwhole
 mgqwhole:mg "_law_whole" = some (.ref t.fqwhole)
 bqwhole:zbj K t.dqwhole ["found"] []
 Fqboard:Fun K "_law_board" "_law_board" zcQ t.fqboard t.dqboard
 mgqboard:mg "_law_board" = some (.ref t.fqboard)
 bqboard:zbj K t.dqboard ["found", "due"] []
 Fqcopy:Fun K "_law_copy" "_law_copy" zd9 t.fqcopy t.dqcopy
 mgqcopy:mg "_law_copy" = some (.ref t.fqcopy)
 bqcopy:zbj K t.dqcopy ["board"] []
 Fqkin:Fun K "_law_kin" "_law_kin" zgS t.fqkin t.dqkin
 mgqkin:mg "_law_kin" = some (.ref t.fqkin)
 bqkin:zbj K t.dqkin ["board"] []
 F_law:Fun K "law" "law" s_law t.f_law t.d_law
 mg_law:mg "law" = some (.ref t.f_law)
 b_law:zbj K t.d_law ["script"] []
 mg_SumError:mg "SumError" = some (.ref t.C_SumError)
 x_SumError:PySem.W.excIn K t.C_SumError bmV "ValueError.__new__" = true
 e_SumError_SumError:PySem.W.exmOne K (.ref t.C_SumError) (.ref t.C_SumError)=some true
 e_BadBoard_SumError:PySem.W.exmOne K (.ref t.C_BadBoard) (.ref t.C_SumError)=some true
 v_SumError:PySem.W.kitCls K (.ref t.C_SumError) (.type "ValueError")=some true
 k_SumError_SumError:PySem.W.kitCls K (.ref t.C_SumError) (.ref t.C_SumError)=some true
 k_BadBoard_SumError:PySem.W.kitCls K (.ref t.C_BadBoard) (.ref t.C_SumError)=some true
 mg_BadBoard:mg "BadBoard" = some (.ref t.C_BadBoard)
 x_BadBoard:PySem.W.excIn K t.C_BadBoard bmV "ValueError.__new__" = true
 e_SumError_BadBoard:PySem.W.exmOne K (.ref t.C_SumError) (.ref t.C_BadBoard)=some false
 e_BadBoard_BadBoard:PySem.W.exmOne K (.ref t.C_BadBoard) (.ref t.C_BadBoard)=some true
 v_BadBoard:PySem.W.kitCls K (.ref t.C_BadBoard) (.type "ValueError")=some true
 k_BadBoard_BadBoard:PySem.W.kitCls K (.ref t.C_BadBoard) (.ref t.C_BadBoard)=some true
 c_LARGEST_SIZE:mg "LARGEST_SIZE" = some (.int 12 t.tk_LARGEST_SIZE)
 n_all:mg "all" = none
 n_bool:mg "bool" = none
 n_int:mg "int" = none
 n_isinstance:mg "isinstance" = none
 n_len:mg "len" = none
 n_list:mg "list" = none
 n_range:mg "range" = none
 n_reversed:mg "reversed" = none
 n_sorted:mg "sorted" = none
 n_zip:mg "zip" = none
seal PSs PS PE PA PT PW PI PG PGs PO PJ OpR IxR UnR zb2 tr tra trb tri tro trs tju TL.st
section
variable {P:Program} {w:World} {K:PySem.W.Frag} {mg:Str→Option Value} {base:Heap} {t:Adr}
theorem zeb:FnScope zaL ["board", "largest"] (defScope zaK):=⟨rfl,rfl,rfl,by decide +kernel,rfl,by decide +kernel,by decide +kernel⟩
theorem zeh:zaL.Nodup:=zal (by decide +kernel)
theorem zeg (T:Txt K mg t):FnOk P w K mg base (CXe P w) 1 t.f_check_square t.d_check_square ["board", "largest"] (spT K t.cl 2 .fu zaU):=
 za4 (N:=zaL) T.F_check_square zeb rfl fun cdv A outer s H E S₀ hd hr=>by
 have hu5:(A.deeper (PyProof.Rows.envOfC "check_square" (defScope zaK) s.heap.objs.size t.f_check_square cdv)).units + 5 < cLine:=by have:=hr.un;lia
 have nd:=zeh
 refine zae ?_ ?_
 ·exact (zaw (i:=2) [true,false,false,false] nd rfl (.inl rfl) (zay (md:=.fu) zdO rfl T.n_len PySem.boot_len (zaa (zab (pv 0)) zaj)))
 refine zae ?_ ?_
 ·refine zbH [false,true,true,false] (zjl (zhh (zaX (o_lt) (zab (pv 2)) (zad (md:=.al)) (zaT _)) (zgh (zaX (o_gt) (zab (pv 2)) (zab (pv 1)) (zaT _))))) ?_ ?_
  ·refine zak ?_
   exact (zfJ (c:=1) [false,true,false,false] rfl zg1 hr.hd rfl T.mg_BadBoard T.x_BadBoard (znM (zmy (zo0 (zab (pv 1)) (zmy zoZ)))))
  ·exact zaH
 refine zak ?_
 refine zcM [true,false,false,false] ownE rfl (zaW (zab (pv 0))) (zas (i:=3) nd rfl (.inl rfl)) (zaZ 3) ?_
 refine zak ?_
 refine zbH [false,false,true,true] (zaX (o_ne hu5) (zay (md:=.al) zdO rfl T.n_len PySem.boot_len (zaa (zab (pv 3)) zaj)) (zab (pv 2)) (zaT _)) ?_ ?_
 ·refine zak ?_
  exact (zfJ (c:=1) [false,false,false,false] rfl zg1 hr.hd rfl T.mg_BadBoard T.x_BadBoard zmK)
 ·exact zaH
theorem zj3:FnScope zdn ["lists"] (defScope zb5):=⟨rfl,rfl,rfl,by decide +kernel,rfl,by decide +kernel,by decide +kernel⟩
theorem zkx:zdn.Nodup:=zal (by decide +kernel)
theorem zkq (T:Txt K mg t):FnOk P w K mg base (CXe P w) 1 t.f_joined t.d_joined ["lists"] (spT K t.cl 1 .fu zdZ):=
 za4 (N:=zdn) T.F_joined zj3 rfl fun cdv A outer s H E S₀ hd hr=>by
 have hu5:(A.deeper (PyProof.Rows.envOfC "joined" (defScope zb5) s.heap.objs.size t.f_joined cdv)).units + 5 < cLine:=by have:=hr.un;lia
 have nd:=zkx
 refine zae ?_ ?_
 ·exact (zaw (i:=1) [false,false,false] nd rfl (.inl rfl) (zbI zaj))
 refine zae ?_ ?_
 ·refine zcM [true,false,false] ownE rfl (zaW (zab (pv 0))) (zas (i:=2) nd rfl (.inl rfl)) (zaZ 2) ?_
  refine zak ?_
  exact (zpu [false,false,true] (pv 1) (zab (pv 2)))
 refine zak ?_
 exact (zeo (pv 1))
theorem zeT:FnScope zaS ["board"] (defScope zaQ):=⟨rfl,rfl,rfl,by decide +kernel,rfl,by decide +kernel,by decide +kernel⟩
theorem zeU:zaS.Nodup:=zal (by decide +kernel)
theorem zcL (T:Txt K mg t):FnOk P w K mg base (CXe P w) 2 t.f_check_board t.d_check_board ["board"] (spT K t.cl 1 .fu zaC):=
 za4 (N:=zaS) T.F_check_board zeT rfl fun cdv A outer s H E S₀ hd hr=>by
 have hu5:(A.deeper (PyProof.Rows.envOfC "check_board" (defScope zaQ) s.heap.objs.size t.f_check_board cdv)).units + 5 < cLine:=by have:=hr.un;lia
 have nd:=zeU
 refine zae ?_ ?_
 ·exact (zhi [true] (zax (zeg T) (hr.mono (by decide)) rfl T.mg_check_square T.F_check_square.kp T.b_check_square zbq (zaa (zab (pv 0)) (zaa (zdG (md:=.al) (znt (v:=.int 12) rfl T.c_LARGEST_SIZE ⟨_,rfl⟩)) zaj))))
 refine zak ?_
 refine zbH [true] (zaX (o_ne hu5) (JE.al (zay zmf rfl T.n_sorted boot_sorted (zaa (JE.al (zax (zkq T) (hr.mono (by decide)) rfl T.mg_joined T.F_joined.kp T.b_joined zbq (zaa (zab (pv 0)) zaj))) zaj))) (JE.al (zfM rfl rfl T.n_list rfl T.n_range (zaa (zad (md:=.al)) (zaa (zap (md:=.al) zby (zap (md:=.al) zdM (zay (md:=.al) zdO rfl T.n_len PySem.boot_len (zaa (zab (pv 0)) zaj)) (zay (md:=.al) zdO rfl T.n_len PySem.boot_len (zaa (zab (pv 0)) zaj))) (zad (md:=.al))) zaj)))) (zaT _)) ?_ ?_
 ·refine zak ?_
  exact (zfJ (c:=1) [false] rfl zg1 hr.hd rfl T.mg_BadBoard T.x_BadBoard zmK)
 ·exact zaH
theorem zj4:FnScope zdo ["board", "place"] (defScope zb6):=⟨rfl,rfl,rfl,by decide +kernel,rfl,by decide +kernel,by decide +kernel⟩
theorem zky:zdo.Nodup:=zal (by decide +kernel)
theorem zkr (T:Txt K mg t):FnOk P w K mg base (CXe P w) 1 t.f_column t.d_column ["board", "place"] (spT K t.cl 2 .fu zd0):=
 za4 (N:=zdo) T.F_column zj4 rfl fun cdv A outer s H E S₀ hd hr=>by
 have hu5:(A.deeper (PyProof.Rows.envOfC "column" (defScope zb6) s.heap.objs.size t.f_column cdv)).units + 5 < cLine:=by have:=hr.un;lia
 have nd:=zky
 refine zak ?_
 exact (za1 [true,true] (zaF zaE (Blk.of rfl) (N':=["row", "place"]) (ix:=[none,some 1]) rfl rfl (zaW (zab (pv 0))) (fun _ _ _ _ _=>zas (i:=0) nd_4 rfl (by first | exact Or.inl rfl | exact Or.inr rfl)) (zaY (i:=0) (by decide)) (fun _ _ _ _ _=>(JE.sc (md1:=.fu) (zcs o_ix (zab (pv 0)) (zab (pv 1)) (fun _ _=>rfl))))))
theorem zi4:FnScope zcA ["board"] (defScope zbF):=⟨rfl,rfl,rfl,by decide +kernel,rfl,by decide +kernel,by decide +kernel⟩
theorem zjg:zcA.Nodup:=zal (by decide +kernel)
theorem zjc (T:Txt K mg t):FnOk P w K mg base (CXe P w) 2 t.f_columns t.d_columns ["board"] (spT K t.cl 1 .fu zda):=
 za4 (N:=zcA) T.F_columns zi4 rfl fun cdv A outer s H E S₀ hd hr=>by
 have hu5:(A.deeper (PyProof.Rows.envOfC "columns" (defScope zbF) s.heap.objs.size t.f_columns cdv)).units + 5 < cLine:=by have:=hr.un;lia
 have nd:=zjg
 refine zak ?_
 exact (za1 [true] (zaF zaE (Blk.of rfl) (N':=["place", "board"]) (ix:=[none,some 0]) rfl rfl (zaP rfl T.n_range (zaa (zay (md:=.al) zdO rfl T.n_len PySem.boot_len (zaa (zab (pv 0)) zaj)) zaj)) (fun _ _ _ _ _=>zas (i:=0) nd_3 rfl (by first | exact Or.inl rfl | exact Or.inr rfl)) (zaY (i:=0) (by decide)) (fun _ _ _ _ _=>(zax (zkr T) (hr.mono (by decide)) rfl T.mg_column T.F_column.kp T.b_column zfB (zaa (zab (pv 1)) (zaa (zab (pv 0)) zaj))))))
theorem zj2:FnScope zdm ["board"] (defScope zb4):=⟨rfl,rfl,rfl,by decide +kernel,rfl,by decide +kernel,by decide +kernel⟩
theorem zkw:zdm.Nodup:=zal (by decide +kernel)
theorem zkp (T:Txt K mg t):FnOk P w K mg base (CXe P w) 3 t.f_turned t.d_turned ["board"] (spT K t.cl 1 .fu zc9):=
 za4 (N:=zdm) T.F_turned zj2 rfl fun cdv A outer s H E S₀ hd hr=>by
 have hu5:(A.deeper (PyProof.Rows.envOfC "turned" (defScope zb4) s.heap.objs.size t.f_turned cdv)).units + 5 < cLine:=by have:=hr.un;lia
 have nd:=zkw
 refine zae ?_ ?_
 ·exact (zhi [true] (zax (zcL T) (hr.mono (by decide)) rfl T.mg_check_board T.F_check_board.kp T.b_check_board zbq (zaa (zab (pv 0)) zaj)))
 refine zak ?_
 exact (za1 [true] (zaF zaE (Blk.of rfl) (N':=["line"]) (ix:=[none]) rfl rfl (zaW (JE.al (zax (zjc T) (hr.mono (by decide)) rfl T.mg_columns T.F_columns.kp T.b_columns zbq (zaa (zab (pv 0)) zaj)))) (fun _ _ _ _ _=>zas (i:=0) nd_2 rfl (by first | exact Or.inl rfl | exact Or.inr rfl)) (zaY (i:=0) (by decide)) (fun _ _ _ _ _=>(ze3 (md:=.fu) rfl rfl T.n_list rfl T.n_reversed (zab (pv 0))))))
theorem zgV:FnScope zb1 ["board"] (defScope zbf):=⟨rfl,rfl,rfl,by decide +kernel,rfl,by decide +kernel,by decide +kernel⟩
theorem zhb:zb1.Nodup:=zal (by decide +kernel)
theorem zg6 (T:Txt K mg t):FnOk P w K mg base (CXe P w) 3 t.f_mirrored t.d_mirrored ["board"] (spT K t.cl 1 .fu zbV):=
 za4 (N:=zb1) T.F_mirrored zgV rfl fun cdv A outer s H E S₀ hd hr=>by
 have hu5:(A.deeper (PyProof.Rows.envOfC "mirrored" (defScope zbf) s.heap.objs.size t.f_mirrored cdv)).units + 5 < cLine:=by have:=hr.un;lia
 have nd:=zhb
 refine zae ?_ ?_
 ·exact (zhi [true] (zax (zcL T) (hr.mono (by decide)) rfl T.mg_check_board T.F_check_board.kp T.b_check_board zbq (zaa (zab (pv 0)) zaj)))
 refine zak ?_
 exact (za1 [true] (zaF zaE (Blk.of rfl) (N':=["row"]) (ix:=[none]) rfl rfl (zaW (zab (pv 0))) (fun _ _ _ _ _=>zas (i:=0) nd_5 rfl (by first | exact Or.inl rfl | exact Or.inr rfl)) (zaY (i:=0) (by decide)) (fun _ _ _ _ _=>(ze3 (md:=.fu) rfl rfl T.n_list rfl T.n_reversed (zab (pv 0))))))
theorem zoJ:FnScope zlv ["board"] (defScope zgW):=⟨rfl,rfl,rfl,by decide +kernel,rfl,by decide +kernel,by decide +kernel⟩
theorem zph:zlv.Nodup:=zal (by decide +kernel)
theorem zmC (T:Txt K mg t):FnOk P w K mg base (CXe P w) 4 t.f_kin t.d_kin ["board"] (spT K t.cl 1 .fu zkG):=
 za4 (N:=zlv) T.F_kin zoJ rfl fun cdv A outer s H E S₀ hd hr=>by
 have hu5:(A.deeper (PyProof.Rows.envOfC "kin" (defScope zgW) s.heap.objs.size t.f_kin cdv)).units + 5 < cLine:=by have:=hr.un;lia
 have nd:=zph
 refine zae ?_ ?_
 ·exact (zaw (i:=1) [false,false,false,false] nd rfl (.inl rfl) (zbI zaj))
 refine zae ?_ ?_
 ·exact (zfI (i:=2) [true,false,false,false] nd rfl (.inl rfl) (zab (pv 0)))
 refine zae ?_ ?_
 ·refine zpt (f:=1) (c:=2) (q:=3) (k:=4) ownE rfl nd rfl (.inl rfl) (.inr rfl) rfl (.inl rfl) (.inr rfl) ?_ ?_ ?_ (pv 1) (pv 1) (pv 2)
  ·exact (zga rfl T.n_range (za2 zgc zbT))
  ·exact (zax (zkp T) (hr.mono (by decide)) rfl T.mg_turned T.F_turned.kp T.b_turned zbq (zaa (zab (pv 2)) zaj))
  ·exact (zax (zg6 T) (hr.mono (by decide)) rfl T.mg_mirrored T.F_mirrored.kp T.b_mirrored zbq (zaa (zab (pv 2)) zaj))
 refine zak ?_
 exact (zjm hu5 rfl T.n_sorted (pv 1))
theorem zf6:FnScope zbJ ["board"] (defScope za8):=⟨rfl,rfl,rfl,by decide +kernel,rfl,by decide +kernel,by decide +kernel⟩
theorem zge:zbJ.Nodup:=zal (by decide +kernel)
theorem zgd (T:Txt K mg t):FnOk P w K mg base (CXe P w) 5 t.f_first_kin t.d_first_kin ["board"] (spT K t.cl 1 .fu zcb):=
 za4 (N:=zbJ) T.F_first_kin zf6 rfl fun cdv A outer s H E S₀ hd hr=>by
 have hu5:(A.deeper (PyProof.Rows.envOfC "first_kin" (defScope za8) s.heap.objs.size t.f_first_kin cdv)).units + 5 < cLine:=by have:=hr.un;lia
 have nd:=zge
 refine zak ?_
 exact (za1 [true] (zq9 (zax (zmC T) (hr.mono (by decide)) rfl T.mg_kin T.F_kin.kp T.b_kin zbq (zaa (zab (pv 0)) zaj)) zgc (fun _ _=>rfl)))
theorem zi3:FnScope zbZ ["script", "k"] (defScope zbE):=⟨rfl,rfl,rfl,by decide +kernel,rfl,by decide +kernel,by decide +kernel⟩
theorem zjf:zbZ.Nodup:=zal (by decide +kernel)
theorem zcD (T:Txt K mg t):FnOk P w K mg base (CXe P w) 1 t.fqcell_at t.dqcell_at ["script", "k"] (spT K t.cl 2 .fu zbr):=
 za4 (N:=zbZ) T.Fqcell_at zi3 rfl fun cdv A outer s H E S₀ hd hr=>by
 have hu5:(A.deeper (PyProof.Rows.envOfC "_law_cell_at" (defScope zbE) s.heap.objs.size t.fqcell_at cdv)).units + 5 < cLine:=by have:=hr.un;lia
 have nd:=zjf
 refine zae ?_ ?_
 ·refine zbH [true,true] (zaX (o_lt) (zab (pv 1)) (zay (md:=.al) zdO rfl T.n_len PySem.boot_len (zaa (zab (pv 0)) zaj)) (zaT _)) ?_ ?_
  ·refine zak ?_
   exact (za1 [true,true] (JE.sc (md1:=.fu) (zcs o_ix (zab (pv 0)) (zab (pv 1)) (fun _ _=>rfl))))
  ·exact zaH
 refine zak ?_
 exact (za1 [false,false] (zad (md:=.fu)))
theorem zoG:FnScope zls ["cell", "k", "many"] (defScope zgR):=⟨rfl,rfl,rfl,by decide +kernel,rfl,by decide +kernel,by decide +kernel⟩
theorem zpe:zls.Nodup:=zal (by decide +kernel)
theorem zmB (T:Txt K mg t):FnOk P w K mg base (CXe P w) 1 t.fqmix t.dqmix ["cell", "k", "many"] (spT K t.cl 3 .fu zkB):=
 za4 (N:=zls) T.Fqmix zoG rfl fun cdv A outer s H E S₀ hd hr=>by
 have hu5:(A.deeper (PyProof.Rows.envOfC "_law_mix" (defScope zgR) s.heap.objs.size t.fqmix cdv)).units + 5 < cLine:=by have:=hr.un;lia
 have nd:=zpe
 refine zae ?_ ?_
 ·exact (zaw (i:=3) [false,false,false,false,false] nd rfl (.inl rfl) (zbI (by refine zaa (zad (md:=.fu)) ?_;refine zaa (zad (md:=.fu)) ?_;refine zaa (zad (md:=.fu)) ?_;refine zaa (zad (md:=.fu)) ?_;refine zaa (zad (md:=.fu)) ?_;refine zaa (zad (md:=.fu)) ?_;refine zaa (zad (md:=.fu)) ?_;refine zaa (zad (md:=.fu)) ?_;refine zaa (zad (md:=.fu)) ?_;refine zaa (zad (md:=.fu)) ?_;refine zaa (zad (md:=.fu)) ?_;refine zaa (zad (md:=.fu)) ?_;refine zaa (zad (md:=.fu)) ?_;exact zaj)))
 refine zae ?_ ?_
 ·exact (zaw (i:=4) [true,true,false,true,false] nd rfl (.inl rfl) (zap (md:=.fu) zby (zap (md:=.al) zby (zap (md:=.al) zdM (zap (md:=.al) zby (zap (md:=.al) zbv (zab (pv 0)) (zad (md:=.al))) (zad (md:=.al))) (zcs o_ix (zab (pv 3)) (zap (md:=.al) zbv (zab (pv 1)) (zad (md:=.al))) (fun _ _=>rfl))) (zap (md:=.al) zdM (zad (md:=.al)) (zab (pv 1)))) (zap (md:=.al) zdM (zad (md:=.al)) (zap (md:=.al) zcp (zab (pv 1)) (zad (md:=.al))))))
 refine zae ?_ ?_
 ·exact (zaw (i:=4) [false,false,false,false,true] nd rfl (.inl rfl) (zap (md:=.fu) zbv (zab (pv 4)) (zad (md:=.al))))
 refine zak ?_
 exact (za1 [false,true,true,false,true] (zap (md:=.fu) zbv (zap (md:=.al) zcp (zap (md:=.al) zbv (zap (md:=.al) zby (zap (md:=.al) zdM (zab (pv 4)) (zab (pv 4))) (zap (md:=.al) zdM (zad (md:=.al)) (zab (pv 1)))) (zad (md:=.al))) (zad (md:=.al))) (zab (pv 2))))
theorem zgT:FnScope zbY ["cell", "many"] (defScope zbd):=⟨rfl,rfl,rfl,by decide +kernel,rfl,by decide +kernel,by decide +kernel⟩
theorem zg9:zbY.Nodup:=zal (by decide +kernel)
theorem zef (T:Txt K mg t):FnOk P w K mg base (CXe P w) 2 t.fqorder_by t.dqorder_by ["cell", "many"] (spT K t.cl 2 .fu zbU):=
 za4 (N:=zbY) T.Fqorder_by zgT rfl fun cdv A outer s H E S₀ hd hr=>by
 have hu5:(A.deeper (PyProof.Rows.envOfC "_law_order_by" (defScope zbd) s.heap.objs.size t.fqorder_by cdv)).units + 5 < cLine:=by have:=hr.un;lia
 have nd:=zg9
 refine zae ?_ ?_
 ·exact (zaw (i:=2) [true,false,false,false,false] nd rfl (.inl rfl) (zap (md:=.fu) zcp (zab (pv 0)) (zad (md:=.al))))
 refine zae ?_ ?_
 ·exact (zaw (i:=3) [false,false,false,false,false] nd rfl (.inl rfl) (zbI zaj))
 refine zae ?_ ?_
 ·refine zcM [false,true,false,false,false] ownE rfl (zaP rfl T.n_range (zaa (zab (pv 1)) zaj)) (zas (i:=4) nd rfl (.inl rfl)) (zaZ 4) ?_
  refine zak ?_
  refine zbH [true,false,false,false,false] (zaX (o_eq hu5) (zap (md:=.al) zbv (zab (pv 0)) (zad (md:=.al))) (zad (md:=.al)) (zaT _)) ?_ ?_
  ·refine zae ?_ ?_
   ·exact (zmM [false,false,true,false,true] (pv 3) (zap (md:=.al) zbv (zab (pv 2)) (zap (md:=.al) zby (zab (pv 4)) (zad (md:=.al)))) (zab (pv 4)))
   refine zak ?_
   exact (zaw (i:=2) [false,false,true,false,true] nd rfl (.inl rfl) (zap (md:=.fu) zcp (zab (pv 2)) (zap (md:=.al) zby (zab (pv 4)) (zad (md:=.al)))))
  ·refine zak ?_
   exact (zmM [false,false,true,false,true] (pv 3) (JE.al (zax (zmB T) (hr.mono (by decide)) rfl T.mgqmix T.Fqmix.kp T.bqmix zbq (by refine zaa (zab (pv 2)) ?_;refine zaa (zab (pv 4)) ?_;refine zaa (zap (md:=.al) zby (zab (pv 4)) (zad (md:=.al))) ?_;exact zaj))) (zab (pv 4)))
 refine zak ?_
 exact (zeo (pv 3))
theorem zgU:FnScope zb0 ["cell", "size"] (defScope zbe):=⟨rfl,rfl,rfl,by decide +kernel,rfl,by decide +kernel,by decide +kernel⟩
theorem zha:zb0.Nodup:=zal (by decide +kernel)
theorem zg5 (T:Txt K mg t):FnOk P w K mg base (CXe P w) 3 t.fqboard_by t.dqboard_by ["cell", "size"] (spT K t.cl 2 .fu zcE):=
 za4 (N:=zb0) T.Fqboard_by zgU rfl fun cdv A outer s H E S₀ hd hr=>by
 have hu5:(A.deeper (PyProof.Rows.envOfC "_law_board_by" (defScope zbe) s.heap.objs.size t.fqboard_by cdv)).units + 5 < cLine:=by have:=hr.un;lia
 have nd:=zha
 refine zae ?_ ?_
 ·exact (zaw (i:=2) [true,true,false] nd rfl (.inr rfl) (zaF zaE (Blk.of rfl) (N':=["number"]) (ix:=[none]) rfl rfl (zaW (JE.al (zax (zef T) (hr.mono (by decide)) rfl T.mgqorder_by T.Fqorder_by.kp T.bqorder_by zbq (zaa (zab (pv 0)) (zaa (zap (md:=.al) zdM (zab (pv 1)) (zab (pv 1))) zaj))))) (fun _ _ _ _ _=>zas (i:=0) nd_8 rfl (by first | exact Or.inl rfl | exact Or.inr rfl)) (zaY (i:=0) (by decide)) (fun _ _ _ _ _=>(zap (md:=.fu) zby (zab (pv 0)) (zad (md:=.al))))))
 refine zak ?_
 exact (za1 [false,true,true] (zaF zaE (Blk.of rfl) (N':=["k", "numbers", "size"]) (ix:=[none,some 2,some 1]) rfl rfl (zaP rfl T.n_range (zaa (zab (pv 1)) zaj)) (fun _ _ _ _ _=>zas (i:=0) nd_9 rfl (by first | exact Or.inl rfl | exact Or.inr rfl)) (zaY (i:=0) (by decide)) (fun _ _ _ _ _=>(zfL (md:=.fu) (zab (pv 1)) (zfK (zap (md:=.al) zdM (zab (pv 0)) (zab (pv 2)))) (zfK (zap (md:=.al) zdM (zap (md:=.al) zby (zab (pv 0)) (zad (md:=.al))) (zab (pv 2))))))))
theorem zi2:FnScope zcz ["cell", "size"] (defScope zbD):=⟨rfl,rfl,rfl,by decide +kernel,rfl,by decide +kernel,by decide +kernel⟩
theorem zje:zcz.Nodup:=zal (by decide +kernel)
theorem zjb (T:Txt K mg t):FnOk P w K mg base (CXe P w) 3 t.fqfair_by t.dqfair_by ["cell", "size"] (spT K t.cl 2 .fu zc8):=
 za4 (N:=zcz) T.Fqfair_by zi2 rfl fun cdv A outer s H E S₀ hd hr=>by
 have hu5:(A.deeper (PyProof.Rows.envOfC "_law_fair_by" (defScope zbD) s.heap.objs.size t.fqfair_by cdv)).units + 5 < cLine:=by have:=hr.un;lia
 have nd:=zje
 refine zae ?_ ?_
 ·exact (zaw (i:=2) [false,true,false,false,false,false,false] nd rfl (.inl rfl) (zap (md:=.fu) zcp (zab (pv 1)) (zad (md:=.al))))
 refine zae ?_ ?_
 ·exact (zaw (i:=3) [true,false,true,false,false,false,false] nd rfl (.inl rfl) (zax (zef T) (hr.mono (by decide)) rfl T.mgqorder_by T.Fqorder_by.kp T.bqorder_by zbq (zaa (zab (pv 0)) (zaa (zab (pv 2)) zaj))))
 refine zae ?_ ?_
 ·exact (zaw (i:=4) [false,true,true,false,false,false,false] nd rfl (.inl rfl) (zap (zqR (md:=.fu)) (JE.al (zbI (zaa (JE.sc (md1:=.fu) (zab (pv 2))) zaj))) (zab (pv 1))))
 refine zae ?_ ?_
 ·refine zcM [false,false,true,false,false,false,false] ownE rfl (zaP rfl T.n_range (zaa (zab (pv 2)) zaj)) (zas (i:=5) nd rfl (.inl rfl)) (zaZ 5) ?_
  refine zae ?_ ?_
  ·exact (zaw (i:=6) [false,false,false,true,false,true,false] nd rfl (.inl rfl) (JE.sc (md1:=.fu) (zcs o_ix (zab (pv 3)) (zab (pv 5)) (fun _ _=>rfl))))
  refine zae ?_ ?_
  ·refine zbH [true,false,false,false,false,true,false] (zaX (o_eq hu5) (JE.al (zax (zmB T) (hr.mono (by decide)) rfl T.mgqmix T.Fqmix.kp T.bqmix zbq (by refine zaa (zab (pv 0)) ?_;refine zaa (zap (md:=.al) zby (zad (md:=.al)) (zab (pv 5))) ?_;refine zaa (zad (md:=.al)) ?_;exact zaj))) (zad (md:=.al)) (zaT _)) ?_ ?_
   ·refine zak ?_
    exact (zaw (i:=6) [false,true,false,false,false,false,true] nd rfl (.inl rfl) (zap (md:=.fu) zg7 (zap (md:=.al) zg7 (zab (pv 1)) (zad (md:=.al))) (zab (pv 6))))
   ·exact zaH
  refine zae ?_ ?_
  ·exact (zmL [false,false,false,false,false,true,true] (pv 4) (JE.sc (md1:=.fu) (zab (pv 6))) (zab (pv 5)))
  refine zak ?_
  exact (zmL [false,true,false,false,false,true,true] (pv 4) (zap (md:=.fu) zg7 (zap (md:=.al) zg7 (zab (pv 1)) (zad (md:=.al))) (zab (pv 6))) (zap (md:=.al) zg7 (zap (md:=.al) zg7 (zab (pv 1)) (zad (md:=.al))) (zab (pv 5))))
 refine zak ?_
 exact (zeo (pv 4))
theorem zi1:FnScope zdl ["script", "base", "size"] (defScope zbC):=⟨rfl,rfl,rfl,by decide +kernel,rfl,by decide +kernel,by decide +kernel⟩
theorem zjd:zdl.Nodup:=zal (by decide +kernel)
theorem ze1 (T:Txt K mg t):FnOk P w K mg base (CXe P w) 4 t.fqlike_by t.dqlike_by ["script", "base", "size"] (spT K t.cl 3 .fu zbG):=
 za4 (N:=zdl) T.Fqlike_by zi1 rfl fun cdv A outer s H E S₀ hd hr=>by
 have hu5:(A.deeper (PyProof.Rows.envOfC "_law_like_by" (defScope zbC) s.heap.objs.size t.fqlike_by cdv)).units + 5 < cLine:=by have:=hr.un;lia
 have nd:=zjd
 refine zae ?_ ?_
 ·exact (zaw (i:=3) [false,false,false,false,false,false,false,false,false] nd rfl (.inr rfl) (zbI (by refine zaa (zbI (by refine zaa (zad (md:=.fu)) ?_;refine zaa (zad (md:=.fu)) ?_;refine zaa (zad (md:=.fu)) ?_;refine zaa (zad (md:=.fu)) ?_;exact zaj)) ?_;refine zaa (zbI (by refine zaa (zad (md:=.fu)) ?_;refine zaa (zad (md:=.fu)) ?_;refine zaa (zad (md:=.fu)) ?_;refine zaa (zad (md:=.fu)) ?_;exact zaj)) ?_;refine zaa (zbI (by refine zaa (zad (md:=.fu)) ?_;refine zaa (zad (md:=.fu)) ?_;refine zaa (zad (md:=.fu)) ?_;refine zaa (zad (md:=.fu)) ?_;exact zaj)) ?_;refine zaa (zbI (by refine zaa (zad (md:=.fu)) ?_;refine zaa (zad (md:=.fu)) ?_;refine zaa (zad (md:=.fu)) ?_;refine zaa (zad (md:=.fu)) ?_;exact zaj)) ?_;exact zaj)))
 refine zae ?_ ?_
 ·refine zbH [false,false,true,false,false,false,false,false,false] (zaX (o_eq hu5) (zap (md:=.al) zbv (zab (pv 2)) (zad (md:=.al))) (zad (md:=.al)) (zaT _)) ?_ ?_
  ·refine zae ?_ ?_
   ·exact (zaw (i:=3) [false,false,false,false,false,false,false,false,false] nd rfl (.inr rfl) (zbI zaj))
   refine zak ?_
   refine zcM [false,false,true,false,false,false,false,false,false] ownE rfl (zaP rfl T.n_range (zaa (zab (pv 2)) zaj)) (zas (i:=4) nd rfl (.inl rfl)) (zaZ 4) ?_
   refine zae ?_ ?_
   ·exact (zaw (i:=5) [false,false,false,false,false,false,false,false,false] nd rfl (.inl rfl) (zbI zaj))
   refine zae ?_ ?_
   ·refine zcM [false,false,true,false,false,false,false,false,false] ownE rfl (zaP rfl T.n_range (zaa (zab (pv 2)) zaj)) (zas (i:=6) nd rfl (.inl rfl)) (zaZ 6) ?_
    refine zak ?_
    exact (zis [false,false,true,false,true,false,true,false,false] (pv 5) (zap (md:=.fu) zby (zap (md:=.al) zby (zap (md:=.al) zdM (zab (pv 2)) (zap (md:=.al) zbv (zap (md:=.al) zby (zap (md:=.al) zby (zap (md:=.al) zby (zab (pv 4)) (zab (pv 6))) (zad (md:=.al))) (zap (md:=.al) zcp (zab (pv 2)) (zad (md:=.al)))) (zab (pv 2)))) (zap (md:=.al) zbv (zap (md:=.al) zby (zap (md:=.al) zby (zab (pv 4)) (zap (md:=.al) zdM (zad (md:=.al)) (zab (pv 6)))) (zad (md:=.al))) (zab (pv 2)))) (zad (md:=.al))))
   refine zak ?_
   exact (zis [false,false,false,false,false,true,false,false,false] (pv 3) (zab (pv 5)))
  ·exact zaH
 refine zae ?_ ?_
 ·exact (zaw (i:=7) [true,true,true,false,false,false,false,false,false] nd rfl (.inr rfl) (zax (zjb T) (hr.mono (by decide)) rfl T.mgqfair_by T.Fqfair_by.kp T.bqfair_by zbq (zaa (JE.al (zax (zcD T) (hr.mono (by decide)) rfl T.mgqcell_at T.Fqcell_at.kp T.bqcell_at zbq (zaa (zab (pv 0)) (zaa (zab (pv 1)) zaj)))) (zaa (zab (pv 2)) zaj))))
 refine zae ?_ ?_
 ·exact (zaw (i:=3) [false,false,false,true,false,false,false,true,false] nd rfl (.inr rfl) (zaF zaE (Blk.of rfl) (N':=["one", "order", "board"]) (ix:=[none,some 7,some 3]) rfl rfl (zaW (zab (pv 7))) (fun _ _ _ _ _=>zas (i:=0) zq6 rfl (by first | exact Or.inl rfl | exact Or.inr rfl)) (zaY (i:=0) (by decide)) (fun _ _ _ _ _=>(zaF zaE (Blk.of rfl) (N':=["two", "board", "one"]) (ix:=[none,some 2,some 0]) rfl rfl (zaW (zab (pv 1))) (fun _ _ _ _ _=>zas (i:=0) zq5 rfl (by first | exact Or.inl rfl | exact Or.inr rfl)) (zaY (i:=0) (by decide)) (fun _ _ _ _ _=>(JE.sc (md1:=.fu) (zcs o_ix (zcs o_ix (zab (pv 1)) (zab (pv 2)) (fun _ _=>rfl)) (zab (pv 0)) (fun _ _=>rfl))))))))
 refine zae ?_ ?_
 ·exact (zaw (i:=8) [true,true,false,false,false,false,false,false,false] nd rfl (.inl rfl) (zax (zcD T) (hr.mono (by decide)) rfl T.mgqcell_at T.Fqcell_at.kp T.bqcell_at zbq (zaa (zab (pv 0)) (zaa (zap (md:=.al) zby (zab (pv 1)) (zad (md:=.al))) zaj))))
 refine zae ?_ ?_
 ·refine zbH [false,false,false,false,false,false,false,false,true] (zaX (o_eq hu5) (zap (md:=.al) zbv (zab (pv 8)) (zad (md:=.al))) (zad (md:=.al)) (zaT _)) ?_ ?_
  ·refine zak ?_
   exact (zaw (i:=3) [false,false,false,true,false,false,false,false,false] nd rfl (.inr rfl) (zaF zaE (Blk.of rfl) (N':=["row"]) (ix:=[none]) rfl rfl (zaW (zab (pv 3))) (fun _ _ _ _ _=>zas (i:=0) nd_5 rfl (by first | exact Or.inl rfl | exact Or.inr rfl)) (zaY (i:=0) (by decide)) (fun _ _ _ _ _=>(zkQ (md:=.fu) (zab (pv 0))))))
  ·exact zaH
 refine zae ?_ ?_
 ·refine zbH [false,false,false,false,false,false,false,false,true] (zaX (o_eq hu5) (zap (md:=.al) zbv (zap (md:=.al) zcp (zab (pv 8)) (zad (md:=.al))) (zad (md:=.al))) (zad (md:=.al)) (zaT _)) ?_ ?_
  ·refine zak ?_
   exact (zaw (i:=3) [false,false,true,true,false,false,false,false,false] nd rfl (.inr rfl) (zaF zaE (Blk.of rfl) (N':=["r", "size", "board"]) (ix:=[none,some 2,some 3]) rfl rfl (zaP rfl T.n_range (zaa (zab (pv 2)) zaj)) (fun _ _ _ _ _=>zas (i:=0) zq4 rfl (by first | exact Or.inl rfl | exact Or.inr rfl)) (zaY (i:=0) (by decide)) (fun _ _ _ _ _=>(zaF zaE (Blk.of rfl) (N':=["c", "board", "r"]) (ix:=[none,some 2,some 0]) rfl rfl (zaP rfl T.n_range (zaa (zab (pv 1)) zaj)) (fun _ _ _ _ _=>zas (i:=0) zq3 rfl (by first | exact Or.inl rfl | exact Or.inr rfl)) (zaY (i:=0) (by decide)) (fun _ _ _ _ _=>(JE.sc (md1:=.fu) (zcs o_ix (zcs o_ix (zab (pv 1)) (zab (pv 0)) (fun _ _=>rfl)) (zab (pv 2)) (fun _ _=>rfl))))))))
  ·exact zaH
 refine zae ?_ ?_
 ·refine zbH [false,false,false,false,false,false,false,false,true] (zaX (o_eq hu5) (zap (md:=.al) zbv (zap (md:=.al) zcp (zab (pv 8)) (zad (md:=.al))) (zad (md:=.al))) (zad (md:=.al)) (zaT _)) ?_ ?_
  ·refine zak ?_
   exact (zaw (i:=3) [false,false,true,true,false,false,false,false,false] nd rfl (.inr rfl) (zaF zaE (Blk.of rfl) (N':=["row", "size"]) (ix:=[none,some 2]) rfl rfl (zaW (zab (pv 3))) (fun _ _ _ _ _=>zas (i:=0) zq2 rfl (by first | exact Or.inl rfl | exact Or.inr rfl)) (zaY (i:=0) (by decide)) (fun _ _ _ _ _=>(zaF zaE (Blk.of rfl) (N':=["number", "size"]) (ix:=[none,some 1]) rfl rfl (zaW (zab (pv 0))) (fun _ _ _ _ _=>zas (i:=0) zq1 rfl (by first | exact Or.inl rfl | exact Or.inr rfl)) (zaY (i:=0) (by decide)) (fun _ _ _ _ _=>(zap (md:=.fu) zg7 (zap (md:=.al) zby (zap (md:=.al) zdM (zab (pv 1)) (zab (pv 1))) (zad (md:=.al))) (zab (pv 0))))))))
  ·exact zaH
 refine zak ?_
 exact (zeo (pv 3))
theorem zj1:FnScope zd5 ["script", "base"] (defScope zb3):=⟨rfl,rfl,rfl,by decide +kernel,rfl,by decide +kernel,by decide +kernel⟩
theorem zkv:zd5.Nodup:=zal (by decide +kernel)
theorem zko (T:Txt K mg t):FnOk P w K mg base (CXe P w) 5 t.fqany_by t.dqany_by ["script", "base"] (spT K t.cl 2 .al zdY):=
 za4 (N:=zd5) T.Fqany_by zj1 rfl fun cdv A outer s H E S₀ hd hr=>by
 have hu5:(A.deeper (PyProof.Rows.envOfC "_law_any_by" (defScope zb3) s.heap.objs.size t.fqany_by cdv)).units + 5 < cLine:=by have:=hr.un;lia
 have nd:=zkv
 refine zae ?_ ?_
 ·exact (zaw (i:=2) [true,true,false,false,false,false,false,false,false] nd rfl (.inl rfl) (zax (zcD T) (hr.mono (by decide)) rfl T.mgqcell_at T.Fqcell_at.kp T.bqcell_at zbq (zaa (zab (pv 0)) (zaa (zap (md:=.al) zby (zab (pv 1)) (zad (md:=.al))) zaj))))
 refine zae ?_ ?_
 ·refine zbH [false,false,true,false,false,false,false,false,false] (zaX (o_eq hu5) (zap (md:=.al) zbv (zab (pv 2)) (zad (md:=.al))) (zad (md:=.al)) (zaT _)) ?_ ?_
  ·refine zak ?_
   exact (za1 [true,true,true,false,false,false,false,false,false] (zax (ze1 T) (hr.mono (by decide)) rfl T.mgqlike_by T.Fqlike_by.kp T.bqlike_by zbq (by refine zaa (zab (pv 0)) ?_;refine zaa (zab (pv 1)) ?_;refine zaa (zcs o_ix (JE.al (zbI (by refine zaa (zad (md:=.fu)) ?_;refine zaa (zad (md:=.fu)) ?_;refine zaa (zad (md:=.fu)) ?_;refine zaa (zad (md:=.fu)) ?_;refine zaa (zad (md:=.fu)) ?_;refine zaa (zad (md:=.fu)) ?_;refine zaa (zad (md:=.fu)) ?_;exact zaj))) (zap (md:=.al) zbv (zap (md:=.al) zcp (zab (pv 2)) (zad (md:=.al))) (zad (md:=.al))) (fun _ _=>rfl)) ?_;exact zaj)))
  ·exact zaH
 refine zae ?_ ?_
 ·exact (zaw (i:=3) [false,false,true,false,false,false,false,false,false] nd rfl (.inl rfl) (zap (md:=.fu) zby (zad (md:=.al)) (zap (md:=.al) zbv (zap (md:=.al) zcp (zab (pv 2)) (zad (md:=.al))) (zad (md:=.al)))))
 refine zae ?_ ?_
 ·exact (zaw (i:=4) [true,true,false,true,false,false,false,false,false] nd rfl (.inr rfl) (zax (zg5 T) (hr.mono (by decide)) rfl T.mgqboard_by T.Fqboard_by.kp T.bqboard_by zbq (zaa (JE.al (zax (zcD T) (hr.mono (by decide)) rfl T.mgqcell_at T.Fqcell_at.kp T.bqcell_at zbq (zaa (zab (pv 0)) (zaa (zap (md:=.al) zby (zab (pv 1)) (zad (md:=.al))) zaj)))) (zaa (zab (pv 3)) zaj))))
 refine zae ?_ ?_
 ·refine zbH [false,false,true,true,false,false,false,false,false] (zjl (zpr (zaX (o_eq hu5) (zap (md:=.al) zbv (zab (pv 2)) (zad (md:=.al))) (zad (md:=.al)) (zaT _)) (znL (zaX (o_eq hu5) (zap (md:=.al) zbv (zab (pv 3)) (zad (md:=.al))) (zad (md:=.al)) (zaT _))))) ?_ ?_
  ·refine zae ?_ ?_
   ·exact (zaw (i:=4) [true,true,false,true,false,false,false,false,false] nd rfl (.inr rfl) (zax (ze1 T) (hr.mono (by decide)) rfl T.mgqlike_by T.Fqlike_by.kp T.bqlike_by zbq (by refine zaa (zab (pv 0)) ?_;refine zaa (zab (pv 1)) ?_;refine zaa (zab (pv 3)) ?_;exact zaj)))
   refine zae ?_ ?_
   ·refine zbH [false,false,true,false,false,false,false,false,false] (zaX (o_eq hu5) (zap (md:=.al) zbv (zap (md:=.al) zcp (zab (pv 2)) (zad (md:=.al))) (zad (md:=.al))) (zad (md:=.al)) (zaT _)) ?_ ?_
    ·refine zak ?_
     exact (za1 [false,false,false,false,true,false,false,false,false] (zap (zqS (md:=.sp)) (JE.al (zfL (md:=.sp) (zab (pv 4)) (zfK (zad (md:=.al))) zkP)) (JE.al (zfL (md:=.sp) (zab (pv 4)) zkP (zfK (zad (md:=.al)))))))
    ·exact zaH
   refine zae ?_ ?_
   ·exact (zps (i:=5) (j:=6) [false,false,true,true,false,false,false,false,false] rfl nd rfl rfl (by decide) rfl rfl (zap (md:=.al) zbv (zap (md:=.al) zcp (zab (pv 2)) (zad (md:=.al))) (zab (pv 3))) (zap (md:=.al) zbv (zap (md:=.al) zcp (zab (pv 2)) (zad (md:=.al))) (zab (pv 3))) (by rfl))
   refine zae ?_ ?_
   ·exact (zaw (i:=7) [false,false,true,true,false,false,false,false,false] nd rfl (.inl rfl) (zap (md:=.fu) zbv (zap (md:=.al) zcp (zab (pv 2)) (zad (md:=.al))) (zab (pv 3))))
   refine zae ?_ ?_
   ·exact (zaw (i:=8) [false,false,false,false,true,true,true,false,false] nd rfl (.inl rfl) (JE.sc (md1:=.fu) (zcs o_ix (zcs o_ix (zab (pv 4)) (zab (pv 5)) (fun _ _=>rfl)) (zab (pv 6)) (fun _ _=>rfl))))
   refine zae ?_ ?_
   ·exact (zkN [false,false,false,false,true,true,true,true,false] (pv 4) (zcs o_ix (zcs o_ix (zab (pv 4)) (zab (pv 5)) (fun _ _=>rfl)) (zab (pv 7)) (fun _ _=>rfl)) (zab (pv 5)) (zab (pv 6)) (fun _ _=>rfl))
   refine zae ?_ ?_
   ·exact (zkN [false,false,false,false,false,true,false,true,true] (pv 4) (zab (pv 8)) (zab (pv 5)) (zab (pv 7)) (fun _ _=>rfl))
   refine zak ?_
   refine zbH [false,false,true,false,false,false,false,false,false] (zaX (o_eq hu5) (zap (md:=.al) zbv (zap (md:=.al) zcp (zab (pv 2)) (zad (md:=.al))) (zad (md:=.al))) (zad (md:=.al)) (zaT _)) ?_ ?_
   ·refine zak ?_
    exact (zaw (i:=4) [false,false,false,true,true,false,false,false,false] nd rfl (.inr rfl) (zaF zaE (Blk.of rfl) (N':=["k", "board"]) (ix:=[none,some 4]) rfl rfl (zaP rfl T.n_range (zaa (zab (pv 3)) zaj)) (fun _ _ _ _ _=>zas (i:=0) nd_6 rfl (by first | exact Or.inl rfl | exact Or.inr rfl)) (zaY (i:=0) (by decide)) (fun _ _ _ _ _=>(zaF zaE (Blk.of rfl) (N':=["row", "k"]) (ix:=[none,some 0]) rfl rfl (zaW (zab (pv 1))) (fun _ _ _ _ _=>zas (i:=0) nd_7 rfl (by first | exact Or.inl rfl | exact Or.inr rfl)) (zaY (i:=0) (by decide)) (fun _ _ _ _ _=>(JE.sc (md1:=.fu) (zcs o_ix (zab (pv 0)) (zab (pv 1)) (fun _ _=>rfl))))))))
   ·exact zaH
  ·exact zaH
 refine zak ?_
 exact (zeo (pv 4))
theorem zlA:FnScope zeJ ["found"] (defScope zcP):=⟨rfl,rfl,rfl,by decide +kernel,rfl,by decide +kernel,by decide +kernel⟩
theorem zlT:zeJ.Nodup:=zal (by decide +kernel)
theorem zlP (T:Txt K mg t):FnOk P w K mg base (CXe P w) 1 t.fqwhole t.dqwhole ["found"] (spT K t.cl 1 .fu zfE):=
 za4 (N:=zeJ) T.Fqwhole zlA rfl fun cdv A outer s H E S₀ hd hr=>by
 have hu5:(A.deeper (PyProof.Rows.envOfC "_law_whole" (defScope zcP) s.heap.objs.size t.fqwhole cdv)).units + 5 < cLine:=by have:=hr.un;lia
 have nd:=zlT
 refine zak ?_
 exact (za1 [true] (zpy (md:=.fu) (zay (md:=.al) zlb rfl T.n_isinstance boot_isinstance (zaa (zab (pv 0)) (zaa (zdG (md:=.al) (zee (v:=.ty "int") rfl T.n_int boot_int rfl)) zaj))) (zpv (zpw (md:=.fu) (zay (md:=.al) zlb rfl T.n_isinstance boot_isinstance (zaa (zab (pv 0)) (zaa (zdG (md:=.al) (zee (v:=.ty "bool") rfl T.n_bool boot_bool rfl)) zaj)))))))
theorem zlB:FnScope zeK ["found", "due"] (defScope zcQ):=⟨rfl,rfl,rfl,by decide +kernel,rfl,by decide +kernel,by decide +kernel⟩
theorem zlU:zeK.Nodup:=zal (by decide +kernel)
theorem zih (T:Txt K mg t):FnOk P w K mg base (CXe P w) 2 t.fqboard t.dqboard ["found", "due"] (spT K t.cl 2 .fu zei):=
 za4 (N:=zeK) T.Fqboard zlB rfl fun cdv A outer s H E S₀ hd hr=>by
 have hu5:(A.deeper (PyProof.Rows.envOfC "_law_board" (defScope zcQ) s.heap.objs.size t.fqboard cdv)).units + 5 < cLine:=by have:=hr.un;lia
 have nd:=zlU
 refine zae ?_ ?_
 ·refine zbH [true,true,false,false] (zjl (zhh (zen (zem (zay (md:=.al) zlb rfl T.n_isinstance boot_isinstance (zaa (zab (pv 0)) (zaa (zdG (md:=.al) (zee (v:=.ty "list") rfl T.n_list boot_list rfl)) zaj))))) (zgh (zaX (o_ne hu5) (zay (md:=.al) zdO rfl T.n_len PySem.boot_len (zaa (zab (pv 0)) zaj)) (zay (md:=.al) zdO rfl T.n_len PySem.boot_len (zaa (zab (pv 1)) zaj)) (zaT _))))) ?_ ?_
  ·refine zak ?_
   exact (za1 [false,false,false,false] (zgk (md:=.fu)))
  ·exact zaH
 refine zae ?_ ?_
 ·refine zcM [true,true,false,false] ownE rfl (zmN rfl T.n_zip (zab (pv 0)) (zab (pv 1))) (zmz rfl (zdX (zas (i:=2) nd rfl (.inl rfl)) (zdX (zas (i:=3) nd rfl (.inl rfl)) zkk))) (zle 2 3) ?_
  refine zak ?_
  refine zbH [false,false,true,true] (zjl (zhh (zen (zem (zay (md:=.al) zlb rfl T.n_isinstance boot_isinstance (zaa (zab (pv 2)) (zaa (zdG (md:=.al) (zee (v:=.ty "list") rfl T.n_list boot_list rfl)) zaj))))) (zhh (zaX (o_ne hu5) (zab (pv 2)) (zab (pv 3)) (zaT _)) (zgh (zen (zem (zay (md:=.al) (znX rfl) rfl T.n_all boot_all (zaa (JE.al (zaF zaE (Blk.of rfl) (N':=["x"]) (ix:=[none]) rfl rfl (zaW (zab (pv 2))) (fun _ _ _ _ _=>zas (i:=0) zq0 rfl (by first | exact Or.inl rfl | exact Or.inr rfl)) (zaY (i:=0) (by decide)) (fun _ _ _ _ _=>(zax (zlP T) (hr.mono (by decide)) rfl T.mgqwhole T.Fqwhole.kp T.bqwhole zfB (zaa (zab (pv 0)) zaj))))) zaj)))))))) ?_ ?_
  ·refine zak ?_
   exact (za1 [false,false,false,false] (zgk (md:=.fu)))
  ·exact zaH
 refine zak ?_
 exact (za1 [false,false,false,false] (zgk (md:=.fu)))
theorem zm8:FnScope zgM ["board"] (defScope zd9):=⟨rfl,rfl,rfl,by decide +kernel,rfl,by decide +kernel,by decide +kernel⟩
theorem znA:zgM.Nodup:=zal (by decide +kernel)
theorem zny (T:Txt K mg t):FnOk P w K mg base (CXe P w) 1 t.fqcopy t.dqcopy ["board"] (spT K t.cl 1 .fu zin):=
 za4 (N:=zgM) T.Fqcopy zm8 rfl fun cdv A outer s H E S₀ hd hr=>by
 have hu5:(A.deeper (PyProof.Rows.envOfC "_law_copy" (defScope zd9) s.heap.objs.size t.fqcopy cdv)).units + 5 < cLine:=by have:=hr.un;lia
 have nd:=znA
 refine zak ?_
 exact (za1 [true] (zaF zaE (Blk.of rfl) (N':=["row"]) (ix:=[none]) rfl rfl (zaW (zab (pv 0))) (fun _ _ _ _ _=>zas (i:=0) nd_5 rfl (by first | exact Or.inl rfl | exact Or.inr rfl)) (zaY (i:=0) (by decide)) (fun _ _ _ _ _=>(zgj (md:=.fu) zmS rfl T.n_list boot_list (zaa (zab (pv 0)) zaj)))))
theorem zoH:FnScope zlt ["board"] (defScope zgS):=⟨rfl,rfl,rfl,by decide +kernel,rfl,by decide +kernel,by decide +kernel⟩
theorem zpf:zlt.Nodup:=zal (by decide +kernel)
theorem zpd (T:Txt K mg t):FnOk P w K mg base (CXe P w) 1 t.fqkin t.dqkin ["board"] (spT K t.cl 1 .al zlV):=
 za4 (N:=zlt) T.Fqkin zoH rfl fun cdv A outer s H E S₀ hd hr=>by
 have hu5:(A.deeper (PyProof.Rows.envOfC "_law_kin" (defScope zgS) s.heap.objs.size t.fqkin cdv)).units + 5 < cLine:=by have:=hr.un;lia
 have nd:=zpf
 refine zae ?_ ?_
 ·exact (zaw (i:=1) [true,false,false,false,false] nd rfl (.inr rfl) (zay (md:=.fu) zdO rfl T.n_len PySem.boot_len (zaa (zab (pv 0)) zaj)))
 refine zae ?_ ?_
 ·exact (zaw (i:=2) [false,false,false,false,false] nd rfl (.inl rfl) (zbI zaj))
 refine zae ?_ ?_
 ·refine zcM [false,false,false,false,false] ownE rfl (zaP rfl T.n_range (zaa (zad (md:=.al)) zaj)) (zas (i:=3) nd rfl (.inl rfl)) (zaZ 3) ?_
  refine zae ?_ ?_
  ·exact (zaw (i:=4) [true,false,false,false,false] nd rfl (.inr rfl) (zaF zaE (Blk.of rfl) (N':=["row"]) (ix:=[none]) rfl rfl (zaW (zab (pv 0))) (fun _ _ _ _ _=>zas (i:=0) nd_5 rfl (by first | exact Or.inl rfl | exact Or.inr rfl)) (zaY (i:=0) (by decide)) (fun _ _ _ _ _=>(zgj (md:=.fu) zmS rfl T.n_list boot_list (zaa (zab (pv 0)) zaj)))))
  refine zae ?_ ?_
  ·refine zbH [false,false,false,true,false] (zaX (o_eq hu5) (zap (md:=.al) zcp (zab (pv 3)) (zad (md:=.al))) (zad (md:=.al)) (zaT _)) ?_ ?_
   ·refine zak ?_
    exact (zaw (i:=4) [false,true,false,false,true] nd rfl (.inr rfl) (zaF zaE (Blk.of rfl) (N':=["r", "size", "made"]) (ix:=[none,some 1,some 4]) rfl rfl (zaP rfl T.n_range (zaa (zab (pv 1)) zaj)) (fun _ _ _ _ _=>zas (i:=0) zqZ rfl (by first | exact Or.inl rfl | exact Or.inr rfl)) (zaY (i:=0) (by decide)) (fun _ _ _ _ _=>(zaF zaE (Blk.of rfl) (N':=["c", "made", "r"]) (ix:=[none,some 2,some 0]) rfl rfl (zaP rfl T.n_range (zaa (zab (pv 1)) zaj)) (fun _ _ _ _ _=>zas (i:=0) zqY rfl (by first | exact Or.inl rfl | exact Or.inr rfl)) (zaY (i:=0) (by decide)) (fun _ _ _ _ _=>(JE.sc (md1:=.fu) (zcs o_ix (zcs o_ix (zab (pv 1)) (zab (pv 0)) (fun _ _=>rfl)) (zab (pv 2)) (fun _ _=>rfl))))))))
   ·exact zaH
  refine zae ?_ ?_
  ·refine zbH [false,false,false,true,false] (zaX (o_eq hu5) (zap (md:=.al) zbv (zap (md:=.al) zcp (zab (pv 3)) (zad (md:=.al))) (zad (md:=.al))) (zad (md:=.al)) (zaT _)) ?_ ?_
   ·refine zak ?_
    exact (zfI (i:=4) [false,false,false,false,true] nd rfl (.inr rfl) (zkQ (md:=.sp) (zab (pv 4))))
   ·exact zaH
  refine zae ?_ ?_
  ·refine zbH [false,false,false,true,false] (zaX (o_eq hu5) (zap (md:=.al) zbv (zab (pv 3)) (zad (md:=.al))) (zad (md:=.al)) (zaT _)) ?_ ?_
   ·refine zak ?_
    exact (zaw (i:=4) [false,false,false,false,true] nd rfl (.inr rfl) (zaF zaE (Blk.of rfl) (N':=["row"]) (ix:=[none]) rfl rfl (zaW (zab (pv 4))) (fun _ _ _ _ _=>zas (i:=0) nd_5 rfl (by first | exact Or.inl rfl | exact Or.inr rfl)) (zaY (i:=0) (by decide)) (fun _ _ _ _ _=>(zkQ (md:=.fu) (zab (pv 0))))))
   ·exact zaH
  refine zak ?_
  exact (zis [false,false,false,false,true] (pv 2) (zab (pv 4)))
 refine zak ?_
 exact (za1 [false,false,true,false,false] (zay (zla hu5) rfl T.n_sorted boot_sorted (zaa (zab (pv 2)) zaj)))
theorem zoI:FnScope zlu ["script"] (defScope s_law):=⟨rfl,rfl,rfl,by decide +kernel,rfl,by decide +kernel,by decide +kernel⟩
theorem zpg:zlu.Nodup:=zal (by decide +kernel)
theorem ok_law (T:Txt K mg t):FnOk P w K mg base (CXe P w) 6 t.f_law t.d_law ["script"] (spT K t.cl 1 .fu znD):=
 za4 (N:=zlu) T.F_law zoI rfl fun cdv A outer s H E S₀ hd hr=>by
 have hu5:(A.deeper (PyProof.Rows.envOfC "law" (defScope s_law) s.heap.objs.size t.f_law cdv)).units + 5 < cLine:=by have:=hr.un;lia
 have nd:=zpg
 refine zae ?_ ?_
 ·exact (zfI (i:=1) [true,false,false,false,false,false,false,false,false] nd rfl (.inr rfl) (zax (zko T) (hr.mono (by decide)) rfl T.mgqany_by T.Fqany_by.kp T.bqany_by zbq (zaa (zab (pv 0)) (zaa (zad (md:=.al)) zaj))))
 refine zae ?_ ?_
 ·exact (zfI (i:=2) [false,true,false,false,false,false,false,false,false] nd rfl (.inl rfl) (zax (zpd T) (hr.mono (by decide)) rfl T.mgqkin T.Fqkin.kp T.bqkin zbq (zaa (zab (pv 1)) zaj)))
 refine zae ?_ ?_
 ·refine zcM [false,false,false,false,false,false,false,false,false] ownE rfl (zaP rfl T.n_range (zaa (zad (md:=.al)) zaj)) (zas (i:=3) nd rfl (.inl rfl)) (zaZ 3) ?_
  refine zae ?_ ?_
  ·exact (zaw (i:=4) [false,true,false,false,false,false,false,false,false] nd rfl (.inl rfl) (zax (zny T) (hr.mono (by decide)) rfl T.mgqcopy T.Fqcopy.kp T.bqcopy zbq (zaa (zab (pv 1)) zaj)))
  refine zae ?_ ?_
  ·exact (zaw (i:=5) [false,false,false,false,true,false,false,false,false] nd rfl (.inl rfl) (zax (zmC T) (hr.mono (by decide)) rfl T.mg_kin T.F_kin.kp T.b_kin zbq (zaa (zab (pv 4)) zaj)))
  refine zae ?_ ?_
  ·exact (zaw (i:=6) [false,false,false,false,true,false,false,false,false] nd rfl (.inl rfl) (zax (zgd T) (hr.mono (by decide)) rfl T.mg_first_kin T.F_first_kin.kp T.b_first_kin zbq (zaa (zab (pv 4)) zaj)))
  refine zae ?_ ?_
  ·refine zbH [false,true,false,false,true,true,false,false,false] (zjl (zhh (zaX (o_ne hu5) (zab (pv 4)) (zab (pv 1)) (zaT _)) (zhh (zen (zem (zay (md:=.al) zlb rfl T.n_isinstance boot_isinstance (zaa (zab (pv 5)) (zaa (zdG (md:=.al) (zee (v:=.ty "list") rfl T.n_list boot_list rfl)) zaj))))) (zgh (zaX (o_ne hu5) (zay (md:=.al) zdO rfl T.n_len PySem.boot_len (zaa (zab (pv 5)) zaj)) (zad (md:=.al)) (zaT _)))))) ?_ ?_
   ·refine zak ?_
    exact (za1 [false,false,false,false,false,false,false,false,false] (zgk (md:=.fu)))
   ·exact zaH
  refine zae ?_ ?_
  ·refine zbH [false,false,true,false,false,true,true,false,false] (zjl (zhh (zen (zem (JE.al (zax (zih T) (hr.mono (by decide)) rfl T.mgqboard T.Fqboard.kp T.bqboard zbq (zaa (zab (pv 6)) (zaa (zcs o_ix (zab (pv 2)) (zad (md:=.al)) (fun _ _=>rfl)) zaj)))))) (zgh (zen (zem (zay (md:=.al) (znX rfl) rfl T.n_all boot_all (zaa (JE.al (zaF zaE (Blk.of rfl) (N':=["one", "other"]) (ix:=[none,none]) rfl rfl (zmN rfl T.n_zip (zab (pv 5)) (zab (pv 2))) (fun _ _ _ _ _=>zmz rfl (zdX (zas (i:=0) nd_0 rfl (by first | exact Or.inl rfl | exact Or.inr rfl)) (zdX (zas (i:=1) nd_0 rfl (by first | exact Or.inl rfl | exact Or.inr rfl)) zkk))) (zpQ (i:=0) (j:=1) (by decide) (by decide)) (fun _ _ _ _ _=>(zax (zih T) (hr.mono (by decide)) rfl T.mgqboard T.Fqboard.kp T.bqboard zfB (zaa (zab (pv 0)) (zaa (zab (pv 1)) zaj)))))) zaj))))))) ?_ ?_
   ·refine zak ?_
    exact (za1 [false,false,false,false,false,false,false,false,false] (zgk (md:=.fu)))
   ·exact zaH
  refine zae ?_ ?_
  ·exact (zjn (i:=5) (p:=7) (q:=8) ownE rfl nd rfl (.inl rfl) rfl (.inl rfl) (pv 5) (pv 7) (pv 8) zgc)
  refine zae ?_ ?_
  ·refine zcM [false,false,false,false,false,true,false,false,false] ownE rfl (zaW (zab (pv 5))) (zas (i:=7) nd rfl (.inl rfl)) (zaZ 7) ?_
   refine zak ?_
   refine zbH [false,true,false,false,false,false,false,true,false] (zen (zem (zay (md:=.al) (znX rfl) rfl T.n_all boot_all (zaa (JE.al (zaF zaE (Blk.of rfl) (N':=["row", "board"]) (ix:=[none,some 1]) rfl rfl (zaW (zab (pv 7))) (fun _ _ _ _ _=>zas (i:=0) nd_1 rfl (by first | exact Or.inl rfl | exact Or.inr rfl)) (zaY (i:=0) (by decide)) (fun _ _ _ _ _=>(zpx (md:=.fu) (o_eq hu5) (zay (md:=.al) zdO rfl T.n_len PySem.boot_len (zaa (zab (pv 0)) zaj)) (zap (md:=.al) zby (zay (md:=.al) zdO rfl T.n_len PySem.boot_len (zaa (zab (pv 1)) zaj)) (zad (md:=.al))) (zaT _))))) zaj)))) ?_ ?_
   ·refine zak ?_
    exact (za1 [false,false,false,false,false,false,false,false,false] (zgk (md:=.fu)))
   ·exact zaH
  refine zae ?_ ?_
  ·exact (znN [false,false,false,false,false,false,false,false,false] (pv 6) (zad (md:=.al)) (zad (md:=.al)) (fun _ _=>rfl))
  refine zae ?_ ?_
  ·exact (zis [false,false,false,false,false,false,false,false,false] (pv 6) (zbI zaj))
  refine zak ?_
  refine zbH [false,true,false,false,true,false,false,false,false] (zaX (o_ne hu5) (zab (pv 4)) (zab (pv 1)) (zaT _)) ?_ ?_
  ·refine zak ?_
   exact (za1 [false,false,false,false,false,false,false,false,false] (zgk (md:=.fu)))
  ·exact zaH
 refine zak ?_
 exact (za1 [false,false,false,false,false,false,false,false,false] (zgk (md:=.fu)))
end
end Qk03
namespace Qk03
open PySem PySem.Spec L2 TL
noncomputable def zdH (ns:List Int) (k:Nat):Int:=ns.getD k 0
theorem zfS (ns:List Int) (k:Nat):zbr [.scr ns,.sc (.int k)]=.ok (.sc (.int (zdH ns k))):=by
 unfold zdH
 by_cases h:k < ns.length
 ·have:atI ns (k:Int)=some ns[k]:=zeC (by lia) (by simp [h])
  simp [zbr,zeG,zbZ,h,this]
 ·simp [zbr,zeG,zbZ,h]
theorem zm5 (i:Int) (h0:0≤i) (h1:i < 13):∃ v:Int,0≤v∧v < 100000∧atI ([.sc (.int 48271),.sc (.int 69621),.sc (.int 16807),.sc (.int 39373),.sc (.int 30269),.sc (.int 40014),.sc (.int 40692),.sc (.int 50021),.sc (.int 61687),.sc (.int 71993),.sc (.int 83869),.sc (.int 95561),.sc (.int 30307)]:List T) i=some (.sc (.int v)):=by
 have e:([.sc (.int 48271),.sc (.int 69621),.sc (.int 16807),.sc (.int 39373),.sc (.int 30269),.sc (.int 40014),.sc (.int 40692),.sc (.int 50021),.sc (.int 61687),.sc (.int 71993),.sc (.int 83869),.sc (.int 95561),.sc (.int 30307)]:List T)=zai [48271,69621,16807,39373,30269,40014,40692,50021,61687,71993,83869,95561,30307]:=rfl
 rw [e,ziM]
 obtain⟨n,rfl⟩:=Int.eq_ofNat_of_zero_le h0
 have hn:n < ([48271,69621,16807,39373,30269,40014,40692,50021,61687,71993,83869,95561,30307]:List Int).length:=by simp;lia
 refine ⟨[48271,69621,16807,39373,30269,40014,40692,50021,61687,71993,83869,95561,30307][n],?_,?_,?_⟩
 ·have:∀ v∈([48271,69621,16807,39373,30269,40014,40692,50021,61687,71993,83869,95561,30307]:List Int),0≤v:=by decide
  exact this _ (List.getElem_mem hn)
 ·have:∀ v∈([48271,69621,16807,39373,30269,40014,40692,50021,61687,71993,83869,95561,30307]:List Int),v < 100000:=by decide
  exact this _ (List.getElem_mem hn)
 ·rw [zeC (by lia) (List.getElem?_eq_getElem hn)];rfl
theorem mix (c k m:Int) (hk:0≤k) (hk2:k < 1000000) (hm:0 < m) (hm2:m < 1000000):∃ r,zkB [.sc (.int c),.sc (.int k),.sc (.int m)]=.ok (.sc (.int r))∧0≤r∧r < m:=by
 obtain⟨v,h0,h1,e⟩:=zm5 (k % 13) (by lia) (by lia)
 have a1:(-(2 ^ 64) < c % 2147483647 + 12345∧c % 2147483647 + 12345 < 2 ^ 64):=by lia
 have a2:=zgo (i:=c % 2147483647 + 12345) (j:=v) (.inl a1)
 have a3:=zgo (i:=977) (j:=k) (.inl (by lia))
 have a4:=zgo (i:=7919) (j:=k / 13) (.inl (by lia))
 generalize hs:((c % 2147483647 + 12345) * v + 977 * k + 7919 * (k / 13)) % 1000000007=s
 have hs':0≤s∧s < 1000000007:=by lia
 have a5:=zgo (i:=s) (j:=s) (.inl (by lia))
 have a6:=zgo (i:=48271) (j:=k) (.inl (by lia))
 refine ⟨(s * s + 48271 * k) % 1000000007 / 7 % m,?_,Int.emod_nonneg _ (by lia),Int.emod_lt_of_pos _ hm⟩
 simp [zkB,zpU,zls,e,a2,a3,a4,hs,a5,a6,hm]
theorem zka (n:Nat):rngZ 0 (n + 1)=rngZ 0 n ++ [(n:Int)]:=by
 unfold rngZ;rw [List.range_succ,List.map_append];simp
theorem zif (c m:Int) (h0:0≤m) (hm:m≤200):∃ p:List Int,zbU [.sc (.int c),.sc (.int m)]=.ok (.lst (zai p))∧p.Perm (rngZ 0 m.toNat):=by
 obtain⟨ρ',e,o,l,p,rfl,hp⟩:=zcJ (gT:=gS 4) (B:=zbO)
  (fun k ρ=>∃ (o:Option (Md×T)) (l:Int) (p:List Int),ρ=[some (.al,.sc (.int c)),some (.al,.sc (.int m)),some (.fu,.sc (.int l)),some (.fu,.lst (zai p)),o]∧p.Perm (rngZ 0 k)) m.toNat
  [some (.al,.sc (.int c)),some (.al,.sc (.int m)),some (.fu,.sc (.int (c / 2))),some (.fu,.lst (zai [])),none] ⟨none,c / 2,[],rfl,.refl _⟩ (by
   rintro j ρ hj ⟨o,l,p,rfl,hp⟩
   have hl:p.length=j:=by have:=hp.length_eq;simpa using this
   have perm:∀ r:Nat,(p.take r ++ (j:Int) :: p.drop r).Perm (rngZ 0 (j + 1)):=fun r=>by
    rw [zka]
    refine (List.perm_middle).trans ?_
    rw [List.take_append_drop]
    exact (hp.cons _).trans (List.perm_append_singleton _ _).symm
   refine ⟨_,rfl,?_⟩
   by_cases hc:c % 2=0
   ·have hj1:(0:Int) < (j:Int) + 1:=by lia
    have hj2:(j:Int) + 1 < 1073741824:=by lia
    have i1:0≤l % ((j:Int) + 1):=Int.emod_nonneg _ (by lia)
    have i2:l % ((j:Int) + 1)≤(p.length:Int):=by have:=Int.emod_lt_of_pos l hj1;lia
    have i3:p.length < 1000:=by lia
    refine ⟨_,?_,some (.al,.sc (.int j)),l / ((j:Int) + 1),_,rfl,perm (l % ((j:Int) + 1)).toNat⟩
    simp [zbO,hc,hj1,hj2,i1,i2,i3]
   ·obtain⟨r,e,r0,r1⟩:=mix l j (j + 1) (by lia) (by lia) (by lia) (by lia)
    have i2:r≤(p.length:Int):=by lia
    have i3:p.length < 1000:=by lia
    refine ⟨_,?_,some (.al,.sc (.int j)),l,_,rfl,perm r.toNat⟩
    simp [zbO,hc,e,r0,i2,i3])
 refine ⟨p,?_,hp⟩
 have b1:-4611686018427387904≤m:=by lia
 have b2:m < 4611686018427387904:=by lia
 simp [zbU,zfh,zbY,b1,b2] at e ⊢
 simp [e]
theorem zqy {n:Nat} (hn:n≤12):(n:Int) * n≤144:=by
 have:n * n≤12 * 12:=Nat.mul_le_mul hn hn
 exact_mod_cast this
theorem zid {n:Nat} {p:List Int} (hp:p.Perm (rngZ 0 n)):Ord n p:=⟨by rw [hp.length_eq,zbN],fun x hx=>zbM (hp.mem_iff.mp hx)⟩
def Bd (b:List (List Int)):Prop:=1≤b.length∧b.length≤12∧(∀ r∈b,r.length=b.length)∧zeS b.flatten=rngZ 1 (b.length * b.length)
theorem zgi {b:List (List Int)} (hb:Sml b):zdZ [.lst (zaf b)]=.ok (.lst (zai b.flatten)):=by
 obtain⟨x',e⟩:=zgq (L:=zfk) rfl (some (.al,.lst (zaf b))) b [] none (by have:=hb.flat;simp at this ⊢;lia)
 simp at e
 simp [zdZ,ziR,zdn,e]
theorem zd8 (t0 t1:Option (Md×T)) (n:Nat):∀ (b:List (List Int)) (x:Option (Md×T)),∃ x',forL (gS 3) za7 (zaf b) [t0,t1,some (.fu,.sc (.int n)),x]=(if ∀ r∈b,r.length=n then .nx [t0,t1,some (.fu,.sc (.int n)),x'] else .exc 1)
 | [],x=>⟨x,by simp⟩
 | r :: b,x=>by
  obtain⟨x',e⟩:=zd8 t0 t1 n b (some (.al,.lst (zai r)))
  refine ⟨x',?_⟩
  rw [zbg,zct]
  by_cases h:r.length=n
  ·have h':(r.length:Int)=n:=by lia
   simp [za7,h]
   exact e
  ·simp [za7,h,show ¬ (r.length:Int)=n by lia]
theorem zf4 {b:List (List Int)}:zaU [.lst (zaf b),.sc (.int 12)]=if 1≤b.length∧b.length≤12∧∀ r∈b,r.length=b.length then .ok (.sc .non) else .exc 1:=by
 obtain⟨x',e⟩:=zd8 (some (.al,.lst (zaf b))) (some (.al,.sc (.int 12))) b.length b none
 by_cases h0:b.length < 1
 ·have:(b.length:Int) < 1:=by lia
  rw [if_neg (by lia)]
  simp [zaU,zbn,zaL,this]
 ·by_cases h2:12 < b.length
  ·have h3:(12:Int) < b.length:=by lia
   rw [if_neg (by lia)]
   simp [zaU,zbn,zaL,h0,h3,show ¬ (b.length:Int) < 1 by lia]
  ·simp [zaU,zbn,zaL,h0,h2,show ¬ (b.length:Int) < 1 by lia,show ¬ (12:Int) < b.length by lia,e]
   by_cases h4:∀ r∈b,r.length=b.length
   ·rw [if_pos h4,if_pos ⟨by lia,by lia,h4⟩];rfl
   ·rw [if_neg h4,if_neg (fun q=>h4 q.2.2)];rfl
theorem zmg {b:List (List Int)} (hb:Sml b):(Bd b→zaC [.lst (zaf b)]=.ok (.sc .non))∧(¬ Bd b→zaC [.lst (zaf b)]=.exc 1):=by
 have hl:=hb.len
 have hz:(b.length:Int) * b.length≤169:=by
  have:b.length * b.length≤13 * 13:=Nat.mul_le_mul hl hl
  exact_mod_cast this
 have hz0:(0:Int)≤(b.length:Int) * b.length:=Int.mul_nonneg (by lia) (by lia)
 have mn:=zdw (i:=(b.length:Int)) (j:=b.length) (.inl (by lia))
 have r2:=zni (i:=1) (j:=(b.length:Int) * b.length + 1) (by lia)
 have et:((b.length:Int) * b.length + 1 - 1).toNat=b.length * b.length:=by
  rw [Int.add_sub_cancel];exact_mod_cast Int.toNat_natCast (b.length * b.length)
 rw [et] at r2
 have hz':b.length * b.length≤169:=by exact_mod_cast hz
 by_cases h1:1≤b.length∧b.length≤12∧∀ r∈b,r.length=b.length
 ·have sq:=zf4 (b:=b)
  rw [if_pos h1] at sq
  refine ⟨fun h=>?_,fun h=>?_⟩
  ·simp [zaC,zbB,zaS,sq,zgi hb,mn,r2,show b.length * b.length≤1000000 by lia,zfD,h.2.2.2]
  ·have:¬ zeS b.flatten=rngZ 1 (b.length * b.length):=fun q=>h ⟨h1.1,h1.2.1,h1.2.2,q⟩
   simp [zaC,zbB,zaS,sq,zgi hb,mn,r2,show b.length * b.length≤1000000 by lia,zfD,this]
 ·have sq:=zf4 (b:=b)
  rw [if_neg h1] at sq
  refine ⟨fun h=>absurd ⟨h.1,h.2.1,h.2.2.1⟩ h1,fun h=>?_⟩
  simp [zaC,zbB,zaS,sq]
theorem zjr (n a:Nat):a / n * n + a % n=a:=by rw [Nat.mul_comm];exact Nat.div_add_mod a n
theorem zn1 {f:Int→Int} {l:List Int} {i:Nat} (h:i < l.length):at0 (l.map f) i=f (at0 l i):=by simp [at0,List.getD,h]
theorem ziu {α β:Type} {f:α→β} {l:List α} {i:Nat} (d:α) (d':β) (h:i < l.length):(l.map f).getD i d'=f (l.getD i d):=by simp [List.getD,h]
theorem zh6 {N:Nat} {A B:List (List Int)} (hA:Sq N A) (hB:Sq N B) (h:∀ R C,R < N→C < N→at0 (zaq A R) C=at0 (zaq B R) C):A=B:=by
 refine List.ext_getElem (by rw [hA.len,hB.len]) fun R h1 h2=>?_
 have hR:R < N:=by rw [← hA.len];exact h1
 have a1:(A[R]).length=N:=hA.row _ (List.getElem_mem h1)
 have b1:(B[R]).length=N:=hB.row _ (List.getElem_mem h2)
 refine List.ext_getElem (by rw [a1,b1]) fun C h3 h4=>?_
 have:=h R C hR (by rw [← a1];exact h3)
 simpa [zaq,at0,List.getD,h1,h2,h3,h4] using this
theorem zmw {N:Nat} {G:List (List Int)} (h:Sq N G) {R C:Nat} (hR:R < N) (hC:C < N) (v:Int) (R' C':Nat):at0 (zaq (G.set R ((zaq G R).set C v)) R') C'=if R'=R∧C'=C then v else at0 (zaq G R') C':=by
 have l1:=h.get hR
 have l2:=h.len
 by_cases e:R'=R
 ·subst e
  have e1:zaq (G.set R' ((zaq G R').set C v)) R'=(zaq G R').set C v:=by
   conv=>lhs;unfold zaq
   rw [List.getD_eq_getElem?_getD,List.getElem?_set_self (by rw [l2];exact hR)]
   rfl
  rw [e1]
  by_cases e2:C'=C
  ·subst e2
   rw [if_pos ⟨rfl,rfl⟩]
   unfold at0
   rw [List.getD_eq_getElem?_getD,List.getElem?_set_self (by rw [l1];exact hC)]
   rfl
  ·rw [if_neg (fun q=>e2 q.2)]
   unfold at0
   rw [List.getD_eq_getElem?_getD,List.getElem?_set_ne (fun q=>e2 q.symm),← List.getD_eq_getElem?_getD]
 ·rw [if_neg (fun q=>e q.1)]
  have e1:zaq (G.set R ((zaq G R).set C v)) R'=zaq G R':=by
   unfold zaq
   rw [List.getD_eq_getElem?_getD,List.getElem?_set_ne (fun q=>e q.symm),← List.getD_eq_getElem?_getD]
  rw [e1]
theorem ziH {n:Nat} {b:List (List Int)} (hb:Bd b):zaC [.lst (zaf b)]=.ok (.sc .non):=
 (zmg (b:=b) ⟨by have:=hb.2.1;lia,fun r hr=>by rw [hb.2.2.1 r hr];have:=hb.2.1;lia⟩).1 hb
noncomputable def tur (b:List (List Int)):List (List Int):=(rngZ 0 b.length).map fun k=>(b.map fun r=>at0 r k.toNat).reverse
noncomputable def mir (b:List (List Int)):List (List Int):=b.map List.reverse
noncomputable def dwn (b:List (List Int)):List (List Int):=b.map fun r=>r.map fun x=>(b.length:Int) * b.length + 1 - x
theorem zk7 {n:Nat} {b:List (List Int)} (hb:Sq n b) (hn:n≤12) {k:Int} (k0:0≤k) (k1:k < n):zd0 [.lst (zaf b),.sc (.int k)]=.ok (.lst (zai (b.map fun r=>at0 r k.toNat))):=by
 have e:mapL (gE 0) zdB [none,some (.sc (.int k))] (zaf b)=.ok (zai (b.map fun r=>at0 r k.toNat)):=zkF _ _ fun r hr=>⟨_,rfl,by
  have g:k < (r.length:Int):=by rw [hb.row r hr];exact k1
  simp [zdB,k0,g]⟩
 simp [zd0,ziS,zdo,e,hb.len,show n≤1000 by lia]
theorem zjs {n:Nat} {b:List (List Int)} (hb:Sq n b) (hn:n≤12):zda [.lst (zaf b)]=.ok (.lst (zaf ((rngZ 0 n).map fun k=>b.map fun r=>at0 r k.toNat))):=by
 have e:mapL (gE 0) zc2 [none,some (.lst (zaf b))] (zai (rngZ 0 n))=.ok (zaf ((rngZ 0 n).map fun k=>b.map fun r=>at0 r k.toNat)):=zdu _ _ fun k hk=>⟨_,rfl,by
  have:=zbM hk
  simp [zc2,zk7 hb hn this.1 this.2]⟩
 simp [zda,zgK,zcA,e,hb.len,show n≤1000 by lia]
theorem zc4 {b:List (List Int)} (hb:Bd b):zc9 [.lst (zaf b)]=.ok (.lst (zaf (tur b))):=by
 have hn:=hb.2.1
 have hq:Sq b.length b:=⟨rfl,hb.2.2.1⟩
 have e:mapL (gE 0) zdA [none] (zaf ((rngZ 0 b.length).map fun k=>b.map fun r=>at0 r k.toNat))=.ok (zaf (((rngZ 0 b.length).map fun k=>b.map fun r=>at0 r k.toNat).map List.reverse)):=zdt _ _ fun r hr=>⟨_,rfl,by simp [zdA]⟩
 rw [List.map_map] at e
 have e':tur b=(rngZ 0 b.length).map (List.reverse ∘ fun k=>b.map fun r=>at0 r k.toNat):=rfl
 rw [← e'] at e
 have l:(tur b).length≤1000:=by unfold tur;simp;lia
 simp [zc9,ziQ,zdm,ziH (n:=0) hb,zjs hq hn,e,l]
theorem zb7 {b:List (List Int)} (hb:Bd b):zbV [.lst (zaf b)]=.ok (.lst (zaf (mir b))):=by
 have hn:=hb.2.1
 have e:mapL (gE 0) zcB [none] (zaf b)=.ok (zaf (mir b)):=zdt _ _ fun r hr=>⟨_,rfl,by simp [zcB]⟩
 have l:(mir b).length≤1000:=by unfold mir;simp;lia
 simp [zbV,zfj,zb1,ziH (n:=0) hb,e,l]
theorem zdD {n:Nat} {b:List (List Int)} (h:Sq n b):Sq n (mir b):=h.mapR fun r hr=>by rw [List.length_reverse];exact h.row r hr
theorem zgs {n:Nat} {b:List (List Int)} (h:Sq n b):Sq n (dwn b):=h.mapR fun r hr=>by rw [List.length_map];exact h.row r hr
theorem zcj {n:Nat} {b:List (List Int)} (h:Sq n b):Sq n (tur b):=by
 unfold tur
 rw [h.len]
 exact Sq.map (by simp) fun k _=>by rw [List.length_reverse,List.length_map,h.len]
theorem zf8 {f:List Int→List Int} {b:List (List Int)} {R:Nat} (h:R < b.length):zaq (b.map f) R=f (zaq b R):=by simp [zaq,List.getD,h]
theorem zlj {r:List Int} {C:Nat} (h:C < r.length):at0 r.reverse C=at0 r (r.length - 1 - C):=by
 have h2:r.length - 1 - C < r.length:=by lia
 unfold at0
 rw [List.getD_eq_getElem?_getD,List.getElem?_reverse h,← List.getD_eq_getElem?_getD]
theorem zkC {n:Nat} {b:List (List Int)} (h:Sq n b) {R C:Nat} (hR:R < n) (hC:C < n):C2 (mir b) R C=C2 b R (n - 1 - C):=by
 unfold C2 mir
 rw [zf8 (by rw [h.len];exact hR),zlj (by rw [h.get hR];exact hC),h.get hR]
theorem zpK {n:Nat} {b:List (List Int)} (h:Sq n b) {R C:Nat} (hR:R < n) (hC:C < n):C2 (dwn b) R C=((n * n:Nat):Int) + 1 - C2 b R C:=by
 unfold C2 dwn
 rw [zf8 (by rw [h.len];exact hR),zn1 (by rw [h.get hR];exact hC),h.len,Int.natCast_mul]
theorem zcl {n:Nat} {b:List (List Int)} (h:Sq n b) {R C:Nat} (hR:R < n) (hC:C < n):C2 (tur b) R C=C2 b (n - 1 - C) R:=by
 have e:zaq (tur b) R=(b.map fun r=>at0 r R).reverse:=by
  unfold tur zaq
  rw [ziu (d:=(0:Int)) (h:=by rw [zbN,h.len];exact hR)]
  have:(rngZ 0 b.length).getD R 0=(R:Int):=by unfold rngZ;simp [List.getD,h.len,hR]
  rw [this,Int.toNat_natCast]
 unfold C2
 rw [e,zlj (by rw [List.length_map,h.len];exact hC),List.length_map,h.len]
 have h2:n - 1 - C < b.length:=by rw [h.len];lia
 unfold at0 zaq
 simp [List.getD,h2]
theorem zpi {n:Nat} {s:Int} {b:List (List Int)} (h:Lk n s b):Lk n s (mir b):=h.mir (zdD h.sq) fun R C hR hC=>zkC h.sq hR hC
theorem ziC {n:Nat} {s:Int} {b:List (List Int)} (h:Lk n s b):Lk n (n * (((n * n:Nat):Int) + 1) - s) (dwn b):=h.dwn (zgs h.sq) fun R C hR hC=>zpK h.sq hR hC
structure Fl (n:Nat) (b:List (List Int)):Prop where
 sq:Sq n b
 sur:∀ v:Int,1≤v→v < 1 + ((n * n:Nat):Int)→∃ R C,R < n∧C < n∧C2 b R C=v
theorem Fl.bd {n:Nat} {b:List (List Int)} (h:Fl n b) (h1:1≤n) (h2:n≤12):Bd b:=by
 refine ⟨by rw [h.sq.len];exact h1,by rw [h.sq.len];exact h2,fun r hr=>by rw [h.sq.len];exact h.sq.row r hr,?_⟩
 rw [h.sq.len]
 exact ziZ h.sq.flat_len fun v h1 h2=>by
  obtain⟨R,C,hR,hC,e⟩:=h.sur v h1 h2
  rw [← e]
  exact h.sq.mem hR hC
theorem ziw {n:Nat} {b:List (List Int)} (h:Fl n b):Fl n (tur b):=⟨zcj h.sq,fun v h1 h2=>by
 obtain⟨R,C,hR,hC,q⟩:=h.sur v h1 h2
 exact⟨C,n - 1 - R,hC,by lia,by rw [zcl h.sq hC (by lia),← q];congr 1;lia⟩⟩
theorem zqk (b:List (List Int)):bdT b=.lst (zaf b):=rfl
theorem zeD:∀ b:List (List Int),zcx (zaf b)=some b
 | []=>rfl
 | r :: b=>by
  show (zbw (zai r)).bind (fun q=>(zcx (zaf b)).map (q :: ·))=_
  rw [za9,zeD b];rfl
theorem zfe:∀ bs:List (List (List Int)),zdj (bs.map fun b=>.lst (zaf b))=some bs
 | []=>rfl
 | b :: bs=>by
  show (zcx (zaf b)).bind (fun q=>(zdj (bs.map fun b=>.lst (zaf b))).map (q :: ·))=_
  rw [zeD,zfe bs];rfl
theorem zh7 {n:Nat} {b:List (List Int)} {bs:List (List (List Int))} (h:∀ c∈b :: bs,Sq n c):zcw [.lst ((b :: bs).map fun b=>.lst (zaf b))]=some (.lst ((zaO n (b :: bs)).map fun b=>.lst (zaf b))):=by
 have e:((b :: bs).headD []).length=n:=(h b (by simp)).len
 show (zdj ((b :: bs).map fun b=>.lst (zaf b))).bind _=_
 rw [zfe]
 show (if _ then _ else _)=_
 rw [e,if_pos ?_]
 ·rfl
 ·simp only [Bool.and_eq_true,beq_iff_eq,List.all_eq_true]
  exact fun c hc=>⟨(h c hc).len,fun r hr=>(h c hc).row r hr⟩
noncomputable def kin8 (b:List (List Int)):List (List (List Int)):=[tur b,mir (tur b),tur (tur b),mir (tur (tur b)),tur (tur (tur b)),mir (tur (tur (tur b))),tur (tur (tur (tur b))),mir (tur (tur (tur (tur b))))]
theorem zkM {n:Nat} {b:List (List Int)} (h:Sq n b):∀ c∈kin8 b,Sq n c:=by
 have h1:=zcj h
 have h2:=zcj h1
 have h3:=zcj h2
 have h4:=zcj h3
 intro c hc
 simp only [kin8,List.mem_cons,List.not_mem_nil,or_false] at hc
 rcases hc with rfl | rfl | rfl | rfl | rfl | rfl | rfl | rfl
 ·exact h1
 ·exact zdD h1
 ·exact h2
 ·exact zdD h2
 ·exact h3
 ·exact zdD h3
 ·exact h4
 ·exact zdD h4
theorem zli {l:List Int} {i:Nat} {x:Int} (h:i < l.length) (k:Nat):at0 (l.set i x) k=if k=i then x else at0 l k:=by
 by_cases e:k=i
 ·subst e
  rw [if_pos rfl]
  unfold at0
  rw [List.getD_eq_getElem?_getD,List.getElem?_set_self h];rfl
 ·rw [if_neg e]
  unfold at0
  rw [List.getD_eq_getElem?_getD,List.getElem?_set_ne (fun q=>e q.symm),← List.getD_eq_getElem?_getD]
def zon (n h:Nat) (p o:List Int) (k:Nat):Prop:=Ord n o∧(∀ j,j < k→at0 o j + at0 o (n - 1 - j)=(n:Int) - 1∧(at0 o j=at0 p j∨at0 o j=(n:Int) - 1 - at0 p j))∧∀ i,k≤i→i + k < n→at0 o i=h
theorem ze6 {n h:Nat} {p o:List Int} {k:Nat} (hh:n / 2=h) (hk:k < h) (I:zon n h p o k) (x:Int) (x0:0≤x) (x1:x < n) (hx:x=at0 p k∨x=(n:Int) - 1 - at0 p k):zon n h p ((o.set k x).set (n - 1 - k) ((n:Int) - 1 - x)) (k + 1):=by
 obtain⟨I1,I2,I3⟩:=I
 have l1:k < o.length:=by rw [I1.len];lia
 have l2:n - 1 - k < (o.set k x).length:=by rw [List.length_set,I1.len];lia
 have A:∀ i,at0 ((o.set k x).set (n - 1 - k) ((n:Int) - 1 - x)) i=if i=n - 1 - k then (n:Int) - 1 - x else if i=k then x else at0 o i:=fun i=>by rw [zli l2,zli l1]
 refine ⟨(I1.set _ x0 x1).set _ (by lia) (by lia),fun j hj=>?_,fun i h1 h2=>?_⟩
 ·rw [A,A]
  by_cases q:j=k
  ·subst q
   rw [if_neg (by lia),if_pos rfl,if_pos rfl]
   exact⟨by lia,hx⟩
  ·have:=I2 j (by lia)
   rw [if_neg (by lia),if_neg q,if_neg (by lia),if_neg (by lia)]
   exact this
 ·rw [A,if_neg (by lia),if_neg (by lia)]
  exact I3 i (by lia) (by lia)
theorem zl7 (c:Int) (n:Nat) (h1:1≤n) (hn:n≤12):∃ o:List Int,zc8 [.sc (.int c),.sc (.int n)]=.ok (.lst (zai o))∧o.Perm (rngZ 0 n)∧∀ k,k < n→at0 o k + at0 o (n - 1 - k)=(n:Int) - 1:=by
 obtain⟨h,ed,hh⟩:∃ h:Nat,(n:Int) / 2=h∧n / 2=h:=⟨n / 2,by lia,rfl⟩
 obtain⟨p,ep,hpp⟩:=zif c (h:Int) (by lia) (by lia)
 rw [Int.toNat_natCast] at hpp
 have hp:=zid hpp
 obtain⟨ρ',e,x1,x2,o,rfl,ho⟩:=zcJ (gT:=gS 5) (B:=zci)
  (fun k ρ=>∃ (x1 x2:Option (Md×T)) (o:List Int),ρ=[some (.al,.sc (.int c)),some (.al,.sc (.int n)),some (.al,.sc (.int (h:Int))),some (.fu,.lst (zai p)),some (.fu,.lst (zai o)),x1,x2]∧zon n h p o k) h
  [some (.al,.sc (.int c)),some (.al,.sc (.int n)),some (.al,.sc (.int (h:Int))),some (.fu,.lst (zai p)),some (.fu,.lst (zai (List.replicate n (h:Int)))),none,none]
  ⟨none,none,_,rfl,⟨by simp,fun x hx=>by have:=List.eq_of_mem_replicate hx;lia⟩,fun j hj=>absurd hj (by lia),fun i _ hi=>by simp [at0,List.getD,show i < n by lia]⟩ (by
   rintro j ρ hj ⟨x1,x2,o,rfl,ho⟩
   refine ⟨_,rfl,?_⟩
   obtain⟨r,er,r0,r1⟩:=mix c (70 + j) 2 (by lia) (by lia) (by lia) (by lia)
   have g:=hp.get (i:=j) hj
   have c1:(j:Int) < (p.length:Int):=by rw [hp.len];lia
   have c2:(j:Int) < (o.length:Int):=by rw [ho.1.len];lia
   have c3:0≤(n:Int) - 1 - j:=by lia
   have c4:(n:Int) - 1 - j < o.length:=by rw [ho.1.len];lia
   by_cases hr:r=1
   ·exact⟨_,by simp [zci,er,hr,c1,c2];rw [zeZ c3 (by rw [List.length_set];exact c4),show ((n:Int) - 1 - j).toNat=n - 1 - j by lia];exact rfl,_,_,_,rfl,ze6 hh hj ho _ (by lia) (by lia) (.inr rfl)⟩
   ·exact⟨_,by simp [zci,er,hr,c1,c2];rw [zeZ c3 (by rw [List.length_set];exact c4),show ((n:Int) - 1 - j).toNat=n - 1 - j by lia];exact rfl,_,_,_,rfl,ze6 hh hj ho _ (by lia) (by lia) (.inl rfl)⟩)
 obtain⟨I1,I2,I3⟩:=ho
 have sym:∀ k,k < n→at0 o k + at0 o (n - 1 - k)=(n:Int) - 1:=fun k hk=>by
  by_cases q1:k < h
  ·exact (I2 k q1).1
  ·by_cases q2:n - 1 - k < h
   ·have:=(I2 _ q2).1
    rw [show n - 1 - (n - 1 - k)=k by lia] at this
    lia
   ·rw [I3 k (by lia) (by lia),I3 (n - 1 - k) (by lia) (by lia)]
    lia
 have mem:∀ k,k < n→at0 o k∈o:=fun k hk=>by
  have:k < o.length:=by rw [I1.len];exact hk
  unfold at0;simp [List.getD,this]
 have low:∀ v:Int,0≤v→v < h→v∈o∧(n:Int) - 1 - v∈o:=fun v v0 v1=>by
  have:v∈p:=hpp.mem_iff.mpr (zb9.mpr (by lia))
  obtain⟨j,hj,q⟩:=List.mem_iff_getElem.mp this
  have hj':j < h:=by rw [hp.len] at hj;exact hj
  have ev:at0 p j=v:=by unfold at0;simp [List.getD,hj,q]
  obtain⟨a,b⟩:=I2 j hj'
  rw [ev] at b
  have m1:=mem j (by lia)
  have m2:=mem (n - 1 - j) (by lia)
  rcases b with b | b
  ·rw [b] at m1 a
   rw [show at0 o (n - 1 - j)=(n:Int) - 1 - v by lia] at m2
   exact⟨m1,m2⟩
  ·rw [b] at m1 a
   rw [show at0 o (n - 1 - j)=v by lia] at m2
   exact⟨m2,m1⟩
 refine ⟨o,?_,zds (zeY 0 n) (fun v hv=>?_) (by rw [I1.len,zbN]),sym⟩
 ·simp [zc8,zgJ,zcz,ed,ep,show n≤1000 by lia,show h≤1000 by lia] at e ⊢
  simp [e]
 ·obtain⟨v0,v1⟩:=zb9.mp hv
  by_cases q1:v < h
  ·exact (low v v0 q1).1
  ·by_cases q2:(n:Int) - 1 - v < h
   ·have:=(low ((n:Int) - 1 - v) (by lia) q2).2
    rw [show (n:Int) - 1 - ((n:Int) - 1 - v)=v by lia] at this
    exact this
   ·have:=mem h (by lia)
    rw [I3 h (by lia) (by lia)] at this
    rw [show v=(h:Int) by lia]
    exact this
noncomputable def bs (n:Nat) (r c:Int):Int:=n * ((r + c + 1 + n / 2) % n) + (r + 2 * c + 1) % n + 1
noncomputable def bsB (n:Nat):List (List Int):=(List.range n).map fun (r:Nat)=>(List.range n).map fun (c:Nat)=>bs n r c
theorem zjj (n:Nat) (h1:1≤n) (hn:n≤12) (s:List Int) (ba:Int) (x7 x8:Option (Md×T)) (m3:Md) (hm3:m3≠.al):∃ ρ':SEnv,forL (gS 4) zch (zai (rngZ 0 n)) [some (.al,.scr s),some (.al,.sc (.int ba)),some (.al,.sc (.int n)),some (m3,.lst (zaf [])),none,none,none,x7,x8]=.nx ρ' ∧
  ∃ (x4 x5 x6:Option (Md×T)) (m:Md),ρ'=[some (.al,.scr s),some (.al,.sc (.int ba)),some (.al,.sc (.int n)),some (m,.lst (zaf (bsB n))),x4,x5,x6,x7,x8]∧m≠.al:=by
 refine zcJ (fun k ρ=>∃ (x4 x5 x6:Option (Md×T)) (m:Md),ρ=[some (.al,.scr s),some (.al,.sc (.int ba)),some (.al,.sc (.int n)),some (m,.lst (zaf ((List.range k).map fun (r:Nat)=>(List.range n).map fun (c:Nat)=>bs n r c))),x4,x5,x6,x7,x8]∧m≠.al) n _ ⟨_,_,_,_,rfl,hm3⟩ ?_
 rintro j ρ hj ⟨x4,x5,x6,m,rfl,hm⟩
 refine ⟨_,rfl,?_⟩
 have lb:((List.range j).map fun (r:Nat)=>(List.range n).map fun (c:Nat)=>bs n r c).length=j:=by simp
 have es:((List.range (j + 1)).map fun (r:Nat)=>(List.range n).map fun (c:Nat)=>bs n r c)=((List.range j).map fun (r:Nat)=>(List.range n).map fun (c:Nat)=>bs n r c) ++ [(List.range n).map fun (c:Nat)=>bs n j c]:=by rw [List.range_succ,List.map_append];rfl
 rw [es]
 generalize ((List.range j).map fun (r:Nat)=>(List.range n).map fun (c:Nat)=>bs n r c)=b at *
 obtain⟨ρ',e,y6,rfl⟩:=zcJ (gT:=gS 6) (B:=zcY)
  (fun k ρ=>∃ (x6:Option (Md×T)),ρ=[some (.al,.scr s),some (.al,.sc (.int ba)),some (.al,.sc (.int n)),some (m,.lst (zaf b)),some (.al,.sc (.int j)),some (.fu,.lst (zai ((List.range k).map fun (c:Nat)=>bs n j c))),x6,x7,x8]) n
  [some (.al,.scr s),some (.al,.sc (.int ba)),some (.al,.sc (.int n)),some (m,.lst (zaf b)),some (.al,.sc (.int j)),some (.fu,.lst (zai [])),x6,x7,x8] ⟨_,rfl⟩ (by
   rintro i ρ hi ⟨x6,rfl⟩
   refine ⟨_,rfl,?_⟩
   have hn0:(0:Int) < n:=by lia
   have m1:=zdw (i:=(n:Int)) (j:=((j:Int) + i + 1 + n / 2) % n) (.inl (by lia))
   have m2:=zdw (i:=2) (j:=(i:Int)) (.inl (by lia))
   have lr:((List.range i).map fun (c:Nat)=>bs n j c).length < 1000:=by simp;lia
   have er:((List.range (i + 1)).map fun (c:Nat)=>bs n j c)=((List.range i).map fun (c:Nat)=>bs n j c) ++ [(n:Int) * (((j:Int) + i + 1 + n / 2) % n) + ((j:Int) + 2 * i + 1) % n + 1]:=by rw [List.range_succ,List.map_append];rfl
   rw [er]
   generalize ((List.range i).map fun (c:Nat)=>bs n j c)=row at *
   exact⟨_,by simp [zcY,show 0 < n by lia,m1,m2,lr];exact rfl,_,rfl⟩)
 have a1:=zlm (i:=3) (M:=[false,false,false,false,false,true,false,false,false]) (m:=m) (b:=b) (r:=(List.range n).map fun (c:Nat)=>bs n j c) (ρ:=[some (.al,.scr s),some (.al,.sc (.int ba)),some (.al,.sc (.int n)),some (m,.lst (zaf b)),some (.al,.sc (.int j)),some (.fu,.lst (zai ((List.range n).map fun (c:Nat)=>bs n j c))),y6,x7,x8]) (by lia) hm (by simp)
 generalize ((List.range n).map fun (c:Nat)=>bs n j c)=row at *
 simp at e
 exact⟨_,by simp [zch,show n≤1000 by lia,e,a1];exact⟨rfl,rfl,rfl⟩,_,_,_,.sp,rfl,by decide⟩
theorem zkj {n:Nat} {b:List (List Int)} {o:List Int} (hn:n≤12) (hb:Sq n b) (ho:Ord n o) {F3 F4:VEnv→Res T} (e3:F3=fun ρ=>chk ((eOp oIx (eOp oIx (eVar 1) (eVar 2)) (eVar 0)) ρ)) (e4:F4=zbc [none,some 2,some 0] (iLst (eVar 1)) (gE 0) F3) :
  mapL (gE 0) F4 [none,some (.lst (zai o)),some (.lst (zaf b))] (zai o)=.ok (zaf (o.map fun i=>o.map fun j=>at0 (zaq b i.toNat) j.toNat)):=by
 subst e3;subst e4
 refine zdu _ _ fun i hi=>⟨_,rfl,?_⟩
 have hi:=ho.rng i hi
 simp
 rw [zej fun j=>at0 (zaq b i.toNat) j.toNat]
 ·simp [ho.len,show n≤1000 by lia]
 ·intro j hj
  have hj:=ho.rng j hj
  have g1:i < (b.length:Int):=by rw [hb.len];lia
  have g2:j < ((zaq b i.toNat).length:Int):=by rw [hb.get (by lia)];lia
  exact⟨_,rfl,by simp [hi.1,hj.1,g1,g2]⟩
theorem zlE {n:Nat} {b:List (List Int)} (hb:Sq n b):mapL (gE 0) zc1 [none] (zaf b)=.ok (zaf (b.map List.reverse))∧Sq n (b.map List.reverse):=
 ⟨zdt _ _ fun r hr=>⟨_,rfl,by simp [zc1]⟩,hb.mapR fun r hr=>by rw [List.length_reverse];exact hb.row r hr⟩
noncomputable def tr2 (n:Nat) (b:List (List Int)):List (List Int):=(rngZ 0 n).map fun i=>(rngZ 0 n).map fun j=>at0 (zaq b j.toNat) i.toNat
theorem zfZ (n:Nat) (b:List (List Int)):Sq n (tr2 n b):=Sq.map (by simp) fun i hi=>by simp
theorem zh3 {n:Nat} {b:List (List Int)} {R C:Nat} (hR:R < n) (hC:C < n):C2 (tr2 n b) R C=C2 b C R:=by
 unfold C2 tr2 zaq at0 rngZ
 simp [List.getD,hR,hC]
theorem zfY {n:Nat} {b:List (List Int)} (hn:n≤12) (hb:Sq n b):mapL (gE 0) zc0 [none,some (.sc (.int n)),some (.lst (zaf b))] (zai (rngZ 0 n))=.ok (zaf (tr2 n b)):=by
 refine zdu _ _ fun i hi=>⟨_,rfl,?_⟩
 have hi:=zbM hi
 simp [zc0,show n≤1000 by lia]
 rw [zej fun j=>at0 (zaq b j.toNat) i.toNat]
 ·simp [show n≤1000 by lia]
 ·intro j hj
  have hj:=zbM hj
  have g1:j < (b.length:Int):=by rw [hb.len];lia
  have g2:i < ((zaq b j.toNat).length:Int):=by rw [hb.get (by lia)];lia
  exact⟨_,rfl,by simp [zeN,hi.1,hj.1,g1,g2]⟩
theorem zdg {n:Nat} {b:List (List Int)} (hn:n≤12) (hb:Sq n b):mapL (gE 0) zcZ [none,some (.sc (.int n))] (zaf b)=.ok (zaf (dwn b)):=by
 refine zdt _ _ fun r hr=>⟨_,rfl,?_⟩
 rw [hb.len]
 simp [zcZ]
 rw [zej fun x=>(n:Int) * n + 1 - x]
 ·simp [hb.row r hr,show n≤1000 by lia]
 ·exact fun x hx=>⟨_,rfl,by simp [zeM,zdw (i:=(n:Int)) (j:=n) (.inl (by lia))]⟩
theorem zi5 (A B C:SEnv→SRes):sSeq A (sSeq B C)=sSeq (sSeq A B) C:=by
 funext ρ
 show (A ρ).then (fun ρ=>(B ρ).then C)=((A ρ).then B).then C
 cases A ρ <;> rfl
noncomputable def hv4:List (List Int):=[[16,2,3,13],[5,11,10,8],[9,7,6,12],[4,14,15,1]]
theorem zcc (s:List Int) (k n:Nat) (s0:Int) (h1:1≤n) (hn:n≤12) (ho:n % 2=1∧Lk n s0 (bsB n)∨n=4∧Lk 4 s0 hv4):∃ (b:List (List Int)) (t:Int),zbG [.scr s,.sc (.int k),.sc (.int n)]=.ok (.lst (zaf b))∧Lk n t b:=by
 obtain⟨o,eo,hop,hof⟩:=zl7 (zdH s k) n h1 hn
 have hO:=zid hop
 have c1:=zfS s k
 have c2:=zfS s (k + 1)
 rw [show ((k + 1:Nat):Int)=(k:Int) + 1 by lia] at c2
 have first:∃ (x4 x5 x6:Option (Md×T)) (m:Md) (b:List (List Int)),(sSeq (sSet 3 [false,false,false,false,false,false,false,false,false] (eLst (zah (eLst (zah (eC (.int 16)) (zah (eC (.int 2)) (zah (eC (.int 3)) (zah (eC (.int 13)) aNil))))) (zah (eLst (zah (eC (.int 5)) (zah (eC (.int 11)) (zah (eC (.int 10)) (zah (eC (.int 8)) aNil))))) (zah (eLst (zah (eC (.int 9)) (zah (eC (.int 7)) (zah (eC (.int 6)) (zah (eC (.int 12)) aNil))))) (zah (eLst (zah (eC (.int 4)) (zah (eC (.int 14)) (zah (eC (.int 15)) (zah (eC (.int 1)) aNil))))) aNil))))))
   (sIf [false,false,true,false,false,false,false,false,false] (eB (eOp (oEq) (eOp (oI iMod) (eVar 2) (eC (.int 2))) (eC (.int 1)))) (sSeq (sSet 3 [false,false,false,false,false,false,false,false,false] (eLst aNil))
    (sFor [false,false,true,false,false,false,false,false,false] (iRng rng1 (zah (eVar 2) aNil)) (gS 4) zch)) sNil))
   [some (.al,.scr s),some (.al,.sc (.int k)),some (.al,.sc (.int n)),none,none,none,none,none,none]=.nx [some (.al,.scr s),some (.al,.sc (.int k)),some (.al,.sc (.int n)),some (m,.lst (zaf b)),x4,x5,x6,none,none]∧m≠.al∧Lk n s0 b:=by
  rcases ho with ⟨hodd,hl⟩ | ⟨hn4,hl⟩
  ·obtain⟨ρ',e,x4,x5,x6,m,rfl,hm⟩:=zjj n h1 hn s k none none .fu (by decide)
   refine ⟨x4,x5,x6,m,_,?_,hm,hl⟩
   simp at e
   simp [show (n:Int) % 2=1 by lia,show n≤1000 by lia,e]
  ·subst hn4
   refine ⟨none,none,none,.fu,[[16,2,3,13],[5,11,10,8],[9,7,6,12],[4,14,15,1]],?_,by decide,hl⟩
   simp
 obtain⟨x4,x5,x6,m,b,e1,hm,kb⟩:=first
 have hb:=kb.sq
 have p1:=zkj hn hb hO (F3:=zeP) (F4:=zeO) rfl rfl
 have hb1:Sq n (o.map fun i=>o.map fun j=>at0 (zaq b i.toNat) j.toNat):=Sq.map hO.len fun x _=>by rw [List.length_map,hO.len]
 have kb1:Lk n s0 (o.map fun i=>o.map fun j=>at0 (zaq b i.toNat) j.toNat):=kb.pick hop hof hb1 fun R C hR hC=>by
  have r1:R < o.length:=by rw [hO.len];exact hR
  have c1:C < o.length:=by rw [hO.len];exact hC
  unfold C2 zaq at0
  simp [List.getD,r1,c1]
 generalize (o.map fun i=>o.map fun j=>at0 (zaq b i.toNat) j.toNat)=b1 at p1 hb1 kb1
 have ⟨p2,hb2⟩:=zlE hb1
 have kb2:Lk n s0 (b1.map List.reverse):=zpi kb1
 generalize b1.map List.reverse=b2 at p2 hb2 kb2
 have hb3:=zfZ n b1
 have kb3:=kb1.tra hb3 fun R C hR hC=>zh3 hR hC
 have p3:=zfY hn hb1
 generalize tr2 n b1=b3 at hb3 kb3 p3
 have hb4:=zfZ n b2
 have kb4:=kb2.tra hb4 fun R C hR hC=>zh3 hR hC
 have p4:=zfY hn hb2
 generalize tr2 n b2=b4 at hb4 kb4 p4
 have d1:=zdg hn hb1
 have hd1:=zgs hb1
 have kd1:=ziC kb1
 have d2:=zdg hn hb2
 have hd2:=zgs hb2
 have kd2:=ziC kb2
 have d3:=zdg hn hb3
 have hd3:=zgs hb3
 have kd3:=ziC kb3
 have d4:=zdg hn hb4
 have hd4:=zgs hb4
 have kd4:=ziC kb4
 generalize dwn b1=c1' at d1 hd1 kd1
 generalize dwn b2=c2' at d2 hd2 kd2
 generalize dwn b3=c3' at d3 hd3 kd3
 generalize dwn b4=c4' at d4 hd4 kd4
 have l1:∀ {b:List (List Int)},Sq n b→b.length≤1000:=fun h=>by rw [h.len];lia
 have e0:zbG [.scr s,.sc (.int k),.sc (.int n)]=fin .fu (zeF [some (.al,.scr s),some (.al,.sc (.int k)),some (.al,.sc (.int n)),none,none,none,none,none,none]):=rfl
 rw [e0]
 unfold zeF
 rw [show zdI=sSeq _ zdJ from rfl,zi5,zm9]
 erw [e1]
 by_cases q1:zdH s (k + 1) % 2=1 <;> by_cases q2:zdH s (k + 1) / 2 % 2=1 <;> by_cases q3:zdH s (k + 1) / 4 % 2=1
 ·exact⟨c4',_,by simp [c1,c2,eo,p1,p2,p4,d4,q1,q2,q3,l1 hb1,l1 hb2,l1 hb4,l1 hd4,show n≤1000 by lia],kd4⟩
 ·exact⟨b4,_,by simp [c1,c2,eo,p1,p2,p4,q1,q2,q3,l1 hb1,l1 hb2,l1 hb4,show n≤1000 by lia],kb4⟩
 ·exact⟨c2',_,by simp [c1,c2,eo,p1,p2,d2,q1,q2,q3,l1 hb1,l1 hb2,l1 hd2,show n≤1000 by lia],kd2⟩
 ·exact⟨b2,_,by simp [c1,c2,eo,p1,p2,q1,q2,q3,l1 hb1,l1 hb2,show n≤1000 by lia],kb2⟩
 ·exact⟨c3',_,by simp [c1,c2,eo,p1,p3,d3,q1,q2,q3,l1 hb1,l1 hb3,l1 hd3,show n≤1000 by lia],kd3⟩
 ·exact⟨b3,_,by simp [c1,c2,eo,p1,p3,q1,q2,q3,l1 hb1,l1 hb3,show n≤1000 by lia],kb3⟩
 ·exact⟨c1',_,by simp [c1,c2,eo,p1,d1,q1,q2,q3,l1 hb1,l1 hd1,show n≤1000 by lia],kd1⟩
 ·exact⟨b1,_,by simp [c1,c2,eo,p1,q1,q2,q3,l1 hb1,show n≤1000 by lia],kb1⟩
noncomputable def lkB (n:Nat) (s:Int) (b:List (List Int)):Bool:=b.length == n && b.all (fun r=>r.length == n) && (rngZ 1 (n * n)).all (fun v=>b.flatten.contains v) && (List.range n).all (fun R=>sumN n (fun C=>C2 b R C) == s) && (List.range n).all (fun C=>sumN n (fun R=>C2 b R C) == s) && sumN n (fun k=>C2 b k k) == s && sumN n (fun k=>C2 b k (n - 1 - k)) == s
theorem zhe {n:Nat} {s:Int} {b:List (List Int)} (h:lkB n s b=true):Lk n s b:=by
 unfold lkB at h
 simp only [Bool.and_eq_true,beq_iff_eq,List.all_eq_true,List.contains_iff_mem] at h
 obtain⟨⟨⟨⟨⟨⟨h1,h2⟩,h3⟩,h4⟩,h5⟩,h6⟩,h7⟩:=h
 refine ⟨⟨h1,h2⟩,fun v v0 v1=>?_,fun R hR=>h4 R (List.mem_range.mpr hR),fun C hC=>h5 C (List.mem_range.mpr hC),h6,h7⟩
 obtain⟨r,hr,hv⟩:=List.mem_flatten.mp (h3 v (zb9.mpr ⟨v0,v1⟩))
 obtain⟨R,hR,eR⟩:=List.mem_iff_getElem.mp hr
 obtain⟨C,hC,eC⟩:=List.mem_iff_getElem.mp hv
 refine ⟨R,C,by lia,by rw [h2 r hr] at hC;exact hC,?_⟩
 subst eR
 unfold C2 zaq at0
 simp [List.getD,hR,hC,eC]
theorem zmi (c:Int) (n:Nat) (h1:1≤n) (hn:n≤12):∃ b:List (List Int),zcE [.sc (.int c),.sc (.int n)]=.ok (.lst (zaf b))∧Fl n b:=by
 have hs:=zqy hn
 have hs0:(0:Int)≤(n:Int) * n:=Int.mul_nonneg (by lia) (by lia)
 obtain⟨p,e,hp⟩:=zif c ((n:Int) * n) hs0 (by lia)
 have hl:p.length=n * n:=by
  have:=hp.length_eq
  rw [zbN] at this
  rw [this]
  exact_mod_cast Int.toNat_natCast (n * n)
 have b1:(-4611686018427387904:Int)≤n:=by lia
 have b2:(n:Int) < 4611686018427387904:=by lia
 have b3:∀ j:Int,(-(2 ^ 64) < j∧j < 2 ^ 64)∨(-(2 ^ 64) < (n:Int)∧(n:Int) < 2 ^ 64):=fun j=>.inr (by lia)
 have bz:n * n≤144:=by exact_mod_cast hs
 refine ⟨(rngZ 0 n).map fun k=>cutZ (p.map (· + 1)) (some (k * n)) (some ((k + 1) * n)),?_,?_⟩
 ·simp [zcE,zfi,zb0,b1,b2,e,zdw (b3 _)]
  rw [zej (· + 1)]
  ·simp [hl,show n * n≤1000 by lia,show n≤1000 by lia]
   rw [zdu (fun k=>cutZ (p.map (· + 1)) (some (k * n)) (some ((k + 1) * n)))]
   ·simp [show n≤1000 by lia]
   ·exact fun x hx=>⟨_,rfl,by simp [zdK,zdw (b3 _)]⟩
  ·exact fun x hx=>⟨_,rfl,by simp [zdL]⟩
 ·have hq:Sq n ((rngZ 0 n).map fun k=>cutZ (p.map (· + 1)) (some (k * n)) (some ((k + 1) * n))):=by
   refine Sq.map (by simp) fun k hk=>?_
   obtain⟨h0,h3⟩:=zbM hk
   obtain⟨j,rfl⟩:=Int.eq_ofNat_of_zero_le h0
   unfold cutZ
   have e1:((j:Int) * n)=((j * n:Nat):Int):=by simp
   have e2:(((j:Int) + 1) * n)=(((j + 1) * n:Nat):Int):=by simp
   rw [e1,e2,HT.sIx_nat,HT.sIx_nat]
   have q1:(j + 1) * n≤n * n:=Nat.mul_le_mul_right n (by lia)
   have q2:(j + 1) * n=j * n + n:=Nat.succ_mul j n
   have q3:j * n≤n * n:=Nat.mul_le_mul_right n (by lia)
   rw [List.length_take,List.length_drop,List.length_map,hl,Nat.min_eq_left q1,Nat.min_eq_left q3]
   lia
  refine ⟨hq,fun v v1 v2=>?_⟩
  have hN:(((n:Int) * n).toNat:Int)=((n * n:Nat):Int):=by
   rw [Int.toNat_of_nonneg hs0];exact (Int.natCast_mul n n).symm
  have hm:v - 1∈p:=hp.mem_iff.mpr (zb9.mpr ⟨by lia,by lia⟩)
  obtain⟨k,hk,ek⟩:=List.mem_iff_getElem.mp hm
  rw [hl] at hk
  have hkn:k / n < n:=Nat.div_lt_of_lt_mul hk
  have hkm:k % n < n:=Nat.mod_lt _ (by lia)
  refine ⟨k / n,k % n,hkn,hkm,?_⟩
  have er:zaq ((rngZ 0 n).map fun k=>cutZ (p.map (· + 1)) (some (k * n)) (some ((k + 1) * n))) (k / n)=((p.map (· + 1)).drop (k / n * n)).take n:=by
   unfold zaq
   rw [ziu (d:=(0:Int)) (h:=by rw [zbN];exact hkn)]
   have e0:(rngZ 0 n).getD (k / n) 0=((k / n:Nat):Int):=by unfold rngZ;simp [List.getD,hkn]
   rw [e0]
   unfold cutZ
   have e1:(((k / n:Nat):Int) * n)=((k / n * n:Nat):Int):=by simp
   have e2:((((k / n:Nat):Int) + 1) * n)=(((k / n + 1) * n:Nat):Int):=by simp
   rw [e1,e2,HT.sIx_nat,HT.sIx_nat]
   have q1:(k / n + 1) * n≤n * n:=Nat.mul_le_mul_right n (by lia)
   have q2:(k / n + 1) * n=k / n * n + n:=Nat.succ_mul _ n
   have q3:k / n * n≤n * n:=Nat.mul_le_mul_right n (by lia)
   rw [List.length_map,hl,Nat.min_eq_left q1,Nat.min_eq_left q3,q2,Nat.add_sub_cancel_left]
  unfold C2
  rw [er]
  unfold at0
  have e3:k / n * n + k % n=k:=zjr n k
  rw [List.getD_eq_getElem?_getD,List.getElem?_take_of_lt hkm,List.getElem?_drop,e3,List.getElem?_map,List.getElem?_eq_getElem (by rw [hl];exact hk),ek]
  simp
theorem tur4 {n:Nat} {b:List (List Int)} (h:Sq n b):tur (tur (tur (tur b)))=b:=by
 have h1:=zcj h
 have h2:=zcj h1
 have h3:=zcj h2
 refine zh6 (zcj h3) h fun R C hR hC=>?_
 show C2 (tur (tur (tur (tur b)))) R C=C2 b R C
 rw [zcl h3 hR hC,zcl h2 (by lia) hR,zcl h1 (by lia) (by lia),zcl h (by lia) (by lia)]
 congr 1 <;> lia
theorem mir2 {n:Nat} {b:List (List Int)} (h:Sq n b):mir (mir b)=b:=by
 unfold mir
 rw [List.map_map]
 conv=>rhs;rw [← List.map_id b]
 exact List.map_congr_left fun r _=>List.reverse_reverse r
theorem zi0 {n:Nat} {as bs:List (List (List Int))} (hs:∀ b∈as,Sq n b) (p:as.Perm bs):zaO n as=zaO n bs:=by
 have hD:∀ b∈as,Shp n b:=fun b hb=>⟨(hs b hb).len,(hs b hb).row⟩
 have s1:=zbL hD as fun b hb=>hb
 have s2:=zbL hD bs fun b hb=>p.mem_iff.mpr hb
 have q:(zaO n as).Perm (zaO n bs):=((zaI n as).trans p).trans (zaI n bs).symm
 refine q.eq_of_pairwise (fun x y hx hy h g=>?_) s1 s2
 exact @zj9 _ _ (ziq n) (zio n) (Shp n) (fun a b=>zhd a b) as hD x y ((zaI n as).mem_iff.mp hx) (p.mem_iff.mpr ((zaI n bs).mem_iff.mp hy)) (Nat.le_antisymm h g)
theorem zm7 (i:Int) (h0:0≤i) (h1:i < 7):∃ n:Nat,(n=1∨n=3∨n=4∨n=5∨n=7∨n=9∨n=11)∧atI ([.sc (.int 1),.sc (.int 3),.sc (.int 4),.sc (.int 5),.sc (.int 7),.sc (.int 9),.sc (.int 11)]:List T) i=some (.sc (.int n)):=by
 rcases (show i=0∨i=1∨i=2∨i=3∨i=4∨i=5∨i=6 by lia) with h | h | h | h | h | h | h <;> rw [h]
 ·exact⟨1,by lia,rfl⟩
 ·exact⟨3,by lia,rfl⟩
 ·exact⟨4,by lia,rfl⟩
 ·exact⟨5,by lia,rfl⟩
 ·exact⟨7,by lia,rfl⟩
 ·exact⟨9,by lia,rfl⟩
 ·exact⟨11,by lia,rfl⟩
theorem zq8 {n:Nat} {s:Int} {b:List (List Int)} (h:Lk n s b):Fl n b:=⟨h.sq,h.sur⟩
theorem zkL (s:List Int) (k n:Nat) (h:n=1∨n=3∨n=4∨n=5∨n=7∨n=9∨n=11):∃ b:List (List Int),zbG [.scr s,.sc (.int k),.sc (.int n)]=.ok (.lst (zaf b))∧Fl n b:=by
 have:∃ (b:List (List Int)) (t:Int),zbG [.scr s,.sc (.int k),.sc (.int n)]=.ok (.lst (zaf b))∧Lk n t b:=by
  rcases h with rfl | rfl | rfl | rfl | rfl | rfl | rfl
  ·exact zcc s k 1 1 (by lia) (by lia) (.inl ⟨rfl,zhe (by decide +kernel)⟩)
  ·exact zcc s k 3 15 (by lia) (by lia) (.inl ⟨rfl,zhe (by decide +kernel)⟩)
  ·exact zcc s k 4 34 (by lia) (by lia) (.inr ⟨rfl,zhe (by decide +kernel)⟩)
  ·exact zcc s k 5 65 (by lia) (by lia) (.inl ⟨rfl,zhe (by decide +kernel)⟩)
  ·exact zcc s k 7 175 (by lia) (by lia) (.inl ⟨rfl,zhe (by decide +kernel)⟩)
  ·exact zcc s k 9 369 (by lia) (by lia) (.inl ⟨rfl,zhe (by decide +kernel)⟩)
  ·exact zcc s k 11 671 (by lia) (by lia) (.inl ⟨rfl,zhe (by decide +kernel)⟩)
 obtain⟨b,t,e,h⟩:=this
 exact⟨b,e,zq8 h⟩
theorem zpF {n:Nat} {b:List (List Int)} (h1:1≤n) (h:Fl n b):Fl n (b.drop 1 ++ b.take 1):=by
 have hl:=h.sq.len
 have sq:Sq n (b.drop 1 ++ b.take 1):=⟨by rw [List.length_append,List.length_drop,List.length_take,hl];lia,fun r hr=>by
  rcases List.mem_append.mp hr with hr | hr
  ·exact h.sq.row r (List.mem_of_mem_drop hr)
  ·exact h.sq.row r (List.mem_of_mem_take hr)⟩
 refine ⟨sq,fun v v1 v2=>?_⟩
 obtain⟨R,C,hR,hC,e⟩:=h.sur v v1 v2
 have at_:∀ k,k < n→zaq (b.drop 1 ++ b.take 1) k=if k + 1 < n then zaq b (k + 1) else zaq b 0:=fun k hk=>by
  unfold zaq
  rw [List.getD_eq_getElem?_getD,List.getD_eq_getElem?_getD,List.getD_eq_getElem?_getD]
  by_cases q:k + 1 < n
  ·rw [if_pos q,List.getElem?_append_left (by rw [List.length_drop,hl];lia),List.getElem?_drop,Nat.add_comm 1 k]
  ·rw [if_neg q,List.getElem?_append_right (by rw [List.length_drop,hl];lia),List.length_drop,hl,show k - (n - 1)=0 by lia,List.getElem?_take_of_lt (by lia)]
 by_cases q:R=0
 ·subst q
  exact⟨n - 1,C,by lia,hC,by unfold C2;rw [at_ _ (by lia),if_neg (by lia)];exact e⟩
 ·exact⟨R - 1,C,by lia,hC,by unfold C2;rw [at_ _ (by lia),if_pos (by lia),show R - 1 + 1=R by lia];exact e⟩
theorem znT {n:Nat} {b:List (List Int)} (h:Fl n b) {r d o:Nat} (hr:r < n) (hd:d < n) (ho:o < n):Fl n ((b.set r ((zaq b r).set d (at0 (zaq b r) o))).set r ((zaq (b.set r ((zaq b r).set d (at0 (zaq b r) o))) r).set o (at0 (zaq b r) d))):=by
 have s1:Sq n (b.set r ((zaq b r).set d (at0 (zaq b r) o))):=h.sq.put
 have A:=zmw s1 hr ho (at0 (zaq b r) d)
 have B:=zmw h.sq hr hd (at0 (zaq b r) o)
 refine ⟨s1.put,fun v v1 v2=>?_⟩
 obtain⟨R,C,hR,hC,e⟩:=h.sur v v1 v2
 unfold C2 at e ⊢
 by_cases q1:R=r∧C=d
 ·obtain⟨rfl,rfl⟩:=q1
  exact⟨R,o,hR,ho,by rw [A,if_pos ⟨rfl,rfl⟩];exact e⟩
 ·by_cases q2:R=r∧C=o
  ·obtain⟨rfl,rfl⟩:=q2
   by_cases q3:d=C
   ·subst q3
    exact absurd ⟨rfl,rfl⟩ q1
   ·exact⟨R,d,hR,hd,by rw [A,if_neg (fun w=>q3 w.2),B,if_pos ⟨rfl,rfl⟩];exact e⟩
  ·exact⟨R,C,hR,hC,by rw [A,if_neg q2,B,if_neg q1];exact e⟩
noncomputable def trn (n:Nat) (b:List (List Int)):List (List Int):=(rngZ 0 n).map fun i=>b.map fun r=>at0 r i.toNat
theorem zmr {n:Nat} {b:List (List Int)} (h:Sq n b):Sq n (trn n b):=Sq.map (by simp) fun i hi=>by rw [List.length_map,h.len]
theorem zoA {n:Nat} {b:List (List Int)} (h:Sq n b) {R C:Nat} (hR:R < n) (hC:C < n):C2 (trn n b) R C=C2 b C R:=by
 have hC':C < b.length:=by rw [h.len];exact hC
 unfold C2 trn zaq at0 rngZ
 simp [List.getD,hR,hC']
theorem zpE {n:Nat} {b:List (List Int)} (h:Fl n b):Fl n (trn n b):=⟨zmr h.sq,fun v v1 v2=>by
 obtain⟨R,C,hR,hC,e⟩:=h.sur v v1 v2
 exact⟨C,R,hC,hR,by rw [zoA h.sq hC hR];exact e⟩⟩
theorem zmd {n:Nat} {b:List (List Int)} (hn:n≤12) (hb:Sq n b):mapL (gE 0) zdz [none,some (.lst (zaf b))] (zai (rngZ 0 n))=.ok (zaf (trn n b)):=by
 refine zdu _ _ fun i hi=>⟨_,rfl,?_⟩
 have hi:=zbM hi
 simp [zdz]
 rw [zkF fun r=>at0 r i.toNat]
 ·simp [hb.len,show n≤1000 by lia]
 ·intro r hr
  have g2:i < (r.length:Int):=by rw [hb.row r hr];lia
  exact⟨_,rfl,by simp [zfl,hi.1,g2]⟩
theorem zpT (s:List Int) (k:Nat):∃ (n:Nat) (b:List (List Int)),zdY [.scr s,.sc (.int k)]=.ok (.lst (zaf b))∧1≤n∧n≤12∧Fl n b:=by
 have c2:=zfS s (k + 2)
 have c3:=zfS s (k + 3)
 rw [show ((k + 2:Nat):Int)=(k:Int) + 2 by lia] at c2
 rw [show ((k + 3:Nat):Int)=(k:Int) + 3 by lia] at c3
 generalize zdH s (k + 2)=c at c2
 have e0:zdY [.scr s,.sc (.int k)]=fin .al (zdk [some (.al,.scr s),some (.al,.sc (.int k)),none,none,none,none,none,none,none]):=rfl
 rw [e0]
 by_cases q0:c % 3=0
 ·obtain⟨n,h3,e⟩:=zm7 (c / 3 % 7) (by lia) (by lia)
  obtain⟨b,eb,hb⟩:=zkL s k n h3
  exact⟨n,b,by simp [zdk,c2,q0,e,eb],by lia,by lia,hb⟩
 ·obtain⟨n,en⟩:∃ n:Nat,1 + c / 3 % 12=(n:Int):=⟨(1 + c / 3 % 12).toNat,by lia⟩
  have h1:1≤n:=by lia
  have h2:n≤12:=by lia
  obtain⟨b0,eb0,hb0⟩:=zmi (zdH s (k + 3)) n h1 h2
  rw [show zdk [some (.al,.scr s),some (.al,.sc (.int k)),none,none,none,none,none,none,none]=zcg [some (.al,.scr s),some (.al,.sc (.int k)),some (.fu,.sc (.int c)),some (.fu,.sc (.int n)),some (.fu,.lst (zaf b0)),none,none,none,none] by simp [zdk,c2,c3,q0,en,eb0,-zcg]]
  by_cases q1:c % 3=2∧n % 2=1
  ·obtain⟨q1,q2⟩:=q1
   have q2':(n:Int) % 2=1:=by lia
   obtain⟨b,eb,hbF⟩:=zkL s k n (by lia)
   have hb:=hbF.sq
   rw [show zcg [some (.al,.scr s),some (.al,.sc (.int k)),some (.fu,.sc (.int c)),some (.fu,.sc (.int n)),some (.fu,.lst (zaf b0)),none,none,none,none]=(zcW [some (.al,.scr s),some (.al,.sc (.int k)),some (.fu,.sc (.int c)),some (.fu,.sc (.int n)),some (.fu,.lst (zaf b)),none,none,none,none]).then (zfx 4) by simp [q1,q2',eb,-zcW]]
   by_cases q3:c / 36 % 3=1
   ·refine ⟨n,b.drop 1 ++ b.take 1,?_,h1,h2,zpF h1 hbF⟩
    ·have a1:=zmc b 1 (by rw [hb.len];lia)
     have a2:=zpL b 1 (by rw [hb.len];lia)
     simp at a1 a2
     simp [q3,a1,a2]
     rw [zku (by rw [List.length_tail,List.length_take,hb.len];lia)]
     simp
   ·obtain⟨r,er,r0,r1⟩:∃ r:Int,c / 36 % n=r∧0≤r∧r < n:=⟨_,rfl,Int.emod_nonneg _ (by lia),Int.emod_lt_of_pos _ (by lia)⟩
    obtain⟨d,ed,d0,d1⟩:∃ r:Int,c / 500 % n=r∧0≤r∧r < n:=⟨_,rfl,Int.emod_nonneg _ (by lia),Int.emod_lt_of_pos _ (by lia)⟩
    obtain⟨o,eo,o0,o1⟩:∃ r:Int,c / 7000 % n=r∧0≤r∧r < n:=⟨_,rfl,Int.emod_nonneg _ (by lia),Int.emod_lt_of_pos _ (by lia)⟩
    have g1:r < (b.length:Int):=by rw [hb.len];lia
    have g2:d < ((zaq b r.toNat).length:Int):=by rw [hb.get (by lia)];lia
    have g3:o < ((zaq b r.toNat).length:Int):=by rw [hb.get (by lia)];lia
    have hF2:=znT hbF (r:=r.toNat) (d:=d.toNat) (o:=o.toNat) (by lia) (by lia) (by lia)
    have hb1:Sq n (b.set r.toNat ((zaq b r.toNat).set d.toNat (at0 (zaq b r.toNat) o.toNat))):=hb.put
    have p1:=fun ρ=>zed (i:=4) (b:=b) (x:=at0 (zaq b r.toNat) o.toNat) (k:=r) (j:=d) (ρ:=ρ) r0 g1 d0 g2
    generalize (b.set r.toNat ((zaq b r.toNat).set d.toNat (at0 (zaq b r.toNat) o.toNat)))=b1 at hb1 p1 hF2
    have g4:r < (b1.length:Int):=by rw [hb1.len];lia
    have g5:o < ((zaq b1 r.toNat).length:Int):=by rw [hb1.get (by lia)];lia
    have hb2:Sq n (b1.set r.toNat ((zaq b1 r.toNat).set o.toNat (at0 (zaq b r.toNat) d.toNat))):=hb1.put
    have p2:=fun ρ=>zed (i:=4) (b:=b1) (x:=at0 (zaq b r.toNat) d.toNat) (k:=r) (j:=o) (ρ:=ρ) r0 g4 o0 g5
    generalize (b1.set r.toNat ((zaq b1 r.toNat).set o.toNat (at0 (zaq b r.toNat) d.toNat)))=b2 at hb2 p2 hF2
    have p3:=zmd h2 hb2
    have hb3:=zmr hb2
    by_cases q4:c / 50000 % 2=1
    ·exact⟨n,trn n b2,by simp [q3,show 0 < n by lia,er,ed,eo,r0,g1,d0,g2,o0,g3,p1,p2,q4,p3,show n≤1000 by lia,hb3.len],h1,h2,zpE hF2⟩
    ·exact⟨n,b2,by simp [q3,show 0 < n by lia,er,ed,eo,r0,g1,d0,g2,o0,g3,p1,p2,q4],h1,h2,hF2⟩
  ·have:¬ (c % 3=2∧(n:Int) % 2=1):=by lia
   refine ⟨n,b0,?_,h1,h2,hb0⟩
   by_cases q2:c % 3=2
   ·simp [q2,show ¬ (n:Int) % 2=1 by lia]
   ·simp [q2]
noncomputable abbrev bdsT (bs:List (List (List Int))):List T:=bs.map fun b=>.lst (zaf b)
theorem zmJ {n:Nat} {b:List (List Int)} (h:Fl n b) (h1:1≤n) (hn:n≤12):zkG [.lst (zaf b)]=.ok (.lst (bdsT (zaO n (kin8 b)))):=by
 have f1:=ziw h
 have f2:=ziw f1
 have f3:=ziw f2
 have f4:=ziw f3
 have a1:=zc4 (h.bd h1 hn)
 have a2:=zc4 (f1.bd h1 hn)
 have a3:=zc4 (f2.bd h1 hn)
 have a4:=zc4 (f3.bd h1 hn)
 have b1:=zb7 (f1.bd h1 hn)
 have b2:=zb7 (f2.bd h1 hn)
 have b3:=zb7 (f3.bd h1 hn)
 have b4:=zb7 (f4.bd h1 hn)
 have st:=zh7 (zkM h.sq)
 have kl:kinL zc9 zbV 4 (.lst (zaf b))=.ok (bdsT (kin8 b)):=by
  unfold kinL
  rw [a1,Res.bind_ok,b1,Res.bind_ok]
  unfold kinL
  rw [a2,Res.bind_ok,b2,Res.bind_ok]
  unfold kinL
  rw [a3,Res.bind_ok,b3,Res.bind_ok]
  unfold kinL
  rw [a4,Res.bind_ok,b4,Res.bind_ok]
  rfl
 simp [zkG,zpX,zlv,kl]
 rw [show zcw [.lst (List.map (fun b=>T.lst (zaf b)) (kin8 b))]=_ from st]
 simp
 rfl
theorem zl6 {n:Nat} {b:List (List Int)} (h:Fl n b) (h1:1≤n) (hn:n≤12):∃ c cs,zaO n (kin8 b)=c :: cs∧zcb [.lst (zaf b)]=.ok (.lst (zaf c)):=by
 have l:(zaO n (kin8 b)).length=8:=(zaI n (kin8 b)).length_eq
 have k:=zmJ h h1 hn
 cases q:zaO n (kin8 b) with
 | nil=>rw [q] at l;cases l
 | cons c cs =>
  rw [q] at k
  exact⟨c,cs,rfl,by simp [zcb,zeH,zbJ,k]⟩
noncomputable def wayB (n:Nat) (b:List (List Int)) (w:Nat):List (List Int):=
 let b0:=if w / 4=1 then tr2 n b else b
 let b1:=if w / 2 % 2=1 then b0.reverse else b0
 if w % 2=1 then b1.map List.reverse else b1
theorem zf9 {n:Nat} {b:List (List Int)} (h:Sq n b):Sq n b.reverse:=⟨by rw [List.length_reverse];exact h.len,fun r hr=>h.row r (List.mem_reverse.mp hr)⟩
theorem zmv {n:Nat} {b:List (List Int)} (h:Sq n b) {R C:Nat} (hR:R < n):C2 b.reverse R C=C2 b (n - 1 - R) C:=by
 unfold C2 zaq
 rw [List.getD_eq_getElem?_getD,List.getElem?_reverse (by rw [h.len];exact hR),← List.getD_eq_getElem?_getD,h.len]
theorem zm0 {n:Nat} {b:List (List Int)} (h:Sq n b) (w:Nat):Sq n (wayB n b w):=by
 unfold wayB
 have s0:Sq n (if w / 4=1 then tr2 n b else b):=by split;exact zfZ n b;exact h
 have s1:Sq n (if w / 2 % 2=1 then (if w / 4=1 then tr2 n b else b).reverse else (if w / 4=1 then tr2 n b else b)):=by split;exact zf9 s0;exact s0
 dsimp only
 split
 ·exact zdD s1
 ·exact s1
theorem zjK {n:Nat} {b:List (List Int)} (h:Sq n b):((List.range 8).map (wayB n b)).Perm (kin8 b):=by
 have h1:=zcj h
 have h2:=zcj h1
 have h3:=zcj h2
 have ht:=zfZ n b
 have e4:tr2 n b=mir (tur b):=zh6 ht (zdD h1) fun R C hR hC=>by
  show C2 (tr2 n b) R C=C2 (mir (tur b)) R C
  rw [zh3 hR hC,zkC h1 hR hC,zcl h hR (by lia)]
  congr 1;lia
 have e2:b.reverse=mir (tur (tur b)):=zh6 (zf9 h) (zdD h2) fun R C hR hC=>by
  show C2 b.reverse R C=C2 (mir (tur (tur b))) R C
  rw [zmv h hR,zkC h2 hR hC,zcl h1 hR (by lia),zcl h (by lia) hR]
  congr 1;lia
 have e6:(tr2 n b).reverse=tur (tur (tur b)):=zh6 (zf9 ht) h3 fun R C hR hC=>by
  show C2 (tr2 n b).reverse R C=C2 (tur (tur (tur b))) R C
  rw [zmv ht hR,zh3 (by lia) hC,zcl h2 hR hC,zcl h1 (by lia) hR,zcl h (by lia) (by lia)]
  congr 1 <;> lia
 have m1:∀ c:List (List Int),c.map List.reverse=mir c:=fun _=>rfl
 have er:(List.range 8).map (wayB n b)=[b,mir b,mir (tur (tur b)),tur (tur b),mir (tur b),tur b,tur (tur (tur b)),mir (tur (tur (tur b)))]:=by
  show [wayB n b 0,wayB n b 1,wayB n b 2,wayB n b 3,wayB n b 4,wayB n b 5,wayB n b 6,wayB n b 7]=_
  simp only [wayB]
  simp only [show (0:Nat) / 4=0 from rfl,show (1:Nat) / 4=0 from rfl,show (2:Nat) / 4=0 from rfl,show (3:Nat) / 4=0 from rfl,show (4:Nat) / 4=1 from rfl,show (5:Nat) / 4=1 from rfl,show (6:Nat) / 4=1 from rfl,show (7:Nat) / 4=1 from rfl,
   show (0:Nat) / 2 % 2=0 from rfl,show (1:Nat) / 2 % 2=0 from rfl,show (2:Nat) / 2 % 2=1 from rfl,show (3:Nat) / 2 % 2=1 from rfl,show (4:Nat) / 2 % 2=0 from rfl,show (5:Nat) / 2 % 2=0 from rfl,show (6:Nat) / 2 % 2=1 from rfl,show (7:Nat) / 2 % 2=1 from rfl,
   show (0:Nat) % 2=0 from rfl,show (1:Nat) % 2=1 from rfl,show (2:Nat) % 2=0 from rfl,show (3:Nat) % 2=1 from rfl,show (4:Nat) % 2=0 from rfl,show (5:Nat) % 2=1 from rfl,show (6:Nat) % 2=0 from rfl,show (7:Nat) % 2=1 from rfl,if_true,Nat.zero_ne_one,if_false]
  rw [e6,e2,e4,m1,m1,m1,m1,mir2 h2,mir2 h1]
 rw [er]
 unfold kin8
 rw [tur4 h]
 generalize tur (tur (tur b))=t3
 generalize tur (tur b)=t2
 generalize tur b=t1
 generalize mir b=m0
 generalize mir t3=m3
 generalize mir t2=m2
 generalize mir t1=m1
 classical
 rw [List.perm_iff_count]
 intro x
 simp only [List.count_cons,List.count_nil]
 lia
theorem zgt {b:List (List Int)} {F:VEnv→Res T} (hF:F=eB1 (zhp .fu) (zah (eVar 0) aNil)):mapL (gE 0) F [none] (zaf b)=.ok (zaf b):=by
 subst hF
 have:=zdt (F:=eB1 (zhp .fu) (zah (eVar 0) aNil)) (ρ:=[none]) (gE:=gE 0) (fun r=>r) b fun r hr=>⟨_,rfl,by simp⟩
 simpa using this
theorem zm1 {n:Nat} {b:List (List Int)} (hn:n≤12) (hb:Sq n b):mapL (gE 0) zhP [none,some (.sc (.int n)),some (.lst (zaf b))] (zai (rngZ 0 n))=.ok (zaf (tr2 n b)):=by
 refine zdu _ _ fun i hi=>⟨_,rfl,?_⟩
 have hi:=zbM hi
 simp [zhP,show n≤1000 by lia]
 rw [zej fun j=>at0 (zaq b j.toNat) i.toNat]
 ·simp [show n≤1000 by lia]
 ·intro j hj
  have hj:=zbM hj
  have g1:j < (b.length:Int):=by rw [hb.len];lia
  have g2:i < ((zaq b j.toNat).length:Int):=by rw [hb.get (by lia)];lia
  exact⟨_,rfl,by simp [zlw,hi.1,hj.1,g1,g2]⟩
theorem znd (b:List (List Int)):mapL (gE 0) zhO [none] (zaf b)=.ok (zaf (b.map List.reverse)):=zdt _ _ fun r hr=>⟨_,rfl,by simp [zhO]⟩
theorem zc7 (b:List (List Int)):(zaf b).reverse=zaf b.reverse:=by unfold zaf;rw [List.map_reverse]
theorem znH {n:Nat} {b:List (List Int)} (h:Sq n b) (hn:n≤12) (w:Nat) (hw:w < 8) (m2:Md) (hm:m2≠.al) (ts:List T) (hl:ts.length < 900) (m1 m3:Md) (x4:Option (Md×T)) :
  ∃ m1' m3',zbK [some (.al,.lst (zaf b)),some (m1,.sc (.int n)),some (m2,.lst ts),some (m3,.sc (.int w)),x4]=.nx [some (.al,.lst (zaf b)),some (m1',.sc (.int n)),some (.sp,.lst (ts ++ [.lst (zaf (wayB n b w))])),some (m3',.sc (.int w)),some (.al,.lst (zaf (wayB n b w)))]:=by
 have z1:ts.length < sizeLine:=zf1 (by lia)
 have l1:∀ {c:List (List Int)},Sq n c→c.length≤1000:=fun h=>by rw [h.len];lia
 have cp:=zgt (b:=b) (F:=zlx) rfl
 have tr:=zm1 hn h
 have ht:=zfZ n b
 have hr:=zf9 h
 have htr:=zf9 ht
 have rv:=znd
 rcases (show w=0∨w=1∨w=2∨w=3∨w=4∨w=5∨w=6∨w=7 by lia) with rfl | rfl | rfl | rfl | rfl | rfl | rfl | rfl
 ·exact⟨m1,m3,by simp [zbK,cp,l1 h,wayB,zcy,z1,hm]⟩
 ·exact⟨m1,m3,by simp [zbK,cp,l1 h,wayB,zcy,z1,hm,rv]⟩
 ·exact⟨m1,m3,by simp [zbK,cp,l1 h,wayB,zcy,z1,hm,zc7]⟩
 ·exact⟨m1,m3,by simp [zbK,cp,l1 h,wayB,zcy,z1,hm,zc7,rv,l1 hr]⟩
 ·exact⟨m1,m3,by simp [zbK,cp,l1 h,wayB,zcy,z1,hm,tr,l1 ht,show n≤1000 by lia]⟩
 ·exact⟨m1,m3,by simp [zbK,cp,l1 h,wayB,zcy,z1,hm,tr,l1 ht,rv,show n≤1000 by lia]⟩
 ·exact⟨m1,m3,by simp [zbK,cp,l1 h,wayB,zcy,z1,hm,tr,l1 ht,zc7,show n≤1000 by lia]⟩
 ·exact⟨m1,m3,by simp [zbK,cp,l1 h,wayB,zcy,z1,hm,tr,l1 ht,zc7,rv,l1 htr,show n≤1000 by lia]⟩
theorem zjk {n:Nat} {b:List (List Int)} (h:Sq n b) (hn:n≤12):zlV [.lst (zaf b)]=.ok (.lst (bdsT (zaO n (kin8 b)))):=by
 have r8:rng1 [.sc (.int 8)]=some (zai (rngZ 0 8)):=rfl
 obtain⟨ρ',e,m1,x3,x4,m2,rfl,hm⟩:=zcJ (gT:=gS 3) (B:=zbK)
  (fun k ρ=>∃ m1 x3 x4 m2,ρ=[some (.al,.lst (zaf b)),some (m1,.sc (.int n)),some (m2,.lst (bdsT ((List.range k).map (wayB n b)))),x3,x4]∧m2≠Md.al∧k≤8) 8
  [some (.al,.lst (zaf b)),some (.fu,.sc (.int n)),some (.fu,.lst []),none,none] ⟨_,_,_,_,rfl,by decide,by decide⟩ (by
   rintro w ρ hw ⟨m1,x3,x4,m2,rfl,hm,_⟩
   refine ⟨_,rfl,?_⟩
   obtain⟨m1',m3',e⟩:=znH h hn w hw m2 hm (bdsT ((List.range w).map (wayB n b))) (by simp;lia) m1 .al x4
   have:bdsT ((List.range (w + 1)).map (wayB n b))=bdsT ((List.range w).map (wayB n b)) ++ [.lst (zaf (wayB n b w))]:=by
    unfold bdsT
    rw [List.range_succ,List.map_append,List.map_append]
    rfl
   rw [← this] at e
   exact⟨_,e,m1',_,_,.sp,rfl,by decide,by lia⟩)
 have sq:∀ c∈(List.range 8).map (wayB n b),Sq n c:=fun c hc=>by
  obtain⟨w,_,rfl⟩:=List.mem_map.mp hc
  exact zm0 h w
 have su:=zi0 sq (zjK h)
 have st:zcw [.lst (bdsT ((List.range 8).map (wayB n b)))]=some (.lst (bdsT (zaO n ((List.range 8).map (wayB n b))))):=by
  have e0:(List.range 8).map (wayB n b)=wayB n b 0 :: ((List.range 7).map fun w=>wayB n b (w + 1)):=rfl
  rw [e0] at sq ⊢
  exact zh7 sq
 rw [su] at st
 generalize bdsT ((List.range 8).map (wayB n b))=y at *
 generalize bdsT (zaO n (kin8 b))=z at *
 simp [zlV,zpV,zlt,h.len,r8,e,st,-zmu]
theorem zlR (a b:List (List Int)):oNe (.lst (zaf a)) (.lst (zaf b))=some (.sc (.bl (!decide (a=b)))):=by
 unfold oNe;rw [if_pos ⟨zii 3 a,zii 3 b⟩];unfold eqT;rw [zgr]
theorem znW {b:List (List Int)} (h:b.length≤1000):zin [.lst (zaf b)]=.ok (.lst (zaf b)):=by
 simp [zin,zmW,zgM,zgt (b:=b) (F:=ziU) rfl,h]
theorem zly (x:Int):zfE [.sc (.int x)]=.ok (.sc (.bl true)):=by
 simp [zfE,zlp,zeJ,cIsi,tyN]
theorem zfc (t0 t1:Option (Md×T)):∀ (b:List (List Int)) (x y:Option (Md×T)),(∀ r∈b,r.length≤1000)→∃ x' y',forL (gS2 2 3) zdp (zipT (zaf b) (zaf b)) [t0,t1,x,y]=.nx [t0,t1,x',y']
 | [],x,y,_=>⟨x,y,by simp [zipT]⟩
 | r :: b,x,y,h=>by
  obtain⟨x',y',e⟩:=zfc t0 t1 b (some (.al,.lst (zai r))) (some (.al,.lst (zai r))) fun r hr=>h r (by simp [hr])
  refine ⟨x',y',?_⟩
  have cp:mapL (gE 0) zeQ [none] (zai r)=.ok (zbu (r.map fun _=>true)):=znC _ _ fun x hx=>⟨_,rfl,by simp [zeQ,zly]⟩
  have al:(r.map fun _=>true).all id=true:=by simp
  rw [zbg]
  show forL (gS2 2 3) zdp (.tup [.lst (zai r),.lst (zai r)] :: zipT (zaf b) (zaf b)) _=_
  rw [zct]
  simp [zdp,cIsi,tyN,zfD,cp,h r (by simp)]
  exact e
theorem zdF {b:List (List Int)} (h:b.length≤1000) (hr:∀ r∈b,r.length≤1000):zei [.lst (zaf b),.lst (zaf b)]=.ok (.sc (.bl true)):=by
 obtain⟨x',y',e⟩:=zfc (some (.al,.lst (zaf b))) (some (.al,.lst (zaf b))) b none none hr
 simp [zei,zlq,zeK,cIsi,tyN,e]
theorem zmq {n:Nat} (hn:n≤12):∀ bs:List (List (List Int)),(∀ b∈bs,Sq n b)→mapL (gE2 0 1) zeR [none,none] (zipT (bdsT bs) (bdsT bs))=.ok (zbu (bs.map fun _=>true))
 | [],_=>by simp [zipT,mapL,zbu]
 | b :: bs,h=>by
  have ih:=zmq hn bs fun c hc=>h c (by simp [hc])
  have hb:=h b (by simp)
  have lb:=zdF (b:=b) (by rw [hb.len];lia) fun r hr=>by rw [hb.row r hr];lia
  show mapL (gE2 0 1) zeR [none,none] (.tup [.lst (zaf b),.lst (zaf b)] :: zipT (bdsT bs) (bdsT bs))=_
  unfold mapL
  rw [ih]
  have eg:gE2 0 1 (.tup [.lst (zaf b),.lst (zaf b)]) [none,none]=some [some (.lst (zaf b)),some (.lst (zaf b))]:=rfl
  rw [eg]
  simp [zeR,lb,zbu]
theorem zln:∀ (bs:List (List (List Int))),(∀ b∈bs,∀ r∈b,r.length < 1000)→za3 (.int 0) (bdsT bs)=some (bdsT (bs.map fun b=>b.map fun r=>r ++ [0]))
 | [],_=>rfl
 | b :: bs,h=>by
  have ih:=zln bs fun c hc=>h c (by simp [hc])
  have ap:∀ (b:List (List Int)),(∀ r∈b,r.length < 1000)→zbx (.int 0) (zaf b)=some (zaf (b.map fun r=>r ++ [0])):=by
   intro b
   induction b with
   | nil=>intro _;rfl
   | cons r b ihb =>
    intro hb
    rw [zbg]
    unfold zbx
    rw [if_pos (by rw [zbs];exact zf1 (hb r (by simp))),ihb fun q hq=>hb q (by simp [hq]),List.map_cons,zbg,zde]
    rfl
  show za3 (.int 0) (.lst (zaf b) :: bdsT bs)=_
  unfold za3
  rw [ap b (h b (by simp)),Option.bind_some,ih]
  rfl
noncomputable abbrev lawE (t0:Option (Md×T)) (B:List (List Int)) (K:List T) (x3 x4 x5 x6 x7 x8:Option (Md×T)):SEnv:=[t0,some (.al,.lst (zaf B)),some (.al,.lst K),x3,x4,x5,x6,x7,x8]
theorem zkm {n:Nat} {B:List (List Int)} (hn:n≤12) (hB:B.length=n) (t0 t2 x3 x4 t5 x6 x8:Option (Md×T)):∀ (bs:List (List (List Int))) (x7:Option (Md×T)),(∀ b∈bs,b.length≤1000∧∀ r∈b,r.length=n + 1) →
  ∃ y7,forL (gS 7) zeL (bdsT bs) [t0,some (.al,.lst (zaf B)),t2,x3,x4,t5,x6,x7,x8]=.nx [t0,some (.al,.lst (zaf B)),t2,x3,x4,t5,x6,y7,x8]
 | [],x7,_=>⟨x7,by simp⟩
 | b :: bs,x7,h=>by
  obtain⟨y7,e⟩:=zkm hn hB t0 t2 x3 x4 t5 x6 x8 bs (some (.al,.lst (zaf b))) fun c hc=>h c (by simp [hc])
  refine ⟨y7,?_⟩
  obtain⟨h1,h2⟩:=h b (by simp)
  have al:mapL (gE 0) zhQ [none,some (.lst (zaf B))] (zaf b)=.ok (zbu (b.map fun _=>true)):=znB _ _ fun r hr=>⟨_,rfl,by simp [zhQ,h2 r hr,hB]⟩
  show forL (gS 7) zeL (.lst (zaf b) :: bdsT bs) _=_
  rw [zct]
  simp [zeL,al,zjt,h1]
  exact e
theorem zpl {n:Nat} {B:List (List Int)} (h:Fl n B) (h1:1≤n) (hn:n≤12) (t0 x3 x4 x5 x6 x7 x8:Option (Md×T)):∃ y4 y5 y6 y7 y8,zfW (lawE t0 B (bdsT (zaO n (kin8 B))) x3 x4 x5 x6 x7 x8)=.nx (lawE t0 B (bdsT (zaO n (kin8 B))) x3 y4 y5 y6 y7 y8):=by
 have hl:=h.sq.len
 obtain⟨c,cs,es,ef⟩:=zl6 h h1 hn
 have ek:=zmJ h h1 hn
 have l8:(zaO n (kin8 B)).length=8:=(zaI n (kin8 B)).length_eq
 have sq:∀ b∈zaO n (kin8 B),Sq n b:=fun b hb=>zkM h.sq b ((zaI n (kin8 B)).mem_iff.mp hb)
 have zp:=zmq hn _ sq
 have ap:=zln (zaO n (kin8 B)) fun b hb r hr=>by rw [(sq b hb).row r hr];lia
 have on:∀ t0 t2 x3 x4 t5 x6 x7 x8,∃ y7,forL (gS 7) zeL (bdsT ((zaO n (kin8 B)).map fun b=>b.map fun r=>r ++ [0])) [t0,some (.al,.lst (zaf B)),t2,x3,x4,t5,x6,x7,x8]=.nx [t0,some (.al,.lst (zaf B)),t2,x3,x4,t5,x6,y7,x8]:=fun t0 t2 x3 x4 t5 x6 x7 x8=>by
  refine zkm hn hl t0 t2 x3 x4 t5 x6 x8 _ x7 fun b hb=>?_
  obtain⟨b0,hb0,rfl⟩:=List.mem_map.mp hb
  refine ⟨by rw [List.length_map,(sq b0 hb0).len];lia,fun r hr=>?_⟩
  obtain⟨r0,hr0,rfl⟩:=List.mem_map.mp hr
  rw [List.length_append,(sq b0 hb0).row r0 hr0];rfl
 have sc:Sq n c:=sq c (by rw [es];simp)
 have lb:=zdF (b:=c) (by rw [sc.len];lia) fun r hr=>by rw [sc.row r hr];lia
 have a0:atI (bdsT (zaO n (kin8 B))) 0=some (.lst (zaf c)):=by rw [es];exact zeC (by lia) rfl
 have lz:(bdsT (zaO n (kin8 B))).length=8:=by rw [List.length_map,l8]
 have bl:∃ bs:List Bool,mapL (gE2 0 1) zeR [none,none] (zipT (bdsT (zaO n (kin8 B))) (bdsT (zaO n (kin8 B))))=.ok (zbu bs)∧bs.all id=true∧zel (zbu bs)=some (.lst (zbu bs)):=
  ⟨_,zp,by simp,zlY (by unfold zbu;rw [List.length_map,List.length_map,l8];decide)⟩
 obtain⟨bs,z1,z2,z3⟩:=bl
 have n4:oNe (.lst (zaf B)) (.lst (zaf B))=some (.sc (.bl false)):=by rw [zlR];simp
 generalize bdsT ((zaO n (kin8 B)).map fun b=>b.map fun r=>r ++ [0])=K2 at *
 generalize bdsT (zaO n (kin8 B))=K1 at *
 have ci:cIsi [.lst K1,.sc (.ty "list")]=some (.sc (.bl true)):=rfl
 obtain⟨y7,on1⟩:=on t0 (some (.al,.lst K1)) x3 (some (.fu,.lst (zaf B))) (some (.al,.lst K2)) (some (.fu,.lst (zaf c))) none none
 simp [zfW,znW (b:=B) (by lia),ek,ef,n4,ci,lz,lb,a0,z1,z2,z3,ap]
 rw [on1]
 have r0:(zaq c 0).length=n:=sc.get (by lia)
 have z5:(zai (zaq c 0)).length < sizeLine:=by rw [zbs,r0];exact zf1 (by lia)
 simp [hasL,zcK]
 rw [ziW (b:=c) (l:=0) rfl (by lia) (by rw [sc.len];lia)]
 have lc:((zaf c).set 0 (.lst (zai (zaq c 0) ++ [.sc (.int 0)]))).length < sizeLine:=by rw [List.length_set,zbp,sc.len];exact zf1 (by lia)
 have lc2:(zaf c).length < sizeLine:=by rw [zbp,sc.len];exact zf1 (by lia)
 simp at z5 lc lc2
 simp [z5,zcy,lc,lc2,n4]
theorem zl0 {n:Nat} {B:List (List Int)} (h:Fl n B) (h1:1≤n) (hn:n≤12) (t0:Option (Md×T)):zfV (lawE t0 B (bdsT (zaO n (kin8 B))) none none none none none none)=.rt .fu (.sc (.bl true)):=by
 have r2:rng1 [.sc (.int 2)]=some (zai (rngZ 0 2)):=rfl
 obtain⟨ρ',e,y3,y4,y5,y6,y7,y8,rfl⟩:=zcJ (gT:=gS 3) (B:=zfW) (fun _ ρ=>∃ y3 y4 y5 y6 y7 y8,ρ=lawE t0 B (bdsT (zaO n (kin8 B))) y3 y4 y5 y6 y7 y8) 2 (lawE t0 B (bdsT (zaO n (kin8 B))) none none none none none none) ⟨_,_,_,_,_,_,rfl⟩ (by
  rintro w ρ hw ⟨y3,y4,y5,y6,y7,y8,rfl⟩
  refine ⟨_,rfl,?_⟩
  obtain⟨z4,z5,z6,z7,z8,e⟩:=zpl h h1 hn t0 (some (.al,.sc (.int w))) y4 y5 y6 y7 y8
  exact⟨_,e,_,_,_,_,_,_,rfl⟩)
 generalize bdsT (zaO n (kin8 B))=K1 at *
 unfold lawE at e
 simp [r2,e,-zmu]
theorem law_true (s:List Int) (_:s.length≤63):znD [.scr s]=.ok (.sc (.bl true)):=by
 obtain⟨n,b,eb,h1,h2,hb⟩:=zpT s 0
 have lk:=zjk hb.sq h2
 have tl:=fun t0=>zl0 hb h1 h2 t0
 simp at eb
 generalize bdsT (zaO n (kin8 b))=K1 at *
 unfold lawE at tl
 simp [znD,zpW,zlu,eb,lk,tl,-zfV]
end Qk03
namespace Qk03
open PySem PySem.Spec L2 TL
open PyProof.Rows hiding St
theorem txt_mk {K:PySem.W.Frag} {h:Heap} {mg:Str→Option Value} {fa f_0 f_1 f_2 f_3 f_4 f_5 f_6 f_7 f_8 f_9 f_10 f_11 f_12 f_13 f_14 f_15 f_16 f_17 f_18 f_19 f_20 C_SumError C_BadBoard:Addr} (X:K.In h) (G:h.Ns mainGlobals mg) (hfa:mg "law" = some (.ref fa))
  {tk_LARGEST_SIZE:Nat}
  {od_0 an_0:Option Addr} {sl_0:Array (Option Value)} {oc_0 kV_0 dc_0 pm_0 cd_0 ct_0:Value}
  (a_0:PySem.W.nsIn K mainGlobals "check_square" = some (some (.ref f_0)))
  (l_0:K.lookup f_0=some ⟨oc_0,od_0,.func (PySem.W.fnOf "check_square" "check_square" (defArgs zaK) (defBody zaK) (defScope zaK) .none kV_0 dc_0 pm_0 an_0 cd_0 ct_0),sl_0⟩)
  (c_0:PySem.W.codeIn K cd_0 "check_square" = true) (k_0:PySem.W.keepIn K (.ref f_0)=true)
  {od_1 an_1:Option Addr} {sl_1:Array (Option Value)} {oc_1 kV_1 dc_1 pm_1 cd_1 ct_1:Value}
  (a_1:PySem.W.nsIn K mainGlobals "joined" = some (some (.ref f_1)))
  (l_1:K.lookup f_1=some ⟨oc_1,od_1,.func (PySem.W.fnOf "joined" "joined" (defArgs zb5) (defBody zb5) (defScope zb5) .none kV_1 dc_1 pm_1 an_1 cd_1 ct_1),sl_1⟩)
  (c_1:PySem.W.codeIn K cd_1 "joined" = true) (k_1:PySem.W.keepIn K (.ref f_1)=true)
  {od_2 an_2:Option Addr} {sl_2:Array (Option Value)} {oc_2 kV_2 dc_2 pm_2 cd_2 ct_2:Value}
  (a_2:PySem.W.nsIn K mainGlobals "check_board" = some (some (.ref f_2)))
  (l_2:K.lookup f_2=some ⟨oc_2,od_2,.func (PySem.W.fnOf "check_board" "check_board" (defArgs zaQ) (defBody zaQ) (defScope zaQ) .none kV_2 dc_2 pm_2 an_2 cd_2 ct_2),sl_2⟩)
  (c_2:PySem.W.codeIn K cd_2 "check_board" = true) (k_2:PySem.W.keepIn K (.ref f_2)=true)
  {od_3 an_3:Option Addr} {sl_3:Array (Option Value)} {oc_3 kV_3 dc_3 pm_3 cd_3 ct_3:Value}
  (a_3:PySem.W.nsIn K mainGlobals "column" = some (some (.ref f_3)))
  (l_3:K.lookup f_3=some ⟨oc_3,od_3,.func (PySem.W.fnOf "column" "column" (defArgs zb6) (defBody zb6) (defScope zb6) .none kV_3 dc_3 pm_3 an_3 cd_3 ct_3),sl_3⟩)
  (c_3:PySem.W.codeIn K cd_3 "column" = true) (k_3:PySem.W.keepIn K (.ref f_3)=true)
  {od_4 an_4:Option Addr} {sl_4:Array (Option Value)} {oc_4 kV_4 dc_4 pm_4 cd_4 ct_4:Value}
  (a_4:PySem.W.nsIn K mainGlobals "columns" = some (some (.ref f_4)))
  (l_4:K.lookup f_4=some ⟨oc_4,od_4,.func (PySem.W.fnOf "columns" "columns" (defArgs zbF) (defBody zbF) (defScope zbF) .none kV_4 dc_4 pm_4 an_4 cd_4 ct_4),sl_4⟩)
  (c_4:PySem.W.codeIn K cd_4 "columns" = true) (k_4:PySem.W.keepIn K (.ref f_4)=true)
  {od_5 an_5:Option Addr} {sl_5:Array (Option Value)} {oc_5 kV_5 dc_5 pm_5 cd_5 ct_5:Value}
  (a_5:PySem.W.nsIn K mainGlobals "turned" = some (some (.ref f_5)))
  (l_5:K.lookup f_5=some ⟨oc_5,od_5,.func (PySem.W.fnOf "turned" "turned" (defArgs zb4) (defBody zb4) (defScope zb4) .none kV_5 dc_5 pm_5 an_5 cd_5 ct_5),sl_5⟩)
  (c_5:PySem.W.codeIn K cd_5 "turned" = true) (k_5:PySem.W.keepIn K (.ref f_5)=true)
  {od_6 an_6:Option Addr} {sl_6:Array (Option Value)} {oc_6 kV_6 dc_6 pm_6 cd_6 ct_6:Value}
  (a_6:PySem.W.nsIn K mainGlobals "mirrored" = some (some (.ref f_6)))
  (l_6:K.lookup f_6=some ⟨oc_6,od_6,.func (PySem.W.fnOf "mirrored" "mirrored" (defArgs zbf) (defBody zbf) (defScope zbf) .none kV_6 dc_6 pm_6 an_6 cd_6 ct_6),sl_6⟩)
  (c_6:PySem.W.codeIn K cd_6 "mirrored" = true) (k_6:PySem.W.keepIn K (.ref f_6)=true)
  {od_7 an_7:Option Addr} {sl_7:Array (Option Value)} {oc_7 kV_7 dc_7 pm_7 cd_7 ct_7:Value}
  (a_7:PySem.W.nsIn K mainGlobals "kin" = some (some (.ref f_7)))
  (l_7:K.lookup f_7=some ⟨oc_7,od_7,.func (PySem.W.fnOf "kin" "kin" (defArgs zgW) (defBody zgW) (defScope zgW) .none kV_7 dc_7 pm_7 an_7 cd_7 ct_7),sl_7⟩)
  (c_7:PySem.W.codeIn K cd_7 "kin" = true) (k_7:PySem.W.keepIn K (.ref f_7)=true)
  {od_8 an_8:Option Addr} {sl_8:Array (Option Value)} {oc_8 kV_8 dc_8 pm_8 cd_8 ct_8:Value}
  (a_8:PySem.W.nsIn K mainGlobals "first_kin" = some (some (.ref f_8)))
  (l_8:K.lookup f_8=some ⟨oc_8,od_8,.func (PySem.W.fnOf "first_kin" "first_kin" (defArgs za8) (defBody za8) (defScope za8) .none kV_8 dc_8 pm_8 an_8 cd_8 ct_8),sl_8⟩)
  (c_8:PySem.W.codeIn K cd_8 "first_kin" = true) (k_8:PySem.W.keepIn K (.ref f_8)=true)
  {od_9 an_9:Option Addr} {sl_9:Array (Option Value)} {oc_9 kV_9 dc_9 pm_9 cd_9 ct_9:Value}
  (a_9:PySem.W.nsIn K mainGlobals "_law_cell_at" = some (some (.ref f_9)))
  (l_9:K.lookup f_9=some ⟨oc_9,od_9,.func (PySem.W.fnOf "_law_cell_at" "_law_cell_at" (defArgs zbE) (defBody zbE) (defScope zbE) .none kV_9 dc_9 pm_9 an_9 cd_9 ct_9),sl_9⟩)
  (c_9:PySem.W.codeIn K cd_9 "_law_cell_at" = true) (k_9:PySem.W.keepIn K (.ref f_9)=true)
  {od_10 an_10:Option Addr} {sl_10:Array (Option Value)} {oc_10 kV_10 dc_10 pm_10 cd_10 ct_10:Value}
  (a_10:PySem.W.nsIn K mainGlobals "_law_mix" = some (some (.ref f_10)))
  (l_10:K.lookup f_10=some ⟨oc_10,od_10,.func (PySem.W.fnOf "_law_mix" "_law_mix" (defArgs zgR) (defBody zgR) (defScope zgR) .none kV_10 dc_10 pm_10 an_10 cd_10 ct_10),sl_10⟩)
  (c_10:PySem.W.codeIn K cd_10 "_law_mix" = true) (k_10:PySem.W.keepIn K (.ref f_10)=true)
  {od_11 an_11:Option Addr} {sl_11:Array (Option Value)} {oc_11 kV_11 dc_11 pm_11 cd_11 ct_11:Value}
  (a_11:PySem.W.nsIn K mainGlobals "_law_order_by" = some (some (.ref f_11)))
  (l_11:K.lookup f_11=some ⟨oc_11,od_11,.func (PySem.W.fnOf "_law_order_by" "_law_order_by" (defArgs zbd) (defBody zbd) (defScope zbd) .none kV_11 dc_11 pm_11 an_11 cd_11 ct_11),sl_11⟩)
  (c_11:PySem.W.codeIn K cd_11 "_law_order_by" = true) (k_11:PySem.W.keepIn K (.ref f_11)=true)
  {od_12 an_12:Option Addr} {sl_12:Array (Option Value)} {oc_12 kV_12 dc_12 pm_12 cd_12 ct_12:Value}
  (a_12:PySem.W.nsIn K mainGlobals "_law_board_by" = some (some (.ref f_12)))
  (l_12:K.lookup f_12=some ⟨oc_12,od_12,.func (PySem.W.fnOf "_law_board_by" "_law_board_by" (defArgs zbe) (defBody zbe) (defScope zbe) .none kV_12 dc_12 pm_12 an_12 cd_12 ct_12),sl_12⟩)
  (c_12:PySem.W.codeIn K cd_12 "_law_board_by" = true) (k_12:PySem.W.keepIn K (.ref f_12)=true)
  {od_13 an_13:Option Addr} {sl_13:Array (Option Value)} {oc_13 kV_13 dc_13 pm_13 cd_13 ct_13:Value}
  (a_13:PySem.W.nsIn K mainGlobals "_law_fair_by" = some (some (.ref f_13)))
  (l_13:K.lookup f_13=some ⟨oc_13,od_13,.func (PySem.W.fnOf "_law_fair_by" "_law_fair_by" (defArgs zbD) (defBody zbD) (defScope zbD) .none kV_13 dc_13 pm_13 an_13 cd_13 ct_13),sl_13⟩)
  (c_13:PySem.W.codeIn K cd_13 "_law_fair_by" = true) (k_13:PySem.W.keepIn K (.ref f_13)=true)
  {od_14 an_14:Option Addr} {sl_14:Array (Option Value)} {oc_14 kV_14 dc_14 pm_14 cd_14 ct_14:Value}
  (a_14:PySem.W.nsIn K mainGlobals "_law_like_by" = some (some (.ref f_14)))
  (l_14:K.lookup f_14=some ⟨oc_14,od_14,.func (PySem.W.fnOf "_law_like_by" "_law_like_by" (defArgs zbC) (defBody zbC) (defScope zbC) .none kV_14 dc_14 pm_14 an_14 cd_14 ct_14),sl_14⟩)
  (c_14:PySem.W.codeIn K cd_14 "_law_like_by" = true) (k_14:PySem.W.keepIn K (.ref f_14)=true)
  {od_15 an_15:Option Addr} {sl_15:Array (Option Value)} {oc_15 kV_15 dc_15 pm_15 cd_15 ct_15:Value}
  (a_15:PySem.W.nsIn K mainGlobals "_law_any_by" = some (some (.ref f_15)))
  (l_15:K.lookup f_15=some ⟨oc_15,od_15,.func (PySem.W.fnOf "_law_any_by" "_law_any_by" (defArgs zb3) (defBody zb3) (defScope zb3) .none kV_15 dc_15 pm_15 an_15 cd_15 ct_15),sl_15⟩)
  (c_15:PySem.W.codeIn K cd_15 "_law_any_by" = true) (k_15:PySem.W.keepIn K (.ref f_15)=true)
  {od_16 an_16:Option Addr} {sl_16:Array (Option Value)} {oc_16 kV_16 dc_16 pm_16 cd_16 ct_16:Value}
  (a_16:PySem.W.nsIn K mainGlobals "_law_whole" = some (some (.ref f_16)))
  (l_16:K.lookup f_16=some ⟨oc_16,od_16,.func (PySem.W.fnOf "_law_whole" "_law_whole" (defArgs zcP) (defBody zcP) (defScope zcP) .none kV_16 dc_16 pm_16 an_16 cd_16 ct_16),sl_16⟩)
  (c_16:PySem.W.codeIn K cd_16 "_law_whole" = true) (k_16:PySem.W.keepIn K (.ref f_16)=true)
  {od_17 an_17:Option Addr} {sl_17:Array (Option Value)} {oc_17 kV_17 dc_17 pm_17 cd_17 ct_17:Value}
  (a_17:PySem.W.nsIn K mainGlobals "_law_board" = some (some (.ref f_17)))
  (l_17:K.lookup f_17=some ⟨oc_17,od_17,.func (PySem.W.fnOf "_law_board" "_law_board" (defArgs zcQ) (defBody zcQ) (defScope zcQ) .none kV_17 dc_17 pm_17 an_17 cd_17 ct_17),sl_17⟩)
  (c_17:PySem.W.codeIn K cd_17 "_law_board" = true) (k_17:PySem.W.keepIn K (.ref f_17)=true)
  {od_18 an_18:Option Addr} {sl_18:Array (Option Value)} {oc_18 kV_18 dc_18 pm_18 cd_18 ct_18:Value}
  (a_18:PySem.W.nsIn K mainGlobals "_law_copy" = some (some (.ref f_18)))
  (l_18:K.lookup f_18=some ⟨oc_18,od_18,.func (PySem.W.fnOf "_law_copy" "_law_copy" (defArgs zd9) (defBody zd9) (defScope zd9) .none kV_18 dc_18 pm_18 an_18 cd_18 ct_18),sl_18⟩)
  (c_18:PySem.W.codeIn K cd_18 "_law_copy" = true) (k_18:PySem.W.keepIn K (.ref f_18)=true)
  {od_19 an_19:Option Addr} {sl_19:Array (Option Value)} {oc_19 kV_19 dc_19 pm_19 cd_19 ct_19:Value}
  (a_19:PySem.W.nsIn K mainGlobals "_law_kin" = some (some (.ref f_19)))
  (l_19:K.lookup f_19=some ⟨oc_19,od_19,.func (PySem.W.fnOf "_law_kin" "_law_kin" (defArgs zgS) (defBody zgS) (defScope zgS) .none kV_19 dc_19 pm_19 an_19 cd_19 ct_19),sl_19⟩)
  (c_19:PySem.W.codeIn K cd_19 "_law_kin" = true) (k_19:PySem.W.keepIn K (.ref f_19)=true)
  {od_20 an_20:Option Addr} {sl_20:Array (Option Value)} {oc_20 kV_20 dc_20 pm_20 cd_20 ct_20:Value}
  (a_20:PySem.W.nsIn K mainGlobals "law" = some (some (.ref f_20)))
  (l_20:K.lookup f_20=some ⟨oc_20,od_20,.func (PySem.W.fnOf "law" "law" (defArgs s_law) (defBody s_law) (defScope s_law) .none kV_20 dc_20 pm_20 an_20 cd_20 ct_20),sl_20⟩)
  (c_20:PySem.W.codeIn K cd_20 "law" = true) (k_20:PySem.W.keepIn K (.ref f_20)=true)
  (aC_SumError:PySem.W.nsIn K mainGlobals "SumError" = some (some (.ref C_SumError)))
  (aC_BadBoard:PySem.W.nsIn K mainGlobals "BadBoard" = some (some (.ref C_BadBoard)))
  (xC_SumError:PySem.W.excIn K C_SumError bmV "ValueError.__new__" = true)
  (e_SumError_SumError:PySem.W.exmOne K (.ref C_SumError) (.ref C_SumError)=some true)
  (e_BadBoard_SumError:PySem.W.exmOne K (.ref C_BadBoard) (.ref C_SumError)=some true)
  (v_SumError:PySem.W.exmOne K (.ref C_SumError) (.type "ValueError")=some true)
  (xC_BadBoard:PySem.W.excIn K C_BadBoard bmV "ValueError.__new__" = true)
  (e_SumError_BadBoard:PySem.W.exmOne K (.ref C_SumError) (.ref C_BadBoard)=some false)
  (e_BadBoard_BadBoard:PySem.W.exmOne K (.ref C_BadBoard) (.ref C_BadBoard)=some true)
  (v_BadBoard:PySem.W.exmOne K (.ref C_BadBoard) (.type "ValueError")=some true)
  (n_LARGEST_SIZE:PySem.W.nsIn K mainGlobals "LARGEST_SIZE" = some (some (.int 12 tk_LARGEST_SIZE)))
  (z_all:PySem.W.nsIn K mainGlobals "all" = some none)
  (z_bool:PySem.W.nsIn K mainGlobals "bool" = some none)
  (z_int:PySem.W.nsIn K mainGlobals "int" = some none)
  (z_isinstance:PySem.W.nsIn K mainGlobals "isinstance" = some none)
  (z_len:PySem.W.nsIn K mainGlobals "len" = some none)
  (z_list:PySem.W.nsIn K mainGlobals "list" = some none)
  (z_range:PySem.W.nsIn K mainGlobals "range" = some none)
  (z_reversed:PySem.W.nsIn K mainGlobals "reversed" = some none)
  (z_sorted:PySem.W.nsIn K mainGlobals "sorted" = some none)
  (z_zip:PySem.W.nsIn K mainGlobals "zip" = some none)
  : ∃ t:Adr,Txt K mg t∧t.f_law=fa∧∃ (kV doc pm:Value) (an:Option Addr) (cdv ct:Value),t.d_law=PySem.W.fnOf "law" "law" (defArgs s_law) (defBody s_law) (defScope s_law) .none kV doc pm an cdv ct:=by
 have e:=hfa.symm.trans (PySem.W.mg_of X G a_20)
 cases e
 have F_0:=za5 (st:=zaK) l_0 c_0 k_0
 have b_0:=F_0.binds (ps:=["board", "largest"]) fun _ _ _ _ _ _ us hl=>zdE (P:=fun us=>bindArgs _ ⟨us,[]⟩=pure (List.zip _ us)) hl fun _ _=>rfl
 have F_1:=za5 (st:=zb5) l_1 c_1 k_1
 have b_1:=F_1.binds (ps:=["lists"]) fun _ _ _ _ _ _ us hl=>zcr (P:=fun us=>bindArgs _ ⟨us,[]⟩=pure (List.zip _ us)) hl fun _=>rfl
 have F_2:=za5 (st:=zaQ) l_2 c_2 k_2
 have b_2:=F_2.binds (ps:=["board"]) fun _ _ _ _ _ _ us hl=>zcr (P:=fun us=>bindArgs _ ⟨us,[]⟩=pure (List.zip _ us)) hl fun _=>rfl
 have F_3:=za5 (st:=zb6) l_3 c_3 k_3
 have b_3:=F_3.binds (ps:=["board", "place"]) fun _ _ _ _ _ _ us hl=>zdE (P:=fun us=>bindArgs _ ⟨us,[]⟩=pure (List.zip _ us)) hl fun _ _=>rfl
 have F_4:=za5 (st:=zbF) l_4 c_4 k_4
 have b_4:=F_4.binds (ps:=["board"]) fun _ _ _ _ _ _ us hl=>zcr (P:=fun us=>bindArgs _ ⟨us,[]⟩=pure (List.zip _ us)) hl fun _=>rfl
 have F_5:=za5 (st:=zb4) l_5 c_5 k_5
 have b_5:=F_5.binds (ps:=["board"]) fun _ _ _ _ _ _ us hl=>zcr (P:=fun us=>bindArgs _ ⟨us,[]⟩=pure (List.zip _ us)) hl fun _=>rfl
 have F_6:=za5 (st:=zbf) l_6 c_6 k_6
 have b_6:=F_6.binds (ps:=["board"]) fun _ _ _ _ _ _ us hl=>zcr (P:=fun us=>bindArgs _ ⟨us,[]⟩=pure (List.zip _ us)) hl fun _=>rfl
 have F_7:=za5 (st:=zgW) l_7 c_7 k_7
 have b_7:=F_7.binds (ps:=["board"]) fun _ _ _ _ _ _ us hl=>zcr (P:=fun us=>bindArgs _ ⟨us,[]⟩=pure (List.zip _ us)) hl fun _=>rfl
 have F_8:=za5 (st:=za8) l_8 c_8 k_8
 have b_8:=F_8.binds (ps:=["board"]) fun _ _ _ _ _ _ us hl=>zcr (P:=fun us=>bindArgs _ ⟨us,[]⟩=pure (List.zip _ us)) hl fun _=>rfl
 have F_9:=za5 (st:=zbE) l_9 c_9 k_9
 have b_9:=F_9.binds (ps:=["script", "k"]) fun _ _ _ _ _ _ us hl=>zdE (P:=fun us=>bindArgs _ ⟨us,[]⟩=pure (List.zip _ us)) hl fun _ _=>rfl
 have F_10:=za5 (st:=zgR) l_10 c_10 k_10
 have b_10:=F_10.binds (ps:=["cell", "k", "many"]) fun _ _ _ _ _ _ us hl=>zmI (P:=fun us=>bindArgs _ ⟨us,[]⟩=pure (List.zip _ us)) hl fun _ _ _=>rfl
 have F_11:=za5 (st:=zbd) l_11 c_11 k_11
 have b_11:=F_11.binds (ps:=["cell", "many"]) fun _ _ _ _ _ _ us hl=>zdE (P:=fun us=>bindArgs _ ⟨us,[]⟩=pure (List.zip _ us)) hl fun _ _=>rfl
 have F_12:=za5 (st:=zbe) l_12 c_12 k_12
 have b_12:=F_12.binds (ps:=["cell", "size"]) fun _ _ _ _ _ _ us hl=>zdE (P:=fun us=>bindArgs _ ⟨us,[]⟩=pure (List.zip _ us)) hl fun _ _=>rfl
 have F_13:=za5 (st:=zbD) l_13 c_13 k_13
 have b_13:=F_13.binds (ps:=["cell", "size"]) fun _ _ _ _ _ _ us hl=>zdE (P:=fun us=>bindArgs _ ⟨us,[]⟩=pure (List.zip _ us)) hl fun _ _=>rfl
 have F_14:=za5 (st:=zbC) l_14 c_14 k_14
 have b_14:=F_14.binds (ps:=["script", "base", "size"]) fun _ _ _ _ _ _ us hl=>zmI (P:=fun us=>bindArgs _ ⟨us,[]⟩=pure (List.zip _ us)) hl fun _ _ _=>rfl
 have F_15:=za5 (st:=zb3) l_15 c_15 k_15
 have b_15:=F_15.binds (ps:=["script", "base"]) fun _ _ _ _ _ _ us hl=>zdE (P:=fun us=>bindArgs _ ⟨us,[]⟩=pure (List.zip _ us)) hl fun _ _=>rfl
 have F_16:=za5 (st:=zcP) l_16 c_16 k_16
 have b_16:=F_16.binds (ps:=["found"]) fun _ _ _ _ _ _ us hl=>zcr (P:=fun us=>bindArgs _ ⟨us,[]⟩=pure (List.zip _ us)) hl fun _=>rfl
 have F_17:=za5 (st:=zcQ) l_17 c_17 k_17
 have b_17:=F_17.binds (ps:=["found", "due"]) fun _ _ _ _ _ _ us hl=>zdE (P:=fun us=>bindArgs _ ⟨us,[]⟩=pure (List.zip _ us)) hl fun _ _=>rfl
 have F_18:=za5 (st:=zd9) l_18 c_18 k_18
 have b_18:=F_18.binds (ps:=["board"]) fun _ _ _ _ _ _ us hl=>zcr (P:=fun us=>bindArgs _ ⟨us,[]⟩=pure (List.zip _ us)) hl fun _=>rfl
 have F_19:=za5 (st:=zgS) l_19 c_19 k_19
 have b_19:=F_19.binds (ps:=["board"]) fun _ _ _ _ _ _ us hl=>zcr (P:=fun us=>bindArgs _ ⟨us,[]⟩=pure (List.zip _ us)) hl fun _=>rfl
 have F_20:=za5 (st:=s_law) l_20 c_20 k_20
 have b_20:=F_20.binds (ps:=["script"]) fun _ _ _ _ _ _ us hl=>zcr (P:=fun us=>bindArgs _ ⟨us,[]⟩=pure (List.zip _ us)) hl fun _=>rfl
 exact⟨⟨f_0,_,f_1,_,f_2,_,f_3,_,f_4,_,f_5,_,f_6,_,f_7,_,f_8,_,f_9,_,f_10,_,f_11,_,f_12,_,f_13,_,f_14,_,f_15,_,f_16,_,f_17,_,f_18,_,f_19,_,fa,_,C_SumError,C_BadBoard,tk_LARGEST_SIZE⟩,⟨F_0,PySem.W.mg_of X G a_0,b_0,F_1,PySem.W.mg_of X G a_1,b_1,F_2,PySem.W.mg_of X G a_2,b_2,F_3,PySem.W.mg_of X G a_3,b_3,F_4,PySem.W.mg_of X G a_4,b_4,F_5,PySem.W.mg_of X G a_5,b_5,F_6,PySem.W.mg_of X G a_6,b_6,F_7,PySem.W.mg_of X G a_7,b_7,F_8,PySem.W.mg_of X G a_8,b_8,F_9,PySem.W.mg_of X G a_9,b_9,F_10,PySem.W.mg_of X G a_10,b_10,F_11,PySem.W.mg_of X G a_11,b_11,F_12,PySem.W.mg_of X G a_12,b_12,F_13,PySem.W.mg_of X G a_13,b_13,F_14,PySem.W.mg_of X G a_14,b_14,F_15,PySem.W.mg_of X G a_15,b_15,F_16,PySem.W.mg_of X G a_16,b_16,F_17,PySem.W.mg_of X G a_17,b_17,F_18,PySem.W.mg_of X G a_18,b_18,F_19,PySem.W.mg_of X G a_19,b_19,F_20,PySem.W.mg_of X G a_20,b_20,PySem.W.mg_of X G aC_SumError,xC_SumError,e_SumError_SumError,e_BadBoard_SumError,zbW v_SumError,zbW e_SumError_SumError,zbW e_BadBoard_SumError,PySem.W.mg_of X G aC_BadBoard,xC_BadBoard,e_SumError_BadBoard,e_BadBoard_BadBoard,zbW v_BadBoard,zbW e_BadBoard_BadBoard,PySem.W.mg_of X G n_LARGEST_SIZE,PySem.W.mg_none_of X G z_all,PySem.W.mg_none_of X G z_bool,PySem.W.mg_none_of X G z_int,PySem.W.mg_none_of X G z_isinstance,PySem.W.mg_none_of X G z_len,PySem.W.mg_none_of X G z_list,PySem.W.mg_none_of X G z_range,PySem.W.mg_none_of X G z_reversed,PySem.W.mg_none_of X G z_sorted,PySem.W.mg_none_of X G z_zip⟩,rfl,_,_,_,_,_,_,rfl⟩
end Qk03
open PySem PySem.W PyProof.Rows
set_option maxRecDepth 100000 in
set_option maxHeartbeats 0 in
theorem PySem.Challenge.cw_likesums_k03_kin_holds : PySem.Challenge.rw_likesums_k03_kin.Holds := by
 w_on;o_law;k_head;(case hw=>w_witness2)
 k_fill
 refine TL.walk (l:=PySem.Challenge.rw_likesums_k03_kin) rfl rfl (fun w h Y=>PySem.W.kIn_of Y) ?F
 case F =>
  intro w mg fa h KX G hmg
  have T:∃ t:Qk03.Adr,Qk03.Txt (L2.KOf KX) mg t∧t.f_law=fa∧∃ (kV doc pm:Value) (an:Option Addr) (cdv ct:Value),t.d_law=PySem.W.fnOf "law" "law" (L2.defArgs Qk03.s_law) (L2.defBody Qk03.s_law) (L2.defScope Qk03.s_law) .none kV doc pm an cdv ct:=by
   dsimp only [L2.KOf]
   refine' Qk03.txt_mk KX G hmg ?c0 ?c1 ?c2 ?c3 ?c4 ?c5 ?c6 ?c7 ?c8 ?c9 ?c10 ?c11 ?c12 ?c13 ?c14 ?c15 ?c16 ?c17 ?c18 ?c19 ?c20 ?c21 ?c22 ?c23 ?c24 ?c25 ?c26 ?c27 ?c28 ?c29 ?c30 ?c31 ?c32 ?c33 ?c34 ?c35 ?c36 ?c37 ?c38 ?c39 ?c40 ?c41 ?c42 ?c43 ?c44 ?c45 ?c46 ?c47 ?c48 ?c49 ?c50 ?c51 ?c52 ?c53 ?c54 ?c55 ?c56 ?c57 ?c58 ?c59 ?c60 ?c61 ?c62 ?c63 ?c64 ?c65 ?c66 ?c67 ?c68 ?c69 ?c70 ?c71 ?c72 ?c73 ?c74 ?c75 ?c76 ?c77 ?c78 ?c79 ?c80 ?c81 ?c82 ?c83 ?c84 ?c85 ?c86 ?c87 ?c88 ?c89 ?c90 ?c91 ?c92 ?c93 ?c94 ?c95 ?c96 ?c97 ?c98 ?c99 ?c100 ?c101 ?c102 ?c103 ?c104
   (case c0=>k_is)
   (case c1=>k_is)
   (case c2=>k_is)
   (case c3=>k_is)
   (case c4=>k_is)
   (case c5=>k_is)
   (case c6=>k_is)
   (case c7=>k_is)
   (case c8=>k_is)
   (case c9=>k_is)
   (case c10=>k_is)
   (case c11=>k_is)
   (case c12=>k_is)
   (case c13=>k_is)
   (case c14=>k_is)
   (case c15=>k_is)
   (case c16=>k_is)
   (case c17=>k_is)
   (case c18=>k_is)
   (case c19=>k_is)
   (case c20=>k_is)
   (case c21=>k_is)
   (case c22=>k_is)
   (case c23=>k_is)
   (case c24=>k_is)
   (case c25=>k_is)
   (case c26=>k_is)
   (case c27=>k_is)
   (case c28=>k_is)
   (case c29=>k_is)
   (case c30=>k_is)
   (case c31=>k_is)
   (case c32=>k_is)
   (case c33=>k_is)
   (case c34=>k_is)
   (case c35=>k_is)
   (case c36=>k_is)
   (case c37=>k_is)
   (case c38=>k_is)
   (case c39=>k_is)
   (case c40=>k_is)
   (case c41=>k_is)
   (case c42=>k_is)
   (case c43=>k_is)
   (case c44=>k_is)
   (case c45=>k_is)
   (case c46=>k_is)
   (case c47=>k_is)
   (case c48=>k_is)
   (case c49=>k_is)
   (case c50=>k_is)
   (case c51=>k_is)
   (case c52=>k_is)
   (case c53=>k_is)
   (case c54=>k_is)
   (case c55=>k_is)
   (case c56=>k_is)
   (case c57=>k_is)
   (case c58=>k_is)
   (case c59=>k_is)
   (case c60=>k_is)
   (case c61=>k_is)
   (case c62=>k_is)
   (case c63=>k_is)
   (case c64=>k_is)
   (case c65=>k_is)
   (case c66=>k_is)
   (case c67=>k_is)
   (case c68=>k_is)
   (case c69=>k_is)
   (case c70=>k_is)
   (case c71=>k_is)
   (case c72=>k_is)
   (case c73=>k_is)
   (case c74=>k_is)
   (case c75=>k_is)
   (case c76=>k_is)
   (case c77=>k_is)
   (case c78=>k_is)
   (case c79=>k_is)
   (case c80=>k_is)
   (case c81=>k_is)
   (case c82=>k_is)
   (case c83=>k_is)
   (case c84=>k_is)
   (case c85=>k_is)
   (case c86=>k_exc)
   (case c87=>kts_exm)
   (case c88=>kts_exm)
   (case c89=>kts_exm)
   (case c90=>k_exc)
   (case c91=>kts_exm)
   (case c92=>kts_exm)
   (case c93=>kts_exm)
   (case c94=>k_is)
   (case c95=>k_is)
   (case c96=>k_is)
   (case c97=>k_is)
   (case c98=>k_is)
   (case c99=>k_is)
   (case c100=>k_is)
   (case c101=>k_is)
   (case c102=>k_is)
   (case c103=>k_is)
   (case c104=>k_is)
  obtain⟨t,T,e,kV,doc,pm,an,cdv,ct,e2⟩:=T
  cases e
  refine ⟨t.d_law,fun s v=>?_,fun base _ _=>TL.law_fn (Qk03.ok_law T) (by decide) Qk03.law_true⟩
  rw [e2]
  exact .of_eq rfl
