import PyProof.Rows.All
import Wide.All
import OpenK.AllK
import Wide.FinOn
import Lean
import PyProof.EqAt
import PyProof.EqKinds
import PyProof.TupleCall
import PyProof.Rows.SortPure
import PyProof.Rows.SortWalk
import PyProof.NeKinds
import KE.KRevIter
import PyProof.ExcBaseAll.ValueError
import PyProof.EnumFor
import PyProof.EnumMake
import PyProof.EnumStmt
import PyProof.Rows.SetFrom
import PyProof.SetRoads
import PyProof.CollectWalk
import PyProof.Rows.SeqMore2
import KE.KIsAll
import PyProof.ExcArgs
import PyProof.Rows.CountFlat
import PySem.Challenge.RW_likesums_k10_whole_fillings_of_opened_bo
set_option Elab.async false
set_option linter.all false
set_option maxRecDepth 100000
set_option maxHeartbeats 0
namespace L2
open PySem PySem.Spec PyProof.Rows
noncomputable abbrev Key:=Sum Int Str
noncomputable def zp8:Key→Value→Bool
 | .inl k,v=>Value.isInt k v
 | .inr x,v=>Value.isStrOf x v
noncomputable def keyH (w:World):Key→Int
 | .inl k=>hashInt k
 | .inr x=>hashStr w x
theorem za6:∀ {k:Key} {v:Value},zp8 k v=true→(∃ i t,k=Sum.inl i∧v=Value.int i t)∨(∃ x t,k=Sum.inr x∧v=Value.str x t)
 | .inl i,v,h=>by
  obtain⟨t,e⟩:=Value.isInt_shape (k:=i) (v:=v) h
  exact .inl ⟨i,t,rfl,e⟩
 | .inr x,v,h=>by
  obtain⟨t,e⟩:=Value.isStrOf_shape (x:=x) (v:=v) h
  exact .inr ⟨x,t,rfl,e⟩
theorem zrN (a b:Int):decide ((Sum.inl a:Key)=Sum.inl b)=(a == b):=by
 by_cases e:a=b
 ·subst e;simp
 ·have h:¬ (Sum.inl a:Key)=Sum.inl b:=fun q=>e (Sum.inl.inj q)
  rw [decide_eq_false h]
  exact (beq_eq_false_iff_ne.mpr e).symm
theorem zrK (a b:Str):decide ((Sum.inr a:Key)=Sum.inr b)=decide (a=b):=by
 by_cases e:a=b
 ·subst e;simp
 ·have h:¬ (Sum.inr a:Key)=Sum.inr b:=fun q=>e (Sum.inr.inj q)
  rw [decide_eq_false h,decide_eq_false e]
theorem zrM (a:Int) (b:Str):decide ((Sum.inl a:Key)=Sum.inr b)=false:=decide_eq_false (fun q=>nomatch q)
theorem zrL (a:Str) (b:Int):decide ((Sum.inr a:Key)=Sum.inl b)=false:=decide_eq_false (fun q=>nomatch q)
noncomputable def zi4 (prog:Program) (w:World):PySem.KeyKind prog w Key where
 is:=zp8
 hash:=keyH w
 inj:=fun v a b ha hb=>by
  rcases za6 ha with ⟨i,t,rfl,rfl⟩ | ⟨x,t,rfl,rfl⟩
  ·rcases za6 hb with ⟨j,u,rfl,e⟩ | ⟨y,u,rfl,e⟩
   ·injection e with e1 _;rw [e1]
   ·exact nomatch e
  ·rcases za6 hb with ⟨j,u,rfl,e⟩ | ⟨y,u,rfl,e⟩
   ·exact nomatch e
   ·injection e with e1 _;rw [e1]
 byValue:=fun k v h=>by
  rcases za6 h with ⟨i,t,rfl,rfl⟩ | ⟨x,t,rfl,rfl⟩ <;> rfl
 pyHash:=fun hv h=>by
  rcases za6 hv with ⟨i,t,rfl,rfl⟩ | ⟨x,t,rfl,rfl⟩
  ·exact wpAny_pyHash_int h
  ·exact wpAny_pyHash_str h
 eqBool:=fun hu hv h=>by
  rcases za6 hu with ⟨i,t,rfl,rfl⟩ | ⟨x,t,rfl,rfl⟩
  ·rcases za6 hv with ⟨j,u,rfl,rfl⟩ | ⟨y,u,rfl,rfl⟩
   ·rw [zrN] at h;exact wpAny_eqBool_int h
   ·rw [zrM] at h;exact SeqAt.EqAt.int_str i t y u _ _ _ _ h
  ·rcases za6 hv with ⟨j,u,rfl,rfl⟩ | ⟨y,u,rfl,rfl⟩
   ·rw [zrL] at h;exact SeqAt.EqAt.str_int x t j u _ _ _ _ h
   ·rw [zrK] at h;exact wpAny_eqBool_str h
 «strs»:=fun k x t v h=>by
  rcases za6 h with ⟨i,u,rfl,e⟩ | ⟨y,u,rfl,e⟩
  ·exact nomatch e
  ·injection e with e1 _
   subst e1
   cases v <;> rfl
theorem zqL (prog:Program) (w:World) (k:Key) (v:Value):(zi4 prog w).is k v=zp8 k v:=rfl
end L2
namespace L2
open PySem PySem.Spec PyProof.Rows
inductive V where
 | non | bl (b:Bool) | int (i:Int) | str (x:Str) | byt (b:Array UInt8) | flt (b:UInt64) | ref (a:Addr) | ty (n:String)
 deriving DecidableEq
noncomputable def RelV:V→Value→Prop
 | .non,u=>u=Value.none
 | .bl b,u=>u=Value.bool b
 | .int i,u=>∃ t,u=Value.int i t
 | .str x,u=>∃ t,u=Value.str x t
 | .byt b,u=>∃ t,u=Value.bytes b t
 | .flt b,u=>∃ t,u=Value.float b t
 | .ref a,u=>u=Value.ref a
 | .ty n,u=>u=Value.type n
noncomputable abbrev Vals:List V→List Value→Prop:=Paired RelV
theorem Vals.length {xs:List V} {us:List Value} (r:Vals xs us):xs.length=us.length:=Paired.length r
theorem Vals.get:∀ {xs:List V} {us:List Value} {i:Nat} {x:V},Vals xs us→xs[i]? = some x→∃ u,us[i]? = some u∧RelV x u
 | _,_,_,_,.nil,e=>by simp at e
 | _,_,0,_,.cons r _,e=>by simp at e;subst e;exact⟨_,rfl,r⟩
 | _,_,i + 1,x,.cons _ t,e=>by
  obtain⟨u,h1,h2⟩:=Vals.get (i:=i) (x:=x) t (by simpa using e)
  exact⟨u,by simpa using h1,h2⟩
theorem Vals.set {x:V} {u:Value} (r:RelV x u):∀ {xs:List V} {us:List Value} (i:Nat),Vals xs us→Vals (xs.set i x) (us.set i u)
 | _,_,_,.nil=>.nil
 | _,_,0,.cons _ t=>.cons r t
 | _,_,i + 1,.cons q t=>.cons q (Vals.set r i t)
theorem Vals.append:∀ {xs ys:List V} {us ws:List Value},Vals xs us→Vals ys ws→Vals (xs ++ ys) (us ++ ws):=by
 intro xs ys us ws h g
 induction h with
 | nil=>exact g
 | cons r _ ih=>exact .cons r ih
theorem Vals.take:∀ {xs:List V} {us:List Value} (n:Nat),Vals xs us→Vals (xs.take n) (us.take n)
 | _,_,0,_=>.nil
 | _,_,_ + 1,.nil=>.nil
 | _,_,n + 1,.cons r t=>.cons r (Vals.take n t)
theorem Vals.drop:∀ {xs:List V} {us:List Value} (n:Nat),Vals xs us→Vals (xs.drop n) (us.drop n)
 | _,_,0,r=>r
 | _,_,_ + 1,.nil=>.nil
 | _,_,n + 1,.cons _ t=>Vals.drop n t
noncomputable def RelO:Option V→Option Value→Prop
 | some v,some u=>RelV v u
 | none,none=>True
 | _,_=>False
noncomputable def KV {κ:Type}:List (κ×V)→List (κ×Value)→Prop:=Paired fun (p:κ×V) (q:κ×Value)=>p.1=q.1∧RelV p.2 q.2
noncomputable def kV:Key→V
 | .inl i=>.int i
 | .inr x=>.str x
inductive HO where
 /-- a list -/
 | lst (xs:List V)
 /-- a tuple (never changes) -/
 | tup (xs:List V)
 /-- a dict whose keys are ints and texts;one whose keys are tuples of ints and texts (the empty one is both) -/
 | dK (kvs:List (Key×V)) | dT (kvs:List (List Key×V))
 /-- a set of ints: its members,its size -/
 | set (S:Int→Bool) (n:Nat)
 /-- an instance of the class at C,its dict at dx,its attributes -/
 | ins (C dx:Addr) (fs:List (Str×V))
 /-- the dict of the instance at x -/
 | own (x:Addr)
 /-- the dict of an exception -/
 | xd (fs:List (Str×V))
 /-- a bound method,f of x -/
 | met (f x:Addr)
 /-- a range object lo,lo + 1,.. below hi -/
 | rng (lo hi:Int)
 /-- a thing that is known to the object (the script;a dict while a loop walks it): read,never written while it is so -/
 | frz (o:Obj) (u:HO)
 /-- a code object's table -/
 | tbl (ps:Array Value)
 /-- any other thing,by what is true of its one object (a def of one's own: SetO a S n:=HO.ext fun h=>..) -/
 | ext (φ:Heap→Prop)
noncomputable abbrev Hp:=Addr→Option HO
noncomputable def upd (H:Hp) (a:Addr) (o:HO):Hp:=fun b=>if b=a then some o else H b
theorem zaR {H:Hp} {a:Addr} {o:HO}:upd H a o a=some o:=by unfold upd;rw [if_pos rfl]
theorem zaw {H:Hp} {a b:Addr} {o:HO} (h:b≠a):upd H a o b=H b:=by unfold upd;rw [if_neg h]
theorem zaF {H:Hp} {a b:Addr} {o:HO} (h:H a=some o) (h':H b=none):a≠b:=by
 intro e;subst e;rw [h] at h';cases h'
section
variable (P:Program) (w:World)
noncomputable def zd2 (H:Hp) (h:Heap) (a:Addr):HO→Prop
 | .lst xs=>xs.length≤sizeLine∧∃ (its:List Value) (n:Nat),Vals xs its∧h.get? a=some { cls:=.type "list", data:=.seq its.toArray n }
 | .tup xs=>xs.length≤sizeLine∧∃ its:List Value,Vals xs its∧IsTup h a its.toArray
 | .dK kvs=>kvs.length≤sizeLine∧(a == sysModules)=false∧∃ vs,KV kvs vs∧h.DictOf (zi4 P w) a vs
 | .dT kvs=>kvs.length≤sizeLine∧(a == sysModules)=false∧∃ xs:List (List Key×Addr×Value),
   Paired (fun (p:List Key×V) (q:List Key×Addr×Value)=>p.1=q.1∧H q.2.1=some (.tup (p.1.map kV))∧RelV p.2 q.2.2) kvs xs ∧
   ∃ o es ep,h.get? a=some o∧o.ExactDict∧o.data=.dict es ep∧es.toList=xs.map (entryOfKey (tupleKind (zi4 P w)))∧(xs.map (·.1)).Nodup
 | .set S n=>h.SetOf (intKind P w) a S n
 | .ins C dx fs=>H dx=some (.own a)∧fs.length≤1000∧dx≠a∧h.get? a=some (PySem.W.instObj C dx) ∧
   ∃ mA,h.Ns1 dx mA∧(∀ f,RelO (fs.lookup f) (mA f))∧PySem.Within mA (fs.map (·.1))
 | .own _=>∃ o,h.get? a=some o
 | .xd fs=>∃ mA,h.Ns1 a mA∧∀ f,RelO (fs.lookup f) (mA f)
 | .rng lo hi=>∃ t u v,h.get? a=some { cls:=.type "range", data:=.fields #[.int lo t,.int hi u,.int 1 v] }
 | .frz o u=>h.get? a=some o∧zd2 H h a u
 | .tbl ps=>h.get? a=some { cls:=.none,data:=.fields ps }
 | .met f x=>h.get? a=some (PySem.W.methodObj (.ref f) (.ref x))
 | .ext φ=>φ h∧(∃ o,h.get? a=some o)∧∀ h1 h2:Heap,φ h1→(∀ o,h1.get? a=some o→h2.get? a=some o)→φ h2
def HOk (H:Hp) (h:Heap):Prop:=∀ a o,H a=some o→zd2 P w H h a o
end
section
variable {P:Program} {w:World} {H H':Hp} {h h':Heap} {a:Addr} {o:HO}
theorem zd2.lt (x:zd2 P w H h a o):a < h.objs.size:=by
 cases o with
 | lst xs=>obtain⟨_,_,_,_,e⟩:=x;exact Heap.lt_size e
 | tup xs=>obtain⟨_,_,_,p⟩:=x;exact p.lt
 | dK kvs=>obtain⟨_,_,_,_,o,_,_,e,_⟩:=x;exact Heap.lt_size e
 | dT kvs=>obtain⟨_,_,_,_,o,_,_,e,_⟩:=x;exact Heap.lt_size e
 | set S n=>obtain⟨o,_,_,_,e,_⟩:=x;exact Heap.lt_size e
 | ins C dx fs=>obtain⟨_,_,_,e,_⟩:=x;exact Heap.lt_size e
 | own y=>obtain⟨_,e⟩:=x;exact Heap.lt_size e
 | xd fs=>obtain⟨_,⟨_,_,_,e,_⟩,_⟩:=x;exact Heap.lt_size e
 | rng lo hi=>obtain⟨_,_,_,e⟩:=x;exact Heap.lt_size e
 | frz ob u=>obtain⟨e,_⟩:=x;exact Heap.lt_size e
 | tbl ps=>exact Heap.lt_size (show h.get? a=some _ from x)
 | met f y=>exact Heap.lt_size (show h.get? a=some _ from x)
 | ext φ=>obtain⟨_,⟨_,e⟩,_⟩:=x;exact Heap.lt_size e
theorem Paired.mapP {α β:Type} {F G:α→β→Prop}:∀ {l₁:List α} {l₂:List β},Paired F l₁ l₂→(∀ a b,F a b→G a b)→Paired G l₁ l₂
 | _,_,.nil,_=>.nil
 | _,_,.cons r t,f=>.cons (f _ _ r) (Paired.mapP t f)
theorem zd2.stay (x:zd2 P w H h a o) (k:∀ b u,(b=a∨H b=some (.own a))→h.get? b=some u→h'.get? b=some u)
  (ho:∀ b,H b=some (.own a)→H' b=some (.own a)) (ht:∀ b xs,H b=some (.tup xs)→H' b=some (.tup xs)):zd2 P w H' h' a o:=by
 induction o with
 | lst xs=>obtain⟨z,its,n,r,e⟩:=x;exact⟨z,its,n,r,k _ _ (.inl rfl) e⟩
 | tup xs=>obtain⟨z,its,r,ob,e,c⟩:=x;exact⟨z,its,r,ob,k _ _ (.inl rfl) e,c⟩
 | dK kvs=>obtain⟨z,y,vs,r,ob,es,ep,e,c⟩:=x;exact⟨z,y,vs,r,ob,es,ep,k _ _ (.inl rfl) e,c⟩
 | dT kvs =>
  obtain⟨z,y,xs,r,ob,es,ep,e,c⟩:=x
  exact⟨z,y,xs,Paired.mapP r fun p q z=>⟨z.1,ht _ _ z.2.1,z.2.2⟩,ob,es,ep,k _ _ (.inl rfl) e,c⟩
 | set S n=>obtain⟨ob,es,ep,t,e,c⟩:=x;exact⟨ob,es,ep,t,k _ _ (.inl rfl) e,c⟩
 | ins C dx fs =>
  obtain⟨d,z,ne,e,mA,⟨od,es,ep,e2,c⟩,r⟩:=x
  exact⟨ho _ d,z,ne,k _ _ (.inl rfl) e,mA,⟨od,es,ep,k _ _ (.inr d) e2,c⟩,r⟩
 | own y=>obtain⟨ob,e⟩:=x;exact⟨ob,k _ _ (.inl rfl) e⟩
 | xd fs=>obtain⟨mA,⟨od,es,ep,e,c⟩,r⟩:=x;exact⟨mA,⟨od,es,ep,k _ _ (.inl rfl) e,c⟩,r⟩
 | rng lo hi=>obtain⟨t,u,v,e⟩:=x;exact⟨t,u,v,k _ _ (.inl rfl) e⟩
 | frz ob u ih=>obtain⟨e,q⟩:=x;exact⟨k _ _ (.inl rfl) e,ih q⟩
 | tbl ps =>
  have e:h.get? a=some { cls:=.none,data:=.fields ps }:=x
  show h'.get? a=some { cls:=.none,data:=.fields ps }
  exact k a _ (.inl rfl) e
 | met f y =>
  have e:h.get? a=some (PySem.W.methodObj (.ref f) (.ref y)):=x
  show h'.get? a=some (PySem.W.methodObj (.ref f) (.ref y))
  exact k a _ (.inl rfl) e
 | ext φ=>obtain⟨p,⟨o,e⟩,st⟩:=x;exact⟨st _ _ p fun o q=>k _ _ (.inl rfl) q,⟨o,k _ _ (.inl rfl) e⟩,st⟩
theorem HOk.lt (x:HOk P w H h) (e:H a=some o):a < h.objs.size:=(x a o e).lt
theorem HOk.fresh (x:HOk P w H h) (e:h.objs.size≤a):H a=none:=by
 cases q:H a with
 | none=>rfl
 | some u=>exact absurd (Nat.lt_of_lt_of_le (x.lt q) e) (Nat.lt_irrefl _)
theorem HOk.kept (x:HOk P w H h) (k:∀ b u,h.get? b=some u→h'.get? b=some u):HOk P w H h':=fun a o e =>
 (x a o e).stay (fun b u _ q=>k b u q) (fun _ q=>q) fun _ _ q=>q
theorem HOk.laid (x:HOk P w H h) (k:∀ b u,h.get? b=some u→h'.get? b=some u) (hp:h.objs.size≤a) (new:zd2 P w (upd H a o) h' a o):HOk P w (upd H a o) h':=fun b u e=>by
 have hn:=x.fresh hp
 by_cases hb:b=a
 ·subst hb;rw [zaR] at e;cases e;exact new
 ·rw [zaw hb] at e
  exact (x b u e).stay (fun c v _ q=>k c v q) (fun c q=>by rw [zaw (zaF q hn)];exact q) fun c xs q=>by rw [zaw (zaF q hn)];exact q
end
def Rd (H:Hp) (a:Addr) (u:HO):Prop:=H a=some u∨∃ o,H a=some (.frz o u)
theorem Rd.ok {P:Program} {w:World} {H:Hp} {h:Heap} {a:Addr} {u:HO} (r:Rd H a u) (x:HOk P w H h):zd2 P w H h a u:=by
 rcases r with r | ⟨o,r⟩
 ·exact x a u r
 ·obtain⟨_,q⟩:=x a _ r
  exact q
noncomputable def Mut:Option HO→Prop
 | some (.lst _)=>True
 | some (.dK _)=>True
 | some (.dT _)=>True
 | some (.set _ _)=>True
 | some (.ins _ _ _)=>True
 | some (.ext _)=>True
 | _=>False
section
variable {P:Program} {w:World} {H:Hp} {h h':Heap} {x e:Addr} {o':HO}
theorem HOk.write (ok:HOk P w H h) (mu:Mut (H x)) (he:e=x∨H e=some (.own x)) (k:∀ b u,b≠e→h.get? b=some u→h'.get? b=some u) (heo:∃ u,h'.get? e=some u)
  (new:zd2 P w (upd H x o') h' x o'):HOk P w (upd H x o') h':=fun b u q=>by
 have nown:∀ c y,H c=some (.own y)→c≠x:=fun c y r z=>by subst z;rw [r] at mu;exact mu
 have ntup:∀ c xs,H c=some (.tup xs)→c≠x:=fun c xs r z=>by subst z;rw [r] at mu;exact mu
 by_cases hb:b=x
 ·subst hb;rw [zaR] at q;cases q;exact new
 ·rw [zaw hb] at q
  by_cases hbe:b=e
  ·have q':H b=some (.own x):=by
    rcases he with z | z
    ·exact absurd (hbe.trans z) hb
    ·rw [hbe];exact z
   rw [q] at q';cases q'
   obtain⟨v,hv⟩:=heo
   exact⟨v,by rw [hbe];exact hv⟩
  ·refine (ok b u q).stay (fun c v hc r=>k c v ?_ r) (fun c r=>by rw [zaw (nown c b r)];exact r) fun c xs r=>by rw [zaw (ntup c xs r)];exact r
   rcases hc with rfl | hc
   ·exact hbe
   ·rintro rfl
    rcases he with z | z
    ·exact nown c b hc z
    ·rw [hc] at z;cases z;exact hb rfl
end
structure Un (fs ex:List Addr) (H H':Hp) (h h':Heap):Prop where
 keep:∀ b o,h.get? b=some o→H b=none→b∉fs→b∉ex→h'.get? b=some o
 slot:∀ b o,h.get? b=some o→H b=none→b∈fs→b∉ex→∃ sl,h'.get? b=some { o with slots:=sl }
 free:∀ b o,h.get? b=some o→H b=none→b∉ex→H' b=none
 there:∀ b o,h.get? b=some o→b∉ex→∃ o',h'.get? b=some o'
 tups:∀ b xs,H b=some (.tup xs)→H' b=some (.tup xs)
 frzs:∀ b o u,H b=some (.frz o u)→H' b=some (.frz o u)
 tbls:∀ b ps,H b=some (.tbl ps)→∃ more,H' b=some (.tbl (ps ++ more))
section
variable {fs fs' ex ex':List Addr} {H H1 H2:Hp} {h h1 h2 h':Heap} {a x e:Addr} {o:HO}
theorem Un.any (u:Un fs ex H H1 h h1) {b:Addr} {ob:Obj} (q:h.get? b=some ob) (n:H b=none) (hx:b∉ex):∃ sl,h1.get? b=some { ob with slots:=sl }:=by
 by_cases hb:b∈fs
 ·exact u.slot b ob q n hb hx
 ·exact⟨ob.slots,u.keep b ob q n hb hx⟩
theorem Un.kept (k:∀ b u,h.get? b=some u→h'.get? b=some u):Un fs ex H H h h':=
 ⟨fun b ob q _ _ _=>k b ob q,fun b ob q _ _ _=>⟨ob.slots,k b ob q⟩,fun _ _ _ n _=>n,fun b ob q _=>⟨ob,k b ob q⟩,fun _ _ q=>q,fun _ _ _ q=>q,fun _ ps q=>⟨#[],by rw [q];simp⟩⟩
theorem Un.refl:Un fs ex H H h h:=Un.kept fun _ _ q=>q
theorem Un.laid (k:∀ b u,h.get? b=some u→h'.get? b=some u) (hp:h.objs.size≤a) (hn:H a=none):Un fs ex H (upd H a o) h h' where
 keep:=fun b u q _ _ _=>k b u q
 slot:=fun b u q _ _ _=>⟨u.slots,k b u q⟩
 free:=fun b u q n _=>by rw [zaw (Nat.ne_of_lt (Nat.lt_of_lt_of_le (Heap.lt_size q) hp))];exact n
 there:=fun b u q _=>⟨u,k b u q⟩
 tups:=fun b xs q=>by rw [zaw (zaF q hn)];exact q
 frzs:=fun b u xs q=>by rw [zaw (zaF q hn)];exact q
 tbls:=fun b ps q=>⟨#[],by rw [zaw (zaF q hn),q];simp⟩
theorem Un.write (mu:Mut (H x)) (he:e=x∨H e=some (.own x)) (k:∀ b u,b≠e→h.get? b=some u→h'.get? b=some u) (heo:∃ u,h'.get? e=some u):Un fs ex H (upd H x o) h h':=by
 have hx:∀ b,H b=none→b≠x:=fun b n z=>by subst z;rw [n] at mu;exact mu
 have hb:∀ b,H b=none→b≠e:=fun b n z=>by
  subst z
  rcases he with r | r
  ·exact hx b n r
  ·rw [n] at r;cases r
 have hm:∀ b u,H b=some u→¬ Mut (some u)→b≠x:=fun b u q nm z=>by subst z;rw [q] at mu;exact nm mu
 refine ⟨fun b u q n _ _=>k b u (hb b n) q,fun b u q n _ _=>⟨u.slots,k b u (hb b n) q⟩,fun b u q n _=>by rw [zaw (hx b n)];exact n,fun b u q _=>?_,
  fun b xs q=>by rw [zaw (hm b _ q fun z=>z)];exact q,fun b u xs q=>by rw [zaw (hm b _ q fun z=>z)];exact q,fun b ps q=>⟨#[],by rw [zaw (hm b _ q fun z=>z),q];simp⟩⟩
 by_cases hbe:b=e
 ·subst hbe;exact heo
 ·exact⟨u,k b u hbe q⟩
end
noncomputable def trk (h:Heap) (H:Hp):List Addr:=(List.range h.objs.size).filter fun a=>(H a).isSome
noncomputable def hidT (h:Heap) (H:Hp):Heap:=PySem.W.hideAll h (trk h H)
theorem zm9 (h:Heap) (H:Hp):(hidT h H).objs.size=h.objs.size:=PySem.W.hideAll_size _ _
theorem zoi {h:Heap} {H:Hp} {b:Addr} {o:Obj} (e:h.get? b=some o) (n:H b=none):(hidT h H).get? b=some o:=
 PySem.W.hideAll_get _ e fun hm=>by
  have q:(H b).isSome=true:=(List.mem_filter.mp hm).2
  rw [n] at q;simp at q
theorem zpT {h:Heap} {H:Hp} {b:Addr} {o:Obj} (e:(hidT h H).get? b=some o):h.get? b=some o∧H b=none:=by
 have e':h.get? b=some o:=PySem.W.of_hideAll (trk h H) e
 refine ⟨e',?_⟩
 cases q:H b with
 | none=>rfl
 | some x =>
  have hm:b∈trk h H:=List.mem_filter.mpr ⟨List.mem_range.mpr (Heap.lt_size e'),by simp [q]⟩
  have z:(hidT h H).get? b=none:=PySem.W.hideAll_none (trk h H) hm
  rw [z] at e;cases e
end L2
namespace L2
open PySem PySem.Spec PyProof.Rows
structure Mod (K:PySem.W.Frag) (mg:Str→Option Value) (base:Heap):Prop where
 kin:K.In base
 glob:base.Ns mainGlobals mg
 blt:∃ mb,base.Ns builtinsNs mb∧∀ x:Str,x ≠ "__name__" → mb x=bootBuiltins x
 nolimit:base.NoLimit
structure Cx where
 prog:Program
 w:World
 K:PySem.W.Frag
 mg:Str→Option Value
 base:Heap
 A:Around
 N:List Str
 s₀:Shared
 H₀:Hp
 env:Env
 outer:List Env
 stack:List Env
 ex:List Addr
 fn:Str→Bool
 calm:Bool
 pn:List (Addr×Obj)
 xe:Value→Shared→Prop
noncomputable def frs (l:List Env):List Addr:=l.filterMap (·.frame)
noncomputable abbrev Cx.fs (X:Cx):List Addr:=frs X.outer
def Vis (sc:Scope) (x:Str):Prop:=sc.names.lookup x=some .local∨sc.names.lookup x=some .cell∨sc.names.lookup x=some .free
def Loc (sc:Scope) (x:Str):Prop:=sc.names.lookup x=some .local∨sc.names.lookup x=some .cell
def Look (env:Env) (h:Heap) (m:Str→Option Value) (x:Str) (u:Value):Prop:=
 (env.kindOf x=some .local∧m x=some u)∨((env.kindOf x=some .cell∨env.kindOf x=some .free)∧∃ c,env.cells.lookup x=some c∧h.IsCell c (some u))
structure Cx.Ok (X:Cx):Prop where
 mod:Mod X.K X.mg X.base
 kind:X.env.scope.kind=.function
 glob:X.env.globals=mainGlobals
 blt:X.env.builtins=builtinsNs
 above:X.s₀.heap.objs.size≤X.env.locals
 inj:∀ x y c,X.env.cells.lookup x=some c→X.env.cells.lookup y=some c→x=y
 has:∀ x,(X.env.kindOf x=some .cell∨X.env.kindOf x=some .free)→∃ c,X.env.cells.lookup x=some c
 cab:∀ x c,X.fn x=true→X.env.cells.lookup x=some c→X.s₀.heap.objs.size≤c
 hd:X.calm=true→X.A.handled=none
 frames:X.A.frames=some X.stack
 stk:X.stack=X.outer∨(X.stack=X.env :: X.outer∧X.env.frame=some X.env.locals)
 exf:∀ b∈X.ex,b≠X.env.locals∧∀ x c,X.env.cells.lookup x=some c→c≠b
 bs:∀ b o,X.base.get? b=some o→X.s₀.heap.get? b=some o∧X.H₀ b=none
 bsz:X.base.objs.size≤X.s₀.heap.objs.size
 noex:∀ b o,X.base.get? b=some o→b∉X.ex
 exfs:∀ b∈X.ex,b∉X.fs
 funs:X.s₀.heap.FunFrames X.base X.outer
 frf:∀ b∈X.fs,X.H₀ b=none
structure Inv (X:Cx) (pins:List (Addr×Obj)) (σ:List (Option V)) (H:Hp) (s:Shared):Prop where
 ok:X.Ok
 os:s.os=X.s₀.os
 bare:AllBare s.gens
 base:Un X.fs X.ex X.H₀ H X.s₀.heap s.heap
 loc:∃ m,s.heap.Ns X.env.locals m∧∀ (i:Nat) (x:Str) (v:V),X.N[i]? = some x→σ[i]? = some (some v)→Vis X.env.scope x→∃ u,RelV v u∧Look X.env s.heap m x u
 cell:∀ x c,X.env.cells.lookup x=some c→∃ v,s.heap.IsCell c v
 free:H X.env.locals=none
 freeC:∀ x c,X.env.cells.lookup x=some c→H c=none
 pin:∀ p∈X.pn ++ pins,s.heap.get? p.1=some p.2∧H p.1=none∧p.1≠X.env.locals∧p.1∉X.fs∧∀ v,p.2.data≠.cell v
 hok:HOk X.prog X.w H s.heap
 len:σ.length=X.N.length
section
variable {X:Cx} {pins:List (Addr×Obj)} {σ:List (Option V)} {H H':Hp} {s:Shared} {h':Heap}
theorem Cx.Ok.nofr (ok:X.Ok) {b:Addr} {o:Obj} (e:X.base.get? b=some o):b∉X.fs:=fun hb=>by
 have:=(ok.funs.mem hb).1
 rw [e] at this;cases this
theorem Inv.bs (I:Inv X pins σ H s):∀ b o,X.base.get? b=some o→s.heap.get? b=some o∧H b=none:=fun b o e =>
 ⟨I.base.keep b o (I.ok.bs b o e).1 (I.ok.bs b o e).2 (I.ok.nofr e) (I.ok.noex b o e),I.base.free b o (I.ok.bs b o e).1 (I.ok.bs b o e).2 (I.ok.noex b o e)⟩
theorem Inv.bk (I:Inv X pins σ H s):∀ b o,X.base.get? b=some o→s.heap.get? b=some o:=fun b o e=>(I.bs b o e).1
theorem Inv.mod (I:Inv X pins σ H s):Mod X.K X.mg X.base:=I.ok.mod
theorem Inv.kIn (I:Inv X pins σ H s):X.K.In s.heap:=I.ok.mod.kin.keeps I.bk
theorem Inv.lt (I:Inv X pins σ H s):X.env.locals < s.heap.objs.size:=let ⟨_,hn,_⟩:=I.loc;hn.lt
theorem Inv.sz (I:Inv X pins σ H s):X.s₀.heap.objs.size≤s.heap.objs.size:=Nat.le_trans I.ok.above (Nat.le_of_lt I.lt)
theorem Inv.nofs (I:Inv X pins σ H s) {a:Addr} (h:s.heap.objs.size≤a):a∉X.fs:=fun hb=>by
 obtain⟨_,o,ho,_⟩:=I.ok.funs.mem hb
 exact absurd (Nat.lt_of_lt_of_le (Heap.lt_size ho) (Nat.le_trans I.sz h)) (Nat.lt_irrefl _)
theorem Inv.cne (I:Inv X pins σ H s):∀ x c,X.env.cells.lookup x=some c→c≠X.env.locals:=fun x c e z=>by
 obtain⟨v,o,ho,hd⟩:=I.cell x c e
 obtain⟨m,⟨o',es,ep,ho',hd',_⟩,_⟩:=I.loc
 rw [z,ho'] at ho;cases ho;rw [hd'] at hd;cases hd
theorem Inv.funs (I:Inv X pins σ H s):s.heap.FunFrames X.base X.outer:=by
 have all:∀ (l:List Env),(∀ b∈frs l,b∈X.fs)→X.s₀.heap.FunFrames X.base l→s.heap.FunFrames X.base l:=by
  intro l
  induction l with
  | nil=>intro _ _;trivial
  | cons env r ih =>
   intro hs hl
   obtain⟨hk,⟨L,o,hf,hn,ho,hd⟩,hr⟩:=hl
   have hL:L∈X.fs:=hs L (by unfold frs;rw [List.filterMap_cons,hf];exact List.mem_cons_self)
   obtain⟨sl,e⟩:=I.base.slot L o ho (I.ok.frf L hL) hL fun z=>I.ok.exfs L z hL
   exact⟨hk,⟨L,_,hf,hn,e,hd⟩,ih (fun b hb=>hs b (by unfold frs;rw [List.filterMap_cons,hf];exact List.mem_cons_of_mem _ hb)) hr⟩
 exact all X.outer (fun _ hb=>hb) I.ok.funs
theorem Inv.stack (I:Inv X pins σ H s):s.heap.FunFrames X.base X.stack:=by
 rcases I.ok.stk with e | ⟨e,hf⟩
 ·rw [e];exact I.funs
 ·rw [e]
  obtain⟨m,hn,_⟩:=I.loc
  refine .cons (by rw [I.ok.kind];decide) hf hn ?_ I.funs
  exact Heap.get?_none_of_le (Nat.le_trans I.ok.bsz I.ok.above)
theorem Inv.stkSub (I:Inv X pins σ H s):∀ b∈frs X.stack,b∈X.env.locals :: X.fs:=fun b hb=>by
 rcases I.ok.stk with e | ⟨e,hf⟩
 ·rw [e] at hb;exact List.mem_cons_of_mem _ hb
 ·rw [e] at hb
  unfold frs at hb
  rw [List.filterMap_cons,hf] at hb
  exact hb
theorem Inv.stkFree (I:Inv X pins σ H s):∀ b∈frs X.stack,H b=none:=fun b hb=>by
 rcases List.mem_cons.mp (I.stkSub b hb) with e | hb
 ·rw [e];exact I.free
 ·obtain⟨_,o,ho,_⟩:=I.ok.funs.mem hb
  exact I.base.free b o ho (I.ok.frf b hb) fun z=>I.ok.exfs b z hb
theorem Inv.step {g':Array GenState} {t':Nat} {d':Drawn} {ch:List Addr} (I:Inv X pins σ H s)
  (hch:∀ b∈ch,(b∈X.ex∨X.s₀.heap.objs.size≤b)∧b≠X.env.locals∧(∀ x c,X.env.cells.lookup x=some c→c≠b)∧∀ p∈X.pn ++ pins,p.1≠b)
  (keep:∀ b o,b≠X.env.locals→b∉X.fs→b∉ch→s.heap.get? b=some o→H b=none→h'.get? b=some o)
  (slot:∀ b o,b≠X.env.locals→b∈X.fs→b∉ch→s.heap.get? b=some o→H b=none→∃ sl,h'.get? b=some { o with slots:=sl }) (free:∀ b o,b∉ch→s.heap.get? b=some o→H b=none→H' b=none)
  (there:∀ b o,b∉ch→s.heap.get? b=some o→∃ o',h'.get? b=some o')
  (tups:∀ b xs,H b=some (.tup xs)→H' b=some (.tup xs)) (frzs:∀ b o u,H b=some (.frz o u)→H' b=some (.frz o u)) (tbls:∀ b ps,H b=some (.tbl ps)→∃ more,H' b=some (.tbl (ps ++ more)))
  (ns:∀ m,s.heap.Ns X.env.locals m→h'.Ns X.env.locals m) (hok:HOk X.prog X.w H' h') (hg:AllBare g') :
  Inv X pins σ H' { s with heap:=h',gens:=g',drawn:=d',toks:=t' }:=by
 have neL:∀ b o,X.s₀.heap.get? b=some o→b≠X.env.locals:=fun b o e=>Nat.ne_of_lt (Nat.lt_of_lt_of_le (Heap.lt_size e) I.ok.above)
 have neC:∀ b o,X.s₀.heap.get? b=some o→b∉X.ex→b∉ch:=fun b o e hx hb=>by
  rcases (hch b hb).1 with z | z
  ·exact hx z
  ·exact absurd (Nat.lt_of_lt_of_le (Heap.lt_size e) z) (Nat.lt_irrefl _)
 have cellK:∀ x c,X.env.cells.lookup x=some c→∀ v,s.heap.IsCell c v→h'.IsCell c v:=fun x c e v ⟨o,ho,hd⟩=>by
  have nch:c∉ch:=fun z=>(hch c z).2.2.1 x c e rfl
  by_cases hc:c∈X.fs
  ·obtain⟨sl,q⟩:=slot c o (I.cne x c e) hc nch ho (I.freeC x c e)
   exact⟨_,q,hd⟩
  ·exact⟨o,keep c o (I.cne x c e) hc nch ho (I.freeC x c e),hd⟩
 refine ⟨I.ok,I.os,hg,⟨fun b o e n hb hx=>?_,fun b o e n hb hx=>?_,fun b o e n hx=>?_,fun b o e hx=>?_,fun b xs e=>tups b xs (I.base.tups b xs e),fun b o xs e=>frzs b o xs (I.base.frzs b o xs e),fun b ps e=>?_⟩,?_,fun x c e=>?_,?_,fun x c e=>?_,fun p hp=>?_,hok,I.len⟩
 ·exact keep b o (neL b o e) hb (neC b o e hx) (I.base.keep b o e n hb hx) (I.base.free b o e n hx)
 ·obtain⟨sl,e1⟩:=I.base.slot b o e n hb hx
  obtain⟨sl',e2⟩:=slot b _ (neL b o e) hb (neC b o e hx) e1 (I.base.free b o e n hx)
  exact⟨sl',e2⟩
 ·obtain⟨o',e1⟩:=I.base.there b o e hx
  exact free b o' (neC b o e hx) e1 (I.base.free b o e n hx)
 ·obtain⟨o',e1⟩:=I.base.there b o e hx
  exact there b o' (neC b o e hx) e1
 ·obtain⟨m1,e1⟩:=I.base.tbls b ps e
  obtain⟨m2,e2⟩:=tbls b _ e1
  exact⟨m1 ++ m2,by rw [e2,Array.append_assoc]⟩
 ·obtain⟨m,hn,hl⟩:=I.loc
  refine ⟨m,ns m hn,fun i x v e1 e2 e3=>?_⟩
  obtain⟨u,r,l⟩:=hl i x v e1 e2 e3
  refine ⟨u,r,?_⟩
  rcases l with l | ⟨k,c,e,z⟩
  ·exact .inl l
  ·exact .inr ⟨k,c,e,cellK x c e _ z⟩
 ·obtain⟨v,z⟩:=I.cell x c e
  exact⟨v,cellK x c e v z⟩
 ·obtain⟨m,⟨o,_,_,ho,_⟩,_⟩:=I.loc
  exact free _ o (fun z=>(hch _ z).2.1 rfl) ho I.free
 ·obtain⟨v,o,ho,hd⟩:=I.cell x c e
  exact free c o (fun z=>(hch c z).2.2.1 x c e rfl) ho (I.freeC x c e)
 ·obtain⟨e,n,ne,nf,d⟩:=I.pin p hp
  have nch:p.1∉ch:=fun z=>(hch p.1 z).2.2.2 p hp rfl
  exact⟨keep p.1 p.2 ne nf nch e n,free p.1 p.2 nch e n,ne,nf,d⟩
theorem Inv.un {t':Nat} (I:Inv X pins σ H s) (u:Un X.fs [] H H' s.heap h') (hok:HOk X.prog X.w H' h'):Inv X pins σ H' { s with heap:=h',toks:=t' }:=by
 obtain⟨m,⟨o,es,ep,ho,r⟩,_⟩:=id I.loc
 obtain⟨sl,hL⟩:=u.any ho I.free (by simp)
 exact I.step (g':=s.gens) (d':=s.drawn) (ch:=[]) (fun _ z=>nomatch z) (fun b o _ hb _ e n=>u.keep b o e n hb (by simp)) (fun b o _ hb _ e n=>u.slot b o e n hb (by simp)) (fun b o _ e n=>u.free b o e n (by simp)) (fun b o _ e=>u.there b o e (by simp)) u.tups u.frzs u.tbls (fun m' hm=>by
  obtain⟨o',es',ep',ho',r'⟩:=hm
  rw [ho] at ho';cases ho'
  exact⟨_,es',ep',hL,r'⟩) hok I.bare
theorem Inv.call {g':Array GenState} {t':Nat} {d':Drawn} {ch:List Addr} (I:Inv X pins σ H s) (u:Un (frs X.stack) ch H H' s.heap h') (hok:HOk X.prog X.w H' h') (hg:AllBare g')
  (hch:∀ b∈ch,(b∈X.ex∨X.s₀.heap.objs.size≤b)∧b≠X.env.locals∧(∀ x c,X.env.cells.lookup x=some c→c≠b)∧∀ p∈X.pn ++ pins,p.1≠b) :
  Inv X pins σ H' { s with heap:=h',gens:=g',drawn:=d',toks:=t' }:=by
 obtain⟨m,⟨o,es,ep,ho,r⟩,_⟩:=id I.loc
 obtain⟨sl,hL⟩:=u.any ho I.free fun z=>(hch _ z).2.1 rfl
 exact I.step (ch:=ch) hch (fun b o hL hb hc e n=>u.keep b o e n (fun z=>(List.mem_cons.mp (I.stkSub b z)).elim hL hb) hc) (fun b o _ _ hc e n=>u.any e n hc) (fun b o hc e n=>u.free b o e n hc) (fun b o hc e=>u.there b o e hc) u.tups u.frzs u.tbls (fun m' hm=>by
  obtain⟨o',es',ep',ho',r'⟩:=hm
  rw [ho] at ho';cases ho'
  exact⟨_,es',ep',hL,r'⟩) hok hg
theorem Inv.turned {t':Nat} {it:Addr} (I:Inv X pins σ H s) (k:∀ b o,b≠it→s.heap.get? b=some o→h'.get? b=some o) (hn:H it=none) (hL:it≠X.env.locals)
  (h1:it∈X.ex∨X.s₀.heap.objs.size≤it) (h2:∀ x c,X.env.cells.lookup x=some c→c≠it) (h3:∀ p∈X.pn ++ pins,p.1≠it):Inv X pins σ H { s with heap:=h',toks:=t' }:=by
 have nit:∀ b u,H b=some u→b≠it:=fun b u e z=>by rw [z,hn] at e;cases e
 refine I.step (g':=s.gens) (d':=s.drawn) (ch:=[it]) (fun b hb=>?_) (fun b o _ _ hc e _=>k b o (fun z=>hc (by simp [z])) e) (fun b o _ _ hc e _=>⟨o.slots,k b o (fun z=>hc (by simp [z])) e⟩) (fun _ _ _ _ n=>n)
  (fun b o hc e=>⟨o,k b o (fun z=>hc (by simp [z])) e⟩) (fun _ _ e=>e) (fun _ _ _ e=>e) (fun b ps e=>⟨#[],by rw [e];simp⟩) (fun m hm=>?_) (fun b u e=>?_) I.bare
 ·have e:b=it:=by simpa using hb
  subst e
  exact⟨h1,hL,h2,h3⟩
 ·obtain⟨o,es,ep,ho,r⟩:=hm
  exact⟨o,es,ep,k _ o (Ne.symm hL) ho,r⟩
 ·refine (I.hok b u e).stay (fun c v hc q=>k c v ?_ q) (fun _ q=>q) fun _ _ q=>q
  rcases hc with z | z
  ·rw [z];exact nit b u e
  ·exact nit c _ z
theorem Inv.tok (I:Inv X pins σ H s) (t:Nat):Inv X pins σ H { s with toks:=t }:=I.un (h':=s.heap) (t':=t) Un.refl I.hok
theorem Inv.kept {t':Nat} (I:Inv X pins σ H s) (k:∀ b u,s.heap.get? b=some u→h'.get? b=some u):Inv X pins σ H { s with heap:=h',toks:=t' }:=I.un (Un.kept k) (I.hok.kept k)
theorem Inv.laid {a:Addr} {o:HO} {t':Nat} (I:Inv X pins σ H s) (k:∀ b u,s.heap.get? b=some u→h'.get? b=some u) (hp:s.heap.objs.size≤a) (new:zd2 X.prog X.w (upd H a o) h' a o) :
  Inv X pins σ (upd H a o) { s with heap:=h',toks:=t' }:=I.un (Un.laid k hp (I.hok.fresh hp)) (I.hok.laid k hp new)
theorem Inv.write {x e:Addr} {o:HO} {t':Nat} (I:Inv X pins σ H s) (mu:Mut (H x)) (he:e=x∨H e=some (.own x)) (k:∀ b u,b≠e→s.heap.get? b=some u→h'.get? b=some u) (heo:∃ u,h'.get? e=some u)
  (new:zd2 X.prog X.w (upd H x o) h' x o):Inv X pins σ (upd H x o) { s with heap:=h',toks:=t' }:=I.un (Un.write mu he k heo) (I.hok.write mu he k heo new)
theorem Inv.pins_of {pins':List (Addr×Obj)} (I:Inv X pins σ H s) (h:∀ p∈pins',s.heap.get? p.1=some p.2∧H p.1=none∧p.1≠X.env.locals∧p.1∉X.fs∧∀ v,p.2.data≠.cell v):Inv X pins' σ H s:=
 ⟨I.ok,I.os,I.bare,I.base,I.loc,I.cell,I.free,I.freeC,fun p hp=>(List.mem_append.mp hp).elim (fun z=>I.pin p (List.mem_append_left _ z)) (h p),I.hok,I.len⟩
theorem zki {N:List Str} (hN:N.Nodup) {i j:Nat} {x:Str} (a:N[i]? = some x) (b:N[j]? = some x):i=j:=by
 obtain⟨h1,e1⟩:=List.getElem?_eq_some_iff.mp a
 obtain⟨h2,e2⟩:=List.getElem?_eq_some_iff.mp b
 exact (List.getElem_inj hN).mp (e1.trans e2.symm)
theorem zfp {M:Model} {A:Around} {E:Value→Shared→Prop} {i:Nat} {x:Str} {v:V} {u:Value} {Q:Unit→Shared→Prop} (I:Inv X pins σ H s) (hN:X.N.Nodup) (hi:X.N[i]? = some x) (hx:Loc X.env.scope x) (r:RelV v u)
  (h:∀ s',Inv X pins (σ.set i (some v)) H s'→(∃ a,Heap.SameBut a s.heap s'.heap∧(a=X.env.locals∨X.env.cells.lookup x=some a))→Q () s') (hf:X.fn x=true∨X.env.scope.names.lookup x=some .local:=by first | exact .inl rfl | exact .inr rfl | assumption):wpAny M A (storeName X.env x u) Q E s:=by
 obtain⟨m,hn,hl⟩:=id I.loc
 have hcls:(X.env.scope.kind == .class || (X.env.scope.kind == .module && X.env.locals != X.env.globals))=false:=by rw [I.ok.kind];rfl
 have hiσ:i < σ.length:=by rw [I.len];exact (List.getElem?_eq_some_iff.mp hi).1
 have cne:=I.cne
 have tracked:∀ {a:Addr} {h':Heap},(∃ o,s.heap.get? a=some o∧H a=none)→Heap.SameBut a s.heap h'→HOk X.prog X.w H h':=fun {a h'} ha hs b ob e=>by
  obtain⟨_,_,hfree⟩:=ha
  refine (I.hok b ob e).stay (fun c w' hc q=>(hs.2 c ?_).trans q) (fun _ q=>q) fun _ _ q=>q
  rintro rfl
  rcases hc with rfl | hc
  ·rw [hfree] at e;cases e
  ·rw [hfree] at hc;cases hc
 rcases hx with hk | hk
 ·refine wpAny_storeName_local hk hn (fun h' hn' hs=>?_) hcls
  obtain⟨oL,_,_,hoL,_⟩:=id hn
  refine h _ ⟨I.ok,I.os,I.bare,⟨fun b o e n hb hx=>?_,fun b o e n hb hx=>?_,I.base.free,fun b o e hx=>?_,I.base.tups,I.base.frzs,I.base.tbls⟩,⟨_,hn',fun j y v' e1 e2 e3=>?_⟩,fun y c e=>?_,I.free,I.freeC,fun p hp=>?_,tracked ⟨oL,hoL,I.free⟩ hs,by simpa using I.len⟩ ⟨_,hs,.inl rfl⟩
  ·exact (hs.2 b (Nat.ne_of_lt (Nat.lt_of_lt_of_le (Heap.lt_size e) I.ok.above))).trans (I.base.keep b o e n hb hx)
  ·obtain⟨sl,e1⟩:=I.base.slot b o e n hb hx
   exact⟨sl,(hs.2 b (Nat.ne_of_lt (Nat.lt_of_lt_of_le (Heap.lt_size e) I.ok.above))).trans e1⟩
  ·obtain⟨o',e1⟩:=I.base.there b o e hx
   exact⟨o',(hs.2 b (Nat.ne_of_lt (Nat.lt_of_lt_of_le (Heap.lt_size e) I.ok.above))).trans e1⟩
  ·by_cases hj:j=i
   ·subst hj
    rw [hi] at e1;cases e1
    rw [List.getElem?_set_self hiσ] at e2
    cases e2
    exact⟨u,r,.inl ⟨hk,by simp⟩⟩
   ·rw [List.getElem?_set_ne (Ne.symm hj)] at e2
    obtain⟨u',r',q⟩:=hl j y v' e1 e2 e3
    refine ⟨u',r',?_⟩
    rcases q with ⟨k,e⟩ | ⟨k,c,e,z⟩
    ·refine .inl ⟨k,?_⟩
     have:y≠x:=fun e=>hj (zki hN e1 (e ▸ hi))
     simp [this,e]
    ·exact .inr ⟨k,c,e,z.sameBut hs (cne y c e)⟩
  ·obtain⟨w',z⟩:=I.cell y c e
   exact⟨w',z.sameBut hs (cne y c e)⟩
  ·obtain⟨e,n,ne,nf,d⟩:=I.pin p hp
   exact⟨(hs.2 p.1 ne).trans e,n,ne,nf,d⟩
 ·have hfn:X.fn x=true:=by
   rcases hf with z | z
   ·exact z
   ·rw [z] at hk;cases hk
  obtain⟨c,hc⟩:=I.ok.has x (.inl hk)
  obtain⟨w',z⟩:=I.cell x c hc
  refine wpAny_storeName_cell I.ok.kind hk hc z (fun h' hc' hs=>?_)
  obtain⟨oc,hoc,hocd⟩:=id z
  refine h { s with heap:=h' } ⟨I.ok,I.os,I.bare,⟨fun b o e n hb hx=>?_,fun b o e n hb hx=>?_,I.base.free,fun b o e hx=>?_,I.base.tups,I.base.frzs,I.base.tbls⟩,⟨m,hn.sameBut hs (Ne.symm (cne x c hc)),fun j y v' e1 e2 e3=>?_⟩,fun y c' e=>?_,I.free,I.freeC,fun p hp=>?_,tracked ⟨oc,hoc,I.freeC x c hc⟩ hs,by simpa using I.len⟩ ⟨c,hs,.inr hc⟩
  ·exact (hs.2 b (Nat.ne_of_lt (Nat.lt_of_lt_of_le (Heap.lt_size e) (I.ok.cab x c hfn hc)))).trans (I.base.keep b o e n hb hx)
  ·obtain⟨sl,e1⟩:=I.base.slot b o e n hb hx
   exact⟨sl,(hs.2 b (Nat.ne_of_lt (Nat.lt_of_lt_of_le (Heap.lt_size e) (I.ok.cab x c hfn hc)))).trans e1⟩
  ·obtain⟨o',e1⟩:=I.base.there b o e hx
   exact⟨o',(hs.2 b (Nat.ne_of_lt (Nat.lt_of_lt_of_le (Heap.lt_size e) (I.ok.cab x c hfn hc)))).trans e1⟩
  ·by_cases hj:j=i
   ·subst hj
    rw [hi] at e1;cases e1
    rw [List.getElem?_set_self hiσ] at e2
    cases e2
    exact⟨u,r,.inr ⟨.inl hk,c,hc,hc'⟩⟩
   ·rw [List.getElem?_set_ne (Ne.symm hj)] at e2
    obtain⟨u',r',q⟩:=hl j y v' e1 e2 e3
    refine ⟨u',r',?_⟩
    rcases q with q | ⟨k,c',e,z'⟩
    ·exact .inl q
    ·refine .inr ⟨k,c',e,z'.sameBut hs ?_⟩
     rintro rfl
     exact hj (zki hN e1 (I.ok.inj _ _ _ e hc ▸ hi))
  ·by_cases hcc:c'=c
   ·subst hcc;exact⟨_,hc'⟩
   ·obtain⟨w2,z2⟩:=I.cell y c' e
    exact⟨w2,z2.sameBut hs hcc⟩
  ·obtain⟨e,n,ne,nf,d⟩:=I.pin p hp
   refine ⟨(hs.2 p.1 ?_).trans e,n,ne,nf,d⟩
   intro q
   rw [q,hoc] at e
   have q':oc=p.2:=Option.some.inj e
   exact d w' (by rw [← q'];exact hocd)
theorem zjZ {M:Model} {A:Around} {E:Value→Shared→Prop} {i:Nat} {x:Str} {v:V} {u:Value} {Q:Unit→Shared→Prop} (I:Inv X pins σ H s) (hN:X.N.Nodup) (hi:X.N[i]? = some x) (hx:Loc X.env.scope x) (r:RelV v u)
  (h:∀ s',Inv X pins (σ.set i (some v)) H s'→Q () s') (hf:X.fn x=true∨X.env.scope.names.lookup x=some .local:=by first | exact .inl rfl | exact .inr rfl | assumption):wpAny M A (storeName X.env x u) Q E s:=
 zfp I hN hi hx r (fun s' I' _=>h s' I') hf
theorem Inv.call' {s':Shared} {ch:List Addr} (I:Inv X pins σ H s) (ho:s'.os=s.os) (u:Un (frs X.stack) ch H H' s.heap s'.heap) (hok:HOk X.prog X.w H' s'.heap) (hg:AllBare s'.gens)
  (hch:∀ b∈ch,(b∈X.ex∨X.s₀.heap.objs.size≤b)∧b≠X.env.locals∧(∀ x c,X.env.cells.lookup x=some c→c≠b)∧∀ p∈X.pn ++ pins,p.1≠b):Inv X pins σ H' s':=by
 obtain⟨h',g',d',t',o'⟩:=s'
 have e:o'=s.os:=ho
 subst e
 exact I.call (g':=g') (t':=t') (d':=d') u hok hg hch
end
noncomputable abbrev XK:=Value→Option Addr→Hp→Prop
noncomputable abbrev St:=List (Option V)
noncomputable abbrev VK:=V→Hp→Prop
noncomputable abbrev TE:=St→Hp→VK→Prop
noncomputable abbrev TT:=St→Hp→(Bool→Hp→Prop)→Prop
noncomputable abbrev TA:=St→Hp→(List V→Hp→Prop)→Prop
structure Ends where
 nx:St→Hp→Prop
 rt:VK
 bk:St→Hp→Prop:=fun _ _=>False
 ct:St→Hp→Prop:=fun _ _=>False
noncomputable abbrev TS:=Ends→St→Hp→Prop
def EP (X:Cx) (pins:List (Addr×Obj)) (σ:St) (Q:VK) (u:Value) (s':Shared):Prop:=∃ v H',Inv X pins σ H' s'∧RelV v u∧Q v H'
def TP (X:Cx) (pins:List (Addr×Obj)) (σ:St) (Q:Bool→Hp→Prop) (b:Bool) (s':Shared):Prop:=∃ H',Inv X pins σ H' s'∧Q b H'
def AP (X:Cx) (pins:List (Addr×Obj)) (σ:St) (Q:List V→Hp→Prop) (us:List Value) (s':Shared):Prop:=∃ vs H',Inv X pins σ H' s'∧Vals vs us∧Q vs H'
def SP (X:Cx) (pins:List (Addr×Obj)) (D:Ends) (f:Flow) (s':Shared):Prop:=
 match f with
 | .next=>∃ σ' H',Inv X pins σ' H' s'∧D.nx σ' H'
 | .brk=>∃ σ' H',Inv X pins σ' H' s'∧D.bk σ' H'
 | .cont=>∃ σ' H',Inv X pins σ' H' s'∧D.ct σ' H'
 | .ret u=>∃ v σ' H',Inv X pins σ' H' s'∧RelV v u∧D.rt v H'
def PE (X:Cx) (e:Expr) (t:TE):Prop:=
 ∀ (pins:List (Addr×Obj)) (s:Shared) (σ:St) (H:Hp) (Q:VK),Inv X pins σ H s→t σ H Q→wpAny (model X.prog X.w) X.A (eval e X.env) (EP X pins σ Q) X.xe s
def PT (X:Cx) (e:Expr) (t:TT):Prop:=
 ∀ (pins:List (Addr×Obj)) (s:Shared) (σ:St) (H:Hp) (Q:Bool→Hp→Prop),Inv X pins σ H s→t σ H Q→wpAny (model X.prog X.w) X.A (isTrue e X.env (eval e X.env)) (TP X pins σ Q) X.xe s
def PW (X:Cx) (e:Expr) (t:TT):Prop:=
 ∀ (whole:Sem Value) (pins:List (Addr×Obj)) (s:Shared) (σ:St) (H:Hp) (Q:Bool→Hp→Prop),Inv X pins σ H s→t σ H Q→wpAny (model X.prog X.w) X.A (isTrue e X.env whole) (TP X pins σ Q) X.xe s
theorem PW.pt {X:Cx} {e:Expr} {t:TT} (h:PW X e t):PT X e t:=h _
def PA (X:Cx) (es:List Expr) (t:TA):Prop:=
 ∀ (pos:Pos) (pins:List (Addr×Obj)) (s:Shared) (σ:St) (H:Hp) (Q:List V→Hp→Prop),Inv X pins σ H s→t σ H Q→wpAny (model X.prog X.w) X.A (spliced (backTo pos (starEach es X.env))) (AP X pins σ Q) X.xe s
def PS (X:Cx) (st:Stmt) (t:TS):Prop:=
 ∀ (pins:List (Addr×Obj)) (s:Shared) (σ:St) (H:Hp) (D:Ends),Inv X pins σ H s→t D σ H→wpAny (model X.prog X.w) X.A (exec st X.env) (SP X pins D) X.xe s
def PSs (X:Cx) (st:List Stmt) (t:TS):Prop:=
 ∀ (pins:List (Addr×Obj)) (s:Shared) (σ:St) (H:Hp) (D:Ends),Inv X pins σ H s→t D σ H→wpAny (model X.prog X.w) X.A (execs st X.env) (SP X pins D) X.xe s
theorem thn {α:Type} {t:Sem α} {Q Q':α→Shared→Prop} {M:Model} {A:Around} {E:Value→Shared→Prop} {s:Shared} (h:wpAny M A t Q E s) (hQ:∀ a s,Q a s→Q' a s):wpAny M A t Q' E s:=wpAny_mono h hQ fun _ _ x=>x
end L2
namespace L2
open PySem PySem.Spec PyProof.Rows
section
variable {X:Cx}
def tVar (i:Nat):TE:=fun σ H Q=>∃ v,σ[i]? = some (some v)∧Q v H
def tC (v:V):TE:=fun _ H Q=>Q v H
theorem zrk {i:Nat} {x:Str} {pos:Pos} (hN:X.N[i]? = some x) (hv:Vis X.env.scope x) (hd:(x == ("__debug__" : Str))=false:=by decide) (hcd:(x == ("__classdict__" : Str))=false:=by decide):PE X (.Name x pos) (tVar i):=by
 intro pins s σ H Q I h
 obtain⟨v,e,h⟩:=h
 obtain⟨m,hn,hl⟩:=I.loc
 obtain⟨u,r,l⟩:=hl i x v hN e hv
 have fin:EP X pins σ Q u s:=⟨v,H,I,r,h⟩
 rcases l with ⟨hk,hm⟩ | ⟨hk,c,hc,hcell⟩
 ·exact wpAny_Name (wpAny_loadName_local I.ok.kind hk hn hm fin) hd
 ·rcases hk with hk | hk
  ·exact wpAny_Name (wpAny_loadName_cell I.ok.kind hk hc hcell fin) hd
  ·exact wpAny_Name (wpAny_loadName_free I.ok.kind hk hc hcell fin hcd) hd
theorem zoV {i j pos}:PE X (.Constant (.int i) j pos) (tC (.int i)):=fun _ _ _ H _ I h=>wpAny_Constant_int ⟨.int i,H,I.tok _,⟨_,rfl⟩,h⟩
theorem zsZ {b j pos}:PE X (.Constant (.bool b) j pos) (tC (.bl b)):=fun _ _ _ H _ I h=>Constant_bool ⟨.bl b,H,I,rfl,h⟩
theorem zrm {x j pos}:PE X (.Constant (.str x) j pos) (tC (.str x)):=fun _ _ _ H _ I h=>Calls.Constant_str ⟨.str x,H,I.tok _,⟨_,rfl⟩,h⟩
def Gl (X:Cx) (x:Str):Prop:=X.env.kindOf x=some .globalImplicit
theorem zi7 {E:Value→Shared→Prop} {pins:List (Addr×Obj)} {s:Shared} {σ:St} {H:Hp} {x:Str} {u:Value} {pos:Pos} {Q:Value→Shared→Prop} (I:Inv X pins σ H s) (hg:Gl X x) (hm:X.mg x=some u) (h:Q u s)
  (hd:(x == ("__debug__" : Str))=false:=by decide):wpAny (model X.prog X.w) X.A (eval (.Name x pos) X.env) Q E s:=
 Calls.Name_function_global I.ok.kind hg (Calls.loadGlobal_global (by rw [I.ok.glob];exact I.mod.glob.keeps I.bk) hm h) hd
theorem zdl {E:Value→Shared→Prop} {pins:List (Addr×Obj)} {s:Shared} {σ:St} {H:Hp} {x:Str} {u:Value} {pos:Pos} {Q:Value→Shared→Prop} (I:Inv X pins σ H s) (hg:Gl X x) (hm:X.mg x=none) (hv:bootBuiltins x=some u) (h:Q u s)
  (hn:x ≠ "__name__" := by decide) (hd:(x == ("__debug__" : Str))=false:=by decide):wpAny (model X.prog X.w) X.A (eval (.Name x pos) X.env) Q E s:=by
 obtain⟨mb,h1,h2⟩:=I.mod.blt
 exact Calls.Name_function_global I.ok.kind hg (Calls.loadGlobal_builtin (by rw [I.ok.glob];exact I.mod.glob.keeps I.bk) hm (by rw [I.ok.blt];exact h1.keeps I.bk) ((h2 x hn).trans hv) h) hd
theorem zcQ {x:Str} {v:V} {u:Value} {pos:Pos} (hg:Gl X x) (hm:X.mg x=some u) (r:RelV v u) (hd:(x == ("__debug__" : Str))=false:=by decide):PE X (.Name x pos) (tC v):=
 fun _ _ _ H _ I h=>zi7 I hg hm ⟨v,H,I,r,h⟩ hd
variable {a b:Expr} {ta tb:TE} {pos:Pos}
def tB (t:TE):TT:=fun σ H Q=>t σ H fun x H1=>∃ c,x=.bl c∧Q c H1
theorem zri {e:Expr} {t:TE} (h:PE X e t) (he:∀ whole,isTrue e X.env whole=(do let v ← whole;standAt e.pos;holding [v] (truthy v)):=by intro _;rfl):PT X e (tB t):=by
 intro pins s σ H Q I hw
 refine isTrue_plain (thn (h pins s σ H _ I hw) fun v s1 ⟨x,H1,I1,r1,q1⟩=>?_) (he _)
 obtain⟨d,rfl,q⟩:=q1
 cases r1
 exact wpAny_truthy_bool ⟨H1,I1,q⟩
variable {tA tB':TT} {rest:List Expr}
def tAnd (t u:TT):TT:=fun σ H Q=>t σ H fun c H1=>if c=true then u σ H1 Q else Q false H1
def tOr (t u:TT):TT:=fun σ H Q=>t σ H fun c H1=>if c=true then Q true H1 else u σ H1 Q
theorem zpI (ha:PT X a tA):PW X (.BoolOp .And [a] pos) tA:=by
 intro wh pins s σ H Q I h
 refine isTrue_and (thn (ha pins s σ H Q I h) fun c s1 e=>?_)
 cases c with
 | true=>exact isTrue_and_nil e
 | false=>exact e
theorem zre (ha:PT X a tA):PW X (.BoolOp .Or [a] pos) tA:=by
 intro wh pins s σ H Q I h
 refine isTrue_or (thn (ha pins s σ H Q I h) fun c s1 e=>?_)
 cases c with
 | false=>exact isTrue_or_nil e
 | true=>exact e
theorem zrf (ha:PT X a tA) (hb:PW X (.BoolOp .And (b :: rest) pos) tB'):PW X (.BoolOp .And (a :: b :: rest) pos) (tAnd tA tB'):=by
 intro wh pins s σ H Q I h
 refine isTrue_and (thn (ha pins s σ H _ I h) fun c s1 ⟨H1,I1,q1⟩=>?_)
 cases c with
 | true=>exact hb wh pins s1 σ H1 Q I1 q1
 | false=>exact⟨H1,I1,q1⟩
theorem zsU (ha:PT X a tA) (hb:PW X (.BoolOp .Or (b :: rest) pos) tB'):PW X (.BoolOp .Or (a :: b :: rest) pos) (tOr tA tB'):=by
 intro wh pins s σ H Q I h
 refine isTrue_or (thn (ha pins s σ H _ I h) fun c s1 ⟨H1,I1,q1⟩=>?_)
 cases c with
 | true=>exact⟨H1,I1,q1⟩
 | false=>exact hb wh pins s1 σ H1 Q I1 q1
def tOrV (ta tb:TE):TE:=fun σ H Q=>ta σ H fun x H1=>∃ c,x=.bl c∧if c=true then Q (.bl true) H1 else tb σ H1 Q
theorem zrn {op} {t:TE} (h:PE X a t):PE X (.BoolOp op [a] pos) t:=fun pins s σ H Q I hw=>BoolOp_one (h pins s σ H Q I hw)
theorem zsX (ha:PE X a ta) (hb:PE X (.BoolOp .Or (b :: rest) pos) tb):PE X (.BoolOp .Or (a :: b :: rest) pos) (tOrV ta tb):=by
 intro pins s σ H Q I h
 refine BoolOp_or (thn (ha pins s σ H _ I h) fun v s1 ⟨x,H1,I1,r1,q1⟩=>?_)
 obtain⟨c,rfl,q1⟩:=q1
 cases r1
 refine wpAny_truthy_bool ?_
 cases c with
 | false=>exact hb pins s1 σ H1 Q I1 q1
 | true=>exact⟨.bl true,H1,I1,rfl,q1⟩
end
end L2
namespace L2
open PySem PySem.Spec PyProof.Rows
def SqL (K:PySem.W.Frag) (H:Hp) (a:Addr) (xs:List V):Prop:=
 Rd H a (.lst xs) ∨
  ∃ (o:Obj) (its:Array Value) (n:Nat),K.lookup a=some o∧o.cls=.type "list" ∧ o.dict=none∧o.data=.seq its n∧its.size≤sizeLine∧Vals xs its.toList
def SqT (K:PySem.W.Frag) (H:Hp) (a:Addr) (xs:List V):Prop:=
 Rd H a (.tup xs) ∨
  ∃ (o:Obj) (its:Array Value) (n:Nat),K.lookup a=some o∧o.cls=.type "tuple" ∧ o.data=.seq its n∧its.size≤sizeLine∧Vals xs its.toList
noncomputable def absV:Value→Option V
 | .none=>some .non
 | .bool b=>some (.bl b)
 | .int i _=>some (.int i)
 | .str x _=>some (.str x)
 | .bytes b _=>some (.byt b)
 | .float b _=>some (.flt b)
 | .ref a=>some (.ref a)
 | .type n=>some (.ty n)
 | _=>none
theorem RelV.abs {x:V} {u:Value} (r:RelV x u):absV u=some x:=by
 cases x with
 | non=>cases r;rfl
 | bl _=>cases r;rfl
 | int _=>obtain⟨t,rfl⟩:=r;rfl
 | str _=>obtain⟨t,rfl⟩:=r;rfl
 | byt _=>obtain⟨t,rfl⟩:=r;rfl
 | flt _=>obtain⟨t,rfl⟩:=r;rfl
 | ref _=>cases r;rfl
 | ty _=>cases r;rfl
theorem RelV.inj {x y:V} {u:Value} (r:RelV x u) (q:RelV y u):x=y:=Option.some.inj (r.abs.symm.trans q.abs)
theorem Vals.inj:∀ {xs ys:List V} {us:List Value},Vals xs us→Vals ys us→xs=ys:=by
 intro xs ys us h
 induction h generalizing ys with
 | nil =>
  intro g
  cases g
  rfl
 | cons r t ih =>
  intro g
  cases g with
  | cons r' t'=>rw [r.inj r',ih t']
section
variable {X:Cx} {pins:List (Addr×Obj)} {σ:St} {H:Hp} {s:Shared} {a:Addr} {xs ys:List V}
theorem SqL.of {K:PySem.W.Frag} (h:H a=some (.lst xs)):SqL K H a xs:=.inl (.inl h)
theorem Inv.list (I:Inv X pins σ H s) (h:SqL X.K H a xs):∃ its:List Value,Vals xs its∧PlainL s.heap a its.toArray∧xs.length≤sizeLine:=by
 rcases h with h | ⟨o,its,n,hk,hc,hd,hs,hz,r⟩
 ·obtain⟨z,its,n,r,e⟩:=h.ok I.hok
  exact⟨its,r,⟨_,n,e,rfl,rfl,rfl⟩,z⟩
 ·refine ⟨its.toList,r,⟨o,n,I.kIn a o hk,hc,hd,by simpa using hs⟩,?_⟩
  have e:=r.length
  simp only [Array.length_toList] at e
  lia
theorem Inv.tuple (I:Inv X pins σ H s) (h:SqT X.K H a xs):∃ its:List Value,Vals xs its∧IsTup s.heap a its.toArray∧xs.length≤sizeLine:=by
 rcases h with h | ⟨o,its,n,hk,hc,hs,hz,r⟩
 ·obtain⟨z,its,r,p⟩:=h.ok I.hok
  exact⟨its,r,p,z⟩
 ·refine ⟨its.toList,r,⟨o,I.kIn a o hk,hc,n,by simpa using hs⟩,?_⟩
  have e:=r.length
  simp only [Array.length_toList] at e
  lia
theorem Inv.list_inj (I:Inv X pins σ H s) (h:SqL X.K H a xs) (h':SqL X.K H a ys):xs=ys:=by
 obtain⟨its,r,⟨o,n,e,_,_,d⟩,_⟩:=I.list h
 obtain⟨its',r',⟨o',n',e',_,_,d'⟩,_⟩:=I.list h'
 rw [e] at e';cases e'
 rw [d] at d'
 injection d' with d1 _
 have:its=its':=by simpa using congrArg Array.toList d1
 subst this
 exact r.inj r'
theorem Inv.tuple_inj (I:Inv X pins σ H s) (h:SqT X.K H a xs) (h':SqT X.K H a ys):xs=ys:=by
 obtain⟨its,r,⟨o,e,_,n,d⟩,_⟩:=I.tuple h
 obtain⟨its',r',⟨o',e',_,n',d'⟩,_⟩:=I.tuple h'
 rw [e] at e';cases e'
 rw [d] at d'
 injection d' with d1 _
 have:its=its':=by simpa using congrArg Array.toList d1
 subst this
 exact r.inj r'
end
section
variable {X:Cx} {pins:List (Addr×Obj)} {σ:St} {H:Hp} {s:Shared} {E:Value→Shared→Prop}
end
section
variable {X:Cx} {st:Stmt} {rest:List Stmt} {t u:TS} {e:Expr} {te:TE} {pos:Pos}
def zsJ:TS:=fun D σ H=>D.nx σ H
def tSeq (t u:TS):TS:=fun D σ H=>t { D with nx:=u D } σ H
theorem zpM:PSs X [] zsJ:=fun _ _ σ H _ I h=>wpAny_execs_nil ⟨σ,H,I,h⟩
theorem znW (h1:PS X st t) (h2:PSs X rest u):PSs X (st :: rest) (tSeq t u):=by
 intro pins s σ H D I h
 refine wpAny_execs_cons (thn (h1 pins s σ H { D with nx:=u D } I h) fun f s1 q=>?_)
 cases f with
 | next =>
  obtain⟨σ',H',I',q⟩:=q
  exact h2 pins s1 σ' H' D I' q
 | ret v=>exact q
 | brk=>exact q
 | cont=>exact q
theorem zpL (h1:PS X st t):PSs X [st] t:=by
 intro pins s σ H D I h
 refine wpAny_execs_cons (thn (h1 pins s σ H D I h) fun f s1 q=>?_)
 cases f with
 | next=>exact wpAny_execs_nil q
 | ret v=>exact q
 | brk=>exact q
 | cont=>exact q
theorem Inv.quiet {pins:List (Addr×Obj)} {σ:St} {H:Hp} {s:Shared} (I:Inv X pins σ H s):interactive X.env=false:=by simp [interactive,I.ok.kind]
def zqY (te:TE):TS:=fun D σ H=>te σ H fun _ H1=>D.nx σ H1
theorem zfw (he:PE X e te) (hs:swapsWith e none pos.line X.env=pure false:=by rfl):PS X (.Expr e pos) (zqY te):=by
 intro pins s σ H D I h
 exact wpAny_Expr_any (thn (he pins s σ H _ I h) fun v s1 ⟨x,H1,I1,r1,q1⟩=>⟨σ,H1,I1,q1⟩) I.quiet hs
def tRet (te:TE):TS:=fun D σ H=>te σ H D.rt
theorem zmf (he:PE X e te):PS X (.Return (some e) pos) (tRet te):=by
 intro pins s σ H D I h
 exact wpAny_Return_some (thn (he pins s σ H _ I h) fun v s1 ⟨x,H1,I1,r1,q1⟩=>⟨x,σ,H1,I1,r1,q1⟩)
def tIfS (c:TT) (t u:TS):TS:=fun D σ H=>c σ H fun b H1=>if b=true then t D σ H1 else u D σ H1
theorem zsV {c:Expr} {a b:List Stmt} {tc:TT} (hc:PT X c tc) (ha:PSs X a t) (hb:PSs X b u):PS X (.If c a b pos) (tIfS tc t u):=by
 intro pins s σ H D I h
 refine wpAny_If (thn (hc pins s σ H _ I h) fun d s1 ⟨H1,I1,q1⟩=>?_)
 cases d with
 | true=>exact ha pins s1 σ H1 D I1 q1
 | false=>exact hb pins s1 σ H1 D I1 q1
end
noncomputable abbrev TG:=V→St→Hp→(St→Hp→Prop)→Prop
noncomputable abbrev TGs:=List V→St→Hp→(St→Hp→Prop)→Prop
def PG (X:Cx) (target:Expr) (t:TG):Prop:=
 ∀ (pins:List (Addr×Obj)) (s:Shared) (σ:St) (H:Hp) (v:V) (u:Value) (Q:St→Hp→Prop),Inv X pins σ H s→RelV v u→t v σ H Q →
  wpAny (model X.prog X.w) X.A (assign target X.env u) (fun _ s'=>∃ σ' H',Inv X pins σ' H' s'∧Q σ' H') X.xe s
def PGs (X:Cx) (ts:List Expr) (t:TGs):Prop:=
 ∀ (pins:List (Addr×Obj)) (s:Shared) (σ:St) (H:Hp) (vs:List V) (us:List Value) (Q:St→Hp→Prop),Inv X pins σ H s→Vals vs us→t vs σ H Q →
  wpAny (model X.prog X.w) X.A (assignInOrder ((assignEach ts X.env).map (·.2)) us) (fun _ s'=>∃ σ' H',Inv X pins σ' H' s'∧Q σ' H') X.xe s
noncomputable abbrev TSet:=V→V→V→Hp→(Hp→Prop)→Prop
def PSet (X:Cx) (t:TSet):Prop:=
 ∀ (pins:List (Addr×Obj)) (s:Shared) (σ:St) (H:Hp) (o i v:V) (ov iv u:Value) (Q:Hp→Prop),Inv X pins σ H s→RelV o ov→RelV i iv→RelV v u→t o i v H Q →
  wpAny (model X.prog X.w) X.A (setItem ov iv u) (fun _ s'=>∃ H',Inv X pins σ H' s'∧Q H') X.xe s
section
variable {X:Cx} {pos:Pos}
def ze7 (i:Nat):TG:=fun v σ H Q=>Q (σ.set i (some v)) H
theorem zar {i:Nat} {x:Str} (hN:X.N.Nodup) (hi:X.N[i]? = some x) (hx:Loc X.env.scope x) (hf:X.fn x=true∨X.env.scope.names.lookup x=some .local:=by first | exact .inl rfl | exact .inr rfl | assumption):PG X (.Name x pos) (ze7 i):=by
 intro pins s σ H v u Q I r h
 exact wpAny_assign_Name (zjZ I hN hi hx r (fun s' I'=>⟨_,H,I',h⟩) hf)
def gNil:TGs:=fun vs σ H Q=>vs=[]∧Q σ H
def zqi (t:TG) (u:TGs):TGs:=fun vs σ H Q=>∃ v r,vs=v :: r∧t v σ H fun σ' H'=>u r σ' H' Q
theorem zmn:PGs X [] gNil:=by
 intro pins s σ H vs us Q I r h
 obtain⟨e,h⟩:=h
 subst e
 cases r
 exact assignInOrder_nil ⟨σ,H,I,h⟩
theorem zff {e:Expr} {es:List Expr} {t:TG} {u:TGs} (h1:PG X e t) (h2:PGs X es u)
  (hs:(assignEach (e :: es) X.env).map (·.2)=assign e X.env :: (assignEach es X.env).map (·.2):=by rfl):PGs X (e :: es) (zqi t u):=by
 intro pins s σ H vs us Q I r h
 obtain⟨v,vr,e1,h⟩:=h
 subst e1
 cases r with
 | cons r rr =>
  rw [hs]
  refine assignInOrder_cons (thn (h1 pins s σ H _ _ _ I r h) fun _ s1 ⟨σ1,H1,I1,q1⟩=>?_)
  exact h2 pins s1 σ1 H1 _ _ Q I1 rr q1
def gTup (K:PySem.W.Frag) (n:Nat) (t:TGs):TG:=fun v σ H Q=>∃ a xs,v=.ref a∧SqT K H a xs∧xs.length=n∧t xs σ H Q
theorem zoS {es:List Expr} {k:Nat} {t:TGs} {n:Nat} (hc:X.calm=true) (h:PGs X es t)
  (hn:(assignEach es X.env).length=n:=by rfl) (hst:(assignEach es X.env).findIdx? (·.1)=none:=by rfl):PG X (.Tuple es k pos) (gTup X.K n t):=by
 intro pins s σ H v u Q I r hw
 obtain⟨a,xs,e1,hq,hl,hw⟩:=hw
 subst e1
 cases r
 obtain⟨its,rv,ht,hz⟩:=I.tuple hq
 refine assign_Tuple_tuple (I.ok.hd hc) ht (by simp [hn,← hl,rv.length]) hst fun h' hx=>?_
 have I1:Inv X pins σ H { s with heap:=h' }:=I.kept (t':=s.toks) fun b o e=>hx b o (Nat.ne_of_lt (Heap.lt_size e)) e
 exact h pins _ σ H xs _ Q I1 (by simpa using rv) hw
def gSub (to ti:TE) (t:TSet):TG:=fun v σ H Q=>to σ H fun o H1=>ti σ H1 fun i H2=>t o i v H2 fun H3=>Q σ H3
theorem zoT {o i:Expr} {to ti:TE} {t:TSet} (ho:PE X o to) (hi:PE X i ti) (hs:PSet X t)
  (ha:∀ v,assign (.Subscript o i pos) X.env v=(do
   let ov ← holding [v] (eval o X.env)
   let iv ← holding [v,ov] (eval i X.env)
   standAt pos
   holding [v,ov,iv] (setItem ov iv v)
   release [v,ov,iv] []):=by intro _;rfl):PG X (.Subscript o i pos) (gSub to ti t):=by
 intro pins s σ H v u Q I r h
 rw [ha]
 refine wpAny_bind (wpAny_holding (thn (ho pins s σ H _ I h) fun ov s1 ⟨x,H1,I1,r1,q1⟩=>?_))
 refine wpAny_bind (wpAny_holding (thn (hi pins s1 σ H1 _ I1 q1) fun iv s2 ⟨y,H2,I2,r2,q2⟩=>?_))
 refine wpAny_bind (wpAny_standAt (wpAny_bind (wpAny_holding (thn (hs pins s2 σ H2 x y v ov iv u _ I2 r1 r2 r q2) fun _ s3 ⟨H3,I3,q3⟩=>?_))))
 exact wpAny_release ⟨σ,H3,I3,q3⟩
def tAsg (te:TE) (g:TG):TS:=fun D σ H=>te σ H fun x H1=>g x σ H1 D.nx
theorem zoQ {tg e:Expr} {te:TE} {g:TG} (he:PE X e te) (hg:PG X tg g) (hs:swapsWithSole [tg] e pos.line X.env=pure false:=by rfl) (hw:swappedStores [tg] e X.env=pure none:=by rfl)
  (h1:(assignEach [tg] X.env).map (·.2)=[assign tg X.env]:=by rfl):PS X (.Assign [tg] e pos) (tAsg te g):=by
 intro pins s σ H D I h
 refine wpAny_Assign_stores (thn (he pins s σ H _ I h) fun v s1 ⟨x,H1,I1,r1,q1⟩=>?_) hs hw
 rw [h1]
 exact thn (hg pins s1 σ H1 x v _ I1 r1 q1) fun _ s2 q=>q
theorem zoP {i:Nat} {x:Str} {e:Expr} {te:TE} {pos':Pos} (hN:X.N.Nodup) (hi:X.N[i]? = some x) (hx:Loc X.env.scope x) (he:PE X e te) (hs:swapsWith e (some (.Name x pos')) pos.line X.env=pure false:=by rfl) (hf:X.fn x=true∨X.env.scope.names.lookup x=some .local:=by first | exact .inl rfl | exact .inr rfl | assumption) :
  PS X (.Assign [.Name x pos'] e pos) (tAsg te (ze7 i)):=by
 intro pins s σ H D I h
 refine wpAny_Assign_Name (thn (he pins s σ H _ I h) fun v s1 ⟨y,H1,I1,r1,q1⟩=>?_) hs
 exact zjZ I1 hN hi hx r1 (fun s2 I2=>⟨_,H1,I2,q1⟩) hf
end
section
variable {X:Cx} {pos:Pos}
end
structure It where
 go:Nat→Hp→Prop
 yld:Nat→Hp→V→Hp→Prop
 stop:Nat→Hp→Prop
def FpOk (X:Cx) (pins:List (Addr×Obj)) (H:Hp) (b:Addr):Prop:=
 H b=none∧b≠X.env.locals∧b∉X.fs∧(b∈X.ex∨X.s₀.heap.objs.size≤b)∧(∀ x c,X.env.cells.lookup x=some c→c≠b)∧∀ p∈X.pn ++ pins,p.1≠b
theorem Inv.fpOk {X:Cx} {pins:List (Addr×Obj)} {σ:St} {H H':Hp} {s:Shared} {b:Addr} (I:Inv X pins σ H s) (hb:s.heap.objs.size≤b) (hn:H' b=none):FpOk X pins H' b:=by
 refine ⟨hn,Nat.ne_of_gt (Nat.lt_of_lt_of_le I.lt hb),I.nofs hb,.inr (Nat.le_trans I.sz hb),fun x c e z=>?_,fun p hp z=>?_⟩
 ·obtain⟨v,q⟩:=I.cell x c e
  exact absurd (Nat.lt_of_lt_of_le q.lt (by rw [z];exact hb)) (Nat.lt_irrefl _)
 ·exact absurd (Nat.lt_of_lt_of_le (Heap.lt_size (I.pin p hp).1) (by rw [z];exact hb)) (Nat.lt_irrefl _)
structure Turn (P:Program) (w:World) (K:PySem.W.Frag) (tg:Expr) (J:It) (fp:List Addr) (it:Addr) (tn:Nat→Heap→Prop):Prop where
 mem:it∈fp
 obj:∀ i h,tn i h→∀ b∈fp,∃ o,h.get? b=some o∧∀ v,o.data≠.cell v
 keep:∀ i h h',tn i h→(∀ b∈fp,∀ o,h.get? b=some o→h'.get? b=some o)→tn i h'
 item:∀ (X:Cx),X.prog=P→X.w=w→X.K=K→X.calm=true→∀ (i:Nat) (pins:List (Addr×Obj)) (s:Shared) (σ:St) (H:Hp) (E:Value→Shared→Prop),Inv X pins σ H s→(∀ b∈fp,FpOk X pins H b)→tn i s.heap→J.go i H →
  wpAny (model P w) X.A (pyNext (.ref it)) (fun r s1=>∃ u,r=some u ∧
   wpAny (model P w) X.A (letOwnedTupleGo tg (.ref it) u) (fun _ s2=>∃ x H',Inv X pins σ H' s2∧RelV x u∧J.yld i H x H'∧tn (i + 1) s2.heap∧∀ b∈fp,H' b=none) E s1) E s
 done:∀ (X:Cx),X.prog=P→X.w=w→X.K=K→X.calm=true→∀ (i:Nat) (pins:List (Addr×Obj)) (s:Shared) (σ:St) (H:Hp) (E:Value→Shared→Prop),Inv X pins σ H s→(∀ b∈fp,FpOk X pins H b)→tn i s.heap→J.stop i H →
  wpAny (model P w) X.A (pyNext (.ref it)) (fun r s1=>r=none∧Inv X pins σ H s1) E s
 self:∀ (A:Around) (i:Nat) (s:Shared) (Q:Value→Shared→Prop) (E:Value→Shared→Prop),tn i s.heap→Q (.ref it) s→wpAny (model P w) A (pyIter (.ref it)) Q E s
noncomputable abbrev TI:=St→Hp→(It→Hp→Prop)→Prop
def PIE (X:Cx) (pins:List (Addr×Obj)) (σ:St) (tg:Expr) (R:It→Hp→Prop) (itv:Value) (s2:Shared):Prop:=
 ∃ (it:Addr) (fp:List Addr) (tn:Nat→Heap→Prop) (J:It) (H':Hp),itv=.ref it∧Inv X pins σ H' s2∧Turn X.prog X.w X.K tg J fp it tn∧tn 0 s2.heap∧(∀ b∈fp,FpOk X pins H' b)∧R J H'
def PI (X:Cx) (tg iter:Expr) (wi:TI):Prop:=
 ∀ (pins:List (Addr×Obj)) (s:Shared) (σ:St) (H:Hp) (R:It→Hp→Prop),Inv X pins σ H s→wi σ H R →
  wpAny (model X.prog X.w) X.A (eval iter X.env) (fun v s1=>wpAny (model X.prog X.w) X.A (pyIter v) (PIE X pins σ tg R) X.xe s1) X.xe s
theorem zqh {M:Model} {A:Around} {E:Value→Shared→Prop} {s:Shared} {tg:Expr} {it:Addr} {u:Value} {o:Obj} {n:String} {vs:Array Value} {Q:Unit→Shared→Prop} (ho:s.heap.get? it=some o) (hc:o.cls=.type n) (hd:o.data=.fields vs)
    (hn:["enumerate", "zip", "dict_itemiterator", "dict_reverseitemiterator", "odict_iterator", "itertools.zip_longest", "itertools.pairwise"].contains n=false) (hQ:Q () s):wpAny M A (letOwnedTupleGo tg (.ref it) u) Q E s:=by
  unfold letOwnedTupleGo
  cases tg <;> first
    | exact wpAny_pure hQ
    | (cases u <;> first
        | exact wpAny_pure hQ
        | (refine wpAny_bind (wpAny_load ho ?_)
           rw [hc,hd]
           show wpAny M A (if (["enumerate", "zip", "dict_itemiterator", "dict_reverseitemiterator", "odict_iterator", "itertools.zip_longest", "itertools.pairwise"].contains n && vs[0]? == some (rawInt _))=true then _ else _) Q E s
           rw [if_neg (by intro h;rw [hn,Bool.false_and] at h;cases h)]
           exact wpAny_pure hQ))
noncomputable def Itl (K:PySem.W.Frag) (a:Addr):It:=
 ⟨fun i H=>∃ xs x,SqL K H a xs∧xs[i]? = some x,fun i H x H'=>H'=H∧∀ xs,SqL K H a xs→xs[i]? = some x,fun i H=>∃ xs,SqL K H a xs∧xs.length≤i⟩
noncomputable def Itt (K:PySem.W.Frag) (a:Addr):It:=
 ⟨fun i H=>∃ xs x,SqT K H a xs∧xs[i]? = some x,fun i H x H'=>H'=H∧∀ xs,SqT K H a xs→xs[i]? = some x,fun i H=>∃ xs,SqT K H a xs∧xs.length≤i⟩
noncomputable def Itr (lo:Int) (n:Nat):It:=⟨fun i _=>i < n,fun i H x H'=>H'=H∧x=.int (lo + i),fun i _=>n≤i⟩
theorem zhz {P:Program} {w:World} {K:PySem.W.Frag} {tg:Expr} (a it:Addr):Turn P w K tg (Itl K a) [it] it (fun i h=>h.IsListIter it a i) where
 mem:=by simp
 obj:=fun i h st b hb=>by
  have e:b=it:=by simpa using hb
  subst e
  obtain⟨o,e,c,d⟩:=st
  exact⟨o,e,fun v z=>by rw [d] at z;cases z⟩
 keep:=fun i h h' st k=>st.at fun o e=>k it (by simp) o e
 item:=by
  intro X hP hw hK hc i pins s σ H E I hf st hg
  subst hP hw hK
  obtain⟨xs,x,hq,hx⟩:=hg
  obtain⟨its,rv,p,hz⟩:=I.list hq
  obtain⟨u,hu,ru⟩:=rv.get hx
  obtain⟨f0,f1,f2,f3,f4,f5⟩:=hf it (by simp)
  refine wpAny_pyNext_list_item st p.isList (x:=u) (by simpa using hu) fun h' st' sb=>?_
  have I1:Inv X pins σ H { s with heap:=h' }:=I.turned (t':=s.toks) (fun b o hb e=>(sb.2 b hb).trans e) f0 f1 f3 f4 f5
  obtain⟨o,e,c,d⟩:=id st'
  exact⟨u,rfl,zqh (s:={ s with heap:=h' }) e c d (by decide) ⟨x,H,I1,ru,⟨rfl,fun ys hy=>by rw [I.list_inj hy hq];exact hx⟩,st',fun b hb=>(hf b hb).1⟩⟩
 done:=by
  intro X hP hw hK hc i pins s σ H E I hf st hg
  subst hP hw hK
  obtain⟨xs,hq,hx⟩:=hg
  obtain⟨its,rv,p,hz⟩:=I.list hq
  obtain⟨f0,f1,f2,f3,f4,f5⟩:=hf it (by simp)
  have hl:=rv.length
  exact wpAny_pyNext_list_end (I.ok.hd hc) st p.isList (by simp;lia) fun h' eb=>⟨rfl,I.turned (t':=s.toks) (fun b o hb e=>eb b o hb e) f0 f1 f3 f4 f5⟩
 self:=fun _ _ _ _ _ st h=>wpAny_pyIter_listiter st h
theorem zk2 {P:Program} {w:World} {K:PySem.W.Frag} {tg:Expr} (a it:Addr):Turn P w K tg (Itt K a) [it] it (fun i h=>h.IsTupleIter it a i) where
 mem:=by simp
 obj:=fun i h st b hb=>by
  have e:b=it:=by simpa using hb
  subst e
  obtain⟨o,e,c,d⟩:=st
  exact⟨o,e,fun v z=>by rw [d] at z;cases z⟩
 keep:=fun i h h' st k=>st.at fun o e=>k it (by simp) o e
 item:=by
  intro X hP hw hK hc i pins s σ H E I hf st hg
  subst hP hw hK
  obtain⟨xs,x,hq,hx⟩:=hg
  obtain⟨its,rv,p,hz⟩:=I.tuple hq
  obtain⟨u,hu,ru⟩:=rv.get hx
  obtain⟨f0,f1,f2,f3,f4,f5⟩:=hf it (by simp)
  refine wpAny_pyNext_tuple_item st (show s.heap.IsTuple a its.toArray from p) (x:=u) (by simpa using hu) fun h' st' sb=>?_
  have I1:Inv X pins σ H { s with heap:=h' }:=I.turned (t':=s.toks) (fun b o hb e=>(sb.2 b hb).trans e) f0 f1 f3 f4 f5
  obtain⟨o,e,c,d⟩:=id st'
  exact⟨u,rfl,zqh (s:={ s with heap:=h' }) e c d (by decide) ⟨x,H,I1,ru,⟨rfl,fun ys hy=>by rw [I.tuple_inj hy hq];exact hx⟩,st',fun b hb=>(hf b hb).1⟩⟩
 done:=by
  intro X hP hw hK hc i pins s σ H E I hf st hg
  subst hP hw hK
  obtain⟨xs,hq,hx⟩:=hg
  obtain⟨its,rv,p,hz⟩:=I.tuple hq
  obtain⟨f0,f1,f2,f3,f4,f5⟩:=hf it (by simp)
  have hl:=rv.length
  exact wpAny_pyNext_tuple_end (I.ok.hd hc) st (show s.heap.IsTuple a its.toArray from p) (by simp;lia) fun h' eb=>⟨rfl,I.turned (t':=s.toks) (fun b o hb e=>eb b o hb e) f0 f1 f3 f4 f5⟩
 self:=fun _ _ _ _ _ st h=>wpAny_pyIter_tupleiter st h
theorem zk3 {P:Program} {w:World} {K:PySem.W.Frag} {tg:Expr} (it:Addr) (lo:Int) (n:Nat):Turn P w K tg (Itr lo n) [it] it (fun i h=>IsRangeIter h it (lo + (i:Nat) * 1) ((n:Int) - (i:Nat)) 1) where
 mem:=by simp
 obj:=fun i h st b hb=>by
  have e:b=it:=by simpa using hb
  subst e
  exact⟨_,st,fun v z=>by
   have z':Data.fields _=Data.cell v:=z
   cases z'⟩
 keep:=fun i h h' st k=>k it (by simp) _ st
 item:=by
  intro X hP hw hK hc i pins s σ H E I hf st hg
  subst hP hw hK
  obtain⟨f0,f1,f2,f3,f4,f5⟩:=hf it (by simp)
  have W:=Walks.range (prog:=X.prog) (w:=X.w) (I.ok.hd hc) it lo 1 n
  refine W.item i s _ _ hg st fun v h' tk hv st' kk=>?_
  obtain⟨t,rfl⟩:=hv
  have I1:Inv X pins σ H { s with heap:=h',toks:=tk }:=I.turned (fun b o hb e=>kk b o (by simpa using hb) e) f0 f1 f3 f4 f5
  refine ⟨_,rfl,zqh (s:={ s with heap:=h',toks:=tk }) (n := "range_iterator") st' rfl rfl (by decide) ⟨.int (lo + i),H,I1,⟨t,?_⟩,⟨rfl,rfl⟩,st',fun b hb=>(hf b hb).1⟩⟩
  rw [Int.mul_one]
 done:=by
  intro X hP hw hK hc i pins s σ H E I hf st hg
  subst hP hw hK
  obtain⟨f0,f1,f2,f3,f4,f5⟩:=hf it (by simp)
  exact wpAny_pyNext_range_end (I.ok.hd hc) st (by have:n≤i:=hg;lia) fun h' eb=>⟨rfl,I.turned (t':=s.toks) (fun b o hb e=>eb b o hb e) f0 f1 f3 f4 f5⟩
 self:=fun _ _ _ _ _ st h=>wpAny_pyIter_rangeiter st h
end L2
namespace L2
open PySem PySem.Spec PyProof.Rows
section
variable {X:Cx} {tg:Expr}
def ztu (K:PySem.W.Frag) (tl:TE):TI:=fun σ H R=>tl σ H fun x H1=>∃ a,x=.ref a∧(∃ xs,SqL K H1 a xs)∧R (Itl K a) H1
theorem zml {l:Expr} {tl:TE} (hl:PE X l tl):PI X tg l (ztu X.K tl):=by
 intro pins s σ H R I h
 refine thn (hl pins s σ H _ I h) fun v s1 ⟨x,H1,I1,r1,q1⟩=>?_
 obtain⟨a,e,⟨xs,hq⟩,q⟩:=q1
 subst e
 cases r1
 obtain⟨its,rv,p,hz⟩:=I1.list hq
 refine wpAny_pyIter_list p.isList ?_
 refine ⟨s1.heap.objs.size,[s1.heap.objs.size],_,_,H1,rfl,I1.kept (t':=s1.toks) fun b o e=>Heap.get?_push_of_some _ e,zhz a _,⟨_,Heap.get?_push_size _ rfl,rfl,rfl⟩,fun b hb=>?_,q⟩
 have e:b=s1.heap.objs.size:=by simpa using hb
 subst e
 exact I1.fpOk (Nat.le_refl _) (I1.hok.fresh (Nat.le_refl _))
theorem zj6 {pins:List (Addr×Obj)} {σ:St} {H:Hp} {s:Shared} {R:It→Hp→Prop} {E:Value→Shared→Prop} {lo hi:Int} {t u v:Tok} {tk:Nat} (I:Inv X pins σ H s) (h1:-(2 ^ 62)≤lo) (h2:lo < 2 ^ 62) (h3:-(2 ^ 62)≤hi) (h4:hi < 2 ^ 62)
  (q:R (Itr lo (hi - lo).toNat) H):wpAny (model X.prog X.w) X.A (pyIter (.ref s.heap.objs.size)) (PIE X pins σ tg R) E { s with heap:=s.heap.push { cls:=.type "range", data:=.fields #[.int lo t,.int hi u,.int 1 v] },toks:=tk }:=by
 refine wpAny_pyIter_range (IsRange.new ..) (small_one h1 h2 h3 h4) ?_
 have I1:Inv X pins σ H { s with heap:=s.heap.push { cls:=.type "range", data:=.fields #[.int lo t,.int hi u,.int 1 v] },toks:=tk }:=I.kept fun b o e=>Heap.get?_push_of_some _ e
 refine ⟨(s.heap.push { cls:=.type "range", data:=.fields #[.int lo t,.int hi u,.int 1 v] }).objs.size,[(s.heap.push { cls:=.type "range", data:=.fields #[.int lo t,.int hi u,.int 1 v] }).objs.size],_,_,H,rfl,
  I1.kept (t':=tk) fun b o e=>Heap.get?_push_of_some _ e,zk3 _ lo (hi - lo).toNat,?_,fun b hb=>?_,q⟩
 ·have e1:lo + ((0:Nat):Int) * 1=lo:=by simp
  have e2:(((hi - lo).toNat:Nat):Int) - ((0:Nat):Int)=Builtin.Range.rangeSize lo hi 1:=by rw [rangeSize_one];split <;> lia
  show IsRangeIter _ _ (lo + ((0:Nat):Int) * 1) ((((hi - lo).toNat:Nat):Int) - ((0:Nat):Int)) 1
  rw [e1,e2]
  exact Heap.get?_push_size _ rfl
 ·have e:b=(s.heap.push { cls:=.type "range", data:=.fields #[.int lo t,.int hi u,.int 1 v] }).objs.size:=by simpa using hb
  subst e
  exact I1.fpOk (Nat.le_refl _) (I1.hok.fresh (Nat.le_refl _))
def zts (ta:TA):TI:=fun σ H R=>ta σ H fun vs H1=>∃ j:Int,vs=[.int j]∧-(2 ^ 62)≤j∧j < 2 ^ 62∧R (Itr 0 j.toNat) H1
def ztr (ta:TA):TI:=fun σ H R=>ta σ H fun vs H1=>∃ i j:Int,vs=[.int i,.int j]∧(-(2 ^ 62)≤i∧i < 2 ^ 62∧-(2 ^ 62)≤j∧j < 2 ^ 62)∧R (Itr i (j - i).toNat) H1
theorem zmk {a:Expr} {ta:TA} {p pos:Pos} (hg:Gl X "range") (hm:X.mg "range" = none) (ha:PA X [a] ta) (hs:starEach [a] X.env=[(false,eval a X.env)]:=by rfl):PI X tg (.Call (.Name "range" p) [a] [] pos) (zts ta):=by
 intro pins s σ H R I h
 refine Call_ (zdl I hg hm boot_range (PyProof.Rows.callWith_type1 (thn (ha pos pins s σ H _ I h) fun us s1 ⟨vs,H1,I1,r1,q1⟩=>?_) hs rfl))
 obtain⟨j,e,q1,q2,q⟩:=q1
 subst e
 cases r1 with
 | cons r rr =>
  cases rr
  obtain⟨t,rfl⟩:=r
  exact call_range_1 (zj6 I1 (by lia) (by lia) q1 q2 (by simpa using q))
theorem zmj {a b:Expr} {ta:TA} {p pos:Pos} (hg:Gl X "range") (hm:X.mg "range" = none) (ha:PA X [a,b] ta) (hs:starEach [a,b] X.env=[(false,eval a X.env),(false,eval b X.env)]:=by rfl) (hs2:starEach [b] X.env=[(false,eval b X.env)]:=by rfl) :
  PI X tg (.Call (.Name "range" p) [a,b] [] pos) (ztr ta):=by
 intro pins s σ H R I h
 refine Call_ (zdl I hg hm boot_range (PyProof.Rows.callWith_type1 (thn (ha pos pins s σ H _ I h) fun us s1 ⟨vs,H1,I1,r1,q1⟩=>?_) (by rw [hs,hs2]) (by rw [hs2];rfl)))
 obtain⟨i,j,e,⟨q1,q2,q3,q4⟩,q⟩:=q1
 subst e
 cases r1 with
 | cons r rr =>
  cases rr with
  | cons r' rr =>
   cases rr
   obtain⟨t,rfl⟩:=r
   obtain⟨t',rfl⟩:=r'
   exact call_range_2 (zj6 I1 q1 q2 q3 q4 q)
def tFor (wi:TI) (g:TG) (tb:TS):TS:=fun D σ H=>wi σ H fun J H1=>∃ W:Nat→Nat→St→Hp→Prop,(∃ m,W 0 m σ H1)∧∀ i m σ H,W i m σ H →
 (J.stop i H∧D.nx σ H)∨(J.go i H∧∃ N:St→Hp→Prop,(∀ σ' H',N σ' H'→∃ m',m' < m∧W (i + 1) m' σ' H')∧∀ x H',J.yld i H x H'→g x σ H' fun σ2 H2=>tb { D with nx:=N,ct:=N,bk:=D.nx } σ2 H2)
noncomputable def zj7 (fp:List Addr) (h:Heap):List (Addr×Obj):=fp.filterMap fun b=>(h.get? b).map fun o=>(b,o)
theorem zbz {fp:List Addr} {h:Heap} {b:Addr} {o:Obj} (hb:b∈fp) (e:h.get? b=some o):(b,o)∈zj7 fp h:=List.mem_filterMap.mpr ⟨b,hb,by rw [e];rfl⟩
theorem zmv {fp:List Addr} {h:Heap} {p:Addr×Obj} (hp:p∈zj7 fp h):p.1∈fp∧h.get? p.1=some p.2:=by
 obtain⟨b,hb,e⟩:=List.mem_filterMap.mp hp
 cases q:h.get? b with
 | none=>rw [q] at e;cases e
 | some o =>
  rw [q] at e
  have e':(b,o)=p:=Option.some.inj e
  subst e'
  exact⟨hb,q⟩
theorem Inv.pinned {pins:List (Addr×Obj)} {σ:St} {H:Hp} {s:Shared} {fp:List Addr} (I:Inv X pins σ H s) (hf:∀ b∈fp,FpOk X pins H b) (ho:∀ b∈fp,∃ o,s.heap.get? b=some o∧∀ v,o.data≠.cell v):Inv X (pins ++ zj7 fp s.heap) σ H s:=
 I.pins_of fun p hp=>(List.mem_append.mp hp).elim (fun z=>I.pin p (List.mem_append_right _ z)) fun z=>by
  obtain⟨hb,e⟩:=zmv z
  obtain⟨f0,f1,f2,_⟩:=hf p.1 hb
  obtain⟨o,e',d⟩:=ho p.1 hb
  rw [e] at e';cases e'
  exact⟨e,f0,f1,f2,d⟩
theorem Inv.unpinned {pins pl:List (Addr×Obj)} {σ:St} {H:Hp} {s:Shared} (I:Inv X (pins ++ pl) σ H s):Inv X pins σ H s:=I.pins_of fun p hp=>I.pin p (List.mem_append_right _ (List.mem_append_left _ hp))
theorem zrj {iter:Expr} {body:List Stmt} {wi:TI} {g:TG} {tb:TS} {pos:Pos} (hp:PassesOwn (model X.prog X.w) X.A X.env X.xe) (hc:X.calm=true) (hi:PI X tg iter wi) (hg:PG X tg g) (hb:PSs X body tb)
  (hs:∀ x,foldedSetIterable iter X.env x=pure x:=by intro _;rfl):PS X (.For tg iter body [] pos) (tFor wi g tb):=by
 intro pins s σ H D I h
 refine wpAny_For (thn (hi pins s σ H _ I h) fun v s1 h1=>thn h1 fun itv s2 h2=>?_) hs
 obtain⟨it,fp,tn,J,H2,e,I2,T,st2,f2,W,⟨m0,w0⟩,turn⟩:=h2
 subst e
 have stat:∀ {H':Hp},(∀ b∈fp,H' b=none)→∀ b∈fp,FpOk X pins H' b:=fun hn b hb=>⟨hn b hb,(f2 b hb).2⟩
 refine codeAny_forLoop_any (fun n s'=>∃ i σ' H',Inv X pins σ' H' s'∧tn i s'.heap∧(∀ b∈fp,H' b=none)∧W i n σ' H') ?_ m0 ⟨0,σ,H2,I2,st2,fun b hb=>(f2 b hb).1,w0⟩
 rintro n s3 ⟨i,σ3,H3,I3,st3,fr3,w3⟩
 rcases turn i n σ3 H3 w3 with ⟨stop,qn⟩ | ⟨go,N,hN,step⟩
 ·refine wpAny_passesOwn hp (thn (T.done X rfl rfl rfl hc i pins s3 σ3 H3 X.xe I3 (stat fr3) st3 stop) fun r s4 ⟨hr,I4⟩=>?_)
  subst hr
  exact wpAny_execs_nil ⟨σ3,H3,I4,qn⟩
 ·refine wpAny_passesOwn hp (thn (T.item X rfl rfl rfl hc i pins s3 σ3 H3 X.xe I3 (stat fr3) st3 go) fun r s4 ⟨u,hr,h4⟩=>?_)
  subst hr
  refine wpAny_passesOwn hp (thn h4 fun _ s5 ⟨x,H5,I5,r5,y5,st5,fr5⟩=>?_)
  have I5':=I5.pinned (stat fr5) (T.obj _ _ st5)
  refine wpAny_passesOwn hp (thn (hg _ s5 σ3 H5 x u _ I5' r5 (step x H5 y5)) fun _ s6 ⟨σ6,H6,I6,q6⟩=>?_)
  refine wpAny_passesOwn hp (thn (hb _ s6 σ6 H6 _ I6 q6) fun f s7 q7=>?_)
  have again:∀ {σ7:St} {H7:Hp},Inv X (pins ++ zj7 fp s5.heap) σ7 H7 s7→N σ7 H7→∃ m,m < n∧∃ i σ' H',Inv X pins σ' H' s7∧tn i s7.heap∧(∀ b∈fp,H' b=none)∧W i m σ' H':=fun {σ7 H7} I7 n7=>by
   obtain⟨m',hm,w7⟩:=hN σ7 H7 n7
   refine ⟨m',hm,i + 1,σ7,H7,I7.unpinned,T.keep _ _ _ st5 fun b hb o e=>(I7.pin (b,o) (List.mem_append_right _ (List.mem_append_right _ (zbz hb e)))).1,fun b hb=>?_,w7⟩
   obtain⟨o,e,d⟩:=T.obj _ _ st5 b hb
   exact (I7.pin (b,o) (List.mem_append_right _ (List.mem_append_right _ (zbz hb e)))).2.1
  cases f with
  | next=>obtain⟨σ7,H7,I7,n7⟩:=q7;exact again I7 n7
  | cont=>obtain⟨σ7,H7,I7,n7⟩:=q7;exact again I7 n7
  | brk=>obtain⟨σ7,H7,I7,q7⟩:=q7;exact⟨σ7,H7,I7.unpinned,q7⟩
  | ret v=>obtain⟨x7,σ7,H7,I7,r7,q7⟩:=q7;exact⟨x7,σ7,H7,I7.unpinned,r7,q7⟩
end
end L2
namespace L2
open PySem PySem.Spec PyProof.Rows
noncomputable abbrev R2:=V→V→Hp→VK→Prop
def OpR (X:Cx) (f:Value→Value→Sem Value) (r:R2):Prop:=
 ∀ (pins:List (Addr×Obj)) (s:Shared) (σ:St) (H:Hp) (x y:V) (v u:Value) (Q:VK),Inv X pins σ H s→RelV x v→RelV y u→r x y H Q →
  wpAny (model X.prog X.w) X.A (f v u) (EP X pins σ Q) X.xe s
def UnR (X:Cx) (f:Value→Sem Value) (r:V→Hp→VK→Prop):Prop:=
 ∀ (pins:List (Addr×Obj)) (s:Shared) (σ:St) (H:Hp) (x:V) (v:Value) (Q:VK),Inv X pins σ H s→RelV x v→r x H Q →
  wpAny (model X.prog X.w) X.A (f v) (EP X pins σ Q) X.xe s
def zcz (X:Cx) (f:Value) (r:List V→Hp→VK→Prop):Prop:=
 ∀ (pins:List (Addr×Obj)) (s:Shared) (σ:St) (H:Hp) (xs:List V) (us:List Value) (Q:VK),Inv X pins σ H s→Vals xs us→r xs H Q →
  wpAny (model X.prog X.w) X.A (call f us) (EP X pins σ Q) X.xe s
def tOp (r:R2) (ta tb:TE):TE:=fun σ H Q=>ta σ H fun x H1=>tb σ H1 fun y H2=>r x y H2 Q
def tUn (r:V→Hp→VK→Prop) (ta:TE):TE:=fun σ H Q=>ta σ H fun x H1=>r x H1 Q
def rI (C:Int→Int→Prop) (g:Int→Int→V):R2:=fun x y H Q=>∃ i j,x=.int i∧y=.int j∧C i j∧Q (g i j) H
def rI0 (g:Int→Int→V):R2:=fun x y H Q=>∃ i j,x=.int i∧y=.int j∧Q (g i j) H
noncomputable def rU (g:Int→V):V→Hp→VK→Prop:=fun x H Q=>∃ i,x=.int i∧Q (g i) H
section
variable {X:Cx} {a b c:Expr} {ta tb tc:TE} {pos:Pos}
theorem binT (ha:PE X a ta) (hb:PE X b tb) {pins:List (Addr×Obj)} {s:Shared} {σ:St} {H:Hp} {R:V→V→Hp→Prop} (I:Inv X pins σ H s)
  (h:ta σ H fun x H1=>tb σ H1 fun y H2=>R x y H2) {Q:Value→Shared→Prop} {f:Value→Value→Sem Value}
  (hf:∀ v u s2 x y H2,Inv X pins σ H2 s2→RelV x v→RelV y u→R x y H2→wpAny (model X.prog X.w) X.A (f v u) Q X.xe s2) :
  wpAny (model X.prog X.w) X.A (eval a X.env) (fun v s₁=>wpAny (model X.prog X.w) X.A (eval b X.env) (fun u s₂=>wpAny (model X.prog X.w) X.A (f v u) Q X.xe s₂) X.xe s₁) X.xe s:=by
 refine thn (ha pins s σ H _ I h) fun v s1 ⟨x,H1,I1,r1,q1⟩=>?_
 refine thn (hb pins s1 σ H1 _ I1 q1) fun u s2 ⟨y,H2,I2,r2,q2⟩=>?_
 exact hf v u s2 x y H2 I2 r1 r2 q2
theorem zsY {op:Operator} {r:R2} (ho:OpR X (binaryOp op) r) (ha:PE X a ta) (hb:PE X b tb):PE X (.BinOp a op b pos) (tOp r ta tb):=by
 intro pins s σ H Q I h
 exact wpAny_BinOp (binT ha hb I h fun v u s2 x y H2 I2 rx ry q=>ho pins s2 σ H2 x y v u Q I2 rx ry q)
theorem zsW {op:UnaryOp} {r:V→Hp→VK→Prop} (ho:UnR X (unaryOp op) r) (ha:PE X a ta):PE X (.UnaryOp op a pos) (tUn r ta):=by
 intro pins s σ H Q I h
 exact UnaryOp_ (thn (ha pins s σ H _ I h) fun v s1 ⟨x,H1,I1,r1,q1⟩=>ho pins s1 σ H1 x v Q I1 r1 q1)
theorem opI {f:Value→Value→Sem Value} {C:Int→Int→Prop} {g:Int→Int→Int}
  (rule:∀ (i j:Int) (t u:Tok) (s:Shared) (Q:Value→Shared→Prop) (E:Value→Shared→Prop),C i j→Q (.int (g i j) s.toks) { s with toks:=s.toks + 1 }→wpAny (model X.prog X.w) X.A (f (.int i t) (.int j u)) Q E s) :
  OpR X f (rI C fun i j=>.int (g i j)):=by
 intro pins s σ H x y v u Q I rx ry h
 obtain⟨i,j,rfl,rfl,hc,q⟩:=h
 obtain⟨t,rfl⟩:=rx
 obtain⟨t',rfl⟩:=ry
 exact rule i j t t' s _ _ hc ⟨.int (g i j),H,I.tok _,⟨_,rfl⟩,q⟩
theorem opI0 {f:Value→Value→Sem Value} {g:Int→Int→Int}
  (rule:∀ (i j:Int) (t u:Tok) (s:Shared) (Q:Value→Shared→Prop) (E:Value→Shared→Prop),Q (.int (g i j) s.toks) { s with toks:=s.toks + 1 }→wpAny (model X.prog X.w) X.A (f (.int i t) (.int j u)) Q E s) :
  OpR X f (rI0 fun i j=>.int (g i j)):=by
 intro pins s σ H x y v u Q I rx ry h
 obtain⟨i,j,rfl,rfl,q⟩:=h
 obtain⟨t,rfl⟩:=rx
 obtain⟨t',rfl⟩:=ry
 exact rule i j t t' s _ _ ⟨.int (g i j),H,I.tok _,⟨_,rfl⟩,q⟩
theorem opB0 {f:Value→Value→Sem Value} {g:Int→Int→Bool}
  (rule:∀ (i j:Int) (t u:Tok) (s:Shared) (Q:Value→Shared→Prop) (E:Value→Shared→Prop),Q (.bool (g i j)) s→wpAny (model X.prog X.w) X.A (f (.int i t) (.int j u)) Q E s) :
  OpR X f (rI0 fun i j=>.bl (g i j)):=by
 intro pins s σ H x y v u Q I rx ry h
 obtain⟨i,j,rfl,rfl,q⟩:=h
 obtain⟨t,rfl⟩:=rx
 obtain⟨t',rfl⟩:=ry
 exact rule i j t t' s _ _ ⟨.bl (g i j),H,I,rfl,q⟩
def CDiv (i j:Int):Prop:=0 < j∧j < 1073741824
def CMul (i j:Int):Prop:=(-(2 ^ 64) < i∧i < 2 ^ 64)∨(-(2 ^ 64) < j∧j < 2 ^ 64)
theorem CMul.ok {i j:Int} (h:CMul i j):IntMulOk i j:=by
 rcases h with ⟨h1,h2⟩ | ⟨h1,h2⟩
 ·exact .of_left (intBits_le_64 h1 h2)
 ·exact .of_right (intBits_le_64 h1 h2)
theorem zru:OpR X (binaryOp .Add) (rI0 fun i j=>.int (i + j)):=opI0 fun _ _ _ _ _ _ _ q=>add_int q
theorem zrp:OpR X (binaryOp .Sub) (rI0 fun i j=>.int (i - j)):=opI0 fun _ _ _ _ _ _ _ q=>sub_int q
theorem zrr:OpR X (binaryOp .Mult) (rI CMul fun i j=>.int (i * j)):=opI fun _ _ _ _ _ _ _ hc q=>mul_int q hc.ok
theorem zpR:OpR X (binaryOp .FloorDiv) (rI CDiv fun i j=>.int (i / j)):=opI fun i j _ _ _ _ _ hc q=>by
 have h1:(0:Int) < j:=hc.1
 have h2:j < 1073741824:=hc.2
 exact floordiv_int (by lia) (by rw [Int.fdiv_eq_ediv_of_nonneg i (by lia)];exact q) (.inl (PyProof.noPylong_small (by lia)))
theorem zrs:OpR X (binaryOp .Mod) (rI (fun _ j=>0 < j) fun i j=>.int (i % j)):=opI fun i j _ _ _ _ _ hc q=>by
 have h1:(0:Int) < j:=hc
 exact mod_int' (by lia) (by rw [Int.fmod_eq_emod_of_nonneg i (by lia)];exact q)
theorem unI {f:Value→Sem Value} {g:Int→Int}
  (rule:∀ (i:Int) (t:Tok) (s:Shared) (Q:Value→Shared→Prop) (E:Value→Shared→Prop),Q (.int (g i) s.toks) { s with toks:=s.toks + 1 }→wpAny (model X.prog X.w) X.A (f (.int i t)) Q E s) :
  UnR X f (rU fun i=>.int (g i)):=by
 intro pins s σ H x v Q I rx h
 obtain⟨i,rfl,q⟩:=h
 obtain⟨t,rfl⟩:=rx
 exact rule i t s _ _ ⟨.int (g i),H,I.tok _,⟨_,rfl⟩,q⟩
theorem zqS:UnR X (unaryOp .USub) (rU fun i=>.int (-i)):=unI fun _ _ _ _ _ q=>neg_int q
end
section
variable {X:Cx} {a b c:Expr} {ta tb tc:TE} {pos:Pos}
theorem zs1:OpR X (compareOp .Lt) (rI0 fun i j=>.bl (decide (i < j))):=opB0 fun _ _ _ _ _ _ _ q=>lt_int q
theorem zs2:OpR X (compareOp .Gt) (rI0 fun i j=>.bl (decide (j < i))):=opB0 fun _ _ _ _ _ _ _ q=>gt_int q
theorem zaY (b:Expr) {op:CmpOp} (h:op≠.In:=by decide) (h2:op≠.NotIn:=by decide):behindInMarks op b=false:=by
 have e1:(op == CmpOp.In)=false:=by cases op <;> first | rfl | exact absurd rfl h
 have e2:(op == CmpOp.NotIn)=false:=by cases op <;> first | rfl | exact absurd rfl h2
 cases b <;> simp [behindInMarks,e1,e2]
theorem zpQ {op:CmpOp} {r:R2} (ho:OpR X (compareOp op) r) (ha:PE X a ta) (hb:PE X b tb) (hm:behindInMarks op b=false):PE X (.Compare a [op] [b] pos) (tOp r ta tb):=by
 intro pins s σ H Q I h
 exact wpAny_Compare1 (binT ha hb I h fun v u s2 x y H2 I2 rx ry q=>ho pins s2 σ H2 x y v u Q I2 rx ry q) hm
def zsH (t:TE):TT:=fun σ H Q=>t σ H fun x H'=>∃ k,x=.bl k∧Q k H'
theorem zpK {op:CmpOp} {r:R2} (ho:OpR X (compareOp op) r) (ha:PE X a ta) (hb:PE X b tb) (hm:behindInMarks op b=false):PT X (.Compare a [op] [b] pos) (zsH (tOp r ta tb)):=by
 intro pins s σ H Q I h
 refine wpAny_isTrue_Compare1 (thn (ha pins s σ H _ I h) fun v s1 ⟨x,H1,I1,r1,q1⟩=>thn (hb pins s1 σ H1 _ I1 q1) fun u s2 ⟨y,H2,I2,r2,q2⟩ =>
  thn (ho pins s2 σ H2 x y v u _ I2 r1 r2 q2) fun c s3 ⟨z,H3,I3,r3,k,e,q3⟩=>?_) hm
 subst e
 cases r3
 exact wpAny_truthy_bool ⟨H3,I3,q3⟩
theorem zh5:(sizeLine:Nat) < 2 ^ 63:=by rw [sizeLine_eq];decide
theorem zhy {x:V} {us:List Value} (r:Vals [x] us):∃ u,us=[u]∧RelV x u:=by
 cases r with
 | cons r1 r2=>cases r2;exact⟨_,rfl,r1⟩
end
end L2
namespace L2
open PySem PySem.Spec PyProof.Rows
section
variable {prog:Program} {w:World} {A:Around} {E:Value→Shared→Prop} {s:Shared} {K:PySem.W.Frag} {x dx C f:Addr} {mA:Str→Option Value} {name:Str} {v:Value}
end
section
variable {P:Program} {w:World} {H H':Hp} {h h':Heap} {a C dx:Addr} {fs fs':List (Str×V)}
end
section
variable {X:Cx} {pins:List (Addr×Obj)} {σ:St} {H:Hp} {s:Shared} {a C dx:Addr} {fs:List (Str×V)} {f:Str} {v:V} {A:Around} {E:Value→Shared→Prop}
end
section
variable {X:Cx} {o e value:Expr} {f:Str} {pos pos' tpos:Pos} {ta tv:TE}
end
section
variable {X:Cx} {pins:List (Addr×Obj)} {σ:St} {H:Hp} {s:Shared} {A:Around} {E:Value→Shared→Prop} {Q:Value→Shared→Prop} {c:Value} {b:Bool}
end
end L2
namespace L2
open PySem PySem.Spec PyProof.Rows
structure Room (k:Nat) (A:Around):Prop where
 hd:A.handled=none
 dp:A.depth + 3 * k + 5 < recursionLimit
 un:A.units + 16 * k + 200 < cLine
theorem Room.mono {j k:Nat} {A:Around} (r:Room k A) (h:j≤k):Room j A:=⟨r.hd,by have:=r.dp;lia,by have:=r.un;lia⟩
theorem Room.deeper {k:Nat} {A:Around} (r:Room (k + 1) A) (env:Env):Room k (A.deeper env):=
 ⟨r.hd,by have:=r.dp;show A.depth + 1 + 3 * k + 5 < _;lia,by have:=r.un;show A.units + 3 + 16 * k + 200 < _;lia⟩
theorem Room.depth {k:Nat} {A:Around} (r:Room k A):A.depth < recursionLimit:=by have:=r.dp;lia
def tNil:TA:=fun _ H Q=>Q [] H
def zpq (ta:TE) (tr:TA):TA:=fun σ H Q=>ta σ H fun x H1=>tr σ H1 fun xs H2=>Q (x :: xs) H2
section
variable {X:Cx} {e:Expr} {es:List Expr} {te:TE} {t:TA} {pos:Pos}
theorem zeZ:PA X [] tNil:=fun _ _ _ _ H Q I h=>Calls.spliced_nil ⟨[],H,I,.nil,h⟩
theorem zcR (ha:PE X e te) (hr:PA X es t) (hs:starEach (e :: es) X.env=(false,eval e X.env) :: starEach es X.env:=by rfl):PA X (e :: es) (zpq te t):=by
 intro pos pins s σ H Q I h
 rw [hs]
 show wpAny _ _ (spliced ((false,eval e X.env) :: backTo pos (starEach es X.env))) _ _ s
 refine Calls.spliced_cons (thn (ha pins s σ H _ I h) fun u s1 ⟨x,H1,I1,r1,q1⟩=>?_)
 exact thn (hr pos pins s1 σ H1 _ I1 q1) fun us s2 ⟨xs,H2,I2,r2,q2⟩=>⟨x :: xs,H2,I2,.cons r1 r2,q2⟩
def tTup (t:TA):TE:=fun σ H Q=>t σ H fun xs H1=>xs.length≤sizeLine∧∀ p,H1 p=none→Q (.ref p) (upd H1 p (.tup xs))
def tLst (t:TA):TE:=fun σ H Q=>t σ H fun xs H1=>xs.length≤sizeLine∧∀ p,H1 p=none→Q (.ref p) (upd H1 p (.lst xs))
theorem zrl {x1} (h:PA X es t):PE X (.Tuple es x1 pos) (tTup t):=by
 intro pins s σ H Q I hq
 refine wpAny_Tuple_spliced (thn (h pos pins s σ H _ I hq) fun us s1 ⟨xs,H1,I1,r,z,q⟩=>⟨by rw [← r.length];exact z,?_⟩)
 have hf:H1 s1.heap.objs.size=none:=I1.hok.fresh (Nat.le_refl _)
 refine ⟨.ref s1.heap.objs.size,upd H1 s1.heap.objs.size (.tup xs),I1.laid (t':=s1.toks) (fun b u e=>Heap.get?_push_of_some _ e) (Nat.le_refl _) ?_,rfl,q _ hf⟩
 exact⟨z,us,r,⟨_,Heap.get?_push_size _ rfl,rfl,_,rfl⟩⟩
theorem zoU (h:PA X es t):PE X (.List es pos) (tLst t):=by
 intro pins s σ H Q I hq
 refine wpAny_List_spliced (thn (h pos pins s σ H _ I hq) fun us s1 ⟨xs,H1,I1,r,z,q⟩=>⟨by rw [← r.length];exact z,?_⟩)
 have hf:H1 s1.heap.objs.size=none:=I1.hok.fresh (Nat.le_refl _)
 refine ⟨.ref s1.heap.objs.size,upd H1 s1.heap.objs.size (.lst xs),I1.laid (t':=s1.toks) (fun b u e=>Heap.get?_push_of_some _ e) (Nat.le_refl _) ?_,rfl,q _ hf⟩
 exact⟨z,us,0,r,Heap.get?_push_size _ rfl⟩
end
noncomputable abbrev Sp:=List V→Hp→VK→XK→Prop
noncomputable abbrev CXT:=List Env→Hp→Shared→XK→Value→Shared→Prop
structure Env0 (P:Program) (w:World) (K:PySem.W.Frag) (mg:Str→Option Value) (base:Heap) (A:Around) (outer:List Env) (s:Shared) (H:Hp):Prop where
 frames:A.frames=some outer
 mod:Mod K mg base
 bs:∀ b o,base.get? b=some o→s.heap.get? b=some o∧H b=none
 bsz:base.objs.size≤s.heap.objs.size
 funs:s.heap.FunFrames base outer
 frf:∀ b∈frs outer,H b=none
 hok:HOk P w H s.heap
 bare:AllBare s.gens
def CE (outer:List Env) (P:Program) (w:World) (H:Hp) (s:Shared) (Q:VK) (u:Value) (s':Shared):Prop:=
 ∃ v H',s'.os=s.os∧AllBare s'.gens∧Un (frs outer) [] H H' s.heap s'.heap∧HOk P w H' s'.heap∧RelV v u∧Q v H'
def CR (CX:CXT) (outer:List Env) (P:Program) (w:World) (H:Hp) (s:Shared) (Q:VK) (E:XK) (r:Result) (s':Shared):Prop:=
 match r with
 | .ok (.ret u)=>CE outer P w H s Q u s'
 | .ok _=>False
 | .error e=>CX outer H s E e s'
structure FnOk (P:Program) (w:World) (K:PySem.W.Frag) (mg:Str→Option Value) (base:Heap) (CX:CXT) (k:Nat) (f:Addr) (fd:FuncData) (ps:List Str) (sp:Sp):Prop where
 len:∀ vs H Q E,sp vs H Q E→vs.length=ps.length
 run:∀ (A:Around) (outer:List Env) (s:Shared) (H:Hp) (args:Args) (us:List Value) (vs:List V) (Q:VK) (E:XK),Room k A→Env0 P w K mg base A outer s H→BindsTo s fd args (ps.zip us)→Vals vs us→sp vs H Q E →
  codeAny (model P w) A (.call (.ref f) args) (CR CX outer P w H s Q E) s
theorem FnOk.mono {P:Program} {w:World} {K:PySem.W.Frag} {mg:Str→Option Value} {base:Heap} {CX:CXT} {j k:Nat} {f:Addr} {fd:FuncData} {ps:List Str} {sp:Sp} (F:FnOk P w K mg base CX j f fd ps sp) (h:j≤k) :
  FnOk P w K mg base CX k f fd ps sp:=⟨F.len,fun A outer s H args us vs Q E hr=>F.run A outer s H args us vs Q E (hr.mono h)⟩
theorem FnOk.imp {P:Program} {w:World} {K:PySem.W.Frag} {mg:Str→Option Value} {base:Heap} {CX:CXT} {k:Nat} {f:Addr} {fd:FuncData} {ps:List Str} {sp sp':Sp} (F:FnOk P w K mg base CX k f fd ps sp)
  (h:∀ vs H Q E,sp' vs H Q E→sp vs H Q E):FnOk P w K mg base CX k f fd ps sp':=
 ⟨fun vs H Q E q=>F.len vs H Q E (h _ _ _ _ q),fun A outer s H args us vs Q E hr he hb hv hs=>F.run A outer s H args us vs Q E hr he hb hv (h _ _ _ _ hs)⟩
section
variable {X:Cx} {pins:List (Addr×Obj)} {σ:St} {H:Hp} {s s':Shared}
theorem Inv.env0 (I:Inv X pins σ H s):Env0 X.prog X.w X.K X.mg X.base X.A X.stack s H:=
 ⟨I.ok.frames,I.ok.mod,I.bs,Nat.le_trans I.ok.bsz I.sz,I.stack,I.stkFree,I.hok,I.bare⟩
theorem Inv.after {Q:VK} {u:Value} (I:Inv X pins σ H s) (h:CE X.stack X.prog X.w H s Q u s'):EP X pins σ Q u s':=by
 obtain⟨v,H',os,bare,un,hok,r,q⟩:=h
 obtain⟨hh,g,d,t,os'⟩:=s'
 obtain rfl:os'=s.os:=os
 exact⟨v,H',I.call (h':=hh) (g':=g) (d':=d) (t':=t) (ch:=[]) un hok bare (fun b z=>absurd z (by simp)),r,q⟩
end
def zqZ (sp:Sp) (dvs:List V) (E:XK) (t:TA):TE:=fun σ H Q=>t σ H fun vs H1=>sp (vs ++ dvs) H1 Q E
def zbg (K:PySem.W.Frag) (fd:FuncData) (ps:List Str) (ds:List Value):Prop:=
 ∀ (s:Shared) (us:List Value),K.In s.heap→(us ++ ds).length=ps.length→BindsTo s fd ⟨us,[]⟩ (ps.zip (us ++ ds))
theorem zbg.all {K:PySem.W.Frag} {fd:FuncData} {ps:List Str} (h:∀ us:List Value,us.length=ps.length→bindArgs fd ⟨us,[]⟩=pure (ps.zip us)):zbg K fd ps []:=fun s us _ hl=>by
 rw [List.append_nil] at hl ⊢
 exact .of_eq (h us hl)
def zgM (CX:CXT) (X:Cx) (E:XK):Prop:=∀ (pins:List (Addr×Obj)) (σ:St) (H:Hp) (s:Shared) (e:Value) (s':Shared),Inv X pins σ H s→CX X.stack H s E e s'→X.xe e s'
section
variable {X:Cx} {CX:CXT} {k:Nat} {f C:Addr} {fd:FuncData} {ps:List Str} {sp:Sp} {dvs:List V} {ds:List Value} {E:XK} {x m:Str} {p pos apos:Pos} {e o:Expr} {es:List Expr} {ta:TE} {t:TA}
theorem zq8 {pins:List (Addr×Obj)} {σ:St} {H:Hp} {s:Shared} {Q:VK} {us:List Value} {vs:List V} (F:FnOk X.prog X.w X.K X.mg X.base CX k f fd ps sp) (hr:Room k X.A) (hb:zbg X.K fd ps ds) (hd:Vals dvs ds) (hx:zgM CX X E)
  (I:Inv X pins σ H s) (r:Vals vs us) (h:sp (vs ++ dvs) H Q E):wpAny (model X.prog X.w) X.A (call (.ref f) us) (EP X pins σ Q) X.xe s:=by
 have r2:Vals (vs ++ dvs) (us ++ ds):=r.append hd
 have hl:(us ++ ds).length=ps.length:=by rw [← r2.length];exact F.len _ _ _ _ h
 refine wpAny_call (codeAny_mono (F.run X.A X.stack s H ⟨us,[]⟩ (us ++ ds) (vs ++ dvs) Q E hr I.env0 (hb s us I.kIn hl) r2 h) fun r s' hq=>?_)
 cases r with
 | error e=>exact hx pins σ H s e s' I hq
 | ok fl =>
  cases fl with
  | ret u=>exact I.after hq
  | next=>exact False.elim hq
  | brk=>exact False.elim hq
  | cont=>exact False.elim hq
theorem zmp (F:FnOk X.prog X.w X.K X.mg X.base CX k f fd ps sp) (hr:Room k X.A) (hg:Gl X x) (hm:X.mg x=some (.ref f)) (hk:PySem.W.keepIn X.K (.ref f)=true) (hb:zbg X.K fd ps ds) (hd:Vals dvs ds) (hx:zgM CX X E)
  (ha:PA X (e :: es) t) (hdb:(x == ("__debug__" : Str))=false:=by decide) (he:starEach (e :: es) X.env=(false,eval e X.env) :: starEach es X.env:=by rfl) (hpl:(backTo pos (starEach es X.env)).any (·.1)=false:=by rfl) :
  PE X (.Call (.Name x p) (e :: es) [] pos) (zqZ sp dvs E t):=by
 intro pins s σ H Q I h
 refine wpAny_Call_Name_kw (zi7 I hg hm ?_ hdb)
 refine PySem.W.callWith_K (h₀:=X.base) I.ok.mod.kin hk (thn (ha pos pins s σ H _ I h) fun us s1 ⟨vs,H1,I1,r,q⟩=>⟨I1.kIn,?_⟩) he hpl
 exact zq8 F hr hb hd hx I1 r q
end
section
variable {X:Cx} {CX:CXT} {k:Nat} {f C:Addr} {fd:FuncData} {ps ks:List Str} {sp:Sp} {E:XK} {x m:Str} {p pos apos kpos:Pos} {e o:Expr} {es:List Expr} {kws:List Keyword} {te ta:TE} {t tk:TA} {nm:Option Str}
variable {g:List Value→List Value→List Value} {gV:List V→List V→List V}
end
structure FnScope (N P:List Str) (sc:Scope):Prop where
 kind:sc.kind=.function
 co:sc.isCoroutine=false
 gen:sc.isGenerator=false
 nd:N.Nodup
 pre:N.take P.length=P
 par:∀ x∈P,sc.names.lookup x=some .local∨sc.names.lookup x=some .cell
 nofree:∀ y∈sc.names,y.2≠.free
theorem zin {kindOf:Str→Option NameKind} {x:Str}:∀ {binds:List (Str×Value)} {m:Str→Option Value},(∀ v,(x,v)∉binds)→bindL kindOf binds m x=m x
 | [],_,_=>rfl
 | (n,v) :: r,m,h=>by
  unfold bindL
  rw [zin fun w hw=>h w (List.mem_cons_of_mem _ hw)]
  split
  ·have:x≠n:=by rintro rfl;exact h v List.mem_cons_self
   simp [this]
  ·rfl
theorem ziq {kindOf:Str→Option NameKind} {x:Str}:∀ {binds:List (Str×Value)} {m:Str→Option Value},(∀ v,(x,v)∉binds)→bindC kindOf binds m x=m x
 | [],_,_=>rfl
 | (n,v) :: r,m,h=>by
  unfold bindC
  rw [ziq fun w hw=>h w (List.mem_cons_of_mem _ hw)]
  split
  ·rfl
  ·have:x≠n:=by rintro rfl;exact h v List.mem_cons_self
   simp [this]
theorem zio {kindOf:Str→Option NameKind} {x:Str} {v:Value}:∀ {P:List Str} {vs:List Value} {i:Nat} {m:Str→Option Value},P.Nodup→P[i]? = some x→vs[i]? = some v→kindOf x=some .local →
  bindL kindOf (P.zip vs) m x=some v
 | [],_,_,_,_,h,_,_=>by simp at h
 | _ :: _,[],_,_,_,_,h,_=>by simp at h
 | p :: P,w :: vs,0,m,nd,h1,h2,hk=>by
  simp at h1 h2;subst h1;subst h2
  show bindL kindOf ((p,w) :: P.zip vs) m p=_
  unfold bindL
  rw [zin fun v hv=>(List.nodup_cons.mp nd).1 (List.of_mem_zip hv).1,if_pos hk]
  simp
 | p :: P,w :: vs,i + 1,m,nd,h1,h2,hk=>by
  show bindL kindOf ((p,w) :: P.zip vs) m x=_
  unfold bindL
  exact zio (i:=i) (List.nodup_cons.mp nd).2 (by simpa using h1) (by simpa using h2) hk
theorem zir {kindOf:Str→Option NameKind} {x:Str} {v:Value}:∀ {P:List Str} {vs:List Value} {i:Nat} {m:Str→Option Value},P.Nodup→P[i]? = some x→vs[i]? = some v→kindOf x≠some .local →
  bindC kindOf (P.zip vs) m x=some v
 | [],_,_,_,_,h,_,_=>by simp at h
 | _ :: _,[],_,_,_,_,h,_=>by simp at h
 | p :: P,w :: vs,0,m,nd,h1,h2,hk=>by
  simp at h1 h2;subst h1;subst h2
  show bindC kindOf ((p,w) :: P.zip vs) m p=_
  unfold bindC
  rw [ziq fun v hv=>(List.nodup_cons.mp nd).1 (List.of_mem_zip hv).1,if_neg hk]
  simp
 | p :: P,w :: vs,i + 1,m,nd,h1,h2,hk=>by
  show bindC kindOf ((p,w) :: P.zip vs) m x=_
  unfold bindC
  exact zir (i:=i) (List.nodup_cons.mp nd).2 (by simpa using h1) (by simpa using h2) hk
noncomputable def start (N:List Str) (vs:List V):St:=vs.map some ++ List.replicate (N.length - vs.length) none
noncomputable def cxOf (CX:CXT) (P:Program) (w:World) (K:PySem.W.Frag) (mg:Str→Option Value) (base:Heap) (N:List Str) (qual:Str) (scope:Scope) (f:Addr) (cd:Value) (A:Around) (outer:List Env) (s:Shared) (H:Hp) (E:XK):Cx where
 prog:=P
 w:=w
 K:=K
 mg:=mg
 base:=base
 A:=A.deeper (envOfC qual scope s.heap.objs.size f cd)
 N:=N
 s₀:=s
 H₀:=H
 env:=envOfC qual scope s.heap.objs.size f cd
 outer:=outer
 stack:=envOfC qual scope s.heap.objs.size f cd :: outer
 ex:=[]
 calm:=true
 fn:=fun _=>true
 pn:=[]
 xe:=fun e s'=>wpAny (model P w) (A.deeper (envOfC qual scope s.heap.objs.size f cd)) (leaving (envOfC qual scope s.heap.objs.size f cd) e) (fun _ s''=>CX outer H s E e s'') (fun e' s''=>CX outer H s E e' s'') s'
theorem zkN {sc:Scope} {n:Nat} {x:Str} (h:sc.names.lookup x=some .cell):∃ c,(cellsFrom n sc.names []).lookup x=some c:=by
 have q:=PySem.W.cellsFrom_some sc.names n [] (.inl h)
 exact Option.isSome_iff_exists.mp q
theorem zm5 {CX:CXT} {P:Program} {w:World} {K:PySem.W.Frag} {mg:Str→Option Value} {base:Heap} {N ps:List Str} {qual:Str} {scope:Scope} {f:Addr} {cd:Value} {A:Around} {outer:List Env} {s s1:Shared} {H:Hp} {E:XK} {us:List Value} {vs:List V}
  (S:FnScope N ps scope) (hd:A.handled=none) (e0:Env0 P w K mg base A outer s H) (hl:vs.length=ps.length) (r:Vals vs us)
  (x:InCallC s s.heap.objs.size (bindL (envOfC qual scope s.heap.objs.size f cd).kindOf (ps.zip us) fun _=>none) (cellsFrom (s.heap.objs.size + 1) scope.names []) (bindC (envOfC qual scope s.heap.objs.size f cd).kindOf (ps.zip us) fun _=>none) s1) :
  Inv (cxOf CX P w K mg base N qual scope f cd A outer s H E) [] (start N vs) H s1:=by
 have hpl:ps.length≤N.length:=by have:=congrArg List.length S.pre;rw [List.length_take] at this;lia
 obtain⟨h1,tk,rfl,hk⟩:=x.done
 have noA:∀ b:Addr,b∉(cxOf CX P w K mg base N qual scope f cd A outer s H E).ex:=fun b z=>absurd (show b∈([]:List Addr) from z) (by simp)
 refine ⟨⟨e0.mod,S.kind,rfl,rfl,Nat.le_refl _,fun y z c h1 h2=>?_,fun y hy=>?_,fun y c _ h=>?_,fun _=>hd,Around.frames_deeper e0.frames,.inr ⟨rfl,rfl⟩,fun b z=>absurd z (noA b),e0.bs,e0.bsz,fun b _ _=>noA b,fun b z=>absurd z (noA b),e0.funs,e0.frf⟩,
  rfl,e0.bare,Un.kept hk,⟨_,x.toInCall.ns,fun i y v h1 h2 h3=>?_⟩,fun y c h=>⟨_,x.cell y c h⟩,e0.hok.fresh (Nat.le_refl _),fun y c h=>?_,fun p hp=>absurd (show p∈([]:List (Addr×Obj)) from hp) (by simp),e0.hok.kept hk,?_⟩
 ·exact name_of_addr x.apart (PySem.mem_of_lookup h1) (PySem.mem_of_lookup h2)
 ·have hy:scope.names.lookup y=some .cell∨scope.names.lookup y=some .free:=hy
  rcases hy with hy | hy
  ·exact zkN hy
  ·exact absurd rfl (S.nofree _ (PySem.mem_of_lookup hy))
 ·exact Nat.le_of_lt (x.above y c (PySem.mem_of_lookup h))
 ·have hi:i < vs.length:=by
   unfold start at h2
   by_cases hi:i < vs.length
   ·exact hi
   ·rw [List.getElem?_append_right (by simpa using hi)] at h2
    rw [List.getElem?_replicate] at h2
    split at h2 <;> cases h2
  have ha:vs[i]? = some v:=by
   unfold start at h2
   rw [List.getElem?_append_left (by simpa using hi),List.getElem?_map] at h2
   cases e:vs[i]? with
   | none=>rw [e] at h2;cases h2
   | some a=>rw [e] at h2;cases h2;rfl
  obtain⟨u,hu,rv⟩:=r.get ha
  have hp:ps[i]? = some y:=by
   rw [← S.pre,List.getElem?_take_of_lt (by lia)];exact h1
  have ndP:ps.Nodup:=by rw [← S.pre];exact S.nd.sublist (List.take_sublist _ _)
  refine ⟨u,rv,?_⟩
  rcases S.par y (List.mem_of_getElem? hp) with k | k
  ·exact .inl ⟨k,zio ndP hp hu k⟩
  ·obtain⟨c,e⟩:=zkN (n:=s.heap.objs.size + 1) k
   refine .inr ⟨.inl k,c,e,?_⟩
   have q:=x.cell y c e
   rw [zir ndP hp hu (by show scope.names.lookup y≠_;rw [k];decide)] at q
   exact q
 ·exact e0.hok.fresh (Nat.le_of_lt (x.above y c (PySem.mem_of_lookup h)))
 ·unfold start
  show _=N.length
  rw [List.length_append,List.length_map,List.length_replicate]
  lia
theorem ztw {CX:CXT} {P:Program} {w:World} {K:PySem.W.Frag} {mg:Str→Option Value} {base:Heap} {k:Nat} {f:Addr} {name qual:Str} {params:Arguments} {body:List Stmt} {scope:Scope} {dV kV doc pm cdv ct oc:Value} {an od:Option Addr}
  {osl:Array (Option Value)} {N ps:List Str} {sp:Sp} (lk:K.lookup f=some ⟨oc,od,.func (PySem.W.fnOf name qual params body scope dV kV doc pm an cdv ct),osl⟩) (hcd:PySem.W.codeIn K cdv qual=true) (S:FnScope N ps scope)
  (len:∀ vs H Q E,sp vs H Q E→vs.length=ps.length)
  (hbody:∀ (A:Around) (outer:List Env) (s:Shared) (H:Hp) (vs:List V) (Q:VK) (E:XK),Room k (A.deeper (envOfC qual scope s.heap.objs.size f cdv))→sp vs H Q E →
   ∃ t,PSs (cxOf CX P w K mg base N qual scope f cdv A outer s H E) body t∧t { nx:=fun _ H'=>Q .non H',rt:=Q } (start N vs) H) :
  FnOk P w K mg base CX (k + 1) f (PySem.W.fnOf name qual params body scope dV kV doc pm an cdv ct) ps sp:=by
 refine ⟨len,fun A outer s H args us vs Q E hr e0 hb r hsp=>?_⟩
 have hl:=len _ _ _ _ hsp
 have KX:K.In s.heap:=e0.mod.kin.keeps fun b o e=>(e0.bs b o e).1
 have lim:s.heap.NoLimit:=e0.mod.nolimit.keeps fun b o e=>(e0.bs b o e).1
 have hkind:∀ y∈ps.zip us,scope.names.lookup y.1=some .local∨(scope.names.lookup y.1=some .cell∧((cellsFrom (s.heap.objs.size + 1) scope.names []).lookup y.1).isSome=true):=fun ⟨n,v⟩ hy=>by
  rcases S.par n (List.of_mem_zip hy).1 with q | q
  ·exact .inl q
  ·exact .inr ⟨q,PySem.W.cellsFrom_some _ _ _ (.inl q)⟩
 refine codeAny_call_function hr.depth (KX _ _ lk) rfl S.co S.gen rfl (PySem.W.codeRec_of KX hcd) (hb _ _ _ _ ?_)
 refine wpAny_newFunctionEnv_cells S.kind hkind fun env he s1 x=>?_
 subst he
 refine ⟨lim.keeps x.toInCall.keep,codeAny_func ?_⟩
 obtain⟨t,ht,hq⟩:=hbody A outer s H vs Q E (hr.deeper _) hsp
 have I:Inv (cxOf CX P w K mg base N qual scope f cdv A outer s H E) [] (start N vs) H s1:=zm5 S hr.hd e0 hl r x
 refine wpAny_mono (ht [] s1 (start N vs) H _ I hq) (fun fl s' hs=>?_) fun e s' hs=>hs
 have fin:∀ {σ':St} {H':Hp} {v:V} {u:Value},Inv (cxOf CX P w K mg base N qual scope f cdv A outer s H E) [] σ' H' s'→RelV v u→Q v H'→CE outer P w H s Q u s':=
  fun {σ' H' v u} J rv q=>⟨v,H',J.os,J.bare,J.base,J.hok,rv,q⟩
 cases fl with
 | ret u =>
  obtain⟨v,σ',H',J,rv,q⟩:=hs
  exact fin J rv q
 | next =>
  obtain⟨σ',H',J,q⟩:=hs
  exact fin (v:=V.non) (u:=Value.none) J rfl q
 | brk =>
  obtain⟨_,_,_,q⟩:=hs
  exact False.elim q
 | cont =>
  obtain⟨_,_,_,q⟩:=hs
  exact False.elim q
end L2
namespace L2
open PySem PySem.Spec PyProof.Rows
section
variable {X:Cx} {x:Str} {p pos:Pos} {e:Expr} {es:List Expr} {t:TA} {id T:String} {r:List V→Hp→VK→Prop}
def tCB (r:List V→Hp→VK→Prop) (t:TA):TE:=fun σ H Q=>t σ H fun vs H1=>r vs H1 Q
theorem znZ (hc:zcz X (.builtin id) r) (hg:Gl X x) (hm:X.mg x=none) (hv:bootBuiltins x=some (.builtin id)) (ha:PA X (e :: es) t) (hn:x ≠ "__name__" := by decide) (hdb:(x == ("__debug__" : Str))=false:=by decide)
  (he:starEach (e :: es) X.env=(false,eval e X.env) :: starEach es X.env:=by rfl) (hpl:(backTo pos (starEach es X.env)).any (·.1)=false:=by rfl):PE X (.Call (.Name x p) (e :: es) [] pos) (tCB r t):=by
 intro pins s σ H Q I h
 refine wpAny_Call_Name_kw (zdl I hg hm hv ?_ hn hdb)
 exact PyProof.Rows.callWith_builtin1 (thn (ha pos pins s σ H _ I h) fun us s1 ⟨vs,H1,I1,r1,q1⟩=>hc pins s1 σ H1 vs us Q I1 r1 q1) he hpl
theorem zmo (hc:zcz X (.type T) r) (hg:Gl X x) (hm:X.mg x=none) (hv:bootBuiltins x=some (.type T)) (ha:PA X (e :: es) t) (hn:x ≠ "__name__" := by decide) (hdb:(x == ("__debug__" : Str))=false:=by decide)
  (he:starEach (e :: es) X.env=(false,eval e X.env) :: starEach es X.env:=by rfl) (hpl:(backTo pos (starEach es X.env)).any (·.1)=false:=by rfl):PE X (.Call (.Name x p) (e :: es) [] pos) (tCB r t):=by
 intro pins s σ H Q I h
 refine wpAny_Call_Name_kw (zdl I hg hm hv ?_ hn hdb)
 exact PyProof.Rows.callWith_type1 (thn (ha pos pins s σ H _ I h) fun us s1 ⟨vs,H1,I1,r1,q1⟩=>hc pins s1 σ H1 vs us Q I1 r1 q1) he hpl
end
end L2
namespace HT
open PySem PyProof.Rows
theorem rcLt_int (A:Around) (s:Shared) (a:Int) (t:Tok) (c:Int) (u:Tok) (prog:Program) (w:World) (E:Value→Shared→Prop) (Q:Value→Shared→Prop) (h:Q (.bool (decide (a < c))) s) :
  wpAny (model prog w) A (richCompare .Lt (.int a t) (.int c u)) Q E s:=
 (PyProof.Rows.lt_int h:wpAny (model prog w) A (compareOp .Lt (.int a t) (.int c u)) Q E s)
section
open PySem.SeqAt
open PySem.AutoSeq1 (wpAny_loadPart')
open PySem.MeetsSeq PySem.MeetsSeq2 PySem.MeetsSeq3
end
section
variable {prog:Program} {w:World} {A:Around} {E:Value→Shared→Prop} {s:Shared}
noncomputable def sIx (n d:Nat):Option Int→Nat
 | none=>d
 | some v=>if v < 0 then (v + (n:Int)).toNat else min v.toNat n
theorem zsm (n d:Nat):sIx n d none=d:=rfl
theorem pick_gen (xs:Array Value) (i k:Nat):((List.range k).filterMap fun (m:Nat)=>xs[((i:Int) + (m:Int) * 1).toNat]?).toArray=((xs.toList.drop i).take k).toArray:=by
 have e:(fun (m:Nat)=>xs[((i:Int) + (m:Int) * 1).toNat]?)=fun m=>xs[i + m]?:=by
  funext m
  have:((i:Int) + (m:Int) * 1).toNat=i + m:=by lia
  rw [this]
 rw [e]
 have:=pick_run xs i k
 rw [List.filterMap_map] at this
 have e2:((fun x=>xs[x]?) ∘ fun x=>i + x)=fun m=>xs[i + m]?:=rfl
 rw [e2] at this
 rw [this]
end
end HT
namespace L2
open PySem PySem.Spec PyProof.Rows
noncomputable abbrev TO:=St→Hp→(Option Int→Hp→Prop)→Prop
def PO (X:Cx) (e:Option Expr) (t:TO):Prop:=
 ∀ (pins:List (Addr×Obj)) (s:Shared) (σ:St) (H:Hp) (Q:Option Int→Hp→Prop),Inv X pins σ H s→t σ H Q →
  wpAny (model X.prog X.w) X.A (evalPart e X.env) (fun u s'=>∃ o H',Inv X pins σ H' s'∧IsPart u o∧Q o H') X.xe s
def zpp:TO:=fun _ H Q=>Q none H
def zsI (t:TE):TO:=fun σ H Q=>t σ H fun x H1=>∃ i,x=.int i∧Q (some i) H1
theorem zlv {ns:List Int}:∀ {us:List Value},Vals (ns.map V.int) us→IntsAre us ns:=by
 induction ns with
 | nil=>intro us r;rw [List.map_nil] at r;cases r;exact .nil
 | cons n ns ih =>
  intro us r
  rw [List.map_cons] at r
  cases r with
  | cons r1 r2 =>
   obtain⟨t,e⟩:=r1
   subst e
   exact .cons n t (ih r2)
section
variable {X:Cx} {e:Expr} {te:TE} {lo hi:Option Expr} {tl th:TO} {pos p2:Pos}
theorem zpO:PO X none zpp:=by
 intro pins s σ H Q I h
 rw [evalPart_none]
 exact wpAny_pure ⟨none,H,I,.none,h⟩
theorem zpN (h:PE X e te):PO X (some e) (zsI te):=by
 intro pins s σ H Q I hw
 rw [evalPart_some]
 refine thn (h pins s σ H _ I hw) fun u s1 ⟨x,H1,I1,r1,q1⟩=>?_
 obtain⟨i,rfl,q⟩:=q1
 obtain⟨t,rfl⟩:=r1
 exact⟨some i,H1,I1,.int i t,q⟩
def SlR (X:Cx) (r:V→Option Int→Option Int→Hp→VK→Prop):Prop:=
 ∀ (pins:List (Addr×Obj)) (s:Shared) (σ:St) (H:Hp) (x:V) (v vl vu:Value) (lo hi:Option Int) (sl:Addr) (Q:VK),Inv X pins σ H s→RelV x v→s.heap.IsSliceOf sl vl vu .none→IsPart vl lo→IsPart vu hi→r x lo hi H Q →
  ∃ T id,typeLookup (.type T) "__getitem__" = pure (some (.builtin id))∧s.TypeIs v T∧wpAny (model X.prog X.w) X.A (getItem v (.ref sl)) (EP X pins σ Q) X.xe s
def tSl (r:V→Option Int→Option Int→Hp→VK→Prop) (te:TE) (tl th:TO):TE:=fun σ H Q=>te σ H fun x H1=>tl σ H1 fun l H2=>th σ H2 fun u H3=>r x l u H3 Q
theorem znY {r:V→Option Int→Option Int→Hp→VK→Prop} (hr:SlR X r) (he:PE X e te) (hl:PO X lo tl) (hu:PO X hi th):PE X (.Subscript e (.Slice lo hi none p2) pos) (tSl r te tl th):=by
 intro pins s σ H Q I h
 refine Subscript_ (thn (he pins s σ H _ I h) fun v s1 ⟨x,H1,I1,r1,q1⟩=>?_)
 refine wpAny_Slice (thn (hl pins s1 σ H1 _ I1 q1) fun vl s2 ⟨l,H2,I2,pl,q2⟩=>thn (hu pins s2 σ H2 _ I2 q2) fun vu s3 ⟨u,H3,I3,pu,q3⟩=>?_)
 rw [evalPart_none]
 refine wpAny_pure ?_
 have I4:Inv X pins σ H3 { s3 with heap:=s3.heap.push { cls:=.type "slice", data:=.fields #[vl,vu,.none] } }:=I3.kept (t':=s3.toks) fun b ob q=>Heap.get?_push_of_some _ q
 obtain⟨T,id,hT,ht,hg⟩:=hr pins { s3 with heap:=s3.heap.push { cls:=.type "slice", data:=.fields #[vl,vu,.none] } } σ H3 x v vl vu l u s3.heap.objs.size Q I4 r1 (Heap.IsSliceOf.new ..) pl pu q3
 show wpAny (model X.prog X.w) X.A (subscriptTail e (.Slice lo hi none p2) v (.ref s3.heap.objs.size)) (EP X pins σ Q) X.xe { s3 with heap:=s3.heap.push { cls:=.type "slice", data:=.fields #[vl,vu,.none] } }
 exact tail_any (ops:=[.ref s3.heap.objs.size,v]) ht hT hg (by with_unfolding_all rfl)
noncomputable def cutV (xs:List V) (lo hi:Option Int):List V:=(xs.drop (HT.sIx xs.length 0 lo)).take (HT.sIx xs.length xs.length hi - HT.sIx xs.length 0 lo)
theorem zjm (xs:List V) (lo hi:Option Int):(cutV xs lo hi).length≤xs.length:=by
 unfold cutV
 rw [List.length_take,List.length_drop]
 lia
end
end L2
namespace L2
open PySem PySem.Spec PyProof.Rows
noncomputable def ixN (n:Nat) (i:Int):Option Nat:=if 0≤i then (if i < n then some i.toNat else none) else if -(n:Int)≤i then some (i + n).toNat else none
noncomputable def atI {α:Type} (xs:List α) (i:Int):Option α:=(ixN xs.length i).bind fun j=>xs[j]?
theorem zjd {n:Nat} {i:Int} {j:Nat} (h:ixN n i=some j):seqIndex? i n=some j∧j < n∧-(n:Int)≤i∧i < n:=by
 unfold ixN at h
 by_cases h0:0≤i
 ·rw [if_pos h0] at h
  by_cases h1:i < n
  ·rw [if_pos h1] at h
   have e:i.toNat=j:=Option.some.inj h
   exact⟨by rw [seqIndex_of h0 h1,e],by lia,by lia,h1⟩
  ·rw [if_neg h1] at h;cases h
 ·rw [if_neg h0] at h
  by_cases h1:-(n:Int)≤i
  ·rw [if_pos h1] at h
   have e:(i + n).toNat=j:=Option.some.inj h
   exact⟨by rw [seqIndex_neg (by lia) h1,e],by lia,h1,by lia⟩
  ·rw [if_neg h1] at h;cases h
theorem zny {α:Type} {xs:List α} {i:Int} {v:α} (h:atI xs i=some v):∃ j,seqIndex? i xs.length=some j∧xs[j]? = some v∧j < xs.length∧-(xs.length:Int)≤i∧i < xs.length:=by
 unfold atI at h
 cases e:ixN xs.length i with
 | none=>rw [e] at h;cases h
 | some j =>
  rw [e] at h
  obtain⟨h1,h2,h3,h4⟩:=zjd e
  exact⟨j,h1,h,h2,h3,h4⟩
def zjH (b:Expr):Prop:=∀ o i,subscripted b false o i=operate [o,i] (getItem o i)
def IxR (X:Cx) (r:R2):Prop:=
 ∀ (value slice:Expr) (pins:List (Addr×Obj)) (s:Shared) (σ:St) (H:Hp) (x y:V) (v u:Value) (Q:VK),Inv X pins σ H s→RelV x v→RelV y u→r x y H Q →
  subscripted slice false v u=operate [v,u] (getItem v u)→wpAny (model X.prog X.w) X.A (subscriptTail value slice v u) (EP X pins σ Q) X.xe s
def MtR (X:Cx) (id:String) (r:V→List V→Hp→VK→Prop):Prop:=
 ∀ (pins:List (Addr×Obj)) (s:Shared) (σ:St) (H:Hp) (x:V) (xs:List V) (v:Value) (us:List Value) (Q:VK),Inv X pins σ H s→RelV x v→Vals xs us→r x xs H Q →
  wpAny (model X.prog X.w) X.A (call (.builtin id) (v :: us)) (EP X pins σ Q) X.xe s
section
variable {X:Cx} {a b:Expr} {ta tb:TE} {pos:Pos}
theorem zro {r:R2} (hr:IxR X r) (ha:PE X a ta) (hb:PE X b tb) (hs:zjH b):PE X (.Subscript a b pos) (tOp r ta tb):=by
 intro pins s σ H Q I h
 exact Subscript_ (binT ha hb I h fun v u s2 x y H2 I2 rx ry q=>hr a b pins s2 σ H2 x y v u Q I2 rx ry q (hs _ _))
def rIxL (K:PySem.W.Frag):R2:=fun x y H Q=>∃ p xs i v,x=.ref p∧y=.int i∧SqL K H p xs∧atI xs i=some v∧Q v H
def rIxT (K:PySem.W.Frag):R2:=fun x y H Q=>∃ p xs i v,x=.ref p∧y=.int i∧SqT K H p xs∧atI xs i=some v∧Q v H
theorem zjc:IxR X (rIxL X.K):=by
 intro value slice pins s σ H x y v u Q I rx ry h hs
 obtain⟨p,xs,i,z,rfl,rfl,hq,he,q⟩:=h
 cases rx
 obtain⟨t,rfl⟩:=ry
 obtain⟨its,r,pl,hz⟩:=I.list hq
 obtain⟨j,h1,h2,h3,h4,h5⟩:=zny he
 obtain⟨w,ew,rw'⟩:=r.get h2
 have hl:=r.length
 have hn:=zh5
 have fin:EP X pins σ Q w s:=⟨z,H,I,rw',q⟩
 by_cases h0:0≤i
 ·have hj:i.toNat=j:=by
   rw [seqIndex_of h0 h5] at h1
   exact Option.some.inj h1
  exact item_listR pl.isList h0 (by lia) (by rw [hj];simpa using ew) fin hs
 ·have hj:(i + (its.toArray.size:Int)).toNat=j:=by
   rw [seqIndex_neg (by lia) h4] at h1
   rw [List.size_toArray,← hl]
   exact Option.some.inj h1
  exact subscriptTail_builtinR (x:=w) pl.isList.typeIs slot_list_getitem.lookup
   (wpAny_getItem_list_neg (Q:=fun r s'=>r=w∧EP X pins σ Q r s') pl.isList (by lia) (by rw [List.size_toArray] <;> lia) (by lia) (by rw [hj];simpa using ew) ⟨rfl,fin⟩) hs
theorem zrS:IxR X (rIxT X.K):=by
 intro value slice pins s σ H x y v u Q I rx ry h hs
 obtain⟨p,xs,i,z,rfl,rfl,hq,he,q⟩:=h
 cases rx
 obtain⟨t,rfl⟩:=ry
 obtain⟨its,r,pl,hz⟩:=I.tuple hq
 obtain⟨j,h1,h2,h3,h4,h5⟩:=zny he
 obtain⟨w,ew,rw'⟩:=r.get h2
 have hl:=r.length
 have hn:=zh5
 have fin:EP X pins σ Q w s:=⟨z,H,I,rw',q⟩
 exact subscriptTail_builtinR (x:=w) pl.typeIs slot_tuple_getitem.lookup
  (getItem_tuple (j:=j) (Q:=fun r s'=>r=w∧EP X pins σ Q r s') pl (by lia) (by lia) (by rw [List.size_toArray,← hl];exact h1) (by simpa using ew) ⟨rfl,fin⟩) hs
theorem zls (its:List Value) (n j:Nat) (u:Value):Obj.mapSeq (·.setIfInBounds j u) { cls:=.type "list", data:=.seq its.toArray n } = { cls:=.type "list", data:=.seq (its.set j u).toArray n }:=by
 simp [Obj.mapSeq]
theorem Inv.lst {pins:List (Addr×Obj)} {σ:St} {H:Hp} {s:Shared} {p:Addr} {xs:List V} (I:Inv X pins σ H s) (h:H p=some (.lst xs)) :
  ∃ (its:List Value) (n:Nat),Vals xs its∧s.heap.get? p=some { cls:=.type "list", data:=.seq its.toArray n }∧xs.length≤sizeLine:=by
 obtain⟨z,its,n,r,e⟩:=I.hok p _ h
 exact⟨its,n,r,e,z⟩
theorem Inv.lstUpd {pins:List (Addr×Obj)} {σ:St} {H:Hp} {s:Shared} {p:Addr} {xs ys:List V} {its its':List Value} {n n':Nat} {f:Obj→Obj} (I:Inv X pins σ H s) (h:H p=some (.lst xs))
  (ho:s.heap.get? p=some { cls:=.type "list", data:=.seq its.toArray n }) (hf:f { cls:=.type "list", data:=.seq its.toArray n } = { cls:=.type "list", data:=.seq its'.toArray n' }) (r:Vals ys its') (hz:ys.length≤sizeLine) (t:Nat) :
  Inv X pins σ (upd H p (.lst ys)) { s with heap:=s.heap.update p f,toks:=t }:=by
 have e:(s.heap.update p f).get? p=some { cls:=.type "list", data:=.seq its'.toArray n' }:=by
  rw [Heap.get?_update_self f ho (by rw [hf] <;> rfl),hf]
 refine I.write (x:=p) (e:=p) (by rw [h];trivial) (.inl rfl) (fun b u hb q=>(Heap.get?_update_other _ _ (Ne.symm hb)).trans q) ⟨_,e⟩ ?_
 exact⟨hz,its',n',r,e⟩
noncomputable def zrd:V→V→V→Hp→(Hp→Prop)→Prop:=fun o i v H Q=>∃ p xs k j,o=.ref p∧i=.int k∧H p=some (.lst xs)∧ixN xs.length k=some j∧Q (upd H p (.lst (xs.set j v)))
theorem zj1:PSet X zrd:=by
 intro pins s σ H o i v ov iv u Q I ro ri rv h
 obtain⟨p,xs,k,j,rfl,rfl,hp,hj,q⟩:=h
 cases ro
 obtain⟨t,rfl⟩:=ri
 obtain⟨its,n,r,ho,hz⟩:=I.lst hp
 obtain⟨h1,h2,h3,h4⟩:=zjd hj
 have hl:=r.length
 have hn:=zh5
 have I':Inv X pins σ (upd H p (.lst (xs.set j v))) { s with heap:=s.heap.update p (Obj.mapSeq (·.setIfInBounds j u)) }:=
  I.lstUpd hp ho (zls its n j u) (r.set rv j) (by rw [List.length_set];exact hz) s.toks
 by_cases h0:0≤k
 ·have hk:k.toNat=j:=by
   rw [seqIndex_of h0 h4] at h1
   exact Option.some.inj h1
  exact PySem.W.ki_setAt ho h0 (by lia) (by rw [List.size_toArray,← hl];exact h4) (by rw [hk];exact⟨_,I',q⟩)
 ·have hk:(k + (its.toArray.size:Int)).toNat=j:=by
   rw [seqIndex_neg (by lia) h3] at h1
   rw [List.size_toArray,← hl]
   exact Option.some.inj h1
  exact PySem.W.ki_setBack ho (by lia) (by rw [List.size_toArray,← hl];exact h3) (by lia) (by rw [hk];exact⟨_,I',q⟩)
theorem zhJ (lo hi:Option Int) (n:Nat):(sliceBounds lo hi none n).1=((HT.sIx n 0 lo:Nat):Int)∧(sliceBounds lo hi none n).2.1=((HT.sIx n n hi:Nat):Int)∧(sliceBounds lo hi none n).2.2=1:=by
 refine ⟨?_,?_,rfl⟩
 ·cases lo with
  | none=>simp [sliceBounds,HT.sIx]
  | some i =>
   simp only [sliceBounds,HT.sIx,Option.getD_none,show (1:Int) > 0 by decide,if_true]
   by_cases h:i < 0
   ·simp only [h,if_true] <;> lia
   ·simp only [h,if_false] <;> lia
 ·cases hi with
  | none=>simp [sliceBounds,HT.sIx]
  | some i =>
   simp only [sliceBounds,HT.sIx,Option.getD_none,show (1:Int) > 0 by decide,if_true]
   by_cases h:i < 0
   ·simp only [h,if_true] <;> lia
   ·simp only [h,if_false] <;> lia
theorem zgV (its:List Value) (lo hi:Option Int):slicePick its.toArray lo hi none=((its.drop (HT.sIx its.length 0 lo)).take (HT.sIx its.length its.length hi - HT.sIx its.length 0 lo)).toArray:=by
 obtain⟨h1,h2,h3⟩:=zhJ lo hi its.toArray.size
 unfold slicePick
 rw [h1,h2,h3]
 simp only [sliceRange_one,pick_run,List.size_toArray] <;> rfl
noncomputable def rSlL (K:PySem.W.Frag):V→Option Int→Option Int→Hp→VK→Prop:=fun x lo hi H Q=>∃ a xs,x=.ref a∧SqL K H a xs∧∀ p,H p=none→Q (.ref p) (upd H p (.lst (cutV xs lo hi)))
theorem zpv:SlR X (rSlL X.K):=by
 intro pins s σ H x v vl vu lo hi sl Q I rx hs pl pu h
 obtain⟨a,xs,rfl,hx,q⟩:=h
 cases rx
 obtain⟨its,r,ht,hz⟩:=I.list hx
 have hlen:=r.length
 refine ⟨"list", _,slot_list_getitem.lookup,ht.isList.typeIs,?_⟩
 refine wpAny_getItem_list_slice ht.isList hs pl pu .none (by simp) ?_ (by rw [List.size_toArray] <;> lia)
 rw [zgV,← hlen]
 refine ⟨.ref s.heap.objs.size,_,I.laid (t':=s.toks) (o:=.lst (cutV xs lo hi)) (fun b ob q=>Heap.get?_push_of_some _ q) (Nat.le_refl _) ?_,rfl,q _ (I.hok.fresh (Nat.le_refl _))⟩
 exact⟨Nat.le_trans (zjm xs lo hi) hz,_,0,(r.drop (HT.sIx xs.length 0 lo)).take (HT.sIx xs.length xs.length hi - HT.sIx xs.length 0 lo),Heap.get?_push_size _ rfl⟩
noncomputable def zdH:V→Bool
 | .non=>true
 | .bl _=>true
 | .int _=>true
 | .str _=>true
 | _=>false
noncomputable def eqV:V→V→Bool
 | .non,.non=>true
 | .bl a,.bl b=>a == b
 | .bl a,.int b=>(if a then 1 else 0) == b
 | .int a,.bl b=>a == (if b then 1 else 0)
 | .int a,.int b=>a == b
 | .str a,.str b=>a == b
 | _,_=>false
theorem zrZ {A:Around} {s:Shared} {y x:V} {u v:Value} (ry:RelV y u) (rx:RelV x v) (fy:zdH y=true) (fx:zdH x=true):SeqAt.EqAt A s u v (eqV y x):=by
 cases y with
 | non =>
  cases ry
  cases x with
  | non=>cases rx;exact SeqAt.EqAt.same _
  | bl b=>cases rx;exact SeqAt.EqAt.none_bool b
  | int b=>obtain⟨t,rfl⟩:=rx;exact SeqAt.EqAt.none_int b t
  | str b=>obtain⟨t,rfl⟩:=rx;exact SeqAt.EqAt.none_str b t
  | _=>exact absurd (show false=true from fx) Bool.false_ne_true
 | bl a =>
  cases ry
  cases x with
  | non=>cases rx;exact SeqAt.EqAt.bool_none a
  | bl b=>cases rx;exact SeqAt.EqAt.bool_bool a b
  | int b=>obtain⟨t,rfl⟩:=rx;exact SeqAt.EqAt.bool_int a b t
  | str b=>obtain⟨t,rfl⟩:=rx;exact SeqAt.EqAt.bool_str a b t
  | _=>exact absurd (show false=true from fx) Bool.false_ne_true
 | int a =>
  obtain⟨t',rfl⟩:=ry
  cases x with
  | non=>cases rx;exact SeqAt.EqAt.int_none a t'
  | bl b=>cases rx;exact SeqAt.EqAt.int_bool a t' b
  | int b=>obtain⟨t,rfl⟩:=rx;exact SeqAt.EqAt.int_int a t' b t
  | str b=>obtain⟨t,rfl⟩:=rx;exact SeqAt.EqAt.int_str a t' b t
  | _=>exact absurd (show false=true from fx) Bool.false_ne_true
 | str a =>
  obtain⟨t',rfl⟩:=ry
  cases x with
  | non=>cases rx;exact SeqAt.EqAt.str_none a t'
  | bl b=>cases rx;exact SeqAt.EqAt.str_bool a t' b
  | int b=>obtain⟨t,rfl⟩:=rx;exact SeqAt.EqAt.str_int a t' b t
  | str b=>obtain⟨t,rfl⟩:=rx;exact SeqAt.EqAt.str_str a t' b t
  | _=>exact absurd (show false=true from fx) Bool.false_ne_true
 | _=>exact absurd (show false=true from fy) Bool.false_ne_true
theorem zik:zcz X (.builtin "len") (fun xs H Q=>∃ p ys,xs=[.ref p]∧(SqL X.K H p ys∨SqT X.K H p ys)∧Q (.int ys.length) H):=by
 intro pins s σ H xs us Q I r h
 obtain⟨p,ys,rfl,hq,q⟩:=h
 obtain⟨u,rfl,rx⟩:=zhy r
 cases rx
 have hn:=zh5
 rcases hq with hq | hq
 ·obtain⟨its,r',pl,hz⟩:=I.list hq
  have hlen:=r'.length
  exact Calls.call_len_list pl.isList (by simp only [List.size_toArray] <;> lia) ⟨.int ys.length,H,I.tok _,⟨s.toks + 1,by rw [List.size_toArray,hlen]⟩,q⟩
 ·obtain⟨its,r',pl,hz⟩:=I.tuple hq
  have hlen:=r'.length
  exact len_tuple pl (by simp only [List.size_toArray] <;> lia) ⟨.int ys.length,H,I.tok _,⟨s.toks + 1,by rw [List.size_toArray,hlen]⟩,q⟩
theorem zij:zcz X (.type "list") (fun xs H Q=>∃ p ys,xs=[.ref p]∧(SqL X.K H p ys∨SqT X.K H p ys)∧∀ l,H l=none→Q (.ref l) (upd H l (.lst ys))):=by
 intro pins s σ H xs us Q I r h
 obtain⟨p,ys,rfl,hq,q⟩:=h
 obtain⟨u,rfl,rx⟩:=zhy r
 cases rx
 have fin:∀ (its:List Value),Vals ys its→ys.length≤sizeLine→∀ (h':Heap) (c':Nat),(∀ b o',s.heap.get? b=some o'→h'.get? b=some o') →
   h'.get? s.heap.objs.size=some { cls:=.type "list", dict:=none,data:=.seq its.toArray c',slots:=#[] }→EP X pins σ Q (.ref s.heap.objs.size) { s with heap:=h' }:=fun its r' hz h' c' kp e =>
  ⟨.ref s.heap.objs.size,_,I.laid (t':=s.toks) kp (Nat.le_refl _) (show zd2 X.prog X.w _ h' _ (.lst ys) from ⟨hz,its,c',r',e⟩),rfl,q _ (I.hok.fresh (Nat.le_refl _))⟩
 rcases hq with hq | hq
 ·obtain⟨its,r',pl,hz⟩:=I.list hq
  have hlen:=r'.length
  obtain⟨o,ho,hc,n,hd⟩:=pl.isList
  exact call_list_seq p (.inl rfl) ho hc hd (fun h' c' kp e=>fin its r' hz h' c' kp e) (by simp only [List.size_toArray] <;> lia)
 ·obtain⟨its,r',pl,hz⟩:=I.tuple hq
  have hlen:=r'.length
  obtain⟨o,ho,hc,n,hd⟩:=pl
  exact call_list_seq p (.inr rfl) ho hc hd (fun h' c' kp e=>fin its r' hz h' c' kp e) (by simp only [List.size_toArray] <;> lia)
def tyV (K:PySem.W.Frag) (T:String) (x:V) (H:Hp):Prop:=match x with
 | .str _=>T = "str"
 | .int _=>T = "int"
 | .ref p=>(T = "list" ∧ ∃ xs,SqL K H p xs)∨(T = "tuple" ∧ ∃ o,K.lookup p=some o∧o.cls=.type "tuple" ∧ o.dict=none) ∨
   (T = "dict" ∧ ((∃ kvs,H p=some (.dK kvs))∨∃ kvs,H p=some (.dT kvs)))∨(T = "set" ∧ ∃ S n,H p=some (.set S n))
 | _=>False
theorem zqT {pins:List (Addr×Obj)} {σ:St} {H:Hp} {s:Shared} {T:String} {x:V} {v:Value} (I:Inv X pins σ H s) (r:RelV x v) (ty:tyV X.K T x H) :
  s.TypeIs v T∧∀ a,v=.ref a→∃ ob,s.heap.get? a=some ob∧ob.dict=none:=by
 cases x with
 | str z =>
  obtain⟨t,rfl⟩:=r
  cases (show T = "str" from ty)
  exact⟨typeIs_str s z t,fun _ e=>nomatch e⟩
 | int i =>
  obtain⟨t,rfl⟩:=r
  cases (show T = "int" from ty)
  exact⟨typeIs_int s i t,fun _ e=>nomatch e⟩
 | ref p =>
  cases r
  rcases ty with ⟨rfl,xs,hq⟩ | ⟨rfl,o,hk,hc,hd⟩ | ⟨rfl,hk⟩ | ⟨rfl,S,n,hk⟩
  ·obtain⟨its,_,pl,_⟩:=I.list hq
   refine ⟨pl.isList.typeIs,fun a e=>?_⟩
   cases e
   obtain⟨o,n,e,c,hd,_⟩:=pl
   exact⟨o,e,hd⟩
  ·refine ⟨⟨o,I.kIn p o hk,hc⟩,fun a e=>?_⟩
   cases e
   exact⟨o,I.kIn _ o hk,hd⟩
  ·have z:∃ o,s.heap.get? p=some o∧o.ExactDict:=by
    rcases hk with ⟨kvs,hk⟩ | ⟨kvs,hk⟩
    ·obtain⟨_,_,_,_,o,_,_,e,ex,_⟩:=I.hok p _ hk
     exact⟨o,e,ex⟩
    ·obtain⟨_,_,_,_,o,_,_,e,ex,_⟩:=I.hok p _ hk
     exact⟨o,e,ex⟩
   obtain⟨o,e,ex⟩:=z
   refine ⟨⟨o,e,ex.1⟩,fun a e2=>?_⟩
   cases e2
   exact⟨o,e,ex.2.1⟩
  ·obtain⟨o,_,_,_,e,ex,_⟩:=I.hok p _ hk
   refine ⟨⟨o,e,ex.1⟩,fun a e2=>?_⟩
   cases e2
   exact⟨o,e,ex.2.1⟩
 | _=>exact False.elim ty
def tBM (K:PySem.W.Frag) (T:String) (r:V→List V→Hp→VK→Prop) (to:TE) (t:TA):TE:=fun σ H Q=>to σ H fun x H1=>tyV K T x H1∧t σ H1 fun xs H2=>r x xs H2 Q
variable {o e:Expr} {es:List Expr} {to:TE} {t:TA} {name:Str} {apos cpos:Pos} {T id:String} {r:V→List V→Hp→VK→Prop}
theorem zn0 (pa:PlainAttrs T) (slot:Slot T name id) (hty:typeOf (.builtin id)=pure (.type "method_descriptor")) (hm:MtR X id r) (ho:PE X o to) (ha:PA X (e :: es) t)
  (hbase:attributeBase o name X.env (eval o X.env)=eval o X.env:=by rfl)
  (hfew:((backTo cpos (starEach (e :: es) X.env)).all (fun x=>!x.1) && (backToKw cpos (keywordEach [] X.env)).all (fun x=>x.1.isSome)
   && decide ((e :: es).length + ([]:List Keyword).length + (if ([]:List Keyword).isEmpty then 0 else 1) < 30))=true:=by rfl)
  (hline:(apos.endLine == cpos.line)=true:=by rfl) (hs:starEach (e :: es) X.env=(false,eval e X.env) :: starEach es X.env:=by rfl) (hplain:(backTo cpos (starEach es X.env)).any (·.1)=false:=by rfl) :
  PE X (.Call (.Attribute o name apos) (e :: es) [] cpos) (tBM X.K T r to t):=by
 intro pins s σ H Q I h
 refine wpAny_Call_method_late hbase hfew hline rfl (thn (ho pins s σ H _ I h) fun v s1 ⟨x,H1,I1,r1,ty,q1⟩=>?_)
 obtain⟨h1,h2⟩:=zqT I1 r1 ty
 refine ⟨T,id,pa,slot,hty,h1,h2,?_⟩
 have hA:=ha cpos pins s1 σ H1 _ I1 q1
 rw [hs] at hA ⊢
 refine Calls.callWith_builtin (by show (false || (backTo cpos (starEach es X.env)).any (·.1))=false;rw [hplain] <;> rfl) (Calls.evalArgs_plain ?_)
 exact thn hA fun us s2 ⟨vs,H2,I2,r2,q2⟩=>hm pins s2 σ H2 x vs v us Q I2 r1 r2 q2
end
end L2
namespace L2
open PySem PySem.Spec PyProof.Rows
def MtM (X:Cx) (id:String) (r:V→List V→Hp→VK→Prop):Prop:=
 ∀ (pins:List (Addr×Obj)) (s:Shared) (σ:St) (H:Hp) (x:V) (xs:List V) (v:Value) (us:List Value) (Q:VK),Inv X pins σ H s→RelV x v→Vals xs us→r x xs H Q →
  wpAny (model X.prog X.w) X.A (call (.builtin id) (v :: us)) (EP X pins σ Q) X.xe s
theorem Vals.one:∀ {x:V} {us:List Value},Vals [x] us→∃ u,us=[u]∧RelV x u:=by
 intro x us h
 cases h with
 | cons r t =>
  cases t
  exact⟨_,rfl,r⟩
theorem Vals.two:∀ {x y:V} {us:List Value},Vals [x,y] us→∃ u v,us=[u,v]∧RelV x u∧RelV y v:=by
 intro x y us h
 cases h with
 | cons r t =>
  obtain⟨v,rfl,q⟩:=Vals.one t
  exact⟨_,v,rfl,r,q⟩
theorem Vals.reverse {xs:List V} {us:List Value} (h:Vals xs us):Vals xs.reverse us.reverse:=by
 induction h with
 | nil=>exact .nil
 | cons r t ih=>rw [List.reverse_cons,List.reverse_cons];exact Vals.append ih (.cons r .nil)
theorem Vals.rep {xs:List V} {us:List Value} (h:Vals xs us):∀ k:Nat,Vals (List.replicate k xs).flatten (List.replicate k us).flatten
 | 0=>.nil
 | k + 1=>by
  rw [List.replicate_succ,List.replicate_succ,List.flatten_cons,List.flatten_cons]
  exact Vals.append h (Vals.rep h k)
theorem zib (its:List Value):∀ (k:Nat) (acc:List Value),
  List.foldl (fun x1 x2=>x1 ++ x2) acc.toArray (List.replicate k its.toArray)=(acc ++ (List.replicate k its).flatten).toArray
 | 0,acc=>by simp
 | k + 1,acc=>by
  have e:acc.toArray ++ its.toArray=(acc ++ its).toArray:=by simp
  have e2:(acc ++ its) ++ (List.replicate k its).flatten=acc ++ (List.replicate (k + 1) its).flatten:=by
   rw [List.replicate_succ,List.flatten_cons,List.append_assoc]
  rw [← e2,← zib its k (acc ++ its),← e,List.replicate_succ,List.foldl_cons]
section
variable {X:Cx} {pins:List (Addr×Obj)} {σ:St} {H:Hp} {s:Shared} {l b:Addr} {xs ys zs:List V}
theorem Inv.lset {its its':List Value} {n:Nat} {f:Array Value→Array Value} {t':Nat} (I:Inv X pins σ H s) (hH:H l=some (.lst xs))
  (e:s.heap.get? l=some { cls:=.type "list", data:=.seq its.toArray n }) (hf:f its.toArray=its'.toArray) (hv:Vals ys its') (hz:ys.length≤sizeLine) :
  Inv X pins σ (upd H l (.lst ys)) { s with heap:=s.heap.update l (Obj.mapSeq f),toks:=t' }:=by
 have q:=PySem.IsL.update e f
 rw [hf] at q
 refine I.write (x:=l) (e:=l) (by rw [hH];exact trivial) (.inl rfl) (fun b' u hb hu=>(Heap.get?_update_other s.heap (Obj.mapSeq f) (Ne.symm hb)).trans hu) ⟨_,q⟩ ?_
 exact⟨hz,its',_,hv,q⟩
theorem Inv.lnew {its:List Value} {t':Nat} (I:Inv X pins σ H s) (hv:Vals ys its) (hz:ys.length≤sizeLine) :
  Inv X pins σ (upd H s.heap.objs.size (.lst ys)) { s with heap:=s.heap.push { cls:=.type "list", data:=.seq its.toArray },toks:=t' }:=
 I.laid (fun _ _ q=>Heap.get?_push_of_some _ q) (Nat.le_refl _) ⟨hz,its,0,hv,Heap.get?_push_size _ rfl⟩
theorem Inv.fresh (I:Inv X pins σ H s):H s.heap.objs.size=none:=I.hok.fresh (Nat.le_refl _)
theorem Inv.lstM (I:Inv X pins σ H s) (hH:H l=some (.lst xs)):xs.length≤sizeLine∧∃ (its:List Value) (n:Nat),Vals xs its∧xs.length=its.length∧s.heap.get? l=some { cls:=.type "list", data:=.seq its.toArray n }:=by
 obtain⟨z,its,n,r,e⟩:=I.hok l _ hH
 exact⟨z,its,n,r,r.length,e⟩
theorem zkh {n:Nat} (h:n≤sizeLine):Builtin.List.listTooLong n=false:=by
 unfold Builtin.List.listTooLong
 exact decide_eq_false (by lia)
end
section
variable {X:Cx}
noncomputable def zpH:V→List V→Hp→VK→Prop:=fun x vs H Q=>∃ l xs y,x=.ref l∧vs=[y]∧H l=some (.lst xs)∧xs.length < sizeLine∧Q .non (upd H l (.lst (xs ++ [y])))
theorem zh0:MtM X "list.append" zpH:=by
 intro pins s σ H x vs v us Q I rx rv h
 obtain⟨l,xs,y,rfl,rfl,hH,hz,q⟩:=h
 cases rx
 obtain⟨u,rfl,ru⟩:=rv.one
 obtain⟨z,its,n,r,hl,e⟩:=I.lstM hH
 refine call_meets F.slot_list_append ⟨_,e,rfl⟩ F.entry_list_append (F.args_list_append_2 _ _) (PySem.list_append l its.toArray n u (by rw [List.size_toArray];lia)) ⟨e,?_⟩
 refine ⟨.non,_,I.lset (its':=its ++ [u]) hH e (by simp) (r.append (.cons ru .nil)) ?_,rfl,q⟩
 rw [List.length_append,List.length_singleton]
 lia
noncomputable def zpG:V→List V→Hp→VK→Prop:=fun x vs H Q=>∃ l b xs zs,x=.ref l∧vs=[.ref b]∧H l=some (.lst xs)∧H b=some (.lst zs)∧xs.length + zs.length≤sizeLine∧Q .non (upd H l (.lst (xs ++ zs)))
theorem zmD:MtM X "list.extend" zpG:=by
 intro pins s σ H x vs v us Q I rx rv h
 obtain⟨l,b,xs,zs,rfl,rfl,hH,hB,hz,q⟩:=h
 cases rx
 obtain⟨u,rfl,ru⟩:=rv.one
 cases ru
 obtain⟨z,its,n,r,hl,e⟩:=I.lstM hH
 obtain⟨z2,its2,n2,r2,hl2,e2⟩:=I.lstM hB
 have hsz:its.toArray.size + its2.toArray.size≤sizeLine:=by rw [List.size_toArray,List.size_toArray];lia
 have hlong:¬ (!its.toArray.isEmpty && Builtin.List.listTooLong (its.toArray.size + its2.toArray.size))=true:=by
  rw [zkh hsz,Bool.and_false]
  exact Bool.false_ne_true
 refine call_meets F.slot_list_extend ⟨_,e,rfl⟩ F.entry_list_extend (F.args_list_extend_2 _ _)
  (AutoSeq1.list_extend_list_list_0 l its.toArray n b its2.toArray n2 hlong (by rw [List.size_toArray];lia) (by lia)) ⟨e,e2,?_⟩
 refine ⟨.non,_,I.lset (its':=its ++ its2) hH e (by simp) (r.append r2) ?_,rfl,q⟩
 rw [List.length_append]
 lia
def rCat:R2:=fun x y H Q=>∃ l b xs zs,x=.ref l∧y=.ref b∧H l=some (.lst xs)∧H b=some (.lst zs)∧xs.length + zs.length≤sizeLine∧∀ p,H p=none→Q (.ref p) (upd H p (.lst (xs ++ zs)))
theorem zrt:OpR X (binaryOp .Add) rCat:=by
 intro pins s σ H x y v u Q I rx ry h
 obtain⟨l,b,xs,zs,rfl,rfl,hH,hB,hz,q⟩:=h
 cases rx
 cases ry
 obtain⟨z,its,n,r,hl,e⟩:=I.lstM hH
 obtain⟨z2,its2,n2,r2,hl2,e2⟩:=I.lstM hB
 refine PySem.P.add_list e e2 ?_ (by rw [List.size_toArray,List.size_toArray];lia)
 have ea:its.toArray ++ its2.toArray=(its ++ its2).toArray:=by simp
 rw [ea]
 exact⟨.ref _,_,I.lnew (t':=s.toks) (r.append r2) (by rw [List.length_append];lia),rfl,q _ I.fresh⟩
def rRep:R2:=fun x y H Q=>∃ l k xs,x=.ref l∧y=.int k∧H l=some (.lst xs)∧-(2 ^ 63)≤k∧k < 2 ^ 63∧xs.length * k.toNat≤sizeLine ∧
 ∀ p,H p=none→Q (.ref p) (upd H p (.lst (List.replicate k.toNat xs).flatten))
theorem zp6 {α:Type} (xs:List α) (k:Nat):(List.replicate k xs).flatten.length=k * xs.length:=by
 induction k with
 | zero=>simp
 | succ k ih=>rw [List.replicate_succ,List.flatten_cons,List.length_append,ih,Nat.succ_mul,Nat.add_comm]
theorem zrq:OpR X (binaryOp .Mult) rRep:=by
 intro pins s σ H x y v u Q I rx ry h
 obtain⟨l,k,xs,rfl,rfl,hH,h1,h2,hz,q⟩:=h
 cases rx
 obtain⟨t,rfl⟩:=ry
 obtain⟨z,its,n,r,hl,e⟩:=I.lstM hH
 have hlen:its.toArray.size * k.toNat≤sizeLine:=by rw [List.size_toArray,← hl];exact hz
 have hcap:¬ its.toArray.size * k.toNat > (2 ^ 63 - 1) / 8:=by
  have:(sizeLine:Nat)≤(2 ^ 63 - 1) / 8:=by decide
  lia
 have hfit:¬ (!Builtin.List.listFitsIndex k)=true:=by
  rw [fitsIndex_both h1 h2]
  exact Bool.false_ne_true
 have hlong:¬ Builtin.List.listTooLong (its.toArray.size * k.toNat)=true:=by
  rw [zkh hlen]
  exact Bool.false_ne_true
 have hnew:List.foldl (fun x1 x2=>x1 ++ x2) #[] (List.replicate (if its.toArray.isEmpty=true then 0 else k.toNat) its.toArray)=(List.replicate k.toNat its).flatten.toArray:=by
  have f0:∀ m:Nat,List.foldl (fun x1 x2=>x1 ++ x2) #[] (List.replicate m its.toArray)=(List.replicate m its).flatten.toArray:=fun m=>by
   have:=zib its m []
   rw [List.nil_append] at this
   exact this
  rw [f0]
  cases its with
  | nil=>simp
  | cons a r'=>rw [if_neg (by simp)]
 refine wpAny_binaryOp_repeat_ref (T := "list") (U := "int") (by decide) ⟨_,e,rfl⟩ (fun s'=>typeIs_int s' k t) noFill_list_mul F.fills_int_mul F.slot_int_rmul repeat_list F.slot_int_index.lookup
  (call_meets F.slot_int_rmul (typeIs_int s k t) F.entry_int_rmul (F.args_int_rmul_2 _ _) (int___rmul___int_list k t l its.toArray n)
   ⟨e,rfl,⟨_,e,rfl⟩,call_meets F.slot_list_mul ⟨_,e,rfl⟩ F.entry_list_mul (F.args_list_mul_2 _ _) (AutoListH.list___mul___list_int_3 l its.toArray n k t hfit hcap hlong) ⟨e,?_⟩⟩)
 rw [hnew]
 exact⟨.ref _,_,I.lnew (t':=s.toks) (r.rep k.toNat) (by rw [zp6,Nat.mul_comm];exact hz),rfl,q _ I.fresh⟩
end
section
variable {prog:Program} {w:World} {A:Around} {E:Value→Shared→Prop} {s:Shared}
set_option maxRecDepth 100000 in
end
section
variable {X:Cx}
end
end L2
namespace Att
open PySem PySem.W PySem.Calls PyProof.Rows
theorem zfD {P:Params} {h:Heap}:∀ (ns:List Int) (vs:List Value),WellAll P h vs (ns.map WData.int)→IntsAre vs ns:=by
 intro ns
 induction ns with
 | nil =>
  intro vs w
  rw [List.map_nil] at w
  cases w
  exact .nil
 | cons n ns ih =>
  intro vs w
  rw [List.map_cons] at w
  cases w with
  | cons a b =>
   cases a
   exact .cons _ _ (ih _ b)
theorem zlY {l:OpenLaw} {n:Nat} (hn:l.most=some n) {P:Params} {h:Heap} {args:List WData} {vals:List Value}
  (hpre:l.row.toRowW.claim.pre args=true) (hwl:WellAll P h vals args) :
  ∃ a vs ns,vals=[Value.ref a]∧args=[WData.list (ns.map WData.int)]∧h.get? a=some { cls:=.type "list", data:=.seq vs.toArray }∧IntsAre vs ns∧ns.length≤n:=by
 have hsh:WShape.hasAll [] args [.list .int]=true:=(pre_splitW hpre).1
 have hc:l.pre.holds [] { args:=args } = true:=(pre_splitW hpre).2
 obtain⟨d,r,rfl,h1,h2⟩:=hasAllW_cons hsh
 obtain rfl:=hasAllW_nil h2
 obtain⟨xs,rfl,h3⟩:=hasW_list h1
 obtain⟨ns,rfl⟩:=items_int h3
 have hlen:ns.length≤n:=by
  unfold OpenLaw.pre at hc
  have h4:(WTm.not (.lt (.lit (.int (n:Int))) (.len (.arg 0)))).holds [] { args:=[.list (ns.map .int)] } = true:=by
   have h4:=(holds_andW hc).1
   rw [hn] at h4
   exact h4
  have h5:=condW_of h4 (w_not (w_lt w_lit (w_len_list (w_arg rfl))))
  rw [List.length_map] at h5
  refine Nat.le_of_not_lt fun q=>?_
  have q':(n:Int) < ((ns.length:Nat):Int):=by lia
  first
   | (rw [decide_eq_true q'] at h5;exact absurd h5 (by decide))
   | (simp at h5;lia)
 cases hwl with
 | cons w1 w2 =>
  cases w2
  cases w1 with
  | list ho hall=>exact⟨_,_,ns,rfl,rfl,ho,zfD ns _ hall,hlen⟩
theorem zmg (l:OpenLaw) (args:List WData):l.row.toRowW.claim.post args (.bool true) args=true:=
 postW_of (r:=l.row.toRowW) (X:=(true == true))
  (show WShape.has [] (.bool true) .bool=true by first | rfl | decide | simp [WShape.has,WShape.arms,WShape.armsAll])
  (show (WTm.eq .res (.lit (.bool true))).value [] { args:=args,res:=some (.bool true),after:=args } = some (.bool (true == true)) from w_eq_bool (w_res rfl) w_lit) rfl
theorem attach_call {l:OpenLaw} {n:Nat} {q:Program} {loose:List Str} {XP:(Str→Option Value)→Heap→Prop} {YP:World→Heap→Prop} {d:DefRec}
  (hn:l.most=some n) (hdf:d.params.defaults=[])
  (call:∀ (w:World) (s₀ s₁:Shared) (mg mb:Str→Option Value) (fa:Addr) (o:Obj) (pm cd doc:Value) (a:Addr) (vs:List Value) (ns:List Int),
   Ground q loose [] XP w s₀ mg mb s₁.heap→YP w s₁.heap →
   s₁.heap.get? fa=some o→o.data=.func (docDef d.name d.params d.body d.scope pm cd doc)→s₁.heap.CodeRec cd d.name→mg d.name=some (.ref fa) →
   s₁.heap.get? a=some { cls:=.type "list", data:=.seq vs.toArray }→IntsAre vs ns→ns.length≤n→s₁.gens = #[] →
   codeAny (model l.prog w) callerA (.call (.ref fa) ⟨[.ref a],[]⟩) (fun r s'=>r=.ok (.ret (.bool true))∧OldK s₁.heap s'.heap∧s'.os=s₁.os∧AllBare s'.gens) s₁) :
  WalkO q loose XP YP l.row.toRowW d [] (fun f vs=>PySem.call f vs):=by
 intro w s₀ s₁ mg mb G Y fa o pm cd doc dV kV ho hd hcd hD hmg hg args vals as hpre hlay hrd hwl hlo
 obtain rfl:dV=.none:=Dflts.none hD hdf
 obtain rfl:kV=.none:=Dflts.noKw hD
 obtain⟨a,vs,ns,rfl,rfl,hobj,hints,hlen⟩:=zlY hn hpre hwl
 refine enter_call (codeAny_mono (call w s₀ s₁ mg mb fa o pm cd doc a vs ns G Y ho (fd_plain hd) hcd hmg hobj hints hlen hg) fun r s' hq=>?_)
 obtain⟨rfl,h2,h3,h4⟩:=hq
 exact⟨.inl ⟨.bool true,.bool true,[],rfl,fun _=>rfl,.bool true,zmg l _,fun _=>⟨List.Pairwise.nil,fun _ hm=>(nomatch hm)⟩⟩,h2,h3,h4⟩
section
variable {prog:Program} {w:World} {A:Around} {E:Value→Shared→Prop} {s:Shared} {K:Frag}
end
end Att
namespace L2
open PySem PySem.Spec PyProof.Rows
theorem zfo:∀ {vs:List Value} {ns:List Int},IntsAre vs ns→Vals (ns.map V.int) vs
 | _,_,.nil=>.nil
 | _,_,.cons n t h=>.cons ⟨t,rfl⟩ (zfo h)
def Only (H:Hp):Prop:=∀ b,H b=none∨∃ o xs,H b=some (.frz o (.lst xs))
theorem zob {P:Program} {w:World} {K:PySem.W.Frag} {mg mb:Str→Option Value} {CX:CXT} {k:Nat} {fa a:Addr} {fd:FuncData} {x:Str} {sp:Sp} {s₁:Shared} {vs:List Value} {ns:List Int}
  (KX:K.In s₁.heap) (hns:s₁.heap.Ns mainGlobals mg) (hb:s₁.heap.Ns builtinsNs mb) (hbb:∀ x:Str,x ≠ "__name__" → mb x=bootBuiltins x) (hlim:s₁.heap.NoLimit) (hg:s₁.gens = #[])
  (ha:s₁.heap.get? a=some { cls:=.type "list", data:=.seq vs.toArray }) (hi:IntsAre vs ns) (hl:ns.length≤sizeLine) (hr:Room k callerA)
  (F:∀ base:Heap,K.In base→base.Ns mainGlobals mg→FnOk P w K mg base CX k fa fd [x] sp) (hbind:∀ (s:Shared) (u:Value),BindsTo s fd ⟨[u],[]⟩ [(x,u)])
  (hsp:∀ H:Hp,Only H→SqL K H a (ns.map V.int)→sp [.ref a] H (fun v _=>v=.bl true) fun _ _ _=>False)
  (hCX:∀ H e s',CX [] H s₁ (fun _ _ _=>False) e s'→False) :
  codeAny (model P w) callerA (.call (.ref fa) ⟨[.ref a],[]⟩) (fun r s'=>r=.ok (.ret (.bool true))∧OldK s₁.heap s'.heap∧s'.os=s₁.os∧AllBare s'.gens) s₁:=by
 have rv:=zfo hi
 have lenV:=hi.length
 have core:∀ H:Hp,Only H→SqL K H a (ns.map V.int)→HOk P w H s₁.heap→(∀ b,H b≠none→b=a)→(H a≠none→K.lookup a=none) →
   codeAny (model P w) callerA (.call (.ref fa) ⟨[.ref a],[]⟩) (fun r s'=>r=.ok (.ret (.bool true))∧OldK s₁.heap s'.heap∧s'.os=s₁.os∧AllBare s'.gens) s₁:=by
  intro H hO hS hok hA hK
  have base_of:∀ {b:Addr} {o:Obj},s₁.heap.get? b=some o→H b=none→(hidT s₁.heap H).get? b=some o:=fun e n=>zoi e n
  have noA:∀ {b:Addr} {o:Obj} {es:Array DictEntry} {ep:Nat},s₁.heap.get? b=some o→o.data=.dict es ep→H b=none:=fun {b o es ep} e d=>by
   cases q:H b with
   | none=>rfl
   | some u =>
    have e':b=a:=hA b (by rw [q];simp)
    subst e'
    rw [ha] at e;cases e
    have d':Data.seq vs.toArray _=Data.dict es ep:=d
    cases d'
  have nsK:∀ {b:Addr} {m:Str→Option Value},s₁.heap.Ns b m→(hidT s₁.heap H).Ns b m:=fun {b m} ⟨o,es,ep,e,d,r⟩=>⟨o,es,ep,base_of e (noA e d),d,r⟩
  have hKb:K.In (hidT s₁.heap H):=fun b o e=>base_of (KX b o e) (by
   cases q:H b with
   | none=>rfl
   | some u =>
    have e':b=a:=hA b (by rw [q];simp)
    subst e'
    rw [hK (by rw [q];simp)] at e;cases e)
  have hM:Mod K mg (hidT s₁.heap H):=⟨hKb,nsK hns,⟨mb,nsK hb,hbb⟩,let ⟨mc,h1,h2⟩:=hlim;⟨mc,nsK h1,h2⟩⟩
  have e0:Env0 P w K mg (hidT s₁.heap H) callerA [] s₁ H:=⟨rfl,hM,fun b o e=>zpT e,Nat.le_of_eq (zm9 _ _),trivial,fun b hb=>absurd (show b∈([]:List Addr) from hb) (by simp),hok,.of_eq hg⟩
  refine codeAny_mono ((F _ hKb (nsK hns)).run callerA [] s₁ H ⟨[.ref a],[]⟩ [.ref a] [.ref a] _ _ hr e0 (hbind s₁ (.ref a)) (.cons rfl .nil) (hsp H hO hS)) fun r s' h=>?_
  cases r with
  | error e=>exact (hCX H e s' h).elim
  | ok fl =>
   cases fl with
   | next=>exact False.elim h
   | brk=>exact False.elim h
   | cont=>exact False.elim h
   | ret u =>
    obtain⟨v,H',os,bare,un,hok',r',q⟩:=h
    have q':v=.bl true:=q
    subst q'
    obtain rfl:u=Value.bool true:=r'
    refine ⟨rfl,OldK.of_keep fun b o e=>?_,os,bare⟩
    cases q:H b with
    | none=>exact un.keep b o e q (by intro z;exact absurd (show b∈([]:List Addr) from z) (by simp)) (by simp)
    | some u =>
     rcases hO b with z | ⟨ob,xs,z⟩
     ·rw [q] at z;cases z
     ·have z2:=un.frzs b ob _ z
      obtain⟨e1,_⟩:=hok b _ z
      obtain⟨e2,_⟩:=hok' b _ z2
      rw [e] at e1;cases e1
      exact e2
 cases hk:K.lookup a with
 | some o =>
  have e:=KX a o hk
  rw [ha] at e
  cases e
  refine core (fun _=>none) (fun _=>.inl rfl) (.inr ⟨_,vs.toArray,_,hk,rfl,rfl,rfl,by rw [List.size_toArray,lenV];exact hl,by simpa using rv⟩) (fun b u z=>by have z':(none:Option HO)=some u:=z;cases z') (fun b z=>absurd rfl z) fun z=>absurd rfl z
 | none =>
  refine core (fun b=>if b=a then some (.frz { cls:=.type "list", data:=.seq vs.toArray } (.lst (ns.map V.int))) else none) (fun b=>?_) (.inl (.inr ⟨{ cls:=.type "list", data:=.seq vs.toArray },if_pos rfl⟩)) (fun b u z=>?_) (fun b z=>?_) fun _=>hk
  ·by_cases hb:b=a
   ·exact .inr ⟨_,_,if_pos hb⟩
   ·exact .inl (if_neg hb)
  ·by_cases hb:b=a
   ·have z':=(if_pos hb).symm.trans z
    cases z'
    subst hb
    exact⟨ha,by rw [List.length_map];exact hl,vs,_,rv,ha⟩
   ·have z':=(if_neg hb).symm.trans z
    cases z'
  ·by_cases hb:b=a
   ·exact hb
   ·exact absurd (if_neg hb) z
end L2
namespace L2
open PySem PySem.Spec PyProof.Rows
noncomputable abbrev KOf {K:PySem.W.Frag} {h:Heap} (_:K.In h):PySem.W.Frag:=K
theorem walk_of {l:PySem.W.OpenLaw} {n k:Nat} {q:Program} {loose:List Str} {XP:(Str→Option Value)→Heap→Prop} {YP:World→Heap→Prop} {d:DefRec} {K:Params→PySem.W.Frag} {CX:World→CXT} {sp:World→Sp} {x:Str}
  (hn:l.most=some n) (hn2:n≤sizeLine) (hdf:d.params.defaults=[]) (hr:Room k callerA)
  (hY:∀ (w:World) (h:Heap),YP w h→(K w.params).In h)
  (F:∀ (w:World) (mg:Str→Option Value) (fa:Addr) (h:Heap),(K w.params).In h→h.Ns mainGlobals mg→mg d.name=some (.ref fa) →
   ∃ fd:FuncData,(∀ (s:Shared) (u:Value),BindsTo s fd ⟨[u],[]⟩ [(x,u)]) ∧
    ∀ base:Heap,(K w.params).In base→base.Ns mainGlobals mg→FnOk l.prog w (K w.params) mg base (CX w) k fa fd [x] (sp w))
  (hsp:∀ (w:World) (H:Hp) (a:Addr) (ns:List Int),ns.length≤n→Only H→SqL (K w.params) H a (ns.map V.int)→sp w [.ref a] H (fun v _=>v=.bl true) fun _ _ _=>False)
  (hCX:∀ (w:World) (H:Hp) (s:Shared) (e:Value) (s':Shared),CX w [] H s (fun _ _ _=>False) e s'→False) :
  PySem.W.WalkO q loose XP YP l.row.toRowW d [] (fun f vs=>PySem.call f vs):=by
 refine Att.attach_call hn hdf fun w s₀ s₁ mg mb fa o pm cd doc a vs ns G Y ho hd hcd hmg hobj hints hlen hg=>?_
 have KX:=hY w _ Y
 obtain⟨fd,hb,hF⟩:=F w mg fa _ KX G.T.g hmg
 exact zob KX G.T.g G.T.b G.T.builtins G.T.nolimit hg hobj hints (Nat.le_trans hlen hn2) hr hF hb (fun H hO hS=>hsp w H a ns hlen hO hS) fun H e s'=>hCX w H s₁ e s'
end L2
namespace L2
open PySem PySem.Spec PyProof.Rows
noncomputable def defArgs (s:Stmt):Arguments:=match s with
 | .FunctionDef _ a _ _ _ _ _ _ _ _=>a
 | _=>{ posonlyargs:=[],args:=[],vararg:=none,kwonlyargs:=[],kw_defaults:=[],kwarg:=none,defaults:=[] }
noncomputable def defBody (s:Stmt):List Stmt:=match s with
 | .FunctionDef _ _ b _ _ _ _ _ _ _=>b
 | _=>[]
noncomputable def defScope (s:Stmt):Scope:=match s with
 | .FunctionDef _ _ _ _ _ _ sc _ _ _=>sc
 | _=>{ kind:=.function,names:=[],isGenerator:=false,isCoroutine:=false }
structure Fun (K:PySem.W.Frag) (x qual:Str) (st:Stmt) (f:Addr) (fd:FuncData):Prop where
 ex:∃ (oc:Value) (od:Option Addr) (kV doc pm:Value) (an:Option Addr) (cdv ct:Value) (osl:Array (Option Value)),
  fd=PySem.W.fnOf x qual (defArgs st) (defBody st) (defScope st) .none kV doc pm an cdv ct∧K.lookup f=some ⟨oc,od,.func fd,osl⟩∧PySem.W.codeIn K cdv qual=true
 kp:PySem.W.keepIn K (.ref f)=true
section
variable {P:Program} {w:World} {K:PySem.W.Frag} {mg:Str→Option Value} {base:Heap}
theorem Fun.binds {x qual:Str} {st:Stmt} {f:Addr} {fd:FuncData} {ps:List Str} (F:Fun K x qual st f fd)
  (h:∀ (kV doc pm:Value) (an:Option Addr) (cdv ct:Value) (us:List Value),us.length=ps.length→bindArgs (PySem.W.fnOf x qual (defArgs st) (defBody st) (defScope st) .none kV doc pm an cdv ct) ⟨us,[]⟩=pure (ps.zip us)):zbg K fd ps []:=by
 obtain⟨oc,od,kV,doc,pm,an,cdv,ct,osl,rfl,lk,hcd⟩:=F.ex
 exact .all (h kV doc pm an cdv ct)
theorem zaX {x qual:Str} {st:Stmt} {f:Addr} {oc:Value} {od an:Option Addr} {osl:Array (Option Value)} {kV doc pm cdv ct:Value} (l:K.lookup f=some ⟨oc,od,.func (PySem.W.fnOf x qual (defArgs st) (defBody st) (defScope st) .none kV doc pm an cdv ct),osl⟩)
  (c:PySem.W.codeIn K cdv qual=true) (k:PySem.W.keepIn K (.ref f)=true):Fun K x qual st f (PySem.W.fnOf x qual (defArgs st) (defBody st) (defScope st) .none kV doc pm an cdv ct):=⟨⟨oc,od,kV,doc,pm,an,cdv,ct,osl,rfl,l,c⟩,k⟩
end
theorem zlU {n:Nat} (h:n≤1000):n < sizeLine:=Nat.lt_of_le_of_lt h (by decide)
section
variable {X:Cx}
theorem pv (i:Nat) {x:Str} {pos:Pos} (hN:X.N[i]? = some x:=by rfl) (hv:Vis X.env.scope x:=by first | exact Or.inl rfl | exact Or.inr (Or.inl rfl) | exact Or.inr (Or.inr rfl)) (hd:(x == ("__debug__" : Str))=false:=by decide)
  (hcd:(x == ("__classdict__" : Str))=false:=by decide):PE X (.Name x pos) (tVar i):=zrk hN hv hd hcd
end
def Same (H H':Hp):Prop:=∀ b o,H b=some o→H' b=some o
theorem Same.refl (H:Hp):Same H H:=fun _ _ h=>h
theorem Same.trans {H H1 H2:Hp} (a:Same H H1) (b:Same H1 H2):Same H H2:=fun c o h=>b c o (a c o h)
theorem Same.free {H H':Hp} (e:Same H H') {l:Addr} (h:H' l=Option.none):H l=Option.none:=by
 cases q:H l with
 | none=>rfl
 | some o =>
  rw [e l o q] at h
  cases h
end L2
namespace Srt
open PySem PyProof.Rows
section
variable {σ:Type} {M:Model} {A:Around} {E:Value→Shared→Prop} {s:Shared} {α:Type}
theorem zap {c:Prop} {d:Decidable c} {m n:StateT σ Sem α} {Q:α→σ→Prop} {st:σ} (h:c) (k:wpS M A E s m Q st):wpS M A E s (@ite _ c d m n) Q st:=by rw [if_pos h];exact k
theorem zan {c:Prop} {d:Decidable c} {m n:StateT σ Sem α} {Q:α→σ→Prop} {st:σ} (h:¬c) (k:wpS M A E s n Q st):wpS M A E s (@ite _ c d m n) Q st:=by rw [if_neg h];exact k
end
class SK where
 rk:Keyed→Int
 dom:Keyed→Prop
noncomputable abbrev key [SK] (p:Keyed):Int:=SK.rk p
def IntK [SK] (p:Keyed):Prop:=SK.dom p
class SKL (prog:Program) (w:World) (A:Around) (E:Value→Shared→Prop) (s:Shared) [SK]:Prop where
 lt:∀ {st:SortSt} {x y:Keyed} {Q:Option Bool→SortSt→Prop},kindOf st=oneType'→IntK x→IntK y→Q (some (decide (key x < key y))) st→wpS (model prog w) A E s (lt' x y) Q st
noncomputable def K [SK] (xs:Array Keyed) (i:Nat):Int:=match xs[i]? with
 | some p=>key p
 | none=>0
def zbU [SK] (xs:Array Keyed):Prop:=∀ p∈xs.toList,IntK p
def SortedTo [SK] (xs:Array Keyed) (k:Nat):Prop:=∀ i j,i≤j→j < k→K xs i≤K xs j
variable [SK]
theorem zeR {xs ys:Array Keyed} {i j:Nat} (h:xs[i]? = ys[j]?):K xs i=K ys j:=by unfold K;rw [h]
theorem zoK {xs:Array Keyed} {a d:Nat} (hs:a < xs.size) (hd:d≤a) (k:Nat):K (bubble xs a d) k=if k=a - d then K xs a else if a - d < k∧k≤a then K xs (k - 1) else K xs k:=by
 have e:=getElem?_bubble hs d hd k
 by_cases h1:k=a - d
 ·rw [if_pos h1] at e ⊢;exact zeR e
 ·rw [if_neg h1] at e ⊢
  by_cases h2:a - d < k∧k≤a
  ·rw [if_pos h2] at e ⊢;exact zeR e
  ·rw [if_neg h2] at e ⊢;exact zeR e
theorem zeC {xs:Array Keyed} {i j:Nat} (hj:j≤xs.size) (k:Nat):K (mirror xs i j ((j - i) / 2)) k=if i≤k∧k < j then K xs (i + j - 1 - k) else K xs k:=by
 have e:=getElem?_mirror_all (i:=i) hj k
 by_cases h1:i≤k∧k < j
 ·rw [if_pos h1] at e ⊢;exact zeR e
 ·rw [if_neg h1] at e ⊢;exact zeR e
theorem zk1 {xs:Array Keyed} {a b:Nat} (hb:b≤xs.size) (e:∀ k,a≤k→k < b→K xs k=K xs (b - 1)):∀ k,K (mirror xs a b ((b - a) / 2)) k=K xs k:=fun k=>by
 by_cases h:a≤k∧k < b
 ·rw [zeC hb,if_pos h,e _ (by lia) (by lia),e k h.1 h.2]
 ·rw [zeC hb,if_neg h]
noncomputable def zdU:Bool→Keyed→Array Keyed→Nat→Nat→Nat→StateT SortSt Sem (Option Nat):=sortPriv% PySem.Builtin.gallop
section
variable {prog:Program} {w:World} {A:Around} {E:Value→Shared→Prop} {s:Shared} [SKL prog w A E s]
theorem zhx {st:SortSt} {x y:Keyed} {Q:Option Bool→SortSt→Prop} (hk:kindOf st=oneType') (hx:IntK x) (hy:IntK y) (h:Q (some (decide (key x < key y))) st) :
  wpS (model prog w) A E s (lt' x y) Q st:=SKL.lt hk hx hy h
theorem zay {st:SortSt} {arr:Array Keyed} {i:Nat} {p:Keyed} {Q:Keyed→SortSt→Prop} (h1:arr[i]? = some p) (h:Q p st):wpS (model prog w) A E s (elem' arr i) Q st:=by
 rw [elem'_eq,h1]
 exact wpS_pure h
noncomputable def ask (left:Bool) (k:Keyed) (arr:Array Keyed) (base i:Nat):Bool:=match arr[base + i]? with
 | some p=>if left then decide (key p < key k) else !decide (key k < key p)
 | none=>false
theorem zgg {left:Bool} {k:Keyed} {arr:Array Keyed} {base n hint:Nat} {st:SortSt} {Q:Option Nat→SortSt→Prop} (hk:kindOf st=oneType') (hkey:IntK k)
  (harr:∀ i,i < n→∃ p,arr[base + i]? = some p∧IntK p) (hn:hint < n) (mono:∀ i j,i≤j→j < n→ask left k arr base j=true→ask left k arr base i=true)
  (h:∀ m,m≤n→(∀ i,i < m→ask left k arr base i=true)→(∀ i,m≤i→i < n→ask left k arr base i=false)→Q (some m) st) :
  wpS (model prog w) A E s (zdU left k arr base n hint) Q st:=by
 have one:∀ (i:Nat) (R:Option Bool→SortSt→Prop),i < n→R (some (ask left k arr base i)) st→wpS (model prog w) A E s (do
   let x ← elem' arr (base + i)
   if left=true then lt' x k else do
    let r ← lt' k x
    pure (Option.map (fun x=>!x) r)) R st:=by
  intro i R hi hR
  obtain⟨p,e,hp⟩:=harr i hi
  refine wpS_bind (zay e ?_)
  unfold ask at hR
  rw [e] at hR
  cases left with
  | true=>exact zhx hk hp hkey hR
  | false=>exact wpS_bind (zhx hk hkey hp (wpS_pure hR))
 have half:∀ (lo hi:Nat),lo≤hi→hi≤n→(∀ i,i < lo→ask left k arr base i=true)→(∀ i,hi≤i→i < n→ask left k arr base i=false) →
   wpS (model prog w) A E s (forIn [:n] ((none,lo,hi):Option (Option Nat)×Nat×Nat) fun _ c =>
    if c.2.1≥c.2.2 then pure (ForInStep.done (none,c.2.1,c.2.2)) else do
     let r ← (do
      let x ← elem' arr (base + (c.2.1 + (c.2.2 - c.2.1) / 2))
      if left=true then lt' x k else do
       let r ← lt' k x
       pure (Option.map (fun x=>!x) r))
     match r with
     | some more=>if more=true then pure (ForInStep.yield (none,c.2.1 + (c.2.2 - c.2.1) / 2 + 1,c.2.2)) else pure (ForInStep.yield (none,c.2.1,c.2.1 + (c.2.2 - c.2.1) / 2))
     | _=>pure (ForInStep.done (some none,c.2.1,c.2.2)))
    (fun c st'=>st'=st∧c.1=none∧c.2.2≤n∧(∀ i,i < c.2.2→ask left k arr base i=true)∧(∀ i,c.2.2≤i→i < n→ask left k arr base i=false)) st:=by
  intro lo hi h1 h2 h3 h4
  refine wpS_forRange (I:=fun x c st'=>st'=st∧c.1=none∧c.2.1≤c.2.2∧c.2.2≤n∧c.2.2 - c.2.1≤n - x∧(∀ i,i < c.2.1→ask left k arr base i=true)∧(∀ i,c.2.2≤i→i < n→ask left k arr base i=false)) ?step ?fin ⟨rfl,rfl,h1,h2,by show hi - lo≤n - 0;lia,h3,h4⟩
  case fin =>
   rintro ⟨r,l,u⟩ st' ⟨rfl,e,h1,h2,h3,h4,h5⟩
   dsimp only at *
   have:l=u:=by lia
   subst this
   exact⟨rfl,e,h2,h4,h5⟩
  case step =>
   rintro x ⟨r,l,u⟩ st' _ hx ⟨rfl,e,h1,h2,h3,h4,h5⟩
   dsimp only at *
   subst e
   by_cases hge:l≥u
   ·refine zap hge ?_
    have:l=u:=by lia
    subst this
    exact wpS_pure ⟨rfl,rfl,h2,h4,h5⟩
   ·refine zan hge ?_
    have hm:l + (u - l) / 2 < n:=by lia
    refine wpS_bind (one _ _ hm ?_)
    cases e:ask left k arr base (l + (u - l) / 2) with
    | true =>
     dsimp only
     refine zap rfl ?_
     exact wpS_pure ⟨rfl,rfl,(by dsimp only;lia),h2,(by dsimp only;lia),fun i hi=>mono i _ (by dsimp only at hi;lia) hm e,h5⟩
    | false =>
     dsimp only
     refine zan (by simp) ?_
     refine wpS_pure ⟨rfl,rfl,(by dsimp only;lia),(by dsimp only;lia),(by dsimp only;lia),h4,fun i h6 h7=>?_⟩
     cases e':ask left k arr base i with
     | false=>rfl
     | true=>rw [mono _ i h6 h7 e'] at e;cases e
 refine wpS_bind (one hint _ hn ?_)
 cases e0:ask left k arr base hint with
 | true =>
  dsimp only
  refine zap rfl ?_
  refine wpS_bind (wpS_mono (wpS_forRange (a:=0) (b:=n) (I:=fun x c st'=>st'=st∧c.1=none∧c.2.1 < c.2.2∧x + 1≤c.2.2∧hint + c.2.1 < n∧ask left k arr base (hint + c.2.1)=true)
   (Q:=fun c st'=>st'=st∧c.1=none∧c.2.1 < c.2.2∧hint + c.2.1 < n∧ask left k arr base (hint + c.2.1)=true∧(n - hint≤c.2.2∨(c.2.2 < n - hint∧ask left k arr base (hint + c.2.2)=false))) ?step ?fin ?init) ?post)
  case init=>exact⟨rfl,rfl,by decide,by decide,by simpa using hn,by simpa using e0⟩
  case fin =>
   rintro ⟨r,l,u⟩ st' ⟨rfl,e,h1,h2,h3,h4⟩
   dsimp only at *
   exact⟨rfl,e,h1,h3,h4,.inl (by lia)⟩
  case step =>
   rintro x ⟨r,l,u⟩ st' _ hx ⟨rfl,e,h1,h2,h3,h4⟩
   dsimp only at *
   subst e
   by_cases hge:u≥n - hint
   ·refine zap hge ?_
    exact wpS_pure ⟨rfl,rfl,h1,h3,h4,.inl hge⟩
   ·refine zan hge ?_
    refine wpS_bind (one _ _ (by lia) ?_)
    cases e:ask left k arr base (hint + u) with
    | true =>
     dsimp only
     refine zan (by simp) ?_
     exact wpS_pure ⟨rfl,rfl,by show u < 2 * u + 1;lia,by show x + 1 + 1≤2 * u + 1;lia,by show hint + u < n;lia,e⟩
    | false =>
     dsimp only
     refine zap (by simp) ?_
     exact wpS_pure ⟨rfl,rfl,h1,h3,h4,.inr ⟨(by dsimp only;lia),e⟩⟩
  case post =>
   rintro ⟨r,l,u⟩ st' ⟨rfl,e,h1,h3,h4,h5⟩
   dsimp only at *
   subst e
   dsimp only
   refine wpS_bind (wpS_mono (half (hint + l + 1) (hint + min u (n - hint)) (by lia) (by lia) (fun i hi=>mono i _ (by lia) h3 h4) fun i h6 h7=>?_) ?_)
   ·rcases h5 with h5 | ⟨h5,h8⟩
    ·lia
    ·cases e':ask left k arr base i with
     | false=>rfl
     | true=>rw [mono _ i (by lia) h7 e'] at h8;cases h8
   ·rintro ⟨r,l',u'⟩ st' ⟨rfl,e,h1,h2,h3⟩
    dsimp only at *
    subst e
    exact wpS_pure (h _ h1 h2 h3)
 | false =>
  dsimp only
  refine zan (by simp) ?_
  refine wpS_bind (wpS_mono (wpS_forRange (a:=0) (b:=n) (I:=fun x c st'=>st'=st∧c.1=none∧c.2.1 < c.2.2∧x + 1≤c.2.2∧c.2.1≤hint∧ask left k arr base (hint - c.2.1)=false)
   (Q:=fun c st'=>st'=st∧c.1=none∧c.2.1 < c.2.2∧c.2.1≤hint∧ask left k arr base (hint - c.2.1)=false∧(hint + 1≤c.2.2∨(c.2.2 < hint + 1∧ask left k arr base (hint - c.2.2)=true))) ?step ?fin ?init) ?post)
  case init=>exact⟨rfl,rfl,by decide,by decide,by simp,by simpa using e0⟩
  case fin =>
   rintro ⟨r,l,u⟩ st' ⟨rfl,e,h1,h2,h3,h4⟩
   dsimp only at *
   exact⟨rfl,e,h1,h3,h4,.inl (by lia)⟩
  case step =>
   rintro x ⟨r,l,u⟩ st' _ hx ⟨rfl,e,h1,h2,h3,h4⟩
   dsimp only at *
   subst e
   by_cases hge:u≥hint + 1
   ·refine zap hge ?_
    exact wpS_pure ⟨rfl,rfl,h1,h3,h4,.inl hge⟩
   ·refine zan hge ?_
    refine wpS_bind (one _ _ (by lia) ?_)
    cases e:ask left k arr base (hint - u) with
    | true =>
     dsimp only
     refine zap rfl ?_
     exact wpS_pure ⟨rfl,rfl,h1,h3,h4,.inr ⟨(by dsimp only;lia),e⟩⟩
    | false =>
     dsimp only
     refine zan (by simp) ?_
     exact wpS_pure ⟨rfl,rfl,by show u < 2 * u + 1;lia,by show x + 1 + 1≤2 * u + 1;lia,by show u≤hint;lia,e⟩
  case post =>
   rintro ⟨r,l,u⟩ st' ⟨rfl,e,h1,h3,h4,h5⟩
   dsimp only at *
   subst e
   dsimp only
   refine wpS_bind (wpS_mono (half (hint + 1 - min u (hint + 1)) (hint - l) (by lia) (by lia) (fun i hi=>?_) fun i h6 h7=>?_) ?_)
   ·rcases h5 with h5 | ⟨h5,h8⟩
    ·lia
    ·exact mono i _ (by lia) (by lia) h8
   ·cases e':ask left k arr base i with
    | false=>rfl
    | true=>rw [mono _ i h6 h7 e'] at h4;cases h4
   ·rintro ⟨r,l',u'⟩ st' ⟨rfl,e,h1,h2,h3⟩
    dsimp only at *
    subst e
    exact wpS_pure (h _ h1 h2 h3)
end
end Srt
namespace Srt
open PySem PyProof.Rows
variable [SK]
def Sr (l:List Keyed):Prop:=l.Pairwise fun x y=>key x≤key y
theorem Sr.drop {l:List Keyed} (h:Sr l) (n:Nat):Sr (l.drop n):=List.Pairwise.sublist (List.drop_sublist _ _) h
theorem Sr.take {l:List Keyed} (h:Sr l) (n:Nat):Sr (l.take n):=List.Pairwise.sublist (List.take_sublist _ _) h
theorem Sr.cut {l:List Keyed} (h:Sr l) (n:Nat):∀ x∈l.take n,∀ y∈l.drop n,key x≤key y:=by
 have h':Sr (l.take n ++ l.drop n):=by rw [List.take_append_drop];exact h
 exact (List.pairwise_append.mp h').2.2
theorem Sr.get {l:List Keyed} (h:Sr l) {i j:Nat} {x y:Keyed} (hij:i≤j) (hx:l[i]? = some x) (hy:l[j]? = some y):key x≤key y:=by
 obtain⟨h1,e1⟩:=List.getElem?_eq_some_iff.mp hx
 obtain⟨h2,e2⟩:=List.getElem?_eq_some_iff.mp hy
 by_cases e:i=j
 ·subst e;rw [← e1,← e2];exact Int.le_refl _
 ·rw [← e1,← e2];exact List.pairwise_iff_getElem.mp h i j h1 h2 (by lia)
structure MI (A B out:List Keyed) (ia ib:Nat):Prop where
 perm:out.Perm (A.take ia ++ B.take ib)
 sor:Sr out
 leA:∀ x∈out,∀ y∈A.drop ia,key x≤key y
 leB:∀ x∈out,∀ y∈B.drop ib,key x≤key y
section
variable {A B out:List Keyed} {ia ib:Nat}
theorem MI.manyB (h:MI A B out ia ib) (sB:Sr B) (k:Nat) (le:∀ x∈(B.drop ib).take k,∀ y∈A.drop ia,key x≤key y):MI A B (out ++ (B.drop ib).take k) ia (ib + k):=by
 refine ⟨?_,List.pairwise_append.mpr ⟨h.sor,(sB.drop ib).take k,fun x hx y hy=>h.leB x hx y (List.mem_of_mem_take hy)⟩,fun x hx y hy=>?_,fun x hx y hy=>?_⟩
 ·rw [List.take_add,← List.append_assoc]
  exact h.perm.append_right _
 ·rcases List.mem_append.mp hx with hx | hx
  ·exact h.leA x hx y hy
  ·exact le x hx y hy
 ·rw [← List.drop_drop] at hy
  rcases List.mem_append.mp hx with hx | hx
  ·exact h.leB x hx y (List.mem_of_mem_drop hy)
  ·exact (sB.drop ib).cut k x hx y hy
theorem MI.manyA (h:MI A B out ia ib) (sA:Sr A) (k:Nat) (le:∀ x∈(A.drop ia).take k,∀ y∈B.drop ib,key x≤key y):MI A B (out ++ (A.drop ia).take k) (ia + k) ib:=by
 refine ⟨?_,List.pairwise_append.mpr ⟨h.sor,(sA.drop ia).take k,fun x hx y hy=>h.leA x hx y (List.mem_of_mem_take hy)⟩,fun x hx y hy=>?_,fun x hx y hy=>?_⟩
 ·rw [List.take_add]
  refine (h.perm.append_right _).trans ?_
  rw [List.append_assoc,List.append_assoc]
  exact List.perm_append_comm.append_left _
 ·rw [← List.drop_drop] at hy
  rcases List.mem_append.mp hx with hx | hx
  ·exact h.leA x hx y (List.mem_of_mem_drop hy)
  ·exact (sA.drop ia).cut k x hx y hy
 ·rcases List.mem_append.mp hx with hx | hx
  ·exact h.leB x hx y hy
  ·exact le x hx y hy
theorem zbE {l:List Keyed} {i:Nat} {q:Keyed} (e:l[i]? = some q):(l.drop i).take 1=[q]:=by
 obtain⟨h1,e1⟩:=List.getElem?_eq_some_iff.mp e
 rw [List.drop_eq_getElem_cons h1,e1]
 rfl
theorem zcV {l:List Keyed} {i:Nat} {y:Keyed} (h:y∈l.drop i):∃ j,i≤j∧l[j]? = some y:=by
 obtain⟨j,hj⟩:=List.getElem?_of_mem h
 rw [List.getElem?_drop] at hj
 exact⟨i + j,Nat.le_add_right _ _,hj⟩
theorem zaS {l:List Keyed} {i k:Nat} {y:Keyed} (h:y∈(l.drop i).take k):∃ j,j < k∧l[i + j]? = some y:=by
 obtain⟨j,hj⟩:=List.getElem?_of_mem h
 rw [List.getElem?_take] at hj
 split at hj
 ·rename_i hlt
  rw [List.getElem?_drop] at hj
  exact⟨j,hlt,hj⟩
 ·cases hj
def Good (A B M:List Keyed):Prop:=M.Perm (A ++ B)∧Sr M
theorem MI.endAB (h:MI A B out ia ib) (sA:Sr A) (sB:Sr B) (le:∀ x∈A.drop ia,∀ y∈B.drop ib,key x≤key y):Good A B (out ++ A.drop ia ++ B.drop ib):=by
 refine ⟨?_,List.pairwise_append.mpr ⟨List.pairwise_append.mpr ⟨h.sor,sA.drop _,h.leA⟩,sB.drop _,fun x hx y hy=>?_⟩⟩
 ·refine ((h.perm.append_right _).append_right _).trans ?_
  have e:A ++ B=(A.take ia ++ A.drop ia) ++ (B.take ib ++ B.drop ib):=by rw [List.take_append_drop,List.take_append_drop]
  rw [e]
  simp only [List.append_assoc]
  refine List.Perm.append_left _ ?_
  rw [← List.append_assoc,← List.append_assoc]
  exact List.Perm.append_right _ List.perm_append_comm
 ·rcases List.mem_append.mp hx with hx | hx
  ·exact h.leB x hx y hy
  ·exact le x hx y hy
theorem MI.endBA (h:MI A B out ia ib) (sA:Sr A) (sB:Sr B) (le:∀ x∈B.drop ib,∀ y∈A.drop ia,key x≤key y):Good A B (out ++ B.drop ib ++ A.drop ia):=by
 refine ⟨?_,List.pairwise_append.mpr ⟨List.pairwise_append.mpr ⟨h.sor,sB.drop _,h.leB⟩,sA.drop _,fun x hx y hy=>?_⟩⟩
 ·refine ((h.perm.append_right _).append_right _).trans ?_
  have e:A ++ B=(A.take ia ++ A.drop ia) ++ (B.take ib ++ B.drop ib):=by rw [List.take_append_drop,List.take_append_drop]
  rw [e]
  simp only [List.append_assoc]
  refine List.Perm.append_left _ ?_
  rw [← List.append_assoc]
  exact List.perm_append_comm
 ·rcases List.mem_append.mp hx with hx | hx
  ·exact h.leA x hx y hy
  ·exact le x hx y hy
end
structure SameG (st st':SortSt):Prop where
 kind:kindOf st'=kindOf st
 arr:arrOf st'=arrOf st
 pend:pendingOf st'=pendingOf st
 failed:failedOf st'=failedOf st
theorem SameG.refl (st:SortSt):SameG st st:=⟨rfl,rfl,rfl,rfl⟩
theorem SameG.set {st st':SortSt} (h:SameG st st') (g:Nat):SameG st (SortSt.mk' (kindOf st') (arrOf st') (pendingOf st') g (failedOf st')):=⟨h.kind,h.arr,h.pend,h.failed⟩
theorem zaP {a:Array Keyed} {i:Nat} (h:i < a.size):∃ q,a[i]? = some q∧a.toList[i]? = some q:=⟨a[i],by simp [h],by simp [h]⟩
theorem zbY {a:Array Keyed} {i:Nat} {q:Keyed} (h:a[i]? = some q):a.toList[i]? = some q:=by rw [Array.getElem?_toList];exact h
noncomputable def zn5:Array Keyed→Array Keyed→StateT SortSt Sem (Array Keyed):=sortPriv% PySem.Builtin.mergeLo
noncomputable def zn6:Array Keyed→Array Keyed→StateT SortSt Sem (Array Keyed):=sortPriv% PySem.Builtin.mergeHi
theorem zoA {a:Array Keyed} (sa:Sr a.toList) (left:Bool) (k:Keyed) (base n:Nat) (hn:base + n≤a.size):∀ i j,i≤j→j < n→ask left k a base j=true→ask left k a base i=true:=by
 intro i j hij hj h
 obtain⟨p,e1,e2⟩:=zaP (a:=a) (i:=base + i) (by lia)
 obtain⟨q,e3,e4⟩:=zaP (a:=a) (i:=base + j) (by lia)
 have hle:=sa.get (by lia) e2 e4
 unfold ask at h ⊢
 rw [e1]
 rw [e3] at h
 cases left with
 | true =>
  simp only [if_true,decide_eq_true_eq] at h ⊢
  lia
 | false =>
  simp only [Bool.false_eq_true,if_false,Bool.not_eq_true',decide_eq_false_iff_not] at h ⊢
  lia
noncomputable abbrev LoC:=Option (Array Keyed)×Array Keyed×Nat×Nat×Nat×Nat×Nat
noncomputable def loT2 (a b:Array Keyed) (mg ac bc:Nat) (out:Array Keyed) (ia ib:Nat):StateT SortSt Sem (ForInStep LoC):=elem' a ia >>= fun p =>
 if (ia + 1 + 1 == a.size)=true then pure (.done (some (out.push p ++ b.extract ib ++ a.extract (ia + 1)),out.push p,ia + 1,ib,mg,ac,bc))
 else if (decide (ac < 7) && decide (bc < 7))=true then pure (.done (none,out.push p,ia + 1,ib,mg,ac,bc))
 else pure (.yield (none,out.push p,ia + 1,ib,mg,ac,bc))
noncomputable def loT1 (a b:Array Keyed) (mg ac bc:Nat) (out:Array Keyed) (ia ib:Nat):StateT SortSt Sem (ForInStep LoC):=elem' b ib >>= fun q =>
 if (ib + 1 == b.size)=true then pure (.done (some (out.push q ++ a.extract ia ++ b.extract (ib + 1)),out.push q,ia,ib + 1,mg,ac,bc))
 else elem' a ia >>= fun p=>zdU true p b (ib + 1) (b.size - (ib + 1)) 0 >>= fun r=>match r with
  | some k=>if k > 0 then (if (ib + 1 + k == b.size)=true then pure (.done (some (out.push q ++ b.extract (ib + 1) (ib + 1 + k) ++ a.extract ia ++ b.extract (ib + 1 + k)),out.push q ++ b.extract (ib + 1) (ib + 1 + k),ia,ib + 1 + k,mg,ac,k))
    else loT2 a b mg ac k (out.push q ++ b.extract (ib + 1) (ib + 1 + k)) ia (ib + 1 + k)) else loT2 a b mg ac k (out.push q) ia (ib + 1)
  | _=>pure (.done (some (out.push q ++ a.extract ia ++ b.extract (ib + 1)),out.push q,ia,ib + 1,mg,ac,bc))
section
variable {prog:Program} {w:World} {X:Around} {E:Value→Shared→Prop} {s:Shared} [SKL prog w X E s]
theorem zgP {left:Bool} {k:Keyed} {a:Array Keyed} {base n hint:Nat} {st:SortSt} {Q:Option Nat→SortSt→Prop} (hk:kindOf st=oneType') (hkey:IntK k) (ha:∀ p∈a.toList,IntK p) (sa:Sr a.toList)
  (hb:base + n≤a.size) (hn:hint < n)
  (h:∀ m,m≤n→(∀ i p,i < m→a[base + i]? = some p→if left then key p < key k else key p≤key k)→(∀ i p,m≤i→i < n→a[base + i]? = some p→if left then key k≤key p else key k < key p)→Q (some m) st) :
  wpS (model prog w) X E s (zdU left k a base n hint) Q st:=by
 refine zgg hk hkey (fun i hi=>?_) hn (zoA sa left k base n hb) fun m hm h1 h2=>h m hm (fun i p hi e=>?_) fun i p hi hi' e=>?_
 ·obtain⟨q,e1,e2⟩:=zaP (a:=a) (i:=base + i) (by lia)
  exact⟨q,e1,ha q (List.mem_of_getElem? e2)⟩
 ·have:=h1 i hi
  unfold ask at this
  rw [e] at this
  cases left with
  | true=>simpa using this
  | false=>simpa using this
 ·have:=h2 i hi hi'
  unfold ask at this
  rw [e] at this
  cases left with
  | true=>simpa using this
  | false=>simpa using this
end
theorem zkz {a b out:Array Keyed} {ia ib:Nat} (sa:Sr a.toList) (sb:Sr b.toList) (hM:MI a.toList b.toList out.toList ia ib) (e:ib=b.size):Good a.toList b.toList (out ++ a.extract ia ++ b.extract ib).toList:=by
 have szB:b.toList.length=b.size:=by simp
 have q:=hM.endAB sa sb fun x _ y hy=>by
  rw [List.drop_eq_nil_of_le (by lia)] at hy
  cases hy
 simpa [List.extract_eq_take_drop,List.take_of_length_le] using q
theorem zkA {a b out:Array Keyed} {ia ib:Nat} {la:Keyed} (sa:Sr a.toList) (sb:Sr b.toList) (ela:a[a.size - 1]? = some la) (hlast:∀ x∈b.toList,key x < key la) (hM:MI a.toList b.toList out.toList ia ib) (e:ia + 1=a.size) :
  Good a.toList b.toList (out ++ b.extract ib ++ a.extract ia).toList:=by
 have szA:a.toList.length=a.size:=by simp
 have q:=hM.endBA sa sb fun x hx y hy=>by
  obtain⟨j,hj,ej⟩:=zcV hy
  have hj':j < a.toList.length:=(List.getElem?_eq_some_iff.mp ej).1
  have:j=a.size - 1:=by lia
  subst this
  rw [zbY ela] at ej
  cases ej
  exact Int.le_of_lt (hlast x (List.mem_of_mem_drop hx))
 simpa [List.extract_eq_take_drop,List.take_of_length_le] using q
def LoQ (a b:Array Keyed) (st:SortSt) (lim:Nat) (c:LoC) (st':SortSt):Prop:=SameG st st'∧c.1=none∧MI a.toList b.toList c.2.1.toList c.2.2.1 c.2.2.2.1∧c.2.2.1 + 1 < a.size∧c.2.2.2.1 < b.size∧lim≤c.2.2.1 + c.2.2.2.1
def LoE (a b:Array Keyed) (st:SortSt) (lim:Nat) (c:LoC) (st':SortSt):Prop:=SameG st st'∧((∃ M:Array Keyed,c.1=some M∧Good a.toList b.toList M.toList) ∨
 (c.1=none∧MI a.toList b.toList c.2.1.toList c.2.2.1 c.2.2.2.1∧c.2.2.1 + 1 < a.size∧c.2.2.2.1 < b.size∧lim≤c.2.2.1 + c.2.2.2.1))
section
variable {prog:Program} {w:World} {X:Around} {E:Value→Shared→Prop} {s:Shared} [SKL prog w X E s] {a b:Array Keyed} {st st2:SortSt} {la:Keyed} {lim:Nat}
theorem zjJ (sa:Sr a.toList) (sb:Sr b.toList) (ela:a[a.size - 1]? = some la) (hlast:∀ x∈b.toList,key x < key la) {mg ac bc:Nat} {out:Array Keyed} {ia ib:Nat} {p:Keyed} (hG:SameG st st2)
  (hM:MI a.toList b.toList out.toList ia ib) (ep:a[ia]? = some p) (h1:ia + 1 < a.size) (h2:ib < b.size) (h3:lim≤ia + ib) (hle:∀ y∈b.toList.drop ib,key p≤key y) :
  wpS (model prog w) X E s (loT2 a b mg ac bc out ia ib) (fun r st'=>match r with | .done c'=>LoE a b st lim c' st' | .yield c'=>LoQ a b st lim c' st') st2:=by
 refine wpS_bind (zay ep ?_)
 have ep2:=zbY ep
 have hM':MI a.toList b.toList (out.push p).toList (ia + 1) ib:=by
  have z:=hM.manyA sa 1 (fun x hx y hy=>by
   rw [zbE ep2] at hx
   rw [List.mem_singleton.mp hx]
   exact hle y hy)
  rw [zbE ep2] at z
  simpa using z
 by_cases e3:(ia + 1 + 1 == a.size)=true
 ·refine zap e3 ?_
  exact wpS_pure ⟨hG,.inl ⟨_,rfl,zkA sa sb ela hlast hM' (by simpa using e3)⟩⟩
 ·refine zan e3 ?_
  have e3':ia + 1 + 1≠a.size:=by simpa using e3
  split
  ·exact wpS_pure ⟨hG,.inr ⟨rfl,hM',(by dsimp only;lia),h2,(by dsimp only;lia)⟩⟩
  ·exact wpS_pure ⟨hG,rfl,hM',(by dsimp only;lia),h2,(by dsimp only;lia)⟩
theorem zjK (hk:kindOf st=oneType') (ha:∀ p∈a.toList,IntK p) (hb:∀ p∈b.toList,IntK p) (sa:Sr a.toList) (sb:Sr b.toList) (ela:a[a.size - 1]? = some la) (hlast:∀ x∈b.toList,key x < key la)
  {mg ac bc:Nat} {out:Array Keyed} {ia ib:Nat} {q:Keyed} (hG:SameG st st2)
  (hM:MI a.toList b.toList out.toList ia ib) (eq:b[ib]? = some q) (h1:ia + 1 < a.size) (h2:ib < b.size) (h3:lim≤ia + ib) (hle:∀ y∈a.toList.drop ia,key q≤key y) :
  wpS (model prog w) X E s (loT1 a b mg ac bc out ia ib) (fun r st'=>match r with | .done c'=>LoE a b st lim c' st' | .yield c'=>LoQ a b st lim c' st') st2:=by
 refine wpS_bind (zay eq ?_)
 have eq2:=zbY eq
 have hM':MI a.toList b.toList (out.push q).toList ia (ib + 1):=by
  have z:=hM.manyB sb 1 (fun x hx y hy=>by
   rw [zbE eq2] at hx
   rw [List.mem_singleton.mp hx]
   exact hle y hy)
  rw [zbE eq2] at z
  simpa using z
 by_cases e3:(ib + 1 == b.size)=true
 ·refine zap e3 ?_
  exact wpS_pure ⟨hG,.inl ⟨_,rfl,zkz sa sb hM' (by simpa using e3)⟩⟩
 refine zan e3 ?_
 have e3':ib + 1≠b.size:=by simpa using e3
 obtain⟨p,ep,ep2⟩:=zaP (a:=a) (i:=ia) (by lia)
 refine wpS_bind (zay ep (wpS_bind (zgP (hG.kind.trans hk) (ha p (List.mem_of_getElem? ep2)) hb sb (by lia) (by lia) fun k hk1 hB1 hB2=>?_)))
 dsimp only
 simp only [if_true] at hB1 hB2
 have rest:∀ y∈b.toList.drop (ib + 1 + k),key p≤key y:=fun y hy=>by
  obtain⟨j,hj,ej⟩:=zcV hy
  have hj':j < b.size:=by
   have:=(List.getElem?_eq_some_iff.mp ej).1
   simpa using this
  refine hB2 (j - (ib + 1)) y (by lia) (by lia) ?_
  rw [show ib + 1 + (j - (ib + 1))=j by lia,← Array.getElem?_toList]
  exact ej
 by_cases hk0:k > 0
 ·refine zap hk0 ?_
  have hM3:MI a.toList b.toList (out.push q ++ b.extract (ib + 1) (ib + 1 + k)).toList ia (ib + 1 + k):=by
   have z:=hM'.manyB sb k (fun x hx y hy=>by
    obtain⟨j,hj,ej⟩:=zaS hx
    have z1:=hB1 j x hj (by rw [← Array.getElem?_toList];exact ej)
    obtain⟨i,hi,ei⟩:=zcV hy
    have z2:=sa.get hi ep2 ei
    lia)
   simpa [List.extract_eq_take_drop] using z
  by_cases e4:(ib + 1 + k == b.size)=true
  ·refine zap e4 ?_
   exact wpS_pure ⟨hG,.inl ⟨_,rfl,zkz sa sb hM3 (by simpa using e4)⟩⟩
  ·refine zan e4 ?_
   have e4':ib + 1 + k≠b.size:=by simpa using e4
   exact zjJ sa sb ela hlast hG hM3 ep h1 (by lia) (by lia) rest
 ·refine zan hk0 ?_
  have hk00:k=0:=by lia
  subst hk00
  exact zjJ sa sb ela hlast hG hM' ep h1 (by lia) (by lia) rest
end
noncomputable def loT0 (a b:Array Keyed) (mg ac bc:Nat) (out:Array Keyed) (ia ib:Nat):StateT SortSt Sem (ForInStep LoC):=elem' b ib >>= fun q=>zdU false q a ia (a.size - ia) 0 >>= fun r=>match r with
 | some k=>if k > 0 then (if (ia + k + 1 == a.size)=true then pure (.done (some (out ++ a.extract ia (ia + k) ++ b.extract ib ++ a.extract (ia + k)),out ++ a.extract ia (ia + k),ia + k,ib,mg,k,bc))
   else if (ia + k == a.size)=true then pure (.done (some (out ++ a.extract ia (ia + k) ++ a.extract (ia + k) ++ b.extract ib),out ++ a.extract ia (ia + k),ia + k,ib,mg,k,bc))
   else loT1 a b mg k bc (out ++ a.extract ia (ia + k)) (ia + k) ib) else loT1 a b mg k bc out ia ib
 | _=>pure (.done (some (out ++ a.extract ia ++ b.extract ib),out,ia,ib,mg,ac,bc))
noncomputable abbrev Lo6:=Option (Array Keyed)×Array Keyed×Nat×Nat×Nat×Nat
noncomputable def loI (a b:Array Keyed) (mg ac bc:Nat) (out:Array Keyed) (ia ib:Nat):StateT SortSt Sem (ForInStep Lo6):=elem' b ib >>= fun q=>elem' a ia >>= fun p=>lt' q p >>= fun r=>match r with
 | some w=>if w=true then (elem' b ib >>= fun q=>if (ib + 1 == b.size)=true then pure (.done (some (out.push q ++ a.extract ia ++ b.extract (ib + 1)),out.push q,ia,ib + 1,0,bc + 1))
   else if bc + 1≥mg then pure (.done (none,out.push q,ia,ib + 1,0,bc + 1)) else pure (.yield (none,out.push q,ia,ib + 1,0,bc + 1)))
  else elem' a ia >>= fun p=>if (ia + 1 + 1 == a.size)=true then pure (.done (some (out.push p ++ b.extract ib ++ a.extract (ia + 1)),out.push p,ia + 1,ib,ac + 1,0))
   else if ac + 1≥mg then pure (.done (none,out.push p,ia + 1,ib,ac + 1,0)) else pure (.yield (none,out.push p,ia + 1,ib,ac + 1,0))
 | _=>pure (.done (some (out ++ a.extract ia ++ b.extract ib),out,ia,ib,ac,bc))
def Lo1 (a b:Array Keyed) (lim:Nat) (c:Option (Array Keyed)) (out:Array Keyed) (ia ib:Nat):Prop:=c=none∧MI a.toList b.toList out.toList ia ib∧ia + 1 < a.size∧ib < b.size∧lim≤ia + ib
theorem Lo1.mono {a b:Array Keyed} {l l':Nat} {c:Option (Array Keyed)} {out:Array Keyed} {ia ib:Nat} (h:Lo1 a b l c out ia ib) (e:l'≤l):Lo1 a b l' c out ia ib:=⟨h.1,h.2.1,h.2.2.1,h.2.2.2.1,Nat.le_trans e h.2.2.2.2⟩
section
variable {prog:Program} {w:World} {X:Around} {E:Value→Shared→Prop} {s:Shared} [SKL prog w X E s] {a b:Array Keyed} {st st2:SortSt} {la:Keyed} {lim:Nat}
theorem zpm (hk:kindOf st=oneType') (ha:∀ p∈a.toList,IntK p) (hb:∀ p∈b.toList,IntK p) (sa:Sr a.toList) (sb:Sr b.toList) (ela:a[a.size - 1]? = some la) (hlast:∀ x∈b.toList,key x < key la)
  {mg ac bc:Nat} {out:Array Keyed} {ia ib:Nat} (hM:MI a.toList b.toList out.toList ia ib) (h1:ia + 1 < a.size) (h2:ib < b.size) (h3:lim≤ia + ib) :
  wpS (model prog w) X E s (loI a b mg ac bc out ia ib) (fun r st'=>match r with | .done c=>st'=st∧((∃ M:Array Keyed,c.1=some M∧Good a.toList b.toList M.toList)∨Lo1 a b (lim + 1) c.1 c.2.1 c.2.2.1 c.2.2.2.1) | .yield c=>st'=st∧Lo1 a b (lim + 1) c.1 c.2.1 c.2.2.1 c.2.2.2.1) st:=by
 obtain⟨q,eq1,eq2⟩:=zaP (a:=b) (i:=ib) h2
 obtain⟨p,ep1,ep2⟩:=zaP (a:=a) (i:=ia) (Nat.lt_of_succ_lt h1)
 refine wpS_bind (zay eq1 (wpS_bind (zay ep1 (wpS_bind (zhx hk (hb q (List.mem_of_getElem? eq2)) (ha p (List.mem_of_getElem? ep2)) ?_)))))
 by_cases hlt:key q < key p
 ·refine zap (decide_eq_true hlt) (wpS_bind (zay eq1 ?_))
  have hM':MI a.toList b.toList (out.push q).toList ia (ib + 1):=by
   have z:=hM.manyB sb 1 (fun x hx y hy=>by
    rw [zbE eq2] at hx
    rw [List.mem_singleton.mp hx]
    obtain⟨j,hj,ej⟩:=zcV hy
    exact Int.le_trans (Int.le_of_lt hlt) (sa.get hj ep2 ej))
   rw [zbE eq2] at z
   simpa using z
  by_cases e3:(ib + 1 == b.size)=true
  ·exact zap e3 (wpS_pure ⟨rfl,.inl ⟨_,rfl,zkz sa sb hM' (by simpa using e3)⟩⟩)
  ·have l:Lo1 a b (lim + 1) none (out.push q) ia (ib + 1):=⟨rfl,hM',h1,Nat.lt_of_le_of_ne h2 (by simpa using e3),Nat.succ_le_succ h3⟩
   refine zan e3 ?_
   split
   ·exact wpS_pure ⟨rfl,.inr l⟩
   ·exact wpS_pure ⟨rfl,l⟩
 ·refine zan (by simpa using hlt) (wpS_bind (zay ep1 ?_))
  have hM':MI a.toList b.toList (out.push p).toList (ia + 1) ib:=by
   have z:=hM.manyA sa 1 (fun x hx y hy=>by
    rw [zbE ep2] at hx
    rw [List.mem_singleton.mp hx]
    obtain⟨j,hj,ej⟩:=zcV hy
    exact Int.le_trans (Int.not_lt.mp hlt) (sb.get hj eq2 ej))
   rw [zbE ep2] at z
   simpa using z
  by_cases e3:(ia + 1 + 1 == a.size)=true
  ·exact zap e3 (wpS_pure ⟨rfl,.inl ⟨_,rfl,zkA sa sb ela hlast hM' (by simpa using e3)⟩⟩)
  ·have l:Lo1 a b (lim + 1) none (out.push p) (ia + 1) ib:=⟨rfl,hM',Nat.lt_of_le_of_ne h1 (by simpa using e3),h2,by lia⟩
   refine zan e3 ?_
   split
   ·exact wpS_pure ⟨rfl,.inr l⟩
   ·exact wpS_pure ⟨rfl,l⟩
theorem zjL (hk:kindOf st=oneType') (ha:∀ p∈a.toList,IntK p) (hb:∀ p∈b.toList,IntK p) (sa:Sr a.toList) (sb:Sr b.toList) (ela:a[a.size - 1]? = some la) (hlast:∀ x∈b.toList,key x < key la)
  {mg ac bc:Nat} {out:Array Keyed} {ia ib:Nat} (hG:SameG st st2) (hM:MI a.toList b.toList out.toList ia ib) (h1:ia + 1 < a.size) (h2:ib < b.size) (h3:lim≤ia + ib) :
  wpS (model prog w) X E s (loT0 a b mg ac bc out ia ib) (fun r st'=>match r with | .done c'=>LoE a b st lim c' st' | .yield c'=>LoQ a b st lim c' st') st2:=by
 obtain⟨q,eq1,eq2⟩:=zaP (a:=b) (i:=ib) h2
 refine wpS_bind (zay eq1 (wpS_bind (zgP (hG.kind.trans hk) (hb q (List.mem_of_getElem? eq2)) ha sa (by lia) (by lia) fun k hk1 hA1 hA2=>?_)))
 simp only [Bool.false_eq_true,if_false] at hA1 hA2
 have rest:∀ y∈a.toList.drop (ia + k),key q≤key y:=fun y hy=>by
  obtain⟨j,hj,ej⟩:=zcV hy
  have hj':j < a.size:=by
   have:=(List.getElem?_eq_some_iff.mp ej).1
   simpa using this
  refine Int.le_of_lt (hA2 (j - ia) y (by lia) (by lia) ?_)
  rw [show ia + (j - ia)=j by lia,← Array.getElem?_toList]
  exact ej
 by_cases hk0:k > 0
 ·refine zap hk0 ?_
  have hM3:MI a.toList b.toList (out ++ a.extract ia (ia + k)).toList (ia + k) ib:=by
   have z:=hM.manyA sa k (fun x hx y hy=>by
    obtain⟨j,hj,ej⟩:=zaS hx
    have z1:=hA1 j x hj (by rw [← Array.getElem?_toList];exact ej)
    obtain⟨i,hi,ei⟩:=zcV hy
    exact Int.le_trans z1 (sb.get hi eq2 ei))
   simpa [List.extract_eq_take_drop] using z
  by_cases e4:(ia + k + 1 == a.size)=true
  ·exact zap e4 (wpS_pure ⟨hG,.inl ⟨_,rfl,zkA sa sb ela hlast hM3 (by simpa using e4)⟩⟩)
  ·have hkb:¬ (a.size - 1 - ia < k):=fun hlt=>by
    have z1:=hA1 (a.size - 1 - ia) la hlt (by rw [show ia + (a.size - 1 - ia)=a.size - 1 by lia];exact ela)
    exact Int.not_lt.mpr z1 (hlast q (List.mem_of_getElem? eq2))
   have e4':ia + k + 1≠a.size:=by simpa using e4
   have e5:ia + k + 1 < a.size:=by lia
   refine zan e4 (zan (by simp;lia) ?_)
   exact wpS_mono (zjK (lim:=lim) hk ha hb sa sb ela hlast hG hM3 eq1 e5 h2 (by lia) rest) fun r st' z=>by cases r <;> exact z
 ·have hk00:k=0:=Nat.eq_zero_of_not_pos hk0
  subst hk00
  exact zan hk0 (wpS_mono (zjK (lim:=lim) hk ha hb sa sb ela hlast hG hM eq1 h1 h2 h3 rest) fun r st' z=>by cases r <;> exact z)
end
section
variable {prog:Program} {w:World} {X:Around} {E:Value→Shared→Prop} {s:Shared} [SKL prog w X E s]
theorem ziH {a b:Array Keyed} {st:SortSt} {Q:Array Keyed→SortSt→Prop} (hk:kindOf st=oneType') (ha:∀ p∈a.toList,IntK p) (hb:∀ p∈b.toList,IntK p) (sa:Sr a.toList) (sb:Sr b.toList)
  (na:0 < a.size) (nb:0 < b.size) (h0:∀ q,b[0]? = some q→∀ y∈a.toList,key q≤key y) (hl:∀ p,a[a.size - 1]? = some p→∀ x∈b.toList,key x < key p)
  (h:∀ (M:Array Keyed) st',SameG st st'→Good a.toList b.toList M.toList→Q M st'):wpS (model prog w) X E s (zn5 a b) Q st:=by
 obtain⟨la,ela,ela'⟩:=zaP (a:=a) (i:=a.size - 1) (by lia)
 have hlast:=hl la ela
 refine wpS_bind (wpS_lift (wpAny_rule ⟨rfl,?_⟩))
 obtain⟨b0,eb0,eb0'⟩:=zaP (a:=b) (i:=0) nb
 refine wpS_bind (zay eb0 ?_)
 have M0:MI a.toList b.toList (#[b0]:Array Keyed).toList 0 1:=by
  have z:MI a.toList b.toList [] 0 0:=⟨by simp,List.Pairwise.nil,(fun x hx=>by cases hx),(fun x hx=>by cases hx)⟩
  have z':=z.manyB sb 1 (fun x hx y hy=>by
   rw [zbE eb0'] at hx
   rw [List.mem_singleton.mp hx]
   exact h0 b0 eb0 y (by simpa using hy))
  rw [zbE eb0'] at z'
  simpa using z'
 by_cases e1:(1 == b.size)=true
 ·exact zap e1 (wpS_pure (h _ _ (.refl _) (zkz sa sb M0 (by simpa using e1))))
 refine zan e1 ?_
 have e1':1 < b.size:=Nat.lt_of_le_of_ne nb (by simpa using e1)
 by_cases e2:(0 + 1 == a.size)=true
 ·exact zap e2 (wpS_pure (h _ _ (.refl _) (zkA sa sb ela hlast M0 (by simpa using e2))))
 refine zan e2 ?_
 have e2':0 + 1 < a.size:=Nat.lt_of_le_of_ne na (by simpa using e2)
 refine wpS_bind (wpS_get ?_)
 refine wpS_bind (wpS_mono (wpS_forRange (a:=0) (b:=a.size + b.size)
  (I:=fun x c st'=>SameG st st'∧Lo1 a b (x + 1) c.1 c.2.1 c.2.2.1 c.2.2.2.1)
  (Q:=fun c st'=>SameG st st'∧∃ M:Array Keyed,c.1=some M∧Good a.toList b.toList M.toList) ?step ?fin ?init) ?post)
 case init=>exact⟨.refl _,rfl,M0,e2',e1',Nat.le_refl 1⟩
 case fin =>
  rintro ⟨r,out,ia,ib,mg⟩ st' ⟨hG,e,hM,h1,h2,h3⟩
  dsimp only at h1 h2 h3
  lia
 case post =>
  rintro ⟨r,out,ia,ib,mg⟩ st' ⟨hG,M,e,hM⟩
  cases (show r=some M from e)
  exact wpS_pure (h _ _ hG hM)
 case step =>
  rintro x ⟨r,out,ia,ib,mg⟩ st1 _ hx ⟨hG,e,hM,h1,h2,h3⟩
  cases (show r=none from e)
  refine wpS_bind (wpS_mono (wpS_forRange (a:=0) (b:=a.size + b.size)
   (I:=fun y c st'=>st'=st1∧Lo1 a b (ia + ib + y) c.1 c.2.1 c.2.2.1 c.2.2.2.1)
   (Q:=fun c st'=>st'=st1∧((∃ M:Array Keyed,c.1=some M∧Good a.toList b.toList M.toList)∨Lo1 a b (ia + ib + 1) c.1 c.2.1 c.2.2.1 c.2.2.2.1)) ?istep ?ifin ?iinit) ?ipost)
  case iinit=>exact⟨rfl,rfl,hM,h1,h2,Nat.le_refl _⟩
  case ifin=>exact fun c st' hc=>⟨hc.1,.inr (hc.2.mono (by lia))⟩
  case istep =>
   rintro y ⟨r,out,ia',ib',ac,bc⟩ st' _ hy ⟨rfl,e,hM,h1,h2,h3⟩
   cases (show r=none from e)
   exact wpS_mono (zpm (lim:=ia + ib + y) (hG.kind.trans hk) ha hb sa sb ela hlast hM h1 h2 h3) fun r st' z=>by
    cases r with
    | done c=>exact⟨z.1,z.2.imp id fun z=>z.mono (by lia)⟩
    | yield c=>exact z
  case ipost =>
   rintro ⟨r,out1,ia1,ib1,ac1,bc1⟩ st' ⟨rfl,⟨M,e,hgood⟩ | ⟨e,hM1,g1,g2,g3⟩⟩
   ·cases (show r=some M from e)
    exact wpS_pure ⟨hG,M,rfl,hgood⟩
   cases (show r=none from e)
   refine wpS_bind (wpS_lift (wpAny_rule ⟨rfl,?_⟩))
   refine wpS_bind (wpS_mono (wpS_forRange (a:=0) (b:=a.size + b.size) (I:=fun _ c st'=>LoQ a b st (ia + ib + 1) c st') (Q:=fun c st'=>LoE a b st (ia + ib + 1) c st') ?jstep ?jfin ?jinit) ?jpost)
   case jinit=>exact⟨hG,rfl,hM1,g1,g2,g3⟩
   case jfin=>exact fun c st' hc=>⟨hc.1,.inr hc.2⟩
   case jpost =>
    rintro ⟨r,out2,ia2,ib2,mg2,ac2,bc2⟩ st2 ⟨hG2,⟨M,e,hgood⟩ | ⟨e,hM2,k1,k2,k3⟩⟩
    ·cases (show r=some M from e)
     exact wpS_pure ⟨hG2,M,rfl,hgood⟩
    ·cases (show r=none from e)
     exact wpS_bind (wpS_modify (wpS_pure ⟨hG2.set _,rfl,hM2,k1,k2,Nat.le_trans (Nat.succ_le_succ h3) k3⟩))
   case jstep =>
    rintro y ⟨r,out2,ia2,ib2,mg2,ac2,bc2⟩ st2 _ hy ⟨hG2,e,hM2,k1,k2,k3⟩
    cases (show r=none from e)
    by_cases hmg:mg2 > 1
    ·exact zap hmg (wpS_bind (wpS_modify (wpS_mono (zjL hk ha hb sa sb ela hlast (hG2.set _) hM2 k1 k2 k3) fun r st' z=>by cases r <;> exact z)))
    ·exact zan hmg (wpS_bind (wpS_modify (wpS_mono (zjL hk ha hb sa sb ela hlast (hG2.set _) hM2 k1 k2 k3) fun r st' z=>by cases r <;> exact z)))
end
end Srt
namespace Srt
open PySem PyProof.Rows
variable [SK]
structure MH (A B R:List Keyed) (na nb:Nat):Prop where
 perm:R.Perm (A.drop na ++ B.drop nb)
 sor:Sr R
 leA:∀ x∈A.take na,∀ y∈R,key x≤key y
 leB:∀ x∈B.take nb,∀ y∈R,key x≤key y
section
variable {A B R:List Keyed} {na nb:Nat}
theorem zgB (l:List Keyed) {m n:Nat} (h:m≤n):l.drop m=(l.drop m).take (n - m) ++ l.drop n:=by
 have e:l.drop n=(l.drop m).drop (n - m):=by rw [List.drop_drop];congr 1;lia
 rw [e,List.take_append_drop]
theorem zgh (l:List Keyed) {m n:Nat} (h:m≤n):l.take n=l.take m ++ (l.drop m).take (n - m):=by
 rw [← List.take_add]
 congr 1
 lia
theorem MH.manyA (h:MH A B R na nb) (sA:Sr A) {m:Nat} (hm:m≤na) (le:∀ x∈B.take nb,∀ y∈(A.drop m).take (na - m),key x≤key y):MH A B ((A.drop m).take (na - m) ++ R) m nb:=by
 have hs:=zgh A hm
 refine ⟨?_,List.pairwise_append.mpr ⟨(sA.drop m).take _,h.sor,fun x hx y hy=>h.leA x (by rw [hs];exact List.mem_append_right _ hx) y hy⟩,fun x hx y hy=>?_,fun x hx y hy=>?_⟩
 ·refine (h.perm.append_left _).trans (List.Perm.of_eq ?_)
  rw [← List.append_assoc,← zgB A hm]
 ·rcases List.mem_append.mp hy with hy | hy
  ·have hd:y∈A.drop m:=List.mem_of_mem_take hy
   exact sA.cut m x hx y hd
  ·exact h.leA x (by rw [hs];exact List.mem_append_left _ hx) y hy
 ·rcases List.mem_append.mp hy with hy | hy
  ·exact le x hx y hy
  ·exact h.leB x hx y hy
theorem MH.manyB (h:MH A B R na nb) (sB:Sr B) {m:Nat} (hm:m≤nb) (le:∀ x∈A.take na,∀ y∈(B.drop m).take (nb - m),key x≤key y):MH A B ((B.drop m).take (nb - m) ++ R) na m:=by
 have hs:=zgh B hm
 refine ⟨?_,List.pairwise_append.mpr ⟨(sB.drop m).take _,h.sor,fun x hx y hy=>h.leB x (by rw [hs];exact List.mem_append_right _ hx) y hy⟩,fun x hx y hy=>?_,fun x hx y hy=>?_⟩
 ·refine (h.perm.append_left _).trans ?_
  refine List.Perm.trans ?_ (List.Perm.of_eq (congrArg (A.drop na ++ ·) (zgB B hm).symm))
  rw [← List.append_assoc,← List.append_assoc]
  exact List.Perm.append_right _ List.perm_append_comm
 ·rcases List.mem_append.mp hy with hy | hy
  ·exact le x hx y hy
  ·exact h.leA x hx y hy
 ·rcases List.mem_append.mp hy with hy | hy
  ·have hd:y∈B.drop m:=List.mem_of_mem_take hy
   exact sB.cut m x hx y hd
  ·exact h.leB x (by rw [hs];exact List.mem_append_left _ hx) y hy
theorem MH.endAB (h:MH A B R na nb) (sA:Sr A) (sB:Sr B) (le:∀ x∈A.take na,∀ y∈B.take nb,key x≤key y):Good A B (A.take na ++ B.take nb ++ R):=by
 refine ⟨?_,List.pairwise_append.mpr ⟨List.pairwise_append.mpr ⟨sA.take _,sB.take _,le⟩,h.sor,fun x hx y hy=>?_⟩⟩
 ·refine (h.perm.append_left _).trans ?_
  have e:A ++ B=(A.take na ++ A.drop na) ++ (B.take nb ++ B.drop nb):=by rw [List.take_append_drop,List.take_append_drop]
  rw [e]
  simp only [List.append_assoc]
  refine List.Perm.append_left _ ?_
  rw [← List.append_assoc,← List.append_assoc]
  exact List.Perm.append_right _ List.perm_append_comm
 ·rcases List.mem_append.mp hx with hx | hx
  ·exact h.leA x hx y hy
  ·exact h.leB x hx y hy
theorem MH.endBA (h:MH A B R na nb) (sA:Sr A) (sB:Sr B) (le:∀ x∈B.take nb,∀ y∈A.take na,key x≤key y):Good A B (B.take nb ++ A.take na ++ R):=by
 refine ⟨?_,List.pairwise_append.mpr ⟨List.pairwise_append.mpr ⟨sB.take _,sA.take _,le⟩,h.sor,fun x hx y hy=>?_⟩⟩
 ·refine (h.perm.append_left _).trans ?_
  have e:A ++ B=(A.take na ++ A.drop na) ++ (B.take nb ++ B.drop nb):=by rw [List.take_append_drop,List.take_append_drop]
  rw [e]
  refine (List.perm_append_comm.append_right _).trans ?_
  simp only [List.append_assoc]
  refine List.Perm.append_left _ ?_
  rw [← List.append_assoc,← List.append_assoc]
  exact List.Perm.append_right _ List.perm_append_comm
 ·rcases List.mem_append.mp hx with hx | hx
  ·exact h.leB x hx y hy
  ·exact h.leA x hx y hy
theorem zec {l:List Keyed} {n:Nat} {q:Keyed} (h:0 < n) (e:l[n - 1]? = some q):(l.drop (n - 1)).take (n - (n - 1))=[q]:=by
 rw [show n - (n - 1)=1 by lia]
 exact zbE e
theorem zcS {l:List Keyed} {n:Nat} {y:Keyed} (h:y∈l.take n):∃ j,j < n∧l[j]? = some y:=by
 obtain⟨j,hj⟩:=List.getElem?_of_mem h
 rw [List.getElem?_take] at hj
 split at hj
 ·exact⟨j,by assumption,hj⟩
 ·cases hj
end
theorem zkC {a b out:Array Keyed} {na nb:Nat} (sa:Sr a.toList) (sb:Sr b.toList) (hM:MH a.toList b.toList out.reverse.toList na nb) (e:na=0):Good a.toList b.toList (a.extract 0 na ++ b.extract 0 nb ++ out.reverse).toList:=by
 have q:=hM.endAB sa sb fun x hx y _=>by
  subst e
  simp at hx
 simpa [List.extract_eq_take_drop] using q
theorem zkB {a b out:Array Keyed} {na nb:Nat} {b0:Keyed} (sa:Sr a.toList) (sb:Sr b.toList) (eb:b[0]? = some b0) (h0:∀ y∈a.toList,key b0 < key y) (hM:MH a.toList b.toList out.reverse.toList na nb) (e:nb=1) :
  Good a.toList b.toList (b.extract 0 nb ++ a.extract 0 na ++ out.reverse).toList:=by
 have q:=hM.endBA sa sb fun x hx y hy=>by
  obtain⟨j,hj,ej⟩:=zcS hx
  have:j=0:=by lia
  subst this
  rw [zbY eb] at ej
  cases ej
  exact Int.le_of_lt (h0 y (List.mem_of_mem_take hy))
 simpa [List.extract_eq_take_drop] using q
noncomputable abbrev HiC:=Option (Array Keyed)×Nat×Nat×Array Keyed×Nat×Nat×Nat
noncomputable def hiT2 (a b:Array Keyed) (mg ac bc na nb:Nat) (out:Array Keyed):StateT SortSt Sem (ForInStep HiC):=elem' a (na - 1) >>= fun p =>
 if (na - 1 == 0)=true then pure (.done (some (a.extract 0 (na - 1) ++ b.extract 0 nb ++ (out.push p).reverse),na - 1,nb,out.push p,mg,ac,bc))
 else if (decide (ac < 7) && decide (bc < 7))=true then pure (.done (none,na - 1,nb,out.push p,mg,ac,bc))
 else pure (.yield (none,na - 1,nb,out.push p,mg,ac,bc))
noncomputable def hiT1 (a b:Array Keyed) (mg ac bc na nb:Nat) (out:Array Keyed):StateT SortSt Sem (ForInStep HiC):=elem' b (nb - 1) >>= fun q =>
 if (nb - 1 == 1)=true then pure (.done (some (b.extract 0 (nb - 1) ++ a.extract 0 na ++ (out.push q).reverse),na,nb - 1,out.push q,mg,ac,bc))
 else elem' a (na - 1) >>= fun p=>zdU true p b 0 (nb - 1) (nb - 1 - 1) >>= fun r=>match r with
  | some m=>if nb - 1 - m > 0 then (if (m == 1)=true then pure (.done (some (b.extract 0 m ++ a.extract 0 na ++ (out.push q ++ (b.extract m (nb - 1)).reverse).reverse),na,m,out.push q ++ (b.extract m (nb - 1)).reverse,mg,ac,nb - 1 - m))
    else if (m == 0)=true then pure (.done (some (a.extract 0 na ++ b.extract 0 m ++ (out.push q ++ (b.extract m (nb - 1)).reverse).reverse),na,m,out.push q ++ (b.extract m (nb - 1)).reverse,mg,ac,nb - 1 - m))
    else hiT2 a b mg ac (nb - 1 - m) na m (out.push q ++ (b.extract m (nb - 1)).reverse)) else hiT2 a b mg ac (nb - 1 - m) na (nb - 1) (out.push q)
  | _=>pure (.done (some (a.extract 0 na ++ b.extract 0 (nb - 1) ++ (out.push q).reverse),na,nb - 1,out.push q,mg,ac,bc))
def HiQ (a b:Array Keyed) (st:SortSt) (lim:Nat) (c:HiC) (st':SortSt):Prop:=SameG st st'∧c.1=none∧MH a.toList b.toList c.2.2.2.1.reverse.toList c.2.1 c.2.2.1∧0 < c.2.1∧1 < c.2.2.1∧c.2.1 + c.2.2.1≤lim∧c.2.1≤a.size∧c.2.2.1≤b.size
def HiE (a b:Array Keyed) (st:SortSt) (lim:Nat) (c:HiC) (st':SortSt):Prop:=SameG st st'∧((∃ M:Array Keyed,c.1=some M∧Good a.toList b.toList M.toList) ∨
 (c.1=none∧MH a.toList b.toList c.2.2.2.1.reverse.toList c.2.1 c.2.2.1∧0 < c.2.1∧1 < c.2.2.1∧c.2.1 + c.2.2.1≤lim∧c.2.1≤a.size∧c.2.2.1≤b.size))
section
variable {prog:Program} {w:World} {X:Around} {E:Value→Shared→Prop} {s:Shared} [SKL prog w X E s] {a b:Array Keyed} {st st2:SortSt} {b0:Keyed} {lim:Nat}
theorem zpJ {out:Array Keyed} {na nb:Nat} {p:Keyed} (sa:Sr a.toList) (hM:MH a.toList b.toList out.reverse.toList na nb) (h1:0 < na) (ep:a[na - 1]? = some p) (hle:∀ x∈b.toList.take nb,key x≤key p) :
  MH a.toList b.toList (out.push p).reverse.toList (na - 1) nb:=by
 have z:=hM.manyA sa (m:=na - 1) (by lia) (fun x hx y hy=>by
  rw [zec h1 (zbY ep)] at hy
  rw [List.mem_singleton.mp hy]
  exact hle x hx)
 rw [zec h1 (zbY ep)] at z
 simpa using z
theorem zrh {out:Array Keyed} {na nb:Nat} {q:Keyed} (sb:Sr b.toList) (hM:MH a.toList b.toList out.reverse.toList na nb) (h1:0 < nb) (eq:b[nb - 1]? = some q) (hle:∀ x∈a.toList.take na,key x≤key q) :
  MH a.toList b.toList (out.push q).reverse.toList na (nb - 1):=by
 have z:=hM.manyB sb (m:=nb - 1) (by lia) (fun x hx y hy=>by
  rw [zec h1 (zbY eq)] at hy
  rw [List.mem_singleton.mp hy]
  exact hle x hx)
 rw [zec h1 (zbY eq)] at z
 simpa using z
theorem zjM (sa:Sr a.toList) (sb:Sr b.toList) {mg ac bc na nb:Nat} {out:Array Keyed} {p:Keyed} (hG:SameG st st2)
  (hM:MH a.toList b.toList out.reverse.toList na nb) (ep:a[na - 1]? = some p) (h1:0 < na) (h2:1 < nb) (h3:na + nb≤lim) (h4:na≤a.size) (h5:nb≤b.size) (hle:∀ x∈b.toList.take nb,key x≤key p) :
  wpS (model prog w) X E s (hiT2 a b mg ac bc na nb out) (fun r st'=>match r with | .done c'=>HiE a b st lim c' st' | .yield c'=>HiQ a b st lim c' st') st2:=by
 refine wpS_bind (zay ep ?_)
 have hM':=zpJ sa hM h1 ep hle
 by_cases e3:(na - 1 == 0)=true
 ·refine zap e3 ?_
  exact wpS_pure ⟨hG,.inl ⟨_,rfl,zkC sa sb hM' (by simpa using e3)⟩⟩
 ·refine zan e3 ?_
  have e3':na - 1≠0:=by simpa using e3
  split
  ·exact wpS_pure ⟨hG,.inr ⟨rfl,hM',(by dsimp only;lia),h2,(by dsimp only;lia),(by dsimp only;lia),h5⟩⟩
  ·exact wpS_pure ⟨hG,rfl,hM',(by dsimp only;lia),h2,(by dsimp only;lia),(by dsimp only;lia),h5⟩
theorem zjN (hk:kindOf st=oneType') (ha:∀ p∈a.toList,IntK p) (hb:∀ p∈b.toList,IntK p) (sa:Sr a.toList) (sb:Sr b.toList) (eb:b[0]? = some b0) (h0:∀ y∈a.toList,key b0 < key y)
  {mg ac bc na nb:Nat} {out:Array Keyed} {q:Keyed} (hG:SameG st st2)
  (hM:MH a.toList b.toList out.reverse.toList na nb) (eq:b[nb - 1]? = some q) (h1:0 < na) (h2:1 < nb) (h3:na + nb≤lim) (h4:na≤a.size) (h5:nb≤b.size) (hle:∀ x∈a.toList.take na,key x≤key q) :
  wpS (model prog w) X E s (hiT1 a b mg ac bc na nb out) (fun r st'=>match r with | .done c'=>HiE a b st lim c' st' | .yield c'=>HiQ a b st lim c' st') st2:=by
 refine wpS_bind (zay eq ?_)
 have hM':=zrh sb hM (by lia) eq hle
 by_cases e3:(nb - 1 == 1)=true
 ·refine zap e3 ?_
  exact wpS_pure ⟨hG,.inl ⟨_,rfl,zkB sa sb eb h0 hM' (by simpa using e3)⟩⟩
 refine zan e3 ?_
 have e3':nb - 1≠1:=by simpa using e3
 obtain⟨p,ep,ep2⟩:=zaP (a:=a) (i:=na - 1) (by lia)
 refine wpS_bind (zay ep (wpS_bind (zgP (hG.kind.trans hk) (ha p (List.mem_of_getElem? ep2)) hb sb (by lia) (by lia) fun m hm1 hB1 hB2=>?_)))
 dsimp only
 simp only [if_true,Nat.zero_add] at hB1 hB2
 have hm0:m≠0:=fun e=>by
  have z1:=hB2 0 b0 (by lia) (by lia) eb
  have z2:=h0 p (List.mem_of_getElem? ep2)
  lia
 have rest:∀ x∈b.toList.take m,key x≤key p:=fun x hx=>by
  obtain⟨j,hj,ej⟩:=zcS hx
  exact Int.le_of_lt (hB1 j x hj (by rw [← Array.getElem?_toList];exact ej))
 by_cases hk0:nb - 1 - m > 0
 ·refine zap hk0 ?_
  have hM3:MH a.toList b.toList (out.push q ++ (b.extract m (nb - 1)).reverse).reverse.toList na m:=by
   have z:=hM'.manyB sb hm1 (fun x hx y hy=>by
    obtain⟨j,hj,ej⟩:=zaS hy
    have z1:=hB2 (m + j) y (by lia) (by lia) (by rw [← Array.getElem?_toList];exact ej)
    obtain⟨i,hi,ei⟩:=zcS hx
    have z2:=sa.get (i:=i) (j:=na - 1) (by lia) ei ep2
    lia)
   simpa [List.extract_eq_take_drop] using z
  by_cases e4:(m == 1)=true
  ·refine zap e4 ?_
   exact wpS_pure ⟨hG,.inl ⟨_,rfl,zkB sa sb eb h0 hM3 (by simpa using e4)⟩⟩
  ·refine zan e4 ?_
   have e4':m≠1:=by simpa using e4
   refine zan (by simpa using hm0) ?_
   exact zjM sa sb hG hM3 ep h1 (by lia) (by lia) h4 (by lia) rest
 ·refine zan hk0 ?_
  have e:m=nb - 1:=by lia
  subst e
  exact zjM sa sb hG hM' ep h1 (by lia) (by lia) h4 (by lia) rest
noncomputable def hiT0 (a b:Array Keyed) (mg ac bc na nb:Nat) (out:Array Keyed):StateT SortSt Sem (ForInStep HiC):=elem' b (nb - 1) >>= fun q=>zdU false q a 0 na (na - 1) >>= fun r=>match r with
 | some m=>if na - m > 0 then (if (m == 0)=true then pure (.done (some (a.extract 0 m ++ b.extract 0 nb ++ (out ++ (a.extract m na).reverse).reverse),m,nb,out ++ (a.extract m na).reverse,mg,na - m,bc))
   else hiT1 a b mg (na - m) bc m nb (out ++ (a.extract m na).reverse)) else hiT1 a b mg (na - m) bc na nb out
 | _=>pure (.done (some (a.extract 0 na ++ b.extract 0 nb ++ out.reverse),na,nb,out,mg,ac,bc))
noncomputable abbrev Hi6:=Option (Array Keyed)×Nat×Nat×Array Keyed×Nat×Nat
noncomputable def hiI (a b:Array Keyed) (mg ac bc na nb:Nat) (out:Array Keyed):StateT SortSt Sem (ForInStep Hi6):=elem' b (nb - 1) >>= fun q=>elem' a (na - 1) >>= fun p=>lt' q p >>= fun r=>match r with
 | some w=>if w=true then (elem' a (na - 1) >>= fun p=>if (na - 1 == 0)=true then pure (.done (some (a.extract 0 (na - 1) ++ b.extract 0 nb ++ (out.push p).reverse),na - 1,nb,out.push p,ac + 1,0))
   else if ac + 1≥mg then pure (.done (none,na - 1,nb,out.push p,ac + 1,0)) else pure (.yield (none,na - 1,nb,out.push p,ac + 1,0)))
  else elem' b (nb - 1) >>= fun q=>if (nb - 1 == 1)=true then pure (.done (some (b.extract 0 (nb - 1) ++ a.extract 0 na ++ (out.push q).reverse),na,nb - 1,out.push q,0,bc + 1))
   else if bc + 1≥mg then pure (.done (none,na,nb - 1,out.push q,0,bc + 1)) else pure (.yield (none,na,nb - 1,out.push q,0,bc + 1))
 | _=>pure (.done (some (a.extract 0 na ++ b.extract 0 nb ++ out.reverse),na,nb,out,ac,bc))
def Hi1 (a b:Array Keyed) (lim:Nat) (c:Option (Array Keyed)) (na nb:Nat) (out:Array Keyed):Prop:=c=none∧MH a.toList b.toList out.reverse.toList na nb∧0 < na∧1 < nb∧na + nb≤lim∧na≤a.size∧nb≤b.size
omit [SKL prog w X E s] in
theorem Hi1.mono {l l':Nat} {c:Option (Array Keyed)} {out:Array Keyed} {na nb:Nat} (h:Hi1 a b l c na nb out) (e:l≤l'):Hi1 a b l' c na nb out:=⟨h.1,h.2.1,h.2.2.1,h.2.2.2.1,Nat.le_trans h.2.2.2.2.1 e,h.2.2.2.2.2⟩
theorem zpn (hk:kindOf st=oneType') (ha:∀ p∈a.toList,IntK p) (hb:∀ p∈b.toList,IntK p) (sa:Sr a.toList) (sb:Sr b.toList) (eb:b[0]? = some b0) (h0:∀ y∈a.toList,key b0 < key y)
  {mg ac bc na nb:Nat} {out:Array Keyed} (hM:MH a.toList b.toList out.reverse.toList na nb) (h1:0 < na) (h2:1 < nb) (h3:na + nb≤lim + 1) (h4:na≤a.size) (h5:nb≤b.size) :
  wpS (model prog w) X E s (hiI a b mg ac bc na nb out) (fun r st'=>match r with | .done c=>st'=st∧((∃ M:Array Keyed,c.1=some M∧Good a.toList b.toList M.toList)∨Hi1 a b lim c.1 c.2.1 c.2.2.1 c.2.2.2.1) | .yield c=>st'=st∧Hi1 a b lim c.1 c.2.1 c.2.2.1 c.2.2.2.1) st:=by
 obtain⟨q,eq1,eq2⟩:=zaP (a:=b) (i:=nb - 1) (by lia)
 obtain⟨p,ep1,ep2⟩:=zaP (a:=a) (i:=na - 1) (by lia)
 refine wpS_bind (zay eq1 (wpS_bind (zay ep1 (wpS_bind (zhx hk (hb q (List.mem_of_getElem? eq2)) (ha p (List.mem_of_getElem? ep2)) ?_)))))
 by_cases hlt:key q < key p
 ·refine zap (decide_eq_true hlt) (wpS_bind (zay ep1 ?_))
  have hM':=zpJ sa hM h1 ep1 fun x hx=>by
   obtain⟨j,hj,ej⟩:=zcS hx
   exact Int.le_trans (sb.get (i:=j) (j:=nb - 1) (Nat.le_sub_one_of_lt hj) ej eq2) (Int.le_of_lt hlt)
  by_cases e3:(na - 1 == 0)=true
  ·exact zap e3 (wpS_pure ⟨rfl,.inl ⟨_,rfl,zkC sa sb hM' (by simpa using e3)⟩⟩)
  ·have l:Hi1 a b lim none (na - 1) nb (out.push p):=⟨rfl,hM',Nat.pos_of_ne_zero (by simpa using e3),h2,(by lia),Nat.le_trans (Nat.sub_le _ _) h4,h5⟩
   refine zan e3 ?_
   split
   ·exact wpS_pure ⟨rfl,.inr l⟩
   ·exact wpS_pure ⟨rfl,l⟩
 ·refine zan (by simpa using hlt) (wpS_bind (zay eq1 ?_))
  have hM':=zrh sb hM (Nat.zero_lt_of_lt h2) eq1 fun x hx=>by
   obtain⟨j,hj,ej⟩:=zcS hx
   exact Int.le_trans (sa.get (i:=j) (j:=na - 1) (Nat.le_sub_one_of_lt hj) ej ep2) (Int.not_lt.mp hlt)
  by_cases e3:(nb - 1 == 1)=true
  ·exact zap e3 (wpS_pure ⟨rfl,.inl ⟨_,rfl,zkB sa sb eb h0 hM' (by simpa using e3)⟩⟩)
  ·have e3':nb - 1≠1:=by simpa using e3
   have l:Hi1 a b lim none na (nb - 1) (out.push q):=⟨rfl,hM',h1,(by lia),(by lia),h4,Nat.le_trans (Nat.sub_le _ _) h5⟩
   refine zan e3 ?_
   split
   ·exact wpS_pure ⟨rfl,.inr l⟩
   ·exact wpS_pure ⟨rfl,l⟩
theorem zjO (hk:kindOf st=oneType') (ha:∀ p∈a.toList,IntK p) (hb:∀ p∈b.toList,IntK p) (sa:Sr a.toList) (sb:Sr b.toList) (eb:b[0]? = some b0) (h0:∀ y∈a.toList,key b0 < key y)
  {mg ac bc na nb:Nat} {out:Array Keyed} (hG:SameG st st2) (hM:MH a.toList b.toList out.reverse.toList na nb) (h1:0 < na) (h2:1 < nb) (h3:na + nb≤lim) (h4:na≤a.size) (h5:nb≤b.size) :
  wpS (model prog w) X E s (hiT0 a b mg ac bc na nb out) (fun r st'=>match r with | .done c'=>HiE a b st lim c' st' | .yield c'=>HiQ a b st lim c' st') st2:=by
 obtain⟨q,eq1,eq2⟩:=zaP (a:=b) (i:=nb - 1) (by lia)
 refine wpS_bind (zay eq1 (wpS_bind (zgP (hG.kind.trans hk) (hb q (List.mem_of_getElem? eq2)) ha sa (by lia) (Nat.sub_one_lt_of_lt h1) fun m hm1 hA1 hA2=>?_)))
 simp only [Bool.false_eq_true,if_false,Nat.zero_add] at hA1 hA2
 have rest:∀ x∈a.toList.take m,key x≤key q:=fun x hx=>by
  obtain⟨j,hj,ej⟩:=zcS hx
  exact hA1 j x hj (by rw [← Array.getElem?_toList];exact ej)
 by_cases hk0:na - m > 0
 ·refine zap hk0 ?_
  have hM3:MH a.toList b.toList (out ++ (a.extract m na).reverse).reverse.toList m nb:=by
   have z:=hM.manyA sa hm1 (fun x hx y hy=>by
    obtain⟨j,hj,ej⟩:=zaS hy
    have z1:=hA2 (m + j) y (Nat.le_add_right m j) (by lia) (by rw [← Array.getElem?_toList];exact ej)
    obtain⟨i,hi,ei⟩:=zcS hx
    exact Int.le_trans (sb.get (i:=i) (j:=nb - 1) (Nat.le_sub_one_of_lt hi) ei eq2) (Int.le_of_lt z1))
   simpa [List.extract_eq_take_drop] using z
  by_cases e4:(m == 0)=true
  ·exact zap e4 (wpS_pure ⟨hG,.inl ⟨_,rfl,zkC sa sb hM3 (by simpa using e4)⟩⟩)
  ·exact zan e4 (wpS_mono (zjN (lim:=lim) hk ha hb sa sb eb h0 hG hM3 eq1 (Nat.pos_of_ne_zero (by simpa using e4)) h2 (by lia) (Nat.le_trans hm1 h4) h5 rest) fun r st' z=>by cases r <;> exact z)
 ·have e:m=na:=by lia
  subst e
  exact zan hk0 (wpS_mono (zjN (lim:=lim) hk ha hb sa sb eb h0 hG hM eq1 h1 h2 h3 h4 h5 rest) fun r st' z=>by cases r <;> exact z)
theorem ziI {Q:Array Keyed→SortSt→Prop} (hk:kindOf st=oneType') (ha:∀ p∈a.toList,IntK p) (hb:∀ p∈b.toList,IntK p) (sa:Sr a.toList) (sb:Sr b.toList)
  (na0:0 < a.size) (nb0:0 < b.size) (h0':∀ q,b[0]? = some q→∀ y∈a.toList,key q < key y) (hl:∀ p,a[a.size - 1]? = some p→∀ x∈b.toList,key x < key p)
  (h:∀ (M:Array Keyed) st',SameG st st'→Good a.toList b.toList M.toList→Q M st'):wpS (model prog w) X E s (zn6 a b) Q st:=by
 obtain⟨la,ela,ela'⟩:=zaP (a:=a) (i:=a.size - 1) (by lia)
 have hlast:=hl la ela
 obtain⟨b0,eb,eb'⟩:=zaP (a:=b) (i:=0) nb0
 have h0:=h0' b0 eb
 refine wpS_bind (wpS_lift (wpAny_rule ⟨rfl,?_⟩))
 refine wpS_bind (zay ela ?_)
 have M0:MH a.toList b.toList (#[la]:Array Keyed).reverse.toList (a.size - 1) b.size:=by
  have z:MH a.toList b.toList (#[]:Array Keyed).reverse.toList a.size b.size:=by
   have e:(#[]:Array Keyed).reverse.toList=[]:=by simp
   rw [e]
   refine ⟨?_,List.Pairwise.nil,(fun x _ y hy=>by cases hy),(fun x _ y hy=>by cases hy)⟩
   rw [List.drop_eq_nil_of_le (by simp),List.drop_eq_nil_of_le (by simp)]
   exact List.Perm.refl _
  exact zpJ sa z na0 ela fun x hx=>Int.le_of_lt (hlast x (List.mem_of_mem_take hx))
 by_cases e1:(a.size - 1 == 0)=true
 ·exact zap e1 (wpS_pure (h _ _ (.refl _) (zkC sa sb M0 (by simpa using e1))))
 refine zan e1 ?_
 have e1':a.size - 1≠0:=by simpa using e1
 by_cases e2:(b.size == 1)=true
 ·exact zap e2 (wpS_pure (h _ _ (.refl _) (zkB sa sb eb h0 M0 (by simpa using e2))))
 refine zan e2 ?_
 have e2':b.size≠1:=by simpa using e2
 refine wpS_bind (wpS_get ?_)
 refine wpS_bind (wpS_mono (wpS_forRange (a:=0) (b:=a.size + b.size)
  (I:=fun x c st'=>SameG st st'∧Hi1 a b (a.size + b.size - x - 1) c.1 c.2.1 c.2.2.1 c.2.2.2.1)
  (Q:=fun c st'=>SameG st st'∧∃ M:Array Keyed,c.1=some M∧Good a.toList b.toList M.toList) ?step ?fin ?init) ?post)
 case init=>exact⟨.refl _,rfl,M0,Nat.pos_of_ne_zero e1',Nat.lt_of_le_of_ne nb0 (Ne.symm e2'),(by dsimp only;lia),Nat.sub_le _ _,Nat.le_refl _⟩
 case fin =>
  rintro ⟨r,na,nb,out,mg⟩ st' ⟨hG,e,hM,h1,h2,h3,_⟩
  dsimp only at h1 h2 h3
  lia
 case post =>
  rintro ⟨r,na,nb,out,mg⟩ st' ⟨hG,M,e,hM⟩
  cases (show r=some M from e)
  exact wpS_pure (h _ _ hG hM)
 case step =>
  rintro x ⟨r,na,nb,out,mg⟩ st1 _ hx ⟨hG,e,hM,h1,h2,h3,h4⟩
  cases (show r=none from e)
  refine wpS_bind (wpS_mono (wpS_forRange (a:=0) (b:=a.size + b.size)
   (I:=fun y c st'=>st'=st1∧Hi1 a b (na + nb - y) c.1 c.2.1 c.2.2.1 c.2.2.2.1)
   (Q:=fun c st'=>st'=st1∧((∃ M:Array Keyed,c.1=some M∧Good a.toList b.toList M.toList)∨Hi1 a b (na + nb - 1) c.1 c.2.1 c.2.2.1 c.2.2.2.1)) ?istep ?ifin ?iinit) ?ipost)
  case iinit=>exact⟨rfl,rfl,hM,h1,h2,Nat.le_refl _,h4⟩
  case ifin=>exact fun c st' hc=>⟨hc.1,.inr (hc.2.mono (by lia))⟩
  case istep =>
   rintro y ⟨r,na',nb',out,ac,bc⟩ st' _ hy ⟨rfl,e,hM,h1,h2,h3,h4,h5⟩
   cases (show r=none from e)
   exact wpS_mono (zpn (lim:=na + nb - y - 1) (hG.kind.trans hk) ha hb sa sb eb h0 hM h1 h2 (by dsimp only at h3 ⊢;lia) h4 h5) fun r st' z=>by
    cases r with
    | done c=>exact⟨z.1,z.2.imp id fun z=>z.mono (by lia)⟩
    | yield c=>exact z
  case ipost =>
   rintro ⟨r,na1,nb1,out1,ac1,bc1⟩ st' ⟨rfl,⟨M,e,hgood⟩ | ⟨e,hM1,g⟩⟩
   ·cases (show r=some M from e)
    exact wpS_pure ⟨hG,M,rfl,hgood⟩
   cases (show r=none from e)
   refine wpS_bind (wpS_lift (wpAny_rule ⟨rfl,?_⟩))
   refine wpS_bind (wpS_mono (wpS_forRange (a:=0) (b:=a.size + b.size) (I:=fun _ c st'=>HiQ a b st (na + nb - 1) c st') (Q:=fun c st'=>HiE a b st (na + nb - 1) c st') ?jstep ?jfin ?jinit) ?jpost)
   case jinit=>exact⟨hG,rfl,hM1,g⟩
   case jfin=>exact fun c st' hc=>⟨hc.1,.inr hc.2⟩
   case jpost =>
    rintro ⟨r,na2,nb2,out2,mg2,ac2,bc2⟩ st2 ⟨hG2,⟨M,e,hgood⟩ | ⟨e,hM2,k1,k2,k3,k4⟩⟩
    ·cases (show r=some M from e)
     exact wpS_pure ⟨hG2,M,rfl,hgood⟩
    ·cases (show r=none from e)
     exact wpS_bind (wpS_modify (wpS_pure ⟨hG2.set _,rfl,hM2,k1,k2,Nat.le_trans k3 (Nat.sub_le_sub_right h3 1),k4⟩))
   case jstep =>
    rintro y ⟨r,na2,nb2,out2,mg2,ac2,bc2⟩ st2 _ hy ⟨hG2,e,hM2,k1,k2,k3,k4,k5⟩
    cases (show r=none from e)
    by_cases hmg:mg2 > 1
    ·exact zap hmg (wpS_bind (wpS_modify (wpS_mono (zjO hk ha hb sa sb eb h0 (hG2.set _) hM2 k1 k2 k3 k4 k5) fun r st' z=>by cases r <;> exact z)))
    ·exact zan hmg (wpS_bind (wpS_modify (wpS_mono (zjO hk ha hb sa sb eb h0 (hG2.set _) hM2 k1 k2 k3 k4 k5) fun r st' z=>by cases r <;> exact z)))
end
end Srt
namespace Srt
open PySem PyProof.Rows
variable [SK]
structure SB (a₀:Array Keyed) (st:SortSt):Prop where
 perm:(arrOf st).Perm a₀
 kind:kindOf st=oneType'
 failed:failedOf st=none
theorem SB.size {a₀:Array Keyed} {st:SortSt} (h:SB a₀ st):(arrOf st).size=a₀.size:=h.perm.size_eq
theorem SB.setArr {a₀:Array Keyed} {st:SortSt} (h:SB a₀ st) {xs:Array Keyed} (hp:xs.Perm (arrOf st)):SB a₀ (setArr st xs):=⟨hp.trans h.perm,h.kind,h.failed⟩
theorem SB.int {a₀:Array Keyed} {st:SortSt} (h:SB a₀ st) (h0:zbU a₀):∀ p∈(arrOf st).toList,IntK p:=fun p hp=>h0 p ((Array.perm_iff_toList_perm.mp h.perm).mem_iff.mp hp)
theorem SB.at {a₀:Array Keyed} {st:SortSt} (h:SB a₀ st) (h0:zbU a₀) {i:Nat} (hi:i < a₀.size):∃ p,(arrOf st)[i]? = some p∧IntK p∧K (arrOf st) i=key p:=by
 obtain⟨p,e1,e2⟩:=zaP (a:=arrOf st) (i:=i) (by rw [h.size];exact hi)
 exact⟨p,e1,h.int h0 p (List.mem_of_getElem? e2),by unfold K;rw [e1]⟩
def SIn (xs:Array Keyed) (lo n:Nat):Prop:=∀ i j,i≤j→j < n→K xs (lo + i)≤K xs (lo + j)
def NIn (xs:Array Keyed) (lo n:Nat):Prop:=∀ i j,i≤j→j < n→K xs (lo + j)≤K xs (lo + i)
structure Kept (lo:Nat) (st st':SortSt):Prop where
 keys:∀ k,k < lo→K (arrOf st') k=K (arrOf st) k
 pend:pendingOf st'=pendingOf st
theorem Kept.refl (lo:Nat) (st:SortSt):Kept lo st st:=⟨fun _ _=>rfl,rfl⟩
theorem Kept.trans {lo:Nat} {st st1 st2:SortSt} (a:Kept lo st st1) (b:Kept lo st1 st2):Kept lo st st2:=⟨fun k h=>(b.keys k h).trans (a.keys k h),b.pend.trans a.pend⟩
theorem Kept.mirror {lo:Nat} {st:SortSt} {i j:Nat} (hi:lo≤i) (hj:j≤(arrOf st).size):Kept lo st (setArr st (mirror (arrOf st) i j ((j - i) / 2))):=
 ⟨fun k h=>by
  show K (PyProof.Rows.mirror (arrOf st) i j ((j - i) / 2)) k=_
  rw [zeC hj,if_neg (by lia)],rfl⟩
noncomputable def znn:Nat→Nat→StateT SortSt Sem (Option Nat):=sortPriv% PySem.Builtin.countRun
noncomputable def zjo:Nat→Nat→Nat→StateT SortSt Sem Bool:=sortPriv% PySem.Builtin.binarySort
section
variable {prog:Program} {w:World} {X:Around} {E:Value→Shared→Prop} {s:Shared} [SKL prog w X E s] {a₀:Array Keyed}
theorem zd8 {st:SortSt} {i j:Nat} {Q:Option Bool→SortSt→Prop} (hB:SB a₀ st) (h0:zbU a₀) (hi:i < a₀.size) (hj:j < a₀.size) (h:Q (some (decide (K (arrOf st) i < K (arrOf st) j))) st) :
  wpS (model prog w) X E s (ltAt' i j) Q st:=by
 obtain⟨p,e1,hp,k1⟩:=hB.at h0 hi
 obtain⟨q,e2,hq,k2⟩:=hB.at h0 hj
 rw [k1,k2] at h
 rw [ltAt'_eq]
 exact wpS_bind (wpS_get (wpS_bind (zay e1 (wpS_bind (zay e2 (zhx hB.kind hp hq h))))))
theorem zlG {st:SortSt} {lo a nrem:Nat} (h0:zbU a₀) (hB:SB a₀ st) (hn:lo + nrem≤a₀.size) (ha:1≤a) (han:a≤nrem) (hs:SIn (arrOf st) lo a) :
  wpS (model prog w) X E s (forIn [a:nrem] ((none,a):Option (Option Nat)×Nat) fun _ c=>ltAt' (lo + c.2) (lo + c.2 - 1) >>= fun r=>match r with
   | some smaller=>if smaller=true then pure (ForInStep.done (none,c.2)) else pure (ForInStep.yield (none,c.2 + 1))
   | _=>pure (ForInStep.done (some none,c.2)))
   (fun c st'=>st'=st∧∃ n,c=(none,n)∧a≤n∧n≤nrem∧SIn (arrOf st) lo n∧(n=nrem∨K (arrOf st) (lo + n) < K (arrOf st) (lo + n - 1))) st:=by
 refine wpS_forRange (I:=fun x c st'=>st'=st∧c=(none,x)∧SIn (arrOf st) lo x) ?step ?fin ⟨rfl,rfl,hs⟩
 case fin =>
  rintro c st' ⟨rfl,rfl,hs'⟩
  rw [show max a nrem=nrem by lia] at hs' ⊢
  exact⟨rfl,nrem,rfl,han,Nat.le_refl _,hs',.inl rfl⟩
 case step =>
  rintro x c st' hax hxn ⟨rfl,rfl,hs'⟩
  dsimp only
  refine wpS_bind (zd8 hB h0 (by lia) (by lia) ?_)
  by_cases hless:K (arrOf st') (lo + x) < K (arrOf st') (lo + x - 1)
  ·simp only [hless,decide_true,if_true]
   exact wpS_pure ⟨rfl,x,rfl,hax,(by lia),hs',.inr hless⟩
  ·simp only [hless,decide_false,Bool.false_eq_true,if_false]
   refine wpS_pure ⟨rfl,rfl,fun i j hij hj=>?_⟩
   by_cases hjx:j < x
   ·exact hs' i j hij hjx
   ·have hj':j=x:=by lia
    subst hj'
    by_cases hi':i=j
    ·subst hi';exact Int.le_refl _
    ·have z:=hs' i (j - 1) (by lia) (by lia)
     rw [show lo + (j - 1)=lo + j - 1 by lia] at z
     exact Int.le_trans z (Int.not_lt.mp hless)
theorem zjR {st:SortSt} {lo n nrem:Nat} (h0:zbU a₀) (hB:SB a₀ st) (hn:lo + nrem≤a₀.size) (h1:1≤n) (hnn:n≤nrem) (hs:NIn (arrOf st) lo n) :
  wpS (model prog w) X E s (forIn [n:nrem] ((none,n,0):Option (Option Nat)×Nat×Nat) fun _ c=>ltAt' (lo + c.2.1) (lo + c.2.1 - 1) >>= fun r=>match r with
   | some smaller =>
    if smaller=true then
     (if c.2.2 > 0 then reverseSlice' (lo + c.2.1 - (c.2.2 + 1)) (lo + c.2.1) >>= fun _=>pure (ForInStep.yield (none,c.2.1 + 1,0)) else pure (ForInStep.yield (none,c.2.1 + 1,0)))
    else ltAt' (lo + c.2.1 - 1) (lo + c.2.1) >>= fun r=>match r with
     | some larger=>if larger=true then pure (ForInStep.done (none,c.2.1,c.2.2)) else pure (ForInStep.yield (none,c.2.1 + 1,c.2.2 + 1))
     | _=>pure (ForInStep.done (some none,c.2.1,c.2.2))
   | _=>pure (ForInStep.done (some none,c.2.1,c.2.2)))
   (fun c st'=>∃ m neq,c=(none,m,neq)∧SB a₀ st'∧Kept lo st st'∧n≤m∧m≤nrem∧NIn (arrOf st') lo m∧neq + 1≤m∧(∀ i,m - (neq + 1)≤i→i < m→K (arrOf st') (lo + i)=K (arrOf st') (lo + (m - 1)))) st:=by
 refine wpS_forRange (I:=fun x c st'=>∃ neq,c=(none,x,neq)∧SB a₀ st'∧Kept lo st st'∧NIn (arrOf st') lo x∧neq + 1≤x ∧
   (∀ i,x - (neq + 1)≤i→i < x→K (arrOf st') (lo + i)=K (arrOf st') (lo + (x - 1)))) ?step ?fin ⟨0,rfl,hB,.refl _ _,hs,by lia,fun i h1 h2=>by congr 1;lia⟩
 case fin =>
  rintro c st' ⟨neq,rfl,hB',hK,hs',hq,he⟩
  rw [show max n nrem=nrem by lia] at hs' hq he ⊢
  exact⟨nrem,neq,rfl,hB',hK,hnn,Nat.le_refl _,hs',hq,he⟩
 case step =>
  rintro x c st' hax hxn ⟨neq,rfl,hB',hK,hs',hq,he⟩
  dsimp only
  have hsz:lo + x≤(arrOf st').size:=by rw [hB'.size];lia
  have ex:lo + (x - 1)=lo + x - 1:=by lia
  refine wpS_bind (zd8 hB' h0 (by lia) (by lia) ?_)
  by_cases hless:K (arrOf st') (lo + x) < K (arrOf st') (lo + x - 1)
  ·simp only [hless,decide_true,if_true]
   have step1:∀ xs:Array Keyed,(∀ k,K xs k=K (arrOf st') k)→NIn xs lo (x + 1):=by
    intro xs hk i j hij hj
    rw [hk,hk]
    by_cases hjx:j < x
    ·exact hs' i j hij hjx
    ·have hj':j=x:=by lia
     subst hj'
     by_cases hi':i=j
     ·subst hi';exact Int.le_refl _
     ·have z:=hs' i (j - 1) (by lia) (by lia)
      rw [ex] at z
      exact Int.le_trans (Int.le_of_lt hless) z
   by_cases hneq:neq > 0
   ·refine zap hneq ?_
    have hm:∀ k,K (mirror (arrOf st') (lo + x - (neq + 1)) (lo + x) ((lo + x - (lo + x - (neq + 1))) / 2)) k=K (arrOf st') k:=zk1 hsz fun k h1 h2=>by
     have z:=he (k - lo) (by lia) (by lia)
     rw [ex,show lo + (k - lo)=k by lia] at z
     exact z
    refine wpS_bind (wpS_reverse (wpS_pure ⟨0,rfl,hB'.setArr (mirror_perm _ _ _ _),hK.trans (.mirror (by lia) hsz),step1 _ hm,by lia,fun i h1 h2=>by congr 1;lia⟩))
   ·refine zan hneq ?_
    exact wpS_pure ⟨0,rfl,hB',hK,step1 _ (fun _=>rfl),by lia,fun i h1 h2=>by congr 1;lia⟩
  ·simp only [hless,decide_false,Bool.false_eq_true,if_false]
   refine wpS_bind (zd8 hB' h0 (by lia) (by lia) ?_)
   by_cases hlarger:K (arrOf st') (lo + x - 1) < K (arrOf st') (lo + x)
   ·simp only [hlarger,decide_true,if_true]
    exact wpS_pure ⟨x,neq,rfl,hB',hK,hax,(by lia),hs',hq,he⟩
   ·simp only [hlarger,decide_false,Bool.false_eq_true,if_false]
    have heqx:K (arrOf st') (lo + x)=K (arrOf st') (lo + (x - 1)):=by rw [ex];lia
    refine wpS_pure ⟨neq + 1,rfl,hB',hK,fun i j hij hj=>?_,by lia,fun i h1 h2=>?_⟩
    ·by_cases hjx:j < x
     ·exact hs' i j hij hjx
     ·have hj':j=x:=by lia
      subst hj'
      by_cases hi':i=j
      ·subst hi';exact Int.le_refl _
      ·rw [heqx];exact hs' i (j - 1) (by lia) (by lia)
    ·rw [show x + 1 - 1=x by lia]
     by_cases hix:i=x
     ·subst hix;rfl
     ·rw [heqx];exact he i (by lia) (by lia)
theorem zjQ {st:SortSt} {lo n nrem:Nat} {Q:Option Nat→SortSt→Prop} (h0:zbU a₀) (hB:SB a₀ st) (hn:lo + nrem≤a₀.size) (hnn:n + 1≤nrem) (hs:NIn (arrOf st) lo (n + 1))
  (h:∀ m st',SB a₀ st'→Kept lo st st'→1≤m→m≤nrem→SIn (arrOf st') lo m→Q (some m) st')
  {Dloop:StateT SortSt Sem (Option (Option Nat)×Nat×Nat)}
  (hD:wpS (model prog w) X E s Dloop (fun c st'=>∃ m neq,c=(none,m,neq)∧SB a₀ st'∧Kept lo st st'∧n + 1≤m∧m≤nrem∧NIn (arrOf st') lo m∧neq + 1≤m∧(∀ i,m - (neq + 1)≤i→i < m→K (arrOf st') (lo + i)=K (arrOf st') (lo + (m - 1)))) st)
  {rest:Option (Option Nat)×Nat×Nat→StateT SortSt Sem (Option Nat)}
  (hrest:∀ m neq,rest (none,m,neq)=(if neq > 0 then reverseSlice' (lo + m - (neq + 1)) (lo + m) >>= fun _=>reverseSlice' lo (lo + m) >>= fun _=>(forIn [m:nrem] ((none,m):Option (Option Nat)×Nat) fun _ c=>ltAt' (lo + c.2) (lo + c.2 - 1) >>= fun r=>match r with
    | some smaller=>if smaller=true then pure (ForInStep.done (none,c.2)) else pure (ForInStep.yield (none,c.2 + 1))
    | _=>pure (ForInStep.done (some none,c.2))) >>= fun c=>(match c.1 with | some r=>pure r | none=>pure (some c.2))
   else reverseSlice' lo (lo + m) >>= fun _=>(forIn [m:nrem] ((none,m):Option (Option Nat)×Nat) fun _ c=>ltAt' (lo + c.2) (lo + c.2 - 1) >>= fun r=>match r with
    | some smaller=>if smaller=true then pure (ForInStep.done (none,c.2)) else pure (ForInStep.yield (none,c.2 + 1))
    | _=>pure (ForInStep.done (some none,c.2))) >>= fun c=>(match c.1 with | some r=>pure r | none=>pure (some c.2)))) :
  wpS (model prog w) X E s (Dloop >>= rest) Q st:=by
 refine wpS_bind (wpS_mono hD ?_)
 rintro c st1 ⟨m,neq,rfl,hB1,hK1,hm1,hm2,hs1,hq,he⟩
 rw [hrest]
 have hsz:lo + m≤(arrOf st1).size:=by rw [hB1.size];lia
 have fin:∀ st2,SB a₀ st2→Kept lo st st2→NIn (arrOf st2) lo m→wpS (model prog w) X E s (reverseSlice' lo (lo + m) >>= fun _=>(forIn [m:nrem] ((none,m):Option (Option Nat)×Nat) fun _ c=>ltAt' (lo + c.2) (lo + c.2 - 1) >>= fun r=>match r with
    | some smaller=>if smaller=true then pure (ForInStep.done (none,c.2)) else pure (ForInStep.yield (none,c.2 + 1))
    | _=>pure (ForInStep.done (some none,c.2))) >>= fun c=>(match c.1 with | some r=>pure r | none=>pure (some c.2))) Q st2:=by
  intro st2 hB2 hK2 hs2
  have hsz2:lo + m≤(arrOf st2).size:=by rw [hB2.size];lia
  refine wpS_bind (wpS_reverse ?_)
  have hB3:SB a₀ (setArr st2 (mirror (arrOf st2) lo (lo + m) ((lo + m - lo) / 2))):=hB2.setArr (mirror_perm _ _ _ _)
  have hK3:Kept lo st (setArr st2 (mirror (arrOf st2) lo (lo + m) ((lo + m - lo) / 2))):=hK2.trans (.mirror (Nat.le_refl _) hsz2)
  refine wpS_bind (wpS_mono (zlG h0 hB3 hn (by lia) hm2 ?_) ?_)
  ·intro i j hij hj
   show K (mirror (arrOf st2) lo (lo + m) ((lo + m - lo) / 2)) (lo + i)≤K (mirror (arrOf st2) lo (lo + m) ((lo + m - lo) / 2)) (lo + j)
   rw [zeC hsz2,zeC hsz2,if_pos (by lia),if_pos (by lia)]
   have z:=hs2 (m - 1 - j) (m - 1 - i) (by lia) (by lia)
   rw [show lo + (m - 1 - i)=lo + (lo + m) - 1 - (lo + i) by lia,show lo + (m - 1 - j)=lo + (lo + m) - 1 - (lo + j) by lia] at z
   exact z
  ·rintro c st4 ⟨rfl,n4,rfl,g1,g2,g3,_⟩
   exact wpS_pure (h n4 _ hB3 hK3 (by lia) g2 g3)
 by_cases hneq:neq > 0
 ·refine zap hneq ?_
  refine wpS_bind (wpS_reverse ?_)
  refine fin _ (hB1.setArr (mirror_perm _ _ _ _)) (hK1.trans (.mirror (by lia) hsz)) ?_
  intro i j hij hj
  have hm:∀ k,K (mirror (arrOf st1) (lo + m - (neq + 1)) (lo + m) ((lo + m - (lo + m - (neq + 1))) / 2)) k=K (arrOf st1) k:=zk1 hsz fun k h1 h2=>by
   have z:=he (k - lo) (by lia) (by lia)
   rw [show lo + (m - 1)=lo + m - 1 by lia,show lo + (k - lo)=k by lia] at z
   exact z
  show K (mirror (arrOf st1) _ _ _) (lo + j)≤K (mirror (arrOf st1) _ _ _) (lo + i)
  rw [hm,hm]
  exact hs1 i j hij hj
 ·refine zan hneq ?_
  exact fin st1 hB1 hK1 hs1
theorem zgQ {st:SortSt} {lo nrem:Nat} {Q:Option Nat→SortSt→Prop} (h0:zbU a₀) (hB:SB a₀ st) (hn:lo + nrem≤a₀.size) (h1:1≤nrem)
  (h:∀ m st',SB a₀ st'→Kept lo st st'→1≤m→m≤nrem→SIn (arrOf st') lo m→Q (some m) st') :
  wpS (model prog w) X E s (znn lo nrem) Q st:=by
 refine wpS_bind (wpS_mono (zlG h0 hB hn (Nat.le_refl 1) h1 (fun i j hij hj=>by
  have:i=j:=by lia
  subst this
  exact Int.le_refl _)) ?_)
 rintro c st' ⟨rfl,n,rfl,hn1,hn2,hsn,hor⟩
 dsimp only
 by_cases hnn:n=nrem
 ·refine zap (by simpa using hnn) ?_
  exact wpS_pure (h n _ hB (.refl _ _) hn1 hn2 hsn)
 ·refine zan (by simpa using hnn) ?_
  have hlt:K (arrOf st') (lo + n) < K (arrOf st') (lo + n - 1):=hor.resolve_left hnn
  by_cases hgt:n > 1
  ·refine zap hgt ?_
   refine wpS_bind (zd8 hB h0 (by lia) (by lia) ?_)
   by_cases hrose:K (arrOf st') lo < K (arrOf st') (lo + n - 1)
   ·simp only [hrose,decide_true,if_true]
    exact wpS_pure (h n _ hB (.refl _ _) hn1 hn2 hsn)
   ·simp only [hrose,decide_false,Bool.false_eq_true,if_false]
    have hsz:lo + n≤(arrOf st').size:=by rw [hB.size];lia
    have hall:∀ k,lo≤k→k < lo + n→K (arrOf st') k=K (arrOf st') (lo + n - 1):=by
     intro k hk1 hk2
     have a1:=hsn 0 (k - lo) (by lia) (by lia)
     have a2:=hsn (k - lo) (n - 1) (by lia) (by lia)
     rw [show lo + 0=lo by lia,show lo + (k - lo)=k by lia] at a1
     rw [show lo + (k - lo)=k by lia,show lo + (n - 1)=lo + n - 1 by lia] at a2
     lia
    refine wpS_bind (wpS_reverse ?_)
    refine wpS_bind (wpS_lift (wpAny_rule ⟨rfl,?_⟩))
    have hB2:SB a₀ (setArr st' (mirror (arrOf st') lo (lo + n) ((lo + n - lo) / 2))):=hB.setArr (mirror_perm _ _ _ _)
    have hK2:Kept lo st' (setArr st' (mirror (arrOf st') lo (lo + n) ((lo + n - lo) / 2))):=.mirror (Nat.le_refl _) hsz
    have hN2:NIn (arrOf (setArr st' (mirror (arrOf st') lo (lo + n) ((lo + n - lo) / 2)))) lo (n + 1):=by
     intro i j hij hj
     show K (mirror (arrOf st') _ _ _) (lo + j)≤K (mirror (arrOf st') _ _ _) (lo + i)
     rw [zk1 hsz hall,zk1 hsz hall]
     by_cases hjn:j < n
     ·rw [hall (lo + i) (by lia) (by lia),hall (lo + j) (by lia) (by lia)];exact Int.le_refl _
     ·have hj':j=n:=by lia
      subst hj'
      by_cases hi':i=j
      ·subst hi';exact Int.le_refl _
      ·rw [hall (lo + i) (by lia) (by lia)];exact Int.le_of_lt hlt
    exact zjQ h0 hB2 hn (by lia) hN2 (fun m st3 g1 g2 g3 g4 g5=>h m st3 g1 (hK2.trans g2) g3 g4 g5) (zjR h0 hB2 hn (by lia) (by lia) hN2) fun m neq=>by
     dsimp only
     split
     ·congr 1;funext _;congr 1;funext _;congr 1;funext c;obtain⟨r,k⟩:=c;cases r <;> rfl
     ·congr 1;funext _;congr 1;funext c;obtain⟨r,k⟩:=c;cases r <;> rfl
  ·refine zan hgt ?_
   have hn1':n=1:=by lia
   subst hn1'
   refine wpS_bind (wpS_lift (wpAny_rule ⟨rfl,?_⟩))
   have hN2:NIn (arrOf st') lo (1 + 1):=by
    intro i j hij hj
    by_cases hi':i=j
    ·subst hi';exact Int.le_refl _
    ·have hi0:i=0:=by lia
     have hj1:j=1:=by lia
     subst hi0;subst hj1
     rw [show lo + 1 - 1=lo + 0 by lia] at hlt
     exact Int.le_of_lt hlt
   exact zjQ h0 hB hn (by lia) hN2 (fun m st3 g1 g2 g3 g4 g5=>h m st3 g1 g2 g3 g4 g5) (zjR h0 hB hn (by lia) (by lia) hN2) fun m neq=>by
     dsimp only
     split
     ·congr 1;funext _;congr 1;funext _;congr 1;funext c;obtain⟨r,k⟩:=c;cases r <;> rfl
     ·congr 1;funext _;congr 1;funext c;obtain⟨r,k⟩:=c;cases r <;> rfl
end
end Srt
namespace Srt
open PySem PyProof.Rows
variable [SK]
section
variable {prog:Program} {w:World} {X:Around} {E:Value→Shared→Prop} {s:Shared} [SKL prog w X E s] {a₀:Array Keyed}
theorem zfn {st:SortSt} {lo n ok:Nat} {Q:Bool→SortSt→Prop} (h0:zbU a₀) (hB:SB a₀ st) (hn:lo + n≤a₀.size) (hok:ok≤n) (hs:SIn (arrOf st) lo ok)
  (h:∀ st',SB a₀ st'→Kept lo st st'→SIn (arrOf st') lo n→Q true st'):wpS (model prog w) X E s (zjo lo n ok) Q st:=by
 refine wpS_bind (wpS_mono (wpS_forRange (I:=fun k c st'=>c=(none,())∧SB a₀ st'∧Kept lo st st'∧SIn (arrOf st') lo (min k n))
  (Q:=fun c st'=>c=(none,())∧SB a₀ st'∧Kept lo st st'∧SIn (arrOf st') lo n) ?step ?fin ?init) ?post)
 case post =>
  rintro c st' ⟨rfl,hB',hK',hs'⟩
  exact wpS_pure (h st' hB' hK' hs')
 case init =>
  refine ⟨rfl,hB,.refl _ _,fun i j hij hj=>?_⟩
  by_cases h1:ok=0
  ·have:i=j:=by lia
   subst this;exact Int.le_refl _
  ·exact hs i j hij (by lia)
 case fin =>
  rintro c st' ⟨hc,hB',hK',hs'⟩
  refine ⟨hc,hB',hK',?_⟩
  rwa [show min (max (max ok 1) n) n=n by lia] at hs'
 case step =>
  rintro k c st' hak hkn ⟨rfl,hB',hK',hs'⟩
  rw [show min k n=k by lia] at hs'
  refine wpS_bind (wpS_mono (wpS_forRange (I:=fun x c st''=>st''=st'∧∃ l r,c=(none,l,r)∧l≤r∧r≤k∧r - l≤k - x ∧
    (∀ i,i < l→K (arrOf st') (lo + i)≤K (arrOf st') (lo + k))∧(∀ i,r≤i→i < k→K (arrOf st') (lo + k) < K (arrOf st') (lo + i)))
   (Q:=fun c st''=>st''=st'∧∃ l r,c=(none,l,r)∧l≤k ∧
    (∀ i,i < l→K (arrOf st') (lo + i)≤K (arrOf st') (lo + k))∧(∀ i,l≤i→i < k→K (arrOf st') (lo + k) < K (arrOf st') (lo + i))) ?istep ?ifin ?iinit) ?ipost)
  case iinit=>exact⟨rfl,0,k,rfl,by lia,by lia,by lia,fun i hi=>by lia,fun i h1 h2=>by lia⟩
  case ifin =>
   rintro c st'' ⟨rfl,l,r,rfl,hlr,hrk,hm,hlo,hhi⟩
   have:l=r:=by lia
   subst this
   exact⟨rfl,l,l,rfl,hrk,hlo,hhi⟩
  case istep =>
   rintro x c st'' _ hxk ⟨rfl,l,r,rfl,hlr,hrk,hm,hlo,hhi⟩
   dsimp only
   by_cases hge:l≥r
   ·refine zap hge ?_
    have:l=r:=by lia
    subst this
    exact wpS_pure ⟨rfl,l,l,rfl,hrk,hlo,hhi⟩
   ·refine zan hge ?_
    refine wpS_bind (zd8 hB' h0 (by lia) (by lia) ?_)
    by_cases hless:K (arrOf st'') (lo + k) < K (arrOf st'') (lo + (l + r) / 2)
    ·simp only [hless,decide_true,if_true]
     refine wpS_pure ⟨rfl,l,(l + r) / 2,rfl,by lia,by lia,by lia,hlo,fun i h1 h2=>?_⟩
     exact Int.lt_of_lt_of_le hless (hs' _ _ h1 h2)
    ·simp only [hless,decide_false,Bool.false_eq_true,if_false]
     refine wpS_pure ⟨rfl,(l + r) / 2 + 1,r,rfl,by lia,by lia,by lia,fun i h1=>?_,hhi⟩
     exact Int.le_trans (hs' i ((l + r) / 2) (by lia) (by lia)) (Int.not_lt.mp hless)
  case ipost =>
   rintro c st'' ⟨rfl,l,r,rfl,hlk,hlo,hhi⟩
   dsimp only
   have hks:lo + k < (arrOf st'').size:=by rw [hB'.size];lia
   refine wpS_bind (m:=moveDown' (lo + k) (lo + l)) ?_
   rw [moveDown'_eq]
   have eK:∀ i,K (bubble (arrOf st'') (lo + k) (lo + k - (lo + l))) i=if i=lo + l then K (arrOf st'') (lo + k) else if lo + l < i∧i≤lo + k then K (arrOf st'') (i - 1) else K (arrOf st'') i:=fun i=>by
    rw [zoK hks (by lia),show lo + k - (lo + k - (lo + l))=lo + l by lia]
   refine wpS_modify (wpS_pure ⟨rfl,hB'.setArr (bubble_perm _ _ _),hK'.trans ⟨fun i hi=>?_,rfl⟩,?_⟩)
   ·show K (bubble (arrOf st'') (lo + k) (lo + k - (lo + l))) i=_
    rw [eK,if_neg (by lia),if_neg (by lia)]
   ·rw [show min (k + 1) n=k + 1 by lia]
    intro i j hij hj
    show K (bubble (arrOf st'') (lo + k) (lo + k - (lo + l))) (lo + i)≤K (bubble (arrOf st'') (lo + k) (lo + k - (lo + l))) (lo + j)
    rw [eK,eK]
    by_cases c1:i < l
    ·rw [if_neg (by lia),if_neg (by lia)]
     by_cases c2:j < l
     ·rw [if_neg (by lia),if_neg (by lia)];exact hs' i j hij (by lia)
     ·by_cases c3:j=l
      ·rw [if_pos (by lia)];exact hlo i c1
      ·rw [if_neg (by lia),if_pos (by lia),show lo + j - 1=lo + (j - 1) by lia];exact hs' i (j - 1) (by lia) (by lia)
    ·by_cases c2:i=l
     ·rw [if_pos (by lia)]
      by_cases c3:j=l
      ·rw [if_pos (by lia)];exact Int.le_refl _
      ·rw [if_neg (by lia),if_pos (by lia),show lo + j - 1=lo + (j - 1) by lia];exact Int.le_of_lt (hhi (j - 1) (by lia) (by lia))
     ·rw [if_neg (by lia),if_pos (by lia),if_neg (by lia),if_pos (by lia),show lo + i - 1=lo + (i - 1) by lia,show lo + j - 1=lo + (j - 1) by lia]
      exact hs' (i - 1) (j - 1) (by lia) (by lia)
end
theorem zi8 {α:Type} (sa:Nat):∀ (l:List α) (n:Nat) (xs:Array α) (i:Nat),sa + n + l.length≤xs.size →
  ((l.zipIdx n).foldl (fun a x=>match x with | (p,j)=>a.setIfInBounds (sa + j) p) xs)[i]? = if sa + n≤i∧i < sa + n + l.length then l[i - (sa + n)]? else xs[i]?
 | [],n,xs,i,_=>by
  rw [if_neg (by simp <;> lia)]
  rfl
 | p :: l,n,xs,i,h=>by
  rw [List.length_cons] at h
  rw [List.zipIdx_cons,List.foldl_cons,zi8 sa l (n + 1) _ i (by simp;lia)]
  simp only [List.length_cons]
  by_cases h1:sa + (n + 1)≤i∧i < sa + (n + 1) + l.length
  ·rw [if_pos h1,if_pos (by lia),show i - (sa + n)=(i - (sa + (n + 1))) + 1 by lia,List.getElem?_cons_succ]
  ·rw [if_neg h1,Array.getElem?_setIfInBounds]
   by_cases h2:sa + n=i
   ·subst h2
    rw [if_pos rfl,if_pos (by lia),if_pos (by lia),Nat.sub_self,List.getElem?_cons_zero]
   ·rw [if_neg h2,if_neg (by lia)]
theorem zkm {α:Type} (sa:Nat):∀ (l:List α) (n:Nat) (xs:Array α),((l.zipIdx n).foldl (fun a x=>match x with | (p,j)=>a.setIfInBounds (sa + j) p) xs).size=xs.size
 | [],_,_=>rfl
 | p :: l,n,xs=>by
  rw [List.zipIdx_cons,List.foldl_cons,zkm sa l (n + 1)]
  simp
theorem zoa {α:Type} {sa:Nat} {l:List α} {xs:Array α} (h:sa + l.length≤xs.size) :
  (l.zipIdx.foldl (fun a x=>match x with | (p,j)=>a.setIfInBounds (sa + j) p) xs).toList=xs.toList.take sa ++ l ++ xs.toList.drop (sa + l.length):=by
 apply List.ext_getElem?
 intro i
 have hx:xs.toList.length=xs.size:=by simp
 rw [Array.getElem?_toList,zi8 sa l 0 xs i (by lia)]
 simp only [Nat.add_zero]
 by_cases h1:i < sa
 ·rw [if_neg (by lia),List.append_assoc,List.getElem?_append_left (by rw [List.length_take];lia),List.getElem?_take_of_lt h1,Array.getElem?_toList]
 ·by_cases h2:i < sa + l.length
  ·rw [if_pos (by lia),List.append_assoc,List.getElem?_append_right (by rw [List.length_take];lia),List.getElem?_append_left (by rw [List.length_take];lia),List.length_take,show min sa xs.toList.length=sa by lia]
  ·rw [if_neg (by lia),List.getElem?_append_right (by rw [List.length_append,List.length_take];lia),List.length_append,List.length_take,show min sa xs.toList.length=sa by lia,List.getElem?_drop,Array.getElem?_toList]
   congr 1
   lia
theorem zd1 {xs:Array Keyed} {lo n:Nat} (h:lo + n≤xs.size):SIn xs lo n↔Sr ((xs.toList.drop lo).take n):=by
 have hl:((xs.toList.drop lo).take n).length=n:=by rw [List.length_take,List.length_drop];simp;lia
 have kk:∀ i (hi:i < ((xs.toList.drop lo).take n).length),K xs (lo + i)=key ((xs.toList.drop lo).take n)[i]:=fun i hi=>by
  rw [hl] at hi
  obtain⟨p,e1,e2⟩:=zaP (a:=xs) (i:=lo + i) (by lia)
  have e3:((xs.toList.drop lo).take n)[i]? = some p:=by rw [List.getElem?_take_of_lt hi,List.getElem?_drop];exact e2
  obtain⟨hi',e4⟩:=List.getElem?_eq_some_iff.mp e3
  rw [e4]
  unfold K
  rw [e1]
 constructor
 ·intro hs
  refine List.pairwise_iff_getElem.mpr fun i j hi hj hij=>?_
  rw [← kk i hi,← kk j hj]
  exact hs i j (by lia) (by lia)
 ·intro hs i j hij hj
  rw [kk i (by lia),kk j (by lia)]
  by_cases e:i=j
  ·subst e;exact Int.le_refl _
  ·exact List.pairwise_iff_getElem.mp hs i j (by lia) (by lia) (by lia)
end Srt
namespace Srt
open PySem PyProof.Rows
variable [SK]
noncomputable def zg7:Nat→StateT SortSt Sem Bool:=sortPriv% PySem.Builtin.mergeAt
noncomputable def Cov (xs:Array Keyed):Nat→List (Nat×Nat×Nat)→Nat→Prop
 | s,[],e=>s=e
 | s,(b,n,_) :: r,e=>b=s∧1≤n∧SIn xs b n∧Cov xs (s + n) r e
theorem Cov.le {xs:Array Keyed}:∀ {l:List (Nat×Nat×Nat)} {s e:Nat},Cov xs s l e→s + l.length≤e
 | [],s,e,h=>by
  have h':s=e:=h
  subst h'
  exact Nat.le_refl _
 | (b,n,p) :: r,s,e,h=>by
  obtain⟨_,h1,_,h2⟩:=h
  have:=Cov.le h2
  rw [List.length_cons]
  lia
theorem Cov.append {xs:Array Keyed}:∀ {l₁ l₂:List (Nat×Nat×Nat)} {s e:Nat},Cov xs s (l₁ ++ l₂) e↔∃ m,Cov xs s l₁ m∧Cov xs m l₂ e
 | [],l₂,s,e=>by
  constructor
  ·intro h;exact⟨s,rfl,h⟩
  ·rintro ⟨m,h1,h2⟩
   have h1':s=m:=h1
   subst h1'
   exact h2
 | (b,n,p) :: r,l₂,s,e=>by
  constructor
  ·rintro ⟨h1,h2,h3,h4⟩
   obtain⟨m,h5,h6⟩:=Cov.append.mp h4
   exact⟨m,⟨h1,h2,h3,h5⟩,h6⟩
  ·rintro ⟨m,⟨h1,h2,h3,h5⟩,h6⟩
   exact⟨h1,h2,h3,Cov.append.mpr ⟨m,h5,h6⟩⟩
theorem Cov.congr {xs ys:Array Keyed}:∀ {l:List (Nat×Nat×Nat)} {s e:Nat},(∀ k,s≤k→k < e→K ys k=K xs k)→Cov xs s l e→Cov ys s l e
 | [],_,_,_,h=>h
 | (b,n,p) :: r,s,e,hk,h=>by
  obtain⟨h1,h2,h3,h4⟩:=h
  have hle:=h4.le
  refine ⟨h1,h2,fun i j hij hj=>?_,Cov.congr (fun k a b=>hk k (by lia) b) h4⟩
  rw [hk _ (by lia) (by lia),hk _ (by lia) (by lia)]
  exact h3 i j hij hj
theorem zlg {α:Type} {p:Array α} {l₁ l₂:List α} {a b v:α} (h:p.toList=l₁ ++ a :: b :: l₂):((p.setIfInBounds l₁.length v).eraseIdxIfInBounds (l₁.length + 1)).toList=l₁ ++ v :: l₂:=by
 obtain⟨pl⟩:=p
 have h':pl=l₁ ++ a :: b :: l₂:=h
 subst h'
 rw [List.setIfInBounds_toArray,List.eraseIdxIfInBounds_toArray]
 show ((l₁ ++ a :: b :: l₂).set l₁.length v).eraseIdx (l₁.length + 1)=_
 rw [List.set_append_right _ _ (Nat.le_refl _),Nat.sub_self,List.set_cons_zero,List.eraseIdx_append_of_length_le (by lia)]
 simp
theorem zsG {α:Type} (P M T:List α) (n:Nat) (h:P.length + M.length≤n):(P ++ (M ++ T)).take n=P ++ M ++ T.take (n - P.length - M.length):=by
 rw [List.take_append,List.take_of_length_le (by lia),List.take_append,List.take_of_length_le (by lia),List.append_assoc]
theorem K_of {xs:Array Keyed} {i:Nat} {z:Keyed} (e:xs.toList[i]? = some z):K xs i=key z:=by
 rw [Array.getElem?_toList] at e
 unfold K
 rw [e]
theorem znC {a:Array Keyed} {base n:Nat} (sa:SIn a base n) (left:Bool) (k:Keyed) (hn:base + n≤a.size):∀ i j,i≤j→j < n→ask left k a base j=true→ask left k a base i=true:=by
 intro i j hij hj h
 obtain⟨p,e1,e2⟩:=zaP (a:=a) (i:=base + i) (by lia)
 obtain⟨q,e3,e4⟩:=zaP (a:=a) (i:=base + j) (by lia)
 have hle:=sa i j hij hj
 rw [K_of e2,K_of e4] at hle
 unfold ask at h ⊢
 rw [e1]
 rw [e3] at h
 cases left with
 | true =>
  simp only [if_true,decide_eq_true_eq] at h ⊢
  lia
 | false =>
  simp only [Bool.false_eq_true,if_false,Bool.not_eq_true',decide_eq_false_iff_not] at h ⊢
  lia
section
variable {prog:Program} {w:World} {X:Around} {E:Value→Shared→Prop} {s:Shared} [SKL prog w X E s] {a₀:Array Keyed}
theorem zjP {left:Bool} {k:Keyed} {a:Array Keyed} {base n hint:Nat} {st:SortSt} {Q:Option Nat→SortSt→Prop} (hk:kindOf st=oneType') (hkey:IntK k) (ha:∀ p∈a.toList,IntK p) (sa:SIn a base n)
  (hb:base + n≤a.size) (hn:hint < n)
  (h:∀ m,m≤n→(∀ i,i < m→if left then K a (base + i) < key k else K a (base + i)≤key k)→(∀ i,m≤i→i < n→if left then key k≤K a (base + i) else key k < K a (base + i))→Q (some m) st) :
  wpS (model prog w) X E s (zdU left k a base n hint) Q st:=by
 refine zgg hk hkey (fun i hi=>?_) hn (znC sa left k hb) fun m hm h1 h2=>h m hm (fun i hi=>?_) fun i hi hi'=>?_
 ·obtain⟨q,e1,e2⟩:=zaP (a:=a) (i:=base + i) (by lia)
  exact⟨q,e1,ha q (List.mem_of_getElem? e2)⟩
 ·obtain⟨q,e1,e2⟩:=zaP (a:=a) (i:=base + i) (by lia)
  have:=h1 i hi
  unfold ask at this
  rw [e1] at this
  rw [K_of e2]
  cases left with
  | true=>simpa using this
  | false=>simpa using this
 ·obtain⟨q,e1,e2⟩:=zaP (a:=a) (i:=base + i) (by lia)
  have:=h2 i hi hi'
  unfold ask at this
  rw [e1] at this
  rw [K_of e2]
  cases left with
  | true=>simpa using this
  | false=>simpa using this
end
section
variable {prog:Program} {w:World} {X:Around} {E:Value→Shared→Prop} {s:Shared} [SKL prog w X E s] {a₀:Array Keyed}
theorem ziJ {st:SortSt} {l₁ l₂:List (Nat×Nat×Nat)} {sa na pw sb nb pb e:Nat} {Q:Bool→SortSt→Prop} (hp:(pendingOf st).toList=l₁ ++ (sa,na,pw) :: (sb,nb,pb) :: l₂)
  (h0:zbU a₀) (hB:SB a₀ st) (hC:Cov (arrOf st) 0 (pendingOf st).toList e) (he:e≤a₀.size)
  (h:∀ st',SB a₀ st'→Cov (arrOf st') 0 (pendingOf st').toList e→(pendingOf st').toList=l₁ ++ (sa,na + nb,pw) :: l₂→(∀ k,e≤k→K (arrOf st') k=K (arrOf st) k)→Q true st') :
  wpS (model prog w) X E s (zg7 l₁.length) Q st:=by
 obtain⟨m1,hC1,hsa,hna,sA,hsb,hnb,sB,hC2⟩:=Cov.append.mp (hp ▸ hC)
 have hsa':sa=m1:=hsa
 have hsb':sb=m1 + na:=hsb
 subst hsa' hsb'
 have hle2:=hC2.le
 have hsz:=hB.size
 have hint:=hB.int h0
 have hLs:(arrOf st).toList.length=(arrOf st).size:=by simp
 have fin:∀ st',SB a₀ st'→(pendingOf st').toList=l₁ ++ (sa,na + nb,pw) :: l₂→(∀ k,k < sa∨sa + na + nb≤k→K (arrOf st') k=K (arrOf st) k)→SIn (arrOf st') sa (na + nb)→Q true st':=by
  intro st' hB' hp' hK' hS'
  refine h st' hB' ?_ hp' fun k hk=>hK' k (.inr (by lia))
  rw [hp']
  refine Cov.append.mpr ⟨sa,hC1.congr fun k _ hk=>hK' k (.inl hk),rfl,by lia,hS',?_⟩
  rw [← Nat.add_assoc]
  exact hC2.congr fun k hk _=>hK' k (.inr hk)
 have e1:(pendingOf st)[l₁.length]? = some (sa,na,pw):=by
  rw [← Array.getElem?_toList,hp,List.getElem?_append_right (Nat.le_refl _),Nat.sub_self];rfl
 have e2:(pendingOf st)[l₁.length + 1]? = some (sa + na,nb,pb):=by
  rw [← Array.getElem?_toList,hp,List.getElem?_append_right (by lia),show l₁.length + 1 - l₁.length=1 by lia];rfl
 have hpm:=zlg (v:=(sa,na + nb,pw)) hp
 have hSS:SIn (arrOf st) sa na:=sA
 have hSB':SIn (arrOf st) (sa + na) nb:=sB
 have lA:=(zd1 (xs:=arrOf st) (lo:=sa) (n:=na) (by lia)).mp hSS
 have lB:=(zd1 (xs:=arrOf st) (lo:=sa + na) (n:=nb) (by lia)).mp hSB'
 refine wpS_bind (wpS_get ?_)
 rw [e1,e2]
 dsimp only
 refine wpS_bind (m:=set _) ?_
 show wpS _ _ _ _ (modify fun _=>_) _ _
 refine wpS_modify ?_
 have KS:∀ i,i < (arrOf st).size→∃ p,(arrOf st)[i]? = some p∧(arrOf st).toList[i]? = some p∧IntK p∧K (arrOf st) i=key p:=fun i hi=>by
  obtain⟨p,q1,q2⟩:=zaP (a:=arrOf st) (i:=i) hi
  exact⟨p,q1,q2,hint p (List.mem_of_getElem? q2),K_of q2⟩
 obtain⟨b0,eb,eb2,ib0,kb0⟩:=KS (sa + na) (by lia)
 refine wpS_bind (zay eb (wpS_bind (zjP (a:=arrOf st) hB.kind ib0 hint hSS (by lia) (by lia) fun k hk1 fA0 gA0=>?_)))
 have fA:∀ i,i < k→K (arrOf st) (sa + i)≤K (arrOf st) (sa + na):=fun i hi=>by
  rw [kb0]
  simpa using fA0 i hi
 have gA:∀ i,k≤i→i < na→K (arrOf st) (sa + na) < K (arrOf st) (sa + i):=fun i hi hi'=>by
  rw [kb0]
  simpa using gA0 i hi hi'
 clear fA0 gA0
 dsimp only
 have hB1:SB a₀ (setPending st (((pendingOf st).setIfInBounds l₁.length (sa,na + nb,pw)).eraseIdxIfInBounds (l₁.length + 1))):=⟨hB.perm,hB.kind,hB.failed⟩
 by_cases c1:(na - k == 0)=true
 ·refine zap c1 ?_
  have c1':na - k=0:=by simpa using c1
  refine wpS_pure (fin _ hB1 hpm (fun _ _=>rfl) fun i j hij hj=>?_)
  show K (arrOf st) (sa + i)≤K (arrOf st) (sa + j)
  by_cases d1:j < na
  ·exact hSS i j hij d1
  ·by_cases d2:i < na
   ·have z1:=fA i (by lia)
    have z2:=hSB' 0 (j - na) (by lia) (by lia)
    rw [Nat.add_zero,show sa + na + (j - na)=sa + j by lia] at z2
    lia
   ·have z2:=hSB' (i - na) (j - na) (by lia) (by lia)
    rw [show sa + na + (j - na)=sa + j by lia,show sa + na + (i - na)=sa + i by lia] at z2
    exact z2
 refine zan c1 ?_
 have c1':na - k≠0:=by simpa using c1
 have ei:sa + k + (na - k) - 1=sa + na - 1:=by lia
 obtain⟨al,ea,ea2,ia0,ka0⟩:=KS (sa + na - 1) (by lia)
 refine wpS_bind (zay (p:=al) (by rw [ei];exact ea) (wpS_bind (zjP (a:=arrOf st) hB.kind ia0 hint hSB' (by lia) (by lia) fun m hm1 fB0 gB0=>?_)))
 have fB:∀ i,i < m→K (arrOf st) (sa + na + i) < K (arrOf st) (sa + na - 1):=fun i hi=>by
  rw [ka0]
  simpa using fB0 i hi
 have gB:∀ i,m≤i→i < nb→K (arrOf st) (sa + na - 1)≤K (arrOf st) (sa + na + i):=fun i hi hi'=>by
  rw [ka0]
  simpa using gB0 i hi hi'
 clear fB0 gB0
 dsimp only
 by_cases c2:(m == 0)=true
 ·refine zap c2 ?_
  have c2':m=0:=by simpa using c2
  refine wpS_pure (fin _ hB1 hpm (fun _ _=>rfl) fun i j hij hj=>?_)
  show K (arrOf st) (sa + i)≤K (arrOf st) (sa + j)
  by_cases d1:j < na
  ·exact hSS i j hij d1
  ·by_cases d2:i < na
   ·have z1:=gB (j - na) (by lia) (by lia)
    have z2:=hSS i (na - 1) (by lia) (by lia)
    rw [show sa + (na - 1)=sa + na - 1 by lia] at z2
    rw [show sa + na + (j - na)=sa + j by lia] at z1
    lia
   ·have z2:=hSB' (i - na) (j - na) (by lia) (by lia)
    rw [show sa + na + (j - na)=sa + j by lia,show sa + na + (i - na)=sa + i by lia] at z2
    exact z2
 refine zan c2 ?_
 have c2':m≠0:=by simpa using c2
 have xl:((arrOf st).extract (sa + k) (sa + na)).toList=((arrOf st).toList.drop (sa + k)).take (na - k):=by
  simp only [Array.toList_extract,List.extract_eq_take_drop]
  congr 1
  lia
 have yl:((arrOf st).extract (sa + na) (sa + na + m)).toList=((arrOf st).toList.drop (sa + na)).take m:=by
  simp only [Array.toList_extract,List.extract_eq_take_drop]
  congr 1
  lia
 have xs:((arrOf st).extract (sa + k) (sa + na)).size=na - k:=by simp;lia
 have ys:((arrOf st).extract (sa + na) (sa + na + m)).size=m:=by simp;lia
 have inx:∀ z∈((arrOf st).extract (sa + k) (sa + na)).toList,∃ j,j < na - k∧K (arrOf st) (sa + k + j)=key z∧IntK z:=fun z hz=>by
  rw [xl] at hz
  obtain⟨j,hj,ej⟩:=zaS hz
  exact⟨j,hj,K_of ej,hint z (List.mem_of_getElem? ej)⟩
 have iny:∀ z∈((arrOf st).extract (sa + na) (sa + na + m)).toList,∃ j,j < m∧K (arrOf st) (sa + na + j)=key z∧IntK z:=fun z hz=>by
  rw [yl] at hz
  obtain⟨j,hj,ej⟩:=zaS hz
  exact⟨j,hj,K_of ej,hint z (List.mem_of_getElem? ej)⟩
 have sx:Sr ((arrOf st).extract (sa + k) (sa + na)).toList:=by
  rw [xl]
  refine (zd1 (by lia)).mp fun i j hij hj=>?_
  have z:=hSS (k + i) (k + j) (by lia) (by lia)
  rw [← Nat.add_assoc,← Nat.add_assoc] at z
  exact z
 have sy:Sr ((arrOf st).extract (sa + na) (sa + na + m)).toList:=by
  rw [yl]
  exact (zd1 (by lia)).mp fun i j hij hj=>hSB' i j hij (by lia)
 have hy0:∀ q,((arrOf st).extract (sa + na) (sa + na + m))[0]? = some q→∀ z∈((arrOf st).extract (sa + k) (sa + na)).toList,key q < key z:=fun q hq z hz=>by
  have e:=zbY hq
  rw [yl,List.getElem?_take_of_lt (by lia),List.getElem?_drop,Nat.add_zero] at e
  obtain⟨j,hj,kz,_⟩:=inx z hz
  have z1:=gA (k + j) (by lia) (by lia)
  rw [← Nat.add_assoc,kz,K_of e] at z1
  exact z1
 have hxl:∀ p,((arrOf st).extract (sa + k) (sa + na))[((arrOf st).extract (sa + k) (sa + na)).size - 1]? = some p→∀ z∈((arrOf st).extract (sa + na) (sa + na + m)).toList,key z < key p:=fun p hp z hz=>by
  have e:=zbY hp
  rw [xs,xl,List.getElem?_take_of_lt (by lia),List.getElem?_drop,show sa + k + (na - k - 1)=sa + na - 1 by lia] at e
  obtain⟨j,hj,kz,_⟩:=iny z hz
  have z1:=fB j hj
  rw [kz,K_of e] at z1
  exact z1
 have last:∀ (M:Array Keyed) st',SameG (setPending st (((pendingOf st).setIfInBounds l₁.length (sa,na + nb,pw)).eraseIdxIfInBounds (l₁.length + 1))) st'→Good ((arrOf st).extract (sa + k) (sa + na)).toList ((arrOf st).extract (sa + na) (sa + na + m)).toList M.toList →
   Q true (PyProof.Rows.setArr st' (M.toList.zipIdx.foldl (fun a x=>match x with | (p,j)=>a.setIfInBounds (sa + k + j) p) (arrOf st'))):=by
  intro M st' hG ⟨gp,gs⟩
  have eA:arrOf st'=arrOf st:=hG.arr
  have eP:(pendingOf st').toList=l₁ ++ (sa,na + nb,pw) :: l₂:=by rw [hG.pend];exact hpm
  have lM:M.toList.length=na - k + m:=by
   have:=gp.length_eq
   rw [this,List.length_append,Array.length_toList,Array.length_toList,xs,ys]
  have newL:=zoa (sa:=sa + k) (l:=M.toList) (xs:=arrOf st) (by lia)
  have hsplit:(arrOf st).toList=(arrOf st).toList.take (sa + k) ++ (((arrOf st).extract (sa + k) (sa + na)).toList ++ ((arrOf st).extract (sa + na) (sa + na + m)).toList) ++ (arrOf st).toList.drop (sa + k + M.toList.length):=by
   have e:((arrOf st).extract (sa + k) (sa + na)).toList ++ ((arrOf st).extract (sa + na) (sa + na + m)).toList=((arrOf st).toList.drop (sa + k)).take (na - k + m):=by
    rw [xl,yl,List.take_add,List.drop_drop]
    congr 2
    congr 1
    lia
   rw [e,lM,← List.take_add,List.take_append_drop]
  have eNew:arrOf (PyProof.Rows.setArr st' (M.toList.zipIdx.foldl (fun a x=>match x with | (p,j)=>a.setIfInBounds (sa + k + j) p) (arrOf st')))=M.toList.zipIdx.foldl (fun a x=>match x with | (p,j)=>a.setIfInBounds (sa + k + j) p) (arrOf st):=by
   show M.toList.zipIdx.foldl _ (arrOf st')=_
   rw [eA]
  generalize hN:M.toList.zipIdx.foldl (fun a x=>match x with | (p,j)=>a.setIfInBounds (sa + k + j) p) (arrOf st)=N at eNew newL
  have szN:N.size=(arrOf st).size:=by rw [← hN];exact zkm _ _ _ _
  have getN:∀ i,i < sa + k∨sa + na + m≤i→N[i]? = (arrOf st)[i]?:=fun i hi=>by
   rw [← hN,zi8 (sa + k) M.toList 0 (arrOf st) i (by lia),if_neg (by lia)]
  have perm:N.Perm (arrOf st):=by
   refine Array.perm_iff_toList_perm.mpr ?_
   rw [newL]
   conv=>rhs;rw [hsplit]
   exact (gp.append_left _).append_right _
  refine fin _ ⟨by rw [eNew];exact perm.trans hB.perm,hG.kind.trans hB.kind,hG.failed.trans hB.failed⟩ eP (fun i hi=>?_) ?_
  ·rw [eNew]
   exact zeR (getN i (by lia))
  ·rw [eNew]
   refine (zd1 (by lia)).mpr ?_
   have e3:(N.toList.drop sa).take (na + nb)=((arrOf st).toList.drop sa).take k ++ M.toList ++ ((arrOf st).toList.drop (sa + na + m)).take (nb - m):=by
    have lP:(((arrOf st).toList.drop sa).take k).length=k:=by rw [List.length_take,List.length_drop];lia
    rw [newL,lM,show sa + k + (na - k + m)=sa + na + m by lia,List.append_assoc,List.drop_append_of_le_length (by rw [List.length_take];lia),List.drop_take,show sa + k - sa=k by lia,
     zsG _ _ _ _ (by rw [lP,lM];lia),lP,lM,show na + nb - k - (na - k + m)=nb - m by lia]
   rw [e3]
   have inM:∀ z∈M.toList,(∃ j,k≤j∧j < na∧K (arrOf st) (sa + j)=key z)∨∃ j,j < m∧K (arrOf st) (sa + na + j)=key z:=fun z hz=>by
    rcases List.mem_append.mp (gp.mem_iff.mp hz) with hz | hz
    ·obtain⟨j,hj,kz,_⟩:=inx z hz
     exact .inl ⟨k + j,by lia,by lia,by rw [← Nat.add_assoc];exact kz⟩
    ·obtain⟨j,hj,kz,_⟩:=iny z hz
     exact .inr ⟨j,hj,kz⟩
   have inA:∀ z∈((arrOf st).toList.drop sa).take k,∃ j,j < k∧K (arrOf st) (sa + j)=key z:=fun z hz=>by
    obtain⟨j,hj,ej⟩:=zaS hz
    exact⟨j,hj,K_of ej⟩
   have inB:∀ z∈((arrOf st).toList.drop (sa + na + m)).take (nb - m),∃ j,m≤j∧j < nb∧K (arrOf st) (sa + na + j)=key z:=fun z hz=>by
    obtain⟨j,hj,ej⟩:=zaS hz
    exact⟨m + j,by lia,by lia,by rw [← Nat.add_assoc];exact K_of ej⟩
   have first:∀ j,j < nb→K (arrOf st) (sa + na)≤K (arrOf st) (sa + na + j):=fun j hj=>by
    have z:=hSB' 0 j (by lia) hj
    rw [Nat.add_zero] at z
    exact z
   have lastA:∀ j,j < na→K (arrOf st) (sa + j)≤K (arrOf st) (sa + na - 1):=fun j hj=>by
    have z:=hSS j (na - 1) (by lia) (by lia)
    rw [show sa + (na - 1)=sa + na - 1 by lia] at z
    exact z
   refine List.pairwise_append.mpr ⟨List.pairwise_append.mpr ⟨(zd1 (by lia)).mp fun i j hij hj=>hSS i j hij (by lia),gs,fun x hx y hy=>?_⟩,(zd1 (by lia)).mp fun i j hij hj=>?_,fun x hx y hy=>?_⟩
   ·obtain⟨i,hi,kx⟩:=inA x hx
    have z1:=fA i hi
    rw [← kx]
    rcases inM y hy with ⟨j,h1,h2,ky⟩ | ⟨j,h1,ky⟩
    ·rw [← ky];exact hSS i j (by lia) h2
    ·rw [← ky]
     have:=first j (by lia)
     lia
   ·have z:=hSB' (m + i) (m + j) (by lia) (by lia)
    rw [← Nat.add_assoc,← Nat.add_assoc] at z
    exact z
   ·obtain⟨j,h1,h2,ky⟩:=inB y hy
    rw [← ky]
    rcases List.mem_append.mp hx with hx | hx
    ·obtain⟨i,hi,kx⟩:=inA x hx
     rw [← kx]
     have z1:=fA i hi
     have:=first j h2
     lia
    ·rcases inM x hx with ⟨i,g1,g2,kx⟩ | ⟨i,g1,kx⟩
     ·rw [← kx]
      have z1:=gB j h1 h2
      have:=lastA i g2
      lia
     ·rw [← kx];exact hSB' i j (by lia) h2
 by_cases c3:na - k≤m
 ·refine zap c3 ?_
  refine wpS_bind (ziH (a:=(arrOf st).extract (sa + k) (sa + na)) (b:=(arrOf st).extract (sa + na) (sa + na + m)) hB1.kind (fun p hp=>let ⟨_,_,_,q⟩:=inx p hp;q) (fun p hp=>let ⟨_,_,_,q⟩:=iny p hp;q) sx sy (by lia) (by lia) (fun q hq z hz=>Int.le_of_lt (hy0 q hq z hz)) hxl fun M st' hG hM=>?_)
  refine wpS_bind (wpS_modify (wpS_bind (wpS_get (wpS_pure ?_))))
  have ef:(failedOf st').isNone=true:=by rw [hG.failed];show (failedOf st).isNone=true;rw [hB.failed];rfl
  show Q (failedOf st').isNone _
  rw [ef]
  exact last M st' hG hM
 ·refine zan c3 ?_
  refine wpS_bind (ziI (a:=(arrOf st).extract (sa + k) (sa + na)) (b:=(arrOf st).extract (sa + na) (sa + na + m)) hB1.kind (fun p hp=>let ⟨_,_,_,q⟩:=inx p hp;q) (fun p hp=>let ⟨_,_,_,q⟩:=iny p hp;q) sx sy (by lia) (by lia) hy0 hxl fun M st' hG hM=>?_)
  refine wpS_bind (wpS_modify (wpS_bind (wpS_get (wpS_pure ?_))))
  have ef:(failedOf st').isNone=true:=by rw [hG.failed];show (failedOf st).isNone=true;rw [hB.failed];rfl
  show Q (failedOf st').isNone _
  rw [ef]
  exact last M st' hG hM
end
end Srt
namespace Srt
open PySem PyProof.Rows
variable [SK]
theorem Cov.powers {xs:Array Keyed}:∀ {l l':List (Nat×Nat×Nat)} {s e:Nat},l.map (fun p=>(p.1,p.2.1))=l'.map (fun p=>(p.1,p.2.1))→Cov xs s l e→Cov xs s l' e
 | [],[],_,_,_,h=>h
 | [],_ :: _,_,_,q,_=>by simp at q
 | _ :: _,[],_,_,q,_=>by simp at q
 | (b,n,p) :: r,(b',n',p') :: r',s,e,q,h=>by
  simp only [List.map_cons,List.cons.injEq,Prod.mk.injEq] at q
  obtain⟨⟨rfl,rfl⟩,q⟩:=q
  obtain⟨h1,h2,h3,h4⟩:=h
  exact⟨h1,h2,h3,Cov.powers q h4⟩
theorem zqU {α:Type} {l:List α} {i:Nat} (h:i + 1 < l.length):∃ l₁ a b l₂,l=l₁ ++ a :: b :: l₂∧l₁.length=i:=by
 refine ⟨l.take i,l[i],l[i + 1],l.drop (i + 2),?_,by rw [List.length_take];lia⟩
 conv=>lhs;rw [← List.take_append_drop i l]
 congr 1
 rw [List.drop_eq_getElem_cons (by lia),List.drop_eq_getElem_cons (by lia)]
noncomputable def zlR:StateT SortSt Sem Unit:=sortPriv% PySem.Builtin.sortRuns
section
variable {prog:Program} {w:World} {X:Around} {E:Value→Shared→Prop} {s:Shared} [SKL prog w X E s] {a₀:Array Keyed}
theorem zeV {st:SortSt} {i e:Nat} {Q:Bool→SortSt→Prop} (hi:i + 1 < (pendingOf st).size) (h0:zbU a₀) (hB:SB a₀ st) (hC:Cov (arrOf st) 0 (pendingOf st).toList e) (he:e≤a₀.size)
  (h:∀ st',SB a₀ st'→Cov (arrOf st') 0 (pendingOf st').toList e→(pendingOf st').size + 1=(pendingOf st).size→(∀ k,e≤k→K (arrOf st') k=K (arrOf st) k)→Q true st') :
  wpS (model prog w) X E s (zg7 i) Q st:=by
 obtain⟨l₁,⟨sa,na,pw⟩,⟨sb,nb,pb⟩,l₂,hl,hlen⟩:=zqU (l:=(pendingOf st).toList) (i:=i) (by simpa using hi)
 subst hlen
 refine ziJ hl h0 hB hC he fun st' g1 g2 g3 g4=>h st' g1 g2 ?_ g4
 have e1:=congrArg List.length g3
 have e2:=congrArg List.length hl
 simp only [Array.length_toList,List.length_append,List.length_cons] at e1 e2
 lia
structure Mid (a₀:Array Keyed) (lo:Nat) (st:SortSt):Prop where
 b:SB a₀ st
 cov:Cov (arrOf st) 0 (pendingOf st).toList lo
 le:lo≤a₀.size
theorem zgO {st:SortSt} {Q:Unit→SortSt→Prop} (h0:zbU a₀) (hB:SB a₀ st) (hp:pendingOf st = #[]) (h2:1≤a₀.size)
  (h:∀ st',(arrOf st').Perm a₀→failedOf st'=none→SortedTo (arrOf st') a₀.size→Q () st'):wpS (model prog w) X E s zlR Q st:=by
 refine wpS_bind (wpS_get ?_)
 dsimp only
 have hsz:(arrOf st).size=a₀.size:=hB.size
 rw [show (arrOf st).size=a₀.size from hsz]
 generalize (sortPriv% PySem.Builtin.minRun) a₀.size a₀.size 0=minrun
 refine wpS_bind (wpS_mono (wpS_forRange (a:=0) (b:=a₀.size) (I:=fun x c st'=>c.1=none∧x≤c.2∧Mid a₀ c.2 st') (Q:=fun c st'=>c.1=none∧Mid a₀ a₀.size st') ?step ?fin ?init) ?post)
 case init =>
  refine ⟨rfl,Nat.le_refl _,hB,?_,Nat.zero_le _⟩
  rw [hp]
  rfl
 case fin =>
  rintro ⟨r,lo⟩ st' ⟨e,h1,hM⟩
  dsimp only at *
  have:lo=a₀.size:=by have:=hM.le;lia
  subst this
  exact⟨e,hM⟩
 case step =>
  rintro x ⟨r,lo⟩ st1 _ hx ⟨e,h1,hM⟩
  dsimp only at *
  subst e
  have hle:=hM.le
  by_cases hge:lo≥a₀.size
  ·refine zap hge ?_
   have:lo=a₀.size:=by lia
   subst this
   exact wpS_pure ⟨rfl,hM⟩
  refine zan hge ?_
  refine wpS_bind (zgQ h0 hM.b (by lia) (by lia) fun m st2 hB2 hK2 m1 m2 hS2=>?_)
  dsimp only
  have covK:∀ {st3:SortSt},Kept lo st1 st3→Cov (arrOf st3) 0 (pendingOf st3).toList lo:=fun {st3} hK=>by
   rw [hK.pend]
   exact hM.cov.congr fun k _ hk=>hK.keys k hk
  have push:∀ (n:Nat) (st3:SortSt),SB a₀ st3→Cov (arrOf st3) 0 (pendingOf st3).toList lo→1≤n→lo + n≤a₀.size→SIn (arrOf st3) lo n→Mid a₀ (lo + n) (setPending st3 ((pendingOf st3).push (lo,n,0))):=by
   intro n st3 g1 g2 g3 g4 g5
   refine ⟨⟨g1.perm,g1.kind,g1.failed⟩,?_,g4⟩
   show Cov (arrOf st3) 0 ((pendingOf st3).push (lo,n,0)).toList (lo + n)
   rw [Array.toList_push]
   exact Cov.append.mpr ⟨lo,g2,rfl,g3,g5,rfl⟩
  have merges:∀ (pw n:Nat) (st3:SortSt),SB a₀ st3→Cov (arrOf st3) 0 (pendingOf st3).toList lo→SIn (arrOf st3) lo n→lo + n≤a₀.size →
    wpS (model prog w) X E s (forIn [:a₀.size] ((none,()):Option Unit×Unit) fun _ _=>get >>= fun st=>match (if (pendingOf st).size > 1 then (pendingOf st)[(pendingOf st).size - 2]? else none) with
     | some (_,_,older)=>if older≤pw then pure (ForInStep.done (none,())) else zg7 ((pendingOf st).size - 2) >>= fun ok=>if (!ok)=true then pure (ForInStep.done (some (),())) else pure (ForInStep.yield (none,()))
     | _=>pure (ForInStep.done (none,())))
     (fun c st4=>c=(none,())∧SB a₀ st4∧Cov (arrOf st4) 0 (pendingOf st4).toList lo∧SIn (arrOf st4) lo n) st3:=by
   intro pw n st3 g1 g2 g3 g4
   refine wpS_forRange (I:=fun _ c st4=>c=(none,())∧SB a₀ st4∧Cov (arrOf st4) 0 (pendingOf st4).toList lo∧SIn (arrOf st4) lo n) ?_ (fun _ _ z=>z) ⟨rfl,g1,g2,g3⟩
   rintro y c st4 _ _ ⟨rfl,k1,k2,k3⟩
   refine wpS_bind (wpS_get ?_)
   by_cases c1:(pendingOf st4).size > 1
   ·rw [if_pos c1]
    obtain⟨q,eq⟩:∃ q,(pendingOf st4)[(pendingOf st4).size - 2]? = some q:=⟨_,Array.getElem?_eq_getElem (by lia)⟩
    obtain⟨q1,q2,older⟩:=q
    rw [eq]
    dsimp only
    by_cases c2:older≤pw
    ·refine zap c2 ?_
     exact wpS_pure ⟨rfl,k1,k2,k3⟩
    ·refine zan c2 ?_
     refine wpS_bind (zeV (by lia) h0 k1 k2 hle fun st5 t1 t2 t3 t4=>?_)
     simp only [Bool.not_true,Bool.false_eq_true,if_false]
     refine wpS_pure ⟨rfl,t1,t2,fun i j hij hj=>?_⟩
     rw [t4 _ (by lia),t4 _ (by lia)]
     exact k3 i j hij hj
   ·rw [if_neg c1]
    exact wpS_pure ⟨rfl,k1,k2,k3⟩
  have mods:∀ (pw:Nat) (st4:SortSt),Cov (arrOf st4) 0 (pendingOf st4).toList lo→Cov (arrOf st4) 0 ((pendingOf st4).modify ((pendingOf st4).size - 1) fun x=>match x with | (st,len,_)=>(st,len,pw)).toList lo:=by
   intro pw st4 g
   refine Cov.powers ?_ g
   apply List.ext_getElem?
   intro i
   rw [List.getElem?_map,List.getElem?_map,Array.getElem?_toList,Array.getElem?_toList,Array.getElem?_modify]
   split
   ·cases q:(pendingOf st4)[i]? with
    | none=>rfl
    | some z=>rfl
   ·rfl
  by_cases c1:m < minrun
  ·refine zap c1 ?_
   refine wpS_bind (wpS_lift (wpAny_rule ⟨rfl,?_⟩))
   refine wpS_bind (zfn h0 hB2 (by lia) (by lia) hS2 fun st3 hB3 hK3 hS3=>?_)
   simp only [Bool.not_true,Bool.false_eq_true,if_false]
   have hK:=hK2.trans hK3
   refine wpS_bind (wpS_get ?_)
   cases eb:(pendingOf st3).back? with
   | none =>
    dsimp only
    exact wpS_bind (wpS_modify (wpS_pure ⟨rfl,(by dsimp only;lia),push _ st3 hB3 (covK hK) (by lia) (by lia) hS3⟩))
   | some q =>
    obtain⟨s1,n1,p1⟩:=q
    dsimp only
    refine wpS_bind (wpS_mono (merges _ (min (a₀.size - lo) minrun) st3 hB3 (covK hK) hS3 (by lia)) ?_)
    rintro c st4 ⟨rfl,k1,k2,k3⟩
    dsimp only
    refine wpS_bind (wpS_modify (wpS_bind (wpS_modify (wpS_pure ⟨rfl,(by dsimp only;lia),push _ _ ⟨k1.perm,k1.kind,k1.failed⟩ (mods _ st4 k2) (by lia) (by lia) k3⟩))))
  ·refine zan c1 ?_
   refine wpS_bind (wpS_get ?_)
   cases eb:(pendingOf st2).back? with
   | none =>
    dsimp only
    exact wpS_bind (wpS_modify (wpS_pure ⟨rfl,(by dsimp only;lia),push _ st2 hB2 (covK hK2) (by lia) (by lia) hS2⟩))
   | some q =>
    obtain⟨s1,n1,p1⟩:=q
    dsimp only
    refine wpS_bind (wpS_mono (merges _ m st2 hB2 (covK hK2) hS2 (by lia)) ?_)
    rintro c st4 ⟨rfl,k1,k2,k3⟩
    dsimp only
    refine wpS_bind (wpS_modify (wpS_bind (wpS_modify (wpS_pure ⟨rfl,(by dsimp only;lia),push _ _ ⟨k1.perm,k1.kind,k1.failed⟩ (mods _ st4 k2) (by lia) (by lia) k3⟩))))
 case post =>
  rintro ⟨r,lo⟩ st1 ⟨e,hM⟩
  dsimp only at *
  subst e
  dsimp only
  refine wpS_bind (wpS_mono (wpS_forRange (a:=0) (b:=a₀.size) (I:=fun x c st'=>c=(none,())∧Mid a₀ a₀.size st'∧(pendingOf st').size + x≤a₀.size) (Q:=fun c st'=>c=(none,())∧Mid a₀ a₀.size st'∧(pendingOf st').size≤1) ?jstep ?jfin ?jinit) ?jpost)
  case jinit =>
   have:=hM.cov.le
   simp at this
   exact⟨rfl,hM,by lia⟩
  case jfin =>
   rintro c st' ⟨rfl,hM',hx⟩
   exact⟨rfl,hM',by lia⟩
  case jstep =>
   rintro x c st' _ hx ⟨rfl,hM',hx'⟩
   refine wpS_bind (wpS_get ?_)
   by_cases c1:(pendingOf st').size≤1
   ·refine zap c1 ?_
    exact wpS_pure ⟨rfl,hM',c1⟩
   ·refine zan c1 ?_
    refine wpS_bind (zeV ?_ h0 hM'.b hM'.cov (Nat.le_refl _) fun st5 t1 t2 t3 t4=>?_)
    ·have pick:∀ (c:Prop) [Decidable c],(if c then (pendingOf st').size - 2 - 1 else (pendingOf st').size - 2) + 1 < (pendingOf st').size:=fun c _=>by split <;> lia
     exact pick _
    ·simp only [Bool.not_true,Bool.false_eq_true,if_false]
     exact wpS_pure ⟨rfl,⟨t1,t2,Nat.le_refl _⟩,by lia⟩
  case jpost =>
   rintro c st' ⟨rfl,hM',hx'⟩
   refine wpS_pure (h st' hM'.b.perm hM'.b.failed ?_)
   have hc:=hM'.cov
   have hlen:(pendingOf st').toList.length≤1:=by simpa using hx'
   match hl:(pendingOf st').toList,hlen,hc with
   | [],_,hc =>
    have:0=a₀.size:=hc
    lia
   | [(b,n,p)],_,hc =>
    obtain⟨e1,_,g3,e2⟩:=hc
    have e2':0 + n=a₀.size:=e2
    subst e1
    intro i j hij hj
    have z:=g3 i j hij (by lia)
    simpa using z
end
end Srt
namespace Srt
open PySem PyProof.Rows
section
variable {prog:Program} {w:World} {X:Around} {E:Value→Shared→Prop} {s:Shared}
theorem ziG {α β:Type} {m:α→Sem β} {f:α→β}:∀ {vs:List α} {Q:List β→Shared→Prop},(∀ v∈vs,∀ Q:β→Shared→Prop,Q (f v) s→wpAny (model prog w) X (m v) Q E s)→Q (vs.map f) s→wpAny (model prog w) X (vs.mapM m) Q E s
 | [],Q,_,h=>by rw [List.mapM_nil];exact wpAny_pure h
 | v :: vs,Q,hm,h=>by
  rw [List.mapM_cons]
  exact wpAny_bind (hm v (by simp) _ (wpAny_bind (ziG (fun u hu=>hm u (by simp [hu])) (wpAny_pure h))))
theorem zrI {T:String} {v:Value} {vs:List Value} {Q:SortKind→Shared→Prop} (hT:(Value.type T != Value.type "tuple")=true) (ht:∀ u∈v :: vs,s.TypeIs u T) (h:Q oneType' s):wpAny (model prog w) X (keyKind' (v :: vs).toArray) Q E s:=by
 rw [keyKind'_eq,List.mapM_toArray,map_eq_pure_bind]
 refine wpAny_bind (wpAny_bind (ziG (f:=fun _=>none) (fun u hu Q hq=>?_) (wpAny_pure ?_)))
 ·show wpAny _ _ (typeOf u >>= fun t=>if (t != Value.type "tuple")=true then pure none else _) _ _ _
  refine wpAny_bind (wpAny_typeOf (ht u hu) ?_)
  rw [if_pos hT]
  exact wpAny_pure hq
 ·rw [if_neg (by simp),if_neg (by simp),oneTypeOnly'_eq,List.mapM_toArray,map_eq_pure_bind]
  refine wpAny_bind (wpAny_bind (wpAny_bind (ziG (f:=fun _=>Value.type T) (fun u hu Q hq=>wpAny_typeOf (ht u hu) hq) (wpAny_pure ?_))))
  have h0:(List.map (fun _=>Value.type T) (v :: vs)).toArray[0]? = some (Value.type T):=by simp
  have hall:((List.map (fun _=>Value.type T) (v :: vs)).toArray.all fun x=>x == Value.type T)=true:=by
   simp only [List.all_toArray,List.all_map,List.all_eq_true]
   intro _ _
   simp
  rw [h0]
  dsimp only
  rw [hall,if_pos rfl]
  exact wpAny_pure (wpAny_pure h)
variable [SK]
theorem zg9 {T:String} {a:Addr} {vs:List Value} {n:Nat} {P:Fin→Shared→Prop} (ho:s.heap.get? a=some (seqObj "list" vs.toArray n)) (h0:zbU (pairsOf vs)) (hz:vs.length≤sizeLine) (hT:(Value.type T != Value.type "tuple")=true)
  (hL:∀ h':Heap,(∀ b o,b≠a→s.heap.get? b=some o→h'.get? b=some o)→SKL prog w X E { s with heap:=h' }∧∀ u∈vs,({ s with heap:=h' }:Shared).TypeIs u T)
  (h:∀ out:Array Keyed,out.Perm (pairsOf vs)→SortedTo out (pairsOf vs).size→P (.done (.ret .none)) { s with heap:=sortedHeap s.heap a vs (out.map (·.2)) }) :
  wpAny (model prog w) X (Builtin.«list.sort» ⟨[.ref a],[]⟩) P E s:=by
 rw [list_sort_plain]
 refine wpAny_bind (listItems_at ho rfl (wpAny_bind (listUpdate_at ho rfl ?_ (by rw [List.size_toArray];exact hz))))
 obtain⟨e1,ho1⟩:∃ e1,(s.heap.update a (Obj.mapSeq fun _=>#[])).get? a=some (seqObj "list" #[] e1):=⟨_,get?_update_seq ho (fun _=>#[])⟩
 refine wpAny_bind (seqEpoch_at ho1 rfl (wpAny_bind (wpAny_newTuple ?_ (hsz:=hz))))
 refine wpAny_bind (wpAny_newList (wpAny_holding ?_))
 have hlt:a < s.heap.objs.size:=Heap.lt_size ho
 have ho2:(((s.heap.update a (Obj.mapSeq fun _=>#[])).push (seqObj "tuple" vs.toArray 0)).push (seqObj "list" #[] 0)).get? a=some (seqObj "list" #[] e1):=by
  refine Heap.get?_push_of_some _ (Heap.get?_push_of_some _ ?_)
  exact ho1
 show wpAny (model prog w) X _ P E { s with heap:=(((s.heap.update a (Obj.mapSeq fun _=>#[])).push (seqObj "tuple" vs.toArray 0)).push (seqObj "list" #[] 0)) }
 dsimp only
 have lens:vs.toArray.size=vs.length:=List.size_toArray ..
 obtain⟨i1,i2⟩:=hL (((s.heap.update a (Obj.mapSeq fun _=>#[])).push (seqObj "tuple" vs.toArray 0)).push (seqObj "list" #[] 0)) fun b o hb e=>Heap.get?_push_of_some _ (Heap.get?_push_of_some _ (by rw [Heap.get?_update_other _ _ (Ne.symm hb)];exact e))
 have done:∀ st':SortSt,(arrOf st').Perm (pairsOf vs)→SortedTo (arrOf st') (pairsOf vs).size→P (.done (.ret .none)) { s with heap:=sortedHeap s.heap a vs ((arrOf st').map (·.2)) }:=fun st' q1 q2=>h _ q1 q2
 clear hL h
 match vs,lens,h0,hz,done,ho,ho2,i1,i2 with
 | [],_,h0,hz,done,ho,ho2,i1,i2 =>
  refine wpAny_bind (wpAny_pure ?_)
  rw [if_pos (show ([]:List Value).toArray.size < 2 by decide),StateT.run_pure]
  refine wpAny_bind (wpAny_pure (wpAny_bind (seqEpoch_at ho2 rfl (wpAny_bind (listUpdate_at ho2 rfl ?_ (hsz2:=by rw [Array.size_map];show (([]:List Value).toArray.zip ([]:List Value).toArray).size≤_;simp))))))
  simp only [bne_self_eq_false,Bool.false_eq_true,if_false]
  exact wpAny_pure (done (SortSt.mk' general' (([]:List Value).toArray.zip ([]:List Value).toArray) #[] 7 none) (Array.Perm.refl _) fun i j _ hj=>absurd hj (by rw [pairsOf_size];simp))
 | [v],_,h0,hz,done,ho,ho2,i1,i2 =>
  refine wpAny_bind (wpAny_pure ?_)
  rw [if_pos (show ([v]:List Value).toArray.size < 2 by simp),StateT.run_pure]
  refine wpAny_bind (wpAny_pure (wpAny_bind (seqEpoch_at ho2 rfl (wpAny_bind (listUpdate_at ho2 rfl ?_ (hsz2:=by rw [Array.size_map];show (([v]:List Value).toArray.zip ([v]:List Value).toArray).size≤_;simp))))))
  simp only [bne_self_eq_false,Bool.false_eq_true,if_false]
  refine wpAny_pure (done (SortSt.mk' general' (([v]:List Value).toArray.zip ([v]:List Value).toArray) #[] 7 none) (Array.Perm.refl _) fun i j hij hj=>?_)
  rw [pairsOf_size] at hj
  have:i=j:=by simp at hj;lia
  subst this
  exact Int.le_refl _
 | v₁ :: v₂ :: rest,lens,h0,hz,done,ho,ho2,i1,i2 =>
  have two:¬ (v₁ :: v₂ :: rest).toArray.size < 2:=by rw [lens];simp
  rw [if_neg two,if_neg two]
  refine wpAny_bind (zrI hT i2 (wpAny_bind (wpAny_mono (zgO (a₀:=pairsOf (v₁ :: v₂ :: rest)) (st:=SortSt.mk' oneType' ((v₁ :: v₂ :: rest).toArray.zip (v₁ :: v₂ :: rest).toArray) #[] 7 none)
   (Q:=fun _ st'=>(arrOf st').Perm (pairsOf (v₁ :: v₂ :: rest))∧failedOf st'=none∧SortedTo (arrOf st') (pairsOf (v₁ :: v₂ :: rest)).size) h0 ⟨Array.Perm.refl _,rfl,rfl⟩ rfl
   (by rw [pairsOf_size];simp) fun st' z1 z2 z3=>⟨z1,z2,z3⟩) ?_ fun _ _ z=>z)))
  rintro ⟨⟨⟩,st'⟩ s' ⟨rfl,q1,q2,q3⟩
  dsimp only
  refine wpAny_bind (seqEpoch_at ho2 rfl (wpAny_bind (listUpdate_at ho2 rfl ?_ (hsz2:=?_))))
  ·rw [q2]
   simp only [bne_self_eq_false,Bool.false_eq_true,if_false]
   exact wpAny_pure (done st' q1 q3)
  ·have e:((arrOf st').map (·.2)).size=(v₁ :: v₂ :: rest).length:=by rw [Array.size_map,q1.size_eq,pairsOf_size]
   show ((arrOf st').map (·.2)).size≤sizeLine + 1
   lia
theorem sorted_gen {T:String} {l:Addr} {vs:List Value} {Q:Value→Shared→Prop} (hl:s.heap.IsList l vs.toArray) (h0:zbU (pairsOf vs)) (hz:vs.length≤sizeLine) (hT:(Value.type T != Value.type "tuple")=true)
  (hL:∀ h':Heap,(∀ b o,s.heap.get? b=some o→h'.get? b=some o)→∀ E,SKL prog w X.in1.in1 E { s with heap:=h' }∧∀ u∈vs,({ s with heap:=h' }:Shared).TypeIs u T)
  (h:∀ out:Array Keyed,out.Perm (pairsOf vs)→SortedTo out (pairsOf vs).size→Q (.ref (s.heap.objs.size + 1)) { s with heap:=sortedAll s.heap vs (out.map (·.2)) }) :
  wpAny (model prog w) X (call (.builtin "sorted") [.ref l]) Q E s:=by
 refine Calls.call_function_entry kind_sorted plain_sorted entry_sorted (args_sorted1 _) ?_
 unfold Builtin.«sorted»
 refine wpAny_bind (m:=checkCount "sorted" 1 1 _) (wpAny_pure (wpAny_bind (collect_list hl ?_ hz)))
 refine wpAny_bind (wpAny_newList ?_ (hsz:=hz))
 have e1:((s.heap.push (seqObj "list" #[] 0)).update s.heap.objs.size (Obj.mapSeq (· ++ vs.toArray))).objs.size=s.heap.objs.size + 1:=by rw [Heap.size_update,size_push']
 have e2:(((s.heap.push (seqObj "list" #[] 0)).update s.heap.objs.size (Obj.mapSeq (· ++ vs.toArray))).push (seqObj "list" vs.toArray 0)).get? (s.heap.objs.size + 1)=some (seqObj "list" vs.toArray 0):=by
  have z:=Heap.get?_push_size ((s.heap.push (seqObj "list" #[] 0)).update s.heap.objs.size (Obj.mapSeq (· ++ vs.toArray))) (o:=seqObj "list" vs.toArray 0) rfl
  rw [e1] at z
  exact z
 show wpAny _ _ _ _ _ { s with heap:=(((s.heap.push (seqObj "list" #[] 0)).update s.heap.objs.size (Obj.mapSeq (· ++ vs.toArray))).push (seqObj "list" vs.toArray 0)) }
 rw [e1]
 refine wpAny_bind (wpAny_holding (wpAny_call_entry slot_list_sort ⟨_,e2,rfl⟩ entry_list_sort (zg9 e2 h0 hz hT (fun h' k=>hL h' (fun b o e=>k b o (fun q=>absurd (Heap.lt_size e) (by rw [q];exact Nat.not_lt.mpr (Nat.le_succ _))) (Heap.get?_push_of_some _ (by rw [Heap.get?_update_other _ _ (fun q=>absurd (Heap.lt_size e) (by rw [← q];exact Nat.lt_irrefl _))];exact Heap.get?_push_of_some _ e))) _) fun out z1 z2=>⟨_,rfl,wpAny_pure ⟨_,rfl,h out z1 z2⟩⟩) (args_list_sort _)))
end
section
variable {prog:Program} {w:World} {X:Around} {E:Value→Shared→Prop} {s:Shared}
theorem zkr:∀ {vs:List Value} {ns:List Int},IntsAre vs ns→∀ u∈vs,∃ n t,u=.int n t
 | _,_,.nil,u,h=>nomatch h
 | _,_,.cons n t r,u,h=>by
  rcases List.mem_cons.mp h with rfl | h
  ·exact⟨n,t,rfl⟩
  ·exact zkr r u h
@[reducible] noncomputable def zm6:SK:=⟨fun p=>numOf p.1,fun p=>∃ n t,p.1=.int n t⟩
theorem zrV:@SKL prog w X E s zm6:=by
 refine @SKL.mk prog w X E s zm6 ?_
 rintro st x y Q hk ⟨a,t,ea⟩ ⟨b,u,eb⟩ h
 rw [lt'_eq]
 refine wpS_bind (wpS_get ?_)
 rw [hk,keyLt'_oneType,ea,eb]
 refine wpS_bind (wpS_lift (wpAny_attempt (oneLt_int ⟨rfl,?_⟩)))
 have e1:@key zm6 x=a:=by show numOf x.1=a;rw [ea];rfl
 have e2:@key zm6 y=b:=by show numOf y.1=b;rw [eb];rfl
 rw [e1,e2] at h
 exact wpS_pure h
theorem sorted_any {l:Addr} {vs:List Value} {ns:List Int} {Q:Value→Shared→Prop} (hl:s.heap.IsList l vs.toArray) (hI:IntsAre vs ns) (hz:vs.length≤sizeLine)
  (h:∀ (out:Array Value) (ns':List Int),IntsAre out.toList ns'→ns'.Perm ns→ns'.Pairwise (·≤·)→Q (.ref (s.heap.objs.size + 1)) { s with heap:=sortedAll s.heap vs out }) :
  wpAny (model prog w) X (call (.builtin "sorted") [.ref l]) Q E s:=by
 refine @sorted_gen prog w X E s zm6 "int" l vs Q hl hI.intKeys hz (by decide) (fun h' _ E=>⟨zrV,fun u hu=>?_⟩) fun out q1 q2=>?_
 ·obtain⟨n,t,rfl⟩:=zkr hI u hu
  rfl
 ·obtain⟨ns',z1,z2,z3⟩:=sorted_out hI q1 q2
  exact h _ ns' z1 z2 z3
end
end Srt
namespace L2
open PySem PySem.Spec PyProof.Rows
noncomputable def zb9 (cells cs:List (Str×Addr)) (x:Str×NameKind):List (Str×Addr):=if (x.2 == .free)=true then (x.1,(cells.lookup x.1).getD 0) :: cs else cs
noncomputable def zdM (cells:List (Str×Addr)) (names:List (Str×NameKind)):List (Str×Addr):=names.foldl (zb9 cells) []
theorem zdo {α β:Type} (f:α→β→Sem (ForInStep β)) (g:β→α→β):∀ (l:List α) (b:β),(∀ x∈l,∀ b,f x b=pure (.yield (g b x)))→forIn l b f=(pure (l.foldl g b):Sem β)
 | [],b,_=>by rw [List.forIn_nil];rfl
 | x :: l,b,h=>by
  rw [List.forIn_cons,h x List.mem_cons_self b,pure_bind]
  exact zdo f g l (g b x) fun y hy=>h y (List.mem_cons_of_mem _ hy)
theorem zhk {scope:Scope} {env:Env} (h:∀ x∈scope.names,x.2=.free→∃ c,env.cells.lookup x.1=some c) :
  closureFor scope env=pure (zdM env.cells scope.names):=by
 unfold closureFor zdM
 dsimp only
 rw [zdo _ (zb9 env.cells) _ _ fun x hx cs=>?_]
 ·rfl
 ·obtain⟨n,k⟩:=x
  unfold zb9
  cases hk:k == NameKind.free with
  | false=>simp [hk]
  | true =>
   obtain⟨c,hc⟩:=h (n,k) hx (by simpa using hk)
   have hc':env.cells.lookup n=some c:=hc
   simp only [hk,if_true]
   unfold cellOf
   rw [hc']
   rfl
theorem zfk {cells:List (Str×Addr)}:∀ (names:List (Str×NameKind)) (acc:List (Str×Addr)) (p:Str×Addr),p∈names.foldl (zb9 cells) acc→p∈acc∨((p.1,NameKind.free)∈names∧p.2=(cells.lookup p.1).getD 0)
 | [],acc,p,h=>.inl h
 | (n,k) :: r,acc,p,h=>by
  rw [List.foldl_cons] at h
  rcases zfk r _ p h with h | ⟨h1,h2⟩
  ·unfold zb9 at h
   split at h
   ·rename_i hk
    have hk':k=.free:=by simpa using hk
    subst hk'
    rcases List.mem_cons.mp h with e | h
    ·subst e;exact .inr ⟨List.mem_cons_self,rfl⟩
    ·exact .inl h
   ·exact .inl h
  ·exact .inr ⟨List.mem_cons_of_mem _ h1,h2⟩
theorem zih {cells:List (Str×Addr)} {x:Str}:∀ (names:List (Str×NameKind)) (acc:List (Str×Addr)),acc.lookup x=some ((cells.lookup x).getD 0)→(names.foldl (zb9 cells) acc).lookup x=some ((cells.lookup x).getD 0)
 | [],acc,h=>h
 | (n,k) :: r,acc,h=>by
  rw [List.foldl_cons]
  refine zih r _ ?_
  unfold zb9
  split
  ·rw [List.lookup_cons]
   cases e:x == n with
   | true=>rw [beq_iff_eq.mp e]
   | false=>exact h
  ·exact h
theorem zdY {cells:List (Str×Addr)} {x:Str}:∀ (names:List (Str×NameKind)) (acc:List (Str×Addr)),(x,NameKind.free)∈names→(names.foldl (zb9 cells) acc).lookup x=some ((cells.lookup x).getD 0)
 | (n,k) :: r,acc,h=>by
  rw [List.foldl_cons]
  rcases List.mem_cons.mp h with e | h
  ·cases e
   refine zih r _ ?_
   unfold zb9
   rw [if_pos (by rfl),List.lookup_cons]
   simp
  ·exact zdY r _ h
theorem znp:∀ (names:List (Str×NameKind)) (n:Nat) (acc:List (Str×Addr)) (p:Str×Addr),p∈cellsFrom n names acc→p∈acc∨(n≤p.2∧(p.1,NameKind.cell)∈names)
 | [],_,_,_,h=>.inl h
 | (x,k) :: r,n,acc,p,h=>by
  unfold cellsFrom at h
  split at h
  ·rename_i hk
   have hk':k=.cell:=by simpa using hk
   subst hk'
   rcases znp r _ _ p h with h | ⟨h1,h2⟩
   ·rcases List.mem_cons.mp h with e | h
    ·subst e;exact .inr ⟨Nat.le_refl _,List.mem_cons_self⟩
    ·exact .inl h
   ·exact .inr ⟨by lia,List.mem_cons_of_mem _ h2⟩
  ·rcases znp r _ _ p h with h | ⟨h1,h2⟩
   ·exact .inl h
   ·exact .inr ⟨h1,List.mem_cons_of_mem _ h2⟩
theorem znq:∀ (names:List (Str×NameKind)) (n:Nat) (acc:List (Str×Addr)),(∀ p∈acc,p.2 < n)→(∀ p∈acc,∀ q∈acc,p.2=q.2→p.1=q.1) →
  ∀ p∈cellsFrom n names acc,∀ q∈cellsFrom n names acc,p.2=q.2→p.1=q.1
 | [],_,_,_,h=>h
 | (x,k) :: r,n,acc,hl,h=>by
  unfold cellsFrom
  split
  ·refine znq r (n + 1) ((x,n) :: acc) (fun p hp=>?_) fun p hp q hq e=>?_
   ·rcases List.mem_cons.mp hp with z | hp
    ·subst z;exact Nat.lt_succ_self _
    ·exact Nat.lt_succ_of_lt (hl p hp)
   ·rcases List.mem_cons.mp hp with z | hp <;> rcases List.mem_cons.mp hq with z' | hq
    ·rw [z,z']
    ·subst z
     have h1:q.2 < n:=hl q hq
     have e':n=q.2:=e
     rw [← e'] at h1
     exact absurd h1 (Nat.lt_irrefl _)
    ·subst z'
     have h1:p.2 < n:=hl p hp
     have e':p.2=n:=e
     rw [e'] at h1
     exact absurd h1 (Nat.lt_irrefl _)
    ·exact h p hp q hq e
  ·exact znq r n acc hl h
theorem zfl {x:Str}:∀ (names:List (Str×NameKind)) (n:Nat) (acc:List (Str×Addr)),(x,NameKind.cell)∉names→(cellsFrom n names acc).lookup x=acc.lookup x
 | [],_,_,_=>rfl
 | (y,k) :: r,n,acc,h=>by
  have hr:(x,NameKind.cell)∉r:=fun z=>h (List.mem_cons_of_mem _ z)
  unfold cellsFrom
  split
  ·rename_i hk
   have hk':k=.cell:=by simpa using hk
   subst hk'
   rw [zfl r _ _ hr,List.lookup_cons]
   cases e:x == y with
   | true=>exact absurd (by rw [beq_iff_eq.mp e];exact List.mem_cons_self) h
   | false=>rfl
  ·exact zfl r _ _ hr
theorem zjn:∀ (names:List (Str×NameKind)) (h:Heap) (acc:List (Str×Addr)) (p:Str×Addr),p∈cellsFrom h.objs.size names acc→p∈acc∨(pushCells h names).IsCell p.2 none
 | [],_,_,_,q=>.inl q
 | (y,k) :: r,h,acc,p,q=>by
  unfold cellsFrom at q
  unfold pushCells
  split at q
  ·rename_i hk
   rw [if_pos hk]
   have e:h.objs.size + 1=(h.push { cls:=.type "cell", data:=.cell none }).objs.size:=(Heap.size_push ..).symm
   rw [e] at q
   rcases zjn r _ _ p q with q | q
   ·rcases List.mem_cons.mp q with z | q
    ·subst z
     refine .inr ⟨_,pushCells_keeps _ _ _ _ (Heap.get?_push_size _ rfl),rfl⟩
    ·exact .inl q
   ·exact .inr q
  ·rename_i hk
   rw [if_neg hk]
   exact zjn r _ _ p q
theorem zd9 {M:Model} {A:Around} {E:Value→Shared→Prop} {s:Shared} {scope:Scope} {env:Env} {cl:List (Str×Addr)} {Q:Env→Shared→Prop}
  (hQ:Q (newEnv scope s.heap.objs.size env.globals (cellsFrom (s.heap.objs.size + 1) scope.names cl) env.qual none .none (some env) builtinsNs)
   { s with heap:=pushCells (s.heap.push { cls:=.type "dict", data:=.dict #[] }) scope.names }) :
  wpAny M A (newFunctionEnv scope env.globals cl [] env.qual none .none (some env)) Q E s:=by
 simp only [newFunctionEnv,Option.isSome_some,if_true]
 refine wpAny_bind (wpAny_alloc ?_)
 refine wpAny_bind (wpAny_layCells _ (fun name kind cells=>by cases hkc:kind == NameKind.cell <;> simp [hkc]) _ _ _ _ ?_)
 rw [List.forIn_nil]
 refine wpAny_bind (wpAny_pure (wpAny_pure ?_))
 have e:({ s with heap:=s.heap.push { cls:=.type "dict", data:=.dict #[] } }:Shared).heap.objs.size=s.heap.objs.size + 1:=Heap.size_push ..
 rw [e]
 exact hQ
noncomputable def zfT (env:Env) (scope:Scope) (C:Addr):Env:=
 { scope:=relabel scope env,locals:=C,globals:=env.globals,cells:=cellsFrom (C + 1) scope.names (zdM env.cells scope.names),qual:=env.qual,func:=none,code:=env.code,frame:=env.frame,builtins:=env.builtins }
noncomputable def cxB (X:Cx) (N':List Str) (scope:Scope) (C:Addr) (s₂:Shared) (H₂:Hp) (fp:List Addr) (pn:List (Addr×Obj)):Cx:=
 { X with N:=N',s₀:=s₂,H₀:=H₂,env:=zfT X.env scope C,outer:=X.stack,ex:=fp,fn:=fun x=>scope.names.lookup x == some .cell,pn:=pn,xe:=fun _ _=>False }
noncomputable def zkj:List Str→Bool
 | []=>true
 | x :: r=>!r.contains x && zkj r
theorem zal:∀ {l:List Str},zkj l=true→l.Nodup
 | [],_=>List.nodup_nil
 | x :: r,h=>by
  unfold zkj at h
  rw [Bool.and_eq_true] at h
  refine List.nodup_cons.mpr ⟨fun hm=>?_,zal h.2⟩
  have h1:=h.1
  rw [List.contains_iff_mem.mpr hm] at h1
  cases h1
noncomputable def zr9 (env:Env) (scope:Scope):Bool:=
 scope.kind == .function && zkj (scope.names.map (·.1)) && scope.names.all fun x=>!(x.2 == .free) || env.kindOf x.1 == some .cell || env.kindOf x.1 == some .free
structure Blk (env:Env) (scope:Scope):Prop where
 kind:scope.kind=.function
 nd:(scope.names.map (·.1)).Nodup
 cap:∀ x∈scope.names,x.2=.free→env.kindOf x.1=some .cell∨env.kindOf x.1=some .free
theorem Blk.of {env:Env} {scope:Scope} (h:zr9 env scope=true):Blk env scope:=by
 unfold zr9 at h
 rw [Bool.and_eq_true,Bool.and_eq_true] at h
 obtain⟨⟨h1,h2⟩,h3⟩:=h
 refine ⟨by simpa using h1,zal h2,fun x hx hf=>?_⟩
 have h4:=List.all_eq_true.mp h3 x hx
 rw [Bool.or_eq_true,Bool.or_eq_true] at h4
 rcases h4 with (h4 | h4) | h4
 ·rw [hf] at h4
  exact absurd h4 (by decide)
 ·exact .inl (by simpa using h4)
 ·exact .inr (by simpa using h4)
theorem zbi {α:Type}:∀ {l:List (Str×α)} {x:Str} {v:α},(l.map (·.1)).Nodup→(x,v)∈l→l.lookup x=some v
 | (y,u) :: r,x,v,nd,h=>by
  rw [List.map_cons] at nd
  obtain⟨n1,n2⟩:=List.nodup_cons.mp nd
  rw [List.lookup_cons]
  rcases List.mem_cons.mp h with e | hr
  ·cases e;simp
  ·have hne:(x == y)=false:=by
    cases e:x == y with
    | false=>rfl
    | true =>
     have e':=beq_iff_eq.mp e
     refine absurd ?_ n1
     rw [← e']
     exact (show x∈r.map (fun p:Str×α=>p.1) from List.mem_map_of_mem (a:=(x,v)) hr)
   rw [hne]
   exact zbi n2 hr
theorem zbW {env:Env} {x:Str} {k':NameKind}:∀ {names:List (Str×NameKind)},
  (names.map fun (n,k)=>if (k == NameKind.free && env.scope.kind == .function && env.kindOf n == some .cell) then (n,NameKind.cell) else (n,k)).lookup x=some k' →
  ∃ k,names.lookup x=some k∧(k'=k∨k=.free)
 | [],h=>by simp at h
 | (n,k) :: r,h=>by
  have ih:=@zbW env x k' r
  have hh:((if (k == NameKind.free && env.scope.kind == .function && env.kindOf n == some .cell)=true then (n,NameKind.cell) else (n,k)) :: r.map fun (n,k)=>if (k == NameKind.free && env.scope.kind == .function && env.kindOf n == some .cell) then (n,NameKind.cell) else (n,k)).lookup x=some k':=h
  by_cases hc:(k == NameKind.free && env.scope.kind == .function && env.kindOf n == some .cell)=true
  ·rw [if_pos hc,List.lookup_cons] at hh
   rw [List.lookup_cons]
   cases e:x == n with
   | true =>
    refine ⟨k,rfl,.inr ?_⟩
    rw [Bool.and_eq_true,Bool.and_eq_true] at hc
    simpa using hc.1.1
   | false =>
    rw [e] at hh
    exact ih hh
  ·rw [if_neg hc,List.lookup_cons] at hh
   rw [List.lookup_cons]
   cases e:x == n with
   | true =>
    rw [e] at hh
    exact⟨k,rfl,.inl (Option.some.inj hh).symm⟩
   | false =>
    rw [e] at hh
    exact ih hh
theorem zde {env:Env} {x:Str}:∀ {names:List (Str×NameKind)},names.lookup x=some .free →
  (names.map fun (n,k)=>if (k == NameKind.free && env.scope.kind == .function && env.kindOf n == some .cell) then (n,NameKind.cell) else (n,k)).lookup x≠some .local
 | [],h=>by simp at h
 | (n,k) :: r,h=>fun h'=>by
  have hh:((if (k == NameKind.free && env.scope.kind == .function && env.kindOf n == some .cell)=true then (n,NameKind.cell) else (n,k)) :: r.map fun (n,k)=>if (k == NameKind.free && env.scope.kind == .function && env.kindOf n == some .cell) then (n,NameKind.cell) else (n,k)).lookup x=some .local:=h'
  rw [List.lookup_cons] at h
  by_cases hc:(k == NameKind.free && env.scope.kind == .function && env.kindOf n == some .cell)=true
  ·rw [if_pos hc,List.lookup_cons] at hh
   cases e:x == n with
   | true=>rw [e] at hh;cases hh
   | false=>rw [e] at hh h;exact zde h hh
  ·rw [if_neg hc,List.lookup_cons] at hh
   cases e:x == n with
   | true=>rw [e] at hh h;cases h;cases hh
   | false=>rw [e] at hh h;exact zde h hh
noncomputable def inner (ix:List (Option Nat)) (σ:St):St:=ix.map fun o=>o.bind fun j=>(σ[j]?).join
noncomputable def ixOk (N N':List Str) (scope:Scope) (ix:List (Option Nat)):Bool:=
 ix.length == N'.length && (ix.zip N').all fun p=>match p.1 with
  | none=>true
  | some j=>N[j]? == some p.2 && scope.names.lookup p.2 == some .free
section
variable {X:Cx} {pins:List (Addr×Obj)} {σ:St} {H:Hp} {s:Shared} {scope:Scope}
theorem Inv.stk_lt (I:Inv X pins σ H s) {b:Addr} (hb:b∈frs X.stack):b < s.heap.objs.size:=by
 rcases List.mem_cons.mp (I.stkSub b hb) with e | hb
 ·rw [e];exact I.lt
 ·by_cases h:b < s.heap.objs.size
  ·exact h
  ·exact absurd hb (I.nofs (Nat.le_of_not_lt h))
theorem zkO (B:Blk X.env scope) (I:Inv X pins σ H s):closureFor scope X.env=pure (zdM X.env.cells scope.names):=
 zhk fun x hx hf=>I.ok.has x.1 (B.cap x hx hf)
theorem zeu (B:Blk X.env scope) (I:Inv X pins σ H s) {C:Addr} {p:Str×Addr} (h:p∈cellsFrom (C + 1) scope.names (zdM X.env.cells scope.names)) :
  (X.env.cells.lookup p.1=some p.2∧(p.1,NameKind.free)∈scope.names)∨(C + 1≤p.2∧(p.1,NameKind.cell)∈scope.names):=by
 rcases znp _ _ _ p h with h | h
 ·rcases zfk _ _ p h with h | ⟨h1,h2⟩
  ·exact absurd h (by simp)
  ·obtain⟨c,hc⟩:=I.ok.has p.1 (B.cap _ h1 rfl)
   rw [hc] at h2
   exact .inl ⟨by rw [hc,h2];rfl,h1⟩
 ·exact .inr h
theorem Inv.cell_lt (I:Inv X pins σ H s) {x:Str} {c:Addr} (h:X.env.cells.lookup x=some c):c < s.heap.objs.size:=by
 obtain⟨v,z⟩:=I.cell x c h
 exact z.lt
noncomputable def zby (h:Heap) (scope:Scope):Heap:=pushCells ((h.push { cls:=.type "list", data:=.seq ([]:List Value).toArray }).push { cls:=.type "dict", data:=.dict #[] }) scope.names
theorem zc1 {h:Heap} {scope:Scope} {b:Addr} {o:Obj} (e:h.get? b=some o):(zby h scope).get? b=some o:=
 pushCells_keeps _ _ _ _ (Heap.get?_push_of_some _ (Heap.get?_push_of_some _ e))
theorem znu {N':List Str} {C:Addr} {fp:List Addr} (B:Blk X.env scope) (I:Inv X pins σ H s) (hC:C=s.heap.objs.size + 1) (hf:∀ b∈fp,FpOk X pins H b) (hfl:∀ b∈fp,b < s.heap.objs.size) :
  (cxB X N' scope C s H fp (X.pn ++ pins)).Ok:=by
 have nd:=B.nd
 refine ⟨I.ok.mod,B.kind,I.ok.glob,I.ok.blt,(by show s.heap.objs.size≤C;rw [hC];exact Nat.le_succ _),fun x y c h1 h2=>?_,fun x hx=>?_,fun x c hfn h=>?_,I.ok.hd,I.ok.frames,.inl rfl,fun b hb=>⟨?_,fun x c h z=>?_⟩,I.bs,
  Nat.le_trans I.ok.bsz I.sz,fun b o e hb=>?_,fun b hb hm=>?_,I.stack,I.stkFree⟩
 ·have hlt:∀ p∈zdM X.env.cells scope.names,p.2 < C + 1∧X.env.cells.lookup p.1=some p.2:=fun p hp=>by
   rcases zfk _ _ p hp with h | ⟨h1,h2⟩
   ·exact absurd h (by simp)
   ·obtain⟨c,hc⟩:=I.ok.has p.1 (B.cap _ h1 rfl)
    rw [hc] at h2
    have:=I.cell_lt hc
    have e:p.2=c:=h2
    exact⟨by rw [e,hC];exact Nat.lt_succ_of_lt (Nat.lt_succ_of_lt this),by rw [hc,e]⟩
  exact znq _ _ _ (fun p hp=>(hlt p hp).1) (fun p hp q hq e=>I.ok.inj _ _ _ (hlt p hp).2 (by rw [e];exact (hlt q hq).2)) (x,c) (PySem.mem_of_lookup h1) (y,c) (PySem.mem_of_lookup h2) rfl
 ·have hx':(relabel scope X.env).names.lookup x=some .cell∨(relabel scope X.env).names.lookup x=some .free:=hx
  have:∃ k,scope.names.lookup x=some k∧(k=.cell∨k=.free):=by
   rcases hx' with h | h
   ·obtain⟨k,h1,h2⟩:=zbW h
    rcases h2 with h2 | h2
    ·exact⟨k,h1,.inl h2.symm⟩
    ·exact⟨k,h1,.inr h2⟩
   ·obtain⟨k,h1,h2⟩:=zbW h
    rcases h2 with h2 | h2
    ·exact⟨k,h1,.inr h2.symm⟩
    ·exact⟨k,h1,.inr h2⟩
  obtain⟨k,h1,h2⟩:=this
  rcases h2 with rfl | rfl
  ·exact Option.isSome_iff_exists.mp (PySem.W.cellsFrom_some scope.names (C + 1) _ (.inl h1))
  ·refine ⟨_,(zfl _ _ _ fun hm=>?_).trans (zdY _ _ (PySem.mem_of_lookup h1))⟩
   have:=zbi nd hm
   rw [h1] at this
   cases this
 ·have hfn':scope.names.lookup x=some .cell:=by simpa [cxB] using hfn
  rcases zeu B I (PySem.mem_of_lookup h) with ⟨_,h1⟩ | ⟨h1,_⟩
  ·have:=zbi nd h1
   rw [hfn'] at this
   cases this
  ·show s.heap.objs.size≤c
   have h1':C + 1≤c:=h1
   rw [hC] at h1'
   exact Nat.le_trans (Nat.le_add_right _ 2) h1'
 ·have:=hfl b hb
  show b≠C
  rw [hC]
  exact Nat.ne_of_lt (Nat.lt_succ_of_lt this)
 ·subst z
  have h':(cellsFrom (C + 1) scope.names (zdM X.env.cells scope.names)).lookup x=some c:=h
  rcases zeu B I (PySem.mem_of_lookup h') with ⟨h1,_⟩ | ⟨h1,_⟩
  ·exact (hf c hb).2.2.2.2.1 x c h1 rfl
  ·have:=hfl c hb
   have h1':C + 1≤c:=h1
   rw [hC] at h1'
   exact absurd (Nat.lt_of_lt_of_le this (Nat.le_trans (Nat.le_add_right _ 2) h1')) (Nat.lt_irrefl _)
 ·rcases (hf b hb).2.2.2.1 with z | z
  ·exact I.ok.noex b o e z
  ·exact absurd (Nat.lt_of_lt_of_le (Heap.lt_size e) (Nat.le_trans I.ok.bsz z)) (Nat.lt_irrefl _)
 ·obtain⟨_,h2,h3,_⟩:=hf b hb
  rcases List.mem_cons.mp (I.stkSub b hm) with e | e
  ·exact h2 e
  ·exact h3 e
theorem zim {N':List Str} {ix:List (Option Nat)} {fp:List Addr} (B:Blk X.env scope) (hix:ixOk X.N N' scope ix=true) (I:Inv X pins σ H s) (hf:∀ b∈fp,FpOk X pins H b) (hfl:∀ b∈fp,b < s.heap.objs.size) :
  Inv (cxB X N' scope (s.heap.objs.size + 1) s H fp (X.pn ++ pins)) [] (inner ix σ) H { s with heap:=zby s.heap scope }:=by
 unfold ixOk at hix
 rw [Bool.and_eq_true] at hix
 have hlen:ix.length=N'.length:=by simpa using hix.1
 have old:∀ b o,s.heap.get? b=some o→(zby s.heap scope).get? b=some o:=fun b o e=>zc1 e
 have e1:(s.heap.push { cls:=.type "list", data:=.seq ([]:List Value).toArray }).objs.size=s.heap.objs.size + 1:=Heap.size_push ..
 have e2:((s.heap.push { cls:=.type "list", data:=.seq ([]:List Value).toArray }).push { cls:=.type "dict", data:=.dict #[] }).objs.size=s.heap.objs.size + 1 + 1:=by rw [Heap.size_push,e1]
 have ns:(zby s.heap scope).Ns (s.heap.objs.size + 1) (fun _=>none):=by
  have q:=(Heap.Ns.new (s.heap.push { cls:=.type "list", data:=.seq ([]:List Value).toArray }) (.type "dict"))
  rw [e1] at q
  exact q.keeps fun b o e=>pushCells_keeps _ _ _ _ e
 have cellsOk:∀ x c,(cellsFrom (s.heap.objs.size + 1 + 1) scope.names (zdM X.env.cells scope.names)).lookup x=some c→(∃ v,(zby s.heap scope).IsCell c v)∧H c=none:=fun x c h=>by
  rcases zeu B I (PySem.mem_of_lookup h) with ⟨h1,_⟩ | ⟨h1,_⟩
  ·have h1':X.env.cells.lookup x=some c:=h1
   obtain⟨v,z⟩:=I.cell x c h1'
   exact⟨⟨v,z.keeps old⟩,I.freeC x c h1'⟩
  ·have h1':s.heap.objs.size + 1 + 1≤c:=h1
   refine ⟨?_,I.hok.fresh (Nat.le_trans (Nat.le_add_right _ 2) h1')⟩
   have q:=PySem.mem_of_lookup h
   rw [← e2] at q
   rcases zjn _ _ _ _ q with q | q
   ·rcases zfk _ _ _ q with q | ⟨q1,q2⟩
    ·exact absurd q (by simp)
    ·obtain⟨c',hc'⟩:=I.ok.has x (B.cap _ q1 rfl)
     have q2':c=(X.env.cells.lookup x).getD 0:=q2
     rw [hc'] at q2'
     have:=I.cell_lt hc'
     have e:c=c':=q2'
     rw [e] at h1'
     exact absurd (Nat.lt_of_lt_of_le this (Nat.le_trans (Nat.le_add_right _ 2) h1')) (Nat.lt_irrefl _)
   ·exact⟨_,q⟩
 refine ⟨znu B I rfl hf hfl,rfl,I.bare,Un.kept old,⟨_,ns,fun i x v e1 e2 e3=>?_⟩,fun x c h=>(cellsOk x c h).1,I.hok.fresh (by show s.heap.objs.size≤s.heap.objs.size + 1;lia),fun x c h=>(cellsOk x c h).2,fun p hp=>?_,I.hok.kept old,?_⟩
 ·have e1':N'[i]? = some x:=e1
  unfold inner at e2
  rw [List.getElem?_map] at e2
  cases q:ix[i]? with
  | none=>rw [q] at e2;cases e2
  | some o =>
   rw [q] at e2
   cases o with
   | none=>cases e2
   | some j =>
    have e2':(σ[j]?).join=some v:=Option.some.inj e2
    have hσ:σ[j]? = some (some v):=by
     cases z:σ[j]? with
     | none=>rw [z] at e2';cases e2'
     | some o'=>rw [z] at e2';cases o' with
      | none=>cases e2'
      | some v'=>cases e2';rfl
    have hm:(some j,x)∈ix.zip N':=List.mem_of_getElem? (by rw [List.getElem?_zip_eq_some];exact⟨q,e1'⟩)
    have hz:=List.all_eq_true.mp hix.2 _ hm
    rw [Bool.and_eq_true] at hz
    have hN:X.N[j]? = some x:=by simpa using hz.1
    have hfr:scope.names.lookup x=some .free:=by simpa using hz.2
    have hmem:=PySem.mem_of_lookup hfr
    have hk:=B.cap (x,.free) hmem rfl
    obtain⟨m,hn,hl⟩:=I.loc
    have vis:Vis X.env.scope x:=by
     rcases hk with k | k
     ·exact .inr (.inl k)
     ·exact .inr (.inr k)
    obtain⟨u,r,l⟩:=hl j x v hN hσ vis
    refine ⟨u,r,?_⟩
    rcases l with ⟨k,_⟩ | ⟨k,c,hc,hcell⟩
    ·rcases hk with k' | k'
     ·have:X.env.kindOf x=some .cell:=k'
      rw [k] at this;cases this
     ·have:X.env.kindOf x=some .free:=k'
      rw [k] at this;cases this
    ·have hne:(x,NameKind.cell)∉scope.names:=fun z=>by
      have:=zbi B.nd z
      rw [hfr] at this;cases this
     have hcl:(cellsFrom (s.heap.objs.size + 1 + 1) scope.names (zdM X.env.cells scope.names)).lookup x=some c:=by
      rw [zfl _ _ _ hne]
      unfold zdM
      rw [zdY _ _ hmem,hc]
      rfl
     refine .inr ⟨?_,c,hcl,hcell.keeps old⟩
     have hvis:(relabel scope X.env).names.lookup x=some .local∨(relabel scope X.env).names.lookup x=some .cell∨(relabel scope X.env).names.lookup x=some .free:=e3
     rcases hvis with z | z
     ·obtain⟨k',h1,h2⟩:=zbW z
      rw [hfr] at h1
      cases h1
      rcases h2 with h2 | h2
      ·cases h2
      ·exfalso
       exact zde hfr z
     ·exact z
 ·have hp':p∈(X.pn ++ pins) ++ []:=hp
  rw [List.append_nil] at hp'
  obtain⟨e,n,ne,nf,d⟩:=I.pin p hp'
  refine ⟨old _ _ e,n,?_,fun hm=>?_,d⟩
  ·have:=Heap.lt_size e
   show p.1≠s.heap.objs.size + 1
   exact Nat.ne_of_lt (Nat.lt_succ_of_lt this)
  ·rcases List.mem_cons.mp (I.stkSub p.1 hm) with z | z
   ·exact ne z
   ·exact nf z
 ·show (inner ix σ).length=N'.length
  unfold inner
  rw [List.length_map,hlen]
end
end L2
namespace L2
open PySem PySem.Spec PyProof.Rows
structure Loose (X:Cx) (pins:List (Addr×Obj)) (H:Hp) (C:Addr):Prop where
 free:H C=none
 ne:C≠X.env.locals
 ab:X.s₀.heap.objs.size≤C
 cl:∀ x c,X.env.cells.lookup x=some c→c≠C
 pn:∀ p∈X.pn ++ pins,p.1≠C
theorem Inv.loose {X:Cx} {pins:List (Addr×Obj)} {σ:St} {H H':Hp} {s:Shared} {C:Addr} (I:Inv X pins σ H s) (hb:s.heap.objs.size≤C) (hn:H' C=none):Loose X pins H' C:=by
 obtain⟨h1,h2,h3,h4,h5,h6⟩:=I.fpOk (H':=H') hb hn
 exact⟨h1,h2,Nat.le_trans I.sz hb,h5,h6⟩
theorem Inv.loosed {X:Cx} {pins:List (Addr×Obj)} {σ:St} {H:Hp} {s:Shared} {C:Addr} {h':Heap} (I:Inv X pins σ H s) (L:Loose X pins H C) (hs:Heap.SameBut C s.heap h'):Inv X pins σ H { s with heap:=h' }:=
 I.turned (t':=s.toks) (fun b o hb e=>(hs.2 b hb).trans e) L.free L.ne (.inr L.ab) L.cl L.pn
section
variable {X:Cx} {scope:Scope} {N':List Str} {pins pl:List (Addr×Obj)} {σ σ':St} {H H':Hp} {s s':Shared} {fp:List Addr} {acc:List V} {its:List Value} {k:Nat}
theorem znv (I:Inv X pins σ H s) (hf:∀ b∈fp,FpOk X pins H b) (J:Inv (cxB X N' scope (s.heap.objs.size + 1) s H fp (X.pn ++ pins)) pl σ' H' s')
  (hD:s'.heap.get? s.heap.objs.size=some { cls:=.type "list", data:=.seq its.toArray k }) (rv:Vals acc its) (hz:acc.length≤sizeLine) (hD0:H' s.heap.objs.size=none) :
  Inv X pins σ (upd H' s.heap.objs.size (.lst acc)) s'∧Loose X pins (upd H' s.heap.objs.size (.lst acc)) (s.heap.objs.size + 1):=by
 have ub:Un (frs X.stack) fp H H' s.heap s'.heap:=J.base
 have hne:∀ b o,s.heap.get? b=some o→b≠s.heap.objs.size:=fun b o e=>Nat.ne_of_lt (Heap.lt_size e)
 have hsome:∀ b u,H' b=some u→b≠s.heap.objs.size:=fun b u e=>zaF e hD0
 refine ⟨I.call' (s':=s') (ch:=fp) J.os ⟨ub.keep,ub.slot,fun b o e n hx=>?_,ub.there,fun b xs e=>?_,fun b o u e=>?_,fun b ps e=>?_⟩ (fun b u e=>?_) J.bare fun b hb=>?_,?_⟩
 ·rw [zaw (hne b o e)];exact ub.free b o e n hx
 ·have:=ub.tups b xs e
  rw [zaw (hsome b _ this)];exact this
 ·have:=ub.frzs b o u e
  rw [zaw (hsome b _ this)];exact this
 ·obtain⟨more,this⟩:=ub.tbls b ps e
  exact⟨more,by rw [zaw (hsome b _ this)];exact this⟩
 ·by_cases hb:b=s.heap.objs.size
  ·subst hb
   rw [zaR] at e
   cases e
   exact⟨hz,its,k,rv,hD⟩
  ·rw [zaw hb] at e
   exact (J.hok b u e).stay (fun _ _ _ q=>q) (fun c q=>by rw [zaw (hsome c _ q)];exact q) fun c xs q=>by rw [zaw (hsome c _ q)];exact q
 ·obtain⟨_,h2,h3,h4,h5,h6⟩:=hf b hb
  exact⟨h4,h2,h5,h6⟩
 ·refine I.loose (Nat.le_succ _) ?_
  rw [zaw (Nat.succ_ne_self _)]
  exact J.free
end
section
variable {prog:Program} {w:World} {A:Around} {R:Result→Shared→Prop} {s:Shared}
theorem zdX {elt target iter:Expr} {scope:Scope} {pos:Pos} {it acc:Value} {env:Env} (I:Nat→Shared→Prop)
  (turn:∀ n s,I n s→wpAny (model prog w) A (pyNext it) (fun r s₁=>match r with
   | none=>R (.ok .next) s₁
   | some v=>wpAny (model prog w) A (letOwnedTupleGo target it v) (fun _ s₂=>wpAny (model prog w) A (assign target env v) (fun _ s₃=>wpAny (model prog w) A (eval elt env) (fun x s₄ =>
     wpAny (model prog w) A (call (.builtin "list.append") [acc,x]) (fun _ s₅=>∃ m,m < n∧I m s₅) (fun _ _=>False) s₄) (fun _ _=>False) s₃) (fun _ _=>False) s₂) (fun _ _=>False) s₁) (fun _ _=>False) s)
  (n:Nat) (h:I n s):codeAny (model prog w) A (.compLoop (.ListComp elt [⟨target,iter,[],0⟩] scope pos) 0 it acc env) R s:=by
 refine codeAny_loop rfl I (fun n s hI=>?_) n h
 show wpAny _ _ ((compTurn (.ListComp elt [⟨target,iter,[],0⟩] scope pos) 0 it acc env).onRaise (fun x=>do noteFrame x env;theTreesLotGoes x)) _ _ s
 refine wpAny_noted ?_
 rw [compTurn_list1]
 refine wpAny_bind (wpAny_standAt (wpAny_bind (wpAny_mono (turn n s hI) (fun r s₁ h₁=>?_) fun _ _ h'=>h'.elim)))
 cases r with
 | none=>exact wpAny_pure h₁
 | some v =>
  refine wpAny_bind (wpAny_mono h₁ (fun _ s₂ h₂=>?_) fun _ _ h'=>h'.elim)
  exact wpAny_bind (wpAny_mono h₂ (fun _ s₃ h₃=>wpAny_bind (wpAny_bind (wpAny_mono h₃ (fun x s₄ h₄=>wpAny_bind (wpAny_mono h₄
   (fun _ s₅ h₅=>wpAny_pure (wpAny_pure ⟨rfl,h₅⟩)) fun _ _ h'=>h'.elim)) fun _ _ h'=>h'.elim))) fun _ _ h'=>h'.elim)
end
def znN (ix:List (Option Nat)) (wi:TI) (g:TG) (te:TE):TE:=fun σ H Q=>wi σ H fun J H1=>∃ W:Nat→Nat→List V→St→Hp→Prop,(∃ m,W 0 m [] (inner ix σ) H1) ∧
 ∀ i m acc σ' H',W i m acc σ' H'→acc.length≤sizeLine∧((J.stop i H'∧∀ p,H' p=none→Q (.ref p) (upd H' p (.lst acc))) ∨
  (J.go i H'∧∀ x H2,J.yld i H' x H2→g x σ' H2 fun σ2 H3=>te σ2 H3 fun v H4=>∃ m',m' < m∧W (i + 1) m' (acc ++ [v]) σ2 H4))
section
variable {X:Cx} {elt tg iter:Expr} {scope:Scope} {pos:Pos} {wi:TI} {g:TG} {te:TE} {N':List Str} {ix:List (Option Nat)}
theorem zig (B:Blk X.env scope) (hix:ixOk X.N N' scope ix=true) (hc:X.calm=true) (hi:PI X tg iter wi)
  (hg:∀ C s₂ H₂ fp pn,PG (cxB X N' scope C s₂ H₂ fp pn) tg g) (he:∀ C s₂ H₂ fp pn,PE (cxB X N' scope C s₂ H₂ fp pn) elt te) (hs:∀ x,foldedSetIterable iter X.env x=pure x)
  {pins:List (Addr×Obj)} {s:Shared} {σ:St} {H:Hp} {Q:VK} (I:Inv X pins σ H s) (h:znN ix wi g te σ H Q) (use:Option (Value→Sem Unit)) (QQ:Value→Shared→Prop)
  (hU:∀ D C H' acc s',Inv X pins σ (upd H' D (.lst acc)) s'→Loose X pins (upd H' D (.lst acc)) C→(∃ m,s'.heap.Ns C m)→Q (.ref D) (upd H' D (.lst acc))→compPost (model X.prog X.w) X.A X.xe use QQ (.ref D) C (.ok .next) s') :
  wpAny (model X.prog X.w) X.A (comprehension (.ListComp elt [⟨tg,iter,[],0⟩] scope pos) scope X.env (firstIterPos [⟨tg,iter,[],0⟩] pos) (newList []) false (eval iter X.env) use) QQ X.xe s:=by
 refine wpAny_comprehension_free rfl hs (zkO B I) B.kind (fun x hx hl=>?_) ?_
 ·obtain⟨n,k⟩:=x
  have hl':k=.local:=hl
  subst hl'
  exact zbi B.nd hx
 refine thn (hi pins s σ H _ I h) fun v s1 h1=>thn h1 fun itv s2 h2=>?_
 obtain⟨it,fp,tn,J,H2,e,I2,T,st2,f2,W,⟨m0,w0⟩,turn⟩:=h2
 subst e
 have hfl:∀ b∈fp,b < s2.heap.objs.size:=fun b hb=>by
  obtain⟨o,e,_⟩:=T.obj _ _ st2 b hb
  exact Heap.lt_size e
 refine wpAny_newObj_type ?_
 refine zd9 ?_
 have e1:(s2.heap.push { cls:=.type "list", dict:=none,data:=.seq ([]:List Value).toArray }).objs.size=s2.heap.objs.size + 1:=Heap.size_push ..
 show codeAny (model X.prog X.w) X.A (.compStart (.ListComp elt [⟨tg,iter,[],0⟩] scope pos) 0 (.ref it) (.ref s2.heap.objs.size) (zfT X.env scope (s2.heap.push { cls:=.type "list", dict:=none,data:=.seq ([]:List Value).toArray }).objs.size))
  (compPost (model X.prog X.w) X.A X.xe use QQ (.ref s2.heap.objs.size) (s2.heap.push { cls:=.type "list", dict:=none,data:=.seq ([]:List Value).toArray }).objs.size) { s2 with heap:=zby s2.heap scope }
 rw [e1]
 have old:∀ b o,s2.heap.get? b=some o→(zby s2.heap scope).get? b=some o:=fun b o e=>zc1 e
 have hst4:tn 0 (zby s2.heap scope):=T.keep _ _ _ st2 fun b _ o e=>old b o e
 have hD4:(zby s2.heap scope).get? s2.heap.objs.size=some { cls:=.type "list", data:=.seq ([]:List Value).toArray }:=
  pushCells_keeps _ _ _ _ (Heap.get?_push_of_some _ (Heap.get?_push_size _ rfl))
 have hD2:H2 s2.heap.objs.size=none:=I2.hok.fresh (Nat.le_refl _)
 have cellNe:∀ x c,(zfT X.env scope (s2.heap.objs.size + 1)).cells.lookup x=some c→c≠s2.heap.objs.size:=fun x c h=>by
  rcases zeu B I2 (PySem.mem_of_lookup h) with ⟨h1,_⟩ | ⟨h1,_⟩
  ·exact Nat.ne_of_lt (I2.cell_lt h1)
  ·have h1':s2.heap.objs.size + 1 + 1≤c:=h1
   exact Nat.ne_of_gt (Nat.lt_of_lt_of_le (Nat.lt_succ_of_lt (Nat.lt_succ_self _)) h1')
 have pinNe:∀ p∈X.pn ++ pins,p.1≠s2.heap.objs.size:=fun p hp=>Nat.ne_of_lt (Heap.lt_size (I2.pin p hp).1)
 have stat:∀ {H':Hp} {o:Obj},(∀ b∈fp,H' b=none)→∀ b∈fp,FpOk (cxB X N' scope (s2.heap.objs.size + 1) s2 H2 fp (X.pn ++ pins)) [(s2.heap.objs.size,o)] H' b:=fun {H' o} hn b hb=>by
  obtain⟨_,h2,h3,h4,h5,h6⟩:=f2 b hb
  have hlt:=hfl b hb
  refine ⟨hn b hb,(by show b≠s2.heap.objs.size + 1;exact Nat.ne_of_lt (Nat.lt_succ_of_lt hlt)),fun hm=>?_,.inl hb,fun x c h=>((znu B I2 rfl f2 hfl).exf b hb).2 x c h,fun p hp=>?_⟩
  ·rcases List.mem_cons.mp (I2.stkSub b hm) with z | z
   ·exact h2 z
   ·exact h3 z
  ·rcases List.mem_append.mp hp with hp | hp
   ·exact h6 p hp
   ·rw [List.mem_singleton.mp hp]
    show s2.heap.objs.size≠b
    exact Nat.ne_of_gt hlt
 have pinD:∀ {σ':St} {H':Hp} {s':Shared} {o:Obj},Inv (cxB X N' scope (s2.heap.objs.size + 1) s2 H2 fp (X.pn ++ pins)) [] σ' H' s'→s'.heap.get? s2.heap.objs.size=some o→(∀ v,o.data≠.cell v)→H' s2.heap.objs.size=none →
   Inv (cxB X N' scope (s2.heap.objs.size + 1) s2 H2 fp (X.pn ++ pins)) [(s2.heap.objs.size,o)] σ' H' s':=fun {σ' H' s' o} J ho hd hn=>J.pins_of fun p hp=>by
  rw [List.mem_singleton.mp hp]
  refine ⟨ho,hn,by show s2.heap.objs.size≠s2.heap.objs.size + 1;exact Nat.ne_of_lt (Nat.lt_succ_self _),fun hm=>?_,hd⟩
  exact absurd (I2.stk_lt hm) (Nat.lt_irrefl _)
 have loop:codeAny (model X.prog X.w) X.A (.compLoop (.ListComp elt [⟨tg,iter,[],0⟩] scope pos) 0 (.ref it) (.ref s2.heap.objs.size) (zfT X.env scope (s2.heap.objs.size + 1)))
   (compPost (model X.prog X.w) X.A X.xe use QQ (.ref s2.heap.objs.size) (s2.heap.objs.size + 1)) { s2 with heap:=zby s2.heap scope }:=by
  refine zdX (fun n s'=>∃ i σ' H' acc its k,Inv (cxB X N' scope (s2.heap.objs.size + 1) s2 H2 fp (X.pn ++ pins)) [] σ' H' s'∧s'.heap.get? s2.heap.objs.size=some { cls:=.type "list", data:=.seq its k } ∧
   Vals acc its.toList∧tn i s'.heap∧(∀ b∈fp,H' b=none)∧H' s2.heap.objs.size=none∧W i n acc σ' H') ?_ m0 ⟨0,_,_,[],#[],0,zim B hix I2 f2 hfl,hD4,.nil,hst4,fun b hb=>(f2 b hb).1,hD2,w0⟩
  rintro n s3 ⟨i,σ3,H3,acc,its,k,J3,hD3,rv,st3,fr3,hn3,w3⟩
  obtain⟨hz,hor⟩:=turn i n acc σ3 H3 w3
  have J3p:=pinD J3 hD3 (fun v z=>by cases z) hn3
  rcases hor with ⟨stop,q⟩ | ⟨go,step⟩
  ·refine thn (T.done (cxB X N' scope (s2.heap.objs.size + 1) s2 H2 fp (X.pn ++ pins)) rfl rfl rfl hc i _ s3 σ3 H3 _ J3p (stat fr3) st3 stop) fun r s4 ⟨hr,J4⟩=>?_
   subst hr
   have hD4':=(J4.pin (s2.heap.objs.size,_) (List.mem_append_right _ (List.mem_singleton.mpr rfl))).1
   obtain⟨Ie,Le⟩:=znv (its:=its.toList) (k:=k) I2 f2 J4 (by simpa using hD4') rv hz hn3
   obtain⟨m,hm,_⟩:=J4.loc
   exact hU _ _ _ _ s4 Ie Le ⟨m,hm⟩ (q _ hn3)
  ·refine thn (T.item (cxB X N' scope (s2.heap.objs.size + 1) s2 H2 fp (X.pn ++ pins)) rfl rfl rfl hc i _ s3 σ3 H3 _ J3p (stat fr3) st3 go) fun r s4 ⟨u,hr,h4⟩=>?_
   subst hr
   refine thn h4 fun _ s5 ⟨x,H5,J5,r5,y5,st5,fr5⟩=>?_
   have J5':=J5.pinned (stat fr5) (T.obj _ _ st5)
   refine thn (hg _ _ _ _ _ _ s5 σ3 H5 x u _ J5' r5 (step x H5 y5)) fun _ s6 ⟨σ6,H6,J6,q6⟩=>?_
   refine thn (he _ _ _ _ _ _ s6 σ6 H6 _ J6 q6) fun v s7 ⟨y,H7,J7,r7,m',hm',w7⟩=>?_
   have hD7:=J7.pin (s2.heap.objs.size,{ cls:=.type "list", data:=.seq its k }) (List.mem_append_right _ (List.mem_append_left _ (List.mem_singleton.mpr rfl)))
   have J7u:Inv (cxB X N' scope (s2.heap.objs.size + 1) s2 H2 fp (X.pn ++ pins)) [] σ6 H7 s7:=J7.pins_of fun p hp=>by cases hp
   have st7:tn (i + 1) s7.heap:=T.keep _ _ _ st5 fun b hb o e=>(J7.pin (b,o) (List.mem_append_right _ (List.mem_append_right _ (zbz hb e)))).1
   have fr7:∀ b∈fp,H7 b=none:=fun b hb=>by
    obtain⟨o,e,d⟩:=T.obj _ _ st5 b hb
    exact (J7.pin (b,o) (List.mem_append_right _ (List.mem_append_right _ (zbz hb e)))).2.1
   have hlen:=rv.length
   refine wpAny_list_append_plain (l:=s2.heap.objs.size) (items:=its) ⟨k,hD7.1⟩ (fun h' ⟨k',hp'⟩ hs'=>?_) (by simp only [Array.length_toList] at hlen;lia)
   refine ⟨m',hm',i + 1,σ6,H7,acc ++ [y],its.push v,k',?_,hp',?_,?_,fr7,hD7.2.1,w7⟩
   ·exact J7u.turned (t':=s7.toks) (it:=s2.heap.objs.size) (fun b o hb e=>(hs'.2 b hb).trans e) hD7.2.1 (by show s2.heap.objs.size≠s2.heap.objs.size + 1;exact Nat.ne_of_lt (Nat.lt_succ_self _)) (.inr (Nat.le_refl _)) cellNe
     fun p hp=>pinNe p (by have hp':p∈(X.pn ++ pins) ++ []:=hp;rw [List.append_nil] at hp';exact hp')
   ·rw [Array.toList_push]
    exact rv.append (.cons r7 .nil)
   ·exact T.keep _ _ _ st7 fun b hb o e=>(hs'.2 b (Nat.ne_of_lt (hfl b hb))).trans e
 exact codeAny_compStart_list loop (T.self _ _ _ _ _ hst4 loop)
theorem zpP (B:Blk X.env scope) (hix:ixOk X.N N' scope ix=true) (hc:X.calm=true) (hi:PI X tg iter wi)
  (hg:∀ C s₂ H₂ fp pn,PG (cxB X N' scope C s₂ H₂ fp pn) tg g) (he:∀ C s₂ H₂ fp pn,PE (cxB X N' scope C s₂ H₂ fp pn) elt te) (hs:∀ x,foldedSetIterable iter X.env x=pure x:=by intro _;rfl) :
  PE X (.ListComp elt [⟨tg,iter,[],0⟩] scope pos) (znN ix wi g te):=by
 intro pins s σ H Q I h
 rw [eval_ListComp]
 refine zig B hix hc hi hg he hs I h none (EP X pins σ Q) fun D C H' acc s' I' L hm q=>?_
 obtain⟨m,hm⟩:=hm
 exact⟨m,hm,fun h' hs'=>⟨.ref D,_,I'.loosed L hs',rfl,q⟩⟩
theorem zld {i:Nat} {y:Str} {py spos:Pos} (hN:X.N.Nodup) (hi':X.N[i]? = some y) (hy:X.env.scope.names.lookup y=some .local) (B:Blk X.env scope) (hix:ixOk X.N N' scope ix=true) (hc:X.calm=true) (hi:PI X tg iter wi)
  (hg:∀ C s₂ H₂ fp pn,PG (cxB X N' scope C s₂ H₂ fp pn) tg g) (he:∀ C s₂ H₂ fp pn,PE (cxB X N' scope C s₂ H₂ fp pn) elt te)
  (hsw:swapsWith (.ListComp elt [⟨tg,iter,[],0⟩] scope pos) (some (.Name y py)) spos.line X.env=pure true:=by rfl) (hs:∀ x,foldedSetIterable iter X.env x=pure x:=by intro _;rfl) :
  PS X (.Assign [.Name y py] (.ListComp elt [⟨tg,iter,[],0⟩] scope pos) spos) (tAsg (znN ix wi g te) (ze7 i)):=by
 intro pins s σ H D I h
 rw [exec_Assign_Name_used _ _ _ _ hsw]
 refine wpAny_bind (wpAny_standAt (wpAny_bind ?_))
 show wpAny _ X.A (do let _ ← comprehension (.ListComp elt [⟨tg,iter,[],0⟩] scope pos) scope X.env _ (newList []) false (eval iter X.env) (some (assign (.Name y py) X.env))) _ _ s
 refine wpAny_bind (wpAny_mono (zig B hix hc hi hg he hs I h (some (assign (.Name y py) X.env)) (fun _ s'=>SP X pins D .next s') fun A C H' acc s' I' L hm q=>?_) (fun _ s' hq=>wpAny_pure (wpAny_pure hq)) fun _ _ z=>z)
 show wpAny _ _ (assign (.Name y py) X.env (.ref A)) _ _ _
 obtain⟨m,hm⟩:=hm
 refine wpAny_assign_Name (zfp I' hN hi' (.inl hy) (v:=.ref A) rfl (fun s2 I2 ⟨b,hs2,hb⟩=>?_) (.inr hy))
 have hCb:C≠b:=by
  rcases hb with z | z
  ·rw [z];exact L.ne
  ·exact Ne.symm (L.cl _ _ z)
 exact⟨m,hm.sameBut hs2 hCb,fun h' hs'=>⟨_,_,I2.loosed L hs',q⟩⟩
end
end L2
namespace L2
open PySem PySem.Spec PyProof.Rows
section
variable {P:Program} {w:World} {H H':Hp} {h h':Heap} {a:Addr} {o:HO}
theorem zd2.stands (x:zd2 P w H h a o):∃ ob,h.get? a=some ob:=by
 cases o with
 | lst xs=>exact let ⟨_,_,_,_,e⟩:=x;⟨_,e⟩
 | tup xs=>exact let ⟨_,_,_,o,e,_⟩:=x;⟨o,e⟩
 | dK kvs=>exact let ⟨_,_,_,_,o,_,_,e,_⟩:=x;⟨o,e⟩
 | dT kvs=>exact let ⟨_,_,_,_,o,_,_,e,_⟩:=x;⟨o,e⟩
 | set S n=>exact let ⟨o,_,_,_,e,_⟩:=x;⟨o,e⟩
 | ins C dx fs=>exact let ⟨_,_,_,e,_⟩:=x;⟨_,e⟩
 | own y=>exact x
 | xd fs=>exact let ⟨_,⟨o,_,_,e,_⟩,_⟩:=x;⟨o,e⟩
 | rng lo hi=>exact let ⟨_,_,_,e⟩:=x;⟨_,e⟩
 | frz ob u=>exact⟨ob,x.1⟩
 | tbl ps=>exact⟨_,x⟩
 | met f y=>exact⟨_,x⟩
 | ext φ=>exact x.2.1
theorem HOk.kept_on (x:HOk P w H h) (k:∀ b u,(∃ o,H b=some o)→h.get? b=some u→h'.get? b=some u):HOk P w H h':=fun a o e =>
 (x a o e).stay (fun b u q z=>k b u (q.elim (fun q=>⟨o,q ▸ e⟩) fun q=>⟨_,q⟩) z) (fun _ q=>q) fun _ _ q=>q
theorem HOk.gone (x:HOk P w H h) (e:h.get? a=none):H a=none:=by
 cases q:H a with
 | none=>rfl
 | some o =>
  obtain⟨ob,z⟩:=(x a o q).stands
  rw [e] at z
  cases z
end
structure Fly (P:Program) (w:World) (fr:List Env) (H:Hp) (s:Shared) (H':Hp) (C a:Addr) (s':Shared):Prop where
 os:s'.os=s.os
 bare:AllBare s'.gens
 un:Un (frs fr) [] H H' s.heap s'.heap
 hok:HOk P w H' s'.heap
 new:s.heap.get? a=none
 free:H' a=none
 fly:∃ B t,Heap.FlyingW B fr a (.ref C) (.ref t) s'.heap∧(∀ b o,H' b=some o→∃ ob,B.get? b=some ob) ∧
  (∀ b o,s.heap.get? b=some o→H b=none→b∉frs fr→B.get? b=some o)∧(∀ b o,s.heap.get? b=some o→b∉frs fr→∃ ob,B.get? b=some ob)
noncomputable def CXe (P:Program) (w:World):CXT:=fun outer H s E e s'=>∃ H' C a,e=.ref a∧Fly P w outer H s H' C a s'∧E (.ref C) none H'
section
variable {X:Cx} {pins:List (Addr×Obj)} {σ:St} {H H':Hp} {s s':Shared} {C a:Addr} {M:Model} {A:Around} {E:Value→Shared→Prop}
theorem zfI {B h:Heap} {l:List Env} (F:h.FunFrames B l) {b:Addr} (hb:b∈frs l):∃ o,h.get? b=some o∧∀ vs,o.data≠.fields vs:=(F.mem hb).2
theorem Fly.moved (I:Inv X pins σ H s) (F:Fly X.prog X.w X.stack H s H' C a s') {B h2:Heap} (fr':s'.heap.FunFrames B X.stack) (st:B.StaysIn h2) (sB:B.StaysIn s'.heap) (sm:s'.heap.UpToSlots h2)
  (k1:∀ b o,H' b=some o→∃ ob,B.get? b=some ob)
  (k2:∀ b o,s.heap.get? b=some o→H b=none→b∉frs X.stack→B.get? b=some o) (k3:∀ b o,s.heap.get? b=some o→b∉frs X.stack→∃ ob,B.get? b=some ob):Inv X pins σ H' { s' with heap:=h2 }:=by
 have slots:∀ b∈frs X.stack,∀ o,s'.heap.get? b=some o→∃ sl,h2.get? b=some { o with slots:=sl }:=fun b hb o e=>by
  obtain⟨o',e',d⟩:=zfI fr' hb
  rw [e] at e'
  cases e'
  exact sm b o e d
 refine I.call' (s':={ s' with heap:=h2 }) (ch:=[]) F.os ⟨fun b o e n nf _=>st b o (k2 b o e n nf),fun b o e n hf hx=>?_,F.un.free,fun b o e hx=>?_,F.un.tups,F.un.frzs,F.un.tbls⟩ ?_ F.bare (fun b hb=>nomatch hb)
 ·obtain⟨sl,e1⟩:=F.un.slot b o e n hf hx
  obtain⟨sl',e2⟩:=slots b hf _ e1
  exact⟨sl',e2⟩
 ·by_cases hf:b∈frs X.stack
  ·obtain⟨o1,e1⟩:=F.un.there b o e hx
   obtain⟨sl',e2⟩:=slots b hf _ e1
   exact⟨_,e2⟩
  ·obtain⟨ob,z⟩:=k3 b o e hf
   exact⟨ob,st _ _ z⟩
 ·refine F.hok.kept_on fun b u ⟨o,q⟩ e=>?_
  obtain⟨ob,z⟩:=k1 b o q
  have:=sB b ob z
  rw [e] at this
  cases this
  exact st b _ z
theorem Fly.outer (I:Inv X pins σ H s) (J:Inv X pins σ H' s') (hx:X.ex=[]) (hs:X.stack=X.env :: X.outer) (hf:X.env.frame=some X.env.locals) (new:s.heap.get? a=none) (free:H' a=none) {B:Heap} {t:Addr}
  (fl:Heap.FlyingW B X.outer a (.ref C) (.ref t) s'.heap) (k1:∀ b o,H' b=some o→∃ ob,B.get? b=some ob)
  (k2:∀ b o,s.heap.get? b=some o→H b=none→b∉frs X.stack→B.get? b=some o) (k3:∀ b o,s.heap.get? b=some o→b∉frs X.stack→∃ ob,B.get? b=some ob) :
  Fly X.prog X.w X.outer X.H₀ X.s₀ H' C a s':=by
 have nx:∀ b,b∉X.ex:=fun b hb=>by rw [hx] at hb;cases hb
 have ns:∀ b o,X.s₀.heap.get? b=some o→b∉frs X.outer→b∉frs X.stack:=fun b o e n q=>by
  have z:frs X.stack=X.env.locals :: frs X.outer:=by rw [hs];unfold frs;rw [List.filterMap_cons,hf]
  rw [z] at q
  rcases List.mem_cons.mp q with q | q
  ·have h1:=Heap.lt_size e
   rw [q] at h1
   exact absurd (Nat.lt_of_lt_of_le h1 I.ok.above) (Nat.lt_irrefl _)
  ·exact n q
 refine ⟨J.os,J.bare,by have:=J.base;rw [hx] at this;exact this,J.hok,?_,free,B,t,fl,k1,fun b o e n nf=>?_,fun b o e nf=>?_⟩
 ·cases q:X.s₀.heap.get? a with
  | none=>rfl
  | some o =>
   obtain⟨o',z⟩:=I.base.there a o q (nx a)
   rw [new] at z
   cases z
 ·exact k2 b o (I.base.keep b o e n nf (nx b)) (I.base.free b o e n (nx b)) (ns b o e nf)
 ·obtain⟨o',z⟩:=I.base.there b o e (nx b)
  exact k3 b o' z (ns b o e nf)
theorem Fly.leave {Q:Unit→Shared→Prop} (I:Inv X pins σ H s) (hx:X.ex=[]) (hs:X.stack=X.env :: X.outer) (hf:X.env.frame=some X.env.locals) (F:Fly X.prog X.w X.stack H s H' C a s') (hA:A.frames=some X.stack)
  (k:∀ s2,Fly X.prog X.w X.outer X.H₀ X.s₀ H' C a s2→Q () s2):wpAny M A (leaving X.env (.ref a)) Q E s':=by
 obtain⟨B,t,fl,k1,k2,k3⟩:=F.fly
 have fl':Heap.FlyingW B (X.env :: X.outer) a (.ref C) (.ref t) s'.heap:=hs ▸ fl
 refine wpAny_leaves_onW (hA.trans (congrArg some hs)) hf fl' fun h2 fl2 sm=>k _ ?_
 exact Fly.outer I (F.moved I fl.2.2.1 fl2.1 fl.1 sm k1 k2 k3) hx hs hf F.new F.free fl2 k1 k2 k3
theorem Fly.made {Q:Unit→Shared→Prop} {h1:Heap} {args:List Value} (I:Inv X pins σ H s) (hx:X.ex=[]) (hs:X.stack=X.env :: X.outer) (hf:X.env.frame=some X.env.locals) (mk:Heap.MadeExcOf s.heap h1 a (.ref C) args) (hA:A.frames=some X.stack)
  (k:∀ s2,Fly X.prog X.w X.outer X.H₀ X.s₀ H C a s2→Q () s2):wpAny M A (leaving X.env (.ref a)) Q E { s with heap:=h1 }:=by
 have fs0:s.heap.FunFrames X.base X.stack:=I.stack
 have mem:∀ e∈X.stack,∀ b,e.frame=some b→b∈frs X.stack:=fun e he b hb=>List.mem_filterMap.mpr ⟨e,he,hb⟩
 have fs1:s.heap.FunFrames (PySem.W.hideAll s.heap (frs X.stack)) X.stack:=PySem.W.funFrames_hide fs0 mem
 have sB:(PySem.W.hideAll s.heap (frs X.stack)).StaysIn s.heap:=fun b o e=>PySem.W.of_hideAll _ e
 have free:H a=none:=I.hok.gone mk.new
 have k2:∀ b o,s.heap.get? b=some o→b∉frs X.stack→(PySem.W.hideAll s.heap (frs X.stack)).get? b=some o:=fun b o e n=>PySem.W.hideAll_get _ e n
 have k1:∀ b o,H b=some o→∃ ob,(PySem.W.hideAll s.heap (frs X.stack)).get? b=some ob:=fun b o q=>by
  obtain⟨ob,z⟩:=(I.hok b o q).stands
  exact⟨ob,k2 b ob z fun hb=>by rw [I.stkFree b hb] at q;cases q⟩
 refine wpAny_leaves_madeW (base:=PySem.W.hideAll s.heap (frs X.stack)) (h:=s.heap) (hA.trans (congrArg some hs)) hf sB (hs ▸ fs1) mk fun h2 t fl2 _ _ sm=>k _ ?_
 have slots:∀ b∈frs X.stack,∀ o,s.heap.get? b=some o→∃ sl,h2.get? b=some { o with slots:=sl }:=fun b hb o e=>by
  obtain⟨o',e',d⟩:=zfI fs0 hb
  rw [e] at e'
  cases e'
  exact sm b o (mk.keeps b o e) d
 have J:Inv X pins σ H { s with heap:=h2 }:=by
  refine I.call' (s':={ s with heap:=h2 }) (ch:=[]) rfl ⟨fun b o e n nf _=>fl2.1 b o (k2 b o e nf),fun b o e n hb hx=>slots b hb o e,fun b o e n _=>n,fun b o e hx=>?_,fun _ _ q=>q,fun _ _ _ q=>q,fun b ps q=>⟨#[],by rw [Array.append_empty];exact q⟩⟩ ?_ I.bare (fun b hb=>nomatch hb)
  ·by_cases hb:b∈frs X.stack
   ·obtain⟨sl,z⟩:=slots b hb o e
    exact⟨_,z⟩
   ·exact⟨o,fl2.1 b o (k2 b o e hb)⟩
  ·refine I.hok.kept_on fun b u ⟨o,q⟩ e=>fl2.1 b u (k2 b u e fun hb=>?_)
   rw [I.stkFree b hb] at q
   cases q
 exact Fly.outer (s':={ s with heap:=h2 }) I J hx hs hf mk.new free fl2 k1 (fun b o e _ nf=>k2 b o e nf) fun b o e nf=>⟨o,k2 b o e nf⟩
end
end L2
namespace L2
open PySem PySem.Spec PyProof.Rows
section
variable {P:Program} {w:World} {K:PySem.W.Frag} {mg:Str→Option Value} {base:Heap}
theorem zaM {N:List Str} {qual:Str} {scope:Scope} {f:Addr} {cd:Value} {A:Around} {outer:List Env} {s:Shared} {H:Hp} {E:XK}:zgM (CXe P w) (cxOf (CXe P w) P w K mg base N qual scope f cd A outer s H E) E:=by
 intro pins σ H1 s1 e s' I h
 obtain⟨H',C,a,he,F,hE⟩:=h
 subst he
 exact Fly.leave I rfl rfl rfl F I.ok.frames fun s2 F2=>⟨H',C,a,rfl,F2,hE⟩
def znJ (X:Cx) (E:XK):Prop:=∀ (pins:List (Addr×Obj)) (σ:St) (H:Hp) (s:Shared) (C a:Addr) (args:List Value) (h1:Heap),Inv X pins σ H s→Heap.MadeExcOf s.heap h1 a (.ref C) args→E (.ref C) none H→X.xe (.ref a) { s with heap:=h1 }
theorem zeF {N:List Str} {qual:Str} {scope:Scope} {f:Addr} {cd:Value} {A:Around} {outer:List Env} {s:Shared} {H:Hp} {E:XK}:znJ (cxOf (CXe P w) P w K mg base N qual scope f cd A outer s H E) E:=by
 intro pins σ H1 s1 C a args h1 I mk hE
 exact Fly.made I rfl rfl rfl mk I.ok.frames fun s2 F2=>⟨H1,C,a,rfl,F2,hE⟩
theorem ownE {N:List Str} {qual:Str} {scope:Scope} {f:Addr} {cd:Value} {A:Around} {outer:List Env} {s:Shared} {H:Hp} {E:XK} :
  PassesOwn (model P w) (cxOf (CXe P w) P w K mg base N qual scope f cd A outer s H E).A (cxOf (CXe P w) P w K mg base N qual scope f cd A outer s H E).env (cxOf (CXe P w) P w K mg base N qual scope f cd A outer s H E).xe:=
 PassesOwn.leaving (Q₁:=fun e s''=>CXe P w outer H s E e s'') (E₁:=fun e' s''=>CXe P w outer H s E e' s'')
theorem Fun.okE {x qual:Str} {st:Stmt} {f:Addr} {fd:FuncData} {N ps:List Str} {k:Nat} {sp:Sp} (F:Fun K x qual st f fd) (S:FnScope N ps (defScope st)) (len:∀ vs H Q E,sp vs H Q E→vs.length=ps.length)
  (hbody:∀ (cdv:Value) (A:Around) (outer:List Env) (s:Shared) (H:Hp) (vs:List V) (Q:VK) (E:XK),Room k (A.deeper (envOfC qual (defScope st) s.heap.objs.size f cdv))→sp vs H Q E →
   ∃ t,PSs (cxOf (CXe P w) P w K mg base N qual (defScope st) f cdv A outer s H E) (defBody st) t∧t { nx:=fun _ H'=>Q .non H',rt:=Q } (start N vs) H):FnOk P w K mg base (CXe P w) (k + 1) f fd ps sp:=by
 obtain⟨oc,od,kV,doc,pm,an,cdv,ct,osl,rfl,lk,hcd⟩:=F.ex
 exact ztw lk hcd S len fun A outer s H vs Q E hr hsp=>hbody cdv A outer s H vs Q E hr hsp
end
theorem zrY {K:PySem.W.Frag} {h:Heap} {C:Addr} {bmB:List Value} {newId:String} (X:K.In h) (q:PySem.W.excIn K C bmB newId=true) :
  ∃ bm N nm qn bs hd sn sub ab col dd k0 k1 k2 k3 k5 mN,h.get? C=some (excClassObj nm qn C N bs bm hd sn sub ab col dd k0 k1 k2 k3 k5 newId)∧h.Ns N mN∧mN "__init__" = none∧OwnTail h bmB bm:=by
 unfold PySem.W.excIn at q
 split at q
 case h_2=>exact nomatch q
 case h_1 dd cd sl ho =>
  have hc:=X _ _ ho
  split at q
  case h_2=>exact nomatch q
  case h_1 C' bm k0 k1 k2 k3 n k5 hm hs =>
   rw [Bool.and_eq_true,Bool.and_eq_true,Bool.and_eq_true,Bool.and_eq_true,Bool.and_eq_true] at q
   obtain⟨⟨⟨⟨⟨q1,q2⟩,q3⟩,q4⟩,q5⟩,q6⟩:=q
   replace q1:=eq_of_beq q1
   replace q2:=eq_of_beq q2
   replace q6:=eq_of_beq q6
   replace q3:cd.hasDel=false:=by simpa using q3
   subst q1 q2
   have es:sl = #[k0,k1,k2,k3,some (.builtin n),k5]:=Array.ext' (by rw [hs])
   subst es
   cases cd
   dsimp only at hm q3 q5 q6 hc
   subst hm q3
   exact⟨bm,_,_,_,_,_,_,_,_,_,dd,k0,k1,k2,k3,k5,_,hc,.of_isNs (PySem.W.isNs_of_in X q5),PySem.W.nsMap_none_of_in X q5 q6,PySem.W.tail_of_in X q4⟩
def zqX (C:Addr) (E:XK) (ta:TA):TS:=fun _ σ H=>ta σ H fun xs H1=>xs.length≤sizeLine∧E (.ref C) none H1
theorem znX {X:Cx} {E:XK} {x:Str} {C:Addr} {bmB:List Value} {B newId initId:String} {e:Expr} {ta:TA} {np cpos pos:Pos} (F:ExcBaseFacts B newId initId bmB) (hR:znJ X E) (hh:X.A.handled=none) (hg:Gl X x) (hm:X.mg x=some (.ref C))
  (hc:PySem.W.excIn X.K C bmB newId=true) (ha:PA X [e] ta) (hb:bmB.contains (.type "BaseException")=true:=by decide +kernel) (hdb:(x == ("__debug__" : Str))=false:=by decide)
  (he:starEach [e] X.env=[(false,eval e X.env)]:=by rfl):PS X (.Raise (some (.Call (.Name x np) [e] [] cpos)) none pos) (zqX C E ta):=by
 intro pins s σ H D I h
 obtain⟨bm,N,nm,qn,bs,hd,sn,sub,ab,col,dd,k0,k1,k2,k3,k5,mN,o1,o2,o3,o4⟩:=zrY I.mod.kin hc
 have p:=ha cpos pins s σ H (fun xs H1=>xs.length≤sizeLine∧E (.ref C) none H1) I h
 refine wpAny_Raise_call_subT (nm:=nm) (q:=qn) (N:=N) (bs:=bs) (bm:=bm) (hdct:=hd) (sn:=sn) (sub:=sub) (ab:=ab) (col:=col) (dd:=dd) (k0:=k0) (k1:=k1) (k2:=k2) (k3:=k3) (k5:=k5) F (o4.hasType hb) hh (by rw [he];rfl) o3 (zi7 I hg hm ⟨rfl,?_⟩ hdb)
 rw [he] at p ⊢
 refine Calls.evalArgs_plain (thn p fun us s2 ⟨vs,H1,J,r,l,q⟩=>⟨rfl,?_,J.bk _ _ o1,o2.keeps J.bk,o4.keeps J.bk,fun h1 a mk=>hR pins σ H1 s2 C a us h1 J mk q⟩)
 rw [← r.length]
 exact l
end L2
namespace L2
open PySem PySem.Spec PyProof.Rows
section
variable {X:Cx} {pins:List (Addr×Obj)} {σ:St} {H H':Hp} {s s' s3:Shared} {C a:Addr} {M:Model} {A:Around} {E:Value→Shared→Prop}
end
end L2
namespace TL
open PySem PySem.Spec PyProof.Rows L2
inductive T where
 | sc (v:V)
 | scr (ns:List Int)
 | lst (xs:List T)
 | tup (xs:List T)
inductive Md where
 | al | sp | fu
 deriving DecidableEq
def Scr (K:PySem.W.Frag) (H:Hp) (a:Addr) (ns:List Int):Prop:=
 (∃ o,H a=some (.frz o (.lst (ns.map V.int)))) ∨
  ∃ (o:Obj) (its:Array Value) (n:Nat),K.lookup a=some o∧o.cls=.type "list" ∧ o.dict=none∧o.data=.seq its n∧its.size≤sizeLine∧Vals (ns.map V.int) its.toList
theorem Scr.sq {K:PySem.W.Frag} {H:Hp} {a:Addr} {ns:List Int} (h:Scr K H a ns):SqL K H a (ns.map V.int):=h.elim (fun q=>.inl (.inr q)) .inr
section
variable (K:PySem.W.Frag) (H:Hp) (S:Addr→Prop)
mutual
noncomputable def Den:T→Md→List Addr→V→Prop
 | .sc w,_,A,v=>A=[]∧v=w
 | .scr ns,_,A,v=>A=[]∧∃ a,v=.ref a∧Scr K H a ns
 | .lst ts,.al,A,v=>A=[]∧∃ a vs,v=.ref a∧S a∧H a=some (.lst vs)∧Dens ts .al [] vs
 | .lst ts,.sp,A,v=>∃ a vs,v=.ref a∧A=[a]∧H a=some (.lst vs)∧Dens ts .al [] vs
 | .lst ts,.fu,A,v=>∃ a vs A',v=.ref a∧A=a :: A'∧H a=some (.lst vs)∧Dens ts .fu A' vs
 | .tup ts,.fu,A,v=>∃ a vs,v=.ref a∧SqT K H a vs∧Dens ts .fu A vs
 | .tup ts,.al,A,v=>A=[]∧∃ a vs,v=.ref a∧SqT K H a vs∧Dens ts .al [] vs
 | .tup ts,.sp,A,v=>A=[]∧∃ a vs,v=.ref a∧SqT K H a vs∧Dens ts .al [] vs
noncomputable def Dens:List T→Md→List Addr→List V→Prop
 | [],_,A,vs=>A=[]∧vs=[]
 | t :: ts,m,A,vs=>∃ A1 A2 v vs',A=A1 ++ A2∧vs=v :: vs'∧Den t m A1 v∧Dens ts m A2 vs'
end
end
structure Frm (K:PySem.W.Frag) (H H':Hp) (P:Addr→Prop):Prop where
 nodes:∀ b xs,P b→H b=some (.lst xs)→H' b=some (.lst xs)
 tups:∀ b xs,SqT K H b xs→SqT K H' b xs
 scrs:∀ b ns,Scr K H b ns→Scr K H' b ns
section
variable {K:PySem.W.Frag} {H H' H1 H2:Hp} {S S':Addr→Prop}
mutual
theorem Den.frm {P:Addr→Prop} (F:Frm K H H' P) (hS:∀ a,S a→P a) (hS':∀ a,S a→S' a):∀ {t:T} {m:Md} {A:List Addr} {v:V},(∀ a∈A,P a)→Den K H S t m A v→Den K H' S' t m A v
 | .sc w,m,A,v,_,h=>by unfold Den at h ⊢;exact h
 | .scr ns,m,A,v,_,h=>by unfold Den at h ⊢;obtain⟨e,a,q,r⟩:=h;exact⟨e,a,q,F.scrs _ _ r⟩
 | .lst ts,.al,A,v,_,h=>by
  unfold Den at h ⊢
  obtain⟨e,a,vs,q,s,r,d⟩:=h
  exact⟨e,a,vs,q,hS' a s,F.nodes _ _ (hS a s) r,Dens.frm F hS hS' (fun _ z=>nomatch z) d⟩
 | .lst ts,.sp,A,v,hA,h=>by
  unfold Den at h ⊢
  obtain⟨a,vs,q,e,r,d⟩:=h
  exact⟨a,vs,q,e,F.nodes _ _ (hA a (by rw [e];exact List.mem_singleton.mpr rfl)) r,Dens.frm F hS hS' (fun _ z=>nomatch z) d⟩
 | .lst ts,.fu,A,v,hA,h=>by
  unfold Den at h ⊢
  obtain⟨a,vs,A',q,e,r,d⟩:=h
  subst e
  exact⟨a,vs,A',q,rfl,F.nodes _ _ (hA a (List.mem_cons_self ..)) r,Dens.frm F hS hS' (fun b z=>hA b (List.mem_cons_of_mem _ z)) d⟩
 | .tup ts,.fu,A,v,hA,h=>by
  unfold Den at h ⊢
  obtain⟨a,vs,q,r,d⟩:=h
  exact⟨a,vs,q,F.tups _ _ r,Dens.frm F hS hS' hA d⟩
 | .tup ts,.al,A,v,hA,h=>by
  unfold Den at h ⊢
  obtain⟨e,a,vs,q,r,d⟩:=h
  exact⟨e,a,vs,q,F.tups _ _ r,Dens.frm F hS hS' (fun _ z=>nomatch z) d⟩
 | .tup ts,.sp,A,v,hA,h=>by
  unfold Den at h ⊢
  obtain⟨e,a,vs,q,r,d⟩:=h
  exact⟨e,a,vs,q,F.tups _ _ r,Dens.frm F hS hS' (fun _ z=>nomatch z) d⟩
theorem Dens.frm {P:Addr→Prop} (F:Frm K H H' P) (hS:∀ a,S a→P a) (hS':∀ a,S a→S' a):∀ {ts:List T} {m:Md} {A:List Addr} {vs:List V},(∀ a∈A,P a)→Dens K H S ts m A vs→Dens K H' S' ts m A vs
 | [],m,A,vs,_,h=>by unfold Dens at h ⊢;exact h
 | t :: ts,m,A,vs,hA,h=>by
  unfold Dens at h ⊢
  obtain⟨A1,A2,v,vs',e,q,d,r⟩:=h
  subst e
  exact⟨A1,A2,v,vs',rfl,q,Den.frm F hS hS' (fun a z=>hA a (List.mem_append_left _ z)) d,Dens.frm F hS hS' (fun a z=>hA a (List.mem_append_right _ z)) r⟩
end
theorem Scr.same {K:PySem.W.Frag} {a:Addr} {ns:List Int} (e:Same H H') (h:Scr K H a ns):Scr K H' a ns:=h.imp (fun ⟨o,q⟩=>⟨o,e _ _ q⟩) id
theorem zfd {K:PySem.W.Frag} {a:Addr} {xs:List V} (e:Same H H') (h:SqT K H a xs):SqT K H' a xs:=by
 rcases h with (h | ⟨o,h⟩) | h
 ·exact .inl (.inl (e _ _ h))
 ·exact .inl (.inr ⟨o,e _ _ h⟩)
 ·exact .inr h
theorem Frm.same (e:Same H H'):Frm K H H' fun _=>True:=⟨fun b xs _ h=>e _ _ h,fun b xs h=>zfd e h,fun b ns h=>h.same e⟩
theorem Den.mono {t:T} {m:Md} {A:List Addr} {v:V} (h:Den K H S t m A v) (e:Same H H') (hS:∀ a,S a→S' a):Den K H' S' t m A v:=Den.frm (Frm.same e) (fun _ _=>trivial) hS (fun _ _=>trivial) h
theorem Dens.mono {ts:List T} {m:Md} {A:List Addr} {vs:List V} (h:Dens K H S ts m A vs) (e:Same H H') (hS:∀ a,S a→S' a):Dens K H' S' ts m A vs:=Dens.frm (Frm.same e) (fun _ _=>trivial) hS (fun _ _=>trivial) h
theorem Den.monoS {t:T} {m:Md} {A:List Addr} {v:V} (h:Den K H S t m A v) (hS:∀ a,S a→S' a):Den K H S' t m A v:=h.mono (Same.refl _) hS
theorem Dens.monoS {ts:List T} {m:Md} {A:List Addr} {vs:List V} (h:Dens K H S ts m A vs) (hS:∀ a,S a→S' a):Dens K H S' ts m A vs:=h.mono (Same.refl _) hS
theorem Frm.upd {a:Addr} {xs:List V} {o:HO} (h:H a=some (.lst xs)):Frm K H (upd H a o) fun b=>b≠a:=
 ⟨fun b ys hb e=>by rw [zaw hb];exact e,fun b ys e=>by
  rcases e with (e | ⟨o',e⟩) | e
  ·exact .inl (.inl (by rw [zaw];exact e;intro z;rw [z,h] at e;cases e))
  ·exact .inl (.inr ⟨o',by rw [zaw];exact e;intro z;rw [z,h] at e;cases e⟩)
  ·exact .inr e,fun b ns e=>by
  rcases e with ⟨o',e⟩ | e
  ·exact .inl ⟨o',by rw [zaw];exact e;intro z;rw [z,h] at e;cases e⟩
  ·exact .inr e⟩
mutual
/-- of a thing that is wholly ours nothing is shared -/
theorem Den.fuS:∀ {t:T} {A:List Addr} {v:V},Den K H S t .fu A v→Den K H S' t .fu A v
 | .sc w,A,v,h=>by unfold Den at h ⊢;exact h
 | .scr ns,A,v,h=>by unfold Den at h ⊢;exact h
 | .lst ts,A,v,h=>by
  unfold Den at h ⊢
  obtain⟨a,vs,A',q,e,r,d⟩:=h
  exact⟨a,vs,A',q,e,r,Dens.fuS d⟩
 | .tup ts,A,v,h=>by
  unfold Den at h ⊢
  obtain⟨a,vs,q,r,d⟩:=h
  exact⟨a,vs,q,r,Dens.fuS d⟩
theorem Dens.fuS:∀ {ts:List T} {A:List Addr} {vs:List V},Dens K H S ts .fu A vs→Dens K H S' ts .fu A vs
 | [],A,vs,h=>by unfold Dens at h ⊢;exact h
 | t :: ts,A,vs,h=>by
  unfold Dens at h ⊢
  obtain⟨A1,A2,v,vs',e,q,d,r⟩:=h
  exact⟨A1,A2,v,vs',e,q,Den.fuS d,Dens.fuS r⟩
end
mutual
/-- what is ours stands -/
theorem Den.own:∀ {t:T} {m:Md} {A:List Addr} {v:V},Den K H S t m A v→∀ a∈A,∃ vs,H a=some (.lst vs)
 | .sc w,m,A,v,h,a,ha=>by unfold Den at h;rw [h.1] at ha;cases ha
 | .scr ns,m,A,v,h,a,ha=>by unfold Den at h;rw [h.1] at ha;cases ha
 | .lst ts,.al,A,v,h,a,ha=>by unfold Den at h;rw [h.1] at ha;cases ha
 | .lst ts,.sp,A,v,h,a,ha=>by
  unfold Den at h
  obtain⟨b,vs,q,e,r,d⟩:=h
  rw [e] at ha
  rw [List.mem_singleton.mp ha]
  exact⟨vs,r⟩
 | .lst ts,.fu,A,v,h,a,ha=>by
  unfold Den at h
  obtain⟨b,vs,A',q,e,r,d⟩:=h
  rw [e] at ha
  rcases List.mem_cons.mp ha with z | z
  ·rw [z];exact⟨vs,r⟩
  ·exact Dens.own d a z
 | .tup ts,.fu,A,v,h,a,ha=>by
  unfold Den at h
  obtain⟨b,vs,q,r,d⟩:=h
  exact Dens.own d a ha
 | .tup ts,.al,A,v,h,a,ha=>by unfold Den at h;rw [h.1] at ha;cases ha
 | .tup ts,.sp,A,v,h,a,ha=>by unfold Den at h;rw [h.1] at ha;cases ha
theorem Dens.own:∀ {ts:List T} {m:Md} {A:List Addr} {vs:List V},Dens K H S ts m A vs→∀ a∈A,∃ vs,H a=some (.lst vs)
 | [],m,A,vs,h,a,ha=>by unfold Dens at h;rw [h.1] at ha;cases ha
 | t :: ts,m,A,vs,h,a,ha=>by
  unfold Dens at h
  obtain⟨A1,A2,v,vs',e,q,d,r⟩:=h
  rw [e] at ha
  rcases List.mem_append.mp ha with z | z
  ·exact Den.own d a z
  ·exact Dens.own r a z
end
mutual
/-- what is ours may be shared out -/
theorem Den.out:∀ {t:T} {m:Md} {A:List Addr} {v:V},Den K H S t m A v→(∀ a,S a→S' a)→(∀ a∈A,S' a)→Den K H S' t .al [] v
 | .sc w,m,A,v,h,_,_=>by unfold Den at h ⊢;exact⟨rfl,h.2⟩
 | .scr ns,m,A,v,h,_,_=>by unfold Den at h ⊢;exact⟨rfl,h.2⟩
 | .lst ts,.al,A,v,h,k,hA=>by
  unfold Den at h ⊢
  obtain⟨e,a,vs,q,s,r,d⟩:=h
  exact⟨rfl,a,vs,q,k a s,r,d.monoS k⟩
 | .lst ts,.sp,A,v,h,k,hA=>by
  unfold Den at h ⊢
  obtain⟨a,vs,q,e,r,d⟩:=h
  exact⟨rfl,a,vs,q,hA a (by rw [e];exact List.mem_singleton.mpr rfl),r,d.monoS k⟩
 | .lst ts,.fu,A,v,h,k,hA=>by
  unfold Den at h ⊢
  obtain⟨a,vs,A',q,e,r,d⟩:=h
  subst e
  exact⟨rfl,a,vs,q,hA a (List.mem_cons_self ..),r,Dens.out d k fun b z=>hA b (List.mem_cons_of_mem _ z)⟩
 | .tup ts,.fu,A,v,h,k,hA=>by
  unfold Den at h ⊢
  obtain⟨a,vs,q,r,d⟩:=h
  exact⟨rfl,a,vs,q,r,Dens.out d k hA⟩
 | .tup ts,.al,A,v,h,k,hA=>by
  unfold Den at h ⊢
  obtain⟨e,a,vs,q,r,d⟩:=h
  exact⟨rfl,a,vs,q,r,d.monoS k⟩
 | .tup ts,.sp,A,v,h,k,hA=>by
  unfold Den at h ⊢
  obtain⟨e,a,vs,q,r,d⟩:=h
  exact⟨rfl,a,vs,q,r,d.monoS k⟩
theorem Dens.out:∀ {ts:List T} {m:Md} {A:List Addr} {vs:List V},Dens K H S ts m A vs→(∀ a,S a→S' a)→(∀ a∈A,S' a)→Dens K H S' ts .al [] vs
 | [],m,A,vs,h,_,_=>by unfold Dens at h ⊢;exact⟨rfl,h.2⟩
 | t :: ts,m,A,vs,h,k,hA=>by
  unfold Dens at h ⊢
  obtain⟨A1,A2,v,vs',e,q,d,r⟩:=h
  subst e
  exact⟨[],[],v,vs',rfl,q,Den.out d k fun a z=>hA a (List.mem_append_left _ z),Dens.out r k fun a z=>hA a (List.mem_append_right _ z)⟩
end
theorem Dens.length:∀ {ts:List T} {m:Md} {A:List Addr} {vs:List V},Dens K H S ts m A vs→vs.length=ts.length
 | [],m,A,vs,h=>by unfold Dens at h;rw [h.2];rfl
 | t :: ts,m,A,vs,h=>by
  unfold Dens at h
  obtain⟨A1,A2,v,vs',e,q,d,r⟩:=h
  rw [q,List.length_cons,List.length_cons,Dens.length r]
theorem Dens.nil {m:Md}:Dens K H S [] m [] []:=by unfold Dens;exact⟨rfl,rfl⟩
theorem Dens.cons {t:T} {ts:List T} {m:Md} {A1 A2:List Addr} {v:V} {vs:List V} (d:Den K H S t m A1 v) (r:Dens K H S ts m A2 vs):Dens K H S (t :: ts) m (A1 ++ A2) (v :: vs):=by
 unfold Dens
 exact⟨A1,A2,v,vs,rfl,rfl,d,r⟩
theorem Dens.cons0 {t:T} {ts:List T} {v:V} {vs:List V} (d:Den K H S t .al [] v) (r:Dens K H S ts .al [] vs):Dens K H S (t :: ts) .al [] (v :: vs):=Dens.cons (A1:=[]) (A2:=[]) d r
theorem Dens.append:∀ {ts us:List T} {m:Md} {A1 A2:List Addr} {vs ws:List V},Dens K H S ts m A1 vs→Dens K H S us m A2 ws→Dens K H S (ts ++ us) m (A1 ++ A2) (vs ++ ws)
 | [],us,m,A1,A2,vs,ws,h,g=>by
  unfold Dens at h
  obtain⟨rfl,rfl⟩:=h
  exact g
 | t :: ts,us,m,A1,A2,vs,ws,h,g=>by
  unfold Dens at h
  obtain⟨B1,B2,v,vs',rfl,rfl,d,r⟩:=h
  rw [List.append_assoc]
  exact Dens.cons d (Dens.append r g)
theorem Den.alA {t:T} {A:List Addr} {v:V} (h:Den K H S t .al A v):A=[]:=by
 cases t with
 | sc w=>unfold Den at h;exact h.1
 | scr ns=>unfold Den at h;exact h.1
 | lst ts=>unfold Den at h;exact h.1
 | tup ts=>unfold Den at h;exact h.1
theorem Dens.alA:∀ {ts:List T} {A:List Addr} {vs:List V},Dens K H S ts .al A vs→A=[]
 | [],A,vs,h=>by unfold Dens at h;exact h.1
 | t :: ts,A,vs,h=>by
  unfold Dens at h
  obtain⟨A1,A2,v,vs',e,q,d,r⟩:=h
  rw [e,d.alA,Dens.alA r]
  rfl
theorem Dens.get:∀ {ts:List T} {vs:List V} {i:Nat} {t:T},Dens K H S ts .al [] vs→ts[i]? = some t→∃ v,vs[i]? = some v∧Den K H S t .al [] v
 | [],vs,i,t,h,e=>by simp at e
 | u :: us,vs,i,t,h,e=>by
  unfold Dens at h
  obtain⟨A1,A2,v,vs',ea,rfl,d,r⟩:=h
  obtain⟨rfl,rfl⟩:=List.append_eq_nil_iff.mp ea.symm
  cases i with
  | zero=>simp at e;subst e;exact⟨v,rfl,d⟩
  | succ i =>
   obtain⟨w,h1,h2⟩:=Dens.get (i:=i) r (by simpa using e)
   exact⟨w,by simpa using h1,h2⟩
theorem Dens.take {ts:List T} {vs:List V} (n:Nat) (h:Dens K H S ts .al [] vs):Dens K H S (ts.take n) .al [] (vs.take n):=by
 induction n generalizing ts vs with
 | zero=>simp;exact Dens.nil
 | succ n ih =>
  cases ts with
  | nil=>unfold Dens at h;rw [h.2];simp;exact Dens.nil
  | cons t ts =>
   unfold Dens at h
   obtain⟨A1,A2,v,vs',ea,rfl,d,r⟩:=h
   obtain⟨rfl,rfl⟩:=List.append_eq_nil_iff.mp ea.symm
   rw [List.take_succ_cons,List.take_succ_cons]
   exact Dens.cons0 d (ih r)
theorem Dens.drop {ts:List T} {vs:List V} (n:Nat) (h:Dens K H S ts .al [] vs):Dens K H S (ts.drop n) .al [] (vs.drop n):=by
 induction n generalizing ts vs with
 | zero=>exact h
 | succ n ih =>
  cases ts with
  | nil=>unfold Dens at h;rw [h.2];exact Dens.nil
  | cons t ts =>
   unfold Dens at h
   obtain⟨A1,A2,v,vs',ea,rfl,d,r⟩:=h
   obtain⟨rfl,rfl⟩:=List.append_eq_nil_iff.mp ea.symm
   rw [List.drop_succ_cons,List.drop_succ_cons]
   exact ih r
theorem Dens.reverse {ts:List T} {vs:List V} (h:Dens K H S ts .al [] vs):Dens K H S ts.reverse .al [] vs.reverse:=by
 induction ts generalizing vs with
 | nil=>unfold Dens at h;rw [h.2];exact Dens.nil
 | cons t ts ih =>
  unfold Dens at h
  obtain⟨A1,A2,v,vs',ea,rfl,d,r⟩:=h
  obtain⟨rfl,rfl⟩:=List.append_eq_nil_iff.mp ea.symm
  rw [List.reverse_cons,List.reverse_cons]
  exact Dens.append (A1:=[]) (A2:=[]) (ih r) (Dens.cons0 d Dens.nil)
end
theorem zet {K:PySem.W.Frag} {H:Hp} {S:Addr→Prop} {m:Md} (v:V):Den K H S (.sc v) m [] v:=by unfold Den;exact⟨rfl,rfl⟩
theorem zaf {K:PySem.W.Frag} {H:Hp} {S:Addr→Prop} {m:Md} {w v:V} {A:List Addr}:Den K H S (.sc w) m A v↔A=[]∧v=w:=by unfold Den;exact Iff.rfl
theorem zah {K:PySem.W.Frag} {H:Hp} {S:Addr→Prop} {ts:List T} {v:V} {A:List Addr}:Den K H S (.lst ts) .al A v↔A=[]∧∃ a vs,v=.ref a∧S a∧H a=some (.lst vs)∧Dens K H S ts .al [] vs:=by conv=>lhs;unfold Den
theorem zbS {K:PySem.W.Frag} {H:Hp} {S:Addr→Prop} {ts:List T} {v:V} {A:List Addr}:Den K H S (.lst ts) .sp A v↔∃ a vs,v=.ref a∧A=[a]∧H a=some (.lst vs)∧Dens K H S ts .al [] vs:=by conv=>lhs;unfold Den
theorem zaq {K:PySem.W.Frag} {H:Hp} {S:Addr→Prop} {ts:List T} {v:V} {A:List Addr}:Den K H S (.lst ts) .fu A v↔∃ a vs A',v=.ref a∧A=a :: A'∧H a=some (.lst vs)∧Dens K H S ts .fu A' vs:=by conv=>lhs;unfold Den
theorem zao {K:PySem.W.Frag} {H:Hp} {S:Addr→Prop} {ts:List T} {v:V} {A:List Addr}:Den K H S (.tup ts) .al A v↔A=[]∧∃ a vs,v=.ref a∧SqT K H a vs∧Dens K H S ts .al [] vs:=by conv=>lhs;unfold Den
theorem zlz {K:PySem.W.Frag} {H:Hp} {S:Addr→Prop} {ts:List T} {v:V} {A:List Addr}:Den K H S (.tup ts) .fu A v↔∃ a vs,v=.ref a∧SqT K H a vs∧Dens K H S ts .fu A vs:=by conv=>lhs;unfold Den
theorem zjk {K:PySem.W.Frag} {H:Hp} {S:Addr→Prop} {ns:List Int} {m:Md} {v:V} {A:List Addr}:Den K H S (.scr ns) m A v↔A=[]∧∃ a,v=.ref a∧Scr K H a ns:=by conv=>lhs;unfold Den
end TL
namespace TL
open PySem PySem.Spec L2
inductive Res (α:Type) where
 | ok (a:α)
 | exc (c:Nat)
 | bad
noncomputable def Res.bind {α β:Type} (x:Res α) (f:α→Res β):Res β:=match x with
 | .ok a=>f a
 | .exc c=>.exc c
 | .bad=>.bad
@[simp] theorem Res.bind_ok {α β:Type} (a:α) (f:α→Res β):(Res.ok a).bind f=f a:=(rfl)
noncomputable def Res.of {α:Type}:Option α→Res α
 | some a=>.ok a
 | none=>.bad
@[simp] theorem Res.of_some {α:Type} (a:α):Res.of (some a)=.ok a:=(rfl)
noncomputable abbrev VEnv:=List (Option T)
noncomputable abbrev SEnv:=List (Option (Md×T))
structure Z where
 H₀:Hp
 S₀:Addr→Prop
 cl:Nat→Addr
 E:XK
def Dom (S:Addr→Prop) (H:Hp):Prop:=∀ a,S a→H a≠none
structure Grow (H:Hp) (S:Addr→Prop) (H':Hp) (S':Addr→Prop):Prop where
 same:Same H H'
 up:∀ a,S a→S' a
 new:∀ a,S' a→S a∨H a=none
 dom:Dom S' H'
theorem zba {H H':Hp} (e:Same H H') {a:Addr} (h:H' a=none):H a=none:=e.free h
theorem zbM {H H':Hp} (e:Same H H') {a:Addr} (h:H a≠none):H' a≠none:=fun z=>h (zba e z)
theorem Grow.refl {H:Hp} {S:Addr→Prop} (d:Dom S H):Grow H S H S:=⟨Same.refl _,fun _ h=>h,fun _ h=>.inl h,d⟩
theorem Grow.trans {H H1 H2:Hp} {S S1 S2:Addr→Prop} (a:Grow H S H1 S1) (b:Grow H1 S1 H2 S2):Grow H S H2 S2:=
 ⟨a.same.trans b.same,fun c h=>b.up c (a.up c h),fun c h=>(b.new c h).elim (fun q=>a.new c q) fun q=>.inr (zba a.same q),b.dom⟩
structure Got (K:PySem.W.Frag) (H:Hp) (S:Addr→Prop) (H':Hp) (S':Addr→Prop) (A:List Addr) (v:V) (md:Md) (t:T):Prop where
 g:Grow H S H' S'
 nd:A.Nodup
 ow:∀ a∈A,H a=none∧¬ S' a
 den:Den K H' S' t md A v
structure Gots (K:PySem.W.Frag) (H:Hp) (S:Addr→Prop) (H':Hp) (S':Addr→Prop) (A:List Addr) (vs:List V) (md:Md) (ts:List T):Prop where
 g:Grow H S H' S'
 nd:A.Nodup
 ow:∀ a∈A,H a=none∧¬ S' a
 den:Dens K H' S' ts md A vs
section
variable {K:PySem.W.Frag} {H H' H1 H2:Hp} {S S' S1 S2:Addr→Prop} {A:List Addr} {v:V} {vs:List V} {md:Md} {t:T} {ts:List T}
theorem Got.trans (a:Grow H S H1 S1) (b:Got K H1 S1 H2 S2 A v md t):Got K H S H2 S2 A v md t:=
 ⟨a.trans b.g,b.nd,fun x hx=>⟨zba a.same (b.ow x hx).1,(b.ow x hx).2⟩,b.den⟩
theorem Got.al (b:Got K H S H' S' A v md t):Got K H S H' (fun a=>S' a∨a∈A) [] v .al t:=
 ⟨⟨b.g.same,fun a h=>.inl (b.g.up a h),fun a h=>h.elim (b.g.new a) fun q=>.inr (b.ow a q).1,fun a h=>h.elim (b.g.dom a) fun q z=>by
  obtain⟨vs,e⟩:=b.den.own a q
  rw [z] at e;cases e⟩,List.nodup_nil,fun _ z=>(nomatch z),b.den.out (fun a h=>.inl h) fun a h=>.inr h⟩
theorem Gots.al (b:Gots K H S H' S' A vs md ts):Gots K H S H' (fun a=>S' a∨a∈A) [] vs .al ts:=
 ⟨⟨b.g.same,fun a h=>.inl (b.g.up a h),fun a h=>h.elim (b.g.new a) fun q=>.inr (b.ow a q).1,fun a h=>h.elim (b.g.dom a) fun q z=>by
  obtain⟨vs,e⟩:=b.den.own a q
  rw [z] at e;cases e⟩,List.nodup_nil,fun _ z=>(nomatch z),b.den.out (fun a h=>.inl h) fun a h=>.inr h⟩
theorem Got.sc (d:Dom S H) (v:V):Got K H S H S [] v md (.sc v):=⟨.refl d,List.nodup_nil,fun _ z=>(nomatch z),zet v⟩
theorem Got.newSp {p:Addr} (d:Dom S H) (hp:H p=none) (h:Dens K H S ts .al [] vs):Got K H S (upd H p (.lst vs)) S [p] (.ref p) .sp (.lst ts):=by
 have sm:Same H (upd H p (.lst vs)):=fun b o e=>by rw [zaw (zaF e hp)];exact e
 exact⟨⟨sm,fun _ h=>h,fun _ h=>.inl h,fun a h=>zbM sm (d a h)⟩,by simp,fun a ha=>by
  rw [List.mem_singleton.mp ha]
  exact⟨hp,fun z=>d p z hp⟩,zbS.mpr ⟨p,vs,rfl,rfl,zaR,h.mono sm fun _ h=>h⟩⟩
theorem Got.newFu {p:Addr} (g:Gots K H S H' S' A vs .fu ts) (hp:H' p=none):Got K H S (upd H' p (.lst vs)) S' (p :: A) (.ref p) .fu (.lst ts):=by
 have sm:Same H' (upd H' p (.lst vs)):=fun b o e=>by rw [zaw (zaF e hp)];exact e
 have np:p∉A:=fun z=>by
  obtain⟨ws,e⟩:=g.den.own p z
  rw [hp] at e;cases e
 refine ⟨⟨g.g.same.trans sm,g.g.up,g.g.new,fun a h=>zbM sm (g.g.dom a h)⟩,List.nodup_cons.mpr ⟨np,g.nd⟩,fun a ha=>?_,zaq.mpr ⟨p,vs,A,rfl,rfl,zaR,g.den.mono sm fun _ h=>h⟩⟩
 rcases List.mem_cons.mp ha with z | z
 ·rw [z];exact⟨zba g.g.same hp,fun q=>g.g.dom p q hp⟩
 ·exact g.ow a z
theorem Got.newTup {p:Addr} (g:Gots K H S H' S' A vs .fu ts) (hp:H' p=none):Got K H S (upd H' p (.tup vs)) S' A (.ref p) .fu (.tup ts):=by
 have sm:Same H' (upd H' p (.tup vs)):=fun b o e=>by rw [zaw (zaF e hp)];exact e
 exact⟨⟨g.g.same.trans sm,g.g.up,g.g.new,fun a h=>zbM sm (g.g.dom a h)⟩,g.nd,g.ow,zlz.mpr ⟨p,vs,rfl,.inl (.inl zaR),g.den.mono sm fun _ h=>h⟩⟩
theorem Gots.nil (d:Dom S H):Gots K H S H S [] [] md []:=⟨.refl d,List.nodup_nil,fun _ z=>(nomatch z),Dens.nil⟩
theorem Gots.cons {A2:List Addr} (a:Got K H S H1 S1 A v md t) (b:Gots K H1 S1 H2 S2 A2 vs md ts):Gots K H S H2 S2 (A ++ A2) (v :: vs) md (t :: ts):=by
 have dj:∀ x∈A,x∉A2:=fun x hx hy=>by
  obtain⟨ws,e⟩:=a.den.own x hx
  rw [(b.ow x hy).1] at e;cases e
 refine ⟨a.g.trans b.g,List.nodup_append.mpr ⟨a.nd,b.nd,fun x hx y hy z=>dj x hx (z ▸ hy)⟩,fun x hx=>?_,Dens.cons (a.den.mono b.g.same b.g.up) b.den⟩
 rcases List.mem_append.mp hx with z | z
 ·refine ⟨(a.ow x z).1,fun q=>?_⟩
  rcases b.g.new x q with q | q
  ·exact (a.ow x z).2 q
  ·obtain⟨ws,e⟩:=a.den.own x z
   rw [q] at e;cases e
 ·exact⟨zba a.g.same (b.ow x z).1,(b.ow x z).2⟩
theorem Gots.snoc {A2:List Addr} (a:Gots K H S H1 S1 A vs md ts) (b:Got K H1 S1 H2 S2 A2 v md t):Gots K H S H2 S2 (A ++ A2) (vs ++ [v]) md (ts ++ [t]):=by
 have dj:∀ x∈A,x∉A2:=fun x hx hy=>by
  obtain⟨ws,e⟩:=a.den.own x hx
  rw [(b.ow x hy).1] at e;cases e
 refine ⟨a.g.trans b.g,List.nodup_append.mpr ⟨a.nd,b.nd,fun x hx y hy z=>dj x hx (z ▸ hy)⟩,fun x hx=>?_,(a.den.mono b.g.same b.g.up).append (by simpa using Dens.cons b.den Dens.nil)⟩
 rcases List.mem_append.mp hx with z | z
 ·refine ⟨(a.ow x z).1,fun q=>?_⟩
  rcases b.g.new x q with q | q
  ·exact (a.ow x z).2 q
  ·obtain⟨ws,e⟩:=a.den.own x z
   rw [q] at e;cases e
 ·exact⟨zba a.g.same (b.ow x z).1,(b.ow x z).2⟩
end
structure OkE (K:PySem.W.Frag) (z:Z) (S:Addr→Prop) (ρ:VEnv) (σ:St) (H:Hp):Prop where
 same:Same z.H₀ H
 dom:Dom S H
 sl:∀ (i:Nat) t,ρ[i]? = some (some t)→∃ v,σ[i]? = some (some v)∧Den K H S t .al [] v
theorem OkE.grow {K:PySem.W.Frag} {z:Z} {S S':Addr→Prop} {ρ:VEnv} {σ:St} {H H':Hp} (o:OkE K z S ρ σ H) (g:Grow H S H' S'):OkE K z S' ρ σ H':=
 ⟨o.same.trans g.same,g.dom,fun i t e=>let ⟨v,h1,h2⟩:=o.sl i t e;⟨v,h1,h2.mono g.same g.up⟩⟩
noncomputable def endE (K:PySem.W.Frag) (z:Z) (H:Hp) (S:Addr→Prop) (md:Md) (Q:VK):Res T→Prop
 | .ok t=>∀ v H' S' A,Got K H S H' S' A v md t→Q v H'
 | .exc c=>∀ H',Same z.H₀ H'→z.E (.ref (z.cl c)) none H'
 | .bad=>False
noncomputable def endA (K:PySem.W.Frag) (z:Z) (H:Hp) (S:Addr→Prop) (md:Md) (Q:List V→Hp→Prop):Res (List T)→Prop
 | .ok ts=>∀ vs H' S' A,Gots K H S H' S' A vs md ts→Q vs H'
 | .exc c=>∀ H',Same z.H₀ H'→z.E (.ref (z.cl c)) none H'
 | .bad=>False
noncomputable def endB (z:Z) (H:Hp) (S:Addr→Prop) (Q:Bool→Hp→Prop):Res Bool→Prop
 | .ok b=>∀ H' S',Grow H S H' S'→Q b H'
 | .exc c=>∀ H',Same z.H₀ H'→z.E (.ref (z.cl c)) none H'
 | .bad=>False
theorem endE.grow {K:PySem.W.Frag} {z:Z} {H H1:Hp} {S S1:Addr→Prop} {md:Md} {Q:VK} {r:Res T} (g:Grow H S H1 S1) (h:endE K z H S md Q r):endE K z H1 S1 md Q r:=by
 cases r with
 | ok t=>exact fun v H2 S2 A g2=>h v H2 S2 A (g2.trans g)
 | exc c=>exact h
 | bad=>exact h
def tr (K:PySem.W.Frag) (z:Z) (md:Md) (F:VEnv→Res T):TE:=fun σ H Q=>∃ S ρ,OkE K z S ρ σ H∧endE K z H S md Q (F ρ)
def tra (K:PySem.W.Frag) (z:Z) (md:Md) (F:VEnv→Res (List T)):TA:=fun σ H Q=>∃ S ρ,OkE K z S ρ σ H∧endA K z H S md Q (F ρ)
def trb (K:PySem.W.Frag) (z:Z) (F:VEnv→Res Bool):TT:=fun σ H Q=>∃ S ρ,OkE K z S ρ σ H∧endB z H S Q (F ρ)
abbrev JE (X:Cx) (z:Z) (md:Md) (F:VEnv→Res T) (e:Expr):Prop:=PE X e (tr X.K z md F)
abbrev JA (X:Cx) (z:Z) (md:Md) (F:VEnv→Res (List T)) (es:List Expr):Prop:=PA X es (tra X.K z md F)
abbrev JT (X:Cx) (z:Z) (F:VEnv→Res Bool) (e:Expr):Prop:=PT X e (trb X.K z F)
abbrev JW (X:Cx) (z:Z) (F:VEnv→Res Bool) (e:Expr):Prop:=PW X e (trb X.K z F)
theorem PE.imp {X:Cx} {e:Expr} {t t':TE} (h:PE X e t) (k:∀ σ H Q,t' σ H Q→t σ H Q):PE X e t':=fun pins s σ H Q I q=>h pins s σ H Q I (k σ H Q q)
theorem PA.imp {X:Cx} {e:List Expr} {t t':TA} (h:PA X e t) (k:∀ σ H Q,t' σ H Q→t σ H Q):PA X e t':=fun pos pins s σ H Q I q=>h pos pins s σ H Q I (k σ H Q q)
theorem PT.imp {X:Cx} {e:Expr} {t t':TT} (h:PT X e t) (k:∀ σ H Q,t' σ H Q→t σ H Q):PT X e t':=fun pins s σ H Q I q=>h pins s σ H Q I (k σ H Q q)
theorem PW.imp {X:Cx} {e:Expr} {t t':TT} (h:PW X e t) (k:∀ σ H Q,t' σ H Q→t σ H Q):PW X e t':=fun wh pins s σ H Q I q=>h wh pins s σ H Q I (k σ H Q q)
section
variable {X:Cx} {z:Z} {md md1 md2:Md} {F F1 F2:VEnv→Res T} {e a b:Expr} {es:List Expr} {pos:Pos} {K:PySem.W.Frag}
theorem zsF {σ:St} {H:Hp} {Q:VK} (h:tr K z .al F σ H Q):tr K z md F σ H Q:=by
 obtain⟨S,ρ,o,h⟩:=h
 refine ⟨S,ρ,o,?_⟩
 cases e:F ρ with
 | ok t=>rw [e] at h;exact fun v H' S' A g=>h v H' _ [] g.al
 | exc c=>rw [e] at h;exact h
 | bad=>rw [e] at h;exact h
theorem JE.al (h:JE X z md F e):JE X z .al F e:=PE.imp h fun _ _ _=>zsF
noncomputable def isSc:T→Bool
 | .sc _=>true
 | _=>false
noncomputable def chk (x:Res T):Res T:=x.bind fun t=>if isSc t then .ok t else .bad
@[simp] theorem zt9 (v:V):chk (.ok (.sc v))=.ok (.sc v):=(rfl)
theorem JE.sc (h:JE X z md F e):JE X z md1 (fun ρ=>chk (F ρ)) e:=PE.imp h fun σ H Q q=>by
 obtain⟨S,ρ,o,q⟩:=q
 refine ⟨S,ρ,o,?_⟩
 replace q:endE X.K z H S md1 Q (chk (F ρ)):=q
 cases e:F ρ with
 | ok t =>
  rw [e] at q
  cases t with
  | sc w =>
   intro v H' S' A g
   refine q v H' S' A ⟨g.g,g.nd,g.ow,?_⟩
   have:=zaf.mp g.den
   exact zaf.mpr this
  | scr ns=>exact (show False from q).elim
  | lst ts=>exact (show False from q).elim
  | tup ts=>exact (show False from q).elim
 | exc c=>rw [e] at q;exact q
 | bad=>rw [e] at q;exact q
theorem zeD {F1:VEnv→Res T} {G:VEnv→T→Res T} {σ:St} {H:Hp} {Q:VK} {Q1:VK} (h:tr K z md (fun ρ=>(F1 ρ).bind (G ρ)) σ H Q)
  (k:∀ S ρ t v H' S',OkE K z S' ρ σ H'→F1 ρ=.ok t→Grow H S H' S'→Den K H' S' t .al [] v→endE K z H' S' md Q (G ρ t)→Q1 v H'):tr K z .al F1 σ H Q1:=by
 obtain⟨S,ρ,o,h⟩:=h
 refine ⟨S,ρ,o,?_⟩
 replace h:endE K z H S md Q ((F1 ρ).bind (G ρ)):=h
 cases e:F1 ρ with
 | ok t =>
  rw [e] at h
  intro v H' S' A g
  obtain rfl:=g.den.alA
  exact k S ρ t v H' S' (o.grow g.g) e g.g g.den (endE.grow g.g h)
 | exc c=>rw [e] at h;exact h
 | bad=>rw [e] at h;exact h
def endT (K:PySem.W.Frag) (H:Hp) (S:Addr→Prop) (md:Md) (Q:VK) (r:Option T):Prop:=match r with
 | some t=>∀ v H' S' A,Got K H S H' S' A v md t→Q v H'
 | none=>False
def rT (K:PySem.W.Frag) (md:Md) (g:T→T→Option T):R2:=fun x y H Q=>∃ S t u,Dom S H∧Den K H S t .al [] x∧Den K H S u .al [] y∧endT K H S md Q (g t u)
noncomputable def rCT (K:PySem.W.Frag) (md:Md) (g:List T→Option T):List V→Hp→VK→Prop:=fun xs H Q=>∃ S ts,Dom S H∧Dens K H S ts .al [] xs∧endT K H S md Q (g ts)
noncomputable def eOp (g:T→T→Option T) (F1 F2:VEnv→Res T):VEnv→Res T:=fun ρ=>(F1 ρ).bind fun t=>(F2 ρ).bind fun u=>.of (g t u)
theorem zfN {H:Hp} {S:Addr→Prop} {Q:VK} {r:Option T} (h:endE K z H S md Q (.of r)):endT K H S md Q r:=by
 cases r with
 | some t=>exact h
 | none=>exact h
theorem zjW {g:T→T→Option T} {σ:St} {H:Hp} {Q:VK} (h:tr K z md (eOp g F1 F2) σ H Q):tOp (rT K md g) (tr K z .al F1) (tr K z .al F2) σ H Q:=by
 refine zeD h fun S ρ t v H' S' o _ g1 d q=>⟨S',ρ,o,?_⟩
 try dsimp only at q
 cases e2:F2 ρ with
 | exc c=>rw [e2] at q;exact q
 | bad=>rw [e2] at q;exact q
 | ok u =>
  rw [e2] at q
  intro v2 H2 S2 A2 g2
  obtain rfl:=g2.den.alA
  exact⟨S2,t,u,g2.g.dom,d.mono g2.g.same g2.g.up,g2.den,zfN (z:=z) (endE.grow g2.g q)⟩
theorem zas {op:Operator} {g:T→T→Option T} (ho:OpR X (binaryOp op) (rT X.K md g)) (ha:JE X z md1 F1 a) (hb:JE X z md2 F2 b):JE X z md (eOp g F1 F2) (.BinOp a op b pos):=
 PE.imp (zsY ho (JE.al ha) (JE.al hb)) fun _ _ _=>zjW
theorem zm4 {op:CmpOp} {g:T→T→Option T} (ho:OpR X (compareOp op) (rT X.K md g)) (ha:JE X z md1 F1 a) (hb:JE X z md2 F2 b) (hm:behindInMarks op b=false):JE X z md (eOp g F1 F2) (.Compare a [op] [b] pos):=
 PE.imp (zpQ ho (JE.al ha) (JE.al hb) hm) fun _ _ _=>zjW
theorem zcX {g:T→T→Option T} (ho:IxR X (rT X.K md g)) (ha:JE X z md1 F1 a) (hb:JE X z md2 F2 b) (hs:zjH b):JE X z md (eOp g F1 F2) (.Subscript a b pos):=
 PE.imp (zro ho (JE.al ha) (JE.al hb) hs) fun _ _ _=>zjW
noncomputable def asB:T→Option Bool
 | .sc (.bl b)=>some b
 | _=>none
noncomputable def eB (F:VEnv→Res T):VEnv→Res Bool:=fun ρ=>(F ρ).bind fun t=>.of (asB t)
theorem zkW {t:T} {b:Bool} (h:asB t=some b):t=.sc (.bl b):=by
 unfold asB at h
 split at h
 ·cases h;rfl
 ·cases h
theorem zlK {σ:St} {H:Hp} {Q:Bool→Hp→Prop} (h:trb K z (eB F) σ H Q):tr K z md F σ H (fun x H'=>∃ k,x=.bl k∧Q k H'):=by
 obtain⟨S,ρ,o,h⟩:=h
 refine ⟨S,ρ,o,?_⟩
 unfold eB at h
 try dsimp only at h
 cases e:F ρ with
 | exc c=>rw [e] at h;exact h
 | bad=>rw [e] at h;exact h
 | ok t =>
  rw [e,Res.bind_ok] at h
  intro v H' S' A g
  cases e2:asB t with
  | none=>rw [e2] at h;exact (show False from h).elim
  | some b =>
   rw [e2] at h
   obtain rfl:=zkW e2
   obtain⟨rfl,rfl⟩:=zaf.mp g.den
   exact⟨_,rfl,h H' S' g.g⟩
theorem zaW {op:CmpOp} {g:T→T→Option T} (ho:OpR X (compareOp op) (rT X.K .al g)) (ha:JE X z md1 F1 a) (hb:JE X z md2 F2 b) (hm:behindInMarks op b=false):JT X z (eB (eOp g F1 F2)) (.Compare a [op] [b] pos):=
 PT.imp (zpK ho (JE.al ha) (JE.al hb) hm) fun σ H Q h=>zjW (md:=.al) (zlK h)
theorem zo8 {e:Expr} (h:JE X z md F e) (he:∀ whole,isTrue e X.env whole=(do let v ← whole;standAt e.pos;holding [v] (truthy v)):=by intro _;rfl):JT X z (eB F) e:=
 PT.imp (zri h he) fun σ H Q q=>zlK q
variable {B B1 B2:VEnv→Res Bool} {rest:List Expr}
theorem zmV (h:JW X z B e):JT X z B e:=PW.pt h
theorem zjV {G:VEnv→Bool→Res Bool} {σ:St} {H:Hp} {Q:Bool→Hp→Prop} {Q1:Bool→Hp→Prop} (h:trb K z (fun ρ=>(B1 ρ).bind (G ρ)) σ H Q)
  (k:∀ b H' , trb K z (fun ρ=>G ρ b) σ H' Q→Q1 b H'):trb K z B1 σ H Q1:=by
 obtain⟨S,ρ,o,h⟩:=h
 refine ⟨S,ρ,o,?_⟩
 try dsimp only at h
 cases e:B1 ρ with
 | exc c=>rw [e] at h;exact h
 | bad=>rw [e] at h;exact h
 | ok t =>
  rw [e,Res.bind_ok] at h
  intro H' S' g
  refine k t H' ⟨S',ρ,o.grow g,?_⟩
  dsimp only
  cases e2:G ρ t with
  | exc c=>rw [e2] at h;exact h
  | bad=>rw [e2] at h;exact h
  | ok b=>rw [e2] at h;exact fun H2 S2 g2=>h H2 S2 (g.trans g2)
theorem zjU {b:Bool} {σ:St} {H:Hp} {Q:Bool→Hp→Prop} (h:trb K z (fun _=>.ok b) σ H Q):Q b H:=by
 obtain⟨S,ρ,o,h⟩:=h
 exact h H S (.refl o.dom)
noncomputable def bAnd (B1 B2:VEnv→Res Bool):VEnv→Res Bool:=fun ρ=>(B1 ρ).bind fun b=>if b=true then B2 ρ else .ok false
noncomputable def bOr (B1 B2:VEnv→Res Bool):VEnv→Res Bool:=fun ρ=>(B1 ρ).bind fun b=>if b=true then .ok true else B2 ρ
theorem zmT (ha:JT X z B a):JW X z B (.BoolOp .And [a] pos):=zpI ha
theorem zmS (ha:JT X z B a):JW X z B (.BoolOp .Or [a] pos):=zre ha
theorem zo7 (ha:JT X z B1 a) (hb:JW X z B2 (.BoolOp .And (b :: rest) pos)):JW X z (bAnd B1 B2) (.BoolOp .And (a :: b :: rest) pos):=
 PW.imp (zrf ha hb) fun σ H Q h=>zjV h fun b H' q=>by
  cases b with
  | true=>exact q
  | false=>rw [if_neg (by decide)];exact zjU (z:=z) (K:=X.K) q
theorem zoc (ha:JT X z B1 a) (hb:JW X z B2 (.BoolOp .Or (b :: rest) pos)):JW X z (bOr B1 B2) (.BoolOp .Or (a :: b :: rest) pos):=
 PW.imp (zsU ha hb) fun σ H Q h=>zjV h fun b H' q=>by
  cases b with
  | false=>rw [if_neg (by decide)];exact q
  | true=>rw [if_pos rfl];exact zjU (z:=z) (K:=X.K) q
noncomputable def vOr (F1 F2:VEnv→Res T):VEnv→Res T:=fun ρ=>(F1 ρ).bind fun t=>(Res.of (asB t)).bind fun b=>if b=true then .ok (.sc (.bl true)) else F2 ρ
theorem zrR {op} (h:JE X z md F a):JE X z md F (.BoolOp op [a] pos):=zrn h
theorem ztm (ha:JE X z md1 F1 a) (hb:JE X z md F2 (.BoolOp .Or (b :: rest) pos)):JE X z md (vOr F1 F2) (.BoolOp .Or (a :: b :: rest) pos):=
 PE.imp (zsX (JE.al ha) hb) fun σ H Q h=>zeD h fun S ρ t v H' S' o _ g d q=>by
  try dsimp only at q
  cases e:asB t with
  | none=>rw [e] at q;exact (show False from q).elim
  | some b =>
   rw [e,Res.of_some,Res.bind_ok] at q
   obtain rfl:=zkW e
   obtain⟨_,rfl⟩:=zaf.mp d
   refine ⟨b,rfl,?_⟩
   cases b with
   | false=>rw [if_neg (by decide)] at q ⊢;exact⟨S',ρ,o,q⟩
   | true=>rw [if_pos rfl] at q ⊢;exact q _ H' S' [] (Got.sc g.dom _)
noncomputable def eVar (i:Nat):VEnv→Res T:=fun ρ=>match ρ[i]? with
 | some (some t)=>.ok t
 | _=>.bad
noncomputable def eC (v:V):VEnv→Res T:=fun _=>.ok (.sc v)
theorem zac {i:Nat} (h:PE X e (tVar i)):JE X z .al (eVar i) e:=PE.imp h fun σ H Q q=>by
 obtain⟨S,ρ,o,q⟩:=q
 unfold eVar at q
 split at q
 ·rename_i t e
  obtain⟨v,h1,h2⟩:=o.sl i t e
  exact⟨v,h1,q v H S [] ⟨.refl o.dom,List.nodup_nil,fun _ z=>(nomatch z),h2⟩⟩
 ·exact (show False from q).elim
theorem zdm {v:V} (h:PE X e (tC v)):JE X z md (eC v) e:=PE.imp h fun σ H Q q=>by
 obtain⟨S,ρ,o,q⟩:=q
 exact q v H S [] (Got.sc o.dom v)
theorem zaj {i j}:JE X z md (eC (.int i)) (.Constant (.int i) j pos):=zdm zoV
theorem zjb {i j}:JE X z md (eC (.bl i)) (.Constant (.bool i) j pos):=zdm zsZ
variable {Fs:VEnv→Res (List T)} {te:TE}
noncomputable def aNil:VEnv→Res (List T):=fun _=>.ok []
noncomputable def zae (F:VEnv→Res T) (Fs:VEnv→Res (List T)):VEnv→Res (List T):=fun ρ=>(F ρ).bind fun t=>(Fs ρ).bind fun ts=>.ok (t :: ts)
theorem zai:JA X z md aNil []:=PA.imp zeZ fun σ H Q q=>by
 obtain⟨S,ρ,o,q⟩:=q
 exact q [] H S [] (Gots.nil o.dom)
theorem zaa (ha:JE X z md F e) (hr:JA X z md Fs es) (hs:starEach (e :: es) X.env=(false,eval e X.env) :: starEach es X.env:=by rfl):JA X z md (zae F Fs) (e :: es):=
 PA.imp (zcR ha hr hs) fun σ H Q h=>by
  obtain⟨S,ρ,o,h⟩:=h
  refine ⟨S,ρ,o,?_⟩
  unfold zae at h
  try dsimp only at h
  cases e1:F ρ with
  | exc c=>rw [e1] at h;exact h
  | bad=>rw [e1] at h;exact h
  | ok t =>
   rw [e1,Res.bind_ok] at h
   intro v1 H1 S1 A1 g1
   refine ⟨S1,ρ,o.grow g1.g,?_⟩
   cases e2:Fs ρ with
   | exc c=>rw [e2] at h;exact h
   | bad=>rw [e2] at h;exact h
   | ok ts =>
    rw [e2] at h
    exact fun vs H2 S2 A2 g2=>h _ H2 S2 _ (Gots.cons g1 g2)
theorem JA.al (h:JA X z md Fs es):JA X z .al Fs es:=PA.imp h fun σ H Q q=>by
 obtain⟨S,ρ,o,q⟩:=q
 refine ⟨S,ρ,o,?_⟩
 cases e:Fs ρ with
 | ok t=>rw [e] at q;exact fun v H' S' A g=>q v H' _ [] g.al
 | exc c=>rw [e] at q;exact q
 | bad=>rw [e] at q;exact q
noncomputable def zdG (ts:List T):Option T:=if ts.length≤sizeLine then some (.lst ts) else none
noncomputable def zhC (ts:List T):Option T:=if ts.length≤sizeLine then some (.tup ts) else none
noncomputable def eLst (Fs:VEnv→Res (List T)):VEnv→Res T:=fun ρ=>(Fs ρ).bind fun ts=>.of (zdG ts)
noncomputable def eTup (Fs:VEnv→Res (List T)):VEnv→Res T:=fun ρ=>(Fs ρ).bind fun ts=>.of (zhC ts)
theorem zdy {G:List T→Res T} {σ:St} {H:Hp} {Q:VK} {Q1:List V→Hp→Prop} (h:tr K z md (fun ρ=>(Fs ρ).bind G) σ H Q)
  (k:∀ S ts vs H' S' A,Same z.H₀ H→Gots K H S H' S' A vs md1 ts→endE K z H S md Q (G ts)→Q1 vs H'):tra K z md1 Fs σ H Q1:=by
 obtain⟨S,ρ,o,h⟩:=h
 refine ⟨S,ρ,o,?_⟩
 try dsimp only at h
 cases e:Fs ρ with
 | ok t=>rw [e] at h;exact fun vs H' S' A g=>k S t vs H' S' A o.same g h
 | exc c=>rw [e] at h;exact h
 | bad=>rw [e] at h;exact h
theorem zdB {ts:List T} {t:T} (h:zdG ts=some t):t=.lst ts∧ts.length≤sizeLine:=by
 unfold zdG at h
 split at h
 ·cases h;exact⟨rfl,by assumption⟩
 ·cases h
theorem zk4 {ts:List T} {t:T} (h:zhC ts=some t):t=.tup ts∧ts.length≤sizeLine:=by
 unfold zhC at h
 split at h
 ·cases h;exact⟨rfl,by assumption⟩
 ·cases h
theorem zb6 (h:JA X z .fu Fs es):JE X z .fu (eLst Fs) (.List es pos):=PE.imp (zoU h) fun σ H Q q=>zdy q fun S ts vs H' S' A _ g q=>by
 cases e:zdG ts with
 | none=>rw [e] at q;exact (show False from q).elim
 | some t =>
  rw [e] at q
  obtain⟨rfl,hl⟩:=zdB e
  exact⟨by rw [g.den.length];exact hl,fun p hp=>q _ _ S' _ (Got.newFu g hp)⟩
theorem zm2 (h:JA X z md Fs es):JE X z .sp (eLst Fs) (.List es pos):=PE.imp (zoU (JA.al h)) fun σ H Q q=>zdy q fun S ts vs H' S' A _ g q=>by
 obtain rfl:=g.den.alA
 cases e:zdG ts with
 | none=>rw [e] at q;exact (show False from q).elim
 | some t =>
  rw [e] at q
  obtain⟨rfl,hl⟩:=zdB e
  exact⟨by rw [g.den.length];exact hl,fun p hp=>q _ _ S' _ ((Got.newSp g.g.dom hp g.den).trans g.g)⟩
theorem zm1 {x1} (h:JA X z .fu Fs es):JE X z .fu (eTup Fs) (.Tuple es x1 pos):=PE.imp (zrl h) fun σ H Q q=>zdy q fun S ts vs H' S' A _ g q=>by
 cases e:zhC ts with
 | none=>rw [e] at q;exact (show False from q).elim
 | some t =>
  rw [e] at q
  obtain⟨rfl,hl⟩:=zk4 e
  exact⟨by rw [g.den.length];exact hl,fun p hp=>q _ _ S' _ (Got.newTup g hp)⟩
noncomputable def endC (K:PySem.W.Frag) (cl:Nat→Addr) (H:Hp) (S:Addr→Prop) (md:Md) (Q:VK) (E:XK):Res T→Prop
 | .ok t=>∀ v H' S' A,Got K H S H' S' A v md t→Q v H'
 | .exc c=>∀ H',Same H H'→E (.ref (cl c)) none H'
 | .bad=>False
def spT (K:PySem.W.Frag) (cl:Nat→Addr) (n:Nat) (md:Md) (m:List T→Res T):Sp:=fun vs H Q E=>∃ S ts,ts.length=n∧Dom S H∧Dens K H S ts .al [] vs∧endC K cl H S md Q E (m ts)
noncomputable def zaD (n:Nat) (m:List T→Res T) (Fs:VEnv→Res (List T)):VEnv→Res T:=fun ρ=>(Fs ρ).bind fun ts=>if ts.length=n then m ts else .bad
theorem zqm {H:Hp} {S:Addr→Prop} {Q:VK} {r:Res T} (s:Same z.H₀ H) (h:endE K z H S md Q r):endC K z.cl H S md Q z.E r:=by
 cases r with
 | ok t=>exact h
 | exc c=>exact fun H2 s2=>h H2 (s.trans s2)
 | bad=>exact h
theorem zpo {n:Nat} {m:List T→Res T} {σ:St} {H:Hp} {Q:VK} (h:tr K z md (zaD n m Fs) σ H Q):zqZ (spT K z.cl n md m) [] z.E (tra K z .al Fs) σ H Q:=zdy h fun S ts vs H' S' A s g q=>by
 obtain rfl:=g.den.alA
 by_cases hl:ts.length=n
 ·rw [if_pos hl] at q
  exact⟨S',ts,hl,g.g.dom,by rw [List.append_nil];exact g.den,zqm (s.trans g.g.same) (endE.grow g.g q)⟩
 ·rw [if_neg hl] at q;exact (show False from q).elim
theorem zam {k:Nat} {f:Addr} {fd:FuncData} {ps:List Str} {n:Nat} {m:List T→Res T} {CX:CXT} {x:Str} {p:Pos} (G:FnOk X.prog X.w X.K X.mg X.base CX k f fd ps (spT X.K z.cl n md m)) (hr:Room k X.A) (hg:Gl X x) (hm:X.mg x=some (.ref f)) (hk:PySem.W.keepIn X.K (.ref f)=true)
  (hb:zbg X.K fd ps []) (hx:zgM CX X z.E) (ha:JA X z md1 Fs (e :: es)) (hdb:(x == ("__debug__" : Str))=false:=by decide) (he:starEach (e :: es) X.env=(false,eval e X.env) :: starEach es X.env:=by rfl) (hpl:(backTo pos (starEach es X.env)).any (·.1)=false:=by rfl) :
  JE X z md (zaD n m Fs) (.Call (.Name x p) (e :: es) [] pos):=
 PE.imp (zmp G hr hg hm hk hb .nil hx (JA.al ha) hdb he hpl) fun σ H Q=>zpo
noncomputable def eB1 (g:List T→Option T) (Fs:VEnv→Res (List T)):VEnv→Res T:=fun ρ=>(Fs ρ).bind fun ts=>.of (g ts)
theorem zqW {g:List T→Option T} {σ:St} {H:Hp} {Q:VK} (h:tr K z md (eB1 g Fs) σ H Q):tCB (rCT K md g) (tra K z .al Fs) σ H Q:=zdy h fun S ts vs H' S' A _ gg q=>by
 obtain rfl:=gg.den.alA
 exact⟨S',ts,gg.g.dom,gg.den,zfN (z:=z) (endE.grow gg.g q)⟩
theorem zau {id:String} {x:Str} {p:Pos} {g:List T→Option T} (hc:zcz X (.builtin id) (rCT X.K md g)) (hg:Gl X x) (hm:X.mg x=none) (hv:bootBuiltins x=some (.builtin id)) (ha:JA X z md1 Fs (e :: es)) (hn:x ≠ "__name__" := by decide) (hdb:(x == ("__debug__" : Str))=false:=by decide)
  (he:starEach (e :: es) X.env=(false,eval e X.env) :: starEach es X.env:=by rfl) (hpl:(backTo pos (starEach es X.env)).any (·.1)=false:=by rfl):JE X z md (eB1 g Fs) (.Call (.Name x p) (e :: es) [] pos):=
 PE.imp (znZ hc hg hm hv (JA.al ha) hn hdb he hpl) fun σ H Q=>zqW
theorem zh7 {id:String} {x:Str} {p:Pos} {g:List T→Option T} (hc:zcz X (.type id) (rCT X.K md g)) (hg:Gl X x) (hm:X.mg x=none) (hv:bootBuiltins x=some (.type id)) (ha:JA X z md1 Fs (e :: es)) (hn:x ≠ "__name__" := by decide) (hdb:(x == ("__debug__" : Str))=false:=by decide)
  (he:starEach (e :: es) X.env=(false,eval e X.env) :: starEach es X.env:=by rfl) (hpl:(backTo pos (starEach es X.env)).any (·.1)=false:=by rfl):JE X z md (eB1 g Fs) (.Call (.Name x p) (e :: es) [] pos):=
 PE.imp (zmo hc hg hm hv (JA.al ha) hn hdb he hpl) fun σ H Q=>zqW
end
end TL
namespace TL
open PySem PySem.Spec L2
inductive SRes where
 | nx (ρ:SEnv)
 | rt (md:Md) (t:T)
 | exc (c:Nat)
 | bad
structure Ok (K:PySem.W.Frag) (z:Z) (S:Addr→Prop) (As:Nat→List Addr) (ρ:SEnv) (σ:St) (H:Hp):Prop where
 same:Same z.H₀ H
 dom:Dom S H
 ln:ρ.length=σ.length
 s0:∀ a,z.S₀ a→S a
 s1:∀ a,S a→z.S₀ a∨z.H₀ a=none
 nd:∀ i,(As i).Nodup
 ow:∀ i,∀ a∈As i,¬ S a∧z.H₀ a=none∧H a≠none
 dj:∀ i j,i≠j→∀ a∈As i,a∉As j
 sl:∀ (i:Nat) m t,ρ[i]? = some (some (m,t))→∃ v,σ[i]? = some (some v)∧Den K H S t m (As i) v
structure Step (K:PySem.W.Frag) (S:Addr→Prop) (H:Hp) (S':Addr→Prop) (H':Hp):Prop where
 up:∀ a,S a→S' a
 frm:Frm K H H' S
theorem Step.refl {K:PySem.W.Frag} {S:Addr→Prop} {H:Hp}:Step K S H S H:=⟨fun _ h=>h,⟨fun _ _ _ h=>h,fun _ _ h=>h,fun _ _ h=>h⟩⟩
theorem Step.trans {K:PySem.W.Frag} {S S1 S2:Addr→Prop} {H H1 H2:Hp} (a:Step K S H S1 H1) (b:Step K S1 H1 S2 H2):Step K S H S2 H2:=
 ⟨fun c h=>b.up c (a.up c h),⟨fun c xs h e=>b.frm.nodes c xs (a.up c h) (a.frm.nodes c xs h e),fun c xs h=>b.frm.tups c xs (a.frm.tups c xs h),fun c xs h=>b.frm.scrs c xs (a.frm.scrs c xs h)⟩⟩
theorem Grow.step {K:PySem.W.Frag} {S S':Addr→Prop} {H H':Hp} (g:Grow H S H' S'):Step K S H S' H':=
 ⟨g.up,⟨fun c xs _ e=>g.same _ _ e,fun c xs h=>zfd g.same h,fun c xs h=>h.same g.same⟩⟩
theorem Step.dens {K:PySem.W.Frag} {S S':Addr→Prop} {H H':Hp} {t:List T} {v:List V} (s:Step K S H S' H') (d:Dens K H S t .al [] v):Dens K H' S' t .al [] v:=Dens.frm s.frm (fun _ h=>h) s.up (fun _ z=>nomatch z) d
noncomputable def endS (K:PySem.W.Frag) (z:Z) (S:Addr→Prop) (H:Hp) (D:Ends):SRes→Prop
 | .nx ρ'=>∀ S' As' σ' H',Ok K z S' As' ρ' σ' H'→Step K S H S' H'→D.nx σ' H'
 | .rt md t=>∀ v H' S' A,Got K z.H₀ z.S₀ H' S' A v md t→D.rt v H'
 | .exc c=>∀ H',Same z.H₀ H'→z.E (.ref (z.cl c)) none H'
 | .bad=>False
def st (K:PySem.W.Frag) (z:Z) (R:SEnv→SRes):TS:=fun D σ H=>∃ S As ρ,Ok K z S As ρ σ H∧endS K z S H D (R ρ)
abbrev JS (X:Cx) (z:Z) (R:SEnv→SRes) (s:Stmt):Prop:=PS X s (st X.K z R)
abbrev JSs (X:Cx) (z:Z) (R:SEnv→SRes) (s:List Stmt):Prop:=PSs X s (st X.K z R)
theorem PS.imp {X:Cx} {e:Stmt} {t t':TS} (h:PS X e t) (k:∀ D σ H,t' D σ H→t D σ H):PS X e t':=fun pins s σ H Q I q=>h pins s σ H Q I (k Q σ H q)
theorem PSs.imp {X:Cx} {e:List Stmt} {t t':TS} (h:PSs X e t) (k:∀ D σ H,t' D σ H→t D σ H):PSs X e t':=fun pins s σ H Q I q=>h pins s σ H Q I (k Q σ H q)
theorem endS.step {K:PySem.W.Frag} {z:Z} {S S1:Addr→Prop} {H H1:Hp} {D:Ends} {r:SRes} (s:Step K S H S1 H1) (h:endS K z S H D r):endS K z S1 H1 D r:=by
 cases r with
 | nx ρ'=>exact fun S' As' σ' H' o q=>h S' As' σ' H' o (s.trans q)
 | rt md t=>exact h
 | exc c=>exact h
 | bad=>exact h
noncomputable def SRes.then (r:SRes) (f:SEnv→SRes):SRes:=match r with
 | .nx ρ=>f ρ
 | .rt md t=>.rt md t
 | .exc c=>.exc c
 | .bad=>.bad
@[simp] theorem SRes.then_nx (ρ:SEnv) (f:SEnv→SRes):(SRes.nx ρ).then f=f ρ:=(rfl)
@[simp] theorem SRes.then_rt (md:Md) (t:T) (f:SEnv→SRes):(SRes.rt md t).then f=.rt md t:=(rfl)
@[simp] theorem SRes.then_exc (c:Nat) (f:SEnv→SRes):(SRes.exc c).then f=.exc c:=(rfl)
noncomputable def Res.sthen {α:Type} (r:Res α) (f:α→SRes):SRes:=match r with
 | .ok t=>f t
 | .exc c=>.exc c
 | .bad=>.bad
@[simp] theorem Res.sthen_ok {α:Type} (t:α) (f:α→SRes):(Res.ok t).sthen f=f t:=(rfl)
@[simp] theorem Res.sthen_exc {α:Type} (c:Nat) (f:α→SRes):(Res.exc c:Res α).sthen f=.exc c:=(rfl)
noncomputable def view:List Bool→SEnv→VEnv
 | b :: bs,s :: ρ=>(if b=true then s.map (·.2) else none) :: view bs ρ
 | _,_=>[]
noncomputable def zaI:List Bool→SEnv→SEnv
 | b :: bs,s :: ρ=>(if b=true then s.map (fun p=>(.al,p.2)) else s) :: zaI bs ρ
 | _,ρ=>ρ
theorem zjS:∀ {M:List Bool} {ρ:SEnv} {i:Nat} {t:T},(view M ρ)[i]? = some (some t)→M[i]? = some true∧∃ m,ρ[i]? = some (some (m,t))
 | [],ρ,i,t,h=>by unfold view at h;simp at h
 | b :: bs,[],i,t,h=>by unfold view at h;simp at h
 | b :: bs,s :: ρ,0,t,h=>by
  unfold view at h
  simp at h
  obtain⟨rfl,m,rfl⟩:=h
  exact⟨rfl,m,rfl⟩
 | b :: bs,s :: ρ,i + 1,t,h=>by
  unfold view at h
  have:=zjS (M:=bs) (ρ:=ρ) (i:=i) (t:=t) (by simpa using h)
  simpa using this
theorem zgE:∀ {M:List Bool} {ρ:SEnv} {i:Nat} {m:Md} {t:T},(zaI M ρ)[i]? = some (some (m,t))→(M[i]? = some true∧m=.al∧∃ m',ρ[i]? = some (some (m',t)))∨(M[i]?≠some true∧ρ[i]? = some (some (m,t)))
 | [],ρ,i,m,t,h=>by unfold zaI at h;exact .inr ⟨by simp,h⟩
 | b :: bs,[],i,m,t,h=>by unfold zaI at h;simp at h
 | b :: bs,s :: ρ,0,m,t,h=>by
  unfold zaI at h
  cases b with
  | true =>
   simp at h
   obtain⟨⟨m',rfl⟩,rfl⟩:=h
   exact .inl ⟨rfl,rfl,m',rfl⟩
  | false =>
   simp at h
   subst h
   exact .inr ⟨by simp,rfl⟩
 | b :: bs,s :: ρ,i + 1,m,t,h=>by
  unfold zaI at h
  have:=zgE (M:=bs) (ρ:=ρ) (i:=i) (m:=m) (t:=t) (by simpa using h)
  simpa using this
theorem zc0:∀ (M:List Bool) (ρ:SEnv),(zaI M ρ).length=ρ.length
 | [],ρ=>by unfold zaI;rfl
 | b :: bs,[]=>by unfold zaI;rfl
 | b :: bs,s :: ρ=>by unfold zaI;rw [List.length_cons,List.length_cons,zc0]
section
variable {K:PySem.W.Frag} {z:Z} {S S':Addr→Prop} {As:Nat→List Addr} {ρ:SEnv} {σ:St} {H H':Hp} {M:List Bool} {A:List Addr} {v:V} {md:Md} {t:T}
noncomputable def SB (S:Addr→Prop) (As:Nat→List Addr) (M:List Bool):Addr→Prop:=fun a=>S a∨∃ i,M[i]? = some true∧a∈As i
theorem Ok.view (o:Ok K z S As ρ σ H) (M:List Bool):OkE K z (SB S As M) (view M ρ) σ H:=by
 refine ⟨o.same,fun a h=>?_,fun i t e=>?_⟩
 ·rcases h with h | ⟨i,_,h⟩
  ·exact o.dom a h
  ·exact (o.ow i a h).2.2
 ·obtain⟨hm,m,e⟩:=zjS e
  obtain⟨v,h1,h2⟩:=o.sl i m t e
  exact⟨v,h1,h2.out (fun a h=>.inl h) fun a h=>.inr ⟨i,hm,h⟩⟩
theorem Ok.sb1 (o:Ok K z S As ρ σ H) {a:Addr} (h:SB S As M a):z.S₀ a∨z.H₀ a=none:=by
 rcases h with h | ⟨i,_,h⟩
 ·exact o.s1 a h
 ·exact .inr (o.ow i a h).2.1
theorem Ok.got (o:Ok K z S As ρ σ H) (g:Got K H (SB S As M) H' S' A v md t):Got K z.H₀ z.S₀ H' S' A v md t:=
 ⟨⟨o.same.trans g.g.same,fun a h=>g.g.up a (.inl (o.s0 a h)),fun a h=>(g.g.new a h).elim (fun q=>o.sb1 q) fun q=>.inr (zba o.same q),g.g.dom⟩,g.nd,fun a h=>⟨zba o.same (g.ow a h).1,(g.ow a h).2⟩,g.den⟩
theorem Ok.putFu (o:Ok K z S As ρ σ H) (g:Got K H (SB S As M) H' S' A v .fu t) (i:Nat) (hi:i < ρ.length):Ok K z S (fun j=>if j=i then A else As j) (ρ.set i (some (.fu,t))) (σ.set i (some v)) H':=by
 have dj:∀ j,∀ a∈As j,a∉A:=fun j a h q=>(o.ow j a h).2.2 (g.ow a q).1
 refine ⟨o.same.trans g.g.same,fun a h=>zbM g.g.same (o.dom a h),by simp [o.ln],o.s0,o.s1,fun j=>?_,fun j a h=>?_,fun j k hjk a h=>?_,fun j m u e=>?_⟩
 ·by_cases hj:j=i
  ·rw [if_pos hj];exact g.nd
  ·rw [if_neg hj];exact o.nd j
 ·by_cases hj:j=i
  ·rw [if_pos hj] at h
   refine ⟨fun q=>(g.ow a h).2 (g.g.up a (.inl q)),zba o.same (g.ow a h).1,fun q=>?_⟩
   obtain⟨ws,e⟩:=g.den.own a h
   rw [q] at e;cases e
  ·rw [if_neg hj] at h
   obtain⟨h1,h2,h3⟩:=o.ow j a h
   exact⟨h1,h2,zbM g.g.same h3⟩
 ·by_cases hj:j=i
  ·rw [if_pos hj] at h
   rw [if_neg (fun z=>hjk (hj.trans z.symm))]
   exact fun q=>dj k a q h
  ·rw [if_neg hj] at h
   by_cases hk:k=i
   ·rw [if_pos hk];exact dj j a h
   ·rw [if_neg hk];exact o.dj j k hjk a h
 ·by_cases hj:j=i
  ·subst hj
   rw [List.getElem?_set_self hi] at e
   cases e
   refine ⟨v,by rw [List.getElem?_set_self (by rw [← o.ln];exact hi)],?_⟩
   rw [if_pos rfl]
   exact g.den.fuS
  ·rw [List.getElem?_set_ne (Ne.symm hj)] at e
   obtain⟨w,h1,h2⟩:=o.sl j m u e
   refine ⟨w,by rw [List.getElem?_set_ne (Ne.symm hj)];exact h1,?_⟩
   rw [if_neg hj]
   exact h2.mono g.g.same fun _ h=>h
noncomputable def dAs (As:Nat→List Addr) (M:List Bool):Nat→List Addr:=fun j=>if M[j]? = some true then [] else As j
theorem Ok.share (o:Ok K z S As ρ σ H) (g:Grow H (SB S As M) H' S'):Ok K z S' (dAs As M) (zaI M ρ) σ H':=by
 refine ⟨o.same.trans g.same,g.dom,by rw [zc0];exact o.ln,fun a h=>g.up a (.inl (o.s0 a h)),fun a h=>(g.new a h).elim (fun q=>o.sb1 q) fun q=>.inr (zba o.same q),fun j=>?_,fun j a h=>?_,fun j k hjk a h=>?_,fun j m u e=>?_⟩
 ·unfold dAs;split
  ·exact List.nodup_nil
  ·exact o.nd j
 ·unfold dAs at h;split at h
  ·cases h
  ·rename_i hj
   obtain⟨h1,h2,h3⟩:=o.ow j a h
   refine ⟨fun q=>?_,h2,zbM g.same h3⟩
   rcases g.new a q with (q | ⟨i,hi,q⟩) | q
   ·exact h1 q
   ·exact o.dj j i (fun z=>hj (z ▸ hi)) a h q
   ·exact h3 q
 ·unfold dAs at h ⊢
  split at h
  ·cases h
  ·split
   ·exact fun z=>nomatch z
   ·exact o.dj j k hjk a h
 ·rcases zgE e with ⟨hm,rfl,m',e⟩ | ⟨hm,e⟩
  ·obtain⟨w,h1,h2⟩:=o.sl j m' u e
   refine ⟨w,h1,?_⟩
   unfold dAs
   rw [if_pos hm]
   exact (h2.mono g.same fun _ h=>h).out (fun a h=>g.up a (.inl h)) fun a h=>g.up a (.inr ⟨j,hm,h⟩)
  ·obtain⟨w,h1,h2⟩:=o.sl j m u e
   refine ⟨w,h1,?_⟩
   unfold dAs
   rw [if_neg hm]
   exact h2.mono g.same fun a h=>g.up a (.inl h)
theorem Ok.put (o:Ok K z S As ρ σ H) (g:Got K H S H' S' A v md t) (i:Nat) (hi:i < ρ.length):Ok K z S' (fun j=>if j=i then A else As j) (ρ.set i (some (md,t))) (σ.set i (some v)) H':=by
 have dj:∀ j,∀ a∈As j,a∉A:=fun j a h q=>(o.ow j a h).2.2 (g.ow a q).1
 refine ⟨o.same.trans g.g.same,g.g.dom,by simp [o.ln],fun a h=>g.g.up a (o.s0 a h),fun a h=>(g.g.new a h).elim (o.s1 a) fun q=>.inr (zba o.same q),fun j=>?_,fun j a h=>?_,fun j k hjk a h=>?_,fun j m u e=>?_⟩
 ·by_cases hj:j=i
  ·rw [if_pos hj];exact g.nd
  ·rw [if_neg hj];exact o.nd j
 ·by_cases hj:j=i
  ·rw [if_pos hj] at h
   refine ⟨(g.ow a h).2,zba o.same (g.ow a h).1,fun q=>?_⟩
   obtain⟨ws,e⟩:=g.den.own a h
   rw [q] at e;cases e
  ·rw [if_neg hj] at h
   obtain⟨h1,h2,h3⟩:=o.ow j a h
   exact⟨fun q=>(g.g.new a q).elim h1 h3,h2,zbM g.g.same h3⟩
 ·by_cases hj:j=i
  ·rw [if_pos hj] at h
   rw [if_neg (fun z=>hjk (hj.trans z.symm))]
   exact fun q=>dj k a q h
  ·rw [if_neg hj] at h
   by_cases hk:k=i
   ·rw [if_pos hk];exact dj j a h
   ·rw [if_neg hk];exact o.dj j k hjk a h
 ·by_cases hj:j=i
  ·subst hj
   rw [List.getElem?_set_self hi] at e
   cases e
   refine ⟨v,by rw [List.getElem?_set_self (by rw [← o.ln];exact hi)],?_⟩
   rw [if_pos rfl]
   exact g.den
  ·rw [List.getElem?_set_ne (Ne.symm hj)] at e
   obtain⟨w,h1,h2⟩:=o.sl j m u e
   refine ⟨w,by rw [List.getElem?_set_ne (Ne.symm hj)];exact h1,?_⟩
   rw [if_neg hj]
   exact h2.mono g.g.same g.g.up
theorem Ok.putSp (o:Ok K z S As ρ σ H) (g:Got K H (SB S As M) H' S' A v md t) (i:Nat) (hi:i < ρ.length):Ok K z S' (fun j=>if j=i then A else dAs As M j) ((zaI M ρ).set i (some (md,t))) (σ.set i (some v)) H':=by
 have o2:=o.share g.g
 have dj:∀ j,∀ a∈dAs As M j,a∉A:=fun j a h q=>by
  unfold dAs at h;split at h
  ·cases h
  ·exact (o.ow j a h).2.2 (g.ow a q).1
 refine ⟨o2.same,o2.dom,by simp [o2.ln],o2.s0,o2.s1,fun j=>?_,fun j a h=>?_,fun j k hjk a h=>?_,fun j m u e=>?_⟩
 ·by_cases hj:j=i
  ·rw [if_pos hj];exact g.nd
  ·rw [if_neg hj];exact o2.nd j
 ·by_cases hj:j=i
  ·rw [if_pos hj] at h
   refine ⟨(g.ow a h).2,zba o.same (g.ow a h).1,fun q=>?_⟩
   obtain⟨ws,e⟩:=g.den.own a h
   rw [q] at e;cases e
  ·rw [if_neg hj] at h;exact o2.ow j a h
 ·by_cases hj:j=i
  ·rw [if_pos hj] at h
   rw [if_neg (fun z=>hjk (hj.trans z.symm))]
   exact fun q=>dj k a q h
  ·rw [if_neg hj] at h
   by_cases hk:k=i
   ·rw [if_pos hk];exact dj j a h
   ·rw [if_neg hk];exact o2.dj j k hjk a h
 ·by_cases hj:j=i
  ·subst hj
   rw [List.getElem?_set_self (by rw [zc0];exact hi)] at e
   cases e
   refine ⟨v,by rw [List.getElem?_set_self (by rw [← o.ln];exact hi)],?_⟩
   rw [if_pos rfl]
   exact g.den
  ·rw [List.getElem?_set_ne (Ne.symm hj)] at e
   obtain⟨w,h1,h2⟩:=o2.sl j m u e
   refine ⟨w,by rw [List.getElem?_set_ne (Ne.symm hj)];exact h1,?_⟩
   rw [if_neg hj]
   exact h2
theorem zgS (g:Grow H (SB S As M) H' S'):Step K S H S' H':=⟨fun a h=>g.up a (.inl h),⟨fun c xs _ e=>g.same _ _ e,fun c xs h=>zfd g.same h,fun c xs h=>h.same g.same⟩⟩
theorem zbF (e:Same H H'):Step K S H S H':=⟨fun a h=>h,⟨fun c xs _ q=>e _ _ q,fun c xs h=>zfd e h,fun c xs h=>h.same e⟩⟩
end
section
variable {X:Cx} {z:Z} {md md1 md2:Md} {F F1 F2:VEnv→Res T} {B:VEnv→Res Bool} {e a b:Expr} {pos:Pos} {R R1 R2:SEnv→SRes} {s:Stmt} {ss ss2:List Stmt} {K:PySem.W.Frag}
noncomputable def sNil:SEnv→SRes:=.nx
noncomputable def sSeq (R1 R2:SEnv→SRes):SEnv→SRes:=fun ρ=>(R1 ρ).then R2
theorem za7:JSs X z sNil []:=PSs.imp zpM fun D σ H h=>by
 obtain⟨S,As,ρ,o,h⟩:=h
 exact h S As σ H o .refl
theorem endS.seq {S:Addr→Prop} {H:Hp} {D:Ends} {r:SRes} (h:endS K z S H D (r.then R2)):endS K z S H { D with nx:=st K z R2 D } r:=by
 cases r with
 | nx ρ'=>exact fun S' As' σ' H' o q=>⟨S',As',ρ',o,h.step q⟩
 | rt md t=>exact h
 | exc c=>exact h
 | bad=>exact h
theorem zag (h1:JS X z R1 s) (h2:JSs X z R2 ss):JSs X z (sSeq R1 R2) (s :: ss):=PSs.imp (znW h1 h2) fun D σ H h=>by
 obtain⟨S,As,ρ,o,h⟩:=h
 exact⟨S,As,ρ,o,endS.seq h⟩
theorem zak (h1:JS X z R1 s):JSs X z R1 [s]:=zpL h1
theorem zgT {M:List Bool} {G:T→SEnv→SRes} {D:Ends} {σ:St} {H:Hp} {Q:VK} (h:st K z (fun ρ=>(F (view M ρ)).sthen fun t=>G t ρ) D σ H)
  (k:∀ S As ρ t v H' S' A,Ok K z S As ρ σ H→Got K H (SB S As M) H' S' A v md t→endS K z S H D (G t ρ)→Q v H'):tr K z md F σ H Q:=by
 obtain⟨S,As,ρ,o,h⟩:=h
 refine ⟨_,_,o.view M,?_⟩
 try dsimp only at h
 cases e:F (view M ρ) with
 | ok t=>rw [e] at h;exact fun v H' S' A g=>k S As ρ t v H' S' A o g h
 | exc c=>rw [e] at h;exact h
 | bad=>rw [e] at h;exact h
noncomputable def sRet (md:Md) (M:List Bool) (F:VEnv→Res T):SEnv→SRes:=fun ρ=>(F (view M ρ)).sthen fun t=>.rt md t
theorem zbe (M:List Bool) (he:JE X z md F e):JS X z (sRet md M F) (.Return (some e) pos):=PS.imp (zmf he) fun D σ H h =>
 zgT h fun S As ρ t v H' S' A o g q=>q v H' S' A (o.got g)
noncomputable def zgX (i:Nat):SEnv→SRes:=fun ρ=>match ρ[i]? with
 | some (some (m,t))=>.rt m t
 | _=>.bad
theorem zeL {i:Nat} (he:PE X e (tVar i)):JS X z (zgX i) (.Return (some e) pos):=PS.imp (zmf he) fun D σ H h=>by
 obtain⟨S,As,ρ,o,h⟩:=h
 unfold zgX at h
 split at h
 ·rename_i m t e
  obtain⟨v,h1,h2⟩:=o.sl i m t e
  exact⟨v,h1,h v H S (As i) ⟨⟨o.same,o.s0,o.s1,o.dom⟩,o.nd i,fun a q=>⟨(o.ow i a q).2.1,(o.ow i a q).1⟩,h2⟩⟩
 ·exact (show False from h).elim
noncomputable def sSet (i:Nat) (M:List Bool) (F:VEnv→Res T):SEnv→SRes:=fun ρ=>(F (view M ρ)).sthen fun t=>if i < ρ.length then .nx (ρ.set i (some (.fu,t))) else .bad
noncomputable def zl3 (md:Md) (i:Nat) (M:List Bool) (F:VEnv→Res T):SEnv→SRes:=fun ρ=>(F (view M ρ)).sthen fun t=>if i < ρ.length then .nx ((zaI M ρ).set i (some (md,t))) else .bad
theorem znD {i:Nat} {M:List Bool} {te:TE} (ht:∀ σ H Q,tr K z .fu F σ H Q→te σ H Q) (D:Ends) (σ:St) (H:Hp) (h:st K z (sSet i M F) D σ H):tAsg te (ze7 i) D σ H:=
 ht _ _ _ (zgT h fun S As ρ t v H' S' A o g q=>by
  by_cases hi:i < ρ.length
  ·rw [if_pos hi] at q
   exact q S _ _ H' (o.putFu g i hi) (zbF g.g.same)
  ·rw [if_neg hi] at q;exact (show False from q).elim)
theorem zqs {i:Nat} {M:List Bool} {te:TE} (ht:∀ σ H Q,tr K z md F σ H Q→te σ H Q) (D:Ends) (σ:St) (H:Hp) (h:st K z (zl3 md i M F) D σ H):tAsg te (ze7 i) D σ H:=
 ht _ _ _ (zgT h fun S As ρ t v H' S' A o g q=>by
  by_cases hi:i < ρ.length
  ·rw [if_pos hi] at q
   exact q S' _ _ H' (o.putSp g i hi) (zgS g.g)
  ·rw [if_neg hi] at q;exact (show False from q).elim)
theorem zaB {i:Nat} {x:Str} {pos':Pos} (M:List Bool) (hN:X.N.Nodup) (hi:X.N[i]? = some x) (hx:Loc X.env.scope x) (he:JE X z .fu F e) (hs:swapsWith e (some (.Name x pos')) pos.line X.env=pure false:=by rfl)
  (hf:X.fn x=true∨X.env.scope.names.lookup x=some .local:=by first | exact .inl rfl | exact .inr rfl | assumption):JS X z (sSet i M F) (.Assign [.Name x pos'] e pos):=PS.imp (zoP hN hi hx he hs hf) fun D σ H h=>znD (fun _ _ _ q=>q) D σ H h
theorem zmW {i:Nat} {x:Str} {pos':Pos} (M:List Bool) (hN:X.N.Nodup) (hi:X.N[i]? = some x) (hx:Loc X.env.scope x) (he:JE X z md F e) (hs:swapsWith e (some (.Name x pos')) pos.line X.env=pure false:=by rfl)
  (hf:X.fn x=true∨X.env.scope.names.lookup x=some .local:=by first | exact .inl rfl | exact .inr rfl | assumption):JS X z (zl3 md i M F) (.Assign [.Name x pos'] e pos):=PS.imp (zoP hN hi hx he hs hf) fun D σ H h=>zqs (fun _ _ _ q=>q) D σ H h
noncomputable def sIf (M:List Bool) (B:VEnv→Res Bool) (R1 R2:SEnv→SRes):SEnv→SRes:=fun ρ=>(B (view M ρ)).sthen fun b=>if b=true then R1 ρ else R2 ρ
theorem Ok.grow {S S':Addr→Prop} {As:Nat→List Addr} {ρ:SEnv} {σ:St} {H H':Hp} {M:List Bool} (o:Ok K z S As ρ σ H) (g:Grow H (SB S As M) H' S'):Ok K z S As ρ σ H':=
 ⟨o.same.trans g.same,fun a h=>zbM g.same (o.dom a h),o.ln,o.s0,o.s1,o.nd,fun i a h=>let ⟨h1,h2,h3⟩:=o.ow i a h;⟨h1,h2,zbM g.same h3⟩,o.dj,fun i m t e=>let ⟨v,h1,h2⟩:=o.sl i m t e;⟨v,h1,h2.mono g.same fun _ h=>h⟩⟩
theorem zcF (M:List Bool) (hc:JT X z B e) (h1:JSs X z R1 ss) (h2:JSs X z R2 ss2):JS X z (sIf M B R1 R2) (.If e ss ss2 pos):=PS.imp (zsV hc h1 h2) fun D σ H h=>by
 obtain⟨S,As,ρ,o,h⟩:=h
 refine ⟨_,_,o.view M,?_⟩
 unfold sIf at h
 try dsimp only at h
 cases e:B (view M ρ) with
 | exc c=>rw [e] at h;exact h
 | bad=>rw [e] at h;exact h
 | ok b =>
  rw [e,Res.sthen_ok] at h
  intro H' S' g
  have o':=o.grow g
  cases b with
  | true=>rw [if_pos rfl] at h ⊢;exact⟨S,As,ρ,o',h.step (zbF g.same)⟩
  | false=>rw [if_neg (by decide)] at h ⊢;exact⟨S,As,ρ,o',h.step (zbF g.same)⟩
noncomputable def zgY (M:List Bool) (F:VEnv→Res T):SEnv→SRes:=fun ρ=>(F (view M ρ)).sthen fun _=>.nx ρ
theorem zdT (M:List Bool) (he:JE X z md F e) (hs:swapsWith e none pos.line X.env=pure false:=by rfl):JS X z (zgY M F) (.Expr e pos):=PS.imp (zfw he hs) fun D σ H h =>
 zgT h fun S As ρ t v H' S' A o g q=>q S As σ H' (o.grow g.g) (zbF g.g.same)
noncomputable def zaz (N:List Str) (ts:List T):SEnv:=ts.map (fun t=>some (.al,t)) ++ List.replicate (N.length - ts.length) none
noncomputable def fin (md:Md):SRes→Res T
 | .nx _=>.ok (.sc .non)
 | .rt m t=>if m=md∨md=.al∨isSc t=true then .ok t else .bad
 | .exc c=>.exc c
 | .bad=>.bad
theorem zlN {K:PySem.W.Frag} {H:Hp} {S:Addr→Prop} {N:List Str} {ts:List T} {vs:List V} (h:Dens K H S ts .al [] vs) {i:Nat} {m:Md} {t:T} (e:(zaz N ts)[i]? = some (some (m,t))):∃ v,(L2.start N vs)[i]? = some (some v)∧Den K H S t m [] v:=by
 unfold zaz at e
 unfold L2.start
 have hl:=h.length
 by_cases hi:i < ts.length
 ·rw [List.getElem?_append_left (by rw [List.length_map];exact hi),List.getElem?_map] at e
  obtain⟨u,hu⟩:∃ u,ts[i]? = some u:=⟨ts[i],List.getElem?_eq_getElem hi⟩
  rw [hu] at e
  cases e
  obtain⟨v,h1,h2⟩:=h.get hu
  exact⟨v,by rw [List.getElem?_append_left (by rw [List.length_map,hl];exact hi),List.getElem?_map,h1];rfl,h2⟩
 ·rw [List.getElem?_append_right (by rw [List.length_map];lia),List.getElem?_replicate] at e
  split at e <;> cases e
theorem Got.weak {K:PySem.W.Frag} {H H':Hp} {S S':Addr→Prop} {A:List Addr} {v:V} {m:Md} {t:T} (g:Got K H S H' S' A v m t) (h:m=md∨md=.al∨isSc t=true):∃ S' A,Got K H S H' S' A v md t:=by
 rcases h with rfl | rfl | h
 ·exact⟨_,_,g⟩
 ·exact⟨_,_,g.al⟩
 ·cases t with
  | sc w=>exact⟨S',A,g.g,g.nd,g.ow,zaf.mpr (zaf.mp g.den)⟩
  | scr ns=>cases h
  | lst ts=>cases h
  | tup ts=>cases h
theorem zaV {P:Program} {w:World} {K:PySem.W.Frag} {mg:Str→Option Value} {base:Heap} {cl:Nat→Addr} {x qual:Str} {st₀:Stmt} {f:Addr} {fd:FuncData} {N ps:List Str} {k n:Nat} {md:Md} {R:SEnv→SRes} (F:Fun K x qual st₀ f fd) (S:FnScope N ps (defScope st₀)) (hn:ps.length=n)
  (hbody:∀ (cdv:Value) (A:Around) (outer:List Env) (s:Shared) (H:Hp) (E:XK) (S₀:Addr→Prop),Dom S₀ H→Room k (A.deeper (PyProof.Rows.envOfC qual (defScope st₀) s.heap.objs.size f cdv)) →
   JSs (cxOf (CXe P w) P w K mg base N qual (defScope st₀) f cdv A outer s H E) ⟨H,S₀,cl,E⟩ R (defBody st₀)):FnOk P w K mg base (CXe P w) (k + 1) f fd ps (spT K cl n md fun ts=>fin md (R (zaz N ts))):=by
 refine Fun.okE F S (fun vs H Q E h=>?_) fun cdv A outer s H vs Q E hr h=>?_
 ·obtain⟨S,ts,h1,_,h2,_⟩:=h
  rw [h2.length,h1,hn]
 ·obtain⟨S₀,ts,h1,hd,h2,h3⟩:=h
  refine ⟨_,hbody cdv A outer s H E S₀ hd hr,S₀,fun _=>[],zaz N ts,?_,?_⟩
  ·refine ⟨Same.refl _,hd,?_,fun _ h=>h,fun _ h=>.inl h,fun _=>List.nodup_nil,fun _ _ z=>(nomatch z),fun _ _ _ _ z=>(nomatch z),fun i m t e=>zlN h2 e⟩
   unfold zaz L2.start
   rw [List.length_append,List.length_append,List.length_map,List.length_map,List.length_replicate,List.length_replicate,h2.length]
  ·replace h3:endC K cl H S₀ md Q E (fin md (R (zaz N ts))):=h3
   cases e:R (zaz N ts) with
   | nx ρ' =>
    rw [e] at h3
    intro S' As' σ' H' o q
    exact h3 .non H' S' [] ⟨⟨o.same,o.s0,o.s1,o.dom⟩,List.nodup_nil,fun _ z=>(nomatch z),zet _⟩
   | rt m t =>
    rw [e] at h3
    by_cases hm:m=md∨md=.al∨isSc t=true
    ·have e3:fin md (.rt m t)=.ok t:=if_pos hm
     rw [e3] at h3
     intro v H' S' A g
     obtain⟨S2,A2,g2⟩:=g.weak hm
     exact h3 v H' S2 A2 g2
    ·have e3:fin md (.rt m t)=.bad:=if_neg hm
     rw [e3] at h3
     exact (show False from h3).elim
   | exc c=>rw [e] at h3;exact h3
   | bad=>rw [e] at h3;exact (show False from h3).elim
end
end TL
namespace L2
open PySem PySem.Spec PyProof.Rows
section
variable {prog:Program} {w:World} {A:Around} {R:Result→Shared→Prop} {s:Shared}
theorem zdI {elt target iter c:Expr} {scope:Scope} {pos:Pos} {it acc:Value} {env:Env} (I:Nat→Shared→Prop)
  (turn:∀ n s,I n s→wpAny (model prog w) A (pyNext it) (fun r s₁=>match r with
   | none=>R (.ok .next) s₁
   | some v=>wpAny (model prog w) A (letOwnedTupleGo target it v) (fun _ s₂=>wpAny (model prog w) A (assign target env v) (fun _ s₃=>wpAny (model prog w) A (isTrue c env (eval c env)) (fun ok s₆=>if ok=true then wpAny (model prog w) A (eval elt env) (fun x s₄ =>
     wpAny (model prog w) A (call (.builtin "list.append") [acc,x]) (fun _ s₅=>∃ m,m < n∧I m s₅) (fun _ _=>False) s₄) (fun _ _=>False) s₆ else ∃ m,m < n∧I m s₆) (fun _ _=>False) s₃) (fun _ _=>False) s₂) (fun _ _=>False) s₁) (fun _ _=>False) s)
  (n:Nat) (h:I n s):codeAny (model prog w) A (.compLoop (.ListComp elt [⟨target,iter,[c],0⟩] scope pos) 0 it acc env) R s:=by
 refine codeAny_loop rfl I (fun n s hI=>?_) n h
 show wpAny _ _ ((compTurn (.ListComp elt [⟨target,iter,[c],0⟩] scope pos) 0 it acc env).onRaise (fun x=>do noteFrame x env;theTreesLotGoes x)) _ _ s
 refine wpAny_noted ?_
 rw [compTurn_list]
 refine wpAny_bind (wpAny_standAt (wpAny_bind (wpAny_mono (turn n s hI) (fun r s₁ h₁=>?_) fun _ _ h'=>h'.elim)))
 cases r with
 | none=>exact wpAny_pure h₁
 | some v =>
  refine wpAny_bind (wpAny_mono h₁ (fun _ s₂ h₂=>?_) fun _ _ h'=>h'.elim)
  refine wpAny_bind (wpAny_mono h₂ (fun _ s₃ h₃=>wpAny_bind (wpAny_tests_one (wpAny_mono h₃ (fun ok s₆ h₆=>?_) fun _ _ h'=>h'.elim))) fun _ _ h'=>h'.elim)
  cases ok with
  | false=>exact wpAny_pure ⟨rfl,h₆⟩
  | true =>
   exact wpAny_bind (wpAny_bind (wpAny_mono h₆ (fun x s₄ h₄=>wpAny_bind (wpAny_mono h₄ (fun _ s₅ h₅=>wpAny_pure (wpAny_pure ⟨rfl,h₅⟩)) fun _ _ h'=>h'.elim)) fun _ _ h'=>h'.elim))
end
def zjX (ix:List (Option Nat)) (wi:TI) (g:TG) (tt:TT) (te:TE):TE:=fun σ H Q=>wi σ H fun J H1=>∃ W:Nat→Nat→List V→St→Hp→Prop,(∃ m,W 0 m [] (inner ix σ) H1) ∧
 ∀ i m acc σ' H',W i m acc σ' H'→acc.length≤sizeLine∧((J.stop i H'∧∀ p,H' p=none→Q (.ref p) (upd H' p (.lst acc))) ∨
  (J.go i H'∧∀ x H2,J.yld i H' x H2→g x σ' H2 fun σ2 H3=>tt σ2 H3 fun b H5=>if b=true then te σ2 H5 fun v H4=>∃ m',m' < m∧W (i + 1) m' (acc ++ [v]) σ2 H4 else ∃ m',m' < m∧W (i + 1) m' acc σ2 H5))
section
variable {X:Cx} {elt tg iter c:Expr} {scope:Scope} {pos:Pos} {wi:TI} {g:TG} {tt:TT} {te:TE} {N':List Str} {ix:List (Option Nat)}
theorem zgF (B:Blk X.env scope) (hix:ixOk X.N N' scope ix=true) (hc:X.calm=true) (hi:PI X tg iter wi)
  (hg:∀ C s₂ H₂ fp pn,PG (cxB X N' scope C s₂ H₂ fp pn) tg g) (ht:∀ C s₂ H₂ fp pn,PT (cxB X N' scope C s₂ H₂ fp pn) c tt) (he:∀ C s₂ H₂ fp pn,PE (cxB X N' scope C s₂ H₂ fp pn) elt te) (hs:∀ x,foldedSetIterable iter X.env x=pure x)
  {pins:List (Addr×Obj)} {s:Shared} {σ:St} {H:Hp} {Q:VK} (I:Inv X pins σ H s) (h:zjX ix wi g tt te σ H Q) (use:Option (Value→Sem Unit)) (QQ:Value→Shared→Prop)
  (hU:∀ D C H' acc s',Inv X pins σ (upd H' D (.lst acc)) s'→Loose X pins (upd H' D (.lst acc)) C→(∃ m,s'.heap.Ns C m)→Q (.ref D) (upd H' D (.lst acc))→compPost (model X.prog X.w) X.A X.xe use QQ (.ref D) C (.ok .next) s') :
  wpAny (model X.prog X.w) X.A (comprehension (.ListComp elt [⟨tg,iter,[c],0⟩] scope pos) scope X.env (firstIterPos [⟨tg,iter,[c],0⟩] pos) (newList []) false (eval iter X.env) use) QQ X.xe s:=by
 refine wpAny_comprehension_free rfl hs (zkO B I) B.kind (fun x hx hl=>?_) ?_
 ·obtain⟨n,k⟩:=x
  have hl':k=.local:=hl
  subst hl'
  exact zbi B.nd hx
 refine thn (hi pins s σ H _ I h) fun v s1 h1=>thn h1 fun itv s2 h2=>?_
 obtain⟨it,fp,tn,J,H2,e,I2,T,st2,f2,W,⟨m0,w0⟩,turn⟩:=h2
 subst e
 have hfl:∀ b∈fp,b < s2.heap.objs.size:=fun b hb=>by
  obtain⟨o,e,_⟩:=T.obj _ _ st2 b hb
  exact Heap.lt_size e
 refine wpAny_newObj_type ?_
 refine zd9 ?_
 have e1:(s2.heap.push { cls:=.type "list", dict:=none,data:=.seq ([]:List Value).toArray }).objs.size=s2.heap.objs.size + 1:=Heap.size_push ..
 show codeAny (model X.prog X.w) X.A (.compStart (.ListComp elt [⟨tg,iter,[c],0⟩] scope pos) 0 (.ref it) (.ref s2.heap.objs.size) (zfT X.env scope (s2.heap.push { cls:=.type "list", dict:=none,data:=.seq ([]:List Value).toArray }).objs.size))
  (compPost (model X.prog X.w) X.A X.xe use QQ (.ref s2.heap.objs.size) (s2.heap.push { cls:=.type "list", dict:=none,data:=.seq ([]:List Value).toArray }).objs.size) { s2 with heap:=zby s2.heap scope }
 rw [e1]
 have old:∀ b o,s2.heap.get? b=some o→(zby s2.heap scope).get? b=some o:=fun b o e=>zc1 e
 have hst4:tn 0 (zby s2.heap scope):=T.keep _ _ _ st2 fun b _ o e=>old b o e
 have hD4:(zby s2.heap scope).get? s2.heap.objs.size=some { cls:=.type "list", data:=.seq ([]:List Value).toArray }:=
  pushCells_keeps _ _ _ _ (Heap.get?_push_of_some _ (Heap.get?_push_size _ rfl))
 have hD2:H2 s2.heap.objs.size=none:=I2.hok.fresh (Nat.le_refl _)
 have cellNe:∀ x c,(zfT X.env scope (s2.heap.objs.size + 1)).cells.lookup x=some c→c≠s2.heap.objs.size:=fun x c h=>by
  rcases zeu B I2 (PySem.mem_of_lookup h) with ⟨h1,_⟩ | ⟨h1,_⟩
  ·exact Nat.ne_of_lt (I2.cell_lt h1)
  ·have h1':s2.heap.objs.size + 1 + 1≤c:=h1
   exact Nat.ne_of_gt (Nat.lt_of_lt_of_le (Nat.lt_succ_of_lt (Nat.lt_succ_self _)) h1')
 have pinNe:∀ p∈X.pn ++ pins,p.1≠s2.heap.objs.size:=fun p hp=>Nat.ne_of_lt (Heap.lt_size (I2.pin p hp).1)
 have stat:∀ {H':Hp} {o:Obj},(∀ b∈fp,H' b=none)→∀ b∈fp,FpOk (cxB X N' scope (s2.heap.objs.size + 1) s2 H2 fp (X.pn ++ pins)) [(s2.heap.objs.size,o)] H' b:=fun {H' o} hn b hb=>by
  obtain⟨_,h2,h3,h4,h5,h6⟩:=f2 b hb
  have hlt:=hfl b hb
  refine ⟨hn b hb,(by show b≠s2.heap.objs.size + 1;exact Nat.ne_of_lt (Nat.lt_succ_of_lt hlt)),fun hm=>?_,.inl hb,fun x c h=>((znu B I2 rfl f2 hfl).exf b hb).2 x c h,fun p hp=>?_⟩
  ·rcases List.mem_cons.mp (I2.stkSub b hm) with z | z
   ·exact h2 z
   ·exact h3 z
  ·rcases List.mem_append.mp hp with hp | hp
   ·exact h6 p hp
   ·rw [List.mem_singleton.mp hp]
    show s2.heap.objs.size≠b
    exact Nat.ne_of_gt hlt
 have pinD:∀ {σ':St} {H':Hp} {s':Shared} {o:Obj},Inv (cxB X N' scope (s2.heap.objs.size + 1) s2 H2 fp (X.pn ++ pins)) [] σ' H' s'→s'.heap.get? s2.heap.objs.size=some o→(∀ v,o.data≠.cell v)→H' s2.heap.objs.size=none →
   Inv (cxB X N' scope (s2.heap.objs.size + 1) s2 H2 fp (X.pn ++ pins)) [(s2.heap.objs.size,o)] σ' H' s':=fun {σ' H' s' o} J ho hd hn=>J.pins_of fun p hp=>by
  rw [List.mem_singleton.mp hp]
  refine ⟨ho,hn,by show s2.heap.objs.size≠s2.heap.objs.size + 1;exact Nat.ne_of_lt (Nat.lt_succ_self _),fun hm=>?_,hd⟩
  exact absurd (I2.stk_lt hm) (Nat.lt_irrefl _)
 have loop:codeAny (model X.prog X.w) X.A (.compLoop (.ListComp elt [⟨tg,iter,[c],0⟩] scope pos) 0 (.ref it) (.ref s2.heap.objs.size) (zfT X.env scope (s2.heap.objs.size + 1)))
   (compPost (model X.prog X.w) X.A X.xe use QQ (.ref s2.heap.objs.size) (s2.heap.objs.size + 1)) { s2 with heap:=zby s2.heap scope }:=by
  refine zdI (fun n s'=>∃ i σ' H' acc its k,Inv (cxB X N' scope (s2.heap.objs.size + 1) s2 H2 fp (X.pn ++ pins)) [] σ' H' s'∧s'.heap.get? s2.heap.objs.size=some { cls:=.type "list", data:=.seq its k } ∧
   Vals acc its.toList∧tn i s'.heap∧(∀ b∈fp,H' b=none)∧H' s2.heap.objs.size=none∧W i n acc σ' H') ?_ m0 ⟨0,_,_,[],#[],0,zim B hix I2 f2 hfl,hD4,.nil,hst4,fun b hb=>(f2 b hb).1,hD2,w0⟩
  rintro n s3 ⟨i,σ3,H3,acc,its,k,J3,hD3,rv,st3,fr3,hn3,w3⟩
  obtain⟨hz,hor⟩:=turn i n acc σ3 H3 w3
  have J3p:=pinD J3 hD3 (fun v z=>by cases z) hn3
  rcases hor with ⟨stop,q⟩ | ⟨go,step⟩
  ·refine thn (T.done (cxB X N' scope (s2.heap.objs.size + 1) s2 H2 fp (X.pn ++ pins)) rfl rfl rfl hc i _ s3 σ3 H3 _ J3p (stat fr3) st3 stop) fun r s4 ⟨hr,J4⟩=>?_
   subst hr
   have hD4':=(J4.pin (s2.heap.objs.size,_) (List.mem_append_right _ (List.mem_singleton.mpr rfl))).1
   obtain⟨Ie,Le⟩:=znv (its:=its.toList) (k:=k) I2 f2 J4 (by simpa using hD4') rv hz hn3
   obtain⟨m,hm,_⟩:=J4.loc
   exact hU _ _ _ _ s4 Ie Le ⟨m,hm⟩ (q _ hn3)
  ·refine thn (T.item (cxB X N' scope (s2.heap.objs.size + 1) s2 H2 fp (X.pn ++ pins)) rfl rfl rfl hc i _ s3 σ3 H3 _ J3p (stat fr3) st3 go) fun r s4 ⟨u,hr,h4⟩=>?_
   subst hr
   refine thn h4 fun _ s5 ⟨x,H5,J5,r5,y5,st5,fr5⟩=>?_
   have J5':=J5.pinned (stat fr5) (T.obj _ _ st5)
   refine thn (hg _ _ _ _ _ _ s5 σ3 H5 x u _ J5' r5 (step x H5 y5)) fun _ s6 ⟨σ6,H6,J6,q6⟩=>?_
   refine thn (ht _ _ _ _ _ _ s6 σ6 H6 _ J6 q6) fun ok s8 ⟨H8,J8,q8⟩=>?_
   cases ok with
   | false =>
    rw [if_neg (by decide)] at q8 ⊢
    obtain⟨m',hm',w7⟩:=q8
    have hD7:=J8.pin (s2.heap.objs.size,{ cls:=.type "list", data:=.seq its k }) (List.mem_append_right _ (List.mem_append_left _ (List.mem_singleton.mpr rfl)))
    have J7u:Inv (cxB X N' scope (s2.heap.objs.size + 1) s2 H2 fp (X.pn ++ pins)) [] σ6 H8 s8:=J8.pins_of fun p hp=>by cases hp
    have st7:tn (i + 1) s8.heap:=T.keep _ _ _ st5 fun b hb o e=>(J8.pin (b,o) (List.mem_append_right _ (List.mem_append_right _ (zbz hb e)))).1
    have fr7:∀ b∈fp,H8 b=none:=fun b hb=>by
     obtain⟨o,e,d⟩:=T.obj _ _ st5 b hb
     exact (J8.pin (b,o) (List.mem_append_right _ (List.mem_append_right _ (zbz hb e)))).2.1
    exact⟨m',hm',i + 1,σ6,H8,acc,its,k,J7u,hD7.1,rv,st7,fr7,hD7.2.1,w7⟩
   | true =>
   rw [if_pos rfl] at q8 ⊢
   refine thn (he _ _ _ _ _ _ s8 σ6 H8 _ J8 q8) fun v s7 ⟨y,H7,J7,r7,m',hm',w7⟩=>?_
   have hD7:=J7.pin (s2.heap.objs.size,{ cls:=.type "list", data:=.seq its k }) (List.mem_append_right _ (List.mem_append_left _ (List.mem_singleton.mpr rfl)))
   have J7u:Inv (cxB X N' scope (s2.heap.objs.size + 1) s2 H2 fp (X.pn ++ pins)) [] σ6 H7 s7:=J7.pins_of fun p hp=>by cases hp
   have st7:tn (i + 1) s7.heap:=T.keep _ _ _ st5 fun b hb o e=>(J7.pin (b,o) (List.mem_append_right _ (List.mem_append_right _ (zbz hb e)))).1
   have fr7:∀ b∈fp,H7 b=none:=fun b hb=>by
    obtain⟨o,e,d⟩:=T.obj _ _ st5 b hb
    exact (J7.pin (b,o) (List.mem_append_right _ (List.mem_append_right _ (zbz hb e)))).2.1
   have hlen:=rv.length
   refine wpAny_list_append_plain (l:=s2.heap.objs.size) (items:=its) ⟨k,hD7.1⟩ (fun h' ⟨k',hp'⟩ hs'=>?_) (by simp only [Array.length_toList] at hlen;lia)
   refine ⟨m',hm',i + 1,σ6,H7,acc ++ [y],its.push v,k',?_,hp',?_,?_,fr7,hD7.2.1,w7⟩
   ·exact J7u.turned (t':=s7.toks) (it:=s2.heap.objs.size) (fun b o hb e=>(hs'.2 b hb).trans e) hD7.2.1 (by show s2.heap.objs.size≠s2.heap.objs.size + 1;exact Nat.ne_of_lt (Nat.lt_succ_self _)) (.inr (Nat.le_refl _)) cellNe
     fun p hp=>pinNe p (by have hp':p∈(X.pn ++ pins) ++ []:=hp;rw [List.append_nil] at hp';exact hp')
   ·rw [Array.toList_push]
    exact rv.append (.cons r7 .nil)
   ·exact T.keep _ _ _ st7 fun b hb o e=>(hs'.2 b (Nat.ne_of_lt (hfl b hb))).trans e
 exact codeAny_compStart_list loop (T.self _ _ _ _ _ hst4 loop)
theorem zj9 (B:Blk X.env scope) (hix:ixOk X.N N' scope ix=true) (hc:X.calm=true) (hi:PI X tg iter wi)
  (hg:∀ C s₂ H₂ fp pn,PG (cxB X N' scope C s₂ H₂ fp pn) tg g) (ht:∀ C s₂ H₂ fp pn,PT (cxB X N' scope C s₂ H₂ fp pn) c tt) (he:∀ C s₂ H₂ fp pn,PE (cxB X N' scope C s₂ H₂ fp pn) elt te) (hs:∀ x,foldedSetIterable iter X.env x=pure x:=by intro _;rfl) :
  PE X (.ListComp elt [⟨tg,iter,[c],0⟩] scope pos) (zjX ix wi g tt te):=by
 intro pins s σ H Q I h
 rw [eval_ListComp]
 refine zgF B hix hc hi hg ht he hs I h none (EP X pins σ Q) fun D C H' acc s' I' L hm q=>?_
 obtain⟨m,hm⟩:=hm
 exact⟨m,hm,fun h' hs'=>⟨.ref D,_,I'.loosed L hs',rfl,q⟩⟩
theorem ziU {i:Nat} {y:Str} {py spos:Pos} (hN:X.N.Nodup) (hi':X.N[i]? = some y) (hy:X.env.scope.names.lookup y=some .local) (B:Blk X.env scope) (hix:ixOk X.N N' scope ix=true) (hc:X.calm=true) (hi:PI X tg iter wi)
  (hg:∀ C s₂ H₂ fp pn,PG (cxB X N' scope C s₂ H₂ fp pn) tg g) (ht:∀ C s₂ H₂ fp pn,PT (cxB X N' scope C s₂ H₂ fp pn) c tt) (he:∀ C s₂ H₂ fp pn,PE (cxB X N' scope C s₂ H₂ fp pn) elt te)
  (hsw:swapsWith (.ListComp elt [⟨tg,iter,[c],0⟩] scope pos) (some (.Name y py)) spos.line X.env=pure true:=by rfl) (hs:∀ x,foldedSetIterable iter X.env x=pure x:=by intro _;rfl) :
  PS X (.Assign [.Name y py] (.ListComp elt [⟨tg,iter,[c],0⟩] scope pos) spos) (tAsg (zjX ix wi g tt te) (ze7 i)):=by
 intro pins s σ H D I h
 rw [exec_Assign_Name_used _ _ _ _ hsw]
 refine wpAny_bind (wpAny_standAt (wpAny_bind ?_))
 show wpAny _ X.A (do let _ ← comprehension (.ListComp elt [⟨tg,iter,[c],0⟩] scope pos) scope X.env _ (newList []) false (eval iter X.env) (some (assign (.Name y py) X.env))) _ _ s
 refine wpAny_bind (wpAny_mono (zgF B hix hc hi hg ht he hs I h (some (assign (.Name y py) X.env)) (fun _ s'=>SP X pins D .next s') fun A C H' acc s' I' L hm q=>?_) (fun _ s' hq=>wpAny_pure (wpAny_pure hq)) fun _ _ z=>z)
 show wpAny _ _ (assign (.Name y py) X.env (.ref A)) _ _ _
 obtain⟨m,hm⟩:=hm
 refine wpAny_assign_Name (zfp I' hN hi' (.inl hy) (v:=.ref A) rfl (fun s2 I2 ⟨b,hs2,hb⟩=>?_) (.inr hy))
 have hCb:C≠b:=by
  rcases hb with z | z
  ·rw [z];exact L.ne
  ·exact Ne.symm (L.cl _ _ z)
 exact⟨m,hm.sameBut hs2 hCb,fun h' hs'=>⟨_,_,I2.loosed L hs',q⟩⟩
end
end L2
namespace TL
open PySem PySem.Spec L2
structure JOk (K:PySem.W.Frag) (J:It) (H:Hp) (S:Addr→Prop) (ts:List T):Prop where
 go:∀ H2 S2,Step K S H S2 H2→Dom S2 H2→∀ (i:Nat) t,ts[i]? = some t→J.go i H2∧∀ x H3,J.yld i H2 x H3→Grow H2 S2 H3 S2∧Den K H3 S2 t .al [] x
 stop:∀ H2 S2,Step K S H S2 H2→Dom S2 H2→J.stop ts.length H2
noncomputable def endI (K:PySem.W.Frag) (z:Z) (H:Hp) (S:Addr→Prop) (R:It→Hp→Prop):Res (List T)→Prop
 | .ok ts=>∀ J H' S',Grow H S H' S'→JOk K J H' S' ts→R J H'
 | .exc c=>∀ H',Same z.H₀ H'→z.E (.ref (z.cl c)) none H'
 | .bad=>False
def tri (K:PySem.W.Frag) (z:Z) (I:VEnv→Res (List T)):TI:=fun σ H R=>∃ S ρ,OkE K z S ρ σ H∧endI K z H S R (I ρ)
abbrev JI (X:Cx) (z:Z) (tg:Expr) (I:VEnv→Res (List T)) (iter:Expr):Prop:=PI X tg iter (tri X.K z I)
theorem PI.imp {X:Cx} {tg e:Expr} {t t':TI} (h:PI X tg e t) (k:∀ σ H Q,t' σ H Q→t σ H Q):PI X tg e t':=fun pins s σ H Q I q=>h pins s σ H Q I (k σ H Q q)
noncomputable def asL:T→Option (List T)
 | .lst ts=>some ts
 | _=>none
noncomputable def asI:T→Option Int
 | .sc (.int i)=>some i
 | _=>none
theorem zoB {t:T} {ts:List T} (h:asL t=some ts):t=.lst ts:=by
 unfold asL at h;split at h
 ·cases h;rfl
 ·cases h
theorem zhp {t:T} {i:Int} (h:asI t=some i):t=.sc (.int i):=by
 unfold asI at h;split at h
 ·cases h;rfl
 ·cases h
@[simp] theorem ztH (ts:List T):asL (.lst ts)=some ts:=(rfl)
@[simp] theorem ztI (i:Int):asI (.sc (.int i))=some i:=(rfl)
@[simp] theorem zub (i:Bool):asB (.sc (.bl i))=some i:=(rfl)
theorem zkp {K:PySem.W.Frag} {H:Hp} {S:Addr→Prop} {a:Addr} {vs:List V} {ts:List T} (hS:S a) (hH:H a=some (.lst vs)) (d:Dens K H S ts .al [] vs):JOk K (Itl K a) H S ts:=by
 refine ⟨fun H2 S2 s _ i t e=>?_,fun H2 S2 s _=>⟨vs,.of (s.frm.nodes _ _ hS hH),by rw [d.length];exact Nat.le_refl _⟩⟩
 have h2:SqL K H2 a vs:=.of (s.frm.nodes _ _ hS hH)
 obtain⟨v,h3,h4⟩:=(s.dens d).get e
 refine ⟨⟨vs,v,h2,h3⟩,fun x H3 y=>?_⟩
 obtain⟨rfl,y⟩:=y
 have:=y vs h2
 rw [h3] at this
 cases this
 exact⟨.refl (by assumption),h4⟩
section
variable {X:Cx} {z:Z} {md md1:Md} {F F1 F2:VEnv→Res T} {e a b tg:Expr} {es:List Expr} {pos:Pos} {K:PySem.W.Frag} {Fs:VEnv→Res (List T)}
noncomputable def iLst (F:VEnv→Res T):VEnv→Res (List T):=fun ρ=>(F ρ).bind fun t=>.of (asL t)
theorem za0 (h:JE X z md F e):JI X z tg (iLst F) e:=PI.imp (zml (JE.al h)) fun σ H R q=>by
 obtain⟨S,ρ,o,q⟩:=q
 refine ⟨S,ρ,o,?_⟩
 unfold iLst at q
 try dsimp only at q
 cases e:F ρ with
 | exc c=>rw [e] at q;exact q
 | bad=>rw [e] at q;exact q
 | ok t =>
  rw [e,Res.bind_ok] at q
  intro v H' S' A g
  obtain rfl:=g.den.alA
  cases e2:asL t with
  | none=>rw [e2] at q;exact (show False from q).elim
  | some ts =>
   rw [e2] at q
   obtain rfl:=zoB e2
   obtain⟨_,a,vs,rfl,h1,h2,h3⟩:=zah.mp g.den
   exact⟨a,rfl,⟨vs,.of h2⟩,q _ H' S' g.g (zkp h1 h2 h3)⟩
noncomputable def rngI (lo:Int) (n:Nat):List T:=(List.range n).map fun (k:Nat)=>.sc (.int (lo + (k:Int)))
theorem zj5 {lo:Int} {n i:Nat} {t:T} (h:(rngI lo n)[i]? = some t):i < n∧t=.sc (.int (lo + (i:Int))):=by
 unfold rngI at h
 rw [List.getElem?_map] at h
 by_cases hi:i < n
 ·rw [List.getElem?_range hi] at h
  cases h
  exact⟨hi,rfl⟩
 ·rw [List.getElem?_eq_none (by rw [List.length_range];lia)] at h
  cases h
theorem zh6 {H:Hp} {S:Addr→Prop} (lo:Int) (n:Nat):JOk K (Itr lo n) H S (rngI lo n):=by
 refine ⟨fun H2 S2 s d i t e=>?_,fun H2 S2 s _=>by
  show n≤(rngI lo n).length
  unfold rngI;rw [List.length_map,List.length_range];exact Nat.le_refl _⟩
 obtain⟨hi,rfl⟩:=zj5 e
 refine ⟨hi,fun x H3 y=>?_⟩
 obtain⟨rfl,rfl⟩:=y
 exact⟨.refl d,zet _⟩
noncomputable def rng1 (ts:List T):Option (List T):=match ts with
 | [.sc (.int j)]=>if -(2 ^ 62)≤j∧j < 2 ^ 62 then some (rngI 0 j.toNat) else none
 | _=>none
noncomputable def rng2 (ts:List T):Option (List T):=match ts with
 | [.sc (.int i),.sc (.int j)]=>if -(2 ^ 62)≤i∧i < 2 ^ 62∧-(2 ^ 62)≤j∧j < 2 ^ 62 then some (rngI i (j - i).toNat) else none
 | _=>none
noncomputable def iRng (g:List T→Option (List T)) (Fs:VEnv→Res (List T)):VEnv→Res (List T):=fun ρ=>(Fs ρ).bind fun ts=>.of (g ts)
theorem zbf {p:Pos} (hg:Gl X "range") (hm:X.mg "range" = none) (ha:JA X z md Fs [a]) (hs:starEach [a] X.env=[(false,eval a X.env)]:=by rfl):JI X z tg (iRng rng1 Fs) (.Call (.Name "range" p) [a] [] pos):=
 PI.imp (zmk hg hm (JA.al ha) hs) fun σ H R q=>by
  obtain⟨S,ρ,o,q⟩:=q
  refine ⟨S,ρ,o,?_⟩
  unfold iRng at q
  try dsimp only at q
  cases e:Fs ρ with
  | exc c=>rw [e] at q;exact q
  | bad=>rw [e] at q;exact q
  | ok ts =>
   rw [e,Res.bind_ok] at q
   intro vs H' S' A g
   unfold rng1 at q
   split at q
   ·rename_i j
    split at q
    ·rename_i hj
     have d:=g.den
     unfold Dens at d
     obtain⟨A1,A2,v,vs',_,rfl,d1,d2⟩:=d
     unfold Dens at d2
     obtain⟨_,rfl⟩:=d2
     obtain⟨_,rfl⟩:=zaf.mp d1
     exact⟨j,rfl,hj.1,hj.2,q _ H' S' g.g (zh6 _ _)⟩
    ·exact (show False from q).elim
   ·exact (show False from q).elim
theorem zmZ {p:Pos} (hg:Gl X "range") (hm:X.mg "range" = none) (ha:JA X z md Fs [a,b]) (hs:starEach [a,b] X.env=[(false,eval a X.env),(false,eval b X.env)]:=by rfl) (hs2:starEach [b] X.env=[(false,eval b X.env)]:=by rfl) :
  JI X z tg (iRng rng2 Fs) (.Call (.Name "range" p) [a,b] [] pos):=
 PI.imp (zmj hg hm (JA.al ha) hs hs2) fun σ H R q=>by
  obtain⟨S,ρ,o,q⟩:=q
  refine ⟨S,ρ,o,?_⟩
  unfold iRng at q
  try dsimp only at q
  cases e:Fs ρ with
  | exc c=>rw [e] at q;exact q
  | bad=>rw [e] at q;exact q
  | ok ts =>
   rw [e,Res.bind_ok] at q
   intro vs H' S' A g
   unfold rng2 at q
   split at q
   ·rename_i i j
    split at q
    ·rename_i hj
     have d:=g.den
     unfold Dens at d
     obtain⟨A1,A2,v,vs',_,rfl,d1,d2⟩:=d
     unfold Dens at d2
     obtain⟨A3,A4,v',vs'',_,rfl,d3,d4⟩:=d2
     unfold Dens at d4
     obtain⟨_,rfl⟩:=d4
     obtain⟨_,rfl⟩:=zaf.mp d1
     obtain⟨_,rfl⟩:=zaf.mp d3
     exact⟨i,j,rfl,hj,q _ H' S' g.g (zh6 _ _)⟩
    ·exact (show False from q).elim
   ·exact (show False from q).elim
end
def zqK (K:PySem.W.Frag) (g:TG) (gT:T→SEnv→Option SEnv):Prop:=∀ z S As ρ σ H t v ρ' (Q:St→Hp→Prop),Ok K z S As ρ σ H→Den K H S t .al [] v→gT t ρ=some ρ'→(∀ As' σ',Ok K z S As' ρ' σ' H→Q σ' H)→g v σ H Q
noncomputable def gS (i:Nat):T→SEnv→Option SEnv:=fun t ρ=>if i < ρ.length then some (ρ.set i (some (.al,t))) else none
noncomputable def zfC (ρ:VEnv) (i:Nat):Bool:=match ρ[i]? with
 | some none=>true
 | _=>false
theorem zh8 {ρ:VEnv} {i:Nat} (h:zfC ρ i=true):ρ[i]? = some none:=by
 unfold zfC at h
 split at h
 ·assumption
 ·cases h
noncomputable def gE (i:Nat):T→VEnv→Option VEnv:=fun t ρ=>if zfC ρ i=true then some (ρ.set i (some t)) else none
noncomputable def gS2 (i j:Nat):T→SEnv→Option SEnv:=fun t ρ=>match t with
 | .tup [x,y]=>(gS i x ρ).bind (gS j y)
 | _=>none
noncomputable def gE2 (i j:Nat):T→VEnv→Option VEnv:=fun t ρ=>match t with
 | .tup [x,y]=>if i=j then none else if zfC ρ j=true then (gE i x ρ).bind (gE j y) else none
 | _=>none
theorem Ok.setAl {K:PySem.W.Frag} {z:Z} {S:Addr→Prop} {As:Nat→List Addr} {ρ:SEnv} {σ:St} {H:Hp} {t:T} {v:V} (o:Ok K z S As ρ σ H) (d:Den K H S t .al [] v) {i:Nat} (hi:i < ρ.length):Ok K z S (fun j=>if j=i then [] else As j) (ρ.set i (some (.al,t))) (σ.set i (some v)) H:=
 o.put ⟨.refl o.dom,List.nodup_nil,fun _ z=>(nomatch z),d⟩ i hi
theorem zaK {K:PySem.W.Frag} (i:Nat):zqK K (ze7 i) (gS i):=by
 intro z S As ρ σ H t v ρ' Q o d e k
 unfold gS at e
 split at e
 ·cases e
  exact k _ _ (o.setAl d (by assumption))
 ·cases e
theorem zbr {α:Type} {l:List (Option α)} {i:Nat} {x:Option α} (h:l[i]? = some x):i < l.length:=(List.getElem?_eq_some_iff.mp h).1
theorem OkE.set {K:PySem.W.Frag} {z:Z} {S:Addr→Prop} {ρ:VEnv} {σ:St} {H:Hp} {t:T} {v:V} (o:OkE K z S ρ σ H) (d:Den K H S t .al [] v) {i:Nat} (hi:ρ[i]? = some none) (hl:i < σ.length):OkE K z S (ρ.set i (some t)) (σ.set i (some v)) H∧OkE K z S ρ (σ.set i (some v)) H:=by
 refine ⟨⟨o.same,o.dom,fun j u e=>?_⟩,⟨o.same,o.dom,fun j u e=>?_⟩⟩
 ·by_cases hj:j=i
  ·subst hj
   rw [List.getElem?_set_self (zbr hi)] at e
   cases e
   exact⟨v,by rw [List.getElem?_set_self hl],d⟩
  ·rw [List.getElem?_set_ne (Ne.symm hj)] at e
   obtain⟨w,h1,h2⟩:=o.sl j u e
   exact⟨w,by rw [List.getElem?_set_ne (Ne.symm hj)];exact h1,h2⟩
 ·have hj:j≠i:=fun q=>by subst q;rw [hi] at e;cases e
  obtain⟨w,h1,h2⟩:=o.sl j u e
  exact⟨w,by rw [List.getElem?_set_ne (Ne.symm hj)];exact h1,h2⟩
theorem zlA {K:PySem.W.Frag} (i:Nat) {n:Nat}:∀ z S ρ σ H t v ρ' (Q:St→Hp→Prop),OkE K z S ρ σ H→i < σ.length→Den K H S t .al [] v→gE i t ρ=some ρ'→(∀ σ',OkE K z S ρ' σ' H→OkE K z S ρ σ' H→σ'.length=σ.length→Q σ' H)→ze7 i v σ H Q:=by
 intro z S ρ σ H t v ρ' Q o hl d e k
 unfold gE at e
 split at e
 ·cases e
  obtain⟨h1,h2⟩:=o.set d (zh8 (by assumption)) hl
  exact k _ h1 h2 (by simp)
 ·cases e
section
variable {X:Cx} {z:Z} {md md1:Md} {F F1 F2:VEnv→Res T} {e a b tg iter:Expr} {es:List Expr} {pos:Pos} {K:PySem.W.Frag} {I:VEnv→Res (List T)} {B:SEnv→SRes} {body:List Stmt} {g:TG} {gT:T→SEnv→Option SEnv}
noncomputable def forL (gT:T→SEnv→Option SEnv) (B:SEnv→SRes):List T→SEnv→SRes
 | [],ρ=>.nx ρ
 | t :: ts,ρ=>match gT t ρ with
  | some ρ1=>(B ρ1).then (forL gT B ts)
  | none=>.bad
noncomputable def sFor (M:List Bool) (I:VEnv→Res (List T)) (gT:T→SEnv→Option SEnv) (B:SEnv→SRes):SEnv→SRes:=fun ρ=>(I (view M ρ)).sthen fun ts=>forL gT B ts (zaI M ρ)
theorem Ok.growS {S S':Addr→Prop} {As:Nat→List Addr} {ρ:SEnv} {σ:St} {H H':Hp} (o:Ok K z S As ρ σ H) (g:Grow H S H' S'):Ok K z S' As ρ σ H':=
 ⟨o.same.trans g.same,g.dom,o.ln,fun a h=>g.up a (o.s0 a h),fun a h=>(g.new a h).elim (o.s1 a) fun q=>.inr (zba o.same q),o.nd,fun i a h=>let ⟨h1,h2,h3⟩:=o.ow i a h;⟨fun q=>(g.new a q).elim h1 h3,h2,zbM g.same h3⟩,o.dj,fun i m t e=>let ⟨v,h1,h2⟩:=o.sl i m t e;⟨v,h1,h2.mono g.same g.up⟩⟩
theorem zck (M:List Bool) (hp:PassesOwn (model X.prog X.w) X.A X.env X.xe) (hc:X.calm=true) (hi:JI X z tg I iter) (hg:PG X tg g) (bg:zqK X.K g gT) (hb:JSs X z B body) (hs:∀ x,foldedSetIterable iter X.env x=pure x:=by intro _;rfl) :
  JS X z (sFor M I gT B) (.For tg iter body [] pos):=PS.imp (zrj hp hc hi hg hb hs) fun D σ H h=>by
 obtain⟨S,As,ρ,o,h⟩:=h
 refine ⟨_,_,o.view M,?_⟩
 unfold sFor at h
 try dsimp only at h
 cases e:I (view M ρ) with
 | exc c=>rw [e] at h;exact h
 | bad=>rw [e] at h;exact h
 | ok ts =>
  rw [e,Res.sthen_ok] at h
  intro J H1 S1 gr jo
  have o1:=o.share gr
  refine ⟨fun i m σ2 H2=>m=ts.length - i∧i≤ts.length∧∃ S2 As2 ρ2,Ok X.K z S2 As2 ρ2 σ2 H2∧Step X.K S1 H1 S2 H2∧endS X.K z S2 H2 D (forL gT B (ts.drop i) ρ2),⟨ts.length,by simp,Nat.zero_le _,S1,_,_,o1,.refl,h.step (zgS gr)⟩,?_⟩
  rintro i m σ2 H2 ⟨rfl,hi,S2,As2,ρ2,o2,s2,h2⟩
  by_cases hlt:i < ts.length
  ·have e1:ts[i]? = some ts[i]:=List.getElem?_eq_getElem hlt
   have e2:ts.drop i=ts[i] :: ts.drop (i + 1):=List.drop_eq_getElem_cons hlt
   obtain⟨hgo,hy⟩:=jo.go H2 S2 s2 o2.dom i _ e1
   rw [e2] at h2
   unfold forL at h2
   cases e3:gT ts[i] ρ2 with
   | none=>rw [e3] at h2;exact (show False from h2).elim
   | some ρ3 =>
    rw [e3] at h2
    replace h2:endS X.K z S2 H2 D ((B ρ3).then (forL gT B (ts.drop (i + 1)))):=h2
    refine .inr ⟨hgo,fun σ' H'=>∃ S3 As3 ρ3,Ok X.K z S3 As3 ρ3 σ' H'∧Step X.K S1 H1 S3 H'∧endS X.K z S3 H' D (forL gT B (ts.drop (i + 1)) ρ3),fun σ' H' ⟨S3,As3,ρ3,o3,s3,h3⟩=>⟨ts.length - (i + 1),by lia,rfl,hlt,S3,As3,ρ3,o3,s3,h3⟩,fun x H3 y=>?_⟩
    obtain⟨g3,d3⟩:=hy x H3 y
    refine bg z S2 As2 ρ2 σ2 H3 _ x ρ3 _ (o2.growS g3) d3 e3 fun As4 σ4 o4=>⟨S2,As4,ρ3,o4,?_⟩
    have s3:Step X.K S2 H2 S2 H3:=g3.step
    replace h2:=h2.step s3
    cases e5:B ρ3 with
    | nx ρ5=>rw [e5] at h2;exact fun S5 As5 σ5 H5 o5 s5=>⟨S5,As5,ρ5,o5,(s2.trans s3).trans s5,h2.step s5⟩
    | rt md t=>rw [e5] at h2;exact h2
    | exc c=>rw [e5] at h2;exact h2
    | bad=>rw [e5] at h2;exact (show False from h2).elim
  ·have ei:i=ts.length:=by lia
   subst ei
   rw [List.drop_length] at h2
   exact .inl ⟨jo.stop H2 S2 s2 o2.dom,h2 S2 As2 σ2 H2 o2 .refl⟩
end
end TL
namespace TL
open PySem PySem.Spec L2
noncomputable def nev (z:Z):Z:={ z with E:=fun _ _ _=>False }
noncomputable def Res.no {α:Type}:Res α→Res α
 | .ok a=>.ok a
 | .exc _=>.bad
 | .bad=>.bad
@[simp] theorem Res.no_ok {α:Type} (a:α):(Res.ok a).no=.ok a:=(rfl)
noncomputable def za1 (ix:List (Option Nat)) (ρ:VEnv):VEnv:=ix.map fun o=>o.bind fun j=>(ρ[j]?).join
noncomputable def mapL (gE:T→VEnv→Option VEnv) (F:VEnv→Res T) (ρ:VEnv):List T→Res (List T)
 | []=>.ok []
 | t :: ts=>(Res.of (gE t ρ)).bind fun ρ1=>(F ρ1).no.bind fun u=>(mapL gE F ρ ts).bind fun us=>.ok (u :: us)
noncomputable def mapT (gE:T→VEnv→Option VEnv) (Bt:VEnv→Res Bool) (F:VEnv→Res T) (ρ:VEnv):List T→Res (List T)
 | []=>.ok []
 | t :: ts=>(Res.of (gE t ρ)).bind fun ρ1=>(Bt ρ1).no.bind fun b=>if b=true then (F ρ1).no.bind fun u=>(mapT gE Bt F ρ ts).bind fun us=>.ok (u :: us) else mapT gE Bt F ρ ts
noncomputable def zco (ix:List (Option Nat)) (I:VEnv→Res (List T)) (gE:T→VEnv→Option VEnv) (F:VEnv→Res T):VEnv→Res T:=fun ρ=>(I ρ).bind fun ts=>(mapL gE F (za1 ix ρ) ts).bind fun us=>.of (zdG us)
noncomputable def ze1 (ix:List (Option Nat)) (I:VEnv→Res (List T)) (gE:T→VEnv→Option VEnv) (Bt:VEnv→Res Bool) (F:VEnv→Res T):VEnv→Res T:=fun ρ=>(I ρ).bind fun ts=>(mapT gE Bt F (za1 ix ρ) ts).bind fun us=>.of (zdG us)
def ze5 (K:PySem.W.Frag) (n:Nat) (g:TG) (gE:T→VEnv→Option VEnv):Prop:=∀ z S ρ σ H t v ρ' (Q:St→Hp→Prop),OkE K z S ρ σ H→σ.length=n→Den K H S t .al [] v→gE t ρ=some ρ'→(∀ σ',OkE K z S ρ' σ' H→OkE K z S ρ σ' H→σ'.length=n→Q σ' H)→g v σ H Q
theorem zbo {K:PySem.W.Frag} {n i:Nat} (hi:i < n):ze5 K n (ze7 i) (gE i):=by
 intro z S ρ σ H t v ρ' Q o hl d e k
 exact zlA (n:=n) i z S ρ σ H t v ρ' Q o (by lia) d e fun σ' h1 h2 h3=>k σ' h1 h2 (h3.trans hl)
theorem OkE.nev {K:PySem.W.Frag} {z:Z} {S:Addr→Prop} {ρ:VEnv} {σ:St} {H:Hp} (o:OkE K z S ρ σ H):OkE K (nev z) S ρ σ H:=⟨o.same,o.dom,o.sl⟩
theorem OkE.inner {K:PySem.W.Frag} {z:Z} {S:Addr→Prop} {ρ:VEnv} {σ:St} {H:Hp} (o:OkE K z S ρ σ H) (ix:List (Option Nat)):OkE K z S (za1 ix ρ) (inner ix σ) H:=by
 refine ⟨o.same,o.dom,fun i t e=>?_⟩
 unfold za1 at e
 rw [List.getElem?_map] at e
 cases q:ix[i]? with
 | none=>rw [q] at e;cases e
 | some oj =>
  rw [q] at e
  cases oj with
  | none=>cases e
  | some j =>
   have e':(ρ[j]?).join=some t:=Option.some.inj e
   have e2:ρ[j]? = some (some t):=by
    cases r:ρ[j]? with
    | none=>rw [r] at e';cases e'
    | some u=>rw [r] at e';cases e';rfl
   obtain⟨v,h1,h2⟩:=o.sl j t e2
   refine ⟨v,?_,h2⟩
   unfold L2.inner
   rw [List.getElem?_map,q]
   show some ((σ[j]?).join)=_
   rw [h1]
   rfl
section
variable {X:Cx} {z:Z} {md mdE:Md} {F:VEnv→Res T} {Bt:VEnv→Res Bool} {elt tg iter c:Expr} {pos:Pos} {K:PySem.W.Frag} {I:VEnv→Res (List T)} {g:TG} {gE:T→VEnv→Option VEnv} {ix:List (Option Nat)} {N':List Str} {scope:Scope}
def Made (K:PySem.W.Frag) (mdE md:Md):Prop:=∀ {H:Hp} {S:Addr→Prop} {H':Hp} {S':Addr→Prop} {A:List Addr} {vs:List V} {ts:List T} {p:Addr},Gots K H S H' S' A vs mdE ts→H' p=none→∃ S2 A2,Got K H S (upd H' p (.lst vs)) S2 A2 (.ref p) md (.lst ts)
theorem zaZ:Made K .fu .fu:=fun g hp=>⟨_,_,Got.newFu g hp⟩
theorem znE (M:Made K mdE md) (bg:ze5 K ix.length g gE) {σ:St} {H:Hp} {Q:VK} (h:tr K z md (zco ix I gE F) σ H Q):znN ix (tri K z I) g (tr K (nev z) mdE F) σ H Q:=by
 obtain⟨S,ρ,o,h⟩:=h
 refine ⟨S,ρ,o,?_⟩
 unfold zco at h
 try dsimp only at h
 cases e:I ρ with
 | exc c=>rw [e] at h;exact h
 | bad=>rw [e] at h;exact h
 | ok ts =>
  rw [e,Res.bind_ok] at h
  intro J H1 S1 gr jo
  cases e2:mapL gE F (za1 ix ρ) ts with
  | bad=>rw [e2] at h;exact (show False from h).elim
  | exc c=>exact absurd e2 (by
    have:∀ l c,mapL gE F (za1 ix ρ) l≠.exc c:=by
     intro l
     induction l with
     | nil=>intro c q;unfold mapL at q;cases q
     | cons t l ih =>
      intro c q
      unfold mapL at q
      cases r:gE t (za1 ix ρ) with
      | none=>rw [r] at q;cases q
      | some ρ1 =>
       rw [r,Res.of_some,Res.bind_ok] at q
       cases r2:F ρ1 with
       | exc c=>rw [r2] at q;cases q
       | bad=>rw [r2] at q;cases q
       | ok u =>
        rw [r2,Res.no_ok,Res.bind_ok] at q
        cases r3:mapL gE F (za1 ix ρ) l with
        | exc c2=>exact ih _ r3
        | bad=>rw [r3] at q;cases q
        | ok us=>rw [r3] at q;cases q
    exact this ts c)
  | ok us =>
   rw [e2,Res.bind_ok] at h
   cases e3:zdG us with
   | none=>rw [e3] at h;exact (show False from h).elim
   | some t0 =>
    rw [e3] at h
    obtain⟨rfl,hz⟩:=zdB e3
    have o1:=((o.grow gr).inner ix).nev
    refine ⟨fun i m acc σ2 H2=>m=ts.length - i∧i≤ts.length∧σ2.length=ix.length∧∃ S2 A us1 us2,us=us1 ++ us2∧mapL gE F (za1 ix ρ) (ts.drop i)=.ok us2∧Gots K H1 S1 H2 S2 A acc mdE us1∧OkE K (nev z) S2 (za1 ix ρ) σ2 H2,
     ⟨ts.length,by simp,Nat.zero_le _,by unfold L2.inner;rw [List.length_map],S1,[],[],us,rfl,e2,Gots.nil gr.dom,o1⟩,?_⟩
    rintro i m acc σ2 H2 ⟨rfl,hi,hl,S2,A,us1,us2,hu,hm,gs,o2⟩
    refine ⟨by rw [gs.den.length];rw [hu,List.length_append] at hz;lia,?_⟩
    by_cases hlt:i < ts.length
    ·have e1:ts[i]? = some ts[i]:=List.getElem?_eq_getElem hlt
     have ed:ts.drop i=ts[i] :: ts.drop (i + 1):=List.drop_eq_getElem_cons hlt
     obtain⟨hgo,hy⟩:=jo.go H2 S2 gs.g.step gs.g.dom i _ e1
     refine .inr ⟨hgo,fun x H3 y=>?_⟩
     obtain⟨g3,d3⟩:=hy x H3 y
     rw [ed] at hm
     unfold mapL at hm
     cases r:gE ts[i] (za1 ix ρ) with
     | none=>rw [r] at hm;cases hm
     | some ρ1 =>
      rw [r,Res.of_some,Res.bind_ok] at hm
      cases r2:F ρ1 with
      | exc c=>rw [r2] at hm;cases hm
      | bad=>rw [r2] at hm;cases hm
      | ok u =>
       rw [r2,Res.no_ok,Res.bind_ok] at hm
       cases r3:mapL gE F (za1 ix ρ) (ts.drop (i + 1)) with
       | exc c=>rw [r3] at hm;cases hm
       | bad=>rw [r3] at hm;cases hm
       | ok us3 =>
        rw [r3,Res.bind_ok] at hm
        cases hm
        refine bg (nev z) S2 _ σ2 H3 _ x ρ1 _ (o2.grow g3) hl d3 r fun σ4 o4 o5 hl4=>⟨S2,ρ1,o4,?_⟩
        rw [r2]
        intro v H4 S4 A4 g4
        have gs3:Gots K H1 S1 H3 S2 A acc mdE us1:=⟨gs.g.trans g3,gs.nd,gs.ow,gs.den.mono g3.same fun _ h=>h⟩
        exact⟨ts.length - (i + 1),by lia,rfl,hlt,hl4,S4,_,us1 ++ [u],us3,by rw [hu,List.append_assoc];rfl,r3,gs3.snoc g4,o5.grow g4.g⟩
    ·have ei:i=ts.length:=by lia
     subst ei
     rw [List.drop_length] at hm
     unfold mapL at hm
     cases hm
     rw [List.append_nil] at hu
     subst hu
     refine .inl ⟨jo.stop H2 S2 gs.g.step gs.g.dom,fun p hp=>?_⟩
     obtain⟨S5,A5,g5⟩:=M gs hp
     exact h _ _ S5 A5 (g5.trans gr)
theorem zbI (M:Made X.K mdE md) (B:Blk X.env scope) (hix:ixOk X.N N' scope ix=true) (hc:X.calm=true) (hi:JI X z tg I iter) (hg:∀ C s₂ H₂ fp pn,PG (cxB X N' scope C s₂ H₂ fp pn) tg g) (bg:ze5 X.K ix.length g gE)
  (he:∀ C s₂ H₂ fp pn,PE (cxB X N' scope C s₂ H₂ fp pn) elt (tr X.K (nev z) mdE F)) (hs:∀ x,foldedSetIterable iter X.env x=pure x:=by intro _;rfl):JE X z md (zco ix I gE F) (.ListComp elt [⟨tg,iter,[],0⟩] scope pos):=
 PE.imp (zpP B hix hc hi hg he hs) fun σ H Q h=>znE M bg h
theorem zeK {i:Nat} {y:Str} {py spos:Pos} (Mk:List Bool) (M:Made X.K mdE .fu) (hN:X.N.Nodup) (hi':X.N[i]? = some y) (hy:X.env.scope.names.lookup y=some .local) (B:Blk X.env scope) (hix:ixOk X.N N' scope ix=true) (hc:X.calm=true) (hi:JI X z tg I iter)
  (hg:∀ C s₂ H₂ fp pn,PG (cxB X N' scope C s₂ H₂ fp pn) tg g) (bg:ze5 X.K ix.length g gE) (he:∀ C s₂ H₂ fp pn,PE (cxB X N' scope C s₂ H₂ fp pn) elt (tr X.K (nev z) mdE F))
  (hsw:swapsWith (.ListComp elt [⟨tg,iter,[],0⟩] scope pos) (some (.Name y py)) spos.line X.env=pure true:=by rfl) (hs:∀ x,foldedSetIterable iter X.env x=pure x:=by intro _;rfl) :
  JS X z (sSet i Mk (zco ix I gE F)) (.Assign [.Name y py] (.ListComp elt [⟨tg,iter,[],0⟩] scope pos) spos):=
 PS.imp (zld hN hi' hy B hix hc hi hg he hsw hs) fun D σ H h=>znD (fun _ _ _ q=>znE M bg q) D σ H h
theorem zkS (M:Made K mdE md) (bg:ze5 K ix.length g gE) {σ:St} {H:Hp} {Q:VK} (h:tr K z md (ze1 ix I gE Bt F) σ H Q):zjX ix (tri K z I) g (trb K (nev z) Bt) (tr K (nev z) mdE F) σ H Q:=by
 obtain⟨S,ρ,o,h⟩:=h
 refine ⟨S,ρ,o,?_⟩
 unfold ze1 at h
 try dsimp only at h
 cases e:I ρ with
 | exc c=>rw [e] at h;exact h
 | bad=>rw [e] at h;exact h
 | ok ts =>
  rw [e,Res.bind_ok] at h
  intro J H1 S1 gr jo
  cases e2:mapT gE Bt F (za1 ix ρ) ts with
  | bad=>rw [e2] at h;exact (show False from h).elim
  | exc c=>exact absurd e2 (by
    have:∀ l c,mapT gE Bt F (za1 ix ρ) l≠.exc c:=by
     intro l
     induction l with
     | nil=>intro c q;unfold mapT at q;cases q
     | cons t l ih =>
      intro c q
      unfold mapT at q
      cases r:gE t (za1 ix ρ) with
      | none=>rw [r] at q;cases q
      | some ρ1 =>
       rw [r,Res.of_some,Res.bind_ok] at q
       cases r1:Bt ρ1 with
       | exc c=>rw [r1] at q;cases q
       | bad=>rw [r1] at q;cases q
       | ok b =>
        rw [r1,Res.no_ok,Res.bind_ok] at q
        cases b with
        | false=>rw [if_neg (by decide)] at q;exact ih _ q
        | true =>
         rw [if_pos rfl] at q
         cases r2:F ρ1 with
         | exc c=>rw [r2] at q;cases q
         | bad=>rw [r2] at q;cases q
         | ok u =>
          rw [r2,Res.no_ok,Res.bind_ok] at q
          cases r3:mapT gE Bt F (za1 ix ρ) l with
          | exc c2=>exact ih _ r3
          | bad=>rw [r3] at q;cases q
          | ok us=>rw [r3] at q;cases q
    exact this ts c)
  | ok us =>
   rw [e2,Res.bind_ok] at h
   cases e3:zdG us with
   | none=>rw [e3] at h;exact (show False from h).elim
   | some t0 =>
    rw [e3] at h
    obtain⟨rfl,hz⟩:=zdB e3
    have o1:=((o.grow gr).inner ix).nev
    refine ⟨fun i m acc σ2 H2=>m=ts.length - i∧i≤ts.length∧σ2.length=ix.length∧∃ S2 A us1 us2,us=us1 ++ us2∧mapT gE Bt F (za1 ix ρ) (ts.drop i)=.ok us2∧Gots K H1 S1 H2 S2 A acc mdE us1∧OkE K (nev z) S2 (za1 ix ρ) σ2 H2,
     ⟨ts.length,by simp,Nat.zero_le _,by unfold L2.inner;rw [List.length_map],S1,[],[],us,rfl,e2,Gots.nil gr.dom,o1⟩,?_⟩
    rintro i m acc σ2 H2 ⟨rfl,hi,hl,S2,A,us1,us2,hu,hm,gs,o2⟩
    refine ⟨by rw [gs.den.length];rw [hu,List.length_append] at hz;lia,?_⟩
    by_cases hlt:i < ts.length
    ·have e1:ts[i]? = some ts[i]:=List.getElem?_eq_getElem hlt
     have ed:ts.drop i=ts[i] :: ts.drop (i + 1):=List.drop_eq_getElem_cons hlt
     obtain⟨hgo,hy⟩:=jo.go H2 S2 gs.g.step gs.g.dom i _ e1
     refine .inr ⟨hgo,fun x H3 y=>?_⟩
     obtain⟨g3,d3⟩:=hy x H3 y
     rw [ed] at hm
     unfold mapT at hm
     have gs3:Gots K H1 S1 H3 S2 A acc mdE us1:=⟨gs.g.trans g3,gs.nd,gs.ow,gs.den.mono g3.same fun _ h=>h⟩
     cases r:gE ts[i] (za1 ix ρ) with
     | none=>rw [r] at hm;cases hm
     | some ρ1 =>
      rw [r,Res.of_some,Res.bind_ok] at hm
      refine bg (nev z) S2 _ σ2 H3 _ x ρ1 _ (o2.grow g3) hl d3 r fun σ4 o4 o5 hl4=>⟨S2,ρ1,o4,?_⟩
      cases r1:Bt ρ1 with
      | exc c=>rw [r1] at hm;cases hm
      | bad=>rw [r1] at hm;cases hm
      | ok b =>
       rw [r1,Res.no_ok,Res.bind_ok] at hm
       intro H6 S6 g6
       have gs6:Gots K H1 S1 H6 S6 A acc mdE us1:=⟨gs3.g.trans g6,gs3.nd,fun a ha=>⟨(gs3.ow a ha).1,fun q=>by
        rcases g6.new a q with q | q
        ·exact (gs3.ow a ha).2 q
        ·obtain⟨ws,w⟩:=gs3.den.own a ha
         rw [q] at w;cases w⟩,gs3.den.mono g6.same g6.up⟩
       cases b with
       | false =>
        rw [if_neg (by decide)] at hm ⊢
        exact⟨ts.length - (i + 1),by lia,rfl,hlt,hl4,S6,A,us1,us2,hu,hm,gs6,o5.grow g6⟩
       | true =>
        rw [if_pos rfl] at hm ⊢
        cases r2:F ρ1 with
        | exc c=>rw [r2] at hm;cases hm
        | bad=>rw [r2] at hm;cases hm
        | ok u =>
         rw [r2,Res.no_ok,Res.bind_ok] at hm
         cases r3:mapT gE Bt F (za1 ix ρ) (ts.drop (i + 1)) with
         | exc c=>rw [r3] at hm;cases hm
         | bad=>rw [r3] at hm;cases hm
         | ok us3 =>
          rw [r3,Res.bind_ok] at hm
          cases hm
          refine ⟨S6,ρ1,o4.grow g6,?_⟩
          rw [r2]
          intro v H4 S4 A4 g4
          exact⟨ts.length - (i + 1),by lia,rfl,hlt,hl4,S4,_,us1 ++ [u],us3,by rw [hu,List.append_assoc];rfl,r3,gs6.snoc g4,(o5.grow g6).grow g4.g⟩
    ·have ei:i=ts.length:=by lia
     subst ei
     rw [List.drop_length] at hm
     unfold mapT at hm
     cases hm
     rw [List.append_nil] at hu
     subst hu
     refine .inl ⟨jo.stop H2 S2 gs.g.step gs.g.dom,fun p hp=>?_⟩
     obtain⟨S5,A5,g5⟩:=M gs hp
     exact h _ _ S5 A5 (g5.trans gr)
theorem zkq (M:Made X.K mdE md) (B:Blk X.env scope) (hix:ixOk X.N N' scope ix=true) (hc:X.calm=true) (hi:JI X z tg I iter) (hg:∀ C s₂ H₂ fp pn,PG (cxB X N' scope C s₂ H₂ fp pn) tg g) (bg:ze5 X.K ix.length g gE)
  (ht:∀ C s₂ H₂ fp pn,PT (cxB X N' scope C s₂ H₂ fp pn) c (trb X.K (nev z) Bt)) (he:∀ C s₂ H₂ fp pn,PE (cxB X N' scope C s₂ H₂ fp pn) elt (tr X.K (nev z) mdE F)) (hs:∀ x,foldedSetIterable iter X.env x=pure x:=by intro _;rfl) :
  JE X z md (ze1 ix I gE Bt F) (.ListComp elt [⟨tg,iter,[c],0⟩] scope pos):=
 PE.imp (zj9 B hix hc hi hg ht he hs) fun σ H Q h=>zkS M bg h
theorem zi9 {i:Nat} {y:Str} {py spos:Pos} (Mk:List Bool) (M:Made X.K mdE .fu) (hN:X.N.Nodup) (hi':X.N[i]? = some y) (hy:X.env.scope.names.lookup y=some .local) (B:Blk X.env scope) (hix:ixOk X.N N' scope ix=true) (hc:X.calm=true) (hi:JI X z tg I iter)
  (hg:∀ C s₂ H₂ fp pn,PG (cxB X N' scope C s₂ H₂ fp pn) tg g) (bg:ze5 X.K ix.length g gE) (ht:∀ C s₂ H₂ fp pn,PT (cxB X N' scope C s₂ H₂ fp pn) c (trb X.K (nev z) Bt)) (he:∀ C s₂ H₂ fp pn,PE (cxB X N' scope C s₂ H₂ fp pn) elt (tr X.K (nev z) mdE F))
  (hsw:swapsWith (.ListComp elt [⟨tg,iter,[c],0⟩] scope pos) (some (.Name y py)) spos.line X.env=pure true:=by rfl) (hs:∀ x,foldedSetIterable iter X.env x=pure x:=by intro _;rfl) :
  JS X z (sSet i Mk (ze1 ix I gE Bt F)) (.Assign [.Name y py] (.ListComp elt [⟨tg,iter,[c],0⟩] scope pos) spos):=
 PS.imp (ziU hN hi' hy B hix hc hi hg ht he hsw hs) fun D σ H h=>znD (fun _ _ _ q=>zkS M bg q) D σ H h
end
end TL
namespace TL
open PySem PySem.Spec L2
mutual
noncomputable def eqT:T→T→Bool
 | .sc x,.sc y=>eqV x y
 | .lst xs,.lst ys=>eqTs xs ys
 | .tup xs,.tup ys=>eqTs xs ys
 | _,_=>false
noncomputable def eqTs:List T→List T→Bool
 | [],[]=>true
 | x :: xs,y :: ys=>eqT x y && eqTs xs ys
 | _,_=>false
end
noncomputable def okT:Nat→T→Bool
 | _,.sc v=>zdH v
 | _,.scr _=>false
 | 0,_=>false
 | d + 1,.lst ts=>ts.all (okT d)
 | d + 1,.tup ts=>ts.all (okT d)
noncomputable def eAt (ts us:List T) (j:Nat):Bool:=match ts[j]?,us[j]? with
 | some t,some u=>eqT t u
 | _,_=>false
theorem zdZ:∀ (ts us:List T),ts.length=us.length→(List.range ts.length).all (eAt ts us)=eqTs ts us
 | [],[],_=>by unfold eqTs;rfl
 | [],u :: us,h=>by simp at h
 | t :: ts,[],h=>by simp at h
 | t :: ts,u :: us,h=>by
  have ih:=zdZ ts us (by simpa using h)
  rw [List.length_cons,List.range_succ_eq_map,List.all_cons,List.all_map]
  unfold eqTs
  have e1:eAt (t :: ts) (u :: us) 0=eqT t u:=rfl
  have e2:(eAt (t :: ts) (u :: us) ∘ Nat.succ)=eAt ts us:=by funext j;rfl
  rw [e1,e2,ih]
theorem zcZ:∀ (ts us:List T),ts.length≠us.length→eqTs ts us=false
 | [],[],h=>absurd rfl h
 | [],u :: us,_=>by unfold eqTs;rfl
 | t :: ts,[],_=>by unfold eqTs;rfl
 | t :: ts,u :: us,h=>by
  unfold eqTs
  rw [zcZ ts us (by simpa using h),Bool.and_false]
theorem zky {v:V} (h:zdH v=true):eqV v v=true:=by
 cases v with
 | non=>rfl
 | bl b=>cases b <;> rfl
 | int i=>unfold eqV;simp
 | str x=>unfold eqV;simp
 | _=>cases h
section
variable {X:Cx} {pins:List (Addr×Obj)} {σ:St} {H:Hp} {s:Shared} {S:Addr→Prop}
theorem Inv.lst_tup (I:Inv X pins σ H s) {a:Addr} {vs ws:List V} (h1:H a=some (.lst vs)) (h2:SqT X.K H a ws):False:=by
 rcases h2 with (h2 | ⟨o,h2⟩) | ⟨o,its,n,h2,_⟩
 ·rw [h1] at h2;cases h2
 ·rw [h1] at h2;cases h2
 ·have:=(I.bs a o (I.mod.kin _ _ h2)).2
  rw [h1] at this;cases this
theorem zjl (I:Inv X pins σ H s):∀ (d:Nat) (t u:T) (x:V),okT d t=true→okT d u=true→Den X.K H S t .al [] x→Den X.K H S u .al [] x→t=u:=by
 intro d
 induction d with
 | zero =>
  intro t u x ht hu d1 d2
  cases t with
  | sc w =>
   cases u with
   | sc w2 =>
    obtain⟨_,rfl⟩:=zaf.mp d1
    obtain⟨_,rfl⟩:=zaf.mp d2
    rfl
   | _=>unfold okT at hu;cases hu
  | _=>unfold okT at ht;cases ht
 | succ d ih =>
  have seq:∀ (ts us:List T) (vs:List V),ts.all (okT d)=true→us.all (okT d)=true→Dens X.K H S ts .al [] vs→Dens X.K H S us .al [] vs→ts=us:=by
   intro ts
   induction ts with
   | nil =>
    intro us vs _ _ d1 d2
    unfold Dens at d1
    obtain⟨_,rfl⟩:=d1
    cases us with
    | nil=>rfl
    | cons u us=>unfold Dens at d2;obtain⟨_,_,_,_,_,q,_⟩:=d2;cases q
   | cons t ts iht =>
    intro us vs h1 h2 d1 d2
    unfold Dens at d1
    obtain⟨A1,A2,v,vs',ea,rfl,d3,d4⟩:=d1
    obtain⟨rfl,rfl⟩:=List.append_eq_nil_iff.mp ea.symm
    cases us with
    | nil=>unfold Dens at d2;obtain⟨_,q⟩:=d2;cases q
    | cons u us =>
     unfold Dens at d2
     obtain⟨B1,B2,v2,vs2,eb,q,d5,d6⟩:=d2
     cases q
     obtain⟨rfl,rfl⟩:=List.append_eq_nil_iff.mp eb.symm
     rw [List.all_cons,Bool.and_eq_true] at h1 h2
     rw [ih t u v h1.1 h2.1 d3 d5,iht us vs' h1.2 h2.2 d4 d6]
  intro t u x ht hu d1 d2
  cases t with
  | sc w =>
   obtain⟨_,rfl⟩:=zaf.mp d1
   cases u with
   | sc w2 =>
    obtain⟨_,rfl⟩:=zaf.mp d2
    rfl
   | lst us=>obtain⟨_,a,vs,rfl,_⟩:=zah.mp d2;cases ht
   | tup us=>obtain⟨_,a,vs,rfl,_⟩:=zao.mp d2;cases ht
   | scr ns=>unfold okT at hu;cases hu
  | scr ns=>unfold okT at ht;cases ht
  | lst ts =>
   obtain⟨_,a,vs,rfl,_,h1,h2⟩:=zah.mp d1
   cases u with
   | sc w2=>obtain⟨_,rfl⟩:=zaf.mp d2;cases hu
   | lst us =>
    obtain⟨_,a',vs',e,_,h3,h4⟩:=zah.mp d2
    cases e
    rw [h1] at h3
    cases h3
    rw [seq ts us vs ht hu h2 h4]
   | tup us =>
    obtain⟨_,a',vs',e,h3,h4⟩:=zao.mp d2
    cases e
    exact (Inv.lst_tup I h1 h3).elim
   | scr ns=>unfold okT at hu;cases hu
  | tup ts =>
   obtain⟨_,a,vs,rfl,h1,h2⟩:=zao.mp d1
   cases u with
   | sc w2=>obtain⟨_,rfl⟩:=zaf.mp d2;cases hu
   | lst us =>
    obtain⟨_,a',vs',e,_,h3,h4⟩:=zah.mp d2
    cases e
    exact (Inv.lst_tup I h3 h1).elim
   | tup us =>
    obtain⟨_,a',vs',e,h3,h4⟩:=zao.mp d2
    cases e
    obtain rfl:=I.tuple_inj h1 h3
    rw [seq ts us vs ht hu h2 h4]
   | scr ns=>unfold okT at hu;cases hu
theorem zop:∀ (d:Nat) (t:T),okT d t=true→eqT t t=true:=by
 intro d
 induction d with
 | zero =>
  intro t h
  cases t with
  | sc w=>unfold eqT;exact zky h
  | _=>unfold okT at h;cases h
 | succ d ih =>
  have seq:∀ ts:List T,ts.all (okT d)=true→eqTs ts ts=true:=by
   intro ts
   induction ts with
   | nil=>intro _;unfold eqTs;rfl
   | cons t ts iht =>
    intro h
    rw [List.all_cons,Bool.and_eq_true] at h
    unfold eqTs
    rw [ih t h.1,iht h.2]
    rfl
  intro t h
  cases t with
  | sc w=>unfold eqT;exact zky h
  | scr ns=>unfold okT at h;cases h
  | lst ts=>unfold eqT;exact seq ts h
  | tup ts=>unfold eqT;exact seq ts h
theorem zkI (I:Inv X pins σ H s) (d:Nat) (t u:T) (x:V) (h1:okT d t=true) (h2:okT d u=true) (d1:Den X.K H S t .al [] x) (d2:Den X.K H S u .al [] x):eqT t u=true:=by
 rw [← zjl I d t u x h1 h2 d1 d2]
 exact zop d t h1
theorem zeq (A:Around):A.in1.units=A.units + 1:=rfl
theorem zdE {A:Around} {d:Nat} (ih:∀ (A:Around) (t u:T) (x y:V) (vx vy:Value),okT d t=true→okT d u=true→A.units + d < cLine→Den X.K H S t .al [] x→Den X.K H S u .al [] y→RelV x vx→RelV y vy→SeqAt.EqAt A s vx vy (eqT t u))
  {ts us:List T} {vs ws:List V} {its its2:List Value} (h1:ts.all (okT d)=true) (h2:us.all (okT d)=true) (hA:A.units + (d + 1) < cLine) (d1:Dens X.K H S ts .al [] vs) (d2:Dens X.K H S us .al [] ws) (r1:Vals vs its) (r2:Vals ws its2) :
  ∀ j (g1:j < its.toArray.size) (g2:j < its2.toArray.size),SeqAt.EqAt A.in1 s its.toArray[j] its2.toArray[j] (eAt ts us j):=by
 intro j g1 g2
 have l1:=d1.length
 have l2:=d2.length
 have l3:=r1.length
 have l4:=r2.length
 simp only [List.size_toArray] at g1 g2
 have e1:ts[j]? = some ts[j]:=List.getElem?_eq_getElem (by lia)
 have e2:us[j]? = some us[j]:=List.getElem?_eq_getElem (by lia)
 obtain⟨v,q1,p1⟩:=d1.get e1
 obtain⟨w,q2,p2⟩:=d2.get e2
 obtain⟨x1,f1,b1⟩:=r1.get q1
 obtain⟨x2,f2,b2⟩:=r2.get q2
 have c1:its.toArray[j]=x1:=by
  have:its[j]? = some its[j]:=List.getElem?_eq_getElem g1
  rw [f1] at this
  simp
  exact (Option.some.inj this).symm
 have c2:its2.toArray[j]=x2:=by
  have:its2[j]? = some its2[j]:=List.getElem?_eq_getElem g2
  rw [f2] at this
  simp
  exact (Option.some.inj this).symm
 have ee:eAt ts us j=eqT ts[j] us[j]:=by unfold eAt;rw [e1,e2]
 rw [c1,c2,ee]
 exact ih A.in1 _ _ v w x1 x2 (List.all_eq_true.mp h1 _ (List.getElem_mem _)) (List.all_eq_true.mp h2 _ (List.getElem_mem _)) (by rw [zeq];lia) p1 p2 b1 b2
theorem zly (I:Inv X pins σ H s):∀ (d:Nat) (A:Around) (t u:T) (x y:V) (vx vy:Value),okT d t=true→okT d u=true→A.units + d < cLine→Den X.K H S t .al [] x→Den X.K H S u .al [] y→RelV x vx→RelV y vy→SeqAt.EqAt A s vx vy (eqT t u):=by
 have scsc:∀ (A:Around) (w1 w2:V) (x y:V) (vx vy:Value),zdH w1=true→zdH w2=true→Den X.K H S (.sc w1) .al [] x→Den X.K H S (.sc w2) .al [] y→RelV x vx→RelV y vy→SeqAt.EqAt A s vx vy (eqT (.sc w1) (.sc w2)):=by
  intro A w1 w2 x y vx vy h1 h2 d1 d2 r1 r2
  obtain⟨_,rfl⟩:=zaf.mp d1
  obtain⟨_,rfl⟩:=zaf.mp d2
  unfold eqT
  exact zrZ r1 r2 h1 h2
 intro d
 induction d with
 | zero =>
  intro A t u x y vx vy ht hu _ d1 d2 r1 r2
  cases t with
  | sc w =>
   cases u with
   | sc w2=>exact scsc A w w2 x y vx vy ht hu d1 d2 r1 r2
   | _=>unfold okT at hu;cases hu
  | _=>unfold okT at ht;cases ht
 | succ d ih =>
  intro A t u x y vx vy ht hu hA d1 d2 r1 r2
  have hA0:A.units < cLine:=by lia
  cases t with
  | scr ns=>unfold okT at ht;cases ht
  | sc w =>
   cases u with
   | scr ns=>unfold okT at hu;cases hu
   | sc w2=>exact scsc A w w2 x y vx vy ht hu d1 d2 r1 r2
   | lst us =>
    obtain⟨_,rfl⟩:=zaf.mp d1
    obtain⟨_,a,vs,rfl,_,h1,h2⟩:=zah.mp d2
    cases r2
    obtain⟨its,_,pl,_⟩:=I.list (.of h1)
    have e:eqT (.sc x) (.lst us)=false:=by unfold eqT;rfl
    rw [e]
    cases x with
    | non=>cases r1;exact .none_list pl.isList hA0
    | bl b=>cases r1;exact .bool_list b pl.isList hA0
    | int i=>obtain⟨t,rfl⟩:=r1;exact .int_list i t pl.isList hA0
    | str i=>obtain⟨t,rfl⟩:=r1;exact .str_list i t pl.isList hA0
    | _=>cases ht
   | tup us =>
    obtain⟨_,rfl⟩:=zaf.mp d1
    obtain⟨_,a,vs,rfl,h1,h2⟩:=zao.mp d2
    cases r2
    obtain⟨its,_,pl,_⟩:=I.tuple h1
    have e:eqT (.sc x) (.tup us)=false:=by unfold eqT;rfl
    rw [e]
    cases x with
    | non=>cases r1;exact .none_tuple pl hA0
    | bl b=>cases r1;exact .bool_tuple b pl hA0
    | int i=>obtain⟨t,rfl⟩:=r1;exact .int_tuple i t pl hA0
    | str i=>obtain⟨t,rfl⟩:=r1;exact .str_tuple i t pl hA0
    | _=>cases ht
  | lst ts =>
   obtain⟨_,a,vs,rfl,_,h1,h2⟩:=zah.mp d1
   cases r1
   obtain⟨its,rv,pl,_⟩:=I.list (.of h1)
   cases u with
   | scr ns=>unfold okT at hu;cases hu
   | sc w =>
    obtain⟨_,rfl⟩:=zaf.mp d2
    have e:eqT (.lst ts) (.sc y)=false:=by unfold eqT;rfl
    rw [e]
    cases y with
    | non=>cases r2;exact .list_none pl.isList hA0
    | bl b=>cases r2;exact .list_bool b pl.isList hA0
    | int i=>obtain⟨t,rfl⟩:=r2;exact .list_int i t pl.isList hA0
    | str i=>obtain⟨t,rfl⟩:=r2;exact .list_str i t pl.isList hA0
    | _=>cases hu
   | tup us =>
    obtain⟨_,b,ws,rfl,h3,h4⟩:=zao.mp d2
    cases r2
    obtain⟨its2,rv2,pl2,_⟩:=I.tuple h3
    have e:eqT (.lst ts) (.tup us)=false:=by unfold eqT;rfl
    rw [e]
    exact .list_tuple pl.isList pl2 hA0
   | lst us =>
    have d2':=d2
    obtain⟨_,b,ws,rfl,_,h3,h4⟩:=zah.mp d2
    cases r2
    by_cases hab:a=b
    ·subst hab
     rw [zkI I (d + 1) _ _ _ ht hu d1 d2']
     exact .same _
    ·obtain⟨its2,rv2,pl2,_⟩:=I.list (.of h3)
     refine SeqAt.EqAt.of_refs hab ?_
     have l1:=h2.length;have l2:=h4.length;have l3:=rv.length;have l4:=rv2.length
     unfold eqT
     by_cases hl:ts.length=us.length
     ·rw [← zdZ ts us hl]
      have:=SeqAt.RcAt.lists pl.isList pl2.isList (by simp;lia) hA0 (zdE ih ht hu hA h2 h4 rv rv2)
      simp only [List.size_toArray] at this
      rw [show its.length=ts.length by lia] at this
      exact this
     ·rw [zcZ ts us hl]
      exact SeqAt.RcAt.lists_lengths pl.isList pl2.isList (by simp;lia) hA0
  | tup ts =>
   obtain⟨_,a,vs,rfl,h1,h2⟩:=zao.mp d1
   cases r1
   obtain⟨its,rv,pl,_⟩:=I.tuple h1
   cases u with
   | scr ns=>unfold okT at hu;cases hu
   | sc w =>
    obtain⟨_,rfl⟩:=zaf.mp d2
    have e:eqT (.tup ts) (.sc y)=false:=by unfold eqT;rfl
    rw [e]
    cases y with
    | non=>cases r2;exact .tuple_none pl hA0
    | bl b=>cases r2;exact .tuple_bool b pl hA0
    | int i=>obtain⟨t,rfl⟩:=r2;exact .tuple_int i t pl hA0
    | str i=>obtain⟨t,rfl⟩:=r2;exact .tuple_str i t pl hA0
    | _=>cases hu
   | lst us =>
    obtain⟨_,b,ws,rfl,_,h3,h4⟩:=zah.mp d2
    cases r2
    obtain⟨its2,rv2,pl2,_⟩:=I.list (.of h3)
    have e:eqT (.tup ts) (.lst us)=false:=by unfold eqT;rfl
    rw [e]
    exact .tuple_list pl pl2.isList hA0
   | tup us =>
    have d2':=d2
    obtain⟨_,b,ws,rfl,h3,h4⟩:=zao.mp d2
    cases r2
    by_cases hab:a=b
    ·subst hab
     rw [zkI I (d + 1) _ _ _ ht hu d1 d2']
     exact .same _
    ·obtain⟨its2,rv2,pl2,_⟩:=I.tuple h3
     refine SeqAt.EqAt.of_refs hab ?_
     have l1:=h2.length;have l2:=h4.length;have l3:=rv.length;have l4:=rv2.length
     have:=SeqAt.RcAt.tuples pl pl2 hA0 (zdE ih ht hu hA h2 h4 rv rv2)
     simp only [List.size_toArray] at this
     unfold eqT
     by_cases hl:ts.length=us.length
     ·rw [← zdZ ts us hl]
      rw [show min its.length its2.length=ts.length by lia,show (its.length == its2.length)=true by simp;lia,Bool.and_true] at this
      exact this
     ·rw [zcZ ts us hl]
      rw [show (its.length == its2.length)=false by simp;lia,Bool.and_false] at this
      exact this
end
end TL
namespace TL
open PySem PySem.Spec L2
theorem zrb {A:Around} {s:Shared} {y x:V} {p q:Value} (ry:RelV y p) (rx:RelV x q) (fy:zdH y=true) (fx:zdH x=true):SeqAt.RcAt A s p q (eqV y x):=by
 cases y with
 | non =>
  cases ry
  cases x with
  | non=>cases rx;exact SeqAt.RcAt.none_none
  | bl b=>cases rx;exact SeqAt.RcAt.none_bool b
  | int b=>obtain⟨u,rfl⟩:=rx;exact SeqAt.RcAt.none_int b u
  | str b=>obtain⟨u,rfl⟩:=rx;exact SeqAt.RcAt.none_str b u
  | _=>exact absurd (show false=true from fx) Bool.false_ne_true
 | bl a =>
  cases ry
  cases x with
  | non=>cases rx;exact SeqAt.RcAt.bool_none a
  | bl b=>cases rx;exact SeqAt.RcAt.bool_bool a b
  | int b=>obtain⟨u,rfl⟩:=rx;exact SeqAt.RcAt.bool_int a b u
  | str b=>obtain⟨u,rfl⟩:=rx;exact SeqAt.RcAt.bool_str a b u
  | _=>exact absurd (show false=true from fx) Bool.false_ne_true
 | int a =>
  obtain⟨t,rfl⟩:=ry
  cases x with
  | non=>cases rx;exact SeqAt.RcAt.int_none a t
  | bl b=>cases rx;exact SeqAt.RcAt.int_bool a t b
  | int b=>obtain⟨u,rfl⟩:=rx;exact SeqAt.RcAt.int_int a t b u
  | str b=>obtain⟨u,rfl⟩:=rx;exact SeqAt.RcAt.int_str a t b u
  | _=>exact absurd (show false=true from fx) Bool.false_ne_true
 | str a =>
  obtain⟨t,rfl⟩:=ry
  cases x with
  | non=>cases rx;exact SeqAt.RcAt.str_none a t
  | bl b=>cases rx;exact SeqAt.RcAt.str_bool a t b
  | int b=>obtain⟨u,rfl⟩:=rx;exact SeqAt.RcAt.str_int a t b u
  | str b=>obtain⟨u,rfl⟩:=rx;exact SeqAt.RcAt.str_str a t b u
  | _=>exact absurd (show false=true from fx) Bool.false_ne_true
 | _=>exact absurd (show false=true from fy) Bool.false_ne_true
theorem znT {A:Around} {s:Shared} {y x:V} {p q:Value} (ry:RelV y p) (rx:RelV x q) (fy:zdH y=true) (fx:zdH x=true):SeqAt.RcNeAt A s p q (!eqV y x):=by
 cases y with
 | non =>
  cases ry
  cases x with
  | non=>cases rx;exact SeqAt.RcNeAt.none_none
  | bl b=>cases rx;exact SeqAt.RcNeAt.none_bool b
  | int b=>obtain⟨u,rfl⟩:=rx;exact SeqAt.RcNeAt.none_int b u
  | str b=>obtain⟨u,rfl⟩:=rx;exact SeqAt.RcNeAt.none_str b u
  | _=>exact absurd (show false=true from fx) Bool.false_ne_true
 | bl a =>
  cases ry
  cases x with
  | non=>cases rx;exact SeqAt.RcNeAt.bool_none a
  | bl b=>cases rx;exact SeqAt.RcNeAt.bool_bool a b
  | int b=>obtain⟨u,rfl⟩:=rx;exact SeqAt.RcNeAt.bool_int a b u
  | str b=>obtain⟨u,rfl⟩:=rx;exact SeqAt.RcNeAt.bool_str a b u
  | _=>exact absurd (show false=true from fx) Bool.false_ne_true
 | int a =>
  obtain⟨t,rfl⟩:=ry
  cases x with
  | non=>cases rx;exact SeqAt.RcNeAt.int_none a t
  | bl b=>cases rx;exact SeqAt.RcNeAt.int_bool a t b
  | int b=>obtain⟨u,rfl⟩:=rx;exact SeqAt.RcNeAt.int_int a t b u
  | str b=>obtain⟨u,rfl⟩:=rx;exact SeqAt.RcNeAt.int_str a t b u
  | _=>exact absurd (show false=true from fx) Bool.false_ne_true
 | str a =>
  obtain⟨t,rfl⟩:=ry
  cases x with
  | non=>cases rx;exact SeqAt.RcNeAt.str_none a t
  | bl b=>cases rx;exact SeqAt.RcNeAt.str_bool a t b
  | int b=>obtain⟨u,rfl⟩:=rx;exact SeqAt.RcNeAt.str_int a t b u
  | str b=>obtain⟨u,rfl⟩:=rx;exact SeqAt.RcNeAt.str_str a t b u
  | _=>exact absurd (show false=true from fx) Bool.false_ne_true
 | _=>exact absurd (show false=true from fy) Bool.false_ne_true
section
variable {X:Cx} {pins:List (Addr×Obj)} {σ:St} {H:Hp} {s:Shared} {S:Addr→Prop} {md:Md}
theorem zsT (I:Inv X pins σ H s) (d:Nat) (A:Around) (t u:T) (x y:V) (vx vy:Value) (ht:okT (d + 1) t=true) (hu:okT (d + 1) u=true) (hA:A.units + (d + 1) < cLine) (d1:Den X.K H S t .al [] x) (d2:Den X.K H S u .al [] y) (r1:RelV x vx) (r2:RelV y vy):SeqAt.RcAt A s vx vy (eqT t u):=by
 have hA0:A.units < cLine:=by lia
 cases t with
 | scr ns=>unfold okT at ht;cases ht
 | sc w =>
  obtain⟨_,rfl⟩:=zaf.mp d1
  cases u with
  | scr ns=>unfold okT at hu;cases hu
  | sc w2 =>
   obtain⟨_,rfl⟩:=zaf.mp d2
   have e:eqT (.sc x) (.sc y)=eqV x y:=by unfold eqT;rfl
   rw [e]
   exact zrb r1 r2 ht hu
  | lst us =>
   obtain⟨_,a,vs,rfl,_,h1,h2⟩:=zah.mp d2
   cases r2
   obtain⟨its,_,pl,_⟩:=I.list (.of h1)
   have e:eqT (.sc x) (.lst us)=false:=by unfold eqT;rfl
   rw [e]
   cases x with
   | non=>cases r1;exact SeqAt.RcAt.none_list pl.isList hA0
   | bl b=>cases r1;exact SeqAt.RcAt.bool_list b pl.isList hA0
   | int i=>obtain⟨t,rfl⟩:=r1;exact SeqAt.RcAt.int_list i t pl.isList hA0
   | str i=>obtain⟨t,rfl⟩:=r1;exact SeqAt.RcAt.str_list i t pl.isList hA0
   | _=>cases ht
  | tup us =>
   obtain⟨_,a,vs,rfl,h1,h2⟩:=zao.mp d2
   cases r2
   obtain⟨its,_,pl,_⟩:=I.tuple h1
   have e:eqT (.sc x) (.tup us)=false:=by unfold eqT;rfl
   rw [e]
   cases x with
   | non=>cases r1;exact SeqAt.RcAt.none_tuple pl hA0
   | bl b=>cases r1;exact SeqAt.RcAt.bool_tuple b pl hA0
   | int i=>obtain⟨t,rfl⟩:=r1;exact SeqAt.RcAt.int_tuple i t pl hA0
   | str i=>obtain⟨t,rfl⟩:=r1;exact SeqAt.RcAt.str_tuple i t pl hA0
   | _=>cases ht
 | lst ts =>
  obtain⟨_,a,vs,rfl,_,h1,h2⟩:=zah.mp d1
  cases r1
  obtain⟨its,rv,pl,_⟩:=I.list (.of h1)
  cases u with
  | scr ns=>unfold okT at hu;cases hu
  | sc w =>
   obtain⟨_,rfl⟩:=zaf.mp d2
   have e:eqT (.lst ts) (.sc y)=false:=by unfold eqT;rfl
   rw [e]
   cases y with
   | non=>cases r2;exact SeqAt.RcAt.list_none pl.isList hA0
   | bl b=>cases r2;exact SeqAt.RcAt.list_bool b pl.isList hA0
   | int i=>obtain⟨t,rfl⟩:=r2;exact SeqAt.RcAt.list_int i t pl.isList hA0
   | str i=>obtain⟨t,rfl⟩:=r2;exact SeqAt.RcAt.list_str i t pl.isList hA0
   | _=>cases hu
  | tup us =>
   obtain⟨_,b,ws,rfl,h3,h4⟩:=zao.mp d2
   cases r2
   obtain⟨its2,rv2,pl2,_⟩:=I.tuple h3
   have e:eqT (.lst ts) (.tup us)=false:=by unfold eqT;rfl
   rw [e]
   exact SeqAt.RcAt.list_tuple pl.isList pl2 hA0
  | lst us =>
   obtain⟨_,b,ws,rfl,_,h3,h4⟩:=zah.mp d2
   cases r2
   obtain⟨its2,rv2,pl2,_⟩:=I.list (.of h3)
   have l1:=h2.length;have l2:=h4.length;have l3:=rv.length;have l4:=rv2.length
   unfold eqT
   by_cases hl:ts.length=us.length
   ·rw [← zdZ ts us hl]
    have:=SeqAt.RcAt.lists pl.isList pl2.isList (by simp;lia) hA0 (zdE (zly I d) ht hu hA h2 h4 rv rv2)
    simp only [List.size_toArray] at this
    rw [show its.length=ts.length by lia] at this
    exact this
   ·rw [zcZ ts us hl]
    exact SeqAt.RcAt.lists_lengths pl.isList pl2.isList (by simp;lia) hA0
 | tup ts =>
  obtain⟨_,a,vs,rfl,h1,h2⟩:=zao.mp d1
  cases r1
  obtain⟨its,rv,pl,_⟩:=I.tuple h1
  cases u with
  | scr ns=>unfold okT at hu;cases hu
  | sc w =>
   obtain⟨_,rfl⟩:=zaf.mp d2
   have e:eqT (.tup ts) (.sc y)=false:=by unfold eqT;rfl
   rw [e]
   cases y with
   | non=>cases r2;exact SeqAt.RcAt.tuple_none pl hA0
   | bl b=>cases r2;exact SeqAt.RcAt.tuple_bool b pl hA0
   | int i=>obtain⟨t,rfl⟩:=r2;exact SeqAt.RcAt.tuple_int i t pl hA0
   | str i=>obtain⟨t,rfl⟩:=r2;exact SeqAt.RcAt.tuple_str i t pl hA0
   | _=>cases hu
  | lst us =>
   obtain⟨_,b,ws,rfl,_,h3,h4⟩:=zah.mp d2
   cases r2
   obtain⟨its2,rv2,pl2,_⟩:=I.list (.of h3)
   have e:eqT (.tup ts) (.lst us)=false:=by unfold eqT;rfl
   rw [e]
   exact SeqAt.RcAt.tuple_list pl pl2.isList hA0
  | tup us =>
   obtain⟨_,b,ws,rfl,h3,h4⟩:=zao.mp d2
   cases r2
   obtain⟨its2,rv2,pl2,_⟩:=I.tuple h3
   have l1:=h2.length;have l2:=h4.length;have l3:=rv.length;have l4:=rv2.length
   have:=SeqAt.RcAt.tuples pl pl2 hA0 (zdE (zly I d) ht hu hA h2 h4 rv rv2)
   simp only [List.size_toArray] at this
   unfold eqT
   by_cases hl:ts.length=us.length
   ·rw [← zdZ ts us hl]
    rw [show min its.length its2.length=ts.length by lia,show (its.length == its2.length)=true by simp;lia,Bool.and_true] at this
    exact this
   ·rw [zcZ ts us hl]
    rw [show (its.length == its2.length)=false by simp;lia,Bool.and_false] at this
    exact this
theorem zpE (I:Inv X pins σ H s) (d:Nat) (A:Around) (t u:T) (x y:V) (vx vy:Value) (ht:okT (d + 1) t=true) (hu:okT (d + 1) u=true) (hA:A.units + (d + 1) < cLine) (d1:Den X.K H S t .al [] x) (d2:Den X.K H S u .al [] y) (r1:RelV x vx) (r2:RelV y vy):SeqAt.RcNeAt A s vx vy (!eqT t u):=by
 have hA0:A.units < cLine:=by lia
 cases t with
 | scr ns=>unfold okT at ht;cases ht
 | sc w =>
  obtain⟨_,rfl⟩:=zaf.mp d1
  cases u with
  | scr ns=>unfold okT at hu;cases hu
  | sc w2 =>
   obtain⟨_,rfl⟩:=zaf.mp d2
   have e:eqT (.sc x) (.sc y)=eqV x y:=by unfold eqT;rfl
   rw [e]
   exact znT r1 r2 ht hu
  | lst us =>
   obtain⟨_,a,vs,rfl,_,h1,h2⟩:=zah.mp d2
   cases r2
   obtain⟨its,_,pl,_⟩:=I.list (.of h1)
   have e:eqT (.sc x) (.lst us)=false:=by unfold eqT;rfl
   rw [e]
   cases x with
   | non=>cases r1;exact SeqAt.RcNeAt.none_list pl.isList hA0
   | bl b=>cases r1;exact SeqAt.RcNeAt.bool_list b pl.isList hA0
   | int i=>obtain⟨t,rfl⟩:=r1;exact SeqAt.RcNeAt.int_list i t pl.isList hA0
   | str i=>obtain⟨t,rfl⟩:=r1;exact SeqAt.RcNeAt.str_list i t pl.isList hA0
   | _=>cases ht
  | tup us =>
   obtain⟨_,a,vs,rfl,h1,h2⟩:=zao.mp d2
   cases r2
   obtain⟨its,_,pl,_⟩:=I.tuple h1
   have e:eqT (.sc x) (.tup us)=false:=by unfold eqT;rfl
   rw [e]
   cases x with
   | non=>cases r1;exact SeqAt.RcNeAt.none_tuple pl hA0
   | bl b=>cases r1;exact SeqAt.RcNeAt.bool_tuple b pl hA0
   | int i=>obtain⟨t,rfl⟩:=r1;exact SeqAt.RcNeAt.int_tuple i t pl hA0
   | str i=>obtain⟨t,rfl⟩:=r1;exact SeqAt.RcNeAt.str_tuple i t pl hA0
   | _=>cases ht
 | lst ts =>
  obtain⟨_,a,vs,rfl,_,h1,h2⟩:=zah.mp d1
  cases r1
  obtain⟨its,rv,pl,_⟩:=I.list (.of h1)
  cases u with
  | scr ns=>unfold okT at hu;cases hu
  | sc w =>
   obtain⟨_,rfl⟩:=zaf.mp d2
   have e:eqT (.lst ts) (.sc y)=false:=by unfold eqT;rfl
   rw [e]
   cases y with
   | non=>cases r2;exact SeqAt.RcNeAt.list_none pl.isList hA0
   | bl b=>cases r2;exact SeqAt.RcNeAt.list_bool b pl.isList hA0
   | int i=>obtain⟨t,rfl⟩:=r2;exact SeqAt.RcNeAt.list_int i t pl.isList hA0
   | str i=>obtain⟨t,rfl⟩:=r2;exact SeqAt.RcNeAt.list_str i t pl.isList hA0
   | _=>cases hu
  | tup us =>
   obtain⟨_,b,ws,rfl,h3,h4⟩:=zao.mp d2
   cases r2
   obtain⟨its2,rv2,pl2,_⟩:=I.tuple h3
   have e:eqT (.lst ts) (.tup us)=false:=by unfold eqT;rfl
   rw [e]
   exact SeqAt.RcNeAt.list_tuple pl.isList pl2 hA0
  | lst us =>
   obtain⟨_,b,ws,rfl,_,h3,h4⟩:=zah.mp d2
   cases r2
   obtain⟨its2,rv2,pl2,_⟩:=I.list (.of h3)
   have l1:=h2.length;have l2:=h4.length;have l3:=rv.length;have l4:=rv2.length
   unfold eqT
   by_cases hl:ts.length=us.length
   ·rw [← zdZ ts us hl]
    have:=SeqAt.RcNeAt.lists pl.isList pl2.isList (by simp;lia) hA0 (zdE (zly I d) ht hu hA h2 h4 rv rv2)
    simp only [List.size_toArray] at this
    rw [show its.length=ts.length by lia] at this
    exact this
   ·rw [zcZ ts us hl]
    exact SeqAt.RcNeAt.lists_lengths pl.isList pl2.isList (by simp;lia) hA0
 | tup ts =>
  obtain⟨_,a,vs,rfl,h1,h2⟩:=zao.mp d1
  cases r1
  obtain⟨its,rv,pl,_⟩:=I.tuple h1
  cases u with
  | scr ns=>unfold okT at hu;cases hu
  | sc w =>
   obtain⟨_,rfl⟩:=zaf.mp d2
   have e:eqT (.tup ts) (.sc y)=false:=by unfold eqT;rfl
   rw [e]
   cases y with
   | non=>cases r2;exact SeqAt.RcNeAt.tuple_none pl hA0
   | bl b=>cases r2;exact SeqAt.RcNeAt.tuple_bool b pl hA0
   | int i=>obtain⟨t,rfl⟩:=r2;exact SeqAt.RcNeAt.tuple_int i t pl hA0
   | str i=>obtain⟨t,rfl⟩:=r2;exact SeqAt.RcNeAt.tuple_str i t pl hA0
   | _=>cases hu
  | lst us =>
   obtain⟨_,b,ws,rfl,_,h3,h4⟩:=zah.mp d2
   cases r2
   obtain⟨its2,rv2,pl2,_⟩:=I.list (.of h3)
   have e:eqT (.tup ts) (.lst us)=false:=by unfold eqT;rfl
   rw [e]
   exact SeqAt.RcNeAt.tuple_list pl pl2.isList hA0
  | tup us =>
   obtain⟨_,b,ws,rfl,h3,h4⟩:=zao.mp d2
   cases r2
   obtain⟨its2,rv2,pl2,_⟩:=I.tuple h3
   have l1:=h2.length;have l2:=h4.length;have l3:=rv.length;have l4:=rv2.length
   have:=SeqAt.RcNeAt.tuples pl pl2 hA0 (zdE (zly I d) ht hu hA h2 h4 rv rv2)
   simp only [List.size_toArray] at this
   unfold eqT
   by_cases hl:ts.length=us.length
   ·rw [← zdZ ts us hl]
    rw [show min its.length its2.length=ts.length by lia,show (its.length == its2.length)=true by simp;lia,Bool.and_true] at this
    exact this
   ·rw [zcZ ts us hl]
    rw [show (its.length == its2.length)=false by simp;lia,Bool.and_false] at this
    exact this
theorem OpR.imp {f:Value→Value→Sem Value} {r r':R2} (h:OpR X f r) (k:∀ x y H Q,r' x y H Q→r x y H Q):OpR X f r':=fun pins s σ H x y v u Q I r1 r2 q=>h pins s σ H x y v u Q I r1 r2 (k x y H Q q)
theorem zcz.imp {f:Value} {r r':List V→Hp→VK→Prop} (h:zcz X f r) (k:∀ x H Q,r' x H Q→r x H Q):zcz X f r':=fun pins s σ H xs us Q I r1 q=>h pins s σ H xs us Q I r1 (k xs H Q q)
noncomputable def oI (g:Int→Int→Option V):T→T→Option T
 | .sc (.int i),.sc (.int j)=>(g i j).map .sc
 | _,_=>none
theorem zfu {K:PySem.W.Frag} {g:Int→Int→Option V} {x y:V} {H:Hp} {Q:VK} (h:rT K md (oI g) x y H Q):∃ i j v,x=.int i∧y=.int j∧g i j=some v∧Q v H:=by
 obtain⟨S,t,u,dm,d1,d2,h⟩:=h
 unfold oI at h
 split at h
 ·rename_i i j
  obtain⟨_,rfl⟩:=zaf.mp d1
  obtain⟨_,rfl⟩:=zaf.mp d2
  cases e:g i j with
  | none=>rw [e] at h;exact (show False from h).elim
  | some v=>rw [e] at h;exact⟨i,j,v,rfl,rfl,e,h v H S [] (Got.sc dm v)⟩
 ·exact (show False from h).elim
noncomputable def iAdd (i j:Int):Option V:=some (.int (i + j))
noncomputable def iSub (i j:Int):Option V:=some (.int (i - j))
noncomputable def iMul (i j:Int):Option V:=if (-(2 ^ 64) < i∧i < 2 ^ 64)∨(-(2 ^ 64) < j∧j < 2 ^ 64) then some (.int (i * j)) else none
noncomputable def iDiv (i j:Int):Option V:=if 0 < j∧j < 1073741824 then some (.int (i / j)) else none
noncomputable def iMod (i j:Int):Option V:=if 0 < j then some (.int (i % j)) else none
noncomputable def iLt (i j:Int):Option V:=some (.bl (decide (i < j)))
noncomputable def iGt (i j:Int):Option V:=some (.bl (decide (j < i)))
theorem zcD:OpR X (binaryOp .Add) (rT X.K md (oI iAdd)):=OpR.imp zru fun x y H Q h=>by
 obtain⟨i,j,v,rfl,rfl,e,q⟩:=zfu h
 cases e
 exact⟨i,j,rfl,rfl,q⟩
theorem zg4:OpR X (binaryOp .Sub) (rT X.K md (oI iSub)):=OpR.imp zrp fun x y H Q h=>by
 obtain⟨i,j,v,rfl,rfl,e,q⟩:=zfu h
 cases e
 exact⟨i,j,rfl,rfl,q⟩
theorem zdR:OpR X (binaryOp .Mult) (rT X.K md (oI iMul)):=OpR.imp zrr fun x y H Q h=>by
 obtain⟨i,j,v,rfl,rfl,e,q⟩:=zfu h
 unfold iMul at e
 split at e
 ·cases e;exact⟨i,j,rfl,rfl,by assumption,q⟩
 ·cases e
theorem ze6:OpR X (binaryOp .FloorDiv) (rT X.K md (oI iDiv)):=OpR.imp zpR fun x y H Q h=>by
 obtain⟨i,j,v,rfl,rfl,e,q⟩:=zfu h
 unfold iDiv at e
 split at e
 ·cases e;exact⟨i,j,rfl,rfl,by assumption,q⟩
 ·cases e
theorem zda:OpR X (binaryOp .Mod) (rT X.K md (oI iMod)):=OpR.imp zrs fun x y H Q h=>by
 obtain⟨i,j,v,rfl,rfl,e,q⟩:=zfu h
 unfold iMod at e
 split at e
 ·cases e;exact⟨i,j,rfl,rfl,by assumption,q⟩
 ·cases e
theorem o_lt:OpR X (compareOp .Lt) (rT X.K md (oI iLt)):=OpR.imp zs1 fun x y H Q h=>by
 obtain⟨i,j,v,rfl,rfl,e,q⟩:=zfu h
 cases e
 exact⟨i,j,rfl,rfl,q⟩
theorem o_gt:OpR X (compareOp .Gt) (rT X.K md (oI iGt)):=OpR.imp zs2 fun x y H Q h=>by
 obtain⟨i,j,v,rfl,rfl,e,q⟩:=zfu h
 cases e
 exact⟨i,j,rfl,rfl,q⟩
noncomputable def oEq (t u:T):Option T:=if okT 5 t=true∧okT 5 u=true then some (.sc (.bl (eqT t u))) else none
noncomputable def oNe (t u:T):Option T:=if okT 5 t=true∧okT 5 u=true then some (.sc (.bl (!eqT t u))) else none
theorem o_eq (hu:X.A.units + 5 < cLine):OpR X (compareOp .Eq) (rT X.K md oEq):=by
 intro pins s σ H x y v u Q I rx ry h
 obtain⟨S,t,w,dm,d1,d2,h⟩:=h
 unfold oEq at h
 split at h
 ·rename_i hk
  exact zsT I 4 X.A t w x y v u hk.1 hk.2 hu d1 d2 rx ry _ _ _ _ ⟨.bl _,H,I,rfl,h _ H S [] (Got.sc dm _)⟩
 ·exact (show False from h).elim
theorem o_ne (hu:X.A.units + 5 < cLine):OpR X (compareOp .NotEq) (rT X.K md oNe):=by
 intro pins s σ H x y v u Q I rx ry h
 obtain⟨S,t,w,dm,d1,d2,h⟩:=h
 unfold oNe at h
 split at h
 ·rename_i hk
  exact zpE I 4 X.A t w x y v u hk.1 hk.2 hu d1 d2 rx ry _ _ _ _ ⟨.bl _,H,I,rfl,h _ H S [] (Got.sc dm _)⟩
 ·exact (show False from h).elim
noncomputable def zsK:T→Option (List T)
 | .lst ts=>some ts
 | .tup ts=>some ts
 | _=>none
noncomputable def inT (t:T) (us:List T):Bool:=us.any fun u=>eqT u t
noncomputable def zc9 (t u:T):Option T:=(zsK u).bind fun us=>if okT 4 t=true∧us.all (okT 4)=true then some (.sc (.bl (!inT t us))) else none
theorem zks (I:Inv X pins σ H s) {A:Around} {us:List T} {ws:List V} {its:List Value} {t:T} {x:V} {v:Value} (ht:okT 4 t=true) (hus:us.all (okT 4)=true) (hA:A.units + 5 < cLine) (d2:Dens X.K H S us .al [] ws) (r:Vals ws its) (d1:Den X.K H S t .al [] x) (rx:RelV x v) :
  ∃ e:Value→Bool,(∀ y∈its,SeqAt.EqAt A.in1 s y v (e y))∧its.any e=inT t us:=by
 classical
 have l1:=d2.length
 have l2:=r.length
 have at_:∀ j (hj:j < its.length),∃ w,Den X.K H S us[j] .al [] w∧RelV w its[j]:=fun j hj=>by
  have e1:us[j]? = some us[j]:=List.getElem?_eq_getElem (by lia)
  obtain⟨w,q1,p1⟩:=d2.get e1
  obtain⟨y,f1,b1⟩:=r.get q1
  rw [List.getElem?_eq_getElem hj] at f1
  cases f1
  exact⟨w,p1,b1⟩
 have uniq:∀ j k (hj:j < its.length) (hk:k < its.length),its[j]=its[k]→eqT us[j] t=eqT us[k] t:=fun j k hj hk e=>by
  obtain⟨w1,p1,b1⟩:=at_ j hj
  obtain⟨w2,p2,b2⟩:=at_ k hk
  rw [e] at b1
  have ew:w1=w2:=b1.inj b2
  subst ew
  rw [zjl I 4 _ _ _ (List.all_eq_true.mp hus _ (List.getElem_mem _)) (List.all_eq_true.mp hus _ (List.getElem_mem _)) p1 p2]
 refine ⟨fun y=>decide (∃ j,∃ hj:j < its.length,its[j]=y∧eqT us[j] t=true),fun y hy=>?_,?_⟩
 ·obtain⟨j,hj,rfl⟩:=List.mem_iff_getElem.mp hy
  obtain⟨w,p1,b1⟩:=at_ j hj
  have q:=zly I 4 A.in1 us[j] t w x its[j] v (List.all_eq_true.mp hus _ (List.getElem_mem _)) ht (by rw [zeq];lia) p1 d1 b1 rx
  have e:decide (∃ k,∃ hk:k < its.length,its[k]=its[j]∧eqT us[k] t=true)=eqT us[j] t:=by
   cases h:eqT us[j] t with
   | true=>exact decide_eq_true ⟨j,hj,rfl,h⟩
   | false =>
    refine decide_eq_false fun ⟨k,hk,ek,hq⟩=>?_
    rw [uniq k j hk hj ek,h] at hq
    cases hq
  show SeqAt.EqAt A.in1 s its[j] v (decide _)
  rw [e]
  exact q
 ·unfold inT
  rw [Bool.eq_iff_iff,List.any_eq_true,List.any_eq_true]
  constructor
  ·rintro ⟨y,hy,h⟩
   obtain⟨j,hj,_,h⟩:=of_decide_eq_true h
   exact⟨us[j],List.getElem_mem _,h⟩
  ·rintro ⟨u,hu,h⟩
   obtain⟨j,hj,rfl⟩:=List.mem_iff_getElem.mp hu
   have hj':j < its.length:=by lia
   exact⟨its[j],List.getElem_mem _,decide_eq_true ⟨j,hj',rfl,h⟩⟩
theorem zg5 (hu:X.A.units + 5 < cLine):OpR X (compareOp .NotIn) (rT X.K md zc9):=by
 intro pins s σ H x y v u Q I rx ry h
 obtain⟨S,t,w,dm,d1,d2,h⟩:=h
 unfold zc9 at h
 cases w with
 | sc _=>exact (show False from h).elim
 | scr _=>exact (show False from h).elim
 | lst us =>
  have h':endT X.K H S md Q (if okT 4 t=true∧us.all (okT 4)=true then some (.sc (.bl (!inT t us))) else none):=h
  split at h'
  ·rename_i hk
   obtain⟨_,a,vs,rfl,_,h1,h2⟩:=zah.mp d2
   cases ry
   obtain⟨its,rv,pl,_⟩:=I.list (.of h1)
   obtain⟨e,he,hq⟩:=zks I hk.1 hk.2 hu h2 rv d1 rx
   refine SeqAt.notIn_listAt e pl.isList (fun y hy=>he y (by simpa using hy)) ⟨.bl _,H,I,rfl,?_⟩
   rw [show its.toArray.any e=its.any e by simp,hq]
   exact h' _ H S [] (Got.sc dm _)
  ·exact (show False from h').elim
 | tup us =>
  have h':endT X.K H S md Q (if okT 4 t=true∧us.all (okT 4)=true then some (.sc (.bl (!inT t us))) else none):=h
  split at h'
  ·rename_i hk
   obtain⟨_,a,vs,rfl,h1,h2⟩:=zao.mp d2
   cases ry
   obtain⟨its,rv,pl,_⟩:=I.tuple h1
   obtain⟨e,he,hq⟩:=zks I hk.1 hk.2 hu h2 rv d1 rx
   refine SeqAt.notIn_tupleAt e pl (fun y hy=>he y (by simpa using hy)) ⟨.bl _,H,I,rfl,?_⟩
   rw [show its.toArray.any e=its.any e by simp,hq]
   exact h' _ H S [] (Got.sc dm _)
  ·exact (show False from h').elim
end
end TL
namespace TL
open PySem PySem.Spec L2
section
variable {X:Cx} {pins:List (Addr×Obj)} {σ:St} {H:Hp} {s:Shared} {S:Addr→Prop} {md:Md} {K:PySem.W.Frag}
noncomputable def zad (ns:List Int):List T:=ns.map fun n=>.sc (.int n)
noncomputable def oIx:T→T→Option T
 | .lst ts,.sc (.int i)=>atI ts i
 | .tup ts,.sc (.int i)=>atI ts i
 | .scr ns,.sc (.int i)=>(atI ns i).map fun n=>.sc (.int n)
 | _,_=>none
theorem znz {ts:List T} {vs:List V} {i:Int} {t:T} (d:Dens K H S ts .al [] vs) (h:atI ts i=some t):∃ v,atI vs i=some v∧Den K H S t .al [] v:=by
 unfold atI at h ⊢
 rw [d.length]
 cases e:ixN ts.length i with
 | none=>rw [e] at h;cases h
 | some j =>
  rw [e] at h
  exact d.get h
theorem zjq {α β:Type} (f:α→β) (xs:List α) (i:Int):atI (xs.map f) i=(atI xs i).map f:=by
 unfold atI
 rw [List.length_map]
 cases ixN xs.length i with
 | none=>rfl
 | some j=>simp
theorem o_ix:IxR X (rT X.K .al oIx):=by
 intro va sl pins s σ H x y v u Q I rx ry h hs
 obtain⟨S,t,w,dm,d1,d2,h⟩:=h
 unfold oIx at h
 split at h
 ·rename_i ts i
  obtain⟨_,a,vs,rfl,hS,h1,h2⟩:=zah.mp d1
  obtain⟨_,rfl⟩:=zaf.mp d2
  cases e:atI ts i with
  | none=>rw [e] at h;exact (show False from h).elim
  | some r =>
   rw [e] at h
   obtain⟨z,e1,e2⟩:=znz h2 e
   exact zjc va sl pins s σ H _ _ v u Q I rx ry ⟨a,vs,i,z,rfl,rfl,.of h1,e1,h z H S [] ⟨.refl dm,List.nodup_nil,fun _ q=>(nomatch q),e2⟩⟩ hs
 ·rename_i ts i
  obtain⟨_,a,vs,rfl,h1,h2⟩:=zao.mp d1
  obtain⟨_,rfl⟩:=zaf.mp d2
  cases e:atI ts i with
  | none=>rw [e] at h;exact (show False from h).elim
  | some r =>
   rw [e] at h
   obtain⟨z,e1,e2⟩:=znz h2 e
   exact zrS va sl pins s σ H _ _ v u Q I rx ry ⟨a,vs,i,z,rfl,rfl,h1,e1,h z H S [] ⟨.refl dm,List.nodup_nil,fun _ q=>(nomatch q),e2⟩⟩ hs
 ·rename_i ns i
  obtain⟨_,a,rfl,h1⟩:=zjk.mp d1
  obtain⟨_,rfl⟩:=zaf.mp d2
  cases e:atI ns i with
  | none=>rw [e] at h;exact (show False from h).elim
  | some r =>
   rw [e] at h
   exact zjc va sl pins s σ H _ _ v u Q I rx ry ⟨a,_,i,.int r,rfl,rfl,h1.sq,by rw [zjq,e];rfl,h _ H S [] (Got.sc dm _)⟩ hs
 ·exact (show False from h).elim
noncomputable def zfK (ts:List T):Bool:=ts.all isSc
theorem zfP:∀ {ts:List T} {vs:List V},Dens K H S ts .al [] vs→zfK ts=true→Dens K H S ts .fu [] vs
 | [],vs,h,_=>by unfold Dens at h ⊢;exact h
 | t :: ts,vs,h,f=>by
  unfold zfK at f
  rw [List.all_cons,Bool.and_eq_true] at f
  unfold Dens at h ⊢
  obtain⟨A1,A2,v,vs',ea,q,d,r⟩:=h
  obtain⟨rfl,rfl⟩:=List.append_eq_nil_iff.mp ea.symm
  cases t with
  | sc w=>exact⟨[],[],v,vs',rfl,q,zaf.mpr (zaf.mp d),zfP r f.2⟩
  | scr _=>cases f.1
  | lst _=>cases f.1
  | tup _=>cases f.1
theorem zn3 {ts:List T} {vs:List V} {p:Addr} (dm:Dom S H) (hp:H p=none) (d:Dens K H S ts .al [] vs) (hf:md=.sp∨(md=.fu∧zfK ts=true)):∃ A,Got K H S (upd H p (.lst vs)) S A (.ref p) md (.lst ts):=by
 rcases hf with rfl | ⟨rfl,hf⟩
 ·exact⟨_,Got.newSp dm hp d⟩
 ·exact⟨_,Got.newFu ⟨.refl dm,List.nodup_nil,fun _ z=>(nomatch z),zfP d hf⟩ hp⟩
noncomputable def zc2 (md:Md) (ts:List T):Option T:=match md with
 | .sp=>some (.lst ts)
 | .fu=>if zfK ts=true then some (.lst ts) else none
 | .al=>none
theorem zlC {ts:List T} {t:T} (h:zc2 md ts=some t):t=.lst ts∧(md=.sp∨(md=.fu∧zfK ts=true)):=by
 unfold zc2 at h
 split at h
 ·cases h;exact⟨rfl,.inl rfl⟩
 ·split at h
  ·cases h;exact⟨rfl,.inr ⟨rfl,by assumption⟩⟩
  ·cases h
 ·cases h
theorem zdW {ts:List T} {vs:List V} {Q:VK} (dm:Dom S H) (d:Dens K H S ts .al [] vs) (h:endT K H S md Q (zc2 md ts)):∀ p,H p=none→Q (.ref p) (upd H p (.lst vs)):=fun p hp=>by
 cases e:zc2 md ts with
 | none=>rw [e] at h;exact (show False from h).elim
 | some t =>
  rw [e] at h
  obtain⟨rfl,hf⟩:=zlC e
  obtain⟨A,g⟩:=zn3 dm hp d hf
  exact h _ _ S A g
noncomputable def oCat (md:Md):T→T→Option T
 | .lst xs,.lst ys=>if xs.length + ys.length≤sizeLine then zc2 md (xs ++ ys) else none
 | _,_=>none
theorem zrw:OpR X (binaryOp .Add) (rT X.K md (oCat md)):=OpR.imp zrt fun x y H Q h=>by
 obtain⟨S,t,u,dm,d1,d2,h⟩:=h
 unfold oCat at h
 split at h
 ·rename_i xs ys
  split at h
  ·obtain⟨_,a,vs,rfl,hS,h1,h2⟩:=zah.mp d1
   obtain⟨_,b,ws,rfl,hS',h3,h4⟩:=zah.mp d2
   exact⟨a,b,vs,ws,rfl,rfl,h1,h3,by rw [h2.length,h4.length];assumption,zdW dm (h2.append h4) h⟩
  ·exact (show False from h).elim
 ·exact (show False from h).elim
noncomputable def repT (k:Nat) (xs:List T):List T:=(List.replicate k xs).flatten
theorem zkH {xs:List T} {vs:List V} (d:Dens K H S xs .al [] vs):∀ k,Dens K H S (repT k xs) .al [] (List.replicate k vs).flatten
 | 0=>Dens.nil
 | k + 1=>by
  unfold repT
  rw [List.replicate_succ,List.replicate_succ,List.flatten_cons,List.flatten_cons]
  exact d.append (A1:=[]) (A2:=[]) (zkH d k)
noncomputable def oRep (md:Md):T→T→Option T
 | .lst xs,.sc (.int k)=>if -(2 ^ 63)≤k∧k < 2 ^ 63∧xs.length * k.toNat≤sizeLine then zc2 md (repT k.toNat xs) else none
 | _,_=>none
theorem zs4:OpR X (binaryOp .Mult) (rT X.K md (oRep md)):=OpR.imp zrq fun x y H Q h=>by
 obtain⟨S,t,u,dm,d1,d2,h⟩:=h
 unfold oRep at h
 split at h
 ·rename_i xs k
  split at h
  ·rename_i hk
   obtain⟨_,a,vs,rfl,hS,h1,h2⟩:=zah.mp d1
   obtain⟨_,rfl⟩:=zaf.mp d2
   exact⟨a,k,vs,rfl,rfl,h1,hk.1,hk.2.1,by rw [h2.length];exact hk.2.2,zdW dm (zkH h2 _) h⟩
  ·exact (show False from h).elim
 ·exact (show False from h).elim
theorem zbJ {t:T} {xs:List V} (d:Dens K H S [t] .al [] xs):∃ v,xs=[v]∧Den K H S t .al [] v:=by
 unfold Dens at d
 obtain⟨A1,A2,v,vs,ea,rfl,d1,d2⟩:=d
 unfold Dens at d2
 obtain⟨rfl,rfl⟩:=List.append_eq_nil_iff.mp ea.symm
 exact⟨v,by rw [d2.2],d1⟩
theorem zkF {t u:T} {xs:List V} (d:Dens K H S [t,u] .al [] xs):∃ v w,xs=[v,w]∧Den K H S t .al [] v∧Den K H S u .al [] w:=by
 unfold Dens at d
 obtain⟨A1,A2,v,vs,ea,rfl,d1,d2⟩:=d
 obtain⟨rfl,rfl⟩:=List.append_eq_nil_iff.mp ea.symm
 obtain⟨w,rfl,d3⟩:=zbJ d2
 exact⟨v,w,rfl,d1,d3⟩
noncomputable def cLen:List T→Option T
 | [.lst ts]=>some (.sc (.int ts.length))
 | [.tup ts]=>some (.sc (.int ts.length))
 | [.scr ns]=>some (.sc (.int ns.length))
 | _=>none
theorem zcy:zcz X (.builtin "len") (rCT X.K md cLen):=zcz.imp zik fun xs H Q h=>by
 obtain⟨S,ts,dm,d,h⟩:=h
 unfold cLen at h
 split at h
 ·rename_i us
  obtain⟨v,rfl,d1⟩:=zbJ d
  obtain⟨_,a,vs,rfl,hS,h1,h2⟩:=zah.mp d1
  exact⟨a,vs,rfl,.inl (.of h1),by rw [h2.length];exact h _ H S [] (Got.sc dm _)⟩
 ·rename_i us
  obtain⟨v,rfl,d1⟩:=zbJ d
  obtain⟨_,a,vs,rfl,h1,h2⟩:=zao.mp d1
  exact⟨a,vs,rfl,.inr h1,by rw [h2.length];exact h _ H S [] (Got.sc dm _)⟩
 ·rename_i ns
  obtain⟨v,rfl,d1⟩:=zbJ d
  obtain⟨_,a,rfl,h1⟩:=zjk.mp d1
  exact⟨a,_,rfl,.inl h1.sq,by rw [List.length_map];exact h _ H S [] (Got.sc dm _)⟩
 ·exact (show False from h).elim
noncomputable def znt (md:Md):List T→Option T
 | [.lst ts]=>zc2 md ts
 | [.tup ts]=>zc2 md ts
 | _=>none
theorem zpg:zcz X (.type "list") (rCT X.K md (znt md)):=zcz.imp zij fun xs H Q h=>by
 obtain⟨S,ts,dm,d,h⟩:=h
 unfold znt at h
 split at h
 ·rename_i us
  obtain⟨v,rfl,d1⟩:=zbJ d
  obtain⟨_,a,vs,rfl,hS,h1,h2⟩:=zah.mp d1
  exact⟨a,vs,rfl,.inl (.of h1),zdW dm h2 h⟩
 ·rename_i us
  obtain⟨v,rfl,d1⟩:=zbJ d
  obtain⟨_,a,vs,rfl,h1,h2⟩:=zao.mp d1
  exact⟨a,vs,rfl,.inr h1,zdW dm h2 h⟩
 ·exact (show False from h).elim
noncomputable def za3:List T→Option (List Int)
 | []=>some []
 | t :: ts=>(asI t).bind fun i=>(za3 ts).map (i :: ·)
theorem zb4:∀ {ts:List T} {vs:List V} {ns:List Int},Dens K H S ts .al [] vs→za3 ts=some ns→vs=ns.map V.int
 | [],vs,ns,d,h=>by unfold za3 at h;cases h;unfold Dens at d;rw [d.2];rfl
 | t :: ts,vs,ns,d,h=>by
  unfold za3 at h
  unfold Dens at d
  obtain⟨A1,A2,v,vs',ea,rfl,d1,d2⟩:=d
  obtain⟨rfl,rfl⟩:=List.append_eq_nil_iff.mp ea.symm
  cases e:asI t with
  | none=>rw [e] at h;cases h
  | some i =>
   rw [e] at h
   cases e2:za3 ts with
   | none=>rw [e2] at h;cases h
   | some ms =>
    rw [e2] at h
    have h':some (i :: ms)=some ns:=h
    cases h'
    obtain rfl:=zhp e
    obtain⟨_,rfl⟩:=zaf.mp d1
    rw [zb4 d2 e2]
    rfl
theorem zkV:∀ {ts:List T} {ns:List Int},za3 ts=some ns→ts=zad ns
 | [],ns,h=>by unfold za3 at h;cases h;rfl
 | t :: ts,ns,h=>by
  unfold za3 at h
  cases e:asI t with
  | none=>rw [e] at h;cases h
  | some i =>
   rw [e] at h
   cases e2:za3 ts with
   | none=>rw [e2] at h;cases h
   | some ms =>
    rw [e2] at h
    have h':some (i :: ms)=some ns:=h
    cases h'
    obtain rfl:=zhp e
    rw [zkV e2]
    rfl
@[simp] theorem zbC:∀ ns:List Int,za3 (zad ns)=some ns
 | []=>rfl
 | n :: ns=>by
  show (asI (.sc (.int n))).bind (fun i=>(za3 (zad ns)).map (i :: ·))=_
  rw [zbC ns]
  rfl
theorem zgD:∀ (ns:List Int) (m:Md),Dens K H S (zad ns) m [] (ns.map V.int)
 | [],m=>Dens.nil
 | n :: ns,m=>Dens.cons (A1:=[]) (A2:=[]) (zet _) (zgD ns m)
theorem zcl (I:Inv X pins σ H s) {a:Addr} {vs:List V} {ns:List Int} (h:H a=some (.lst vs)) (e:vs=ns.map V.int):∃ its:List Value,PyProof.Rows.IntsAre its ns∧s.heap.IsList a its.toArray∧ns.length≤sizeLine∧its.length=ns.length:=by
 subst e
 obtain⟨its,r,pl,hz⟩:=I.list (.of h)
 have:=r.length
 rw [List.length_map] at this hz
 exact⟨its,zlv r,pl.isList,hz,this.symm⟩
noncomputable def cSum:List T→Option T
 | [.lst ts]=>(za3 ts).map fun ns=>.sc (.int ns.sum)
 | _=>none
noncomputable def cMin:List T→Option T
 | [.lst ts]=>(za3 ts).bind fun ns=>ns.min?.map fun n=>.sc (.int n)
 | _=>none
noncomputable def cMax:List T→Option T
 | [.lst ts]=>(za3 ts).bind fun ns=>ns.max?.map fun n=>.sc (.int n)
 | _=>none
theorem zr6 (hc:X.calm=true):zcz X (.builtin "sum") (rCT X.K md cSum):=by
 intro pins s σ H xs us Q I r h
 obtain⟨S,ts,dm,d,h⟩:=h
 unfold cSum at h
 split at h
 ·rename_i ts
  obtain⟨v,rfl,d1⟩:=zbJ d
  obtain⟨_,a,vs,rfl,hS,h1,h2⟩:=zah.mp d1
  obtain⟨u,rfl,rx⟩:=zhy r
  cases rx
  cases e:za3 ts with
  | none=>rw [e] at h;exact (show False from h).elim
  | some ns =>
   rw [e] at h
   obtain⟨its,i1,i2,_,_⟩:=zcl I h1 (zb4 h2 e)
   obtain⟨xs,ex⟩:=i1.allInts.items
   have hns:ns=xs.toList.map (·.1):=by rw [← i1.numsOf,← nums_intItems,← ex]
   rw [ex] at i2
   refine sum_intListG (I.ok.hd hc) i2 fun h' tk t' hk=>⟨.int ns.sum,H,I.kept hk,⟨t',?_⟩,h _ H S [] (Got.sc dm _)⟩
   rw [preSum_eq,List.take_of_length_le (by simp),hns]
 ·exact (show False from h).elim
theorem ztC (hc:X.calm=true):zcz X (.builtin "min") (rCT X.K md cMin):=by
 intro pins s σ H xs us Q I r h
 obtain⟨S,ts,dm,d,h⟩:=h
 unfold cMin at h
 split at h
 ·rename_i ts
  obtain⟨v,rfl,d1⟩:=zbJ d
  obtain⟨_,a,vs,rfl,hS,h1,h2⟩:=zah.mp d1
  obtain⟨u,rfl,rx⟩:=zhy r
  cases rx
  cases e:za3 ts with
  | none=>rw [e] at h;exact (show False from h).elim
  | some ns =>
   rw [e] at h
   obtain⟨its,i1,i2,_,_⟩:=zcl I h1 (zb4 h2 e)
   cases e2:ns.min? with
   | none=>have h':endT X.K H S md Q ((ns.min?).map fun n=>.sc (.int n)):=h;rw [e2] at h';exact (show False from h').elim
   | some M =>
    have h':endT X.K H S md Q ((ns.min?).map fun n=>.sc (.int n)):=h
    rw [e2] at h'
    obtain⟨m1,m2⟩:=(List.min?_eq_some_iff).mp e2
    have hne:0 < ns.length:=List.length_pos_of_mem m1
    obtain⟨xs,ex⟩:=i1.allInts.items
    have hns:ns=xs.toList.map (·.1):=by rw [← i1.numsOf,← nums_intItems,← ex]
    rw [ex] at i2
    have hsz:0 < xs.size:=by rw [hns,List.length_map,Array.length_toList] at hne;exact hne
    refine min_intList (I.ok.hd hc) i2 hsz fun v h2 tk hv hk=>?_
    obtain⟨t,rfl⟩:=intItems_at hv
    obtain⟨q1,q2⟩:=argBest_lt (numAt xs) (xs.size - 1)
    refine ⟨.int M,H,I.kept hk,⟨t,?_⟩,h' _ H S [] (Got.sc dm _)⟩
    have a1:numAt xs (argBest (fun i j=>decide (numAt xs i < numAt xs j)) (xs.size - 1))∈ns:=by
     rw [hns,numAt_eq];exact getD_mem (by rw [List.length_map,Array.length_toList];lia)
    have a2:∀ z∈ns,numAt xs (argBest (fun i j=>decide (numAt xs i < numAt xs j)) (xs.size - 1))≤z:=fun z hz=>by
     rw [hns] at hz
     obtain⟨j,hj,rfl⟩:=mem_getD hz
     rw [List.length_map,Array.length_toList] at hj
     rw [← numAt_eq];exact q2 j (by lia)
    rw [Int.le_antisymm (a2 M m1) (m2 _ a1)]
 ·exact (show False from h).elim
theorem ztD (hc:X.calm=true):zcz X (.builtin "max") (rCT X.K md cMax):=by
 intro pins s σ H xs us Q I r h
 obtain⟨S,ts,dm,d,h⟩:=h
 unfold cMax at h
 split at h
 ·rename_i ts
  obtain⟨v,rfl,d1⟩:=zbJ d
  obtain⟨_,a,vs,rfl,hS,h1,h2⟩:=zah.mp d1
  obtain⟨u,rfl,rx⟩:=zhy r
  cases rx
  cases e:za3 ts with
  | none=>rw [e] at h;exact (show False from h).elim
  | some ns =>
   rw [e] at h
   obtain⟨its,i1,i2,_,_⟩:=zcl I h1 (zb4 h2 e)
   cases e2:ns.max? with
   | none=>have h':endT X.K H S md Q ((ns.max?).map fun n=>.sc (.int n)):=h;rw [e2] at h';exact (show False from h').elim
   | some M =>
    have h':endT X.K H S md Q ((ns.max?).map fun n=>.sc (.int n)):=h
    rw [e2] at h'
    obtain⟨m1,m2⟩:=(List.max?_eq_some_iff).mp e2
    have hne:0 < ns.length:=List.length_pos_of_mem m1
    obtain⟨xs,ex⟩:=i1.allInts.items
    have hns:ns=xs.toList.map (·.1):=by rw [← i1.numsOf,← nums_intItems,← ex]
    rw [ex] at i2
    have hsz:0 < xs.size:=by rw [hns,List.length_map,Array.length_toList] at hne;exact hne
    refine max_intList (I.ok.hd hc) i2 hsz fun v h2 tk hv hk=>?_
    obtain⟨t,rfl⟩:=intItems_at hv
    obtain⟨q1,q2⟩:=argBest_gt (numAt xs) (xs.size - 1)
    refine ⟨.int M,H,I.kept hk,⟨t,?_⟩,h' _ H S [] (Got.sc dm _)⟩
    have a1:numAt xs (argBest (fun i j=>decide (numAt xs i > numAt xs j)) (xs.size - 1))∈ns:=by
     rw [hns,numAt_eq];exact getD_mem (by rw [List.length_map,Array.length_toList];lia)
    have a2:∀ z∈ns,z≤numAt xs (argBest (fun i j=>decide (numAt xs i > numAt xs j)) (xs.size - 1)):=fun z hz=>by
     rw [hns] at hz
     obtain⟨j,hj,rfl⟩:=mem_getD hz
     rw [List.length_map,Array.length_toList] at hj
     rw [← numAt_eq];exact q2 j (by lia)
    rw [Int.le_antisymm (m2 _ a1) (a2 M m1)]
 ·exact (show False from h).elim
noncomputable def insI (x:Int):List Int→List Int
 | []=>[x]
 | y :: ys=>if x≤y then x :: y :: ys else y :: insI x ys
noncomputable def zfr:List Int→List Int
 | []=>[]
 | x :: xs=>insI x (zfr xs)
theorem zfG (x:Int):∀ ys:List Int,(insI x ys).Perm (x :: ys)
 | []=>.refl _
 | y :: ys=>by
  unfold insI
  split
  ·exact .refl _
  ·exact ((zfG x ys).cons y).trans (List.Perm.swap x y ys)
theorem zcA:∀ xs:List Int,(zfr xs).Perm xs
 | []=>.refl _
 | x :: xs=>(zfG x _).trans ((zcA xs).cons x)
theorem zfF (x:Int):∀ {ys:List Int},ys.Pairwise (·≤·)→(insI x ys).Pairwise (·≤·)
 | [],_=>by unfold insI;simp
 | y :: ys,h=>by
  unfold insI
  have h1:=List.pairwise_cons.mp h
  split
  ·rename_i hxy
   exact List.pairwise_cons.mpr ⟨fun z hz=>by rcases List.mem_cons.mp hz with rfl | hz;exact hxy;exact Int.le_trans hxy (h1.1 z hz),h⟩
  ·rename_i hxy
   refine List.pairwise_cons.mpr ⟨fun z hz=>?_,zfF x h1.2⟩
   rcases List.mem_cons.mp ((zfG x ys).mem_iff.mp hz) with rfl | hz
   ·lia
   ·exact h1.1 z hz
theorem zdb:∀ xs:List Int,(zfr xs).Pairwise (·≤·)
 | []=>List.Pairwise.nil
 | x :: xs=>zfF x (zdb xs)
theorem zfq {a b:List Int} (p:a.Perm b) (h1:a.Pairwise (·≤·)) (h2:b.Pairwise (·≤·)):a=b:=
 p.eq_of_pairwise (fun x y _ _ h g=>Int.le_antisymm h g) h1 h2
noncomputable def zfS:List T→Option T
 | [.lst ts]=>(za3 ts).map fun ns=>.lst (zad (zfr ns))
 | _=>none
theorem zov:zcz X (.builtin "sorted") (rCT X.K .fu zfS):=by
 intro pins s σ H xs us Q I r h
 obtain⟨S,ts,dm,d,h⟩:=h
 unfold zfS at h
 split at h
 ·rename_i ts
  obtain⟨v,rfl,d1⟩:=zbJ d
  obtain⟨_,a,vs,rfl,hS,h1,h2⟩:=zah.mp d1
  obtain⟨u,rfl,rx⟩:=zhy r
  cases rx
  cases e:za3 ts with
  | none=>rw [e] at h;exact (show False from h).elim
  | some ns =>
   rw [e] at h
   obtain⟨its,i1,i2,hz,hl⟩:=zcl I h1 (zb4 h2 e)
   refine Srt.sorted_any i2 i1 (by lia) fun out ns' a1 a2 a3=>?_
   have en:ns'=zfr ns:=zfq (a2.trans (zcA ns).symm) a3 (zdb ns)
   subst en
   obtain⟨e',he⟩:=PyProof.Rows.sortedAll_at s.heap its out
   refine ⟨.ref (s.heap.objs.size + 1),_,I.laid (t':=s.toks) (o:=.lst ((zfr ns).map V.int)) (fun b ob q=>PyProof.Rows.sortedAll_old q) (Nat.le_succ _) ⟨?_,_,e',zfo a1,?_⟩,rfl,h _ _ S _ (Got.newFu ⟨.refl dm,List.nodup_nil,fun _ z=>(nomatch z),zgD _ _⟩ (I.hok.fresh (Nat.le_succ _)))⟩
   ·rw [List.length_map,(zcA ns).length_eq];exact hz
   ·rw [he]
 ·exact (show False from h).elim
end
end TL
namespace TL
open PySem PySem.Spec L2
section
variable {X:Cx} {z:Z} {pins:List (Addr×Obj)} {σ:St} {H:Hp} {s:Shared} {S:Addr→Prop} {md md1 md2:Md} {K:PySem.W.Frag} {F F1 F2:VEnv→Res T} {Fs:VEnv→Res (List T)} {e a b:Expr} {pos p2:Pos}
noncomputable abbrev OEnv:=VEnv→Res (Option Int)
noncomputable def zpW:OEnv:=fun _=>.ok none
noncomputable def zn2 (F:VEnv→Res T):OEnv:=fun ρ=>(F ρ).bind fun t=>(Res.of (asI t)).bind fun i=>.ok (some i)
def tro (K:PySem.W.Frag) (z:Z) (F:OEnv):TO:=fun σ H Q=>∃ S ρ,OkE K z S ρ σ H∧match F ρ with
 | .ok o=>∀ H' S',Grow H S H' S'→Q o H'
 | .exc c=>∀ H',Same z.H₀ H'→z.E (.ref (z.cl c)) none H'
 | .bad=>False
theorem PO.imp {e:Option Expr} {t t':TO} (h:PO X e t) (k:∀ σ H Q,t' σ H Q→t σ H Q):PO X e t':=fun pins s σ H Q I q=>h pins s σ H Q I (k σ H Q q)
theorem zqb:PO X none (tro X.K z zpW):=PO.imp zpO fun σ H Q h=>by
 obtain⟨S,ρ,o,h⟩:=h
 exact h H S (.refl o.dom)
theorem zqa (h:JE X z md F e):PO X (some e) (tro X.K z (zn2 F)):=PO.imp (zpN (JE.al h)) fun σ H Q h=>by
 obtain⟨S,ρ,o,h⟩:=h
 refine ⟨S,ρ,o,?_⟩
 unfold zn2 at h
 try dsimp only at h
 cases e:F ρ with
 | exc c=>rw [e] at h;exact h
 | bad=>rw [e] at h;exact h
 | ok t =>
  rw [e,Res.bind_ok] at h
  intro v H' S' A g
  cases e2:asI t with
  | none=>rw [e2] at h;exact (show False from h).elim
  | some i =>
   rw [e2] at h
   obtain rfl:=zhp e2
   obtain⟨_,rfl⟩:=zaf.mp g.den
   exact⟨i,rfl,h H' S' g.g⟩
noncomputable def cutT (ts:List T) (lo hi:Option Int):List T:=(ts.drop (HT.sIx ts.length 0 lo)).take (HT.sIx ts.length ts.length hi - HT.sIx ts.length 0 lo)
theorem zot {ts:List T} {vs:List V} (d:Dens K H S ts .al [] vs) (lo hi:Option Int):Dens K H S (cutT ts lo hi) .al [] (cutV vs lo hi):=by
 unfold cutT cutV
 rw [d.length]
 exact (d.drop _).take _
noncomputable def eSl (md:Md) (F:VEnv→Res T) (Lo Hi:OEnv):VEnv→Res T:=fun ρ=>(F ρ).bind fun t=>(Lo ρ).bind fun lo=>(Hi ρ).bind fun hi=>.of ((asL t).bind fun ts=>zc2 md (cutT ts lo hi))
theorem zof {lo hi:Option Expr} {Lo Hi:OEnv} (he:JE X z md1 F e) (hl:PO X lo (tro X.K z Lo)) (hh:PO X hi (tro X.K z Hi)):JE X z md (eSl md F Lo Hi) (.Subscript e (.Slice lo hi none p2) pos):=
 PE.imp (znY zpv (JE.al he) hl hh) fun σ H Q h=>zeD h fun S ρ t v H1 S1 o _ g1 d q=>⟨S1,ρ,o,by
  try dsimp only at q
  cases e1:Lo ρ with
  | exc c=>rw [e1] at q;exact q
  | bad=>rw [e1] at q;exact q
  | ok l =>
   rw [e1,Res.bind_ok] at q
   intro H2 S2 g2
   refine ⟨S2,ρ,o.grow g2,?_⟩
   cases e2:Hi ρ with
   | exc c=>rw [e2] at q;exact q
   | bad=>rw [e2] at q;exact q
   | ok h =>
    rw [e2,Res.bind_ok] at q
    intro H3 S3 g3
    cases t with
    | lst ts =>
     have d3:=(d.mono g2.same g2.up).mono g3.same g3.up
     obtain⟨_,a,vs,rfl,hS,h1,h2⟩:=zah.mp d3
     exact⟨a,vs,rfl,.of h1,zdW g3.dom (zot h2 l h) (zfN (z:=z) (endE.grow (g2.trans g3) q))⟩
    | sc _=>exact (show False from q).elim
    | scr _=>exact (show False from q).elim
    | tup _=>exact (show False from q).elim⟩
theorem zer {α β:Type} {f g:α→Option β}:∀ {l:List α},(∀ x∈l,f x=g x)→l.filterMap f=l.filterMap g
 | [],_=>rfl
 | x :: l,h=>by
  rw [List.filterMap_cons,List.filterMap_cons,h x (List.mem_cons_self ..),zer fun y hy=>h y (List.mem_cons_of_mem _ hy)]
theorem zmc (xs:List Value):(List.range xs.length).filterMap (fun (k:Nat)=>xs[((xs.length:Int) - 1 + -1 * (k:Int)).toNat]?)=xs.reverse:=by
 have h:=HT.pick_gen xs.reverse.toArray 0 xs.length
 have h2:(List.range xs.length).filterMap (fun (m:Nat)=>xs.reverse.toArray[(((0:Nat):Int) + (m:Int) * 1).toNat]?)=xs.reverse:=by
  have:=congrArg Array.toList h
  rw [List.take_of_length_le (by simp)] at this
  simpa using this
 refine Eq.trans (zer ?_) h2
 intro k hk
 have hk:=List.mem_range.mp hk
 rw [show (((0:Nat):Int) + (k:Int) * 1).toNat=k by lia,show ((xs.length:Int) - 1 + -1 * (k:Int)).toNat=xs.length - 1 - k by lia]
 simp only [List.getElem?_toArray]
 rw [List.getElem?_reverse hk]
theorem zgU (its:List Value):slicePick its.toArray none none (some (-1))=its.reverse.toArray:=by
 unfold slicePick
 have e:sliceBounds none none (some (-1)) its.toArray.size=((its.length:Int) - 1,-1,-1):=by
  simp [sliceBounds]
 rw [e]
 dsimp only
 unfold sliceRange
 have e2:(if (-1:Int) > 0 then (if ((its.length:Int) - 1) < -1 then (-1 - ((its.length:Int) - 1) + -1 - 1) / -1 else 0) else (if ((its.length:Int) - 1) > -1 then (((its.length:Int) - 1) - -1 - -1 - 1) / (- -1) else 0)).toNat=its.length:=by
  rw [if_neg (by decide)]
  by_cases h:((its.length:Int) - 1) > -1
  ·rw [if_pos h];simp
  ·rw [if_neg h];simp;lia
 dsimp only
 rw [e2,List.filterMap_map]
 congr 1
 rw [← zmc its]
 simp [Function.comp_def]
noncomputable def eRev (md:Md) (F:VEnv→Res T):VEnv→Res T:=fun ρ=>(F ρ).bind fun t=>.of ((asL t).bind fun ts=>zc2 md ts.reverse)
theorem zrQ {p3 p4:Pos} {jj} (he:JE X z md1 F e):JE X z md (eRev md F) (.Subscript e (.Slice none none (some (.UnaryOp .USub (.Constant (.int 1) jj p3) p4)) p2) pos):=by
 intro pins s σ H Q I h
 have he':=JE.al he
 refine PyProof.Rows.Subscript_ (thn (he' pins s σ H (fun x H1=>∃ a vs ts S1,x=.ref a∧H1 a=some (.lst vs)∧Dens X.K H1 S1 ts .al [] vs∧Dom S1 H1∧endT X.K H1 S1 md Q (zc2 md ts.reverse)) I (zeD h fun S ρ t v H1 S1 o _ g1 d q=>?_)) fun v s1 ⟨x,H1,I1,r1,q1⟩=>?_)
 ·cases t with
  | lst ts =>
   obtain⟨_,a,vs,rfl,hS,h1,h2⟩:=zah.mp d
   exact⟨a,vs,ts,S1,rfl,h1,h2,g1.dom,zfN (z:=z) q⟩
  | sc _=>exact (show False from q).elim
  | scr _=>exact (show False from q).elim
  | tup _=>exact (show False from q).elim
 ·obtain⟨a,vs,ts,S1,rfl,h1,h2,dm,q⟩:=q1
  cases r1
  refine wpAny_Slice ?_
  rw [evalPart_none]
  refine wpAny_pure ?_
  refine wpAny_pure ?_
  rw [evalPart_some]
  have hm:PE X (.UnaryOp .USub (.Constant (.int 1) jj p3) p4) (tUn (rU fun i=>.int (-i)) (tC (.int 1))):=zsW zqS zoV
  refine thn (hm pins s1 σ H1 (fun x H2=>x=.int (-1)∧H2=H1) I1 ⟨1,rfl,rfl,rfl⟩) fun w s2 ⟨y,H2,I2,r2,e1,e2⟩=>?_
  subst e1 e2
  obtain⟨tk,rfl⟩:=r2
  have I4:Inv X pins σ H2 { s2 with heap:=s2.heap.push { cls:=.type "slice", data:=.fields #[.none,.none,.int (-1) tk] } }:=I2.kept (t':=s2.toks) fun b ob q=>Heap.get?_push_of_some _ q
  obtain⟨its,r,ht,hz⟩:=I4.list (.of h1)
  have hlen:=r.length
  refine PyProof.Rows.tail_any (ops:=[.ref a,.ref s2.heap.objs.size]) ht.isList.typeIs PySem.F.slot_list_getitem.lookup ?_ (by with_unfolding_all rfl)
  refine wpAny_getItem_list_slice ht.isList (Heap.IsSliceOf.new ..) .none .none (.int (-1) tk) (by decide) ?_ (by rw [List.size_toArray];lia)
  rw [zgU]
  refine ⟨.ref _,_,I4.laid (t':=s2.toks) (o:=.lst vs.reverse) (fun b ob q=>Heap.get?_push_of_some _ q) (Nat.le_refl _) ?_,rfl,zdW dm h2.reverse q _ (I4.hok.fresh (Nat.le_refl _))⟩
  exact⟨by rw [List.length_reverse];exact hz,its.reverse,0,r.reverse,Heap.get?_push_size _ rfl⟩
end
end TL
namespace TL
open PySem PySem.Spec L2
open PyProof.Rows hiding St
section
variable {X:Cx} {z:Z} {pins:List (Addr×Obj)} {σ:St} {H:Hp} {s:Shared} {S:Addr→Prop} {md md1 md2 md3:Md} {K:PySem.W.Frag} {F F1 F2 F3:VEnv→Res T} {Fs:VEnv→Res (List T)} {e a b c:Expr} {pos p p2 p3:Pos}
def zpk (X:Cx) (e:Expr) (t:St→Hp→(Int→Int→Hp→Prop)→Prop):Prop:=
 ∀ (pins:List (Addr×Obj)) (s:Shared) (σ:St) (H:Hp) (Q:Int→Int→Hp→Prop),Inv X pins σ H s→t σ H Q →
  wpAny (model X.prog X.w) X.A (eval e X.env) (fun v s1=>∃ (r:Addr) (lo hi:Int) (t u w:Tok) (H1:Hp),v=.ref r∧IsRange s1.heap r lo hi 1 t u w∧Inv X pins σ H1 s1∧Q lo hi H1) X.xe s
noncomputable def tR2 (ta:TA):St→Hp→(Int→Int→Hp→Prop)→Prop:=fun σ H Q=>ta σ H fun vs H1=>∃ i j:Int,vs=[.int i,.int j]∧Q i j H1
theorem pr_2 {ta:TA} (hg:Gl X "range") (hm:X.mg "range" = none) (ha:PA X [a,b] ta) (hs:starEach [a,b] X.env=[(false,eval a X.env),(false,eval b X.env)]:=by rfl) (hs2:starEach [b] X.env=[(false,eval b X.env)]:=by rfl) :
  zpk X (.Call (.Name "range" p) [a,b] [] pos) (tR2 ta):=by
 intro pins s σ H Q I h
 refine PyProof.Rows.Call_ (zdl I hg hm boot_range (PyProof.Rows.callWith_type1 (thn (ha pos pins s σ H _ I h) fun us s1 ⟨vs,H1,I1,r1,q1⟩=>?_) (by rw [hs,hs2]) (by rw [hs2];rfl)))
 obtain⟨i,j,e,q⟩:=q1
 subst e
 cases r1 with
 | cons r rr =>
  cases rr with
  | cons r' rr =>
   cases rr
   obtain⟨t,rfl⟩:=r
   obtain⟨t',rfl⟩:=r'
   exact call_range_2 ⟨_,i,j,_,_,_,H1,rfl,IsRange.new ..,I1.kept fun b o e=>Heap.get?_push_of_some _ e,q⟩
def tLR (tr:St→Hp→(Int→Int→Hp→Prop)→Prop):TE:=fun σ H Q=>tr σ H fun lo hi H1=>(-(2 ^ 62)≤lo∧lo < 2 ^ 62∧-(2 ^ 62)≤hi∧hi < 2 ^ 62)∧(hi - lo).toNat≤1000000 ∧
 ∀ p,H1 p=none→Q (.ref p) (upd H1 p (.lst ((List.range (hi - lo).toNat).map fun (k:Nat)=>.int (lo + (k:Int)))))
theorem zlc {lo:Int}:∀ {n:Nat} {acc:Array Value},ItemsOf (fun i v=>∃ t,v=Value.int (lo + (i:Int) * 1) t) acc n→Vals ((List.range n).map fun (k:Nat)=>V.int (lo + (k:Int))) acc.toList:=by
 intro n acc h
 obtain⟨h1,h2⟩:=h
 have gen:∀ (l:List Value) (k:Nat),(∀ j v,l[j]? = some v→∃ t,v=Value.int (lo + ((k + j:Nat):Int)) t)→Vals ((List.range' k l.length).map fun (k:Nat)=>V.int (lo + (k:Int))) l:=by
  intro l
  induction l with
  | nil=>intro k _;exact .nil
  | cons v l ih =>
   intro k hk
   rw [List.length_cons,List.range'_succ,List.map_cons]
   obtain⟨t,ht⟩:=hk 0 v rfl
   refine .cons ⟨t,by simpa using ht⟩ (ih (k + 1) fun j w hj=>?_)
   obtain⟨t,ht⟩:=hk (j + 1) w (by simpa using hj)
   exact⟨t,by rw [ht,show k + (j + 1)=k + 1 + j by lia]⟩
 have:=gen acc.toList 0 fun j v hj=>by
  obtain⟨t,ht⟩:=h2 j v (by simpa using hj)
  exact⟨t,by rw [ht];simp⟩
 rw [show acc.toList.length=n by simpa using h1,← List.range_eq_range'] at this
 exact this
theorem zhR {tr:St→Hp→(Int→Int→Hp→Prop)→Prop} (hc:X.calm=true) (hg:Gl X "list") (hm:X.mg "list" = none) (hr:zpk X e tr) (hs:starEach [e] X.env=[(false,eval e X.env)]:=by rfl):PE X (.Call (.Name "list" p) [e] [] pos) (tLR tr):=by
 intro pins s σ H Q I h
 refine Call_ (zdl I hg hm boot_list (callWith_type1 ?_ hs rfl))
 rw [hs]
 show wpAny _ _ (spliced ((false,eval e X.env) :: backTo pos [])) _ _ s
 refine Calls.spliced_cons (thn (hr pins s σ H _ I h) fun v s1 ⟨r,lo,hi,t,u,w,H1,e1,hr,I1,⟨b1,b2,b3,b4⟩,hn,q⟩=>Calls.spliced_nil ?_)
 subst e1
 have hsz:Builtin.Range.rangeSize lo hi 1=((hi - lo).toNat:Nat):=by rw [rangeSize_one];split <;> lia
 refine call_list_range (I1.ok.hd hc) hr (small_one b1 b2 b3 b4) hsz (by lia) fun h' tk acc' c' hk he hacc=>?_
 refine ⟨.ref _,_,I1.laid (t':=tk) (o:=.lst ((List.range (hi - lo).toNat).map fun (k:Nat)=>.int (lo + (k:Int)))) hk (Nat.le_refl _) ⟨?_,acc'.toList,c',zlc hacc,by simpa using he⟩,rfl,q _ (I1.hok.fresh (Nat.le_refl _))⟩
 rw [List.length_map,List.length_range]
 exact Nat.le_trans hn (by decide)
end
end TL
namespace TL
open PySem PySem.Spec L2
open PyProof.Rows hiding St
section
variable {X:Cx} {z:Z} {pins:List (Addr×Obj)} {σ:St} {H:Hp} {s:Shared} {S:Addr→Prop} {md md1 md2 md3:Md} {K:PySem.W.Frag} {F F1 F2 F3:VEnv→Res T} {Fs:VEnv→Res (List T)} {e a b c:Expr} {pos p p2 p3:Pos}
noncomputable def eLR (g:List T→Option (List T)) (Fs:VEnv→Res (List T)):VEnv→Res T:=fun ρ=>(Fs ρ).bind fun ts=>.of ((g ts).bind fun us=>if us.length≤1000000 then some (.lst us) else none)
theorem ziR (lo:Int) (n:Nat):(rngI lo n).length=n:=by unfold rngI;rw [List.length_map,List.length_range]
theorem znl {lo:Int} {n:Nat} {m:Md}:Dens K H S (rngI lo n) m [] ((List.range n).map fun (k:Nat)=>.int (lo + (k:Int))):=by
 unfold rngI
 generalize List.range n=l
 induction l with
 | nil=>exact Dens.nil
 | cons k l ih=>exact Dens.cons (A1:=[]) (A2:=[]) (zet _) ih
theorem znj {lo hi:Int} {n:Nat} {Q:VK} (dm:Dom S H) (hn:n=(hi - lo).toNat) (h:endT K H S .fu Q (if (rngI lo n).length≤1000000 then some (.lst (rngI lo n)) else none)) :
  (hi - lo).toNat≤1000000∧∀ p,H p=none→Q (.ref p) (upd H p (.lst ((List.range (hi - lo).toNat).map fun (k:Nat)=>.int (lo + (k:Int))))):=by
 subst hn
 rw [ziR] at h
 split at h
 ·exact⟨by assumption,fun p hp=>h _ _ S _ (Got.newFu ⟨.refl dm,List.nodup_nil,fun _ q=>(nomatch q),znl⟩ hp)⟩
 ·exact (show False from h).elim
theorem zha {q:Pos} (hc:X.calm=true) (hgl:Gl X "list") (hml:X.mg "list" = none) (hg:Gl X "range") (hm:X.mg "range" = none) (ha:JA X z md Fs [a,b]) (hs:starEach [a,b] X.env=[(false,eval a X.env),(false,eval b X.env)]:=by rfl) (hs3:starEach [b] X.env=[(false,eval b X.env)]:=by rfl)
  (hs2:starEach [.Call (.Name "range" p) [a,b] [] p2] X.env=[(false,eval (.Call (.Name "range" p) [a,b] [] p2) X.env)]:=by rfl):JE X z .fu (eLR rng2 Fs) (.Call (.Name "list" q) [.Call (.Name "range" p) [a,b] [] p2] [] pos):=
 PE.imp (zhR hc hgl hml (pr_2 hg hm (JA.al ha) hs hs3) hs2) fun σ H Q h=>zdy h fun S ts vs H' S' A _ gg q=>by
  obtain rfl:=gg.den.alA
  have q':=zfN (z:=z) (endE.grow gg.g q)
  unfold rng2 at q'
  split at q'
  ·rename_i i j
   split at q'
   ·rename_i hj
    obtain⟨v,w,rfl,d1,d2⟩:=zkF gg.den
    obtain⟨_,rfl⟩:=zaf.mp d1
    obtain⟨_,rfl⟩:=zaf.mp d2
    exact⟨i,j,rfl,hj,znj gg.g.dom rfl q'⟩
   ·exact (show False from q').elim
  ·exact (show False from q').elim
noncomputable def isT (t:T):T→Option Bool
 | .sc (.bl c)=>match t with
  | .sc (.bl b)=>some (b == c)
  | .sc .non=>some false
  | .sc (.int _)=>some false
  | .lst _=>some false
  | .tup _=>some false
  | _=>none
 | .sc .non=>match t with
  | .sc .non=>some true
  | .sc (.bl _)=>some false
  | .sc (.int _)=>some false
  | .lst _=>some false
  | .tup _=>some false
  | _=>none
 | _=>none
noncomputable def zkg (t u:T):Option T:=(isT t u).map fun b=>.sc (.bl (!b))
theorem zqc {t u:T} {x y:V} {v w:Value} {k:Bool} (e:isT t u=some k) (d1:Den K H S t .al [] x) (d2:Den K H S u .al [] y) (r1:RelV x v) (r2:RelV y w):plainIs v w=true∧(v == w)=k:=by
 cases u with
 | sc y' =>
  obtain⟨_,rfl⟩:=zaf.mp d2
  cases y with
  | bl c =>
   cases r2
   cases t with
   | sc x' =>
    obtain⟨_,rfl⟩:=zaf.mp d1
    cases x with
    | bl b=>cases r1;cases e;exact⟨rfl,by cases b <;> cases c <;> rfl⟩
    | non=>cases r1;cases e;exact⟨rfl,rfl⟩
    | int i=>obtain⟨t,rfl⟩:=r1;cases e;exact⟨rfl,rfl⟩
    | _=>cases e
   | lst ts=>obtain⟨_,a,vs,rfl,_⟩:=zah.mp d1;cases r1;cases e;exact⟨rfl,rfl⟩
   | tup ts=>obtain⟨_,a,vs,rfl,_⟩:=zao.mp d1;cases r1;cases e;exact⟨rfl,rfl⟩
   | scr ns=>cases e
  | non =>
   cases r2
   cases t with
   | sc x' =>
    obtain⟨_,rfl⟩:=zaf.mp d1
    cases x with
    | bl b=>cases r1;cases e;exact⟨rfl,rfl⟩
    | non=>cases r1;cases e;exact⟨rfl,rfl⟩
    | int i=>obtain⟨t,rfl⟩:=r1;cases e;exact⟨rfl,rfl⟩
    | _=>cases e
   | lst ts=>obtain⟨_,a,vs,rfl,_⟩:=zah.mp d1;cases r1;cases e;exact⟨rfl,rfl⟩
   | tup ts=>obtain⟨_,a,vs,rfl,_⟩:=zao.mp d1;cases r1;cases e;exact⟨rfl,rfl⟩
   | scr ns=>cases e
  | _=>cases e
 | _=>cases e
theorem zpV:OpR X (compareOp .IsNot) (rT X.K md zkg):=by
 intro pins s σ H x y v u Q I rx ry h
 obtain⟨S,t,w,dm,d1,d2,h⟩:=h
 unfold zkg at h
 cases e:isT t w with
 | none=>rw [e] at h;exact (show False from h).elim
 | some k =>
  rw [e] at h
  obtain⟨h1,h2⟩:=zqc e d1 d2 rx ry
  exact wpAny_isNot_plain h1 ⟨.bl (!k),H,I,by rw [h2];rfl,h _ H S [] (Got.sc dm _)⟩
end
end TL
namespace TL
open PySem PySem.Spec L2
open PyProof.Rows hiding St
section
variable {K:PySem.W.Frag} {z:Z} {S S':Addr→Prop} {As:Nat→List Addr} {ρ:SEnv} {σ:St} {H H':Hp} {M:List Bool} {A A':List Addr} {v:V} {vs vs':List V} {md m m':Md} {t t':T} {ts:List T} {i:Nat} {a:Addr}
theorem zcu {o:HO} (ha:¬ S a) (h:H a=some (.lst vs)):Step K S H S (upd H a o):=by
 have f:=Frm.upd (K:=K) (o:=o) h
 exact⟨fun _ h=>h,⟨fun b xs hb e=>f.nodes b xs (fun q=>ha (q ▸ hb)) e,f.tups,f.scrs⟩⟩
theorem zfQ {o:HO} (h:H a=some (.lst vs)) (ha:¬ S a) (hA:a∉A) (d:Den K H S t m A v):Den K (upd H a o) S t m A v:=
 Den.frm (Frm.upd h) (fun b hb q=>ha (q ▸ hb)) (fun _ h=>h) (fun b hb q=>hA (q ▸ hb)) d
theorem zbX {ws:List V} {o:HO} (h:H a=some (.lst vs)) (ha:¬ S a) (hA:a∉A) (d:Dens K H S ts m A ws):Dens K (upd H a o) S ts m A ws:=
 Dens.frm (Frm.upd h) (fun b hb q=>ha (q ▸ hb)) (fun _ h=>h) (fun b hb q=>hA (q ▸ hb)) d
theorem Ok.wr (o:Ok K z S As ρ σ H) (hi:i < ρ.length) (ha:a∈As i) (h:H a=some (.lst vs)) (hv:σ[i]? = some (some v)) (new:Den K (upd H a (.lst vs')) S t' m' A' v) (nd:A'.Nodup)
  (sub:∀ b∈A',b∈As i∨((∀ j,b∉As j)∧¬ S b∧z.H₀ b=none∧H b≠none)):Ok K z S (fun j=>if j=i then A' else As j) (ρ.set i (some (m',t'))) σ (upd H a (.lst vs')):=by
 obtain⟨a1,a2,a3⟩:=o.ow i a ha
 have big:∀ b,H b≠none→upd H a (.lst vs') b≠none:=fun b hb q=>by
  by_cases e:b=a
  ·subst e;rw [zaR] at q;cases q
  ·rw [zaw e] at q;exact hb q
 have inew:∀ b∈A',¬ S b∧z.H₀ b=none∧H b≠none∧∀ j,j≠i→b∉As j:=fun b hb=>by
  rcases sub b hb with q | ⟨q1,q2,q3,q4⟩
  ·obtain⟨x1,x2,x3⟩:=o.ow i b q
   exact⟨x1,x2,x3,fun j hj w=>o.dj j i hj b w q⟩
  ·exact⟨q2,q3,q4,fun j _=>q1 j⟩
 refine ⟨fun b ob e=>?_,fun b hb=>big b (o.dom b hb),by simp [o.ln],o.s0,o.s1,fun j=>?_,fun j b hb=>?_,fun j k hjk b hb=>?_,fun j m u e=>?_⟩
 ·have:b≠a:=fun q=>by rw [q,a2] at e;cases e
  rw [zaw this];exact o.same b ob e
 ·by_cases hj:j=i
  ·rw [if_pos hj];exact nd
  ·rw [if_neg hj];exact o.nd j
 ·by_cases hj:j=i
  ·rw [if_pos hj] at hb
   obtain⟨x1,x2,x3,_⟩:=inew b hb
   exact⟨x1,x2,big b x3⟩
  ·rw [if_neg hj] at hb
   obtain⟨x1,x2,x3⟩:=o.ow j b hb
   exact⟨x1,x2,big b x3⟩
 ·by_cases hj:j=i
  ·rw [if_pos hj] at hb
   rw [if_neg (fun q=>hjk (hj.trans q.symm))]
   exact (inew b hb).2.2.2 k fun q=>hjk (hj.trans q.symm)
  ·rw [if_neg hj] at hb
   by_cases hk:k=i
   ·rw [if_pos hk];exact fun q=>(inew b q).2.2.2 j hj hb
   ·rw [if_neg hk];exact o.dj j k hjk b hb
 ·by_cases hj:j=i
  ·subst hj
   rw [List.getElem?_set_self hi] at e
   cases e
   exact⟨v,hv,by rw [if_pos rfl];exact new⟩
  ·rw [List.getElem?_set_ne (Ne.symm hj)] at e
   obtain⟨w,h1,h2⟩:=o.sl j m u e
   refine ⟨w,h1,?_⟩
   rw [if_neg hj]
   exact zfQ h a1 (fun q=>o.dj i j (Ne.symm hj) a ha q) h2
theorem Ok.toSp (o:Ok K z S As ρ σ H) (e:ρ[i]? = some (some (.fu,.lst ts))):∃ a vs,σ[i]? = some (some (.ref a))∧a∈As i∧H a=some (.lst vs) ∧
  Ok K z (fun b=>S b∨(b∈As i∧b≠a)) (fun j=>if j=i then [a] else As j) (ρ.set i (some (.sp,.lst ts))) σ H∧Step K S H (fun b=>S b∨(b∈As i∧b≠a)) H:=by
 obtain⟨v,hv,d⟩:=o.sl i _ _ e
 obtain⟨a,vs,A',rfl,ea,h1,h2⟩:=zaq.mp d
 have hil:i < ρ.length:=zbr e
 have ha:a∈As i:=by rw [ea];exact List.mem_cons_self ..
 refine ⟨a,vs,hv,ha,h1,⟨o.same,fun b hb=>?_,by simp [o.ln],fun b hb=>.inl (o.s0 b hb),fun b hb=>?_,fun j=>?_,fun j b hb=>?_,fun j k hjk b hb=>?_,fun j m u e=>?_⟩,⟨fun b hb=>.inl hb,⟨fun b xs _ q=>q,fun b xs q=>q,fun b xs q=>q⟩⟩⟩
 ·rcases hb with hb | ⟨hb,_⟩
  ·exact o.dom b hb
  ·exact (o.ow i b hb).2.2
 ·rcases hb with hb | ⟨hb,_⟩
  ·exact o.s1 b hb
  ·exact .inr (o.ow i b hb).2.1
 ·by_cases hj:j=i
  ·rw [if_pos hj];simp
  ·rw [if_neg hj];exact o.nd j
 ·by_cases hj:j=i
  ·rw [if_pos hj] at hb
   rw [List.mem_singleton.mp hb]
   obtain⟨x1,x2,x3⟩:=o.ow i a ha
   exact⟨fun q=>q.elim x1 fun q=>q.2 rfl,x2,x3⟩
  ·rw [if_neg hj] at hb
   obtain⟨x1,x2,x3⟩:=o.ow j b hb
   exact⟨fun q=>q.elim x1 fun q=>o.dj j i hj b hb q.1,x2,x3⟩
 ·by_cases hj:j=i
  ·rw [if_pos hj] at hb
   rw [if_neg (fun q=>hjk (hj.trans q.symm)),List.mem_singleton.mp hb]
   exact o.dj i k (fun q=>hjk (hj.trans q)) a ha
  ·rw [if_neg hj] at hb
   by_cases hk:k=i
   ·rw [if_pos hk];intro q;rw [List.mem_singleton.mp q] at hb;exact o.dj j i hj a hb ha
   ·rw [if_neg hk];exact o.dj j k hjk b hb
 ·by_cases hj:j=i
  ·subst hj
   rw [List.getElem?_set_self hil] at e
   cases e
   refine ⟨_,hv,?_⟩
   rw [if_pos rfl]
   refine zbS.mpr ⟨a,vs,rfl,rfl,h1,h2.out (fun b hb=>.inl hb) fun b hb=>.inr ⟨by rw [ea];exact List.mem_cons_of_mem _ hb,fun q=>?_⟩⟩
   have:=o.nd j
   rw [ea] at this
   exact (List.nodup_cons.mp this).1 (q ▸ hb)
  ·rw [List.getElem?_set_ne (Ne.symm hj)] at e
   obtain⟨w,g1,g2⟩:=o.sl j m u e
   refine ⟨w,g1,?_⟩
   rw [if_neg hj]
   exact g2.monoS fun b hb=>.inl hb
theorem zlW {α:Type} {l:List α} {i:Nat} {x:α} (h:i < l.length):(l.set i x)[i]? = some x:=List.getElem?_set_self h
theorem Dens.split:∀ {ts:List T} {A:List Addr} {vs:List V} {k:Nat} {t:T},Dens K H S ts .fu A vs→ts[k]? = some t→∃ A1 Ak A2 v,A=A1 ++ (Ak ++ A2)∧vs[k]? = some v∧Den K H S t .fu Ak v ∧
  ∀ (H':Hp) (t':T) (Ak':List Addr) (v':V),Frm K H H' (fun b=>b∈A1∨b∈A2)→Den K H' S t' .fu Ak' v'→Dens K H' S (ts.set k t') .fu (A1 ++ (Ak' ++ A2)) (vs.set k v')
 | [],A,vs,k,t,d,e=>by simp at e
 | u :: us,A,vs,0,t,d,e=>by
  unfold Dens at d
  obtain⟨A1,A2,v,vs',rfl,rfl,d1,d2⟩:=d
  have e':u=t:=by simpa using e
  subst e'
  refine ⟨[],A1,A2,v,rfl,rfl,d1,fun H' t' Ak' v' f d'=>?_⟩
  show Dens K H' S (t' :: us) .fu (Ak' ++ A2) (v' :: vs')
  exact Dens.cons d' ((Dens.frm (S:=fun _=>False) (S':=S) (P:=fun b=>b∈[]∨b∈A2) f (fun _ q=>q.elim) (fun _ q=>q.elim) (fun b hb=>.inr hb) d2.fuS))
 | u :: us,A,vs,k + 1,t,d,e=>by
  unfold Dens at d
  obtain⟨A1,A2,v,vs',rfl,rfl,d1,d2⟩:=d
  obtain⟨B1,Bk,B2,w,rfl,h1,h2,h3⟩:=Dens.split (k:=k) d2 (by simpa using e)
  refine ⟨A1 ++ B1,Bk,B2,w,by rw [List.append_assoc],by simpa using h1,h2,fun H' t' Ak' v' f d'=>?_⟩
  show Dens K H' S (u :: us.set k t') .fu (A1 ++ B1 ++ (Ak' ++ B2)) (v :: vs'.set k v')
  rw [List.append_assoc]
  refine Dens.cons (Den.frm (S:=fun _=>False) (S':=S) f (fun _ q=>q.elim) (fun _ q=>q.elim) (fun b hb=>.inl (List.mem_append_left _ hb)) d1.fuS) (h3 H' t' Ak' v' ⟨fun b xs hb=>f.nodes b xs (hb.elim (fun q=>.inl (List.mem_append_right _ q)) .inr),f.tups,f.scrs⟩ d')
end
section
variable {X:Cx} {z:Z} {md md1:Md} {F F1 F2 F3:VEnv→Res T} {e a b:Expr} {pos p1 p2 p3:Pos} {K:PySem.W.Frag} {i:Nat} {x:Str}
noncomputable def zeb (i:Nat) (ρ:SEnv) (k:Md→List T→SRes):SRes:=match ρ[i]? with
 | some (some (m,.lst ts))=>k m ts
 | _=>.bad
theorem zea {S:Addr→Prop} {H:Hp} {D:Ends} {ρ:SEnv} {k:Md→List T→SRes} (h:endS K z S H D (zeb i ρ k)):∃ m ts,ρ[i]? = some (some (m,.lst ts))∧endS K z S H D (k m ts):=by
 unfold zeb at h
 split at h
 ·rename_i m ts e
  exact⟨m,ts,e,h⟩
 ·exact (show False from h).elim
noncomputable def zhq (i:Nat) (md:Md) (M:List Bool) (m:Md) (ts:List T) (t:T) (ρ:SEnv):SRes:=
  if ts.length < sizeLine then
   if m=.fu∧md=.fu then .nx (ρ.set i (some (.fu,.lst (ts ++ [t]))))
   else if m=.al∨M[i]? = some true then .bad
   else .nx ((zaI M ρ).set i (some (.sp,.lst (ts ++ [t]))))
  else .bad
noncomputable def sApp (i:Nat) (md:Md) (M:List Bool) (F:VEnv→Res T):SEnv→SRes:=fun ρ=>zeb i ρ fun m ts=>(F (view M ρ)).sthen fun t=>zhq i md M m ts t ρ
theorem zdp:∀ {M:List Bool} {ρ:SEnv} {i:Nat},M[i]?≠some true→(zaI M ρ)[i]? = ρ[i]?
 | [],ρ,i,h=>by unfold zaI;rfl
 | b :: bs,[],i,h=>by unfold zaI;rfl
 | b :: bs,s :: ρ,0,h=>by
  unfold zaI
  have:¬ b=true:=fun q=>h (by rw [q];rfl)
  rw [if_neg this]
  rfl
 | b :: bs,s :: ρ,i + 1,h=>by
  unfold zaI
  show (zaI bs ρ)[i]? = ρ[i]?
  exact zdp (by simpa using h)
theorem zpi {S:Addr→Prop} {As:Nat→List Addr} {ρ:SEnv} {σ:St} {H:Hp} {ts:List T} {t:T} {y:V} {D:Ends} (o:Ok K z S As ρ σ H) (e:ρ[i]? = some (some (.sp,.lst ts))) (hd:Den K H S t .al [] y)
  (h:endS K z S H D (.nx (ρ.set i (some (.sp,.lst (ts ++ [t])))))):∃ a vs,σ[i]? = some (some (.ref a))∧H a=some (.lst vs)∧vs.length=ts.length∧D.nx σ (upd H a (.lst (vs ++ [y]))):=by
 obtain⟨v,hv,d⟩:=o.sl i _ _ e
 obtain⟨a,vs,rfl,ea,h1,h2⟩:=zbS.mp d
 have ha:a∈As i:=by rw [ea];exact List.mem_singleton.mpr rfl
 have hS:=(o.ow i a ha).1
 refine ⟨a,vs,hv,h1,h2.length,h S _ σ _ (o.wr (zbr e) ha h1 hv (vs':=vs ++ [y]) (A':=[a]) (zbS.mpr ⟨a,_,rfl,rfl,zaR,?_⟩) (by simp) fun b hb=>.inl (by rw [List.mem_singleton.mp hb];exact ha)) (zcu hS h1)⟩
 exact (zbX (A:=[]) h1 hS (by simp) h2).append (A1:=[]) (A2:=[]) (Dens.cons0 (zfQ (A:=[]) h1 hS (by simp) hd) Dens.nil)
theorem zoC {M:List Bool} {S S':Addr→Prop} {As:Nat→List Addr} {ρ:SEnv} {σ:St} {H H':Hp} {m:Md} {ts:List T} {t:T} {y:V} {A:List Addr} {D:Ends} (o:Ok K z S As ρ σ H) (e:ρ[i]? = some (some (m,.lst ts))) (g:Got K H (SB S As M) H' S' A y md t) (h:endS K z S H D (zhq i md M m ts t ρ)) :
  ∃ a vs,σ[i]? = some (some (.ref a))∧H' a=some (.lst vs)∧vs.length < sizeLine∧D.nx σ (upd H' a (.lst (vs ++ [y]))):=by
 unfold zhq at h
 split at h
 ·rename_i hz
  split at h
  ·rename_i hm
   obtain⟨rfl,rfl⟩:=hm
   obtain⟨v,hv,d⟩:=o.sl i _ _ e
   obtain⟨a,vs,A',rfl,ea,h1,h2⟩:=zaq.mp d
   have ha:a∈As i:=by rw [ea];exact List.mem_cons_self ..
   have o':=o.grow g.g
   obtain⟨a1,a2,a3⟩:=o.ow i a ha
   have h1':=g.g.same _ _ h1
   have nA:a∉A:=fun q=>a3 (g.ow a q).1
   have nd:=o.nd i
   rw [ea] at nd
   refine ⟨a,vs,hv,h1',by rw [h2.length];exact hz,h S _ σ _ (o'.wr (zbr e) ha h1' hv (vs':=vs ++ [y]) (A':=a :: (A' ++ A)) (zaq.mpr ⟨a,_,_,rfl,rfl,zaR,?_⟩) ?_ fun b hb=>?_) ((zbF g.g.same).trans (zcu a1 h1'))⟩
   ·exact (zbX h1' a1 (List.nodup_cons.mp nd).1 (h2.mono g.g.same fun _ q=>q)).append (by simpa using Dens.cons (zfQ h1' a1 nA g.den.fuS) Dens.nil)
   ·refine List.nodup_cons.mpr ⟨fun q=>?_,List.nodup_append.mpr ⟨(List.nodup_cons.mp nd).2,g.nd,fun b hb c hc q=>?_⟩⟩
    ·rcases List.mem_append.mp q with q | q
     ·exact (List.nodup_cons.mp nd).1 q
     ·exact nA q
    ·subst q
     exact (o.ow i b (by rw [ea];exact List.mem_cons_of_mem _ hb)).2.2 (g.ow b hc).1
   ·rcases List.mem_cons.mp hb with q | q
    ·rw [q];exact .inl ha
    ·rcases List.mem_append.mp q with q | q
     ·exact .inl (by rw [ea];exact List.mem_cons_of_mem _ q)
     ·refine .inr ⟨fun j w=>(o.ow j b w).2.2 (g.ow b q).1,fun w=>(g.ow b q).2 (g.g.up b (.inl w)),zba o.same (g.ow b q).1,fun w=>?_⟩
      obtain⟨ws,w'⟩:=g.den.own b q
      rw [w] at w';cases w'
  ·rename_i hm
   split at h
   ·exact (show False from h).elim
   ·rename_i hn
    have hn1:M[i]?≠some true:=fun q=>hn (.inr q)
    have hn2:m≠.al:=fun q=>hn (.inl q)
    have ga:=g.al
    have o1:=o.share ga.g
    have e1:(zaI M ρ)[i]? = some (some (m,.lst ts)):=by rw [zdp hn1];exact e
    have st1:Step K S H _ H':=zgS ga.g
    cases m with
    | al=>exact (hn2 rfl).elim
    | sp =>
     obtain⟨a,vs,q1,q2,q3,q4⟩:=zpi (D:=D) o1 e1 ga.den (h.step st1)
     exact⟨a,vs,q1,q2,by lia,q4⟩
    | fu =>
     obtain⟨a,vs,q1,q2,q3,o2,s2⟩:=o1.toSp e1
     have hl1:i < (zaI M ρ).length:=zbr e1
     have h':endS K z (fun b=>(S' b∨b∈A)∨b∈dAs As M i∧b≠a) H' D (.nx (((zaI M ρ).set i (some (.sp,.lst ts))).set i (some (.sp,.lst (ts ++ [t]))))):=by
      rw [List.set_set]
      exact h.step (st1.trans s2)
     obtain⟨a',vs',r1,r2,r3,r4⟩:=zpi (D:=D) (z:=z) o2 (zlW hl1) (ga.den.monoS fun b hb=>.inl hb) h'
     exact⟨a',vs',r1,r2,by lia,r4⟩
 ·exact (show False from h).elim
theorem zef {S:Addr→Prop} {As:Nat→List Addr} {ρ:SEnv} {σ:St} {H:Hp} {m:Md} {ts:List T} (o:Ok K z S As ρ σ H) (e:ρ[i]? = some (some (m,.lst ts))):∃ a vs,σ[i]? = some (some (.ref a))∧H a=some (.lst vs)∧vs.length=ts.length:=by
 obtain⟨v,hv,d⟩:=o.sl i _ _ e
 cases m with
 | al=>obtain⟨_,a,vs,rfl,_,h1,h2⟩:=zah.mp d;exact⟨a,vs,hv,h1,h2.length⟩
 | sp=>obtain⟨a,vs,rfl,_,h1,h2⟩:=zbS.mp d;exact⟨a,vs,hv,h1,h2.length⟩
 | fu=>obtain⟨a,vs,A',rfl,_,h1,h2⟩:=zaq.mp d;exact⟨a,vs,hv,h1,h2.length⟩
theorem zlO {M:List Bool} {G:Md→List T→T→SEnv→SRes} {D:Ends} {σ:St} {H:Hp} {r:V→List V→Hp→VK→Prop} (h:st K z (fun ρ=>zeb i ρ fun m ts=>(F (view M ρ)).sthen fun t=>G m ts t ρ) D σ H)
  (k:∀ S As ρ m ts t y H' S' A a,Ok K z S As ρ σ H→ρ[i]? = some (some (m,.lst ts))→Got K H (SB S As M) H' S' A y md t→endS K z S H D (G m ts t ρ)→σ[i]? = some (some (.ref a))→r (.ref a) [y] H' (fun _ H2=>D.nx σ H2)) :
  zqY (tBM K "list" r (tVar i) (zpq (tr K z md F) tNil)) D σ H:=by
 obtain⟨S,As,ρ,o,h⟩:=h
 obtain⟨m,ts,e1,h⟩:=zea h
 obtain⟨a,vs,h1,h2,h3⟩:=zef o e1
 refine ⟨_,h1,.inl ⟨rfl,vs,.of h2⟩,_,_,o.view M,?_⟩
 cases e:F (view M ρ) with
 | exc c=>rw [e] at h;exact h
 | bad=>rw [e] at h;exact h
 | ok t=>rw [e] at h;exact fun y H' S' A g=>k S As ρ m ts t y H' S' A a o e1 g h h1
theorem zko (M:List Bool) (hx:PE X a (tVar i)) (he:JE X z md F e) (hbase:attributeBase a "append" X.env (eval a X.env)=eval a X.env:=by rfl)
  (hfew:((backTo p2 (starEach [e] X.env)).all (fun x=>!x.1) && (backToKw p2 (keywordEach [] X.env)).all (fun x=>x.1.isSome) && decide ([e].length + ([]:List Keyword).length + (if ([]:List Keyword).isEmpty then 0 else 1) < 30))=true:=by rfl)
  (hline:(p1.endLine == p2.line)=true:=by rfl) (hst:starEach [e] X.env=(false,eval e X.env) :: starEach [] X.env:=by rfl) (hplain:(backTo p2 (starEach [] X.env)).any (·.1)=false:=by rfl)
  (hs:swapsWith (.Call (.Attribute a "append" p1) [e] [] p2) none pos.line X.env=pure false:=by rfl):JS X z (sApp i md M F) (.Expr (.Call (.Attribute a "append" p1) [e] [] p2) pos):=
 PS.imp (zfw (zn0 PySem.F.plainAttrs_list PySem.F.slot_list_append PySem.F.type_list_append zh0 hx (zcR he zeZ hst) hbase hfew hline hst hplain) hs) fun D σ H h=>zlO h fun S As ρ m ts t y H' S' A a o e1 g q ha=>by
  obtain⟨a',vs,h1,h2,h3,h4⟩:=zoC o e1 g q
  rw [ha] at h1
  cases h1
  exact⟨a,vs,y,rfl,rfl,h2,h3,h4⟩
end
end TL
namespace TL
open PySem PySem.Spec L2
open PyProof.Rows hiding St
section
variable {X:Cx} {z:Z} {md md1 md2:Md} {F F1 F2 F3:VEnv→Res T} {e a b c:Expr} {pos p1 p2 p3 p4:Pos} {K:PySem.W.Frag} {i:Nat} {x:Str}
noncomputable def zhh (i:Nat) (md:Md) (M:List Bool) (m:Md) (ts:List T) (t:T) (ρ:SEnv):SRes:=match t with
 | .lst us =>
  if ts.length + us.length≤sizeLine then
   if m=.fu∧(md=.fu∨zfK us=true) then .nx (ρ.set i (some (.fu,.lst (ts ++ us))))
   else if m=.al∨M[i]? = some true then .bad
   else .nx ((zaI M ρ).set i (some (.sp,.lst (ts ++ us))))
  else .bad
 | _=>.bad
noncomputable def sExt (i:Nat) (md:Md) (M:List Bool) (F:VEnv→Res T):SEnv→SRes:=fun ρ=>zeb i ρ fun m ts=>(F (view M ρ)).sthen fun t=>zhh i md M m ts t ρ
theorem zpe {S:Addr→Prop} {As:Nat→List Addr} {ρ:SEnv} {σ:St} {H:Hp} {ts us:List T} {ys:List V} {D:Ends} (o:Ok K z S As ρ σ H) (e:ρ[i]? = some (some (.sp,.lst ts))) (hd:Dens K H S us .al [] ys)
  (h:endS K z S H D (.nx (ρ.set i (some (.sp,.lst (ts ++ us)))))):∃ a vs,σ[i]? = some (some (.ref a))∧H a=some (.lst vs)∧vs.length=ts.length∧D.nx σ (upd H a (.lst (vs ++ ys))):=by
 obtain⟨v,hv,d⟩:=o.sl i _ _ e
 obtain⟨a,vs,rfl,ea,h1,h2⟩:=zbS.mp d
 have ha:a∈As i:=by rw [ea];exact List.mem_singleton.mpr rfl
 have hS:=(o.ow i a ha).1
 refine ⟨a,vs,hv,h1,h2.length,h S _ σ _ (o.wr (zbr e) ha h1 hv (vs':=vs ++ ys) (A':=[a]) (zbS.mpr ⟨a,_,rfl,rfl,zaR,?_⟩) (by simp) fun b hb=>.inl (by rw [List.mem_singleton.mp hb];exact ha)) (zcu hS h1)⟩
 exact (zbX (A:=[]) h1 hS (by simp) h2).append (A1:=[]) (A2:=[]) (zbX (A:=[]) h1 hS (by simp) hd)
theorem zoo {M:List Bool} {S S':Addr→Prop} {As:Nat→List Addr} {ρ:SEnv} {σ:St} {H H':Hp} {m:Md} {ts:List T} {t:T} {y:V} {A:List Addr} {D:Ends} (o:Ok K z S As ρ σ H) (e:ρ[i]? = some (some (m,.lst ts))) (g:Got K H (SB S As M) H' S' A y md t) (h:endS K z S H D (zhh i md M m ts t ρ)) :
  ∃ a vs b ws,σ[i]? = some (some (.ref a))∧y=.ref b∧H' a=some (.lst vs)∧H' b=some (.lst ws)∧vs.length + ws.length≤sizeLine∧D.nx σ (upd H' a (.lst (vs ++ ws))):=by
 cases t with
 | sc _=>exact (show False from h).elim
 | scr _=>exact (show False from h).elim
 | tup _=>exact (show False from h).elim
 | lst us =>
  have h0:endS K z S H D (if ts.length + us.length≤sizeLine then if m=.fu∧(md=.fu∨zfK us=true) then .nx (ρ.set i (some (.fu,.lst (ts ++ us)))) else if m=.al∨M[i]? = some true then .bad else .nx ((zaI M ρ).set i (some (.sp,.lst (ts ++ us)))) else .bad):=h
  clear h
  split at h0
  ·rename_i hz
   split at h0
   ·rename_i hm
    obtain⟨rfl,hm⟩:=hm
    obtain⟨b,ws,B,rfl,hb,dB,ndB,owB⟩:∃ b ws B,y=.ref b∧H' b=some (.lst ws)∧Dens K H' S us .fu B ws∧B.Nodup∧∀ c∈B,H c=none∧¬ S' c:=by
     rcases hm with rfl | hf
     ·obtain⟨b,ws,B,rfl,rfl,h1,h2⟩:=zaq.mp g.den
      exact⟨b,ws,B,rfl,h1,h2.fuS,(List.nodup_cons.mp g.nd).2,fun c hc=>g.ow c (List.mem_cons_of_mem _ hc)⟩
     ·obtain⟨_,b,ws,rfl,_,h1,h2⟩:=zah.mp g.al.den
      exact⟨b,ws,[],rfl,h1,(zfP h2 hf).fuS,List.nodup_nil,fun _ q=>(nomatch q)⟩
    obtain⟨v,hv,d⟩:=o.sl i _ _ e
    obtain⟨a,vs,A',rfl,ea,h1,h2⟩:=zaq.mp d
    have ha:a∈As i:=by rw [ea];exact List.mem_cons_self ..
    have o':=o.grow g.g
    obtain⟨a1,a2,a3⟩:=o.ow i a ha
    have h1':=g.g.same _ _ h1
    have nB:a∉B:=fun q=>a3 (owB a q).1
    have nd:=o.nd i
    rw [ea] at nd
    refine ⟨a,vs,b,ws,hv,rfl,h1',hb,by rw [h2.length,dB.length];exact hz,h0 S _ σ _ (o'.wr (zbr e) ha h1' hv (vs':=vs ++ ws) (A':=a :: (A' ++ B)) (zaq.mpr ⟨a,_,_,rfl,rfl,zaR,?_⟩) ?_ fun c hc=>?_) ((zbF g.g.same).trans (zcu a1 h1'))⟩
    ·exact (zbX h1' a1 (List.nodup_cons.mp nd).1 (h2.mono g.g.same fun _ q=>q)).append (zbX h1' a1 nB dB)
    ·refine List.nodup_cons.mpr ⟨fun q=>?_,List.nodup_append.mpr ⟨(List.nodup_cons.mp nd).2,ndB,fun c hc c' hc' q=>?_⟩⟩
     ·rcases List.mem_append.mp q with q | q
      ·exact (List.nodup_cons.mp nd).1 q
      ·exact nB q
     ·subst q
      exact (o.ow i c (by rw [ea];exact List.mem_cons_of_mem _ hc)).2.2 (owB c hc').1
    ·rcases List.mem_cons.mp hc with q | q
     ·rw [q];exact .inl ha
     ·rcases List.mem_append.mp q with q | q
      ·exact .inl (by rw [ea];exact List.mem_cons_of_mem _ q)
      ·refine .inr ⟨fun j w=>(o.ow j c w).2.2 (owB c q).1,fun w=>(owB c q).2 (g.g.up c (.inl w)),zba o.same (owB c q).1,fun w=>?_⟩
       obtain⟨ws,w'⟩:=dB.own c q
       rw [w] at w';cases w'
   ·split at h0
    ·exact (show False from h0).elim
    ·rename_i hn
     have hn1:M[i]?≠some true:=fun q=>hn (.inr q)
     have hn2:m≠.al:=fun q=>hn (.inl q)
     have ga:=g.al
     obtain⟨_,b,ws,rfl,_,hb,dB⟩:=zah.mp ga.den
     have o1:=o.share ga.g
     have e1:(zaI M ρ)[i]? = some (some (m,.lst ts)):=by rw [zdp hn1];exact e
     have st1:Step K S H _ H':=zgS ga.g
     cases m with
     | al=>exact (hn2 rfl).elim
     | sp =>
      obtain⟨a,vs,q1,q2,q3,q4⟩:=zpe (D:=D) o1 e1 dB (h0.step st1)
      exact⟨a,vs,b,ws,q1,rfl,q2,hb,by rw [dB.length];lia,q4⟩
     | fu =>
      obtain⟨a,vs,q1,q2,q3,o2,s2⟩:=o1.toSp e1
      have hl1:i < (zaI M ρ).length:=zbr e1
      have h':endS K z (fun b=>(S' b∨b∈A)∨b∈dAs As M i∧b≠a) H' D (.nx (((zaI M ρ).set i (some (.sp,.lst ts))).set i (some (.sp,.lst (ts ++ us))))):=by
       rw [List.set_set]
       exact h0.step (st1.trans s2)
      obtain⟨a',vs',r1,r2,r3,r4⟩:=zpe (D:=D) (z:=z) o2 (zlW hl1) (dB.monoS fun b hb=>.inl hb) h'
      exact⟨a',vs',b,ws,r1,rfl,r2,hb,by rw [dB.length];lia,r4⟩
  ·exact (show False from h0).elim
theorem zpb (M:List Bool) (hx:PE X a (tVar i)) (he:JE X z md F e) (hbase:attributeBase a "extend" X.env (eval a X.env)=eval a X.env:=by rfl)
  (hfew:((backTo p2 (starEach [e] X.env)).all (fun x=>!x.1) && (backToKw p2 (keywordEach [] X.env)).all (fun x=>x.1.isSome) && decide ([e].length + ([]:List Keyword).length + (if ([]:List Keyword).isEmpty then 0 else 1) < 30))=true:=by rfl)
  (hline:(p1.endLine == p2.line)=true:=by rfl) (hst:starEach [e] X.env=(false,eval e X.env) :: starEach [] X.env:=by rfl) (hplain:(backTo p2 (starEach [] X.env)).any (·.1)=false:=by rfl)
  (hs:swapsWith (.Call (.Attribute a "extend" p1) [e] [] p2) none pos.line X.env=pure false:=by rfl):JS X z (sExt i md M F) (.Expr (.Call (.Attribute a "extend" p1) [e] [] p2) pos):=
 PS.imp (zfw (zn0 PySem.F.plainAttrs_list PySem.F.slot_list_extend PySem.F.type_list_extend zmD hx (zcR he zeZ hst) hbase hfew hline hst hplain) hs) fun D σ H h=>zlO h fun S As ρ m ts t y H' S' A a o e1 g q ha=>by
  obtain⟨a',vs,b,ws,h1,h2,h3,h4,h5,h6⟩:=zoo o e1 g q
  rw [ha] at h1
  cases h1
  exact⟨a,b,vs,ws,rfl,by rw [h2],h3,h4,h5,h6⟩
noncomputable def zpF:V→List V→Hp→VK→Prop:=fun x vs H Q=>∃ (l:Addr) (xs:List V) (k:Int) (y:V),x=.ref l∧vs=[.int k,y]∧H l=some (.lst xs)∧0≤k∧k≤xs.length∧xs.length < sizeLine∧Q .non (upd H l (.lst (xs.take k.toNat ++ y :: xs.drop k.toNat)))
theorem zje (its:List Value) (k:Int) (u2:Value) (h0:0≤k) (hk:k≤its.length):(fun xs:Array Value=>have k:=if k < 0 then (k + ((xs.size:Nat):Int)).toNat else min k.toNat xs.size;(xs.extract 0 k).push u2 ++ xs.extract k) its.toArray=(its.take k.toNat ++ u2 :: its.drop k.toNat).toArray:=by
 have e1:(if k < 0 then (k + ((its.toArray.size:Nat):Int)).toNat else min k.toNat its.toArray.size)=k.toNat:=by
  rw [if_neg (by lia),List.size_toArray]
  lia
 show (its.toArray.extract 0 (if k < 0 then (k + ((its.toArray.size:Nat):Int)).toNat else min k.toNat its.toArray.size)).push u2 ++ its.toArray.extract (if k < 0 then (k + ((its.toArray.size:Nat):Int)).toNat else min k.toNat its.toArray.size)=_
 rw [e1]
 apply Array.ext'
 simp
 exact List.take_of_length_le (by simp)
theorem zmC:MtM X "list.insert" zpF:=by
 intro pins s σ H x vs v us Q I rx rv h
 obtain⟨l,xs,k,y,rfl,rfl,hH,hk0,hk,hz,q⟩:=h
 cases rx
 obtain⟨u1,u2,rfl,⟨t,rfl⟩,r2⟩:=rv.two
 obtain⟨z,its,n,r,hl,e⟩:=I.lstM hH
 have hk63:k < 2 ^ 63:=by
  have:(sizeLine:Nat) < 2 ^ 63:=zh5
  lia
 have hfit:¬ (!Builtin.List.listFitsIndex k)=true:=by
  rw [fitsIndex_both (by lia) hk63]
  exact Bool.false_ne_true
 have hzz:its.toArray.size≤sizeLine:=by rw [List.size_toArray,← hl];exact Nat.le_of_lt hz
 generalize hit:its.toArray=items at e hzz
 have hM:=AutoListH.list_insert_list_int_val_1 l items n k t u2 hfit hzz
 refine call_meets PySem.F.slot_list_insert ⟨_,e,rfl⟩ PySem.F.entry_list_insert (PySem.F.args_list_insert_3 _ _ _) hM ⟨e,?_⟩
 subst hit
 exact⟨.non,_,I.lset (its':=its.take k.toNat ++ u2 :: its.drop k.toNat) (ys:=xs.take k.toNat ++ y :: xs.drop k.toNat) hH e (zje its k u2 hk0 (by lia)) ((r.take k.toNat).append (.cons r2 (r.drop k.toNat))) (by simp;lia),rfl,q⟩
noncomputable def zm7 (i:Nat) (m:Md) (ts:List T) (u t:T) (ρ:SEnv):SRes:=match u,t with
 | .sc (.int k),.sc w=>if m=.fu∧0≤k∧k≤ts.length∧ts.length < sizeLine then .nx (ρ.set i (some (.fu,.lst (ts.take k.toNat ++ .sc w :: ts.drop k.toNat)))) else .bad
 | _,_=>.bad
noncomputable def sIns (i:Nat) (M:List Bool) (F1 F2:VEnv→Res T):SEnv→SRes:=fun ρ=>zeb i ρ fun m ts=>(F1 (view M ρ)).sthen fun u=>(F2 (view M ρ)).sthen fun t=>zm7 i m ts u t ρ
theorem zfO {S:Addr→Prop} {H:Hp}:∀ {ts:List T} {A:List Addr} {vs:List V} (k:Nat),Dens K H S ts .fu A vs→∃ A1 A2,A=A1 ++ A2∧Dens K H S (ts.take k) .fu A1 (vs.take k)∧Dens K H S (ts.drop k) .fu A2 (vs.drop k)
 | ts,A,vs,0,d=>⟨[],A,rfl,by simp;exact Dens.nil,d⟩
 | [],A,vs,k + 1,d=>by unfold Dens at d;obtain⟨rfl,rfl⟩:=d;exact⟨[],[],rfl,Dens.nil,Dens.nil⟩
 | t :: ts,A,vs,k + 1,d=>by
  unfold Dens at d
  obtain⟨A1,A2,v,vs',rfl,rfl,d1,d2⟩:=d
  obtain⟨B1,B2,rfl,h1,h2⟩:=zfO k d2
  exact⟨A1 ++ B1,B2,by rw [List.append_assoc],Dens.cons d1 h1,h2⟩
theorem zpa (M:List Bool) (hx:PE X a (tVar i)) (hk:JE X z md1 F1 b) (he:JE X z md2 F2 e) (hbase:attributeBase a "insert" X.env (eval a X.env)=eval a X.env:=by rfl)
  (hfew:((backTo p2 (starEach [b,e] X.env)).all (fun x=>!x.1) && (backToKw p2 (keywordEach [] X.env)).all (fun x=>x.1.isSome) && decide ([b,e].length + ([]:List Keyword).length + (if ([]:List Keyword).isEmpty then 0 else 1) < 30))=true:=by rfl)
  (hline:(p1.endLine == p2.line)=true:=by rfl) (hst:starEach [b,e] X.env=(false,eval b X.env) :: starEach [e] X.env:=by rfl) (hst2:starEach [e] X.env=(false,eval e X.env) :: starEach [] X.env:=by rfl) (hplain:(backTo p2 (starEach [e] X.env)).any (·.1)=false:=by rfl)
  (hs:swapsWith (.Call (.Attribute a "insert" p1) [b,e] [] p2) none pos.line X.env=pure false:=by rfl):JS X z (sIns i M F1 F2) (.Expr (.Call (.Attribute a "insert" p1) [b,e] [] p2) pos):=
 PS.imp (zfw (zn0 PySem.F.plainAttrs_list PySem.F.slot_list_insert PySem.F.type_list_insert zmC hx (zcR (JE.al hk) (zcR (JE.al he) zeZ hst2) hst) hbase hfew hline hst hplain) hs) fun D σ H h=>by
  obtain⟨S,As,ρ,o,h⟩:=h
  obtain⟨m,ts,e1,h⟩:=zea h
  obtain⟨a,vs,h1,h2,h3⟩:=zef o e1
  refine ⟨_,h1,.inl ⟨rfl,vs,.of h2⟩,_,_,o.view M,?_⟩
  cases e2:F1 (view M ρ) with
  | exc c=>rw [e2] at h;exact h
  | bad=>rw [e2] at h;exact h
  | ok u =>
   rw [e2,Res.sthen_ok] at h
   intro y1 H1 S1 A1 g1
   obtain rfl:=g1.den.alA
   refine ⟨_,_,(o.view M).grow g1.g,?_⟩
   cases e3:F2 (view M ρ) with
   | exc c=>rw [e3] at h;exact h
   | bad=>rw [e3] at h;exact h
   | ok t =>
    rw [e3,Res.sthen_ok] at h
    intro y2 H2 S2 A2 g2
    unfold zm7 at h
    split at h
    ·rename_i k w
     split at h
     ·rename_i hc
      obtain⟨rfl,hk0,hk1,hz⟩:=hc
      obtain⟨_,rfl⟩:=zaf.mp g1.den
      obtain⟨_,rfl⟩:=zaf.mp g2.den
      have gg:=g1.g.trans g2.g
      have o':=o.grow gg
      obtain⟨v,hv,d⟩:=o'.sl i _ _ e1
      obtain⟨a',vs',A',rfl,ea,q1,q2⟩:=zaq.mp d
      rw [h1] at hv
      cases hv
      have ha:a∈As i:=by rw [ea];exact List.mem_cons_self ..
      obtain⟨a1,a2,a3⟩:=o'.ow i a ha
      have nd:=o'.nd i
      rw [ea] at nd
      obtain⟨B1,B2,rfl,d1,d2⟩:=zfO k.toNat q2
      have nA:=(List.nodup_cons.mp nd).1
      refine ⟨a,vs',k,y2,rfl,rfl,q1,hk0,by rw [q2.length];exact hk1,by rw [q2.length];exact hz,h S _ σ _ (o'.wr (zbr e1) ha q1 h1 (vs':=vs'.take k.toNat ++ y2 :: vs'.drop k.toNat) (A':=a :: (B1 ++ ([] ++ B2))) (zaq.mpr ⟨a,_,_,rfl,rfl,zaR,?_⟩) (by simpa using nd) fun c hc=>.inl (by rw [ea];simpa using hc)) ((zbF gg.same).trans (zcu a1 q1))⟩
      exact (zbX q1 a1 (fun q=>nA (List.mem_append_left _ q)) d1).append (Dens.cons (zet _) (zbX q1 a1 (fun q=>nA (List.mem_append_right _ q)) d2))
     ·exact (show False from h).elim
    ·exact (show False from h).elim
end
end TL
namespace TL
open PySem PySem.Spec L2
open PyProof.Rows hiding St
section
variable {X:Cx} {z:Z} {md md1 md2 md3:Md} {F F1 F2 F3:VEnv→Res T} {e a b c:Expr} {pos p1 p2 p3 p4:Pos} {K:PySem.W.Frag} {i:Nat} {x:Str}
theorem zq0 {M:List Bool} {G:T→T→SEnv→SRes} {S:Addr→Prop} {As:Nat→List Addr} {ρ:SEnv} {D:Ends} {σ:St} {H:Hp} {R:V→VK} (o:Ok K z S As ρ σ H)
  (h:endS K z S H D ((F1 (view M ρ)).sthen fun t=>(F2 (view M ρ)).sthen fun u=>G t u ρ))
  (k:∀ t u y w H1 H2 S1 S2 A1 A2,Got K H (SB S As M) H1 S1 A1 y md1 t→Got K H1 S1 H2 S2 A2 w md2 u→endS K z S H D (G t u ρ)→R y w H2) :
  tr K z md1 F1 σ H fun y H1=>tr K z md2 F2 σ H1 (R y):=by
 refine ⟨_,_,o.view M,?_⟩
 cases e2:F1 (view M ρ) with
 | exc c=>rw [e2] at h;exact h
 | bad=>rw [e2] at h;exact h
 | ok t =>
  rw [e2,Res.sthen_ok] at h
  intro y1 H1 S1 A1 g1
  refine ⟨_,_,(o.view M).grow g1.g,?_⟩
  cases e3:F2 (view M ρ) with
  | exc c=>rw [e3] at h;exact h
  | bad=>rw [e3] at h;exact h
  | ok u =>
   rw [e3,Res.sthen_ok] at h
   exact fun y2 H2 S2 A2 g2=>k t u y1 y2 H1 H2 S1 S2 A1 A2 g1 g2 h
theorem Got.later {K:PySem.W.Frag} {H H1 H2:Hp} {S S1 S2:Addr→Prop} {A:List Addr} {y:V} {t:T} {md:Md} (g:Got K H S H1 S1 A y md t) (g2:Grow H1 S1 H2 S2):Got K H S H2 S2 A y md t:=
 ⟨g.g.trans g2,g.nd,fun a ha=>⟨(g.ow a ha).1,fun q=>(g2.new a q).elim (g.ow a ha).2 fun w=>by
  obtain⟨ws,w'⟩:=g.den.own a ha
  rw [w] at w';cases w'⟩,g.den.mono g2.same g2.up⟩
noncomputable def zmd (i:Nat) (m:Md) (ts:List T) (t u:T) (ρ:SEnv):SRes:=match u with
 | .sc (.int k)=>match ixN ts.length k with
  | some j=>if m=.fu then .nx (ρ.set i (some (.fu,.lst (ts.set j t)))) else .bad
  | none=>.bad
 | _=>.bad
noncomputable def sPut (i:Nat) (M:List Bool) (F1 F2:VEnv→Res T):SEnv→SRes:=fun ρ=>zeb i ρ fun m ts=>(F1 (view M ρ)).sthen fun t=>(F2 (view M ρ)).sthen fun u=>zmd i m ts t u ρ
theorem znU {M:List Bool} {S S':Addr→Prop} {As:Nat→List Addr} {ρ:SEnv} {σ:St} {H H':Hp} {ts:List T} {t:T} {y:V} {A:List Addr} {D:Ends} {j:Nat} (o:Ok K z S As ρ σ H) (e:ρ[i]? = some (some (.fu,.lst ts))) (g:Got K H (SB S As M) H' S' A y .fu t) (hj:j < ts.length)
  (h:endS K z S H D (.nx (ρ.set i (some (.fu,.lst (ts.set j t)))))):∃ a vs,σ[i]? = some (some (.ref a))∧H' a=some (.lst vs)∧vs.length=ts.length∧D.nx σ (upd H' a (.lst (vs.set j y))):=by
 have o':=o.grow g.g
 obtain⟨v,hv,d⟩:=o'.sl i _ _ e
 obtain⟨a,vs,A',rfl,ea,h1,h2⟩:=zaq.mp d
 have ha:a∈As i:=by rw [ea];exact List.mem_cons_self ..
 obtain⟨a1,a2,a3⟩:=o.ow i a ha
 obtain⟨A1,Ak,A2,w,rfl,q1,q2,q3⟩:=Dens.split h2 (List.getElem?_eq_getElem hj)
 have nd:=o.nd i
 rw [ea] at nd
 obtain⟨n1,n2⟩:=List.nodup_cons.mp nd
 have nA:a∉A:=fun q=>a3 (g.ow a q).1
 have old:∀ c∈A1 ++ A2,c∈As i∧c≠a:=fun c hc=>by
  have hc':c∈A1 ++ (Ak ++ A2):=by
   rcases List.mem_append.mp hc with q | q
   ·exact List.mem_append_left _ q
   ·exact List.mem_append_right _ (List.mem_append_right _ q)
  exact⟨by rw [ea];exact List.mem_cons_of_mem _ hc',fun q=>n1 (q ▸ hc')⟩
 have fresh:∀ c∈A,∀ j,c∉As j:=fun c hc j w=>(o.ow j c w).2.2 (g.ow c hc).1
 have f:=Frm.upd (K:=K) (o:=.lst (vs.set j y)) h1
 refine ⟨a,vs,hv,h1,h2.length,h S _ σ _ (o'.wr (zbr e) ha h1 hv (vs':=vs.set j y) (A':=a :: (A1 ++ (A ++ A2))) (zaq.mpr ⟨a,_,_,rfl,rfl,zaR,?_⟩) ?_ fun c hc=>?_) ((zbF g.g.same).trans (zcu a1 h1))⟩
 ·exact q3 _ t A y ⟨fun c xs hc=>f.nodes c xs (hc.elim (fun q=>(old c (List.mem_append_left _ q)).2) fun q=>(old c (List.mem_append_right _ q)).2),f.tups,f.scrs⟩ (zfQ h1 a1 nA g.den.fuS)
 ·obtain⟨m1,m2,m3⟩:=List.nodup_append.mp n2
  obtain⟨k1,k2,k3⟩:=List.nodup_append.mp m2
  refine List.nodup_cons.mpr ⟨fun q=>?_,List.nodup_append.mpr ⟨m1,List.nodup_append.mpr ⟨g.nd,k2,fun c hc d hd q=>?_⟩,fun c hc d hd q=>?_⟩⟩
  ·rcases List.mem_append.mp q with q | q
   ·exact (old a (List.mem_append_left _ q)).2 rfl
   ·rcases List.mem_append.mp q with q | q
    ·exact nA q
    ·exact (old a (List.mem_append_right _ q)).2 rfl
  ·subst q;exact fresh c hc i (old c (List.mem_append_right _ hd)).1
  ·subst q
   rcases List.mem_append.mp hd with q | q
   ·exact fresh c q i (old c (List.mem_append_left _ hc)).1
   ·exact m3 c hc c (List.mem_append_right _ q) rfl
 ·rcases List.mem_cons.mp hc with q | q
  ·rw [q];exact .inl ha
  ·rcases List.mem_append.mp q with q | q
   ·exact .inl (old c (List.mem_append_left _ q)).1
   ·rcases List.mem_append.mp q with q | q
    ·refine .inr ⟨fresh c q,fun w=>(g.ow c q).2 (g.g.up c (.inl w)),zba o.same (g.ow c q).1,fun w=>?_⟩
     obtain⟨ws,w'⟩:=g.den.own c q
     rw [w] at w';cases w'
    ·exact .inl (old c (List.mem_append_right _ q)).1
theorem zpc {n:Nat} {k:Int} {j:Nat} (h:ixN n k=some j):j < n:=(zjd h).2.1
theorem zo9 (M:List Bool) (hx:PE X a (tVar i)) (he:JE X z .fu F1 e) (hk:JE X z md2 F2 b) (hs:swapsWithSole [.Subscript a b p1] e pos.line X.env=pure false:=by rfl) (hw:swappedStores [.Subscript a b p1] e X.env=pure none:=by rfl)
  (ha:∀ v,assign (.Subscript a b p1) X.env v=(do
   let ov ← holding [v] (eval a X.env)
   let iv ← holding [v,ov] (eval b X.env)
   standAt p1
   holding [v,ov,iv] (setItem ov iv v)
   release [v,ov,iv] []):=by intro _;rfl) (hh:(assignEach [.Subscript a b p1] X.env).map (·.2)=[assign (.Subscript a b p1) X.env]:=by rfl) :
  JS X z (sPut i M F1 F2) (.Assign [.Subscript a b p1] e pos):=
 PS.imp (zoQ he (zoT hx (JE.al hk) zj1 ha) hs hw hh) fun D σ H h=>by
  obtain⟨S,As,ρ,o,h⟩:=h
  obtain⟨m,ts,e1,h⟩:=zea h
  obtain⟨a,vs,h1,h2,h3⟩:=zef o e1
  have:=zq0 (md1:=.fu) (md2:=.al) (R:=fun y w H2=>zrd (.ref a) w y H2 (D.nx σ)) o h fun t u y w H1 H2 S1 S2 A1 A2 g1 g2 q=>by
   unfold zmd at q
   split at q
   ·rename_i k
    split at q
    ·rename_i j ej
     split at q
     ·rename_i hm
      subst hm
      obtain⟨_,rfl⟩:=zaf.mp g2.den
      obtain⟨a',vs',r1,r2,r3,r4⟩:=znU o e1 (g1.later g2.g) (zpc ej) q
      rw [h1] at r1
      cases r1
      exact⟨a,vs',k,j,rfl,rfl,r2,by rw [r3];exact ej,r4⟩
     ·exact (show False from q).elim
    ·exact (show False from q).elim
   ·exact (show False from q).elim
  obtain⟨S',ρ',o',h'⟩:=this
  refine ⟨S',ρ',o',?_⟩
  cases e2:F1 ρ' with
  | exc c=>rw [e2] at h';exact h'
  | bad=>rw [e2] at h';exact h'
  | ok t=>rw [e2] at h';exact fun y H1 S1 A1 g1=>⟨_,h1,h' y H1 S1 A1 g1⟩
theorem Ok.inner {S:Addr→Prop} {As:Nat→List Addr} {ρ:SEnv} {σ:St} {H:Hp} {ts us:List T} {k:Nat} (o:Ok K z S As ρ σ H) (e:ρ[i]? = some (some (.fu,.lst ts))) (hk:ts[k]? = some (.lst us)):∃ a vs b ws B,σ[i]? = some (some (.ref a))∧H a=some (.lst vs)∧vs.length=ts.length ∧
  vs[k]? = some (.ref b)∧H b=some (.lst ws)∧Dens K H S us .fu B ws∧¬ S b∧b∉B∧B.Nodup ∧
  ∀ us' ws' B',Dens K (upd H b (.lst ws')) S us' .fu B' ws'→B'.Nodup→b∉B'→(∀ c∈B',c∈B∨((∀ j,c∉As j)∧¬ S c∧z.H₀ c=none∧H c≠none))→∃ As',Ok K z S As' (ρ.set i (some (.fu,.lst (ts.set k (.lst us'))))) σ (upd H b (.lst ws')):=by
 obtain⟨v,hv,d⟩:=o.sl i _ _ e
 obtain⟨a,vs,A',rfl,ea,h1,h2⟩:=zaq.mp d
 obtain⟨A1,Ak,A2,w,rfl,q1,q2,q3⟩:=Dens.split h2 hk
 obtain⟨b,ws,B,rfl,rfl,h3,h4⟩:=zaq.mp q2
 have nd:=o.nd i
 rw [ea] at nd
 obtain⟨n1,n2⟩:=List.nodup_cons.mp nd
 obtain⟨m1,m2,m3⟩:=List.nodup_append.mp n2
 obtain⟨k1,k2,k3⟩:=List.nodup_append.mp m2
 obtain⟨l1,l2⟩:=List.nodup_cons.mp k1
 have hb:b∈As i:=by rw [ea];exact List.mem_cons_of_mem _ (List.mem_append_right _ (List.mem_append_left _ (List.mem_cons_self ..)))
 obtain⟨b1,b2,b3⟩:=o.ow i b hb
 have nb:b≠a:=fun q=>n1 (q ▸ List.mem_append_right _ (List.mem_append_left _ (List.mem_cons_self ..)))
 have b1':b∉A1:=fun q=>m3 b q b (List.mem_append_left _ (List.mem_cons_self ..)) rfl
 have b2':b∉A2:=fun q=>k3 b (List.mem_cons_self ..) b q rfl
 refine ⟨a,vs,b,ws,B,hv,h1,h2.length,q1,h3,h4,b1,l1,l2,fun us' ws' B' d' nd' nb' sub=>?_⟩
 have f:=Frm.upd (K:=K) (o:=.lst ws') h3
 have new:∀ c∈B',c∉A1∧c∉A2∧c≠a:=fun c hc=>by
  rcases sub c hc with q | q
  ·exact⟨fun w=>m3 c w c (List.mem_append_left _ (List.mem_cons_of_mem _ q)) rfl,fun w=>k3 c (List.mem_cons_of_mem _ q) c w rfl,fun w=>n1 (w ▸ List.mem_append_right _ (List.mem_append_left _ (List.mem_cons_of_mem _ q)))⟩
  ·have q':=q.1 i
   rw [ea] at q'
   exact⟨fun w=>q' (List.mem_cons_of_mem _ (List.mem_append_left _ w)),fun w=>q' (List.mem_cons_of_mem _ (List.mem_append_right _ (List.mem_append_right _ w))),fun w=>q' (w ▸ List.mem_cons_self ..)⟩
 refine ⟨_,o.wr (zbr e) hb h3 hv (vs':=ws') (t':=.lst (ts.set k (.lst us'))) (m':=.fu) (A':=a :: (A1 ++ ((b :: B') ++ A2))) (zaq.mpr ⟨a,vs,_,rfl,rfl,by rw [zaw (Ne.symm nb)];exact h1,?_⟩) ?_ fun c hc=>?_⟩
 ·have:=q3 (upd H b (.lst ws')) (.lst us') (b :: B') (.ref b) ⟨fun c xs hc=>f.nodes c xs (hc.elim (fun q w=>b1' (w ▸ q)) fun q w=>b2' (w ▸ q)),f.tups,f.scrs⟩ (zaq.mpr ⟨b,ws',B',rfl,rfl,zaR,d'⟩)
  rw [show vs.set k (.ref b)=vs from by
   have hlt:k < vs.length:=(List.getElem?_eq_some_iff.mp q1).1
   have:vs[k]=.ref b:=(List.getElem?_eq_some_iff.mp q1).2
   rw [← this];exact List.set_getElem_self hlt] at this
  exact this
 ·refine List.nodup_cons.mpr ⟨fun q=>?_,List.nodup_append.mpr ⟨m1,List.nodup_append.mpr ⟨List.nodup_cons.mpr ⟨nb',nd'⟩,k2,fun c hc d hd q=>?_⟩,fun c hc d hd q=>?_⟩⟩
  ·rcases List.mem_append.mp q with q | q
   ·exact n1 (List.mem_append_left _ q)
   ·rcases List.mem_append.mp q with q | q
    ·rcases List.mem_cons.mp q with q | q
     ·exact nb q.symm
     ·exact (new a q).2.2 rfl
    ·exact n1 (List.mem_append_right _ (List.mem_append_right _ q))
  ·subst q
   rcases List.mem_cons.mp hc with q | q
   ·exact b2' (q ▸ hd)
   ·exact (new c q).2.1 hd
  ·subst q
   rcases List.mem_append.mp hd with q | q
   ·rcases List.mem_cons.mp q with q | q
    ·exact b1' (q ▸ hc)
    ·exact (new c q).1 hc
   ·exact m3 c hc c (List.mem_append_right _ q) rfl
 ·rcases List.mem_cons.mp hc with q | q
  ·rw [q,ea];exact .inl (List.mem_cons_self ..)
  ·rcases List.mem_append.mp q with q | q
   ·exact .inl (by rw [ea];exact List.mem_cons_of_mem _ (List.mem_append_left _ q))
   ·rcases List.mem_append.mp q with q | q
    ·rcases List.mem_cons.mp q with q | q
     ·rw [q];exact .inl hb
     ·rcases sub c q with q | q
      ·exact .inl (by rw [ea];exact List.mem_cons_of_mem _ (List.mem_append_right _ (List.mem_append_left _ (List.mem_cons_of_mem _ q))))
      ·exact .inr q
    ·exact .inl (by rw [ea];exact List.mem_cons_of_mem _ (List.mem_append_right _ (List.mem_append_right _ q)))
noncomputable def zeY (i:Nat) (m:Md) (ts:List T) (t u w:T) (ρ:SEnv):SRes:=match t,u,w with
 | .sc v,.sc (.int k),.sc (.int l)=>match ixN ts.length k with
  | some j=>match ts[j]? with
   | some (.lst us)=>match ixN us.length l with
    | some n=>if m=.fu then .nx (ρ.set i (some (.fu,.lst (ts.set j (.lst (us.set n (.sc v))))))) else .bad
    | none=>.bad
   | _=>.bad
  | none=>.bad
 | _,_,_=>.bad
noncomputable def znP (i:Nat) (M:List Bool) (F1 F2 F3:VEnv→Res T):SEnv→SRes:=fun ρ=>zeb i ρ fun m ts=>(F1 (view M ρ)).sthen fun t=>(F2 (view M ρ)).sthen fun u=>(F3 (view M ρ)).no.sthen fun w=>zeY i m ts t u w ρ
theorem znV {S:Addr→Prop} {H:Hp} {D:Ends} {m:Md} {ts:List T} {t u w:T} {ρ:SEnv} (h:endS K z S H D (zeY i m ts t u w ρ)):∃ v k l j us n,t=.sc v∧u=.sc (.int k)∧w=.sc (.int l)∧ixN ts.length k=some j∧ts[j]? = some (.lst us)∧ixN us.length l=some n∧m=.fu∧endS K z S H D (.nx (ρ.set i (some (.fu,.lst (ts.set j (.lst (us.set n (.sc v)))))))):=by
 unfold zeY at h
 split at h
 ·rename_i v k l
  split at h
  ·rename_i j ej
   split at h
   ·rename_i us eu
    split at h
    ·rename_i n en
     split at h
     ·exact⟨v,k,l,j,us,n,rfl,rfl,rfl,ej,eu,en,by assumption,h⟩
     ·exact (show False from h).elim
    ·exact (show False from h).elim
   ·exact (show False from h).elim
  ·exact (show False from h).elim
 ·exact (show False from h).elim
theorem zrT {n:Nat} {k:Int} {j:Nat} {α:Type} {xs:List α} {x:α} (h:ixN n k=some j) (hl:xs.length=n) (e:xs[j]? = some x):atI xs k=some x:=by
 unfold atI
 rw [hl,h]
 exact e
theorem zjj {S:Addr→Prop} {H:Hp} {us:List T} {ws:List V} {B:List Addr} {n:Nat} (d:Dens K H S us .fu B ws) (hn:n < us.length) (v:V):∃ B',Dens K H S (us.set n (.sc v)) .fu B' (ws.set n v)∧(∀ c∈B',c∈B)∧(B.Nodup→B'.Nodup):=by
 obtain⟨A1,Ak,A2,w,rfl,q1,q2,q3⟩:=Dens.split d (List.getElem?_eq_getElem hn)
 refine ⟨A1 ++ ([] ++ A2),q3 H (.sc v) [] v ⟨fun _ _ _ e=>e,fun _ _ e=>e,fun _ _ e=>e⟩ (zet v),fun c hc=>?_,fun nd=>?_⟩
 ·rcases List.mem_append.mp hc with q | q
  ·exact List.mem_append_left _ q
  ·exact List.mem_append_right _ (List.mem_append_right _ q)
 ·obtain⟨m1,m2,m3⟩:=List.nodup_append.mp nd
  exact List.nodup_append.mpr ⟨m1,(List.nodup_append.mp m2).2.1,fun c hc d hd=>m3 c hc d (List.mem_append_right _ hd)⟩
theorem zmX (M:List Bool) (hx:PE X a (tVar i)) (he:JE X z md1 F1 e) (hk:JE X z md2 F2 b) (hj:JE X z md3 F3 c) (hsl:zjH b:=by intro o i;rfl) (hs:swapsWithSole [.Subscript (.Subscript a b p2) c p1] e pos.line X.env=pure false:=by rfl) (hw:swappedStores [.Subscript (.Subscript a b p2) c p1] e X.env=pure none:=by rfl)
  (ha:∀ v,assign (.Subscript (.Subscript a b p2) c p1) X.env v=(do
   let ov ← holding [v] (eval (.Subscript a b p2) X.env)
   let iv ← holding [v,ov] (eval c X.env)
   standAt p1
   holding [v,ov,iv] (setItem ov iv v)
   release [v,ov,iv] []):=by intro _;rfl) (hh:(assignEach [.Subscript (.Subscript a b p2) c p1] X.env).map (·.2)=[assign (.Subscript (.Subscript a b p2) c p1) X.env]:=by rfl) :
  JS X z (znP i M F1 F2 F3) (.Assign [.Subscript (.Subscript a b p2) c p1] e pos):=
 PS.imp (zoQ (JE.al he) (zoT (zro zjc hx (JE.al hk) hsl) (JE.al hj) zj1 ha) hs hw hh) fun D σ H h=>by
  obtain⟨S,As,ρ,o,h⟩:=h
  obtain⟨m,ts,e1,h⟩:=zea h
  obtain⟨a,vs,h1,h2,h3⟩:=zef o e1
  refine ⟨_,_,o.view M,?_⟩
  cases e2:F1 (view M ρ) with
  | exc c=>rw [e2] at h;exact h
  | bad=>rw [e2] at h;exact h
  | ok t =>
   rw [e2,Res.sthen_ok] at h
   intro y1 H1 S1 A1 g1
   obtain rfl:=g1.den.alA
   refine ⟨_,h1,_,_,(o.view M).grow g1.g,?_⟩
   cases e3:F2 (view M ρ) with
   | exc c=>rw [e3] at h;exact h
   | bad=>rw [e3] at h;exact h
   | ok u =>
    rw [e3,Res.sthen_ok] at h
    intro y2 H2 S2 A2 g2
    obtain rfl:=g2.den.alA
    cases e4:F3 (view M ρ) with
    | bad=>rw [e4] at h;exact (show False from h).elim
    | exc c=>rw [e4] at h;exact (show False from h).elim
    | ok w =>
     rw [e4,Res.no_ok,Res.sthen_ok] at h
     obtain⟨v,k,l,j,us,n,rfl,rfl,rfl,ej,eu,en,rfl,h9⟩:=znV h
     obtain⟨_,rfl⟩:=zaf.mp g1.den
     obtain⟨_,rfl⟩:=zaf.mp g2.den
     have gg:=g1.g.trans g2.g
     have o2:=o.grow gg
     obtain⟨a',vs',b,ws,B,r1,r2,r3,r4,r5,_⟩:=o2.inner e1 eu
     rw [h1] at r1
     cases r1
     refine ⟨a,vs',k,.ref b,rfl,rfl,.of r2,zrT ej r3 r4,S2,view M ρ,((o.view M).grow gg),?_⟩
     rw [e4]
     intro y3 H3 S3 A3 g3
     obtain⟨_,rfl⟩:=zaf.mp g3.den
     have ggg:=gg.trans g3.g
     have o3:=o.grow ggg
     obtain⟨a'',vs'',b',ws',B',t1,t2,t3,t4,t5,t6,t7,t8,t9,t10⟩:=o3.inner e1 eu
     rw [h1] at t1
     cases t1
     have:b'=b:=by
      have:=g3.g.same _ _ r2
      rw [t2] at this
      cases this
      rw [t4] at r4
      cases r4
      rfl
     subst this
     obtain⟨B2,u1,u2,u3⟩:=zjj t6 (zpc en) y1
     have hl:=t6.length
     refine ⟨b',ws',l,n,rfl,rfl,t5,by rw [hl];exact en,?_⟩
     obtain⟨As',o4⟩:=t10 (us.set n (.sc y1)) (ws'.set n y1) B2 (zbX t5 t7 (fun q=>t8 (u2 _ q)) u1) (u3 t9) (fun q=>t8 (u2 _ q)) fun c hc=>.inl (u2 c hc)
     exact h9 S As' σ _ o4 ((zbF ggg.same).trans (zcu t7 t5))
end
end TL
namespace TL
open PySem PySem.Spec L2
open PyProof.Rows hiding St
section
variable {X:Cx} {z:Z} {md md1 md2 md3:Md} {F F1 F2 F3:VEnv→Res T} {e a b c:Expr} {pos p1 p2 p3 p4:Pos} {K:PySem.W.Frag} {i:Nat} {x:Str}
end
end TL
namespace TL
open PySem PySem.Spec L2
open PyProof.Rows hiding St
noncomputable def endU (z:Z) (H:Hp) (S:Addr→Prop) (Q:VK):Res Unit→Prop
 | .ok _=>∀ x H' S',Grow H S H' S'→Q (.str x) H'
 | .exc c=>∀ H',Same z.H₀ H'→z.E (.ref (z.cl c)) none H'
 | .bad=>False
def trs (K:PySem.W.Frag) (z:Z) (F:VEnv→Res Unit):TE:=fun σ H Q=>∃ S ρ,OkE K z S ρ σ H∧endU z H S Q (F ρ)
noncomputable def uOk:VEnv→Res Unit:=fun _=>.ok ()
section
variable {X:Cx} {z:Z} {md md1:Md} {F F1 F2 F3:VEnv→Res T} {U:VEnv→Res Unit} {e a b c:Expr} {pos p1 p2 p3 p4:Pos} {K:PySem.W.Frag} {i:Nat} {x:Str}
theorem zkn {j}:PE X (.Constant (.str x) j pos) (trs X.K z uOk):=PE.imp zrm fun σ H Q h=>by
 obtain⟨S,ρ,o,h⟩:=h
 exact h x H S (.refl o.dom)
def PJ (X:Cx) (parts:List Expr) (n:Nat) (t:St→Hp→(Hp→Prop)→Prop):Prop:=
 ∀ (out:Str) (pins:List (Addr×Obj)) (s:Shared) (σ:St) (H:Hp) (Q:Hp→Prop),out.length + n≤1000→Inv X pins σ H s→t σ H Q →
  wpAny (model X.prog X.w) X.A (joinParts out (evalEach parts X.env)) (fun u s'=>∃ x tk H',u=.str x tk∧Inv X pins σ H' s'∧Q H') X.xe s
noncomputable def tju (K:PySem.W.Frag) (z:Z) (F:VEnv→Res Unit):St→Hp→(Hp→Prop)→Prop:=fun σ H Q=>∃ S ρ,OkE K z S ρ σ H∧endU z H S (fun _=>Q) (F ρ)
theorem zdC:1000≤sizeLine:=by decide
theorem zoR:PJ X [] 0 (tju X.K z uOk):=by
 intro out pins s σ H Q hn I h
 obtain⟨S,ρ,o,h⟩:=h
 refine joinParts_nilE (joinParts_nil ⟨out,_,H,rfl,I.tok _,h out H S (.refl o.dom)⟩ (Nat.le_trans (by lia) zdC))
theorem zhQ {es:List Expr} {n j} (hr:PJ X es n (tju X.K z U)):PJ X (.Constant (.str x) j pos :: es) (x.length + n) (tju X.K z U):=by
 intro out pins s σ H Q hn I h
 refine joinParts_consE (joinParts_cons (Calls.Constant_str ⟨?_,?_⟩))
 ·exact Nat.le_trans (by rw [strLen_append];lia) zdC
 ·exact hr _ pins _ σ H Q (by rw [strLen_append];lia) (I.tok _) h
noncomputable def uInt (F:VEnv→Res T) (U:VEnv→Res Unit):VEnv→Res Unit:=fun ρ=>(F ρ).bind fun t=>match t with
 | .sc (.int i)=>if 0≤i∧i < 100 then U ρ else .bad
 | _=>.bad
theorem zhD:∀ k:Fin 100,(toString ((k.val:Nat):Int):Str).length≤2:=by decide +kernel
theorem zlS {i:Int} (h0:0≤i) (h1:i < 100):i.natAbs.log2 < 1920:=by
 have:i.natAbs < 2 ^ 7:=by lia
 have h2:i.natAbs.log2 < 7:=by
  by_cases h:i.natAbs=0
  ·rw [h];decide
  ·exact (Nat.log2_lt h).mpr this
 lia
theorem zlT {i:Int} (h0:0≤i) (h1:i < 100):(toString i:Str).length≤2:=by
 have:=zhD ⟨i.toNat,by lia⟩
 rw [show (((⟨i.toNat,by lia⟩:Fin 100).val:Nat):Int)=i by show ((i.toNat:Nat):Int)=i;lia] at this
 exact this
theorem zmh {es:List Expr} {n} (he:JE X z md F e) (hr:PJ X es n (tju X.K z U)):PJ X (.FormattedValue e (-1) none pos :: es) (2 + n) (tju X.K z (uInt F U)):=by
 intro out pins s σ H Q hn I h
 obtain⟨S,ρ,o,h⟩:=h
 unfold uInt at h
 try dsimp only at h
 have he':=JE.al he
 refine joinParts_consE (joinParts_cons (FormattedValue_plain (thn (he' pins s σ H (fun v H1=>∃ i,v=.int i∧0≤i∧i < 100∧tju X.K z U σ H1 Q) I ⟨S,ρ,o,?_⟩) fun u s1 ⟨v,H1,J,r,i,e1,h0,h1,q⟩=>?_)))
 ·cases e1:F ρ with
  | exc c=>rw [e1] at h;exact h
  | bad=>rw [e1] at h;exact h
  | ok t =>
   rw [e1,Res.bind_ok] at h
   intro v H1 S1 A g
   split at h
   ·rename_i i
    split at h
    ·rename_i hi
     obtain⟨_,rfl⟩:=zaf.mp g.den
     refine ⟨i,rfl,hi.1,hi.2,S1,ρ,o.grow g.g,?_⟩
     cases e2:U ρ with
     | ok _=>rw [e2] at h;exact fun x H2 S2 g2=>h x H2 S2 (g.g.trans g2)
     | exc c=>rw [e2] at h;exact h
     | bad=>rw [e2] at h;exact h
    ·exact (show False from h).elim
   ·exact (show False from h).elim
 ·subst e1
  obtain⟨t,rfl⟩:=r
  have:=zlT h0 h1
  refine formatField_int_small (zlS h0 h1) ⟨?_,?_⟩
  ·exact Nat.le_trans (by rw [strLen_append];lia) zdC
  ·exact hr _ pins _ σ H1 Q (by rw [strLen_append];lia) (J.tok _) q
theorem zmU {v1 v2:Expr} {es:List Expr} {n:Nat} (h:PJ X (v1 :: v2 :: es) n (tju X.K z U)) (hn:n≤1000:=by decide):PE X (.JoinedStr (v1 :: v2 :: es) pos) (trs X.K z U):=by
 intro pins s σ H Q I hq
 obtain⟨S,ρ,o,hq⟩:=hq
 refine JoinedStr_many (thn (h Str.empty pins s σ H (fun H'=>∀ x,Q (.str x) H') (by show 0 + n≤1000;lia) I ⟨S,ρ,o,?_⟩) fun u s' ⟨x,tk,H',e,J,q⟩=>⟨.str x,H',J,⟨tk,e⟩,q x⟩)
 cases e2:U ρ with
 | ok _=>rw [e2] at hq;exact fun _ H2 S2 g2 y=>hq y H2 S2 g2
 | exc c=>rw [e2] at hq;exact hq
 | bad=>rw [e2] at hq;exact hq
noncomputable def zeh (c:Nat) (M:List Bool) (U:VEnv→Res Unit):SEnv→SRes:=fun ρ=>(U (view M ρ)).sthen fun _=>.exc c
abbrev bmV:List Value:=[.type "ValueError", .type "Exception", .type "BaseException", .type "object"]
theorem zdD {c:Nat} {C:Addr} {np cpos:Pos} (M:List Bool) (hcl:z.cl c=C) (hR:znJ X z.E) (hh:X.A.handled=none) (hg:Gl X x) (hm:X.mg x=some (.ref C)) (hc:PySem.W.excIn X.K C bmV "ValueError.__new__" = true) (ha:PE X e (trs X.K z U)) (hdb:(x == ("__debug__" : Str))=false:=by decide)
  (he:starEach [e] X.env=[(false,eval e X.env)]:=by rfl):JS X z (zeh c M U) (.Raise (some (.Call (.Name x np) [e] [] cpos)) none pos):=
 PS.imp (znX PySem.F.excBase_ValueError hR hh hg hm hc (zcR ha zeZ he) (by decide +kernel) hdb he) fun D σ H h=>by
  obtain⟨S,As,ρ,o,h⟩:=h
  refine ⟨_,_,o.view M,?_⟩
  unfold zeh at h
  try dsimp only at h
  cases e1:U (view M ρ) with
  | exc c=>rw [e1] at h;exact h
  | bad=>rw [e1] at h;exact h
  | ok u =>
   rw [e1,Res.sthen_ok] at h
   intro y H' S' g
   refine ⟨Nat.le_trans (by show 1≤1000;decide) zdC,?_⟩
   rw [← hcl]
   exact h H' (o.same.trans g.same)
end
end TL
namespace TL
open PySem PySem.Spec L2
open PyProof.Rows hiding St
theorem Inv.turnedTup {X:Cx} {pins:List (Addr×Obj)} {σ:St} {H:Hp} {s:Shared} {h':Heap} {ch:List Addr} {p:Addr} {xs:List V} {its:List Value} {tk:Nat} (I:Inv X pins σ H s) (hf:∀ b∈ch,FpOk X pins H b) (hp:s.heap.objs.size≤p)
  (k:∀ b o,b∉ch→s.heap.get? b=some o→h'.get? b=some o) (hv:Vals xs its) (hz:xs.length≤sizeLine) (ht:IsTup h' p its.toArray):Inv X pins σ (upd H p (.tup xs)) { s with heap:=h',toks:=tk }:=by
 have hn:H p=none:=I.hok.fresh hp
 have un:Un (frs X.stack) ch H (upd H p (.tup xs)) s.heap h':=
  ⟨fun b o e _ _ hx=>k b o hx e,fun b o e _ _ hx=>⟨o.slots,k b o hx e⟩,fun b o e n _=>by rw [zaw (Nat.ne_of_lt (Nat.lt_of_lt_of_le (Heap.lt_size e) hp))];exact n,fun b o e hx=>⟨o,k b o hx e⟩,
   fun b ys q=>by rw [zaw (zaF q hn)];exact q,fun b u ys q=>by rw [zaw (zaF q hn)];exact q,fun b ps q=>⟨#[],by rw [zaw (zaF q hn),q];simp⟩⟩
 have hok:HOk X.prog X.w (upd H p (.tup xs)) h':=fun b u e=>by
  by_cases hb:b=p
  ·subst hb;rw [zaR] at e;cases e;exact⟨hz,its,hv,ht⟩
  ·rw [zaw hb] at e
   have nch:∀ c u,H c=some u→c∉ch:=fun c u q hc=>by rw [(hf c hc).1] at q;cases q
   refine (I.hok b u e).stay (fun c v hc r=>k c v ?_ r) (fun c q=>by rw [zaw (zaF q hn)];exact q) fun c ys q=>by rw [zaw (zaF q hn)];exact q
   rcases hc with rfl | hc
   ·exact nch _ _ e
   ·exact nch _ _ hc
 exact I.call (g':=s.gens) (t':=tk) (d':=s.drawn) un hok I.bare fun b hb=>let ⟨_,h1,_,h3,h4,h5⟩:=hf b hb;⟨h3,h1,h4,h5⟩
theorem Inv.turnedMany {X:Cx} {pins:List (Addr×Obj)} {σ:St} {H:Hp} {s:Shared} {h':Heap} {ch:List Addr} {tk:Nat} (I:Inv X pins σ H s) (hf:∀ b∈ch,FpOk X pins H b)
  (k:∀ b o,b∉ch→s.heap.get? b=some o→h'.get? b=some o):Inv X pins σ H { s with heap:=h',toks:=tk }:=by
 have un:Un (frs X.stack) ch H H s.heap h':=
  ⟨fun b o e _ _ hx=>k b o hx e,fun b o e _ _ hx=>⟨o.slots,k b o hx e⟩,fun b o e n _=>n,fun b o e hx=>⟨o,k b o hx e⟩,fun b ys q=>q,fun b u ys q=>q,fun b ps q=>⟨#[],by rw [q];simp⟩⟩
 have hok:HOk X.prog X.w H h':=fun b u e=>by
  have nch:∀ c u,H c=some u→c∉ch:=fun c u q hc=>by rw [(hf c hc).1] at q;cases q
  refine (I.hok b u e).stay (fun c v hc r=>k c v ?_ r) (fun c q=>q) fun c ys q=>q
  rcases hc with rfl | hc
  ·exact nch _ _ e
  ·exact nch _ _ hc
 exact I.call (g':=s.gens) (t':=tk) (d':=s.drawn) un hok I.bare fun b hb=>let ⟨_,h1,_,h3,h4,h5⟩:=hf b hb;⟨h3,h1,h4,h5⟩
section
variable {X:Cx} {z:Z} {md1 md2:Md} {F1 F2:VEnv→Res T} {a b:Expr} {pos p p2:Pos} {K:PySem.W.Frag} {elts:List Expr} {x1:Nat}
end
end TL
namespace TL
open PySem PySem.Spec L2
open PyProof.Rows hiding St
noncomputable def Ite (K:PySem.W.Frag) (a:Addr):It:=
 ⟨fun i H=>∃ xs x,SqL K H a xs∧xs[i]? = some x,
  fun i H v H'=>∃ p x,H p=none∧v=.ref p∧H'=upd H p (.tup [.int i,x])∧∀ xs,SqL K H a xs→xs[i]? = some x,
  fun i H=>∃ xs,SqL K H a xs∧xs.length≤i⟩
theorem zlJ {P:Program} {w:World} {K:PySem.W.Frag} {elts:List Expr} {x1} {pos:Pos} (a e it:Addr) (n1:e≠it):Turn P w K (.Tuple elts x1 pos) (Ite K a) [e,it] e
  (fun i h=>(∃ old,IsEnum h e it i old)∧h.IsListIter it a i) where
 mem:=by simp
 obj:=fun i h st c hc=>by
  obtain⟨⟨old,he⟩,h1⟩:=st
  simp only [List.mem_cons,List.not_mem_nil,or_false] at hc
  rcases hc with rfl | rfl
  ·exact⟨_,he,fun v z=>by cases z⟩
  ·obtain⟨o,e,c,d⟩:=h1
   exact⟨o,e,fun v z=>by rw [d] at z;cases z⟩
 keep:=fun i h h' st k=>by
  obtain⟨⟨old,he⟩,h1⟩:=st
  exact⟨⟨old,k e (by simp) _ he⟩,h1.at fun o e=>k it (by simp) o e⟩
 item:=by
  intro X hP hw hK hc i pins s σ H E I hf st hg
  subst hP hw hK
  obtain⟨⟨old,he⟩,h1⟩:=st
  obtain⟨xs,x,hq1,hx⟩:=hg
  obtain⟨its1,rv1,p1,z1⟩:=I.list hq1
  obtain⟨u,hu,ru⟩:=rv1.get hx
  refine wpAny_pyNext_enum_item he h1 p1.isList (x:=u) (by simpa using hu) n1 fun h' a1 a2 a3 a4 a5=>⟨_,rfl,?_⟩
  have le:e < s.heap.objs.size:=Heap.lt_size he
  have lit:it < s.heap.objs.size:=by obtain⟨o,q,_⟩:=h1;exact Heap.lt_size q
  refine wpAny_letOwnedTupleGo_enum (s:={ s with heap:=h',toks:=s.toks + 1 }) a1 fun h'' b1 b2=>?_
  have hn:H s.heap.objs.size=none:=I.hok.fresh (Nat.le_refl _)
  have kp:∀ c o,c∉[e,it]→s.heap.get? c=some o→h''.get? c=some o:=fun c o hc q=>by
   simp only [List.mem_cons,List.not_mem_nil,or_false,not_or] at hc
   exact (b2.2 c hc.1).trans (a5 c o hc.1 hc.2 q)
  have tp:IsTup h'' s.heap.objs.size [Value.int i s.toks,u].toArray:=⟨_,(b2.2 _ (Nat.ne_of_gt le)).trans a3,rfl,_,rfl⟩
  have I1:=Inv.turnedTup (xs:=[.int i,x]) (its:=[Value.int i s.toks,u]) (tk:=s.toks + 1) I hf (Nat.le_refl _) kp (.cons ⟨_,rfl⟩ (.cons ru .nil)) (by show 2≤sizeLine;decide) tp
  refine ⟨.ref s.heap.objs.size,_,I1,rfl,⟨s.heap.objs.size,x,hn,rfl,rfl,fun xs' g1=>by rw [I.list_inj g1 hq1];exact hx⟩,?_,fun c hc=>?_⟩
  ·exact⟨⟨u,by simpa using b1⟩,a2.at fun o q=>(b2.2 it (Ne.symm n1)).trans q⟩
  ·have:c < s.heap.objs.size:=by
    simp only [List.mem_cons,List.not_mem_nil,or_false] at hc
    rcases hc with rfl | rfl
    ·exact le
    ·exact lit
   rw [zaw (Nat.ne_of_lt this)];exact (hf c hc).1
 done:=by
  intro X hP hw hK hc i pins s σ H E I hf st hg
  subst hP hw hK
  obtain⟨⟨old,he⟩,h1⟩:=st
  obtain⟨xs,hq1,hx⟩:=hg
  obtain⟨its1,rv1,p1,z1⟩:=I.list hq1
  have l1:=rv1.length
  refine wpAny_pyNext_enum_end (I.ok.hd hc) he h1 p1.isList (by simp;lia) fun h' kp=>⟨rfl,Inv.turnedMany (tk:=s.toks) I hf fun b o hb e=>?_⟩
  simp only [List.mem_cons,List.not_mem_nil,or_false,not_or] at hb
  exact kp b o hb.2 e
 self:=fun _ _ _ _ _ st h=>let ⟨⟨_,he⟩,_⟩:=st;wpAny_pyIter_enum he h
section
variable {X:Cx} {z:Z} {md1:Md} {F1:VEnv→Res T} {a:Expr} {pos p p2:Pos} {K:PySem.W.Frag} {elts:List Expr} {x1:Nat}
noncomputable def zeN:Nat→List T→List T
 | _,[]=>[]
 | k,t :: ts=>.tup [.sc (.int k),t] :: zeN (k + 1) ts
theorem znh:∀ (ts:List T) (k:Nat),(zeN k ts).length=ts.length:=by
 intro ts
 induction ts with
 | nil=>intro k;rfl
 | cons t ts ih=>intro k;show (zeN (k + 1) ts).length + 1=_;rw [ih];rfl
theorem zni:∀ (ts:List T) (k i:Nat),(zeN k ts)[i]? = (ts[i]?).map fun t=>.tup [.sc (.int ((k + i:Nat):Int)),t]:=by
 intro ts
 induction ts with
 | nil=>intro k i;rfl
 | cons t ts ih =>
  intro k i
  cases i with
  | zero=>rfl
  | succ i =>
   show (zeN (k + 1) ts)[i]? = (ts[i]?).map _
   rw [ih,show k + 1 + i=k + (i + 1) by lia]
noncomputable def zm8 (F1:VEnv→Res T):VEnv→Res (List T):=fun ρ=>(F1 ρ).bind fun t=>.of ((asL t).map (zeN 0))
theorem zoe {H:Hp} {S:Addr→Prop} {a:Addr} {vs:List V} {ts:List T} (hS:S a) (hH:H a=some (.lst vs)) (d:Dens K H S ts .al [] vs):JOk K (Ite K a) H S (zeN 0 ts):=by
 refine ⟨fun H2 S2 s dm i t e=>?_,fun H2 S2 s _=>⟨vs,.of (s.frm.nodes _ _ hS hH),by rw [znh,d.length];exact Nat.le_refl _⟩⟩
 have h2:SqL K H2 a vs:=.of (s.frm.nodes _ _ hS hH)
 rw [zni,Nat.zero_add] at e
 obtain⟨t',e1,rfl⟩:=Option.map_eq_some_iff.mp e
 obtain⟨v,h3,h4⟩:=(s.dens d).get e1
 refine ⟨⟨vs,v,h2,h3⟩,fun x H3 y=>?_⟩
 obtain⟨q,x',hn,rfl,rfl,y⟩:=y
 have y1:=y vs h2
 rw [h3] at y1
 cases y1
 have sm:Same H2 (upd H2 q (.tup [.int i,v])):=fun c o e=>by rw [zaw (zaF e hn)];exact e
 exact⟨⟨sm,fun _ h=>h,fun _ h=>.inl h,fun c h=>zbM sm (dm c h)⟩,zao.mpr ⟨rfl,q,_,rfl,.inl (.inl zaR),Dens.cons0 (zet _) (Dens.cons0 (h4.mono sm fun _ h=>h) Dens.nil)⟩⟩
theorem zil:bootBuiltins "enumerate" = some (.type "enumerate"):=by kernel_rfl
theorem zm0 (hg:Gl X "enumerate") (hm:X.mg "enumerate" = none) (ha:JE X z md1 F1 a) (hs:starEach [a] X.env=(false,eval a X.env) :: starEach [] X.env:=by rfl) (hpl:(backTo pos (starEach [] X.env)).any (·.1)=false:=by rfl) :
  JI X z (.Tuple elts x1 p2) (zm8 F1) (.Call (.Name "enumerate" p) [a] [] pos):=by
 intro pins s σ H R I h
 have hA:PA X [a] (zpq (tr X.K z .al F1) tNil):=zcR (JE.al ha) zeZ hs
 refine Call_ (zdl I hg hm zil (callWith_type1 (thn (hA pos pins s σ H (fun vs H1=>∃ a xs ts S1,vs=[.ref a]∧S1 a∧H1 a=some (.lst xs)∧Dens X.K H1 S1 ts .al [] xs∧Dom S1 H1∧∀ J H' S',Grow H1 S1 H' S'→JOk X.K J H' S' (zeN 0 ts)→R J H') I ?_) fun us s1 ⟨vs,H1,I1,r1,q1⟩=>?_) hs hpl))
 ·obtain⟨S,ρ,o,h⟩:=h
  refine ⟨S,ρ,o,?_⟩
  unfold zm8 at h
  try dsimp only at h
  cases e1:F1 ρ with
  | exc c=>rw [e1] at h;exact h
  | bad=>rw [e1] at h;exact h
  | ok t =>
   rw [e1,Res.bind_ok] at h
   intro v1 H1 S1 A1 g1
   obtain rfl:=g1.den.alA
   cases t with
   | lst ts =>
    obtain⟨_,a,xs,rfl,q1,q2,q3⟩:=zah.mp g1.den
    exact⟨a,xs,ts,S1,rfl,q1,q2,q3,g1.g.dom,fun J H' S' g=>h J H' S' (g1.g.trans g)⟩
   | sc _=>exact (show False from h).elim
   | scr _=>exact (show False from h).elim
   | tup _=>exact (show False from h).elim
 ·obtain⟨a,xs,ts,S1,rfl,q1,q3,q5,dm,q⟩:=q1
  obtain⟨u1,rfl,rx⟩:=zhy r1
  obtain rfl:u1=Value.ref a:=rx
  obtain⟨its1,rv1,p1,z1⟩:=I1.list (.of q3)
  refine call_enumerate_list p1.isList ?_
  intro h' a1 a2 a3 kp
  refine wpAny_pyIter_enum a1 ?_
  have I2:Inv X pins σ H1 { s1 with heap:=h' }:=I1.kept (t':=s1.toks) kp
  refine ⟨s1.heap.objs.size + 1,[s1.heap.objs.size + 1,s1.heap.objs.size],_,_,H1,rfl,I2,
   zlJ a _ _ (Nat.succ_ne_self _),⟨⟨_,a1⟩,a2⟩,fun c hc=>?_,q _ H1 S1 (.refl dm) (zoe q1 q3 q5)⟩
  ·have hge:s1.heap.objs.size≤c:=by
    simp only [List.mem_cons,List.not_mem_nil,or_false] at hc
    rcases hc with rfl | rfl <;> lia
   exact I1.fpOk hge (I1.hok.fresh hge)
end
end TL
namespace TL
open PySem PySem.Spec L2
open PyProof.Rows hiding St
def g2 (K:PySem.W.Frag) (i j:Nat):TG:=gTup K 2 (zqi (ze7 i) (zqi (ze7 j) gNil))
theorem zkJ {K:PySem.W.Frag} {H:Hp} {S:Addr→Prop} {x y:T} {v:V} (d:Den K H S (.tup [x,y]) .al [] v):∃ a u w,v=.ref a∧SqT K H a [u,w]∧Den K H S x .al [] u∧Den K H S y .al [] w:=by
 obtain⟨_,a,vs,rfl,h1,h2⟩:=zao.mp d
 obtain⟨u,w,rfl,h3,h4⟩:=zkF h2
 exact⟨a,u,w,rfl,h1,h3,h4⟩
theorem znw {K:PySem.W.Frag} (i j:Nat):zqK K (g2 K i j) (gS2 i j):=by
 intro z S As ρ σ H t v ρ' Q o d e k
 unfold gS2 at e
 split at e
 ·rename_i x y
  obtain⟨a,u,w,rfl,h1,h2,h3⟩:=zkJ d
  cases e1:gS i x ρ with
  | none=>rw [e1] at e;cases e
  | some ρ1 =>
   rw [e1] at e
   refine ⟨a,[u,w],rfl,h1,rfl,u,[w],rfl,?_⟩
   refine zaK i z S As ρ σ H x u ρ1 _ o h2 e1 fun As1 σ1 o1=>⟨w,[],rfl,?_⟩
   exact zaK j z S As1 ρ1 σ1 H y w ρ' _ o1 h3 e fun As2 σ2 o2=>⟨rfl,k As2 σ2 o2⟩
 ·cases e
theorem zsa {K:PySem.W.Frag} {n i j:Nat} (hi:i < n) (hj:j < n):ze5 K n (g2 K i j) (gE2 i j):=by
 intro z S ρ σ H t v ρ' Q o hl d e k
 unfold gE2 at e
 split at e
 ·rename_i x y
  split at e
  ·cases e
  ·rename_i hij
   split at e
   ·rename_i hf
    obtain⟨a,u,w,rfl,h1,h2,h3⟩:=zkJ d
    cases e1:gE i x ρ with
    | none=>rw [e1] at e;cases e
    | some ρ1 =>
     rw [e1] at e
     refine ⟨a,[u,w],rfl,h1,rfl,u,[w],rfl,?_⟩
     refine zbo hi z S ρ σ H x u ρ1 _ o hl h2 e1 fun σ1 o1 o1' hl1=>⟨w,[],rfl,?_⟩
     refine zbo hj z S ρ1 σ1 H y w ρ' _ o1 hl1 h3 e fun σ2 o2 o3 hl2=>⟨rfl,k σ2 o2 ?_ hl2⟩
     unfold gE at e1
     split at e1
     ·rename_i hfi
      cases e1
      refine ⟨o.same,o.dom,fun l t el=>o3.sl l t ?_⟩
      have hl:l≠i:=fun q=>by subst q;rw [zh8 hfi] at el;cases el
      rw [List.getElem?_set_ne (Ne.symm hl)]
      exact el
     ·cases e1
   ·cases e
 ·cases e
section
variable {X:Cx} {z:Z} {md md1 md2:Md} {F F1 F2:VEnv→Res T} {e a b:Expr} {pos px py pt pt2:Pos} {K:PySem.W.Frag} {i j:Nat} {x y:Str} {kt k2:Nat}
end
end TL
namespace TL
open PySem PySem.Spec L2
open PyProof.Rows hiding St
section
variable {X:Cx} {z:Z} {md md1 md2 md3:Md} {F F1 F2 F3:VEnv→Res T} {e a b c:Expr} {pos p1 p2 p3 p4 p5 p6:Pos} {K:PySem.W.Frag} {i:Nat} {x:Str}
end
end TL
namespace TL
open PySem PySem.Spec L2
open PyProof.Rows hiding St
section
variable {K:PySem.W.Frag} {H H':Hp} {S S':Addr→Prop}
theorem znm {t:T} {ts:List T} {vs:List V} (h:Dens K H S (t :: ts) .al [] vs):∃ v us,vs=v :: us∧Den K H S t .al [] v∧Dens K H S ts .al [] us:=by
 unfold Dens at h
 obtain⟨A1,A2,v',vs',e1,e2,h1,h2⟩:=h
 obtain⟨rfl,rfl⟩:=List.append_eq_nil_iff.mp e1.symm
 exact⟨_,_,e2,h1,h2⟩
theorem zos {vs:List V} (h:Dens K H S [] .al [] vs):vs=[]:=by unfold Dens at h;exact h.2
end
section
variable {X:Cx} {z:Z} {md md1 md2 md3:Md} {F F1 F2 F3:VEnv→Res T} {e a b c a':Expr} {pos pos2 p1 p2 p3 p4:Pos} {K:PySem.W.Frag} {i p:Nat} {x:Str} {R:SEnv→SRes} {ss:List Stmt}
end
end TL
namespace TL
open PySem PySem.Spec L2
open PyProof.Rows hiding St
theorem zq6:typeLookup (.type "list_reverseiterator") "__len__" = pure none:=by rw [typeLookup_type,builtinLookup_eq_fast];kernel_rfl
theorem zpC:typeLookup (.type "list_reverseiterator") "__length_hint__" = pure (some (.builtin "list_reverseiterator.__length_hint__")):=by rw [typeLookup_type,builtinLookup_eq_fast];kernel_rfl
section
variable {prog:Program} {w:World} {A:Around} {s:Shared} {R:Result→Shared→Prop} {E:Value→Shared→Prop} {J:Addr} {fp wr:List Addr} {G:Array GenState→Array GenState→Prop} {n:Nat} {P:Nat→Value→Prop} {Sx:Nat→Shared→Prop}
theorem zq7 (V:WalksS prog w A.in1 J fp wr G n P Sx) (ht:∀ i q,Sx i q→q.TypeIs (.ref J) "list_reverseiterator") (L:Addr) (res:Value) (c:Nat) (h0:Sx 0 s) (hL:L∉fp) (hJ:J∈fp)
  (hl:s.heap.get? L=some { cls:=.type "list", data:=.seq #[] c })
  (k:∀ q acc d,Moved (L :: wr) G s q→q.heap.get? L=some { cls:=.type "list", dict:=none,data:=.seq acc d,slots:=#[] }→ItemsOf P acc n→R (.ok (.ret res)) q) (hn:n≤sizeLine) :
  wpAny (model prog w) A.in1 (Builtin.List.listExtendWith (.ref L) (.ref J) res)
   (fun f q=>match f with | .done g=>R (.ok g) q | .again g=>g.quiet=true∧codeAny (model prog w) A g R q) (fun e q=>R (.error e) q) s:=by
 have ne:L≠J:=fun e=>hL (e ▸ hJ)
 unfold Builtin.List.listExtendWith
 refine wpAny_bind (wpAny_typeOf (ht 0 _ h0) ?_)
 have e1:Builtin.List.listSameRef (.ref L) (.ref J)=false:=by simp [Builtin.List.listSameRef,ne]
 rw [if_neg (by rw [e1];decide)]
 refine wpAny_bind (V.self 0 _ _ _ h0 ?_)
 refine wpAny_bind (wpAny_holding ?_)
 unfold Builtin.List.listLengthHint
 refine wpAny_bind (wpAny_specialOf (ht 0 _ h0) zq6 ?_)
 show wpAny _ A.in1 (specialOf (Value.ref J) (Str.ofString "__length_hint__") >>= _) _ _ _
 refine wpAny_bind (wpAny_specialOf (ht 0 _ h0) zpC ?_)
 generalize hid:("list_reverseiterator.__length_hint__" : String)=iz
 wp_delta
 rw [show splitId iz=some ("list_reverseiterator", "__length_hint__") from by subst hid;decide +kernel]
 subst hid
 refine wpAny_bind (wpAny_isInstance (b:=true) (ht 0 _ h0) (by rw [isSubtype_type];kernel_rfl) ?_)
 refine wpAny_pure ?_
 rw [if_neg (by decide)]
 exact wpAny_pure ⟨plainId_quiet F.plain_extend_loop _,codeAny_extend_loopS V hn _ hL _ n 0 _ _ _ rfl (Nat.zero_le _) h0 hl (ItemsOf.nil P) fun q acc d m1 m2 m3=>k q acc d m1 m2 m3⟩
theorem zpB (V:WalksS prog w A.in1 J fp wr G n P Sx) (ht:∀ i q,Sx i q→q.TypeIs (.ref J) "list_reverseiterator") (L:Addr) (h0:Sx 0 s) (hL:L∉fp) (hJ:J∈fp)
  (hl:s.heap.get? L=some { cls:=.type "list", data:=.seq #[] })
  (k:∀ q acc d,Moved (L :: wr) G s q→q.heap.get? L=some { cls:=.type "list", dict:=none,data:=.seq acc d,slots:=#[] }→ItemsOf P acc n→R (.ok (.ret .none)) q) (hn:n≤sizeLine) :
  wpAny (model prog w) A.in1 (Builtin.«list.__init__» ⟨[.ref L,.ref J],[]⟩)
   (fun f q=>match f with | .done g=>R (.ok g) q | .again g=>g.quiet=true∧codeAny (model prog w) A g R q) (fun e q=>R (.error e) q) s:=by
 show wpAny _ A.in1 (Builtin.List.listItems (.ref L) >>= fun old=>Builtin.List.listUpdate (.ref L) (fun _=>#[]) >>= fun _=>letGo old.toList.reverse >>= fun _=>Builtin.List.listExtendWith (.ref L) (.ref J) .none) _ _ s
 unfold Builtin.List.listItems
 refine wpAny_bind (wpAny_bind (wpAny_seqItems hl rfl (wpAny_pure ?_)))
 show wpAny _ A.in1 (updateSeq L (fun _=>#[]) >>= fun _=>letGo (#[]:Array Value).toList.reverse >>= fun _=>Builtin.List.listExtendWith (.ref L) (.ref J) .none) _ _ s
 refine wpAny_bind (wpAny_updateSeq hl rfl ?_)
 have l2:=Heap.get?_update_self (Obj.mapSeq (fun _=>(#[]:Array Value))) hl rfl
 have ot:∀ b o,b≠L→s.heap.get? b=some o→(s.heap.update L (Obj.mapSeq (fun _=>(#[]:Array Value)))).get? b=some o:=fun b o hb e=>by rw [Heap.get?_update_other _ _ (Ne.symm hb)];exact e
 refine wpAny_bind (wpAny_letGo ?_)
 refine zq7 (hn:=hn) V ht L .none _ (V.frame 0 s _ s.toks h0 (Nat.le_refl _) fun b hb o e=>ot b o (fun q=>hL (q ▸ hb)) e) hL hJ l2 fun q acc d m1 m2 m3=>?_
 exact k q acc d (Moved.trans V.gtrans ((Moved.refl V.grefl).then_heap (Nat.le_refl _) fun b o hb e=>ot b o (fun q=>hb (q ▸ List.mem_cons_self)) e) m1) m2 m3
theorem zpA {Q:Value→Shared→Prop} (V:WalksS prog w A.in1.in1 J fp wr G n P Sx) (ht:∀ i q,Sx i q→q.TypeIs (.ref J) "list_reverseiterator") (h0:Sx 0 s) (hfp:∀ b∈fp,b < s.heap.objs.size) (hJ:J∈fp)
  (k:∀ q acc d,Moved (s.heap.objs.size :: wr) G { s with heap:=s.heap.push { cls:=.type "list", data:=.seq #[] } } q →
   q.heap.get? s.heap.objs.size=some { cls:=.type "list", dict:=none,data:=.seq acc d,slots:=#[] }→ItemsOf P acc n→Q (.ref s.heap.objs.size) q) (hn:n≤sizeLine) :
  wpAny (model prog w) A (call (.type "list") [.ref J]) Q E s:=by
 have hL:s.heap.objs.size∉fp:=fun m=>Nat.lt_irrefl _ (hfp _ m)
 refine callType_codes (Q₁:=fun ob t=>ob=.ref s.heap.objs.size∧t = { s with heap:=s.heap.push { cls:=.type "list", data:=.seq #[] } }) F.called_list (F.typeCall_list_1 _) F.entry_list_init
  (code_list_new _ ⟨rfl,rfl⟩) ?_
 rintro ob t ⟨rfl,rfl⟩
 have hl:(s.heap.push { cls:=.type "list", data:=.seq #[] }).get? s.heap.objs.size=some { cls:=.type "list", data:=.seq #[] }:=Heap.get?_push_size _ rfl
 refine ⟨⟨_,hl,rfl⟩,F.args_list_init_2 _ _,zpB (hn:=hn) V ht _ (V.frame 0 s _ s.toks h0 (Nat.le_refl _) fun b _ o e=>Heap.get?_push_of_some _ e) hL hJ hl fun q acc d m1 m2 m3=>?_⟩
 exact⟨rfl,k q acc d m1 m2 m3⟩
theorem zmb {its:List Value} {acc:Array Value} (h:ItemsOf (fun i v=>its.toArray[its.toArray.size - 1 - i]? = some v) acc its.toArray.size):acc=its.reverse.toArray:=by
 obtain⟨h1,h2⟩:=h
 have h1:acc.size=its.length:=h1
 apply Array.ext'
 rw [List.toList_toArray]
 refine List.ext_getElem? fun j=>?_
 by_cases hj:j < its.length
 ·have hj':j < acc.size:=by lia
  have e1:acc[j]? = some acc[j]:=Array.getElem?_eq_getElem hj'
  have e2:its.toArray[its.toArray.size - 1 - j]? = some acc[j]:=h2 j _ e1
  rw [Array.getElem?_toList,e1,List.getElem?_reverse hj]
  simpa using e2.symm
 ·rw [List.getElem?_eq_none (by rw [Array.length_toList];lia),List.getElem?_eq_none (by rw [List.length_reverse];lia)]
theorem zou (hh:A.handled=none) {l:Addr} {its:List Value} {Q:Value→Shared→Prop} (hl:s.heap.IsList l its.toArray) (hz:its.length≤sizeLine)
  (k:∀ (h':Heap) (c tk:Nat),(∀ b o,s.heap.get? b=some o→h'.get? b=some o)→h'.get? (s.heap.objs.size + 1)=some { cls:=.type "list", dict:=none,data:=.seq its.reverse.toArray c,slots:=#[] }→s.toks≤tk→Q (.ref (s.heap.objs.size + 1)) { s with heap:=h',toks:=tk }) :
  wpAny (model prog w) A (call (.type "list") [.ref s.heap.objs.size]) Q E { s with heap:=s.heap.push (revObj l ((its.toArray.size:Int) - 1)) }:=by
 obtain⟨ol,hol,_⟩:=id hl
 have ll:l < s.heap.objs.size:=Heap.lt_size hol
 have sz1:(s.heap.push (revObj l ((its.toArray.size:Int) - 1))).objs.size=s.heap.objs.size + 1:=by simp [Heap.push]
 have V:=(Walks.listRev (prog:=prog) (w:=w) (A:=A.in1.in1) hh s.heap.objs.size l (Nat.ne_of_lt ll) its.toArray).toS
 refine zpA (hn:=by rw [List.size_toArray];exact hz) V (fun i q x=>x.2.1.typeIs) ⟨Nat.zero_le _,⟨_,Heap.get?_push_size _ rfl,rfl,by show (revObj _ _).data=_;unfold revObj;simp⟩,hl.at fun o e=>Heap.get?_push_of_some _ e⟩ (fun b hb=>?_) (by simp) fun q acc d m1 m2 m3=>?_
 ·simp only [List.mem_cons,List.not_mem_nil,or_false] at hb
  show b < (s.heap.push (revObj l ((its.toArray.size:Int) - 1))).objs.size
  rw [sz1]
  rcases hb with q | q
  ·rw [q];exact Nat.lt_succ_self _
  ·rw [q];exact Nat.lt_succ_of_lt ll
 ·have e:q = { s with heap:=q.heap,toks:=q.toks }:=by
   have g1:=m1.gens
   have g2:=m1.drawn
   have g3:=m1.os
   cases q
   simp only at g1 g2 g3 ⊢
   subst g1;subst g2;subst g3
   rfl
  have sz2:({ s with heap:=s.heap.push (revObj l ((its.toArray.size:Int) - 1)) }:Shared).heap.objs.size=s.heap.objs.size + 1:=sz1
  rw [sz2] at m1 m2 ⊢
  rw [zmb m3] at m2
  rw [e]
  refine k q.heap d q.toks (fun b o hb=>?_) m2 m1.toks
  have hb':=Heap.lt_size hb
  exact m1.heap b o (fun q=>by
   simp only [List.mem_cons,List.not_mem_nil,or_false] at q
   rcases q with q | q
   ·rw [q] at hb';exact Nat.not_lt.mpr (Nat.le_succ _) hb'
   ·rw [q] at hb';exact Nat.lt_irrefl _ hb') (Heap.get?_push_of_some _ (Heap.get?_push_of_some _ hb))
end
section
variable {X:Cx} {z:Z} {md md1:Md} {F:VEnv→Res T} {e:Expr} {p1 p2 p3 p4:Pos}
def tRev (K:PySem.W.Frag) (t:TE):TE:=fun σ H Q=>t σ H fun v H1=>∃ a ys,v=.ref a∧SqL K H1 a ys∧∀ l,H1 l=none→Q (.ref l) (upd H1 l (.lst ys.reverse))
theorem zlH:∀ {vs:List V} {us:List Value},Vals vs us→Vals vs.reverse us.reverse:=fun {vs us} h=>by
 induction h with
 | nil=>exact .nil
 | cons a b ih =>
  rw [List.reverse_cons,List.reverse_cons]
  exact Vals.append ih (.cons a .nil)
theorem zlh {t:TE} (hc:X.calm=true) (hg:Gl X "list") (hm:X.mg "list" = none) (hg2:Gl X "reversed") (hm2:X.mg "reversed" = none) (he:PE X e t)
  (s1:starEach [.Call (.Name "reversed" p1) [e] [] p2] X.env=[(false,eval (.Call (.Name "reversed" p1) [e] [] p2) X.env)]:=by rfl) (s2:starEach [e] X.env=[(false,eval e X.env)]:=by rfl) :
  PE X (.Call (.Name "list" p3) [.Call (.Name "reversed" p1) [e] [] p2] [] p4) (tRev X.K t):=by
 intro pins s σ H Q I h
 refine Call_ (zdl I hg hm boot_list (callWith_type1 ?_ s1 rfl))
 rw [s1]
 show wpAny _ _ (spliced ((false,eval (.Call (.Name "reversed" p1) [e] [] p2) X.env) :: backTo p4 [])) _ _ s
 refine Calls.spliced_cons (Call_ (zdl I hg2 hm2 boot_reversed (callWith_type1 ?_ s2 rfl)))
 rw [s2]
 show wpAny _ _ (spliced ((false,eval e X.env) :: backTo p2 [])) _ _ s
 refine Calls.spliced_cons (thn (he pins s σ H _ I h) fun u s1 ⟨x,H1,I1,r1,a,ys,ex,hq,q⟩=>Calls.spliced_nil ?_)
 subst ex
 cases r1
 obtain⟨its,r',pl,hz⟩:=I1.list hq
 have hl:=r'.length
 refine call_reversed_list pl.isList (Calls.spliced_nil ?_)
 refine zou (I1.ok.hd hc) pl.isList (by lia) fun h' c tk kp hn ht=>?_
 exact⟨.ref _,_,I1.laid (t':=tk) (o:=.lst ys.reverse) kp (Nat.le_succ _) ⟨by rw [List.length_reverse];exact hz,its.reverse,c,zlH r',hn⟩,rfl,q _ (I1.hok.fresh (Nat.le_succ _))⟩
theorem zgu (hc:X.calm=true) (hg:Gl X "list") (hm:X.mg "list" = none) (hg2:Gl X "reversed") (hm2:X.mg "reversed" = none) (he:JE X z md1 F e)
  (s1:starEach [.Call (.Name "reversed" p1) [e] [] p2] X.env=[(false,eval (.Call (.Name "reversed" p1) [e] [] p2) X.env)]:=by rfl) (s2:starEach [e] X.env=[(false,eval e X.env)]:=by rfl) :
  JE X z md (eRev md F) (.Call (.Name "list" p3) [.Call (.Name "reversed" p1) [e] [] p2] [] p4):=
 PE.imp (zlh hc hg hm hg2 hm2 (JE.al he) s1 s2) fun σ H Q h=>zeD h fun S ρ t v H1 S1 o _ g1 d q=>by
  cases t with
  | lst ts =>
   obtain⟨_,a,vs,rfl,hS,h1,h2⟩:=zah.mp d
   exact⟨a,vs,rfl,.of h1,zdW g1.dom h2.reverse (zfN (z:=z) q)⟩
  | sc _=>exact (show False from q).elim
  | scr _=>exact (show False from q).elim
  | tup _=>exact (show False from q).elim
end
end TL
namespace TL
open PySem PySem.Spec L2
open PyProof.Rows hiding St
section
variable {X:Cx} {z:Z} {md md1:Md} {F:VEnv→Res T} {Fs:VEnv→Res (List T)} {e:Expr} {es:List Expr} {p pos:Pos} {i n:Nat} {K:PySem.W.Frag}
end
noncomputable def asS:T→Option (List T)
 | .lst ts=>some ts
 | .tup ts=>some ts
 | _=>none
@[simp] theorem ztG (ts:List T):asS (.lst ts)=some ts:=rfl
@[simp] theorem ztF (ts:List T):asS (.tup ts)=some ts:=rfl
noncomputable def iSeq (F:VEnv→Res T):VEnv→Res (List T):=fun ρ=>(F ρ).bind fun t=>.of (asS t)
section
variable {X:Cx} {z:Z} {md:Md} {F:VEnv→Res T} {e tg:Expr}
def zqf (K:PySem.W.Frag) (tl:TE):TI:=fun σ H R=>tl σ H fun x H1=>∃ a,x=.ref a∧(((∃ xs,SqL K H1 a xs)∧R (Itl K a) H1)∨((∃ xs,SqT K H1 a xs)∧R (Itt K a) H1))
theorem zmm {l:Expr} {tl:TE} (hl:PE X l tl):PI X tg l (zqf X.K tl):=by
 intro pins s σ H R I h
 refine thn (hl pins s σ H _ I h) ?_
 rintro v s1 ⟨x,H1,I1,r1,a,rfl,q1⟩
 cases r1
 have fin:∀ b∈[s1.heap.objs.size],_:=fun b hb=>by
  obtain rfl:b=s1.heap.objs.size:=by simpa using hb
  exact I1.fpOk (Nat.le_refl _) (I1.hok.fresh (Nat.le_refl _))
 rcases q1 with ⟨⟨xs,hq⟩,q⟩ | ⟨⟨xs,hq⟩,q⟩
 ·obtain⟨its,rv,pl,_⟩:=I1.list hq
  refine wpAny_pyIter_list pl.isList ?_
  exact⟨_,[s1.heap.objs.size],_,_,H1,rfl,I1.kept (t':=s1.toks) fun b o w=>Heap.get?_push_of_some _ w,zhz a _,⟨_,Heap.get?_push_size _ rfl,rfl,rfl⟩,fin,q⟩
 ·obtain⟨its,rv,pl,_⟩:=I1.tuple hq
  have pt:s1.heap.IsTuple a its.toArray:=pl
  refine wpAny_pyIter_tuple pt ?_
  exact⟨_,[s1.heap.objs.size],_,_,H1,rfl,I1.kept (t':=s1.toks) fun b o w=>Heap.get?_push_of_some _ w,zk2 a _,⟨_,Heap.get?_push_size _ rfl,rfl,rfl⟩,fin,q⟩
theorem zp9 {K:PySem.W.Frag} {H:Hp} {S:Addr→Prop} {a:Addr} {vs:List V} {ts:List T} (hH:SqT K H a vs) (d:Dens K H S ts .al [] vs):JOk K (Itt K a) H S ts:=by
 refine ⟨fun H2 S2 s _ i t e=>?_,fun H2 S2 s _=>⟨vs,s.frm.tups _ _ hH,by rw [d.length];exact Nat.le_refl _⟩⟩
 have h2:SqT K H2 a vs:=s.frm.tups _ _ hH
 obtain⟨v,h3,h4⟩:=(s.dens d).get e
 refine ⟨⟨vs,v,h2,h3⟩,fun x H3 y=>?_⟩
 obtain⟨rfl,y⟩:=y
 have:=y vs h2
 rw [h3] at this
 cases this
 exact⟨.refl (by assumption),h4⟩
theorem zrP (h:JE X z md F e):JI X z tg (iSeq F) e:=PI.imp (zmm (JE.al h)) fun σ H R q=>by
 obtain⟨S,ρ,o,q⟩:=q
 refine ⟨S,ρ,o,?_⟩
 unfold iSeq at q
 try dsimp only at q
 cases e:F ρ with
 | exc c=>rw [e] at q;exact q
 | bad=>rw [e] at q;exact q
 | ok t =>
  rw [e,Res.bind_ok] at q
  intro v H' S' A g
  obtain rfl:=g.den.alA
  cases t with
  | sc _=>exact (show False from q).elim
  | scr _=>exact (show False from q).elim
  | lst ts =>
   obtain⟨_,a,vs,rfl,h1,h2,h3⟩:=zah.mp g.den
   exact⟨a,rfl,.inl ⟨⟨vs,.of h2⟩,q _ H' S' g.g (zkp h1 h2 h3)⟩⟩
  | tup ts =>
   obtain⟨_,a,vs,rfl,h2,h3⟩:=zao.mp g.den
   exact⟨a,rfl,.inr ⟨⟨vs,h2⟩,q _ H' S' g.g (zp9 h2 h3)⟩⟩
end
end TL
namespace TL
open PySem PySem.Spec L2
open PyProof.Rows hiding St
open PySem.SeqAt
open PySem.AutoSeq1 (wpAny_loadPart')
open PySem.MeetsSeq PySem.MeetsSeq2 PySem.MeetsSeq3
def LtAt (A:Around) (s:Shared) (x y:Value) (b:Bool):Prop:=∀ (prog:Program) (w:World) (E:Value→Shared→Prop) (Q:Value→Shared→Prop),Q (.bool b) s→wpAny (model prog w) A (richCompare .Lt x y) Q E s
noncomputable def lx (e r:Nat→Bool):List Nat→Bool
 | []=>false
 | j :: js=>if e j=true then lx e r js else r j
theorem zp2 (l b:Addr) (xs ys:Array Value) (n n2:Nat) (dd dd2:Option Addr) (sl sl2:Array (Option Value)) (hz:xs.size=ys.size) (e r:Nat→Bool) (k:Nat) :
  ∀ i:Nat,xs.size - i=k→Meets (Builtin.«list.__eq__.loop» ⟨[.ref l,.ref b,rawInt i,rawInt 0],[]⟩)
   (fun A R s=>(s.heap.get? l=some { cls:=.type "list", dict:=dd,data:=.seq xs n,slots:=sl }∧s.heap.get? b=some { cls:=.type "list", dict:=dd2,data:=.seq ys n2,slots:=sl2 }) ∧
    ((∀ j (h1:j < xs.size) (h2:j < ys.size),EqAt A.in1 s xs[j] ys[j] (e j))∧∀ j (h1:j < xs.size) (h2:j < ys.size),e j=false→LtAt A.in1 s xs[j] ys[j] (r j)) ∧
    R (.ok (.ret (.bool (lx e r ((List.range xs.size).drop i))))) s):=by
 induction k with
 | zero =>
  intro i hk prog w A R s h
  obtain⟨hp,g,d,tk,os⟩:=s;obtain⟨⟨hl,hb⟩,he,h⟩:=h
  wp_walk using wpAny_loadPart' hl,wpAny_loadPart' hb
  have i1:xs[((i:Nat):Int).toNat]? = none:=by simp;lia
  have i2:ys[((i:Nat):Int).toNat]? = none:=by simp;lia
  rw [show (List.range xs.size).drop i=[] by simp;lia] at h
  rw [i1,i2]
  wp_walk using wpAny_loadPart' hl,wpAny_loadPart' hb
  show R (.ok (.ret (.bool (decide (xs.size < ys.size))))) _
  rw [hz,decide_eq_false (Nat.lt_irrefl _)]
  exact h
 | succ k ih =>
  intro i hk prog w A R s h
  obtain⟨hp,g,d,tk,os⟩:=s;obtain⟨⟨hl,hb⟩,⟨he,hr⟩,h⟩:=h
  wp_walk using wpAny_loadPart' hl,wpAny_loadPart' hb
  have l1:i < xs.size:=by lia
  have l2:i < ys.size:=by lia
  have i1:xs[((i:Nat):Int).toNat]? = some xs[i]:=by simp [l1]
  have i2:ys[((i:Nat):Int).toNat]? = some ys[i]:=by simp [l2]
  have hd:(List.range xs.size).drop i=i :: (List.range xs.size).drop (i + 1):=by simp [List.drop_eq_getElem_cons,l1]
  rw [hd] at h
  unfold lx at h
  rw [i1,i2]
  refine wpAny_bind (he i l1 l2 prog w _ _ ?_)
  cases q:e i with
  | true =>
   rw [q,if_pos rfl] at h
   wp_walk
   rw [show ((i:Int) + 1)=((i + 1:Nat):Int) by push_cast;rfl]
   refine ⟨plainId_quiet plain_eq_loop _,codeAny_builtin entry_eq_loop ?_⟩
   rw [Around.under_plainId plain_eq_loop _]
   exact ih (i + 1) (by lia) prog w A R _ ⟨⟨hl,hb⟩,⟨he,hr⟩,h⟩
  | false =>
   rw [q,if_neg Bool.false_ne_true] at h
   wp_walk using wpAny_loadPart' hl,wpAny_loadPart' hb
   rw [i1,i2]
   have hri:=hr i l1 l2 q prog w
   wp_walk using hri
   exact h
theorem zmP (l b:Addr) (xs ys:Array Value) (n n2:Nat) (dd dd2:Option Addr) (sl sl2:Array (Option Value)) (hz:xs.size=ys.size) (e r:Nat→Bool) :
  Meets (Builtin.«list.__lt__» ⟨[.ref l,.ref b],[]⟩)
   (fun A R s=>(s.heap.get? l=some { cls:=.type "list", dict:=dd,data:=.seq xs n,slots:=sl }∧s.heap.get? b=some { cls:=.type "list", dict:=dd2,data:=.seq ys n2,slots:=sl2 }) ∧
    ((∀ j (h1:j < xs.size) (h2:j < ys.size),EqAt A.in1 s xs[j] ys[j] (e j))∧∀ j (h1:j < xs.size) (h2:j < ys.size),e j=false→LtAt A.in1 s xs[j] ys[j] (r j)) ∧
    R (.ok (.ret (.bool (lx e r (List.range xs.size))))) s):=by
 intro prog w A R s h
 obtain⟨hp,g,d,tk,os⟩:=s;obtain⟨⟨hl,hb⟩,he,h⟩:=h
 have f3:=AutoSeq1.sub_list_list
 wp_walk using wpAny_loadPart' hl,wpAny_loadPart' hb
 refine ⟨plainId_quiet plain_eq_loop _,codeAny_builtin entry_eq_loop ?_⟩
 rw [Around.under_plainId plain_eq_loop _]
 exact zp2 l b xs ys n n2 dd dd2 sl sl2 hz e r _ 0 rfl prog w A R _ ⟨⟨hl,hb⟩,he,h⟩
theorem LtAt.lists {A:Around} {s:Shared} {l b:Addr} {xs ys:Array Value} {e r:Nat→Bool} (hl:s.heap.IsList l xs) (hb:s.heap.IsList b ys) (hz:xs.size=ys.size) (hu:A.units < cLine)
  (he:∀ j (h1:j < xs.size) (h2:j < ys.size),EqAt A.in1 s xs[j] ys[j] (e j)) (hr:∀ j (h1:j < xs.size) (h2:j < ys.size),e j=false→LtAt A.in1 s xs[j] ys[j] (r j)):LtAt A s (.ref l) (.ref b) (lx e r (List.range xs.size)):=fun prog w E Q h=>by
 obtain⟨⟨cls,dd,data,sl⟩,ho,hc,n,hd⟩:=id hl
 obtain⟨⟨cls2,dd2,data2,sl2⟩,ho2,hc2,n2,hd2⟩:=id hb
 simp only at hc hd hc2 hd2
 subst hc hd hc2 hd2
 exact richCompare_meets_room (op:=.Lt) ⟨_,ho,rfl⟩ ⟨_,ho2,rfl⟩ PySem.F.slot_list_lt PySem.F.entry_list_lt (PySem.F.args_list_lt_2 _ _) (zmP l b xs ys n n2 dd dd2 sl sl2 hz e r)
  ⟨⟨ho,ho2⟩,⟨he,hr⟩,show Value.bool (lx e r (List.range xs.size))≠Value.notImplemented∧Q (.bool (lx e r (List.range xs.size))) s from ⟨(fun x=>nomatch x),h⟩⟩ hu
theorem LtAt.ints (A:Around) (s:Shared) (a c:Int) (t u:Tok):LtAt A s (.int a t) (.int c u) (decide (a < c)):=fun prog w E Q h=>HT.rcLt_int A s a t c u prog w E Q h
end TL
namespace TL
open PySem PySem.Spec L2
open PyProof.Rows hiding St
open PySem.SeqAt
section
variable {α:Type} {lt:α→α→Bool} (ir:∀ a,lt a a=false) (tr:∀ a b c,lt a b=true→lt b c=true→lt a c=true) (tot:∀ a b,lt a b=false→lt b a=false→a=b)
open Classical in
noncomputable def lxF (lt:α→α→Bool) (x y:Nat→α) (js:List Nat):Bool:=lx (fun j=>decide (x j=y j)) (fun j=>lt (x j) (y j)) js
include ir in
theorem zeJ (x:Nat→α):∀ js,lxF lt x x js=false
 | []=>rfl
 | j :: js=>by unfold lxF lx;rw [if_pos (by simp)];exact zeJ x js
include tot in
theorem zmI (x y:Nat→α):∀ js,lxF lt x y js=false→lxF lt y x js=false→∀ j∈js,x j=y j
 | [],_,_,j,h=>nomatch h
 | i :: js,h1,h2,j,hj=>by
  unfold lxF lx at h1 h2
  by_cases e:x i=y i
  ·rw [if_pos (by simp [e])] at h1 h2
   rcases List.mem_cons.mp hj with rfl | hj
   ·exact e
   ·exact zmI x y js h1 h2 j hj
  ·rw [if_neg (by simp [e])] at h1
   rw [if_neg (by simp [Ne.symm e])] at h2
   exact absurd (tot _ _ h1 h2) e
include ir tr in
theorem zfB (x y z:Nat→α):∀ js,lxF lt x y js=true→lxF lt y z js=true→lxF lt x z js=true
 | [],h,_=>nomatch h
 | i :: js,h1,h2=>by
  unfold lxF lx at h1 h2 ⊢
  by_cases e:x i=y i
  ·rw [if_pos (by simp [e])] at h1
   by_cases e2:y i=z i
   ·rw [if_pos (by simp [e2])] at h2
    rw [if_pos (by simp [e,e2])]
    exact zfB x y z js h1 h2
   ·rw [if_neg (by simp [e2])] at h2
    rw [if_neg (by simp [e,e2]),e]
    exact h2
  ·rw [if_neg (by simp [e])] at h1
   by_cases e2:y i=z i
   ·rw [if_neg (by simp [← e2,e]),← e2]
    exact h1
   ·rw [if_neg (by simp [e2])] at h2
    have h3:=tr _ _ _ h1 h2
    have e3:¬ x i=z i:=fun q=>by rw [q,ir] at h3;cases h3
    rw [if_neg (by simp [e3])]
    exact h3
end
theorem zg8 {e e' r r':Nat→Bool}:∀ {js:List Nat},(∀ j∈js,e j=e' j∧r j=r' j)→lx e r js=lx e' r' js
 | [],_=>rfl
 | j :: js,h=>by
  unfold lx
  obtain⟨h1,h2⟩:=h j (by simp)
  rw [h1,h2,zg8 fun i hi=>h i (by simp [hi])]
section
variable {β:Type} (lt:β→β→Bool)
noncomputable def rnk (bs:List β) (b:β):Nat:=(bs.filter fun x=>lt x b).length
variable {lt} (ir:∀ a,lt a a=false) (tr:∀ a b c,lt a b=true→lt b c=true→lt a c=true) (D:β→Prop) (tot:∀ a b,D a→D b→lt a b=false→lt b a=false→a=b)
include tr in
theorem zl7 {a b:β} (h:lt a b=true):∀ bs:List β,rnk lt bs a≤rnk lt bs b
 | []=>Nat.le_refl _
 | x :: bs=>by
  have ih:=zl7 h bs
  unfold rnk at *
  rw [List.filter_cons,List.filter_cons]
  by_cases q:lt x a=true
  ·rw [if_pos q,if_pos (tr _ _ _ q h)];simpa using ih
  ·rw [if_neg q]
   by_cases q2:lt x b=true
   ·rw [if_pos q2];exact Nat.le_succ_of_le ih
   ·rw [if_neg q2];exact ih
include ir tr in
theorem zoO {a b:β} (h:lt a b=true):∀ bs:List β,a∈bs→rnk lt bs a < rnk lt bs b
 | [],m=>nomatch m
 | x :: bs,m=>by
  have le:=zl7 (lt:=lt) tr h bs
  have e1:rnk lt (x :: bs) a=(if lt x a=true then 1 else 0) + rnk lt bs a:=by unfold rnk;rw [List.filter_cons];split <;> simp <;> lia
  have e2:rnk lt (x :: bs) b=(if lt x b=true then 1 else 0) + rnk lt bs b:=by unfold rnk;rw [List.filter_cons];split <;> simp <;> lia
  rw [e1,e2]
  rcases List.mem_cons.mp m with rfl | m
  ·rw [ir,h,if_neg Bool.false_ne_true,if_pos rfl];lia
  ·have ih:=zoO h bs m
   by_cases q:lt x a=true
   ·rw [if_pos q,if_pos (tr _ _ _ q h)];lia
   ·rw [if_neg q];split <;> lia
include ir tr tot in
theorem zgZ {bs:List β} (hD:∀ b∈bs,D b) {a b:β} (ha:a∈bs) (hb:b∈bs):decide ((rnk lt bs a:Int) < rnk lt bs b)=lt a b:=by
 cases h:lt a b with
 | true=>exact decide_eq_true (by have:=zoO ir tr h bs ha;lia)
 | false =>
  refine decide_eq_false fun q=>?_
  cases h2:lt b a with
  | true=>have:=zl7 tr h2 bs;lia
  | false=>rw [tot a b (hD a ha) (hD b hb) h h2] at q;lia
include ir tr tot in
theorem zpD {bs:List β} (hD:∀ b∈bs,D b) {a b:β} (ha:a∈bs) (hb:b∈bs) (e:rnk lt bs a=rnk lt bs b):a=b:=by
 refine tot a b (hD a ha) (hD b hb) ?_ ?_
 ·rw [← zgZ ir tr D tot hD ha hb,e];simp
 ·rw [← zgZ ir tr D tot hD hb ha,e];simp
end
noncomputable def ltR (n:Nat) (x y:List Int):Bool:=lx (fun j=>decide (x.getD j 0=y.getD j 0)) (fun j=>decide (x.getD j 0 < y.getD j 0)) (List.range n)
noncomputable def ltB (n:Nat) (x y:List (List Int)):Bool:=lx (fun j=>decide (x.getD j []=y.getD j [])) (fun j=>ltR n (x.getD j []) (y.getD j [])) (List.range n)
def Shp (n:Nat) (b:List (List Int)):Prop:=b.length=n∧∀ r∈b,r.length=n
theorem zmJ (n:Nat) (x y:List Int):ltR n x y=lxF (fun a b:Int=>decide (a < b)) (fun j=>x.getD j 0) (fun j=>y.getD j 0) (List.range n):=zg8 fun j _=>⟨by congr,rfl⟩
theorem zo4 (a:Int):decide (a < a)=false:=by simp
theorem zrF (a b c:Int) (h1:decide (a < b)=true) (h2:decide (b < c)=true):decide (a < c)=true:=by simp at *;lia
theorem zp4 (a b:Int) (h1:decide (a < b)=false) (h2:decide (b < a)=false):a=b:=by simp at *;lia
theorem zo3 (n:Nat) (x:List Int):ltR n x x=false:=by rw [zmJ];exact zeJ zo4 _ _
theorem zrE (n:Nat) (x y z:List Int) (h1:ltR n x y=true) (h2:ltR n y z=true):ltR n x z=true:=by rw [zmJ] at *;exact zfB zo4 zrF _ _ _ _ h1 h2
theorem zp3 {n:Nat} {x y:List Int} (hx:x.length=n) (hy:y.length=n) (h1:ltR n x y=false) (h2:ltR n y x=false):x=y:=by
 rw [zmJ] at *
 have:=zmI zp4 _ _ _ h1 h2
 refine List.ext_getElem (by rw [hx,hy]) fun j p q=>?_
 have:=this j (List.mem_range.mpr (by lia))
 simpa [List.getD,p,q] using this
theorem zo5 (n:Nat) (x y:List (List Int)):ltB n x y=lxF (ltR n) (fun j=>x.getD j []) (fun j=>y.getD j []) (List.range n):=zg8 fun j _=>⟨by congr,rfl⟩
theorem zmM (n:Nat) (x:List (List Int)):ltB n x x=false:=by rw [zo5];exact zeJ (zo3 n) _ _
theorem zmK (n:Nat) (x y z:List (List Int)) (h1:ltB n x y=true) (h2:ltB n y z=true):ltB n x z=true:=by rw [zo5] at *;exact zfB (zo3 n) (zrE n) _ _ _ _ h1 h2
theorem zmL {n:Nat} (x y:List (List Int)) (hx:Shp n x) (hy:Shp n y) (h1:ltB n x y=false) (h2:ltB n y x=false):x=y:=by
 have key:∀ js:List Nat,(∀ j∈js,j < n)→lx (fun j=>decide (x.getD j []=y.getD j [])) (fun j=>ltR n (x.getD j []) (y.getD j [])) js=false→lx (fun j=>decide (y.getD j []=x.getD j [])) (fun j=>ltR n (y.getD j []) (x.getD j [])) js=false→∀ j∈js,x.getD j []=y.getD j []:=by
  intro js
  induction js with
  | nil=>intro _ _ _ j hj;cases hj
  | cons i js ih =>
   intro hlt a b j hj
   unfold lx at a b
   have hi:=hlt i (by simp)
   by_cases e:x.getD i []=y.getD i []
   ·rw [if_pos (by simpa using e)] at a
    rw [if_pos (by simpa using e.symm)] at b
    rcases List.mem_cons.mp hj with rfl | hj
    ·exact e
    ·exact ih (fun k hk=>hlt k (by simp [hk])) a b j hj
   ·rw [if_neg (by simpa using e)] at a
    rw [if_neg (by simpa using Ne.symm e)] at b
    have lx':i < x.length:=by rw [hx.1];exact hi
    have ly':i < y.length:=by rw [hy.1];exact hi
    have e1:(x.getD i []).length=n:=by simp [List.getD,lx'];exact hx.2 _ (List.getElem_mem lx')
    have e2:(y.getD i []).length=n:=by simp [List.getD,ly'];exact hy.2 _ (List.getElem_mem ly')
    exact absurd (zp3 e1 e2 a b) e
 have:=key (List.range n) (fun j hj=>List.mem_range.mp hj) h1 h2
 refine List.ext_getElem (by rw [hx.1,hy.1]) fun j p q=>?_
 have:=this j (List.mem_range.mpr (by rw [← hx.1];exact p))
 simpa [List.getD,p,q] using this
noncomputable def insB (n:Nat) (b:List (List Int)):List (List (List Int))→List (List (List Int))
 | []=>[b]
 | c :: cs=>if ltB n c b=true then c :: insB n b cs else b :: c :: cs
noncomputable def zee (n:Nat):List (List (List Int))→List (List (List Int))
 | []=>[]
 | b :: bs=>insB n b (zee n bs)
theorem zfH (n:Nat) (b:List (List Int)):∀ cs,(insB n b cs).Perm (b :: cs)
 | []=>.refl _
 | c :: cs=>by
  unfold insB;split
  ·exact ((zfH n b cs).cons c).trans (.swap b c cs)
  ·exact .refl _
theorem zcB (n:Nat):∀ bs,(zee n bs).Perm bs
 | []=>.refl _
 | b :: bs=>(zfH n b _).trans ((zcB n bs).cons b)
theorem zeW {n:Nat} {all:List (List (List Int))} (hD:∀ b∈all,Shp n b):∀ bs,(∀ b∈bs,b∈all)→(zee n bs).Pairwise fun a b=>rnk (ltB n) all a≤rnk (ltB n) all b
 | [],_=>.nil
 | b :: bs,hs=>by
  have ih:=zeW hD bs fun c hc=>hs c (by simp [hc])
  have hb:=hs b (by simp)
  have hm:∀ c∈zee n bs,c∈all:=fun c hc=>hs c (by simp [(zcB n bs).mem_iff.mp hc])
  show (insB n b (zee n bs)).Pairwise _
  generalize zee n bs=cs at ih hm
  induction cs with
  | nil=>exact List.pairwise_singleton ..
  | cons c cs ihc =>
   have R:=@zgZ _ _ (zmM n) (zmK n) (Shp n) (fun a b=>zmL a b) all hD
   obtain⟨p1,p2⟩:=List.pairwise_cons.mp ih
   unfold insB;split
   ·rename_i q
    refine List.pairwise_cons.mpr ⟨fun d hd=>?_,ihc p2 fun c hc=>hm c (by simp [hc])⟩
    rcases List.mem_cons.mp ((zfH n b cs).mem_iff.mp hd) with rfl | hd
    ·have:=R (hm c (by simp)) hb
     rw [q] at this
     have:=of_decide_eq_true this
     lia
    ·exact p1 d hd
   ·rename_i q
    have:=R (hm c (by simp)) hb
    rw [Bool.eq_false_iff.mpr q] at this
    have:=of_decide_eq_false this
    refine List.pairwise_cons.mpr ⟨fun d hd=>?_,ih⟩
    rcases List.mem_cons.mp hd with rfl | hd
    ·lia
    ·have:=p1 d hd;lia
noncomputable def zdr:List T→Option (List (List Int))
 | []=>some []
 | .lst ts :: us=>(za3 ts).bind fun r=>(zdr us).map (r :: ·)
 | _=>none
noncomputable def ze8:List T→Option (List (List (List Int)))
 | []=>some []
 | .lst ts :: us=>(zdr ts).bind fun b=>(ze8 us).map (b :: ·)
 | _=>none
noncomputable def bdT (b:List (List Int)):T:=.lst (b.map fun r=>.lst (zad r))
theorem zkT:∀ {ts:List T} {b:List (List Int)},zdr ts=some b→ts=b.map fun r=>.lst (zad r)
 | [],b,h=>by unfold zdr at h;cases h;rfl
 | t :: us,b,h=>by
  cases t with
  | lst ts =>
   unfold zdr at h
   cases e1:za3 ts with
   | none=>rw [e1] at h;cases h
   | some r =>
    cases e2:zdr us with
    | none=>rw [e1,e2] at h;cases h
    | some c =>
     rw [e1,e2] at h
     cases h
     rw [zkV e1,zkT e2];rfl
  | _=>unfold zdr at h;cases h
theorem znG:∀ {ts:List T} {bs:List (List (List Int))},ze8 ts=some bs→ts=bs.map bdT
 | [],b,h=>by unfold ze8 at h;cases h;rfl
 | t :: us,b,h=>by
  cases t with
  | lst ts =>
   unfold ze8 at h
   cases e1:zdr ts with
   | none=>rw [e1] at h;cases h
   | some r =>
    cases e2:ze8 us with
    | none=>rw [e1,e2] at h;cases h
    | some c =>
     rw [e1,e2] at h
     cases h
     rw [zkT e1,znG e2];rfl
  | _=>unfold ze8 at h;cases h
noncomputable def zgG:List T→Option T
 | [.lst ts]=>(ze8 ts).bind fun bs=>if bs.all (fun b=>b.length == (bs.headD []).length && b.all fun r=>r.length == (bs.headD []).length)=true then some (.lst ((zee (bs.headD []).length bs).map bdT)) else none
 | _=>none
section
variable {prog:Program} {w:World} {A:Around} {E:Value→Shared→Prop} {s:Shared}
theorem ziV {l b:Addr} {xs ys:Array Value} {e r:Nat→Bool} {Q:Bool→Shared→Prop} (hl:s.heap.IsList l xs) (hb:s.heap.IsList b ys) (hz:xs.size=ys.size) (hu:A.units < cLine)
  (he:∀ j (h1:j < xs.size) (h2:j < ys.size),EqAt A.in1 s xs[j] ys[j] (e j)) (hr:∀ j (h1:j < xs.size) (h2:j < ys.size),e j=false→LtAt A.in1 s xs[j] ys[j] (r j)) (h:Q (lx e r (List.range xs.size)) s) :
  wpAny (model prog w) A (oneLt' true (.ref l) (.ref b)) Q E s:=by
 obtain⟨⟨cls,dd,data,sl⟩,ho,hc,n,hd⟩:=id hl
 obtain⟨⟨cls2,dd2,data2,sl2⟩,ho2,hc2,n2,hd2⟩:=id hb
 simp only at hc hd hc2 hd2
 subst hc hd hc2 hd2
 rw [oneLt'_eq]
 simp only [if_true]
 refine wpAny_bind (wpAny_cRoomFor hu ?_)
 refine wpAny_bind (wpAny_callSpecialIfBound?_slot ⟨_,ho,rfl⟩ PySem.F.slot_list_lt (call_meets PySem.F.slot_list_lt ⟨_,ho,rfl⟩ PySem.F.entry_list_lt (PySem.F.args_list_lt_2 _ _) (zmP l b xs ys n n2 dd dd2 sl sl2 hz e r) ⟨⟨ho,ho2⟩,⟨he,hr⟩,?_⟩))
 exact wpAny_truthy_bool h
end
section
variable {X:Cx} {pins:List (Addr×Obj)} {σ:St} {H:Hp} {s:Shared} {S:Addr→Prop}
def Dn (K:PySem.W.Frag) (H:Hp) (S:Addr→Prop) (v:Value) (b:List (List Int)):Prop:=∃ x,RelV x v∧Den K H S (bdT b) .al [] x
theorem zoX (b:List (List Int)):okT 2 (bdT b)=true:=by unfold bdT okT;simp [okT,zad,zdH]
theorem zmu (r:List Int):okT 1 (.lst (zad r))=true:=by unfold okT;simp [okT,zad,zdH]
theorem zia:∀ {a b:List Int},zad a=zad b→a=b
 | [],[],_=>rfl
 | [],_ :: _,h=>by cases h
 | _ :: _,[],h=>by cases h
 | x :: a,y :: b,h=>by
  unfold zad at h
  rw [List.map_cons,List.map_cons] at h
  injection h with h1 h2
  injection h1 with h1
  injection h1 with h1
  rw [h1,zia (a:=a) (b:=b) h2]
theorem zqq {a b:List (List Int)} (h:bdT a=bdT b):a=b:=by
 unfold bdT at h
 injection h with h
 induction a generalizing b with
 | nil=>cases b with
  | nil=>rfl
  | cons _ _=>cases h
 | cons r a ih=>cases b with
  | nil=>cases h
  | cons q b =>
   rw [List.map_cons,List.map_cons] at h
   injection h with h1 h2
   injection h1 with h1
   rw [zia h1,ih h2]
theorem Dn.uniq (I:Inv X pins σ H s) {v:Value} {a b:List (List Int)} (h1:Dn X.K H S v a) (h2:Dn X.K H S v b):a=b:=by
 obtain⟨x,r1,d1⟩:=h1
 obtain⟨y,r2,d2⟩:=h2
 obtain⟨_,p,vs,rfl,_⟩:=zah.mp d1
 obtain⟨_,q,ws,rfl,_⟩:=zah.mp d2
 cases r1
 cases r2
 exact zqq (zjl I 2 _ _ _ (zoX a) (zoX b) d1 d2)
theorem zgz:∀ a b:List Int,eqTs (zad a) (zad b)=decide (a=b)
 | [],[]=>by unfold eqTs;rfl
 | [],b :: bs=>by unfold eqTs;rfl
 | a :: as,[]=>by unfold eqTs;rfl
 | a :: as,b :: bs=>by
  show eqTs (.sc (.int a) :: zad as) (.sc (.int b) :: zad bs)=_
  unfold eqTs;rw [zgz as bs]
  have:eqT (.sc (.int a)) (.sc (.int b))=decide (a=b):=by unfold eqT eqV;by_cases h:a=b <;> simp [h]
  rw [this]
  by_cases h1:a=b <;> by_cases h2:as=bs <;> simp [h1,h2]
theorem zqp (a b:Int):(a == b)=decide (a=b):=by by_cases h:a=b <;> simp [h]
theorem zq9 (I:Inv X pins σ H s) {A:Around} {n:Nat} {r q:List Int} {x y:V} {u v:Value} (hr:r.length=n) (hq:q.length=n) (hu:A.units < cLine) (d1:Den X.K H S (.lst (zad r)) .al [] x) (d2:Den X.K H S (.lst (zad q)) .al [] y) (r1:RelV x u) (r2:RelV y v):LtAt A s u v (ltR n r q):=by
 obtain⟨_,p,vs,rfl,_,h1,e1⟩:=zah.mp d1
 obtain⟨_,p2,ws,rfl,_,h2,e2⟩:=zah.mp d2
 cases r1
 cases r2
 have v1:=zb4 e1 (zbC r)
 have v2:=zb4 e2 (zbC q)
 obtain⟨its,i1,i2,_,l1⟩:=zcl I h1 v1
 obtain⟨its2,j1,j2,_,l2⟩:=zcl I h2 v2
 have z1:its.toArray.size=n:=by rw [List.size_toArray];lia
 have z2:its2.toArray.size=n:=by rw [List.size_toArray];lia
 have g:∀ {its:List Value} {ns:List Int} (i1:IntsAre its ns) (j:Nat) (h:j < its.toArray.size),∃ t,its.toArray[j]=.int (ns.getD j 0) t:=fun {its ns} i1 j h=>by
  exact i1.int_at j _ (by rw [List.getElem?_toArray.symm,Array.getElem?_eq_getElem h])
 have:=LtAt.lists (A:=A) (e:=fun j=>decide (r.getD j 0=q.getD j 0)) (r:=fun j=>decide (r.getD j 0 < q.getD j 0)) i2 j2 (by lia) hu
  (fun j a b=>by
   obtain⟨t,e1⟩:=g i1 j a
   obtain⟨t2,e2⟩:=g j1 j b
   rw [e1,e2]
   have:=SeqAt.EqAt.int_int (A:=A.in1) (s:=s) (r.getD j 0) t (q.getD j 0) t2
   rw [zqp] at this
   exact this)
  (fun j a b _=>by
   obtain⟨t,e1⟩:=g i1 j a
   obtain⟨t2,e2⟩:=g j1 j b
   rw [e1,e2]
   exact LtAt.ints A.in1 s _ _ t t2)
 rw [z1] at this
 exact this
theorem zox (I:Inv X pins σ H s) {A:Around} {n:Nat} {b c:List (List Int)} {u v:Value} {prog:Program} {w:World} {E:Value→Shared→Prop} {Q:Bool→Shared→Prop} (hb:Shp n b) (hc:Shp n c) (hu:A.units + 3 < cLine) (d1:Dn X.K H S u b) (d2:Dn X.K H S v c) (h:Q (ltB n b c) s):wpAny (model prog w) A (oneLt' true u v) Q E s:=by
 obtain⟨x,r1,d1⟩:=d1
 obtain⟨y,r2,d2⟩:=d2
 obtain⟨_,p,vs,rfl,_,h1,e1⟩:=zah.mp d1
 obtain⟨_,p2,ws,rfl,_,h2,e2⟩:=zah.mp d2
 cases r1
 cases r2
 obtain⟨its,k1,i2,_⟩:=I.list (.of h1)
 obtain⟨its2,k2,j2,_⟩:=I.list (.of h2)
 have l1:its.toArray.size=n:=by rw [List.size_toArray,← k1.length,e1.length,List.length_map,hb.1]
 have l2:its2.toArray.size=n:=by rw [List.size_toArray,← k2.length,e2.length,List.length_map,hc.1]
 have g:∀ {b:List (List Int)} {vs:List V} {its:List Value} (e:Dens X.K H S (b.map fun r=>.lst (zad r)) .al [] vs) (k:Vals vs its) (j:Nat) (h:j < its.toArray.size),∃ z,Den X.K H S (.lst (zad (b.getD j []))) .al [] z∧RelV z its.toArray[j]:=fun {b vs its} e k j h=>by
  have hl:j < b.length:=by
   have:=e.length
   rw [List.length_map] at this
   rw [List.size_toArray,← k.length,this] at h
   exact h
  obtain⟨z,e3,e4⟩:=e.get (i:=j) (t:=.lst (zad (b.getD j []))) (by rw [List.getElem?_map,List.getElem?_eq_getElem hl];simp [List.getD,hl])
  obtain⟨u,e5,e6⟩:=k.get e3
  refine ⟨z,e4,?_⟩
  have:its.toArray[j]=u:=by
   have h':j < its.length:=by rw [List.size_toArray] at h;exact h
   rw [List.getElem?_eq_getElem h'] at e5
   simpa using e5
  rw [this]
  exact e6
 have e0:ltB n b c=lx (fun j=>decide (b.getD j []=c.getD j [])) (fun j=>ltR n (b.getD j []) (c.getD j [])) (List.range its.toArray.size):=by rw [l1];rfl
 rw [e0] at h
 refine ziV i2.isList j2.isList (by lia) (by lia) (fun j a1 a2=>?_) (fun j a1 a2 _=>?_) h
 ·obtain⟨z1,q1,q2⟩:=g e1 k1 j a1
  obtain⟨z2,q3,q4⟩:=g e2 k2 j a2
  have:=zly I 1 A.in1 _ _ z1 z2 _ _ (zmu _) (zmu _) (by rw [zeq];lia) q1 q3 q2 q4
  have e:eqT (.lst (zad (b.getD j []))) (.lst (zad (c.getD j [])))=decide (b.getD j []=c.getD j []):=by
   unfold eqT;exact zgz _ _
  rw [e] at this
  exact this
 ·obtain⟨z1,q1,q2⟩:=g e1 k1 j a1
  obtain⟨z2,q3,q4⟩:=g e2 k2 j a2
  have lb:j < b.length:=by rw [hb.1];lia
  have lc:j < c.length:=by rw [hc.1];lia
  refine zq9 I (n:=n) ?_ ?_ (by rw [zeq];lia) q1 q3 q2 q4
  ·simp [List.getD,lb];exact hb.2 _ (List.getElem_mem lb)
  ·simp [List.getD,lc];exact hc.2 _ (List.getElem_mem lc)
noncomputable def Dns (K:PySem.W.Frag) (H:Hp) (S:Addr→Prop):List Value→List (List (List Int))→Prop
 | [],[]=>True
 | v :: vs,b :: bs=>Dn K H S v b∧Dns K H S vs bs
 | _,_=>False
theorem zpf:∀ {bs:List (List (List Int))} {vs:List V} {us:List Value},Dens X.K H S (bs.map bdT) .al [] vs→Vals vs us→Dns X.K H S us bs
 | [],vs,us,d,r=>by
  have:=zos (K:=X.K) (H:=H) (S:=S) d
  subst this
  cases r
  trivial
 | b :: bs,vs,us,d,r=>by
  obtain⟨v,ws,rfl,d1,d2⟩:=znm d
  cases r with
  | cons r1 r2=>exact⟨⟨v,r1,d1⟩,zpf d2 r2⟩
theorem zoY:∀ {bs:List (List (List Int))} {us:List Value},Dns X.K H S us bs→∃ vs,Vals vs us∧Dens X.K H S (bs.map bdT) .al [] vs
 | [],[],_=>⟨[],.nil,Dens.nil⟩
 | [],_ :: _,h=>h.elim
 | _ :: _,[],h=>h.elim
 | b :: bs,u :: us,⟨⟨x,r,d⟩,h⟩=>by
  obtain⟨vs,r2,d2⟩:=zoY h
  exact⟨x :: vs,.cons r r2,Dens.cons (A1:=[]) (A2:=[]) d d2⟩
theorem znk:∀ {bs:List (List (List Int))} {us:List Value},Dns X.K H S us bs→∀ u∈us,∃ b∈bs,Dn X.K H S u b
 | [],[],_,u,h=>nomatch h
 | [],_ :: _,h,_,_=>h.elim
 | _ :: _,[],h,_,_=>h.elim
 | b :: bs,v :: us,⟨h1,h2⟩,u,hu=>by
  rcases List.mem_cons.mp hu with rfl | hu
  ·exact⟨b,by simp,h1⟩
  ·obtain⟨c,hc,q⟩:=znk h2 u hu
   exact⟨c,by simp [hc],q⟩
open Classical in
noncomputable def bdOf (K:PySem.W.Frag) (H:Hp) (S:Addr→Prop) (v:Value):List (List Int):=if h:∃ b,Dn K H S v b then h.choose else []
theorem zhn (I:Inv X pins σ H s) {v:Value} {b:List (List Int)} (h:Dn X.K H S v b):bdOf X.K H S v=b:=by
 have hx:∃ b,Dn X.K H S v b:=⟨b,h⟩
 unfold bdOf
 rw [dif_pos hx]
 exact Dn.uniq I hx.choose_spec h
theorem zkQ (I:Inv X pins σ H s):∀ {bs:List (List (List Int))} {us:List Value},Dns X.K H S us bs→us.map (bdOf X.K H S)=bs
 | [],[],_=>rfl
 | [],_ :: _,h=>h.elim
 | _ :: _,[],h=>h.elim
 | b :: bs,u :: us,⟨h1,h2⟩=>by rw [List.map_cons,zhn I h1,zkQ I h2]
theorem zkE (I:Inv X pins σ H s):∀ {us:List Value},(∀ u∈us,∃ b,Dn X.K H S u b)→Dns X.K H S us (us.map (bdOf X.K H S))
 | [],_=>trivial
 | u :: us,h=>by
  obtain⟨b,hb⟩:=h u (by simp)
  refine ⟨?_,zkE I fun v hv=>h v (by simp [hv])⟩
  rw [zhn I hb];exact hb
theorem zgN:∀ (us:List Value),us.zip us=us.map fun u=>(u,u)
 | []=>rfl
 | u :: us=>by rw [List.zip_cons_cons,zgN us];rfl
noncomputable def rfV:Value→V
 | .ref a=>.ref a
 | _=>.non
theorem zjT:∀ {vs:List V} {us:List Value},Vals vs us→(∀ v∈vs,∃ a,v=V.ref a)→vs=us.map rfV:=by
 intro vs us h
 induction h with
 | nil=>intro _;rfl
 | cons r _ ih =>
  intro k
  obtain⟨a,rfl⟩:=k _ (List.mem_cons_self ..)
  cases r
  rw [List.map_cons,← ih fun v hv=>k v (by simp [hv])]
  rfl
theorem zhj:∀ {bs:List (List (List Int))} {vs:List V},Dens X.K H S (bs.map bdT) .al [] vs→∀ v∈vs,∃ a,v=V.ref a
 | [],vs,d,v,hv=>by
  unfold Dens at d
  rw [d.2] at hv
  cases hv
 | b :: bs,vs,d,v,hv=>by
  rw [List.map_cons] at d
  unfold Dens at d
  obtain⟨A1,A2,w,vs',ea,rfl,d1,d2⟩:=d
  obtain⟨rfl,rfl⟩:=List.append_eq_nil_iff.mp ea.symm
  rcases List.mem_cons.mp hv with rfl | hv
  ·obtain⟨_,a,_,rfl,_⟩:=zah.mp d1
   exact⟨a,rfl⟩
  ·exact zhj d2 v hv
noncomputable def zrc (K:PySem.W.Frag):List V→Hp→VK→Prop:=fun xs H Q=>∃ S a vs ts t',Dom S H∧xs=[.ref a]∧H a=some (.lst vs)∧Dens K H S ts .al [] vs∧zgG [.lst ts]=some t'∧∀ ts' p ys,t'=.lst ts'→H p=none→ys.Perm vs→Dens K H S ts' .al [] ys→Q (.ref p) (upd H p (.lst ys))
theorem znr (hu:X.A.units + 5 < cLine):zcz X (.builtin "sorted") (zrc X.K):=by
 intro pins s σ H xs us Q I r h
 obtain⟨S,a,vs,ts,t',dm,rfl,h1,h2,ec,h⟩:=h
 obtain⟨u,rfl,rx⟩:=zhy r
 cases rx
 replace ec:(ze8 ts).bind (fun bs=>if bs.all (fun b=>b.length == (bs.headD []).length && b.all fun r=>r.length == (bs.headD []).length)=true then some (T.lst ((zee (bs.headD []).length bs).map bdT)) else none)=some t':=ec
 cases e:ze8 ts with
 | none=>rw [e] at ec;cases ec
 | some bs =>
   rw [e] at ec
   obtain rfl:=znG e
   have ec:(if bs.all (fun b=>b.length == (bs.headD []).length && b.all fun r=>r.length == (bs.headD []).length)=true then some (T.lst ((zee (bs.headD []).length bs).map bdT)) else none)=some t':=ec
   generalize (bs.headD []).length=n at ec
   split at ec
   ·rename_i hall
    cases ec
    have hD:∀ b∈bs,Shp n b:=fun b hb=>by
     have:=List.all_eq_true.mp hall b hb
     simp only [Bool.and_eq_true,beq_iff_eq,List.all_eq_true] at this
     exact this
    obtain⟨its,rv,pl,hz⟩:=I.list (.of h1)
    have hn:=zpf h2 rv
    have hm:=znk hn
    let inst:Srt.SK:=⟨fun p=>rnk (ltB n) bs (bdOf X.K H S p.1),fun p=>∃ b∈bs,Dn X.K H S p.1 b⟩
    have tot:∀ a b,Shp n a→Shp n b→ltB n a b=false→ltB n b a=false→a=b:=fun a b=>zmL a b
    have fin:∀ out:Array Keyed,out.Perm (pairsOf its)→@Srt.SortedTo inst out (pairsOf its).size→EP X pins σ Q (.ref (s.heap.objs.size + 1)) { s with heap:=sortedAll s.heap its (out.map (·.2)) }:=fun out q1 q2=>by
     have p1:out.toList.Perm (its.map fun u=>(u,u)):=by
      have:=Array.perm_iff_toList_perm.mp q1
      rw [pairsOf_toList,zgN] at this
      exact this
     have eq2:∀ p∈out.toList,p.1=p.2∧p.2∈its:=fun p hp=>by
      obtain⟨u,hu,rfl⟩:=List.mem_map.mp (p1.mem_iff.mp hp)
      exact⟨rfl,hu⟩
     have p2:(out.toList.map (·.2)).Perm its:=by
      have:=p1.map (·.2)
      rw [List.map_map] at this
      have e:(its.map ((fun p:Keyed=>p.2) ∘ fun u=>(u,u)))=its:=by
       have:((fun p:Keyed=>p.2) ∘ fun u:Value=>((u,u):Keyed))=id:=rfl
       rw [this,List.map_id]
      rw [e] at this
      exact this
     have dn:=zkE I (us:=out.toList.map (·.2)) fun u hu=>by
      obtain⟨b,_,q⟩:=hm u (p2.mem_iff.mp hu)
      exact⟨b,q⟩
     have pB:((out.toList.map (·.2)).map (bdOf X.K H S)).Perm bs:=by
      have:=p2.map (bdOf X.K H S)
      rw [zkQ I hn] at this
      exact this
     have sB:((out.toList.map (·.2)).map (bdOf X.K H S)).Pairwise fun a b=>rnk (ltB n) bs a≤rnk (ltB n) bs b:=by
      rw [List.pairwise_iff_getElem]
      intro i j hi hj hij
      simp only [List.length_map,Array.length_toList] at hi hj
      have:=q2 i j (Nat.le_of_lt hij) (by rw [← q1.size_eq];exact hj)
      unfold Srt.K at this
      rw [Array.getElem?_eq_getElem hi,Array.getElem?_eq_getElem hj] at this
      have this:(rnk (ltB n) bs (bdOf X.K H S out[i].1):Int)≤rnk (ltB n) bs (bdOf X.K H S out[j].1):=this
      rw [(eq2 out[i] (by simp)).1,(eq2 out[j] (by simp)).1] at this
      simp only [List.getElem_map,Array.getElem_toList]
      lia
     have eB:(out.toList.map (·.2)).map (bdOf X.K H S)=zee n bs:=
      (pB.trans (zcB n bs).symm).eq_of_pairwise (fun x y hx hy h1 h2=>zpD (zmM n) (zmK n) (Shp n) tot hD (pB.mem_iff.mp hx) ((zcB n bs).mem_iff.mp hy) (by lia)) sB (zeW hD bs fun b hb=>hb)
     rw [eB] at dn
     obtain⟨ys,r3,d3⟩:=zoY dn
     obtain⟨e',he⟩:=sortedAll_at s.heap its (out.map (·.2))
     have hl:ys.length≤sizeLine:=by rw [d3.length,List.length_map,(zcB n bs).length_eq];have:=h2.length;rw [List.length_map] at this;lia
     have pY:ys.Perm vs:=by
      rw [zjT r3 (zhj d3),zjT rv (zhj h2)]
      exact p2.map rfV
     refine ⟨.ref (s.heap.objs.size + 1),_,I.laid (t':=s.toks) (o:=.lst ys) (fun b ob q=>sortedAll_old q) (Nat.le_succ _) ⟨hl,out.toList.map (·.2),e',r3,?_⟩,rfl,h _ _ ys rfl (I.hok.fresh (Nat.le_succ _)) pY d3⟩
     rw [he]
     have:out.map (·.2)=(out.toList.map (·.2)).toArray:=by apply Array.ext';rw [Array.toList_map,List.toList_toArray]
     rw [this]
    refine @Srt.sorted_gen X.prog X.w X.A X.xe s inst "list" a its _ pl.isList (fun p hp=>?_) (by rw [← rv.length];exact hz) (by decide) (fun h' kp E=>⟨?_,fun u hu=>?_⟩) fin
    ·rw [pairsOf_toList,zgN] at hp
     obtain⟨u,hu,rfl⟩:=List.mem_map.mp hp
     exact hm u hu
    ·refine @Srt.SKL.mk _ _ _ _ _ inst ?_
     rintro st x y Q' hk ⟨b,hb,db⟩ ⟨c,hc,dc⟩ hq
     have I':Inv X pins σ H { s with heap:=h',toks:=s.toks }:=I.kept kp
     rw [lt'_eq]
     refine wpS_bind (wpS_get ?_)
     rw [hk,keyLt'_oneType]
     have e1:@Srt.key inst x=rnk (ltB n) bs b:=by show (rnk (ltB n) bs (bdOf X.K H S x.1):Int)=_;rw [zhn I db]
     have e2:@Srt.key inst y=rnk (ltB n) bs c:=by show (rnk (ltB n) bs (bdOf X.K H S y.1):Int)=_;rw [zhn I dc]
     rw [e1,e2,zgZ (zmM n) (zmK n) (Shp n) tot hD hb hc] at hq
     refine wpS_bind (wpS_lift (wpAny_attempt (zox I' (hD b hb) (hD c hc) (by show X.A.units + 1 + 1 + 3 < cLine;lia) db dc ⟨rfl,?_⟩)))
     exact wpS_pure hq
    ·obtain⟨b,_,x,rr,dd⟩:=hm u hu
     obtain⟨_,p,ws,rfl,_,g1,_⟩:=zah.mp dd
     cases rr
     obtain⟨its2,_,pl2,_⟩:=I.list (.of g1)
     obtain⟨o,ho,hc,_⟩:=pl2.isList
     exact⟨o,kp _ _ ho,hc⟩
   ·cases ec
theorem zns (hu:X.A.units + 5 < cLine):zcz X (.builtin "sorted") (rCT X.K .sp zgG):=zcz.imp (znr hu) fun xs H Q h=>by
 obtain⟨S,ts,dm,d,h⟩:=h
 cases ec:zgG ts with
 | none=>rw [ec] at h;exact (show False from h).elim
 | some t' =>
  rw [ec] at h
  have ec2:=ec
  unfold zgG at ec
  split at ec
  ·rename_i ts
   obtain⟨v,rfl,d1⟩:=zbJ d
   obtain⟨_,a,vs,rfl,hS,h1,h2⟩:=zah.mp d1
   exact⟨S,a,vs,ts,t',dm,rfl,h1,h2,ec2,fun ts' p ys et hp _ dy=>by subst et;exact h _ _ S _ (Got.newSp dm hp dy)⟩
  ·cases ec
end
end TL
namespace TL
open PySem PySem.Spec L2
open PyProof.Rows hiding St
section
variable {X:Cx} {z:Z} {md md1:Md} {Fs:VEnv→Res (List T)} {e:Expr} {es:List Expr} {p p' pos cpos:Pos} {i n:Nat} {x:Str} {K:PySem.W.Frag}
end
end TL
namespace TL
open PySem PySem.Spec L2
open PyProof.Rows hiding St
section
variable {X:Cx} {z:Z} {K:PySem.W.Frag} {i p:Nat} {x:Str} {a a' e:Expr} {pos p1 p2 p3 p4:Pos}
end
end TL
namespace TL
open PySem PySem.Spec L2
section
variable {X:Cx} {z:Z} {K:PySem.W.Frag} {i p:Nat} {x:Str} {a a' e:Expr} {pos p1 p2 p3 p4:Pos}
end
end TL
namespace Sx
open PySem PySem.Spec
open PyProof.Rows (IntsAre)
noncomputable def oS0 (led:Bool):Obj:={ cls:=.type "set", dict:=none,data:=.set #[] 0 (.fresh 0 0 led) }
section
variable {prog:Program} {w:World} {A:Around} {E:Value→Shared→Prop} {s:Shared} {a:Addr} {led:Bool} {k:Int} {t t0:Nat}
end
section
variable {prog:Program} {w:World} {A:Around} {E:Value→Shared→Prop} {s:Shared} {S I:Addr} {led:Bool} {k:Int} {t:Nat}
end
section
variable {prog:Program} {w:World} {A:Around} {R:Result→Shared→Prop} {I S:Addr} {fp wr:List Addr} {G:Array GenState→Array GenState→Prop} {n:Nat} {P:Nat→Value→Prop} {St:Nat→Shared→Prop} {led:Bool} {k:Int}
end
section
variable {prog:Program} {w:World} {A:Around} {E:Value→Shared→Prop} {s:Shared}
noncomputable abbrev ldOf (w:World):Bool:=!(w.params.followText "set-order")
theorem zpx (v:Value) {R:Result→Shared→Prop} (h:R (.ok (.ret (.ref s.heap.objs.size))) { s with heap:=s.heap.push (oS0 (ldOf w)) }) :
  codeAny (model prog w) A (.call (.builtin "set.__new__") ⟨[.type "set", v],[]⟩) R s:=by
 refine codeAny_of_tree ?_
 show wpAny _ A.in1 (checkBuiltinCall "set.__new__" ⟨[.type "set", v],[]⟩ >>= fun _=>again (.builtin "set.__new__" ⟨[.type "set", v],[]⟩)) _ _ s
 rw [F.newCall_set_1 v]
 refine wpAny_bind (wpAny_pure (wpAny_pure ⟨plainId_quiet F.plain_set_new _,codeAny_builtin F.entry_set_new ?_⟩))
 rw [Around.under_plainId F.plain_set_new _]
 unfold Builtin.«set.__new__» Builtin.Frozenset.newClass
 have hsub:=sub_set_self
 obtain⟨hp,g,d,tk,os⟩:=s
 dsimp only
 wp_walk
 refine wpAny_askSetting ?_
 refine wpAny_pure ?_
 dsimp only
 simp only [newObj]
 exact wpAny_bind (wpAny_alloc (wpAny_pure (wpAny_pure h)))
set_option maxHeartbeats 3200000 in
set_option maxHeartbeats 3200000 in
end
end Sx
namespace Sx
open PySem PySem.Spec
section
variable {prog:Program} {w:World} {A:Around} {E:Value→Shared→Prop} {s:Shared} {S I:Addr} {h k:Int} {t f:Nat} {x:Value}
open PyProof.Rows Srt in
end
end Sx
namespace TL
open PySem PySem.Spec L2
section
variable {X:Cx} {z:Z} {md md1:Md} {F:VEnv→Res T} {e:Expr} {t:TE} {p1 p2 p3 p4:Pos}
theorem zr8:bootBuiltins "set" = some (.type "set"):=by kernel_rfl
end
end TL
namespace TL
open PySem PySem.Spec L2
section
variable {X:Cx} {z:Z} {md md1 md2:Md} {F1 F2:VEnv→Res T} {a e:Expr} {p1 p2:Pos}
end
end TL
namespace Sx
open PySem PySem.Spec
def Ris (xs:Array Nat):Prop:=xs.toList.Pairwise (· < ·)
theorem Ris.mono {xs:Array Nat} (h:Ris xs) {i k j:Nat} (hik:i≤k) (hk:k < xs.size):xs.getD i j≤xs.getD k j:=by
 have hi:i < xs.size:=by lia
 simp only [Array.getD_eq_getD_getElem?,Array.getElem?_eq_getElem hi,Array.getElem?_eq_getElem hk,Option.getD_some]
 rcases Nat.lt_or_ge i k with q | q
 ·have:=List.pairwise_iff_getElem.mp h i k (by simpa using hi) (by simpa using hk) q
  simp at this
  lia
 ·have:i=k:=by lia
  subst this;exact Nat.le_refl _
theorem zqg {xs:Array Nat} (h:Ris xs) (j:Nat):∀ (fuel lo hi:Nat),hi - lo≤fuel→lo≤hi→hi≤xs.size→(∀ i,i < lo→xs.getD i j < j)→(∀ i,hi≤i→i < xs.size→j≤xs.getD i j) →
  SetTable.below.go xs j fuel lo hi≤xs.size∧(∀ i,i < SetTable.below.go xs j fuel lo hi→xs.getD i j < j)∧∀ i,SetTable.below.go xs j fuel lo hi≤i→i < xs.size→j≤xs.getD i j:=by
 intro fuel
 induction fuel with
 | zero =>
  intro lo hi h1 h2 h3 h4 h5
  have:lo=hi:=by lia
  subst this
  exact⟨h3,h4,h5⟩
 | succ fuel ih =>
  intro lo hi h1 h2 h3 h4 h5
  unfold SetTable.below.go
  by_cases q:lo < hi
  ·rw [if_pos q]
   dsimp only
   have hm:(lo + hi) / 2 < hi:=by lia
   have hm2:lo≤(lo + hi) / 2:=by lia
   generalize (lo + hi) / 2=mid at hm hm2
   by_cases q2:xs.getD mid j < j
   ·rw [if_pos q2]
    refine ih (mid + 1) hi (by lia) (by lia) h3 (fun i hi'=>?_) h5
    exact Nat.lt_of_le_of_lt (h.mono (by lia) (by lia)) q2
   ·rw [if_neg q2]
    refine ih lo mid (by lia) hm2 (by lia) h4 (fun i hi' hs=>?_)
    have:=h.mono (j:=j) hi' hs
    lia
  ·rw [if_neg q]
   exact⟨by lia,h4,fun i hi' hs=>h5 i (by lia) hs⟩
theorem zlB {xs:Array Nat} (h:Ris xs) (j:Nat):SetTable.below xs j≤xs.size∧(∀ i,i < SetTable.below xs j→xs.getD i j < j)∧∀ i,SetTable.below xs j≤i→i < xs.size→j≤xs.getD i j:=
 zqg h j xs.size 0 xs.size (by lia) (by lia) (Nat.le_refl _) (fun i hi=>absurd hi (by lia)) fun i h1 h2=>absurd h1 (by lia)
theorem zjg {xs:Array Nat} {i j:Nat} (h:i < xs.size):xs.getD i j=xs[i]:=by simp [h]
theorem zhb {α:Type} (xs:Array α) (p:Nat) (x:α) (hp:p≤xs.size):(SetTable.insertAt xs p x).toList=xs.toList.take p ++ x :: xs.toList.drop p:=by
 unfold SetTable.insertAt
 simp
 rw [List.take_of_length_le (by simp)]
theorem Ris.put {xs:Array Nat} (h:Ris xs) {j:Nat} (hj:¬ xs[SetTable.below xs j]? = some j):Ris (SetTable.insertAt xs (SetTable.below xs j) j):=by
 obtain⟨b1,b2,b3⟩:=zlB h j
 generalize hr:SetTable.below xs j=r at *
 unfold Ris
 rw [zhb _ _ _ b1]
 have lt:∀ y∈xs.toList.drop r,j < y:=by
  intro y hy
  obtain⟨k,hk,rfl⟩:=List.mem_iff_getElem.mp hy
  simp at hk
  have hk':r + k < xs.size:=by lia
  have:=b3 (r + k) (by lia) hk'
  rw [zjg hk'] at this
  simp
  rcases Nat.lt_or_eq_of_le this with q | q
  ·exact q
  ·exfalso
   rcases Nat.eq_zero_or_pos k with z | z
   ·subst z
    apply hj
    rw [Array.getElem?_eq_getElem (by lia)]
    exact congrArg some q.symm
   ·have h0:=b3 r (Nat.le_refl _) (by lia)
    rw [zjg (by lia)] at h0
    have h2:=List.pairwise_iff_getElem.mp h r (r + k) (by simp;lia) (by simp;lia) (by lia)
    simp at h2
    lia
 have gt:∀ y∈xs.toList.take r,y < j:=by
  intro y hy
  obtain⟨k,hk,rfl⟩:=List.mem_iff_getElem.mp hy
  simp at hk
  have:=b2 k (by lia)
  rw [zjg (by lia)] at this
  simpa using this
 refine List.pairwise_append.mpr ⟨h.sublist (List.take_sublist _ _),List.pairwise_cons.mpr ⟨lt,h.sublist (List.drop_sublist _ _)⟩,fun a ha b hb=>?_⟩
 rcases List.mem_cons.mp hb with rfl | hb
 ·exact gt a ha
 ·exact Nat.lt_trans (gt a ha) (lt b hb)
theorem Ris.range (n:Nat):Ris (Array.range n):=by
 unfold Ris
 rw [Array.toList_range]
 exact List.pairwise_lt_range
theorem zle {t:SetTable} {f:Nat→Int} {h:Int}:∀ (fuel:Nat) (p:SetTable.Probe) (j:Nat) (d:Option Nat),(∀ e,p.dummy=some e→¬ t.place[SetTable.below t.place e]? = some e)→SetTable.probe.go t f h fuel p=some (.empty j d) →
  ¬ t.place[SetTable.below t.place j]? = some j∧∀ e,d=some e→¬ t.place[SetTable.below t.place e]? = some e:=by
 intro fuel
 induction fuel with
 | zero=>intro p j d _ e;cases e
 | succ fuel ih =>
  intro p j d hd e
  unfold SetTable.probe.go at e
  have adv:∀ q:SetTable.Probe,(t.advance q).dummy=q.dummy:=fun q=>by
   unfold SetTable.advance;split <;> rfl
  cases hs:t.slot p.j with
  | empty =>
   rw [hs] at e
   simp only [Option.some.injEq,SetTable.Met.empty.injEq] at e
   obtain⟨rfl,rfl⟩:=e
   refine ⟨fun z=>?_,hd⟩
   unfold SetTable.slot at hs
   rw [if_pos (by simpa using z)] at hs
   cases hs
  | dummy =>
   rw [hs] at e
   refine ih _ j d (fun e' he=>?_) e
   rw [adv] at he
   simp only [Option.some.injEq] at he
   subst he
   intro z
   unfold SetTable.slot at hs
   rw [if_pos (by simpa using z)] at hs
   cases hs
  | live i =>
   rw [hs] at e
   simp only at e
   split at e
   ·cases e
   ·exact ih _ j d (fun e' he=>hd e' (by rw [adv] at he;exact he)) e
structure TOk (led:Bool) (t:SetTable) (n:Nat):Prop where
 led:t.led=led
 ris:Ris t.place
 fit:t.fits n=true
theorem zmQ {led:Bool} {t:SetTable} {es:Array (Int×Value)} {h:Int} {x:Value} (T:TOk led t es.size):TOk led (layNew t es h x).2.1 (layNew t es h x).1.size:=by
 have hf:=layNew_fits t es h x
 refine ⟨?_,?_,hf⟩
 ·unfold layNew
  split
  ·dsimp only
   unfold SetTable.orStandIn
   split
   ·exact T.led
   ·exact T.led
  ·exact T.led
 ·unfold layNew
  split
  ·rename_i slot wd e
   dsimp only
   unfold SetTable.orStandIn
   split
   ·show Ris (SetTable.insertAt t.place (SetTable.below t.place slot) slot)
    refine T.ris.put ?_
    unfold SetTable.freeSlot at e
    split at e
    ·rename_i j d ep
     obtain⟨p1,p2⟩:=zle _ _ j d (fun e' he=>by cases he) ep
     simp only [Option.some.injEq,Prod.mk.injEq] at e
     obtain⟨rfl,_⟩:=e
     cases d with
     | none=>exact p1
     | some e'=>exact p2 e' rfl
    ·cases e
   ·exact Ris.range _
  ·exact Ris.range _
theorem znS {led:Bool} {t:SetTable} {es:Array (Int×Value)} {wanted:Nat} (hl:t.led=led):TOk led (relayAll t es wanted).2.1 (relayAll t es wanted).1.size:=by
 have hf:=relayAll_fits t es wanted
 refine ⟨?_,?_,hf⟩
 ·unfold relayAll
  split
  ·rename_i t' order e
   dsimp only
   split
   ·unfold SetTable.relaid SetTable.laid at e
    dsimp only
    simp only [Option.bind_eq_bind,Option.bind_eq_some_iff,Option.pure_def,Option.some.injEq,Prod.mk.injEq] at e
    obtain⟨_,_,rfl,_⟩:=e
    exact hl
   ·exact hl
  ·exact hl
 ·unfold relayAll
  split
  ·rename_i t' order e
   dsimp only
   split
   ·unfold SetTable.relaid SetTable.laid at e
    dsimp only
    simp only [Option.bind_eq_bind,Option.bind_eq_some_iff,Option.pure_def,Option.some.injEq,Prod.mk.injEq] at e
    obtain⟨owner,_,rfl,_⟩:=e
    unfold Ris
    dsimp only
    refine List.Pairwise.map (R:=fun a b:Nat×Nat=>a.1 < b.1) Prod.fst (fun a b h=>h) ?_
    refine List.Pairwise.filterMap _ (fun a b hab x hx y hy=>?_) List.pairwise_lt_range
    obtain⟨x',_,rfl⟩:=Option.map_eq_some_iff.mp hx
    obtain⟨y',_,rfl⟩:=Option.map_eq_some_iff.mp hy
    exact hab
   ·exact Ris.range _
  ·exact Ris.range _
section
variable {prog:Program} {w:World} {A:Around} {E:Value→Shared→Prop} {s:Shared}
end
noncomputable def nm:Value→Int
 | .int k _=>k
 | _=>0
structure SG (prog:Program) (w:World) (led:Bool) (h:Heap) (a:Addr) (es:Array (Int×Value)) (ep:Nat) (t:SetTable) (ds:List Int):Prop where
 ob:∃ o,h.get? a=some o∧o.ExactSet∧o.data=.set es ep t
 tok:TOk led t es.size
 el:∀ e∈es.toList,∃ k u,e=((intKind prog w).hash k,.int k u)
 pm:(es.toList.map fun e=>nm e.2).Perm ds
theorem SG.at {prog:Program} {w:World} {led:Bool} {h h':Heap} {a:Addr} {es:Array (Int×Value)} {ep:Nat} {t:SetTable} {ds:List Int} (x:SG prog w led h a es ep t ds) (e:∀ o,h.get? a=some o→h'.get? a=some o):SG prog w led h' a es ep t ds:=
 ⟨let ⟨o,ho,r⟩:=x.ob;⟨o,e _ ho,r⟩,x.tok,x.el,x.pm⟩
section
variable {prog:Program} {w:World} {A:Around} {E:Value→Shared→Prop} {s:Shared} {a:Addr} {es:Array (Int×Value)} {ep:Nat} {t:SetTable} {ds:List Int} {led:Bool} {k:Int} {u:Nat}
theorem zj0 {o:Obj} {es':Array (Int×Value)} {t':SetTable} {h:Heap} (ho:h.get? a=some o) (hx:o.ExactSet) (hd:o.data=.set es ep t):∃ o',(h.update a (Obj.putSet es' t')).get? a=some o'∧o'.ExactSet∧o'.data=.set es' (ep + 1) t':=by
 have g:=Heap.get?_update_self (Obj.putSet es' t') ho (by rw [putSet_of es' t' hd];rfl)
 rw [putSet_of es' t' hd] at g
 exact⟨_,g,hx,rfl⟩
theorem zoq (h:∀ e∈es.toList,∃ k u,e=((intKind prog w).hash k,Value.int k u)):ElemsOf (intKind prog w) es.toList:=fun e he=>by
 obtain⟨k,u,rfl⟩:=h e he
 exact⟨⟨k,intKind_is _ _ _ _,rfl⟩,rfl⟩
theorem zkX {o:Obj} {es1:Array (Int×Value)} {t1:SetTable} {wd:Bool} {Q:Bool→Shared→Prop} {g:Bool→Sem Unit} (hg:∀ (b:Bool) (s₁:Shared) (Q':Unit→Shared→Prop),Q' () s₁→wpAny (model prog w) A (g b) Q' E s₁)
  (ho:s.heap.get? a=some o) (hx:o.ExactSet) (hd:o.data=.set es ep t) (T:TOk led t1 es1.size) (el:∀ e∈es1.toList,∃ k u,e=((intKind prog w).hash k,Value.int k u)) (pm:(es1.toList.map fun e=>nm e.2).Perm ds) (hz:es1.size < scanBound)
  (h:∀ h' es' ep' t',Heap.SameBut a s.heap h'→SG prog w led h' a es' ep' t' ds→Q true { s with heap:=h' }) :
  wpAny (model prog w) A (storeSet a es1 t1 >>= fun _=>(if (!wd && t1.tooFull)=true then g (relayAll t1 es1 (SetTable.grown es1.size)).2.2 >>= fun _=>storeSet a (relayAll t1 es1 (SetTable.grown es1.size)).1 (relayAll t1 es1 (SetTable.grown es1.size)).2.1 >>= fun _=>pure (some true)
   else pure (some true)))
   (fun r s'=>wpAny (model prog w) A (match r with | some added=>pure added | none=>setAddHashedIn a (.int k u) ((intKind prog w).hash k) 99999) Q E s') E s:=by
 refine wpAny_bind (wpAny_storeSet_of ho hd ?_ (fits_of_scanBound hz))
 obtain⟨o1,g1,x1,d1⟩:=zj0 (es':=es1) (t':=t1) ho hx hd
 have sb:=Heap.SameBut.update s.heap a (Obj.putSet es1 t1)
 split
 ·have rp:=relayAll_perm t1 es1 (SetTable.grown es1.size)
  have rt:=znS (es:=es1) (wanted:=SetTable.grown es1.size) T.led
  generalize relayAll t1 es1 (SetTable.grown es1.size)=R at rp rt ⊢
  obtain⟨es2,t2,gave⟩:=R
  dsimp only at rp rt ⊢
  have hz2:es2.size < scanBound:=by rw [← Array.length_toList,rp.length_eq,Array.length_toList];exact hz
  refine wpAny_bind (hg _ _ _ (wpAny_bind (wpAny_storeSet_of g1 d1 ?_ (fits_of_scanBound hz2))))
  refine wpAny_pure (wpAny_pure (h _ es2 (ep + 1 + 1) t2 (sb.trans (Heap.SameBut.update _ a _)) ⟨zj0 g1 x1 d1,rt,fun e he=>el e (rp.mem_iff.mp he),(rp.map _).trans pm⟩))
 ·exact wpAny_pure (wpAny_pure (h _ es1 (ep + 1) t1 sb ⟨⟨o1,g1,x1,d1⟩,T,el,pm⟩))
theorem zpl {Q:Bool→Shared→Prop} (x:SG prog w led s.heap a es ep t ds) (hz:es.size + 1 < scanBound)
  (h:∀ b h' es' ep' t',Heap.SameBut a s.heap h'→SG prog w led h' a es' ep' t' (if k∈ds then ds else ds ++ [k])→Q b { s with heap:=h' }):wpAny (model prog w) A (setAddHashed a (.int k u) ((intKind prog w).hash k)) Q E s:=by
 obtain⟨o,ho,hx,hd⟩:=x.ob
 have he:=zoq x.el
 unfold setAddHashed setAddHashedIn
 refine wpAny_holding (wpAny_bind (wpAny_setState_of ho hd x.tok.fit ?_))
 dsimp only
 rw [byScan_of (knd:=intKind prog w) rfl (by lia) he]
 simp only [↓reduceIte]
 unfold setAddByScan
 refine wpAny_bind (wpAny_bind (wpAny_rule (wpAny_bind ?_)))
 refine wpAny_setScan_of (knd:=intKind prog w) (k:=k) (intKind_is _ _ _ _) ho hd x.tok.fit he ?_
 cases hr:es.toList.findIdx? (fun e=>(intKind prog w).is k e.2) with
 | some j =>
  dsimp only
  obtain⟨hj,pj,_⟩:=List.findIdx?_eq_some_iff_getElem.mp hr
  obtain⟨k',u',ej⟩:=x.el _ (List.getElem_mem hj)
  rw [ej] at pj
  have ek:k=k':=(intKind prog w).inj _ _ _ pj (intKind_is _ _ _ _)
  have hm:k∈ds:=x.pm.mem_iff.mp (List.mem_map.mpr ⟨_,List.getElem_mem hj,by rw [ej,ek];rfl⟩)
  refine wpAny_pure (wpAny_pure ?_)
  have:=h false s.heap es ep t (Heap.SameBut.refl _ _) (by rw [if_pos hm];exact x)
  exact this
 | none =>
  dsimp only
  have hm:k∉ds:=fun hm=>by
   obtain⟨e,he',ee⟩:=List.mem_map.mp (x.pm.mem_iff.mpr hm)
   obtain⟨k',u',rfl⟩:=x.el e he'
   have:=List.findIdx?_eq_none_iff.mp hr _ he'
   obtain rfl:k'=k:=ee
   rw [intKind_is] at this
   cases this
  have lp:=layNew_perm t es ((intKind prog w).hash k) (.int k u)
  have lt:=zmQ (h:=(intKind prog w).hash k) (x:=.int k u) x.tok
  generalize layNew t es ((intKind prog w).hash k) (.int k u)=L at lp lt ⊢
  obtain⟨es1,t1,wd,gave⟩:=L
  dsimp only at lp lt ⊢
  rw [Array.toList_push] at lp
  have gw:∀ (b:Bool) (s₁:Shared) (Q':Unit→Shared→Prop),Q' () s₁→wpAny (model prog w) A (match b with | true=>rule "set.scan.the-table-gave-way" | false=>pure ()) Q' E s₁:=by
   intro b s₁ Q' q
   cases b with
   | true=>exact wpAny_rule q
   | false=>exact wpAny_pure q
  refine wpAny_bind (gw _ _ _ ?_)
  have el1:∀ e∈es1.toList,∃ k u,e=((intKind prog w).hash k,Value.int k u):=fun e he=>by
   rcases List.mem_append.mp (lp.mem_iff.mp he) with z | z
   ·exact x.el e z
   ·exact⟨k,u,List.mem_singleton.mp z⟩
  have pm1:(es1.toList.map fun e=>nm e.2).Perm (ds ++ [k]):=by
   refine (lp.map _).trans ?_
   rw [List.map_append]
   exact List.Perm.append_right _ x.pm
  have hz1:es1.size < scanBound:=by
   rw [← Array.length_toList,lp.length_eq,List.length_append,Array.length_toList]
   exact hz
  have fin:=fun h' es' ep' t' sb (sg:SG prog w led h' a es' ep' t' (ds ++ [k]))=>h true h' es' ep' t' sb (by rw [if_neg hm];exact sg)
  split
  ·refine wpAny_bind (wpAny_pure ?_)
   simp only [↓reduceIte]
   exact zkX (fun b s₁ Q' q=>by cases b <;> first | exact wpAny_pure q | exact wpAny_rule q) ho hx hd lt el1 pm1 hz1 fin
  ·refine wpAny_bind (wpAny_pure ?_)
   simp only [↓reduceIte]
   exact zkX (fun b s₁ Q' q=>by cases b <;> first | exact wpAny_pure q | exact wpAny_rule q) ho hx hd lt el1 pm1 hz1 fin
end
end Sx
namespace Sx
open PySem PySem.Spec
open PyProof.Rows (IntsAre)
noncomputable def dstep (d:List Int) (k:Int):List Int:=if k∈d then d else d ++ [k]
noncomputable def dd (l:List Int):List Int:=l.foldl dstep []
theorem zqo (l:List Int) (k:Int):dd (l ++ [k])=dstep (dd l) k:=by unfold dd;rw [List.foldl_append];rfl
theorem dd_len (l:List Int):(dd l).length≤l.length:=by
 unfold dd
 have:∀ (l d:List Int),(l.foldl dstep d).length≤d.length + l.length:=by
  intro l
  induction l with
  | nil=>intro d;exact Nat.le_refl _
  | cons k l ih =>
   intro d
   refine Nat.le_trans (ih _) ?_
   unfold dstep
   split
   ·rw [List.length_cons];lia
   ·rw [List.length_append,List.length_cons,List.length_cons,List.length_nil];lia
 simpa using this l []
def Sq1 (prog:Program) (w:World) (led:Bool) (S:Addr) (ds:List Int) (h:Heap):Prop:=∃ es ep t,SG prog w led h S es ep t ds
theorem Sq1.at {prog:Program} {w:World} {led:Bool} {S:Addr} {ds:List Int} {h h':Heap} (x:Sq1 prog w led S ds h) (e:∀ o,h.get? S=some o→h'.get? S=some o):Sq1 prog w led S ds h':=let ⟨es,ep,t,y⟩:=x;⟨es,ep,t,y.at e⟩
section
variable {prog:Program} {w:World} {A:Around} {R:Result→Shared→Prop} {I S:Addr} {fp wr:List Addr} {G:Array GenState→Array GenState→Prop} {n:Nat} {P:Nat→Value→Prop} {St:Nat→Shared→Prop} {led:Bool} {ns:List Int}
theorem znM (W:WalksS prog w A.in1 I fp wr G n P St) (hn:n + 1 < scanBound) (hl:ns.length=n) (hSf:S∉fp) (hval:∀ i v,P i v→∃ k u,ns[i]? = some k∧v=.int k u) :
  ∀ (d i:Nat) (s:Shared),d + i=n→St i s→Sq1 prog w led S (dd (ns.take i)) s.heap →
   (∀ s',Moved (S :: wr) G s s'→Sq1 prog w led S (dd ns) s'.heap→R (.ok (.ret .none)) s') →
   codeAny (model prog w) A (.builtin "set.update.loop" ⟨[.ref S,.ref I],[]⟩) R s:=by
 have nS:S∉wr:=fun h=>hSf (W.sub _ h)
 intro d
 induction d with
 | zero =>
  intro i s hd st x hR
  obtain rfl:i=n:=by lia
  refine codeAny_builtin PyProof.Rows.F.entry_set_update_loop ?_
  rw [Around.under_plainId PyProof.Rows.F.plain_set_update_loop _]
  unfold Builtin.«set.update.loop»
  refine wpAny_bind (W.done s _ _ st fun s' mv=>?_)
  rw [List.take_of_length_le (by lia)] at x
  exact wpAny_pure (hR s' (mv.mono fun b hb=>List.mem_cons_of_mem _ hb) (x.at fun o e=>mv.heap S o nS e))
 | succ d ih =>
  intro i s hd st x hR
  refine codeAny_builtin PyProof.Rows.F.entry_set_update_loop ?_
  rw [Around.under_plainId PyProof.Rows.F.plain_set_update_loop _]
  unfold Builtin.«set.update.loop»
  refine wpAny_bind (W.item i s _ _ (by lia) st fun v s' hP st' mv=>?_)
  obtain⟨k,u,hk,rfl⟩:=hval i v hP
  have et:ns.take (i + 1)=ns.take i ++ [k]:=by rw [List.take_add_one,hk];rfl
  refine wpAny_bind (wpAny_holding ?_)
  unfold setAdd
  refine wpAny_holding (wpAny_bind ((intKind prog w).pyHash (k:=k) (intKind_is _ _ _ _) ?_))
  obtain⟨es,ep,t,y⟩:=x
  have hz:es.size≤i:=by
   have h1:=y.pm.length_eq
   have h2:=dd_len (ns.take i)
   rw [List.length_map,Array.length_toList] at h1
   rw [List.length_take] at h2
   lia
  refine zpl (led:=led) (s:={ s' with toks:=s'.toks + 1 }) (y.at fun o e=>mv.heap S o nS e) (by lia) fun b h' es' ep' t' sb y'=>?_
  refine wpAny_pure ⟨plainId_quiet PyProof.Rows.F.plain_set_update_loop _,ih (i + 1) _ (by lia) (W.frame _ s' _ _ st' (Nat.le_succ _) fun c hc o e=>?_) ⟨es',ep',t',by rw [et,zqo];exact y'⟩ fun s2 m2 x2=>?_⟩
  ·rw [sb.2 c fun q=>hSf (q ▸ hc)];exact e
  ·refine hR s2 (Moved.trans W.gtrans ((mv.mono fun c hc=>List.mem_cons_of_mem _ hc).then_heap (Nat.le_succ _) fun c o hc e=>?_) m2) x2
   rw [sb.2 c fun q=>hc (q ▸ List.mem_cons_self)];exact e
end
section
variable {prog:Program} {w:World} {A:Around} {E:Value→Shared→Prop} {s:Shared}
theorem zok {h:Heap} {S:Addr} {led:Bool} (g:h.get? S=some (oS0 led)):Sq1 prog w led S (dd []) h:=
 ⟨#[],0,.fresh 0 0 led,⟨_,g,⟨rfl,rfl,rfl⟩,rfl⟩,⟨rfl,List.Pairwise.nil,rfl⟩,fun e he=>by simp at he,.refl _⟩
theorem zog {its:Array Value} {ns:List Int} (h:IntsAre its.toList ns) (i:Nat) (v:Value) (e:its[i]? = some v):∃ k u,ns[i]? = some k∧v=Value.int k u:=by
 rw [← Array.getElem?_toList] at e
 generalize its.toList=l at h e
 induction h generalizing i with
 | nil=>simp at e
 | cons k u r ih =>
  cases i with
  | zero=>simp at e;exact⟨k,u,by simp,e.symm⟩
  | succ i=>simpa using ih i (by simpa using e)
set_option maxHeartbeats 3200000 in
theorem zlV {l S:Addr} {its:Array Value} {led:Bool} {ns:List Int} {R:Result→Shared→Prop} (hh:A.handled=none) (g0:s.heap.get? S=some (oS0 led)) (hl:s.heap.IsList l its) (hne:l≠S) (hn:its.size + 1 < scanBound)
  (hi:IntsAre its.toList ns)
  (h:∀ (h':Heap) (tk:Nat),Sq1 prog w led S (dd ns) h'→(∀ b o,b≠S→s.heap.get? b=some o→h'.get? b=some o)→s.toks≤tk→R (.ok (.ret .none)) { s with heap:=h',toks:=tk }) :
  codeAny (model prog w) A (.call (.builtin "set.__init__") ⟨[.ref S,.ref l],[]⟩) R s:=by
 have hT:s.TypeIs (.ref S) "set" := ⟨_,g0,rfl⟩
 refine codeAny_call_builtin F.called_set.init.plain F.entry_set_init (check_set_init_1 hT ?_)
 obtain⟨ol,hol,hcl,nl,hdl⟩:=id hl
 obtain⟨ocls,odict,odata,oslots⟩:=ol
 simp only at hcl hdl
 subst hcl hdl
 have w1:=F.sub_list_set
 have w2:=F.sub_list_frozenset
 have w3:(Value.type "list" == Value.type "dict")=false:=by decide
 have g0':=g0
 unfold oS0 at g0
 unfold Builtin.«set.__init__» noKeywords Builtin.Frozenset.updateFrom
 generalize hPI:pyIter=PI
 wp_walk
 subst hPI
 refine wpAny_pyIter_list hl ?_
 refine wpAny_bind (wpAny_runValue ?_)
 have nI:l≠s.heap.objs.size:=Nat.ne_of_lt (Heap.lt_size hol)
 have nS:S≠s.heap.objs.size:=Nat.ne_of_lt (Heap.lt_size g0)
 have hlen:ns.length=its.size:=by have:=hi.length;rw [Array.length_toList] at this;lia
 refine znM (led:=led) (n:=its.size) ((Walks.list (by simp [hh]) _ l nI its).toS) (S:=S) hn hlen (by simp [nS,Ne.symm hne]) (zog hi) its.size 0 _ rfl ⟨⟨_,Heap.get?_push_size _ rfl,rfl,rfl⟩,hl.push _⟩ (zok (Heap.get?_push_of_some _ g0')) fun s' mv x=>?_
 obtain⟨h',g',d',tk',os'⟩:=s'
 obtain rfl:g'=s.gens:=mv.gens
 obtain rfl:d'=s.drawn:=mv.drawn
 obtain rfl:os'=s.os:=mv.os
 refine wpAny_pure (wpAny_pure (h h' tk' x (fun b o hb e=>mv.heap b o ?_ (Heap.get?_push_of_some _ e)) mv.toks))
 simp only [List.mem_cons,List.not_mem_nil,or_false,not_or]
 exact⟨hb,Nat.ne_of_lt (Heap.lt_size e)⟩
set_option maxHeartbeats 3200000 in
theorem set_callG {l:Addr} {its:Array Value} {ns:List Int} {Q:Value→Shared→Prop} (hh:A.handled=none) (hl:s.heap.IsList l its) (hn:its.size + 1 < scanBound) (hi:IntsAre its.toList ns)
  (h:∀ (h':Heap) (tk:Nat),Sq1 prog w (ldOf w) s.heap.objs.size (dd ns) h'→(∀ b o,s.heap.get? b=some o→h'.get? b=some o)→s.toks≤tk→Q (.ref s.heap.objs.size) { s with heap:=h',toks:=tk }) :
  wpAny (model prog w) A (call (.type "set") [.ref l]) Q E s:=by
 obtain⟨c,tl,hmro⟩:=F.called_set.mro
 have w1:=F.called_set.made
 have w2:=F.called_set.sub
 have w3:=F.called_set.notType
 have w4:=F.called_set.canCreate
 have w5:=F.typeCall_set_1 (.ref l)
 refine wpAny_call (codeAny_of_tree ?_)
 show wpAny _ _ (callAny (Value.type "set") ⟨[Value.ref l],[]⟩) _ _ s
 refine wpAny_pure ⟨Code.quiet_builtin _ (by decide +kernel),?_⟩
 refine codeAny_builtin F.entry_type_call ?_
 rw [Around.under_plain (weight_type_call_type "set" [.ref l] []) rfl]
 repeat (any_goals (first | wp_step | assumption))
 refine codeAny_mono (zpx (w:=w) (.ref l) (R:=fun r s1=>r=.ok (.ret (.ref s.heap.objs.size))∧s1 = { s with heap:=s.heap.push (oS0 (ldOf w)) }) ⟨rfl,rfl⟩) fun r s1 hr=>?_
 obtain⟨rfl,rfl⟩:=hr
 have g0:(s.heap.push (oS0 (ldOf w))).get? s.heap.objs.size=some (oS0 (ldOf w)):=Heap.get?_push_size _ rfl
 have hT:Shared.TypeIs { s with heap:=s.heap.push (oS0 (ldOf w)) } (.ref s.heap.objs.size) "set" := ⟨_,g0,rfl⟩
 have w6:=F.called_set.init.lookup
 have w7:=F.called_set.init.bind (.ref s.heap.objs.size)
 repeat (any_goals (first | wp_step | assumption))
 refine zlV (led:=ldOf w) (by simp [hh]) g0 (hl.push _) (Nat.ne_of_lt (let ⟨_,e,_⟩:=hl;Heap.lt_size e)) hn hi fun h' tk x1 x2 x3=>?_
 exact wpAny_pure (wpAny_pure (h h' tk x1 (fun b o e=>x2 b o (Nat.ne_of_lt (Heap.lt_size e)) (Heap.get?_push_of_some _ e)) x3))
end
end Sx
namespace Sx
open PySem PySem.Spec
section
variable (w:World) (S:Addr) (es:Array (Int×Value)) (ep:Nat) (t:SetTable) (tp:Option (Addr×List Nat))
end
section
variable {prog:Program} {w:World} {A:Around} {E:Value→Shared→Prop} {s:Shared} {S I:Addr} {es:Array (Int×Value)} {ep:Nat} {t:SetTable} {ds:List Int} {tp:Option (Addr×List Nat)} {i:Nat}
end
end Sx
namespace Sx
open PySem PySem.Spec
section
variable {prog:Program} {w:World} {A:Around} {E:Value→Shared→Prop} {s:Shared} {S I:Addr} {es:Array (Int×Value)} {ep:Nat} {t:SetTable} {ds:List Int} {tp:Option (Addr×List Nat)} {i:Nat}
end
end Sx
namespace Sx
open PySem PySem.Spec
section
variable {prog:Program} {w:World} {A:Around} {E:Value→Shared→Prop} {s:Shared} {S I:Addr} {es:Array (Int×Value)} {ep:Nat} {t:SetTable} {ds:List Int} {tp:Option (Addr×List Nat)} {i:Nat}
end
end Sx
namespace Sx
open PySem PySem.Spec
open PyProof.Rows (IntsAre)
section
variable {prog:Program} {w:World} {A:Around} {E:Value→Shared→Prop} {s:Shared} {S:Addr} {es:Array (Int×Value)} {ep:Nat} {t:SetTable} {ds:List Int}
open PyProof.Rows Srt in
end
end Sx
namespace TL
open PySem PySem.Spec L2
section
variable {X:Cx} {z:Z} {md md1:Md} {F:VEnv→Res T} {e:Expr} {t:TE} {p1 p2 p3 p4:Pos}
end
end TL
namespace TL
open PySem PySem.Spec L2
section
variable {X:Cx} {z:Z} {K:PySem.W.Frag} {f c q k:Nat}
variable {x:Str} {eT eM fe1 fe2 ce iter:Expr} {mT mM:List T→Res T} {pos p1 p2 p3 p4 p5 p6 p7 p8:Pos} {nm:Str}
end
end TL
namespace TL
open PySem PySem.Spec L2
section
variable {X:Cx} {z:Z} {K:PySem.W.Frag} {H:Hp} {S:Addr→Prop} {i:Nat} {a:Expr} {pos p1 p2 p3 p4:Pos}
end
end TL
namespace TL
open PySem PySem.Spec L2
section
variable {X:Cx} {z:Z} {K:PySem.W.Frag} {F:VEnv→Res T} {e b:Expr} {pos:Pos}
end
section
variable {X:Cx} {z:Z} {K:PySem.W.Frag} {i:Nat}
variable {p q:Nat} {x y:Str} {a a' a2 e:Expr} {pos p1 p2 p3 p4 p5 p6:Pos}
end
end TL
namespace L2
open PySem PySem.Spec PySem.W PySem.Builtin PySem.Builtin.ObjectAttr PySem.Builtin.Getset_descriptor
open PyProof.Rows hiding InstAt
section
variable {prog:Program} {w:World} {A:Around} {E:Value→Shared→Prop} {K:Frag} {x D:Addr} {ox:Obj}
end
end L2
namespace L2
open PySem PySem.Spec PyProof.Rows
section
variable {P:Program} {w:World} {K:PySem.W.Frag} {mg:Str→Option Value} {base:Heap} {N ps:List Str} {qual x:Str} {st:Stmt} {f a:Addr} {fd:FuncData} {cd:Value} {A:Around} {outer:List Env} {s s1:Shared} {H:Hp} {oe:Obj} {us:List Value} {vs:List V} {scope:Scope}
end
end L2
namespace TL
open PySem PySem.Spec L2
open PyProof.Rows hiding St InstAt
section
variable {X:Cx} {z:Z} {md md1 md2:Md} {F1 F2:VEnv→Res T} {Fs:VEnv→Res (List T)} {a b e:Expr} {es:List Expr} {pos p p1 p2 p5:Pos} {i:Nat}
end
end TL
namespace TL
open PySem PySem.Spec L2
noncomputable def cLS:T→Option T
 | .lst ts=>(za3 ts).bind fun ns=>if ns.length≤1000 then some (.sc (.int ((Sx.dd ns).length:Nat))) else none
 | _=>none
noncomputable def eLS (F:VEnv→Res T):VEnv→Res T:=fun ρ=>(F ρ).bind fun t=>.of (cLS t)
def tLS (t:TE):TE:=fun σ H Q=>t σ H fun v H1=>∃ (a:Addr) (ns:List Int),v=.ref a∧H1 a=some (.lst (ns.map V.int))∧ns.length≤1000∧Q (.int ((Sx.dd ns).length:Nat)) H1
section
variable {X:Cx} {z:Z} {md md1:Md} {F:VEnv→Res T} {e:Expr} {t:TE} {p1 p2 p3 p4:Pos}
theorem zs0 (hc:X.calm=true) (hg:Gl X "len") (hm:X.mg "len" = none) (hg2:Gl X "set") (hm2:X.mg "set" = none) (he:PE X e t)
  (s1:starEach [.Call (.Name "set" p1) [e] [] p2] X.env=[(false,eval (.Call (.Name "set" p1) [e] [] p2) X.env)]:=by rfl) (s2:starEach [e] X.env=[(false,eval e X.env)]:=by rfl) :
  PE X (.Call (.Name "len" p3) [.Call (.Name "set" p1) [e] [] p2] [] p4) (tLS t):=by
 intro pins s σ H Q I h
 refine wpAny_Call_Name_kw (zdl I hg hm PySem.boot_len ?_)
 refine PyProof.Rows.callWith_builtin1 ?_ s1 rfl
 rw [s1]
 refine Calls.spliced_cons ?_
 refine wpAny_Call_Name_kw (zdl I hg2 hm2 zr8 ?_)
 refine PyProof.Rows.callWith_type1 ?_ s2 rfl
 rw [s2]
 refine Calls.spliced_cons (thn (he pins s σ H _ I h) fun u s1 ⟨v,H1,I1,r1,a,ns,e1,e2,e3,q⟩=>?_)
 subst e1
 cases r1
 obtain⟨its,i1,i2,hz,hl⟩:=zcl I1 e2 rfl
 have z1:its.toArray.size + 1 < scanBound:=by rw [List.size_toArray,hl];unfold scanBound;lia
 refine Calls.spliced_nil (Sx.set_callG (I1.ok.hd hc) i2 z1 (by simpa using i1) fun h' tk x1 x2 x3=>?_)
 obtain⟨es,ep,tb,x1⟩:=x1
 have dl:=Sx.dd_len ns
 have ee:es.size=(Sx.dd ns).length:=by
  have:=x1.pm.length_eq
  rw [List.length_map,Array.length_toList] at this
  exact this
 obtain⟨o,ho,hx,hd⟩:=x1.ob
 refine Calls.spliced_nil (call_len_set (s:={ s1 with heap:=h',toks:=tk }) ho hx hd x1.tok.fit (by lia) ?_)
 rw [ee]
 exact⟨.int _,H1,I1.kept (t':=tk + 1 + 1) fun b o w=>x2 b o w,⟨_,rfl⟩,q⟩
theorem zm3 (hc:X.calm=true) (hg:Gl X "len") (hm:X.mg "len" = none) (hg2:Gl X "set") (hm2:X.mg "set" = none) (he:JE X z md1 F e)
  (s1:starEach [.Call (.Name "set" p1) [e] [] p2] X.env=[(false,eval (.Call (.Name "set" p1) [e] [] p2) X.env)]:=by rfl) (s2:starEach [e] X.env=[(false,eval e X.env)]:=by rfl) :
  JE X z md (eLS F) (.Call (.Name "len" p3) [.Call (.Name "set" p1) [e] [] p2] [] p4):=
 PE.imp (zs0 hc hg hm hg2 hm2 (JE.al he) s1 s2) fun σ H Q h=>zeD h fun S ρ t v H1 S1 o _ g1 d q=>by
  unfold cLS at q
  split at q
  ·rename_i ts0 ts
   cases ea:za3 ts0 with
   | none=>rw [ea] at q;exact (show False from q).elim
   | some ns =>
    rw [ea] at q
    replace q:endE X.K z H1 S1 md Q (.of (if ns.length≤1000 then some (.sc (.int ((Sx.dd ns).length:Nat))) else none)):=q
    split at q
    ·rename_i le
     obtain⟨_,a,vs,rfl,hS,h1,h2⟩:=zah.mp d
     have ev:=zb4 h2 ea
     subst ev
     exact⟨a,ns,rfl,h1,le,zfN (z:=z) q _ _ S1 [] (Got.sc g1.dom _)⟩
    ·exact (show False from q).elim
  ·exact (show False from q).elim
end
end TL
set_option maxRecDepth 1000000
namespace TL
open PySem PySem.Spec L2
section
variable {X:Cx} {z:Z} {md md1 md2:Md} {F:VEnv→Res T} {a b e:Expr} {es:List Expr} {pos p p1 p2 p5:Pos} {i j:Nat} {K:PySem.W.Frag} {H:Hp} {S:Addr→Prop} {As:Nat→List Addr} {ρ:SEnv} {σ:St}
theorem Ok.lose (o:Ok K z S As ρ σ H) (j:Nat):Ok K z S (fun k=>if k=j then [] else As k) (ρ.set j none) σ H:=by
 refine ⟨o.same,o.dom,by rw [List.length_set];exact o.ln,o.s0,o.s1,fun k=>?_,fun k b hb=>?_,fun k l hkl b hb hc=>?_,fun k m t e=>?_⟩
 ·by_cases hk:k=j
  ·rw [if_pos hk];exact List.nodup_nil
  ·rw [if_neg hk];exact o.nd k
 ·by_cases hk:k=j
  ·rw [if_pos hk] at hb;cases hb
  ·rw [if_neg hk] at hb;exact o.ow k b hb
 ·by_cases hk:k=j
  ·rw [if_pos hk] at hb;cases hb
  ·rw [if_neg hk] at hb
   by_cases hl:l=j
   ·rw [if_pos hl] at hc;cases hc
   ·rw [if_neg hl] at hc;exact o.dj k l hkl b hb hc
 ·by_cases hk:k=j
  ·subst hk
   by_cases hlt:k < ρ.length
   ·rw [List.getElem?_set_self hlt] at e;cases e
   ·rw [List.getElem?_eq_none (by rw [List.length_set];lia)] at e;cases e
  ·rw [List.getElem?_set_ne (Ne.symm hk)] at e
   rw [if_neg hk]
   exact o.sl k m t e
noncomputable def zj3 (i j:Nat):SEnv→SRes:=fun ρ=>match ρ[i]?,ρ[j]? with
 | some (some (.fu,.lst ts)),some (some (.fu,t))=>if i≠j∧ts.length < sizeLine then .nx ((ρ.set j none).set i (some (.fu,.lst (ts ++ [t])))) else .bad
 | _,_=>.bad
theorem zod (hx:PE X a (tVar i)) (he:PE X e (tVar j)) (hbase:attributeBase a "append" X.env (eval a X.env)=eval a X.env:=by rfl)
  (hfew:((backTo p2 (starEach [e] X.env)).all (fun x=>!x.1) && (backToKw p2 (keywordEach [] X.env)).all (fun x=>x.1.isSome) && decide ([e].length + ([]:List Keyword).length + (if ([]:List Keyword).isEmpty then 0 else 1) < 30))=true:=by rfl)
  (hline:(p1.endLine == p2.line)=true:=by rfl) (hst:starEach [e] X.env=(false,eval e X.env) :: starEach [] X.env:=by rfl) (hplain:(backTo p2 (starEach [] X.env)).any (·.1)=false:=by rfl)
  (hs:swapsWith (.Call (.Attribute a "append" p1) [e] [] p2) none pos.line X.env=pure false:=by rfl):JS X z (zj3 i j) (.Expr (.Call (.Attribute a "append" p1) [e] [] p2) pos):=
 PS.imp (zfw (zn0 PySem.F.plainAttrs_list PySem.F.slot_list_append PySem.F.type_list_append zh0 hx (zcR he zeZ hst) hbase hfew hline hst hplain) hs) fun D σ H h=>by
  obtain⟨S,As,ρ,o,h⟩:=h
  unfold zj3 at h
  split at h
  rotate_left
  ·exact (show False from h).elim
  rename_i ts t e1 e2
  split at h
  rotate_left
  ·exact (show False from h).elim
  rename_i hc
  obtain⟨hij,hz⟩:=hc
  obtain⟨v,hv,d⟩:=o.sl i _ _ e1
  obtain⟨a0,vs,A',rfl,ea,h1,h2⟩:=zaq.mp d
  obtain⟨y,hy,dy⟩:=o.sl j _ _ e2
  have ha:a0∈As i:=by rw [ea];exact List.mem_cons_self ..
  obtain⟨a1,a2,a3⟩:=o.ow i a0 ha
  have o1:=o.lose j
  have nj:a0∉As j:=o.dj i j hij a0 ha
  have nd:=o.nd i
  rw [ea] at nd
  have ha1:a0∈(fun k=>if k=j then [] else As k) i:=by show a0∈(if i=j then [] else As i);rw [if_neg hij];exact ha
  have hi:i < (ρ.set j none).length:=by rw [List.length_set];exact zbr e1
  refine ⟨_,hv,.inl ⟨rfl,vs,.of h1⟩,_,hy,a0,vs,y,rfl,rfl,h1,by rw [h2.length];exact hz,h S _ σ _ (o1.wr hi ha1 h1 hv (vs':=vs ++ [y]) (A':=a0 :: (A' ++ As j)) (zaq.mpr ⟨a0,_,_,rfl,rfl,zaR,?_⟩) ?_ fun b hb=>?_) (zcu a1 h1)⟩
  ·exact (zbX h1 a1 (List.nodup_cons.mp nd).1 h2).append (by simpa using Dens.cons (zfQ h1 a1 nj dy) Dens.nil)
  ·refine List.nodup_cons.mpr ⟨fun q=>?_,List.nodup_append.mpr ⟨(List.nodup_cons.mp nd).2,o.nd j,fun b hb c hc q=>?_⟩⟩
   ·rcases List.mem_append.mp q with q | q
    ·exact (List.nodup_cons.mp nd).1 q
    ·exact nj q
   ·subst q
    exact o.dj i j hij b (by rw [ea];exact List.mem_cons_of_mem _ hb) hc
  ·rcases List.mem_cons.mp hb with q | q
   ·rw [q];exact .inl ha1
   ·rcases List.mem_append.mp q with q | q
    ·left
     show b∈(if i=j then [] else As i)
     rw [if_neg hij,ea];exact List.mem_cons_of_mem _ q
    ·obtain⟨b1,b2,b3⟩:=o.ow j b q
     refine .inr ⟨fun k w=>?_,b1,b2,b3⟩
     by_cases hk:k=j
     ·replace w:b∈(if k=j then [] else As k):=w
      rw [if_pos hk] at w;cases w
     ·replace w:b∈(if k=j then [] else As k):=w
      rw [if_neg hk] at w
      exact o.dj k j hk b w q
theorem zkG:∀ (ws:List V) (m:Md),Dens K H S (ws.map T.sc) m [] ws
 | [],m=>Dens.nil
 | w :: ws,m=>Dens.cons (A1:=[]) (A2:=[]) (zet w) (zkG ws m)
theorem zj2:∀ {ws:List V} {A:List Addr} {vs:List V},Dens K H S (ws.map T.sc) .fu A vs→A=[]∧vs=ws
 | [],A,vs,d=>by unfold List.map Dens at d;exact d
 | w :: ws,A,vs,d=>by
  rw [List.map_cons] at d
  unfold Dens at d
  obtain⟨A1,A2,v,vs',rfl,rfl,d1,d2⟩:=d
  obtain⟨rfl,rfl⟩:=zaf.mp d1
  obtain⟨rfl,rfl⟩:=zj2 d2
  exact⟨rfl,rfl⟩
theorem zgt:∀ {rows:List (List T)} {A:List Addr} {vs:List V},Dens K H S (rows.map T.lst) .fu A vs→∃ (wss:List (List V)) (B:List Addr),
  (∀ S2:Addr→Prop,(∀ b∈A,S2 b)→Dens K H S2 (wss.map fun ws=>T.lst (ws.map T.sc)) .al [] vs)∧Dens K H S rows.flatten .fu B wss.flatten∧B.Sublist A∧wss.flatten.length=rows.flatten.length∧wss.length=rows.length
 | [],A,vs,d=>by
  unfold List.map Dens at d
  obtain⟨rfl,rfl⟩:=d
  exact⟨[],[],fun _ _=>Dens.nil,Dens.nil,List.Sublist.refl _,rfl,rfl⟩
 | r :: rows,A,vs,d=>by
  rw [List.map_cons] at d
  unfold Dens at d
  obtain⟨A1,A2,v,vs',rfl,rfl,d1,d2⟩:=d
  obtain⟨l,ws,A',rfl,rfl,h1,h2⟩:=zaq.mp d1
  obtain⟨wss,B,q1,q2,q3,q4,q5⟩:=zgt d2
  refine ⟨ws :: wss,A' ++ B,fun S2 hS=>?_,?_,?_,?_,?_⟩
  ·rw [List.map_cons]
   exact Dens.cons0 (zah.mpr ⟨rfl,l,ws,rfl,hS l (by simp),h1,zkG ws .al⟩) (q1 S2 fun b hb=>hS b (by simp [hb]))
  ·rw [List.flatten_cons,List.flatten_cons]
   exact h2.append q2
  ·exact ((List.Sublist.cons l (List.Sublist.refl A')).append q3)
  ·rw [List.flatten_cons,List.flatten_cons,List.length_append,List.length_append,q4,h2.length]
  ·rw [List.length_cons,List.length_cons,q5]
noncomputable def zge:List T→Option (List (List T))
 | []=>some []
 | .lst r :: ts=>(zge ts).map (r :: ·)
 | _ :: _=>none
theorem znF:∀ {ts:List T} {rows:List (List T)},zge ts=some rows→ts=rows.map T.lst
 | [],rows,h=>by unfold zge at h;cases h;rfl
 | t :: ts,rows,h=>by
  unfold zge at h
  split at h
  ·rename_i e;cases e
  ·rename_i r ts' e
   cases e
   cases e2:zge ts with
   | none=>rw [e2] at h;cases h
   | some q=>rw [e2] at h;cases h;rw [znF e2];rfl
  ·cases h
noncomputable def cJn:T→Option T
 | .lst ts=>(zge ts).bind fun rows=>if rows.flatten.length≤1000000∧rows.length≤1000000 then some (.lst rows.flatten) else none
 | _=>none
noncomputable def eJn (F:VEnv→Res T):VEnv→Res T:=fun ρ=>(F ρ).bind fun t=>.of (cJn t)
theorem ztn {k:Nat} {f:Addr} {fd:FuncData} {ps:List Str} {m:List T→Res T} {CX:CXT} {x:Str} (G:FnOk X.prog X.w X.K X.mg X.base CX k f fd ps (spT X.K z.cl 1 .fu m)) (hJ:∀ wss:List (List V),wss.flatten.length≤1000000→wss.length≤1000000→m [.lst (wss.map fun ws=>.lst (ws.map T.sc))]=.ok (.lst (wss.flatten.map T.sc))) (hr:Room k X.A) (hg:Gl X x) (hm:X.mg x=some (.ref f)) (hk:PySem.W.keepIn X.K (.ref f)=true)
  (hb:zbg X.K fd ps []) (hx:zgM CX X z.E) (he:JE X z .fu F e) (hdb:(x == ("__debug__" : Str))=false:=by decide) (hs:starEach [e] X.env=(false,eval e X.env) :: starEach [] X.env:=by rfl) (hpl:(backTo pos (starEach [] X.env)).any (·.1)=false:=by rfl) :
  JE X z .fu (eJn F) (.Call (.Name x p) [e] [] pos):=
 PE.imp (zmp G hr hg hm hk hb .nil hx (zcR he zeZ hs) hdb hs hpl) fun σ H Q h=>by
  obtain⟨S,ρ,o,h⟩:=h
  refine ⟨S,ρ,o,?_⟩
  unfold eJn at h
  try dsimp only at h
  cases e1:F ρ with
  | exc c=>rw [e1] at h;exact h
  | bad=>rw [e1] at h;exact h
  | ok t =>
   rw [e1,Res.bind_ok] at h
   intro v H1 S1 A g
   unfold cJn at h
   split at h
   rotate_left
   ·exact (show False from h).elim
   rename_i ts
   cases ea:zge ts with
   | none=>rw [ea] at h;exact (show False from h).elim
   | some rows =>
    rw [ea] at h
    replace h:endE X.K z H S .fu Q (.of (if rows.flatten.length≤1000000∧rows.length≤1000000 then some (.lst rows.flatten) else none)):=h
    split at h
    rotate_left
    ·exact (show False from h).elim
    rename_i hz
    obtain rfl:=znF ea
    obtain⟨a0,vs,A',rfl,rfl,h1,h2⟩:=zaq.mp g.den
    obtain⟨wss,B,q1,q2,q3,q4,q5⟩:=zgt h2
    have hown:=g.den.own
    refine ⟨fun b=>S1 b∨b∈a0 :: A',[.lst (wss.map fun ws=>.lst (ws.map T.sc))],rfl,fun b hb=>?_,?_,?_⟩
    ·rcases hb with hb | hb
     ·exact g.g.dom b hb
     ·obtain⟨ws,w⟩:=hown b hb
      rw [w];exact fun q=>by cases q
    ·rw [List.append_nil]
     exact Dens.cons0 (zah.mpr ⟨rfl,a0,vs,rfl,.inr (List.mem_cons_self ..),h1,q1 _ fun b hb=>.inr (List.mem_cons_of_mem _ hb)⟩) Dens.nil
    ·rw [hJ wss (by lia) (by lia)]
     intro v' H' S' A2 g2
     obtain⟨p0,us,A3,rfl,rfl,k1,k2⟩:=zaq.mp g2.den
     obtain⟨rfl,rfl⟩:=zj2 k2
     have hp:=(g2.ow p0 (by simp)).1
     have nd:=g.nd
     have nB:p0∉B:=fun w=>by
      obtain⟨ws,w'⟩:=hown p0 (List.mem_cons_of_mem _ (q3.mem w))
      rw [hp] at w';cases w'
     refine h (.ref p0) H' S1 (p0 :: B) ⟨⟨g.g.same.trans g2.g.same,g.g.up,g.g.new,fun b hb=>zbM g2.g.same (g.g.dom b hb)⟩,List.nodup_cons.mpr ⟨nB,q3.nodup (List.nodup_cons.mp nd).2⟩,fun b hb=>?_,zaq.mpr ⟨p0,_,B,rfl,rfl,k1,q2.mono g2.g.same fun _ w=>w⟩⟩
     rcases List.mem_cons.mp hb with w | w
     ·rw [w];exact⟨zba g.g.same hp,fun q=>g.g.dom p0 q hp⟩
     ·exact g.ow b (List.mem_cons_of_mem _ (q3.mem w))
end
end TL
namespace TL
open PySem PySem.Spec L2
noncomputable def selT (B:VEnv→Res Bool):List T→Res (List T)
 | []=>.ok []
 | t :: ts=>(B [some t]).no.bind fun b=>(selT B ts).bind fun us=>.ok (if b=true then t :: us else us)
noncomputable def zfe (i:Nat) (B:VEnv→Res Bool):SEnv→SRes:=fun ρ=>match ρ[i]? with
 | some (some (.fu,.lst ts))=>(match selT B ts with | .ok us=>if us.length≤sizeLine then .rt .fu (.lst us) else .bad | _=>.bad)
 | _=>.bad
section
variable {X:Cx} {z:Z} {elt tg iter c:Expr} {scope:Scope} {pos cpos:Pos} {i:Nat} {N':List Str} {Bt:VEnv→Res Bool}
theorem zlu (B:Blk X.env scope) (hix:ixOk X.N N' scope [none]=true) (hc:X.calm=true) (hx:PE X iter (tVar i)) (hg:∀ C s₂ H₂ fp pn,PG (cxB X N' scope C s₂ H₂ fp pn) tg (ze7 0))
  (ht:∀ C s₂ H₂ fp pn,PT (cxB X N' scope C s₂ H₂ fp pn) c (trb X.K (nev z) Bt)) (he:∀ C s₂ H₂ fp pn,PE (cxB X N' scope C s₂ H₂ fp pn) elt (tVar 0)) (hs:∀ x,foldedSetIterable iter X.env x=pure x:=by intro _;rfl) :
  JS X z (zfe i Bt) (.Return (some (.ListComp elt [⟨tg,iter,[c],0⟩] scope cpos)) pos):=
 PS.imp (zmf (zj9 B hix hc (zml hx) hg ht he hs)) fun D σ H h=>by
  obtain⟨S,As,ρ,o,h⟩:=h
  unfold zfe at h
  split at h
  rotate_left
  ·exact (show False from h).elim
  rename_i ts e1
  cases es:selT Bt ts with
  | bad=>rw [es] at h;exact (show False from h).elim
  | exc c=>rw [es] at h;exact (show False from h).elim
  | ok us =>
   rw [es] at h
   dsimp only at h
   split at h
   rotate_left
   ·exact (show False from h).elim
   rename_i hz
   obtain⟨v,hv,d⟩:=o.sl i _ _ e1
   obtain⟨a0,vs,A',rfl,ea,h1,h2⟩:=zaq.mp d
   have nd:=o.nd i
   rw [ea] at nd
   have mA:∀ b∈A',b∈As i:=fun b hb=>by rw [ea];exact List.mem_cons_of_mem _ hb
   have d1:Dom (fun b=>S b∨b∈As i) H:=fun b hb=>hb.elim (o.dom b) fun q=>(o.ow i b q).2.2
   have lv:=h2.length
   refine ⟨_,hv,a0,rfl,⟨vs,.of h1⟩,fun k m acc σ2 H2=>m=ts.length - k∧k≤ts.length∧σ2.length=1∧∃ S2 us1 us2 A1 A2,us=us1 ++ us2∧selT Bt (ts.drop k)=.ok us2∧Dens X.K H2 S us1 .fu A1 acc∧Dens X.K H2 S (ts.drop k) .fu A2 (vs.drop k)∧(A1 ++ A2).Nodup∧(∀ b∈A1 ++ A2,b∈A')∧Grow H (fun b=>S b∨b∈As i) H2 S2,
    ⟨ts.length,rfl,Nat.zero_le _,rfl,_,[],us,[],A',rfl,es,Dens.nil,h2,(List.nodup_cons.mp nd).2,fun b hb=>hb,.refl d1⟩,?_⟩
   rintro k m acc σ2 H2 ⟨rfl,hk,hl,S2,us1,us2,A1,A2,hu,hm,da,db,ndA,sub,gr⟩
   have hH2:H2 a0=some (.lst vs):=gr.same _ _ h1
   refine ⟨by rw [da.length];rw [hu,List.length_append] at hz;lia,?_⟩
   by_cases hlt:k < ts.length
   ·have hlv:k < vs.length:=by lia
    refine .inr ⟨⟨vs,vs[k],.of hH2,List.getElem?_eq_getElem hlv⟩,fun x H3 y=>?_⟩
    obtain⟨e3,y⟩:=y
    have e3':=e3.symm
    subst e3'
    have ex:=y vs (.of hH2)
    rw [List.getElem?_eq_getElem hlv] at ex
    cases ex
    rw [List.drop_eq_getElem_cons hlt] at hm db
    rw [List.drop_eq_getElem_cons hlv] at db
    unfold Dens at db
    obtain⟨A3,A4,v,vs',rfl,e2,d3,d4⟩:=db
    cases e2
    have m3:∀ b∈A3,b∈A':=fun b hb=>sub b (by simp [hb])
    have dal:Den X.K H2 S2 ts[k] .al [] vs[k]:=d3.out (fun b hb=>gr.up b (.inl hb)) fun b hb=>gr.up b (.inr (mA b (m3 b hb)))
    have hs0:(σ2.set 0 (some vs[k]))[0]? = some (some vs[k]):=List.getElem?_set_self (by lia)
    refine ⟨S2,[some ts[k]],⟨o.same.trans gr.same,gr.dom,fun n t en=>?_⟩,?_⟩
    ·cases n with
     | zero=>simp at en;subst en;exact⟨_,hs0,dal⟩
     | succ n=>simp at en
    ·unfold selT at hm
     cases eb:Bt [some ts[k]] with
     | bad=>rw [eb] at hm;cases hm
     | exc c=>rw [eb] at hm;cases hm
     | ok b =>
      rw [eb,Res.no_ok,Res.bind_ok] at hm
      intro H5 S5 g5
      cases er:selT Bt (ts.drop (k + 1)) with
      | bad=>rw [er] at hm;cases hm
      | exc c=>rw [er] at hm;cases hm
      | ok us3 =>
       rw [er,Res.bind_ok] at hm
       have gr5:=gr.trans g5
       have lt5:ts.length - (k + 1) < ts.length - k:=by lia
       have l5:(σ2.set 0 (some vs[k])).length=1:=by rw [List.length_set];exact hl
       cases b with
       | false =>
        rw [if_neg (by decide)] at hm ⊢
        cases hm
        refine ⟨_,lt5,rfl,hlt,l5,S5,us1,us2,A1,A4,hu,er,da.mono g5.same fun _ q=>q,d4.mono g5.same fun _ q=>q,?_,fun b hb=>sub b ?_,gr5⟩
        ·exact ndA.sublist ((List.Sublist.refl A1).append (List.sublist_append_right A3 A4))
        ·rcases List.mem_append.mp hb with q | q <;> simp [q]
       | true =>
        rw [if_pos rfl] at hm ⊢
        cases hm
        refine ⟨_,hs0,_,lt5,rfl,hlt,l5,S5,us1 ++ [ts[k]],us3,A1 ++ A3,A4,by rw [hu,List.append_assoc];rfl,er,?_,d4.mono g5.same fun _ q=>q,by rw [List.append_assoc];exact ndA,fun b hb=>sub b (by rw [← List.append_assoc];exact hb),gr5⟩
        have:=Dens.cons (d3.mono g5.same fun _ q=>q) (Dens.nil (K:=X.K) (H:=H5) (S:=S) (m:=.fu))
        rw [List.append_nil] at this
        exact (da.mono g5.same fun _ q=>q).append this
   ·have ek:k=ts.length:=by lia
    subst ek
    rw [List.drop_length] at hm
    unfold selT at hm
    cases hm
    rw [List.append_nil] at hu
    subst hu
    refine .inl ⟨⟨vs,.of hH2,by lia⟩,fun p hp=>?_⟩
    exact h _ _ S _ (Got.newFu ⟨⟨o.same.trans gr.same,o.s0,o.s1,fun b hb=>zbM gr.same (o.dom b hb)⟩,(List.nodup_append.mp ndA).1,fun b hb=>⟨(o.ow i b (mA b (sub b (by simp [hb])))).2.1,(o.ow i b (mA b (sub b (by simp [hb])))).1⟩,da⟩ hp)
end
end TL
namespace TL
open PySem PySem.Spec L2
open PyProof.Rows hiding St
theorem zg1 {X:Cx} {P:Program} {w:World}:zgM (CXe P w) X (fun _ _ _=>False):=fun _ _ _ _ _ _ _ h=>by
 obtain⟨_,_,_,_,_,h⟩:=h
 exact h.elim
theorem sz1:1≤sizeLine:=by decide
theorem sz2:2≤sizeLine:=by decide
def spL (K:PySem.W.Frag):Sp:=fun vs H Q _=>∃ (a:Addr) (ns:List Int),vs=[.ref a]∧Scr K H a ns∧ns.length≤63∧∀ H',Q (.bl true) H'
theorem law_fn {P:Program} {w:World} {K:PySem.W.Frag} {mg:Str→Option Value} {base:Heap} {k j:Nat} {f:Addr} {fd:FuncData} {cl:Nat→Addr} {m:List T→Res T} {x:Str} (F:FnOk P w K mg base (CXe P w) k f fd [x] (spT K cl 1 .fu m)) (hk:k≤j)
  (hm:∀ ns:List Int,ns.length≤63→m [.scr ns]=.ok (.sc (.bl true))):FnOk P w K mg base (CXe P w) j f fd [x] (spL K):=
 (F.mono hk).imp fun vs H Q E h=>by
  obtain⟨a,ns,rfl,hs,hl,q⟩:=h
  refine ⟨fun _=>False,[.scr ns],rfl,fun _ z=>z.elim,?_,?_⟩
  ·unfold Dens
   exact⟨[],[],.ref a,[],rfl,rfl,zjk.mpr ⟨rfl,a,rfl,hs⟩,by unfold Dens;exact⟨rfl,rfl⟩⟩
  ·rw [hm ns hl]
   intro v H' S' A g
   obtain⟨_,rfl⟩:=zaf.mp g.den
   exact q H'
theorem zbB {K:PySem.W.Frag} {a c:Value} {b:Bool} (h:PySem.W.exmOne K a c=some b):PySem.W.kitCls K a c=some b:=by
 unfold PySem.W.exmOne at h
 split at h
 ·exact h
 ·cases h
theorem zq1 {K:PySem.W.Frag} {H:Hp} {a:Addr} {ns:List Int} (hO:Only H) (hS:SqL K H a (ns.map V.int)):Scr K H a ns:=by
 rcases hS with (h | h) | h
 ·rcases hO a with q | ⟨o,xs,q⟩
  ·rw [q] at h;cases h
  ·rw [q] at h;cases h
 ·exact .inl h
 ·exact .inr h
theorem walk {l:PySem.W.OpenLaw} {q:Program} {loose:List Str} {XP:(Str→Option Value)→Heap→Prop} {YP:World→Heap→Prop} {d:DefRec} {K:Params→PySem.W.Frag} (hn:l.most=some 63) (hdf:d.params.defaults=[])
  (hY:∀ (w:World) (h:Heap),YP w h→(K w.params).In h)
  (F:∀ (w:World) (mg:Str→Option Value) (fa:Addr) (h:Heap),(K w.params).In h→h.Ns mainGlobals mg→mg d.name=some (.ref fa) →
   ∃ fd:FuncData,(∀ (s:Shared) (u:Value),BindsTo s fd ⟨[u],[]⟩ [("script", u)])∧∀ base:Heap,(K w.params).In base→base.Ns mainGlobals mg→FnOk l.prog w (K w.params) mg base (CXe l.prog w) 12 fa fd ["script"] (spL (K w.params))) :
  PySem.W.WalkO q loose XP YP l.row.toRowW d [] (fun f vs=>PySem.call f vs):=
 L2.walk_of (n:=63) (k:=12) (x := "script") (CX:=fun w=>CXe l.prog w) (sp:=fun w=>spL (K w.params)) hn (by decide) hdf ⟨rfl,by decide,by decide⟩ hY F
  (fun w H a ns hl hO hS=>⟨a,ns,rfl,zq1 hO hS,hl,fun _=>rfl⟩) fun w H s e s' h=>by
   obtain⟨_,_,_,_,_,h⟩:=h
   exact h.elim
theorem zbA {α:Type} {P:List α→Prop} {us:List α} (hl:us.length=1) (h:∀ a,P [a]):P us:=match us,hl with | [a],_=>h a
theorem zgs {α:Type} {P:List α→Prop} {us:List α} (hl:us.length=2) (h:∀ a b,P [a,b]):P us:=match us,hl with | [a,b],_=>h a b
theorem zo6 {α:Type} {P:List α→Prop} {us:List α} (hl:us.length=3) (h:∀ a b c,P [a,b,c]):P us:=match us,hl with | [a,b,c],_=>h a b c
end TL
namespace TL
open PySem PySem.Spec L2
@[simp] theorem zpz (R1 R2:SEnv→SRes) (ρ:SEnv):sSeq R1 R2 ρ=((R1 ρ).then R2):=rfl
@[simp] theorem zsM (md:Md) (M:List Bool) (F:VEnv→Res T) (ρ:SEnv):sRet md M F ρ=((F (view M ρ)).sthen fun t=>.rt md t):=rfl
@[simp] theorem zsL (i:Nat) (M:List Bool) (F:VEnv→Res T) (ρ:SEnv):sSet i M F ρ=((F (view M ρ)).sthen fun t=>if i < ρ.length then .nx (ρ.set i (some (.fu,t))) else .bad):=rfl
@[simp] theorem zsj (md:Md) (i:Nat) (M:List Bool) (F:VEnv→Res T) (ρ:SEnv):zl3 md i M F ρ=((F (view M ρ)).sthen fun t=>if i < ρ.length then .nx ((zaI M ρ).set i (some (md,t))) else .bad):=rfl
@[simp] theorem ztL (M:List Bool) (B:VEnv→Res Bool) (R1 R2:SEnv→SRes) (ρ:SEnv):sIf M B R1 R2 ρ=((B (view M ρ)).sthen fun b=>if b=true then R1 ρ else R2 ρ):=rfl
@[simp] theorem zsn (M:List Bool) (F:VEnv→Res T) (ρ:SEnv):zgY M F ρ=((F (view M ρ)).sthen fun _=>.nx ρ):=rfl
@[simp] theorem zr2 (g:T→T→Option T) (F1 F2:VEnv→Res T) (ρ:VEnv):eOp g F1 F2 ρ=((F1 ρ).bind fun t=>(F2 ρ).bind fun u=>.of (g t u)):=rfl
@[simp] theorem eB_ap (F:VEnv→Res T) (ρ:VEnv):eB F ρ=((F ρ).bind fun t=>.of (asB t)):=rfl
@[simp] theorem ztE (B1 B2:VEnv→Res Bool) (ρ:VEnv):bAnd B1 B2 ρ=((B1 ρ).bind fun b=>if b=true then B2 ρ else .ok false):=rfl
@[simp] theorem zua (B1 B2:VEnv→Res Bool) (ρ:VEnv):bOr B1 B2 ρ=((B1 ρ).bind fun b=>if b=true then .ok true else B2 ρ):=rfl
@[simp] theorem ztJ (F1 F2:VEnv→Res T) (ρ:VEnv):vOr F1 F2 ρ=((F1 ρ).bind fun t=>(Res.of (asB t)).bind fun b=>if b=true then .ok (.sc (.bl true)) else F2 ρ):=rfl
@[simp] theorem eC_ap (v:V) (ρ:VEnv):eC v ρ=(.ok (.sc v)):=rfl
@[simp] theorem zqt  (ρ:VEnv):aNil ρ=(.ok []):=rfl
@[simp] theorem zoD (F:VEnv→Res T) (Fs:VEnv→Res (List T)) (ρ:VEnv):zae F Fs ρ=((F ρ).bind fun t=>(Fs ρ).bind fun ts=>.ok (t :: ts)):=rfl
@[simp] theorem ztB (Fs:VEnv→Res (List T)) (ρ:VEnv):eLst Fs ρ=((Fs ρ).bind fun ts=>.of (zdG ts)):=rfl
@[simp] theorem ztz (Fs:VEnv→Res (List T)) (ρ:VEnv):eTup Fs ρ=((Fs ρ).bind fun ts=>.of (zhC ts)):=rfl
@[simp] theorem zor (n:Nat) (m:List T→Res T) (Fs:VEnv→Res (List T)) (ρ:VEnv):zaD n m Fs ρ=((Fs ρ).bind fun ts=>if ts.length=n then m ts else .bad):=rfl
@[simp] theorem zt8 (g:List T→Option T) (Fs:VEnv→Res (List T)) (ρ:VEnv):eB1 g Fs ρ=((Fs ρ).bind fun ts=>.of (g ts)):=rfl
@[simp] theorem ztt (F:VEnv→Res T) (ρ:VEnv):iLst F ρ=((F ρ).bind fun t=>.of (asL t)):=rfl
@[simp] theorem ztq (g:List T→Option (List T)) (Fs:VEnv→Res (List T)) (ρ:VEnv):iRng g Fs ρ=((Fs ρ).bind fun ts=>.of (g ts)):=rfl
@[simp] theorem zsv (ix:List (Option Nat)) (I:VEnv→Res (List T)) (gE:T→VEnv→Option VEnv) (F:VEnv→Res T) (ρ:VEnv):zco ix I gE F ρ=((I ρ).bind fun ts=>(mapL gE F (za1 ix ρ) ts).bind fun us=>.of (zdG us)):=rfl
@[simp] theorem zr3 (ix:List (Option Nat)) (I:VEnv→Res (List T)) (gE:T→VEnv→Option VEnv) (Bt:VEnv→Res Bool) (F:VEnv→Res T) (ρ:VEnv):ze1 ix I gE Bt F ρ=((I ρ).bind fun ts=>(mapT gE Bt F (za1 ix ρ) ts).bind fun us=>.of (zdG us)):=rfl
@[simp] theorem zsQ (M:List Bool) (I:VEnv→Res (List T)) (gT:T→SEnv→Option SEnv) (B:SEnv→SRes) (ρ:SEnv):sFor M I gT B ρ=((I (view M ρ)).sthen fun ts=>forL gT B ts (zaI M ρ)):=rfl
@[simp] theorem gS_ap (i:Nat) (t:T) (ρ:SEnv):gS i t ρ=(if i < ρ.length then some (ρ.set i (some (.al,t))) else none):=rfl
@[simp] theorem gE_ap (i:Nat) (t:T) (ρ:VEnv):gE i t ρ=(if zfC ρ i=true then some (ρ.set i (some t)) else none):=rfl
@[simp] theorem zsS (i:Nat) (md:Md) (M:List Bool) (F:VEnv→Res T) (ρ:SEnv):sApp i md M F ρ=(zeb i ρ fun m ts=>(F (view M ρ)).sthen fun t=>zhq i md M m ts t ρ):=rfl
@[simp] theorem zsR (i:Nat) (md:Md) (M:List Bool) (F:VEnv→Res T) (ρ:SEnv):sExt i md M F ρ=(zeb i ρ fun m ts=>(F (view M ρ)).sthen fun t=>zhh i md M m ts t ρ):=rfl
@[simp] theorem zsP (i:Nat) (M:List Bool) (F1 F2:VEnv→Res T) (ρ:SEnv):sIns i M F1 F2 ρ=(zeb i ρ fun m ts=>(F1 (view M ρ)).sthen fun u=>(F2 (view M ρ)).sthen fun t=>zm7 i m ts u t ρ):=rfl
@[simp] theorem zsN (i:Nat) (M:List Bool) (F1 F2:VEnv→Res T) (ρ:SEnv):sPut i M F1 F2 ρ=(zeb i ρ fun m ts=>(F1 (view M ρ)).sthen fun t=>(F2 (view M ρ)).sthen fun u=>zmd i m ts t u ρ):=rfl
@[simp] theorem zsl (i:Nat) (M:List Bool) (F1 F2 F3:VEnv→Res T) (ρ:SEnv):znP i M F1 F2 F3 ρ=(zeb i ρ fun m ts=>(F1 (view M ρ)).sthen fun t=>(F2 (view M ρ)).sthen fun u=>(F3 (view M ρ)).no.sthen fun w=>zeY i m ts t u w ρ):=rfl
@[simp] theorem zq5 (c:Nat) (M:List Bool) (U:VEnv→Res Unit) (ρ:SEnv):zeh c M U ρ=((U (view M ρ)).sthen fun _=>.exc c):=rfl
@[simp] theorem ztK  (ρ:VEnv):uOk ρ=(.ok ()):=rfl
@[simp] theorem zsD (F:VEnv→Res T) (U:VEnv→Res Unit) (ρ:VEnv):uInt F U ρ=((F ρ).bind fun t=>match t with
 | .sc (.int i)=>if 0≤i∧i < 100 then U ρ else .bad
 | _=>.bad):=rfl
@[simp] theorem zsr  (ρ:VEnv):zpW ρ=(.ok none):=rfl
@[simp] theorem zsp (F:VEnv→Res T) (ρ:VEnv):zn2 F ρ=((F ρ).bind fun t=>(Res.of (asI t)).bind fun i=>.ok (some i)):=rfl
@[simp] theorem zt4 (md:Md) (F:VEnv→Res T) (Lo Hi:OEnv) (ρ:VEnv):eSl md F Lo Hi ρ=((F ρ).bind fun t=>(Lo ρ).bind fun lo=>(Hi ρ).bind fun hi=>.of ((asL t).bind fun ts=>zc2 md (cutT ts lo hi))):=rfl
@[simp] theorem ztA (md:Md) (F:VEnv→Res T) (ρ:VEnv):eRev md F ρ=((F ρ).bind fun t=>.of ((asL t).bind fun ts=>zc2 md ts.reverse)):=rfl
@[simp] theorem zt6 (g:List T→Option (List T)) (Fs:VEnv→Res (List T)) (ρ:VEnv):eLR g Fs ρ=((Fs ρ).bind fun ts=>.of ((g ts).bind fun us=>if us.length≤1000000 then some (.lst us) else none)):=rfl
@[simp] theorem ztp (F:VEnv→Res T) (ρ:VEnv):iSeq F ρ=((F ρ).bind fun t=>.of (asS t)):=rfl
@[simp] theorem ztQ (i j:Nat) (t:T) (ρ:SEnv):gS2 i j t ρ=(match t with
 | .tup [x,y]=>(gS i x ρ).bind (gS j y)
 | _=>none):=rfl
@[simp] theorem ztR (i j:Nat) (t:T) (ρ:VEnv):gE2 i j t ρ=(match t with
 | .tup [x,y]=>if i=j then none else if zfC ρ j=true then (gE i x ρ).bind (gE j y) else none
 | _=>none):=rfl
end TL
namespace TL
open PySem PySem.Spec L2
noncomputable def zab (b:List (List Int)):List T:=b.map fun r=>.lst (zad r)
@[simp] theorem zsf (ρ:SEnv):view [] ρ=[]:=rfl
@[simp] theorem zqQ (M:List Bool):view M []=[]:=by cases M <;> (unfold view;rfl)
@[simp] theorem zqR (b:Bool) (bs:List Bool) (s:Option (Md×T)) (ρ:SEnv):view (b :: bs) (s :: ρ)=(if b=true then s.map (·.2) else none) :: view bs ρ:=rfl
@[simp] theorem zqO (ρ:SEnv):zaI [] ρ=ρ:=rfl
@[simp] theorem zqn (b:Bool) (bs:List Bool) (s:Option (Md×T)) (ρ:SEnv):zaI (b :: bs) (s :: ρ)=(if b=true then s.map (fun p=>(Md.al,p.2)) else s) :: zaI bs ρ:=rfl
@[simp] theorem zrX (t:T) (md:Md):fin md (.rt md t)=.ok t:=if_pos (.inl rfl)
@[simp] theorem ztT (t:T) (m:Md):fin .al (.rt m t)=.ok t:=if_pos (.inr (.inl rfl))
@[simp] theorem ztS (md:Md) (ρ:SEnv):fin md (.nx ρ)=.ok (.sc .non):=rfl
@[simp] theorem ztx (md:Md) (c:Nat):fin md (.exc c)=.exc c:=rfl
@[simp] theorem zsi (N:List Str) (a:T):zaz N [a]=some (.al,a) :: List.replicate (N.length - 1) none:=rfl
@[simp] theorem zsh (N:List Str) (a b:T):zaz N [a,b]=some (.al,a) :: some (.al,b) :: List.replicate (N.length - 2) none:=rfl
@[simp] theorem zsg (N:List Str) (a b c:T):zaz N [a,b,c]=some (.al,a) :: some (.al,b) :: some (.al,c) :: List.replicate (N.length - 3) none:=rfl
@[simp] theorem zr0 (t:T) (ρ:VEnv):eVar 0 (some t :: ρ)=.ok t:=rfl
@[simp] theorem ztU (i:Nat) (o:Option T) (ρ:VEnv):eVar (i + 1) (o :: ρ)=eVar i ρ:=rfl
@[simp] theorem zt3 (o:Option T) (ρ:VEnv):eVar 1 (o :: ρ)=eVar 0 ρ:=rfl
@[simp] theorem zt2 (o o1:Option T) (ρ:VEnv):eVar 2 (o :: o1 :: ρ)=eVar 0 ρ:=rfl
@[simp] theorem zt1 (o o1 o2:Option T) (ρ:VEnv):eVar 3 (o :: o1 :: o2 :: ρ)=eVar 0 ρ:=rfl
@[simp] theorem zt0 (o o1 o2 o3:Option T) (ρ:VEnv):eVar 4 (o :: o1 :: o2 :: o3 :: ρ)=eVar 0 ρ:=rfl
@[simp] theorem ztZ (o o1 o2 o3 o4:Option T) (ρ:VEnv):eVar 5 (o :: o1 :: o2 :: o3 :: o4 :: ρ)=eVar 0 ρ:=rfl
@[simp] theorem ztY (o o1 o2 o3 o4 o5:Option T) (ρ:VEnv):eVar 6 (o :: o1 :: o2 :: o3 :: o4 :: o5 :: ρ)=eVar 0 ρ:=rfl
@[simp] theorem ztX (o o1 o2 o3 o4 o5 o6:Option T) (ρ:VEnv):eVar 7 (o :: o1 :: o2 :: o3 :: o4 :: o5 :: o6 :: ρ)=eVar 0 ρ:=rfl
@[simp] theorem ztW (o o1 o2 o3 o4 o5 o6 o7:Option T) (ρ:VEnv):eVar 8 (o :: o1 :: o2 :: o3 :: o4 :: o5 :: o6 :: o7 :: ρ)=eVar 0 ρ:=rfl
@[simp] theorem ztV (o o1 o2 o3 o4 o5 o6 o7 o8:Option T) (ρ:VEnv):eVar 9 (o :: o1 :: o2 :: o3 :: o4 :: o5 :: o6 :: o7 :: o8 :: ρ)=eVar 0 ρ:=rfl
@[simp] theorem zsk (i:Nat) (ρ:SEnv):zgX i ρ=(match ρ[i]? with | some (some (m,t))=>.rt m t | _=>.bad):=rfl
@[simp] theorem oI_ap (g:Int→Int→Option V) (i j:Int):oI g (.sc (.int i)) (.sc (.int j))=(g i j).map .sc:=rfl
@[simp] theorem ztv (i j:Int):iAdd i j=some (.int (i + j)):=rfl
@[simp] theorem zto (i j:Int):iSub i j=some (.int (i - j)):=rfl
@[simp] theorem ztN (i j:Int):iLt i j=some (.bl (decide (i < j))):=rfl
@[simp] theorem ztO (i j:Int):iGt i j=some (.bl (decide (j < i))):=rfl
theorem zhc {i j:Int} (h:(-(2 ^ 64) < i∧i < 2 ^ 64)∨(-(2 ^ 64) < j∧j < 2 ^ 64)):iMul i j=some (.int (i * j)):=if_pos h
theorem zjf {i j:Int} (h:0 < j) (h2:j < 1073741824):iDiv i j=some (.int (i / j)):=if_pos ⟨h,h2⟩
theorem zhd {i j:Int} (h:0 < j):iMod i j=some (.int (i % j)):=if_pos h
@[simp] theorem zrU:zad []=[]:=rfl
@[simp] theorem zbj (i:Int) (l:List Int):zad (i :: l)=.sc (.int i) :: zad l:=rfl
@[simp] theorem zb3 (l:List Int):(zad l).length=l.length:=by unfold zad;simp
theorem zfE (a b:List Int):zad (a ++ b)=zad a ++ zad b:=by unfold zad;simp
@[simp] theorem zlw (l:List Int):zfK (zad l)=true:=by unfold zfK zad;simp [isSc]
@[simp] theorem zl5:zab []=[]:=rfl
@[simp] theorem zbQ (r:List Int) (l:List (List Int)):zab (r :: l)=.lst (zad r) :: zab l:=rfl
@[simp] theorem zdd (l:List (List Int)):(zab l).length=l.length:=by unfold zab;simp
theorem zkR (l:List Int) (i:Int):atI (zad l) i=(atI l i).map fun n=>.sc (.int n):=zjq _ _ _
theorem zoy (l:List (List Int)) (i:Int):atI (zab l) i=(atI l i).map fun r=>.lst (zad r):=zjq _ _ _
theorem zho {α:Type} {l:List α} {i:Int} {x:α} (h0:0≤i) (h:l[i.toNat]? = some x):atI l i=some x:=by
 unfold atI ixN
 have:i.toNat < l.length:=(List.getElem?_eq_some_iff.mp h).1
 rw [if_pos h0,if_pos (by lia)]
 exact h
theorem zfM:∀ a b:List Int,eqTs (zad a) (zad b)=decide (a=b)
 | [],[]=>by unfold eqTs;rfl
 | [],b :: bs=>by unfold eqTs;rfl
 | a :: as,[]=>by unfold eqTs;rfl
 | a :: as,b :: bs=>by
  rw [zbj,zbj];unfold eqTs;rw [zfM as bs]
  have:eqT (.sc (.int a)) (.sc (.int b))=decide (a=b):=by unfold eqT eqV;by_cases h:a=b <;> simp [h]
  rw [this]
  by_cases h1:a=b <;> by_cases h2:as=bs <;> simp [h1,h2]
theorem zfL:∀ a b:List (List Int),eqTs (zab a) (zab b)=decide (a=b)
 | [],[]=>by unfold eqTs;rfl
 | [],b :: bs=>by unfold eqTs;rfl
 | a :: as,[]=>by unfold eqTs;rfl
 | a :: as,b :: bs=>by
  rw [zbQ,zbQ];unfold eqTs;rw [zfL as bs]
  have:eqT (.lst (zad a)) (.lst (zad b))=decide (a=b):=by unfold eqT;exact zfM a b
  rw [this]
  by_cases h1:a=b <;> by_cases h2:as=bs <;> simp [h1,h2]
@[simp] theorem zg2 (d:Nat) (i:Int):okT d (.sc (.int i))=true:=by unfold okT;rfl
@[simp] theorem zkc (d:Nat) (l:List Int):okT (d + 1) (.lst (zad l))=true:=by
 unfold okT zad;simp
@[simp] theorem zkb (d:Nat) (l:List (List Int)):okT (d + 2) (.lst (zab l))=true:=by
 unfold okT zab;simp
theorem zkf (a b:List Int):oNe (.lst (zad a)) (.lst (zad b))=some (.sc (.bl (!decide (a=b)))):=by
 unfold oNe;rw [if_pos ⟨zkc 4 a,zkc 4 b⟩];unfold eqT;rw [zfM]
theorem zng (a b:Int):eqT (.sc (.int a)) (.sc (.int b))=decide (a=b):=by unfold eqT eqV;by_cases h:a=b <;> simp [h]
@[simp] theorem zs9 (a b:Int):oEq (.sc (.int a)) (.sc (.int b))=some (.sc (.bl (decide (a=b)))):=by
 unfold oEq;rw [if_pos ⟨zg2 5 a,zg2 5 b⟩,zng]
@[simp] theorem zs5 (a b:Int):oNe (.sc (.int a)) (.sc (.int b))=some (.sc (.bl (!decide (a=b)))):=by
 unfold oNe;rw [if_pos ⟨zg2 5 a,zg2 5 b⟩,zng]
noncomputable def rngZ (lo:Int) (n:Nat):List Int:=(List.range n).map fun (k:Nat)=>lo + (k:Int)
theorem ziS (lo:Int) (n:Nat):rngI lo n=zad (rngZ lo n):=by unfold rngI zad rngZ;rw [List.map_map];rfl
@[simp] theorem zbV (lo:Int) (n:Nat):(rngZ lo n).length=n:=by unfold rngZ;simp
theorem ziT {j:Int} (h:-(2 ^ 62)≤j∧j < 2 ^ 62):rng1 [.sc (.int j)]=some (zad (rngZ 0 j.toNat)):=by rw [← ziS];exact if_pos h
theorem zma {i j:Int} (h:-(2 ^ 62)≤i∧i < 2 ^ 62∧-(2 ^ 62)≤j∧j < 2 ^ 62):rng2 [.sc (.int i),.sc (.int j)]=some (zad (rngZ i (j - i).toNat)):=by rw [← ziS];exact if_pos h
theorem zhE {n:Nat} (h:n≤1000):n≤sizeLine:=Nat.le_trans h zdC
theorem zlL {n:Nat} (h:n < 1000):n < sizeLine:=zlU (by lia)
theorem zeo {ts:List T} (h:ts.length≤1000):zdG ts=some (.lst ts):=if_pos (zhE h)
@[simp] theorem zth {ts:List T} (h:ts.length≤1000):zdG ts=some (.lst ts):=if_pos (zhE h)
@[simp] theorem zsE {ts:List T} (h:ts.length≤1000):zhC ts=some (.tup ts):=if_pos (zhE h)
@[simp] theorem ztP {i j:Int} (h:0 < j) (h2:j < 1073741824):iDiv i j=some (.int (i / j)):=if_pos ⟨h,h2⟩
@[simp] theorem ztM {i j:Int} (h:0 < j):iMod i j=some (.int (i % j)):=if_pos h
@[simp] theorem zdn {i j:Int} (h:(-(2 ^ 64) < i∧i < 2 ^ 64)∨(-(2 ^ 64) < j∧j < 2 ^ 64)):iMul i j=some (.int (i * j)):=if_pos h
@[simp] theorem zsO (ρ:SEnv):sNil ρ=.nx ρ:=rfl
@[simp] theorem zs8 (ts:List T) (i:Int):oIx (.lst ts) (.sc (.int i))=atI ts i:=rfl
@[simp] theorem zs6 (ts:List T) (i:Int):oIx (.tup ts) (.sc (.int i))=atI ts i:=rfl
@[simp] theorem zs7 (ns:List Int) (i:Int):oIx (.scr ns) (.sc (.int i))=(atI ns i).map fun n=>.sc (.int n):=rfl
@[simp] theorem zsy (ts:List T):cLen [.lst ts]=some (.sc (.int ts.length)):=rfl
@[simp] theorem zsw (ts:List T):cLen [.tup ts]=some (.sc (.int ts.length)):=rfl
@[simp] theorem zsx (ts:List Int):cLen [.scr ts]=some (.sc (.int ts.length)):=rfl
@[simp] theorem zph (l:List Int):zfS [.lst (zad l)]=some (.lst (zad (zfr l))):=by unfold zfS;simp
@[simp] theorem zra {j:Int} (h:-4611686018427387904≤j) (h2:j < 4611686018427387904):rng1 [.sc (.int j)]=some (zad (rngZ 0 j.toNat)):=ziT ⟨h,h2⟩
@[simp] theorem zse (i:Nat) (ρ:SEnv) (k:Md→List T→SRes):zeb i ρ k=(match ρ[i]? with | some (some (m,.lst ts))=>k m ts | _=>.bad):=rfl
@[simp] theorem zsA (ts:List T):zc2 .sp ts=some (.lst ts):=rfl
@[simp] theorem zkU (l:List Int):zc2 .fu (zad l)=some (.lst (zad l)):=if_pos (zlw l)
@[simp] theorem zsb:zc2 .fu []=some (.lst []):=rfl
@[simp] theorem zr7 (md:Md) (ts:List T):znt md [.lst ts]=zc2 md ts:=rfl
@[simp] theorem zsu (gT:T→SEnv→Option SEnv) (B:SEnv→SRes) (ρ:SEnv):forL gT B [] ρ=.nx ρ:=rfl
theorem zaN (gT:T→SEnv→Option SEnv) (B:SEnv→SRes) (t:T) (ts:List T) (ρ:SEnv):forL gT B (t :: ts) ρ=(match gT t ρ with | some ρ1=>(B ρ1).then (forL gT B ts) | none=>.bad):=rfl
theorem zkt {gT:T→SEnv→Option SEnv} {B:SEnv→SRes} (P:Nat→SEnv→Prop):∀ (ts:List T) (ρ:SEnv) (k:Nat),P k ρ →
  (∀ (j:Nat) (t:T) (ρ:SEnv),ts[j]? = some t→P (k + j) ρ→∃ ρ1,gT t ρ=some ρ1∧∃ ρ2,B ρ1=.nx ρ2∧P (k + j + 1) ρ2)→∃ ρ',forL gT B ts ρ=.nx ρ'∧P (k + ts.length) ρ'
 | [],ρ,k,h,_=>⟨ρ,rfl,h⟩
 | t :: ts,ρ,k,h,hs=>by
  obtain⟨ρ1,e1,ρ2,e2,h2⟩:=hs 0 t ρ rfl h
  obtain⟨ρ',e3,h3⟩:=zkt (gT:=gT) (B:=B) P ts ρ2 (k + 1) h2 fun j u ρ q hP=>by
   have:=hs (j + 1) u ρ q (by rw [← Nat.add_assoc,Nat.add_right_comm];exact hP)
   rw [← Nat.add_assoc k j 1,Nat.add_right_comm k j 1] at this
   exact this
  refine ⟨ρ',?_,?_⟩
  ·rw [zaN,e1]
   show (B ρ1).then _=_
   rw [e2,SRes.then_nx,e3]
  ·rw [List.length_cons,← Nat.add_assoc,Nat.add_right_comm];exact h3
theorem zfj {gT:T→SEnv→Option SEnv} {B:SEnv→SRes} (P:Nat→SEnv→Prop) (n:Nat) (ρ:SEnv) (h0:P 0 ρ)
  (hs:∀ (j:Nat) (ρ:SEnv),j < n→P j ρ→∃ ρ1,gT (.sc (.int j)) ρ=some ρ1∧∃ ρ2,B ρ1=.nx ρ2∧P (j + 1) ρ2):∃ ρ',forL gT B (zad (rngZ 0 n)) ρ=.nx ρ'∧P n ρ':=by
 obtain⟨ρ',h1,h2⟩:=zkt P (zad (rngZ 0 n)) ρ 0 h0 fun j t ρ e hP=>by
  rw [← ziS] at e
  obtain⟨hj,rfl⟩:=zj5 e
  rw [Nat.zero_add] at hP ⊢
  rw [Int.zero_add]
  exact hs j ρ hj hP
 refine ⟨ρ',h1,?_⟩
 simpa using h2
theorem zoh (i:Nat) (m:Md) (ts:List T) (k:Int) (w:V) (ρ:SEnv):zm7 i m ts (.sc (.int k)) (.sc w) ρ=if m=.fu∧0≤k∧k≤ts.length∧ts.length < sizeLine then .nx (ρ.set i (some (.fu,.lst (ts.take k.toNat ++ .sc w :: ts.drop k.toNat)))) else .bad:=rfl
theorem zgw (k:Nat) (l:List Int):(zad l).take k=zad (l.take k):=by unfold zad;simp
theorem zgx (k:Nat) (l:List Int):(zad l).drop k=zad (l.drop k):=by unfold zad;simp
@[simp] theorem zqM {i:Nat} {l:List Int} {k w:Int} {ρ:SEnv} (h0:0≤k) (h1:k≤l.length) (h2:l.length < 1000):zm7 i .fu (zad l) (.sc (.int k)) (.sc (.int w)) ρ=.nx (ρ.set i (some (.fu,.lst (zad (l.take k.toNat ++ w :: l.drop k.toNat))))):=by
 rw [zoh,if_pos ⟨rfl,h0,by rw [zb3];exact h1,by rw [zb3];exact zlL h2⟩,zfE,zbj,zgw,zgx]
theorem zh2 {F:VEnv→Res T} {ρ:VEnv} {gE:T→VEnv→Option VEnv} {f:Int→Int}:∀ (l:List Int),(∀ x∈l,∃ ρ1,gE (.sc (.int x)) ρ=some ρ1∧F ρ1=.ok (.sc (.int (f x))))→mapL gE F ρ (zad l)=.ok (zad (l.map f))
 | [],_=>rfl
 | x :: l,h=>by
  obtain⟨ρ1,e1,e2⟩:=h x (by simp)
  rw [zbj];unfold mapL
  rw [e1,Res.of_some,Res.bind_ok,e2,Res.no_ok,Res.bind_ok,zh2 l fun y hy=>h y (by simp [hy])]
  rfl
theorem zem {α β:Type} {F:VEnv→Res T} {ρ:VEnv} {gE:T→VEnv→Option VEnv} {f:α→β} (ea:α→T) (eb:β→T):∀ (l:List α),(∀ x∈l,∃ ρ1,gE (ea x) ρ=some ρ1∧F ρ1=.ok (eb (f x)))→mapL gE F ρ (l.map ea)=.ok ((l.map f).map eb)
 | [],_=>rfl
 | x :: l,h=>by
  obtain⟨ρ1,e1,e2⟩:=h x (by simp)
  rw [List.map_cons];unfold mapL
  rw [e1,Res.of_some,Res.bind_ok,e2,Res.no_ok,Res.bind_ok,zem ea eb l fun y hy=>h y (by simp [hy])]
  rfl
@[simp] theorem zqN (ρ:VEnv):za1 [] ρ=[]:=rfl
@[simp] theorem zqe (ix:List (Option Nat)) (ρ:VEnv):za1 (none :: ix) ρ=none :: za1 ix ρ:=rfl
@[simp] theorem zqd (j:Nat) (ix:List (Option Nat)) (ρ:VEnv):za1 (some j :: ix) ρ=(ρ[j]?).join :: za1 ix ρ:=rfl
@[simp] theorem zss (ρ:VEnv):zfC (none :: ρ) 0=true:=rfl
noncomputable def at0 (l:List Int) (i:Nat):Int:=l.getD i 0
noncomputable def zax (b:List (List Int)) (i:Nat):List Int:=b.getD i []
@[simp] theorem znx {b:List (List Int)} {i:Int} (h0:0≤i) (h1:i < b.length):atI (zab b) i=some (.lst (zad (zax b i.toNat))):=by
 have h:i.toNat < b.length:=by lia
 rw [zoy,zho h0 (List.getElem?_eq_getElem h)]
 simp [zax,List.getD,h]
@[simp] theorem zjp {l:List Int} {i:Int} (h0:0≤i) (h1:i < l.length):atI (zad l) i=some (.sc (.int (at0 l i.toNat))):=by
 have h:i.toNat < l.length:=by lia
 rw [zkR,zho h0 (List.getElem?_eq_getElem h)]
 simp [at0,List.getD,h]
noncomputable def cutZ {α:Type} (l:List α) (lo hi:Option Int):List α:=(l.drop (HT.sIx l.length 0 lo)).take (HT.sIx l.length l.length hi - HT.sIx l.length 0 lo)
@[simp] theorem zr5 (l:List Int) (lo hi:Option Int):cutT (zad l) lo hi=zad (cutZ l lo hi):=by unfold cutT cutZ;rw [zb3,zgx,zgw]
theorem zhO (a b:List (List Int)):zab (a ++ b)=zab a ++ zab b:=by unfold zab;simp
theorem zi6 {F:VEnv→Res T} {ρ:VEnv} {gE:T→VEnv→Option VEnv} (f:Int→List Int) (l:List Int) (h:∀ x∈l,∃ ρ1,gE (.sc (.int x)) ρ=some ρ1∧F ρ1=.ok (.lst (zad (f x)))):mapL gE F ρ (zad l)=.ok (zab (l.map f)):=
 zem (fun x=>.sc (.int x)) (fun r=>.lst (zad r)) l h
theorem zeI {F:VEnv→Res T} {ρ:VEnv} {gE:T→VEnv→Option VEnv} (f:List Int→List Int) (l:List (List Int)) (h:∀ x∈l,∃ ρ1,gE (.lst (zad x)) ρ=some ρ1∧F ρ1=.ok (.lst (zad (f x)))):mapL gE F ρ (zab l)=.ok (zab (l.map f)):=
 zem (fun r=>.lst (zad r)) (fun r=>.lst (zad r)) l h
theorem zmG {F:VEnv→Res T} {ρ:VEnv} {gE:T→VEnv→Option VEnv} (f:List Int→Int) (l:List (List Int)) (h:∀ x∈l,∃ ρ1,gE (.lst (zad x)) ρ=some ρ1∧F ρ1=.ok (.sc (.int (f x)))):mapL gE F ρ (zab l)=.ok (zad (l.map f)):=
 zem (fun r=>.lst (zad r)) (fun x=>.sc (.int x)) l h
theorem zfA {F:VEnv→Res T} {ρ:VEnv} {gE:T→VEnv→Option VEnv} (f:Int→Int) (l:List Int) (h:∀ x∈l,∃ ρ1,gE (.sc (.int x)) ρ=some ρ1∧F ρ1=.ok (.sc (.int (f x)))):mapL gE F ρ (zad l)=.ok (zad (l.map f)):=zh2 l h
theorem zb7 {n:Nat} {x:Int} (h:x∈rngZ 0 n):0≤x∧x < n:=by
 unfold rngZ at h
 obtain⟨k,hk,rfl⟩:=List.mem_map.mp h
 have:=List.mem_range.mp hk
 lia
structure Sq (n:Nat) (b:List (List Int)):Prop where
 len:b.length=n
 row:∀ r∈b,r.length=n
theorem Sq.get {n:Nat} {b:List (List Int)} (h:Sq n b) {i:Nat} (hi:i < n):(zax b i).length=n:=by
 have hi':i < b.length:=by rw [h.len];exact hi
 simp [zax,List.getD,hi']
 exact h.row _ (List.getElem_mem hi')
theorem Sq.map {n:Nat} {l:List Int} {f:Int→List Int} (hl:l.length=n) (hf:∀ x∈l,(f x).length=n):Sq n (l.map f):=⟨by simpa using hl,fun r hr=>by obtain⟨x,hx,rfl⟩:=List.mem_map.mp hr;exact hf x hx⟩
theorem Sq.mapR {n:Nat} {b:List (List Int)} {f:List Int→List Int} (h:Sq n b) (hf:∀ x∈b,(f x).length=n):Sq n (b.map f):=⟨by simpa using h.len,fun r hr=>by obtain⟨x,hx,rfl⟩:=List.mem_map.mp hr;exact hf x hx⟩
@[simp] theorem zso {n:Nat} (h:n≤1000):rng1 [.sc (.int (n:Int))]=some (zad (rngZ 0 n)):=by
 rw [ziT ⟨by lia,by lia⟩];simp
theorem zh9 (l:List Int) (j:Nat) (x:Int):(zad l).set j (.sc (.int x))=zad (l.set j x):=by unfold zad;rw [List.map_set]
theorem zl4 (b:List (List Int)) (j:Nat) (r:List Int):(zab b).set j (.lst (zad r))=zab (b.set j r):=by unfold zab;rw [List.map_set]
@[simp] theorem zgn {i:Nat} {l:List Int} {x k:Int} {ρ:SEnv} (h0:0≤k) (h1:k < l.length):zmd i .fu (zad l) (.sc (.int x)) (.sc (.int k)) ρ=.nx (ρ.set i (some (.fu,.lst (zad (l.set k.toNat x))))):=by
 unfold zmd
 have:ixN (zad l).length k=some k.toNat:=by unfold ixN;rw [zb3,if_pos h0,if_pos h1]
 simp only [this]
 rw [if_pos trivial,zh9]
theorem znR (n:Nat) (a:Int):repT n [.sc (.int a)]=zad (List.replicate n a):=by
 unfold repT zad
 induction n with
 | zero=>rfl
 | succ n ih=>rw [List.replicate_succ,List.flatten_cons,ih,List.replicate_succ];rfl
@[simp] theorem zsq {n:Nat} {a:Int} (h:n≤1000):oRep .fu (.lst [.sc (.int a)]) (.sc (.int (n:Int)))=some (.lst (zad (List.replicate n a))):=by
 unfold oRep
 simp only []
 rw [if_pos ⟨by lia,by lia,by rw [Int.toNat_natCast,List.length_singleton,Nat.one_mul];exact zhE h⟩,Int.toNat_natCast,znR,zkU]
theorem zfv {i:Nat} {b:List (List Int)} {x k j:Int} {ρ:SEnv} (h0:0≤k) (h1:k < b.length) (h2:0≤j) (h3:j < (zax b k.toNat).length) :
  zeY i .fu (zab b) (.sc (.int x)) (.sc (.int k)) (.sc (.int j)) ρ=.nx (ρ.set i (some (.fu,.lst (zab (b.set k.toNat ((zax b k.toNat).set j.toNat x)))))):=by
 unfold zeY
 have hk:k.toNat < b.length:=by lia
 have e1:ixN (zab b).length k=some k.toNat:=by unfold ixN;rw [zdd,if_pos h0,if_pos h1]
 have e2:(zab b)[k.toNat]? = some (.lst (zad (zax b k.toNat))):=by unfold zab;rw [List.getElem?_map,List.getElem?_eq_getElem hk];simp [zax,List.getD,hk]
 have e3:ixN (zad (zax b k.toNat)).length j=some j.toNat:=by unfold ixN;rw [zb3,if_pos h2,if_pos h3]
 simp only [e1,e2,e3]
 rw [if_pos trivial,zh9,zl4]
structure Ord (n:Nat) (o:List Int):Prop where
 len:o.length=n
 rng:∀ x∈o,0≤x∧x < n
theorem Ord.get {n:Nat} {o:List Int} (h:Ord n o) {i:Nat} (hi:i < n):0≤at0 o i∧at0 o i < n:=by
 have hi':i < o.length:=by rw [h.len];exact hi
 simp only [at0,List.getD,List.getElem?_eq_getElem hi',Option.getD_some]
 exact h.rng _ (List.getElem_mem hi')
theorem Ord.set {n:Nat} {o:List Int} (h:Ord n o) (i:Nat) {x:Int} (h0:0≤x) (h1:x < n):Ord n (o.set i x):=
 ⟨by rw [List.length_set];exact h.len,fun y hy=>by rcases List.mem_or_eq_of_mem_set hy with hy | rfl;exact h.rng y hy;exact⟨h0,h1⟩⟩
@[simp] theorem zsB {i:Nat} {M:List Bool} {l:List Int} {x:Int} {ρ:SEnv} (h:l.length < 1000):zhq i .fu M .fu (zad l) (.sc (.int x)) ρ=.nx (ρ.set i (some (.fu,.lst (zad (l ++ [x]))))):=by
 unfold zhq
 rw [if_pos (by rw [zb3];exact zlL h),if_pos ⟨rfl,rfl⟩,zfE];rfl
theorem znH {i:Nat} {M:List Bool} {m:Md} {b:List (List Int)} {r:List Int} {ρ:SEnv} (h:b.length < 1000) (hm:m≠.al) (hM:M[i]?≠some true):zhq i .al M m (zab b) (.lst (zad r)) ρ=.nx ((zaI M ρ).set i (some (.sp,.lst (zab (b ++ [r]))))):=by
 unfold zhq
 rw [if_pos (by rw [zdd];exact zlL h),if_neg (by simp),if_neg (by simp [hm,hM]),zhO];rfl
@[simp] theorem zr1 (l:List Int):zc2 .fu (zad l).reverse=some (.lst (zad l.reverse)):=by
 have:(zad l).reverse=zad l.reverse:=by unfold zad;rw [List.map_reverse]
 rw [this,zkU]
@[simp] theorem zhV {a b:List (List Int)} (h:a.length + b.length≤1000):oCat .sp (.lst (zab a)) (.lst (zab b))=some (.lst (zab (a ++ b))):=by
 show (if (zab a).length + (zab b).length≤sizeLine then zc2 .sp (zab a ++ zab b) else none)=_
 rw [if_pos (by rw [zdd,zdd];exact zhE h),← zhO];rfl
structure Sml (b:List (List Int)):Prop where
 len:b.length≤13
 row:∀ r∈b,r.length≤13
theorem Sq.sml {n:Nat} {b:List (List Int)} (h:Sq n b) (hn:n≤12):Sml b:=⟨by rw [h.len];lia,fun r hr=>by rw [h.row r hr];lia⟩
theorem flat_len {k:Nat}:∀ (b:List (List Int)),(∀ r∈b,r.length≤k)→b.flatten.length≤b.length * k
 | [],_=>by simp
 | r :: b,h=>by
  have h1:=h r (by simp)
  have h2:=flat_len b fun x hx=>h x (by simp [hx])
  rw [List.flatten_cons,List.length_append,List.length_cons,Nat.succ_mul];lia
theorem Sml.flat {b:List (List Int)} (h:Sml b):b.flatten.length≤169:=by
 have h1:=flat_len (k:=13) b h.row
 have h2:=h.len
 have:b.length * 13≤13 * 13:=Nat.mul_le_mul_right 13 h2
 lia
theorem zlx {i:Nat} {M:List Bool} {a b:List Int} {ρ:SEnv} (h:a.length + b.length≤1000):zhh i .al M .fu (zad a) (.lst (zad b)) ρ=.nx (ρ.set i (some (.fu,.lst (zad (a ++ b))))):=by
 unfold zhh
 simp [h,zhE h,zfE]
theorem zfJ {L:SEnv→SRes} (hL:L=sExt 1 .al [false,false,true] (eVar 2)) (t0:Option (Md×T)):∀ (b:List (List Int)) (a:List Int) (x:Option (Md×T)),a.length + b.flatten.length≤1000→∃ x',forL (gS 2) L (zab b) [t0,some (.fu,.lst (zad a)),x]=.nx [t0,some (.fu,.lst (zad (a ++ b.flatten))),x']
 | [],a,x,_=>⟨x,by simp⟩
 | r :: b,a,x,h=>by
  rw [List.flatten_cons,List.length_append] at h
  obtain⟨x',e⟩:=zfJ hL t0 b (a ++ r) (some (.al,.lst (zad r))) (by rw [List.length_append];lia)
  refine ⟨x',?_⟩
  rw [zbQ,zaN]
  subst hL
  have q:=zlx (i:=1) (M:=[false,false,true]) (a:=a) (b:=r) (ρ:=[t0,some (.fu,.lst (zad a)),some (.al,.lst (zad r))]) (by lia)
  simp [q]
  rw [e];simp
end TL
namespace TL
open PySem PySem.Spec L2
noncomputable def sumL:List Int→Int
 | []=>0
 | x :: l=>x + sumL l
noncomputable def sumN (n:Nat) (f:Nat→Int):Int:=sumL ((List.range n).map f)
theorem zgR:∀ a b:List Int,sumL (a ++ b)=sumL a + sumL b
 | [],b=>by simp [sumL]
 | x :: a,b=>by simp [sumL,zgR a b,Int.add_assoc]
theorem zfb:∀ l:List Int,l.sum=sumL l
 | []=>rfl
 | x :: l=>by rw [List.sum_cons,zfb l];rfl
theorem zhG {a b:List Int} (h:a.Perm b):sumL a=sumL b:=by
 induction h with
 | nil=>rfl
 | cons x _ ih=>simp [sumL,ih]
 | swap x y l=>simp [sumL];lia
 | trans _ _ i1 i2=>rw [i1,i2]
theorem zat {n:Nat} {f g:Nat→Int} (h:∀ k,k < n→f k=g k):sumN n f=sumN n g:=by
 unfold sumN
 congr 1
 exact List.map_congr_left fun k hk=>h k (List.mem_range.mp hk)
theorem zhF (n:Nat) (f:Nat→Int):sumN (n + 1) f=sumN n f + f n:=by
 unfold sumN
 rw [List.range_succ,List.map_append,zgR]
 simp [sumL]
theorem zlM (f:Nat→Int):sumN 0 f=0:=rfl
theorem zfc (n:Nat) (f:Nat→Int) (c:Int):sumN n (fun k=>c - f k)=n * c - sumN n f:=by
 induction n with
 | zero=>simp [zlM]
 | succ n ih=>rw [zhF,zhF,ih];push_cast;rw [Int.add_mul,Int.one_mul];lia
theorem zjY (n:Nat) (f:Nat→Int):sumN n (fun k=>f (n - 1 - k))=sumN n f:=by
 unfold sumN
 have:(List.range n).map (fun k=>f (n - 1 - k))=((List.range n).map f).reverse:=by
  refine List.ext_getElem (by simp) fun k h1 h2=>?_
  simp at h1
  rw [List.getElem_reverse]
  simp
 rw [this]
 exact zhG (List.reverse_perm _)
theorem zgr {l:List Int} {n:Nat} (h:l.length=n):l=(List.range n).map (at0 l):=by
 refine List.ext_getElem (by simp [h]) fun k h1 h2=>?_
 simp [at0,List.getD,h1]
theorem zgi {l:List Int} {n:Nat} (h:l.length=n):sumL l=sumN n (at0 l):=by
 conv=>lhs;rw [zgr h]
 rfl
theorem zj4 (n:Nat) (f:Nat→Int):(rngZ 0 n).map (fun i=>f i.toNat)=(List.range n).map f:=by
 unfold rngZ
 rw [List.map_map]
 refine List.map_congr_left fun k _=>?_
 simp
theorem zed {n:Nat} {o:List Int} (h:o.Perm (rngZ 0 n)) (f:Nat→Int):sumN n (fun k=>f (at0 o k).toNat)=sumN n f:=by
 have hl:o.length=n:=by rw [h.length_eq,zbV]
 have e:sumL (o.map fun i=>f i.toNat)=sumN n f:=by
  rw [zhG (h.map _),zj4];rfl
 rw [← e]
 unfold sumN
 conv=>rhs;rw [zgr hl,List.map_map]
 rfl
theorem zeG:∀ {r l:List Int},r.Nodup→(∀ v∈r,v∈l)→l.length=r.length→l.Perm r
 | [],l,_,_,h=>by
  rw [List.length_nil] at h
  rw [List.length_eq_zero_iff.mp h]
 | v :: r,l,nd,hs,h=>by
  obtain⟨n1,n2⟩:=List.nodup_cons.mp nd
  have hv:=hs v (by simp)
  have p:=List.perm_cons_erase hv
  refine p.trans (.cons v (zeG n2 (fun w hw=>?_) ?_))
  ·exact (List.mem_erase_of_ne (fun q:w=v=>n1 (q ▸ hw))).mpr (hs w (by simp [hw]))
  ·rw [List.length_erase_of_mem hv,h];simp
theorem zgm (a:Int) (n:Nat):(rngZ a n).Nodup:=by
 unfold rngZ
 refine List.Pairwise.map _ (fun x y h=>?_) (List.nodup_range (n:=n))
 lia
theorem ziQ (a:Int) (n:Nat):(rngZ a n).Pairwise (·≤·):=by
 unfold rngZ
 refine List.Pairwise.map _ (fun x y h=>?_) (List.pairwise_lt_range (n:=n))
 lia
theorem zcT {a:Int} {n:Nat} {x:Int}:x∈rngZ a n↔a≤x∧x < a + n:=by
 unfold rngZ
 constructor
 ·intro h
  obtain⟨k,hk,rfl⟩:=List.mem_map.mp h
  have:=List.mem_range.mp hk
  lia
 ·intro h
  exact List.mem_map.mpr ⟨(x - a).toNat,List.mem_range.mpr (by lia),by lia⟩
theorem zgl {l:List Int} {a:Int} {n:Nat} (hl:l.length=n) (h:∀ v,a≤v→v < a + n→v∈l):zfr l=rngZ a n:=by
 have p:l.Perm (rngZ a n):=zeG (zgm a n) (fun v hv=>by have:=zcT.mp hv;exact h v this.1 this.2) (by rw [hl,zbV])
 exact zfq ((zcA l).trans p) (zdb l) (ziQ a n)
noncomputable def C2 (b:List (List Int)) (R C:Nat):Int:=at0 (zax b R) C
structure Lk (n:Nat) (s:Int) (b:List (List Int)):Prop where
 sq:Sq n b
 sur:∀ v:Int,1≤v→v < 1 + ((n * n:Nat):Int)→∃ R C,R < n∧C < n∧C2 b R C=v
 row:∀ R,R < n→sumN n (fun C=>C2 b R C)=s
 col:∀ C,C < n→sumN n (fun R=>C2 b R C)=s
 d1:sumN n (fun k=>C2 b k k)=s
 d2:sumN n (fun k=>C2 b k (n - 1 - k))=s
theorem Sq.mem {n:Nat} {b:List (List Int)} (h:Sq n b) {R C:Nat} (hR:R < n) (hC:C < n):C2 b R C∈b.flatten:=by
 have h1:R < b.length:=by rw [h.len];exact hR
 have e:zax b R=b[R]:=by simp [zax,List.getD,h1]
 have h2:C < (b[R]).length:=by rw [h.row _ (List.getElem_mem h1)];exact hC
 refine List.mem_flatten.mpr ⟨b[R],List.getElem_mem h1,?_⟩
 unfold C2
 rw [e]
 unfold at0
 simp [List.getD,h2]
theorem Sq.flat_len {n:Nat} {b:List (List Int)} (h:Sq n b):b.flatten.length=n * n:=by
 have:∀ (l:List (List Int)),(∀ r∈l,r.length=n)→l.flatten.length=l.length * n:=by
  intro l
  induction l with
  | nil=>simp
  | cons r l ih =>
   intro hl
   rw [List.flatten_cons,List.length_append,hl r (by simp),ih fun x hx=>hl x (by simp [hx]),List.length_cons,Nat.succ_mul,Nat.add_comm]
 rw [this b h.row,h.len]
theorem Lk.sort {n:Nat} {s:Int} {b:List (List Int)} (h:Lk n s b):zfr b.flatten=rngZ 1 (n * n):=
 zgl h.sq.flat_len fun v h1 h2=>by
  obtain⟨R,C,hR,hC,e⟩:=h.sur v h1 h2
  rw [← e]
  exact h.sq.mem hR hC
theorem Lk.mir {n:Nat} {s:Int} {b b':List (List Int)} (h:Lk n s b) (hq:Sq n b') (e:∀ R C,R < n→C < n→C2 b' R C=C2 b R (n - 1 - C)):Lk n s b':=by
 refine ⟨hq,fun v h1 h2=>?_,fun R hR=>?_,fun C hC=>?_,?_,?_⟩
 ·obtain⟨R,C,hR,hC,q⟩:=h.sur v h1 h2
  exact⟨R,n - 1 - C,hR,by lia,by rw [e R _ hR (by lia),← q];congr 1;lia⟩
 ·rw [zat fun C hC=>e R C hR hC,zjY n (fun C=>C2 b R C)]
  exact h.row R hR
 ·rw [zat fun R hR=>e R C hR hC]
  exact h.col _ (by lia)
 ·rw [zat fun k hk=>e k k hk hk]
  exact h.d2
 ·rw [zat fun k hk=>e k (n - 1 - k) hk (by lia),← h.d1]
  exact zat fun k hk=>by congr 1;lia
theorem Lk.tra {n:Nat} {s:Int} {b b':List (List Int)} (h:Lk n s b) (hq:Sq n b') (e:∀ R C,R < n→C < n→C2 b' R C=C2 b C R):Lk n s b':=by
 refine ⟨hq,fun v h1 h2=>?_,fun R hR=>?_,fun C hC=>?_,?_,?_⟩
 ·obtain⟨R,C,hR,hC,q⟩:=h.sur v h1 h2
  exact⟨C,R,hC,hR,by rw [e C R hC hR,q]⟩
 ·rw [zat fun C hC=>e R C hR hC];exact h.col R hR
 ·rw [zat fun R hR=>e R C hR hC];exact h.row C hC
 ·rw [zat fun k hk=>e k k hk hk];exact h.d1
 ·rw [zat fun k hk=>e k (n - 1 - k) hk (by lia),← zjY n,← h.d2]
  exact zat fun k hk=>by congr 1;lia
theorem Lk.dwn {n:Nat} {s:Int} {b b':List (List Int)} (h:Lk n s b) (hq:Sq n b') (e:∀ R C,R < n→C < n→C2 b' R C=((n * n:Nat):Int) + 1 - C2 b R C):Lk n (n * (((n * n:Nat):Int) + 1) - s) b':=by
 refine ⟨hq,fun v h1 h2=>?_,fun R hR=>?_,fun C hC=>?_,?_,?_⟩
 ·obtain⟨R,C,hR,hC,q⟩:=h.sur (((n * n:Nat):Int) + 1 - v) (by lia) (by lia)
  exact⟨R,C,hR,hC,by rw [e R C hR hC,q];lia⟩
 ·rw [zat fun C hC=>e R C hR hC,zfc,h.row R hR]
 ·rw [zat fun R hR=>e R C hR hC,zfc,h.col C hC]
 ·rw [zat fun k hk=>e k k hk hk,zfc,h.d1]
 ·rw [zat fun k hk=>e k (n - 1 - k) hk (by lia),zfc,h.d2]
theorem Lk.pick {n:Nat} {s:Int} {b b':List (List Int)} {o:List Int} (h:Lk n s b) (hp:o.Perm (rngZ 0 n)) (hf:∀ k,k < n→at0 o k + at0 o (n - 1 - k)=(n:Int) - 1) (hq:Sq n b') (e:∀ R C,R < n→C < n→C2 b' R C=C2 b (at0 o R).toNat (at0 o C).toNat):Lk n s b':=by
 have hl:o.length=n:=by rw [hp.length_eq,zbV]
 have rg:∀ k,k < n→0≤at0 o k∧at0 o k < n:=fun k hk=>by
  have:at0 o k∈o:=by unfold at0;simp [List.getD,hl,hk]
  have:=zcT.mp (hp.mem_iff.mp this)
  lia
 have ix:∀ k,k < n→∃ j,j < n∧(at0 o j).toNat=k:=fun k hk=>by
  have:(k:Int)∈o:=hp.mem_iff.mpr (zcT.mpr (by lia))
  obtain⟨j,hj,q⟩:=List.mem_iff_getElem.mp this
  refine ⟨j,by lia,?_⟩
  unfold at0
  simp [List.getD,hj,q]
 refine ⟨hq,fun v h1 h2=>?_,fun R hR=>?_,fun C hC=>?_,?_,?_⟩
 ·obtain⟨R,C,hR,hC,q⟩:=h.sur v h1 h2
  obtain⟨i,hi,ei⟩:=ix R hR
  obtain⟨j,hj,ej⟩:=ix C hC
  exact⟨i,j,hi,hj,by rw [e i j hi hj,ei,ej,q]⟩
 ·have:=rg R hR
  rw [zat fun C hC=>e R C hR hC,zed hp (fun C=>C2 b (at0 o R).toNat C)];exact h.row _ (by lia)
 ·have:=rg C hC
  rw [zat fun R hR=>e R C hR hC,zed hp (fun R=>C2 b R (at0 o C).toNat)];exact h.col _ (by lia)
 ·rw [zat fun k hk=>e k k hk hk,zed hp (fun k=>C2 b k k)];exact h.d1
 ·rw [← h.d2,← zed hp (fun k=>C2 b k (n - 1 - k))]
  refine zat fun k hk=>?_
  rw [e k (n - 1 - k) hk (by lia)]
  have:=hf k hk
  have:=rg k hk
  congr 1
  lia
end TL
namespace Qk10
open PySem PySem.Spec L2 TL
open PyProof.Rows hiding St
noncomputable def top (i:Nat):Stmt:=PySem.Challenge.pw_likesums_k10_whole_fillings_of_opened_bo.main.body.getD i (.Pass ⟨0,0,0,0⟩)
noncomputable abbrev zcN:Stmt:=top 8
noncomputable abbrev zaU:Stmt:=top 7
noncomputable abbrev za5:Stmt:=top 6
noncomputable abbrev zcP:Stmt:=top 9
noncomputable abbrev zch:Stmt:=top 10
noncomputable abbrev zbt:Stmt:=top 11
noncomputable abbrev zbu:Stmt:=top 12
noncomputable abbrev zft:Stmt:=top 13
noncomputable abbrev zcg:Stmt:=top 14
noncomputable abbrev zaA:Stmt:=top 21
noncomputable abbrev zbd:Stmt:=top 24
noncomputable abbrev zav:Stmt:=top 22
noncomputable abbrev zcO:Stmt:=top 23
noncomputable abbrev zaE:Stmt:=top 25
noncomputable abbrev zbw:Stmt:=top 28
noncomputable abbrev za4:Stmt:=top 27
noncomputable abbrev zbv:Stmt:=top 26
noncomputable abbrev zbP:Stmt:=top 19
noncomputable abbrev zbO:Stmt:=top 20
noncomputable abbrev zcM:Stmt:=top 30
noncomputable abbrev zbN:Stmt:=top 31
noncomputable abbrev ziP:Stmt:=top 32
noncomputable abbrev zcf:Stmt:=top 34
noncomputable abbrev ziK:Stmt:=top 35
noncomputable abbrev zbL:Stmt:=top 36
noncomputable abbrev zce:Stmt:=top 37
noncomputable abbrev zcd:Stmt:=top 38
noncomputable abbrev s_law:Stmt:=top 39
noncomputable def zc3:List Str:=["lists", "numbers", "part"]
noncomputable def zbT (ρ:SEnv):SRes:=(sExt 1 .al [false,false,true] (eVar 2)) ρ
@[simp] noncomputable def zlE (ρ:SEnv):SRes:=(sSeq (sFor [true,false,false] (iSeq (eVar 0)) (gS 2) zbT)
 (zgX 1)) ρ
noncomputable def zfm (ρ:SEnv):SRes:=(sSeq (sSet 1 [false,false,false] (eLst aNil))
 zlE) ρ
noncomputable def zbH (ts:List T):Res T:=fin .fu (zfm (zaz zc3 ts))
noncomputable def zaL:List Str:=["board", "largest", "size", "row"]
noncomputable def zbs (ρ:SEnv):SRes:=(sIf [false,false,true,true] (eB (eOp (oNe) (eB1 cLen (zae (eVar 3) aNil)) (eVar 2))) (zeh 1 [false,false,false,false] uOk) sNil) ρ
@[simp] noncomputable def zfa (ρ:SEnv):SRes:=(sFor [true,false,false,false] (iLst (eVar 0)) (gS 3) zbs) ρ
@[simp] noncomputable def ze9 (ρ:SEnv):SRes:=(sSeq (sIf [false,true,true,false] (bOr (eB (eOp (oI iLt) (eVar 2) (eC (.int 1)))) (eB (eOp (oI iGt) (eVar 2) (eVar 1)))) (zeh 1 [false,true,false,false] (uInt (eVar 1) uOk)) sNil)
 zfa) ρ
noncomputable def zbp (ρ:SEnv):SRes:=(sSeq (sSet 2 [true,false,false,false] (eB1 cLen (zae (eVar 0) aNil)))
 ze9) ρ
noncomputable def zaG (ts:List T):Res T:=fin .fu (zbp (zaz zaL ts))
noncomputable def za8:List Str:=["board"]
@[simp] noncomputable def zfV (ρ:SEnv):SRes:=(sIf [true] (eB (eOp (oNe) (eB1 zfS (zae (zaD 1 zbH (zae (eVar 0) aNil)) aNil)) (eLR rng2 (zae (eC (.int 1)) (zae (eOp (oI iAdd) (eOp (oI iMul) (eB1 cLen (zae (eVar 0) aNil)) (eB1 cLen (zae (eVar 0) aNil))) (eC (.int 1))) aNil))))) (zeh 1 [false] uOk) sNil) ρ
noncomputable def zca (ρ:SEnv):SRes:=(sSeq (zgY [true] (zaD 2 zaG (zae (eVar 0) (zae (eC (.int 12)) aNil))))
 zfV) ρ
noncomputable def zaH (ts:List T):Res T:=fin .fu (zca (zaz za8 ts))
noncomputable def zeB:List Str:=["board", "place"]
noncomputable def zeU:VEnv→Res T:=(fun ρ=>chk ((eOp oIx (eVar 0) (eVar 1)) ρ))
noncomputable def zk0 (ρ:SEnv):SRes:=(sRet .fu [true,true] (zco [none,some 1] (iLst (eVar 0)) (gE 0) zeU)) ρ
noncomputable def zfh (ts:List T):Res T:=fin .fu (zk0 (zaz zeB ts))
noncomputable def zdu:List Str:=["board"]
noncomputable def zd7:VEnv→Res T:=(zaD 2 zfh (zae (eVar 1) (zae (eVar 0) aNil)))
noncomputable def ziE (ρ:SEnv):SRes:=(sRet .fu [true] (zco [none,some 0] (iRng rng1 (zae (eB1 cLen (zae (eVar 0) aNil)) aNil)) (gE 0) zd7)) ρ
noncomputable def zb2 (ts:List T):Res T:=fin .fu (ziE (zaz zdu ts))
noncomputable def zcp:List Str:=["board", "last", "falling", "rising"]
noncomputable def zc7:VEnv→Res T:=(fun ρ=>chk ((eOp oIx (eOp oIx (eVar 1) (eVar 0)) (eVar 0)) ρ))
noncomputable def zc6:VEnv→Res T:=(fun ρ=>chk ((eOp oIx (eOp oIx (eVar 1) (eVar 0)) (eOp (oI iSub) (eVar 2) (eVar 0))) ρ))
@[simp] noncomputable def zht (ρ:SEnv):SRes:=(sRet .sp [false,false,true,true] (eLst (zae (eVar 2) (zae (eVar 3) aNil)))) ρ
@[simp] noncomputable def zhs (ρ:SEnv):SRes:=(sSeq (sSet 3 [true,true,false,false] (zco [none,some 0,some 1] (iRng rng1 (zae (eB1 cLen (zae (eVar 0) aNil)) aNil)) (gE 0) zc6))
 zht) ρ
@[simp] noncomputable def zhr (ρ:SEnv):SRes:=(sSeq (sSet 2 [true,false,false,false] (zco [none,some 0] (iRng rng1 (zae (eB1 cLen (zae (eVar 0) aNil)) aNil)) (gE 0) zc7))
 zhs) ρ
noncomputable def zfY (ρ:SEnv):SRes:=(sSeq (sSet 1 [true,false,false,false] (eOp (oI iSub) (eB1 cLen (zae (eVar 0) aNil)) (eC (.int 1))))
 zhr) ρ
noncomputable def zbx (ts:List T):Res T:=fin .al (zfY (zaz zcp ts))
noncomputable def zcq:List Str:=["lines"]
noncomputable def zc8:VEnv→Res T:=(eB1 cSum (zae (eVar 0) aNil))
noncomputable def zfZ (ρ:SEnv):SRes:=(sRet .fu [true] (zco [none] (iLst (eVar 0)) (gE 0) zc8)) ρ
noncomputable def zbR (ts:List T):Res T:=fin .fu (zfZ (zaz zcq ts))
noncomputable def ziF:List Str:=["board"]
@[simp] noncomputable def zoE (ρ:SEnv):SRes:=(sRet .fu [true] (eTup (zae (zaD 1 zbR (zae (eVar 0) aNil)) (zae (zaD 1 zbR (zae (zaD 1 zb2 (zae (eVar 0) aNil)) aNil)) (zae (zaD 1 zbR (zae (zaD 1 zbx (zae (eVar 0) aNil)) aNil)) aNil))))) ρ
noncomputable def zpj (ρ:SEnv):SRes:=(sSeq (zgY [true] (zaD 1 zaH (zae (eVar 0) aNil)))
 zoE) ρ
noncomputable def zh3 (ts:List T):Res T:=fin .fu (zpj (zaz ziF ts))
noncomputable def zdt:List Str:=["board", "every_sum"]
@[simp] noncomputable def zjG (ρ:SEnv):SRes:=(sRet .fu [false,true] (eOp (oEq) (eB1 cMin (zae (eVar 1) aNil)) (eB1 cMax (zae (eVar 1) aNil)))) ρ
noncomputable def ziD (ρ:SEnv):SRes:=(sSeq (sSet 1 [true,false] (zaD 1 zbH (zae (zaD 1 zh3 (zae (eVar 0) aNil)) aNil)))
 zjG) ρ
noncomputable def zci (ts:List T):Res T:=fin .fu (ziD (zaz zdt ts))
noncomputable def zaT:List Str:=["board", "placed", "number"]
noncomputable def zbn:VEnv→Res T:=(fun ρ=>chk ((eVar 0) ρ))
noncomputable def zbm (ρ:SEnv):SRes:=(sIf [true,false,true] (bOr (eB (eOp (oI iLt) (eVar 2) (eC (.int 1)))) (eB (eOp (oI iGt) (eVar 2) (eOp (oI iMul) (eB1 cLen (zae (eVar 0) aNil)) (eB1 cLen (zae (eVar 0) aNil)))))) (zeh 1 [false,false,false] uOk) sNil) ρ
@[simp] noncomputable def zdL (ρ:SEnv):SRes:=(sFor [false,true,false] (iLst (eVar 1)) (gS 2) zbm) ρ
@[simp] noncomputable def zdK (ρ:SEnv):SRes:=(sSeq (sIf [false,true,false] (eB (eOp (oNe) (eLS (eVar 1)) (eB1 cLen (zae (eVar 1) aNil)))) (zeh 1 [false,false,false] uOk) sNil)
 zdL) ρ
@[simp] noncomputable def zdJ (ρ:SEnv):SRes:=(sSeq (sSet 1 [true,false,false] (ze1 [none] (iLst (zaD 1 zbH (zae (eVar 0) aNil))) (gE 0) (eB (eOp (oNe) (eVar 0) (eC (.int 0)))) zbn))
 zdK) ρ
noncomputable def zcv (ρ:SEnv):SRes:=(sSeq (zgY [true,false,false] (zaD 2 zaG (zae (eVar 0) (zae (eC (.int 4)) aNil))))
 zdJ) ρ
noncomputable def zbb (ts:List T):Res T:=fin .fu (zcv (zaz zaT ts))
noncomputable def zb5:List Str:=["board", "cells", "r", "row"]
noncomputable def zbZ:VEnv→Res T:=(eTup (zae (fun ρ=>chk ((eVar 2) ρ)) (zae (fun ρ=>chk ((eVar 0) ρ)) aNil)))
noncomputable def zbq (ρ:SEnv):SRes:=(sExt 1 .fu [false,false,true,true] (ze1 [none,none,some 2] (zm8 (eVar 3)) (gE2 0 1) (eB (eOp (oEq) (eVar 1) (eC (.int 0)))) zbZ)) ρ
@[simp] noncomputable def zgf (ρ:SEnv):SRes:=(sSeq (sFor [true,false,false,false] (zm8 (eVar 0)) (gS2 2 3) zbq)
 (zgX 1)) ρ
noncomputable def ze4 (ρ:SEnv):SRes:=(sSeq (sSet 1 [false,false,false,false] (eLst aNil))
 zgf) ρ
noncomputable def zb1 (ts:List T):Res T:=fin .fu (ze4 (zaz zb5 ts))
noncomputable def zaC:List Str:=["board"]
noncomputable def zbl (ρ:SEnv):SRes:=(sIf [true] (bAnd (eB (eOp (oEq) (eB1 cLen (zae (eVar 0) aNil)) (eC (.int 4)))) (eB (eOp (oI iGt) (eB1 cLen (zae (zaD 1 zb1 (zae (eVar 0) aNil)) aNil)) (eC (.int 6))))) (zeh 4 [false] (uInt (eC (.int 4)) (uInt (eC (.int 6)) uOk))) sNil) ρ
noncomputable def zaJ (ts:List T):Res T:=fin .fu (zbl (zaz zaC ts))
noncomputable def zeA:List Str:=["board"]
noncomputable def zeT:VEnv→Res T:=(eB1 (znt .fu) (zae (eVar 0) aNil))
noncomputable def zkZ (ρ:SEnv):SRes:=(sRet .fu [true] (zco [none] (iLst (eVar 0)) (gE 0) zeT)) ρ
noncomputable def zen (ts:List T):Res T:=fin .fu (zkZ (zaz zeA ts))
noncomputable def za2:List Str:=["board", "placed"]
noncomputable def za9:VEnv→Res T:=(fun ρ=>chk ((eVar 0) ρ))
@[simp] noncomputable def zd0 (ρ:SEnv):SRes:=(sRet .fu [true,true] (ze1 [none,some 1] (iRng rng2 (zae (eC (.int 1)) (zae (eOp (oI iAdd) (eOp (oI iMul) (eB1 cLen (zae (eVar 0) aNil)) (eB1 cLen (zae (eVar 0) aNil))) (eC (.int 1))) aNil))) (gE 0) (eB (eOp (zc9) (eVar 0) (eVar 1))) za9)) ρ
noncomputable def zcG (ρ:SEnv):SRes:=(sSeq (sSet 1 [true,false] (zaD 1 zbH (zae (eVar 0) aNil)))
 zd0) ρ
noncomputable def zbh (ts:List T):Res T:=fin .fu (zcG (zaz za2 ts))
noncomputable def zcs:List Str:=["size"]
noncomputable def zf1 (ρ:SEnv):SRes:=(sRet .fu [true] (eOp (oI iDiv) (eOp (oI iMul) (eVar 0) (eOp (oI iAdd) (eOp (oI iMul) (eVar 0) (eVar 0)) (eC (.int 1)))) (eC (.int 2)))) ρ
noncomputable def zcW (ts:List T):Res T:=fin .fu (zf1 (zaz zcs ts))
noncomputable def zbK:List Str:=["board", "line"]
noncomputable def zaQ (ρ:SEnv):SRes:=(sIf [true,true] (bAnd (eB (eOp (zc9) (eC (.int 0)) (eVar 1))) (eB (eOp (oNe) (eB1 cSum (zae (eVar 1) aNil)) (zaD 1 zcW (zae (eB1 cLen (zae (eVar 0) aNil)) aNil))))) (sRet .fu [false,false] (eC (.bl false))) sNil) ρ
noncomputable def zex (ρ:SEnv):SRes:=(sSeq (sFor [true,false] (iLst (eOp (oCat .sp) (eOp (oCat .sp) (eVar 0) (zaD 1 zb2 (zae (eVar 0) aNil))) (zaD 1 zbx (zae (eVar 0) aNil)))) (gS 1) zaQ)
 (sRet .fu [false,false] (eC (.bl true)))) ρ
noncomputable def zb8 (ts:List T):Res T:=fin .fu (zex (zaz zbK ts))
noncomputable def zcr:List Str:=["board", "cell", "found", "number", "filled"]
@[simp] noncomputable def zhw (ρ:SEnv):SRes:=(sIf [false,false,false,false,true] (eB (zaD 1 zb8 (zae (eVar 4) aNil))) (zj3 2 4) sNil) ρ
@[simp] noncomputable def zhv (ρ:SEnv):SRes:=(sSeq (znP 4 [false,true,false,true,false] (eVar 3) (eOp oIx (eVar 1) (eC (.int 0))) (eOp oIx (eVar 1) (eC (.int 1))))
 zhw) ρ
noncomputable def zbk (ρ:SEnv):SRes:=(sSeq (sSet 4 [true,false,false,false,false] (zaD 1 zen (zae (eVar 0) aNil)))
 zhv) ρ
@[simp] noncomputable def zhu (ρ:SEnv):SRes:=(sSeq (sFor [true,false,false,false,false] (iLst (zaD 1 zbh (zae (eVar 0) aNil))) (gS 3) zbk)
 (zgX 2)) ρ
noncomputable def zf0 (ρ:SEnv):SRes:=(sSeq (sSet 2 [false,false,false,false,false] (eLst aNil))
 zhu) ρ
noncomputable def zcj (ts:List T):Res T:=fin .fu (zf0 (zaz zcr ts))
noncomputable def zcL:List Str:=["board", "found", "cell"]
noncomputable def zdx:VEnv→Res T:=(zaD 2 zcj (zae (eVar 0) (zae (eVar 1) aNil)))
noncomputable def zbD (ρ:SEnv):SRes:=(sSet 1 [false,true,true] (eJn (zco [none,some 2] (iLst (eVar 1)) (gE 0) zdx))) ρ
@[simp] noncomputable def ziB (ρ:SEnv):SRes:=(sSeq (sFor [true,false,false] (iLst (zaD 1 zb1 (zae (eVar 0) aNil))) (gS 2) zbD)
 (zfe 1 (eB (zaD 1 zci (zae (eVar 0) aNil))))) ρ
@[simp] noncomputable def ziA (ρ:SEnv):SRes:=(sSeq (sSet 1 [true,false,false] (eLst (zae (zaD 1 zen (zae (eVar 0) aNil)) aNil)))
 ziB) ρ
@[simp] noncomputable def ziz (ρ:SEnv):SRes:=(sSeq (zgY [true,false,false] (zaD 1 zaJ (zae (eVar 0) aNil)))
 ziA) ρ
noncomputable def zgL (ρ:SEnv):SRes:=(sSeq (zgY [true,false,false] (zaD 1 zbb (zae (eVar 0) aNil)))
 ziz) ρ
noncomputable def zcc (ts:List T):Res T:=fin .fu (zgL (zaz zcL ts))
noncomputable def zcK:List Str:=["board"]
noncomputable def zgK (ρ:SEnv):SRes:=(sRet .fu [true] (eB1 cLen (zae (zaD 1 zcc (zae (eVar 0) aNil)) aNil))) ρ
noncomputable def zdA (ts:List T):Res T:=fin .fu (zgK (zaz zcK ts))
noncomputable def zez:List Str:=["board"]
noncomputable def zeS:VEnv→Res T:=(eRev .fu (eVar 0))
@[simp] noncomputable def zlD (ρ:SEnv):SRes:=(sRet .fu [true] (zco [none] (iLst (zaD 1 zb2 (zae (eVar 0) aNil))) (gE 0) zeS)) ρ
noncomputable def zkY (ρ:SEnv):SRes:=(sSeq (zgY [true] (zaD 1 zaH (zae (eVar 0) aNil)))
 zlD) ρ
noncomputable def zfg (ts:List T):Res T:=fin .fu (zkY (zaz zez ts))
noncomputable def zcJ:List Str:=["board"]
noncomputable def zdw:VEnv→Res T:=(eRev .fu (eVar 0))
noncomputable def zgJ (ρ:SEnv):SRes:=(sSeq (zgY [true] (zaD 1 zaH (zae (eVar 0) aNil)))
 (sRet .fu [true] (zco [none] (iLst (eVar 0)) (gE 0) zdw))) ρ
noncomputable def zdz (ts:List T):Res T:=fin .fu (zgJ (zaz zcJ ts))
noncomputable def znL:List Str:=["board", "found", "current", "turn"]
@[simp] noncomputable def zqH (ρ:SEnv):SRes:=(sApp 1 .fu [false,false,true,false] (zaD 1 zdz (zae (eVar 2) aNil))) ρ
noncomputable def zdv (ρ:SEnv):SRes:=(sSeq (sSet 2 [false,false,true,false] (zaD 1 zfg (zae (eVar 2) aNil)))
 (sSeq (sApp 1 .al [false,false,true,false] (eVar 2))
 zqH)) ρ
@[simp] noncomputable def zqG (ρ:SEnv):SRes:=(sRet .sp [false,true,false,false] (eB1 zgG (zae (eVar 1) aNil))) ρ
@[simp] noncomputable def zqF (ρ:SEnv):SRes:=(sSeq (sFor [false,false,false,false] (iRng rng1 (zae (eC (.int 4)) aNil)) (gS 3) zdv)
 zqG) ρ
noncomputable def zsd (ρ:SEnv):SRes:=(sSeq (sSet 1 [false,false,false,false] (eLst aNil))
 (sSeq (zl3 .al 2 [true,false,false,false] (eVar 0))
 zqF)) ρ
noncomputable def zmH (ts:List T):Res T:=fin .sp (zsd (zaz znL ts))
noncomputable def zcI:List Str:=["script", "k"]
noncomputable def zfX (ρ:SEnv):SRes:=(sSeq (sIf [true,true] (eB (eOp (oI iLt) (eVar 1) (eB1 cLen (zae (eVar 0) aNil)))) (sRet .fu [true,true] (fun ρ=>chk ((eOp oIx (eVar 0) (eVar 1)) ρ))) sNil)
 (sRet .fu [false,false] (eC (.int 0)))) ρ
noncomputable def zbG (ts:List T):Res T:=fin .fu (zfX (zaz zcI ts))
noncomputable def znK:List Str:=["cell", "k", "many", "some", "stir"]
@[simp] noncomputable def zqw (ρ:SEnv):SRes:=(sRet .fu [false,true,true,false,true] (eOp (oI iMod) (eOp (oI iDiv) (eOp (oI iMod) (eOp (oI iAdd) (eOp (oI iMul) (eVar 4) (eVar 4)) (eOp (oI iMul) (eC (.int 48271)) (eVar 1))) (eC (.int 1000000007))) (eC (.int 7))) (eVar 2))) ρ
@[simp] noncomputable def zqv (ρ:SEnv):SRes:=(sSeq (sSet 4 [false,false,false,false,true] (eOp (oI iMod) (eVar 4) (eC (.int 1000000007))))
 zqw) ρ
@[simp] noncomputable def zqu (ρ:SEnv):SRes:=(sSeq (sSet 4 [true,true,false,true,false] (eOp (oI iAdd) (eOp (oI iAdd) (eOp (oI iMul) (eOp (oI iAdd) (eOp (oI iMod) (eVar 0) (eC (.int 2147483647))) (eC (.int 12345))) (eOp oIx (eVar 3) (eOp (oI iMod) (eVar 1) (eC (.int 13))))) (eOp (oI iMul) (eC (.int 977)) (eVar 1))) (eOp (oI iMul) (eC (.int 7919)) (eOp (oI iDiv) (eVar 1) (eC (.int 13))))))
 zqv) ρ
noncomputable def zsc (ρ:SEnv):SRes:=(sSeq (sSet 3 [false,false,false,false,false] (eLst (zae (eC (.int 48271)) (zae (eC (.int 69621)) (zae (eC (.int 16807)) (zae (eC (.int 39373)) (zae (eC (.int 30269)) (zae (eC (.int 40014)) (zae (eC (.int 40692)) (zae (eC (.int 50021)) (zae (eC (.int 61687)) (zae (eC (.int 71993)) (zae (eC (.int 83869)) (zae (eC (.int 95561)) (zae (eC (.int 30307)) aNil)))))))))))))))
 zqu) ρ
noncomputable def zmE (ts:List T):Res T:=fin .fu (zsc (zaz znK ts))
noncomputable def zcH:List Str:=["cell", "many", "left", "order", "k"]
@[simp] noncomputable def zix (ρ:SEnv):SRes:=(sSet 2 [false,false,true,false,true] (eOp (oI iDiv) (eVar 2) (eOp (oI iAdd) (eVar 4) (eC (.int 1))))) ρ
@[simp] noncomputable def ziw (ρ:SEnv):SRes:=(sSeq (sIns 3 [false,false,true,false,true] (eOp (oI iMod) (eVar 2) (eOp (oI iAdd) (eVar 4) (eC (.int 1)))) (eVar 4))
 zix) ρ
@[simp] noncomputable def ziv (ρ:SEnv):SRes:=(sIns 3 [false,false,true,false,true] (zaD 3 zmE (zae (eVar 2) (zae (eVar 4) (zae (eOp (oI iAdd) (eVar 4) (eC (.int 1))) aNil)))) (eVar 4)) ρ
noncomputable def zcw (ρ:SEnv):SRes:=(sIf [true,false,false,false,false] (eB (eOp (oEq) (eOp (oI iMod) (eVar 0) (eC (.int 2))) (eC (.int 0)))) ziw ziv) ρ
@[simp] noncomputable def ziu (ρ:SEnv):SRes:=(sSeq (sFor [false,true,false,false,false] (iRng rng1 (zae (eVar 1) aNil)) (gS 4) zcw)
 (zgX 3)) ρ
@[simp] noncomputable def zit (ρ:SEnv):SRes:=(sSeq (sSet 3 [false,false,false,false,false] (eLst aNil))
 ziu) ρ
noncomputable def zgI (ρ:SEnv):SRes:=(sSeq (sSet 2 [true,false,false,false,false] (eOp (oI iDiv) (eVar 0) (eC (.int 2))))
 zit) ρ
noncomputable def zcb (ts:List T):Res T:=fin .fu (zgI (zaz zcH ts))
noncomputable def zds:List Str:=["cell", "size", "half", "pairs", "order", "k", "one"]
@[simp] noncomputable def zjF (ρ:SEnv):SRes:=(sPut 4 [false,true,false,false,false,true,true] (eOp (oI iSub) (eOp (oI iSub) (eVar 1) (eC (.int 1))) (eVar 6)) (eOp (oI iSub) (eOp (oI iSub) (eVar 1) (eC (.int 1))) (eVar 5))) ρ
@[simp] noncomputable def zjE (ρ:SEnv):SRes:=(sSeq (sPut 4 [false,false,false,false,false,true,true] (fun ρ=>chk ((eVar 6) ρ)) (eVar 5))
 zjF) ρ
@[simp] noncomputable def zjD (ρ:SEnv):SRes:=(sSeq (sIf [true,false,false,false,false,true,false] (eB (eOp (oEq) (zaD 3 zmE (zae (eVar 0) (zae (eOp (oI iAdd) (eC (.int 70)) (eVar 5)) (zae (eC (.int 2)) aNil)))) (eC (.int 1)))) (sSet 6 [false,true,false,false,false,false,true] (eOp (oI iSub) (eOp (oI iSub) (eVar 1) (eC (.int 1))) (eVar 6))) sNil)
 zjE) ρ
noncomputable def zc5 (ρ:SEnv):SRes:=(sSeq (sSet 6 [false,false,false,true,false,true,false] (fun ρ=>chk ((eOp oIx (eVar 3) (eVar 5)) ρ)))
 zjD) ρ
@[simp] noncomputable def zjC (ρ:SEnv):SRes:=(sSeq (sFor [false,false,true,false,false,false,false] (iRng rng1 (zae (eVar 2) aNil)) (gS 5) zc5)
 (zgX 4)) ρ
@[simp] noncomputable def zjB (ρ:SEnv):SRes:=(sSeq (sSet 4 [false,true,true,false,false,false,false] (eOp (oRep .fu) (eLst (zae (fun ρ=>chk ((eVar 2) ρ)) aNil)) (eVar 1)))
 zjC) ρ
@[simp] noncomputable def zjA (ρ:SEnv):SRes:=(sSeq (sSet 3 [true,false,true,false,false,false,false] (zaD 2 zcb (zae (eVar 0) (zae (eVar 2) aNil))))
 zjB) ρ
noncomputable def ziC (ρ:SEnv):SRes:=(sSeq (sSet 2 [false,true,false,false,false,false,false] (eOp (oI iDiv) (eVar 1) (eC (.int 2))))
 zjA) ρ
noncomputable def zel (ts:List T):Res T:=fin .fu (ziC (zaz zds ts))
noncomputable def zey:List Str:=["script", "base", "size", "board", "r", "row", "c", "order", "cell"]
noncomputable def zd3 (ρ:SEnv):SRes:=(sApp 5 .fu [false,false,true,false,true,false,true,false,false] (eOp (oI iAdd) (eOp (oI iAdd) (eOp (oI iMul) (eVar 2) (eOp (oI iMod) (eOp (oI iAdd) (eOp (oI iAdd) (eOp (oI iAdd) (eVar 4) (eVar 6)) (eC (.int 1))) (eOp (oI iDiv) (eVar 2) (eC (.int 2)))) (eVar 2))) (eOp (oI iMod) (eOp (oI iAdd) (eOp (oI iAdd) (eVar 4) (eOp (oI iMul) (eC (.int 2)) (eVar 6))) (eC (.int 1))) (eVar 2))) (eC (.int 1)))) ρ
@[simp] noncomputable def zjz (ρ:SEnv):SRes:=(sApp 3 .al [false,false,false,false,false,true,false,false,false] (eVar 5)) ρ
@[simp] noncomputable def zjy (ρ:SEnv):SRes:=(sSeq (sFor [false,false,true,false,false,false,false,false,false] (iRng rng1 (zae (eVar 2) aNil)) (gS 6) zd3)
 zjz) ρ
noncomputable def zc4 (ρ:SEnv):SRes:=(sSeq (sSet 5 [false,false,false,false,false,false,false,false,false] (eLst aNil))
 zjy) ρ
@[simp] noncomputable def zjx (ρ:SEnv):SRes:=(sFor [false,false,true,false,false,false,false,false,false] (iRng rng1 (zae (eVar 2) aNil)) (gS 4) zc4) ρ
noncomputable def zf7:VEnv→Res T:=(fun ρ=>chk ((eOp oIx (eOp oIx (eVar 1) (eVar 2)) (eVar 0)) ρ))
noncomputable def zf6:VEnv→Res T:=(zco [none,some 2,some 0] (iLst (eVar 1)) (gE 0) zf7)
noncomputable def zd6:VEnv→Res T:=(eRev .fu (eVar 0))
noncomputable def zf5:VEnv→Res T:=(fun ρ=>chk ((eOp oIx (eOp oIx (eVar 1) (eVar 0)) (eVar 2)) ρ))
noncomputable def zd5:VEnv→Res T:=(zco [none,some 2,some 0] (iRng rng1 (zae (eVar 1) aNil)) (gE 0) zf5)
@[simp] noncomputable def zjw (ρ:SEnv):SRes:=(sSet 3 [false,false,true,true,false,false,false,false,false] (zco [none,some 2,some 3] (iRng rng1 (zae (eVar 2) aNil)) (gE 0) zd5)) ρ
noncomputable def zf4:VEnv→Res T:=(eOp (oI iSub) (eOp (oI iAdd) (eOp (oI iMul) (eVar 1) (eVar 1)) (eC (.int 1))) (eVar 0))
noncomputable def zd4:VEnv→Res T:=(zco [none,some 1] (iLst (eVar 0)) (gE 0) zf4)
@[simp] noncomputable def zjv (ρ:SEnv):SRes:=(sSet 3 [false,false,true,true,false,false,false,false,false] (zco [none,some 2] (iLst (eVar 3)) (gE 0) zd4)) ρ
@[simp] noncomputable def zju (ρ:SEnv):SRes:=(sSeq (sIf [false,false,false,false,false,false,false,false,true] (eB (eOp (oEq) (eOp (oI iMod) (eOp (oI iDiv) (eVar 8) (eC (.int 4))) (eC (.int 2))) (eC (.int 1)))) zjv sNil)
 (zgX 3)) ρ
@[simp] noncomputable def zjt (ρ:SEnv):SRes:=(sSeq (sIf [false,false,false,false,false,false,false,false,true] (eB (eOp (oEq) (eOp (oI iMod) (eOp (oI iDiv) (eVar 8) (eC (.int 2))) (eC (.int 2))) (eC (.int 1)))) zjw sNil)
 zju) ρ
@[simp] noncomputable def zjs (ρ:SEnv):SRes:=(sSeq (sIf [false,false,false,false,false,false,false,false,true] (eB (eOp (oEq) (eOp (oI iMod) (eVar 8) (eC (.int 2))) (eC (.int 1)))) (sSet 3 [false,false,false,true,false,false,false,false,false] (zco [none] (iLst (eVar 3)) (gE 0) zd6)) sNil)
 zjt) ρ
@[simp] noncomputable def zjr (ρ:SEnv):SRes:=(sSeq (sSet 8 [true,true,false,false,false,false,false,false,false] (zaD 2 zbG (zae (eVar 0) (zae (eOp (oI iAdd) (eVar 1) (eC (.int 1))) aNil))))
 zjs) ρ
@[simp] noncomputable def ziy (ρ:SEnv):SRes:=(sSeq (sSet 3 [false,false,false,true,false,false,false,true,false] (zco [none,some 7,some 3] (iLst (eVar 7)) (gE 0) zf6))
 zjr) ρ
@[simp] noncomputable def ze3 (ρ:SEnv):SRes:=(sSeq (sSet 7 [true,true,true,false,false,false,false,false,false] (zaD 2 zel (zae (zaD 2 zbG (zae (eVar 0) (zae (eVar 1) aNil))) (zae (eVar 2) aNil))))
 ziy) ρ
@[simp] noncomputable def ze2 (ρ:SEnv):SRes:=(sSeq (sIf [false,false,true,false,false,false,false,false,false] (eB (eOp (oEq) (eOp (oI iMod) (eVar 2) (eC (.int 2))) (eC (.int 1)))) (sSeq (sSet 3 [false,false,false,false,false,false,false,false,false] (eLst aNil))
 zjx) sNil)
 ze3) ρ
noncomputable def zfW (ρ:SEnv):SRes:=(sSeq (sSet 3 [false,false,false,false,false,false,false,false,false] (eLst (zae (eLst (zae (eC (.int 16)) (zae (eC (.int 2)) (zae (eC (.int 3)) (zae (eC (.int 13)) aNil))))) (zae (eLst (zae (eC (.int 5)) (zae (eC (.int 11)) (zae (eC (.int 10)) (zae (eC (.int 8)) aNil))))) (zae (eLst (zae (eC (.int 9)) (zae (eC (.int 7)) (zae (eC (.int 6)) (zae (eC (.int 12)) aNil))))) (zae (eLst (zae (eC (.int 4)) (zae (eC (.int 14)) (zae (eC (.int 15)) (zae (eC (.int 1)) aNil))))) aNil))))))
 ze2) ρ
noncomputable def zcE (ts:List T):Res T:=fin .fu (zfW (zaz zey ts))
noncomputable def zlF:List Str:=["script", "cell", "size", "board", "spots", "opened", "known", "spot", "further", "one", "place"]
@[simp] noncomputable def zqE (ρ:SEnv):SRes:=(sSet 4 [true,false,false,false,true,false,false,false,false,false,false] (eSl .fu (eVar 4) zpW (zn2 (eOp (oI iMod) (zaD 2 zbG (zae (eVar 0) (zae (eC (.int 7)) aNil))) (eC (.int 7)))))) ρ
noncomputable def zjI:VEnv→Res T:=(eB1 (znt .fu) (zae (eVar 0) aNil))
noncomputable def zf3 (ρ:SEnv):SRes:=(sIf [false,false,true,false,false,true,false,false,false,true,true] (eB (eOp (zc9) (eOp oIx (eOp oIx (eVar 5) (eOp (oI iDiv) (eVar 10) (eVar 2))) (eOp (oI iMod) (eVar 10) (eVar 2))) (eTup (zae (eC (.int 0)) (zae (fun ρ=>chk ((eOp oIx (eOp oIx (eVar 9) (eOp (oI iDiv) (eVar 10) (eVar 2))) (eOp (oI iMod) (eVar 10) (eVar 2))) ρ)) aNil))))) (sRet .fu [false,false,false,false,false,false,false,false,false,false,false] (eC (.bl false))) sNil) ρ
@[simp] noncomputable def zqD (ρ:SEnv):SRes:=(sFor [false,false,true,false,false,false,false,false,false,false,false] (iRng rng1 (zae (eOp (oI iMul) (eVar 2) (eVar 2)) aNil)) (gS 10) zf3) ρ
noncomputable def zeQ (ρ:SEnv):SRes:=(sSeq (sIf [false,false,false,false,false,false,false,false,false,true,false] (eB (eOp (zkg) (zaD 1 zci (zae (eVar 9) aNil)) (eC (.bl true)))) (sRet .fu [false,false,false,false,false,false,false,false,false,false,false] (eC (.bl false))) sNil)
 zqD) ρ
@[simp] noncomputable def zqC (ρ:SEnv):SRes:=(zl3 .al 6 [false,false,false,false,false,false,false,false,true,false,false] (eVar 8)) ρ
@[simp] noncomputable def zqB (ρ:SEnv):SRes:=(sSeq (sFor [false,false,false,false,false,false,false,false,true,false,false] (iLst (eVar 8)) (gS 9) zeQ)
 zqC) ρ
@[simp] noncomputable def zqA (ρ:SEnv):SRes:=(sSeq (sIf [false,false,false,true,false,true,true,false,true,false,false] (bOr (eB (eOp (zc9) (eVar 3) (eVar 8))) (bOr (eB (eOp (oI iLt) (eB1 cLen (zae (eVar 8) aNil)) (eB1 cLen (zae (eVar 6) aNil)))) (eB (eOp (oNe) (zaD 1 zdA (zae (eVar 5) aNil)) (eB1 cLen (zae (eVar 8) aNil)))))) (sRet .fu [false,false,false,false,false,false,false,false,false,false,false] (eC (.bl false))) sNil)
 zqB) ρ
@[simp] noncomputable def zqz (ρ:SEnv):SRes:=(sSeq (sSet 8 [false,false,false,false,false,true,false,false,false,false,false] (zaD 1 zcc (zae (eVar 5) aNil)))
 zqA) ρ
noncomputable def zf2 (ρ:SEnv):SRes:=(sSeq (znP 5 [false,false,true,false,false,false,false,true,false,false,false] (eC (.int 0)) (eOp (oI iDiv) (eVar 7) (eVar 2)) (eOp (oI iMod) (eVar 7) (eVar 2)))
 zqz) ρ
@[simp] noncomputable def znI (ρ:SEnv):SRes:=(sRet .fu [false,false,true,true,false,false,true,false,false,false,false] (vOr (eOp (oNe) (eVar 2) (eC (.int 3))) (eOp (oEq) (eVar 6) (zaD 1 zmH (zae (eVar 3) aNil))))) ρ
@[simp] noncomputable def zqy (ρ:SEnv):SRes:=(sSeq (sFor [false,false,false,false,true,false,false,false,false,false,false] (iLst (eVar 4)) (gS 7) zf2)
 znI) ρ
@[simp] noncomputable def zqx (ρ:SEnv):SRes:=(sSeq (sIf [false,false,false,true,false,false,true,false,false,false,false] (eB (eOp (oNe) (eVar 6) (eLst (zae (eVar 3) aNil)))) (sRet .fu [false,false,false,false,false,false,false,false,false,false,false] (eC (.bl false))) sNil)
 zqy) ρ
@[simp] noncomputable def zoJ (ρ:SEnv):SRes:=(sSeq (sSet 6 [false,false,false,false,false,true,false,false,false,false,false] (zaD 1 zcc (zae (eVar 5) aNil)))
 zqx) ρ
@[simp] noncomputable def zew (ρ:SEnv):SRes:=(sSeq (sSet 5 [false,false,false,true,false,false,false,false,false,false,false] (zco [none] (iLst (eVar 3)) (gE 0) zjI))
 zoJ) ρ
@[simp] noncomputable def zoI (ρ:SEnv):SRes:=(sSeq (sIf [false,false,true,false,false,false,false,false,false,false,false] (eB (eOp (oEq) (eVar 2) (eC (.int 4)))) zqE sNil)
 zew) ρ
@[simp] noncomputable def zoH (ρ:SEnv):SRes:=(sSeq (sSet 4 [true,false,true,false,false,false,false,false,false,false,false] (zaD 2 zcb (zae (zaD 2 zbG (zae (eVar 0) (zae (eC (.int 6)) aNil))) (zae (eOp (oI iMul) (eVar 2) (eVar 2)) aNil))))
 zoI) ρ
@[simp] noncomputable def zoG (ρ:SEnv):SRes:=(sSeq (sSet 3 [true,false,true,false,false,false,false,false,false,false,false] (zaD 3 zcE (zae (eVar 0) (zae (eC (.int 0)) (zae (eVar 2) aNil)))))
 zoH) ρ
@[simp] noncomputable def zoF (ρ:SEnv):SRes:=(sSeq (sSet 2 [false,true,false,false,false,false,false,false,false,false,false] (fun ρ=>chk ((eOp oIx (eLst (zae (eC (.int 1)) (zae (eC (.int 3)) (zae (eC (.int 3)) (zae (eC (.int 4)) aNil))))) (eOp (oI iMod) (eVar 1) (eC (.int 4)))) ρ)))
 zoG) ρ
noncomputable def zqI (ρ:SEnv):SRes:=(sSeq (sSet 1 [true,false,false,false,false,false,false,false,false,false,false] (zaD 2 zbG (zae (eVar 0) (zae (eC (.int 5)) aNil))))
 zoF) ρ
noncomputable def zn7 (ts:List T):Res T:=fin .fu (zqI (zaz zlF ts))
theorem zja:∀ (wss:List (List V)) (acc:List V) (t0 x:Option (Md×T)),(acc ++ wss.flatten).length≤sizeLine→∃ x',forL (gS 2) zbT (wss.map fun ws=>T.lst (ws.map T.sc)) [t0,some (.fu,.lst (acc.map T.sc)),x]=.nx [t0,some (.fu,.lst ((acc ++ wss.flatten).map T.sc)),x']:=by
 intro wss
 induction wss with
 | nil=>intro acc t0 x h;exact⟨x,by simp⟩
 | cons ws wss ih =>
  intro acc t0 x h
  rw [List.flatten_cons,← List.append_assoc] at h
  obtain⟨x',e⟩:=ih (acc ++ ws) t0 (some (.al,.lst (ws.map T.sc))) h
  refine ⟨x',?_⟩
  rw [List.map_cons]
  have hf:zfK (ws.map T.sc)=true:=by unfold zfK;simp [isSc]
  have hz:acc.length + ws.length≤sizeLine:=by rw [List.length_append,List.length_append] at h;lia
  have q:zhh 1 .al [false,false,true] .fu (acc.map T.sc) (.lst (ws.map T.sc)) [t0,some (.fu,.lst (acc.map T.sc)),some (.al,.lst (ws.map T.sc))]=.nx [t0,some (.fu,.lst ((acc ++ ws).map T.sc)),some (.al,.lst (ws.map T.sc))]:=by
   unfold zhh
   simp [hf,hz]
  have el:zbT [t0,some (.fu,.lst (acc.map T.sc)),some (.al,.lst (ws.map T.sc))]=.nx [t0,some (.fu,.lst ((acc ++ ws).map T.sc)),some (.al,.lst (ws.map T.sc))]:=q
  have eg:gS 2 (T.lst (ws.map T.sc)) [t0,some (.fu,.lst (acc.map T.sc)),x]=some [t0,some (.fu,.lst (acc.map T.sc)),some (.al,.lst (ws.map T.sc))]:=rfl
  unfold forL
  rw [eg]
  show SRes.then (zbT _) _=_
  rw [el]
  show forL (gS 2) zbT _ _=_
  rw [e,List.flatten_cons,List.append_assoc]
theorem zmY (wss:List (List V)) (h:wss.flatten.length≤1000000) (_:wss.length≤1000000):zbH [.lst (wss.map fun ws=>.lst (ws.map T.sc))]=.ok (.lst (wss.flatten.map T.sc)):=by
 obtain⟨x',e⟩:=zja wss [] (some (.al,.lst (wss.map fun ws=>.lst (ws.map T.sc)))) none (Nat.le_trans h (by decide))
 simp at e
 simp [zbH,zfm,zc3,e]
theorem nd_0:(["row"]:List Str).Nodup:=zal (by decide +kernel)
theorem nd_1:(["place", "board"]:List Str).Nodup:=zal (by decide +kernel)
theorem nd_2:(["row", "place"]:List Str).Nodup:=zal (by decide +kernel)
theorem nd_3:(["k", "board"]:List Str).Nodup:=zal (by decide +kernel)
theorem nd_4:(["k", "board", "last"]:List Str).Nodup:=zal (by decide +kernel)
theorem nd_5:(["line"]:List Str).Nodup:=zal (by decide +kernel)
theorem nd_6:(["partly", "cell"]:List Str).Nodup:=zal (by decide +kernel)
theorem nd_7:(["full"]:List Str).Nodup:=zal (by decide +kernel)
theorem nd_8:(["number"]:List Str).Nodup:=zal (by decide +kernel)
theorem nd_9:(["c", "number", "r"]:List Str).Nodup:=zal (by decide +kernel)
theorem ztg:(["number", "placed"]:List Str).Nodup:=zal (by decide +kernel)
theorem ztf:(["one", "order", "board"]:List Str).Nodup:=zal (by decide +kernel)
theorem zte:(["two", "board", "one"]:List Str).Nodup:=zal (by decide +kernel)
theorem ztd:(["r", "size", "board"]:List Str).Nodup:=zal (by decide +kernel)
theorem ztc:(["c", "board", "r"]:List Str).Nodup:=zal (by decide +kernel)
theorem ztb:(["row", "size"]:List Str).Nodup:=zal (by decide +kernel)
theorem zta:(["number", "size"]:List Str).Nodup:=zal (by decide +kernel)
set_option genInjectivity false in
set_option genSizeOf false in
structure Adr where
 f_joined:Addr
 d_joined:FuncData
 f_check_square:Addr
 d_check_square:FuncData
 f_check_board:Addr
 d_check_board:FuncData
 f_column:Addr
 d_column:FuncData
 f_columns:Addr
 d_columns:FuncData
 f_long_ways:Addr
 d_long_ways:FuncData
 f_line_sums:Addr
 d_line_sums:FuncData
 f_sums:Addr
 d_sums:FuncData
 f_is_like:Addr
 d_is_like:FuncData
 f_check_open_board:Addr
 d_check_open_board:FuncData
 f_open_cells:Addr
 d_open_cells:FuncData
 f_check_not_too_open:Addr
 d_check_not_too_open:FuncData
 f_copied:Addr
 d_copied:FuncData
 f_missing_numbers:Addr
 d_missing_numbers:FuncData
 f_asked_sum:Addr
 d_asked_sum:FuncData
 f_may_be_like:Addr
 d_may_be_like:FuncData
 f_filled_at:Addr
 d_filled_at:FuncData
 f_fillings:Addr
 d_fillings:FuncData
 f_how_many:Addr
 d_how_many:FuncData
 f_turned:Addr
 d_turned:FuncData
 f_mirrored:Addr
 d_mirrored:FuncData
 f_kin:Addr
 d_kin:FuncData
 fqcell_at:Addr
 dqcell_at:FuncData
 fqmix:Addr
 dqmix:FuncData
 fqorder_by:Addr
 dqorder_by:FuncData
 fqfair_by:Addr
 dqfair_by:FuncData
 fqlike_by:Addr
 dqlike_by:FuncData
 f_law:Addr
 d_law:FuncData
 C_SumError:Addr
 C_BadBoard:Addr
 C_TooOpen:Addr
 tk_LARGEST_OPEN_SIZE:Nat
 tk_LARGEST_SIZE:Nat
 tk_MOST_OPEN_CELLS:Nat
 tk_OPEN_MARK:Nat
noncomputable def Adr.cl (t:Adr):Nat→Addr
 | 0=>t.C_SumError
 | 1=>t.C_BadBoard
 | 4=>t.C_TooOpen
 | _=>0
structure Txt (K:PySem.W.Frag) (mg:Str→Option Value) (t:Adr):Prop where
 F_joined:Fun K "joined" "joined" zcN t.f_joined t.d_joined
 mg_joined:mg "joined" = some (.ref t.f_joined)
 b_joined:zbg K t.d_joined ["lists"] []
 F_check_square:Fun K "check_square" "check_square" zaU t.f_check_square t.d_check_square
 mg_check_square:mg "check_square" = some (.ref t.f_check_square)
 b_check_square:zbg K t.d_check_square ["board", "largest"] []
 F_check_board:Fun K "check_board" "check_board" za5 t.f_check_board t.d_check_board
 mg_check_board:mg "check_board" = some (.ref t.f_check_board)
 b_check_board:zbg K t.d_check_board ["board"] []
 F_column:Fun K "column" "column" zcP t.f_column t.d_column
 mg_column:mg "column" = some (.ref t.f_column)
 b_column:zbg K t.d_column ["board", "place"] []
 F_columns:Fun K "columns" "columns" zch t.f_columns t.d_columns
 mg_columns:mg "columns" = some (.ref t.f_columns)
 b_columns:zbg K t.d_columns ["board"] []
 F_long_ways:Fun K "long_ways" "long_ways" zbt t.f_long_ways t.d_long_ways
 mg_long_ways:mg "long_ways" = some (.ref t.f_long_ways)
 b_long_ways:zbg K t.d_long_ways ["board"] []
 F_line_sums:Fun K "line_sums" "line_sums" zbu t.f_line_sums t.d_line_sums
 mg_line_sums:mg "line_sums" = some (.ref t.f_line_sums)
 b_line_sums:zbg K t.d_line_sums ["lines"] []
 F_sums:Fun K "sums" "sums" zft t.f_sums t.d_sums
 mg_sums:mg "sums" = some (.ref t.f_sums)
 b_sums:zbg K t.d_sums ["board"] []
 F_is_like:Fun K "is_like" "is_like" zcg t.f_is_like t.d_is_like
 mg_is_like:mg "is_like" = some (.ref t.f_is_like)
 b_is_like:zbg K t.d_is_like ["board"] []
 F_check_open_board:Fun K "check_open_board" "check_open_board" zaA t.f_check_open_board t.d_check_open_board
 mg_check_open_board:mg "check_open_board" = some (.ref t.f_check_open_board)
 b_check_open_board:zbg K t.d_check_open_board ["board"] []
 F_open_cells:Fun K "open_cells" "open_cells" zbd t.f_open_cells t.d_open_cells
 mg_open_cells:mg "open_cells" = some (.ref t.f_open_cells)
 b_open_cells:zbg K t.d_open_cells ["board"] []
 F_check_not_too_open:Fun K "check_not_too_open" "check_not_too_open" zav t.f_check_not_too_open t.d_check_not_too_open
 mg_check_not_too_open:mg "check_not_too_open" = some (.ref t.f_check_not_too_open)
 b_check_not_too_open:zbg K t.d_check_not_too_open ["board"] []
 F_copied:Fun K "copied" "copied" zcO t.f_copied t.d_copied
 mg_copied:mg "copied" = some (.ref t.f_copied)
 b_copied:zbg K t.d_copied ["board"] []
 F_missing_numbers:Fun K "missing_numbers" "missing_numbers" zaE t.f_missing_numbers t.d_missing_numbers
 mg_missing_numbers:mg "missing_numbers" = some (.ref t.f_missing_numbers)
 b_missing_numbers:zbg K t.d_missing_numbers ["board"] []
 F_asked_sum:Fun K "asked_sum" "asked_sum" zbw t.f_asked_sum t.d_asked_sum
 mg_asked_sum:mg "asked_sum" = some (.ref t.f_asked_sum)
 b_asked_sum:zbg K t.d_asked_sum ["size"] []
 F_may_be_like:Fun K "may_be_like" "may_be_like" za4 t.f_may_be_like t.d_may_be_like
 mg_may_be_like:mg "may_be_like" = some (.ref t.f_may_be_like)
 b_may_be_like:zbg K t.d_may_be_like ["board"] []
 F_filled_at:Fun K "filled_at" "filled_at" zbv t.f_filled_at t.d_filled_at
 mg_filled_at:mg "filled_at" = some (.ref t.f_filled_at)
 b_filled_at:zbg K t.d_filled_at ["board", "cell"] []
 F_fillings:Fun K "fillings" "fillings" zbP t.f_fillings t.d_fillings
 mg_fillings:mg "fillings" = some (.ref t.f_fillings)
 b_fillings:zbg K t.d_fillings ["board"] []
 F_how_many:Fun K "how_many" "how_many" zbO t.f_how_many t.d_how_many
 mg_how_many:mg "how_many" = some (.ref t.f_how_many)
 b_how_many:zbg K t.d_how_many ["board"] []
 F_turned:Fun K "turned" "turned" zcM t.f_turned t.d_turned
 mg_turned:mg "turned" = some (.ref t.f_turned)
 b_turned:zbg K t.d_turned ["board"] []
 F_mirrored:Fun K "mirrored" "mirrored" zbN t.f_mirrored t.d_mirrored
 mg_mirrored:mg "mirrored" = some (.ref t.f_mirrored)
 b_mirrored:zbg K t.d_mirrored ["board"] []
 F_kin:Fun K "kin" "kin" ziP t.f_kin t.d_kin
 mg_kin:mg "kin" = some (.ref t.f_kin)
 b_kin:zbg K t.d_kin ["board"] []
 Fqcell_at:Fun K "_law_cell_at" "_law_cell_at" zcf t.fqcell_at t.dqcell_at
 mgqcell_at:mg "_law_cell_at" = some (.ref t.fqcell_at)
 bqcell_at:zbg K t.dqcell_at ["script", "k"] []
 Fqmix:Fun K "_law_mix" "_law_mix" ziK t.fqmix t.dqmix
 mgqmix:mg "_law_mix" = some (.ref t.fqmix)
 bqmix:zbg K t.dqmix ["cell", "k", "many"] []
 Fqorder_by:Fun K "_law_order_by" "_law_order_by" zbL t.fqorder_by t.dqorder_by
 mgqorder_by:mg "_law_order_by" = some (.ref t.fqorder_by)
 bqorder_by:zbg K t.dqorder_by ["cell", "many"] []
 Fqfair_by:Fun K "_law_fair_by" "_law_fair_by" zce t.fqfair_by t.dqfair_by
 mgqfair_by:mg "_law_fair_by" = some (.ref t.fqfair_by)
 bqfair_by:zbg K t.dqfair_by ["cell", "size"] []
 Fqlike_by:Fun K "_law_like_by" "_law_like_by" zcd t.fqlike_by t.dqlike_by
 mgqlike_by:mg "_law_like_by" = some (.ref t.fqlike_by)
 bqlike_by:zbg K t.dqlike_by ["script", "base", "size"] []
 F_law:Fun K "law" "law" s_law t.f_law t.d_law
 mg_law:mg "law" = some (.ref t.f_law)
 b_law:zbg K t.d_law ["script"] []
 mg_SumError:mg "SumError" = some (.ref t.C_SumError)
 x_SumError:PySem.W.excIn K t.C_SumError bmV "ValueError.__new__" = true
 e_SumError_SumError:PySem.W.exmOne K (.ref t.C_SumError) (.ref t.C_SumError)=some true
 e_BadBoard_SumError:PySem.W.exmOne K (.ref t.C_BadBoard) (.ref t.C_SumError)=some true
 e_TooOpen_SumError:PySem.W.exmOne K (.ref t.C_TooOpen) (.ref t.C_SumError)=some true
 v_SumError:PySem.W.kitCls K (.ref t.C_SumError) (.type "ValueError")=some true
 k_SumError_SumError:PySem.W.kitCls K (.ref t.C_SumError) (.ref t.C_SumError)=some true
 k_BadBoard_SumError:PySem.W.kitCls K (.ref t.C_BadBoard) (.ref t.C_SumError)=some true
 k_TooOpen_SumError:PySem.W.kitCls K (.ref t.C_TooOpen) (.ref t.C_SumError)=some true
 mg_BadBoard:mg "BadBoard" = some (.ref t.C_BadBoard)
 x_BadBoard:PySem.W.excIn K t.C_BadBoard bmV "ValueError.__new__" = true
 e_SumError_BadBoard:PySem.W.exmOne K (.ref t.C_SumError) (.ref t.C_BadBoard)=some false
 e_BadBoard_BadBoard:PySem.W.exmOne K (.ref t.C_BadBoard) (.ref t.C_BadBoard)=some true
 e_TooOpen_BadBoard:PySem.W.exmOne K (.ref t.C_TooOpen) (.ref t.C_BadBoard)=some false
 v_BadBoard:PySem.W.kitCls K (.ref t.C_BadBoard) (.type "ValueError")=some true
 k_BadBoard_BadBoard:PySem.W.kitCls K (.ref t.C_BadBoard) (.ref t.C_BadBoard)=some true
 mg_TooOpen:mg "TooOpen" = some (.ref t.C_TooOpen)
 x_TooOpen:PySem.W.excIn K t.C_TooOpen bmV "ValueError.__new__" = true
 e_SumError_TooOpen:PySem.W.exmOne K (.ref t.C_SumError) (.ref t.C_TooOpen)=some false
 e_BadBoard_TooOpen:PySem.W.exmOne K (.ref t.C_BadBoard) (.ref t.C_TooOpen)=some false
 e_TooOpen_TooOpen:PySem.W.exmOne K (.ref t.C_TooOpen) (.ref t.C_TooOpen)=some true
 v_TooOpen:PySem.W.kitCls K (.ref t.C_TooOpen) (.type "ValueError")=some true
 k_TooOpen_TooOpen:PySem.W.kitCls K (.ref t.C_TooOpen) (.ref t.C_TooOpen)=some true
 c_LARGEST_OPEN_SIZE:mg "LARGEST_OPEN_SIZE" = some (.int 4 t.tk_LARGEST_OPEN_SIZE)
 c_LARGEST_SIZE:mg "LARGEST_SIZE" = some (.int 12 t.tk_LARGEST_SIZE)
 c_MOST_OPEN_CELLS:mg "MOST_OPEN_CELLS" = some (.int 6 t.tk_MOST_OPEN_CELLS)
 c_OPEN_MARK:mg "OPEN_MARK" = some (.int 0 t.tk_OPEN_MARK)
 n_enumerate:mg "enumerate" = none
 n_len:mg "len" = none
 n_list:mg "list" = none
 n_max:mg "max" = none
 n_min:mg "min" = none
 n_range:mg "range" = none
 n_reversed:mg "reversed" = none
 n_set:mg "set" = none
 n_sorted:mg "sorted" = none
 n_sum:mg "sum" = none
seal PSs PS PE PA PT PW PI PG PGs PO PJ OpR IxR UnR zcz tr tra trb tri tro trs tju TL.st
section
variable {P:Program} {w:World} {K:PySem.W.Frag} {mg:Str→Option Value} {base:Heap} {t:Adr}
theorem zl0:FnScope zc3 ["lists"] (defScope zcN):=⟨rfl,rfl,rfl,by decide +kernel,rfl,by decide +kernel,by decide +kernel⟩
theorem zmz:zc3.Nodup:=zal (by decide +kernel)
theorem zdg (T:Txt K mg t):FnOk P w K mg base (CXe P w) 1 t.f_joined t.d_joined ["lists"] (spT K t.cl 1 .fu zbH):=
 zaV (N:=zc3) T.F_joined zl0 rfl fun cdv A outer s H E S₀ hd hr=>by
 have hu5:(A.deeper (PyProof.Rows.envOfC "joined" (defScope zcN) s.heap.objs.size t.f_joined cdv)).units + 5 < cLine:=by have:=hr.un;lia
 have nd:=zmz
 refine zag ?_ ?_
 ·exact (zaB (i:=1) [false,false,false] nd rfl (.inl rfl) (zb6 zai))
 refine zag ?_ ?_
 ·refine zck [true,false,false] ownE rfl (zrP (zac (pv 0))) (zar (i:=2) nd rfl (.inl rfl)) (zaK 2) ?_
  refine zak ?_
  exact (zpb [false,false,true] (pv 1) (zac (pv 2)))
 refine zak ?_
 exact (zeL (pv 1))
theorem zfs:FnScope zaL ["board", "largest"] (defScope zaU):=⟨rfl,rfl,rfl,by decide +kernel,rfl,by decide +kernel,by decide +kernel⟩
theorem zfz:zaL.Nodup:=zal (by decide +kernel)
theorem zdh (T:Txt K mg t):FnOk P w K mg base (CXe P w) 1 t.f_check_square t.d_check_square ["board", "largest"] (spT K t.cl 2 .fu zaG):=
 zaV (N:=zaL) T.F_check_square zfs rfl fun cdv A outer s H E S₀ hd hr=>by
 have hu5:(A.deeper (PyProof.Rows.envOfC "check_square" (defScope zaU) s.heap.objs.size t.f_check_square cdv)).units + 5 < cLine:=by have:=hr.un;lia
 have nd:=zfz
 refine zag ?_ ?_
 ·exact (zaB (i:=2) [true,false,false,false] nd rfl (.inl rfl) (zau (md:=.fu) zcy rfl T.n_len PySem.boot_len (zaa (zac (pv 0)) zai)))
 refine zag ?_ ?_
 ·refine zcF [false,true,true,false] (zmV (zoc (zaW (o_lt) (zac (pv 2)) (zaj (md:=.al)) (zaY _)) (zmS (zaW (o_gt) (zac (pv 2)) (zac (pv 1)) (zaY _))))) ?_ ?_
  ·refine zak ?_
   exact (zdD (c:=1) [false,true,false,false] rfl zeF hr.hd rfl T.mg_BadBoard T.x_BadBoard (zmU (zhQ (zmh (zac (pv 1)) (zhQ zoR)))))
  ·exact za7
 refine zak ?_
 refine zck [true,false,false,false] ownE rfl (za0 (zac (pv 0))) (zar (i:=3) nd rfl (.inl rfl)) (zaK 3) ?_
 refine zak ?_
 refine zcF [false,false,true,true] (zaW (o_ne hu5) (zau (md:=.al) zcy rfl T.n_len PySem.boot_len (zaa (zac (pv 3)) zai)) (zac (pv 2)) (zaY _)) ?_ ?_
 ·refine zak ?_
  exact (zdD (c:=1) [false,false,false,false] rfl zeF hr.hd rfl T.mg_BadBoard T.x_BadBoard zkn)
 ·exact za7
theorem zf9:FnScope za8 ["board"] (defScope za5):=⟨rfl,rfl,rfl,by decide +kernel,rfl,by decide +kernel,by decide +kernel⟩
theorem zgd:za8.Nodup:=zal (by decide +kernel)
theorem zcx (T:Txt K mg t):FnOk P w K mg base (CXe P w) 2 t.f_check_board t.d_check_board ["board"] (spT K t.cl 1 .fu zaH):=
 zaV (N:=za8) T.F_check_board zf9 rfl fun cdv A outer s H E S₀ hd hr=>by
 have hu5:(A.deeper (PyProof.Rows.envOfC "check_board" (defScope za5) s.heap.objs.size t.f_check_board cdv)).units + 5 < cLine:=by have:=hr.un;lia
 have nd:=zgd
 refine zag ?_ ?_
 ·exact (zdT [true] (zam (zdh T) (hr.mono (by decide)) rfl T.mg_check_square T.F_check_square.kp T.b_check_square zaM (zaa (zac (pv 0)) (zaa (zdm (md:=.al) (zcQ (v:=.int 12) rfl T.c_LARGEST_SIZE ⟨_,rfl⟩)) zai))))
 refine zak ?_
 refine zcF [true] (zaW (o_ne hu5) (JE.al (zau zov rfl T.n_sorted boot_sorted (zaa (JE.al (zam (zdg T) (hr.mono (by decide)) rfl T.mg_joined T.F_joined.kp T.b_joined zaM (zaa (zac (pv 0)) zai))) zai))) (JE.al (zha rfl rfl T.n_list rfl T.n_range (zaa (zaj (md:=.al)) (zaa (zas (md:=.al) zcD (zas (md:=.al) zdR (zau (md:=.al) zcy rfl T.n_len PySem.boot_len (zaa (zac (pv 0)) zai)) (zau (md:=.al) zcy rfl T.n_len PySem.boot_len (zaa (zac (pv 0)) zai))) (zaj (md:=.al))) zai)))) (zaY _)) ?_ ?_
 ·refine zak ?_
  exact (zdD (c:=1) [false] rfl zeF hr.hd rfl T.mg_BadBoard T.x_BadBoard zkn)
 ·exact za7
theorem zl2:FnScope zeB ["board", "place"] (defScope zcP):=⟨rfl,rfl,rfl,by decide +kernel,rfl,by decide +kernel,by decide +kernel⟩
theorem zmB:zeB.Nodup:=zal (by decide +kernel)
theorem zms (T:Txt K mg t):FnOk P w K mg base (CXe P w) 1 t.f_column t.d_column ["board", "place"] (spT K t.cl 2 .fu zfh):=
 zaV (N:=zeB) T.F_column zl2 rfl fun cdv A outer s H E S₀ hd hr=>by
 have hu5:(A.deeper (PyProof.Rows.envOfC "column" (defScope zcP) s.heap.objs.size t.f_column cdv)).units + 5 < cLine:=by have:=hr.un;lia
 have nd:=zmB
 refine zak ?_
 exact (zbe [true,true] (zbI zaZ (Blk.of rfl) (N':=["row", "place"]) (ix:=[none,some 1]) rfl rfl (za0 (zac (pv 0))) (fun _ _ _ _ _=>zar (i:=0) nd_2 rfl (by first | exact Or.inl rfl | exact Or.inr rfl)) (zbo (i:=0) (by decide)) (fun _ _ _ _ _=>(JE.sc (md1:=.fu) (zcX o_ix (zac (pv 0)) (zac (pv 1)) (fun _ _=>rfl))))))
theorem zla:FnScope zdu ["board"] (defScope zch):=⟨rfl,rfl,rfl,by decide +kernel,rfl,by decide +kernel,by decide +kernel⟩
theorem zlq:zdu.Nodup:=zal (by decide +kernel)
theorem zeH (T:Txt K mg t):FnOk P w K mg base (CXe P w) 2 t.f_columns t.d_columns ["board"] (spT K t.cl 1 .fu zb2):=
 zaV (N:=zdu) T.F_columns zla rfl fun cdv A outer s H E S₀ hd hr=>by
 have hu5:(A.deeper (PyProof.Rows.envOfC "columns" (defScope zch) s.heap.objs.size t.f_columns cdv)).units + 5 < cLine:=by have:=hr.un;lia
 have nd:=zlq
 refine zak ?_
 exact (zbe [true] (zbI zaZ (Blk.of rfl) (N':=["place", "board"]) (ix:=[none,some 0]) rfl rfl (zbf rfl T.n_range (zaa (zau (md:=.al) zcy rfl T.n_len PySem.boot_len (zaa (zac (pv 0)) zai)) zai)) (fun _ _ _ _ _=>zar (i:=0) nd_1 rfl (by first | exact Or.inl rfl | exact Or.inr rfl)) (zbo (i:=0) (by decide)) (fun _ _ _ _ _=>(zam (zms T) (hr.mono (by decide)) rfl T.mg_column T.F_column.kp T.b_column zg1 (zaa (zac (pv 1)) (zaa (zac (pv 0)) zai))))))
theorem zhK:FnScope zcp ["board"] (defScope zbt):=⟨rfl,rfl,rfl,by decide +kernel,rfl,by decide +kernel,by decide +kernel⟩
theorem zhW:zcp.Nodup:=zal (by decide +kernel)
theorem ze0 (T:Txt K mg t):FnOk P w K mg base (CXe P w) 1 t.f_long_ways t.d_long_ways ["board"] (spT K t.cl 1 .al zbx):=
 zaV (N:=zcp) T.F_long_ways zhK rfl fun cdv A outer s H E S₀ hd hr=>by
 have hu5:(A.deeper (PyProof.Rows.envOfC "long_ways" (defScope zbt) s.heap.objs.size t.f_long_ways cdv)).units + 5 < cLine:=by have:=hr.un;lia
 have nd:=zhW
 refine zag ?_ ?_
 ·exact (zaB (i:=1) [true,false,false,false] nd rfl (.inr rfl) (zas (md:=.fu) zg4 (zau (md:=.al) zcy rfl T.n_len PySem.boot_len (zaa (zac (pv 0)) zai)) (zaj (md:=.al))))
 refine zag ?_ ?_
 ·exact (zeK (i:=2) [true,false,false,false] zaZ nd rfl rfl (Blk.of rfl) (N':=["k", "board"]) (ix:=[none,some 0]) rfl rfl (zbf rfl T.n_range (zaa (zau (md:=.al) zcy rfl T.n_len PySem.boot_len (zaa (zac (pv 0)) zai)) zai)) (fun _ _ _ _ _=>zar (i:=0) nd_3 rfl (by first | exact Or.inl rfl | exact Or.inr rfl)) (zbo (i:=0) (by decide)) (fun _ _ _ _ _=>(JE.sc (md1:=.fu) (zcX o_ix (zcX o_ix (zac (pv 1)) (zac (pv 0)) (fun _ _=>rfl)) (zac (pv 0)) (fun _ _=>rfl)))))
 refine zag ?_ ?_
 ·exact (zeK (i:=3) [true,true,false,false] zaZ nd rfl rfl (Blk.of rfl) (N':=["k", "board", "last"]) (ix:=[none,some 0,some 1]) rfl rfl (zbf rfl T.n_range (zaa (zau (md:=.al) zcy rfl T.n_len PySem.boot_len (zaa (zac (pv 0)) zai)) zai)) (fun _ _ _ _ _=>zar (i:=0) nd_4 rfl (by first | exact Or.inl rfl | exact Or.inr rfl)) (zbo (i:=0) (by decide)) (fun _ _ _ _ _=>(JE.sc (md1:=.fu) (zcX o_ix (zcX o_ix (zac (pv 1)) (zac (pv 0)) (fun _ _=>rfl)) (zas (md:=.al) zg4 (zac (pv 2)) (zac (pv 0))) (fun _ _=>rfl)))))
 refine zak ?_
 exact (zbe [false,false,true,true] (zm2 (zaa (zac (pv 2)) (zaa (zac (pv 3)) zai))))
theorem zhL:FnScope zcq ["lines"] (defScope zbu):=⟨rfl,rfl,rfl,by decide +kernel,rfl,by decide +kernel,by decide +kernel⟩
theorem zhX:zcq.Nodup:=zal (by decide +kernel)
theorem zdf (T:Txt K mg t):FnOk P w K mg base (CXe P w) 1 t.f_line_sums t.d_line_sums ["lines"] (spT K t.cl 1 .fu zbR):=
 zaV (N:=zcq) T.F_line_sums zhL rfl fun cdv A outer s H E S₀ hd hr=>by
 have hu5:(A.deeper (PyProof.Rows.envOfC "line_sums" (defScope zbu) s.heap.objs.size t.f_line_sums cdv)).units + 5 < cLine:=by have:=hr.un;lia
 have nd:=zhX
 refine zak ?_
 exact (zbe [true] (zbI zaZ (Blk.of rfl) (N':=["line"]) (ix:=[none]) rfl rfl (za0 (zac (pv 0))) (fun _ _ _ _ _=>zar (i:=0) nd_5 rfl (by first | exact Or.inl rfl | exact Or.inr rfl)) (zbo (i:=0) (by decide)) (fun _ _ _ _ _=>(zau (md:=.fu) (zr6 rfl) rfl T.n_sum boot_sum (zaa (zac (pv 0)) zai)))))
theorem zpy:FnScope ziF ["board"] (defScope zft):=⟨rfl,rfl,rfl,by decide +kernel,rfl,by decide +kernel,by decide +kernel⟩
theorem zpZ:ziF.Nodup:=zal (by decide +kernel)
theorem zpS (T:Txt K mg t):FnOk P w K mg base (CXe P w) 3 t.f_sums t.d_sums ["board"] (spT K t.cl 1 .fu zh3):=
 zaV (N:=ziF) T.F_sums zpy rfl fun cdv A outer s H E S₀ hd hr=>by
 have hu5:(A.deeper (PyProof.Rows.envOfC "sums" (defScope zft) s.heap.objs.size t.f_sums cdv)).units + 5 < cLine:=by have:=hr.un;lia
 have nd:=zpZ
 refine zag ?_ ?_
 ·exact (zdT [true] (zam (zcx T) (hr.mono (by decide)) rfl T.mg_check_board T.F_check_board.kp T.b_check_board zaM (zaa (zac (pv 0)) zai)))
 refine zak ?_
 exact (zbe [true] (zm1 (by refine zaa (zam (zdf T) (hr.mono (by decide)) rfl T.mg_line_sums T.F_line_sums.kp T.b_line_sums zaM (zaa (zac (pv 0)) zai)) ?_;refine zaa (zam (zdf T) (hr.mono (by decide)) rfl T.mg_line_sums T.F_line_sums.kp T.b_line_sums zaM (zaa (JE.al (zam (zeH T) (hr.mono (by decide)) rfl T.mg_columns T.F_columns.kp T.b_columns zaM (zaa (zac (pv 0)) zai))) zai)) ?_;refine zaa (zam (zdf T) (hr.mono (by decide)) rfl T.mg_line_sums T.F_line_sums.kp T.b_line_sums zaM (zaa (zam (ze0 T) (hr.mono (by decide)) rfl T.mg_long_ways T.F_long_ways.kp T.b_long_ways zaM (zaa (zac (pv 0)) zai)) zai)) ?_;exact zai)))
theorem zk9:FnScope zdt ["board"] (defScope zcg):=⟨rfl,rfl,rfl,by decide +kernel,rfl,by decide +kernel,by decide +kernel⟩
theorem zlp:zdt.Nodup:=zal (by decide +kernel)
theorem zgp (T:Txt K mg t):FnOk P w K mg base (CXe P w) 4 t.f_is_like t.d_is_like ["board"] (spT K t.cl 1 .fu zci):=
 zaV (N:=zdt) T.F_is_like zk9 rfl fun cdv A outer s H E S₀ hd hr=>by
 have hu5:(A.deeper (PyProof.Rows.envOfC "is_like" (defScope zcg) s.heap.objs.size t.f_is_like cdv)).units + 5 < cLine:=by have:=hr.un;lia
 have nd:=zlp
 refine zag ?_ ?_
 ·exact (zaB (i:=1) [true,false] nd rfl (.inl rfl) (zam (zdg T) (hr.mono (by decide)) rfl T.mg_joined T.F_joined.kp T.b_joined zaM (zaa (JE.al (zam (zpS T) (hr.mono (by decide)) rfl T.mg_sums T.F_sums.kp T.b_sums zaM (zaa (zac (pv 0)) zai))) zai)))
 refine zak ?_
 exact (zbe [false,true] (zm4 (md:=.fu) (o_eq hu5) (zau (md:=.al) (ztC rfl) rfl T.n_min boot_min (zaa (zac (pv 1)) zai)) (zau (md:=.al) (ztD rfl) rfl T.n_max boot_max (zaa (zac (pv 1)) zai)) (zaY _)))
theorem zdO:FnScope zaT ["board"] (defScope zaA):=⟨rfl,rfl,rfl,by decide +kernel,rfl,by decide +kernel,by decide +kernel⟩
theorem zdS:zaT.Nodup:=zal (by decide +kernel)
theorem zdQ (T:Txt K mg t):FnOk P w K mg base (CXe P w) 2 t.f_check_open_board t.d_check_open_board ["board"] (spT K t.cl 1 .fu zbb):=
 zaV (N:=zaT) T.F_check_open_board zdO rfl fun cdv A outer s H E S₀ hd hr=>by
 have hu5:(A.deeper (PyProof.Rows.envOfC "check_open_board" (defScope zaA) s.heap.objs.size t.f_check_open_board cdv)).units + 5 < cLine:=by have:=hr.un;lia
 have nd:=zdS
 refine zag ?_ ?_
 ·exact (zdT [true,false,false] (zam (zdh T) (hr.mono (by decide)) rfl T.mg_check_square T.F_check_square.kp T.b_check_square zaM (zaa (zac (pv 0)) (zaa (zdm (md:=.al) (zcQ (v:=.int 4) rfl T.c_LARGEST_OPEN_SIZE ⟨_,rfl⟩)) zai))))
 refine zag ?_ ?_
 ·exact (zi9 (i:=1) [true,false,false] zaZ nd rfl rfl (Blk.of rfl) (N':=["number"]) (ix:=[none]) rfl rfl (za0 (JE.al (zam (zdg T) (hr.mono (by decide)) rfl T.mg_joined T.F_joined.kp T.b_joined zaM (zaa (zac (pv 0)) zai)))) (fun _ _ _ _ _=>zar (i:=0) nd_8 rfl (by first | exact Or.inl rfl | exact Or.inr rfl)) (zbo (i:=0) (by decide)) (fun _ _ _ _ _=>(zaW (o_ne hu5) (zac (pv 0)) (zdm (md:=.al) (zcQ (v:=.int 0) rfl T.c_OPEN_MARK ⟨_,rfl⟩)) (zaY _))) (fun _ _ _ _ _=>(JE.sc (md1:=.fu) (zac (pv 0)))))
 refine zag ?_ ?_
 ·refine zcF [false,true,false] (zaW (o_ne hu5) (zm3 (md:=.al) rfl rfl T.n_len rfl T.n_set (zac (pv 1))) (zau (md:=.al) zcy rfl T.n_len PySem.boot_len (zaa (zac (pv 1)) zai)) (zaY _)) ?_ ?_
  ·refine zak ?_
   exact (zdD (c:=1) [false,false,false] rfl zeF hr.hd rfl T.mg_BadBoard T.x_BadBoard zkn)
  ·exact za7
 refine zak ?_
 refine zck [false,true,false] ownE rfl (za0 (zac (pv 1))) (zar (i:=2) nd rfl (.inl rfl)) (zaK 2) ?_
 refine zak ?_
 refine zcF [true,false,true] (zmV (zoc (zaW (o_lt) (zac (pv 2)) (zaj (md:=.al)) (zaY _)) (zmS (zaW (o_gt) (zac (pv 2)) (zas (md:=.al) zdR (zau (md:=.al) zcy rfl T.n_len PySem.boot_len (zaa (zac (pv 0)) zai)) (zau (md:=.al) zcy rfl T.n_len PySem.boot_len (zaa (zac (pv 0)) zai))) (zaY _))))) ?_ ?_
 ·refine zak ?_
  exact (zdD (c:=1) [false,false,false] rfl zeF hr.hd rfl T.mg_BadBoard T.x_BadBoard zkn)
 ·exact za7
theorem zgW:FnScope zb5 ["board"] (defScope zbd):=⟨rfl,rfl,rfl,by decide +kernel,rfl,by decide +kernel,by decide +kernel⟩
theorem zg6:zb5.Nodup:=zal (by decide +kernel)
theorem zei (T:Txt K mg t):FnOk P w K mg base (CXe P w) 1 t.f_open_cells t.d_open_cells ["board"] (spT K t.cl 1 .fu zb1):=
 zaV (N:=zb5) T.F_open_cells zgW rfl fun cdv A outer s H E S₀ hd hr=>by
 have hu5:(A.deeper (PyProof.Rows.envOfC "open_cells" (defScope zbd) s.heap.objs.size t.f_open_cells cdv)).units + 5 < cLine:=by have:=hr.un;lia
 have nd:=zg6
 refine zag ?_ ?_
 ·exact (zaB (i:=1) [false,false,false,false] nd rfl (.inl rfl) (zb6 zai))
 refine zag ?_ ?_
 ·refine zck [true,false,false,false] ownE rfl (zm0 rfl T.n_enumerate (zac (pv 0))) (zoS rfl (zff (zar (i:=2) nd rfl (.inr rfl)) (zff (zar (i:=3) nd rfl (.inl rfl)) zmn))) (znw 2 3) ?_
  refine zak ?_
  exact (zpb [false,false,true,true] (pv 1) (zkq zaZ (Blk.of rfl) (N':=["c", "number", "r"]) (ix:=[none,none,some 2]) rfl rfl (zm0 rfl T.n_enumerate (zac (pv 3))) (fun _ _ _ _ _=>zoS rfl (zff (zar (i:=0) nd_9 rfl (by first | exact Or.inl rfl | exact Or.inr rfl)) (zff (zar (i:=1) nd_9 rfl (by first | exact Or.inl rfl | exact Or.inr rfl)) zmn))) (zsa (i:=0) (j:=1) (by decide) (by decide)) (fun _ _ _ _ _=>(zaW (o_eq hu5) (zac (pv 1)) (zdm (md:=.al) (zcQ (v:=.int 0) rfl T.c_OPEN_MARK ⟨_,rfl⟩)) (zaY _))) (fun _ _ _ _ _=>(zm1 (zaa (JE.sc (md1:=.fu) (zac (pv 2))) (zaa (JE.sc (md1:=.fu) (zac (pv 0))) zai))))))
 refine zak ?_
 exact (zeL (pv 1))
theorem zdc:FnScope zaC ["board"] (defScope zav):=⟨rfl,rfl,rfl,by decide +kernel,rfl,by decide +kernel,by decide +kernel⟩
theorem zdj:zaC.Nodup:=zal (by decide +kernel)
theorem zdi (T:Txt K mg t):FnOk P w K mg base (CXe P w) 2 t.f_check_not_too_open t.d_check_not_too_open ["board"] (spT K t.cl 1 .fu zaJ):=
 zaV (N:=zaC) T.F_check_not_too_open zdc rfl fun cdv A outer s H E S₀ hd hr=>by
 have hu5:(A.deeper (PyProof.Rows.envOfC "check_not_too_open" (defScope zav) s.heap.objs.size t.f_check_not_too_open cdv)).units + 5 < cLine:=by have:=hr.un;lia
 have nd:=zdj
 refine zak ?_
 refine zcF [true] (zmV (zo7 (zaW (o_eq hu5) (zau (md:=.al) zcy rfl T.n_len PySem.boot_len (zaa (zac (pv 0)) zai)) (zdm (md:=.al) (zcQ (v:=.int 4) rfl T.c_LARGEST_OPEN_SIZE ⟨_,rfl⟩)) (zaY _)) (zmT (zaW (o_gt) (zau (md:=.al) zcy rfl T.n_len PySem.boot_len (zaa (JE.al (zam (zei T) (hr.mono (by decide)) rfl T.mg_open_cells T.F_open_cells.kp T.b_open_cells zaM (zaa (zac (pv 0)) zai))) zai)) (zdm (md:=.al) (zcQ (v:=.int 6) rfl T.c_MOST_OPEN_CELLS ⟨_,rfl⟩)) (zaY _))))) ?_ ?_
 ·refine zak ?_
  exact (zdD (c:=4) [false] rfl zeF hr.hd rfl T.mg_TooOpen T.x_TooOpen (zmU (zhQ (zmh (zdm (md:=.al) (zcQ (v:=.int 4) rfl T.c_LARGEST_OPEN_SIZE ⟨_,rfl⟩)) (zhQ (zmh (zdm (md:=.al) (zcQ (v:=.int 6) rfl T.c_MOST_OPEN_CELLS ⟨_,rfl⟩)) (zhQ zoR)))))))
 ·exact za7
theorem zl1:FnScope zeA ["board"] (defScope zcO):=⟨rfl,rfl,rfl,by decide +kernel,rfl,by decide +kernel,by decide +kernel⟩
theorem zmA:zeA.Nodup:=zal (by decide +kernel)
theorem zhT (T:Txt K mg t):FnOk P w K mg base (CXe P w) 1 t.f_copied t.d_copied ["board"] (spT K t.cl 1 .fu zen):=
 zaV (N:=zeA) T.F_copied zl1 rfl fun cdv A outer s H E S₀ hd hr=>by
 have hu5:(A.deeper (PyProof.Rows.envOfC "copied" (defScope zcO) s.heap.objs.size t.f_copied cdv)).units + 5 < cLine:=by have:=hr.un;lia
 have nd:=zmA
 refine zak ?_
 exact (zbe [true] (zbI zaZ (Blk.of rfl) (N':=["row"]) (ix:=[none]) rfl rfl (za0 (zac (pv 0))) (fun _ _ _ _ _=>zar (i:=0) nd_0 rfl (by first | exact Or.inl rfl | exact Or.inr rfl)) (zbo (i:=0) (by decide)) (fun _ _ _ _ _=>(zh7 (md:=.fu) zpg rfl T.n_list boot_list (zaa (zac (pv 0)) zai)))))
theorem zeg:FnScope za2 ["board"] (defScope zaE):=⟨rfl,rfl,rfl,by decide +kernel,rfl,by decide +kernel,by decide +kernel⟩
theorem zek:za2.Nodup:=zal (by decide +kernel)
theorem zej (T:Txt K mg t):FnOk P w K mg base (CXe P w) 2 t.f_missing_numbers t.d_missing_numbers ["board"] (spT K t.cl 1 .fu zbh):=
 zaV (N:=za2) T.F_missing_numbers zeg rfl fun cdv A outer s H E S₀ hd hr=>by
 have hu5:(A.deeper (PyProof.Rows.envOfC "missing_numbers" (defScope zaE) s.heap.objs.size t.f_missing_numbers cdv)).units + 5 < cLine:=by have:=hr.un;lia
 have nd:=zek
 refine zag ?_ ?_
 ·exact (zaB (i:=1) [true,false] nd rfl (.inr rfl) (zam (zdg T) (hr.mono (by decide)) rfl T.mg_joined T.F_joined.kp T.b_joined zaM (zaa (zac (pv 0)) zai)))
 refine zak ?_
 exact (zbe [true,true] (zkq zaZ (Blk.of rfl) (N':=["number", "placed"]) (ix:=[none,some 1]) rfl rfl (zmZ rfl T.n_range (zaa (zaj (md:=.al)) (zaa (zas (md:=.al) zcD (zas (md:=.al) zdR (zau (md:=.al) zcy rfl T.n_len PySem.boot_len (zaa (zac (pv 0)) zai)) (zau (md:=.al) zcy rfl T.n_len PySem.boot_len (zaa (zac (pv 0)) zai))) (zaj (md:=.al))) zai))) (fun _ _ _ _ _=>zar (i:=0) ztg rfl (by first | exact Or.inl rfl | exact Or.inr rfl)) (zbo (i:=0) (by decide)) (fun _ _ _ _ _=>(zaW (zg5 hu5) (zac (pv 0)) (zac (pv 1)) (by with_unfolding_all rfl))) (fun _ _ _ _ _=>(JE.sc (md1:=.fu) (zac (pv 0))))))
theorem zhN:FnScope zcs ["size"] (defScope zbw):=⟨rfl,rfl,rfl,by decide +kernel,rfl,by decide +kernel,by decide +kernel⟩
theorem zhZ:zcs.Nodup:=zal (by decide +kernel)
theorem zhU (T:Txt K mg t):FnOk P w K mg base (CXe P w) 1 t.f_asked_sum t.d_asked_sum ["size"] (spT K t.cl 1 .fu zcW):=
 zaV (N:=zcs) T.F_asked_sum zhN rfl fun cdv A outer s H E S₀ hd hr=>by
 have hu5:(A.deeper (PyProof.Rows.envOfC "asked_sum" (defScope zbw) s.heap.objs.size t.f_asked_sum cdv)).units + 5 < cLine:=by have:=hr.un;lia
 have nd:=zhZ
 refine zak ?_
 exact (zbe [true] (zas (md:=.fu) ze6 (zas (md:=.al) zdR (zac (pv 0)) (zas (md:=.al) zcD (zas (md:=.al) zdR (zac (pv 0)) (zac (pv 0))) (zaj (md:=.al)))) (zaj (md:=.al))))
theorem zf8:FnScope zbK ["board"] (defScope za4):=⟨rfl,rfl,rfl,by decide +kernel,rfl,by decide +kernel,by decide +kernel⟩
theorem zgc:zbK.Nodup:=zal (by decide +kernel)
theorem zga (T:Txt K mg t):FnOk P w K mg base (CXe P w) 3 t.f_may_be_like t.d_may_be_like ["board"] (spT K t.cl 1 .fu zb8):=
 zaV (N:=zbK) T.F_may_be_like zf8 rfl fun cdv A outer s H E S₀ hd hr=>by
 have hu5:(A.deeper (PyProof.Rows.envOfC "may_be_like" (defScope za4) s.heap.objs.size t.f_may_be_like cdv)).units + 5 < cLine:=by have:=hr.un;lia
 have nd:=zgc
 refine zag ?_ ?_
 ·refine zck [true,false] ownE rfl (za0 (JE.al (zas (zrw (md:=.sp)) (JE.al (zas (zrw (md:=.sp)) (zac (pv 0)) (JE.al (zam (zeH T) (hr.mono (by decide)) rfl T.mg_columns T.F_columns.kp T.b_columns zaM (zaa (zac (pv 0)) zai))))) (zam (ze0 T) (hr.mono (by decide)) rfl T.mg_long_ways T.F_long_ways.kp T.b_long_ways zaM (zaa (zac (pv 0)) zai))))) (zar (i:=1) nd rfl (.inl rfl)) (zaK 1) ?_
  refine zak ?_
  refine zcF [true,true] (zmV (zo7 (zaW (zg5 hu5) (zdm (md:=.al) (zcQ (v:=.int 0) rfl T.c_OPEN_MARK ⟨_,rfl⟩)) (zac (pv 1)) (by with_unfolding_all rfl)) (zmT (zaW (o_ne hu5) (zau (md:=.al) (zr6 rfl) rfl T.n_sum boot_sum (zaa (zac (pv 1)) zai)) (JE.al (zam (zhU T) (hr.mono (by decide)) rfl T.mg_asked_sum T.F_asked_sum.kp T.b_asked_sum zaM (zaa (zau (md:=.al) zcy rfl T.n_len PySem.boot_len (zaa (zac (pv 0)) zai)) zai))) (zaY _))))) ?_ ?_
  ·refine zak ?_
   exact (zbe [false,false] (zjb (md:=.fu)))
  ·exact za7
 refine zak ?_
 exact (zbe [false,false] (zjb (md:=.fu)))
theorem zhM:FnScope zcr ["board", "cell"] (defScope zbv):=⟨rfl,rfl,rfl,by decide +kernel,rfl,by decide +kernel,by decide +kernel⟩
theorem zhY:zcr.Nodup:=zal (by decide +kernel)
theorem zhS (T:Txt K mg t):FnOk P w K mg base (CXe P w) 4 t.f_filled_at t.d_filled_at ["board", "cell"] (spT K t.cl 2 .fu zcj):=
 zaV (N:=zcr) T.F_filled_at zhM rfl fun cdv A outer s H E S₀ hd hr=>by
 have hu5:(A.deeper (PyProof.Rows.envOfC "filled_at" (defScope zbv) s.heap.objs.size t.f_filled_at cdv)).units + 5 < cLine:=by have:=hr.un;lia
 have nd:=zhY
 refine zag ?_ ?_
 ·exact (zaB (i:=2) [false,false,false,false,false] nd rfl (.inl rfl) (zb6 zai))
 refine zag ?_ ?_
 ·refine zck [true,false,false,false,false] ownE rfl (za0 (JE.al (zam (zej T) (hr.mono (by decide)) rfl T.mg_missing_numbers T.F_missing_numbers.kp T.b_missing_numbers zaM (zaa (zac (pv 0)) zai)))) (zar (i:=3) nd rfl (.inl rfl)) (zaK 3) ?_
  refine zag ?_ ?_
  ·exact (zaB (i:=4) [true,false,false,false,false] nd rfl (.inl rfl) (zam (zhT T) (hr.mono (by decide)) rfl T.mg_copied T.F_copied.kp T.b_copied zaM (zaa (zac (pv 0)) zai)))
  refine zag ?_ ?_
  ·exact (zmX [false,true,false,true,false] (pv 4) (zac (pv 3)) (zcX o_ix (zac (pv 1)) (zaj (md:=.al)) (fun _ _=>rfl)) (zcX o_ix (zac (pv 1)) (zaj (md:=.al)) (fun _ _=>rfl)) (fun _ _=>rfl))
  refine zak ?_
  refine zcF [false,false,false,false,true] (zo8 (JE.al (zam (zga T) (hr.mono (by decide)) rfl T.mg_may_be_like T.F_may_be_like.kp T.b_may_be_like zaM (zaa (zac (pv 4)) zai)))) ?_ ?_
  ·refine zak ?_
   exact (zod (pv 2) (pv 4))
  ·exact za7
 refine zak ?_
 exact (zeL (pv 2))
theorem ziO:FnScope zcL ["board"] (defScope zbP):=⟨rfl,rfl,rfl,by decide +kernel,rfl,by decide +kernel,by decide +kernel⟩
theorem zi3:zcL.Nodup:=zal (by decide +kernel)
theorem zdP (T:Txt K mg t):FnOk P w K mg base (CXe P w) 5 t.f_fillings t.d_fillings ["board"] (spT K t.cl 1 .fu zcc):=
 zaV (N:=zcL) T.F_fillings ziO rfl fun cdv A outer s H E S₀ hd hr=>by
 have hu5:(A.deeper (PyProof.Rows.envOfC "fillings" (defScope zbP) s.heap.objs.size t.f_fillings cdv)).units + 5 < cLine:=by have:=hr.un;lia
 have nd:=zi3
 refine zag ?_ ?_
 ·exact (zdT [true,false,false] (zam (zdQ T) (hr.mono (by decide)) rfl T.mg_check_open_board T.F_check_open_board.kp T.b_check_open_board zaM (zaa (zac (pv 0)) zai)))
 refine zag ?_ ?_
 ·exact (zdT [true,false,false] (zam (zdi T) (hr.mono (by decide)) rfl T.mg_check_not_too_open T.F_check_not_too_open.kp T.b_check_not_too_open zaM (zaa (zac (pv 0)) zai)))
 refine zag ?_ ?_
 ·exact (zaB (i:=1) [true,false,false] nd rfl (.inl rfl) (zb6 (zaa (zam (zhT T) (hr.mono (by decide)) rfl T.mg_copied T.F_copied.kp T.b_copied zaM (zaa (zac (pv 0)) zai)) zai)))
 refine zag ?_ ?_
 ·refine zck [true,false,false] ownE rfl (za0 (JE.al (zam (zei T) (hr.mono (by decide)) rfl T.mg_open_cells T.F_open_cells.kp T.b_open_cells zaM (zaa (zac (pv 0)) zai)))) (zar (i:=2) nd rfl (.inr rfl)) (zaK 2) ?_
  refine zak ?_
  exact (zaB (i:=1) [false,true,true] nd rfl (.inl rfl) (ztn (zdg T) zmY (hr.mono (by decide)) rfl T.mg_joined T.F_joined.kp T.b_joined zaM (zbI zaZ (Blk.of rfl) (N':=["partly", "cell"]) (ix:=[none,some 2]) rfl rfl (za0 (zac (pv 1))) (fun _ _ _ _ _=>zar (i:=0) nd_6 rfl (by first | exact Or.inl rfl | exact Or.inr rfl)) (zbo (i:=0) (by decide)) (fun _ _ _ _ _=>(zam (zhS T) (hr.mono (by decide)) rfl T.mg_filled_at T.F_filled_at.kp T.b_filled_at zg1 (zaa (zac (pv 0)) (zaa (zac (pv 1)) zai)))))))
 refine zak ?_
 exact (zlu (Blk.of rfl) (N':=["full"]) rfl rfl (pv 1) (fun _ _ _ _ _=>zar (i:=0) nd_7 rfl (by first | exact Or.inl rfl | exact Or.inr rfl)) (fun _ _ _ _ _=>(zo8 (JE.al (zam (zgp T) (hr.mono (by decide)) rfl T.mg_is_like T.F_is_like.kp T.b_is_like zg1 (zaa (zac (pv 0)) zai))))) (fun _ _ _ _ _=>pv 0))
theorem ziN:FnScope zcK ["board"] (defScope zbO):=⟨rfl,rfl,rfl,by decide +kernel,rfl,by decide +kernel,by decide +kernel⟩
theorem zi2:zcK.Nodup:=zal (by decide +kernel)
theorem ziX (T:Txt K mg t):FnOk P w K mg base (CXe P w) 6 t.f_how_many t.d_how_many ["board"] (spT K t.cl 1 .fu zdA):=
 zaV (N:=zcK) T.F_how_many ziN rfl fun cdv A outer s H E S₀ hd hr=>by
 have hu5:(A.deeper (PyProof.Rows.envOfC "how_many" (defScope zbO) s.heap.objs.size t.f_how_many cdv)).units + 5 < cLine:=by have:=hr.un;lia
 have nd:=zi2
 refine zak ?_
 exact (zbe [true] (zau (md:=.fu) zcy rfl T.n_len PySem.boot_len (zaa (JE.al (zam (zdP T) (hr.mono (by decide)) rfl T.mg_fillings T.F_fillings.kp T.b_fillings zaM (zaa (zac (pv 0)) zai))) zai)))
theorem zlZ:FnScope zez ["board"] (defScope zcM):=⟨rfl,rfl,rfl,by decide +kernel,rfl,by decide +kernel,by decide +kernel⟩
theorem zmy:zez.Nodup:=zal (by decide +kernel)
theorem zmr (T:Txt K mg t):FnOk P w K mg base (CXe P w) 3 t.f_turned t.d_turned ["board"] (spT K t.cl 1 .fu zfg):=
 zaV (N:=zez) T.F_turned zlZ rfl fun cdv A outer s H E S₀ hd hr=>by
 have hu5:(A.deeper (PyProof.Rows.envOfC "turned" (defScope zcM) s.heap.objs.size t.f_turned cdv)).units + 5 < cLine:=by have:=hr.un;lia
 have nd:=zmy
 refine zag ?_ ?_
 ·exact (zdT [true] (zam (zcx T) (hr.mono (by decide)) rfl T.mg_check_board T.F_check_board.kp T.b_check_board zaM (zaa (zac (pv 0)) zai)))
 refine zak ?_
 exact (zbe [true] (zbI zaZ (Blk.of rfl) (N':=["line"]) (ix:=[none]) rfl rfl (za0 (JE.al (zam (zeH T) (hr.mono (by decide)) rfl T.mg_columns T.F_columns.kp T.b_columns zaM (zaa (zac (pv 0)) zai)))) (fun _ _ _ _ _=>zar (i:=0) nd_5 rfl (by first | exact Or.inl rfl | exact Or.inr rfl)) (zbo (i:=0) (by decide)) (fun _ _ _ _ _=>(zgu (md:=.fu) rfl rfl T.n_list rfl T.n_reversed (zac (pv 0))))))
theorem ziM:FnScope zcJ ["board"] (defScope zbN):=⟨rfl,rfl,rfl,by decide +kernel,rfl,by decide +kernel,by decide +kernel⟩
theorem zi1:zcJ.Nodup:=zal (by decide +kernel)
theorem ziW (T:Txt K mg t):FnOk P w K mg base (CXe P w) 3 t.f_mirrored t.d_mirrored ["board"] (spT K t.cl 1 .fu zdz):=
 zaV (N:=zcJ) T.F_mirrored ziM rfl fun cdv A outer s H E S₀ hd hr=>by
 have hu5:(A.deeper (PyProof.Rows.envOfC "mirrored" (defScope zbN) s.heap.objs.size t.f_mirrored cdv)).units + 5 < cLine:=by have:=hr.un;lia
 have nd:=zi1
 refine zag ?_ ?_
 ·exact (zdT [true] (zam (zcx T) (hr.mono (by decide)) rfl T.mg_check_board T.F_check_board.kp T.b_check_board zaM (zaa (zac (pv 0)) zai)))
 refine zak ?_
 exact (zbe [true] (zbI zaZ (Blk.of rfl) (N':=["row"]) (ix:=[none]) rfl rfl (za0 (zac (pv 0))) (fun _ _ _ _ _=>zar (i:=0) nd_0 rfl (by first | exact Or.inl rfl | exact Or.inr rfl)) (zbo (i:=0) (by decide)) (fun _ _ _ _ _=>(zgu (md:=.fu) rfl rfl T.n_list rfl T.n_reversed (zac (pv 0))))))
theorem zq4:FnScope znL ["board"] (defScope ziP):=⟨rfl,rfl,rfl,by decide +kernel,rfl,by decide +kernel,by decide +kernel⟩
theorem zrz:znL.Nodup:=zal (by decide +kernel)
theorem zrv (T:Txt K mg t):FnOk P w K mg base (CXe P w) 4 t.f_kin t.d_kin ["board"] (spT K t.cl 1 .sp zmH):=
 zaV (N:=znL) T.F_kin zq4 rfl fun cdv A outer s H E S₀ hd hr=>by
 have hu5:(A.deeper (PyProof.Rows.envOfC "kin" (defScope ziP) s.heap.objs.size t.f_kin cdv)).units + 5 < cLine:=by have:=hr.un;lia
 have nd:=zrz
 refine zag ?_ ?_
 ·exact (zaB (i:=1) [false,false,false,false] nd rfl (.inl rfl) (zb6 zai))
 refine zag ?_ ?_
 ·exact (zmW (i:=2) [true,false,false,false] nd rfl (.inl rfl) (zac (pv 0)))
 refine zag ?_ ?_
 ·refine zck [false,false,false,false] ownE rfl (zbf rfl T.n_range (zaa (zaj (md:=.al)) zai)) (zar (i:=3) nd rfl (.inl rfl)) (zaK 3) ?_
  refine zag ?_ ?_
  ·exact (zaB (i:=2) [false,false,true,false] nd rfl (.inl rfl) (zam (zmr T) (hr.mono (by decide)) rfl T.mg_turned T.F_turned.kp T.b_turned zaM (zaa (zac (pv 2)) zai)))
  refine zag ?_ ?_
  ·exact (zko [false,false,true,false] (pv 1) (zac (pv 2)))
  refine zak ?_
  exact (zko [false,false,true,false] (pv 1) (zam (ziW T) (hr.mono (by decide)) rfl T.mg_mirrored T.F_mirrored.kp T.b_mirrored zaM (zaa (zac (pv 2)) zai)))
 refine zak ?_
 exact (zbe [false,true,false,false] (zau (zns hu5) rfl T.n_sorted boot_sorted (zaa (zac (pv 1)) zai)))
theorem zk8:FnScope zcI ["script", "k"] (defScope zcf):=⟨rfl,rfl,rfl,by decide +kernel,rfl,by decide +kernel,by decide +kernel⟩
theorem zlo:zcI.Nodup:=zal (by decide +kernel)
theorem zcC (T:Txt K mg t):FnOk P w K mg base (CXe P w) 1 t.fqcell_at t.dqcell_at ["script", "k"] (spT K t.cl 2 .fu zbG):=
 zaV (N:=zcI) T.Fqcell_at zk8 rfl fun cdv A outer s H E S₀ hd hr=>by
 have hu5:(A.deeper (PyProof.Rows.envOfC "_law_cell_at" (defScope zcf) s.heap.objs.size t.fqcell_at cdv)).units + 5 < cLine:=by have:=hr.un;lia
 have nd:=zlo
 refine zag ?_ ?_
 ·refine zcF [true,true] (zaW (o_lt) (zac (pv 1)) (zau (md:=.al) zcy rfl T.n_len PySem.boot_len (zaa (zac (pv 0)) zai)) (zaY _)) ?_ ?_
  ·refine zak ?_
   exact (zbe [true,true] (JE.sc (md1:=.fu) (zcX o_ix (zac (pv 0)) (zac (pv 1)) (fun _ _=>rfl))))
  ·exact za7
 refine zak ?_
 exact (zbe [false,false] (zaj (md:=.fu)))
theorem zq2:FnScope znK ["cell", "k", "many"] (defScope ziK):=⟨rfl,rfl,rfl,by decide +kernel,rfl,by decide +kernel,by decide +kernel⟩
theorem zrx:znK.Nodup:=zal (by decide +kernel)
theorem zoW (T:Txt K mg t):FnOk P w K mg base (CXe P w) 1 t.fqmix t.dqmix ["cell", "k", "many"] (spT K t.cl 3 .fu zmE):=
 zaV (N:=znK) T.Fqmix zq2 rfl fun cdv A outer s H E S₀ hd hr=>by
 have hu5:(A.deeper (PyProof.Rows.envOfC "_law_mix" (defScope ziK) s.heap.objs.size t.fqmix cdv)).units + 5 < cLine:=by have:=hr.un;lia
 have nd:=zrx
 refine zag ?_ ?_
 ·exact (zaB (i:=3) [false,false,false,false,false] nd rfl (.inl rfl) (zb6 (by refine zaa (zaj (md:=.fu)) ?_;refine zaa (zaj (md:=.fu)) ?_;refine zaa (zaj (md:=.fu)) ?_;refine zaa (zaj (md:=.fu)) ?_;refine zaa (zaj (md:=.fu)) ?_;refine zaa (zaj (md:=.fu)) ?_;refine zaa (zaj (md:=.fu)) ?_;refine zaa (zaj (md:=.fu)) ?_;refine zaa (zaj (md:=.fu)) ?_;refine zaa (zaj (md:=.fu)) ?_;refine zaa (zaj (md:=.fu)) ?_;refine zaa (zaj (md:=.fu)) ?_;refine zaa (zaj (md:=.fu)) ?_;exact zai)))
 refine zag ?_ ?_
 ·exact (zaB (i:=4) [true,true,false,true,false] nd rfl (.inl rfl) (zas (md:=.fu) zcD (zas (md:=.al) zcD (zas (md:=.al) zdR (zas (md:=.al) zcD (zas (md:=.al) zda (zac (pv 0)) (zaj (md:=.al))) (zaj (md:=.al))) (zcX o_ix (zac (pv 3)) (zas (md:=.al) zda (zac (pv 1)) (zaj (md:=.al))) (fun _ _=>rfl))) (zas (md:=.al) zdR (zaj (md:=.al)) (zac (pv 1)))) (zas (md:=.al) zdR (zaj (md:=.al)) (zas (md:=.al) ze6 (zac (pv 1)) (zaj (md:=.al))))))
 refine zag ?_ ?_
 ·exact (zaB (i:=4) [false,false,false,false,true] nd rfl (.inl rfl) (zas (md:=.fu) zda (zac (pv 4)) (zaj (md:=.al))))
 refine zak ?_
 exact (zbe [false,true,true,false,true] (zas (md:=.fu) zda (zas (md:=.al) ze6 (zas (md:=.al) zda (zas (md:=.al) zcD (zas (md:=.al) zdR (zac (pv 4)) (zac (pv 4))) (zas (md:=.al) zdR (zaj (md:=.al)) (zac (pv 1)))) (zaj (md:=.al))) (zaj (md:=.al))) (zac (pv 2))))
theorem ziL:FnScope zcH ["cell", "many"] (defScope zbL):=⟨rfl,rfl,rfl,by decide +kernel,rfl,by decide +kernel,by decide +kernel⟩
theorem zi0:zcH.Nodup:=zal (by decide +kernel)
theorem zfx (T:Txt K mg t):FnOk P w K mg base (CXe P w) 2 t.fqorder_by t.dqorder_by ["cell", "many"] (spT K t.cl 2 .fu zcb):=
 zaV (N:=zcH) T.Fqorder_by ziL rfl fun cdv A outer s H E S₀ hd hr=>by
 have hu5:(A.deeper (PyProof.Rows.envOfC "_law_order_by" (defScope zbL) s.heap.objs.size t.fqorder_by cdv)).units + 5 < cLine:=by have:=hr.un;lia
 have nd:=zi0
 refine zag ?_ ?_
 ·exact (zaB (i:=2) [true,false,false,false,false] nd rfl (.inl rfl) (zas (md:=.fu) ze6 (zac (pv 0)) (zaj (md:=.al))))
 refine zag ?_ ?_
 ·exact (zaB (i:=3) [false,false,false,false,false] nd rfl (.inl rfl) (zb6 zai))
 refine zag ?_ ?_
 ·refine zck [false,true,false,false,false] ownE rfl (zbf rfl T.n_range (zaa (zac (pv 1)) zai)) (zar (i:=4) nd rfl (.inl rfl)) (zaK 4) ?_
  refine zak ?_
  refine zcF [true,false,false,false,false] (zaW (o_eq hu5) (zas (md:=.al) zda (zac (pv 0)) (zaj (md:=.al))) (zaj (md:=.al)) (zaY _)) ?_ ?_
  ·refine zag ?_ ?_
   ·exact (zpa [false,false,true,false,true] (pv 3) (zas (md:=.al) zda (zac (pv 2)) (zas (md:=.al) zcD (zac (pv 4)) (zaj (md:=.al)))) (zac (pv 4)))
   refine zak ?_
   exact (zaB (i:=2) [false,false,true,false,true] nd rfl (.inl rfl) (zas (md:=.fu) ze6 (zac (pv 2)) (zas (md:=.al) zcD (zac (pv 4)) (zaj (md:=.al)))))
  ·refine zak ?_
   exact (zpa [false,false,true,false,true] (pv 3) (JE.al (zam (zoW T) (hr.mono (by decide)) rfl T.mgqmix T.Fqmix.kp T.bqmix zaM (by refine zaa (zac (pv 2)) ?_;refine zaa (zac (pv 4)) ?_;refine zaa (zas (md:=.al) zcD (zac (pv 4)) (zaj (md:=.al))) ?_;exact zai))) (zac (pv 4)))
 refine zak ?_
 exact (zeL (pv 3))
theorem zk7:FnScope zds ["cell", "size"] (defScope zce):=⟨rfl,rfl,rfl,by decide +kernel,rfl,by decide +kernel,by decide +kernel⟩
theorem zln:zds.Nodup:=zal (by decide +kernel)
theorem zlj (T:Txt K mg t):FnOk P w K mg base (CXe P w) 3 t.fqfair_by t.dqfair_by ["cell", "size"] (spT K t.cl 2 .fu zel):=
 zaV (N:=zds) T.Fqfair_by zk7 rfl fun cdv A outer s H E S₀ hd hr=>by
 have hu5:(A.deeper (PyProof.Rows.envOfC "_law_fair_by" (defScope zce) s.heap.objs.size t.fqfair_by cdv)).units + 5 < cLine:=by have:=hr.un;lia
 have nd:=zln
 refine zag ?_ ?_
 ·exact (zaB (i:=2) [false,true,false,false,false,false,false] nd rfl (.inl rfl) (zas (md:=.fu) ze6 (zac (pv 1)) (zaj (md:=.al))))
 refine zag ?_ ?_
 ·exact (zaB (i:=3) [true,false,true,false,false,false,false] nd rfl (.inl rfl) (zam (zfx T) (hr.mono (by decide)) rfl T.mgqorder_by T.Fqorder_by.kp T.bqorder_by zaM (zaa (zac (pv 0)) (zaa (zac (pv 2)) zai))))
 refine zag ?_ ?_
 ·exact (zaB (i:=4) [false,true,true,false,false,false,false] nd rfl (.inl rfl) (zas (zs4 (md:=.fu)) (JE.al (zb6 (zaa (JE.sc (md1:=.fu) (zac (pv 2))) zai))) (zac (pv 1))))
 refine zag ?_ ?_
 ·refine zck [false,false,true,false,false,false,false] ownE rfl (zbf rfl T.n_range (zaa (zac (pv 2)) zai)) (zar (i:=5) nd rfl (.inl rfl)) (zaK 5) ?_
  refine zag ?_ ?_
  ·exact (zaB (i:=6) [false,false,false,true,false,true,false] nd rfl (.inl rfl) (JE.sc (md1:=.fu) (zcX o_ix (zac (pv 3)) (zac (pv 5)) (fun _ _=>rfl))))
  refine zag ?_ ?_
  ·refine zcF [true,false,false,false,false,true,false] (zaW (o_eq hu5) (JE.al (zam (zoW T) (hr.mono (by decide)) rfl T.mgqmix T.Fqmix.kp T.bqmix zaM (by refine zaa (zac (pv 0)) ?_;refine zaa (zas (md:=.al) zcD (zaj (md:=.al)) (zac (pv 5))) ?_;refine zaa (zaj (md:=.al)) ?_;exact zai))) (zaj (md:=.al)) (zaY _)) ?_ ?_
   ·refine zak ?_
    exact (zaB (i:=6) [false,true,false,false,false,false,true] nd rfl (.inl rfl) (zas (md:=.fu) zg4 (zas (md:=.al) zg4 (zac (pv 1)) (zaj (md:=.al))) (zac (pv 6))))
   ·exact za7
  refine zag ?_ ?_
  ·exact (zo9 [false,false,false,false,false,true,true] (pv 4) (JE.sc (md1:=.fu) (zac (pv 6))) (zac (pv 5)))
  refine zak ?_
  exact (zo9 [false,true,false,false,false,true,true] (pv 4) (zas (md:=.fu) zg4 (zas (md:=.al) zg4 (zac (pv 1)) (zaj (md:=.al))) (zac (pv 6))) (zas (md:=.al) zg4 (zas (md:=.al) zg4 (zac (pv 1)) (zaj (md:=.al))) (zac (pv 5))))
 refine zak ?_
 exact (zeL (pv 4))
theorem zk6:FnScope zey ["script", "base", "size"] (defScope zcd):=⟨rfl,rfl,rfl,by decide +kernel,rfl,by decide +kernel,by decide +kernel⟩
theorem zlm:zey.Nodup:=zal (by decide +kernel)
theorem zli (T:Txt K mg t):FnOk P w K mg base (CXe P w) 4 t.fqlike_by t.dqlike_by ["script", "base", "size"] (spT K t.cl 3 .fu zcE):=
 zaV (N:=zey) T.Fqlike_by zk6 rfl fun cdv A outer s H E S₀ hd hr=>by
 have hu5:(A.deeper (PyProof.Rows.envOfC "_law_like_by" (defScope zcd) s.heap.objs.size t.fqlike_by cdv)).units + 5 < cLine:=by have:=hr.un;lia
 have nd:=zlm
 refine zag ?_ ?_
 ·exact (zaB (i:=3) [false,false,false,false,false,false,false,false,false] nd rfl (.inr rfl) (zb6 (by refine zaa (zb6 (by refine zaa (zaj (md:=.fu)) ?_;refine zaa (zaj (md:=.fu)) ?_;refine zaa (zaj (md:=.fu)) ?_;refine zaa (zaj (md:=.fu)) ?_;exact zai)) ?_;refine zaa (zb6 (by refine zaa (zaj (md:=.fu)) ?_;refine zaa (zaj (md:=.fu)) ?_;refine zaa (zaj (md:=.fu)) ?_;refine zaa (zaj (md:=.fu)) ?_;exact zai)) ?_;refine zaa (zb6 (by refine zaa (zaj (md:=.fu)) ?_;refine zaa (zaj (md:=.fu)) ?_;refine zaa (zaj (md:=.fu)) ?_;refine zaa (zaj (md:=.fu)) ?_;exact zai)) ?_;refine zaa (zb6 (by refine zaa (zaj (md:=.fu)) ?_;refine zaa (zaj (md:=.fu)) ?_;refine zaa (zaj (md:=.fu)) ?_;refine zaa (zaj (md:=.fu)) ?_;exact zai)) ?_;exact zai)))
 refine zag ?_ ?_
 ·refine zcF [false,false,true,false,false,false,false,false,false] (zaW (o_eq hu5) (zas (md:=.al) zda (zac (pv 2)) (zaj (md:=.al))) (zaj (md:=.al)) (zaY _)) ?_ ?_
  ·refine zag ?_ ?_
   ·exact (zaB (i:=3) [false,false,false,false,false,false,false,false,false] nd rfl (.inr rfl) (zb6 zai))
   refine zak ?_
   refine zck [false,false,true,false,false,false,false,false,false] ownE rfl (zbf rfl T.n_range (zaa (zac (pv 2)) zai)) (zar (i:=4) nd rfl (.inl rfl)) (zaK 4) ?_
   refine zag ?_ ?_
   ·exact (zaB (i:=5) [false,false,false,false,false,false,false,false,false] nd rfl (.inl rfl) (zb6 zai))
   refine zag ?_ ?_
   ·refine zck [false,false,true,false,false,false,false,false,false] ownE rfl (zbf rfl T.n_range (zaa (zac (pv 2)) zai)) (zar (i:=6) nd rfl (.inl rfl)) (zaK 6) ?_
    refine zak ?_
    exact (zko [false,false,true,false,true,false,true,false,false] (pv 5) (zas (md:=.fu) zcD (zas (md:=.al) zcD (zas (md:=.al) zdR (zac (pv 2)) (zas (md:=.al) zda (zas (md:=.al) zcD (zas (md:=.al) zcD (zas (md:=.al) zcD (zac (pv 4)) (zac (pv 6))) (zaj (md:=.al))) (zas (md:=.al) ze6 (zac (pv 2)) (zaj (md:=.al)))) (zac (pv 2)))) (zas (md:=.al) zda (zas (md:=.al) zcD (zas (md:=.al) zcD (zac (pv 4)) (zas (md:=.al) zdR (zaj (md:=.al)) (zac (pv 6)))) (zaj (md:=.al))) (zac (pv 2)))) (zaj (md:=.al))))
   refine zak ?_
   exact (zko [false,false,false,false,false,true,false,false,false] (pv 3) (zac (pv 5)))
  ·exact za7
 refine zag ?_ ?_
 ·exact (zaB (i:=7) [true,true,true,false,false,false,false,false,false] nd rfl (.inr rfl) (zam (zlj T) (hr.mono (by decide)) rfl T.mgqfair_by T.Fqfair_by.kp T.bqfair_by zaM (zaa (JE.al (zam (zcC T) (hr.mono (by decide)) rfl T.mgqcell_at T.Fqcell_at.kp T.bqcell_at zaM (zaa (zac (pv 0)) (zaa (zac (pv 1)) zai)))) (zaa (zac (pv 2)) zai))))
 refine zag ?_ ?_
 ·exact (zaB (i:=3) [false,false,false,true,false,false,false,true,false] nd rfl (.inr rfl) (zbI zaZ (Blk.of rfl) (N':=["one", "order", "board"]) (ix:=[none,some 7,some 3]) rfl rfl (za0 (zac (pv 7))) (fun _ _ _ _ _=>zar (i:=0) ztf rfl (by first | exact Or.inl rfl | exact Or.inr rfl)) (zbo (i:=0) (by decide)) (fun _ _ _ _ _=>(zbI zaZ (Blk.of rfl) (N':=["two", "board", "one"]) (ix:=[none,some 2,some 0]) rfl rfl (za0 (zac (pv 1))) (fun _ _ _ _ _=>zar (i:=0) zte rfl (by first | exact Or.inl rfl | exact Or.inr rfl)) (zbo (i:=0) (by decide)) (fun _ _ _ _ _=>(JE.sc (md1:=.fu) (zcX o_ix (zcX o_ix (zac (pv 1)) (zac (pv 2)) (fun _ _=>rfl)) (zac (pv 0)) (fun _ _=>rfl))))))))
 refine zag ?_ ?_
 ·exact (zaB (i:=8) [true,true,false,false,false,false,false,false,false] nd rfl (.inl rfl) (zam (zcC T) (hr.mono (by decide)) rfl T.mgqcell_at T.Fqcell_at.kp T.bqcell_at zaM (zaa (zac (pv 0)) (zaa (zas (md:=.al) zcD (zac (pv 1)) (zaj (md:=.al))) zai))))
 refine zag ?_ ?_
 ·refine zcF [false,false,false,false,false,false,false,false,true] (zaW (o_eq hu5) (zas (md:=.al) zda (zac (pv 8)) (zaj (md:=.al))) (zaj (md:=.al)) (zaY _)) ?_ ?_
  ·refine zak ?_
   exact (zaB (i:=3) [false,false,false,true,false,false,false,false,false] nd rfl (.inr rfl) (zbI zaZ (Blk.of rfl) (N':=["row"]) (ix:=[none]) rfl rfl (za0 (zac (pv 3))) (fun _ _ _ _ _=>zar (i:=0) nd_0 rfl (by first | exact Or.inl rfl | exact Or.inr rfl)) (zbo (i:=0) (by decide)) (fun _ _ _ _ _=>(zrQ (md:=.fu) (zac (pv 0))))))
  ·exact za7
 refine zag ?_ ?_
 ·refine zcF [false,false,false,false,false,false,false,false,true] (zaW (o_eq hu5) (zas (md:=.al) zda (zas (md:=.al) ze6 (zac (pv 8)) (zaj (md:=.al))) (zaj (md:=.al))) (zaj (md:=.al)) (zaY _)) ?_ ?_
  ·refine zak ?_
   exact (zaB (i:=3) [false,false,true,true,false,false,false,false,false] nd rfl (.inr rfl) (zbI zaZ (Blk.of rfl) (N':=["r", "size", "board"]) (ix:=[none,some 2,some 3]) rfl rfl (zbf rfl T.n_range (zaa (zac (pv 2)) zai)) (fun _ _ _ _ _=>zar (i:=0) ztd rfl (by first | exact Or.inl rfl | exact Or.inr rfl)) (zbo (i:=0) (by decide)) (fun _ _ _ _ _=>(zbI zaZ (Blk.of rfl) (N':=["c", "board", "r"]) (ix:=[none,some 2,some 0]) rfl rfl (zbf rfl T.n_range (zaa (zac (pv 1)) zai)) (fun _ _ _ _ _=>zar (i:=0) ztc rfl (by first | exact Or.inl rfl | exact Or.inr rfl)) (zbo (i:=0) (by decide)) (fun _ _ _ _ _=>(JE.sc (md1:=.fu) (zcX o_ix (zcX o_ix (zac (pv 1)) (zac (pv 0)) (fun _ _=>rfl)) (zac (pv 2)) (fun _ _=>rfl))))))))
  ·exact za7
 refine zag ?_ ?_
 ·refine zcF [false,false,false,false,false,false,false,false,true] (zaW (o_eq hu5) (zas (md:=.al) zda (zas (md:=.al) ze6 (zac (pv 8)) (zaj (md:=.al))) (zaj (md:=.al))) (zaj (md:=.al)) (zaY _)) ?_ ?_
  ·refine zak ?_
   exact (zaB (i:=3) [false,false,true,true,false,false,false,false,false] nd rfl (.inr rfl) (zbI zaZ (Blk.of rfl) (N':=["row", "size"]) (ix:=[none,some 2]) rfl rfl (za0 (zac (pv 3))) (fun _ _ _ _ _=>zar (i:=0) ztb rfl (by first | exact Or.inl rfl | exact Or.inr rfl)) (zbo (i:=0) (by decide)) (fun _ _ _ _ _=>(zbI zaZ (Blk.of rfl) (N':=["number", "size"]) (ix:=[none,some 1]) rfl rfl (za0 (zac (pv 0))) (fun _ _ _ _ _=>zar (i:=0) zta rfl (by first | exact Or.inl rfl | exact Or.inr rfl)) (zbo (i:=0) (by decide)) (fun _ _ _ _ _=>(zas (md:=.fu) zg4 (zas (md:=.al) zcD (zas (md:=.al) zdR (zac (pv 1)) (zac (pv 1))) (zaj (md:=.al))) (zac (pv 0))))))))
  ·exact za7
 refine zak ?_
 exact (zeL (pv 3))
theorem zq3:FnScope zlF ["script"] (defScope s_law):=⟨rfl,rfl,rfl,by decide +kernel,rfl,by decide +kernel,by decide +kernel⟩
theorem zry:zlF.Nodup:=zal (by decide +kernel)
theorem ok_law (T:Txt K mg t):FnOk P w K mg base (CXe P w) 7 t.f_law t.d_law ["script"] (spT K t.cl 1 .fu zn7):=
 zaV (N:=zlF) T.F_law zq3 rfl fun cdv A outer s H E S₀ hd hr=>by
 have hu5:(A.deeper (PyProof.Rows.envOfC "law" (defScope s_law) s.heap.objs.size t.f_law cdv)).units + 5 < cLine:=by have:=hr.un;lia
 have nd:=zry
 refine zag ?_ ?_
 ·exact (zaB (i:=1) [true,false,false,false,false,false,false,false,false,false,false] nd rfl (.inl rfl) (zam (zcC T) (hr.mono (by decide)) rfl T.mgqcell_at T.Fqcell_at.kp T.bqcell_at zaM (zaa (zac (pv 0)) (zaa (zaj (md:=.al)) zai))))
 refine zag ?_ ?_
 ·exact (zaB (i:=2) [false,true,false,false,false,false,false,false,false,false,false] nd rfl (.inl rfl) (JE.sc (md1:=.fu) (zcX o_ix (JE.al (zb6 (by refine zaa (zaj (md:=.fu)) ?_;refine zaa (zaj (md:=.fu)) ?_;refine zaa (zaj (md:=.fu)) ?_;refine zaa (zaj (md:=.fu)) ?_;exact zai))) (zas (md:=.al) zda (zac (pv 1)) (zaj (md:=.al))) (fun _ _=>rfl))))
 refine zag ?_ ?_
 ·exact (zaB (i:=3) [true,false,true,false,false,false,false,false,false,false,false] nd rfl (.inl rfl) (zam (zli T) (hr.mono (by decide)) rfl T.mgqlike_by T.Fqlike_by.kp T.bqlike_by zaM (by refine zaa (zac (pv 0)) ?_;refine zaa (zaj (md:=.al)) ?_;refine zaa (zac (pv 2)) ?_;exact zai)))
 refine zag ?_ ?_
 ·exact (zaB (i:=4) [true,false,true,false,false,false,false,false,false,false,false] nd rfl (.inl rfl) (zam (zfx T) (hr.mono (by decide)) rfl T.mgqorder_by T.Fqorder_by.kp T.bqorder_by zaM (zaa (JE.al (zam (zcC T) (hr.mono (by decide)) rfl T.mgqcell_at T.Fqcell_at.kp T.bqcell_at zaM (zaa (zac (pv 0)) (zaa (zaj (md:=.al)) zai)))) (zaa (zas (md:=.al) zdR (zac (pv 2)) (zac (pv 2))) zai))))
 refine zag ?_ ?_
 ·refine zcF [false,false,true,false,false,false,false,false,false,false,false] (zaW (o_eq hu5) (zac (pv 2)) (zaj (md:=.al)) (zaY _)) ?_ ?_
  ·refine zak ?_
   exact (zaB (i:=4) [true,false,false,false,true,false,false,false,false,false,false] nd rfl (.inl rfl) (zof (md:=.fu) (zac (pv 4)) zqb (zqa (zas (md:=.al) zda (JE.al (zam (zcC T) (hr.mono (by decide)) rfl T.mgqcell_at T.Fqcell_at.kp T.bqcell_at zaM (zaa (zac (pv 0)) (zaa (zaj (md:=.al)) zai)))) (zaj (md:=.al))))))
  ·exact za7
 refine zag ?_ ?_
 ·exact (zeK (i:=5) [false,false,false,true,false,false,false,false,false,false,false] zaZ nd rfl rfl (Blk.of rfl) (N':=["row"]) (ix:=[none]) rfl rfl (za0 (zac (pv 3))) (fun _ _ _ _ _=>zar (i:=0) nd_0 rfl (by first | exact Or.inl rfl | exact Or.inr rfl)) (zbo (i:=0) (by decide)) (fun _ _ _ _ _=>(zh7 (md:=.fu) zpg rfl T.n_list boot_list (zaa (zac (pv 0)) zai))))
 refine zag ?_ ?_
 ·exact (zaB (i:=6) [false,false,false,false,false,true,false,false,false,false,false] nd rfl (.inl rfl) (zam (zdP T) (hr.mono (by decide)) rfl T.mg_fillings T.F_fillings.kp T.b_fillings zaM (zaa (zac (pv 5)) zai)))
 refine zag ?_ ?_
 ·refine zcF [false,false,false,true,false,false,true,false,false,false,false] (zaW (o_ne hu5) (zac (pv 6)) (JE.al (zm2 (zaa (zac (pv 3)) zai))) (zaY _)) ?_ ?_
  ·refine zak ?_
   exact (zbe [false,false,false,false,false,false,false,false,false,false,false] (zjb (md:=.fu)))
  ·exact za7
 refine zag ?_ ?_
 ·refine zck [false,false,false,false,true,false,false,false,false,false,false] ownE rfl (za0 (zac (pv 4))) (zar (i:=7) nd rfl (.inl rfl)) (zaK 7) ?_
  refine zag ?_ ?_
  ·exact (zmX [false,false,true,false,false,false,false,true,false,false,false] (pv 5) (zaj (md:=.al)) (zas (md:=.al) ze6 (zac (pv 7)) (zac (pv 2))) (zas (md:=.al) zda (zac (pv 7)) (zac (pv 2))) (fun _ _=>rfl))
  refine zag ?_ ?_
  ·exact (zaB (i:=8) [false,false,false,false,false,true,false,false,false,false,false] nd rfl (.inl rfl) (zam (zdP T) (hr.mono (by decide)) rfl T.mg_fillings T.F_fillings.kp T.b_fillings zaM (zaa (zac (pv 5)) zai)))
  refine zag ?_ ?_
  ·refine zcF [false,false,false,true,false,true,true,false,true,false,false] (zmV (zoc (zaW (zg5 hu5) (zac (pv 3)) (zac (pv 8)) (by with_unfolding_all rfl)) (zoc (zaW (o_lt) (zau (md:=.al) zcy rfl T.n_len PySem.boot_len (zaa (zac (pv 8)) zai)) (zau (md:=.al) zcy rfl T.n_len PySem.boot_len (zaa (zac (pv 6)) zai)) (zaY _)) (zmS (zaW (o_ne hu5) (JE.al (zam (ziX T) (hr.mono (by decide)) rfl T.mg_how_many T.F_how_many.kp T.b_how_many zaM (zaa (zac (pv 5)) zai))) (zau (md:=.al) zcy rfl T.n_len PySem.boot_len (zaa (zac (pv 8)) zai)) (zaY _)))))) ?_ ?_
   ·refine zak ?_
    exact (zbe [false,false,false,false,false,false,false,false,false,false,false] (zjb (md:=.fu)))
   ·exact za7
  refine zag ?_ ?_
  ·refine zck [false,false,false,false,false,false,false,false,true,false,false] ownE rfl (za0 (zac (pv 8))) (zar (i:=9) nd rfl (.inl rfl)) (zaK 9) ?_
   refine zag ?_ ?_
   ·refine zcF [false,false,false,false,false,false,false,false,false,true,false] (zaW (zpV) (JE.al (zam (zgp T) (hr.mono (by decide)) rfl T.mg_is_like T.F_is_like.kp T.b_is_like zaM (zaa (zac (pv 9)) zai))) (zjb (md:=.al)) (zaY _)) ?_ ?_
    ·refine zak ?_
     exact (zbe [false,false,false,false,false,false,false,false,false,false,false] (zjb (md:=.fu)))
    ·exact za7
   refine zak ?_
   refine zck [false,false,true,false,false,false,false,false,false,false,false] ownE rfl (zbf rfl T.n_range (zaa (zas (md:=.al) zdR (zac (pv 2)) (zac (pv 2))) zai)) (zar (i:=10) nd rfl (.inl rfl)) (zaK 10) ?_
   refine zak ?_
   refine zcF [false,false,true,false,false,true,false,false,false,true,true] (zaW (zg5 hu5) (zcX o_ix (zcX o_ix (zac (pv 5)) (zas (md:=.al) ze6 (zac (pv 10)) (zac (pv 2))) (fun _ _=>rfl)) (zas (md:=.al) zda (zac (pv 10)) (zac (pv 2))) (fun _ _=>rfl)) (JE.al (zm1 (zaa (zaj (md:=.fu)) (zaa (JE.sc (md1:=.fu) (zcX o_ix (zcX o_ix (zac (pv 9)) (zas (md:=.al) ze6 (zac (pv 10)) (zac (pv 2))) (fun _ _=>rfl)) (zas (md:=.al) zda (zac (pv 10)) (zac (pv 2))) (fun _ _=>rfl))) zai)))) (by with_unfolding_all rfl)) ?_ ?_
   ·refine zak ?_
    exact (zbe [false,false,false,false,false,false,false,false,false,false,false] (zjb (md:=.fu)))
   ·exact za7
  refine zak ?_
  exact (zmW (i:=6) [false,false,false,false,false,false,false,false,true,false,false] nd rfl (.inl rfl) (zac (pv 8)))
 refine zak ?_
 exact (zbe [false,false,true,true,false,false,true,false,false,false,false] (ztm (md:=.fu) (zm4 (md:=.al) (o_ne hu5) (zac (pv 2)) (zaj (md:=.al)) (zaY _)) (zrR (zm4 (md:=.fu) (o_eq hu5) (zac (pv 6)) (JE.al (zam (zrv T) (hr.mono (by decide)) rfl T.mg_kin T.F_kin.kp T.b_kin zaM (zaa (zac (pv 3)) zai))) (zaY _)))))
end
end Qk10
namespace Qk10
open PySem PySem.Spec L2 TL
noncomputable def zbc (ns:List Int) (k:Nat):Int:=ns.getD k 0
theorem zfR (ns:List Int) (k:Nat):zbG [.scr ns,.sc (.int k)]=.ok (.sc (.int (zbc ns k))):=by
 unfold zbc
 by_cases h:k < ns.length
 ·have:atI ns (k:Int)=some ns[k]:=zho (by lia) (by simp [h])
  simp [zbG,zfX,zcI,h,this]
 ·simp [zbG,zfX,zcI,h]
theorem zpu (i:Int) (h0:0≤i) (h1:i < 13):∃ v:Int,0≤v∧v < 100000∧atI ([.sc (.int 48271),.sc (.int 69621),.sc (.int 16807),.sc (.int 39373),.sc (.int 30269),.sc (.int 40014),.sc (.int 40692),.sc (.int 50021),.sc (.int 61687),.sc (.int 71993),.sc (.int 83869),.sc (.int 95561),.sc (.int 30307)]:List T) i=some (.sc (.int v)):=by
 have e:([.sc (.int 48271),.sc (.int 69621),.sc (.int 16807),.sc (.int 39373),.sc (.int 30269),.sc (.int 40014),.sc (.int 40692),.sc (.int 50021),.sc (.int 61687),.sc (.int 71993),.sc (.int 83869),.sc (.int 95561),.sc (.int 30307)]:List T)=zad [48271,69621,16807,39373,30269,40014,40692,50021,61687,71993,83869,95561,30307]:=rfl
 rw [e,zkR]
 obtain⟨n,rfl⟩:=Int.eq_ofNat_of_zero_le h0
 have hn:n < ([48271,69621,16807,39373,30269,40014,40692,50021,61687,71993,83869,95561,30307]:List Int).length:=by simp;lia
 refine ⟨[48271,69621,16807,39373,30269,40014,40692,50021,61687,71993,83869,95561,30307][n],?_,?_,?_⟩
 ·have:∀ v∈([48271,69621,16807,39373,30269,40014,40692,50021,61687,71993,83869,95561,30307]:List Int),0≤v:=by decide
  exact this _ (List.getElem_mem hn)
 ·have:∀ v∈([48271,69621,16807,39373,30269,40014,40692,50021,61687,71993,83869,95561,30307]:List Int),v < 100000:=by decide
  exact this _ (List.getElem_mem hn)
 ·rw [zho (by lia) (List.getElem?_eq_getElem hn)];rfl
theorem mix (c k m:Int) (hk:0≤k) (hk2:k < 1000000) (hm:0 < m) (hm2:m < 1000000):∃ r,zmE [.sc (.int c),.sc (.int k),.sc (.int m)]=.ok (.sc (.int r))∧0≤r∧r < m:=by
 obtain⟨v,h0,h1,e⟩:=zpu (k % 13) (by lia) (by lia)
 have a1:(-(2 ^ 64) < c % 2147483647 + 12345∧c % 2147483647 + 12345 < 2 ^ 64):=by lia
 have a2:=zdn (i:=c % 2147483647 + 12345) (j:=v) (.inl a1)
 have a3:=zdn (i:=977) (j:=k) (.inl (by lia))
 have a4:=zdn (i:=7919) (j:=k / 13) (.inl (by lia))
 generalize hs:((c % 2147483647 + 12345) * v + 977 * k + 7919 * (k / 13)) % 1000000007=s
 have hs':0≤s∧s < 1000000007:=by lia
 have a5:=zdn (i:=s) (j:=s) (.inl (by lia))
 have a6:=zdn (i:=48271) (j:=k) (.inl (by lia))
 refine ⟨(s * s + 48271 * k) % 1000000007 / 7 % m,?_,Int.emod_nonneg _ (by lia),Int.emod_lt_of_pos _ hm⟩
 simp [zmE,zsc,znK,e,a2,a3,a4,hs,a5,a6,hm]
theorem zl8 (n:Nat):rngZ 0 (n + 1)=rngZ 0 n ++ [(n:Int)]:=by
 unfold rngZ;rw [List.range_succ,List.map_append];simp
theorem zka (c m:Int) (h0:0≤m) (hm:m≤200):∃ p:List Int,zcb [.sc (.int c),.sc (.int m)]=.ok (.lst (zad p))∧p.Perm (rngZ 0 m.toNat):=by
 obtain⟨ρ',e,o,l,p,rfl,hp⟩:=zfj (gT:=gS 4) (B:=zcw)
  (fun k ρ=>∃ (o:Option (Md×T)) (l:Int) (p:List Int),ρ=[some (.al,.sc (.int c)),some (.al,.sc (.int m)),some (.fu,.sc (.int l)),some (.fu,.lst (zad p)),o]∧p.Perm (rngZ 0 k)) m.toNat
  [some (.al,.sc (.int c)),some (.al,.sc (.int m)),some (.fu,.sc (.int (c / 2))),some (.fu,.lst (zad [])),none] ⟨none,c / 2,[],rfl,.refl _⟩ (by
   rintro j ρ hj ⟨o,l,p,rfl,hp⟩
   have hl:p.length=j:=by have:=hp.length_eq;simpa using this
   have perm:∀ r:Nat,(p.take r ++ (j:Int) :: p.drop r).Perm (rngZ 0 (j + 1)):=fun r=>by
    rw [zl8]
    refine (List.perm_middle).trans ?_
    rw [List.take_append_drop]
    exact (hp.cons _).trans (List.perm_append_singleton _ _).symm
   refine ⟨_,rfl,?_⟩
   by_cases hc:c % 2=0
   ·have hj1:(0:Int) < (j:Int) + 1:=by lia
    have hj2:(j:Int) + 1 < 1073741824:=by lia
    have i1:0≤l % ((j:Int) + 1):=Int.emod_nonneg _ (by lia)
    have i2:l % ((j:Int) + 1)≤(p.length:Int):=by have:=Int.emod_lt_of_pos l hj1;lia
    have i3:p.length < 1000:=by lia
    refine ⟨_,?_,some (.al,.sc (.int j)),l / ((j:Int) + 1),_,rfl,perm (l % ((j:Int) + 1)).toNat⟩
    simp [zcw,hc,hj1,hj2,i1,i2,i3]
   ·obtain⟨r,e,r0,r1⟩:=mix l j (j + 1) (by lia) (by lia) (by lia) (by lia)
    have i2:r≤(p.length:Int):=by lia
    have i3:p.length < 1000:=by lia
    refine ⟨_,?_,some (.al,.sc (.int j)),l,_,rfl,perm r.toNat⟩
    simp [zcw,hc,e,r0,i2,i3])
 refine ⟨p,?_,hp⟩
 have b1:-4611686018427387904≤m:=by lia
 have b2:m < 4611686018427387904:=by lia
 simp [zcb,zgI,zcH,b1,b2] at e ⊢
 simp [e]
theorem zk5 {n:Nat} (hn:n≤12):(n:Int) * n≤144:=by
 have:n * n≤12 * 12:=Nat.mul_le_mul hn hn
 exact_mod_cast this
theorem zj8 {n:Nat} {p:List Int} (hp:p.Perm (rngZ 0 n)):Ord n p:=⟨by rw [hp.length_eq,zbV],fun x hx=>zb7 (hp.mem_iff.mp hx)⟩
def Bd (b:List (List Int)):Prop:=1≤b.length∧b.length≤12∧(∀ r∈b,r.length=b.length)∧zfr b.flatten=rngZ 1 (b.length * b.length)
theorem zep {b:List (List Int)} (hb:Sml b):zbH [.lst (zab b)]=.ok (.lst (zad b.flatten)):=by
 obtain⟨x',e⟩:=zfJ (L:=zbT) rfl (some (.al,.lst (zab b))) b [] none (by have:=hb.flat;simp at this ⊢;lia)
 simp at e
 simp [zbH,zfm,zc3,e]
theorem zdN (t0 t1:Option (Md×T)) (n:Nat):∀ (b:List (List Int)) (x:Option (Md×T)),∃ x',forL (gS 3) zbs (zab b) [t0,t1,some (.fu,.sc (.int n)),x]=(if ∀ r∈b,r.length=n then .nx [t0,t1,some (.fu,.sc (.int n)),x'] else .exc 1)
 | [],x=>⟨x,by simp⟩
 | r :: b,x=>by
  obtain⟨x',e⟩:=zdN t0 t1 n b (some (.al,.lst (zad r)))
  refine ⟨x',?_⟩
  rw [zbQ,zaN]
  by_cases h:r.length=n
  ·have h':(r.length:Int)=n:=by lia
   simp [zbs,h]
   exact e
  ·simp [zbs,h,show ¬ (r.length:Int)=n by lia]
theorem zhI {b:List (List Int)}:zaG [.lst (zab b),.sc (.int 12)]=if 1≤b.length∧b.length≤12∧∀ r∈b,r.length=b.length then .ok (.sc .non) else .exc 1:=by
 obtain⟨x',e⟩:=zdN (some (.al,.lst (zab b))) (some (.al,.sc (.int 12))) b.length b none
 by_cases h0:b.length < 1
 ·have:(b.length:Int) < 1:=by lia
  rw [if_neg (by lia)]
  simp [zaG,zbp,zaL,this]
 ·by_cases h2:12 < b.length
  ·have h3:(12:Int) < b.length:=by lia
   rw [if_neg (by lia)]
   simp [zaG,zbp,zaL,h0,h3,show ¬ (b.length:Int) < 1 by lia]
  ·simp [zaG,zbp,zaL,h0,h2,show ¬ (b.length:Int) < 1 by lia,show ¬ (12:Int) < b.length by lia,e]
   by_cases h4:∀ r∈b,r.length=b.length
   ·rw [if_pos h4,if_pos ⟨by lia,by lia,h4⟩];rfl
   ·rw [if_neg h4,if_neg (fun q=>h4 q.2.2)];rfl
theorem zow {b:List (List Int)} (hb:Sml b):(Bd b→zaH [.lst (zab b)]=.ok (.sc .non))∧(¬ Bd b→zaH [.lst (zab b)]=.exc 1):=by
 have hl:=hb.len
 have hz:(b.length:Int) * b.length≤169:=by
  have:b.length * b.length≤13 * 13:=Nat.mul_le_mul hl hl
  exact_mod_cast this
 have hz0:(0:Int)≤(b.length:Int) * b.length:=Int.mul_nonneg (by lia) (by lia)
 have mn:=zhc (i:=(b.length:Int)) (j:=b.length) (.inl (by lia))
 have r2:=zma (i:=1) (j:=(b.length:Int) * b.length + 1) (by lia)
 have et:((b.length:Int) * b.length + 1 - 1).toNat=b.length * b.length:=by
  rw [Int.add_sub_cancel];exact_mod_cast Int.toNat_natCast (b.length * b.length)
 rw [et] at r2
 have hz':b.length * b.length≤169:=by exact_mod_cast hz
 by_cases h1:1≤b.length∧b.length≤12∧∀ r∈b,r.length=b.length
 ·have sq:=zhI (b:=b)
  rw [if_pos h1] at sq
  refine ⟨fun h=>?_,fun h=>?_⟩
  ·simp [zaH,zca,za8,sq,zep hb,mn,r2,show b.length * b.length≤1000000 by lia,zkf,h.2.2.2]
  ·have:¬ zfr b.flatten=rngZ 1 (b.length * b.length):=fun q=>h ⟨h1.1,h1.2.1,h1.2.2,q⟩
   simp [zaH,zca,za8,sq,zep hb,mn,r2,show b.length * b.length≤1000000 by lia,zkf,this]
 ·have sq:=zhI (b:=b)
  rw [if_neg h1] at sq
  refine ⟨fun h=>absurd ⟨h.1,h.2.1,h.2.2.1⟩ h1,fun h=>?_⟩
  simp [zaH,zca,za8,sq]
theorem zna {α:Type} (d:α) (n:Nat):∀ (l:List (List α)) (a b:Nat),(∀ x∈l,x.length=n)→b < n→l.flatten.getD (a * n + b) d=(l.getD a []).getD b d
 | [],a,b,_,_=>by simp
 | x :: l,0,b,h,hb=>by
  have:=h x (by simp)
  rw [List.flatten_cons,Nat.zero_mul,Nat.zero_add,List.getD_eq_getElem?_getD,List.getElem?_append_left (by lia)]
  simp
 | x :: l,a + 1,b,h,hb=>by
  have hx:=h x (by simp)
  have ih:=zna d n l a b (fun y hy=>h y (by simp [hy])) hb
  rw [List.flatten_cons,Nat.succ_mul,List.getD_eq_getElem?_getD,List.getElem?_append_right (by lia),show a * n + n + b - x.length=a * n + b by lia,← List.getD_eq_getElem?_getD,ih]
  simp
theorem zaO {α:Type} (n:Nat):∀ (l:List (List α)),(∀ x∈l,x.length=n)→l.flatten.length=l.length * n
 | [],_=>by simp
 | x :: l,h=>by
  have hx:=h x (by simp)
  have ih:=zaO n l (fun y hy=>h y (by simp [hy]))
  rw [List.flatten_cons,List.length_append,List.length_cons,Nat.succ_mul,ih,hx];lia
theorem zgC {n a b:Nat} (h:b < n):(a * n + b) / n=a:=by rw [Nat.mul_comm,Nat.mul_add_div (by lia),Nat.div_eq_of_lt h,Nat.add_zero]
theorem zgq {n a b:Nat} (h:b < n):(a * n + b) % n=b:=by rw [Nat.mul_comm,Nat.mul_add_mod,Nat.mod_eq_of_lt h]
theorem zeO (n a:Nat):a / n * n + a % n=a:=by rw [Nat.mul_comm];exact Nat.div_add_mod a n
theorem zji {n p a:Nat} (h:a < p * n):a / n < p:=Nat.div_lt_of_lt_mul (by rw [Nat.mul_comm];exact h)
theorem cell_lt {n p r s:Nat} (hr:r < p) (hs:s < n):r * n + s < p * n:=by
 have:(r + 1) * n≤p * n:=Nat.mul_le_mul_right n hr
 rw [Nat.succ_mul] at this;lia
theorem zqr {f:Int→Int} {l:List Int} {i:Nat} (h:i < l.length):at0 (l.map f) i=f (at0 l i):=by simp [at0,List.getD,h]
theorem zoj {α β:Type} {f:α→β} {l:List α} {i:Nat} (d:α) (d':β) (h:i < l.length):(l.map f).getD i d'=f (l.getD i d):=by simp [List.getD,h]
theorem zlP {N:Nat} {A B:List (List Int)} (hA:Sq N A) (hB:Sq N B) (h:∀ R C,R < N→C < N→at0 (zax A R) C=at0 (zax B R) C):A=B:=by
 refine List.ext_getElem (by rw [hA.len,hB.len]) fun R h1 h2=>?_
 have hR:R < N:=by rw [← hA.len];exact h1
 have a1:(A[R]).length=N:=hA.row _ (List.getElem_mem h1)
 have b1:(B[R]).length=N:=hB.row _ (List.getElem_mem h2)
 refine List.ext_getElem (by rw [a1,b1]) fun C h3 h4=>?_
 have:=h R C hR (by rw [← a1];exact h3)
 simpa [zax,at0,List.getD,h1,h2,h3,h4] using this
theorem zrg {N:Nat} {G:List (List Int)} (h:Sq N G) {R C:Nat} (hR:R < N) (hC:C < N) (v:Int) (R' C':Nat):at0 (zax (G.set R ((zax G R).set C v)) R') C'=if R'=R∧C'=C then v else at0 (zax G R') C':=by
 have l1:=h.get hR
 have l2:=h.len
 by_cases e:R'=R
 ·subst e
  have e1:zax (G.set R' ((zax G R').set C v)) R'=(zax G R').set C v:=by
   conv=>lhs;unfold zax
   rw [List.getD_eq_getElem?_getD,List.getElem?_set_self (by rw [l2];exact hR)]
   rfl
  rw [e1]
  by_cases e2:C'=C
  ·subst e2
   rw [if_pos ⟨rfl,rfl⟩]
   unfold at0
   rw [List.getD_eq_getElem?_getD,List.getElem?_set_self (by rw [l1];exact hC)]
   rfl
  ·rw [if_neg (fun q=>e2 q.2)]
   unfold at0
   rw [List.getD_eq_getElem?_getD,List.getElem?_set_ne (fun q=>e2 q.symm),← List.getD_eq_getElem?_getD]
 ·rw [if_neg (fun q=>e q.1)]
  have e1:zax (G.set R ((zax G R).set C v)) R'=zax G R':=by
   unfold zax
   rw [List.getD_eq_getElem?_getD,List.getElem?_set_ne (fun q=>e q.symm),← List.getD_eq_getElem?_getD]
  rw [e1]
theorem zrG {n:Nat} {s:Int} {b:List (List Int)} (h:Lk n s b) (h1:1≤n) (h2:n≤12):Bd b:=
 ⟨by rw [h.sq.len];exact h1,by rw [h.sq.len];exact h2,fun r hr=>by rw [h.sq.len];exact h.sq.row r hr,by rw [h.sq.len];exact h.sort⟩
theorem zhm {n:Nat} {b:List (List Int)} (hb:Bd b):zaH [.lst (zab b)]=.ok (.sc .non):=
 (zow (b:=b) ⟨by have:=hb.2.1;lia,fun r hr=>by rw [hb.2.2.1 r hr];have:=hb.2.1;lia⟩).1 hb
noncomputable def tur (b:List (List Int)):List (List Int):=(rngZ 0 b.length).map fun k=>(b.map fun r=>at0 r k.toNat).reverse
noncomputable def mir (b:List (List Int)):List (List Int):=b.map List.reverse
noncomputable def dwn (b:List (List Int)):List (List Int):=b.map fun r=>r.map fun x=>(b.length:Int) * b.length + 1 - x
theorem zno {n:Nat} {b:List (List Int)} (hb:Sq n b) (hn:n≤12) {k:Int} (k0:0≤k) (k1:k < n):zfh [.lst (zab b),.sc (.int k)]=.ok (.lst (zad (b.map fun r=>at0 r k.toNat))):=by
 have e:mapL (gE 0) zeU [none,some (.sc (.int k))] (zab b)=.ok (zad (b.map fun r=>at0 r k.toNat)):=zmG _ _ fun r hr=>⟨_,rfl,by
  have g:k < (r.length:Int):=by rw [hb.row r hr];exact k1
  simp [zeU,k0,g]⟩
 simp [zfh,zk0,zeB,e,hb.len,show n≤1000 by lia]
theorem zeP {n:Nat} {b:List (List Int)} (hb:Sq n b) (hn:n≤12):zb2 [.lst (zab b)]=.ok (.lst (zab ((rngZ 0 n).map fun k=>b.map fun r=>at0 r k.toNat))):=by
 have e:mapL (gE 0) zd7 [none,some (.lst (zab b))] (zad (rngZ 0 n))=.ok (zab ((rngZ 0 n).map fun k=>b.map fun r=>at0 r k.toNat)):=zi6 _ _ fun k hk=>⟨_,rfl,by
  have:=zb7 hk
  simp [zd7,zno hb hn this.1 this.2]⟩
 simp [zb2,ziE,zdu,e,hb.len,show n≤1000 by lia]
theorem zlI {b:List (List Int)} (hb:Bd b):zfg [.lst (zab b)]=.ok (.lst (zab (tur b))):=by
 have hn:=hb.2.1
 have hq:Sq b.length b:=⟨rfl,hb.2.2.1⟩
 have e:mapL (gE 0) zeS [none] (zab ((rngZ 0 b.length).map fun k=>b.map fun r=>at0 r k.toNat))=.ok (zab (((rngZ 0 b.length).map fun k=>b.map fun r=>at0 r k.toNat).map List.reverse)):=zeI _ _ fun r hr=>⟨_,rfl,by simp [zeS]⟩
 rw [List.map_map] at e
 have e':tur b=(rngZ 0 b.length).map (List.reverse ∘ fun k=>b.map fun r=>at0 r k.toNat):=rfl
 rw [← e'] at e
 have l:(tur b).length≤1000:=by unfold tur;simp;lia
 simp [zfg,zkY,zez,zhm (n:=0) hb,zeP hq hn,e,l]
theorem zi5 {b:List (List Int)} (hb:Bd b):zdz [.lst (zab b)]=.ok (.lst (zab (mir b))):=by
 have hn:=hb.2.1
 have e:mapL (gE 0) zdw [none] (zab b)=.ok (zab (mir b)):=zeI _ _ fun r hr=>⟨_,rfl,by simp [zdw]⟩
 have l:(mir b).length≤1000:=by unfold mir;simp;lia
 simp [zdz,zgJ,zcJ,zhm (n:=0) hb,e,l]
theorem zh1 {n:Nat} {b:List (List Int)} (h:Sq n b):Sq n (mir b):=h.mapR fun r hr=>by rw [List.length_reverse];exact h.row r hr
theorem zie {n:Nat} {b:List (List Int)} (h:Sq n b):Sq n (dwn b):=h.mapR fun r hr=>by rw [List.length_map];exact h.row r hr
theorem zhA {n:Nat} {b:List (List Int)} (h:Sq n b):Sq n (tur b):=by
 unfold tur
 rw [h.len]
 exact Sq.map (by simp) fun k _=>by rw [List.length_reverse,List.length_map,h.len]
theorem zhP {f:List Int→List Int} {b:List (List Int)} {R:Nat} (h:R < b.length):zax (b.map f) R=f (zax b R):=by simp [zax,List.getD,h]
theorem znB {r:List Int} {C:Nat} (h:C < r.length):at0 r.reverse C=at0 r (r.length - 1 - C):=by
 have h2:r.length - 1 - C < r.length:=by lia
 unfold at0
 rw [List.getD_eq_getElem?_getD,List.getElem?_reverse h,← List.getD_eq_getElem?_getD]
theorem zrB {n:Nat} {b:List (List Int)} (h:Sq n b) {R C:Nat} (hR:R < n) (hC:C < n):C2 (mir b) R C=C2 b R (n - 1 - C):=by
 unfold C2 mir
 rw [zhP (by rw [h.len];exact hR),znB (by rw [h.get hR];exact hC),h.get hR]
theorem zr4 {n:Nat} {b:List (List Int)} (h:Sq n b) {R C:Nat} (hR:R < n) (hC:C < n):C2 (dwn b) R C=((n * n:Nat):Int) + 1 - C2 b R C:=by
 unfold C2 dwn
 rw [zhP (by rw [h.len];exact hR),zqr (by rw [h.get hR];exact hC),h.len,Int.natCast_mul]
theorem zqV {n:Nat} {b:List (List Int)} (h:Sq n b) {R C:Nat} (hR:R < n) (hC:C < n):C2 (tur b) R C=C2 b (n - 1 - C) R:=by
 have e:zax (tur b) R=(b.map fun r=>at0 r R).reverse:=by
  unfold tur zax
  rw [zoj (d:=(0:Int)) (h:=by rw [zbV,h.len];exact hR)]
  have:(rngZ 0 b.length).getD R 0=(R:Int):=by unfold rngZ;simp [List.getD,h.len,hR]
  rw [this,Int.toNat_natCast]
 unfold C2
 rw [e,znB (by rw [List.length_map,h.len];exact hC),List.length_map,h.len]
 have h2:n - 1 - C < b.length:=by rw [h.len];lia
 unfold at0 zax
 simp [List.getD,h2]
theorem zrA {n:Nat} {s:Int} {b:List (List Int)} (h:Lk n s b):Lk n s (mir b):=h.mir (zh1 h.sq) fun R C hR hC=>zrB h.sq hR hC
theorem zkD {n:Nat} {s:Int} {b:List (List Int)} (h:Lk n s b):Lk n (n * (((n * n:Nat):Int) + 1) - s) (dwn b):=h.dwn (zie h.sq) fun R C hR hC=>zr4 h.sq hR hC
structure Fl (n:Nat) (b:List (List Int)):Prop where
 sq:Sq n b
 sur:∀ v:Int,1≤v→v < 1 + ((n * n:Nat):Int)→∃ R C,R < n∧C < n∧C2 b R C=v
theorem Fl.bd {n:Nat} {b:List (List Int)} (h:Fl n b) (h1:1≤n) (h2:n≤12):Bd b:=by
 refine ⟨by rw [h.sq.len];exact h1,by rw [h.sq.len];exact h2,fun r hr=>by rw [h.sq.len];exact h.sq.row r hr,?_⟩
 rw [h.sq.len]
 exact zgl h.sq.flat_len fun v h1 h2=>by
  obtain⟨R,C,hR,hC,e⟩:=h.sur v h1 h2
  rw [← e]
  exact h.sq.mem hR hC
theorem zku {n:Nat} {b:List (List Int)} (h:Fl n b):Fl n (tur b):=⟨zhA h.sq,fun v h1 h2=>by
 obtain⟨R,C,hR,hC,q⟩:=h.sur v h1 h2
 exact⟨C,n - 1 - R,hC,by lia,by rw [zqV h.sq hC (by lia),← q];congr 1;lia⟩⟩
theorem zsz (b:List (List Int)):bdT b=.lst (zab b):=rfl
theorem zfU:∀ b:List (List Int),zdr (zab b)=some b
 | []=>rfl
 | r :: b=>by
  show (za3 (zad r)).bind (fun q=>(zdr (zab b)).map (q :: ·))=_
  rw [zbC,zfU b];rfl
theorem zgH:∀ bs:List (List (List Int)),ze8 (bs.map fun b=>.lst (zab b))=some bs
 | []=>rfl
 | b :: bs=>by
  show (zdr (zab b)).bind (fun q=>(ze8 (bs.map fun b=>.lst (zab b))).map (q :: ·))=_
  rw [zfU,zgH bs];rfl
theorem znO {n:Nat} {b:List (List Int)} {bs:List (List (List Int))} (h:∀ c∈b :: bs,Sq n c):zgG [.lst ((b :: bs).map fun b=>.lst (zab b))]=some (.lst ((zee n (b :: bs)).map fun b=>.lst (zab b))):=by
 have e:((b :: bs).headD []).length=n:=(h b (by simp)).len
 show (ze8 ((b :: bs).map fun b=>.lst (zab b))).bind _=_
 rw [zgH]
 show (if _ then _ else _)=_
 rw [e,if_pos ?_]
 ·rfl
 ·simp only [Bool.and_eq_true,beq_iff_eq,List.all_eq_true]
  exact fun c hc=>⟨(h c hc).len,fun r hr=>(h c hc).row r hr⟩
noncomputable def kin8 (b:List (List Int)):List (List (List Int)):=[tur b,mir (tur b),tur (tur b),mir (tur (tur b)),tur (tur (tur b)),mir (tur (tur (tur b))),tur (tur (tur (tur b))),mir (tur (tur (tur (tur b))))]
theorem zp7 {n:Nat} {b:List (List Int)} (h:Sq n b):∀ c∈kin8 b,Sq n c:=by
 have h1:=zhA h
 have h2:=zhA h1
 have h3:=zhA h2
 have h4:=zhA h3
 intro c hc
 simp only [kin8,List.mem_cons,List.not_mem_nil,or_false] at hc
 rcases hc with rfl | rfl | rfl | rfl | rfl | rfl | rfl | rfl
 ·exact h1
 ·exact zh1 h1
 ·exact h2
 ·exact zh1 h2
 ·exact h3
 ·exact zh1 h3
 ·exact h4
 ·exact zh1 h4
theorem zfi {n:Nat} {b:List (List Int)} (h:Fl n b) (h1:1≤n) (hn:n≤12) (t0:Option (Md×T)) (m m2:Md) (hm:m=.fu∨m=.sp) (ts:List T) (x3:Option (Md×T)) (hl:ts.length < 900):zdv [t0,some (m,.lst ts),some (m2,.lst (zab b)),x3] =
  .nx [t0,some (.sp,.lst (ts ++ [.lst (zab (tur b)),.lst (zab (mir (tur b)))])),some (.al,.lst (zab (tur b))),x3]:=by
 have z1:ts.length < sizeLine:=zlL (by lia)
 have z2:ts.length + 1 < sizeLine:=zlL (by lia)
 have e1:=zlI (h.bd h1 hn)
 have e2:=zi5 ((zku h).bd h1 hn)
 rcases hm with rfl | rfl <;> simp [zdv,e1,e2,zhq,z1,z2]
theorem zrJ {n:Nat} {b:List (List Int)} (h:Fl n b) (h1:1≤n) (hn:n≤12):zmH [.lst (zab b)]=.ok (.lst ((zee n (kin8 b)).map fun b=>.lst (zab b))):=by
 have f1:=zku h
 have f2:=zku f1
 have f3:=zku f2
 have r4:rng1 [.sc (.int 4)]=some [.sc (.int 0),.sc (.int 1),.sc (.int 2),.sc (.int 3)]:=rfl
 have k1:=zfi h h1 hn (some (.al,.lst (zab b))) .fu .al (.inl rfl) [] (some (.al,.sc (.int 0))) (by simp)
 have k2:=zfi f1 h1 hn (some (.al,.lst (zab b))) .sp .al (.inr rfl) [.lst (zab (tur b)),.lst (zab (mir (tur b)))] (some (.al,.sc (.int 1))) (by simp)
 have k3:=zfi f2 h1 hn (some (.al,.lst (zab b))) .sp .al (.inr rfl) [.lst (zab (tur b)),.lst (zab (mir (tur b))),.lst (zab (tur (tur b))),.lst (zab (mir (tur (tur b))))] (some (.al,.sc (.int 2))) (by simp)
 have k4:=zfi f3 h1 hn (some (.al,.lst (zab b))) .sp .al (.inr rfl) [.lst (zab (tur b)),.lst (zab (mir (tur b))),.lst (zab (tur (tur b))),.lst (zab (mir (tur (tur b)))),.lst (zab (tur (tur (tur b)))),.lst (zab (mir (tur (tur (tur b)))))] (some (.al,.sc (.int 3))) (by simp)
 have st:=znO (zp7 h.sq)
 simp only [kin8,List.map_cons,List.map_nil] at st
 have lp:forL (gS 3) zdv [.sc (.int 0),.sc (.int 1),.sc (.int 2),.sc (.int 3)] [some (.al,.lst (zab b)),some (.fu,.lst []),some (.al,.lst (zab b)),none] =
   .nx [some (.al,.lst (zab b)),some (.sp,.lst ((kin8 b).map fun b=>.lst (zab b))),some (.al,.lst (zab (tur (tur (tur (tur b)))))),some (.al,.sc (.int 3))]:=by
  rw [zaN]
  show (zdv _).then _=_
  rw [show ([some (Md.al,T.lst (zab b)),some (.fu,.lst []),some (.al,.lst (zab b)),none]:SEnv).set 3 (some (.al,.sc (.int 0)))=[some (.al,.lst (zab b)),some (.fu,.lst []),some (.al,.lst (zab b)),some (.al,.sc (.int 0))] from rfl,k1,SRes.then_nx,zaN]
  show (zdv [some (.al,.lst (zab b)),some (.sp,.lst [.lst (zab (tur b)),.lst (zab (mir (tur b)))]),some (.al,.lst (zab (tur b))),some (.al,.sc (.int 1))]).then _=_
  rw [k2,SRes.then_nx,zaN]
  show (zdv [some (.al,.lst (zab b)),some (.sp,.lst [.lst (zab (tur b)),.lst (zab (mir (tur b))),.lst (zab (tur (tur b))),.lst (zab (mir (tur (tur b))))]),some (.al,.lst (zab (tur (tur b)))),some (.al,.sc (.int 2))]).then _=_
  rw [k3,SRes.then_nx,zaN]
  show (zdv [some (.al,.lst (zab b)),some (.sp,.lst [.lst (zab (tur b)),.lst (zab (mir (tur b))),.lst (zab (tur (tur b))),.lst (zab (mir (tur (tur b)))),.lst (zab (tur (tur (tur b)))),.lst (zab (mir (tur (tur (tur b)))))]),some (.al,.lst (zab (tur (tur (tur b))))),some (.al,.sc (.int 3))]).then _=_
  rw [k4,SRes.then_nx]
  rfl
 simp only [kin8,List.map_cons,List.map_nil] at lp
 simp [zmH,zsd,znL,r4,lp,st,-zra]
 rfl
theorem zdk {b:List (List Int)} (h:b.length≤1000):zbR [.lst (zab b)]=.ok (.lst (zad (b.map sumL))):=by
 have e:mapL (gE 0) zc8 [none] (zab b)=.ok (zad (b.map sumL)):=zmG _ _ fun r hr=>⟨_,rfl,by simp [zc8,cSum,zfb]⟩
 simp [zbR,zfZ,zcq,e,h]
theorem zmN {n:Nat} {b:List (List Int)} (hb:Sq n b) (h1:1≤n) (hn:n≤12):zbx [.lst (zab b)]=.ok (.lst (zab [(rngZ 0 n).map fun k=>C2 b k.toNat k.toNat,(rngZ 0 n).map fun k=>C2 b k.toNat (n - 1 - k.toNat)])):=by
 have e1:mapL (gE 0) zc7 [none,some (.lst (zab b))] (zad (rngZ 0 n))=.ok (zad ((rngZ 0 n).map fun k=>C2 b k.toNat k.toNat)):=zfA _ _ fun k hk=>⟨_,rfl,by
  obtain⟨k0,k1⟩:=zb7 hk
  have g1:k < (b.length:Int):=by rw [hb.len];exact k1
  have g2:k < ((zax b k.toNat).length:Int):=by rw [hb.get (by lia)];exact k1
  simp [zc7,k0,g1,g2,C2]⟩
 have e2:mapL (gE 0) zc6 [none,some (.lst (zab b)),some (.sc (.int ((n:Int) - 1)))] (zad (rngZ 0 n))=.ok (zad ((rngZ 0 n).map fun k=>C2 b k.toNat (n - 1 - k.toNat))):=zfA _ _ fun k hk=>⟨_,rfl,by
  obtain⟨k0,k1⟩:=zb7 hk
  have g1:k < (b.length:Int):=by rw [hb.len];exact k1
  have a:=zjp (l:=zax b k.toNat) (i:=(n:Int) - 1 - k) (by lia) (by rw [hb.get (by lia)];lia)
  rw [show ((n:Int) - 1 - k).toNat=n - 1 - k.toNat by lia] at a
  simp [zc6,k0,g1,a,C2]⟩
 simp [zbx,zfY,zcp,e1,e2,hb.len,show n≤1000 by lia]
theorem zp0 {s:Int} {l:List Int} (h:l≠[]) (ha:∀ x∈l,x=s):l.min? = some s∧l.max? = some s:=by
 have:l=List.replicate l.length s:=List.eq_replicate_iff.mpr ⟨rfl,ha⟩
 have h0:0 < l.length:=List.length_pos_iff.mpr h
 rw [this]
 generalize l.length=m at h0
 constructor
 ·rw [List.min?_replicate_of_pos h0]
 ·rw [List.max?_replicate_of_pos h0]
theorem zpr {n:Nat} {s:Int} {b:List (List Int)} (h:Lk n s b) (h1:1≤n) (hn:n≤12):∃ A B C:List Int,zh3 [.lst (zab b)]=.ok (.tup [.lst (zad A),.lst (zad B),.lst (zad C)])∧A.length=n∧B.length=n∧C.length=2∧∀ x∈A ++ (B ++ C),x=s:=by
 have hl:=h.sq.len
 have hq:=h.sq
 have r1:∀ x∈b.map sumL,x=s:=fun x hx=>by
  obtain⟨r,hr,rfl⟩:=List.mem_map.mp hx
  obtain⟨R,hR,e⟩:=List.mem_iff_getElem.mp hr
  have hR':R < n:=by rw [← hl];exact hR
  have:zax b R=r:=by simp [zax,List.getD,hR,e]
  rw [zgi (hq.row r hr),← h.row R hR']
  unfold C2
  rw [this]
 have r2:∀ x∈(((rngZ 0 n).map fun k=>b.map fun r=>at0 r k.toNat)).map sumL,x=s:=fun x hx=>by
  rw [List.map_map] at hx
  obtain⟨k,hk,rfl⟩:=List.mem_map.mp hx
  obtain⟨k0,k1⟩:=zb7 hk
  show sumL (b.map fun r=>at0 r k.toNat)=s
  rw [zgi (n:=n) (by rw [List.length_map,hl]),← h.col k.toNat (by lia)]
  refine zat fun R hR=>?_
  have hR':R < b.length:=by rw [hl];exact hR
  unfold C2 at0 zax
  simp [List.getD,hR']
 have dg:∀ (f:Nat→Int),sumL ((rngZ 0 n).map fun k=>f k.toNat)=sumN n f:=fun f=>by rw [zj4];rfl
 have r3:∀ x∈([(rngZ 0 n).map fun k=>C2 b k.toNat k.toNat,(rngZ 0 n).map fun k=>C2 b k.toNat (n - 1 - k.toNat)]).map sumL,x=s:=fun x hx=>by
  simp only [List.map_cons,List.map_nil,List.mem_cons,List.not_mem_nil,or_false] at hx
  rcases hx with rfl | rfl
  ·rw [dg fun k=>C2 b k k,h.d1]
  ·rw [dg fun k=>C2 b k (n - 1 - k),h.d2]
 have c1:=zdk (b:=b) (by lia)
 have c2:=zdk (b:=(rngZ 0 n).map fun k=>b.map fun r=>at0 r k.toNat) (by simp;lia)
 have c3:=zdk (b:=[(rngZ 0 n).map fun k=>C2 b k.toNat k.toNat,(rngZ 0 n).map fun k=>C2 b k.toNat (n - 1 - k.toNat)]) (by simp)
 generalize hA:b.map sumL=A at *
 generalize hB:(((rngZ 0 n).map fun k=>b.map fun r=>at0 r k.toNat)).map sumL=B at *
 generalize hC:([(rngZ 0 n).map fun k=>C2 b k.toNat k.toNat,(rngZ 0 n).map fun k=>C2 b k.toNat (n - 1 - k.toNat)]).map sumL=C at *
 have lA:A.length=n:=by rw [← hA,List.length_map,hl]
 have lB:B.length=n:=by rw [← hB];simp
 have lC:C.length=2:=by rw [← hC];rfl
 simp only [zbQ,zl5] at c3
 have sm:zh3 [.lst (zab b)]=.ok (.tup [.lst (zad A),.lst (zad B),.lst (zad C)]):=by
  simp [zh3,zpj,ziF,zhm (n:=0) (zrG h h1 hn),c1,zeP hq hn,c2,zmN hq h1 hn,c3]
 refine ⟨A,B,C,sm,lA,lB,lC,fun x hx=>?_⟩
 rcases List.mem_append.mp hx with hx | hx
 ·exact r1 x hx
 ·rcases List.mem_append.mp hx with hx | hx
  ·exact r2 x hx
  ·exact r3 x hx
theorem zgv {n:Nat} {s:Int} {b:List (List Int)} (h:Lk n s b) (h1:1≤n) (hn:n≤12):zci [.lst (zab b)]=.ok (.sc (.bl true)):=by
 obtain⟨A,B,C,sm,lA,lB,lC,al⟩:=zpr h h1 hn
 have jn:zbH [.tup [.lst (zad A),.lst (zad B),.lst (zad C)]]=.ok (.lst (zad (A ++ (B ++ C)))):=by
  obtain⟨x',e⟩:=zfJ (L:=zbT) rfl (some (.al,.tup [.lst (zad A),.lst (zad B),.lst (zad C)])) [A,B,C] [] none (by simp;lia)
  simp at e
  simp [zbH,zfm,zc3,e]
 obtain⟨q1,q2⟩:=zp0 (s:=s) (l:=A ++ (B ++ C)) (by intro q;have:=congrArg List.length q;rw [List.length_append,lA] at this;simp at this;lia) al
 simp [zci,ziD,zdt,sm,jn,cMin,cMax,q1,q2]
@[simp] theorem zt5 (F:VEnv→Res T) (ρ:VEnv):eLS F ρ=(F ρ).bind fun t=>.of (cLS t):=rfl
@[simp] theorem zt7 (F:VEnv→Res T) (ρ:VEnv):eJn F ρ=(F ρ).bind fun t=>.of (cJn t):=rfl
@[simp] theorem zst (F:VEnv→Res T) (ρ:VEnv):zm8 F ρ=((F ρ).bind fun t=>.of ((asL t).map (zeN 0))):=rfl
theorem zkl {α:Type} {Bt:VEnv→Res Bool} {F:VEnv→Res T} {ρ:VEnv} {gE:T→VEnv→Option VEnv} (p:α→Bool) (ea eb:α→T):∀ (l:List α),(∀ x∈l,∃ ρ1,gE (ea x) ρ=some ρ1∧Bt ρ1=.ok (p x)∧(p x=true→F ρ1=.ok (eb x)))→mapT gE Bt F ρ (l.map ea)=.ok ((l.filter p).map eb)
 | [],_=>rfl
 | x :: l,h=>by
  obtain⟨ρ1,h1,h2,h3⟩:=h x (by simp)
  rw [List.map_cons]
  unfold mapT
  rw [h1,Res.of_some,Res.bind_ok,h2,Res.no_ok,Res.bind_ok,zkl p ea eb l fun y hy=>h y (by simp [hy])]
  cases hp:p x with
  | false=>simp [hp]
  | true=>rw [h3 hp];simp [hp]
theorem zmF {Bt:VEnv→Res Bool} {F:VEnv→Res T} {ρ:VEnv} {gE:T→VEnv→Option VEnv} (p:Int→Bool) (l:List Int) (h:∀ x∈l,∃ ρ1,gE (.sc (.int x)) ρ=some ρ1∧Bt ρ1=.ok (p x)∧(p x=true→F ρ1=.ok (.sc (.int x)))):mapT gE Bt F ρ (zad l)=.ok (zad (l.filter p)):=
 zkl p (fun x=>.sc (.int x)) (fun x=>.sc (.int x)) l h
theorem zif (b:List (List Int)) (h:∀ r∈b,r.length≤1000) (hb:b.length≤1000):zen [.lst (zab b)]=.ok (.lst (zab b)):=by
 have e:=zeI (F:=zeT) (ρ:=[none]) (gE:=gE 0) (fun r=>r) b fun r hr=>⟨[some (.lst (zad r))],rfl,by simp [zeT,zhE (h r hr)]⟩
 rw [List.map_id'] at e
 have z:(zab b).length≤1000:=by simpa using hb
 simp [zen,zkZ,zeA,e,zeo z]
noncomputable def zev (n:Nat):Int:=(n:Int) * (n * n + 1) / 2
theorem zoz (n:Nat) (hn:n≤12):zcW [.sc (.int n)]=.ok (.sc (.int (zev n))):=by
 have h2:=zk5 hn
 have a1:=zdn (i:=n) (j:=n) (.inl (by lia))
 have a2:=zdn (i:=n) (j:=(n:Int) * n + 1) (.inl (by lia))
 simp [zcW,zf1,zcs,a1,a2,zjf,zev]
noncomputable def miss (n:Nat) (b:List (List Int)):List Int:=(rngZ 1 (n * n)).filter fun v=>!b.flatten.contains v
theorem zfy (v:Int) (l:List Int):zc9 (.sc (.int v)) (.lst (zad l))=some (.sc (.bl (!l.contains v))):=by
 have h1:(zad l).all (okT 4)=true:=by unfold zad;simp [okT,zdH]
 have h2:inT (.sc (.int v)) (zad l)=l.contains v:=by
  unfold inT zad
  rw [List.any_map]
  induction l with
  | nil=>rfl
  | cons x l ih =>
   rw [List.any_cons,List.contains_cons,ih (by unfold zad;simp [okT,zdH])]
   congr 1
   show eqT (.sc (.int x)) (.sc (.int v))=(v == x)
   simp [eqT,eqV,Bool.beq_comm]
 have h3:okT 4 (.sc (.int v))=true:=by simp [okT,zdH]
 unfold zc9
 show (some (zad l)).bind _=_
 rw [Option.bind_some,if_pos ⟨h3,h1⟩,h2]
theorem zlr {n:Nat} {b:List (List Int)} (hb:Sq n b) (hn:n≤12) (hs:Sml b):zbh [.lst (zab b)]=.ok (.lst (zad (miss n b))):=by
 have h2:=zk5 hn
 have hz0:(0:Int)≤(n:Int) * n:=Int.mul_nonneg (by lia) (by lia)
 have mn:=zdn (i:=(n:Int)) (j:=n) (.inl (by lia))
 have r2:=zma (i:=1) (j:=(n:Int) * n + 1) (by lia)
 have et:((n:Int) * n + 1 - 1).toNat=n * n:=by rw [Int.add_sub_cancel];exact_mod_cast Int.toNat_natCast (n * n)
 rw [et] at r2
 have e:mapT (gE 0) (eB (eOp zc9 (eVar 0) (eVar 1))) za9 [none,some (.lst (zad b.flatten))] (zad (rngZ 1 (n * n)))=.ok (zad (miss n b)):=zmF (Bt:=eB (eOp zc9 (eVar 0) (eVar 1))) (F:=za9) (ρ:=[none,some (.lst (zad b.flatten))]) (gE:=gE 0) (fun v=>!b.flatten.contains v) (rngZ 1 (n * n)) fun v hv=>⟨[some (.sc (.int v)),some (.lst (zad b.flatten))],rfl,by simp [zfy],fun _=>by simp [za9]⟩
 have z:(zad (miss n b)).length≤1000:=by
  rw [zb3]
  have:=List.length_filter_le (fun v=>!b.flatten.contains v) (rngZ 1 (n * n))
  rw [zbV] at this
  have q:n * n≤144:=by exact_mod_cast h2
  unfold miss;lia
 have jn:=zep hs
 simp [zbh,zcG,za2,hb.len,jn,mn,r2,e,zeo z]
noncomputable def lns (n:Nat) (b:List (List Int)):List (List Int):=(b ++ (rngZ 0 n).map fun k=>b.map fun r=>at0 r k.toNat) ++ [(rngZ 0 n).map fun k=>C2 b k.toNat k.toNat,(rngZ 0 n).map fun k=>C2 b k.toNat (n - 1 - k.toNat)]
noncomputable def may (n:Nat) (b:List (List Int)):Bool:=(lns n b).all fun l=>l.contains 0 || decide (l.sum=zev n)
theorem zkk {n:Nat} {b:List (List Int)} (m:Md) (hb:Sq n b) (hn:n≤12):∀ (ls:List (List Int)) (x:Option (Md×T)),∃ x',forL (gS 1) zaQ (zab ls) [some (m,.lst (zab b)),x]=(if ls.all (fun l=>l.contains 0 || decide (l.sum=zev n))=true then .nx [some (m,.lst (zab b)),x'] else .rt .fu (.sc (.bl false)))
 | [],x=>⟨x,by simp⟩
 | l :: ls,x=>by
  obtain⟨x',e⟩:=zkk m hb hn ls (some (.al,.lst (zad l)))
  refine ⟨x',?_⟩
  rw [zbQ,zaN]
  have ak:=zoz n hn
  have h0:=zfy 0 l
  have sm:cSum [.lst (zad l)]=some (.sc (.int l.sum)):=by show (za3 (zad l)).map _=_;rw [zbC];rfl
  by_cases h1:l.contains 0=true
  ·rw [h1] at h0
   simp [zaQ,h0]
   rw [e]
   simp [show (0:Int)∈l by simpa using h1]
  ·have h1':l.contains 0=false:=by simpa using h1
   rw [h1'] at h0
   by_cases h2:l.sum=zev n
   ·simp [zaQ,h0,hb.len,ak,h2,sm]
    rw [e]
    simp [h2]
   ·simp [zaQ,h0,hb.len,ak,h2,sm,show ¬ (0:Int)∈l by simpa using h1']
theorem zrC {n:Nat} {b:List (List Int)} (hb:Sq n b) (h1:1≤n) (hn:n≤12):zb8 [.lst (zab b)]=.ok (.sc (.bl (may n b))):=by
 obtain⟨x',e⟩:=zkk .al hb hn (lns n b) none
 have e1:=zeP hb hn
 have e2:=zmN hb h1 hn
 have c1:=zhV (a:=b) (b:=(rngZ 0 n).map fun k=>b.map fun r=>at0 r k.toNat) (by simp [hb.len];lia)
 have c2:=zhV (a:=b ++ (rngZ 0 n).map fun k=>b.map fun r=>at0 r k.toNat) (b:=[(rngZ 0 n).map fun k=>C2 b k.toNat k.toNat,(rngZ 0 n).map fun k=>C2 b k.toNat (n - 1 - k.toNat)]) (by simp [hb.len];lia)
 have c3:(iLst (eOp (oCat .sp) (eOp (oCat .sp) (eVar 0) (zaD 1 zb2 (zae (eVar 0) aNil))) (zaD 1 zbx (zae (eVar 0) aNil)))) [some (.lst (zab b)),none]=.ok (zab (lns n b)):=by
  show Res.bind _ _=_
  simp only [zr2,zr0,Res.bind_ok,zor,zoD,zqt,e1,e2,List.length_cons,List.length_nil,Nat.zero_add,if_true,c1,Res.of_some,c2]
  rfl
 have c4:sFor [true,false] (iLst (eOp (oCat .sp) (eOp (oCat .sp) (eVar 0) (zaD 1 zb2 (zae (eVar 0) aNil))) (zaD 1 zbx (zae (eVar 0) aNil)))) (gS 1) zaQ (zaz zbK [.lst (zab b)])=forL (gS 1) zaQ (zab (lns n b)) [some (.al,.lst (zab b)),none]:=by
  show Res.sthen (iLst _ [some (.lst (zab b)),none]) _=_
  rw [c3]
  rfl
 unfold zb8 zex
 show fin .fu (SRes.then (sFor _ _ _ _ _) _)=_
 rw [c4,e]
 unfold may
 cases (lns n b).all fun l=>l.contains 0 || decide (l.sum=zev n) <;> rfl
noncomputable def put (b:List (List Int)) (r c:Nat) (v:Int):List (List Int):=b.set r ((zax b r).set c v)
theorem zeX {n:Nat} {b:List (List Int)} (h:Sq n b) {r c:Nat} (hr:r < n) (v:Int):Sq n (put b r c v):=by
 refine ⟨by unfold put;rw [List.length_set];exact h.len,fun q hq=>?_⟩
 unfold put at hq
 rcases List.mem_or_eq_of_mem_set hq with q1 | q1
 ·exact h.row q q1
 ·rw [q1,List.length_set];exact h.get hr
noncomputable def zcn (n:Nat) (b:List (List Int)) (r c:Nat):List (List (List Int)):=((miss n b).map fun v=>put b r c v).filter (may n)
noncomputable def bdsT (bs:List (List (List Int))):List T:=bs.map fun b=>.lst (zab b)
theorem znc {n:Nat} {b:List (List Int)} (hb:Sq n b) (h1:1≤n) (hn:n≤12) {r c:Nat} (hr:r < n) (hc:c < n) (v:Int) (acc:List (List (List Int))) (x4:Option (Md×T)) (h:acc.length < 1000000) :
  ∃ x4',zbk [some (.al,.lst (zab b)),some (.al,.tup [.sc (.int r),.sc (.int c)]),some (.fu,.lst (bdsT acc)),some (.al,.sc (.int v)),x4]=.nx [some (.al,.lst (zab b)),some (.al,.tup [.sc (.int r),.sc (.int c)]),some (.fu,.lst (bdsT (acc ++ if may n (put b r c v)=true then [put b r c v] else []))),some (.al,.sc (.int v)),x4']:=by
 have cp:=zif b (fun r hr=>by rw [hb.row r hr];lia) (by rw [hb.len];lia)
 have my:=zrC (zeX (c:=c) hb hr v) h1 hn
 have a0:atI [T.sc (V.int r),T.sc (V.int c)] 0=some (.sc (.int r)):=rfl
 have a1:atI [T.sc (V.int r),T.sc (V.int c)] 1=some (.sc (.int c)):=rfl
 have p2:=zfv (i:=4) (b:=b) (x:=v) (k:=r) (j:=c) (ρ:=[some (Md.al,T.lst (zab b)),some (Md.al,T.tup [T.sc (V.int r),T.sc (V.int c)]),some (Md.fu,T.lst (bdsT acc)),some (Md.al,T.sc (V.int v)),some (Md.fu,T.lst (zab b))]) (by lia) (by rw [hb.len];lia) (by lia) (by rw [Int.toNat_natCast,hb.get hr];lia)
 rw [Int.toNat_natCast,Int.toNat_natCast] at p2
 have p2':zeY 4 Md.fu (zab b) (T.sc (V.int v)) (T.sc (V.int r)) (T.sc (V.int c)) [some (Md.al,T.lst (zab b)),some (Md.al,T.tup [T.sc (V.int r),T.sc (V.int c)]),some (Md.fu,T.lst (bdsT acc)),some (Md.al,T.sc (V.int v)),some (Md.fu,T.lst (zab b))]=.nx [some (Md.al,T.lst (zab b)),some (Md.al,T.tup [T.sc (V.int r),T.sc (V.int c)]),some (Md.fu,T.lst (bdsT acc)),some (Md.al,T.sc (V.int v)),some (Md.fu,T.lst (zab (put b r c v)))]:=p2
 have z:(bdsT acc).length < sizeLine:=by unfold bdsT;rw [List.length_map];exact Nat.lt_of_lt_of_le h (by decide)
 cases hm:may n (put b r c v) with
 | false =>
  rw [hm] at my
  exact⟨_,by simp [zbk,cp,a0,a1,p2',my];rfl⟩
 | true =>
  rw [hm] at my
  refine ⟨none,?_⟩
  have mv:zj3 2 4 [some (Md.al,T.lst (zab b)),some (Md.al,T.tup [T.sc (V.int r),T.sc (V.int c)]),some (Md.fu,T.lst (bdsT acc)),some (Md.al,T.sc (V.int v)),some (Md.fu,T.lst (zab (put b r c v)))]=.nx [some (Md.al,T.lst (zab b)),some (Md.al,T.tup [T.sc (V.int r),T.sc (V.int c)]),some (Md.fu,T.lst (bdsT acc ++ [T.lst (zab (put b r c v))])),some (Md.al,T.sc (V.int v)),none]:=if_pos ⟨by decide,z⟩
  have bd:bdsT (acc ++ [put b r c v])=bdsT acc ++ [T.lst (zab (put b r c v))]:=by unfold bdsT;simp
  simp [zbk,cp,a0,a1,p2',my,mv,bd]
theorem zic {n:Nat} {b:List (List Int)} (hb:Sq n b) (h1:1≤n) (hn:n≤12) {r c:Nat} (hr:r < n) (hc:c < n):∀ (vs:List Int) (acc:List (List (List Int))) (x3 x4:Option (Md×T)),acc.length + vs.length≤1000 →
  ∃ x3' x4',forL (gS 3) zbk (zad vs) [some (.al,.lst (zab b)),some (.al,.tup [.sc (.int r),.sc (.int c)]),some (.fu,.lst (bdsT acc)),x3,x4]=.nx [some (.al,.lst (zab b)),some (.al,.tup [.sc (.int r),.sc (.int c)]),some (.fu,.lst (bdsT (acc ++ (vs.map fun v=>put b r c v).filter (may n)))),x3',x4']
 | [],acc,x3,x4,_=>⟨x3,x4,by simp⟩
 | v :: vs,acc,x3,x4,h=>by
  rw [List.length_cons] at h
  obtain⟨y4,e1⟩:=znc hb h1 hn hr hc v acc x4 (by lia)
  obtain⟨x3',x4',e⟩:=zic hb h1 hn hr hc vs (acc ++ if may n (put b r c v)=true then [put b r c v] else []) (some (.al,.sc (.int v))) y4 (by rw [List.length_append];split <;> simp <;> lia)
  refine ⟨x3',x4',?_⟩
  rw [zbj,zaN]
  show SRes.then (zbk _) _=_
  rw [show ([some (.al,.lst (zab b)),some (.al,.tup [.sc (.int r),.sc (.int c)]),some (.fu,.lst (bdsT acc)),x3,x4]:SEnv).set 3 (some (.al,.sc (.int v)))=[some (.al,.lst (zab b)),some (.al,.tup [.sc (.int r),.sc (.int c)]),some (.fu,.lst (bdsT acc)),some (.al,.sc (.int v)),x4] from rfl,e1]
  show forL _ _ _ _=_
  rw [e,List.map_cons,List.filter_cons,List.append_assoc]
  cases may n (put b r c v) <;> simp
theorem znb {n:Nat} {b:List (List Int)} (hb:Sq n b) (h1:1≤n) (hn:n≤12) (hs:Sml b) {r c:Nat} (hr:r < n) (hc:c < n):zcj [.lst (zab b),.tup [.sc (.int r),.sc (.int c)]]=.ok (.lst (bdsT (zcn n b r c))):=by
 have h2:=zk5 hn
 have q:n * n≤144:=by exact_mod_cast h2
 have hl:(miss n b).length≤n * n:=by
  have:=List.length_filter_le (fun v=>!b.flatten.contains v) (rngZ 1 (n * n))
  rw [zbV] at this
  exact this
 obtain⟨x3,x4,e⟩:=zic hb h1 hn hr hc (miss n b) [] none none (by simp;lia)
 have ms:=zlr hb hn hs
 rw [List.nil_append] at e
 simp [zcj,zf0,zcr,ms]
 rw [show (bdsT []:List T)=[] from rfl] at e
 rw [e]
 rfl
noncomputable def zct (p:Nat×Nat):T:=.tup [.sc (.int p.1),.sc (.int p.2)]
noncomputable def ocR (r:Nat):Nat→List Int→List (Nat×Nat)
 | _,[]=>[]
 | k,x :: xs=>if x=0 then (r,k) :: ocR r (k + 1) xs else ocR r (k + 1) xs
noncomputable def oc:Nat→List (List Int)→List (Nat×Nat)
 | _,[]=>[]
 | k,q :: b=>ocR k 0 q ++ oc (k + 1) b
theorem zgA (k:Nat) (t:T) (ts:List T):zeN k (t :: ts)=.tup [.sc (.int k),t] :: zeN (k + 1) ts:=rfl
theorem zmx (r:Nat):∀ (q:List Int) (k:Nat),mapT (gE2 0 1) (eB (eOp oEq (eVar 1) (eC (.int 0)))) zbZ [none,none,some (.sc (.int r))] (zeN k (zad q))=.ok ((ocR r k q).map zct)
 | [],k=>rfl
 | x :: q,k=>by
  rw [zbj,zgA]
  unfold mapT
  rw [zmx r q (k + 1)]
  have eg:gE2 0 1 (.tup [.sc (.int k),.sc (.int x)]) [none,none,some (.sc (.int r))]=some [some (.sc (.int k)),some (.sc (.int x)),some (.sc (.int r))]:=rfl
  rw [eg,Res.of_some,Res.bind_ok]
  have t2:zhC [T.sc (V.int r),T.sc (V.int k)]=some (.tup [.sc (.int r),.sc (.int k)]):=if_pos sz2
  by_cases h:x=0
  ·subst h
   simp [zbZ,ocR,zct,t2]
  ·simp [zbZ,ocR,h]
theorem ziY (r:Nat):∀ (q:List Int) (k:Nat),(ocR r k q).length≤q.length
 | [],k=>by simp [ocR]
 | x :: q,k=>by
  have:=ziY r q (k + 1)
  unfold ocR
  split <;> simp <;> lia
theorem zoZ:∀ (b:List (List Int)) (k:Nat),(oc k b).length≤b.flatten.length
 | [],k=>by simp [oc]
 | q :: b,k=>by
  have h1:=ziY k q 0
  have h2:=zoZ b (k + 1)
  unfold oc
  rw [List.flatten_cons,List.length_append,List.length_append]
  lia
theorem zmw (t0:Option (Md×T)):∀ (b:List (List Int)) (k:Nat) (acc:List (Nat×Nat)) (x y:Option (Md×T)),acc.length + b.flatten.length≤1000 →
  ∃ x' y',forL (gS2 2 3) zbq (zeN k (zab b)) [t0,some (.fu,.lst (acc.map zct)),x,y]=.nx [t0,some (.fu,.lst ((acc ++ oc k b).map zct)),x',y']
 | [],k,acc,x,y,_=>⟨x,y,by simp [oc];rfl⟩
 | q :: b,k,acc,x,y,h=>by
  rw [List.flatten_cons,List.length_append] at h
  have hq:=ziY k q 0
  obtain⟨x',y',e⟩:=zmw t0 b (k + 1) (acc ++ ocR k 0 q) (some (.al,.sc (.int k))) (some (.al,.lst (zad q))) (by rw [List.length_append];lia)
  refine ⟨x',y',?_⟩
  rw [zbQ,zgA,zaN]
  have om:=zmx k q 0
  have z:((ocR k 0 q).map zct).length≤1000:=by rw [List.length_map];lia
  have z2:acc.length + (ocR k 0 q).length≤sizeLine:=Nat.le_trans (show _≤1000 by lia) zdC
  have ex:zhh 1 .fu [false,false,true,true] .fu (acc.map zct) (.lst ((ocR k 0 q).map zct)) [t0,some (.fu,.lst (acc.map zct)),some (.al,.sc (.int k)),some (.al,.lst (zad q))]=.nx [t0,some (.fu,.lst ((acc ++ ocR k 0 q).map zct)),some (.al,.sc (.int k)),some (.al,.lst (zad q))]:=by
   unfold zhh
   simp [z2]
  have el:zbq [t0,some (.fu,.lst (acc.map zct)),some (.al,.sc (.int k)),some (.al,.lst (zad q))]=.nx [t0,some (.fu,.lst ((acc ++ ocR k 0 q).map zct)),some (.al,.sc (.int k)),some (.al,.lst (zad q))]:=by
   unfold zbq
   simp [om,zeo z]
   rw [ex,List.map_append]
  show SRes.then (zbq [t0,some (.fu,.lst (acc.map zct)),some (.al,.sc (.int k)),some (.al,.lst (zad q))]) _=_
  rw [el]
  show forL _ _ _ _=_
  rw [e,oc,List.append_assoc]
theorem zmq {b:List (List Int)} (h:b.flatten.length≤1000):zb1 [.lst (zab b)]=.ok (.lst ((oc 0 b).map zct)):=by
 obtain⟨x',y',e⟩:=zmw (some (.al,.lst (zab b))) b 0 [] none none (by simpa using h)
 simp at e
 simp [zb1,ze4,zb5,e]
structure Op (n:Nat) (b:List (List Int)):Prop where
 sq:Sq n b
 lo:1≤n
 hi:n≤4
 rg:∀ v∈b.flatten,v=0∨(1≤v∧v≤(n:Int) * n)
 nd:(b.flatten.filter fun v=>!decide (v=0)).Nodup
 few:n=4→(oc 0 b).length≤6
theorem zpt {n:Nat} {b:List (List Int)} (h:Sq n b) (h1:1≤n) (h4:n≤4):zaG [.lst (zab b),.sc (.int 4)]=.ok (.sc .non):=by
 obtain⟨x',e⟩:=zdN (some (.al,.lst (zab b))) (some (.al,.sc (.int 4))) n b none
 rw [if_pos h.row] at e
 simp [zaG,zbp,zaL,h.len,show ¬ (n:Int) < 1 by lia,show ¬ (4:Int) < n by lia,e]
theorem zkK:∀ (l d:List Int),(d ++ l).Nodup→l.foldl Sx.dstep d=d ++ l
 | [],d,_=>by simp
 | k :: l,d,h=>by
  have hk:k∉d:=fun q=>by
   have:=List.nodup_append.mp h
   exact this.2.2 k q k (by simp) rfl
  rw [List.foldl_cons,show Sx.dstep d k=d ++ [k] by unfold Sx.dstep;simp [hk],zkK l (d ++ [k]) (by rw [List.append_assoc];exact h),List.append_assoc]
  rfl
theorem zkL {n:Nat} {b:List (List Int)} (hb:Sq n b) (hn:n≤4) (t1:Option (Md×T)):∀ (l:List Int) (x:Option (Md×T)),(∀ v∈l,1≤v∧v≤(n:Int) * n)→∃ x',forL (gS 2) zbm (zad l) [some (.al,.lst (zab b)),t1,x]=.nx [some (.al,.lst (zab b)),t1,x']
 | [],x,_=>⟨x,by simp⟩
 | v :: l,x,h=>by
  obtain⟨x',e⟩:=zkL hb hn t1 l (some (.al,.sc (.int v))) fun w hw=>h w (by simp [hw])
  refine ⟨x',?_⟩
  have hv:=h v (by simp)
  have h2:=zk5 (n:=n) (by lia)
  have mn:=zdn (i:=(n:Int)) (j:=n) (.inl (by lia))
  rw [zbj,zaN]
  simp [zbm,hb.len,mn,show ¬ v < 1 by lia,show ¬ (n:Int) * n < v by lia,e]
theorem zhl {n:Nat} {b:List (List Int)} (h:Op n b):zbb [.lst (zab b)]=.ok (.sc .non):=by
 have e1:=zpt h.sq h.lo h.hi
 have jn:=zep (h.sq.sml (by have:=h.hi;lia))
 have hi:=h.hi
 have fl:b.flatten.length=n * n:=by rw [zaO n b h.sq.row,h.sq.len]
 have q:n * n≤16:=Nat.mul_le_mul hi hi
 generalize hp:(b.flatten.filter fun v=>!decide (v=0))=pl
 have hpl:pl.length≤16:=by
  rw [← hp]
  have:=List.length_filter_le (fun v:Int=>!decide (v=0)) b.flatten
  lia
 have em:mapT (gE 0) (eB (eOp oNe (eVar 0) (eC (.int 0)))) zbn [none] (zad b.flatten)=.ok (zad pl):=by
  rw [← hp]
  exact zmF (fun v=>!decide (v=0)) b.flatten fun v hv=>⟨[some (.sc (.int v))],rfl,by simp,fun _=>by simp [zbn]⟩
 have z:(zad pl).length≤1000:=by rw [zb3];lia
 have ls:cLS (.lst (zad pl))=some (.sc (.int (pl.length:Nat))):=by
  show (za3 (zad pl)).bind _=_
  rw [zbC,Option.bind_some,if_pos (by lia)]
  have:Sx.dd pl=pl:=zkK pl [] (by rw [← hp];exact h.nd)
  rw [this]
 obtain⟨x',el⟩:=zkL h.sq h.hi (some (.al,.lst (zad pl))) pl none fun v hv=>by
  rw [← hp] at hv
  obtain⟨h1,h2⟩:=List.mem_filter.mp hv
  have h0:¬ v=0:=by simpa using h2
  exact (h.rg v h1).resolve_left h0
 simp [zbb,zcv,zaT,e1,jn,em,zeo z,ls,el]
theorem zii {n:Nat} {b:List (List Int)} (h:Op n b):zaJ [.lst (zab b)]=.ok (.sc .non):=by
 have hi:=h.hi
 have fl:b.flatten.length=n * n:=by rw [zaO n b h.sq.row,h.sq.len]
 have q:n * n≤16:=Nat.mul_le_mul hi hi
 have oo:=zmq (b:=b) (by lia)
 by_cases h4:n=4
 ·have hf:=h.few h4
  subst h4
  simp [zaJ,zbl,zaC,h.sq.len,oo,show ¬ (6:Int) < ((oc 0 b).length:Int) by lia]
 ·simp [zaJ,zbl,zaC,h.sq.len,show ¬ (n:Int)=4 by lia]
noncomputable def cells (n:Nat):List (Nat×Nat):=(List.range n).flatMap fun r=>(List.range n).map fun c=>(r,c)
theorem zdq {n:Nat} {p:Nat×Nat}:p∈cells n↔p.1 < n∧p.2 < n:=by
 unfold cells
 simp only [List.mem_flatMap,List.mem_map,List.mem_range]
 constructor
 ·rintro ⟨r,hr,c,hc,rfl⟩;exact⟨hr,hc⟩
 ·rintro ⟨h1,h2⟩;exact⟨p.1,h1,p.2,h2,rfl⟩
theorem zkM (n:Nat):(cells n).Nodup:=by
 unfold cells
 refine List.pairwise_flatMap.mpr ⟨fun r hr=>?_,?_⟩
 ·exact List.pairwise_map.mpr ((List.nodup_range (n:=n)).imp fun h q=>by cases q;exact h rfl)
 ·refine (List.nodup_range (n:=n)).imp ?_
  intro a b hab x h1 y h2 e
  simp only [List.mem_map] at h1 h2
  obtain⟨c,_,rfl⟩:=h1
  obtain⟨d,_,rfl⟩:=h2
  cases e
  exact hab rfl
theorem zo2 (r:Nat):∀ (q:List Int) (k:Nat),ocR r k q=((List.range q.length).filter fun c=>decide (at0 q c=0)).map fun c=>(r,k + c)
 | [],k=>by simp [ocR]
 | x :: q,k=>by
  unfold ocR
  rw [zo2 r q (k + 1),List.length_cons,List.range_succ_eq_map,List.filter_cons,List.filter_map]
  have e:((fun c=>decide (at0 (x :: q) c=0)) ∘ Nat.succ)=fun c=>decide (at0 q c=0):=by funext c;rfl
  rw [e]
  have e0:at0 (x :: q) 0=x:=rfl
  rw [e0]
  by_cases h:x=0
  ·rw [if_pos h,if_pos (by simpa using h),List.map_cons,List.map_map]
   congr 1
   refine List.map_congr_left fun c _=>?_
   show (r,k + 1 + c)=(r,k + (c + 1))
   rw [Nat.add_right_comm,Nat.add_assoc]
  ·rw [if_neg h,if_neg (by simpa using h),List.map_map]
   refine List.map_congr_left fun c _=>?_
   show (r,k + 1 + c)=(r,k + (c + 1))
   rw [Nat.add_right_comm,Nat.add_assoc]
theorem zo0 {n:Nat}:∀ (b:List (List Int)) (k:Nat),(∀ q∈b,q.length=n)→oc k b=(List.range b.length).flatMap fun r=>((List.range n).filter fun c=>decide (C2 b r c=0)).map fun c=>(k + r,c)
 | [],k,_=>by simp [oc]
 | q :: b,k,h=>by
  unfold oc
  rw [zo0 b (k + 1) fun q hq=>h q (by simp [hq]),zo2,h q (by simp),List.length_cons,List.range_succ_eq_map,List.flatMap_cons,List.flatMap_map]
  congr 1
  ·refine List.map_congr_left fun c _=>?_
   simp
  ·refine congrArg (fun f=>List.flatMap f (List.range b.length)) (funext fun r=>?_)
   have e:(fun c=>decide (C2 (q :: b) (Nat.succ r) c=0))=fun c=>decide (C2 b r c=0):=rfl
   rw [e]
   refine List.map_congr_left fun c _=>?_
   show (k + 1 + r,c)=(k + (r + 1),c)
   rw [Nat.add_right_comm,Nat.add_assoc]
theorem zgb {n:Nat} {b:List (List Int)} (h:Sq n b):oc 0 b=(cells n).filter fun p=>decide (C2 b p.1 p.2=0):=by
 rw [zo0 b 0 h.row,h.len]
 unfold cells
 rw [List.filter_flatMap]
 refine congrArg (fun f=>List.flatMap f (List.range n)) (funext fun r=>?_)
 rw [List.filter_map]
 show List.map _ _=List.map _ _
 have e:((fun p:Nat×Nat=>decide (C2 b p.1 p.2=0)) ∘ fun c=>(r,c))=fun c=>decide (C2 b r c=0):=rfl
 rw [e]
 refine List.map_congr_left fun c _=>?_
 rw [Nat.zero_add]
theorem zb0 {n:Nat} {b:List (List Int)} (h:Sq n b) {r c:Nat} (hr:r < n) (hc:c < n) (v:Int) (R C:Nat):C2 (put b r c v) R C=if R=r∧C=c then v else C2 b R C:=zrg h hr hc v R C
theorem zkd {n:Nat} {b:List (List Int)} (h:Sq n b) {r c:Nat} {v:Int} {rest:List (Nat×Nat)} (e:oc 0 b=(r,c) :: rest) (hv:v≠0):r < n∧c < n∧oc 0 (put b r c v)=rest:=by
 have hm:(r,c)∈cells n:=by
  have:(r,c)∈oc 0 b:=by rw [e];simp
  rw [zgb h] at this
  exact (List.mem_filter.mp this).1
 obtain⟨hr,hc⟩:=zdq.mp hm
 refine ⟨hr,hc,?_⟩
 have nd:(oc 0 b).Nodup:=by rw [zgb h];exact (zkM n).filter _
 rw [zgb (zeX h hr v)]
 have e1:(cells n).filter (fun p=>decide (C2 (put b r c v) p.1 p.2=0))=(oc 0 b).filter fun p=>decide (p≠(r,c)):=by
  rw [zgb h,List.filter_filter]
  refine List.filter_congr fun p hp=>?_
  rw [zb0 h hr hc]
  by_cases hq:p.1=r∧p.2=c
  ·rw [if_pos hq]
   have:p=(r,c):=Prod.ext hq.1 hq.2
   simp [hv,this]
  ·rw [if_neg hq]
   have:¬ p=(r,c):=fun q=>hq ⟨by rw [q],by rw [q]⟩
   simp [this]
 rw [e1,e]
 rw [e] at nd
 rw [List.filter_cons,if_neg (by simp)]
 refine List.filter_eq_self.mpr fun p hp=>?_
 have:p≠(r,c):=fun q=>(List.nodup_cons.mp nd).1 (q ▸ hp)
 simpa using this
structure Pt (n:Nat) (p:List (List Int)):Prop where
 sq:Sq n p
 rg:∀ R C,R < n→C < n→C2 p R C=0∨(1≤C2 p R C∧C2 p R C≤(n:Int) * n)
 inj:∀ R C R' C',R < n→C < n→R' < n→C' < n→C2 p R C=C2 p R' C'→C2 p R C≠0→R=R'∧C=C'
theorem zdF {n:Nat} {b:List (List Int)} (h:Sq n b) {i:Nat} (hi:i < b.flatten.length):b.flatten[i]=C2 b (i / n) (i % n):=by
 have fl:b.flatten.length=n * n:=by rw [zaO n b h.row,h.len]
 have hn:0 < n:=Nat.pos_of_ne_zero fun q=>by subst q;lia
 have e:=zna (0:Int) n b (i / n) (i % n) h.row (Nat.mod_lt _ hn)
 rw [zeO] at e
 rw [List.getD_eq_getElem?_getD,List.getElem?_eq_getElem hi] at e
 exact e
theorem zcU {n:Nat} {b:List (List Int)} (h:Sq n b) {v:Int}:v∈b.flatten↔∃ R C,R < n∧C < n∧C2 b R C=v:=by
 have fl:b.flatten.length=n * n:=by rw [zaO n b h.row,h.len]
 constructor
 ·intro hv
  obtain⟨i,hi,e⟩:=List.getElem_of_mem hv
  rw [zdF h hi] at e
  have hi':i < n * n:=by lia
  have hn:0 < n:=Nat.pos_of_ne_zero fun q=>by subst q;lia
  exact⟨i / n,i % n,zji hi',Nat.mod_lt _ hn,e⟩
 ·rintro ⟨R,C,hR,hC,e⟩
  have hi:R * n + C < b.flatten.length:=by rw [fl];exact cell_lt hR hC
  have:=zdF h hi
  rw [zgC hC,zgq hC,e] at this
  rw [← this]
  exact List.getElem_mem hi
theorem Pt.nd {n:Nat} {p:List (List Int)} (h:Pt n p):(p.flatten.filter fun v=>!decide (v=0)).Nodup:=by
 have fl:p.flatten.length=n * n:=by rw [zaO n p h.sq.row,h.sq.len]
 refine List.pairwise_filter.mpr (List.pairwise_iff_getElem.mpr fun i j hi hj hij h1 h2 e=>?_)
 rw [zdF h.sq hi] at e h1
 rw [zdF h.sq hj] at e
 have hn:0 < n:=Nat.pos_of_ne_zero fun q=>by subst q;lia
 have hi':i < n * n:=by lia
 have hj':j < n * n:=by lia
 obtain⟨e1,e2⟩:=h.inj _ _ _ _ (zji hi') (Nat.mod_lt _ hn) (zji hj') (Nat.mod_lt _ hn) e (by simpa using h1)
 have:=zeO n i
 have:=zeO n j
 rw [e1,e2] at *
 lia
theorem Pt.op {n:Nat} {p:List (List Int)} (h:Pt n p) (h1:1≤n) (h4:n≤4) (few:n=4→(oc 0 p).length≤6):Op n p:=
 ⟨h.sq,h1,h4,fun v hv=>by
  obtain⟨R,C,hR,hC,rfl⟩:=(zcU h.sq).mp hv
  exact h.rg R C hR hC,h.nd,few⟩
theorem ziZ (r:Nat):∀ (q:List Int) (k:Nat),(ocR r k q).length=(q.filter fun v=>decide (v=0)).length
 | [],k=>rfl
 | x :: q,k=>by
  unfold ocR
  rw [List.filter_cons]
  by_cases h:x=0
  ·rw [if_pos h,if_pos (by simpa using h),List.length_cons,List.length_cons,ziZ r q (k + 1)]
  ·rw [if_neg h,if_neg (by simpa using h),ziZ r q (k + 1)]
theorem zo1:∀ (b:List (List Int)) (k:Nat),(oc k b).length=(b.flatten.filter fun v=>decide (v=0)).length
 | [],k=>rfl
 | q :: b,k=>by
  unfold oc
  rw [List.flatten_cons,List.filter_append,List.length_append,List.length_append,ziZ,zo1 b (k + 1)]
theorem zeM {α:Type} (f:α→Bool):∀ l:List α,(l.filter f).length + (l.filter fun x=>!f x).length=l.length
 | []=>rfl
 | x :: l=>by
  have:=zeM f l
  rw [List.filter_cons,List.filter_cons]
  cases f x <;> simp <;> lia
theorem zl9 (lo:Int) (n:Nat):(rngZ lo n).Nodup:=by
 unfold rngZ
 exact List.pairwise_map.mpr ((List.nodup_range (n:=n)).imp fun h e=>h (by lia))
theorem zeE {n:Nat} {v:Int}:v∈rngZ 1 n↔1≤v∧v≤n:=by
 unfold rngZ
 simp only [List.mem_map,List.mem_range]
 constructor
 ·rintro ⟨k,hk,rfl⟩;lia
 ·rintro ⟨h1,h2⟩;exact⟨(v - 1).toNat,by lia,by lia⟩
theorem zn4 {n:Nat} {p:List (List Int)} (h:Pt n p):(miss n p).length≤(oc 0 p).length:=by
 have fl:p.flatten.length=n * n:=by rw [zaO n p h.sq.row,h.sq.len]
 rw [zo1]
 have h1:=zeM (fun v:Int=>decide (v=0)) p.flatten
 have h2:=zeM (fun v=>p.flatten.contains v) (rngZ 1 (n * n))
 rw [zbV] at h2
 have h3:(p.flatten.filter fun v=>!decide (v=0)).length≤((rngZ 1 (n * n)).filter fun v=>p.flatten.contains v).length:=by
  refine h.nd.length_le_of_subset fun v hv=>?_
  obtain⟨hv1,hv2⟩:=List.mem_filter.mp hv
  refine List.mem_filter.mpr ⟨?_,by simpa using hv1⟩
  obtain⟨R,C,hR,hC,rfl⟩:=(zcU h.sq).mp hv1
  have:=(h.rg R C hR hC).resolve_left (by simpa using hv2)
  exact zeE.mpr ⟨this.1,by have:=this.2;push_cast;exact this⟩
 unfold miss
 lia
theorem Pt.put {n:Nat} {p:List (List Int)} (h:Pt n p) {r c:Nat} (hr:r < n) (hc:c < n) {v:Int} (hv:v∈miss n p):Pt n (put p r c v)∧v≠0:=by
 obtain⟨h1,h2⟩:=List.mem_filter.mp hv
 obtain⟨v1,v2⟩:=zeE.mp h1
 have v2':v≤(n:Int) * n:=by push_cast at v2;exact v2
 have nv:∀ R C,R < n→C < n→C2 p R C≠v:=fun R C hR hC e=>by
  have:v∈p.flatten:=(zcU h.sq).mpr ⟨R,C,hR,hC,e⟩
  rw [List.contains_iff_mem.mpr this] at h2
  cases h2
 refine ⟨⟨zeX h.sq hr v,fun R C hR hC=>?_,fun R C R' C' hR hC hR' hC' e ne=>?_⟩,by lia⟩
 ·rw [zb0 h.sq hr hc]
  split
  ·exact .inr ⟨v1,v2'⟩
  ·exact h.rg R C hR hC
 ·rw [zb0 h.sq hr hc] at e ne
  rw [zb0 h.sq hr hc] at e
  by_cases q1:R=r∧C=c <;> by_cases q2:R'=r∧C'=c
  ·exact⟨q1.1.trans q2.1.symm,q1.2.trans q2.2.symm⟩
  ·rw [if_pos q1,if_neg q2] at e;exact absurd e.symm (nv R' C' hR' hC')
  ·rw [if_neg q1,if_pos q2] at e;exact absurd e (nv R C hR hC)
  ·rw [if_neg q1] at ne
   rw [if_neg q1,if_neg q2] at e
   exact h.inj R C R' C' hR hC hR' hC' e ne
noncomputable def zcm (n:Nat) (found:List (List (List Int))) (p:Nat×Nat):List (List (List Int)):=found.flatMap fun b=>zcn n b p.1 p.2
noncomputable def filP (n:Nat) (b:List (List Int)):List (List (List Int)):=(oc 0 b).foldl (zcm n) [b]
theorem zcY {n:Nat} {p q:List (List Int)} (h:Pt n p) {r c:Nat} {rest:List (Nat×Nat)} (e:oc 0 p=(r,c) :: rest) (hq:q∈zcn n p r c):Pt n q∧oc 0 q=rest∧may n q=true∧∃ v,v≠0∧q=put p r c v:=by
 unfold zcn at hq
 obtain⟨h1,h2⟩:=List.mem_filter.mp hq
 obtain⟨v,hv,rfl⟩:=List.mem_map.mp h1
 have hrc:=zkd h.sq e (show (1:Int)≠0 by decide)
 obtain⟨hp,h0⟩:=h.put hrc.1 hrc.2.1 hv
 exact⟨hp,(zkd h.sq e h0).2.2,h2,v,h0,rfl⟩
theorem zkv {n:Nat} {p:List (List Int)} (h:Pt n p) (r c:Nat):(zcn n p r c).length≤(oc 0 p).length:=by
 unfold zcn
 refine Nat.le_trans (List.length_filter_le _ _) ?_
 rw [List.length_map]
 exact zn4 h
theorem zhe {α β:Type} (f:α→List β) (m:Nat):∀ l:List α,(∀ x∈l,(f x).length≤m)→(l.flatMap f).length≤l.length * m
 | [],_=>by simp
 | x :: l,h=>by
  have h1:=h x (by simp)
  have h2:=zhe f m l fun y hy=>h y (by simp [hy])
  rw [List.flatMap_cons,List.length_append,List.length_cons,Nat.succ_mul]
  lia
noncomputable def fact:Nat→Nat
 | 0=>1
 | k + 1=>(k + 1) * fact k
theorem zkx:∀ k,1≤fact k
 | 0=>Nat.le_refl 1
 | k + 1=>by
  unfold fact
  exact Nat.mul_pos (Nat.succ_pos k) (zkx k)
theorem zis:∀ bss:List (List (List (List Int))),zge (bss.map fun bs=>.lst (bdsT bs))=some (bss.map bdsT)
 | []=>rfl
 | bs :: bss=>by
  rw [List.map_cons]
  unfold zge
  rw [zis bss]
  rfl
theorem zkP:∀ bss:List (List (List (List Int))),(bss.map bdsT).flatten=bdsT bss.flatten
 | []=>rfl
 | bs :: bss=>by
  rw [List.map_cons,List.flatten_cons,zkP bss,List.flatten_cons]
  unfold bdsT
  rw [List.map_append]
theorem zkw {n:Nat} (h1:1≤n) (hn:n≤12) (t0:Option (Md×T)):∀ (cs:List (Nat×Nat)) (found:List (List (List Int))) (x:Option (Md×T)),(∀ p∈found,Pt n p∧oc 0 p=cs)→found.length * fact cs.length≤1000000 →
  ∃ x' m',forL (gS 2) zbD (cs.map zct) [t0,some (.fu,.lst (bdsT found)),x]=.nx [t0,some (.fu,.lst (bdsT (cs.foldl (zcm n) found))),x']∧m'=x'
 | [],found,x,_,_=>⟨x,x,by simp,rfl⟩
 | (r,c) :: cs,found,x,hp,hl=>by
  have hs:∀ p∈zcm n found (r,c),Pt n p∧oc 0 p=cs:=fun q hq=>by
   obtain⟨p,hp1,hp2⟩:=List.mem_flatMap.mp hq
   obtain⟨hp3,hp4⟩:=hp p hp1
   have:=zcY hp3 hp4 hp2
   exact⟨this.1,this.2.1⟩
  have hlen:(zcm n found (r,c)).length≤found.length * (cs.length + 1):=zhe _ _ found fun p hp1=>by
   have:=zkv (hp p hp1).1 r c
   rw [(hp p hp1).2,List.length_cons] at this
   exact this
  have fp:=zkx cs.length
  rw [List.length_cons] at hl
  unfold fact at hl
  have hl2:(zcm n found (r,c)).length * fact cs.length≤1000000:=by
   refine Nat.le_trans (Nat.mul_le_mul_right _ hlen) ?_
   rw [Nat.mul_assoc]
   exact hl
  have hf:found.length≤1000000:=by
   refine Nat.le_trans (Nat.le_mul_of_pos_right _ ?_) hl
   exact Nat.mul_pos (Nat.succ_pos _) fp
  have hf2:(zcm n found (r,c)).length≤1000000:=Nat.le_trans (Nat.le_mul_of_pos_right _ fp) hl2
  obtain⟨x',m',e,em⟩:=zkw h1 hn t0 cs (zcm n found (r,c)) (some (.al,zct (r,c))) hs hl2
  refine ⟨x',m',?_,em⟩
  rw [List.map_cons,zaN]
  have e1:mapL (gE 0) zdx [none,some (zct (r,c))] (bdsT found)=.ok ((found.map fun b=>zcn n b r c).map fun bs=>.lst (bdsT bs)):=by
   refine zem (f:=fun b=>zcn n b r c) (fun b=>.lst (zab b)) (fun bs=>.lst (bdsT bs)) found fun p hp1=>⟨[some (.lst (zab p)),some (zct (r,c))],rfl,?_⟩
   have hpt:=(hp p hp1).1
   have hrc:=zkd hpt.sq (hp p hp1).2 (show (1:Int)≠0 by decide)
   have fo:=znb hpt.sq h1 hn (hpt.sq.sml hn) hrc.1 hrc.2.1
   have fo':zcj [.lst (zab p),zct (r,c)]=.ok (.lst (bdsT (zcn n p r c))):=fo
   simp [zdx,fo']
  have lk:zdG ((found.map fun b=>zcn n b r c).map fun bs=>T.lst (bdsT bs))=some (.lst ((found.map fun b=>zcn n b r c).map fun bs=>T.lst (bdsT bs))):=if_pos (by rw [List.length_map,List.length_map];exact Nat.le_trans hf (by decide))
  have cj:cJn (.lst ((found.map fun b=>zcn n b r c).map fun bs=>T.lst (bdsT bs)))=some (.lst (bdsT (zcm n found (r,c)))):=by
   show (zge _).bind _=_
   rw [zis,Option.bind_some,zkP]
   have ef:(found.map fun b=>zcn n b r c).flatten=zcm n found (r,c):=rfl
   rw [ef,if_pos]
   refine ⟨?_,?_⟩
   ·unfold bdsT;rw [List.length_map];exact hf2
   ·rw [List.length_map,List.length_map];exact hf
  have el:zbD [t0,some (.fu,.lst (bdsT found)),some (.al,zct (r,c))]=.nx [t0,some (.fu,.lst (bdsT (zcm n found (r,c)))),some (.al,zct (r,c))]:=by
   unfold zbD
   simp [e1,lk,cj,-List.map_map]
  show SRes.then (zbD [t0,some (.fu,.lst (bdsT found)),some (.al,zct (r,c))]) _=_
  rw [el]
  show forL _ _ _ _=_
  rw [e]
  rfl
theorem zg0 {β:Type} (n:Nat) (f:Nat→β):((rngZ 0 n).map fun k=>f k.toNat)=(List.range n).map f:=by
 unfold rngZ
 rw [List.map_map]
 refine List.map_congr_left fun k _=>?_
 show f ((0:Int) + (k:Int)).toNat=f k
 rw [Int.zero_add,Int.toNat_natCast]
theorem zl6 {n:Nat} {r:List Int} (h:r.length=n):r=(List.range n).map fun C=>at0 r C:=by
 refine List.ext_getElem (by simp [h]) fun i h1 h2=>?_
 simp [at0,List.getD,h1]
theorem zoN {n:Nat} {b:List (List Int)} (h:Sq n b):b=(List.range n).map fun R=>zax b R:=by
 refine List.ext_getElem (by simp [h.len]) fun i h1 h2=>?_
 simp [zax,List.getD,h1]
theorem zh4 {n:Nat} {b:List (List Int)} (h:Sq n b):lns n b=((List.range n).map fun R=>(List.range n).map fun C=>C2 b R C) ++ ((List.range n).map fun C=>(List.range n).map fun R=>C2 b R C) ++ [(List.range n).map fun k=>C2 b k k,(List.range n).map fun k=>C2 b k (n - 1 - k)]:=by
 unfold lns
 rw [zg0 n fun k=>b.map fun r=>at0 r k,zg0 n fun k=>C2 b k k,zg0 n fun k=>C2 b k (n - 1 - k)]
 congr 2
 ·conv=>lhs;rw [zoN h]
  refine List.map_congr_left fun R hR=>?_
  exact zl6 (h.get (List.mem_range.mp hR))
 ·refine List.map_congr_left fun C _=>?_
  conv=>lhs;rw [zoN h]
  rw [List.map_map]
  rfl
structure LB (n:Nat) (q:List (List Int)):Prop where
 pt:Pt n q
 full:∀ R C,R < n→C < n→C2 q R C≠0
 sm:∀ l∈lns n q,l.sum=zev n
theorem zke {n:Nat} {q:List (List Int)} (h:Sq n q):oc 0 q=[]↔∀ R C,R < n→C < n→C2 q R C≠0:=by
 rw [zgb h,List.filter_eq_nil_iff]
 constructor
 ·intro e R C hR hC
  have:=e (R,C) (zdq.mpr ⟨hR,hC⟩)
  simpa using this
 ·intro e p hp
  have:=zdq.mp hp
  simpa using e p.1 p.2 this.1 this.2
theorem zrD {n:Nat} {q:List (List Int)} (h:Pt n q) (e:oc 0 q=[]) (hm:may n q=true):LB n q:=by
 have hf:=(zke h.sq).mp e
 refine ⟨h,hf,fun l hl=>?_⟩
 unfold may at hm
 have:=List.all_eq_true.mp hm l hl
 rcases Bool.or_eq_true_iff.mp this with q1 | q1
 ·exfalso
  have h0:(0:Int)∈l:=by simpa using q1
  rw [zh4 h.sq] at hl
  simp only [List.mem_append,List.mem_map,List.mem_range,List.mem_cons,List.not_mem_nil,or_false] at hl
  rcases hl with (⟨R,hR,rfl⟩ | ⟨C,hC,rfl⟩) | rfl | rfl
  ·obtain⟨C,hC,e⟩:=List.mem_map.mp h0
   exact hf R C hR (List.mem_range.mp hC) e
  ·obtain⟨R,hR,e⟩:=List.mem_map.mp h0
   exact hf R C (List.mem_range.mp hR) hC e
  ·obtain⟨k,hk,e⟩:=List.mem_map.mp h0
   exact hf k k (List.mem_range.mp hk) (List.mem_range.mp hk) e
  ·obtain⟨k,hk,e⟩:=List.mem_map.mp h0
   have:=List.mem_range.mp hk
   exact hf k (n - 1 - k) this (by lia) e
 ·simpa using q1
theorem LB.sur {n:Nat} {q:List (List Int)} (h:LB n q) (v:Int) (h1:1≤v) (h2:v < 1 + ((n * n:Nat):Int)):∃ R C,R < n∧C < n∧C2 q R C=v:=by
 refine (zcU h.pt.sq).mp ?_
 have fl:q.flatten.length=n * n:=by rw [zaO n q h.pt.sq.row,h.pt.sq.len]
 have nd:=h.pt.nd
 have e:(q.flatten.filter fun v=>!decide (v=0))=q.flatten:=List.filter_eq_self.mpr fun w hw=>by
  obtain⟨R,C,hR,hC,rfl⟩:=(zcU h.pt.sq).mp hw
  simpa using h.full R C hR hC
 rw [e] at nd
 refine Classical.byContradiction fun hv=>?_
 have:=(List.nodup_cons.mpr ⟨hv,nd⟩).length_le_of_subset (l₂:=rngZ 1 (n * n)) fun w hw=>by
  rcases List.mem_cons.mp hw with rfl | hw
  ·exact zeE.mpr ⟨h1,by lia⟩
  ·obtain⟨R,C,hR,hC,rfl⟩:=(zcU h.pt.sq).mp hw
   have:=(h.pt.rg R C hR hC).resolve_left (h.full R C hR hC)
   exact zeE.mpr ⟨this.1,by have:=this.2;push_cast;exact this⟩
 rw [List.length_cons,zbV,fl] at this
 lia
theorem LB.lk {n:Nat} {q:List (List Int)} (h:LB n q):Lk n (zev n) q:=by
 have key:∀ f:Nat→Int,(List.range n).map f∈lns n q→sumN n f=zev n:=fun f hf=>by
  unfold sumN
  rw [← zfb]
  exact h.sm _ hf
 rw [zh4 h.pt.sq] at key
 refine ⟨h.pt.sq,h.sur,fun R hR=>key _ ?_,fun C hC=>key _ ?_,key _ ?_,key _ ?_⟩
 ·simp only [List.mem_append,List.mem_map,List.mem_range]
  exact .inl (.inl ⟨R,hR,rfl⟩)
 ·simp only [List.mem_append,List.mem_map,List.mem_range]
  exact .inl (.inr ⟨C,hC,rfl⟩)
 ·simp
 ·simp
theorem zhH:∀ b:List (List Int),sumL b.flatten=sumL (b.map sumL)
 | []=>rfl
 | r :: b=>by rw [List.flatten_cons,zgR,List.map_cons,sumL,zhH b]
theorem zgj {s:Int}:∀ l:List Int,(∀ x∈l,x=s)→sumL l=l.length * s
 | [],_=>by simp [sumL]
 | x :: l,h=>by
  rw [sumL,zgj l fun y hy=>h y (by simp [hy]),h x (by simp),List.length_cons]
  push_cast
  rw [Int.add_mul,Int.one_mul,Int.add_comm]
theorem zps {a b:List Int} (p:a.Perm b):sumL a=sumL b:=by
 induction p with
 | nil=>rfl
 | cons x _ ih=>rw [sumL,sumL,ih]
 | swap x y l=>simp only [sumL];lia
 | trans _ _ h1 h2=>rw [h1,h2]
theorem zmO {n:Nat} {s:Int} {b:List (List Int)} (h:Lk n s b) (h1:1≤n) (h2:n≤12):b.flatten.Perm (rngZ 1 (n * n)):=by
 have:=(zrG h h1 h2).2.2.2
 rw [h.sq.len] at this
 rw [← this]
 exact (zcA _).symm
theorem zn8 {n:Nat} {s:Int} {b:List (List Int)} (h:Lk n s b) (hn:n=1∨n=3∨n=4):s=zev n:=by
 have hp:=zmO h (by lia) (by lia)
 have e1:=zps hp
 have e2:sumL (b.map sumL)=(n:Int) * s:=by
  have:=zgj (s:=s) (b.map sumL) fun x hx=>by
   obtain⟨r,hr,rfl⟩:=List.mem_map.mp hx
   obtain⟨R,hR,rfl⟩:=List.getElem_of_mem hr
   have hR':R < n:=by rw [← h.sq.len];exact hR
   have:=h.row R hR'
   unfold sumN at this
   rw [← this]
   have er:b[R]=zax b R:=by simp [zax,List.getD,hR]
   rw [er]
   exact congrArg sumL (zl6 (h.sq.get hR'))
  rw [List.length_map,h.sq.len] at this
  exact this
 rw [zhH,e2] at e1
 rcases hn with rfl | rfl | rfl
 ·have:sumL (rngZ 1 (1 * 1))=1:=by decide
  have a:zev 1=1:=by decide
  lia
 ·have:sumL (rngZ 1 (3 * 3))=45:=by decide
  have a:zev 3=15:=by decide
  lia
 ·have:sumL (rngZ 1 (4 * 4))=136:=by decide
  have a:zev 4=34:=by decide
  lia
theorem zti {n:Nat} {s:Int} {b:List (List Int)} (h:Lk n s b) (hn:n=1∨n=3∨n=4):LB n b:=by
 have hp:=zmO h (by lia) (by lia)
 have hs:=zn8 h hn
 subst hs
 have nd:b.flatten.Nodup:=hp.nodup_iff.mpr (zl9 1 (n * n))
 have fl:b.flatten.length=n * n:=by rw [zaO n b h.sq.row,h.sq.len]
 have rg:∀ R C,R < n→C < n→1≤C2 b R C∧C2 b R C≤(n:Int) * n:=fun R C hR hC=>by
  have:=zeE.mp (hp.mem_iff.mp (h.sq.mem hR hC))
  exact⟨this.1,by have:=this.2;push_cast at this;exact this⟩
 refine ⟨⟨h.sq,fun R C hR hC=>.inr (rg R C hR hC),fun R C R' C' hR hC hR' hC' e _=>?_⟩,fun R C hR hC e=>?_,fun l hl=>?_⟩
 ·have i1:R * n + C < b.flatten.length:=by rw [fl];exact cell_lt hR hC
  have i2:R' * n + C' < b.flatten.length:=by rw [fl];exact cell_lt hR' hC'
  have g1:=zdF h.sq i1
  have g2:=zdF h.sq i2
  rw [zgC hC,zgq hC] at g1
  rw [zgC hC',zgq hC'] at g2
  have eq:R * n + C=R' * n + C':=by
   rcases Nat.lt_trichotomy (R * n + C) (R' * n + C') with q | q | q
   ·exact absurd (g1.trans (e.trans g2.symm)) (List.pairwise_iff_getElem.mp nd _ _ i1 i2 q)
   ·exact q
   ·exact absurd (g2.trans (e.symm.trans g1.symm)) (List.pairwise_iff_getElem.mp nd _ _ i2 i1 q)
  have d1:=congrArg (· / n) eq
  have d2:=congrArg (· % n) eq
  simp only [zgC hC,zgC hC',zgq hC,zgq hC'] at d1 d2
  exact⟨d1,d2⟩
 ·have:=(rg R C hR hC).1
  lia
 ·rw [zh4 h.sq] at hl
  simp only [List.mem_append,List.mem_map,List.mem_range,List.mem_cons,List.not_mem_nil,or_false] at hl
  rw [zfb]
  rcases hl with (⟨R,hR,rfl⟩ | ⟨C,hC,rfl⟩) | rfl | rfl
  ·exact h.row R hR
  ·exact h.col C hC
  ·exact h.d1
  ·exact h.d2
def Ext (n:Nat) (p q:List (List Int)):Prop:=∀ R C,R < n→C < n→C2 p R C≠0→C2 q R C=C2 p R C
theorem zhf {n:Nat}:∀ (cs:List (Nat×Nat)) (found:List (List (List Int))),(∀ p∈found,Pt n p∧oc 0 p=cs)→∀ q∈cs.foldl (zcm n) found,Pt n q∧oc 0 q=[]∧(cs≠[]→may n q=true)∧∃ p∈found,Ext n p q
 | [],found,hp,q,hq=>⟨(hp q hq).1,(hp q hq).2,fun h=>absurd rfl h,q,hq,fun _ _ _ _ _=>rfl⟩
 | (r,c) :: cs,found,hp,q,hq=>by
  have hs:∀ p∈zcm n found (r,c),Pt n p∧oc 0 p=cs:=fun q hq=>by
   obtain⟨p,hp1,hp2⟩:=List.mem_flatMap.mp hq
   have:=zcY (hp p hp1).1 (hp p hp1).2 hp2
   exact⟨this.1,this.2.1⟩
  obtain⟨h1,h2,h3,p1,hp1,h4⟩:=zhf cs (zcm n found (r,c)) hs q hq
  obtain⟨p,hp2,hp3⟩:=List.mem_flatMap.mp hp1
  obtain⟨f1,f2,f3,v,hv,rfl⟩:=zcY (hp p hp2).1 (hp p hp2).2 hp3
  have hrc:=zkd (hp p hp2).1.sq (hp p hp2).2 (show (1:Int)≠0 by decide)
  have h0:C2 p r c=0:=by
   have:(r,c)∈oc 0 p:=by rw [(hp p hp2).2];simp
   rw [zgb (hp p hp2).1.sq] at this
   simpa using (List.mem_filter.mp this).2
  refine ⟨h1,h2,fun _=>?_,p,hp2,fun R C hR hC ne=>?_⟩
  ·by_cases hc:cs=[]
   ·subst hc
    obtain⟨p2,g1,g2⟩:=List.mem_flatMap.mp (show q∈zcm n found (r,c) from hq)
    exact (zcY (hp p2 g1).1 (hp p2 g1).2 g2).2.2.1
   ·exact h3 hc
  ·have ep:=zb0 (hp p hp2).1.sq hrc.1 hrc.2.1 v R C
   have nrc:¬ (R=r∧C=c):=fun w=>ne (by rw [w.1,w.2];exact h0)
   rw [if_neg nrc] at ep
   rw [← ep]
   exact h4 R C hR hC (by rw [ep];exact ne)
theorem zn1 {n:Nat} {p:List (List Int)} (h:Sq n p) {r c:Nat} {rest:List (Nat×Nat)} (e:oc 0 p=(r,c) :: rest):r < n∧c < n∧C2 p r c=0:=by
 have:(r,c)∈oc 0 p:=by rw [e];simp
 rw [zgb h] at this
 obtain⟨h1,h2⟩:=List.mem_filter.mp this
 exact⟨(zdq.mp h1).1,(zdq.mp h1).2,by simpa using h2⟩
theorem zp1 {n:Nat} {q B:List (List Int)} (hq:Sq n q) (hB:LB n B) (ag:Ext n q B):may n q=true:=by
 unfold may
 refine List.all_eq_true.mpr fun l hl=>?_
 by_cases h0:(0:Int)∈l
 ·simp [h0]
 have key:∀ (f g:Nat→Nat),(∀ k,k < n→f k < n∧g k < n)→l=(List.range n).map (fun k=>C2 q (f k) (g k))→l=(List.range n).map fun k=>C2 B (f k) (g k):=fun f g hfg e=>by
  rw [e]
  refine List.map_congr_left fun k hk=>?_
  obtain⟨a1,a2⟩:=hfg k (List.mem_range.mp hk)
  refine (ag _ _ a1 a2 fun w=>h0 ?_).symm
  rw [e,← w]
  exact List.mem_map.mpr ⟨k,hk,rfl⟩
 have hs:=hB.sm
 rw [zh4 hB.pt.sq] at hs
 have hl':=hl
 rw [zh4 hq] at hl'
 simp only [List.mem_append,List.mem_map,List.mem_range,List.mem_cons,List.not_mem_nil,or_false] at hl'
 have:l.sum=zev n:=by
  rcases hl' with (⟨R,hR,e⟩ | ⟨C,hC,e⟩) | e | e
  ·rw [key (fun _=>R) (fun k=>k) (fun k hk=>⟨hR,hk⟩) e.symm]
   exact hs _ (by simp only [List.mem_append,List.mem_map,List.mem_range];exact .inl (.inl ⟨R,hR,rfl⟩))
  ·rw [key (fun k=>k) (fun _=>C) (fun k hk=>⟨hk,hC⟩) e.symm]
   exact hs _ (by simp only [List.mem_append,List.mem_map,List.mem_range];exact .inl (.inr ⟨C,hC,rfl⟩))
  ·rw [key (fun k=>k) (fun k=>k) (fun k hk=>⟨hk,hk⟩) e]
   exact hs _ (by simp)
  ·rw [key (fun k=>k) (fun k=>n - 1 - k) (fun k hk=>⟨hk,by lia⟩) e]
   exact hs _ (by simp)
 simp [this]
theorem zqj {n:Nat} {p B:List (List Int)} (h:Pt n p) {r c:Nat} {rest:List (Nat×Nat)} (e:oc 0 p=(r,c) :: rest) (hB:LB n B) (ag:Ext n p B):put p r c (C2 B r c)∈zcn n p r c∧Ext n (put p r c (C2 B r c)) B:=by
 obtain⟨hr,hc,h0⟩:=zn1 h.sq e
 have hv:=(hB.pt.rg r c hr hc).resolve_left (hB.full r c hr hc)
 have ag2:Ext n (put p r c (C2 B r c)) B:=fun R C hR hC ne=>by
  rw [zb0 h.sq hr hc] at ne ⊢
  by_cases w:R=r∧C=c
  ·rw [if_pos w,w.1,w.2]
  ·rw [if_neg w] at ne ⊢
   exact ag R C hR hC ne
 refine ⟨List.mem_filter.mpr ⟨List.mem_map.mpr ⟨_,List.mem_filter.mpr ⟨zeE.mpr ⟨hv.1,by have:=hv.2;push_cast;exact this⟩,?_⟩,rfl⟩,zp1 (zeX h.sq hr _) hB ag2⟩,ag2⟩
 cases hcon:p.flatten.contains (C2 B r c) with
 | false=>rfl
 | true =>
  obtain⟨R,C,hR,hC,e2⟩:=(zcU h.sq).mp (List.contains_iff_mem.mp hcon)
  have ne:C2 p R C≠0:=by rw [e2];exact hB.full r c hr hc
  have e3:=ag R C hR hC ne
  rw [e2] at e3
  obtain⟨rfl,rfl⟩:=hB.pt.inj R C r c hR hC hr hc e3 (hB.full R C hR hC)
  exact absurd h0 ne
theorem zne {n:Nat} {B:List (List Int)} (hB:LB n B):∀ (cs:List (Nat×Nat)) (found:List (List (List Int))) (p:List (List Int)),(∀ p∈found,Pt n p∧oc 0 p=cs)→p∈found→Ext n p B→B∈cs.foldl (zcm n) found
 | [],found,p,hp,hm,ag=>by
  have hf:=(zke (hp p hm).1.sq).mp (hp p hm).2
  have:p=B:=zlP (hp p hm).1.sq hB.pt.sq fun R C hR hC=>(ag R C hR hC (hf R C hR hC)).symm
  rw [← this]
  exact hm
 | (r,c) :: cs,found,p,hp,hm,ag=>by
  have hs:∀ p∈zcm n found (r,c),Pt n p∧oc 0 p=cs:=fun q hq=>by
   obtain⟨p,hp1,hp2⟩:=List.mem_flatMap.mp hq
   have:=zcY (hp p hp1).1 (hp p hp1).2 hp2
   exact⟨this.1,this.2.1⟩
  obtain⟨h1,h2⟩:=zqj (hp p hm).1 (hp p hm).2 hB ag
  exact zne hB cs (zcm n found (r,c)) _ hs (List.mem_flatMap.mpr ⟨p,hm,h1⟩) h2
theorem zpd {n:Nat}:∀ (cs:List (Nat×Nat)) (found:List (List (List Int))),(∀ p∈found,Pt n p∧oc 0 p=cs)→found.Nodup→(cs.foldl (zcm n) found).Nodup
 | [],found,hp,nd=>nd
 | (r,c) :: cs,found,hp,nd=>by
  have hs:∀ p∈zcm n found (r,c),Pt n p∧oc 0 p=cs:=fun q hq=>by
   obtain⟨p,hp1,hp2⟩:=List.mem_flatMap.mp hq
   have:=zcY (hp p hp1).1 (hp p hp1).2 hp2
   exact⟨this.1,this.2.1⟩
  refine zpd cs (zcm n found (r,c)) hs (List.pairwise_flatMap.mpr ⟨fun p hp1=>?_,?_⟩)
  ·obtain⟨hr,hc,h0⟩:=zn1 (hp p hp1).1.sq (hp p hp1).2
   unfold zcn
   refine List.Pairwise.filter _ (List.pairwise_map.mpr (((zl9 1 (n * n)).filter _).imp fun {v w} hvw e=>hvw ?_))
   have e1:=zb0 (hp p hp1).1.sq hr hc v r c
   have e2:=zb0 (hp p hp1).1.sq hr hc w r c
   rw [if_pos ⟨rfl,rfl⟩] at e1 e2
   rw [← e1,e,e2]
  ·refine (List.Pairwise.and_mem.mp nd).imp fun {p p'} hpp x hx y hy e=>?_
   obtain⟨m1,m2,ne⟩:=hpp
   obtain⟨hr,hc,h0⟩:=zn1 (hp p m1).1.sq (hp p m1).2
   obtain⟨_,_,h0'⟩:=zn1 (hp p' m2).1.sq (hp p' m2).2
   obtain⟨_,_,_,v,hv,rfl⟩:=zcY (hp p m1).1 (hp p m1).2 hx
   obtain⟨_,_,_,w,hw,rfl⟩:=zcY (hp p' m2).1 (hp p' m2).2 hy
   refine ne (zlP (hp p m1).1.sq (hp p' m2).1.sq fun R C hR hC=>?_)
   show C2 p R C=C2 p' R C
   by_cases q:R=r∧C=c
   ·rw [q.1,q.2,h0,h0']
   ·have e1:=zb0 (hp p m1).1.sq hr hc v R C
    have e2:=zb0 (hp p' m2).1.sq hr hc w R C
    rw [if_neg q] at e1 e2
    rw [← e1,e,e2]
theorem zlX {Bt:VEnv→Res Bool}:∀ bs:List (List (List Int)),(∀ q∈bs,Bt [some (.lst (zab q))]=.ok true)→selT Bt (bdsT bs)=.ok (bdsT bs)
 | [],_=>rfl
 | q :: bs,h=>by
  show selT Bt (.lst (zab q) :: bdsT bs)=_
  unfold selT
  rw [h q (by simp),Res.no_ok,Res.bind_ok,zlX bs fun q hq=>h q (by simp [hq]),Res.bind_ok,if_pos rfl]
  rfl
theorem zjh {n:Nat} {b:List (List Int)} (pt:Pt n b) (hl:oc 0 b=[]→LB n b):∀ q∈filP n b,LB n q:=fun q hq=>by
 obtain⟨h1,h2,h3,p,hp,h4⟩:=zhf (oc 0 b) [b] (fun p hp=>by rw [List.mem_singleton.mp hp];exact⟨pt,rfl⟩) q hq
 by_cases he:oc 0 b=[]
 ·have:q=b:=by
   unfold filP at hq
   rw [he] at hq
   exact List.mem_singleton.mp hq
  rw [this]
  exact hl he
 ·exact zrD h1 h2 (h3 he)
theorem znd {n:Nat}:∀ (cs:List (Nat×Nat)) (found:List (List (List Int))),(∀ p∈found,Pt n p∧oc 0 p=cs)→(cs.foldl (zcm n) found).length≤found.length * fact cs.length
 | [],found,hp=>by simp [fact]
 | (r,c) :: cs,found,hp=>by
  have hs:∀ p∈zcm n found (r,c),Pt n p∧oc 0 p=cs:=fun q hq=>by
   obtain⟨p,hp1,hp2⟩:=List.mem_flatMap.mp hq
   have:=zcY (hp p hp1).1 (hp p hp1).2 hp2
   exact⟨this.1,this.2.1⟩
  have hlen:(zcm n found (r,c)).length≤found.length * (cs.length + 1):=zhe _ _ found fun p hp1=>by
   have:=zkv (hp p hp1).1 r c
   rw [(hp p hp1).2,List.length_cons] at this
   exact this
  refine Nat.le_trans (znd cs _ hs) (Nat.le_trans (Nat.mul_le_mul_right _ hlen) ?_)
  rw [List.length_cons,fact,Nat.mul_assoc]
  exact Nat.le_refl _
theorem zql:∀ k,k≤9→fact k≤1000000:=by decide
theorem zs3 {n:Nat} {b:List (List Int)} (h:Op n b):(oc 0 b).length≤9:=by
 have fl:b.flatten.length=n * n:=by rw [zaO n b h.sq.row,h.sq.len]
 have:=zoZ b 0
 by_cases h4:n=4
 ·have:=h.few h4;lia
 ·have hi:=h.hi
  have:n * n≤3 * 3:=Nat.mul_le_mul (by lia) (by lia)
  lia
theorem zdV {n:Nat} {b:List (List Int)} (h:Op n b) (pt:Pt n b) (hl:oc 0 b=[]→LB n b):zcc [.lst (zab b)]=.ok (.lst (bdsT (filP n b))):=by
 have hi:=h.hi
 have c1:=zhl h
 have c2:=zii h
 have cp:=zif b (fun r hr=>by rw [h.sq.row r hr];lia) (by rw [h.sq.len];lia)
 have fl:b.flatten.length=n * n:=by rw [zaO n b h.sq.row,h.sq.len]
 have q:n * n≤16:=Nat.mul_le_mul hi hi
 have oo:=zmq (b:=b) (by lia)
 have hf:=zql _ (zs3 h)
 obtain⟨x',_,e,_⟩:=zkw h.lo (by lia) (some (.al,.lst (zab b))) (oc 0 b) [b] none (fun p hp=>by rw [List.mem_singleton.mp hp];exact⟨pt,rfl⟩) (by simpa using hf)
 have es:selT (eB (zaD 1 zci (zae (eVar 0) aNil))) (bdsT (filP n b))=.ok (bdsT (filP n b)):=zlX _ fun q hq=>by
  have:=zgv ((zjh pt hl q hq).lk) h.lo (by lia)
  simp [this]
 have e':forL (gS 2) zbD ((oc 0 b).map zct) [some (.al,.lst (zab b)),some (.fu,.lst [.lst (zab b)]),none]=.nx [some (.al,.lst (zab b)),some (.fu,.lst (bdsT (filP n b))),x']:=e
 have fr:zfe 1 (eB (zaD 1 zci (zae (eVar 0) aNil))) [some (.al,.lst (zab b)),some (.fu,.lst (bdsT (filP n b))),x']=.rt .fu (.lst (bdsT (filP n b))):=by
  show (match selT _ (bdsT (filP n b)) with | .ok us=>if us.length≤sizeLine then SRes.rt .fu (.lst us) else .bad | _=>.bad)=_
  rw [es]
  refine if_pos ?_
  have:=znd (oc 0 b) [b] (fun p hp=>by rw [List.mem_singleton.mp hp];exact⟨pt,rfl⟩)
  rw [List.length_singleton,Nat.one_mul] at this
  unfold bdsT
  rw [List.length_map]
  exact Nat.le_trans this (Nat.le_trans hf (by decide))
 simp [zcc,zgL,zcL,c1,c2,cp,oo,e',fr]
theorem zmt (d:Nat) (bs:List (List (List Int))):(bdsT bs).all (okT (d + 2))=true:=by
 unfold bdsT
 rw [List.all_map,List.all_eq_true]
 intro b _
 exact zkb d b
theorem zhi:∀ a b:List (List (List Int)),eqTs (bdsT a) (bdsT b)=decide (a=b)
 | [],[]=>by unfold bdsT List.map eqTs;rfl
 | [],_ :: _=>by unfold bdsT List.map eqTs;rfl
 | _ :: _,[]=>by unfold bdsT List.map eqTs;rfl
 | x :: a,y :: b=>by
  have ih:=zhi a b
  show eqTs (.lst (zab x) :: bdsT a) (.lst (zab y) :: bdsT b)=_
  unfold eqTs
  rw [ih]
  unfold eqT
  rw [zfL]
  by_cases h1:x=y <;> by_cases h2:a=b <;> simp [h1,h2]
theorem zg3 (bs:List (List (List Int))):okT 5 (.lst (bdsT bs))=true:=by unfold okT;exact zmt 2 bs
theorem zpX (a b:List (List (List Int))):oNe (.lst (bdsT a)) (.lst (bdsT b))=some (.sc (.bl (!decide (a=b)))):=by
 unfold oNe
 rw [if_pos ⟨zg3 a,zg3 b⟩]
 unfold eqT
 rw [zhi]
theorem zpY (a b:List (List (List Int))):oEq (.lst (bdsT a)) (.lst (bdsT b))=some (.sc (.bl (decide (a=b)))):=by
 unfold oEq
 rw [if_pos ⟨zg3 a,zg3 b⟩]
 unfold eqT
 rw [zhi]
theorem zll {c:List (List Int)} {l:List (List (List Int))} (h:c∈l):zc9 (.lst (zab c)) (.lst (bdsT l))=some (.sc (.bl false)):=by
 show (if okT 4 (.lst (zab c))=true∧(bdsT l).all (okT 4)=true then some (T.sc (.bl (!inT (.lst (zab c)) (bdsT l)))) else none)=_
 rw [if_pos ⟨zkb 2 c,zmt 2 l⟩]
 have:inT (.lst (zab c)) (bdsT l)=true:=by
  unfold inT bdsT
  rw [List.any_map,List.any_eq_true]
  refine ⟨c,h,?_⟩
  show eqT (.lst (zab c)) (.lst (zab c))=true
  unfold eqT
  rw [zfL]
  simp
 rw [this]
 rfl
theorem zlk {a b:Int} (h:a=0∨a=b):zc9 (.sc (.int a)) (.tup [.sc (.int 0),.sc (.int b)])=some (.sc (.bl false)):=by
 have h1:okT 4 (.sc (.int a))=true∧([T.sc (.int 0),T.sc (.int b)]).all (okT 4)=true:=by simp [okT,zdH]
 show (if okT 4 (.sc (.int a))=true∧([T.sc (.int 0),T.sc (.int b)]).all (okT 4)=true then some (T.sc (.bl (!inT (.sc (.int a)) [.sc (.int 0),.sc (.int b)]))) else none)=_
 rw [if_pos h1]
 have:inT (.sc (.int a)) [.sc (.int 0),.sc (.int b)]=true:=by
  unfold inT
  rcases h with rfl | rfl <;> simp [eqT,eqV]
 rw [this]
 rfl
theorem zlf {n:Nat} {o q:List (List Int)} (ho:Sq n o) (hq:Sq n q) (hn:n≤4) (ex:∀ R C,R < n→C < n→C2 o R C=0∨C2 o R C=C2 q R C) {k:Int} (h0:0≤k) (h1:k < (n:Int) * n) (t0 t1 t3 t4 t6 t7 t8:Option (Md×T)) (m2 m5 m9 m10:Md) :
  zf3 [t0,t1,some (m2,.sc (.int n)),t3,t4,some (m5,.lst (zab o)),t6,t7,t8,some (m9,.lst (zab q)),some (m10,.sc (.int k))]=.nx [t0,t1,some (m2,.sc (.int n)),t3,t4,some (m5,.lst (zab o)),t6,t7,t8,some (m9,.lst (zab q)),some (m10,.sc (.int k))]:=by
 have hp:0 < (n:Int):=by
  rcases Nat.eq_zero_or_pos n with z | z
  ·subst z;lia
  ·lia
 have d1:=zjf (i:=k) (j:=n) hp (by lia)
 have d2:=zhd (i:=k) (j:=n) hp
 have b0:0≤k / n:=Int.ediv_nonneg h0 (by lia)
 have b1:k / n < n:=Int.ediv_lt_of_lt_mul hp h1
 have c0:0≤k % n:=Int.emod_nonneg _ (by lia)
 have c1:k % n < n:=Int.emod_lt_of_pos _ hp
 have rl:(k / n).toNat < n:=by lia
 have cl:(k % n).toNat < n:=by lia
 have a1:=znx (b:=o) b0 (by rw [ho.len];exact b1)
 have a2:=zjp (l:=zax o (k / n).toNat) c0 (by rw [ho.get rl];exact c1)
 have a3:=znx (b:=q) b0 (by rw [hq.len];exact b1)
 have a4:=zjp (l:=zax q (k / n).toNat) c0 (by rw [hq.get rl];exact c1)
 have ni:=zlk (a:=at0 (zax o (k / n).toNat) (k % n).toNat) (b:=at0 (zax q (k / n).toNat) (k % n).toNat) (ex _ _ rl cl)
 have t2:zhC [T.sc (V.int 0),T.sc (V.int (at0 (zax q (k / n).toNat) (k % n).toNat))]=some (.tup [.sc (.int 0),.sc (.int (at0 (zax q (k / n).toNat) (k % n).toNat))]):=if_pos sz2
 simp [zf3,d1,d2,a1,a2,a3,a4,t2,ni]
theorem zgo {n:Nat} {o q:List (List Int)} (ho:Sq n o) (hq:Sq n q) (hn:n≤4) (ex:∀ R C,R < n→C < n→C2 o R C=0∨C2 o R C=C2 q R C) (t0 t1 t3 t4 t6 t7 t8:Option (Md×T)) (m2 m5 m9:Md):∀ (l:List Int) (x:Option (Md×T)),(∀ k∈l,0≤k∧k < (n:Int) * n) →
  ∃ x',forL (gS 10) zf3 (zad l) [t0,t1,some (m2,.sc (.int n)),t3,t4,some (m5,.lst (zab o)),t6,t7,t8,some (m9,.lst (zab q)),x]=.nx [t0,t1,some (m2,.sc (.int n)),t3,t4,some (m5,.lst (zab o)),t6,t7,t8,some (m9,.lst (zab q)),x']
 | [],x,_=>⟨x,by simp⟩
 | k :: l,x,h=>by
  obtain⟨x',e⟩:=zgo ho hq hn ex t0 t1 t3 t4 t6 t7 t8 m2 m5 m9 l (some (.al,.sc (.int k))) fun k hk=>h k (by simp [hk])
  refine ⟨x',?_⟩
  rw [zbj,zaN]
  show SRes.then (zf3 _) _=_
  have hk:=h k (by simp)
  rw [show ([t0,t1,some (m2,.sc (.int n)),t3,t4,some (m5,.lst (zab o)),t6,t7,t8,some (m9,.lst (zab q)),x]:SEnv).set 10 (some (.al,.sc (.int k)))=[t0,t1,some (m2,.sc (.int n)),t3,t4,some (m5,.lst (zab o)),t6,t7,t8,some (m9,.lst (zab q)),some (.al,.sc (.int k))] from rfl,zlf ho hq hn ex hk.1 hk.2]
  exact e
theorem zid {n:Nat} {o:List (List Int)} (ho:Sq n o) (h1:1≤n) (hn:n≤4) (t0 t1 t3 t4 t6 t7 t8:Option (Md×T)) (m5:Md):∀ (bs:List (List (List Int))) (m2:Md) (x9 x10:Option (Md×T)),(∀ q∈bs,LB n q∧Ext n o q) →
  ∃ m2' x9' x10',forL (gS 9) zeQ (bdsT bs) [t0,t1,some (m2,.sc (.int n)),t3,t4,some (m5,.lst (zab o)),t6,t7,t8,x9,x10]=.nx [t0,t1,some (m2',.sc (.int n)),t3,t4,some (m5,.lst (zab o)),t6,t7,t8,x9',x10']
 | [],m2,x9,x10,_=>⟨m2,x9,x10,rfl⟩
 | q :: bs,m2,x9,x10,h=>by
  obtain⟨hq,he⟩:=h q (by simp)
  have ex:∀ R C,R < n→C < n→C2 o R C=0∨C2 o R C=C2 q R C:=fun R C hR hC=>by
   by_cases z:C2 o R C=0
   ·exact .inl z
   ·exact .inr (he R C hR hC z).symm
  have z2:=zk5 (n:=n) (by lia)
  have z0:(0:Int)≤(n:Int) * n:=Int.mul_nonneg (by lia) (by lia)
  have mn:=zdn (i:=(n:Int)) (j:=n) (.inl (by lia))
  have r1:=ziT (j:=(n:Int) * n) (by lia)
  obtain⟨y,e1⟩:=zgo ho hq.pt.sq hn ex t0 t1 t3 t4 t6 t7 t8 .al m5 .al (rngZ 0 ((n:Int) * n).toNat) x10 fun k hk=>by
   have:=zb7 hk
   lia
  have il:=zgv hq.lk h1 (by lia)
  have el:zeQ [t0,t1,some (m2,.sc (.int n)),t3,t4,some (m5,.lst (zab o)),t6,t7,t8,some (.al,.lst (zab q)),x10]=.nx [t0,t1,some (.al,.sc (.int n)),t3,t4,some (m5,.lst (zab o)),t6,t7,t8,some (.al,.lst (zab q)),y]:=by
   have ni:zkg (T.sc (.bl true)) (T.sc (.bl true))=some (.sc (.bl false)):=rfl
   simp [zeQ,il,ni,mn,r1,e1]
  obtain⟨m2',x9',x10',e⟩:=zid ho h1 hn t0 t1 t3 t4 t6 t7 t8 m5 bs .al (some (.al,.lst (zab q))) y fun q hq=>h q (by simp [hq])
  refine ⟨m2',x9',x10',?_⟩
  show forL (gS 9) zeQ (.lst (zab q) :: bdsT bs) _=_
  rw [zaN]
  show SRes.then (zeQ [t0,t1,some (m2,.sc (.int n)),t3,t4,some (m5,.lst (zab o)),t6,t7,t8,some (.al,.lst (zab q)),x10]) _=_
  rw [el]
  exact e
theorem zrW {n:Nat} {b:List (List Int)} (h:Op n b) (pt:Pt n b) (hl:oc 0 b=[]→LB n b):zdA [.lst (zab b)]=.ok (.sc (.int (filP n b).length)):=by
 have e:=zdV h pt hl
 simp [zdA,zgK,zcK,e,bdsT]
theorem zlQ {n:Nat} {o B:List (List Int)} {kn:List (List (List Int))} (ho:Sq n o) (h1:1≤n) (hn:n≤4) {k:Int} (h0:0≤k) (hk:k < (n:Int) * n) (hop:Op n (put o (k / n).toNat (k % n).toNat 0)) (pt:Pt n (put o (k / n).toNat (k % n).toNat 0)) (hB:LB n B) (ag:Ext n (put o (k / n).toNat (k % n).toNat 0) B) (hl:kn.length≤(filP n (put o (k / n).toNat (k % n).toNat 0)).length)
  (hoc:oc 0 (put o (k / n).toNat (k % n).toNat 0)≠[]) (t0 t1 t4 x8 x9 x10:Option (Md×T)) (m2 m3 m6 m7:Md) :
  ∃ m2' x9' x10',zf2 [t0,t1,some (m2,.sc (.int n)),some (m3,.lst (zab B)),t4,some (.fu,.lst (zab o)),some (m6,.lst (bdsT kn)),some (m7,.sc (.int k)),x8,x9,x10] =
   .nx [t0,t1,some (m2',.sc (.int n)),some (m3,.lst (zab B)),t4,some (.fu,.lst (zab (put o (k / n).toNat (k % n).toNat 0))),some (.al,.lst (bdsT (filP n (put o (k / n).toNat (k % n).toNat 0)))),some (m7,.sc (.int k)),some (.al,.lst (bdsT (filP n (put o (k / n).toNat (k % n).toNat 0)))),x9',x10']:=by
 have hp:0 < (n:Int):=by lia
 have d1:=zjf (i:=k) (j:=n) hp (by lia)
 have d2:=zhd (i:=k) (j:=n) hp
 have b0:0≤k / n:=Int.ediv_nonneg h0 (by lia)
 have b1:k / n < n:=Int.ediv_lt_of_lt_mul hp hk
 have c0:0≤k % n:=Int.emod_nonneg _ (by lia)
 have c1:k % n < n:=Int.emod_lt_of_pos _ hp
 have rl:(k / n).toNat < n:=by lia
 have p2:=zfv (i:=5) (b:=o) (x:=0) (k:=k / n) (j:=k % n) (ρ:=[t0,t1,some (m2,.sc (.int n)),some (m3,.lst (zab B)),t4,some (.fu,.lst (zab o)),some (m6,.lst (bdsT kn)),some (m7,.sc (.int k)),x8,x9,x10]) b0 (by rw [ho.len];exact b1) c0 (by rw [ho.get rl];exact c1)
 generalize hP:put o (k / n).toNat (k % n).toNat 0=P at *
 have p3:zeY 5 .fu (zab o) (.sc (.int 0)) (.sc (.int (k / n))) (.sc (.int (k % n))) [t0,t1,some (m2,.sc (.int n)),some (m3,.lst (zab B)),t4,some (.fu,.lst (zab o)),some (m6,.lst (bdsT kn)),some (m7,.sc (.int k)),x8,x9,x10]=.nx [t0,t1,some (m2,.sc (.int n)),some (m3,.lst (zab B)),t4,some (.fu,.lst (zab P)),some (m6,.lst (bdsT kn)),some (m7,.sc (.int k)),x8,x9,x10]:=by rw [← hP];exact p2
 have nh:oc 0 P=[]→LB n P:=fun q=>absurd q hoc
 have ef:=zdV hop pt nh
 have eh:=zrW hop pt nh
 have hmem:B∈filP n P:=zne hB (oc 0 P) [P] P (fun p hp=>by rw [List.mem_singleton.mp hp];exact⟨pt,rfl⟩) (by simp) ag
 have ni:=zll hmem
 have hall:∀ q∈filP n P,LB n q∧Ext n P q:=fun q hq=>⟨zjh pt nh q hq,by
  obtain⟨_,_,_,p,hp,h4⟩:=zhf (oc 0 P) [P] (fun p hp=>by rw [List.mem_singleton.mp hp];exact⟨pt,rfl⟩) q hq
  rw [List.mem_singleton.mp hp] at h4
  exact h4⟩
 obtain⟨m2',x9',x10',el⟩:=zid pt.sq h1 hn t0 t1 (some (m3,.lst (zab B))) t4 (some (m6,.lst (bdsT kn))) (some (m7,.sc (.int k))) (some (.al,.lst (bdsT (filP n P)))) .fu (filP n P) m2 x9 x10 hall
 refine ⟨m2',x9',x10',?_⟩
 have lb:∀ l:List (List (List Int)),(bdsT l).length=l.length:=fun l=>by unfold bdsT;rw [List.length_map]
 simp [zf2,d1,d2,p3,ef,eh,ni,lb,show ¬ ((filP n P).length:Int) < (kn.length:Int) by lia,el]
noncomputable def K8:List (List (List Int)):=[[[2,7,6],[9,5,1],[4,3,8]],[[2,9,4],[7,5,3],[6,1,8]],[[4,3,8],[9,5,1],[2,7,6]],[[4,9,2],[3,5,7],[8,1,6]],[[6,1,8],[7,5,3],[2,9,4]],[[6,7,2],[1,5,9],[8,3,4]],[[8,1,6],[3,5,7],[4,9,2]],[[8,3,4],[1,5,9],[6,7,2]]]
theorem zqP:filP 3 [[0,0,0],[0,0,0],[0,0,0]]=K8:=by kernel_rfl
theorem zrO:∀ b∈K8,zee 3 (kin8 b)=K8:=by
 have h:∀ b∈K8,decide (zee 3 (kin8 b)=K8)=true:=by decide +kernel
 exact fun b hb=>of_decide_eq_true (h b hb)
theorem zme {n:Nat} {p:List (List Int)} (h:Pt n p) {r c:Nat} (hr:r < n) (hc:c < n):Pt n (put p r c 0):=by
 refine ⟨zeX h.sq hr 0,fun R C hR hC=>?_,fun R C R' C' hR hC hR' hC' e ne=>?_⟩
 ·rw [zb0 h.sq hr hc]
  split
  ·exact .inl rfl
  ·exact h.rg R C hR hC
 ·rw [zb0 h.sq hr hc] at e ne
  rw [zb0 h.sq hr hc] at e
  by_cases q1:R=r∧C=c
  ·rw [if_pos q1] at ne;exact absurd rfl ne
  ·rw [if_neg q1] at ne
   by_cases q2:R'=r∧C'=c
   ·rw [if_neg q1,if_pos q2] at e;exact absurd e ne
   ·rw [if_neg q1,if_neg q2] at e
    exact h.inj R C R' C' hR hC hR' hC' e ne
theorem zpU {n:Nat} {p:List (List Int)} (h:Sq n p) {r c:Nat} (hr:r < n) (hc:c < n):(oc 0 (put p r c 0)).length≤(oc 0 p).length + 1∧oc 0 (put p r c 0)≠[]:=by
 have nd:(oc 0 (put p r c 0)).Nodup:=by rw [zgb (zeX h hr 0)];exact (zkM n).filter _
 refine ⟨?_,fun e=>?_⟩
 ·have:=nd.length_le_of_subset (l₂:=(r,c) :: oc 0 p) fun x hx=>by
   rw [zgb (zeX h hr 0)] at hx
   obtain⟨h1,h2⟩:=List.mem_filter.mp hx
   have h3:C2 (put p r c 0) x.1 x.2=0:=by simpa using h2
   rw [zb0 h hr hc] at h3
   by_cases q:x.1=r∧x.2=c
   ·exact List.mem_cons.mpr (.inl (Prod.ext q.1 q.2))
   ·rw [if_neg q] at h3
    refine List.mem_cons.mpr (.inr ?_)
    rw [zgb h]
    exact List.mem_filter.mpr ⟨h1,by simpa using h3⟩
  rw [List.length_cons] at this
  exact this
 ·have:=(zke (zeX h hr 0)).mp e r c hr hc
  rw [zb0 h hr hc,if_pos ⟨rfl,rfl⟩] at this
  exact this rfl
theorem zhg {n:Nat} {p q:List (List Int)} (h:Sq n p) {r c:Nat} (hr:r < n) (hc:c < n) (ag:Ext n p q):Ext n (put p r c 0) q:=fun R C hR hC ne=>by
 rw [zb0 h hr hc] at ne ⊢
 by_cases w:R=r∧C=c
 ·rw [if_pos w] at ne;exact absurd rfl ne
 ·rw [if_neg w] at ne ⊢
  exact ag R C hR hC ne
theorem zol {n:Nat} {b:List (List Int)} (pt:Pt n b):∀ q∈filP n b,Ext n b q:=fun q hq=>by
 obtain⟨_,_,_,p,hp,h4⟩:=zhf (oc 0 b) [b] (fun p hp=>by rw [List.mem_singleton.mp hp];exact⟨pt,rfl⟩) q hq
 rw [List.mem_singleton.mp hp] at h4
 exact h4
theorem znf {n:Nat} {b B:List (List Int)} (pt:Pt n b) (hB:LB n B) (ag:Ext n b B):B∈filP n b:=zne hB (oc 0 b) [b] b (fun p hp=>by rw [List.mem_singleton.mp hp];exact⟨pt,rfl⟩) (List.mem_singleton.mpr rfl) ag
theorem zqk {n:Nat} {p:List (List Int)} (h:Pt n p) (hl:oc 0 p=[]→LB n p) {r c:Nat} (hr:r < n) (hc:c < n):(filP n p).length≤(filP n (put p r c 0)).length:=by
 have nd:(filP n p).Nodup:=zpd (oc 0 p) [p] (fun q hq=>by rw [List.mem_singleton.mp hq];exact⟨h,rfl⟩) (List.pairwise_singleton _ _)
 exact nd.length_le_of_subset fun q hq=>znf (zme h hr hc) (zjh h hl q hq) (zhg h.sq hr hc (zol h q hq))
theorem zgk {n:Nat} {B:List (List Int)} (h1:1≤n) (hn:n≤4) (hB:LB n B) (t0 t1 t4:Option (Md×T)) (m3:Md):∀ (l:List Int) (o:List (List Int)) (m2 m6:Md) (x7 x8 x9 x10:Option (Md×T)),Pt n o→(oc 0 o=[]→LB n o)→Ext n o B→(∀ k∈l,0≤k∧k < (n:Int) * n)→(n=4→(oc 0 o).length + l.length≤6) →
  ∃ o' m2' m5' m6' x7' x8' x9' x10',forL (gS 7) zf2 (zad l) [t0,t1,some (m2,.sc (.int n)),some (m3,.lst (zab B)),t4,some (.fu,.lst (zab o)),some (m6,.lst (bdsT (filP n o))),x7,x8,x9,x10] =
   .nx [t0,t1,some (m2',.sc (.int n)),some (m3,.lst (zab B)),t4,some (m5',.lst (zab o')),some (m6',.lst (bdsT (filP n o'))),x7',x8',x9',x10']∧Pt n o'∧Ext n o' B∧∀ R C,R < n→C < n→(((R * n + C:Nat):Int)∈l∨C2 o R C=0)→C2 o' R C=0
 | [],o,m2,m6,x7,x8,x9,x10,pt,_,ag,_,_=>⟨o,m2,.fu,m6,x7,x8,x9,x10,by simp,pt,ag,fun R C hR hC w=>w.elim (fun q=>nomatch q) id⟩
 | k :: l,o,m2,m6,x7,x8,x9,x10,pt,hl,ag,hk,hf=>by
  obtain⟨k0,k1⟩:=hk k List.mem_cons_self
  have hp:0 < (n:Int):=by lia
  have b0:0≤k / n:=Int.ediv_nonneg k0 (by lia)
  have b1:k / n < n:=Int.ediv_lt_of_lt_mul hp k1
  have c0:0≤k % n:=Int.emod_nonneg _ (by lia)
  have c1:k % n < n:=Int.emod_lt_of_pos _ hp
  have rl:(k / n).toNat < n:=by lia
  have cl:(k % n).toNat < n:=by lia
  have z:=zpU pt.sq rl cl
  have pz:=zme pt rl cl
  have hop:Op n (put o (k / n).toNat (k % n).toNat 0):=pz.op h1 hn fun h4=>by
   have:=hf h4
   rw [List.length_cons] at this
   lia
  obtain⟨m2a,y9,y10,e1⟩:=zlQ pt.sq h1 hn k0 k1 hop pz hB (zhg pt.sq rl cl ag) (zqk pt hl rl cl) z.2 t0 t1 t4 x8 x9 x10 m2 m3 m6 .al
  obtain⟨o',m2',m5',m6',x7',x8',x9',x10',e2,p1,p2,p3⟩:=zgk h1 hn hB t0 t1 t4 m3 l (put o (k / n).toNat (k % n).toNat 0) m2a .al (some (.al,.sc (.int k))) (some (.al,.lst (bdsT (filP n (put o (k / n).toNat (k % n).toNat 0))))) y9 y10 pz (fun q=>absurd q z.2) (zhg pt.sq rl cl ag) (fun k hk'=>hk k (List.mem_cons_of_mem _ hk')) fun h4=>by
   have:=hf h4
   rw [List.length_cons] at this
   lia
  refine ⟨o',m2',m5',m6',x7',x8',x9',x10',?_,p1,p2,fun R C hR hC w=>?_⟩
  ·rw [zbj,zaN]
   show SRes.then (zf2 _) _=_
   rw [show ([t0,t1,some (m2,.sc (.int n)),some (m3,.lst (zab B)),t4,some (.fu,.lst (zab o)),some (m6,.lst (bdsT (filP n o))),x7,x8,x9,x10]:SEnv).set 7 (some (.al,.sc (.int k)))=[t0,t1,some (m2,.sc (.int n)),some (m3,.lst (zab B)),t4,some (.fu,.lst (zab o)),some (m6,.lst (bdsT (filP n o))),some (.al,.sc (.int k)),x8,x9,x10] from rfl,e1]
   exact e2
  ·refine p3 R C hR hC ?_
   rw [zb0 pt.sq rl cl]
   rcases w with w | w
   ·rcases List.mem_cons.mp w with w | w
    ·right
     have hd:(k / n).toNat=R:=by
      rw [← w]
      have:((R * n + C:Nat):Int) / (n:Int)=((R * n + C) / n:Nat):=by norm_cast
      rw [this,Int.toNat_natCast,zgC hC]
     have hm:(k % n).toNat=C:=by
      rw [← w]
      have:((R * n + C:Nat):Int) % (n:Int)=((R * n + C) % n:Nat):=by norm_cast
      rw [this,Int.toNat_natCast,zgq hC]
     rw [if_pos ⟨hd.symm,hm.symm⟩]
    ·exact .inl w
   ·right
    split
    ·rfl
    ·exact w
theorem znA {l:List Int} {i:Nat} {x:Int} (h:i < l.length) (k:Nat):at0 (l.set i x) k=if k=i then x else at0 l k:=by
 by_cases e:k=i
 ·subst e
  rw [if_pos rfl]
  unfold at0
  rw [List.getD_eq_getElem?_getD,List.getElem?_set_self h];rfl
 ·rw [if_neg e]
  unfold at0
  rw [List.getD_eq_getElem?_getD,List.getElem?_set_ne (fun q=>e q.symm),← List.getD_eq_getElem?_getD]
def zqJ (n h:Nat) (p o:List Int) (k:Nat):Prop:=Ord n o∧(∀ j,j < k→at0 o j + at0 o (n - 1 - j)=(n:Int) - 1∧(at0 o j=at0 p j∨at0 o j=(n:Int) - 1 - at0 p j))∧∀ i,k≤i→i + k < n→at0 o i=h
theorem zgy {n h:Nat} {p o:List Int} {k:Nat} (hh:n / 2=h) (hk:k < h) (I:zqJ n h p o k) (x:Int) (x0:0≤x) (x1:x < n) (hx:x=at0 p k∨x=(n:Int) - 1 - at0 p k):zqJ n h p ((o.set k x).set (n - 1 - k) ((n:Int) - 1 - x)) (k + 1):=by
 obtain⟨I1,I2,I3⟩:=I
 have l1:k < o.length:=by rw [I1.len];lia
 have l2:n - 1 - k < (o.set k x).length:=by rw [List.length_set,I1.len];lia
 have A:∀ i,at0 ((o.set k x).set (n - 1 - k) ((n:Int) - 1 - x)) i=if i=n - 1 - k then (n:Int) - 1 - x else if i=k then x else at0 o i:=fun i=>by rw [znA l2,znA l1]
 refine ⟨(I1.set _ x0 x1).set _ (by lia) (by lia),fun j hj=>?_,fun i h1 h2=>?_⟩
 ·rw [A,A]
  by_cases q:j=k
  ·subst q
   rw [if_neg (by lia),if_pos rfl,if_pos rfl]
   exact⟨by lia,hx⟩
  ·have:=I2 j (by lia)
   rw [if_neg (by lia),if_neg q,if_neg (by lia),if_neg (by lia)]
   exact this
 ·rw [A,if_neg (by lia),if_neg (by lia)]
  exact I3 i (by lia) (by lia)
theorem zom (c:Int) (n:Nat) (h1:1≤n) (hn:n≤12):∃ o:List Int,zel [.sc (.int c),.sc (.int n)]=.ok (.lst (zad o))∧o.Perm (rngZ 0 n)∧∀ k,k < n→at0 o k + at0 o (n - 1 - k)=(n:Int) - 1:=by
 obtain⟨h,ed,hh⟩:∃ h:Nat,(n:Int) / 2=h∧n / 2=h:=⟨n / 2,by lia,rfl⟩
 obtain⟨p,ep,hpp⟩:=zka c (h:Int) (by lia) (by lia)
 rw [Int.toNat_natCast] at hpp
 have hp:=zj8 hpp
 obtain⟨ρ',e,x1,x2,o,rfl,ho⟩:=zfj (gT:=gS 5) (B:=zc5)
  (fun k ρ=>∃ (x1 x2:Option (Md×T)) (o:List Int),ρ=[some (.al,.sc (.int c)),some (.al,.sc (.int n)),some (.al,.sc (.int (h:Int))),some (.fu,.lst (zad p)),some (.fu,.lst (zad o)),x1,x2]∧zqJ n h p o k) h
  [some (.al,.sc (.int c)),some (.al,.sc (.int n)),some (.al,.sc (.int (h:Int))),some (.fu,.lst (zad p)),some (.fu,.lst (zad (List.replicate n (h:Int)))),none,none]
  ⟨none,none,_,rfl,⟨by simp,fun x hx=>by have:=List.eq_of_mem_replicate hx;lia⟩,fun j hj=>absurd hj (by lia),fun i _ hi=>by simp [at0,List.getD,show i < n by lia]⟩ (by
   rintro j ρ hj ⟨x1,x2,o,rfl,ho⟩
   refine ⟨_,rfl,?_⟩
   obtain⟨r,er,r0,r1⟩:=mix c (70 + j) 2 (by lia) (by lia) (by lia) (by lia)
   have g:=hp.get (i:=j) hj
   have c1:(j:Int) < (p.length:Int):=by rw [hp.len];lia
   have c2:(j:Int) < (o.length:Int):=by rw [ho.1.len];lia
   have c3:0≤(n:Int) - 1 - j:=by lia
   have c4:(n:Int) - 1 - j < o.length:=by rw [ho.1.len];lia
   by_cases hr:r=1
   ·exact⟨_,by simp [zc5,er,hr,c1,c2];rw [zgn c3 (by rw [List.length_set];exact c4),show ((n:Int) - 1 - j).toNat=n - 1 - j by lia];exact rfl,_,_,_,rfl,zgy hh hj ho _ (by lia) (by lia) (.inr rfl)⟩
   ·exact⟨_,by simp [zc5,er,hr,c1,c2];rw [zgn c3 (by rw [List.length_set];exact c4),show ((n:Int) - 1 - j).toNat=n - 1 - j by lia];exact rfl,_,_,_,rfl,zgy hh hj ho _ (by lia) (by lia) (.inl rfl)⟩)
 obtain⟨I1,I2,I3⟩:=ho
 have sym:∀ k,k < n→at0 o k + at0 o (n - 1 - k)=(n:Int) - 1:=fun k hk=>by
  by_cases q1:k < h
  ·exact (I2 k q1).1
  ·by_cases q2:n - 1 - k < h
   ·have:=(I2 _ q2).1
    rw [show n - 1 - (n - 1 - k)=k by lia] at this
    lia
   ·rw [I3 k (by lia) (by lia),I3 (n - 1 - k) (by lia) (by lia)]
    lia
 have mem:∀ k,k < n→at0 o k∈o:=fun k hk=>by
  have:k < o.length:=by rw [I1.len];exact hk
  unfold at0;simp [List.getD,this]
 have low:∀ v:Int,0≤v→v < h→v∈o∧(n:Int) - 1 - v∈o:=fun v v0 v1=>by
  have:v∈p:=hpp.mem_iff.mpr (zcT.mpr (by lia))
  obtain⟨j,hj,q⟩:=List.mem_iff_getElem.mp this
  have hj':j < h:=by rw [hp.len] at hj;exact hj
  have ev:at0 p j=v:=by unfold at0;simp [List.getD,hj,q]
  obtain⟨a,b⟩:=I2 j hj'
  rw [ev] at b
  have m1:=mem j (by lia)
  have m2:=mem (n - 1 - j) (by lia)
  rcases b with b | b
  ·rw [b] at m1 a
   rw [show at0 o (n - 1 - j)=(n:Int) - 1 - v by lia] at m2
   exact⟨m1,m2⟩
  ·rw [b] at m1 a
   rw [show at0 o (n - 1 - j)=v by lia] at m2
   exact⟨m2,m1⟩
 refine ⟨o,?_,zeG (zgm 0 n) (fun v hv=>?_) (by rw [I1.len,zbV]),sym⟩
 ·simp [zel,ziC,zds,ed,ep,show n≤1000 by lia,show h≤1000 by lia] at e ⊢
  simp [e]
 ·obtain⟨v0,v1⟩:=zcT.mp hv
  by_cases q1:v < h
  ·exact (low v v0 q1).1
  ·by_cases q2:(n:Int) - 1 - v < h
   ·have:=(low ((n:Int) - 1 - v) (by lia) q2).2
    rw [show (n:Int) - 1 - ((n:Int) - 1 - v)=v by lia] at this
    exact this
   ·have:=mem h (by lia)
    rw [I3 h (by lia) (by lia)] at this
    rw [show v=(h:Int) by lia]
    exact this
noncomputable def bs (n:Nat) (r c:Int):Int:=n * ((r + c + 1 + n / 2) % n) + (r + 2 * c + 1) % n + 1
noncomputable def bsB (n:Nat):List (List Int):=(List.range n).map fun (r:Nat)=>(List.range n).map fun (c:Nat)=>bs n r c
theorem zlt (n:Nat) (h1:1≤n) (hn:n≤12) (s:List Int) (ba:Int) (x7 x8:Option (Md×T)) (m3:Md) (hm3:m3≠.al):∃ ρ':SEnv,forL (gS 4) zc4 (zad (rngZ 0 n)) [some (.al,.scr s),some (.al,.sc (.int ba)),some (.al,.sc (.int n)),some (m3,.lst (zab [])),none,none,none,x7,x8]=.nx ρ' ∧
  ∃ (x4 x5 x6:Option (Md×T)) (m:Md),ρ'=[some (.al,.scr s),some (.al,.sc (.int ba)),some (.al,.sc (.int n)),some (m,.lst (zab (bsB n))),x4,x5,x6,x7,x8]∧m≠.al:=by
 refine zfj (fun k ρ=>∃ (x4 x5 x6:Option (Md×T)) (m:Md),ρ=[some (.al,.scr s),some (.al,.sc (.int ba)),some (.al,.sc (.int n)),some (m,.lst (zab ((List.range k).map fun (r:Nat)=>(List.range n).map fun (c:Nat)=>bs n r c))),x4,x5,x6,x7,x8]∧m≠.al) n _ ⟨_,_,_,_,rfl,hm3⟩ ?_
 rintro j ρ hj ⟨x4,x5,x6,m,rfl,hm⟩
 refine ⟨_,rfl,?_⟩
 have lb:((List.range j).map fun (r:Nat)=>(List.range n).map fun (c:Nat)=>bs n r c).length=j:=by simp
 have es:((List.range (j + 1)).map fun (r:Nat)=>(List.range n).map fun (c:Nat)=>bs n r c)=((List.range j).map fun (r:Nat)=>(List.range n).map fun (c:Nat)=>bs n r c) ++ [(List.range n).map fun (c:Nat)=>bs n j c]:=by rw [List.range_succ,List.map_append];rfl
 rw [es]
 generalize ((List.range j).map fun (r:Nat)=>(List.range n).map fun (c:Nat)=>bs n r c)=b at *
 obtain⟨ρ',e,y6,rfl⟩:=zfj (gT:=gS 6) (B:=zd3)
  (fun k ρ=>∃ (x6:Option (Md×T)),ρ=[some (.al,.scr s),some (.al,.sc (.int ba)),some (.al,.sc (.int n)),some (m,.lst (zab b)),some (.al,.sc (.int j)),some (.fu,.lst (zad ((List.range k).map fun (c:Nat)=>bs n j c))),x6,x7,x8]) n
  [some (.al,.scr s),some (.al,.sc (.int ba)),some (.al,.sc (.int n)),some (m,.lst (zab b)),some (.al,.sc (.int j)),some (.fu,.lst (zad [])),x6,x7,x8] ⟨_,rfl⟩ (by
   rintro i ρ hi ⟨x6,rfl⟩
   refine ⟨_,rfl,?_⟩
   have hn0:(0:Int) < n:=by lia
   have m1:=zhc (i:=(n:Int)) (j:=((j:Int) + i + 1 + n / 2) % n) (.inl (by lia))
   have m2:=zhc (i:=2) (j:=(i:Int)) (.inl (by lia))
   have lr:((List.range i).map fun (c:Nat)=>bs n j c).length < 1000:=by simp;lia
   have er:((List.range (i + 1)).map fun (c:Nat)=>bs n j c)=((List.range i).map fun (c:Nat)=>bs n j c) ++ [(n:Int) * (((j:Int) + i + 1 + n / 2) % n) + ((j:Int) + 2 * i + 1) % n + 1]:=by rw [List.range_succ,List.map_append];rfl
   rw [er]
   generalize ((List.range i).map fun (c:Nat)=>bs n j c)=row at *
   exact⟨_,by simp [zd3,show 0 < n by lia,m1,m2,lr];exact rfl,_,rfl⟩)
 have a1:=znH (i:=3) (M:=[false,false,false,false,false,true,false,false,false]) (m:=m) (b:=b) (r:=(List.range n).map fun (c:Nat)=>bs n j c) (ρ:=[some (.al,.scr s),some (.al,.sc (.int ba)),some (.al,.sc (.int n)),some (m,.lst (zab b)),some (.al,.sc (.int j)),some (.fu,.lst (zad ((List.range n).map fun (c:Nat)=>bs n j c))),y6,x7,x8]) (by lia) hm (by simp)
 generalize ((List.range n).map fun (c:Nat)=>bs n j c)=row at *
 simp at e
 exact⟨_,by simp [zc4,show n≤1000 by lia,e,a1];exact⟨rfl,rfl,rfl⟩,_,_,_,.sp,rfl,by decide⟩
theorem zmi {n:Nat} {b:List (List Int)} {o:List Int} (hn:n≤12) (hb:Sq n b) (ho:Ord n o) {F3 F4:VEnv→Res T} (e3:F3=fun ρ=>chk ((eOp oIx (eOp oIx (eVar 1) (eVar 2)) (eVar 0)) ρ)) (e4:F4=zco [none,some 2,some 0] (iLst (eVar 1)) (gE 0) F3) :
  mapL (gE 0) F4 [none,some (.lst (zad o)),some (.lst (zab b))] (zad o)=.ok (zab (o.map fun i=>o.map fun j=>at0 (zax b i.toNat) j.toNat)):=by
 subst e3;subst e4
 refine zi6 _ _ fun i hi=>⟨_,rfl,?_⟩
 have hi:=ho.rng i hi
 simp
 rw [zfA fun j=>at0 (zax b i.toNat) j.toNat]
 ·simp [ho.len,show n≤1000 by lia]
 ·intro j hj
  have hj:=ho.rng j hj
  have g1:i < (b.length:Int):=by rw [hb.len];lia
  have g2:j < ((zax b i.toNat).length:Int):=by rw [hb.get (by lia)];lia
  exact⟨_,rfl,by simp [hi.1,hj.1,g1,g2]⟩
theorem znQ {n:Nat} {b:List (List Int)} (hb:Sq n b):mapL (gE 0) zd6 [none] (zab b)=.ok (zab (b.map List.reverse))∧Sq n (b.map List.reverse):=
 ⟨zeI _ _ fun r hr=>⟨_,rfl,by simp [zd6]⟩,hb.mapR fun r hr=>by rw [List.length_reverse];exact hb.row r hr⟩
noncomputable def tr2 (n:Nat) (b:List (List Int)):List (List Int):=(rngZ 0 n).map fun i=>(rngZ 0 n).map fun j=>at0 (zax b j.toNat) i.toNat
theorem zoL (n:Nat) (b:List (List Int)):Sq n (tr2 n b):=Sq.map (by simp) fun i hi=>by simp
theorem zoM {n:Nat} {b:List (List Int)} {R C:Nat} (hR:R < n) (hC:C < n):C2 (tr2 n b) R C=C2 b C R:=by
 unfold C2 tr2 zax at0 rngZ
 simp [List.getD,hR,hC]
theorem zhB {n:Nat} {b:List (List Int)} (hn:n≤12) (hb:Sq n b):mapL (gE 0) zd5 [none,some (.sc (.int n)),some (.lst (zab b))] (zad (rngZ 0 n))=.ok (zab (tr2 n b)):=by
 refine zi6 _ _ fun i hi=>⟨_,rfl,?_⟩
 have hi:=zb7 hi
 simp [zd5,show n≤1000 by lia]
 rw [zfA fun j=>at0 (zax b j.toNat) i.toNat]
 ·simp [show n≤1000 by lia]
 ·intro j hj
  have hj:=zb7 hj
  have g1:j < (b.length:Int):=by rw [hb.len];lia
  have g2:i < ((zax b j.toNat).length:Int):=by rw [hb.get (by lia)];lia
  exact⟨_,rfl,by simp [zf5,hi.1,hj.1,g1,g2]⟩
theorem zes {n:Nat} {b:List (List Int)} (hn:n≤12) (hb:Sq n b):mapL (gE 0) zd4 [none,some (.sc (.int n))] (zab b)=.ok (zab (dwn b)):=by
 refine zeI _ _ fun r hr=>⟨_,rfl,?_⟩
 rw [hb.len]
 simp [zd4]
 rw [zfA fun x=>(n:Int) * n + 1 - x]
 ·simp [hb.row r hr,show n≤1000 by lia]
 ·exact fun x hx=>⟨_,rfl,by simp [zf4,zhc (i:=(n:Int)) (j:=n) (.inl (by lia))]⟩
theorem zlb (A B C:SEnv→SRes):sSeq A (sSeq B C)=sSeq (sSeq A B) C:=by
 funext ρ
 show (A ρ).then (fun ρ=>(B ρ).then C)=((A ρ).then B).then C
 cases A ρ <;> rfl
noncomputable def hv4:List (List Int):=[[16,2,3,13],[5,11,10,8],[9,7,6,12],[4,14,15,1]]
theorem zn9 (s:List Int) (k n:Nat) (s0:Int) (h1:1≤n) (hn:n≤12) (ho:n % 2=1∧Lk n s0 (bsB n)∨n=4∧Lk 4 s0 hv4):∃ (b:List (List Int)) (t:Int),zcE [.scr s,.sc (.int k),.sc (.int n)]=.ok (.lst (zab b))∧Lk n t b:=by
 obtain⟨o,eo,hop,hof⟩:=zom (zbc s k) n h1 hn
 have hO:=zj8 hop
 have c1:=zfR s k
 have c2:=zfR s (k + 1)
 rw [show ((k + 1:Nat):Int)=(k:Int) + 1 by lia] at c2
 have first:∃ (x4 x5 x6:Option (Md×T)) (m:Md) (b:List (List Int)),(sSeq (sSet 3 [false,false,false,false,false,false,false,false,false] (eLst (zae (eLst (zae (eC (.int 16)) (zae (eC (.int 2)) (zae (eC (.int 3)) (zae (eC (.int 13)) aNil))))) (zae (eLst (zae (eC (.int 5)) (zae (eC (.int 11)) (zae (eC (.int 10)) (zae (eC (.int 8)) aNil))))) (zae (eLst (zae (eC (.int 9)) (zae (eC (.int 7)) (zae (eC (.int 6)) (zae (eC (.int 12)) aNil))))) (zae (eLst (zae (eC (.int 4)) (zae (eC (.int 14)) (zae (eC (.int 15)) (zae (eC (.int 1)) aNil))))) aNil))))))
   (sIf [false,false,true,false,false,false,false,false,false] (eB (eOp (oEq) (eOp (oI iMod) (eVar 2) (eC (.int 2))) (eC (.int 1)))) (sSeq (sSet 3 [false,false,false,false,false,false,false,false,false] (eLst aNil))
    (sFor [false,false,true,false,false,false,false,false,false] (iRng rng1 (zae (eVar 2) aNil)) (gS 4) zc4)) sNil))
   [some (.al,.scr s),some (.al,.sc (.int k)),some (.al,.sc (.int n)),none,none,none,none,none,none]=.nx [some (.al,.scr s),some (.al,.sc (.int k)),some (.al,.sc (.int n)),some (m,.lst (zab b)),x4,x5,x6,none,none]∧m≠.al∧Lk n s0 b:=by
  rcases ho with ⟨hodd,hl⟩ | ⟨hn4,hl⟩
  ·obtain⟨ρ',e,x4,x5,x6,m,rfl,hm⟩:=zlt n h1 hn s k none none .fu (by decide)
   refine ⟨x4,x5,x6,m,_,?_,hm,hl⟩
   simp at e
   simp [show (n:Int) % 2=1 by lia,show n≤1000 by lia,e]
  ·subst hn4
   refine ⟨none,none,none,.fu,[[16,2,3,13],[5,11,10,8],[9,7,6,12],[4,14,15,1]],?_,by decide,hl⟩
   simp
 obtain⟨x4,x5,x6,m,b,e1,hm,kb⟩:=first
 have hb:=kb.sq
 have p1:=zmi hn hb hO (F3:=zf7) (F4:=zf6) rfl rfl
 have hb1:Sq n (o.map fun i=>o.map fun j=>at0 (zax b i.toNat) j.toNat):=Sq.map hO.len fun x _=>by rw [List.length_map,hO.len]
 have kb1:Lk n s0 (o.map fun i=>o.map fun j=>at0 (zax b i.toNat) j.toNat):=kb.pick hop hof hb1 fun R C hR hC=>by
  have r1:R < o.length:=by rw [hO.len];exact hR
  have c1:C < o.length:=by rw [hO.len];exact hC
  unfold C2 zax at0
  simp [List.getD,r1,c1]
 generalize (o.map fun i=>o.map fun j=>at0 (zax b i.toNat) j.toNat)=b1 at p1 hb1 kb1
 have ⟨p2,hb2⟩:=znQ hb1
 have kb2:Lk n s0 (b1.map List.reverse):=zrA kb1
 generalize b1.map List.reverse=b2 at p2 hb2 kb2
 have hb3:=zoL n b1
 have kb3:=kb1.tra hb3 fun R C hR hC=>zoM hR hC
 have p3:=zhB hn hb1
 generalize tr2 n b1=b3 at hb3 kb3 p3
 have hb4:=zoL n b2
 have kb4:=kb2.tra hb4 fun R C hR hC=>zoM hR hC
 have p4:=zhB hn hb2
 generalize tr2 n b2=b4 at hb4 kb4 p4
 have d1:=zes hn hb1
 have hd1:=zie hb1
 have kd1:=zkD kb1
 have d2:=zes hn hb2
 have hd2:=zie hb2
 have kd2:=zkD kb2
 have d3:=zes hn hb3
 have hd3:=zie hb3
 have kd3:=zkD kb3
 have d4:=zes hn hb4
 have hd4:=zie hb4
 have kd4:=zkD kb4
 generalize dwn b1=c1' at d1 hd1 kd1
 generalize dwn b2=c2' at d2 hd2 kd2
 generalize dwn b3=c3' at d3 hd3 kd3
 generalize dwn b4=c4' at d4 hd4 kd4
 have l1:∀ {b:List (List Int)},Sq n b→b.length≤1000:=fun h=>by rw [h.len];lia
 have e0:zcE [.scr s,.sc (.int k),.sc (.int n)]=fin .fu (zfW [some (.al,.scr s),some (.al,.sc (.int k)),some (.al,.sc (.int n)),none,none,none,none,none,none]):=rfl
 rw [e0]
 unfold zfW
 rw [show ze2=sSeq _ ze3 from rfl,zlb,zpz]
 erw [e1]
 by_cases q1:zbc s (k + 1) % 2=1 <;> by_cases q2:zbc s (k + 1) / 2 % 2=1 <;> by_cases q3:zbc s (k + 1) / 4 % 2=1
 ·exact⟨c4',_,by simp [c1,c2,eo,p1,p2,p4,d4,q1,q2,q3,l1 hb1,l1 hb2,l1 hb4,l1 hd4,show n≤1000 by lia],kd4⟩
 ·exact⟨b4,_,by simp [c1,c2,eo,p1,p2,p4,q1,q2,q3,l1 hb1,l1 hb2,l1 hb4,show n≤1000 by lia],kb4⟩
 ·exact⟨c2',_,by simp [c1,c2,eo,p1,p2,d2,q1,q2,q3,l1 hb1,l1 hb2,l1 hd2,show n≤1000 by lia],kd2⟩
 ·exact⟨b2,_,by simp [c1,c2,eo,p1,p2,q1,q2,q3,l1 hb1,l1 hb2,show n≤1000 by lia],kb2⟩
 ·exact⟨c3',_,by simp [c1,c2,eo,p1,p3,d3,q1,q2,q3,l1 hb1,l1 hb3,l1 hd3,show n≤1000 by lia],kd3⟩
 ·exact⟨b3,_,by simp [c1,c2,eo,p1,p3,q1,q2,q3,l1 hb1,l1 hb3,show n≤1000 by lia],kb3⟩
 ·exact⟨c1',_,by simp [c1,c2,eo,p1,d1,q1,q2,q3,l1 hb1,l1 hd1,show n≤1000 by lia],kd1⟩
 ·exact⟨b1,_,by simp [c1,c2,eo,p1,q1,q2,q3,l1 hb1,show n≤1000 by lia],kb1⟩
noncomputable def lkB (n:Nat) (s:Int) (b:List (List Int)):Bool:=b.length == n && b.all (fun r=>r.length == n) && (rngZ 1 (n * n)).all (fun v=>b.flatten.contains v) && (List.range n).all (fun R=>sumN n (fun C=>C2 b R C) == s) && (List.range n).all (fun C=>sumN n (fun R=>C2 b R C) == s) && sumN n (fun k=>C2 b k k) == s && sumN n (fun k=>C2 b k (n - 1 - k)) == s
theorem zp5 {n:Nat} {s:Int} {b:List (List Int)} (h:lkB n s b=true):Lk n s b:=by
 unfold lkB at h
 simp only [Bool.and_eq_true,beq_iff_eq,List.all_eq_true,List.contains_iff_mem] at h
 obtain⟨⟨⟨⟨⟨⟨h1,h2⟩,h3⟩,h4⟩,h5⟩,h6⟩,h7⟩:=h
 refine ⟨⟨h1,h2⟩,fun v v0 v1=>?_,fun R hR=>h4 R (List.mem_range.mpr hR),fun C hC=>h5 C (List.mem_range.mpr hC),h6,h7⟩
 obtain⟨r,hr,hv⟩:=List.mem_flatten.mp (h3 v (zcT.mpr ⟨v0,v1⟩))
 obtain⟨R,hR,eR⟩:=List.mem_iff_getElem.mp hr
 obtain⟨C,hC,eC⟩:=List.mem_iff_getElem.mp hv
 refine ⟨R,C,by lia,by rw [h2 r hr] at hC;exact hC,?_⟩
 subst eR
 unfold C2 zax at0
 simp [List.getD,hR,hC,eC]
theorem ztl:Lk 1 1 (bsB 1):=zp5 (by decide)
theorem ztk:Lk 3 15 (bsB 3):=zp5 (by decide)
theorem ztj:Lk 4 34 hv4:=zp5 (by decide)
theorem zon {n:Nat} (b:List (List Int)):Ext n b b:=fun _ _ _ _ _=>rfl
theorem zpw (v:Int):∃ n:Nat,(n=1∨n=3∨n=4)∧atI [T.sc (.int 1),T.sc (.int 3),T.sc (.int 3),T.sc (.int 4)] (v % 4)=some (.sc (.int n)):=by
 have h0:0≤v % 4∧v % 4 < 4:=by lia
 generalize v % 4=f at h0
 have:f=0∨f=1∨f=2∨f=3:=by lia
 rcases this with rfl | rfl | rfl | rfl
 ·exact⟨1,.inl rfl,rfl⟩
 ·exact⟨3,.inr (.inl rfl),rfl⟩
 ·exact⟨3,.inr (.inl rfl),rfl⟩
 ·exact⟨4,.inr (.inr rfl),rfl⟩
theorem zrH (ns:List Int) (n:Nat) (hn:n=1∨n=3∨n=4):∃ B,zcE [.scr ns,.sc (.int 0),.sc (.int n)]=.ok (.lst (zab B))∧LB n B:=by
 have:∃ s0,(n % 2=1∧Lk n s0 (bsB n)∨n=4∧Lk 4 s0 hv4):=by
  rcases hn with rfl | rfl | rfl
  ·exact⟨1,.inl ⟨rfl,ztl⟩⟩
  ·exact⟨15,.inl ⟨rfl,ztk⟩⟩
  ·exact⟨34,.inr ⟨rfl,ztj⟩⟩
 obtain⟨s0,h⟩:=this
 obtain⟨B,t,e,hB⟩:=zn9 ns 0 n s0 (by lia) (by lia) h
 exact⟨B,e,zti hB hn⟩
theorem zsC {o:List (List Int)} (h:Sq 3 o) (hz:∀ R C,R < 3→C < 3→C2 o R C=0):o=[[0,0,0],[0,0,0],[0,0,0]]:=by
 refine zlP h ⟨rfl,by decide⟩ fun R C hR hC=>?_
 have e:∀ R,R < 3→∀ C,C < 3→at0 (zax [[0,0,0],[0,0,0],[0,0,0]] R) C=0:=by decide
 rw [e R hR C hC]
 exact hz R C hR hC
theorem zty {n:Nat} {B o:List (List Int)} (hn:n=1∨n=3∨n=4) (hB:LB n B) (pt:Pt n o) (ag:Ext n o B) (hz:n=3→∀ R C,R < n→C < n→C2 o R C=0) (t0 t1 t4 t5 x7 x8 x9 x10:Option (Md×T)) (m2 m3 m6:Md) :
  znI [t0,t1,some (m2,.sc (.int n)),some (m3,.lst (zab B)),t4,t5,some (m6,.lst (bdsT (filP n o))),x7,x8,x9,x10]=.rt .fu (.sc (.bl true)):=by
 by_cases h3:n=3
 ·subst h3
  have ez:=zsC pt.sq (hz rfl)
  have hm:B∈filP 3 o:=znf pt hB ag
  have ek:filP 3 o=K8:=by rw [ez];exact zqP
  rw [ek] at hm
  have kk:=zrJ (n:=3) (b:=B) ⟨hB.pt.sq,hB.sur⟩ (by decide) (by decide)
  rw [zrO B hm] at kk
  have kk':zmH [.lst (zab B)]=.ok (.lst (bdsT K8)):=kk
  have eq:=zpY K8 K8
  rw [ek]
  simp [kk',eq]
 ·have h3':¬ (n:Int)=3:=by lia
  simp [h3']
theorem zmR (ns:List Int) (n:Nat) (hn:n=1∨n=3∨n=4) {B:List (List Int)} (hB:LB n B) (l:List Int) (hl:∀ k∈l,0≤k∧k < (n:Int) * n) (h4:n=4→l.length≤6) (h3:n=3→∀ k:Nat,k < 9→(k:Int)∈l) (t1:Option (Md×T)) (m4:Md) :
  zew [some (.al,.scr ns),t1,some (.fu,.sc (.int n)),some (.fu,.lst (zab B)),some (m4,.lst (zad l)),none,none,none,none,none,none]=.rt .fu (.sc (.bl true)):=by
 have h1:1≤n:=by lia
 have hn4:n≤4:=by lia
 have sqB:=hB.pt.sq
 have on:oc 0 B=[]:=(zke sqB).mpr hB.full
 have ec:=zeI (F:=zjI) (ρ:=[none]) (gE:=gE 0) (fun r=>r) B fun r hr=>⟨[some (.lst (zad r))],rfl,by
  have:r.length≤1000:=by rw [sqB.row r hr];lia
  simp [zjI,zhE this]⟩
 rw [List.map_id'] at ec
 have zl:(zab B).length≤1000:=by rw [zdd,sqB.len];lia
 have hop:Op n B:=hB.pt.op h1 hn4 fun _=>by rw [on];simp
 have ef:=zdV hop hB.pt fun _=>hB
 have eP:filP n B=[B]:=by unfold filP;rw [on];rfl
 have ne:oNe (.lst (bdsT [B])) (.lst [.lst (zab B)])=some (.sc (.bl false)):=by
  have:=zpX [B] [B]
  simpa [bdsT] using this
 obtain⟨o',m2',m5',m6',x7',x8',x9',x10',e2,p1,p2,p3⟩:=zgk h1 hn4 hB (some (.al,.scr ns)) t1 (some (.al,.lst (zad l))) .fu l B .fu .fu none none none none hB.pt (fun _=>hB) (zon B) hl fun q=>by rw [on];simpa using h4 q
 have ee:=zty hn hB p1 p2 (fun q R C hR hC=>p3 R C hR hC (.inl (by
  subst q
  exact h3 rfl _ (by lia)))) (some (.al,.scr ns)) t1 (some (.al,.lst (zad l))) (some (m5',.lst (zab o'))) x7' x8' x9' x10' m2' .fu m6'
 rw [eP] at e2 ef
 simp [ec,zeo zl,ef,ne,e2]
 simpa using ee
theorem law_true (ns:List Int) (h:ns.length≤63):zn7 [.scr ns]=.ok (.sc (.bl true)):=by
 have c5:=zfR ns 5
 have c6:=zfR ns 6
 have c7:=zfR ns 7
 obtain⟨n,hn,es⟩:=zpw (zbc ns 5)
 obtain⟨B,eB,hB⟩:=zrH ns n hn
 have z2:=zk5 (n:=n) (by lia)
 have z0:(0:Int)≤(n:Int) * n:=Int.mul_nonneg (by lia) (by lia)
 have mn:=zdn (i:=(n:Int)) (j:=n) (.inl (by lia))
 have md4:=zhd (i:=zbc ns 5) (j:=4) (by decide)
 obtain⟨p,ep,hp⟩:=zka (zbc ns 6) ((n:Int) * n) z0 (by lia)
 have ln:zdG [T.sc (V.int 1),T.sc (V.int 3),T.sc (V.int 3),T.sc (V.int 4)]=some (.lst [T.sc (V.int 1),T.sc (V.int 3),T.sc (V.int 3),T.sc (V.int 4)]):=if_pos (by decide)
 have hr:∀ k∈p,0≤k∧k < (n:Int) * n:=fun k hk=>by
  have:=zb7 (hp.mem_iff.mp hk)
  lia
 have h3:n=3→∀ k:Nat,k < 9→(k:Int)∈p:=fun q k hk=>by
  subst q
  exact hp.mem_iff.mpr (zcT.mpr ⟨by lia,by show (k:Int) < 0 + ((9:Nat):Int);lia⟩)
 simp at c5 c6 c7
 by_cases h4:n=4
 ·subst h4
  have eB':zcE [.scr ns,.sc (.int 0),.sc (.int 4)]=.ok (.lst (zab B)):=eB
  have mn':iMul 4 4=some (.int 16):=mn
  have ep':zcb [.sc (.int (zbc ns 6)),.sc (.int 16)]=.ok (.lst (zad p)):=ep
  have es':atI [T.sc (.int 1),T.sc (.int 3),T.sc (.int 3),T.sc (.int 4)] (zbc ns 5 % 4)=some (.sc (.int 4)):=es
  have md7:=zhd (i:=zbc ns 7) (j:=7) (by decide)
  have v0:0≤zbc ns 7 % 7∧zbc ns 7 % 7 < 7:=by lia
  simp [zn7,zqI,zlF,c5,md4,es',ln,eB',mn',c6,ep',c7,md7,-zew]
  have hc:∀ k∈cutZ p none (some (zbc ns 7 % 7)),k∈p:=fun k hk=>by
   unfold cutZ at hk
   exact List.mem_of_mem_drop (List.mem_of_mem_take hk)
  have hz:(cutZ p none (some (zbc ns 7 % 7))).length≤6:=by
   unfold cutZ
   rw [List.length_take]
   have:HT.sIx p.length p.length (some (zbc ns 7 % 7))≤6:=by
    show (if zbc ns 7 % 7 < 0 then (zbc ns 7 % 7 + (p.length:Int)).toNat else min (zbc ns 7 % 7).toNat p.length)≤6
    rw [if_neg (by lia)]
    lia
   lia
  have:=zmR ns 4 hn hB (cutZ p none (some (zbc ns 7 % 7))) (fun k hk=>hr k (hc k hk)) (fun _=>hz) (fun q=>absurd q (by decide)) (some (.fu,.sc (.int (zbc ns 5)))) .fu
  have this':zew [some (.al,.scr ns),some (.fu,.sc (.int (zbc ns 5))),some (.fu,.sc (.int 4)),some (.fu,.lst (zab B)),some (.fu,.lst (zad (cutZ p none (some (zbc ns 7 % 7))))),none,none,none,none,none,none]=.rt .fu (.sc (.bl true)):=this
  rw [this']
  rfl
 ·have h4':¬ (n:Int)=4:=by lia
  simp [zn7,zqI,zlF,c5,md4,es,ln,eB,mn,c6,ep,h4',-zew]
  rw [zmR ns n hn hB p hr (fun q=>absurd q h4) h3]
  rfl
end Qk10
namespace Qk10
open PySem PySem.Spec L2 TL
open PyProof.Rows hiding St
theorem txt_mk {K:PySem.W.Frag} {h:Heap} {mg:Str→Option Value} {fa f_0 f_1 f_2 f_3 f_4 f_5 f_6 f_7 f_8 f_9 f_10 f_11 f_12 f_13 f_14 f_15 f_16 f_17 f_18 f_19 f_20 f_21 f_22 f_23 f_24 f_25 f_26 f_27 C_SumError C_BadBoard C_TooOpen:Addr} (X:K.In h) (G:h.Ns mainGlobals mg) (hfa:mg "law" = some (.ref fa))
  {tk_LARGEST_OPEN_SIZE tk_LARGEST_SIZE tk_MOST_OPEN_CELLS tk_OPEN_MARK:Nat}
  {od_0 an_0:Option Addr} {sl_0:Array (Option Value)} {oc_0 kV_0 dc_0 pm_0 cd_0 ct_0:Value}
  (a_0:PySem.W.nsIn K mainGlobals "joined" = some (some (.ref f_0)))
  (l_0:K.lookup f_0=some ⟨oc_0,od_0,.func (PySem.W.fnOf "joined" "joined" (defArgs zcN) (defBody zcN) (defScope zcN) .none kV_0 dc_0 pm_0 an_0 cd_0 ct_0),sl_0⟩)
  (c_0:PySem.W.codeIn K cd_0 "joined" = true) (k_0:PySem.W.keepIn K (.ref f_0)=true)
  {od_1 an_1:Option Addr} {sl_1:Array (Option Value)} {oc_1 kV_1 dc_1 pm_1 cd_1 ct_1:Value}
  (a_1:PySem.W.nsIn K mainGlobals "check_square" = some (some (.ref f_1)))
  (l_1:K.lookup f_1=some ⟨oc_1,od_1,.func (PySem.W.fnOf "check_square" "check_square" (defArgs zaU) (defBody zaU) (defScope zaU) .none kV_1 dc_1 pm_1 an_1 cd_1 ct_1),sl_1⟩)
  (c_1:PySem.W.codeIn K cd_1 "check_square" = true) (k_1:PySem.W.keepIn K (.ref f_1)=true)
  {od_2 an_2:Option Addr} {sl_2:Array (Option Value)} {oc_2 kV_2 dc_2 pm_2 cd_2 ct_2:Value}
  (a_2:PySem.W.nsIn K mainGlobals "check_board" = some (some (.ref f_2)))
  (l_2:K.lookup f_2=some ⟨oc_2,od_2,.func (PySem.W.fnOf "check_board" "check_board" (defArgs za5) (defBody za5) (defScope za5) .none kV_2 dc_2 pm_2 an_2 cd_2 ct_2),sl_2⟩)
  (c_2:PySem.W.codeIn K cd_2 "check_board" = true) (k_2:PySem.W.keepIn K (.ref f_2)=true)
  {od_3 an_3:Option Addr} {sl_3:Array (Option Value)} {oc_3 kV_3 dc_3 pm_3 cd_3 ct_3:Value}
  (a_3:PySem.W.nsIn K mainGlobals "column" = some (some (.ref f_3)))
  (l_3:K.lookup f_3=some ⟨oc_3,od_3,.func (PySem.W.fnOf "column" "column" (defArgs zcP) (defBody zcP) (defScope zcP) .none kV_3 dc_3 pm_3 an_3 cd_3 ct_3),sl_3⟩)
  (c_3:PySem.W.codeIn K cd_3 "column" = true) (k_3:PySem.W.keepIn K (.ref f_3)=true)
  {od_4 an_4:Option Addr} {sl_4:Array (Option Value)} {oc_4 kV_4 dc_4 pm_4 cd_4 ct_4:Value}
  (a_4:PySem.W.nsIn K mainGlobals "columns" = some (some (.ref f_4)))
  (l_4:K.lookup f_4=some ⟨oc_4,od_4,.func (PySem.W.fnOf "columns" "columns" (defArgs zch) (defBody zch) (defScope zch) .none kV_4 dc_4 pm_4 an_4 cd_4 ct_4),sl_4⟩)
  (c_4:PySem.W.codeIn K cd_4 "columns" = true) (k_4:PySem.W.keepIn K (.ref f_4)=true)
  {od_5 an_5:Option Addr} {sl_5:Array (Option Value)} {oc_5 kV_5 dc_5 pm_5 cd_5 ct_5:Value}
  (a_5:PySem.W.nsIn K mainGlobals "long_ways" = some (some (.ref f_5)))
  (l_5:K.lookup f_5=some ⟨oc_5,od_5,.func (PySem.W.fnOf "long_ways" "long_ways" (defArgs zbt) (defBody zbt) (defScope zbt) .none kV_5 dc_5 pm_5 an_5 cd_5 ct_5),sl_5⟩)
  (c_5:PySem.W.codeIn K cd_5 "long_ways" = true) (k_5:PySem.W.keepIn K (.ref f_5)=true)
  {od_6 an_6:Option Addr} {sl_6:Array (Option Value)} {oc_6 kV_6 dc_6 pm_6 cd_6 ct_6:Value}
  (a_6:PySem.W.nsIn K mainGlobals "line_sums" = some (some (.ref f_6)))
  (l_6:K.lookup f_6=some ⟨oc_6,od_6,.func (PySem.W.fnOf "line_sums" "line_sums" (defArgs zbu) (defBody zbu) (defScope zbu) .none kV_6 dc_6 pm_6 an_6 cd_6 ct_6),sl_6⟩)
  (c_6:PySem.W.codeIn K cd_6 "line_sums" = true) (k_6:PySem.W.keepIn K (.ref f_6)=true)
  {od_7 an_7:Option Addr} {sl_7:Array (Option Value)} {oc_7 kV_7 dc_7 pm_7 cd_7 ct_7:Value}
  (a_7:PySem.W.nsIn K mainGlobals "sums" = some (some (.ref f_7)))
  (l_7:K.lookup f_7=some ⟨oc_7,od_7,.func (PySem.W.fnOf "sums" "sums" (defArgs zft) (defBody zft) (defScope zft) .none kV_7 dc_7 pm_7 an_7 cd_7 ct_7),sl_7⟩)
  (c_7:PySem.W.codeIn K cd_7 "sums" = true) (k_7:PySem.W.keepIn K (.ref f_7)=true)
  {od_8 an_8:Option Addr} {sl_8:Array (Option Value)} {oc_8 kV_8 dc_8 pm_8 cd_8 ct_8:Value}
  (a_8:PySem.W.nsIn K mainGlobals "is_like" = some (some (.ref f_8)))
  (l_8:K.lookup f_8=some ⟨oc_8,od_8,.func (PySem.W.fnOf "is_like" "is_like" (defArgs zcg) (defBody zcg) (defScope zcg) .none kV_8 dc_8 pm_8 an_8 cd_8 ct_8),sl_8⟩)
  (c_8:PySem.W.codeIn K cd_8 "is_like" = true) (k_8:PySem.W.keepIn K (.ref f_8)=true)
  {od_9 an_9:Option Addr} {sl_9:Array (Option Value)} {oc_9 kV_9 dc_9 pm_9 cd_9 ct_9:Value}
  (a_9:PySem.W.nsIn K mainGlobals "check_open_board" = some (some (.ref f_9)))
  (l_9:K.lookup f_9=some ⟨oc_9,od_9,.func (PySem.W.fnOf "check_open_board" "check_open_board" (defArgs zaA) (defBody zaA) (defScope zaA) .none kV_9 dc_9 pm_9 an_9 cd_9 ct_9),sl_9⟩)
  (c_9:PySem.W.codeIn K cd_9 "check_open_board" = true) (k_9:PySem.W.keepIn K (.ref f_9)=true)
  {od_10 an_10:Option Addr} {sl_10:Array (Option Value)} {oc_10 kV_10 dc_10 pm_10 cd_10 ct_10:Value}
  (a_10:PySem.W.nsIn K mainGlobals "open_cells" = some (some (.ref f_10)))
  (l_10:K.lookup f_10=some ⟨oc_10,od_10,.func (PySem.W.fnOf "open_cells" "open_cells" (defArgs zbd) (defBody zbd) (defScope zbd) .none kV_10 dc_10 pm_10 an_10 cd_10 ct_10),sl_10⟩)
  (c_10:PySem.W.codeIn K cd_10 "open_cells" = true) (k_10:PySem.W.keepIn K (.ref f_10)=true)
  {od_11 an_11:Option Addr} {sl_11:Array (Option Value)} {oc_11 kV_11 dc_11 pm_11 cd_11 ct_11:Value}
  (a_11:PySem.W.nsIn K mainGlobals "check_not_too_open" = some (some (.ref f_11)))
  (l_11:K.lookup f_11=some ⟨oc_11,od_11,.func (PySem.W.fnOf "check_not_too_open" "check_not_too_open" (defArgs zav) (defBody zav) (defScope zav) .none kV_11 dc_11 pm_11 an_11 cd_11 ct_11),sl_11⟩)
  (c_11:PySem.W.codeIn K cd_11 "check_not_too_open" = true) (k_11:PySem.W.keepIn K (.ref f_11)=true)
  {od_12 an_12:Option Addr} {sl_12:Array (Option Value)} {oc_12 kV_12 dc_12 pm_12 cd_12 ct_12:Value}
  (a_12:PySem.W.nsIn K mainGlobals "copied" = some (some (.ref f_12)))
  (l_12:K.lookup f_12=some ⟨oc_12,od_12,.func (PySem.W.fnOf "copied" "copied" (defArgs zcO) (defBody zcO) (defScope zcO) .none kV_12 dc_12 pm_12 an_12 cd_12 ct_12),sl_12⟩)
  (c_12:PySem.W.codeIn K cd_12 "copied" = true) (k_12:PySem.W.keepIn K (.ref f_12)=true)
  {od_13 an_13:Option Addr} {sl_13:Array (Option Value)} {oc_13 kV_13 dc_13 pm_13 cd_13 ct_13:Value}
  (a_13:PySem.W.nsIn K mainGlobals "missing_numbers" = some (some (.ref f_13)))
  (l_13:K.lookup f_13=some ⟨oc_13,od_13,.func (PySem.W.fnOf "missing_numbers" "missing_numbers" (defArgs zaE) (defBody zaE) (defScope zaE) .none kV_13 dc_13 pm_13 an_13 cd_13 ct_13),sl_13⟩)
  (c_13:PySem.W.codeIn K cd_13 "missing_numbers" = true) (k_13:PySem.W.keepIn K (.ref f_13)=true)
  {od_14 an_14:Option Addr} {sl_14:Array (Option Value)} {oc_14 kV_14 dc_14 pm_14 cd_14 ct_14:Value}
  (a_14:PySem.W.nsIn K mainGlobals "asked_sum" = some (some (.ref f_14)))
  (l_14:K.lookup f_14=some ⟨oc_14,od_14,.func (PySem.W.fnOf "asked_sum" "asked_sum" (defArgs zbw) (defBody zbw) (defScope zbw) .none kV_14 dc_14 pm_14 an_14 cd_14 ct_14),sl_14⟩)
  (c_14:PySem.W.codeIn K cd_14 "asked_sum" = true) (k_14:PySem.W.keepIn K (.ref f_14)=true)
  {od_15 an_15:Option Addr} {sl_15:Array (Option Value)} {oc_15 kV_15 dc_15 pm_15 cd_15 ct_15:Value}
  (a_15:PySem.W.nsIn K mainGlobals "may_be_like" = some (some (.ref f_15)))
  (l_15:K.lookup f_15=some ⟨oc_15,od_15,.func (PySem.W.fnOf "may_be_like" "may_be_like" (defArgs za4) (defBody za4) (defScope za4) .none kV_15 dc_15 pm_15 an_15 cd_15 ct_15),sl_15⟩)
  (c_15:PySem.W.codeIn K cd_15 "may_be_like" = true) (k_15:PySem.W.keepIn K (.ref f_15)=true)
  {od_16 an_16:Option Addr} {sl_16:Array (Option Value)} {oc_16 kV_16 dc_16 pm_16 cd_16 ct_16:Value}
  (a_16:PySem.W.nsIn K mainGlobals "filled_at" = some (some (.ref f_16)))
  (l_16:K.lookup f_16=some ⟨oc_16,od_16,.func (PySem.W.fnOf "filled_at" "filled_at" (defArgs zbv) (defBody zbv) (defScope zbv) .none kV_16 dc_16 pm_16 an_16 cd_16 ct_16),sl_16⟩)
  (c_16:PySem.W.codeIn K cd_16 "filled_at" = true) (k_16:PySem.W.keepIn K (.ref f_16)=true)
  {od_17 an_17:Option Addr} {sl_17:Array (Option Value)} {oc_17 kV_17 dc_17 pm_17 cd_17 ct_17:Value}
  (a_17:PySem.W.nsIn K mainGlobals "fillings" = some (some (.ref f_17)))
  (l_17:K.lookup f_17=some ⟨oc_17,od_17,.func (PySem.W.fnOf "fillings" "fillings" (defArgs zbP) (defBody zbP) (defScope zbP) .none kV_17 dc_17 pm_17 an_17 cd_17 ct_17),sl_17⟩)
  (c_17:PySem.W.codeIn K cd_17 "fillings" = true) (k_17:PySem.W.keepIn K (.ref f_17)=true)
  {od_18 an_18:Option Addr} {sl_18:Array (Option Value)} {oc_18 kV_18 dc_18 pm_18 cd_18 ct_18:Value}
  (a_18:PySem.W.nsIn K mainGlobals "how_many" = some (some (.ref f_18)))
  (l_18:K.lookup f_18=some ⟨oc_18,od_18,.func (PySem.W.fnOf "how_many" "how_many" (defArgs zbO) (defBody zbO) (defScope zbO) .none kV_18 dc_18 pm_18 an_18 cd_18 ct_18),sl_18⟩)
  (c_18:PySem.W.codeIn K cd_18 "how_many" = true) (k_18:PySem.W.keepIn K (.ref f_18)=true)
  {od_19 an_19:Option Addr} {sl_19:Array (Option Value)} {oc_19 kV_19 dc_19 pm_19 cd_19 ct_19:Value}
  (a_19:PySem.W.nsIn K mainGlobals "turned" = some (some (.ref f_19)))
  (l_19:K.lookup f_19=some ⟨oc_19,od_19,.func (PySem.W.fnOf "turned" "turned" (defArgs zcM) (defBody zcM) (defScope zcM) .none kV_19 dc_19 pm_19 an_19 cd_19 ct_19),sl_19⟩)
  (c_19:PySem.W.codeIn K cd_19 "turned" = true) (k_19:PySem.W.keepIn K (.ref f_19)=true)
  {od_20 an_20:Option Addr} {sl_20:Array (Option Value)} {oc_20 kV_20 dc_20 pm_20 cd_20 ct_20:Value}
  (a_20:PySem.W.nsIn K mainGlobals "mirrored" = some (some (.ref f_20)))
  (l_20:K.lookup f_20=some ⟨oc_20,od_20,.func (PySem.W.fnOf "mirrored" "mirrored" (defArgs zbN) (defBody zbN) (defScope zbN) .none kV_20 dc_20 pm_20 an_20 cd_20 ct_20),sl_20⟩)
  (c_20:PySem.W.codeIn K cd_20 "mirrored" = true) (k_20:PySem.W.keepIn K (.ref f_20)=true)
  {od_21 an_21:Option Addr} {sl_21:Array (Option Value)} {oc_21 kV_21 dc_21 pm_21 cd_21 ct_21:Value}
  (a_21:PySem.W.nsIn K mainGlobals "kin" = some (some (.ref f_21)))
  (l_21:K.lookup f_21=some ⟨oc_21,od_21,.func (PySem.W.fnOf "kin" "kin" (defArgs ziP) (defBody ziP) (defScope ziP) .none kV_21 dc_21 pm_21 an_21 cd_21 ct_21),sl_21⟩)
  (c_21:PySem.W.codeIn K cd_21 "kin" = true) (k_21:PySem.W.keepIn K (.ref f_21)=true)
  {od_22 an_22:Option Addr} {sl_22:Array (Option Value)} {oc_22 kV_22 dc_22 pm_22 cd_22 ct_22:Value}
  (a_22:PySem.W.nsIn K mainGlobals "_law_cell_at" = some (some (.ref f_22)))
  (l_22:K.lookup f_22=some ⟨oc_22,od_22,.func (PySem.W.fnOf "_law_cell_at" "_law_cell_at" (defArgs zcf) (defBody zcf) (defScope zcf) .none kV_22 dc_22 pm_22 an_22 cd_22 ct_22),sl_22⟩)
  (c_22:PySem.W.codeIn K cd_22 "_law_cell_at" = true) (k_22:PySem.W.keepIn K (.ref f_22)=true)
  {od_23 an_23:Option Addr} {sl_23:Array (Option Value)} {oc_23 kV_23 dc_23 pm_23 cd_23 ct_23:Value}
  (a_23:PySem.W.nsIn K mainGlobals "_law_mix" = some (some (.ref f_23)))
  (l_23:K.lookup f_23=some ⟨oc_23,od_23,.func (PySem.W.fnOf "_law_mix" "_law_mix" (defArgs ziK) (defBody ziK) (defScope ziK) .none kV_23 dc_23 pm_23 an_23 cd_23 ct_23),sl_23⟩)
  (c_23:PySem.W.codeIn K cd_23 "_law_mix" = true) (k_23:PySem.W.keepIn K (.ref f_23)=true)
  {od_24 an_24:Option Addr} {sl_24:Array (Option Value)} {oc_24 kV_24 dc_24 pm_24 cd_24 ct_24:Value}
  (a_24:PySem.W.nsIn K mainGlobals "_law_order_by" = some (some (.ref f_24)))
  (l_24:K.lookup f_24=some ⟨oc_24,od_24,.func (PySem.W.fnOf "_law_order_by" "_law_order_by" (defArgs zbL) (defBody zbL) (defScope zbL) .none kV_24 dc_24 pm_24 an_24 cd_24 ct_24),sl_24⟩)
  (c_24:PySem.W.codeIn K cd_24 "_law_order_by" = true) (k_24:PySem.W.keepIn K (.ref f_24)=true)
  {od_25 an_25:Option Addr} {sl_25:Array (Option Value)} {oc_25 kV_25 dc_25 pm_25 cd_25 ct_25:Value}
  (a_25:PySem.W.nsIn K mainGlobals "_law_fair_by" = some (some (.ref f_25)))
  (l_25:K.lookup f_25=some ⟨oc_25,od_25,.func (PySem.W.fnOf "_law_fair_by" "_law_fair_by" (defArgs zce) (defBody zce) (defScope zce) .none kV_25 dc_25 pm_25 an_25 cd_25 ct_25),sl_25⟩)
  (c_25:PySem.W.codeIn K cd_25 "_law_fair_by" = true) (k_25:PySem.W.keepIn K (.ref f_25)=true)
  {od_26 an_26:Option Addr} {sl_26:Array (Option Value)} {oc_26 kV_26 dc_26 pm_26 cd_26 ct_26:Value}
  (a_26:PySem.W.nsIn K mainGlobals "_law_like_by" = some (some (.ref f_26)))
  (l_26:K.lookup f_26=some ⟨oc_26,od_26,.func (PySem.W.fnOf "_law_like_by" "_law_like_by" (defArgs zcd) (defBody zcd) (defScope zcd) .none kV_26 dc_26 pm_26 an_26 cd_26 ct_26),sl_26⟩)
  (c_26:PySem.W.codeIn K cd_26 "_law_like_by" = true) (k_26:PySem.W.keepIn K (.ref f_26)=true)
  {od_27 an_27:Option Addr} {sl_27:Array (Option Value)} {oc_27 kV_27 dc_27 pm_27 cd_27 ct_27:Value}
  (a_27:PySem.W.nsIn K mainGlobals "law" = some (some (.ref f_27)))
  (l_27:K.lookup f_27=some ⟨oc_27,od_27,.func (PySem.W.fnOf "law" "law" (defArgs s_law) (defBody s_law) (defScope s_law) .none kV_27 dc_27 pm_27 an_27 cd_27 ct_27),sl_27⟩)
  (c_27:PySem.W.codeIn K cd_27 "law" = true) (k_27:PySem.W.keepIn K (.ref f_27)=true)
  (aC_SumError:PySem.W.nsIn K mainGlobals "SumError" = some (some (.ref C_SumError)))
  (aC_BadBoard:PySem.W.nsIn K mainGlobals "BadBoard" = some (some (.ref C_BadBoard)))
  (aC_TooOpen:PySem.W.nsIn K mainGlobals "TooOpen" = some (some (.ref C_TooOpen)))
  (xC_SumError:PySem.W.excIn K C_SumError bmV "ValueError.__new__" = true)
  (e_SumError_SumError:PySem.W.exmOne K (.ref C_SumError) (.ref C_SumError)=some true)
  (e_BadBoard_SumError:PySem.W.exmOne K (.ref C_BadBoard) (.ref C_SumError)=some true)
  (e_TooOpen_SumError:PySem.W.exmOne K (.ref C_TooOpen) (.ref C_SumError)=some true)
  (v_SumError:PySem.W.exmOne K (.ref C_SumError) (.type "ValueError")=some true)
  (xC_BadBoard:PySem.W.excIn K C_BadBoard bmV "ValueError.__new__" = true)
  (e_SumError_BadBoard:PySem.W.exmOne K (.ref C_SumError) (.ref C_BadBoard)=some false)
  (e_BadBoard_BadBoard:PySem.W.exmOne K (.ref C_BadBoard) (.ref C_BadBoard)=some true)
  (e_TooOpen_BadBoard:PySem.W.exmOne K (.ref C_TooOpen) (.ref C_BadBoard)=some false)
  (v_BadBoard:PySem.W.exmOne K (.ref C_BadBoard) (.type "ValueError")=some true)
  (xC_TooOpen:PySem.W.excIn K C_TooOpen bmV "ValueError.__new__" = true)
  (e_SumError_TooOpen:PySem.W.exmOne K (.ref C_SumError) (.ref C_TooOpen)=some false)
  (e_BadBoard_TooOpen:PySem.W.exmOne K (.ref C_BadBoard) (.ref C_TooOpen)=some false)
  (e_TooOpen_TooOpen:PySem.W.exmOne K (.ref C_TooOpen) (.ref C_TooOpen)=some true)
  (v_TooOpen:PySem.W.exmOne K (.ref C_TooOpen) (.type "ValueError")=some true)
  (n_LARGEST_OPEN_SIZE:PySem.W.nsIn K mainGlobals "LARGEST_OPEN_SIZE" = some (some (.int 4 tk_LARGEST_OPEN_SIZE)))
  (n_LARGEST_SIZE:PySem.W.nsIn K mainGlobals "LARGEST_SIZE" = some (some (.int 12 tk_LARGEST_SIZE)))
  (n_MOST_OPEN_CELLS:PySem.W.nsIn K mainGlobals "MOST_OPEN_CELLS" = some (some (.int 6 tk_MOST_OPEN_CELLS)))
  (n_OPEN_MARK:PySem.W.nsIn K mainGlobals "OPEN_MARK" = some (some (.int 0 tk_OPEN_MARK)))
  (z_enumerate:PySem.W.nsIn K mainGlobals "enumerate" = some none)
  (z_len:PySem.W.nsIn K mainGlobals "len" = some none)
  (z_list:PySem.W.nsIn K mainGlobals "list" = some none)
  (z_max:PySem.W.nsIn K mainGlobals "max" = some none)
  (z_min:PySem.W.nsIn K mainGlobals "min" = some none)
  (z_range:PySem.W.nsIn K mainGlobals "range" = some none)
  (z_reversed:PySem.W.nsIn K mainGlobals "reversed" = some none)
  (z_set:PySem.W.nsIn K mainGlobals "set" = some none)
  (z_sorted:PySem.W.nsIn K mainGlobals "sorted" = some none)
  (z_sum:PySem.W.nsIn K mainGlobals "sum" = some none)
  : ∃ t:Adr,Txt K mg t∧t.f_law=fa∧∃ (kV doc pm:Value) (an:Option Addr) (cdv ct:Value),t.d_law=PySem.W.fnOf "law" "law" (defArgs s_law) (defBody s_law) (defScope s_law) .none kV doc pm an cdv ct:=by
 have e:=hfa.symm.trans (PySem.W.mg_of X G a_27)
 cases e
 have F_0:=zaX (st:=zcN) l_0 c_0 k_0
 have b_0:=F_0.binds (ps:=["lists"]) fun _ _ _ _ _ _ us hl=>zbA (P:=fun us=>bindArgs _ ⟨us,[]⟩=pure (List.zip _ us)) hl fun _=>rfl
 have F_1:=zaX (st:=zaU) l_1 c_1 k_1
 have b_1:=F_1.binds (ps:=["board", "largest"]) fun _ _ _ _ _ _ us hl=>zgs (P:=fun us=>bindArgs _ ⟨us,[]⟩=pure (List.zip _ us)) hl fun _ _=>rfl
 have F_2:=zaX (st:=za5) l_2 c_2 k_2
 have b_2:=F_2.binds (ps:=["board"]) fun _ _ _ _ _ _ us hl=>zbA (P:=fun us=>bindArgs _ ⟨us,[]⟩=pure (List.zip _ us)) hl fun _=>rfl
 have F_3:=zaX (st:=zcP) l_3 c_3 k_3
 have b_3:=F_3.binds (ps:=["board", "place"]) fun _ _ _ _ _ _ us hl=>zgs (P:=fun us=>bindArgs _ ⟨us,[]⟩=pure (List.zip _ us)) hl fun _ _=>rfl
 have F_4:=zaX (st:=zch) l_4 c_4 k_4
 have b_4:=F_4.binds (ps:=["board"]) fun _ _ _ _ _ _ us hl=>zbA (P:=fun us=>bindArgs _ ⟨us,[]⟩=pure (List.zip _ us)) hl fun _=>rfl
 have F_5:=zaX (st:=zbt) l_5 c_5 k_5
 have b_5:=F_5.binds (ps:=["board"]) fun _ _ _ _ _ _ us hl=>zbA (P:=fun us=>bindArgs _ ⟨us,[]⟩=pure (List.zip _ us)) hl fun _=>rfl
 have F_6:=zaX (st:=zbu) l_6 c_6 k_6
 have b_6:=F_6.binds (ps:=["lines"]) fun _ _ _ _ _ _ us hl=>zbA (P:=fun us=>bindArgs _ ⟨us,[]⟩=pure (List.zip _ us)) hl fun _=>rfl
 have F_7:=zaX (st:=zft) l_7 c_7 k_7
 have b_7:=F_7.binds (ps:=["board"]) fun _ _ _ _ _ _ us hl=>zbA (P:=fun us=>bindArgs _ ⟨us,[]⟩=pure (List.zip _ us)) hl fun _=>rfl
 have F_8:=zaX (st:=zcg) l_8 c_8 k_8
 have b_8:=F_8.binds (ps:=["board"]) fun _ _ _ _ _ _ us hl=>zbA (P:=fun us=>bindArgs _ ⟨us,[]⟩=pure (List.zip _ us)) hl fun _=>rfl
 have F_9:=zaX (st:=zaA) l_9 c_9 k_9
 have b_9:=F_9.binds (ps:=["board"]) fun _ _ _ _ _ _ us hl=>zbA (P:=fun us=>bindArgs _ ⟨us,[]⟩=pure (List.zip _ us)) hl fun _=>rfl
 have F_10:=zaX (st:=zbd) l_10 c_10 k_10
 have b_10:=F_10.binds (ps:=["board"]) fun _ _ _ _ _ _ us hl=>zbA (P:=fun us=>bindArgs _ ⟨us,[]⟩=pure (List.zip _ us)) hl fun _=>rfl
 have F_11:=zaX (st:=zav) l_11 c_11 k_11
 have b_11:=F_11.binds (ps:=["board"]) fun _ _ _ _ _ _ us hl=>zbA (P:=fun us=>bindArgs _ ⟨us,[]⟩=pure (List.zip _ us)) hl fun _=>rfl
 have F_12:=zaX (st:=zcO) l_12 c_12 k_12
 have b_12:=F_12.binds (ps:=["board"]) fun _ _ _ _ _ _ us hl=>zbA (P:=fun us=>bindArgs _ ⟨us,[]⟩=pure (List.zip _ us)) hl fun _=>rfl
 have F_13:=zaX (st:=zaE) l_13 c_13 k_13
 have b_13:=F_13.binds (ps:=["board"]) fun _ _ _ _ _ _ us hl=>zbA (P:=fun us=>bindArgs _ ⟨us,[]⟩=pure (List.zip _ us)) hl fun _=>rfl
 have F_14:=zaX (st:=zbw) l_14 c_14 k_14
 have b_14:=F_14.binds (ps:=["size"]) fun _ _ _ _ _ _ us hl=>zbA (P:=fun us=>bindArgs _ ⟨us,[]⟩=pure (List.zip _ us)) hl fun _=>rfl
 have F_15:=zaX (st:=za4) l_15 c_15 k_15
 have b_15:=F_15.binds (ps:=["board"]) fun _ _ _ _ _ _ us hl=>zbA (P:=fun us=>bindArgs _ ⟨us,[]⟩=pure (List.zip _ us)) hl fun _=>rfl
 have F_16:=zaX (st:=zbv) l_16 c_16 k_16
 have b_16:=F_16.binds (ps:=["board", "cell"]) fun _ _ _ _ _ _ us hl=>zgs (P:=fun us=>bindArgs _ ⟨us,[]⟩=pure (List.zip _ us)) hl fun _ _=>rfl
 have F_17:=zaX (st:=zbP) l_17 c_17 k_17
 have b_17:=F_17.binds (ps:=["board"]) fun _ _ _ _ _ _ us hl=>zbA (P:=fun us=>bindArgs _ ⟨us,[]⟩=pure (List.zip _ us)) hl fun _=>rfl
 have F_18:=zaX (st:=zbO) l_18 c_18 k_18
 have b_18:=F_18.binds (ps:=["board"]) fun _ _ _ _ _ _ us hl=>zbA (P:=fun us=>bindArgs _ ⟨us,[]⟩=pure (List.zip _ us)) hl fun _=>rfl
 have F_19:=zaX (st:=zcM) l_19 c_19 k_19
 have b_19:=F_19.binds (ps:=["board"]) fun _ _ _ _ _ _ us hl=>zbA (P:=fun us=>bindArgs _ ⟨us,[]⟩=pure (List.zip _ us)) hl fun _=>rfl
 have F_20:=zaX (st:=zbN) l_20 c_20 k_20
 have b_20:=F_20.binds (ps:=["board"]) fun _ _ _ _ _ _ us hl=>zbA (P:=fun us=>bindArgs _ ⟨us,[]⟩=pure (List.zip _ us)) hl fun _=>rfl
 have F_21:=zaX (st:=ziP) l_21 c_21 k_21
 have b_21:=F_21.binds (ps:=["board"]) fun _ _ _ _ _ _ us hl=>zbA (P:=fun us=>bindArgs _ ⟨us,[]⟩=pure (List.zip _ us)) hl fun _=>rfl
 have F_22:=zaX (st:=zcf) l_22 c_22 k_22
 have b_22:=F_22.binds (ps:=["script", "k"]) fun _ _ _ _ _ _ us hl=>zgs (P:=fun us=>bindArgs _ ⟨us,[]⟩=pure (List.zip _ us)) hl fun _ _=>rfl
 have F_23:=zaX (st:=ziK) l_23 c_23 k_23
 have b_23:=F_23.binds (ps:=["cell", "k", "many"]) fun _ _ _ _ _ _ us hl=>zo6 (P:=fun us=>bindArgs _ ⟨us,[]⟩=pure (List.zip _ us)) hl fun _ _ _=>rfl
 have F_24:=zaX (st:=zbL) l_24 c_24 k_24
 have b_24:=F_24.binds (ps:=["cell", "many"]) fun _ _ _ _ _ _ us hl=>zgs (P:=fun us=>bindArgs _ ⟨us,[]⟩=pure (List.zip _ us)) hl fun _ _=>rfl
 have F_25:=zaX (st:=zce) l_25 c_25 k_25
 have b_25:=F_25.binds (ps:=["cell", "size"]) fun _ _ _ _ _ _ us hl=>zgs (P:=fun us=>bindArgs _ ⟨us,[]⟩=pure (List.zip _ us)) hl fun _ _=>rfl
 have F_26:=zaX (st:=zcd) l_26 c_26 k_26
 have b_26:=F_26.binds (ps:=["script", "base", "size"]) fun _ _ _ _ _ _ us hl=>zo6 (P:=fun us=>bindArgs _ ⟨us,[]⟩=pure (List.zip _ us)) hl fun _ _ _=>rfl
 have F_27:=zaX (st:=s_law) l_27 c_27 k_27
 have b_27:=F_27.binds (ps:=["script"]) fun _ _ _ _ _ _ us hl=>zbA (P:=fun us=>bindArgs _ ⟨us,[]⟩=pure (List.zip _ us)) hl fun _=>rfl
 exact⟨⟨f_0,_,f_1,_,f_2,_,f_3,_,f_4,_,f_5,_,f_6,_,f_7,_,f_8,_,f_9,_,f_10,_,f_11,_,f_12,_,f_13,_,f_14,_,f_15,_,f_16,_,f_17,_,f_18,_,f_19,_,f_20,_,f_21,_,f_22,_,f_23,_,f_24,_,f_25,_,f_26,_,fa,_,C_SumError,C_BadBoard,C_TooOpen,tk_LARGEST_OPEN_SIZE,tk_LARGEST_SIZE,tk_MOST_OPEN_CELLS,tk_OPEN_MARK⟩,⟨F_0,PySem.W.mg_of X G a_0,b_0,F_1,PySem.W.mg_of X G a_1,b_1,F_2,PySem.W.mg_of X G a_2,b_2,F_3,PySem.W.mg_of X G a_3,b_3,F_4,PySem.W.mg_of X G a_4,b_4,F_5,PySem.W.mg_of X G a_5,b_5,F_6,PySem.W.mg_of X G a_6,b_6,F_7,PySem.W.mg_of X G a_7,b_7,F_8,PySem.W.mg_of X G a_8,b_8,F_9,PySem.W.mg_of X G a_9,b_9,F_10,PySem.W.mg_of X G a_10,b_10,F_11,PySem.W.mg_of X G a_11,b_11,F_12,PySem.W.mg_of X G a_12,b_12,F_13,PySem.W.mg_of X G a_13,b_13,F_14,PySem.W.mg_of X G a_14,b_14,F_15,PySem.W.mg_of X G a_15,b_15,F_16,PySem.W.mg_of X G a_16,b_16,F_17,PySem.W.mg_of X G a_17,b_17,F_18,PySem.W.mg_of X G a_18,b_18,F_19,PySem.W.mg_of X G a_19,b_19,F_20,PySem.W.mg_of X G a_20,b_20,F_21,PySem.W.mg_of X G a_21,b_21,F_22,PySem.W.mg_of X G a_22,b_22,F_23,PySem.W.mg_of X G a_23,b_23,F_24,PySem.W.mg_of X G a_24,b_24,F_25,PySem.W.mg_of X G a_25,b_25,F_26,PySem.W.mg_of X G a_26,b_26,F_27,PySem.W.mg_of X G a_27,b_27,PySem.W.mg_of X G aC_SumError,xC_SumError,e_SumError_SumError,e_BadBoard_SumError,e_TooOpen_SumError,zbB v_SumError,zbB e_SumError_SumError,zbB e_BadBoard_SumError,zbB e_TooOpen_SumError,PySem.W.mg_of X G aC_BadBoard,xC_BadBoard,e_SumError_BadBoard,e_BadBoard_BadBoard,e_TooOpen_BadBoard,zbB v_BadBoard,zbB e_BadBoard_BadBoard,PySem.W.mg_of X G aC_TooOpen,xC_TooOpen,e_SumError_TooOpen,e_BadBoard_TooOpen,e_TooOpen_TooOpen,zbB v_TooOpen,zbB e_TooOpen_TooOpen,PySem.W.mg_of X G n_LARGEST_OPEN_SIZE,PySem.W.mg_of X G n_LARGEST_SIZE,PySem.W.mg_of X G n_MOST_OPEN_CELLS,PySem.W.mg_of X G n_OPEN_MARK,PySem.W.mg_none_of X G z_enumerate,PySem.W.mg_none_of X G z_len,PySem.W.mg_none_of X G z_list,PySem.W.mg_none_of X G z_max,PySem.W.mg_none_of X G z_min,PySem.W.mg_none_of X G z_range,PySem.W.mg_none_of X G z_reversed,PySem.W.mg_none_of X G z_set,PySem.W.mg_none_of X G z_sorted,PySem.W.mg_none_of X G z_sum⟩,rfl,_,_,_,_,_,_,rfl⟩
end Qk10
open PySem PySem.W PyProof.Rows
set_option maxRecDepth 100000 in
set_option maxHeartbeats 0 in
theorem PySem.Challenge.cw_likesums_k10_whole_fillings_of_opened_bo_holds : PySem.Challenge.rw_likesums_k10_whole_fillings_of_opened_bo.Holds := by
 w_on;o_law;k_head;(case hw=>w_witness2)
 k_fill
 refine TL.walk (l:=PySem.Challenge.rw_likesums_k10_whole_fillings_of_opened_bo) rfl rfl (fun w h Y=>PySem.W.kIn_of Y) ?F
 case F =>
  intro w mg fa h KX G hmg
  have T:∃ t:Qk10.Adr,Qk10.Txt (L2.KOf KX) mg t∧t.f_law=fa∧∃ (kV doc pm:Value) (an:Option Addr) (cdv ct:Value),t.d_law=PySem.W.fnOf "law" "law" (L2.defArgs Qk10.s_law) (L2.defBody Qk10.s_law) (L2.defScope Qk10.s_law) .none kV doc pm an cdv ct:=by
   dsimp only [L2.KOf]
   refine' Qk10.txt_mk KX G hmg ?c0 ?c1 ?c2 ?c3 ?c4 ?c5 ?c6 ?c7 ?c8 ?c9 ?c10 ?c11 ?c12 ?c13 ?c14 ?c15 ?c16 ?c17 ?c18 ?c19 ?c20 ?c21 ?c22 ?c23 ?c24 ?c25 ?c26 ?c27 ?c28 ?c29 ?c30 ?c31 ?c32 ?c33 ?c34 ?c35 ?c36 ?c37 ?c38 ?c39 ?c40 ?c41 ?c42 ?c43 ?c44 ?c45 ?c46 ?c47 ?c48 ?c49 ?c50 ?c51 ?c52 ?c53 ?c54 ?c55 ?c56 ?c57 ?c58 ?c59 ?c60 ?c61 ?c62 ?c63 ?c64 ?c65 ?c66 ?c67 ?c68 ?c69 ?c70 ?c71 ?c72 ?c73 ?c74 ?c75 ?c76 ?c77 ?c78 ?c79 ?c80 ?c81 ?c82 ?c83 ?c84 ?c85 ?c86 ?c87 ?c88 ?c89 ?c90 ?c91 ?c92 ?c93 ?c94 ?c95 ?c96 ?c97 ?c98 ?c99 ?c100 ?c101 ?c102 ?c103 ?c104 ?c105 ?c106 ?c107 ?c108 ?c109 ?c110 ?c111 ?c112 ?c113 ?c114 ?c115 ?c116 ?c117 ?c118 ?c119 ?c120 ?c121 ?c122 ?c123 ?c124 ?c125 ?c126 ?c127 ?c128 ?c129 ?c130 ?c131 ?c132 ?c133 ?c134 ?c135 ?c136 ?c137 ?c138 ?c139 ?c140 ?c141 ?c142 ?c143
   (case c0=>k_is)
   (case c1=>k_is)
   (case c2=>k_is)
   (case c3=>k_is)
   (case c4=>k_is)
   (case c5=>k_is)
   (case c6=>k_is)
   (case c7=>k_is)
   (case c8=>k_is)
   (case c9=>k_is)
   (case c10=>k_is)
   (case c11=>k_is)
   (case c12=>k_is)
   (case c13=>k_is)
   (case c14=>k_is)
   (case c15=>k_is)
   (case c16=>k_is)
   (case c17=>k_is)
   (case c18=>k_is)
   (case c19=>k_is)
   (case c20=>k_is)
   (case c21=>k_is)
   (case c22=>k_is)
   (case c23=>k_is)
   (case c24=>k_is)
   (case c25=>k_is)
   (case c26=>k_is)
   (case c27=>k_is)
   (case c28=>k_is)
   (case c29=>k_is)
   (case c30=>k_is)
   (case c31=>k_is)
   (case c32=>k_is)
   (case c33=>k_is)
   (case c34=>k_is)
   (case c35=>k_is)
   (case c36=>k_is)
   (case c37=>k_is)
   (case c38=>k_is)
   (case c39=>k_is)
   (case c40=>k_is)
   (case c41=>k_is)
   (case c42=>k_is)
   (case c43=>k_is)
   (case c44=>k_is)
   (case c45=>k_is)
   (case c46=>k_is)
   (case c47=>k_is)
   (case c48=>k_is)
   (case c49=>k_is)
   (case c50=>k_is)
   (case c51=>k_is)
   (case c52=>k_is)
   (case c53=>k_is)
   (case c54=>k_is)
   (case c55=>k_is)
   (case c56=>k_is)
   (case c57=>k_is)
   (case c58=>k_is)
   (case c59=>k_is)
   (case c60=>k_is)
   (case c61=>k_is)
   (case c62=>k_is)
   (case c63=>k_is)
   (case c64=>k_is)
   (case c65=>k_is)
   (case c66=>k_is)
   (case c67=>k_is)
   (case c68=>k_is)
   (case c69=>k_is)
   (case c70=>k_is)
   (case c71=>k_is)
   (case c72=>k_is)
   (case c73=>k_is)
   (case c74=>k_is)
   (case c75=>k_is)
   (case c76=>k_is)
   (case c77=>k_is)
   (case c78=>k_is)
   (case c79=>k_is)
   (case c80=>k_is)
   (case c81=>k_is)
   (case c82=>k_is)
   (case c83=>k_is)
   (case c84=>k_is)
   (case c85=>k_is)
   (case c86=>k_is)
   (case c87=>k_is)
   (case c88=>k_is)
   (case c89=>k_is)
   (case c90=>k_is)
   (case c91=>k_is)
   (case c92=>k_is)
   (case c93=>k_is)
   (case c94=>k_is)
   (case c95=>k_is)
   (case c96=>k_is)
   (case c97=>k_is)
   (case c98=>k_is)
   (case c99=>k_is)
   (case c100=>k_is)
   (case c101=>k_is)
   (case c102=>k_is)
   (case c103=>k_is)
   (case c104=>k_is)
   (case c105=>k_is)
   (case c106=>k_is)
   (case c107=>k_is)
   (case c108=>k_is)
   (case c109=>k_is)
   (case c110=>k_is)
   (case c111=>k_is)
   (case c112=>k_is)
   (case c113=>k_is)
   (case c114=>k_is)
   (case c115=>k_exc)
   (case c116=>kts_exm)
   (case c117=>kts_exm)
   (case c118=>kts_exm)
   (case c119=>kts_exm)
   (case c120=>k_exc)
   (case c121=>kts_exm)
   (case c122=>kts_exm)
   (case c123=>kts_exm)
   (case c124=>kts_exm)
   (case c125=>k_exc)
   (case c126=>kts_exm)
   (case c127=>kts_exm)
   (case c128=>kts_exm)
   (case c129=>kts_exm)
   (case c130=>k_is)
   (case c131=>k_is)
   (case c132=>k_is)
   (case c133=>k_is)
   (case c134=>k_is)
   (case c135=>k_is)
   (case c136=>k_is)
   (case c137=>k_is)
   (case c138=>k_is)
   (case c139=>k_is)
   (case c140=>k_is)
   (case c141=>k_is)
   (case c142=>k_is)
   (case c143=>k_is)
  obtain⟨t,T,e,kV,doc,pm,an,cdv,ct,e2⟩:=T
  cases e
  refine ⟨t.d_law,fun s v=>?_,fun base _ _=>TL.law_fn (Qk10.ok_law T) (by decide) Qk10.law_true⟩
  rw [e2]
  exact .of_eq rfl
