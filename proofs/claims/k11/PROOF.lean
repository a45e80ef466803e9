import PyProof.Rows.All
import Wide.All
import OpenK.AllK
import Wide.FinOn
import Lean
import PyProof.EqAt
import PyProof.EqKinds
import PyProof.TupleCall
import PyProof.Rows.SortPure
import PyProof.Rows.SortWalk
import PyProof.NeKinds
import KE.KRevIter
import PyProof.ExcBaseAll.ValueError
import PyProof.EnumFor
import PyProof.EnumMake
import PyProof.EnumStmt
import PyProof.Rows.SetFrom
import PyProof.SetRoads
import PyProof.CollectWalk
import PyProof.Rows.SeqMore2
import KE.KIsAll
import PyProof.ExcArgs
import PyProof.Rows.CountFlat
import PySem.Challenge.RW_likesums_k11_refusals_apart
set_option Elab.async false
set_option linter.all false
set_option maxRecDepth 100000
set_option maxHeartbeats 0
namespace L2
open PySem PySem.Spec PyProof.Rows
noncomputable abbrev Key:=Sum Int Str
noncomputable def ziO:Key→Value→Bool
 | .inl k,v=>Value.isInt k v
 | .inr x,v=>Value.isStrOf x v
noncomputable def keyH (w:World):Key→Int
 | .inl k=>hashInt k
 | .inr x=>hashStr w x
theorem zaJ:∀ {k:Key} {v:Value},ziO k v=true→(∃ i t,k=Sum.inl i∧v=Value.int i t)∨(∃ x t,k=Sum.inr x∧v=Value.str x t)
 | .inl i,v,h=>by
  obtain⟨t,e⟩:=Value.isInt_shape (k:=i) (v:=v) h
  exact .inl ⟨i,t,rfl,e⟩
 | .inr x,v,h=>by
  obtain⟨t,e⟩:=Value.isStrOf_shape (x:=x) (v:=v) h
  exact .inr ⟨x,t,rfl,e⟩
theorem zkk (a b:Int):decide ((Sum.inl a:Key)=Sum.inl b)=(a == b):=by
 by_cases e:a=b
 ·subst e;simp
 ·have h:¬ (Sum.inl a:Key)=Sum.inl b:=fun q=>e (Sum.inl.inj q)
  rw [decide_eq_false h]
  exact (beq_eq_false_iff_ne.mpr e).symm
theorem zkh (a b:Str):decide ((Sum.inr a:Key)=Sum.inr b)=decide (a=b):=by
 by_cases e:a=b
 ·subst e;simp
 ·have h:¬ (Sum.inr a:Key)=Sum.inr b:=fun q=>e (Sum.inr.inj q)
  rw [decide_eq_false h,decide_eq_false e]
theorem zkj (a:Int) (b:Str):decide ((Sum.inl a:Key)=Sum.inr b)=false:=decide_eq_false (fun q=>nomatch q)
theorem zki (a:Str) (b:Int):decide ((Sum.inr a:Key)=Sum.inl b)=false:=decide_eq_false (fun q=>nomatch q)
noncomputable def zeS (prog:Program) (w:World):PySem.KeyKind prog w Key where
 is:=ziO
 hash:=keyH w
 inj:=fun v a b ha hb=>by
  rcases zaJ ha with ⟨i,t,rfl,rfl⟩ | ⟨x,t,rfl,rfl⟩
  ·rcases zaJ hb with ⟨j,u,rfl,e⟩ | ⟨y,u,rfl,e⟩
   ·injection e with e1 _;rw [e1]
   ·exact nomatch e
  ·rcases zaJ hb with ⟨j,u,rfl,e⟩ | ⟨y,u,rfl,e⟩
   ·exact nomatch e
   ·injection e with e1 _;rw [e1]
 byValue:=fun k v h=>by
  rcases zaJ h with ⟨i,t,rfl,rfl⟩ | ⟨x,t,rfl,rfl⟩ <;> rfl
 pyHash:=fun hv h=>by
  rcases zaJ hv with ⟨i,t,rfl,rfl⟩ | ⟨x,t,rfl,rfl⟩
  ·exact wpAny_pyHash_int h
  ·exact wpAny_pyHash_str h
 eqBool:=fun hu hv h=>by
  rcases zaJ hu with ⟨i,t,rfl,rfl⟩ | ⟨x,t,rfl,rfl⟩
  ·rcases zaJ hv with ⟨j,u,rfl,rfl⟩ | ⟨y,u,rfl,rfl⟩
   ·rw [zkk] at h;exact wpAny_eqBool_int h
   ·rw [zkj] at h;exact SeqAt.EqAt.int_str i t y u _ _ _ _ h
  ·rcases zaJ hv with ⟨j,u,rfl,rfl⟩ | ⟨y,u,rfl,rfl⟩
   ·rw [zki] at h;exact SeqAt.EqAt.str_int x t j u _ _ _ _ h
   ·rw [zkh] at h;exact wpAny_eqBool_str h
 «strs»:=fun k x t v h=>by
  rcases zaJ h with ⟨i,u,rfl,e⟩ | ⟨y,u,rfl,e⟩
  ·exact nomatch e
  ·injection e with e1 _
   subst e1
   cases v <;> rfl
theorem zju (prog:Program) (w:World) (k:Key) (v:Value):(zeS prog w).is k v=ziO k v:=rfl
end L2
namespace L2
open PySem PySem.Spec PyProof.Rows
inductive V where
 | non | bl (b:Bool) | int (i:Int) | str (x:Str) | byt (b:Array UInt8) | flt (b:UInt64) | ref (a:Addr) | ty (n:String)
 deriving DecidableEq
noncomputable def RelV:V→Value→Prop
 | .non,u=>u=Value.none
 | .bl b,u=>u=Value.bool b
 | .int i,u=>∃ t,u=Value.int i t
 | .str x,u=>∃ t,u=Value.str x t
 | .byt b,u=>∃ t,u=Value.bytes b t
 | .flt b,u=>∃ t,u=Value.float b t
 | .ref a,u=>u=Value.ref a
 | .ty n,u=>u=Value.type n
noncomputable abbrev Vals:List V→List Value→Prop:=Paired RelV
theorem Vals.length {xs:List V} {us:List Value} (r:Vals xs us):xs.length=us.length:=Paired.length r
theorem Vals.get:∀ {xs:List V} {us:List Value} {i:Nat} {x:V},Vals xs us→xs[i]? = some x→∃ u,us[i]? = some u∧RelV x u
 | _,_,_,_,.nil,e=>by simp at e
 | _,_,0,_,.cons r _,e=>by simp at e;subst e;exact⟨_,rfl,r⟩
 | _,_,i + 1,x,.cons _ t,e=>by
  obtain⟨u,h1,h2⟩:=Vals.get (i:=i) (x:=x) t (by simpa using e)
  exact⟨u,by simpa using h1,h2⟩
theorem Vals.append:∀ {xs ys:List V} {us ws:List Value},Vals xs us→Vals ys ws→Vals (xs ++ ys) (us ++ ws):=by
 intro xs ys us ws h g
 induction h with
 | nil=>exact g
 | cons r _ ih=>exact .cons r ih
noncomputable def RelO:Option V→Option Value→Prop
 | some v,some u=>RelV v u
 | none,none=>True
 | _,_=>False
noncomputable def KV {κ:Type}:List (κ×V)→List (κ×Value)→Prop:=Paired fun (p:κ×V) (q:κ×Value)=>p.1=q.1∧RelV p.2 q.2
noncomputable def kV:Key→V
 | .inl i=>.int i
 | .inr x=>.str x
inductive HO where
 /-- a list -/
 | lst (xs:List V)
 /-- a tuple (never changes) -/
 | tup (xs:List V)
 /-- a dict whose keys are ints and texts;one whose keys are tuples of ints and texts (the empty one is both) -/
 | dK (kvs:List (Key×V)) | dT (kvs:List (List Key×V))
 /-- a set of ints: its members,its size -/
 | set (S:Int→Bool) (n:Nat)
 /-- an instance of the class at C,its dict at dx,its attributes -/
 | ins (C dx:Addr) (fs:List (Str×V))
 /-- the dict of the instance at x -/
 | own (x:Addr)
 /-- the dict of an exception -/
 | xd (fs:List (Str×V))
 /-- a bound method,f of x -/
 | met (f x:Addr)
 /-- a range object lo,lo + 1,.. below hi -/
 | rng (lo hi:Int)
 /-- a thing that is known to the object (the script;a dict while a loop walks it): read,never written while it is so -/
 | frz (o:Obj) (u:HO)
 /-- a code object's table -/
 | tbl (ps:Array Value)
 /-- any other thing,by what is true of its one object (a def of one's own: SetO a S n:=HO.ext fun h=>..) -/
 | ext (φ:Heap→Prop)
noncomputable abbrev Hp:=Addr→Option HO
noncomputable def upd (H:Hp) (a:Addr) (o:HO):Hp:=fun b=>if b=a then some o else H b
theorem zaW {H:Hp} {a:Addr} {o:HO}:upd H a o a=some o:=by unfold upd;rw [if_pos rfl]
theorem zaq {H:Hp} {a b:Addr} {o:HO} (h:b≠a):upd H a o b=H b:=by unfold upd;rw [if_neg h]
theorem zaw {H:Hp} {a b:Addr} {o:HO} (h:H a=some o) (h':H b=none):a≠b:=by
 intro e;subst e;rw [h] at h';cases h'
section
variable (P:Program) (w:World)
noncomputable def zcF (H:Hp) (h:Heap) (a:Addr):HO→Prop
 | .lst xs=>xs.length≤sizeLine∧∃ (its:List Value) (n:Nat),Vals xs its∧h.get? a=some { cls:=.type "list", data:=.seq its.toArray n }
 | .tup xs=>xs.length≤sizeLine∧∃ its:List Value,Vals xs its∧IsTup h a its.toArray
 | .dK kvs=>kvs.length≤sizeLine∧(a == sysModules)=false∧∃ vs,KV kvs vs∧h.DictOf (zeS P w) a vs
 | .dT kvs=>kvs.length≤sizeLine∧(a == sysModules)=false∧∃ xs:List (List Key×Addr×Value),
   Paired (fun (p:List Key×V) (q:List Key×Addr×Value)=>p.1=q.1∧H q.2.1=some (.tup (p.1.map kV))∧RelV p.2 q.2.2) kvs xs ∧
   ∃ o es ep,h.get? a=some o∧o.ExactDict∧o.data=.dict es ep∧es.toList=xs.map (entryOfKey (tupleKind (zeS P w)))∧(xs.map (·.1)).Nodup
 | .set S n=>h.SetOf (intKind P w) a S n
 | .ins C dx fs=>H dx=some (.own a)∧fs.length≤1000∧dx≠a∧h.get? a=some (PySem.W.instObj C dx) ∧
   ∃ mA,h.Ns1 dx mA∧(∀ f,RelO (fs.lookup f) (mA f))∧PySem.Within mA (fs.map (·.1))
 | .own _=>∃ o,h.get? a=some o
 | .xd fs=>∃ mA,h.Ns1 a mA∧∀ f,RelO (fs.lookup f) (mA f)
 | .rng lo hi=>∃ t u v,h.get? a=some { cls:=.type "range", data:=.fields #[.int lo t,.int hi u,.int 1 v] }
 | .frz o u=>h.get? a=some o∧zcF H h a u
 | .tbl ps=>h.get? a=some { cls:=.none,data:=.fields ps }
 | .met f x=>h.get? a=some (PySem.W.methodObj (.ref f) (.ref x))
 | .ext φ=>φ h∧(∃ o,h.get? a=some o)∧∀ h1 h2:Heap,φ h1→(∀ o,h1.get? a=some o→h2.get? a=some o)→φ h2
def HOk (H:Hp) (h:Heap):Prop:=∀ a o,H a=some o→zcF P w H h a o
end
section
variable {P:Program} {w:World} {H H':Hp} {h h':Heap} {a:Addr} {o:HO}
theorem zcF.lt (x:zcF P w H h a o):a < h.objs.size:=by
 cases o with
 | lst xs=>obtain⟨_,_,_,_,e⟩:=x;exact Heap.lt_size e
 | tup xs=>obtain⟨_,_,_,p⟩:=x;exact p.lt
 | dK kvs=>obtain⟨_,_,_,_,o,_,_,e,_⟩:=x;exact Heap.lt_size e
 | dT kvs=>obtain⟨_,_,_,_,o,_,_,e,_⟩:=x;exact Heap.lt_size e
 | set S n=>obtain⟨o,_,_,_,e,_⟩:=x;exact Heap.lt_size e
 | ins C dx fs=>obtain⟨_,_,_,e,_⟩:=x;exact Heap.lt_size e
 | own y=>obtain⟨_,e⟩:=x;exact Heap.lt_size e
 | xd fs=>obtain⟨_,⟨_,_,_,e,_⟩,_⟩:=x;exact Heap.lt_size e
 | rng lo hi=>obtain⟨_,_,_,e⟩:=x;exact Heap.lt_size e
 | frz ob u=>obtain⟨e,_⟩:=x;exact Heap.lt_size e
 | tbl ps=>exact Heap.lt_size (show h.get? a=some _ from x)
 | met f y=>exact Heap.lt_size (show h.get? a=some _ from x)
 | ext φ=>obtain⟨_,⟨_,e⟩,_⟩:=x;exact Heap.lt_size e
theorem Paired.mapP {α β:Type} {F G:α→β→Prop}:∀ {l₁:List α} {l₂:List β},Paired F l₁ l₂→(∀ a b,F a b→G a b)→Paired G l₁ l₂
 | _,_,.nil,_=>.nil
 | _,_,.cons r t,f=>.cons (f _ _ r) (Paired.mapP t f)
theorem zcF.stay (x:zcF P w H h a o) (k:∀ b u,(b=a∨H b=some (.own a))→h.get? b=some u→h'.get? b=some u)
  (ho:∀ b,H b=some (.own a)→H' b=some (.own a)) (ht:∀ b xs,H b=some (.tup xs)→H' b=some (.tup xs)):zcF P w H' h' a o:=by
 induction o with
 | lst xs=>obtain⟨z,its,n,r,e⟩:=x;exact⟨z,its,n,r,k _ _ (.inl rfl) e⟩
 | tup xs=>obtain⟨z,its,r,ob,e,c⟩:=x;exact⟨z,its,r,ob,k _ _ (.inl rfl) e,c⟩
 | dK kvs=>obtain⟨z,y,vs,r,ob,es,ep,e,c⟩:=x;exact⟨z,y,vs,r,ob,es,ep,k _ _ (.inl rfl) e,c⟩
 | dT kvs =>
  obtain⟨z,y,xs,r,ob,es,ep,e,c⟩:=x
  exact⟨z,y,xs,Paired.mapP r fun p q z=>⟨z.1,ht _ _ z.2.1,z.2.2⟩,ob,es,ep,k _ _ (.inl rfl) e,c⟩
 | set S n=>obtain⟨ob,es,ep,t,e,c⟩:=x;exact⟨ob,es,ep,t,k _ _ (.inl rfl) e,c⟩
 | ins C dx fs =>
  obtain⟨d,z,ne,e,mA,⟨od,es,ep,e2,c⟩,r⟩:=x
  exact⟨ho _ d,z,ne,k _ _ (.inl rfl) e,mA,⟨od,es,ep,k _ _ (.inr d) e2,c⟩,r⟩
 | own y=>obtain⟨ob,e⟩:=x;exact⟨ob,k _ _ (.inl rfl) e⟩
 | xd fs=>obtain⟨mA,⟨od,es,ep,e,c⟩,r⟩:=x;exact⟨mA,⟨od,es,ep,k _ _ (.inl rfl) e,c⟩,r⟩
 | rng lo hi=>obtain⟨t,u,v,e⟩:=x;exact⟨t,u,v,k _ _ (.inl rfl) e⟩
 | frz ob u ih=>obtain⟨e,q⟩:=x;exact⟨k _ _ (.inl rfl) e,ih q⟩
 | tbl ps =>
  have e:h.get? a=some { cls:=.none,data:=.fields ps }:=x
  show h'.get? a=some { cls:=.none,data:=.fields ps }
  exact k a _ (.inl rfl) e
 | met f y =>
  have e:h.get? a=some (PySem.W.methodObj (.ref f) (.ref y)):=x
  show h'.get? a=some (PySem.W.methodObj (.ref f) (.ref y))
  exact k a _ (.inl rfl) e
 | ext φ=>obtain⟨p,⟨o,e⟩,st⟩:=x;exact⟨st _ _ p fun o q=>k _ _ (.inl rfl) q,⟨o,k _ _ (.inl rfl) e⟩,st⟩
theorem HOk.lt (x:HOk P w H h) (e:H a=some o):a < h.objs.size:=(x a o e).lt
theorem HOk.fresh (x:HOk P w H h) (e:h.objs.size≤a):H a=none:=by
 cases q:H a with
 | none=>rfl
 | some u=>exact absurd (Nat.lt_of_lt_of_le (x.lt q) e) (Nat.lt_irrefl _)
theorem HOk.kept (x:HOk P w H h) (k:∀ b u,h.get? b=some u→h'.get? b=some u):HOk P w H h':=fun a o e =>
 (x a o e).stay (fun b u _ q=>k b u q) (fun _ q=>q) fun _ _ q=>q
theorem HOk.laid (x:HOk P w H h) (k:∀ b u,h.get? b=some u→h'.get? b=some u) (hp:h.objs.size≤a) (new:zcF P w (upd H a o) h' a o):HOk P w (upd H a o) h':=fun b u e=>by
 have hn:=x.fresh hp
 by_cases hb:b=a
 ·subst hb;rw [zaW] at e;cases e;exact new
 ·rw [zaq hb] at e
  exact (x b u e).stay (fun c v _ q=>k c v q) (fun c q=>by rw [zaq (zaw q hn)];exact q) fun c xs q=>by rw [zaq (zaw q hn)];exact q
end
def Rd (H:Hp) (a:Addr) (u:HO):Prop:=H a=some u∨∃ o,H a=some (.frz o u)
theorem Rd.ok {P:Program} {w:World} {H:Hp} {h:Heap} {a:Addr} {u:HO} (r:Rd H a u) (x:HOk P w H h):zcF P w H h a u:=by
 rcases r with r | ⟨o,r⟩
 ·exact x a u r
 ·obtain⟨_,q⟩:=x a _ r
  exact q
noncomputable def Mut:Option HO→Prop
 | some (.lst _)=>True
 | some (.dK _)=>True
 | some (.dT _)=>True
 | some (.set _ _)=>True
 | some (.ins _ _ _)=>True
 | some (.ext _)=>True
 | _=>False
section
variable {P:Program} {w:World} {H:Hp} {h h':Heap} {x e:Addr} {o':HO}
theorem HOk.write (ok:HOk P w H h) (mu:Mut (H x)) (he:e=x∨H e=some (.own x)) (k:∀ b u,b≠e→h.get? b=some u→h'.get? b=some u) (heo:∃ u,h'.get? e=some u)
  (new:zcF P w (upd H x o') h' x o'):HOk P w (upd H x o') h':=fun b u q=>by
 have nown:∀ c y,H c=some (.own y)→c≠x:=fun c y r z=>by subst z;rw [r] at mu;exact mu
 have ntup:∀ c xs,H c=some (.tup xs)→c≠x:=fun c xs r z=>by subst z;rw [r] at mu;exact mu
 by_cases hb:b=x
 ·subst hb;rw [zaW] at q;cases q;exact new
 ·rw [zaq hb] at q
  by_cases hbe:b=e
  ·have q':H b=some (.own x):=by
    rcases he with z | z
    ·exact absurd (hbe.trans z) hb
    ·rw [hbe];exact z
   rw [q] at q';cases q'
   obtain⟨v,hv⟩:=heo
   exact⟨v,by rw [hbe];exact hv⟩
  ·refine (ok b u q).stay (fun c v hc r=>k c v ?_ r) (fun c r=>by rw [zaq (nown c b r)];exact r) fun c xs r=>by rw [zaq (ntup c xs r)];exact r
   rcases hc with rfl | hc
   ·exact hbe
   ·rintro rfl
    rcases he with z | z
    ·exact nown c b hc z
    ·rw [hc] at z;cases z;exact hb rfl
end
structure Un (fs ex:List Addr) (H H':Hp) (h h':Heap):Prop where
 keep:∀ b o,h.get? b=some o→H b=none→b∉fs→b∉ex→h'.get? b=some o
 slot:∀ b o,h.get? b=some o→H b=none→b∈fs→b∉ex→∃ sl,h'.get? b=some { o with slots:=sl }
 free:∀ b o,h.get? b=some o→H b=none→b∉ex→H' b=none
 there:∀ b o,h.get? b=some o→b∉ex→∃ o',h'.get? b=some o'
 tups:∀ b xs,H b=some (.tup xs)→H' b=some (.tup xs)
 frzs:∀ b o u,H b=some (.frz o u)→H' b=some (.frz o u)
 tbls:∀ b ps,H b=some (.tbl ps)→∃ more,H' b=some (.tbl (ps ++ more))
section
variable {fs fs' ex ex':List Addr} {H H1 H2:Hp} {h h1 h2 h':Heap} {a x e:Addr} {o:HO}
theorem Un.any (u:Un fs ex H H1 h h1) {b:Addr} {ob:Obj} (q:h.get? b=some ob) (n:H b=none) (hx:b∉ex):∃ sl,h1.get? b=some { ob with slots:=sl }:=by
 by_cases hb:b∈fs
 ·exact u.slot b ob q n hb hx
 ·exact⟨ob.slots,u.keep b ob q n hb hx⟩
theorem Un.kept (k:∀ b u,h.get? b=some u→h'.get? b=some u):Un fs ex H H h h':=
 ⟨fun b ob q _ _ _=>k b ob q,fun b ob q _ _ _=>⟨ob.slots,k b ob q⟩,fun _ _ _ n _=>n,fun b ob q _=>⟨ob,k b ob q⟩,fun _ _ q=>q,fun _ _ _ q=>q,fun _ ps q=>⟨#[],by rw [q];simp⟩⟩
theorem Un.refl:Un fs ex H H h h:=Un.kept fun _ _ q=>q
theorem Un.laid (k:∀ b u,h.get? b=some u→h'.get? b=some u) (hp:h.objs.size≤a) (hn:H a=none):Un fs ex H (upd H a o) h h' where
 keep:=fun b u q _ _ _=>k b u q
 slot:=fun b u q _ _ _=>⟨u.slots,k b u q⟩
 free:=fun b u q n _=>by rw [zaq (Nat.ne_of_lt (Nat.lt_of_lt_of_le (Heap.lt_size q) hp))];exact n
 there:=fun b u q _=>⟨u,k b u q⟩
 tups:=fun b xs q=>by rw [zaq (zaw q hn)];exact q
 frzs:=fun b u xs q=>by rw [zaq (zaw q hn)];exact q
 tbls:=fun b ps q=>⟨#[],by rw [zaq (zaw q hn),q];simp⟩
theorem Un.write (mu:Mut (H x)) (he:e=x∨H e=some (.own x)) (k:∀ b u,b≠e→h.get? b=some u→h'.get? b=some u) (heo:∃ u,h'.get? e=some u):Un fs ex H (upd H x o) h h':=by
 have hx:∀ b,H b=none→b≠x:=fun b n z=>by subst z;rw [n] at mu;exact mu
 have hb:∀ b,H b=none→b≠e:=fun b n z=>by
  subst z
  rcases he with r | r
  ·exact hx b n r
  ·rw [n] at r;cases r
 have hm:∀ b u,H b=some u→¬ Mut (some u)→b≠x:=fun b u q nm z=>by subst z;rw [q] at mu;exact nm mu
 refine ⟨fun b u q n _ _=>k b u (hb b n) q,fun b u q n _ _=>⟨u.slots,k b u (hb b n) q⟩,fun b u q n _=>by rw [zaq (hx b n)];exact n,fun b u q _=>?_,
  fun b xs q=>by rw [zaq (hm b _ q fun z=>z)];exact q,fun b u xs q=>by rw [zaq (hm b _ q fun z=>z)];exact q,fun b ps q=>⟨#[],by rw [zaq (hm b _ q fun z=>z),q];simp⟩⟩
 by_cases hbe:b=e
 ·subst hbe;exact heo
 ·exact⟨u,k b u hbe q⟩
end
noncomputable def trk (h:Heap) (H:Hp):List Addr:=(List.range h.objs.size).filter fun a=>(H a).isSome
noncomputable def hidT (h:Heap) (H:Hp):Heap:=PySem.W.hideAll h (trk h H)
theorem zgO (h:Heap) (H:Hp):(hidT h H).objs.size=h.objs.size:=PySem.W.hideAll_size _ _
theorem zhD {h:Heap} {H:Hp} {b:Addr} {o:Obj} (e:h.get? b=some o) (n:H b=none):(hidT h H).get? b=some o:=
 PySem.W.hideAll_get _ e fun hm=>by
  have q:(H b).isSome=true:=(List.mem_filter.mp hm).2
  rw [n] at q;simp at q
theorem ziE {h:Heap} {H:Hp} {b:Addr} {o:Obj} (e:(hidT h H).get? b=some o):h.get? b=some o∧H b=none:=by
 have e':h.get? b=some o:=PySem.W.of_hideAll (trk h H) e
 refine ⟨e',?_⟩
 cases q:H b with
 | none=>rfl
 | some x =>
  have hm:b∈trk h H:=List.mem_filter.mpr ⟨List.mem_range.mpr (Heap.lt_size e'),by simp [q]⟩
  have z:(hidT h H).get? b=none:=PySem.W.hideAll_none (trk h H) hm
  rw [z] at e;cases e
end L2
namespace L2
open PySem PySem.Spec PyProof.Rows
structure Mod (K:PySem.W.Frag) (mg:Str→Option Value) (base:Heap):Prop where
 kin:K.In base
 glob:base.Ns mainGlobals mg
 blt:∃ mb,base.Ns builtinsNs mb∧∀ x:Str,x ≠ "__name__" → mb x=bootBuiltins x
 nolimit:base.NoLimit
structure Cx where
 prog:Program
 w:World
 K:PySem.W.Frag
 mg:Str→Option Value
 base:Heap
 A:Around
 N:List Str
 s₀:Shared
 H₀:Hp
 env:Env
 outer:List Env
 stack:List Env
 ex:List Addr
 fn:Str→Bool
 calm:Bool
 pn:List (Addr×Obj)
 xe:Value→Shared→Prop
noncomputable def frs (l:List Env):List Addr:=l.filterMap (·.frame)
noncomputable abbrev Cx.fs (X:Cx):List Addr:=frs X.outer
def Vis (sc:Scope) (x:Str):Prop:=sc.names.lookup x=some .local∨sc.names.lookup x=some .cell∨sc.names.lookup x=some .free
def Loc (sc:Scope) (x:Str):Prop:=sc.names.lookup x=some .local∨sc.names.lookup x=some .cell
def Look (env:Env) (h:Heap) (m:Str→Option Value) (x:Str) (u:Value):Prop:=
 (env.kindOf x=some .local∧m x=some u)∨((env.kindOf x=some .cell∨env.kindOf x=some .free)∧∃ c,env.cells.lookup x=some c∧h.IsCell c (some u))
structure Cx.Ok (X:Cx):Prop where
 mod:Mod X.K X.mg X.base
 kind:X.env.scope.kind=.function
 glob:X.env.globals=mainGlobals
 blt:X.env.builtins=builtinsNs
 above:X.s₀.heap.objs.size≤X.env.locals
 inj:∀ x y c,X.env.cells.lookup x=some c→X.env.cells.lookup y=some c→x=y
 has:∀ x,(X.env.kindOf x=some .cell∨X.env.kindOf x=some .free)→∃ c,X.env.cells.lookup x=some c
 cab:∀ x c,X.fn x=true→X.env.cells.lookup x=some c→X.s₀.heap.objs.size≤c
 hd:X.calm=true→X.A.handled=none
 frames:X.A.frames=some X.stack
 stk:X.stack=X.outer∨(X.stack=X.env :: X.outer∧X.env.frame=some X.env.locals)
 exf:∀ b∈X.ex,b≠X.env.locals∧∀ x c,X.env.cells.lookup x=some c→c≠b
 bs:∀ b o,X.base.get? b=some o→X.s₀.heap.get? b=some o∧X.H₀ b=none
 bsz:X.base.objs.size≤X.s₀.heap.objs.size
 noex:∀ b o,X.base.get? b=some o→b∉X.ex
 exfs:∀ b∈X.ex,b∉X.fs
 funs:X.s₀.heap.FunFrames X.base X.outer
 frf:∀ b∈X.fs,X.H₀ b=none
structure Inv (X:Cx) (pins:List (Addr×Obj)) (σ:List (Option V)) (H:Hp) (s:Shared):Prop where
 ok:X.Ok
 os:s.os=X.s₀.os
 bare:AllBare s.gens
 base:Un X.fs X.ex X.H₀ H X.s₀.heap s.heap
 loc:∃ m,s.heap.Ns X.env.locals m∧∀ (i:Nat) (x:Str) (v:V),X.N[i]? = some x→σ[i]? = some (some v)→Vis X.env.scope x→∃ u,RelV v u∧Look X.env s.heap m x u
 cell:∀ x c,X.env.cells.lookup x=some c→∃ v,s.heap.IsCell c v
 free:H X.env.locals=none
 freeC:∀ x c,X.env.cells.lookup x=some c→H c=none
 pin:∀ p∈X.pn ++ pins,s.heap.get? p.1=some p.2∧H p.1=none∧p.1≠X.env.locals∧p.1∉X.fs∧∀ v,p.2.data≠.cell v
 hok:HOk X.prog X.w H s.heap
 len:σ.length=X.N.length
section
variable {X:Cx} {pins:List (Addr×Obj)} {σ:List (Option V)} {H H':Hp} {s:Shared} {h':Heap}
theorem Cx.Ok.nofr (ok:X.Ok) {b:Addr} {o:Obj} (e:X.base.get? b=some o):b∉X.fs:=fun hb=>by
 have:=(ok.funs.mem hb).1
 rw [e] at this;cases this
theorem Inv.bs (I:Inv X pins σ H s):∀ b o,X.base.get? b=some o→s.heap.get? b=some o∧H b=none:=fun b o e =>
 ⟨I.base.keep b o (I.ok.bs b o e).1 (I.ok.bs b o e).2 (I.ok.nofr e) (I.ok.noex b o e),I.base.free b o (I.ok.bs b o e).1 (I.ok.bs b o e).2 (I.ok.noex b o e)⟩
theorem Inv.bk (I:Inv X pins σ H s):∀ b o,X.base.get? b=some o→s.heap.get? b=some o:=fun b o e=>(I.bs b o e).1
theorem Inv.mod (I:Inv X pins σ H s):Mod X.K X.mg X.base:=I.ok.mod
theorem Inv.kIn (I:Inv X pins σ H s):X.K.In s.heap:=I.ok.mod.kin.keeps I.bk
theorem Inv.nolimit (I:Inv X pins σ H s):s.heap.NoLimit:=I.ok.mod.nolimit.keeps I.bk
theorem Inv.lt (I:Inv X pins σ H s):X.env.locals < s.heap.objs.size:=let ⟨_,hn,_⟩:=I.loc;hn.lt
theorem Inv.sz (I:Inv X pins σ H s):X.s₀.heap.objs.size≤s.heap.objs.size:=Nat.le_trans I.ok.above (Nat.le_of_lt I.lt)
theorem Inv.nofs (I:Inv X pins σ H s) {a:Addr} (h:s.heap.objs.size≤a):a∉X.fs:=fun hb=>by
 obtain⟨_,o,ho,_⟩:=I.ok.funs.mem hb
 exact absurd (Nat.lt_of_lt_of_le (Heap.lt_size ho) (Nat.le_trans I.sz h)) (Nat.lt_irrefl _)
theorem Inv.cne (I:Inv X pins σ H s):∀ x c,X.env.cells.lookup x=some c→c≠X.env.locals:=fun x c e z=>by
 obtain⟨v,o,ho,hd⟩:=I.cell x c e
 obtain⟨m,⟨o',es,ep,ho',hd',_⟩,_⟩:=I.loc
 rw [z,ho'] at ho;cases ho;rw [hd'] at hd;cases hd
theorem Inv.funs (I:Inv X pins σ H s):s.heap.FunFrames X.base X.outer:=by
 have all:∀ (l:List Env),(∀ b∈frs l,b∈X.fs)→X.s₀.heap.FunFrames X.base l→s.heap.FunFrames X.base l:=by
  intro l
  induction l with
  | nil=>intro _ _;trivial
  | cons env r ih =>
   intro hs hl
   obtain⟨hk,⟨L,o,hf,hn,ho,hd⟩,hr⟩:=hl
   have hL:L∈X.fs:=hs L (by unfold frs;rw [List.filterMap_cons,hf];exact List.mem_cons_self)
   obtain⟨sl,e⟩:=I.base.slot L o ho (I.ok.frf L hL) hL fun z=>I.ok.exfs L z hL
   exact⟨hk,⟨L,_,hf,hn,e,hd⟩,ih (fun b hb=>hs b (by unfold frs;rw [List.filterMap_cons,hf];exact List.mem_cons_of_mem _ hb)) hr⟩
 exact all X.outer (fun _ hb=>hb) I.ok.funs
theorem Inv.stack (I:Inv X pins σ H s):s.heap.FunFrames X.base X.stack:=by
 rcases I.ok.stk with e | ⟨e,hf⟩
 ·rw [e];exact I.funs
 ·rw [e]
  obtain⟨m,hn,_⟩:=I.loc
  refine .cons (by rw [I.ok.kind];decide) hf hn ?_ I.funs
  exact Heap.get?_none_of_le (Nat.le_trans I.ok.bsz I.ok.above)
theorem Inv.stkSub (I:Inv X pins σ H s):∀ b∈frs X.stack,b∈X.env.locals :: X.fs:=fun b hb=>by
 rcases I.ok.stk with e | ⟨e,hf⟩
 ·rw [e] at hb;exact List.mem_cons_of_mem _ hb
 ·rw [e] at hb
  unfold frs at hb
  rw [List.filterMap_cons,hf] at hb
  exact hb
theorem Inv.stkFree (I:Inv X pins σ H s):∀ b∈frs X.stack,H b=none:=fun b hb=>by
 rcases List.mem_cons.mp (I.stkSub b hb) with e | hb
 ·rw [e];exact I.free
 ·obtain⟨_,o,ho,_⟩:=I.ok.funs.mem hb
  exact I.base.free b o ho (I.ok.frf b hb) fun z=>I.ok.exfs b z hb
theorem Inv.step {g':Array GenState} {t':Nat} {d':Drawn} {ch:List Addr} (I:Inv X pins σ H s)
  (hch:∀ b∈ch,(b∈X.ex∨X.s₀.heap.objs.size≤b)∧b≠X.env.locals∧(∀ x c,X.env.cells.lookup x=some c→c≠b)∧∀ p∈X.pn ++ pins,p.1≠b)
  (keep:∀ b o,b≠X.env.locals→b∉X.fs→b∉ch→s.heap.get? b=some o→H b=none→h'.get? b=some o)
  (slot:∀ b o,b≠X.env.locals→b∈X.fs→b∉ch→s.heap.get? b=some o→H b=none→∃ sl,h'.get? b=some { o with slots:=sl }) (free:∀ b o,b∉ch→s.heap.get? b=some o→H b=none→H' b=none)
  (there:∀ b o,b∉ch→s.heap.get? b=some o→∃ o',h'.get? b=some o')
  (tups:∀ b xs,H b=some (.tup xs)→H' b=some (.tup xs)) (frzs:∀ b o u,H b=some (.frz o u)→H' b=some (.frz o u)) (tbls:∀ b ps,H b=some (.tbl ps)→∃ more,H' b=some (.tbl (ps ++ more)))
  (ns:∀ m,s.heap.Ns X.env.locals m→h'.Ns X.env.locals m) (hok:HOk X.prog X.w H' h') (hg:AllBare g') :
  Inv X pins σ H' { s with heap:=h',gens:=g',drawn:=d',toks:=t' }:=by
 have neL:∀ b o,X.s₀.heap.get? b=some o→b≠X.env.locals:=fun b o e=>Nat.ne_of_lt (Nat.lt_of_lt_of_le (Heap.lt_size e) I.ok.above)
 have neC:∀ b o,X.s₀.heap.get? b=some o→b∉X.ex→b∉ch:=fun b o e hx hb=>by
  rcases (hch b hb).1 with z | z
  ·exact hx z
  ·exact absurd (Nat.lt_of_lt_of_le (Heap.lt_size e) z) (Nat.lt_irrefl _)
 have cellK:∀ x c,X.env.cells.lookup x=some c→∀ v,s.heap.IsCell c v→h'.IsCell c v:=fun x c e v ⟨o,ho,hd⟩=>by
  have nch:c∉ch:=fun z=>(hch c z).2.2.1 x c e rfl
  by_cases hc:c∈X.fs
  ·obtain⟨sl,q⟩:=slot c o (I.cne x c e) hc nch ho (I.freeC x c e)
   exact⟨_,q,hd⟩
  ·exact⟨o,keep c o (I.cne x c e) hc nch ho (I.freeC x c e),hd⟩
 refine ⟨I.ok,I.os,hg,⟨fun b o e n hb hx=>?_,fun b o e n hb hx=>?_,fun b o e n hx=>?_,fun b o e hx=>?_,fun b xs e=>tups b xs (I.base.tups b xs e),fun b o xs e=>frzs b o xs (I.base.frzs b o xs e),fun b ps e=>?_⟩,?_,fun x c e=>?_,?_,fun x c e=>?_,fun p hp=>?_,hok,I.len⟩
 ·exact keep b o (neL b o e) hb (neC b o e hx) (I.base.keep b o e n hb hx) (I.base.free b o e n hx)
 ·obtain⟨sl,e1⟩:=I.base.slot b o e n hb hx
  obtain⟨sl',e2⟩:=slot b _ (neL b o e) hb (neC b o e hx) e1 (I.base.free b o e n hx)
  exact⟨sl',e2⟩
 ·obtain⟨o',e1⟩:=I.base.there b o e hx
  exact free b o' (neC b o e hx) e1 (I.base.free b o e n hx)
 ·obtain⟨o',e1⟩:=I.base.there b o e hx
  exact there b o' (neC b o e hx) e1
 ·obtain⟨m1,e1⟩:=I.base.tbls b ps e
  obtain⟨m2,e2⟩:=tbls b _ e1
  exact⟨m1 ++ m2,by rw [e2,Array.append_assoc]⟩
 ·obtain⟨m,hn,hl⟩:=I.loc
  refine ⟨m,ns m hn,fun i x v e1 e2 e3=>?_⟩
  obtain⟨u,r,l⟩:=hl i x v e1 e2 e3
  refine ⟨u,r,?_⟩
  rcases l with l | ⟨k,c,e,z⟩
  ·exact .inl l
  ·exact .inr ⟨k,c,e,cellK x c e _ z⟩
 ·obtain⟨v,z⟩:=I.cell x c e
  exact⟨v,cellK x c e v z⟩
 ·obtain⟨m,⟨o,_,_,ho,_⟩,_⟩:=I.loc
  exact free _ o (fun z=>(hch _ z).2.1 rfl) ho I.free
 ·obtain⟨v,o,ho,hd⟩:=I.cell x c e
  exact free c o (fun z=>(hch c z).2.2.1 x c e rfl) ho (I.freeC x c e)
 ·obtain⟨e,n,ne,nf,d⟩:=I.pin p hp
  have nch:p.1∉ch:=fun z=>(hch p.1 z).2.2.2 p hp rfl
  exact⟨keep p.1 p.2 ne nf nch e n,free p.1 p.2 nch e n,ne,nf,d⟩
theorem Inv.un {t':Nat} (I:Inv X pins σ H s) (u:Un X.fs [] H H' s.heap h') (hok:HOk X.prog X.w H' h'):Inv X pins σ H' { s with heap:=h',toks:=t' }:=by
 obtain⟨m,⟨o,es,ep,ho,r⟩,_⟩:=id I.loc
 obtain⟨sl,hL⟩:=u.any ho I.free (by simp)
 exact I.step (g':=s.gens) (d':=s.drawn) (ch:=[]) (fun _ z=>nomatch z) (fun b o _ hb _ e n=>u.keep b o e n hb (by simp)) (fun b o _ hb _ e n=>u.slot b o e n hb (by simp)) (fun b o _ e n=>u.free b o e n (by simp)) (fun b o _ e=>u.there b o e (by simp)) u.tups u.frzs u.tbls (fun m' hm=>by
  obtain⟨o',es',ep',ho',r'⟩:=hm
  rw [ho] at ho';cases ho'
  exact⟨_,es',ep',hL,r'⟩) hok I.bare
theorem Inv.call {g':Array GenState} {t':Nat} {d':Drawn} {ch:List Addr} (I:Inv X pins σ H s) (u:Un (frs X.stack) ch H H' s.heap h') (hok:HOk X.prog X.w H' h') (hg:AllBare g')
  (hch:∀ b∈ch,(b∈X.ex∨X.s₀.heap.objs.size≤b)∧b≠X.env.locals∧(∀ x c,X.env.cells.lookup x=some c→c≠b)∧∀ p∈X.pn ++ pins,p.1≠b) :
  Inv X pins σ H' { s with heap:=h',gens:=g',drawn:=d',toks:=t' }:=by
 obtain⟨m,⟨o,es,ep,ho,r⟩,_⟩:=id I.loc
 obtain⟨sl,hL⟩:=u.any ho I.free fun z=>(hch _ z).2.1 rfl
 exact I.step (ch:=ch) hch (fun b o hL hb hc e n=>u.keep b o e n (fun z=>(List.mem_cons.mp (I.stkSub b z)).elim hL hb) hc) (fun b o _ _ hc e n=>u.any e n hc) (fun b o hc e n=>u.free b o e n hc) (fun b o hc e=>u.there b o e hc) u.tups u.frzs u.tbls (fun m' hm=>by
  obtain⟨o',es',ep',ho',r'⟩:=hm
  rw [ho] at ho';cases ho'
  exact⟨_,es',ep',hL,r'⟩) hok hg
theorem Inv.turned {t':Nat} {it:Addr} (I:Inv X pins σ H s) (k:∀ b o,b≠it→s.heap.get? b=some o→h'.get? b=some o) (hn:H it=none) (hL:it≠X.env.locals)
  (h1:it∈X.ex∨X.s₀.heap.objs.size≤it) (h2:∀ x c,X.env.cells.lookup x=some c→c≠it) (h3:∀ p∈X.pn ++ pins,p.1≠it):Inv X pins σ H { s with heap:=h',toks:=t' }:=by
 have nit:∀ b u,H b=some u→b≠it:=fun b u e z=>by rw [z,hn] at e;cases e
 refine I.step (g':=s.gens) (d':=s.drawn) (ch:=[it]) (fun b hb=>?_) (fun b o _ _ hc e _=>k b o (fun z=>hc (by simp [z])) e) (fun b o _ _ hc e _=>⟨o.slots,k b o (fun z=>hc (by simp [z])) e⟩) (fun _ _ _ _ n=>n)
  (fun b o hc e=>⟨o,k b o (fun z=>hc (by simp [z])) e⟩) (fun _ _ e=>e) (fun _ _ _ e=>e) (fun b ps e=>⟨#[],by rw [e];simp⟩) (fun m hm=>?_) (fun b u e=>?_) I.bare
 ·have e:b=it:=by simpa using hb
  subst e
  exact⟨h1,hL,h2,h3⟩
 ·obtain⟨o,es,ep,ho,r⟩:=hm
  exact⟨o,es,ep,k _ o (Ne.symm hL) ho,r⟩
 ·refine (I.hok b u e).stay (fun c v hc q=>k c v ?_ q) (fun _ q=>q) fun _ _ q=>q
  rcases hc with z | z
  ·rw [z];exact nit b u e
  ·exact nit c _ z
theorem Inv.tok (I:Inv X pins σ H s) (t:Nat):Inv X pins σ H { s with toks:=t }:=I.un (h':=s.heap) (t':=t) Un.refl I.hok
theorem Inv.kept {t':Nat} (I:Inv X pins σ H s) (k:∀ b u,s.heap.get? b=some u→h'.get? b=some u):Inv X pins σ H { s with heap:=h',toks:=t' }:=I.un (Un.kept k) (I.hok.kept k)
theorem Inv.laid {a:Addr} {o:HO} {t':Nat} (I:Inv X pins σ H s) (k:∀ b u,s.heap.get? b=some u→h'.get? b=some u) (hp:s.heap.objs.size≤a) (new:zcF X.prog X.w (upd H a o) h' a o) :
  Inv X pins σ (upd H a o) { s with heap:=h',toks:=t' }:=I.un (Un.laid k hp (I.hok.fresh hp)) (I.hok.laid k hp new)
theorem Inv.write {x e:Addr} {o:HO} {t':Nat} (I:Inv X pins σ H s) (mu:Mut (H x)) (he:e=x∨H e=some (.own x)) (k:∀ b u,b≠e→s.heap.get? b=some u→h'.get? b=some u) (heo:∃ u,h'.get? e=some u)
  (new:zcF X.prog X.w (upd H x o) h' x o):Inv X pins σ (upd H x o) { s with heap:=h',toks:=t' }:=I.un (Un.write mu he k heo) (I.hok.write mu he k heo new)
theorem Inv.pins_of {pins':List (Addr×Obj)} (I:Inv X pins σ H s) (h:∀ p∈pins',s.heap.get? p.1=some p.2∧H p.1=none∧p.1≠X.env.locals∧p.1∉X.fs∧∀ v,p.2.data≠.cell v):Inv X pins' σ H s:=
 ⟨I.ok,I.os,I.bare,I.base,I.loc,I.cell,I.free,I.freeC,fun p hp=>(List.mem_append.mp hp).elim (fun z=>I.pin p (List.mem_append_left _ z)) (h p),I.hok,I.len⟩
theorem zfo {N:List Str} (hN:N.Nodup) {i j:Nat} {x:Str} (a:N[i]? = some x) (b:N[j]? = some x):i=j:=by
 obtain⟨h1,e1⟩:=List.getElem?_eq_some_iff.mp a
 obtain⟨h2,e2⟩:=List.getElem?_eq_some_iff.mp b
 exact (List.getElem_inj hN).mp (e1.trans e2.symm)
theorem zeh {M:Model} {A:Around} {E:Value→Shared→Prop} {i:Nat} {x:Str} {v:V} {u:Value} {Q:Unit→Shared→Prop} (I:Inv X pins σ H s) (hN:X.N.Nodup) (hi:X.N[i]? = some x) (hx:Loc X.env.scope x) (r:RelV v u)
  (h:∀ s',Inv X pins (σ.set i (some v)) H s'→(∃ a,Heap.SameBut a s.heap s'.heap∧(a=X.env.locals∨X.env.cells.lookup x=some a))→Q () s') (hf:X.fn x=true∨X.env.scope.names.lookup x=some .local:=by first | exact .inl rfl | exact .inr rfl | assumption):wpAny M A (storeName X.env x u) Q E s:=by
 obtain⟨m,hn,hl⟩:=id I.loc
 have hcls:(X.env.scope.kind == .class || (X.env.scope.kind == .module && X.env.locals != X.env.globals))=false:=by rw [I.ok.kind];rfl
 have hiσ:i < σ.length:=by rw [I.len];exact (List.getElem?_eq_some_iff.mp hi).1
 have cne:=I.cne
 have tracked:∀ {a:Addr} {h':Heap},(∃ o,s.heap.get? a=some o∧H a=none)→Heap.SameBut a s.heap h'→HOk X.prog X.w H h':=fun {a h'} ha hs b ob e=>by
  obtain⟨_,_,hfree⟩:=ha
  refine (I.hok b ob e).stay (fun c w' hc q=>(hs.2 c ?_).trans q) (fun _ q=>q) fun _ _ q=>q
  rintro rfl
  rcases hc with rfl | hc
  ·rw [hfree] at e;cases e
  ·rw [hfree] at hc;cases hc
 rcases hx with hk | hk
 ·refine wpAny_storeName_local hk hn (fun h' hn' hs=>?_) hcls
  obtain⟨oL,_,_,hoL,_⟩:=id hn
  refine h _ ⟨I.ok,I.os,I.bare,⟨fun b o e n hb hx=>?_,fun b o e n hb hx=>?_,I.base.free,fun b o e hx=>?_,I.base.tups,I.base.frzs,I.base.tbls⟩,⟨_,hn',fun j y v' e1 e2 e3=>?_⟩,fun y c e=>?_,I.free,I.freeC,fun p hp=>?_,tracked ⟨oL,hoL,I.free⟩ hs,by simpa using I.len⟩ ⟨_,hs,.inl rfl⟩
  ·exact (hs.2 b (Nat.ne_of_lt (Nat.lt_of_lt_of_le (Heap.lt_size e) I.ok.above))).trans (I.base.keep b o e n hb hx)
  ·obtain⟨sl,e1⟩:=I.base.slot b o e n hb hx
   exact⟨sl,(hs.2 b (Nat.ne_of_lt (Nat.lt_of_lt_of_le (Heap.lt_size e) I.ok.above))).trans e1⟩
  ·obtain⟨o',e1⟩:=I.base.there b o e hx
   exact⟨o',(hs.2 b (Nat.ne_of_lt (Nat.lt_of_lt_of_le (Heap.lt_size e) I.ok.above))).trans e1⟩
  ·by_cases hj:j=i
   ·subst hj
    rw [hi] at e1;cases e1
    rw [List.getElem?_set_self hiσ] at e2
    cases e2
    exact⟨u,r,.inl ⟨hk,by simp⟩⟩
   ·rw [List.getElem?_set_ne (Ne.symm hj)] at e2
    obtain⟨u',r',q⟩:=hl j y v' e1 e2 e3
    refine ⟨u',r',?_⟩
    rcases q with ⟨k,e⟩ | ⟨k,c,e,z⟩
    ·refine .inl ⟨k,?_⟩
     have:y≠x:=fun e=>hj (zfo hN e1 (e ▸ hi))
     simp [this,e]
    ·exact .inr ⟨k,c,e,z.sameBut hs (cne y c e)⟩
  ·obtain⟨w',z⟩:=I.cell y c e
   exact⟨w',z.sameBut hs (cne y c e)⟩
  ·obtain⟨e,n,ne,nf,d⟩:=I.pin p hp
   exact⟨(hs.2 p.1 ne).trans e,n,ne,nf,d⟩
 ·have hfn:X.fn x=true:=by
   rcases hf with z | z
   ·exact z
   ·rw [z] at hk;cases hk
  obtain⟨c,hc⟩:=I.ok.has x (.inl hk)
  obtain⟨w',z⟩:=I.cell x c hc
  refine wpAny_storeName_cell I.ok.kind hk hc z (fun h' hc' hs=>?_)
  obtain⟨oc,hoc,hocd⟩:=id z
  refine h { s with heap:=h' } ⟨I.ok,I.os,I.bare,⟨fun b o e n hb hx=>?_,fun b o e n hb hx=>?_,I.base.free,fun b o e hx=>?_,I.base.tups,I.base.frzs,I.base.tbls⟩,⟨m,hn.sameBut hs (Ne.symm (cne x c hc)),fun j y v' e1 e2 e3=>?_⟩,fun y c' e=>?_,I.free,I.freeC,fun p hp=>?_,tracked ⟨oc,hoc,I.freeC x c hc⟩ hs,by simpa using I.len⟩ ⟨c,hs,.inr hc⟩
  ·exact (hs.2 b (Nat.ne_of_lt (Nat.lt_of_lt_of_le (Heap.lt_size e) (I.ok.cab x c hfn hc)))).trans (I.base.keep b o e n hb hx)
  ·obtain⟨sl,e1⟩:=I.base.slot b o e n hb hx
   exact⟨sl,(hs.2 b (Nat.ne_of_lt (Nat.lt_of_lt_of_le (Heap.lt_size e) (I.ok.cab x c hfn hc)))).trans e1⟩
  ·obtain⟨o',e1⟩:=I.base.there b o e hx
   exact⟨o',(hs.2 b (Nat.ne_of_lt (Nat.lt_of_lt_of_le (Heap.lt_size e) (I.ok.cab x c hfn hc)))).trans e1⟩
  ·by_cases hj:j=i
   ·subst hj
    rw [hi] at e1;cases e1
    rw [List.getElem?_set_self hiσ] at e2
    cases e2
    exact⟨u,r,.inr ⟨.inl hk,c,hc,hc'⟩⟩
   ·rw [List.getElem?_set_ne (Ne.symm hj)] at e2
    obtain⟨u',r',q⟩:=hl j y v' e1 e2 e3
    refine ⟨u',r',?_⟩
    rcases q with q | ⟨k,c',e,z'⟩
    ·exact .inl q
    ·refine .inr ⟨k,c',e,z'.sameBut hs ?_⟩
     rintro rfl
     exact hj (zfo hN e1 (I.ok.inj _ _ _ e hc ▸ hi))
  ·by_cases hcc:c'=c
   ·subst hcc;exact⟨_,hc'⟩
   ·obtain⟨w2,z2⟩:=I.cell y c' e
    exact⟨w2,z2.sameBut hs hcc⟩
  ·obtain⟨e,n,ne,nf,d⟩:=I.pin p hp
   refine ⟨(hs.2 p.1 ?_).trans e,n,ne,nf,d⟩
   intro q
   rw [q,hoc] at e
   have q':oc=p.2:=Option.some.inj e
   exact d w' (by rw [← q'];exact hocd)
theorem zdV {M:Model} {A:Around} {E:Value→Shared→Prop} {i:Nat} {x:Str} {v:V} {u:Value} {Q:Unit→Shared→Prop} (I:Inv X pins σ H s) (hN:X.N.Nodup) (hi:X.N[i]? = some x) (hx:Loc X.env.scope x) (r:RelV v u)
  (h:∀ s',Inv X pins (σ.set i (some v)) H s'→Q () s') (hf:X.fn x=true∨X.env.scope.names.lookup x=some .local:=by first | exact .inl rfl | exact .inr rfl | assumption):wpAny M A (storeName X.env x u) Q E s:=
 zeh I hN hi hx r (fun s' I' _=>h s' I') hf
theorem Inv.call' {s':Shared} {ch:List Addr} (I:Inv X pins σ H s) (ho:s'.os=s.os) (u:Un (frs X.stack) ch H H' s.heap s'.heap) (hok:HOk X.prog X.w H' s'.heap) (hg:AllBare s'.gens)
  (hch:∀ b∈ch,(b∈X.ex∨X.s₀.heap.objs.size≤b)∧b≠X.env.locals∧(∀ x c,X.env.cells.lookup x=some c→c≠b)∧∀ p∈X.pn ++ pins,p.1≠b):Inv X pins σ H' s':=by
 obtain⟨h',g',d',t',o'⟩:=s'
 have e:o'=s.os:=ho
 subst e
 exact I.call (g':=g') (t':=t') (d':=d') u hok hg hch
end
noncomputable abbrev XK:=Value→Option Addr→Hp→Prop
noncomputable abbrev St:=List (Option V)
noncomputable abbrev VK:=V→Hp→Prop
noncomputable abbrev TE:=St→Hp→VK→Prop
noncomputable abbrev TT:=St→Hp→(Bool→Hp→Prop)→Prop
noncomputable abbrev TA:=St→Hp→(List V→Hp→Prop)→Prop
structure Ends where
 nx:St→Hp→Prop
 rt:VK
 bk:St→Hp→Prop:=fun _ _=>False
 ct:St→Hp→Prop:=fun _ _=>False
noncomputable abbrev TS:=Ends→St→Hp→Prop
def EP (X:Cx) (pins:List (Addr×Obj)) (σ:St) (Q:VK) (u:Value) (s':Shared):Prop:=∃ v H',Inv X pins σ H' s'∧RelV v u∧Q v H'
def TP (X:Cx) (pins:List (Addr×Obj)) (σ:St) (Q:Bool→Hp→Prop) (b:Bool) (s':Shared):Prop:=∃ H',Inv X pins σ H' s'∧Q b H'
def AP (X:Cx) (pins:List (Addr×Obj)) (σ:St) (Q:List V→Hp→Prop) (us:List Value) (s':Shared):Prop:=∃ vs H',Inv X pins σ H' s'∧Vals vs us∧Q vs H'
def SP (X:Cx) (pins:List (Addr×Obj)) (D:Ends) (f:Flow) (s':Shared):Prop:=
 match f with
 | .next=>∃ σ' H',Inv X pins σ' H' s'∧D.nx σ' H'
 | .brk=>∃ σ' H',Inv X pins σ' H' s'∧D.bk σ' H'
 | .cont=>∃ σ' H',Inv X pins σ' H' s'∧D.ct σ' H'
 | .ret u=>∃ v σ' H',Inv X pins σ' H' s'∧RelV v u∧D.rt v H'
def PE (X:Cx) (e:Expr) (t:TE):Prop:=
 ∀ (pins:List (Addr×Obj)) (s:Shared) (σ:St) (H:Hp) (Q:VK),Inv X pins σ H s→t σ H Q→wpAny (model X.prog X.w) X.A (eval e X.env) (EP X pins σ Q) X.xe s
def PT (X:Cx) (e:Expr) (t:TT):Prop:=
 ∀ (pins:List (Addr×Obj)) (s:Shared) (σ:St) (H:Hp) (Q:Bool→Hp→Prop),Inv X pins σ H s→t σ H Q→wpAny (model X.prog X.w) X.A (isTrue e X.env (eval e X.env)) (TP X pins σ Q) X.xe s
def PW (X:Cx) (e:Expr) (t:TT):Prop:=
 ∀ (whole:Sem Value) (pins:List (Addr×Obj)) (s:Shared) (σ:St) (H:Hp) (Q:Bool→Hp→Prop),Inv X pins σ H s→t σ H Q→wpAny (model X.prog X.w) X.A (isTrue e X.env whole) (TP X pins σ Q) X.xe s
theorem PW.pt {X:Cx} {e:Expr} {t:TT} (h:PW X e t):PT X e t:=h _
def PA (X:Cx) (es:List Expr) (t:TA):Prop:=
 ∀ (pos:Pos) (pins:List (Addr×Obj)) (s:Shared) (σ:St) (H:Hp) (Q:List V→Hp→Prop),Inv X pins σ H s→t σ H Q→wpAny (model X.prog X.w) X.A (spliced (backTo pos (starEach es X.env))) (AP X pins σ Q) X.xe s
def PS (X:Cx) (st:Stmt) (t:TS):Prop:=
 ∀ (pins:List (Addr×Obj)) (s:Shared) (σ:St) (H:Hp) (D:Ends),Inv X pins σ H s→t D σ H→wpAny (model X.prog X.w) X.A (exec st X.env) (SP X pins D) X.xe s
def PSs (X:Cx) (st:List Stmt) (t:TS):Prop:=
 ∀ (pins:List (Addr×Obj)) (s:Shared) (σ:St) (H:Hp) (D:Ends),Inv X pins σ H s→t D σ H→wpAny (model X.prog X.w) X.A (execs st X.env) (SP X pins D) X.xe s
theorem thn {α:Type} {t:Sem α} {Q Q':α→Shared→Prop} {M:Model} {A:Around} {E:Value→Shared→Prop} {s:Shared} (h:wpAny M A t Q E s) (hQ:∀ a s,Q a s→Q' a s):wpAny M A t Q' E s:=wpAny_mono h hQ fun _ _ x=>x
end L2
namespace L2
open PySem PySem.Spec PyProof.Rows
section
variable {X:Cx}
def tVar (i:Nat):TE:=fun σ H Q=>∃ v,σ[i]? = some (some v)∧Q v H
def tC (v:V):TE:=fun _ H Q=>Q v H
theorem zjV {i:Nat} {x:Str} {pos:Pos} (hN:X.N[i]? = some x) (hv:Vis X.env.scope x) (hd:(x == ("__debug__" : Str))=false:=by decide) (hcd:(x == ("__classdict__" : Str))=false:=by decide):PE X (.Name x pos) (tVar i):=by
 intro pins s σ H Q I h
 obtain⟨v,e,h⟩:=h
 obtain⟨m,hn,hl⟩:=I.loc
 obtain⟨u,r,l⟩:=hl i x v hN e hv
 have fin:EP X pins σ Q u s:=⟨v,H,I,r,h⟩
 rcases l with ⟨hk,hm⟩ | ⟨hk,c,hc,hcell⟩
 ·exact wpAny_Name (wpAny_loadName_local I.ok.kind hk hn hm fin) hd
 ·rcases hk with hk | hk
  ·exact wpAny_Name (wpAny_loadName_cell I.ok.kind hk hc hcell fin) hd
  ·exact wpAny_Name (wpAny_loadName_free I.ok.kind hk hc hcell fin hcd) hd
theorem zjZ {i j pos}:PE X (.Constant (.int i) j pos) (tC (.int i)):=fun _ _ _ H _ I h=>wpAny_Constant_int ⟨.int i,H,I.tok _,⟨_,rfl⟩,h⟩
theorem zlw {b j pos}:PE X (.Constant (.bool b) j pos) (tC (.bl b)):=fun _ _ _ H _ I h=>Constant_bool ⟨.bl b,H,I,rfl,h⟩
theorem zjX {x j pos}:PE X (.Constant (.str x) j pos) (tC (.str x)):=fun _ _ _ H _ I h=>Calls.Constant_str ⟨.str x,H,I.tok _,⟨_,rfl⟩,h⟩
def Gl (X:Cx) (x:Str):Prop:=X.env.kindOf x=some .globalImplicit
theorem zde {E:Value→Shared→Prop} {pins:List (Addr×Obj)} {s:Shared} {σ:St} {H:Hp} {x:Str} {u:Value} {pos:Pos} {Q:Value→Shared→Prop} (I:Inv X pins σ H s) (hg:Gl X x) (hm:X.mg x=some u) (h:Q u s)
  (hd:(x == ("__debug__" : Str))=false:=by decide):wpAny (model X.prog X.w) X.A (eval (.Name x pos) X.env) Q E s:=
 Calls.Name_function_global I.ok.kind hg (Calls.loadGlobal_global (by rw [I.ok.glob];exact I.mod.glob.keeps I.bk) hm h) hd
theorem zcu {E:Value→Shared→Prop} {pins:List (Addr×Obj)} {s:Shared} {σ:St} {H:Hp} {x:Str} {u:Value} {pos:Pos} {Q:Value→Shared→Prop} (I:Inv X pins σ H s) (hg:Gl X x) (hm:X.mg x=none) (hv:bootBuiltins x=some u) (h:Q u s)
  (hn:x ≠ "__name__" := by decide) (hd:(x == ("__debug__" : Str))=false:=by decide):wpAny (model X.prog X.w) X.A (eval (.Name x pos) X.env) Q E s:=by
 obtain⟨mb,h1,h2⟩:=I.mod.blt
 exact Calls.Name_function_global I.ok.kind hg (Calls.loadGlobal_builtin (by rw [I.ok.glob];exact I.mod.glob.keeps I.bk) hm (by rw [I.ok.blt];exact h1.keeps I.bk) ((h2 x hn).trans hv) h) hd
theorem zaN {x:Str} {v:V} {u:Value} {pos:Pos} (hg:Gl X x) (hm:X.mg x=some u) (r:RelV v u) (hd:(x == ("__debug__" : Str))=false:=by decide):PE X (.Name x pos) (tC v):=
 fun _ _ _ H _ I h=>zde I hg hm ⟨v,H,I,r,h⟩ hd
theorem ziB {x:Str} {v:V} {u:Value} {pos:Pos} (hg:Gl X x) (hm:X.mg x=none) (hv:bootBuiltins x=some u) (r:RelV v u) (hn:x ≠ "__name__" := by decide) (hd:(x == ("__debug__" : Str))=false:=by decide):PE X (.Name x pos) (tC v):=
 fun _ _ _ H _ I h=>zcu I hg hm hv ⟨v,H,I,r,h⟩ hn hd
variable {a b:Expr} {ta tb:TE} {pos:Pos}
def tB (t:TE):TT:=fun σ H Q=>t σ H fun x H1=>∃ c,x=.bl c∧Q c H1
theorem zjQ {e:Expr} {t:TE} (h:PE X e t) (he:∀ whole,isTrue e X.env whole=(do let v ← whole;standAt e.pos;holding [v] (truthy v)):=by intro _;rfl):PT X e (tB t):=by
 intro pins s σ H Q I hw
 refine isTrue_plain (thn (h pins s σ H _ I hw) fun v s1 ⟨x,H1,I1,r1,q1⟩=>?_) (he _)
 obtain⟨d,rfl,q⟩:=q1
 cases r1
 exact wpAny_truthy_bool ⟨H1,I1,q⟩
variable {tA tB':TT} {rest:List Expr}
def tAnd (t u:TT):TT:=fun σ H Q=>t σ H fun c H1=>if c=true then u σ H1 Q else Q false H1
def tOr (t u:TT):TT:=fun σ H Q=>t σ H fun c H1=>if c=true then Q true H1 else u σ H1 Q
def tNot (t:TT):TT:=fun σ H Q=>t σ H fun c H1=>Q (!c) H1
theorem zis (ha:PT X a tA):PW X (.BoolOp .And [a] pos) tA:=by
 intro wh pins s σ H Q I h
 refine isTrue_and (thn (ha pins s σ H Q I h) fun c s1 e=>?_)
 cases c with
 | true=>exact isTrue_and_nil e
 | false=>exact e
theorem zjN (ha:PT X a tA):PW X (.BoolOp .Or [a] pos) tA:=by
 intro wh pins s σ H Q I h
 refine isTrue_or (thn (ha pins s σ H Q I h) fun c s1 e=>?_)
 cases c with
 | false=>exact isTrue_or_nil e
 | true=>exact e
theorem zjO (ha:PT X a tA) (hb:PW X (.BoolOp .And (b :: rest) pos) tB'):PW X (.BoolOp .And (a :: b :: rest) pos) (tAnd tA tB'):=by
 intro wh pins s σ H Q I h
 refine isTrue_and (thn (ha pins s σ H _ I h) fun c s1 ⟨H1,I1,q1⟩=>?_)
 cases c with
 | true=>exact hb wh pins s1 σ H1 Q I1 q1
 | false=>exact⟨H1,I1,q1⟩
theorem zlr (ha:PT X a tA) (hb:PW X (.BoolOp .Or (b :: rest) pos) tB'):PW X (.BoolOp .Or (a :: b :: rest) pos) (tOr tA tB'):=by
 intro wh pins s σ H Q I h
 refine isTrue_or (thn (ha pins s σ H _ I h) fun c s1 ⟨H1,I1,q1⟩=>?_)
 cases c with
 | true=>exact⟨H1,I1,q1⟩
 | false=>exact hb wh pins s1 σ H1 Q I1 q1
theorem zjR (ha:PT X a tA):PT X (.UnaryOp .Not a pos) (tNot tA):=by
 intro pins s σ H Q I h
 exact isTrue_not (ha pins s σ H (fun c H1=>Q (!c) H1) I h)
end
end L2
namespace L2
open PySem PySem.Spec PyProof.Rows
def SqL (K:PySem.W.Frag) (H:Hp) (a:Addr) (xs:List V):Prop:=
 Rd H a (.lst xs) ∨
  ∃ (o:Obj) (its:Array Value) (n:Nat),K.lookup a=some o∧o.cls=.type "list" ∧ o.dict=none∧o.data=.seq its n∧its.size≤sizeLine∧Vals xs its.toList
def SqT (K:PySem.W.Frag) (H:Hp) (a:Addr) (xs:List V):Prop:=
 Rd H a (.tup xs) ∨
  ∃ (o:Obj) (its:Array Value) (n:Nat),K.lookup a=some o∧o.cls=.type "tuple" ∧ o.data=.seq its n∧its.size≤sizeLine∧Vals xs its.toList
noncomputable def absV:Value→Option V
 | .none=>some .non
 | .bool b=>some (.bl b)
 | .int i _=>some (.int i)
 | .str x _=>some (.str x)
 | .bytes b _=>some (.byt b)
 | .float b _=>some (.flt b)
 | .ref a=>some (.ref a)
 | .type n=>some (.ty n)
 | _=>none
theorem RelV.abs {x:V} {u:Value} (r:RelV x u):absV u=some x:=by
 cases x with
 | non=>cases r;rfl
 | bl _=>cases r;rfl
 | int _=>obtain⟨t,rfl⟩:=r;rfl
 | str _=>obtain⟨t,rfl⟩:=r;rfl
 | byt _=>obtain⟨t,rfl⟩:=r;rfl
 | flt _=>obtain⟨t,rfl⟩:=r;rfl
 | ref _=>cases r;rfl
 | ty _=>cases r;rfl
theorem RelV.inj {x y:V} {u:Value} (r:RelV x u) (q:RelV y u):x=y:=Option.some.inj (r.abs.symm.trans q.abs)
theorem Vals.inj:∀ {xs ys:List V} {us:List Value},Vals xs us→Vals ys us→xs=ys:=by
 intro xs ys us h
 induction h generalizing ys with
 | nil =>
  intro g
  cases g
  rfl
 | cons r t ih =>
  intro g
  cases g with
  | cons r' t'=>rw [r.inj r',ih t']
section
variable {X:Cx} {pins:List (Addr×Obj)} {σ:St} {H:Hp} {s:Shared} {a:Addr} {xs ys:List V}
theorem SqL.of {K:PySem.W.Frag} (h:H a=some (.lst xs)):SqL K H a xs:=.inl (.inl h)
theorem Inv.list (I:Inv X pins σ H s) (h:SqL X.K H a xs):∃ its:List Value,Vals xs its∧PlainL s.heap a its.toArray∧xs.length≤sizeLine:=by
 rcases h with h | ⟨o,its,n,hk,hc,hd,hs,hz,r⟩
 ·obtain⟨z,its,n,r,e⟩:=h.ok I.hok
  exact⟨its,r,⟨_,n,e,rfl,rfl,rfl⟩,z⟩
 ·refine ⟨its.toList,r,⟨o,n,I.kIn a o hk,hc,hd,by simpa using hs⟩,?_⟩
  have e:=r.length
  simp only [Array.length_toList] at e
  lia
theorem Inv.tuple (I:Inv X pins σ H s) (h:SqT X.K H a xs):∃ its:List Value,Vals xs its∧IsTup s.heap a its.toArray∧xs.length≤sizeLine:=by
 rcases h with h | ⟨o,its,n,hk,hc,hs,hz,r⟩
 ·obtain⟨z,its,r,p⟩:=h.ok I.hok
  exact⟨its,r,p,z⟩
 ·refine ⟨its.toList,r,⟨o,I.kIn a o hk,hc,n,by simpa using hs⟩,?_⟩
  have e:=r.length
  simp only [Array.length_toList] at e
  lia
theorem Inv.list_inj (I:Inv X pins σ H s) (h:SqL X.K H a xs) (h':SqL X.K H a ys):xs=ys:=by
 obtain⟨its,r,⟨o,n,e,_,_,d⟩,_⟩:=I.list h
 obtain⟨its',r',⟨o',n',e',_,_,d'⟩,_⟩:=I.list h'
 rw [e] at e';cases e'
 rw [d] at d'
 injection d' with d1 _
 have:its=its':=by simpa using congrArg Array.toList d1
 subst this
 exact r.inj r'
theorem Inv.tuple_inj (I:Inv X pins σ H s) (h:SqT X.K H a xs) (h':SqT X.K H a ys):xs=ys:=by
 obtain⟨its,r,⟨o,e,_,n,d⟩,_⟩:=I.tuple h
 obtain⟨its',r',⟨o',e',_,n',d'⟩,_⟩:=I.tuple h'
 rw [e] at e';cases e'
 rw [d] at d'
 injection d' with d1 _
 have:its=its':=by simpa using congrArg Array.toList d1
 subst this
 exact r.inj r'
end
section
variable {X:Cx} {pins:List (Addr×Obj)} {σ:St} {H:Hp} {s:Shared} {E:Value→Shared→Prop}
end
section
variable {X:Cx} {st:Stmt} {rest:List Stmt} {t u:TS} {e:Expr} {te:TE} {pos:Pos}
def zk6:TS:=fun D σ H=>D.nx σ H
def tSeq (t u:TS):TS:=fun D σ H=>t { D with nx:=u D } σ H
theorem ziw:PSs X [] zk6:=fun _ _ σ H _ I h=>wpAny_execs_nil ⟨σ,H,I,h⟩
theorem zhh (h1:PS X st t) (h2:PSs X rest u):PSs X (st :: rest) (tSeq t u):=by
 intro pins s σ H D I h
 refine wpAny_execs_cons (thn (h1 pins s σ H { D with nx:=u D } I h) fun f s1 q=>?_)
 cases f with
 | next =>
  obtain⟨σ',H',I',q⟩:=q
  exact h2 pins s1 σ' H' D I' q
 | ret v=>exact q
 | brk=>exact q
 | cont=>exact q
theorem ziv (h1:PS X st t):PSs X [st] t:=by
 intro pins s σ H D I h
 refine wpAny_execs_cons (thn (h1 pins s σ H D I h) fun f s1 q=>?_)
 cases f with
 | next=>exact wpAny_execs_nil q
 | ret v=>exact q
 | brk=>exact q
 | cont=>exact q
theorem Inv.quiet {pins:List (Addr×Obj)} {σ:St} {H:Hp} {s:Shared} (I:Inv X pins σ H s):interactive X.env=false:=by simp [interactive,I.ok.kind]
def zjE (te:TE):TS:=fun D σ H=>te σ H fun _ H1=>D.nx σ H1
theorem zgs (he:PE X e te) (hs:swapsWith e none pos.line X.env=pure false:=by rfl):PS X (.Expr e pos) (zjE te):=by
 intro pins s σ H D I h
 exact wpAny_Expr_any (thn (he pins s σ H _ I h) fun v s1 ⟨x,H1,I1,r1,q1⟩=>⟨σ,H1,I1,q1⟩) I.quiet hs
def tRet (te:TE):TS:=fun D σ H=>te σ H D.rt
theorem zh3 (he:PE X e te):PS X (.Return (some e) pos) (tRet te):=by
 intro pins s σ H D I h
 exact wpAny_Return_some (thn (he pins s σ H _ I h) fun v s1 ⟨x,H1,I1,r1,q1⟩=>⟨x,σ,H1,I1,r1,q1⟩)
def tIfS (c:TT) (t u:TS):TS:=fun D σ H=>c σ H fun b H1=>if b=true then t D σ H1 else u D σ H1
theorem zls {c:Expr} {a b:List Stmt} {tc:TT} (hc:PT X c tc) (ha:PSs X a t) (hb:PSs X b u):PS X (.If c a b pos) (tIfS tc t u):=by
 intro pins s σ H D I h
 refine wpAny_If (thn (hc pins s σ H _ I h) fun d s1 ⟨H1,I1,q1⟩=>?_)
 cases d with
 | true=>exact ha pins s1 σ H1 D I1 q1
 | false=>exact hb pins s1 σ H1 D I1 q1
end
noncomputable abbrev TG:=V→St→Hp→(St→Hp→Prop)→Prop
noncomputable abbrev TGs:=List V→St→Hp→(St→Hp→Prop)→Prop
def PG (X:Cx) (target:Expr) (t:TG):Prop:=
 ∀ (pins:List (Addr×Obj)) (s:Shared) (σ:St) (H:Hp) (v:V) (u:Value) (Q:St→Hp→Prop),Inv X pins σ H s→RelV v u→t v σ H Q →
  wpAny (model X.prog X.w) X.A (assign target X.env u) (fun _ s'=>∃ σ' H',Inv X pins σ' H' s'∧Q σ' H') X.xe s
def PGs (X:Cx) (ts:List Expr) (t:TGs):Prop:=
 ∀ (pins:List (Addr×Obj)) (s:Shared) (σ:St) (H:Hp) (vs:List V) (us:List Value) (Q:St→Hp→Prop),Inv X pins σ H s→Vals vs us→t vs σ H Q →
  wpAny (model X.prog X.w) X.A (assignInOrder ((assignEach ts X.env).map (·.2)) us) (fun _ s'=>∃ σ' H',Inv X pins σ' H' s'∧Q σ' H') X.xe s
section
variable {X:Cx} {pos:Pos}
def zdy (i:Nat):TG:=fun v σ H Q=>Q (σ.set i (some v)) H
theorem zbe {i:Nat} {x:Str} (hN:X.N.Nodup) (hi:X.N[i]? = some x) (hx:Loc X.env.scope x) (hf:X.fn x=true∨X.env.scope.names.lookup x=some .local:=by first | exact .inl rfl | exact .inr rfl | assumption):PG X (.Name x pos) (zdy i):=by
 intro pins s σ H v u Q I r h
 exact wpAny_assign_Name (zdV I hN hi hx r (fun s' I'=>⟨_,H,I',h⟩) hf)
def gNil:TGs:=fun vs σ H Q=>vs=[]∧Q σ H
def zi0 (t:TG) (u:TGs):TGs:=fun vs σ H Q=>∃ v r,vs=v :: r∧t v σ H fun σ' H'=>u r σ' H' Q
theorem zgw:PGs X [] gNil:=by
 intro pins s σ H vs us Q I r h
 obtain⟨e,h⟩:=h
 subst e
 cases r
 exact assignInOrder_nil ⟨σ,H,I,h⟩
theorem zc0 {e:Expr} {es:List Expr} {t:TG} {u:TGs} (h1:PG X e t) (h2:PGs X es u)
  (hs:(assignEach (e :: es) X.env).map (·.2)=assign e X.env :: (assignEach es X.env).map (·.2):=by rfl):PGs X (e :: es) (zi0 t u):=by
 intro pins s σ H vs us Q I r h
 obtain⟨v,vr,e1,h⟩:=h
 subst e1
 cases r with
 | cons r rr =>
  rw [hs]
  refine assignInOrder_cons (thn (h1 pins s σ H _ _ _ I r h) fun _ s1 ⟨σ1,H1,I1,q1⟩=>?_)
  exact h2 pins s1 σ1 H1 _ _ Q I1 rr q1
def gTup (K:PySem.W.Frag) (n:Nat) (t:TGs):TG:=fun v σ H Q=>∃ a xs,v=.ref a∧SqT K H a xs∧xs.length=n∧t xs σ H Q
theorem zh4 {es:List Expr} {k:Nat} {t:TGs} {n:Nat} (hc:X.calm=true) (h:PGs X es t)
  (hn:(assignEach es X.env).length=n:=by rfl) (hst:(assignEach es X.env).findIdx? (·.1)=none:=by rfl):PG X (.Tuple es k pos) (gTup X.K n t):=by
 intro pins s σ H v u Q I r hw
 obtain⟨a,xs,e1,hq,hl,hw⟩:=hw
 subst e1
 cases r
 obtain⟨its,rv,ht,hz⟩:=I.tuple hq
 refine assign_Tuple_tuple (I.ok.hd hc) ht (by simp [hn,← hl,rv.length]) hst fun h' hx=>?_
 have I1:Inv X pins σ H { s with heap:=h' }:=I.kept (t':=s.toks) fun b o e=>hx b o (Nat.ne_of_lt (Heap.lt_size e)) e
 exact h pins _ σ H xs _ Q I1 (by simpa using rv) hw
def tAsg (te:TE) (g:TG):TS:=fun D σ H=>te σ H fun x H1=>g x σ H1 D.nx
theorem zh2 {i:Nat} {x:Str} {e:Expr} {te:TE} {pos':Pos} (hN:X.N.Nodup) (hi:X.N[i]? = some x) (hx:Loc X.env.scope x) (he:PE X e te) (hs:swapsWith e (some (.Name x pos')) pos.line X.env=pure false:=by rfl) (hf:X.fn x=true∨X.env.scope.names.lookup x=some .local:=by first | exact .inl rfl | exact .inr rfl | assumption) :
  PS X (.Assign [.Name x pos'] e pos) (tAsg te (zdy i)):=by
 intro pins s σ H D I h
 refine wpAny_Assign_Name (thn (he pins s σ H _ I h) fun v s1 ⟨y,H1,I1,r1,q1⟩=>?_) hs
 exact zdV I1 hN hi hx r1 (fun s2 I2=>⟨_,H1,I2,q1⟩) hf
end
section
variable {X:Cx} {pos:Pos}
end
structure It where
 go:Nat→Hp→Prop
 yld:Nat→Hp→V→Hp→Prop
 stop:Nat→Hp→Prop
def FpOk (X:Cx) (pins:List (Addr×Obj)) (H:Hp) (b:Addr):Prop:=
 H b=none∧b≠X.env.locals∧b∉X.fs∧(b∈X.ex∨X.s₀.heap.objs.size≤b)∧(∀ x c,X.env.cells.lookup x=some c→c≠b)∧∀ p∈X.pn ++ pins,p.1≠b
theorem Inv.fpOk {X:Cx} {pins:List (Addr×Obj)} {σ:St} {H H':Hp} {s:Shared} {b:Addr} (I:Inv X pins σ H s) (hb:s.heap.objs.size≤b) (hn:H' b=none):FpOk X pins H' b:=by
 refine ⟨hn,Nat.ne_of_gt (Nat.lt_of_lt_of_le I.lt hb),I.nofs hb,.inr (Nat.le_trans I.sz hb),fun x c e z=>?_,fun p hp z=>?_⟩
 ·obtain⟨v,q⟩:=I.cell x c e
  exact absurd (Nat.lt_of_lt_of_le q.lt (by rw [z];exact hb)) (Nat.lt_irrefl _)
 ·exact absurd (Nat.lt_of_lt_of_le (Heap.lt_size (I.pin p hp).1) (by rw [z];exact hb)) (Nat.lt_irrefl _)
structure Turn (P:Program) (w:World) (K:PySem.W.Frag) (tg:Expr) (J:It) (fp:List Addr) (it:Addr) (tn:Nat→Heap→Prop):Prop where
 mem:it∈fp
 obj:∀ i h,tn i h→∀ b∈fp,∃ o,h.get? b=some o∧∀ v,o.data≠.cell v
 keep:∀ i h h',tn i h→(∀ b∈fp,∀ o,h.get? b=some o→h'.get? b=some o)→tn i h'
 item:∀ (X:Cx),X.prog=P→X.w=w→X.K=K→X.calm=true→∀ (i:Nat) (pins:List (Addr×Obj)) (s:Shared) (σ:St) (H:Hp) (E:Value→Shared→Prop),Inv X pins σ H s→(∀ b∈fp,FpOk X pins H b)→tn i s.heap→J.go i H →
  wpAny (model P w) X.A (pyNext (.ref it)) (fun r s1=>∃ u,r=some u ∧
   wpAny (model P w) X.A (letOwnedTupleGo tg (.ref it) u) (fun _ s2=>∃ x H',Inv X pins σ H' s2∧RelV x u∧J.yld i H x H'∧tn (i + 1) s2.heap∧∀ b∈fp,H' b=none) E s1) E s
 done:∀ (X:Cx),X.prog=P→X.w=w→X.K=K→X.calm=true→∀ (i:Nat) (pins:List (Addr×Obj)) (s:Shared) (σ:St) (H:Hp) (E:Value→Shared→Prop),Inv X pins σ H s→(∀ b∈fp,FpOk X pins H b)→tn i s.heap→J.stop i H →
  wpAny (model P w) X.A (pyNext (.ref it)) (fun r s1=>r=none∧Inv X pins σ H s1) E s
 self:∀ (A:Around) (i:Nat) (s:Shared) (Q:Value→Shared→Prop) (E:Value→Shared→Prop),tn i s.heap→Q (.ref it) s→wpAny (model P w) A (pyIter (.ref it)) Q E s
noncomputable abbrev TI:=St→Hp→(It→Hp→Prop)→Prop
def PIE (X:Cx) (pins:List (Addr×Obj)) (σ:St) (tg:Expr) (R:It→Hp→Prop) (itv:Value) (s2:Shared):Prop:=
 ∃ (it:Addr) (fp:List Addr) (tn:Nat→Heap→Prop) (J:It) (H':Hp),itv=.ref it∧Inv X pins σ H' s2∧Turn X.prog X.w X.K tg J fp it tn∧tn 0 s2.heap∧(∀ b∈fp,FpOk X pins H' b)∧R J H'
def PI (X:Cx) (tg iter:Expr) (wi:TI):Prop:=
 ∀ (pins:List (Addr×Obj)) (s:Shared) (σ:St) (H:Hp) (R:It→Hp→Prop),Inv X pins σ H s→wi σ H R →
  wpAny (model X.prog X.w) X.A (eval iter X.env) (fun v s1=>wpAny (model X.prog X.w) X.A (pyIter v) (PIE X pins σ tg R) X.xe s1) X.xe s
theorem ziZ {M:Model} {A:Around} {E:Value→Shared→Prop} {s:Shared} {tg:Expr} {it:Addr} {u:Value} {o:Obj} {n:String} {vs:Array Value} {Q:Unit→Shared→Prop} (ho:s.heap.get? it=some o) (hc:o.cls=.type n) (hd:o.data=.fields vs)
    (hn:["enumerate", "zip", "dict_itemiterator", "dict_reverseitemiterator", "odict_iterator", "itertools.zip_longest", "itertools.pairwise"].contains n=false) (hQ:Q () s):wpAny M A (letOwnedTupleGo tg (.ref it) u) Q E s:=by
  unfold letOwnedTupleGo
  cases tg <;> first
    | exact wpAny_pure hQ
    | (cases u <;> first
        | exact wpAny_pure hQ
        | (refine wpAny_bind (wpAny_load ho ?_)
           rw [hc,hd]
           show wpAny M A (if (["enumerate", "zip", "dict_itemiterator", "dict_reverseitemiterator", "odict_iterator", "itertools.zip_longest", "itertools.pairwise"].contains n && vs[0]? == some (rawInt _))=true then _ else _) Q E s
           rw [if_neg (by intro h;rw [hn,Bool.false_and] at h;cases h)]
           exact wpAny_pure hQ))
noncomputable def Itl (K:PySem.W.Frag) (a:Addr):It:=
 ⟨fun i H=>∃ xs x,SqL K H a xs∧xs[i]? = some x,fun i H x H'=>H'=H∧∀ xs,SqL K H a xs→xs[i]? = some x,fun i H=>∃ xs,SqL K H a xs∧xs.length≤i⟩
noncomputable def Itt (K:PySem.W.Frag) (a:Addr):It:=
 ⟨fun i H=>∃ xs x,SqT K H a xs∧xs[i]? = some x,fun i H x H'=>H'=H∧∀ xs,SqT K H a xs→xs[i]? = some x,fun i H=>∃ xs,SqT K H a xs∧xs.length≤i⟩
noncomputable def Itr (lo:Int) (n:Nat):It:=⟨fun i _=>i < n,fun i H x H'=>H'=H∧x=.int (lo + i),fun i _=>n≤i⟩
theorem zef {P:Program} {w:World} {K:PySem.W.Frag} {tg:Expr} (a it:Addr):Turn P w K tg (Itl K a) [it] it (fun i h=>h.IsListIter it a i) where
 mem:=by simp
 obj:=fun i h st b hb=>by
  have e:b=it:=by simpa using hb
  subst e
  obtain⟨o,e,c,d⟩:=st
  exact⟨o,e,fun v z=>by rw [d] at z;cases z⟩
 keep:=fun i h h' st k=>st.at fun o e=>k it (by simp) o e
 item:=by
  intro X hP hw hK hc i pins s σ H E I hf st hg
  subst hP hw hK
  obtain⟨xs,x,hq,hx⟩:=hg
  obtain⟨its,rv,p,hz⟩:=I.list hq
  obtain⟨u,hu,ru⟩:=rv.get hx
  obtain⟨f0,f1,f2,f3,f4,f5⟩:=hf it (by simp)
  refine wpAny_pyNext_list_item st p.isList (x:=u) (by simpa using hu) fun h' st' sb=>?_
  have I1:Inv X pins σ H { s with heap:=h' }:=I.turned (t':=s.toks) (fun b o hb e=>(sb.2 b hb).trans e) f0 f1 f3 f4 f5
  obtain⟨o,e,c,d⟩:=id st'
  exact⟨u,rfl,ziZ (s:={ s with heap:=h' }) e c d (by decide) ⟨x,H,I1,ru,⟨rfl,fun ys hy=>by rw [I.list_inj hy hq];exact hx⟩,st',fun b hb=>(hf b hb).1⟩⟩
 done:=by
  intro X hP hw hK hc i pins s σ H E I hf st hg
  subst hP hw hK
  obtain⟨xs,hq,hx⟩:=hg
  obtain⟨its,rv,p,hz⟩:=I.list hq
  obtain⟨f0,f1,f2,f3,f4,f5⟩:=hf it (by simp)
  have hl:=rv.length
  exact wpAny_pyNext_list_end (I.ok.hd hc) st p.isList (by simp;lia) fun h' eb=>⟨rfl,I.turned (t':=s.toks) (fun b o hb e=>eb b o hb e) f0 f1 f3 f4 f5⟩
 self:=fun _ _ _ _ _ st h=>wpAny_pyIter_listiter st h
theorem zfO {P:Program} {w:World} {K:PySem.W.Frag} {tg:Expr} (a it:Addr):Turn P w K tg (Itt K a) [it] it (fun i h=>h.IsTupleIter it a i) where
 mem:=by simp
 obj:=fun i h st b hb=>by
  have e:b=it:=by simpa using hb
  subst e
  obtain⟨o,e,c,d⟩:=st
  exact⟨o,e,fun v z=>by rw [d] at z;cases z⟩
 keep:=fun i h h' st k=>st.at fun o e=>k it (by simp) o e
 item:=by
  intro X hP hw hK hc i pins s σ H E I hf st hg
  subst hP hw hK
  obtain⟨xs,x,hq,hx⟩:=hg
  obtain⟨its,rv,p,hz⟩:=I.tuple hq
  obtain⟨u,hu,ru⟩:=rv.get hx
  obtain⟨f0,f1,f2,f3,f4,f5⟩:=hf it (by simp)
  refine wpAny_pyNext_tuple_item st (show s.heap.IsTuple a its.toArray from p) (x:=u) (by simpa using hu) fun h' st' sb=>?_
  have I1:Inv X pins σ H { s with heap:=h' }:=I.turned (t':=s.toks) (fun b o hb e=>(sb.2 b hb).trans e) f0 f1 f3 f4 f5
  obtain⟨o,e,c,d⟩:=id st'
  exact⟨u,rfl,ziZ (s:={ s with heap:=h' }) e c d (by decide) ⟨x,H,I1,ru,⟨rfl,fun ys hy=>by rw [I.tuple_inj hy hq];exact hx⟩,st',fun b hb=>(hf b hb).1⟩⟩
 done:=by
  intro X hP hw hK hc i pins s σ H E I hf st hg
  subst hP hw hK
  obtain⟨xs,hq,hx⟩:=hg
  obtain⟨its,rv,p,hz⟩:=I.tuple hq
  obtain⟨f0,f1,f2,f3,f4,f5⟩:=hf it (by simp)
  have hl:=rv.length
  exact wpAny_pyNext_tuple_end (I.ok.hd hc) st (show s.heap.IsTuple a its.toArray from p) (by simp;lia) fun h' eb=>⟨rfl,I.turned (t':=s.toks) (fun b o hb e=>eb b o hb e) f0 f1 f3 f4 f5⟩
 self:=fun _ _ _ _ _ st h=>wpAny_pyIter_tupleiter st h
theorem zfP {P:Program} {w:World} {K:PySem.W.Frag} {tg:Expr} (it:Addr) (lo:Int) (n:Nat):Turn P w K tg (Itr lo n) [it] it (fun i h=>IsRangeIter h it (lo + (i:Nat) * 1) ((n:Int) - (i:Nat)) 1) where
 mem:=by simp
 obj:=fun i h st b hb=>by
  have e:b=it:=by simpa using hb
  subst e
  exact⟨_,st,fun v z=>by
   have z':Data.fields _=Data.cell v:=z
   cases z'⟩
 keep:=fun i h h' st k=>k it (by simp) _ st
 item:=by
  intro X hP hw hK hc i pins s σ H E I hf st hg
  subst hP hw hK
  obtain⟨f0,f1,f2,f3,f4,f5⟩:=hf it (by simp)
  have W:=Walks.range (prog:=X.prog) (w:=X.w) (I.ok.hd hc) it lo 1 n
  refine W.item i s _ _ hg st fun v h' tk hv st' kk=>?_
  obtain⟨t,rfl⟩:=hv
  have I1:Inv X pins σ H { s with heap:=h',toks:=tk }:=I.turned (fun b o hb e=>kk b o (by simpa using hb) e) f0 f1 f3 f4 f5
  refine ⟨_,rfl,ziZ (s:={ s with heap:=h',toks:=tk }) (n := "range_iterator") st' rfl rfl (by decide) ⟨.int (lo + i),H,I1,⟨t,?_⟩,⟨rfl,rfl⟩,st',fun b hb=>(hf b hb).1⟩⟩
  rw [Int.mul_one]
 done:=by
  intro X hP hw hK hc i pins s σ H E I hf st hg
  subst hP hw hK
  obtain⟨f0,f1,f2,f3,f4,f5⟩:=hf it (by simp)
  exact wpAny_pyNext_range_end (I.ok.hd hc) st (by have:n≤i:=hg;lia) fun h' eb=>⟨rfl,I.turned (t':=s.toks) (fun b o hb e=>eb b o hb e) f0 f1 f3 f4 f5⟩
 self:=fun _ _ _ _ _ st h=>wpAny_pyIter_rangeiter st h
end L2
namespace L2
open PySem PySem.Spec PyProof.Rows
section
variable {X:Cx} {tg:Expr}
def zlM (K:PySem.W.Frag) (tl:TE):TI:=fun σ H R=>tl σ H fun x H1=>∃ a,x=.ref a∧(∃ xs,SqL K H1 a xs)∧R (Itl K a) H1
theorem zix {l:Expr} {tl:TE} (hl:PE X l tl):PI X tg l (zlM X.K tl):=by
 intro pins s σ H R I h
 refine thn (hl pins s σ H _ I h) fun v s1 ⟨x,H1,I1,r1,q1⟩=>?_
 obtain⟨a,e,⟨xs,hq⟩,q⟩:=q1
 subst e
 cases r1
 obtain⟨its,rv,p,hz⟩:=I1.list hq
 refine wpAny_pyIter_list p.isList ?_
 refine ⟨s1.heap.objs.size,[s1.heap.objs.size],_,_,H1,rfl,I1.kept (t':=s1.toks) fun b o e=>Heap.get?_push_of_some _ e,zef a _,⟨_,Heap.get?_push_size _ rfl,rfl,rfl⟩,fun b hb=>?_,q⟩
 have e:b=s1.heap.objs.size:=by simpa using hb
 subst e
 exact I1.fpOk (Nat.le_refl _) (I1.hok.fresh (Nat.le_refl _))
theorem zhg {pins:List (Addr×Obj)} {σ:St} {H:Hp} {s:Shared} {R:It→Hp→Prop} {E:Value→Shared→Prop} {lo hi:Int} {t u v:Tok} {tk:Nat} (I:Inv X pins σ H s) (h1:-(2 ^ 62)≤lo) (h2:lo < 2 ^ 62) (h3:-(2 ^ 62)≤hi) (h4:hi < 2 ^ 62)
  (q:R (Itr lo (hi - lo).toNat) H):wpAny (model X.prog X.w) X.A (pyIter (.ref s.heap.objs.size)) (PIE X pins σ tg R) E { s with heap:=s.heap.push { cls:=.type "range", data:=.fields #[.int lo t,.int hi u,.int 1 v] },toks:=tk }:=by
 refine wpAny_pyIter_range (IsRange.new ..) (small_one h1 h2 h3 h4) ?_
 have I1:Inv X pins σ H { s with heap:=s.heap.push { cls:=.type "range", data:=.fields #[.int lo t,.int hi u,.int 1 v] },toks:=tk }:=I.kept fun b o e=>Heap.get?_push_of_some _ e
 refine ⟨(s.heap.push { cls:=.type "range", data:=.fields #[.int lo t,.int hi u,.int 1 v] }).objs.size,[(s.heap.push { cls:=.type "range", data:=.fields #[.int lo t,.int hi u,.int 1 v] }).objs.size],_,_,H,rfl,
  I1.kept (t':=tk) fun b o e=>Heap.get?_push_of_some _ e,zfP _ lo (hi - lo).toNat,?_,fun b hb=>?_,q⟩
 ·have e1:lo + ((0:Nat):Int) * 1=lo:=by simp
  have e2:(((hi - lo).toNat:Nat):Int) - ((0:Nat):Int)=Builtin.Range.rangeSize lo hi 1:=by rw [rangeSize_one];split <;> lia
  show IsRangeIter _ _ (lo + ((0:Nat):Int) * 1) ((((hi - lo).toNat:Nat):Int) - ((0:Nat):Int)) 1
  rw [e1,e2]
  exact Heap.get?_push_size _ rfl
 ·have e:b=(s.heap.push { cls:=.type "range", data:=.fields #[.int lo t,.int hi u,.int 1 v] }).objs.size:=by simpa using hb
  subst e
  exact I1.fpOk (Nat.le_refl _) (I1.hok.fresh (Nat.le_refl _))
def zlK (ta:TA):TI:=fun σ H R=>ta σ H fun vs H1=>∃ j:Int,vs=[.int j]∧-(2 ^ 62)≤j∧j < 2 ^ 62∧R (Itr 0 j.toNat) H1
theorem zgu {a:Expr} {ta:TA} {p pos:Pos} (hg:Gl X "range") (hm:X.mg "range" = none) (ha:PA X [a] ta) (hs:starEach [a] X.env=[(false,eval a X.env)]:=by rfl):PI X tg (.Call (.Name "range" p) [a] [] pos) (zlK ta):=by
 intro pins s σ H R I h
 refine Call_ (zcu I hg hm boot_range (PyProof.Rows.callWith_type1 (thn (ha pos pins s σ H _ I h) fun us s1 ⟨vs,H1,I1,r1,q1⟩=>?_) hs rfl))
 obtain⟨j,e,q1,q2,q⟩:=q1
 subst e
 cases r1 with
 | cons r rr =>
  cases rr
  obtain⟨t,rfl⟩:=r
  exact call_range_1 (zhg I1 (by lia) (by lia) q1 q2 (by simpa using q))
def tFor (wi:TI) (g:TG) (tb:TS):TS:=fun D σ H=>wi σ H fun J H1=>∃ W:Nat→Nat→St→Hp→Prop,(∃ m,W 0 m σ H1)∧∀ i m σ H,W i m σ H →
 (J.stop i H∧D.nx σ H)∨(J.go i H∧∃ N:St→Hp→Prop,(∀ σ' H',N σ' H'→∃ m',m' < m∧W (i + 1) m' σ' H')∧∀ x H',J.yld i H x H'→g x σ H' fun σ2 H2=>tb { D with nx:=N,ct:=N,bk:=D.nx } σ2 H2)
noncomputable def zfk (fp:List Addr) (h:Heap):List (Addr×Obj):=fp.filterMap fun b=>(h.get? b).map fun o=>(b,o)
theorem zaV {fp:List Addr} {h:Heap} {b:Addr} {o:Obj} (hb:b∈fp) (e:h.get? b=some o):(b,o)∈zfk fp h:=List.mem_filterMap.mpr ⟨b,hb,by rw [e];rfl⟩
theorem zgy {fp:List Addr} {h:Heap} {p:Addr×Obj} (hp:p∈zfk fp h):p.1∈fp∧h.get? p.1=some p.2:=by
 obtain⟨b,hb,e⟩:=List.mem_filterMap.mp hp
 cases q:h.get? b with
 | none=>rw [q] at e;cases e
 | some o =>
  rw [q] at e
  have e':(b,o)=p:=Option.some.inj e
  subst e'
  exact⟨hb,q⟩
theorem Inv.pinned {pins:List (Addr×Obj)} {σ:St} {H:Hp} {s:Shared} {fp:List Addr} (I:Inv X pins σ H s) (hf:∀ b∈fp,FpOk X pins H b) (ho:∀ b∈fp,∃ o,s.heap.get? b=some o∧∀ v,o.data≠.cell v):Inv X (pins ++ zfk fp s.heap) σ H s:=
 I.pins_of fun p hp=>(List.mem_append.mp hp).elim (fun z=>I.pin p (List.mem_append_right _ z)) fun z=>by
  obtain⟨hb,e⟩:=zgy z
  obtain⟨f0,f1,f2,_⟩:=hf p.1 hb
  obtain⟨o,e',d⟩:=ho p.1 hb
  rw [e] at e';cases e'
  exact⟨e,f0,f1,f2,d⟩
theorem Inv.unpinned {pins pl:List (Addr×Obj)} {σ:St} {H:Hp} {s:Shared} (I:Inv X (pins ++ pl) σ H s):Inv X pins σ H s:=I.pins_of fun p hp=>I.pin p (List.mem_append_right _ (List.mem_append_left _ hp))
theorem zjT {iter:Expr} {body:List Stmt} {wi:TI} {g:TG} {tb:TS} {pos:Pos} (hp:PassesOwn (model X.prog X.w) X.A X.env X.xe) (hc:X.calm=true) (hi:PI X tg iter wi) (hg:PG X tg g) (hb:PSs X body tb)
  (hs:∀ x,foldedSetIterable iter X.env x=pure x:=by intro _;rfl):PS X (.For tg iter body [] pos) (tFor wi g tb):=by
 intro pins s σ H D I h
 refine wpAny_For (thn (hi pins s σ H _ I h) fun v s1 h1=>thn h1 fun itv s2 h2=>?_) hs
 obtain⟨it,fp,tn,J,H2,e,I2,T,st2,f2,W,⟨m0,w0⟩,turn⟩:=h2
 subst e
 have stat:∀ {H':Hp},(∀ b∈fp,H' b=none)→∀ b∈fp,FpOk X pins H' b:=fun hn b hb=>⟨hn b hb,(f2 b hb).2⟩
 refine codeAny_forLoop_any (fun n s'=>∃ i σ' H',Inv X pins σ' H' s'∧tn i s'.heap∧(∀ b∈fp,H' b=none)∧W i n σ' H') ?_ m0 ⟨0,σ,H2,I2,st2,fun b hb=>(f2 b hb).1,w0⟩
 rintro n s3 ⟨i,σ3,H3,I3,st3,fr3,w3⟩
 rcases turn i n σ3 H3 w3 with ⟨stop,qn⟩ | ⟨go,N,hN,step⟩
 ·refine wpAny_passesOwn hp (thn (T.done X rfl rfl rfl hc i pins s3 σ3 H3 X.xe I3 (stat fr3) st3 stop) fun r s4 ⟨hr,I4⟩=>?_)
  subst hr
  exact wpAny_execs_nil ⟨σ3,H3,I4,qn⟩
 ·refine wpAny_passesOwn hp (thn (T.item X rfl rfl rfl hc i pins s3 σ3 H3 X.xe I3 (stat fr3) st3 go) fun r s4 ⟨u,hr,h4⟩=>?_)
  subst hr
  refine wpAny_passesOwn hp (thn h4 fun _ s5 ⟨x,H5,I5,r5,y5,st5,fr5⟩=>?_)
  have I5':=I5.pinned (stat fr5) (T.obj _ _ st5)
  refine wpAny_passesOwn hp (thn (hg _ s5 σ3 H5 x u _ I5' r5 (step x H5 y5)) fun _ s6 ⟨σ6,H6,I6,q6⟩=>?_)
  refine wpAny_passesOwn hp (thn (hb _ s6 σ6 H6 _ I6 q6) fun f s7 q7=>?_)
  have again:∀ {σ7:St} {H7:Hp},Inv X (pins ++ zfk fp s5.heap) σ7 H7 s7→N σ7 H7→∃ m,m < n∧∃ i σ' H',Inv X pins σ' H' s7∧tn i s7.heap∧(∀ b∈fp,H' b=none)∧W i m σ' H':=fun {σ7 H7} I7 n7=>by
   obtain⟨m',hm,w7⟩:=hN σ7 H7 n7
   refine ⟨m',hm,i + 1,σ7,H7,I7.unpinned,T.keep _ _ _ st5 fun b hb o e=>(I7.pin (b,o) (List.mem_append_right _ (List.mem_append_right _ (zaV hb e)))).1,fun b hb=>?_,w7⟩
   obtain⟨o,e,d⟩:=T.obj _ _ st5 b hb
   exact (I7.pin (b,o) (List.mem_append_right _ (List.mem_append_right _ (zaV hb e)))).2.1
  cases f with
  | next=>obtain⟨σ7,H7,I7,n7⟩:=q7;exact again I7 n7
  | cont=>obtain⟨σ7,H7,I7,n7⟩:=q7;exact again I7 n7
  | brk=>obtain⟨σ7,H7,I7,q7⟩:=q7;exact⟨σ7,H7,I7.unpinned,q7⟩
  | ret v=>obtain⟨x7,σ7,H7,I7,r7,q7⟩:=q7;exact⟨x7,σ7,H7,I7.unpinned,r7,q7⟩
end
end L2
namespace L2
open PySem PySem.Spec PyProof.Rows
noncomputable abbrev R2:=V→V→Hp→VK→Prop
def OpR (X:Cx) (f:Value→Value→Sem Value) (r:R2):Prop:=
 ∀ (pins:List (Addr×Obj)) (s:Shared) (σ:St) (H:Hp) (x y:V) (v u:Value) (Q:VK),Inv X pins σ H s→RelV x v→RelV y u→r x y H Q →
  wpAny (model X.prog X.w) X.A (f v u) (EP X pins σ Q) X.xe s
def UnR (X:Cx) (f:Value→Sem Value) (r:V→Hp→VK→Prop):Prop:=
 ∀ (pins:List (Addr×Obj)) (s:Shared) (σ:St) (H:Hp) (x:V) (v:Value) (Q:VK),Inv X pins σ H s→RelV x v→r x H Q →
  wpAny (model X.prog X.w) X.A (f v) (EP X pins σ Q) X.xe s
def zdu (X:Cx) (f:Value) (r:List V→Hp→VK→Prop):Prop:=
 ∀ (pins:List (Addr×Obj)) (s:Shared) (σ:St) (H:Hp) (xs:List V) (us:List Value) (Q:VK),Inv X pins σ H s→Vals xs us→r xs H Q →
  wpAny (model X.prog X.w) X.A (call f us) (EP X pins σ Q) X.xe s
def tOp (r:R2) (ta tb:TE):TE:=fun σ H Q=>ta σ H fun x H1=>tb σ H1 fun y H2=>r x y H2 Q
def tUn (r:V→Hp→VK→Prop) (ta:TE):TE:=fun σ H Q=>ta σ H fun x H1=>r x H1 Q
def rI (C:Int→Int→Prop) (g:Int→Int→V):R2:=fun x y H Q=>∃ i j,x=.int i∧y=.int j∧C i j∧Q (g i j) H
def rI0 (g:Int→Int→V):R2:=fun x y H Q=>∃ i j,x=.int i∧y=.int j∧Q (g i j) H
noncomputable def rU (g:Int→V):V→Hp→VK→Prop:=fun x H Q=>∃ i,x=.int i∧Q (g i) H
section
variable {X:Cx} {a b c:Expr} {ta tb tc:TE} {pos:Pos}
theorem binT (ha:PE X a ta) (hb:PE X b tb) {pins:List (Addr×Obj)} {s:Shared} {σ:St} {H:Hp} {R:V→V→Hp→Prop} (I:Inv X pins σ H s)
  (h:ta σ H fun x H1=>tb σ H1 fun y H2=>R x y H2) {Q:Value→Shared→Prop} {f:Value→Value→Sem Value}
  (hf:∀ v u s2 x y H2,Inv X pins σ H2 s2→RelV x v→RelV y u→R x y H2→wpAny (model X.prog X.w) X.A (f v u) Q X.xe s2) :
  wpAny (model X.prog X.w) X.A (eval a X.env) (fun v s₁=>wpAny (model X.prog X.w) X.A (eval b X.env) (fun u s₂=>wpAny (model X.prog X.w) X.A (f v u) Q X.xe s₂) X.xe s₁) X.xe s:=by
 refine thn (ha pins s σ H _ I h) fun v s1 ⟨x,H1,I1,r1,q1⟩=>?_
 refine thn (hb pins s1 σ H1 _ I1 q1) fun u s2 ⟨y,H2,I2,r2,q2⟩=>?_
 exact hf v u s2 x y H2 I2 r1 r2 q2
theorem zlu {op:Operator} {r:R2} (ho:OpR X (binaryOp op) r) (ha:PE X a ta) (hb:PE X b tb):PE X (.BinOp a op b pos) (tOp r ta tb):=by
 intro pins s σ H Q I h
 exact wpAny_BinOp (binT ha hb I h fun v u s2 x y H2 I2 rx ry q=>ho pins s2 σ H2 x y v u Q I2 rx ry q)
theorem zlt {op:UnaryOp} {r:V→Hp→VK→Prop} (ho:UnR X (unaryOp op) r) (ha:PE X a ta):PE X (.UnaryOp op a pos) (tUn r ta):=by
 intro pins s σ H Q I h
 exact UnaryOp_ (thn (ha pins s σ H _ I h) fun v s1 ⟨x,H1,I1,r1,q1⟩=>ho pins s1 σ H1 x v Q I1 r1 q1)
theorem opI {f:Value→Value→Sem Value} {C:Int→Int→Prop} {g:Int→Int→Int}
  (rule:∀ (i j:Int) (t u:Tok) (s:Shared) (Q:Value→Shared→Prop) (E:Value→Shared→Prop),C i j→Q (.int (g i j) s.toks) { s with toks:=s.toks + 1 }→wpAny (model X.prog X.w) X.A (f (.int i t) (.int j u)) Q E s) :
  OpR X f (rI C fun i j=>.int (g i j)):=by
 intro pins s σ H x y v u Q I rx ry h
 obtain⟨i,j,rfl,rfl,hc,q⟩:=h
 obtain⟨t,rfl⟩:=rx
 obtain⟨t',rfl⟩:=ry
 exact rule i j t t' s _ _ hc ⟨.int (g i j),H,I.tok _,⟨_,rfl⟩,q⟩
theorem opI0 {f:Value→Value→Sem Value} {g:Int→Int→Int}
  (rule:∀ (i j:Int) (t u:Tok) (s:Shared) (Q:Value→Shared→Prop) (E:Value→Shared→Prop),Q (.int (g i j) s.toks) { s with toks:=s.toks + 1 }→wpAny (model X.prog X.w) X.A (f (.int i t) (.int j u)) Q E s) :
  OpR X f (rI0 fun i j=>.int (g i j)):=by
 intro pins s σ H x y v u Q I rx ry h
 obtain⟨i,j,rfl,rfl,q⟩:=h
 obtain⟨t,rfl⟩:=rx
 obtain⟨t',rfl⟩:=ry
 exact rule i j t t' s _ _ ⟨.int (g i j),H,I.tok _,⟨_,rfl⟩,q⟩
theorem opB0 {f:Value→Value→Sem Value} {g:Int→Int→Bool}
  (rule:∀ (i j:Int) (t u:Tok) (s:Shared) (Q:Value→Shared→Prop) (E:Value→Shared→Prop),Q (.bool (g i j)) s→wpAny (model X.prog X.w) X.A (f (.int i t) (.int j u)) Q E s) :
  OpR X f (rI0 fun i j=>.bl (g i j)):=by
 intro pins s σ H x y v u Q I rx ry h
 obtain⟨i,j,rfl,rfl,q⟩:=h
 obtain⟨t,rfl⟩:=rx
 obtain⟨t',rfl⟩:=ry
 exact rule i j t t' s _ _ ⟨.bl (g i j),H,I,rfl,q⟩
def CMul (i j:Int):Prop:=(-(2 ^ 64) < i∧i < 2 ^ 64)∨(-(2 ^ 64) < j∧j < 2 ^ 64)
theorem CMul.ok {i j:Int} (h:CMul i j):IntMulOk i j:=by
 rcases h with ⟨h1,h2⟩ | ⟨h1,h2⟩
 ·exact .of_left (intBits_le_64 h1 h2)
 ·exact .of_right (intBits_le_64 h1 h2)
theorem zj5:OpR X (binaryOp .Add) (rI0 fun i j=>.int (i + j)):=opI0 fun _ _ _ _ _ _ _ q=>add_int q
theorem zj1:OpR X (binaryOp .Sub) (rI0 fun i j=>.int (i - j)):=opI0 fun _ _ _ _ _ _ _ q=>sub_int q
theorem zj3:OpR X (binaryOp .Mult) (rI CMul fun i j=>.int (i * j)):=opI fun _ _ _ _ _ _ _ hc q=>mul_int q hc.ok
theorem zj4:OpR X (binaryOp .Mod) (rI (fun _ j=>0 < j) fun i j=>.int (i % j)):=opI fun i j _ _ _ _ _ hc q=>by
 have h1:(0:Int) < j:=hc
 exact mod_int' (by lia) (by rw [Int.fmod_eq_emod_of_nonneg i (by lia)];exact q)
theorem unI {f:Value→Sem Value} {g:Int→Int}
  (rule:∀ (i:Int) (t:Tok) (s:Shared) (Q:Value→Shared→Prop) (E:Value→Shared→Prop),Q (.int (g i) s.toks) { s with toks:=s.toks + 1 }→wpAny (model X.prog X.w) X.A (f (.int i t)) Q E s) :
  UnR X f (rU fun i=>.int (g i)):=by
 intro pins s σ H x v Q I rx h
 obtain⟨i,rfl,q⟩:=h
 obtain⟨t,rfl⟩:=rx
 exact rule i t s _ _ ⟨.int (g i),H,I.tok _,⟨_,rfl⟩,q⟩
theorem zjA:UnR X (unaryOp .USub) (rU fun i=>.int (-i)):=unI fun _ _ _ _ _ q=>neg_int q
end
section
variable {X:Cx} {a b c:Expr} {ta tb tc:TE} {pos:Pos}
theorem zly:OpR X (compareOp .Lt) (rI0 fun i j=>.bl (decide (i < j))):=opB0 fun _ _ _ _ _ _ _ q=>lt_int q
theorem zlz:OpR X (compareOp .Gt) (rI0 fun i j=>.bl (decide (j < i))):=opB0 fun _ _ _ _ _ _ _ q=>gt_int q
theorem zaz (b:Expr) {op:CmpOp} (h:op≠.In:=by decide) (h2:op≠.NotIn:=by decide):behindInMarks op b=false:=by
 have e1:(op == CmpOp.In)=false:=by cases op <;> first | rfl | exact absurd rfl h
 have e2:(op == CmpOp.NotIn)=false:=by cases op <;> first | rfl | exact absurd rfl h2
 cases b <;> simp [behindInMarks,e1,e2]
def zk5 (t:TE):TT:=fun σ H Q=>t σ H fun x H'=>∃ k,x=.bl k∧Q k H'
theorem ziu {op:CmpOp} {r:R2} (ho:OpR X (compareOp op) r) (ha:PE X a ta) (hb:PE X b tb) (hm:behindInMarks op b=false):PT X (.Compare a [op] [b] pos) (zk5 (tOp r ta tb)):=by
 intro pins s σ H Q I h
 refine wpAny_isTrue_Compare1 (thn (ha pins s σ H _ I h) fun v s1 ⟨x,H1,I1,r1,q1⟩=>thn (hb pins s1 σ H1 _ I1 q1) fun u s2 ⟨y,H2,I2,r2,q2⟩ =>
  thn (ho pins s2 σ H2 x y v u _ I2 r1 r2 q2) fun c s3 ⟨z,H3,I3,r3,k,e,q3⟩=>?_) hm
 subst e
 cases r3
 exact wpAny_truthy_bool ⟨H3,I3,q3⟩
theorem zgC:(sizeLine:Nat) < 2 ^ 63:=by rw [sizeLine_eq];decide
theorem zig {x:V} {us:List Value} (r:Vals [x] us):∃ u,us=[u]∧RelV x u:=by
 cases r with
 | cons r1 r2=>cases r2;exact⟨_,rfl,r1⟩
end
end L2
namespace L2
open PySem PySem.Spec PyProof.Rows
section
variable {prog:Program} {w:World} {A:Around} {E:Value→Shared→Prop} {s:Shared} {K:PySem.W.Frag} {x dx C f:Addr} {mA:Str→Option Value} {name:Str} {v:Value}
end
section
variable {P:Program} {w:World} {H H':Hp} {h h':Heap} {a C dx:Addr} {fs fs':List (Str×V)}
end
section
variable {X:Cx} {pins:List (Addr×Obj)} {σ:St} {H:Hp} {s:Shared} {a C dx:Addr} {fs:List (Str×V)} {f:Str} {v:V} {A:Around} {E:Value→Shared→Prop}
end
section
variable {X:Cx} {o e value:Expr} {f:Str} {pos pos' tpos:Pos} {ta tv:TE}
end
section
variable {X:Cx} {pins:List (Addr×Obj)} {σ:St} {H:Hp} {s:Shared} {A:Around} {E:Value→Shared→Prop} {Q:Value→Shared→Prop} {c:Value} {b:Bool}
end
end L2
namespace L2
open PySem PySem.Spec PyProof.Rows
structure Room (k:Nat) (A:Around):Prop where
 hd:A.handled=none
 dp:A.depth + 3 * k + 5 < recursionLimit
 un:A.units + 16 * k + 200 < cLine
theorem Room.mono {j k:Nat} {A:Around} (r:Room k A) (h:j≤k):Room j A:=⟨r.hd,by have:=r.dp;lia,by have:=r.un;lia⟩
theorem Room.deeper {k:Nat} {A:Around} (r:Room (k + 1) A) (env:Env):Room k (A.deeper env):=
 ⟨r.hd,by have:=r.dp;show A.depth + 1 + 3 * k + 5 < _;lia,by have:=r.un;show A.units + 3 + 16 * k + 200 < _;lia⟩
theorem Room.depth {k:Nat} {A:Around} (r:Room k A):A.depth < recursionLimit:=by have:=r.dp;lia
def tNil:TA:=fun _ H Q=>Q [] H
def zih (ta:TE) (tr:TA):TA:=fun σ H Q=>ta σ H fun x H1=>tr σ H1 fun xs H2=>Q (x :: xs) H2
section
variable {X:Cx} {e:Expr} {es:List Expr} {te:TE} {t:TA} {pos:Pos}
theorem zdH:PA X [] tNil:=fun _ _ _ _ H Q I h=>Calls.spliced_nil ⟨[],H,I,.nil,h⟩
theorem zcf (ha:PE X e te) (hr:PA X es t) (hs:starEach (e :: es) X.env=(false,eval e X.env) :: starEach es X.env:=by rfl):PA X (e :: es) (zih te t):=by
 intro pos pins s σ H Q I h
 rw [hs]
 show wpAny _ _ (spliced ((false,eval e X.env) :: backTo pos (starEach es X.env))) _ _ s
 refine Calls.spliced_cons (thn (ha pins s σ H _ I h) fun u s1 ⟨x,H1,I1,r1,q1⟩=>?_)
 exact thn (hr pos pins s1 σ H1 _ I1 q1) fun us s2 ⟨xs,H2,I2,r2,q2⟩=>⟨x :: xs,H2,I2,.cons r1 r2,q2⟩
def tTup (t:TA):TE:=fun σ H Q=>t σ H fun xs H1=>xs.length≤sizeLine∧∀ p,H1 p=none→Q (.ref p) (upd H1 p (.tup xs))
def tLst (t:TA):TE:=fun σ H Q=>t σ H fun xs H1=>xs.length≤sizeLine∧∀ p,H1 p=none→Q (.ref p) (upd H1 p (.lst xs))
theorem zjW {x1} (h:PA X es t):PE X (.Tuple es x1 pos) (tTup t):=by
 intro pins s σ H Q I hq
 refine wpAny_Tuple_spliced (thn (h pos pins s σ H _ I hq) fun us s1 ⟨xs,H1,I1,r,z,q⟩=>⟨by rw [← r.length];exact z,?_⟩)
 have hf:H1 s1.heap.objs.size=none:=I1.hok.fresh (Nat.le_refl _)
 refine ⟨.ref s1.heap.objs.size,upd H1 s1.heap.objs.size (.tup xs),I1.laid (t':=s1.toks) (fun b u e=>Heap.get?_push_of_some _ e) (Nat.le_refl _) ?_,rfl,q _ hf⟩
 exact⟨z,us,r,⟨_,Heap.get?_push_size _ rfl,rfl,_,rfl⟩⟩
theorem zjY (h:PA X es t):PE X (.List es pos) (tLst t):=by
 intro pins s σ H Q I hq
 refine wpAny_List_spliced (thn (h pos pins s σ H _ I hq) fun us s1 ⟨xs,H1,I1,r,z,q⟩=>⟨by rw [← r.length];exact z,?_⟩)
 have hf:H1 s1.heap.objs.size=none:=I1.hok.fresh (Nat.le_refl _)
 refine ⟨.ref s1.heap.objs.size,upd H1 s1.heap.objs.size (.lst xs),I1.laid (t':=s1.toks) (fun b u e=>Heap.get?_push_of_some _ e) (Nat.le_refl _) ?_,rfl,q _ hf⟩
 exact⟨z,us,0,r,Heap.get?_push_size _ rfl⟩
end
noncomputable abbrev Sp:=List V→Hp→VK→XK→Prop
noncomputable abbrev CXT:=List Env→Hp→Shared→XK→Value→Shared→Prop
structure Env0 (P:Program) (w:World) (K:PySem.W.Frag) (mg:Str→Option Value) (base:Heap) (A:Around) (outer:List Env) (s:Shared) (H:Hp):Prop where
 frames:A.frames=some outer
 mod:Mod K mg base
 bs:∀ b o,base.get? b=some o→s.heap.get? b=some o∧H b=none
 bsz:base.objs.size≤s.heap.objs.size
 funs:s.heap.FunFrames base outer
 frf:∀ b∈frs outer,H b=none
 hok:HOk P w H s.heap
 bare:AllBare s.gens
def CE (outer:List Env) (P:Program) (w:World) (H:Hp) (s:Shared) (Q:VK) (u:Value) (s':Shared):Prop:=
 ∃ v H',s'.os=s.os∧AllBare s'.gens∧Un (frs outer) [] H H' s.heap s'.heap∧HOk P w H' s'.heap∧RelV v u∧Q v H'
def CR (CX:CXT) (outer:List Env) (P:Program) (w:World) (H:Hp) (s:Shared) (Q:VK) (E:XK) (r:Result) (s':Shared):Prop:=
 match r with
 | .ok (.ret u)=>CE outer P w H s Q u s'
 | .ok _=>False
 | .error e=>CX outer H s E e s'
structure FnOk (P:Program) (w:World) (K:PySem.W.Frag) (mg:Str→Option Value) (base:Heap) (CX:CXT) (k:Nat) (f:Addr) (fd:FuncData) (ps:List Str) (sp:Sp):Prop where
 len:∀ vs H Q E,sp vs H Q E→vs.length=ps.length
 run:∀ (A:Around) (outer:List Env) (s:Shared) (H:Hp) (args:Args) (us:List Value) (vs:List V) (Q:VK) (E:XK),Room k A→Env0 P w K mg base A outer s H→BindsTo s fd args (ps.zip us)→Vals vs us→sp vs H Q E →
  codeAny (model P w) A (.call (.ref f) args) (CR CX outer P w H s Q E) s
theorem FnOk.mono {P:Program} {w:World} {K:PySem.W.Frag} {mg:Str→Option Value} {base:Heap} {CX:CXT} {j k:Nat} {f:Addr} {fd:FuncData} {ps:List Str} {sp:Sp} (F:FnOk P w K mg base CX j f fd ps sp) (h:j≤k) :
  FnOk P w K mg base CX k f fd ps sp:=⟨F.len,fun A outer s H args us vs Q E hr=>F.run A outer s H args us vs Q E (hr.mono h)⟩
theorem FnOk.imp {P:Program} {w:World} {K:PySem.W.Frag} {mg:Str→Option Value} {base:Heap} {CX:CXT} {k:Nat} {f:Addr} {fd:FuncData} {ps:List Str} {sp sp':Sp} (F:FnOk P w K mg base CX k f fd ps sp)
  (h:∀ vs H Q E,sp' vs H Q E→sp vs H Q E):FnOk P w K mg base CX k f fd ps sp':=
 ⟨fun vs H Q E q=>F.len vs H Q E (h _ _ _ _ q),fun A outer s H args us vs Q E hr he hb hv hs=>F.run A outer s H args us vs Q E hr he hb hv (h _ _ _ _ hs)⟩
section
variable {X:Cx} {pins:List (Addr×Obj)} {σ:St} {H:Hp} {s s':Shared}
theorem Inv.env0 (I:Inv X pins σ H s):Env0 X.prog X.w X.K X.mg X.base X.A X.stack s H:=
 ⟨I.ok.frames,I.ok.mod,I.bs,Nat.le_trans I.ok.bsz I.sz,I.stack,I.stkFree,I.hok,I.bare⟩
theorem Inv.after {Q:VK} {u:Value} (I:Inv X pins σ H s) (h:CE X.stack X.prog X.w H s Q u s'):EP X pins σ Q u s':=by
 obtain⟨v,H',os,bare,un,hok,r,q⟩:=h
 obtain⟨hh,g,d,t,os'⟩:=s'
 obtain rfl:os'=s.os:=os
 exact⟨v,H',I.call (h':=hh) (g':=g) (d':=d) (t':=t) (ch:=[]) un hok bare (fun b z=>absurd z (by simp)),r,q⟩
end
def zij (sp:Sp) (dvs:List V) (E:XK) (t:TA):TE:=fun σ H Q=>t σ H fun vs H1=>sp (vs ++ dvs) H1 Q E
def za1 (K:PySem.W.Frag) (fd:FuncData) (ps:List Str) (ds:List Value):Prop:=
 ∀ (s:Shared) (us:List Value),K.In s.heap→(us ++ ds).length=ps.length→BindsTo s fd ⟨us,[]⟩ (ps.zip (us ++ ds))
theorem za1.all {K:PySem.W.Frag} {fd:FuncData} {ps:List Str} (h:∀ us:List Value,us.length=ps.length→bindArgs fd ⟨us,[]⟩=pure (ps.zip us)):za1 K fd ps []:=fun s us _ hl=>by
 rw [List.append_nil] at hl ⊢
 exact .of_eq (h us hl)
def zdt (CX:CXT) (X:Cx) (E:XK):Prop:=∀ (pins:List (Addr×Obj)) (σ:St) (H:Hp) (s:Shared) (e:Value) (s':Shared),Inv X pins σ H s→CX X.stack H s E e s'→X.xe e s'
section
variable {X:Cx} {CX:CXT} {k:Nat} {f C:Addr} {fd:FuncData} {ps:List Str} {sp:Sp} {dvs:List V} {ds:List Value} {E:XK} {x m:Str} {p pos apos:Pos} {e o:Expr} {es:List Expr} {ta:TE} {t:TA}
theorem zjK {pins:List (Addr×Obj)} {σ:St} {H:Hp} {s:Shared} {Q:VK} {us:List Value} {vs:List V} (F:FnOk X.prog X.w X.K X.mg X.base CX k f fd ps sp) (hr:Room k X.A) (hb:za1 X.K fd ps ds) (hd:Vals dvs ds) (hx:zdt CX X E)
  (I:Inv X pins σ H s) (r:Vals vs us) (h:sp (vs ++ dvs) H Q E):wpAny (model X.prog X.w) X.A (call (.ref f) us) (EP X pins σ Q) X.xe s:=by
 have r2:Vals (vs ++ dvs) (us ++ ds):=r.append hd
 have hl:(us ++ ds).length=ps.length:=by rw [← r2.length];exact F.len _ _ _ _ h
 refine wpAny_call (codeAny_mono (F.run X.A X.stack s H ⟨us,[]⟩ (us ++ ds) (vs ++ dvs) Q E hr I.env0 (hb s us I.kIn hl) r2 h) fun r s' hq=>?_)
 cases r with
 | error e=>exact hx pins σ H s e s' I hq
 | ok fl =>
  cases fl with
  | ret u=>exact I.after hq
  | next=>exact False.elim hq
  | brk=>exact False.elim hq
  | cont=>exact False.elim hq
theorem ziA (F:FnOk X.prog X.w X.K X.mg X.base CX k f fd ps sp) (hr:Room k X.A) (hg:Gl X x) (hm:X.mg x=some (.ref f)) (hk:PySem.W.keepIn X.K (.ref f)=true) (hb:za1 X.K fd ps ds) (hd:Vals dvs ds) (hx:zdt CX X E)
  (ha:PA X (e :: es) t) (hdb:(x == ("__debug__" : Str))=false:=by decide) (he:starEach (e :: es) X.env=(false,eval e X.env) :: starEach es X.env:=by rfl) (hpl:(backTo pos (starEach es X.env)).any (·.1)=false:=by rfl) :
  PE X (.Call (.Name x p) (e :: es) [] pos) (zij sp dvs E t):=by
 intro pins s σ H Q I h
 refine wpAny_Call_Name_kw (zde I hg hm ?_ hdb)
 refine PySem.W.callWith_K (h₀:=X.base) I.ok.mod.kin hk (thn (ha pos pins s σ H _ I h) fun us s1 ⟨vs,H1,I1,r,q⟩=>⟨I1.kIn,?_⟩) he hpl
 exact zjK F hr hb hd hx I1 r q
end
section
variable {X:Cx} {CX:CXT} {k:Nat} {f C:Addr} {fd:FuncData} {ps ks:List Str} {sp:Sp} {E:XK} {x m:Str} {p pos apos kpos:Pos} {e o:Expr} {es:List Expr} {kws:List Keyword} {te ta:TE} {t tk:TA} {nm:Option Str}
variable {g:List Value→List Value→List Value} {gV:List V→List V→List V}
end
structure FnScope (N P:List Str) (sc:Scope):Prop where
 kind:sc.kind=.function
 co:sc.isCoroutine=false
 gen:sc.isGenerator=false
 nd:N.Nodup
 pre:N.take P.length=P
 par:∀ x∈P,sc.names.lookup x=some .local∨sc.names.lookup x=some .cell
 nofree:∀ y∈sc.names,y.2≠.free
theorem zew {kindOf:Str→Option NameKind} {x:Str}:∀ {binds:List (Str×Value)} {m:Str→Option Value},(∀ v,(x,v)∉binds)→bindL kindOf binds m x=m x
 | [],_,_=>rfl
 | (n,v) :: r,m,h=>by
  unfold bindL
  rw [zew fun w hw=>h w (List.mem_cons_of_mem _ hw)]
  split
  ·have:x≠n:=by rintro rfl;exact h v List.mem_cons_self
   simp [this]
  ·rfl
theorem zey {kindOf:Str→Option NameKind} {x:Str}:∀ {binds:List (Str×Value)} {m:Str→Option Value},(∀ v,(x,v)∉binds)→bindC kindOf binds m x=m x
 | [],_,_=>rfl
 | (n,v) :: r,m,h=>by
  unfold bindC
  rw [zey fun w hw=>h w (List.mem_cons_of_mem _ hw)]
  split
  ·rfl
  ·have:x≠n:=by rintro rfl;exact h v List.mem_cons_self
   simp [this]
theorem zex {kindOf:Str→Option NameKind} {x:Str} {v:Value}:∀ {P:List Str} {vs:List Value} {i:Nat} {m:Str→Option Value},P.Nodup→P[i]? = some x→vs[i]? = some v→kindOf x=some .local →
  bindL kindOf (P.zip vs) m x=some v
 | [],_,_,_,_,h,_,_=>by simp at h
 | _ :: _,[],_,_,_,_,h,_=>by simp at h
 | p :: P,w :: vs,0,m,nd,h1,h2,hk=>by
  simp at h1 h2;subst h1;subst h2
  show bindL kindOf ((p,w) :: P.zip vs) m p=_
  unfold bindL
  rw [zew fun v hv=>(List.nodup_cons.mp nd).1 (List.of_mem_zip hv).1,if_pos hk]
  simp
 | p :: P,w :: vs,i + 1,m,nd,h1,h2,hk=>by
  show bindL kindOf ((p,w) :: P.zip vs) m x=_
  unfold bindL
  exact zex (i:=i) (List.nodup_cons.mp nd).2 (by simpa using h1) (by simpa using h2) hk
theorem zez {kindOf:Str→Option NameKind} {x:Str} {v:Value}:∀ {P:List Str} {vs:List Value} {i:Nat} {m:Str→Option Value},P.Nodup→P[i]? = some x→vs[i]? = some v→kindOf x≠some .local →
  bindC kindOf (P.zip vs) m x=some v
 | [],_,_,_,_,h,_,_=>by simp at h
 | _ :: _,[],_,_,_,_,h,_=>by simp at h
 | p :: P,w :: vs,0,m,nd,h1,h2,hk=>by
  simp at h1 h2;subst h1;subst h2
  show bindC kindOf ((p,w) :: P.zip vs) m p=_
  unfold bindC
  rw [zey fun v hv=>(List.nodup_cons.mp nd).1 (List.of_mem_zip hv).1,if_neg hk]
  simp
 | p :: P,w :: vs,i + 1,m,nd,h1,h2,hk=>by
  show bindC kindOf ((p,w) :: P.zip vs) m x=_
  unfold bindC
  exact zez (i:=i) (List.nodup_cons.mp nd).2 (by simpa using h1) (by simpa using h2) hk
noncomputable def start (N:List Str) (vs:List V):St:=vs.map some ++ List.replicate (N.length - vs.length) none
noncomputable def cxOf (CX:CXT) (P:Program) (w:World) (K:PySem.W.Frag) (mg:Str→Option Value) (base:Heap) (N:List Str) (qual:Str) (scope:Scope) (f:Addr) (cd:Value) (A:Around) (outer:List Env) (s:Shared) (H:Hp) (E:XK):Cx where
 prog:=P
 w:=w
 K:=K
 mg:=mg
 base:=base
 A:=A.deeper (envOfC qual scope s.heap.objs.size f cd)
 N:=N
 s₀:=s
 H₀:=H
 env:=envOfC qual scope s.heap.objs.size f cd
 outer:=outer
 stack:=envOfC qual scope s.heap.objs.size f cd :: outer
 ex:=[]
 calm:=true
 fn:=fun _=>true
 pn:=[]
 xe:=fun e s'=>wpAny (model P w) (A.deeper (envOfC qual scope s.heap.objs.size f cd)) (leaving (envOfC qual scope s.heap.objs.size f cd) e) (fun _ s''=>CX outer H s E e s'') (fun e' s''=>CX outer H s E e' s'') s'
theorem zfE {sc:Scope} {n:Nat} {x:Str} (h:sc.names.lookup x=some .cell):∃ c,(cellsFrom n sc.names []).lookup x=some c:=by
 have q:=PySem.W.cellsFrom_some sc.names n [] (.inl h)
 exact Option.isSome_iff_exists.mp q
theorem zen {CX:CXT} {P:Program} {w:World} {K:PySem.W.Frag} {mg:Str→Option Value} {base:Heap} {N ps:List Str} {qual:Str} {scope:Scope} {f:Addr} {cd:Value} {A:Around} {outer:List Env} {s s1:Shared} {H:Hp} {E:XK} {us:List Value} {vs:List V}
  (S:FnScope N ps scope) (hd:A.handled=none) (e0:Env0 P w K mg base A outer s H) (hl:vs.length=ps.length) (r:Vals vs us)
  (x:InCallC s s.heap.objs.size (bindL (envOfC qual scope s.heap.objs.size f cd).kindOf (ps.zip us) fun _=>none) (cellsFrom (s.heap.objs.size + 1) scope.names []) (bindC (envOfC qual scope s.heap.objs.size f cd).kindOf (ps.zip us) fun _=>none) s1) :
  Inv (cxOf CX P w K mg base N qual scope f cd A outer s H E) [] (start N vs) H s1:=by
 have hpl:ps.length≤N.length:=by have:=congrArg List.length S.pre;rw [List.length_take] at this;lia
 obtain⟨h1,tk,rfl,hk⟩:=x.done
 have noA:∀ b:Addr,b∉(cxOf CX P w K mg base N qual scope f cd A outer s H E).ex:=fun b z=>absurd (show b∈([]:List Addr) from z) (by simp)
 refine ⟨⟨e0.mod,S.kind,rfl,rfl,Nat.le_refl _,fun y z c h1 h2=>?_,fun y hy=>?_,fun y c _ h=>?_,fun _=>hd,Around.frames_deeper e0.frames,.inr ⟨rfl,rfl⟩,fun b z=>absurd z (noA b),e0.bs,e0.bsz,fun b _ _=>noA b,fun b z=>absurd z (noA b),e0.funs,e0.frf⟩,
  rfl,e0.bare,Un.kept hk,⟨_,x.toInCall.ns,fun i y v h1 h2 h3=>?_⟩,fun y c h=>⟨_,x.cell y c h⟩,e0.hok.fresh (Nat.le_refl _),fun y c h=>?_,fun p hp=>absurd (show p∈([]:List (Addr×Obj)) from hp) (by simp),e0.hok.kept hk,?_⟩
 ·exact name_of_addr x.apart (PySem.mem_of_lookup h1) (PySem.mem_of_lookup h2)
 ·have hy:scope.names.lookup y=some .cell∨scope.names.lookup y=some .free:=hy
  rcases hy with hy | hy
  ·exact zfE hy
  ·exact absurd rfl (S.nofree _ (PySem.mem_of_lookup hy))
 ·exact Nat.le_of_lt (x.above y c (PySem.mem_of_lookup h))
 ·have hi:i < vs.length:=by
   unfold start at h2
   by_cases hi:i < vs.length
   ·exact hi
   ·rw [List.getElem?_append_right (by simpa using hi)] at h2
    rw [List.getElem?_replicate] at h2
    split at h2 <;> cases h2
  have ha:vs[i]? = some v:=by
   unfold start at h2
   rw [List.getElem?_append_left (by simpa using hi),List.getElem?_map] at h2
   cases e:vs[i]? with
   | none=>rw [e] at h2;cases h2
   | some a=>rw [e] at h2;cases h2;rfl
  obtain⟨u,hu,rv⟩:=r.get ha
  have hp:ps[i]? = some y:=by
   rw [← S.pre,List.getElem?_take_of_lt (by lia)];exact h1
  have ndP:ps.Nodup:=by rw [← S.pre];exact S.nd.sublist (List.take_sublist _ _)
  refine ⟨u,rv,?_⟩
  rcases S.par y (List.mem_of_getElem? hp) with k | k
  ·exact .inl ⟨k,zex ndP hp hu k⟩
  ·obtain⟨c,e⟩:=zfE (n:=s.heap.objs.size + 1) k
   refine .inr ⟨.inl k,c,e,?_⟩
   have q:=x.cell y c e
   rw [zez ndP hp hu (by show scope.names.lookup y≠_;rw [k];decide)] at q
   exact q
 ·exact e0.hok.fresh (Nat.le_of_lt (x.above y c (PySem.mem_of_lookup h)))
 ·unfold start
  show _=N.length
  rw [List.length_append,List.length_map,List.length_replicate]
  lia
theorem zlQ {CX:CXT} {P:Program} {w:World} {K:PySem.W.Frag} {mg:Str→Option Value} {base:Heap} {k:Nat} {f:Addr} {name qual:Str} {params:Arguments} {body:List Stmt} {scope:Scope} {dV kV doc pm cdv ct oc:Value} {an od:Option Addr}
  {osl:Array (Option Value)} {N ps:List Str} {sp:Sp} (lk:K.lookup f=some ⟨oc,od,.func (PySem.W.fnOf name qual params body scope dV kV doc pm an cdv ct),osl⟩) (hcd:PySem.W.codeIn K cdv qual=true) (S:FnScope N ps scope)
  (len:∀ vs H Q E,sp vs H Q E→vs.length=ps.length)
  (hbody:∀ (A:Around) (outer:List Env) (s:Shared) (H:Hp) (vs:List V) (Q:VK) (E:XK),Room k (A.deeper (envOfC qual scope s.heap.objs.size f cdv))→sp vs H Q E →
   ∃ t,PSs (cxOf CX P w K mg base N qual scope f cdv A outer s H E) body t∧t { nx:=fun _ H'=>Q .non H',rt:=Q } (start N vs) H) :
  FnOk P w K mg base CX (k + 1) f (PySem.W.fnOf name qual params body scope dV kV doc pm an cdv ct) ps sp:=by
 refine ⟨len,fun A outer s H args us vs Q E hr e0 hb r hsp=>?_⟩
 have hl:=len _ _ _ _ hsp
 have KX:K.In s.heap:=e0.mod.kin.keeps fun b o e=>(e0.bs b o e).1
 have lim:s.heap.NoLimit:=e0.mod.nolimit.keeps fun b o e=>(e0.bs b o e).1
 have hkind:∀ y∈ps.zip us,scope.names.lookup y.1=some .local∨(scope.names.lookup y.1=some .cell∧((cellsFrom (s.heap.objs.size + 1) scope.names []).lookup y.1).isSome=true):=fun ⟨n,v⟩ hy=>by
  rcases S.par n (List.of_mem_zip hy).1 with q | q
  ·exact .inl q
  ·exact .inr ⟨q,PySem.W.cellsFrom_some _ _ _ (.inl q)⟩
 refine codeAny_call_function hr.depth (KX _ _ lk) rfl S.co S.gen rfl (PySem.W.codeRec_of KX hcd) (hb _ _ _ _ ?_)
 refine wpAny_newFunctionEnv_cells S.kind hkind fun env he s1 x=>?_
 subst he
 refine ⟨lim.keeps x.toInCall.keep,codeAny_func ?_⟩
 obtain⟨t,ht,hq⟩:=hbody A outer s H vs Q E (hr.deeper _) hsp
 have I:Inv (cxOf CX P w K mg base N qual scope f cdv A outer s H E) [] (start N vs) H s1:=zen S hr.hd e0 hl r x
 refine wpAny_mono (ht [] s1 (start N vs) H _ I hq) (fun fl s' hs=>?_) fun e s' hs=>hs
 have fin:∀ {σ':St} {H':Hp} {v:V} {u:Value},Inv (cxOf CX P w K mg base N qual scope f cdv A outer s H E) [] σ' H' s'→RelV v u→Q v H'→CE outer P w H s Q u s':=
  fun {σ' H' v u} J rv q=>⟨v,H',J.os,J.bare,J.base,J.hok,rv,q⟩
 cases fl with
 | ret u =>
  obtain⟨v,σ',H',J,rv,q⟩:=hs
  exact fin J rv q
 | next =>
  obtain⟨σ',H',J,q⟩:=hs
  exact fin (v:=V.non) (u:=Value.none) J rfl q
 | brk =>
  obtain⟨_,_,_,q⟩:=hs
  exact False.elim q
 | cont =>
  obtain⟨_,_,_,q⟩:=hs
  exact False.elim q
end L2
namespace L2
open PySem PySem.Spec PyProof.Rows
section
variable {X:Cx} {x:Str} {p pos:Pos} {e:Expr} {es:List Expr} {t:TA} {id T:String} {r:List V→Hp→VK→Prop}
def tCB (r:List V→Hp→VK→Prop) (t:TA):TE:=fun σ H Q=>t σ H fun vs H1=>r vs H1 Q
theorem zfl (hc:zdu X (.builtin id) r) (hg:Gl X x) (hm:X.mg x=none) (hv:bootBuiltins x=some (.builtin id)) (ha:PA X (e :: es) t) (hn:x ≠ "__name__" := by decide) (hdb:(x == ("__debug__" : Str))=false:=by decide)
  (he:starEach (e :: es) X.env=(false,eval e X.env) :: starEach es X.env:=by rfl) (hpl:(backTo pos (starEach es X.env)).any (·.1)=false:=by rfl):PE X (.Call (.Name x p) (e :: es) [] pos) (tCB r t):=by
 intro pins s σ H Q I h
 refine wpAny_Call_Name_kw (zcu I hg hm hv ?_ hn hdb)
 exact PyProof.Rows.callWith_builtin1 (thn (ha pos pins s σ H _ I h) fun us s1 ⟨vs,H1,I1,r1,q1⟩=>hc pins s1 σ H1 vs us Q I1 r1 q1) he hpl
end
end L2
namespace HT
open PySem PyProof.Rows
section
open PySem.SeqAt
open PySem.AutoSeq1 (wpAny_loadPart')
open PySem.MeetsSeq PySem.MeetsSeq2 PySem.MeetsSeq3
end
section
variable {prog:Program} {w:World} {A:Around} {E:Value→Shared→Prop} {s:Shared}
end
end HT
namespace L2
open PySem PySem.Spec PyProof.Rows
theorem zf0 {ns:List Int}:∀ {us:List Value},Vals (ns.map V.int) us→IntsAre us ns:=by
 induction ns with
 | nil=>intro us r;rw [List.map_nil] at r;cases r;exact .nil
 | cons n ns ih =>
  intro us r
  rw [List.map_cons] at r
  cases r with
  | cons r1 r2 =>
   obtain⟨t,e⟩:=r1
   subst e
   exact .cons n t (ih r2)
section
variable {X:Cx} {e:Expr} {te:TE} {lo hi:Option Expr} {tl th:TO} {pos p2:Pos}
end
end L2
namespace L2
open PySem PySem.Spec PyProof.Rows
noncomputable def ixN (n:Nat) (i:Int):Option Nat:=if 0≤i then (if i < n then some i.toNat else none) else if -(n:Int)≤i then some (i + n).toNat else none
noncomputable def atI {α:Type} (xs:List α) (i:Int):Option α:=(ixN xs.length i).bind fun j=>xs[j]?
theorem ziU {n:Nat} {i:Int} {j:Nat} (h:ixN n i=some j):seqIndex? i n=some j∧j < n∧-(n:Int)≤i∧i < n:=by
 unfold ixN at h
 by_cases h0:0≤i
 ·rw [if_pos h0] at h
  by_cases h1:i < n
  ·rw [if_pos h1] at h
   have e:i.toNat=j:=Option.some.inj h
   exact⟨by rw [seqIndex_of h0 h1,e],by lia,by lia,h1⟩
  ·rw [if_neg h1] at h;cases h
 ·rw [if_neg h0] at h
  by_cases h1:-(n:Int)≤i
  ·rw [if_pos h1] at h
   have e:(i + n).toNat=j:=Option.some.inj h
   exact⟨by rw [seqIndex_neg (by lia) h1,e],by lia,h1,by lia⟩
  ·rw [if_neg h1] at h;cases h
theorem zg2 {α:Type} {xs:List α} {i:Int} {v:α} (h:atI xs i=some v):∃ j,seqIndex? i xs.length=some j∧xs[j]? = some v∧j < xs.length∧-(xs.length:Int)≤i∧i < xs.length:=by
 unfold atI at h
 cases e:ixN xs.length i with
 | none=>rw [e] at h;cases h
 | some j =>
  rw [e] at h
  obtain⟨h1,h2,h3,h4⟩:=ziU e
  exact⟨j,h1,h,h2,h3,h4⟩
def zg6 (b:Expr):Prop:=∀ o i,subscripted b false o i=operate [o,i] (getItem o i)
def IxR (X:Cx) (r:R2):Prop:=
 ∀ (value slice:Expr) (pins:List (Addr×Obj)) (s:Shared) (σ:St) (H:Hp) (x y:V) (v u:Value) (Q:VK),Inv X pins σ H s→RelV x v→RelV y u→r x y H Q →
  subscripted slice false v u=operate [v,u] (getItem v u)→wpAny (model X.prog X.w) X.A (subscriptTail value slice v u) (EP X pins σ Q) X.xe s
def MtR (X:Cx) (id:String) (r:V→List V→Hp→VK→Prop):Prop:=
 ∀ (pins:List (Addr×Obj)) (s:Shared) (σ:St) (H:Hp) (x:V) (xs:List V) (v:Value) (us:List Value) (Q:VK),Inv X pins σ H s→RelV x v→Vals xs us→r x xs H Q →
  wpAny (model X.prog X.w) X.A (call (.builtin id) (v :: us)) (EP X pins σ Q) X.xe s
section
variable {X:Cx} {a b:Expr} {ta tb:TE} {pos:Pos}
theorem zlv {r:R2} (hr:IxR X r) (ha:PE X a ta) (hb:PE X b tb) (hs:zg6 b):PE X (.Subscript a b pos) (tOp r ta tb):=by
 intro pins s σ H Q I h
 exact Subscript_ (binT ha hb I h fun v u s2 x y H2 I2 rx ry q=>hr a b pins s2 σ H2 x y v u Q I2 rx ry q (hs _ _))
def rIxL (K:PySem.W.Frag):R2:=fun x y H Q=>∃ p xs i v,x=.ref p∧y=.int i∧SqL K H p xs∧atI xs i=some v∧Q v H
def rIxT (K:PySem.W.Frag):R2:=fun x y H Q=>∃ p xs i v,x=.ref p∧y=.int i∧SqT K H p xs∧atI xs i=some v∧Q v H
theorem zgJ:IxR X (rIxL X.K):=by
 intro value slice pins s σ H x y v u Q I rx ry h hs
 obtain⟨p,xs,i,z,rfl,rfl,hq,he,q⟩:=h
 cases rx
 obtain⟨t,rfl⟩:=ry
 obtain⟨its,r,pl,hz⟩:=I.list hq
 obtain⟨j,h1,h2,h3,h4,h5⟩:=zg2 he
 obtain⟨w,ew,rw'⟩:=r.get h2
 have hl:=r.length
 have hn:=zgC
 have fin:EP X pins σ Q w s:=⟨z,H,I,rw',q⟩
 by_cases h0:0≤i
 ·have hj:i.toNat=j:=by
   rw [seqIndex_of h0 h5] at h1
   exact Option.some.inj h1
  exact item_listR pl.isList h0 (by lia) (by rw [hj];simpa using ew) fin hs
 ·have hj:(i + (its.toArray.size:Int)).toNat=j:=by
   rw [seqIndex_neg (by lia) h4] at h1
   rw [List.size_toArray,← hl]
   exact Option.some.inj h1
  exact subscriptTail_builtinR (x:=w) pl.isList.typeIs slot_list_getitem.lookup
   (wpAny_getItem_list_neg (Q:=fun r s'=>r=w∧EP X pins σ Q r s') pl.isList (by lia) (by rw [List.size_toArray] <;> lia) (by lia) (by rw [hj];simpa using ew) ⟨rfl,fin⟩) hs
theorem zks:IxR X (rIxT X.K):=by
 intro value slice pins s σ H x y v u Q I rx ry h hs
 obtain⟨p,xs,i,z,rfl,rfl,hq,he,q⟩:=h
 cases rx
 obtain⟨t,rfl⟩:=ry
 obtain⟨its,r,pl,hz⟩:=I.tuple hq
 obtain⟨j,h1,h2,h3,h4,h5⟩:=zg2 he
 obtain⟨w,ew,rw'⟩:=r.get h2
 have hl:=r.length
 have hn:=zgC
 have fin:EP X pins σ Q w s:=⟨z,H,I,rw',q⟩
 exact subscriptTail_builtinR (x:=w) pl.typeIs slot_tuple_getitem.lookup
  (getItem_tuple (j:=j) (Q:=fun r s'=>r=w∧EP X pins σ Q r s') pl (by lia) (by lia) (by rw [List.size_toArray,← hl];exact h1) (by simpa using ew) ⟨rfl,fin⟩) hs
noncomputable def zcV:V→Bool
 | .non=>true
 | .bl _=>true
 | .int _=>true
 | .str _=>true
 | _=>false
noncomputable def eqV:V→V→Bool
 | .non,.non=>true
 | .bl a,.bl b=>a == b
 | .bl a,.int b=>(if a then 1 else 0) == b
 | .int a,.bl b=>a == (if b then 1 else 0)
 | .int a,.int b=>a == b
 | .str a,.str b=>a == b
 | _,_=>false
theorem zky {A:Around} {s:Shared} {y x:V} {u v:Value} (ry:RelV y u) (rx:RelV x v) (fy:zcV y=true) (fx:zcV x=true):SeqAt.EqAt A s u v (eqV y x):=by
 cases y with
 | non =>
  cases ry
  cases x with
  | non=>cases rx;exact SeqAt.EqAt.same _
  | bl b=>cases rx;exact SeqAt.EqAt.none_bool b
  | int b=>obtain⟨t,rfl⟩:=rx;exact SeqAt.EqAt.none_int b t
  | str b=>obtain⟨t,rfl⟩:=rx;exact SeqAt.EqAt.none_str b t
  | _=>exact absurd (show false=true from fx) Bool.false_ne_true
 | bl a =>
  cases ry
  cases x with
  | non=>cases rx;exact SeqAt.EqAt.bool_none a
  | bl b=>cases rx;exact SeqAt.EqAt.bool_bool a b
  | int b=>obtain⟨t,rfl⟩:=rx;exact SeqAt.EqAt.bool_int a b t
  | str b=>obtain⟨t,rfl⟩:=rx;exact SeqAt.EqAt.bool_str a b t
  | _=>exact absurd (show false=true from fx) Bool.false_ne_true
 | int a =>
  obtain⟨t',rfl⟩:=ry
  cases x with
  | non=>cases rx;exact SeqAt.EqAt.int_none a t'
  | bl b=>cases rx;exact SeqAt.EqAt.int_bool a t' b
  | int b=>obtain⟨t,rfl⟩:=rx;exact SeqAt.EqAt.int_int a t' b t
  | str b=>obtain⟨t,rfl⟩:=rx;exact SeqAt.EqAt.int_str a t' b t
  | _=>exact absurd (show false=true from fx) Bool.false_ne_true
 | str a =>
  obtain⟨t',rfl⟩:=ry
  cases x with
  | non=>cases rx;exact SeqAt.EqAt.str_none a t'
  | bl b=>cases rx;exact SeqAt.EqAt.str_bool a t' b
  | int b=>obtain⟨t,rfl⟩:=rx;exact SeqAt.EqAt.str_int a t' b t
  | str b=>obtain⟨t,rfl⟩:=rx;exact SeqAt.EqAt.str_str a t' b t
  | _=>exact absurd (show false=true from fx) Bool.false_ne_true
 | _=>exact absurd (show false=true from fy) Bool.false_ne_true
theorem zet:zdu X (.builtin "len") (fun xs H Q=>∃ p ys,xs=[.ref p]∧(SqL X.K H p ys∨SqT X.K H p ys)∧Q (.int ys.length) H):=by
 intro pins s σ H xs us Q I r h
 obtain⟨p,ys,rfl,hq,q⟩:=h
 obtain⟨u,rfl,rx⟩:=zig r
 cases rx
 have hn:=zgC
 rcases hq with hq | hq
 ·obtain⟨its,r',pl,hz⟩:=I.list hq
  have hlen:=r'.length
  exact Calls.call_len_list pl.isList (by simp only [List.size_toArray] <;> lia) ⟨.int ys.length,H,I.tok _,⟨s.toks + 1,by rw [List.size_toArray,hlen]⟩,q⟩
 ·obtain⟨its,r',pl,hz⟩:=I.tuple hq
  have hlen:=r'.length
  exact len_tuple pl (by simp only [List.size_toArray] <;> lia) ⟨.int ys.length,H,I.tok _,⟨s.toks + 1,by rw [List.size_toArray,hlen]⟩,q⟩
def tyV (K:PySem.W.Frag) (T:String) (x:V) (H:Hp):Prop:=match x with
 | .str _=>T = "str"
 | .int _=>T = "int"
 | .ref p=>(T = "list" ∧ ∃ xs,SqL K H p xs)∨(T = "tuple" ∧ ∃ o,K.lookup p=some o∧o.cls=.type "tuple" ∧ o.dict=none) ∨
   (T = "dict" ∧ ((∃ kvs,H p=some (.dK kvs))∨∃ kvs,H p=some (.dT kvs)))∨(T = "set" ∧ ∃ S n,H p=some (.set S n))
 | _=>False
theorem zjB {pins:List (Addr×Obj)} {σ:St} {H:Hp} {s:Shared} {T:String} {x:V} {v:Value} (I:Inv X pins σ H s) (r:RelV x v) (ty:tyV X.K T x H) :
  s.TypeIs v T∧∀ a,v=.ref a→∃ ob,s.heap.get? a=some ob∧ob.dict=none:=by
 cases x with
 | str z =>
  obtain⟨t,rfl⟩:=r
  cases (show T = "str" from ty)
  exact⟨typeIs_str s z t,fun _ e=>nomatch e⟩
 | int i =>
  obtain⟨t,rfl⟩:=r
  cases (show T = "int" from ty)
  exact⟨typeIs_int s i t,fun _ e=>nomatch e⟩
 | ref p =>
  cases r
  rcases ty with ⟨rfl,xs,hq⟩ | ⟨rfl,o,hk,hc,hd⟩ | ⟨rfl,hk⟩ | ⟨rfl,S,n,hk⟩
  ·obtain⟨its,_,pl,_⟩:=I.list hq
   refine ⟨pl.isList.typeIs,fun a e=>?_⟩
   cases e
   obtain⟨o,n,e,c,hd,_⟩:=pl
   exact⟨o,e,hd⟩
  ·refine ⟨⟨o,I.kIn p o hk,hc⟩,fun a e=>?_⟩
   cases e
   exact⟨o,I.kIn _ o hk,hd⟩
  ·have z:∃ o,s.heap.get? p=some o∧o.ExactDict:=by
    rcases hk with ⟨kvs,hk⟩ | ⟨kvs,hk⟩
    ·obtain⟨_,_,_,_,o,_,_,e,ex,_⟩:=I.hok p _ hk
     exact⟨o,e,ex⟩
    ·obtain⟨_,_,_,_,o,_,_,e,ex,_⟩:=I.hok p _ hk
     exact⟨o,e,ex⟩
   obtain⟨o,e,ex⟩:=z
   refine ⟨⟨o,e,ex.1⟩,fun a e2=>?_⟩
   cases e2
   exact⟨o,e,ex.2.1⟩
  ·obtain⟨o,_,_,_,e,ex,_⟩:=I.hok p _ hk
   refine ⟨⟨o,e,ex.1⟩,fun a e2=>?_⟩
   cases e2
   exact⟨o,e,ex.2.1⟩
 | _=>exact False.elim ty
def tBM (K:PySem.W.Frag) (T:String) (r:V→List V→Hp→VK→Prop) (to:TE) (t:TA):TE:=fun σ H Q=>to σ H fun x H1=>tyV K T x H1∧t σ H1 fun xs H2=>r x xs H2 Q
variable {o e:Expr} {es:List Expr} {to:TE} {t:TA} {name:Str} {apos cpos:Pos} {T id:String} {r:V→List V→Hp→VK→Prop}
theorem zj0 (pa:PlainAttrs T) (slot:Slot T name id) (hty:typeOf (.builtin id)=pure (.type "method_descriptor")) (hm:MtR X id r) (ho:PE X o to) (ha:PA X (e :: es) t)
  (hbase:attributeBase o name X.env (eval o X.env)=eval o X.env:=by rfl)
  (hfew:((backTo cpos (starEach (e :: es) X.env)).all (fun x=>!x.1) && (backToKw cpos (keywordEach [] X.env)).all (fun x=>x.1.isSome)
   && decide ((e :: es).length + ([]:List Keyword).length + (if ([]:List Keyword).isEmpty then 0 else 1) < 30))=true:=by rfl)
  (hline:(apos.endLine == cpos.line)=true:=by rfl) (hs:starEach (e :: es) X.env=(false,eval e X.env) :: starEach es X.env:=by rfl) (hplain:(backTo cpos (starEach es X.env)).any (·.1)=false:=by rfl) :
  PE X (.Call (.Attribute o name apos) (e :: es) [] cpos) (tBM X.K T r to t):=by
 intro pins s σ H Q I h
 refine wpAny_Call_method_late hbase hfew hline rfl (thn (ho pins s σ H _ I h) fun v s1 ⟨x,H1,I1,r1,ty,q1⟩=>?_)
 obtain⟨h1,h2⟩:=zjB I1 r1 ty
 refine ⟨T,id,pa,slot,hty,h1,h2,?_⟩
 have hA:=ha cpos pins s1 σ H1 _ I1 q1
 rw [hs] at hA ⊢
 refine Calls.callWith_builtin (by show (false || (backTo cpos (starEach es X.env)).any (·.1))=false;rw [hplain] <;> rfl) (Calls.evalArgs_plain ?_)
 exact thn hA fun us s2 ⟨vs,H2,I2,r2,q2⟩=>hm pins s2 σ H2 x vs v us Q I2 r1 r2 q2
end
end L2
namespace L2
open PySem PySem.Spec PyProof.Rows
def MtM (X:Cx) (id:String) (r:V→List V→Hp→VK→Prop):Prop:=
 ∀ (pins:List (Addr×Obj)) (s:Shared) (σ:St) (H:Hp) (x:V) (xs:List V) (v:Value) (us:List Value) (Q:VK),Inv X pins σ H s→RelV x v→Vals xs us→r x xs H Q →
  wpAny (model X.prog X.w) X.A (call (.builtin id) (v :: us)) (EP X pins σ Q) X.xe s
theorem Vals.one:∀ {x:V} {us:List Value},Vals [x] us→∃ u,us=[u]∧RelV x u:=by
 intro x us h
 cases h with
 | cons r t =>
  cases t
  exact⟨_,rfl,r⟩
theorem Vals.two:∀ {x y:V} {us:List Value},Vals [x,y] us→∃ u v,us=[u,v]∧RelV x u∧RelV y v:=by
 intro x y us h
 cases h with
 | cons r t =>
  obtain⟨v,rfl,q⟩:=Vals.one t
  exact⟨_,v,rfl,r,q⟩
theorem Vals.rep {xs:List V} {us:List Value} (h:Vals xs us):∀ k:Nat,Vals (List.replicate k xs).flatten (List.replicate k us).flatten
 | 0=>.nil
 | k + 1=>by
  rw [List.replicate_succ,List.replicate_succ,List.flatten_cons,List.flatten_cons]
  exact Vals.append h (Vals.rep h k)
theorem zep (its:List Value):∀ (k:Nat) (acc:List Value),
  List.foldl (fun x1 x2=>x1 ++ x2) acc.toArray (List.replicate k its.toArray)=(acc ++ (List.replicate k its).flatten).toArray
 | 0,acc=>by simp
 | k + 1,acc=>by
  have e:acc.toArray ++ its.toArray=(acc ++ its).toArray:=by simp
  have e2:(acc ++ its) ++ (List.replicate k its).flatten=acc ++ (List.replicate (k + 1) its).flatten:=by
   rw [List.replicate_succ,List.flatten_cons,List.append_assoc]
  rw [← e2,← zep its k (acc ++ its),← e,List.replicate_succ,List.foldl_cons]
section
variable {X:Cx} {pins:List (Addr×Obj)} {σ:St} {H:Hp} {s:Shared} {l b:Addr} {xs ys zs:List V}
theorem Inv.lset {its its':List Value} {n:Nat} {f:Array Value→Array Value} {t':Nat} (I:Inv X pins σ H s) (hH:H l=some (.lst xs))
  (e:s.heap.get? l=some { cls:=.type "list", data:=.seq its.toArray n }) (hf:f its.toArray=its'.toArray) (hv:Vals ys its') (hz:ys.length≤sizeLine) :
  Inv X pins σ (upd H l (.lst ys)) { s with heap:=s.heap.update l (Obj.mapSeq f),toks:=t' }:=by
 have q:=PySem.IsL.update e f
 rw [hf] at q
 refine I.write (x:=l) (e:=l) (by rw [hH];exact trivial) (.inl rfl) (fun b' u hb hu=>(Heap.get?_update_other s.heap (Obj.mapSeq f) (Ne.symm hb)).trans hu) ⟨_,q⟩ ?_
 exact⟨hz,its',_,hv,q⟩
theorem Inv.lnew {its:List Value} {t':Nat} (I:Inv X pins σ H s) (hv:Vals ys its) (hz:ys.length≤sizeLine) :
  Inv X pins σ (upd H s.heap.objs.size (.lst ys)) { s with heap:=s.heap.push { cls:=.type "list", data:=.seq its.toArray },toks:=t' }:=
 I.laid (fun _ _ q=>Heap.get?_push_of_some _ q) (Nat.le_refl _) ⟨hz,its,0,hv,Heap.get?_push_size _ rfl⟩
theorem Inv.fresh (I:Inv X pins σ H s):H s.heap.objs.size=none:=I.hok.fresh (Nat.le_refl _)
theorem Inv.lstM (I:Inv X pins σ H s) (hH:H l=some (.lst xs)):xs.length≤sizeLine∧∃ (its:List Value) (n:Nat),Vals xs its∧xs.length=its.length∧s.heap.get? l=some { cls:=.type "list", data:=.seq its.toArray n }:=by
 obtain⟨z,its,n,r,e⟩:=I.hok l _ hH
 exact⟨z,its,n,r,r.length,e⟩
theorem zfn {n:Nat} (h:n≤sizeLine):Builtin.List.listTooLong n=false:=by
 unfold Builtin.List.listTooLong
 exact decide_eq_false (by lia)
end
section
variable {X:Cx}
noncomputable def zir:V→List V→Hp→VK→Prop:=fun x vs H Q=>∃ l b xs zs,x=.ref l∧vs=[.ref b]∧H l=some (.lst xs)∧H b=some (.lst zs)∧xs.length + zs.length≤sizeLine∧Q .non (upd H l (.lst (xs ++ zs)))
theorem zgB:MtM X "list.extend" zir:=by
 intro pins s σ H x vs v us Q I rx rv h
 obtain⟨l,b,xs,zs,rfl,rfl,hH,hB,hz,q⟩:=h
 cases rx
 obtain⟨u,rfl,ru⟩:=rv.one
 cases ru
 obtain⟨z,its,n,r,hl,e⟩:=I.lstM hH
 obtain⟨z2,its2,n2,r2,hl2,e2⟩:=I.lstM hB
 have hsz:its.toArray.size + its2.toArray.size≤sizeLine:=by rw [List.size_toArray,List.size_toArray];lia
 have hlong:¬ (!its.toArray.isEmpty && Builtin.List.listTooLong (its.toArray.size + its2.toArray.size))=true:=by
  rw [zfn hsz,Bool.and_false]
  exact Bool.false_ne_true
 refine call_meets F.slot_list_extend ⟨_,e,rfl⟩ F.entry_list_extend (F.args_list_extend_2 _ _)
  (AutoSeq1.list_extend_list_list_0 l its.toArray n b its2.toArray n2 hlong (by rw [List.size_toArray];lia) (by lia)) ⟨e,e2,?_⟩
 refine ⟨.non,_,I.lset (its':=its ++ its2) hH e (by simp) (r.append r2) ?_,rfl,q⟩
 rw [List.length_append]
 lia
def rRep:R2:=fun x y H Q=>∃ l k xs,x=.ref l∧y=.int k∧H l=some (.lst xs)∧-(2 ^ 63)≤k∧k < 2 ^ 63∧xs.length * k.toNat≤sizeLine ∧
 ∀ p,H p=none→Q (.ref p) (upd H p (.lst (List.replicate k.toNat xs).flatten))
theorem ziN {α:Type} (xs:List α) (k:Nat):(List.replicate k xs).flatten.length=k * xs.length:=by
 induction k with
 | zero=>simp
 | succ k ih=>rw [List.replicate_succ,List.flatten_cons,List.length_append,ih,Nat.succ_mul,Nat.add_comm]
theorem zj2:OpR X (binaryOp .Mult) rRep:=by
 intro pins s σ H x y v u Q I rx ry h
 obtain⟨l,k,xs,rfl,rfl,hH,h1,h2,hz,q⟩:=h
 cases rx
 obtain⟨t,rfl⟩:=ry
 obtain⟨z,its,n,r,hl,e⟩:=I.lstM hH
 have hlen:its.toArray.size * k.toNat≤sizeLine:=by rw [List.size_toArray,← hl];exact hz
 have hcap:¬ its.toArray.size * k.toNat > (2 ^ 63 - 1) / 8:=by
  have:(sizeLine:Nat)≤(2 ^ 63 - 1) / 8:=by decide
  lia
 have hfit:¬ (!Builtin.List.listFitsIndex k)=true:=by
  rw [fitsIndex_both h1 h2]
  exact Bool.false_ne_true
 have hlong:¬ Builtin.List.listTooLong (its.toArray.size * k.toNat)=true:=by
  rw [zfn hlen]
  exact Bool.false_ne_true
 have hnew:List.foldl (fun x1 x2=>x1 ++ x2) #[] (List.replicate (if its.toArray.isEmpty=true then 0 else k.toNat) its.toArray)=(List.replicate k.toNat its).flatten.toArray:=by
  have f0:∀ m:Nat,List.foldl (fun x1 x2=>x1 ++ x2) #[] (List.replicate m its.toArray)=(List.replicate m its).flatten.toArray:=fun m=>by
   have:=zep its m []
   rw [List.nil_append] at this
   exact this
  rw [f0]
  cases its with
  | nil=>simp
  | cons a r'=>rw [if_neg (by simp)]
 refine wpAny_binaryOp_repeat_ref (T := "list") (U := "int") (by decide) ⟨_,e,rfl⟩ (fun s'=>typeIs_int s' k t) noFill_list_mul F.fills_int_mul F.slot_int_rmul repeat_list F.slot_int_index.lookup
  (call_meets F.slot_int_rmul (typeIs_int s k t) F.entry_int_rmul (F.args_int_rmul_2 _ _) (int___rmul___int_list k t l its.toArray n)
   ⟨e,rfl,⟨_,e,rfl⟩,call_meets F.slot_list_mul ⟨_,e,rfl⟩ F.entry_list_mul (F.args_list_mul_2 _ _) (AutoListH.list___mul___list_int_3 l its.toArray n k t hfit hcap hlong) ⟨e,?_⟩⟩)
 rw [hnew]
 exact⟨.ref _,_,I.lnew (t':=s.toks) (r.rep k.toNat) (by rw [ziN,Nat.mul_comm];exact hz),rfl,q _ I.fresh⟩
end
section
variable {prog:Program} {w:World} {A:Around} {E:Value→Shared→Prop} {s:Shared}
set_option maxRecDepth 100000 in
end
section
variable {X:Cx}
end
end L2
namespace Att
open PySem PySem.W PySem.Calls PyProof.Rows
theorem zdi {P:Params} {h:Heap}:∀ (ns:List Int) (vs:List Value),WellAll P h vs (ns.map WData.int)→IntsAre vs ns:=by
 intro ns
 induction ns with
 | nil =>
  intro vs w
  rw [List.map_nil] at w
  cases w
  exact .nil
 | cons n ns ih =>
  intro vs w
  rw [List.map_cons] at w
  cases w with
  | cons a b =>
   cases a
   exact .cons _ _ (ih _ b)
theorem zgo {l:OpenLaw} {n:Nat} (hn:l.most=some n) {P:Params} {h:Heap} {args:List WData} {vals:List Value}
  (hpre:l.row.toRowW.claim.pre args=true) (hwl:WellAll P h vals args) :
  ∃ a vs ns,vals=[Value.ref a]∧args=[WData.list (ns.map WData.int)]∧h.get? a=some { cls:=.type "list", data:=.seq vs.toArray }∧IntsAre vs ns∧ns.length≤n:=by
 have hsh:WShape.hasAll [] args [.list .int]=true:=(pre_splitW hpre).1
 have hc:l.pre.holds [] { args:=args } = true:=(pre_splitW hpre).2
 obtain⟨d,r,rfl,h1,h2⟩:=hasAllW_cons hsh
 obtain rfl:=hasAllW_nil h2
 obtain⟨xs,rfl,h3⟩:=hasW_list h1
 obtain⟨ns,rfl⟩:=items_int h3
 have hlen:ns.length≤n:=by
  unfold OpenLaw.pre at hc
  have h4:(WTm.not (.lt (.lit (.int (n:Int))) (.len (.arg 0)))).holds [] { args:=[.list (ns.map .int)] } = true:=by
   have h4:=(holds_andW hc).1
   rw [hn] at h4
   exact h4
  have h5:=condW_of h4 (w_not (w_lt w_lit (w_len_list (w_arg rfl))))
  rw [List.length_map] at h5
  refine Nat.le_of_not_lt fun q=>?_
  have q':(n:Int) < ((ns.length:Nat):Int):=by lia
  first
   | (rw [decide_eq_true q'] at h5;exact absurd h5 (by decide))
   | (simp at h5;lia)
 cases hwl with
 | cons w1 w2 =>
  cases w2
  cases w1 with
  | list ho hall=>exact⟨_,_,ns,rfl,rfl,ho,zdi ns _ hall,hlen⟩
theorem zgt (l:OpenLaw) (args:List WData):l.row.toRowW.claim.post args (.bool true) args=true:=
 postW_of (r:=l.row.toRowW) (X:=(true == true))
  (show WShape.has [] (.bool true) .bool=true by first | rfl | decide | simp [WShape.has,WShape.arms,WShape.armsAll])
  (show (WTm.eq .res (.lit (.bool true))).value [] { args:=args,res:=some (.bool true),after:=args } = some (.bool (true == true)) from w_eq_bool (w_res rfl) w_lit) rfl
theorem attach_call {l:OpenLaw} {n:Nat} {q:Program} {loose:List Str} {XP:(Str→Option Value)→Heap→Prop} {YP:World→Heap→Prop} {d:DefRec}
  (hn:l.most=some n) (hdf:d.params.defaults=[])
  (call:∀ (w:World) (s₀ s₁:Shared) (mg mb:Str→Option Value) (fa:Addr) (o:Obj) (pm cd doc:Value) (a:Addr) (vs:List Value) (ns:List Int),
   Ground q loose [] XP w s₀ mg mb s₁.heap→YP w s₁.heap →
   s₁.heap.get? fa=some o→o.data=.func (docDef d.name d.params d.body d.scope pm cd doc)→s₁.heap.CodeRec cd d.name→mg d.name=some (.ref fa) →
   s₁.heap.get? a=some { cls:=.type "list", data:=.seq vs.toArray }→IntsAre vs ns→ns.length≤n→s₁.gens = #[] →
   codeAny (model l.prog w) callerA (.call (.ref fa) ⟨[.ref a],[]⟩) (fun r s'=>r=.ok (.ret (.bool true))∧OldK s₁.heap s'.heap∧s'.os=s₁.os∧AllBare s'.gens) s₁) :
  WalkO q loose XP YP l.row.toRowW d [] (fun f vs=>PySem.call f vs):=by
 intro w s₀ s₁ mg mb G Y fa o pm cd doc dV kV ho hd hcd hD hmg hg args vals as hpre hlay hrd hwl hlo
 obtain rfl:dV=.none:=Dflts.none hD hdf
 obtain rfl:kV=.none:=Dflts.noKw hD
 obtain⟨a,vs,ns,rfl,rfl,hobj,hints,hlen⟩:=zgo hn hpre hwl
 refine enter_call (codeAny_mono (call w s₀ s₁ mg mb fa o pm cd doc a vs ns G Y ho (fd_plain hd) hcd hmg hobj hints hlen hg) fun r s' hq=>?_)
 obtain⟨rfl,h2,h3,h4⟩:=hq
 exact⟨.inl ⟨.bool true,.bool true,[],rfl,fun _=>rfl,.bool true,zgt l _,fun _=>⟨List.Pairwise.nil,fun _ hm=>(nomatch hm)⟩⟩,h2,h3,h4⟩
section
variable {prog:Program} {w:World} {A:Around} {E:Value→Shared→Prop} {s:Shared} {K:Frag}
end
end Att
namespace L2
open PySem PySem.Spec PyProof.Rows
theorem zc7:∀ {vs:List Value} {ns:List Int},IntsAre vs ns→Vals (ns.map V.int) vs
 | _,_,.nil=>.nil
 | _,_,.cons n t h=>.cons ⟨t,rfl⟩ (zc7 h)
def Only (H:Hp):Prop:=∀ b,H b=none∨∃ o xs,H b=some (.frz o (.lst xs))
theorem zht {P:Program} {w:World} {K:PySem.W.Frag} {mg mb:Str→Option Value} {CX:CXT} {k:Nat} {fa a:Addr} {fd:FuncData} {x:Str} {sp:Sp} {s₁:Shared} {vs:List Value} {ns:List Int}
  (KX:K.In s₁.heap) (hns:s₁.heap.Ns mainGlobals mg) (hb:s₁.heap.Ns builtinsNs mb) (hbb:∀ x:Str,x ≠ "__name__" → mb x=bootBuiltins x) (hlim:s₁.heap.NoLimit) (hg:s₁.gens = #[])
  (ha:s₁.heap.get? a=some { cls:=.type "list", data:=.seq vs.toArray }) (hi:IntsAre vs ns) (hl:ns.length≤sizeLine) (hr:Room k callerA)
  (F:∀ base:Heap,K.In base→base.Ns mainGlobals mg→FnOk P w K mg base CX k fa fd [x] sp) (hbind:∀ (s:Shared) (u:Value),BindsTo s fd ⟨[u],[]⟩ [(x,u)])
  (hsp:∀ H:Hp,Only H→SqL K H a (ns.map V.int)→sp [.ref a] H (fun v _=>v=.bl true) fun _ _ _=>False)
  (hCX:∀ H e s',CX [] H s₁ (fun _ _ _=>False) e s'→False) :
  codeAny (model P w) callerA (.call (.ref fa) ⟨[.ref a],[]⟩) (fun r s'=>r=.ok (.ret (.bool true))∧OldK s₁.heap s'.heap∧s'.os=s₁.os∧AllBare s'.gens) s₁:=by
 have rv:=zc7 hi
 have lenV:=hi.length
 have core:∀ H:Hp,Only H→SqL K H a (ns.map V.int)→HOk P w H s₁.heap→(∀ b,H b≠none→b=a)→(H a≠none→K.lookup a=none) →
   codeAny (model P w) callerA (.call (.ref fa) ⟨[.ref a],[]⟩) (fun r s'=>r=.ok (.ret (.bool true))∧OldK s₁.heap s'.heap∧s'.os=s₁.os∧AllBare s'.gens) s₁:=by
  intro H hO hS hok hA hK
  have base_of:∀ {b:Addr} {o:Obj},s₁.heap.get? b=some o→H b=none→(hidT s₁.heap H).get? b=some o:=fun e n=>zhD e n
  have noA:∀ {b:Addr} {o:Obj} {es:Array DictEntry} {ep:Nat},s₁.heap.get? b=some o→o.data=.dict es ep→H b=none:=fun {b o es ep} e d=>by
   cases q:H b with
   | none=>rfl
   | some u =>
    have e':b=a:=hA b (by rw [q];simp)
    subst e'
    rw [ha] at e;cases e
    have d':Data.seq vs.toArray _=Data.dict es ep:=d
    cases d'
  have nsK:∀ {b:Addr} {m:Str→Option Value},s₁.heap.Ns b m→(hidT s₁.heap H).Ns b m:=fun {b m} ⟨o,es,ep,e,d,r⟩=>⟨o,es,ep,base_of e (noA e d),d,r⟩
  have hKb:K.In (hidT s₁.heap H):=fun b o e=>base_of (KX b o e) (by
   cases q:H b with
   | none=>rfl
   | some u =>
    have e':b=a:=hA b (by rw [q];simp)
    subst e'
    rw [hK (by rw [q];simp)] at e;cases e)
  have hM:Mod K mg (hidT s₁.heap H):=⟨hKb,nsK hns,⟨mb,nsK hb,hbb⟩,let ⟨mc,h1,h2⟩:=hlim;⟨mc,nsK h1,h2⟩⟩
  have e0:Env0 P w K mg (hidT s₁.heap H) callerA [] s₁ H:=⟨rfl,hM,fun b o e=>ziE e,Nat.le_of_eq (zgO _ _),trivial,fun b hb=>absurd (show b∈([]:List Addr) from hb) (by simp),hok,.of_eq hg⟩
  refine codeAny_mono ((F _ hKb (nsK hns)).run callerA [] s₁ H ⟨[.ref a],[]⟩ [.ref a] [.ref a] _ _ hr e0 (hbind s₁ (.ref a)) (.cons rfl .nil) (hsp H hO hS)) fun r s' h=>?_
  cases r with
  | error e=>exact (hCX H e s' h).elim
  | ok fl =>
   cases fl with
   | next=>exact False.elim h
   | brk=>exact False.elim h
   | cont=>exact False.elim h
   | ret u =>
    obtain⟨v,H',os,bare,un,hok',r',q⟩:=h
    have q':v=.bl true:=q
    subst q'
    obtain rfl:u=Value.bool true:=r'
    refine ⟨rfl,OldK.of_keep fun b o e=>?_,os,bare⟩
    cases q:H b with
    | none=>exact un.keep b o e q (by intro z;exact absurd (show b∈([]:List Addr) from z) (by simp)) (by simp)
    | some u =>
     rcases hO b with z | ⟨ob,xs,z⟩
     ·rw [q] at z;cases z
     ·have z2:=un.frzs b ob _ z
      obtain⟨e1,_⟩:=hok b _ z
      obtain⟨e2,_⟩:=hok' b _ z2
      rw [e] at e1;cases e1
      exact e2
 cases hk:K.lookup a with
 | some o =>
  have e:=KX a o hk
  rw [ha] at e
  cases e
  refine core (fun _=>none) (fun _=>.inl rfl) (.inr ⟨_,vs.toArray,_,hk,rfl,rfl,rfl,by rw [List.size_toArray,lenV];exact hl,by simpa using rv⟩) (fun b u z=>by have z':(none:Option HO)=some u:=z;cases z') (fun b z=>absurd rfl z) fun z=>absurd rfl z
 | none =>
  refine core (fun b=>if b=a then some (.frz { cls:=.type "list", data:=.seq vs.toArray } (.lst (ns.map V.int))) else none) (fun b=>?_) (.inl (.inr ⟨{ cls:=.type "list", data:=.seq vs.toArray },if_pos rfl⟩)) (fun b u z=>?_) (fun b z=>?_) fun _=>hk
  ·by_cases hb:b=a
   ·exact .inr ⟨_,_,if_pos hb⟩
   ·exact .inl (if_neg hb)
  ·by_cases hb:b=a
   ·have z':=(if_pos hb).symm.trans z
    cases z'
    subst hb
    exact⟨ha,by rw [List.length_map];exact hl,vs,_,rv,ha⟩
   ·have z':=(if_neg hb).symm.trans z
    cases z'
  ·by_cases hb:b=a
   ·exact hb
   ·exact absurd (if_neg hb) z
end L2
namespace L2
open PySem PySem.Spec PyProof.Rows
noncomputable abbrev KOf {K:PySem.W.Frag} {h:Heap} (_:K.In h):PySem.W.Frag:=K
theorem walk_of {l:PySem.W.OpenLaw} {n k:Nat} {q:Program} {loose:List Str} {XP:(Str→Option Value)→Heap→Prop} {YP:World→Heap→Prop} {d:DefRec} {K:Params→PySem.W.Frag} {CX:World→CXT} {sp:World→Sp} {x:Str}
  (hn:l.most=some n) (hn2:n≤sizeLine) (hdf:d.params.defaults=[]) (hr:Room k callerA)
  (hY:∀ (w:World) (h:Heap),YP w h→(K w.params).In h)
  (F:∀ (w:World) (mg:Str→Option Value) (fa:Addr) (h:Heap),(K w.params).In h→h.Ns mainGlobals mg→mg d.name=some (.ref fa) →
   ∃ fd:FuncData,(∀ (s:Shared) (u:Value),BindsTo s fd ⟨[u],[]⟩ [(x,u)]) ∧
    ∀ base:Heap,(K w.params).In base→base.Ns mainGlobals mg→FnOk l.prog w (K w.params) mg base (CX w) k fa fd [x] (sp w))
  (hsp:∀ (w:World) (H:Hp) (a:Addr) (ns:List Int),ns.length≤n→Only H→SqL (K w.params) H a (ns.map V.int)→sp w [.ref a] H (fun v _=>v=.bl true) fun _ _ _=>False)
  (hCX:∀ (w:World) (H:Hp) (s:Shared) (e:Value) (s':Shared),CX w [] H s (fun _ _ _=>False) e s'→False) :
  PySem.W.WalkO q loose XP YP l.row.toRowW d [] (fun f vs=>PySem.call f vs):=by
 refine Att.attach_call hn hdf fun w s₀ s₁ mg mb fa o pm cd doc a vs ns G Y ho hd hcd hmg hobj hints hlen hg=>?_
 have KX:=hY w _ Y
 obtain⟨fd,hb,hF⟩:=F w mg fa _ KX G.T.g hmg
 exact zht KX G.T.g G.T.b G.T.builtins G.T.nolimit hg hobj hints (Nat.le_trans hlen hn2) hr hF hb (fun H hO hS=>hsp w H a ns hlen hO hS) fun H e s'=>hCX w H s₁ e s'
end L2
namespace L2
open PySem PySem.Spec PyProof.Rows
noncomputable def defArgs (s:Stmt):Arguments:=match s with
 | .FunctionDef _ a _ _ _ _ _ _ _ _=>a
 | _=>{ posonlyargs:=[],args:=[],vararg:=none,kwonlyargs:=[],kw_defaults:=[],kwarg:=none,defaults:=[] }
noncomputable def defBody (s:Stmt):List Stmt:=match s with
 | .FunctionDef _ _ b _ _ _ _ _ _ _=>b
 | _=>[]
noncomputable def defScope (s:Stmt):Scope:=match s with
 | .FunctionDef _ _ _ _ _ _ sc _ _ _=>sc
 | _=>{ kind:=.function,names:=[],isGenerator:=false,isCoroutine:=false }
noncomputable abbrev CX0:CXT:=fun _ _ _ _ _ _=>False
structure Fun (K:PySem.W.Frag) (x qual:Str) (st:Stmt) (f:Addr) (fd:FuncData):Prop where
 ex:∃ (oc:Value) (od:Option Addr) (kV doc pm:Value) (an:Option Addr) (cdv ct:Value) (osl:Array (Option Value)),
  fd=PySem.W.fnOf x qual (defArgs st) (defBody st) (defScope st) .none kV doc pm an cdv ct∧K.lookup f=some ⟨oc,od,.func fd,osl⟩∧PySem.W.codeIn K cdv qual=true
 kp:PySem.W.keepIn K (.ref f)=true
section
variable {P:Program} {w:World} {K:PySem.W.Frag} {mg:Str→Option Value} {base:Heap}
theorem Fun.binds {x qual:Str} {st:Stmt} {f:Addr} {fd:FuncData} {ps:List Str} (F:Fun K x qual st f fd)
  (h:∀ (kV doc pm:Value) (an:Option Addr) (cdv ct:Value) (us:List Value),us.length=ps.length→bindArgs (PySem.W.fnOf x qual (defArgs st) (defBody st) (defScope st) .none kV doc pm an cdv ct) ⟨us,[]⟩=pure (ps.zip us)):za1 K fd ps []:=by
 obtain⟨oc,od,kV,doc,pm,an,cdv,ct,osl,rfl,lk,hcd⟩:=F.ex
 exact .all (h kV doc pm an cdv ct)
theorem zaZ {x qual:Str} {st:Stmt} {f:Addr} {oc:Value} {od an:Option Addr} {osl:Array (Option Value)} {kV doc pm cdv ct:Value} (l:K.lookup f=some ⟨oc,od,.func (PySem.W.fnOf x qual (defArgs st) (defBody st) (defScope st) .none kV doc pm an cdv ct),osl⟩)
  (c:PySem.W.codeIn K cdv qual=true) (k:PySem.W.keepIn K (.ref f)=true):Fun K x qual st f (PySem.W.fnOf x qual (defArgs st) (defBody st) (defScope st) .none kV doc pm an cdv ct):=⟨⟨oc,od,kV,doc,pm,an,cdv,ct,osl,rfl,l,c⟩,k⟩
end
section
variable {X:Cx}
theorem pv (i:Nat) {x:Str} {pos:Pos} (hN:X.N[i]? = some x:=by rfl) (hv:Vis X.env.scope x:=by first | exact Or.inl rfl | exact Or.inr (Or.inl rfl) | exact Or.inr (Or.inr rfl)) (hd:(x == ("__debug__" : Str))=false:=by decide)
  (hcd:(x == ("__classdict__" : Str))=false:=by decide):PE X (.Name x pos) (tVar i):=zjV hN hv hd hcd
end
def Same (H H':Hp):Prop:=∀ b o,H b=some o→H' b=some o
theorem Same.refl (H:Hp):Same H H:=fun _ _ h=>h
theorem Same.trans {H H1 H2:Hp} (a:Same H H1) (b:Same H1 H2):Same H H2:=fun c o h=>b c o (a c o h)
theorem Same.free {H H':Hp} (e:Same H H') {l:Addr} (h:H' l=Option.none):H l=Option.none:=by
 cases q:H l with
 | none=>rfl
 | some o =>
  rw [e l o q] at h
  cases h
end L2
namespace Srt
open PySem PyProof.Rows
section
variable {σ:Type} {M:Model} {A:Around} {E:Value→Shared→Prop} {s:Shared} {α:Type}
theorem zai {c:Prop} {d:Decidable c} {m n:StateT σ Sem α} {Q:α→σ→Prop} {st:σ} (h:c) (k:wpS M A E s m Q st):wpS M A E s (@ite _ c d m n) Q st:=by rw [if_pos h];exact k
theorem zah {c:Prop} {d:Decidable c} {m n:StateT σ Sem α} {Q:α→σ→Prop} {st:σ} (h:¬c) (k:wpS M A E s n Q st):wpS M A E s (@ite _ c d m n) Q st:=by rw [if_neg h];exact k
end
class SK where
 rk:Keyed→Int
 dom:Keyed→Prop
noncomputable abbrev key [SK] (p:Keyed):Int:=SK.rk p
def IntK [SK] (p:Keyed):Prop:=SK.dom p
class SKL (prog:Program) (w:World) (A:Around) (E:Value→Shared→Prop) (s:Shared) [SK]:Prop where
 lt:∀ {st:SortSt} {x y:Keyed} {Q:Option Bool→SortSt→Prop},kindOf st=oneType'→IntK x→IntK y→Q (some (decide (key x < key y))) st→wpS (model prog w) A E s (lt' x y) Q st
noncomputable def K [SK] (xs:Array Keyed) (i:Nat):Int:=match xs[i]? with
 | some p=>key p
 | none=>0
def za7 [SK] (xs:Array Keyed):Prop:=∀ p∈xs.toList,IntK p
def zcC [SK] (xs:Array Keyed) (k:Nat):Prop:=∀ i j,i≤j→j < k→K xs i≤K xs j
variable [SK]
theorem zcN {xs ys:Array Keyed} {i j:Nat} (h:xs[i]? = ys[j]?):K xs i=K ys j:=by unfold K;rw [h]
theorem zh0 {xs:Array Keyed} {a d:Nat} (hs:a < xs.size) (hd:d≤a) (k:Nat):K (bubble xs a d) k=if k=a - d then K xs a else if a - d < k∧k≤a then K xs (k - 1) else K xs k:=by
 have e:=getElem?_bubble hs d hd k
 by_cases h1:k=a - d
 ·rw [if_pos h1] at e ⊢;exact zcN e
 ·rw [if_neg h1] at e ⊢
  by_cases h2:a - d < k∧k≤a
  ·rw [if_pos h2] at e ⊢;exact zcN e
  ·rw [if_neg h2] at e ⊢;exact zcN e
theorem zcG {xs:Array Keyed} {i j:Nat} (hj:j≤xs.size) (k:Nat):K (mirror xs i j ((j - i) / 2)) k=if i≤k∧k < j then K xs (i + j - 1 - k) else K xs k:=by
 have e:=getElem?_mirror_all (i:=i) hj k
 by_cases h1:i≤k∧k < j
 ·rw [if_pos h1] at e ⊢;exact zcN e
 ·rw [if_neg h1] at e ⊢;exact zcN e
theorem zfM {xs:Array Keyed} {a b:Nat} (hb:b≤xs.size) (e:∀ k,a≤k→k < b→K xs k=K xs (b - 1)):∀ k,K (mirror xs a b ((b - a) / 2)) k=K xs k:=fun k=>by
 by_cases h:a≤k∧k < b
 ·rw [zcG hb,if_pos h,e _ (by lia) (by lia),e k h.1 h.2]
 ·rw [zcG hb,if_neg h]
noncomputable def zcl:Bool→Keyed→Array Keyed→Nat→Nat→Nat→StateT SortSt Sem (Option Nat):=sortPriv% PySem.Builtin.gallop
section
variable {prog:Program} {w:World} {A:Around} {E:Value→Shared→Prop} {s:Shared} [SKL prog w A E s]
theorem zee {st:SortSt} {x y:Keyed} {Q:Option Bool→SortSt→Prop} (hk:kindOf st=oneType') (hx:IntK x) (hy:IntK y) (h:Q (some (decide (key x < key y))) st) :
  wpS (model prog w) A E s (lt' x y) Q st:=SKL.lt hk hx hy h
theorem zar {st:SortSt} {arr:Array Keyed} {i:Nat} {p:Keyed} {Q:Keyed→SortSt→Prop} (h1:arr[i]? = some p) (h:Q p st):wpS (model prog w) A E s (elem' arr i) Q st:=by
 rw [elem'_eq,h1]
 exact wpS_pure h
noncomputable def ask (left:Bool) (k:Keyed) (arr:Array Keyed) (base i:Nat):Bool:=match arr[base + i]? with
 | some p=>if left then decide (key p < key k) else !decide (key k < key p)
 | none=>false
theorem zdE {left:Bool} {k:Keyed} {arr:Array Keyed} {base n hint:Nat} {st:SortSt} {Q:Option Nat→SortSt→Prop} (hk:kindOf st=oneType') (hkey:IntK k)
  (harr:∀ i,i < n→∃ p,arr[base + i]? = some p∧IntK p) (hn:hint < n) (mono:∀ i j,i≤j→j < n→ask left k arr base j=true→ask left k arr base i=true)
  (h:∀ m,m≤n→(∀ i,i < m→ask left k arr base i=true)→(∀ i,m≤i→i < n→ask left k arr base i=false)→Q (some m) st) :
  wpS (model prog w) A E s (zcl left k arr base n hint) Q st:=by
 have one:∀ (i:Nat) (R:Option Bool→SortSt→Prop),i < n→R (some (ask left k arr base i)) st→wpS (model prog w) A E s (do
   let x ← elem' arr (base + i)
   if left=true then lt' x k else do
    let r ← lt' k x
    pure (Option.map (fun x=>!x) r)) R st:=by
  intro i R hi hR
  obtain⟨p,e,hp⟩:=harr i hi
  refine wpS_bind (zar e ?_)
  unfold ask at hR
  rw [e] at hR
  cases left with
  | true=>exact zee hk hp hkey hR
  | false=>exact wpS_bind (zee hk hkey hp (wpS_pure hR))
 have half:∀ (lo hi:Nat),lo≤hi→hi≤n→(∀ i,i < lo→ask left k arr base i=true)→(∀ i,hi≤i→i < n→ask left k arr base i=false) →
   wpS (model prog w) A E s (forIn [:n] ((none,lo,hi):Option (Option Nat)×Nat×Nat) fun _ c =>
    if c.2.1≥c.2.2 then pure (ForInStep.done (none,c.2.1,c.2.2)) else do
     let r ← (do
      let x ← elem' arr (base + (c.2.1 + (c.2.2 - c.2.1) / 2))
      if left=true then lt' x k else do
       let r ← lt' k x
       pure (Option.map (fun x=>!x) r))
     match r with
     | some more=>if more=true then pure (ForInStep.yield (none,c.2.1 + (c.2.2 - c.2.1) / 2 + 1,c.2.2)) else pure (ForInStep.yield (none,c.2.1,c.2.1 + (c.2.2 - c.2.1) / 2))
     | _=>pure (ForInStep.done (some none,c.2.1,c.2.2)))
    (fun c st'=>st'=st∧c.1=none∧c.2.2≤n∧(∀ i,i < c.2.2→ask left k arr base i=true)∧(∀ i,c.2.2≤i→i < n→ask left k arr base i=false)) st:=by
  intro lo hi h1 h2 h3 h4
  refine wpS_forRange (I:=fun x c st'=>st'=st∧c.1=none∧c.2.1≤c.2.2∧c.2.2≤n∧c.2.2 - c.2.1≤n - x∧(∀ i,i < c.2.1→ask left k arr base i=true)∧(∀ i,c.2.2≤i→i < n→ask left k arr base i=false)) ?step ?fin ⟨rfl,rfl,h1,h2,by show hi - lo≤n - 0;lia,h3,h4⟩
  case fin =>
   rintro ⟨r,l,u⟩ st' ⟨rfl,e,h1,h2,h3,h4,h5⟩
   dsimp only at *
   have:l=u:=by lia
   subst this
   exact⟨rfl,e,h2,h4,h5⟩
  case step =>
   rintro x ⟨r,l,u⟩ st' _ hx ⟨rfl,e,h1,h2,h3,h4,h5⟩
   dsimp only at *
   subst e
   by_cases hge:l≥u
   ·refine zai hge ?_
    have:l=u:=by lia
    subst this
    exact wpS_pure ⟨rfl,rfl,h2,h4,h5⟩
   ·refine zah hge ?_
    have hm:l + (u - l) / 2 < n:=by lia
    refine wpS_bind (one _ _ hm ?_)
    cases e:ask left k arr base (l + (u - l) / 2) with
    | true =>
     dsimp only
     refine zai rfl ?_
     exact wpS_pure ⟨rfl,rfl,(by dsimp only;lia),h2,(by dsimp only;lia),fun i hi=>mono i _ (by dsimp only at hi;lia) hm e,h5⟩
    | false =>
     dsimp only
     refine zah (by simp) ?_
     refine wpS_pure ⟨rfl,rfl,(by dsimp only;lia),(by dsimp only;lia),(by dsimp only;lia),h4,fun i h6 h7=>?_⟩
     cases e':ask left k arr base i with
     | false=>rfl
     | true=>rw [mono _ i h6 h7 e'] at e;cases e
 refine wpS_bind (one hint _ hn ?_)
 cases e0:ask left k arr base hint with
 | true =>
  dsimp only
  refine zai rfl ?_
  refine wpS_bind (wpS_mono (wpS_forRange (a:=0) (b:=n) (I:=fun x c st'=>st'=st∧c.1=none∧c.2.1 < c.2.2∧x + 1≤c.2.2∧hint + c.2.1 < n∧ask left k arr base (hint + c.2.1)=true)
   (Q:=fun c st'=>st'=st∧c.1=none∧c.2.1 < c.2.2∧hint + c.2.1 < n∧ask left k arr base (hint + c.2.1)=true∧(n - hint≤c.2.2∨(c.2.2 < n - hint∧ask left k arr base (hint + c.2.2)=false))) ?step ?fin ?init) ?post)
  case init=>exact⟨rfl,rfl,by decide,by decide,by simpa using hn,by simpa using e0⟩
  case fin =>
   rintro ⟨r,l,u⟩ st' ⟨rfl,e,h1,h2,h3,h4⟩
   dsimp only at *
   exact⟨rfl,e,h1,h3,h4,.inl (by lia)⟩
  case step =>
   rintro x ⟨r,l,u⟩ st' _ hx ⟨rfl,e,h1,h2,h3,h4⟩
   dsimp only at *
   subst e
   by_cases hge:u≥n - hint
   ·refine zai hge ?_
    exact wpS_pure ⟨rfl,rfl,h1,h3,h4,.inl hge⟩
   ·refine zah hge ?_
    refine wpS_bind (one _ _ (by lia) ?_)
    cases e:ask left k arr base (hint + u) with
    | true =>
     dsimp only
     refine zah (by simp) ?_
     exact wpS_pure ⟨rfl,rfl,by show u < 2 * u + 1;lia,by show x + 1 + 1≤2 * u + 1;lia,by show hint + u < n;lia,e⟩
    | false =>
     dsimp only
     refine zai (by simp) ?_
     exact wpS_pure ⟨rfl,rfl,h1,h3,h4,.inr ⟨(by dsimp only;lia),e⟩⟩
  case post =>
   rintro ⟨r,l,u⟩ st' ⟨rfl,e,h1,h3,h4,h5⟩
   dsimp only at *
   subst e
   dsimp only
   refine wpS_bind (wpS_mono (half (hint + l + 1) (hint + min u (n - hint)) (by lia) (by lia) (fun i hi=>mono i _ (by lia) h3 h4) fun i h6 h7=>?_) ?_)
   ·rcases h5 with h5 | ⟨h5,h8⟩
    ·lia
    ·cases e':ask left k arr base i with
     | false=>rfl
     | true=>rw [mono _ i (by lia) h7 e'] at h8;cases h8
   ·rintro ⟨r,l',u'⟩ st' ⟨rfl,e,h1,h2,h3⟩
    dsimp only at *
    subst e
    exact wpS_pure (h _ h1 h2 h3)
 | false =>
  dsimp only
  refine zah (by simp) ?_
  refine wpS_bind (wpS_mono (wpS_forRange (a:=0) (b:=n) (I:=fun x c st'=>st'=st∧c.1=none∧c.2.1 < c.2.2∧x + 1≤c.2.2∧c.2.1≤hint∧ask left k arr base (hint - c.2.1)=false)
   (Q:=fun c st'=>st'=st∧c.1=none∧c.2.1 < c.2.2∧c.2.1≤hint∧ask left k arr base (hint - c.2.1)=false∧(hint + 1≤c.2.2∨(c.2.2 < hint + 1∧ask left k arr base (hint - c.2.2)=true))) ?step ?fin ?init) ?post)
  case init=>exact⟨rfl,rfl,by decide,by decide,by simp,by simpa using e0⟩
  case fin =>
   rintro ⟨r,l,u⟩ st' ⟨rfl,e,h1,h2,h3,h4⟩
   dsimp only at *
   exact⟨rfl,e,h1,h3,h4,.inl (by lia)⟩
  case step =>
   rintro x ⟨r,l,u⟩ st' _ hx ⟨rfl,e,h1,h2,h3,h4⟩
   dsimp only at *
   subst e
   by_cases hge:u≥hint + 1
   ·refine zai hge ?_
    exact wpS_pure ⟨rfl,rfl,h1,h3,h4,.inl hge⟩
   ·refine zah hge ?_
    refine wpS_bind (one _ _ (by lia) ?_)
    cases e:ask left k arr base (hint - u) with
    | true =>
     dsimp only
     refine zai rfl ?_
     exact wpS_pure ⟨rfl,rfl,h1,h3,h4,.inr ⟨(by dsimp only;lia),e⟩⟩
    | false =>
     dsimp only
     refine zah (by simp) ?_
     exact wpS_pure ⟨rfl,rfl,by show u < 2 * u + 1;lia,by show x + 1 + 1≤2 * u + 1;lia,by show u≤hint;lia,e⟩
  case post =>
   rintro ⟨r,l,u⟩ st' ⟨rfl,e,h1,h3,h4,h5⟩
   dsimp only at *
   subst e
   dsimp only
   refine wpS_bind (wpS_mono (half (hint + 1 - min u (hint + 1)) (hint - l) (by lia) (by lia) (fun i hi=>?_) fun i h6 h7=>?_) ?_)
   ·rcases h5 with h5 | ⟨h5,h8⟩
    ·lia
    ·exact mono i _ (by lia) (by lia) h8
   ·cases e':ask left k arr base i with
    | false=>rfl
    | true=>rw [mono _ i h6 h7 e'] at h4;cases h4
   ·rintro ⟨r,l',u'⟩ st' ⟨rfl,e,h1,h2,h3⟩
    dsimp only at *
    subst e
    exact wpS_pure (h _ h1 h2 h3)
end
end Srt
namespace Srt
open PySem PyProof.Rows
variable [SK]
def Sr (l:List Keyed):Prop:=l.Pairwise fun x y=>key x≤key y
theorem Sr.drop {l:List Keyed} (h:Sr l) (n:Nat):Sr (l.drop n):=List.Pairwise.sublist (List.drop_sublist _ _) h
theorem Sr.take {l:List Keyed} (h:Sr l) (n:Nat):Sr (l.take n):=List.Pairwise.sublist (List.take_sublist _ _) h
theorem Sr.cut {l:List Keyed} (h:Sr l) (n:Nat):∀ x∈l.take n,∀ y∈l.drop n,key x≤key y:=by
 have h':Sr (l.take n ++ l.drop n):=by rw [List.take_append_drop];exact h
 exact (List.pairwise_append.mp h').2.2
theorem Sr.get {l:List Keyed} (h:Sr l) {i j:Nat} {x y:Keyed} (hij:i≤j) (hx:l[i]? = some x) (hy:l[j]? = some y):key x≤key y:=by
 obtain⟨h1,e1⟩:=List.getElem?_eq_some_iff.mp hx
 obtain⟨h2,e2⟩:=List.getElem?_eq_some_iff.mp hy
 by_cases e:i=j
 ·subst e;rw [← e1,← e2];exact Int.le_refl _
 ·rw [← e1,← e2];exact List.pairwise_iff_getElem.mp h i j h1 h2 (by lia)
structure MI (A B out:List Keyed) (ia ib:Nat):Prop where
 perm:out.Perm (A.take ia ++ B.take ib)
 sor:Sr out
 leA:∀ x∈out,∀ y∈A.drop ia,key x≤key y
 leB:∀ x∈out,∀ y∈B.drop ib,key x≤key y
section
variable {A B out:List Keyed} {ia ib:Nat}
theorem MI.manyB (h:MI A B out ia ib) (sB:Sr B) (k:Nat) (le:∀ x∈(B.drop ib).take k,∀ y∈A.drop ia,key x≤key y):MI A B (out ++ (B.drop ib).take k) ia (ib + k):=by
 refine ⟨?_,List.pairwise_append.mpr ⟨h.sor,(sB.drop ib).take k,fun x hx y hy=>h.leB x hx y (List.mem_of_mem_take hy)⟩,fun x hx y hy=>?_,fun x hx y hy=>?_⟩
 ·rw [List.take_add,← List.append_assoc]
  exact h.perm.append_right _
 ·rcases List.mem_append.mp hx with hx | hx
  ·exact h.leA x hx y hy
  ·exact le x hx y hy
 ·rw [← List.drop_drop] at hy
  rcases List.mem_append.mp hx with hx | hx
  ·exact h.leB x hx y (List.mem_of_mem_drop hy)
  ·exact (sB.drop ib).cut k x hx y hy
theorem MI.manyA (h:MI A B out ia ib) (sA:Sr A) (k:Nat) (le:∀ x∈(A.drop ia).take k,∀ y∈B.drop ib,key x≤key y):MI A B (out ++ (A.drop ia).take k) (ia + k) ib:=by
 refine ⟨?_,List.pairwise_append.mpr ⟨h.sor,(sA.drop ia).take k,fun x hx y hy=>h.leA x hx y (List.mem_of_mem_take hy)⟩,fun x hx y hy=>?_,fun x hx y hy=>?_⟩
 ·rw [List.take_add]
  refine (h.perm.append_right _).trans ?_
  rw [List.append_assoc,List.append_assoc]
  exact List.perm_append_comm.append_left _
 ·rw [← List.drop_drop] at hy
  rcases List.mem_append.mp hx with hx | hx
  ·exact h.leA x hx y (List.mem_of_mem_drop hy)
  ·exact (sA.drop ia).cut k x hx y hy
 ·rcases List.mem_append.mp hx with hx | hx
  ·exact h.leB x hx y hy
  ·exact le x hx y hy
theorem zaX {l:List Keyed} {i:Nat} {q:Keyed} (e:l[i]? = some q):(l.drop i).take 1=[q]:=by
 obtain⟨h1,e1⟩:=List.getElem?_eq_some_iff.mp e
 rw [List.drop_eq_getElem_cons h1,e1]
 rfl
theorem zbD {l:List Keyed} {i:Nat} {y:Keyed} (h:y∈l.drop i):∃ j,i≤j∧l[j]? = some y:=by
 obtain⟨j,hj⟩:=List.getElem?_of_mem h
 rw [List.getElem?_drop] at hj
 exact⟨i + j,Nat.le_add_right _ _,hj⟩
theorem zaC {l:List Keyed} {i k:Nat} {y:Keyed} (h:y∈(l.drop i).take k):∃ j,j < k∧l[i + j]? = some y:=by
 obtain⟨j,hj⟩:=List.getElem?_of_mem h
 rw [List.getElem?_take] at hj
 split at hj
 ·rename_i hlt
  rw [List.getElem?_drop] at hj
  exact⟨j,hlt,hj⟩
 ·cases hj
def Good (A B M:List Keyed):Prop:=M.Perm (A ++ B)∧Sr M
theorem MI.endAB (h:MI A B out ia ib) (sA:Sr A) (sB:Sr B) (le:∀ x∈A.drop ia,∀ y∈B.drop ib,key x≤key y):Good A B (out ++ A.drop ia ++ B.drop ib):=by
 refine ⟨?_,List.pairwise_append.mpr ⟨List.pairwise_append.mpr ⟨h.sor,sA.drop _,h.leA⟩,sB.drop _,fun x hx y hy=>?_⟩⟩
 ·refine ((h.perm.append_right _).append_right _).trans ?_
  have e:A ++ B=(A.take ia ++ A.drop ia) ++ (B.take ib ++ B.drop ib):=by rw [List.take_append_drop,List.take_append_drop]
  rw [e]
  simp only [List.append_assoc]
  refine List.Perm.append_left _ ?_
  rw [← List.append_assoc,← List.append_assoc]
  exact List.Perm.append_right _ List.perm_append_comm
 ·rcases List.mem_append.mp hx with hx | hx
  ·exact h.leB x hx y hy
  ·exact le x hx y hy
theorem MI.endBA (h:MI A B out ia ib) (sA:Sr A) (sB:Sr B) (le:∀ x∈B.drop ib,∀ y∈A.drop ia,key x≤key y):Good A B (out ++ B.drop ib ++ A.drop ia):=by
 refine ⟨?_,List.pairwise_append.mpr ⟨List.pairwise_append.mpr ⟨h.sor,sB.drop _,h.leB⟩,sA.drop _,fun x hx y hy=>?_⟩⟩
 ·refine ((h.perm.append_right _).append_right _).trans ?_
  have e:A ++ B=(A.take ia ++ A.drop ia) ++ (B.take ib ++ B.drop ib):=by rw [List.take_append_drop,List.take_append_drop]
  rw [e]
  simp only [List.append_assoc]
  refine List.Perm.append_left _ ?_
  rw [← List.append_assoc]
  exact List.perm_append_comm
 ·rcases List.mem_append.mp hx with hx | hx
  ·exact h.leA x hx y hy
  ·exact le x hx y hy
end
structure SameG (st st':SortSt):Prop where
 kind:kindOf st'=kindOf st
 arr:arrOf st'=arrOf st
 pend:pendingOf st'=pendingOf st
 failed:failedOf st'=failedOf st
theorem SameG.refl (st:SortSt):SameG st st:=⟨rfl,rfl,rfl,rfl⟩
theorem SameG.set {st st':SortSt} (h:SameG st st') (g:Nat):SameG st (SortSt.mk' (kindOf st') (arrOf st') (pendingOf st') g (failedOf st')):=⟨h.kind,h.arr,h.pend,h.failed⟩
theorem zay {a:Array Keyed} {i:Nat} (h:i < a.size):∃ q,a[i]? = some q∧a.toList[i]? = some q:=⟨a[i],by simp [h],by simp [h]⟩
theorem zba {a:Array Keyed} {i:Nat} {q:Keyed} (h:a[i]? = some q):a.toList[i]? = some q:=by rw [Array.getElem?_toList];exact h
noncomputable def zhq:Array Keyed→Array Keyed→StateT SortSt Sem (Array Keyed):=sortPriv% PySem.Builtin.mergeLo
noncomputable def zhr:Array Keyed→Array Keyed→StateT SortSt Sem (Array Keyed):=sortPriv% PySem.Builtin.mergeHi
theorem zhN {a:Array Keyed} (sa:Sr a.toList) (left:Bool) (k:Keyed) (base n:Nat) (hn:base + n≤a.size):∀ i j,i≤j→j < n→ask left k a base j=true→ask left k a base i=true:=by
 intro i j hij hj h
 obtain⟨p,e1,e2⟩:=zay (a:=a) (i:=base + i) (by lia)
 obtain⟨q,e3,e4⟩:=zay (a:=a) (i:=base + j) (by lia)
 have hle:=sa.get (by lia) e2 e4
 unfold ask at h ⊢
 rw [e1]
 rw [e3] at h
 cases left with
 | true =>
  simp only [if_true,decide_eq_true_eq] at h ⊢
  lia
 | false =>
  simp only [Bool.false_eq_true,if_false,Bool.not_eq_true',decide_eq_false_iff_not] at h ⊢
  lia
noncomputable abbrev LoC:=Option (Array Keyed)×Array Keyed×Nat×Nat×Nat×Nat×Nat
noncomputable def loT2 (a b:Array Keyed) (mg ac bc:Nat) (out:Array Keyed) (ia ib:Nat):StateT SortSt Sem (ForInStep LoC):=elem' a ia >>= fun p =>
 if (ia + 1 + 1 == a.size)=true then pure (.done (some (out.push p ++ b.extract ib ++ a.extract (ia + 1)),out.push p,ia + 1,ib,mg,ac,bc))
 else if (decide (ac < 7) && decide (bc < 7))=true then pure (.done (none,out.push p,ia + 1,ib,mg,ac,bc))
 else pure (.yield (none,out.push p,ia + 1,ib,mg,ac,bc))
noncomputable def loT1 (a b:Array Keyed) (mg ac bc:Nat) (out:Array Keyed) (ia ib:Nat):StateT SortSt Sem (ForInStep LoC):=elem' b ib >>= fun q =>
 if (ib + 1 == b.size)=true then pure (.done (some (out.push q ++ a.extract ia ++ b.extract (ib + 1)),out.push q,ia,ib + 1,mg,ac,bc))
 else elem' a ia >>= fun p=>zcl true p b (ib + 1) (b.size - (ib + 1)) 0 >>= fun r=>match r with
  | some k=>if k > 0 then (if (ib + 1 + k == b.size)=true then pure (.done (some (out.push q ++ b.extract (ib + 1) (ib + 1 + k) ++ a.extract ia ++ b.extract (ib + 1 + k)),out.push q ++ b.extract (ib + 1) (ib + 1 + k),ia,ib + 1 + k,mg,ac,k))
    else loT2 a b mg ac k (out.push q ++ b.extract (ib + 1) (ib + 1 + k)) ia (ib + 1 + k)) else loT2 a b mg ac k (out.push q) ia (ib + 1)
  | _=>pure (.done (some (out.push q ++ a.extract ia ++ b.extract (ib + 1)),out.push q,ia,ib + 1,mg,ac,bc))
section
variable {prog:Program} {w:World} {X:Around} {E:Value→Shared→Prop} {s:Shared} [SKL prog w X E s]
theorem zdQ {left:Bool} {k:Keyed} {a:Array Keyed} {base n hint:Nat} {st:SortSt} {Q:Option Nat→SortSt→Prop} (hk:kindOf st=oneType') (hkey:IntK k) (ha:∀ p∈a.toList,IntK p) (sa:Sr a.toList)
  (hb:base + n≤a.size) (hn:hint < n)
  (h:∀ m,m≤n→(∀ i p,i < m→a[base + i]? = some p→if left then key p < key k else key p≤key k)→(∀ i p,m≤i→i < n→a[base + i]? = some p→if left then key k≤key p else key k < key p)→Q (some m) st) :
  wpS (model prog w) X E s (zcl left k a base n hint) Q st:=by
 refine zdE hk hkey (fun i hi=>?_) hn (zhN sa left k base n hb) fun m hm h1 h2=>h m hm (fun i p hi e=>?_) fun i p hi hi' e=>?_
 ·obtain⟨q,e1,e2⟩:=zay (a:=a) (i:=base + i) (by lia)
  exact⟨q,e1,ha q (List.mem_of_getElem? e2)⟩
 ·have:=h1 i hi
  unfold ask at this
  rw [e] at this
  cases left with
  | true=>simpa using this
  | false=>simpa using this
 ·have:=h2 i hi hi'
  unfold ask at this
  rw [e] at this
  cases left with
  | true=>simpa using this
  | false=>simpa using this
end
theorem zfw {a b out:Array Keyed} {ia ib:Nat} (sa:Sr a.toList) (sb:Sr b.toList) (hM:MI a.toList b.toList out.toList ia ib) (e:ib=b.size):Good a.toList b.toList (out ++ a.extract ia ++ b.extract ib).toList:=by
 have szB:b.toList.length=b.size:=by simp
 have q:=hM.endAB sa sb fun x _ y hy=>by
  rw [List.drop_eq_nil_of_le (by lia)] at hy
  cases hy
 simpa [List.extract_eq_take_drop,List.take_of_length_le] using q
theorem zfx {a b out:Array Keyed} {ia ib:Nat} {la:Keyed} (sa:Sr a.toList) (sb:Sr b.toList) (ela:a[a.size - 1]? = some la) (hlast:∀ x∈b.toList,key x < key la) (hM:MI a.toList b.toList out.toList ia ib) (e:ia + 1=a.size) :
  Good a.toList b.toList (out ++ b.extract ib ++ a.extract ia).toList:=by
 have szA:a.toList.length=a.size:=by simp
 have q:=hM.endBA sa sb fun x hx y hy=>by
  obtain⟨j,hj,ej⟩:=zbD hy
  have hj':j < a.toList.length:=(List.getElem?_eq_some_iff.mp ej).1
  have:j=a.size - 1:=by lia
  subst this
  rw [zba ela] at ej
  cases ej
  exact Int.le_of_lt (hlast x (List.mem_of_mem_drop hx))
 simpa [List.extract_eq_take_drop,List.take_of_length_le] using q
def LoQ (a b:Array Keyed) (st:SortSt) (lim:Nat) (c:LoC) (st':SortSt):Prop:=SameG st st'∧c.1=none∧MI a.toList b.toList c.2.1.toList c.2.2.1 c.2.2.2.1∧c.2.2.1 + 1 < a.size∧c.2.2.2.1 < b.size∧lim≤c.2.2.1 + c.2.2.2.1
def LoE (a b:Array Keyed) (st:SortSt) (lim:Nat) (c:LoC) (st':SortSt):Prop:=SameG st st'∧((∃ M:Array Keyed,c.1=some M∧Good a.toList b.toList M.toList) ∨
 (c.1=none∧MI a.toList b.toList c.2.1.toList c.2.2.1 c.2.2.2.1∧c.2.2.1 + 1 < a.size∧c.2.2.2.1 < b.size∧lim≤c.2.2.1 + c.2.2.2.1))
section
variable {prog:Program} {w:World} {X:Around} {E:Value→Shared→Prop} {s:Shared} [SKL prog w X E s] {a b:Array Keyed} {st st2:SortSt} {la:Keyed} {lim:Nat}
theorem ze5 (sa:Sr a.toList) (sb:Sr b.toList) (ela:a[a.size - 1]? = some la) (hlast:∀ x∈b.toList,key x < key la) {mg ac bc:Nat} {out:Array Keyed} {ia ib:Nat} {p:Keyed} (hG:SameG st st2)
  (hM:MI a.toList b.toList out.toList ia ib) (ep:a[ia]? = some p) (h1:ia + 1 < a.size) (h2:ib < b.size) (h3:lim≤ia + ib) (hle:∀ y∈b.toList.drop ib,key p≤key y) :
  wpS (model prog w) X E s (loT2 a b mg ac bc out ia ib) (fun r st'=>match r with | .done c'=>LoE a b st lim c' st' | .yield c'=>LoQ a b st lim c' st') st2:=by
 refine wpS_bind (zar ep ?_)
 have ep2:=zba ep
 have hM':MI a.toList b.toList (out.push p).toList (ia + 1) ib:=by
  have z:=hM.manyA sa 1 (fun x hx y hy=>by
   rw [zaX ep2] at hx
   rw [List.mem_singleton.mp hx]
   exact hle y hy)
  rw [zaX ep2] at z
  simpa using z
 by_cases e3:(ia + 1 + 1 == a.size)=true
 ·refine zai e3 ?_
  exact wpS_pure ⟨hG,.inl ⟨_,rfl,zfx sa sb ela hlast hM' (by simpa using e3)⟩⟩
 ·refine zah e3 ?_
  have e3':ia + 1 + 1≠a.size:=by simpa using e3
  split
  ·exact wpS_pure ⟨hG,.inr ⟨rfl,hM',(by dsimp only;lia),h2,(by dsimp only;lia)⟩⟩
  ·exact wpS_pure ⟨hG,rfl,hM',(by dsimp only;lia),h2,(by dsimp only;lia)⟩
theorem ze6 (hk:kindOf st=oneType') (ha:∀ p∈a.toList,IntK p) (hb:∀ p∈b.toList,IntK p) (sa:Sr a.toList) (sb:Sr b.toList) (ela:a[a.size - 1]? = some la) (hlast:∀ x∈b.toList,key x < key la)
  {mg ac bc:Nat} {out:Array Keyed} {ia ib:Nat} {q:Keyed} (hG:SameG st st2)
  (hM:MI a.toList b.toList out.toList ia ib) (eq:b[ib]? = some q) (h1:ia + 1 < a.size) (h2:ib < b.size) (h3:lim≤ia + ib) (hle:∀ y∈a.toList.drop ia,key q≤key y) :
  wpS (model prog w) X E s (loT1 a b mg ac bc out ia ib) (fun r st'=>match r with | .done c'=>LoE a b st lim c' st' | .yield c'=>LoQ a b st lim c' st') st2:=by
 refine wpS_bind (zar eq ?_)
 have eq2:=zba eq
 have hM':MI a.toList b.toList (out.push q).toList ia (ib + 1):=by
  have z:=hM.manyB sb 1 (fun x hx y hy=>by
   rw [zaX eq2] at hx
   rw [List.mem_singleton.mp hx]
   exact hle y hy)
  rw [zaX eq2] at z
  simpa using z
 by_cases e3:(ib + 1 == b.size)=true
 ·refine zai e3 ?_
  exact wpS_pure ⟨hG,.inl ⟨_,rfl,zfw sa sb hM' (by simpa using e3)⟩⟩
 refine zah e3 ?_
 have e3':ib + 1≠b.size:=by simpa using e3
 obtain⟨p,ep,ep2⟩:=zay (a:=a) (i:=ia) (by lia)
 refine wpS_bind (zar ep (wpS_bind (zdQ (hG.kind.trans hk) (ha p (List.mem_of_getElem? ep2)) hb sb (by lia) (by lia) fun k hk1 hB1 hB2=>?_)))
 dsimp only
 simp only [if_true] at hB1 hB2
 have rest:∀ y∈b.toList.drop (ib + 1 + k),key p≤key y:=fun y hy=>by
  obtain⟨j,hj,ej⟩:=zbD hy
  have hj':j < b.size:=by
   have:=(List.getElem?_eq_some_iff.mp ej).1
   simpa using this
  refine hB2 (j - (ib + 1)) y (by lia) (by lia) ?_
  rw [show ib + 1 + (j - (ib + 1))=j by lia,← Array.getElem?_toList]
  exact ej
 by_cases hk0:k > 0
 ·refine zai hk0 ?_
  have hM3:MI a.toList b.toList (out.push q ++ b.extract (ib + 1) (ib + 1 + k)).toList ia (ib + 1 + k):=by
   have z:=hM'.manyB sb k (fun x hx y hy=>by
    obtain⟨j,hj,ej⟩:=zaC hx
    have z1:=hB1 j x hj (by rw [← Array.getElem?_toList];exact ej)
    obtain⟨i,hi,ei⟩:=zbD hy
    have z2:=sa.get hi ep2 ei
    lia)
   simpa [List.extract_eq_take_drop] using z
  by_cases e4:(ib + 1 + k == b.size)=true
  ·refine zai e4 ?_
   exact wpS_pure ⟨hG,.inl ⟨_,rfl,zfw sa sb hM3 (by simpa using e4)⟩⟩
  ·refine zah e4 ?_
   have e4':ib + 1 + k≠b.size:=by simpa using e4
   exact ze5 sa sb ela hlast hG hM3 ep h1 (by lia) (by lia) rest
 ·refine zah hk0 ?_
  have hk00:k=0:=by lia
  subst hk00
  exact ze5 sa sb ela hlast hG hM' ep h1 (by lia) (by lia) rest
end
noncomputable def loT0 (a b:Array Keyed) (mg ac bc:Nat) (out:Array Keyed) (ia ib:Nat):StateT SortSt Sem (ForInStep LoC):=elem' b ib >>= fun q=>zcl false q a ia (a.size - ia) 0 >>= fun r=>match r with
 | some k=>if k > 0 then (if (ia + k + 1 == a.size)=true then pure (.done (some (out ++ a.extract ia (ia + k) ++ b.extract ib ++ a.extract (ia + k)),out ++ a.extract ia (ia + k),ia + k,ib,mg,k,bc))
   else if (ia + k == a.size)=true then pure (.done (some (out ++ a.extract ia (ia + k) ++ a.extract (ia + k) ++ b.extract ib),out ++ a.extract ia (ia + k),ia + k,ib,mg,k,bc))
   else loT1 a b mg k bc (out ++ a.extract ia (ia + k)) (ia + k) ib) else loT1 a b mg k bc out ia ib
 | _=>pure (.done (some (out ++ a.extract ia ++ b.extract ib),out,ia,ib,mg,ac,bc))
noncomputable abbrev Lo6:=Option (Array Keyed)×Array Keyed×Nat×Nat×Nat×Nat
noncomputable def loI (a b:Array Keyed) (mg ac bc:Nat) (out:Array Keyed) (ia ib:Nat):StateT SortSt Sem (ForInStep Lo6):=elem' b ib >>= fun q=>elem' a ia >>= fun p=>lt' q p >>= fun r=>match r with
 | some w=>if w=true then (elem' b ib >>= fun q=>if (ib + 1 == b.size)=true then pure (.done (some (out.push q ++ a.extract ia ++ b.extract (ib + 1)),out.push q,ia,ib + 1,0,bc + 1))
   else if bc + 1≥mg then pure (.done (none,out.push q,ia,ib + 1,0,bc + 1)) else pure (.yield (none,out.push q,ia,ib + 1,0,bc + 1)))
  else elem' a ia >>= fun p=>if (ia + 1 + 1 == a.size)=true then pure (.done (some (out.push p ++ b.extract ib ++ a.extract (ia + 1)),out.push p,ia + 1,ib,ac + 1,0))
   else if ac + 1≥mg then pure (.done (none,out.push p,ia + 1,ib,ac + 1,0)) else pure (.yield (none,out.push p,ia + 1,ib,ac + 1,0))
 | _=>pure (.done (some (out ++ a.extract ia ++ b.extract ib),out,ia,ib,ac,bc))
def Lo1 (a b:Array Keyed) (lim:Nat) (c:Option (Array Keyed)) (out:Array Keyed) (ia ib:Nat):Prop:=c=none∧MI a.toList b.toList out.toList ia ib∧ia + 1 < a.size∧ib < b.size∧lim≤ia + ib
theorem Lo1.mono {a b:Array Keyed} {l l':Nat} {c:Option (Array Keyed)} {out:Array Keyed} {ia ib:Nat} (h:Lo1 a b l c out ia ib) (e:l'≤l):Lo1 a b l' c out ia ib:=⟨h.1,h.2.1,h.2.2.1,h.2.2.2.1,Nat.le_trans e h.2.2.2.2⟩
section
variable {prog:Program} {w:World} {X:Around} {E:Value→Shared→Prop} {s:Shared} [SKL prog w X E s] {a b:Array Keyed} {st st2:SortSt} {la:Keyed} {lim:Nat}
theorem zie (hk:kindOf st=oneType') (ha:∀ p∈a.toList,IntK p) (hb:∀ p∈b.toList,IntK p) (sa:Sr a.toList) (sb:Sr b.toList) (ela:a[a.size - 1]? = some la) (hlast:∀ x∈b.toList,key x < key la)
  {mg ac bc:Nat} {out:Array Keyed} {ia ib:Nat} (hM:MI a.toList b.toList out.toList ia ib) (h1:ia + 1 < a.size) (h2:ib < b.size) (h3:lim≤ia + ib) :
  wpS (model prog w) X E s (loI a b mg ac bc out ia ib) (fun r st'=>match r with | .done c=>st'=st∧((∃ M:Array Keyed,c.1=some M∧Good a.toList b.toList M.toList)∨Lo1 a b (lim + 1) c.1 c.2.1 c.2.2.1 c.2.2.2.1) | .yield c=>st'=st∧Lo1 a b (lim + 1) c.1 c.2.1 c.2.2.1 c.2.2.2.1) st:=by
 obtain⟨q,eq1,eq2⟩:=zay (a:=b) (i:=ib) h2
 obtain⟨p,ep1,ep2⟩:=zay (a:=a) (i:=ia) (Nat.lt_of_succ_lt h1)
 refine wpS_bind (zar eq1 (wpS_bind (zar ep1 (wpS_bind (zee hk (hb q (List.mem_of_getElem? eq2)) (ha p (List.mem_of_getElem? ep2)) ?_)))))
 by_cases hlt:key q < key p
 ·refine zai (decide_eq_true hlt) (wpS_bind (zar eq1 ?_))
  have hM':MI a.toList b.toList (out.push q).toList ia (ib + 1):=by
   have z:=hM.manyB sb 1 (fun x hx y hy=>by
    rw [zaX eq2] at hx
    rw [List.mem_singleton.mp hx]
    obtain⟨j,hj,ej⟩:=zbD hy
    exact Int.le_trans (Int.le_of_lt hlt) (sa.get hj ep2 ej))
   rw [zaX eq2] at z
   simpa using z
  by_cases e3:(ib + 1 == b.size)=true
  ·exact zai e3 (wpS_pure ⟨rfl,.inl ⟨_,rfl,zfw sa sb hM' (by simpa using e3)⟩⟩)
  ·have l:Lo1 a b (lim + 1) none (out.push q) ia (ib + 1):=⟨rfl,hM',h1,Nat.lt_of_le_of_ne h2 (by simpa using e3),Nat.succ_le_succ h3⟩
   refine zah e3 ?_
   split
   ·exact wpS_pure ⟨rfl,.inr l⟩
   ·exact wpS_pure ⟨rfl,l⟩
 ·refine zah (by simpa using hlt) (wpS_bind (zar ep1 ?_))
  have hM':MI a.toList b.toList (out.push p).toList (ia + 1) ib:=by
   have z:=hM.manyA sa 1 (fun x hx y hy=>by
    rw [zaX ep2] at hx
    rw [List.mem_singleton.mp hx]
    obtain⟨j,hj,ej⟩:=zbD hy
    exact Int.le_trans (Int.not_lt.mp hlt) (sb.get hj eq2 ej))
   rw [zaX ep2] at z
   simpa using z
  by_cases e3:(ia + 1 + 1 == a.size)=true
  ·exact zai e3 (wpS_pure ⟨rfl,.inl ⟨_,rfl,zfx sa sb ela hlast hM' (by simpa using e3)⟩⟩)
  ·have l:Lo1 a b (lim + 1) none (out.push p) (ia + 1) ib:=⟨rfl,hM',Nat.lt_of_le_of_ne h1 (by simpa using e3),h2,by lia⟩
   refine zah e3 ?_
   split
   ·exact wpS_pure ⟨rfl,.inr l⟩
   ·exact wpS_pure ⟨rfl,l⟩
theorem ze7 (hk:kindOf st=oneType') (ha:∀ p∈a.toList,IntK p) (hb:∀ p∈b.toList,IntK p) (sa:Sr a.toList) (sb:Sr b.toList) (ela:a[a.size - 1]? = some la) (hlast:∀ x∈b.toList,key x < key la)
  {mg ac bc:Nat} {out:Array Keyed} {ia ib:Nat} (hG:SameG st st2) (hM:MI a.toList b.toList out.toList ia ib) (h1:ia + 1 < a.size) (h2:ib < b.size) (h3:lim≤ia + ib) :
  wpS (model prog w) X E s (loT0 a b mg ac bc out ia ib) (fun r st'=>match r with | .done c'=>LoE a b st lim c' st' | .yield c'=>LoQ a b st lim c' st') st2:=by
 obtain⟨q,eq1,eq2⟩:=zay (a:=b) (i:=ib) h2
 refine wpS_bind (zar eq1 (wpS_bind (zdQ (hG.kind.trans hk) (hb q (List.mem_of_getElem? eq2)) ha sa (by lia) (by lia) fun k hk1 hA1 hA2=>?_)))
 simp only [Bool.false_eq_true,if_false] at hA1 hA2
 have rest:∀ y∈a.toList.drop (ia + k),key q≤key y:=fun y hy=>by
  obtain⟨j,hj,ej⟩:=zbD hy
  have hj':j < a.size:=by
   have:=(List.getElem?_eq_some_iff.mp ej).1
   simpa using this
  refine Int.le_of_lt (hA2 (j - ia) y (by lia) (by lia) ?_)
  rw [show ia + (j - ia)=j by lia,← Array.getElem?_toList]
  exact ej
 by_cases hk0:k > 0
 ·refine zai hk0 ?_
  have hM3:MI a.toList b.toList (out ++ a.extract ia (ia + k)).toList (ia + k) ib:=by
   have z:=hM.manyA sa k (fun x hx y hy=>by
    obtain⟨j,hj,ej⟩:=zaC hx
    have z1:=hA1 j x hj (by rw [← Array.getElem?_toList];exact ej)
    obtain⟨i,hi,ei⟩:=zbD hy
    exact Int.le_trans z1 (sb.get hi eq2 ei))
   simpa [List.extract_eq_take_drop] using z
  by_cases e4:(ia + k + 1 == a.size)=true
  ·exact zai e4 (wpS_pure ⟨hG,.inl ⟨_,rfl,zfx sa sb ela hlast hM3 (by simpa using e4)⟩⟩)
  ·have hkb:¬ (a.size - 1 - ia < k):=fun hlt=>by
    have z1:=hA1 (a.size - 1 - ia) la hlt (by rw [show ia + (a.size - 1 - ia)=a.size - 1 by lia];exact ela)
    exact Int.not_lt.mpr z1 (hlast q (List.mem_of_getElem? eq2))
   have e4':ia + k + 1≠a.size:=by simpa using e4
   have e5:ia + k + 1 < a.size:=by lia
   refine zah e4 (zah (by simp;lia) ?_)
   exact wpS_mono (ze6 (lim:=lim) hk ha hb sa sb ela hlast hG hM3 eq1 e5 h2 (by lia) rest) fun r st' z=>by cases r <;> exact z
 ·have hk00:k=0:=Nat.eq_zero_of_not_pos hk0
  subst hk00
  exact zah hk0 (wpS_mono (ze6 (lim:=lim) hk ha hb sa sb ela hlast hG hM eq1 h1 h2 h3 rest) fun r st' z=>by cases r <;> exact z)
end
section
variable {prog:Program} {w:World} {X:Around} {E:Value→Shared→Prop} {s:Shared} [SKL prog w X E s]
theorem zeD {a b:Array Keyed} {st:SortSt} {Q:Array Keyed→SortSt→Prop} (hk:kindOf st=oneType') (ha:∀ p∈a.toList,IntK p) (hb:∀ p∈b.toList,IntK p) (sa:Sr a.toList) (sb:Sr b.toList)
  (na:0 < a.size) (nb:0 < b.size) (h0:∀ q,b[0]? = some q→∀ y∈a.toList,key q≤key y) (hl:∀ p,a[a.size - 1]? = some p→∀ x∈b.toList,key x < key p)
  (h:∀ (M:Array Keyed) st',SameG st st'→Good a.toList b.toList M.toList→Q M st'):wpS (model prog w) X E s (zhq a b) Q st:=by
 obtain⟨la,ela,ela'⟩:=zay (a:=a) (i:=a.size - 1) (by lia)
 have hlast:=hl la ela
 refine wpS_bind (wpS_lift (wpAny_rule ⟨rfl,?_⟩))
 obtain⟨b0,eb0,eb0'⟩:=zay (a:=b) (i:=0) nb
 refine wpS_bind (zar eb0 ?_)
 have M0:MI a.toList b.toList (#[b0]:Array Keyed).toList 0 1:=by
  have z:MI a.toList b.toList [] 0 0:=⟨by simp,List.Pairwise.nil,(fun x hx=>by cases hx),(fun x hx=>by cases hx)⟩
  have z':=z.manyB sb 1 (fun x hx y hy=>by
   rw [zaX eb0'] at hx
   rw [List.mem_singleton.mp hx]
   exact h0 b0 eb0 y (by simpa using hy))
  rw [zaX eb0'] at z'
  simpa using z'
 by_cases e1:(1 == b.size)=true
 ·exact zai e1 (wpS_pure (h _ _ (.refl _) (zfw sa sb M0 (by simpa using e1))))
 refine zah e1 ?_
 have e1':1 < b.size:=Nat.lt_of_le_of_ne nb (by simpa using e1)
 by_cases e2:(0 + 1 == a.size)=true
 ·exact zai e2 (wpS_pure (h _ _ (.refl _) (zfx sa sb ela hlast M0 (by simpa using e2))))
 refine zah e2 ?_
 have e2':0 + 1 < a.size:=Nat.lt_of_le_of_ne na (by simpa using e2)
 refine wpS_bind (wpS_get ?_)
 refine wpS_bind (wpS_mono (wpS_forRange (a:=0) (b:=a.size + b.size)
  (I:=fun x c st'=>SameG st st'∧Lo1 a b (x + 1) c.1 c.2.1 c.2.2.1 c.2.2.2.1)
  (Q:=fun c st'=>SameG st st'∧∃ M:Array Keyed,c.1=some M∧Good a.toList b.toList M.toList) ?step ?fin ?init) ?post)
 case init=>exact⟨.refl _,rfl,M0,e2',e1',Nat.le_refl 1⟩
 case fin =>
  rintro ⟨r,out,ia,ib,mg⟩ st' ⟨hG,e,hM,h1,h2,h3⟩
  dsimp only at h1 h2 h3
  lia
 case post =>
  rintro ⟨r,out,ia,ib,mg⟩ st' ⟨hG,M,e,hM⟩
  cases (show r=some M from e)
  exact wpS_pure (h _ _ hG hM)
 case step =>
  rintro x ⟨r,out,ia,ib,mg⟩ st1 _ hx ⟨hG,e,hM,h1,h2,h3⟩
  cases (show r=none from e)
  refine wpS_bind (wpS_mono (wpS_forRange (a:=0) (b:=a.size + b.size)
   (I:=fun y c st'=>st'=st1∧Lo1 a b (ia + ib + y) c.1 c.2.1 c.2.2.1 c.2.2.2.1)
   (Q:=fun c st'=>st'=st1∧((∃ M:Array Keyed,c.1=some M∧Good a.toList b.toList M.toList)∨Lo1 a b (ia + ib + 1) c.1 c.2.1 c.2.2.1 c.2.2.2.1)) ?istep ?ifin ?iinit) ?ipost)
  case iinit=>exact⟨rfl,rfl,hM,h1,h2,Nat.le_refl _⟩
  case ifin=>exact fun c st' hc=>⟨hc.1,.inr (hc.2.mono (by lia))⟩
  case istep =>
   rintro y ⟨r,out,ia',ib',ac,bc⟩ st' _ hy ⟨rfl,e,hM,h1,h2,h3⟩
   cases (show r=none from e)
   exact wpS_mono (zie (lim:=ia + ib + y) (hG.kind.trans hk) ha hb sa sb ela hlast hM h1 h2 h3) fun r st' z=>by
    cases r with
    | done c=>exact⟨z.1,z.2.imp id fun z=>z.mono (by lia)⟩
    | yield c=>exact z
  case ipost =>
   rintro ⟨r,out1,ia1,ib1,ac1,bc1⟩ st' ⟨rfl,⟨M,e,hgood⟩ | ⟨e,hM1,g1,g2,g3⟩⟩
   ·cases (show r=some M from e)
    exact wpS_pure ⟨hG,M,rfl,hgood⟩
   cases (show r=none from e)
   refine wpS_bind (wpS_lift (wpAny_rule ⟨rfl,?_⟩))
   refine wpS_bind (wpS_mono (wpS_forRange (a:=0) (b:=a.size + b.size) (I:=fun _ c st'=>LoQ a b st (ia + ib + 1) c st') (Q:=fun c st'=>LoE a b st (ia + ib + 1) c st') ?jstep ?jfin ?jinit) ?jpost)
   case jinit=>exact⟨hG,rfl,hM1,g1,g2,g3⟩
   case jfin=>exact fun c st' hc=>⟨hc.1,.inr hc.2⟩
   case jpost =>
    rintro ⟨r,out2,ia2,ib2,mg2,ac2,bc2⟩ st2 ⟨hG2,⟨M,e,hgood⟩ | ⟨e,hM2,k1,k2,k3⟩⟩
    ·cases (show r=some M from e)
     exact wpS_pure ⟨hG2,M,rfl,hgood⟩
    ·cases (show r=none from e)
     exact wpS_bind (wpS_modify (wpS_pure ⟨hG2.set _,rfl,hM2,k1,k2,Nat.le_trans (Nat.succ_le_succ h3) k3⟩))
   case jstep =>
    rintro y ⟨r,out2,ia2,ib2,mg2,ac2,bc2⟩ st2 _ hy ⟨hG2,e,hM2,k1,k2,k3⟩
    cases (show r=none from e)
    by_cases hmg:mg2 > 1
    ·exact zai hmg (wpS_bind (wpS_modify (wpS_mono (ze7 hk ha hb sa sb ela hlast (hG2.set _) hM2 k1 k2 k3) fun r st' z=>by cases r <;> exact z)))
    ·exact zah hmg (wpS_bind (wpS_modify (wpS_mono (ze7 hk ha hb sa sb ela hlast (hG2.set _) hM2 k1 k2 k3) fun r st' z=>by cases r <;> exact z)))
end
end Srt
namespace Srt
open PySem PyProof.Rows
variable [SK]
structure MH (A B R:List Keyed) (na nb:Nat):Prop where
 perm:R.Perm (A.drop na ++ B.drop nb)
 sor:Sr R
 leA:∀ x∈A.take na,∀ y∈R,key x≤key y
 leB:∀ x∈B.take nb,∀ y∈R,key x≤key y
section
variable {A B R:List Keyed} {na nb:Nat}
theorem zdK (l:List Keyed) {m n:Nat} (h:m≤n):l.drop m=(l.drop m).take (n - m) ++ l.drop n:=by
 have e:l.drop n=(l.drop m).drop (n - m):=by rw [List.drop_drop];congr 1;lia
 rw [e,List.take_append_drop]
theorem zdF (l:List Keyed) {m n:Nat} (h:m≤n):l.take n=l.take m ++ (l.drop m).take (n - m):=by
 rw [← List.take_add]
 congr 1
 lia
theorem MH.manyA (h:MH A B R na nb) (sA:Sr A) {m:Nat} (hm:m≤na) (le:∀ x∈B.take nb,∀ y∈(A.drop m).take (na - m),key x≤key y):MH A B ((A.drop m).take (na - m) ++ R) m nb:=by
 have hs:=zdF A hm
 refine ⟨?_,List.pairwise_append.mpr ⟨(sA.drop m).take _,h.sor,fun x hx y hy=>h.leA x (by rw [hs];exact List.mem_append_right _ hx) y hy⟩,fun x hx y hy=>?_,fun x hx y hy=>?_⟩
 ·refine (h.perm.append_left _).trans (List.Perm.of_eq ?_)
  rw [← List.append_assoc,← zdK A hm]
 ·rcases List.mem_append.mp hy with hy | hy
  ·have hd:y∈A.drop m:=List.mem_of_mem_take hy
   exact sA.cut m x hx y hd
  ·exact h.leA x (by rw [hs];exact List.mem_append_left _ hx) y hy
 ·rcases List.mem_append.mp hy with hy | hy
  ·exact le x hx y hy
  ·exact h.leB x hx y hy
theorem MH.manyB (h:MH A B R na nb) (sB:Sr B) {m:Nat} (hm:m≤nb) (le:∀ x∈A.take na,∀ y∈(B.drop m).take (nb - m),key x≤key y):MH A B ((B.drop m).take (nb - m) ++ R) na m:=by
 have hs:=zdF B hm
 refine ⟨?_,List.pairwise_append.mpr ⟨(sB.drop m).take _,h.sor,fun x hx y hy=>h.leB x (by rw [hs];exact List.mem_append_right _ hx) y hy⟩,fun x hx y hy=>?_,fun x hx y hy=>?_⟩
 ·refine (h.perm.append_left _).trans ?_
  refine List.Perm.trans ?_ (List.Perm.of_eq (congrArg (A.drop na ++ ·) (zdK B hm).symm))
  rw [← List.append_assoc,← List.append_assoc]
  exact List.Perm.append_right _ List.perm_append_comm
 ·rcases List.mem_append.mp hy with hy | hy
  ·exact le x hx y hy
  ·exact h.leA x hx y hy
 ·rcases List.mem_append.mp hy with hy | hy
  ·have hd:y∈B.drop m:=List.mem_of_mem_take hy
   exact sB.cut m x hx y hd
  ·exact h.leB x (by rw [hs];exact List.mem_append_left _ hx) y hy
theorem MH.endAB (h:MH A B R na nb) (sA:Sr A) (sB:Sr B) (le:∀ x∈A.take na,∀ y∈B.take nb,key x≤key y):Good A B (A.take na ++ B.take nb ++ R):=by
 refine ⟨?_,List.pairwise_append.mpr ⟨List.pairwise_append.mpr ⟨sA.take _,sB.take _,le⟩,h.sor,fun x hx y hy=>?_⟩⟩
 ·refine (h.perm.append_left _).trans ?_
  have e:A ++ B=(A.take na ++ A.drop na) ++ (B.take nb ++ B.drop nb):=by rw [List.take_append_drop,List.take_append_drop]
  rw [e]
  simp only [List.append_assoc]
  refine List.Perm.append_left _ ?_
  rw [← List.append_assoc,← List.append_assoc]
  exact List.Perm.append_right _ List.perm_append_comm
 ·rcases List.mem_append.mp hx with hx | hx
  ·exact h.leA x hx y hy
  ·exact h.leB x hx y hy
theorem MH.endBA (h:MH A B R na nb) (sA:Sr A) (sB:Sr B) (le:∀ x∈B.take nb,∀ y∈A.take na,key x≤key y):Good A B (B.take nb ++ A.take na ++ R):=by
 refine ⟨?_,List.pairwise_append.mpr ⟨List.pairwise_append.mpr ⟨sB.take _,sA.take _,le⟩,h.sor,fun x hx y hy=>?_⟩⟩
 ·refine (h.perm.append_left _).trans ?_
  have e:A ++ B=(A.take na ++ A.drop na) ++ (B.take nb ++ B.drop nb):=by rw [List.take_append_drop,List.take_append_drop]
  rw [e]
  refine (List.perm_append_comm.append_right _).trans ?_
  simp only [List.append_assoc]
  refine List.Perm.append_left _ ?_
  rw [← List.append_assoc,← List.append_assoc]
  exact List.Perm.append_right _ List.perm_append_comm
 ·rcases List.mem_append.mp hx with hx | hx
  ·exact h.leB x hx y hy
  ·exact h.leA x hx y hy
theorem zct {l:List Keyed} {n:Nat} {q:Keyed} (h:0 < n) (e:l[n - 1]? = some q):(l.drop (n - 1)).take (n - (n - 1))=[q]:=by
 rw [show n - (n - 1)=1 by lia]
 exact zaX e
theorem zbC {l:List Keyed} {n:Nat} {y:Keyed} (h:y∈l.take n):∃ j,j < n∧l[j]? = some y:=by
 obtain⟨j,hj⟩:=List.getElem?_of_mem h
 rw [List.getElem?_take] at hj
 split at hj
 ·exact⟨j,by assumption,hj⟩
 ·cases hj
end
theorem zfz {a b out:Array Keyed} {na nb:Nat} (sa:Sr a.toList) (sb:Sr b.toList) (hM:MH a.toList b.toList out.reverse.toList na nb) (e:na=0):Good a.toList b.toList (a.extract 0 na ++ b.extract 0 nb ++ out.reverse).toList:=by
 have q:=hM.endAB sa sb fun x hx y _=>by
  subst e
  simp at hx
 simpa [List.extract_eq_take_drop] using q
theorem zfy {a b out:Array Keyed} {na nb:Nat} {b0:Keyed} (sa:Sr a.toList) (sb:Sr b.toList) (eb:b[0]? = some b0) (h0:∀ y∈a.toList,key b0 < key y) (hM:MH a.toList b.toList out.reverse.toList na nb) (e:nb=1) :
  Good a.toList b.toList (b.extract 0 nb ++ a.extract 0 na ++ out.reverse).toList:=by
 have q:=hM.endBA sa sb fun x hx y hy=>by
  obtain⟨j,hj,ej⟩:=zbC hx
  have:j=0:=by lia
  subst this
  rw [zba eb] at ej
  cases ej
  exact Int.le_of_lt (h0 y (List.mem_of_mem_take hy))
 simpa [List.extract_eq_take_drop] using q
noncomputable abbrev HiC:=Option (Array Keyed)×Nat×Nat×Array Keyed×Nat×Nat×Nat
noncomputable def hiT2 (a b:Array Keyed) (mg ac bc na nb:Nat) (out:Array Keyed):StateT SortSt Sem (ForInStep HiC):=elem' a (na - 1) >>= fun p =>
 if (na - 1 == 0)=true then pure (.done (some (a.extract 0 (na - 1) ++ b.extract 0 nb ++ (out.push p).reverse),na - 1,nb,out.push p,mg,ac,bc))
 else if (decide (ac < 7) && decide (bc < 7))=true then pure (.done (none,na - 1,nb,out.push p,mg,ac,bc))
 else pure (.yield (none,na - 1,nb,out.push p,mg,ac,bc))
noncomputable def hiT1 (a b:Array Keyed) (mg ac bc na nb:Nat) (out:Array Keyed):StateT SortSt Sem (ForInStep HiC):=elem' b (nb - 1) >>= fun q =>
 if (nb - 1 == 1)=true then pure (.done (some (b.extract 0 (nb - 1) ++ a.extract 0 na ++ (out.push q).reverse),na,nb - 1,out.push q,mg,ac,bc))
 else elem' a (na - 1) >>= fun p=>zcl true p b 0 (nb - 1) (nb - 1 - 1) >>= fun r=>match r with
  | some m=>if nb - 1 - m > 0 then (if (m == 1)=true then pure (.done (some (b.extract 0 m ++ a.extract 0 na ++ (out.push q ++ (b.extract m (nb - 1)).reverse).reverse),na,m,out.push q ++ (b.extract m (nb - 1)).reverse,mg,ac,nb - 1 - m))
    else if (m == 0)=true then pure (.done (some (a.extract 0 na ++ b.extract 0 m ++ (out.push q ++ (b.extract m (nb - 1)).reverse).reverse),na,m,out.push q ++ (b.extract m (nb - 1)).reverse,mg,ac,nb - 1 - m))
    else hiT2 a b mg ac (nb - 1 - m) na m (out.push q ++ (b.extract m (nb - 1)).reverse)) else hiT2 a b mg ac (nb - 1 - m) na (nb - 1) (out.push q)
  | _=>pure (.done (some (a.extract 0 na ++ b.extract 0 (nb - 1) ++ (out.push q).reverse),na,nb - 1,out.push q,mg,ac,bc))
def HiQ (a b:Array Keyed) (st:SortSt) (lim:Nat) (c:HiC) (st':SortSt):Prop:=SameG st st'∧c.1=none∧MH a.toList b.toList c.2.2.2.1.reverse.toList c.2.1 c.2.2.1∧0 < c.2.1∧1 < c.2.2.1∧c.2.1 + c.2.2.1≤lim∧c.2.1≤a.size∧c.2.2.1≤b.size
def HiE (a b:Array Keyed) (st:SortSt) (lim:Nat) (c:HiC) (st':SortSt):Prop:=SameG st st'∧((∃ M:Array Keyed,c.1=some M∧Good a.toList b.toList M.toList) ∨
 (c.1=none∧MH a.toList b.toList c.2.2.2.1.reverse.toList c.2.1 c.2.2.1∧0 < c.2.1∧1 < c.2.2.1∧c.2.1 + c.2.2.1≤lim∧c.2.1≤a.size∧c.2.2.1≤b.size))
section
variable {prog:Program} {w:World} {X:Around} {E:Value→Shared→Prop} {s:Shared} [SKL prog w X E s] {a b:Array Keyed} {st st2:SortSt} {b0:Keyed} {lim:Nat}
theorem zit {out:Array Keyed} {na nb:Nat} {p:Keyed} (sa:Sr a.toList) (hM:MH a.toList b.toList out.reverse.toList na nb) (h1:0 < na) (ep:a[na - 1]? = some p) (hle:∀ x∈b.toList.take nb,key x≤key p) :
  MH a.toList b.toList (out.push p).reverse.toList (na - 1) nb:=by
 have z:=hM.manyA sa (m:=na - 1) (by lia) (fun x hx y hy=>by
  rw [zct h1 (zba ep)] at hy
  rw [List.mem_singleton.mp hy]
  exact hle x hx)
 rw [zct h1 (zba ep)] at z
 simpa using z
theorem zjP {out:Array Keyed} {na nb:Nat} {q:Keyed} (sb:Sr b.toList) (hM:MH a.toList b.toList out.reverse.toList na nb) (h1:0 < nb) (eq:b[nb - 1]? = some q) (hle:∀ x∈a.toList.take na,key x≤key q) :
  MH a.toList b.toList (out.push q).reverse.toList na (nb - 1):=by
 have z:=hM.manyB sb (m:=nb - 1) (by lia) (fun x hx y hy=>by
  rw [zct h1 (zba eq)] at hy
  rw [List.mem_singleton.mp hy]
  exact hle x hx)
 rw [zct h1 (zba eq)] at z
 simpa using z
theorem ze8 (sa:Sr a.toList) (sb:Sr b.toList) {mg ac bc na nb:Nat} {out:Array Keyed} {p:Keyed} (hG:SameG st st2)
  (hM:MH a.toList b.toList out.reverse.toList na nb) (ep:a[na - 1]? = some p) (h1:0 < na) (h2:1 < nb) (h3:na + nb≤lim) (h4:na≤a.size) (h5:nb≤b.size) (hle:∀ x∈b.toList.take nb,key x≤key p) :
  wpS (model prog w) X E s (hiT2 a b mg ac bc na nb out) (fun r st'=>match r with | .done c'=>HiE a b st lim c' st' | .yield c'=>HiQ a b st lim c' st') st2:=by
 refine wpS_bind (zar ep ?_)
 have hM':=zit sa hM h1 ep hle
 by_cases e3:(na - 1 == 0)=true
 ·refine zai e3 ?_
  exact wpS_pure ⟨hG,.inl ⟨_,rfl,zfz sa sb hM' (by simpa using e3)⟩⟩
 ·refine zah e3 ?_
  have e3':na - 1≠0:=by simpa using e3
  split
  ·exact wpS_pure ⟨hG,.inr ⟨rfl,hM',(by dsimp only;lia),h2,(by dsimp only;lia),(by dsimp only;lia),h5⟩⟩
  ·exact wpS_pure ⟨hG,rfl,hM',(by dsimp only;lia),h2,(by dsimp only;lia),(by dsimp only;lia),h5⟩
theorem ze9 (hk:kindOf st=oneType') (ha:∀ p∈a.toList,IntK p) (hb:∀ p∈b.toList,IntK p) (sa:Sr a.toList) (sb:Sr b.toList) (eb:b[0]? = some b0) (h0:∀ y∈a.toList,key b0 < key y)
  {mg ac bc na nb:Nat} {out:Array Keyed} {q:Keyed} (hG:SameG st st2)
  (hM:MH a.toList b.toList out.reverse.toList na nb) (eq:b[nb - 1]? = some q) (h1:0 < na) (h2:1 < nb) (h3:na + nb≤lim) (h4:na≤a.size) (h5:nb≤b.size) (hle:∀ x∈a.toList.take na,key x≤key q) :
  wpS (model prog w) X E s (hiT1 a b mg ac bc na nb out) (fun r st'=>match r with | .done c'=>HiE a b st lim c' st' | .yield c'=>HiQ a b st lim c' st') st2:=by
 refine wpS_bind (zar eq ?_)
 have hM':=zjP sb hM (by lia) eq hle
 by_cases e3:(nb - 1 == 1)=true
 ·refine zai e3 ?_
  exact wpS_pure ⟨hG,.inl ⟨_,rfl,zfy sa sb eb h0 hM' (by simpa using e3)⟩⟩
 refine zah e3 ?_
 have e3':nb - 1≠1:=by simpa using e3
 obtain⟨p,ep,ep2⟩:=zay (a:=a) (i:=na - 1) (by lia)
 refine wpS_bind (zar ep (wpS_bind (zdQ (hG.kind.trans hk) (ha p (List.mem_of_getElem? ep2)) hb sb (by lia) (by lia) fun m hm1 hB1 hB2=>?_)))
 dsimp only
 simp only [if_true,Nat.zero_add] at hB1 hB2
 have hm0:m≠0:=fun e=>by
  have z1:=hB2 0 b0 (by lia) (by lia) eb
  have z2:=h0 p (List.mem_of_getElem? ep2)
  lia
 have rest:∀ x∈b.toList.take m,key x≤key p:=fun x hx=>by
  obtain⟨j,hj,ej⟩:=zbC hx
  exact Int.le_of_lt (hB1 j x hj (by rw [← Array.getElem?_toList];exact ej))
 by_cases hk0:nb - 1 - m > 0
 ·refine zai hk0 ?_
  have hM3:MH a.toList b.toList (out.push q ++ (b.extract m (nb - 1)).reverse).reverse.toList na m:=by
   have z:=hM'.manyB sb hm1 (fun x hx y hy=>by
    obtain⟨j,hj,ej⟩:=zaC hy
    have z1:=hB2 (m + j) y (by lia) (by lia) (by rw [← Array.getElem?_toList];exact ej)
    obtain⟨i,hi,ei⟩:=zbC hx
    have z2:=sa.get (i:=i) (j:=na - 1) (by lia) ei ep2
    lia)
   simpa [List.extract_eq_take_drop] using z
  by_cases e4:(m == 1)=true
  ·refine zai e4 ?_
   exact wpS_pure ⟨hG,.inl ⟨_,rfl,zfy sa sb eb h0 hM3 (by simpa using e4)⟩⟩
  ·refine zah e4 ?_
   have e4':m≠1:=by simpa using e4
   refine zah (by simpa using hm0) ?_
   exact ze8 sa sb hG hM3 ep h1 (by lia) (by lia) h4 (by lia) rest
 ·refine zah hk0 ?_
  have e:m=nb - 1:=by lia
  subst e
  exact ze8 sa sb hG hM' ep h1 (by lia) (by lia) h4 (by lia) rest
noncomputable def hiT0 (a b:Array Keyed) (mg ac bc na nb:Nat) (out:Array Keyed):StateT SortSt Sem (ForInStep HiC):=elem' b (nb - 1) >>= fun q=>zcl false q a 0 na (na - 1) >>= fun r=>match r with
 | some m=>if na - m > 0 then (if (m == 0)=true then pure (.done (some (a.extract 0 m ++ b.extract 0 nb ++ (out ++ (a.extract m na).reverse).reverse),m,nb,out ++ (a.extract m na).reverse,mg,na - m,bc))
   else hiT1 a b mg (na - m) bc m nb (out ++ (a.extract m na).reverse)) else hiT1 a b mg (na - m) bc na nb out
 | _=>pure (.done (some (a.extract 0 na ++ b.extract 0 nb ++ out.reverse),na,nb,out,mg,ac,bc))
noncomputable abbrev Hi6:=Option (Array Keyed)×Nat×Nat×Array Keyed×Nat×Nat
noncomputable def hiI (a b:Array Keyed) (mg ac bc na nb:Nat) (out:Array Keyed):StateT SortSt Sem (ForInStep Hi6):=elem' b (nb - 1) >>= fun q=>elem' a (na - 1) >>= fun p=>lt' q p >>= fun r=>match r with
 | some w=>if w=true then (elem' a (na - 1) >>= fun p=>if (na - 1 == 0)=true then pure (.done (some (a.extract 0 (na - 1) ++ b.extract 0 nb ++ (out.push p).reverse),na - 1,nb,out.push p,ac + 1,0))
   else if ac + 1≥mg then pure (.done (none,na - 1,nb,out.push p,ac + 1,0)) else pure (.yield (none,na - 1,nb,out.push p,ac + 1,0)))
  else elem' b (nb - 1) >>= fun q=>if (nb - 1 == 1)=true then pure (.done (some (b.extract 0 (nb - 1) ++ a.extract 0 na ++ (out.push q).reverse),na,nb - 1,out.push q,0,bc + 1))
   else if bc + 1≥mg then pure (.done (none,na,nb - 1,out.push q,0,bc + 1)) else pure (.yield (none,na,nb - 1,out.push q,0,bc + 1))
 | _=>pure (.done (some (a.extract 0 na ++ b.extract 0 nb ++ out.reverse),na,nb,out,ac,bc))
def Hi1 (a b:Array Keyed) (lim:Nat) (c:Option (Array Keyed)) (na nb:Nat) (out:Array Keyed):Prop:=c=none∧MH a.toList b.toList out.reverse.toList na nb∧0 < na∧1 < nb∧na + nb≤lim∧na≤a.size∧nb≤b.size
omit [SKL prog w X E s] in
theorem Hi1.mono {l l':Nat} {c:Option (Array Keyed)} {out:Array Keyed} {na nb:Nat} (h:Hi1 a b l c na nb out) (e:l≤l'):Hi1 a b l' c na nb out:=⟨h.1,h.2.1,h.2.2.1,h.2.2.2.1,Nat.le_trans h.2.2.2.2.1 e,h.2.2.2.2.2⟩
theorem zif (hk:kindOf st=oneType') (ha:∀ p∈a.toList,IntK p) (hb:∀ p∈b.toList,IntK p) (sa:Sr a.toList) (sb:Sr b.toList) (eb:b[0]? = some b0) (h0:∀ y∈a.toList,key b0 < key y)
  {mg ac bc na nb:Nat} {out:Array Keyed} (hM:MH a.toList b.toList out.reverse.toList na nb) (h1:0 < na) (h2:1 < nb) (h3:na + nb≤lim + 1) (h4:na≤a.size) (h5:nb≤b.size) :
  wpS (model prog w) X E s (hiI a b mg ac bc na nb out) (fun r st'=>match r with | .done c=>st'=st∧((∃ M:Array Keyed,c.1=some M∧Good a.toList b.toList M.toList)∨Hi1 a b lim c.1 c.2.1 c.2.2.1 c.2.2.2.1) | .yield c=>st'=st∧Hi1 a b lim c.1 c.2.1 c.2.2.1 c.2.2.2.1) st:=by
 obtain⟨q,eq1,eq2⟩:=zay (a:=b) (i:=nb - 1) (by lia)
 obtain⟨p,ep1,ep2⟩:=zay (a:=a) (i:=na - 1) (by lia)
 refine wpS_bind (zar eq1 (wpS_bind (zar ep1 (wpS_bind (zee hk (hb q (List.mem_of_getElem? eq2)) (ha p (List.mem_of_getElem? ep2)) ?_)))))
 by_cases hlt:key q < key p
 ·refine zai (decide_eq_true hlt) (wpS_bind (zar ep1 ?_))
  have hM':=zit sa hM h1 ep1 fun x hx=>by
   obtain⟨j,hj,ej⟩:=zbC hx
   exact Int.le_trans (sb.get (i:=j) (j:=nb - 1) (Nat.le_sub_one_of_lt hj) ej eq2) (Int.le_of_lt hlt)
  by_cases e3:(na - 1 == 0)=true
  ·exact zai e3 (wpS_pure ⟨rfl,.inl ⟨_,rfl,zfz sa sb hM' (by simpa using e3)⟩⟩)
  ·have l:Hi1 a b lim none (na - 1) nb (out.push p):=⟨rfl,hM',Nat.pos_of_ne_zero (by simpa using e3),h2,(by lia),Nat.le_trans (Nat.sub_le _ _) h4,h5⟩
   refine zah e3 ?_
   split
   ·exact wpS_pure ⟨rfl,.inr l⟩
   ·exact wpS_pure ⟨rfl,l⟩
 ·refine zah (by simpa using hlt) (wpS_bind (zar eq1 ?_))
  have hM':=zjP sb hM (Nat.zero_lt_of_lt h2) eq1 fun x hx=>by
   obtain⟨j,hj,ej⟩:=zbC hx
   exact Int.le_trans (sa.get (i:=j) (j:=na - 1) (Nat.le_sub_one_of_lt hj) ej ep2) (Int.not_lt.mp hlt)
  by_cases e3:(nb - 1 == 1)=true
  ·exact zai e3 (wpS_pure ⟨rfl,.inl ⟨_,rfl,zfy sa sb eb h0 hM' (by simpa using e3)⟩⟩)
  ·have e3':nb - 1≠1:=by simpa using e3
   have l:Hi1 a b lim none na (nb - 1) (out.push q):=⟨rfl,hM',h1,(by lia),(by lia),h4,Nat.le_trans (Nat.sub_le _ _) h5⟩
   refine zah e3 ?_
   split
   ·exact wpS_pure ⟨rfl,.inr l⟩
   ·exact wpS_pure ⟨rfl,l⟩
theorem zfa (hk:kindOf st=oneType') (ha:∀ p∈a.toList,IntK p) (hb:∀ p∈b.toList,IntK p) (sa:Sr a.toList) (sb:Sr b.toList) (eb:b[0]? = some b0) (h0:∀ y∈a.toList,key b0 < key y)
  {mg ac bc na nb:Nat} {out:Array Keyed} (hG:SameG st st2) (hM:MH a.toList b.toList out.reverse.toList na nb) (h1:0 < na) (h2:1 < nb) (h3:na + nb≤lim) (h4:na≤a.size) (h5:nb≤b.size) :
  wpS (model prog w) X E s (hiT0 a b mg ac bc na nb out) (fun r st'=>match r with | .done c'=>HiE a b st lim c' st' | .yield c'=>HiQ a b st lim c' st') st2:=by
 obtain⟨q,eq1,eq2⟩:=zay (a:=b) (i:=nb - 1) (by lia)
 refine wpS_bind (zar eq1 (wpS_bind (zdQ (hG.kind.trans hk) (hb q (List.mem_of_getElem? eq2)) ha sa (by lia) (Nat.sub_one_lt_of_lt h1) fun m hm1 hA1 hA2=>?_)))
 simp only [Bool.false_eq_true,if_false,Nat.zero_add] at hA1 hA2
 have rest:∀ x∈a.toList.take m,key x≤key q:=fun x hx=>by
  obtain⟨j,hj,ej⟩:=zbC hx
  exact hA1 j x hj (by rw [← Array.getElem?_toList];exact ej)
 by_cases hk0:na - m > 0
 ·refine zai hk0 ?_
  have hM3:MH a.toList b.toList (out ++ (a.extract m na).reverse).reverse.toList m nb:=by
   have z:=hM.manyA sa hm1 (fun x hx y hy=>by
    obtain⟨j,hj,ej⟩:=zaC hy
    have z1:=hA2 (m + j) y (Nat.le_add_right m j) (by lia) (by rw [← Array.getElem?_toList];exact ej)
    obtain⟨i,hi,ei⟩:=zbC hx
    exact Int.le_trans (sb.get (i:=i) (j:=nb - 1) (Nat.le_sub_one_of_lt hi) ei eq2) (Int.le_of_lt z1))
   simpa [List.extract_eq_take_drop] using z
  by_cases e4:(m == 0)=true
  ·exact zai e4 (wpS_pure ⟨hG,.inl ⟨_,rfl,zfz sa sb hM3 (by simpa using e4)⟩⟩)
  ·exact zah e4 (wpS_mono (ze9 (lim:=lim) hk ha hb sa sb eb h0 hG hM3 eq1 (Nat.pos_of_ne_zero (by simpa using e4)) h2 (by lia) (Nat.le_trans hm1 h4) h5 rest) fun r st' z=>by cases r <;> exact z)
 ·have e:m=na:=by lia
  subst e
  exact zah hk0 (wpS_mono (ze9 (lim:=lim) hk ha hb sa sb eb h0 hG hM eq1 h1 h2 h3 h4 h5 rest) fun r st' z=>by cases r <;> exact z)
theorem zeE {Q:Array Keyed→SortSt→Prop} (hk:kindOf st=oneType') (ha:∀ p∈a.toList,IntK p) (hb:∀ p∈b.toList,IntK p) (sa:Sr a.toList) (sb:Sr b.toList)
  (na0:0 < a.size) (nb0:0 < b.size) (h0':∀ q,b[0]? = some q→∀ y∈a.toList,key q < key y) (hl:∀ p,a[a.size - 1]? = some p→∀ x∈b.toList,key x < key p)
  (h:∀ (M:Array Keyed) st',SameG st st'→Good a.toList b.toList M.toList→Q M st'):wpS (model prog w) X E s (zhr a b) Q st:=by
 obtain⟨la,ela,ela'⟩:=zay (a:=a) (i:=a.size - 1) (by lia)
 have hlast:=hl la ela
 obtain⟨b0,eb,eb'⟩:=zay (a:=b) (i:=0) nb0
 have h0:=h0' b0 eb
 refine wpS_bind (wpS_lift (wpAny_rule ⟨rfl,?_⟩))
 refine wpS_bind (zar ela ?_)
 have M0:MH a.toList b.toList (#[la]:Array Keyed).reverse.toList (a.size - 1) b.size:=by
  have z:MH a.toList b.toList (#[]:Array Keyed).reverse.toList a.size b.size:=by
   have e:(#[]:Array Keyed).reverse.toList=[]:=by simp
   rw [e]
   refine ⟨?_,List.Pairwise.nil,(fun x _ y hy=>by cases hy),(fun x _ y hy=>by cases hy)⟩
   rw [List.drop_eq_nil_of_le (by simp),List.drop_eq_nil_of_le (by simp)]
   exact List.Perm.refl _
  exact zit sa z na0 ela fun x hx=>Int.le_of_lt (hlast x (List.mem_of_mem_take hx))
 by_cases e1:(a.size - 1 == 0)=true
 ·exact zai e1 (wpS_pure (h _ _ (.refl _) (zfz sa sb M0 (by simpa using e1))))
 refine zah e1 ?_
 have e1':a.size - 1≠0:=by simpa using e1
 by_cases e2:(b.size == 1)=true
 ·exact zai e2 (wpS_pure (h _ _ (.refl _) (zfy sa sb eb h0 M0 (by simpa using e2))))
 refine zah e2 ?_
 have e2':b.size≠1:=by simpa using e2
 refine wpS_bind (wpS_get ?_)
 refine wpS_bind (wpS_mono (wpS_forRange (a:=0) (b:=a.size + b.size)
  (I:=fun x c st'=>SameG st st'∧Hi1 a b (a.size + b.size - x - 1) c.1 c.2.1 c.2.2.1 c.2.2.2.1)
  (Q:=fun c st'=>SameG st st'∧∃ M:Array Keyed,c.1=some M∧Good a.toList b.toList M.toList) ?step ?fin ?init) ?post)
 case init=>exact⟨.refl _,rfl,M0,Nat.pos_of_ne_zero e1',Nat.lt_of_le_of_ne nb0 (Ne.symm e2'),(by dsimp only;lia),Nat.sub_le _ _,Nat.le_refl _⟩
 case fin =>
  rintro ⟨r,na,nb,out,mg⟩ st' ⟨hG,e,hM,h1,h2,h3,_⟩
  dsimp only at h1 h2 h3
  lia
 case post =>
  rintro ⟨r,na,nb,out,mg⟩ st' ⟨hG,M,e,hM⟩
  cases (show r=some M from e)
  exact wpS_pure (h _ _ hG hM)
 case step =>
  rintro x ⟨r,na,nb,out,mg⟩ st1 _ hx ⟨hG,e,hM,h1,h2,h3,h4⟩
  cases (show r=none from e)
  refine wpS_bind (wpS_mono (wpS_forRange (a:=0) (b:=a.size + b.size)
   (I:=fun y c st'=>st'=st1∧Hi1 a b (na + nb - y) c.1 c.2.1 c.2.2.1 c.2.2.2.1)
   (Q:=fun c st'=>st'=st1∧((∃ M:Array Keyed,c.1=some M∧Good a.toList b.toList M.toList)∨Hi1 a b (na + nb - 1) c.1 c.2.1 c.2.2.1 c.2.2.2.1)) ?istep ?ifin ?iinit) ?ipost)
  case iinit=>exact⟨rfl,rfl,hM,h1,h2,Nat.le_refl _,h4⟩
  case ifin=>exact fun c st' hc=>⟨hc.1,.inr (hc.2.mono (by lia))⟩
  case istep =>
   rintro y ⟨r,na',nb',out,ac,bc⟩ st' _ hy ⟨rfl,e,hM,h1,h2,h3,h4,h5⟩
   cases (show r=none from e)
   exact wpS_mono (zif (lim:=na + nb - y - 1) (hG.kind.trans hk) ha hb sa sb eb h0 hM h1 h2 (by dsimp only at h3 ⊢;lia) h4 h5) fun r st' z=>by
    cases r with
    | done c=>exact⟨z.1,z.2.imp id fun z=>z.mono (by lia)⟩
    | yield c=>exact z
  case ipost =>
   rintro ⟨r,na1,nb1,out1,ac1,bc1⟩ st' ⟨rfl,⟨M,e,hgood⟩ | ⟨e,hM1,g⟩⟩
   ·cases (show r=some M from e)
    exact wpS_pure ⟨hG,M,rfl,hgood⟩
   cases (show r=none from e)
   refine wpS_bind (wpS_lift (wpAny_rule ⟨rfl,?_⟩))
   refine wpS_bind (wpS_mono (wpS_forRange (a:=0) (b:=a.size + b.size) (I:=fun _ c st'=>HiQ a b st (na + nb - 1) c st') (Q:=fun c st'=>HiE a b st (na + nb - 1) c st') ?jstep ?jfin ?jinit) ?jpost)
   case jinit=>exact⟨hG,rfl,hM1,g⟩
   case jfin=>exact fun c st' hc=>⟨hc.1,.inr hc.2⟩
   case jpost =>
    rintro ⟨r,na2,nb2,out2,mg2,ac2,bc2⟩ st2 ⟨hG2,⟨M,e,hgood⟩ | ⟨e,hM2,k1,k2,k3,k4⟩⟩
    ·cases (show r=some M from e)
     exact wpS_pure ⟨hG2,M,rfl,hgood⟩
    ·cases (show r=none from e)
     exact wpS_bind (wpS_modify (wpS_pure ⟨hG2.set _,rfl,hM2,k1,k2,Nat.le_trans k3 (Nat.sub_le_sub_right h3 1),k4⟩))
   case jstep =>
    rintro y ⟨r,na2,nb2,out2,mg2,ac2,bc2⟩ st2 _ hy ⟨hG2,e,hM2,k1,k2,k3,k4,k5⟩
    cases (show r=none from e)
    by_cases hmg:mg2 > 1
    ·exact zai hmg (wpS_bind (wpS_modify (wpS_mono (zfa hk ha hb sa sb eb h0 (hG2.set _) hM2 k1 k2 k3 k4 k5) fun r st' z=>by cases r <;> exact z)))
    ·exact zah hmg (wpS_bind (wpS_modify (wpS_mono (zfa hk ha hb sa sb eb h0 (hG2.set _) hM2 k1 k2 k3 k4 k5) fun r st' z=>by cases r <;> exact z)))
end
end Srt
namespace Srt
open PySem PyProof.Rows
variable [SK]
structure SB (a₀:Array Keyed) (st:SortSt):Prop where
 perm:(arrOf st).Perm a₀
 kind:kindOf st=oneType'
 failed:failedOf st=none
theorem SB.size {a₀:Array Keyed} {st:SortSt} (h:SB a₀ st):(arrOf st).size=a₀.size:=h.perm.size_eq
theorem SB.setArr {a₀:Array Keyed} {st:SortSt} (h:SB a₀ st) {xs:Array Keyed} (hp:xs.Perm (arrOf st)):SB a₀ (setArr st xs):=⟨hp.trans h.perm,h.kind,h.failed⟩
theorem SB.int {a₀:Array Keyed} {st:SortSt} (h:SB a₀ st) (h0:za7 a₀):∀ p∈(arrOf st).toList,IntK p:=fun p hp=>h0 p ((Array.perm_iff_toList_perm.mp h.perm).mem_iff.mp hp)
theorem SB.at {a₀:Array Keyed} {st:SortSt} (h:SB a₀ st) (h0:za7 a₀) {i:Nat} (hi:i < a₀.size):∃ p,(arrOf st)[i]? = some p∧IntK p∧K (arrOf st) i=key p:=by
 obtain⟨p,e1,e2⟩:=zay (a:=arrOf st) (i:=i) (by rw [h.size];exact hi)
 exact⟨p,e1,h.int h0 p (List.mem_of_getElem? e2),by unfold K;rw [e1]⟩
def SIn (xs:Array Keyed) (lo n:Nat):Prop:=∀ i j,i≤j→j < n→K xs (lo + i)≤K xs (lo + j)
def NIn (xs:Array Keyed) (lo n:Nat):Prop:=∀ i j,i≤j→j < n→K xs (lo + j)≤K xs (lo + i)
structure Kept (lo:Nat) (st st':SortSt):Prop where
 keys:∀ k,k < lo→K (arrOf st') k=K (arrOf st) k
 pend:pendingOf st'=pendingOf st
theorem Kept.refl (lo:Nat) (st:SortSt):Kept lo st st:=⟨fun _ _=>rfl,rfl⟩
theorem Kept.trans {lo:Nat} {st st1 st2:SortSt} (a:Kept lo st st1) (b:Kept lo st1 st2):Kept lo st st2:=⟨fun k h=>(b.keys k h).trans (a.keys k h),b.pend.trans a.pend⟩
theorem Kept.mirror {lo:Nat} {st:SortSt} {i j:Nat} (hi:lo≤i) (hj:j≤(arrOf st).size):Kept lo st (setArr st (mirror (arrOf st) i j ((j - i) / 2))):=
 ⟨fun k h=>by
  show K (PyProof.Rows.mirror (arrOf st) i j ((j - i) / 2)) k=_
  rw [zcG hj,if_neg (by lia)],rfl⟩
noncomputable def zgU:Nat→Nat→StateT SortSt Sem (Option Nat):=sortPriv% PySem.Builtin.countRun
noncomputable def ze2:Nat→Nat→Nat→StateT SortSt Sem Bool:=sortPriv% PySem.Builtin.binarySort
section
variable {prog:Program} {w:World} {X:Around} {E:Value→Shared→Prop} {s:Shared} [SKL prog w X E s] {a₀:Array Keyed}
theorem zcr {st:SortSt} {i j:Nat} {Q:Option Bool→SortSt→Prop} (hB:SB a₀ st) (h0:za7 a₀) (hi:i < a₀.size) (hj:j < a₀.size) (h:Q (some (decide (K (arrOf st) i < K (arrOf st) j))) st) :
  wpS (model prog w) X E s (ltAt' i j) Q st:=by
 obtain⟨p,e1,hp,k1⟩:=hB.at h0 hi
 obtain⟨q,e2,hq,k2⟩:=hB.at h0 hj
 rw [k1,k2] at h
 rw [ltAt'_eq]
 exact wpS_bind (wpS_get (wpS_bind (zar e1 (wpS_bind (zar e2 (zee hB.kind hp hq h))))))
theorem zgc {st:SortSt} {lo a nrem:Nat} (h0:za7 a₀) (hB:SB a₀ st) (hn:lo + nrem≤a₀.size) (ha:1≤a) (han:a≤nrem) (hs:SIn (arrOf st) lo a) :
  wpS (model prog w) X E s (forIn [a:nrem] ((none,a):Option (Option Nat)×Nat) fun _ c=>ltAt' (lo + c.2) (lo + c.2 - 1) >>= fun r=>match r with
   | some smaller=>if smaller=true then pure (ForInStep.done (none,c.2)) else pure (ForInStep.yield (none,c.2 + 1))
   | _=>pure (ForInStep.done (some none,c.2)))
   (fun c st'=>st'=st∧∃ n,c=(none,n)∧a≤n∧n≤nrem∧SIn (arrOf st) lo n∧(n=nrem∨K (arrOf st) (lo + n) < K (arrOf st) (lo + n - 1))) st:=by
 refine wpS_forRange (I:=fun x c st'=>st'=st∧c=(none,x)∧SIn (arrOf st) lo x) ?step ?fin ⟨rfl,rfl,hs⟩
 case fin =>
  rintro c st' ⟨rfl,rfl,hs'⟩
  rw [show max a nrem=nrem by lia] at hs' ⊢
  exact⟨rfl,nrem,rfl,han,Nat.le_refl _,hs',.inl rfl⟩
 case step =>
  rintro x c st' hax hxn ⟨rfl,rfl,hs'⟩
  dsimp only
  refine wpS_bind (zcr hB h0 (by lia) (by lia) ?_)
  by_cases hless:K (arrOf st') (lo + x) < K (arrOf st') (lo + x - 1)
  ·simp only [hless,decide_true,if_true]
   exact wpS_pure ⟨rfl,x,rfl,hax,(by lia),hs',.inr hless⟩
  ·simp only [hless,decide_false,Bool.false_eq_true,if_false]
   refine wpS_pure ⟨rfl,rfl,fun i j hij hj=>?_⟩
   by_cases hjx:j < x
   ·exact hs' i j hij hjx
   ·have hj':j=x:=by lia
    subst hj'
    by_cases hi':i=j
    ·subst hi';exact Int.le_refl _
    ·have z:=hs' i (j - 1) (by lia) (by lia)
     rw [show lo + (j - 1)=lo + j - 1 by lia] at z
     exact Int.le_trans z (Int.not_lt.mp hless)
theorem zfd {st:SortSt} {lo n nrem:Nat} (h0:za7 a₀) (hB:SB a₀ st) (hn:lo + nrem≤a₀.size) (h1:1≤n) (hnn:n≤nrem) (hs:NIn (arrOf st) lo n) :
  wpS (model prog w) X E s (forIn [n:nrem] ((none,n,0):Option (Option Nat)×Nat×Nat) fun _ c=>ltAt' (lo + c.2.1) (lo + c.2.1 - 1) >>= fun r=>match r with
   | some smaller =>
    if smaller=true then
     (if c.2.2 > 0 then reverseSlice' (lo + c.2.1 - (c.2.2 + 1)) (lo + c.2.1) >>= fun _=>pure (ForInStep.yield (none,c.2.1 + 1,0)) else pure (ForInStep.yield (none,c.2.1 + 1,0)))
    else ltAt' (lo + c.2.1 - 1) (lo + c.2.1) >>= fun r=>match r with
     | some larger=>if larger=true then pure (ForInStep.done (none,c.2.1,c.2.2)) else pure (ForInStep.yield (none,c.2.1 + 1,c.2.2 + 1))
     | _=>pure (ForInStep.done (some none,c.2.1,c.2.2))
   | _=>pure (ForInStep.done (some none,c.2.1,c.2.2)))
   (fun c st'=>∃ m neq,c=(none,m,neq)∧SB a₀ st'∧Kept lo st st'∧n≤m∧m≤nrem∧NIn (arrOf st') lo m∧neq + 1≤m∧(∀ i,m - (neq + 1)≤i→i < m→K (arrOf st') (lo + i)=K (arrOf st') (lo + (m - 1)))) st:=by
 refine wpS_forRange (I:=fun x c st'=>∃ neq,c=(none,x,neq)∧SB a₀ st'∧Kept lo st st'∧NIn (arrOf st') lo x∧neq + 1≤x ∧
   (∀ i,x - (neq + 1)≤i→i < x→K (arrOf st') (lo + i)=K (arrOf st') (lo + (x - 1)))) ?step ?fin ⟨0,rfl,hB,.refl _ _,hs,by lia,fun i h1 h2=>by congr 1;lia⟩
 case fin =>
  rintro c st' ⟨neq,rfl,hB',hK,hs',hq,he⟩
  rw [show max n nrem=nrem by lia] at hs' hq he ⊢
  exact⟨nrem,neq,rfl,hB',hK,hnn,Nat.le_refl _,hs',hq,he⟩
 case step =>
  rintro x c st' hax hxn ⟨neq,rfl,hB',hK,hs',hq,he⟩
  dsimp only
  have hsz:lo + x≤(arrOf st').size:=by rw [hB'.size];lia
  have ex:lo + (x - 1)=lo + x - 1:=by lia
  refine wpS_bind (zcr hB' h0 (by lia) (by lia) ?_)
  by_cases hless:K (arrOf st') (lo + x) < K (arrOf st') (lo + x - 1)
  ·simp only [hless,decide_true,if_true]
   have step1:∀ xs:Array Keyed,(∀ k,K xs k=K (arrOf st') k)→NIn xs lo (x + 1):=by
    intro xs hk i j hij hj
    rw [hk,hk]
    by_cases hjx:j < x
    ·exact hs' i j hij hjx
    ·have hj':j=x:=by lia
     subst hj'
     by_cases hi':i=j
     ·subst hi';exact Int.le_refl _
     ·have z:=hs' i (j - 1) (by lia) (by lia)
      rw [ex] at z
      exact Int.le_trans (Int.le_of_lt hless) z
   by_cases hneq:neq > 0
   ·refine zai hneq ?_
    have hm:∀ k,K (mirror (arrOf st') (lo + x - (neq + 1)) (lo + x) ((lo + x - (lo + x - (neq + 1))) / 2)) k=K (arrOf st') k:=zfM hsz fun k h1 h2=>by
     have z:=he (k - lo) (by lia) (by lia)
     rw [ex,show lo + (k - lo)=k by lia] at z
     exact z
    refine wpS_bind (wpS_reverse (wpS_pure ⟨0,rfl,hB'.setArr (mirror_perm _ _ _ _),hK.trans (.mirror (by lia) hsz),step1 _ hm,by lia,fun i h1 h2=>by congr 1;lia⟩))
   ·refine zah hneq ?_
    exact wpS_pure ⟨0,rfl,hB',hK,step1 _ (fun _=>rfl),by lia,fun i h1 h2=>by congr 1;lia⟩
  ·simp only [hless,decide_false,Bool.false_eq_true,if_false]
   refine wpS_bind (zcr hB' h0 (by lia) (by lia) ?_)
   by_cases hlarger:K (arrOf st') (lo + x - 1) < K (arrOf st') (lo + x)
   ·simp only [hlarger,decide_true,if_true]
    exact wpS_pure ⟨x,neq,rfl,hB',hK,hax,(by lia),hs',hq,he⟩
   ·simp only [hlarger,decide_false,Bool.false_eq_true,if_false]
    have heqx:K (arrOf st') (lo + x)=K (arrOf st') (lo + (x - 1)):=by rw [ex];lia
    refine wpS_pure ⟨neq + 1,rfl,hB',hK,fun i j hij hj=>?_,by lia,fun i h1 h2=>?_⟩
    ·by_cases hjx:j < x
     ·exact hs' i j hij hjx
     ·have hj':j=x:=by lia
      subst hj'
      by_cases hi':i=j
      ·subst hi';exact Int.le_refl _
      ·rw [heqx];exact hs' i (j - 1) (by lia) (by lia)
    ·rw [show x + 1 - 1=x by lia]
     by_cases hix:i=x
     ·subst hix;rfl
     ·rw [heqx];exact he i (by lia) (by lia)
theorem zfc {st:SortSt} {lo n nrem:Nat} {Q:Option Nat→SortSt→Prop} (h0:za7 a₀) (hB:SB a₀ st) (hn:lo + nrem≤a₀.size) (hnn:n + 1≤nrem) (hs:NIn (arrOf st) lo (n + 1))
  (h:∀ m st',SB a₀ st'→Kept lo st st'→1≤m→m≤nrem→SIn (arrOf st') lo m→Q (some m) st')
  {Dloop:StateT SortSt Sem (Option (Option Nat)×Nat×Nat)}
  (hD:wpS (model prog w) X E s Dloop (fun c st'=>∃ m neq,c=(none,m,neq)∧SB a₀ st'∧Kept lo st st'∧n + 1≤m∧m≤nrem∧NIn (arrOf st') lo m∧neq + 1≤m∧(∀ i,m - (neq + 1)≤i→i < m→K (arrOf st') (lo + i)=K (arrOf st') (lo + (m - 1)))) st)
  {rest:Option (Option Nat)×Nat×Nat→StateT SortSt Sem (Option Nat)}
  (hrest:∀ m neq,rest (none,m,neq)=(if neq > 0 then reverseSlice' (lo + m - (neq + 1)) (lo + m) >>= fun _=>reverseSlice' lo (lo + m) >>= fun _=>(forIn [m:nrem] ((none,m):Option (Option Nat)×Nat) fun _ c=>ltAt' (lo + c.2) (lo + c.2 - 1) >>= fun r=>match r with
    | some smaller=>if smaller=true then pure (ForInStep.done (none,c.2)) else pure (ForInStep.yield (none,c.2 + 1))
    | _=>pure (ForInStep.done (some none,c.2))) >>= fun c=>(match c.1 with | some r=>pure r | none=>pure (some c.2))
   else reverseSlice' lo (lo + m) >>= fun _=>(forIn [m:nrem] ((none,m):Option (Option Nat)×Nat) fun _ c=>ltAt' (lo + c.2) (lo + c.2 - 1) >>= fun r=>match r with
    | some smaller=>if smaller=true then pure (ForInStep.done (none,c.2)) else pure (ForInStep.yield (none,c.2 + 1))
    | _=>pure (ForInStep.done (some none,c.2))) >>= fun c=>(match c.1 with | some r=>pure r | none=>pure (some c.2)))) :
  wpS (model prog w) X E s (Dloop >>= rest) Q st:=by
 refine wpS_bind (wpS_mono hD ?_)
 rintro c st1 ⟨m,neq,rfl,hB1,hK1,hm1,hm2,hs1,hq,he⟩
 rw [hrest]
 have hsz:lo + m≤(arrOf st1).size:=by rw [hB1.size];lia
 have fin:∀ st2,SB a₀ st2→Kept lo st st2→NIn (arrOf st2) lo m→wpS (model prog w) X E s (reverseSlice' lo (lo + m) >>= fun _=>(forIn [m:nrem] ((none,m):Option (Option Nat)×Nat) fun _ c=>ltAt' (lo + c.2) (lo + c.2 - 1) >>= fun r=>match r with
    | some smaller=>if smaller=true then pure (ForInStep.done (none,c.2)) else pure (ForInStep.yield (none,c.2 + 1))
    | _=>pure (ForInStep.done (some none,c.2))) >>= fun c=>(match c.1 with | some r=>pure r | none=>pure (some c.2))) Q st2:=by
  intro st2 hB2 hK2 hs2
  have hsz2:lo + m≤(arrOf st2).size:=by rw [hB2.size];lia
  refine wpS_bind (wpS_reverse ?_)
  have hB3:SB a₀ (setArr st2 (mirror (arrOf st2) lo (lo + m) ((lo + m - lo) / 2))):=hB2.setArr (mirror_perm _ _ _ _)
  have hK3:Kept lo st (setArr st2 (mirror (arrOf st2) lo (lo + m) ((lo + m - lo) / 2))):=hK2.trans (.mirror (Nat.le_refl _) hsz2)
  refine wpS_bind (wpS_mono (zgc h0 hB3 hn (by lia) hm2 ?_) ?_)
  ·intro i j hij hj
   show K (mirror (arrOf st2) lo (lo + m) ((lo + m - lo) / 2)) (lo + i)≤K (mirror (arrOf st2) lo (lo + m) ((lo + m - lo) / 2)) (lo + j)
   rw [zcG hsz2,zcG hsz2,if_pos (by lia),if_pos (by lia)]
   have z:=hs2 (m - 1 - j) (m - 1 - i) (by lia) (by lia)
   rw [show lo + (m - 1 - i)=lo + (lo + m) - 1 - (lo + i) by lia,show lo + (m - 1 - j)=lo + (lo + m) - 1 - (lo + j) by lia] at z
   exact z
  ·rintro c st4 ⟨rfl,n4,rfl,g1,g2,g3,_⟩
   exact wpS_pure (h n4 _ hB3 hK3 (by lia) g2 g3)
 by_cases hneq:neq > 0
 ·refine zai hneq ?_
  refine wpS_bind (wpS_reverse ?_)
  refine fin _ (hB1.setArr (mirror_perm _ _ _ _)) (hK1.trans (.mirror (by lia) hsz)) ?_
  intro i j hij hj
  have hm:∀ k,K (mirror (arrOf st1) (lo + m - (neq + 1)) (lo + m) ((lo + m - (lo + m - (neq + 1))) / 2)) k=K (arrOf st1) k:=zfM hsz fun k h1 h2=>by
   have z:=he (k - lo) (by lia) (by lia)
   rw [show lo + (m - 1)=lo + m - 1 by lia,show lo + (k - lo)=k by lia] at z
   exact z
  show K (mirror (arrOf st1) _ _ _) (lo + j)≤K (mirror (arrOf st1) _ _ _) (lo + i)
  rw [hm,hm]
  exact hs1 i j hij hj
 ·refine zah hneq ?_
  exact fin st1 hB1 hK1 hs1
theorem zdR {st:SortSt} {lo nrem:Nat} {Q:Option Nat→SortSt→Prop} (h0:za7 a₀) (hB:SB a₀ st) (hn:lo + nrem≤a₀.size) (h1:1≤nrem)
  (h:∀ m st',SB a₀ st'→Kept lo st st'→1≤m→m≤nrem→SIn (arrOf st') lo m→Q (some m) st') :
  wpS (model prog w) X E s (zgU lo nrem) Q st:=by
 refine wpS_bind (wpS_mono (zgc h0 hB hn (Nat.le_refl 1) h1 (fun i j hij hj=>by
  have:i=j:=by lia
  subst this
  exact Int.le_refl _)) ?_)
 rintro c st' ⟨rfl,n,rfl,hn1,hn2,hsn,hor⟩
 dsimp only
 by_cases hnn:n=nrem
 ·refine zai (by simpa using hnn) ?_
  exact wpS_pure (h n _ hB (.refl _ _) hn1 hn2 hsn)
 ·refine zah (by simpa using hnn) ?_
  have hlt:K (arrOf st') (lo + n) < K (arrOf st') (lo + n - 1):=hor.resolve_left hnn
  by_cases hgt:n > 1
  ·refine zai hgt ?_
   refine wpS_bind (zcr hB h0 (by lia) (by lia) ?_)
   by_cases hrose:K (arrOf st') lo < K (arrOf st') (lo + n - 1)
   ·simp only [hrose,decide_true,if_true]
    exact wpS_pure (h n _ hB (.refl _ _) hn1 hn2 hsn)
   ·simp only [hrose,decide_false,Bool.false_eq_true,if_false]
    have hsz:lo + n≤(arrOf st').size:=by rw [hB.size];lia
    have hall:∀ k,lo≤k→k < lo + n→K (arrOf st') k=K (arrOf st') (lo + n - 1):=by
     intro k hk1 hk2
     have a1:=hsn 0 (k - lo) (by lia) (by lia)
     have a2:=hsn (k - lo) (n - 1) (by lia) (by lia)
     rw [show lo + 0=lo by lia,show lo + (k - lo)=k by lia] at a1
     rw [show lo + (k - lo)=k by lia,show lo + (n - 1)=lo + n - 1 by lia] at a2
     lia
    refine wpS_bind (wpS_reverse ?_)
    refine wpS_bind (wpS_lift (wpAny_rule ⟨rfl,?_⟩))
    have hB2:SB a₀ (setArr st' (mirror (arrOf st') lo (lo + n) ((lo + n - lo) / 2))):=hB.setArr (mirror_perm _ _ _ _)
    have hK2:Kept lo st' (setArr st' (mirror (arrOf st') lo (lo + n) ((lo + n - lo) / 2))):=.mirror (Nat.le_refl _) hsz
    have hN2:NIn (arrOf (setArr st' (mirror (arrOf st') lo (lo + n) ((lo + n - lo) / 2)))) lo (n + 1):=by
     intro i j hij hj
     show K (mirror (arrOf st') _ _ _) (lo + j)≤K (mirror (arrOf st') _ _ _) (lo + i)
     rw [zfM hsz hall,zfM hsz hall]
     by_cases hjn:j < n
     ·rw [hall (lo + i) (by lia) (by lia),hall (lo + j) (by lia) (by lia)];exact Int.le_refl _
     ·have hj':j=n:=by lia
      subst hj'
      by_cases hi':i=j
      ·subst hi';exact Int.le_refl _
      ·rw [hall (lo + i) (by lia) (by lia)];exact Int.le_of_lt hlt
    exact zfc h0 hB2 hn (by lia) hN2 (fun m st3 g1 g2 g3 g4 g5=>h m st3 g1 (hK2.trans g2) g3 g4 g5) (zfd h0 hB2 hn (by lia) (by lia) hN2) fun m neq=>by
     dsimp only
     split
     ·congr 1;funext _;congr 1;funext _;congr 1;funext c;obtain⟨r,k⟩:=c;cases r <;> rfl
     ·congr 1;funext _;congr 1;funext c;obtain⟨r,k⟩:=c;cases r <;> rfl
  ·refine zah hgt ?_
   have hn1':n=1:=by lia
   subst hn1'
   refine wpS_bind (wpS_lift (wpAny_rule ⟨rfl,?_⟩))
   have hN2:NIn (arrOf st') lo (1 + 1):=by
    intro i j hij hj
    by_cases hi':i=j
    ·subst hi';exact Int.le_refl _
    ·have hi0:i=0:=by lia
     have hj1:j=1:=by lia
     subst hi0;subst hj1
     rw [show lo + 1 - 1=lo + 0 by lia] at hlt
     exact Int.le_of_lt hlt
   exact zfc h0 hB hn (by lia) hN2 (fun m st3 g1 g2 g3 g4 g5=>h m st3 g1 g2 g3 g4 g5) (zfd h0 hB hn (by lia) (by lia) hN2) fun m neq=>by
     dsimp only
     split
     ·congr 1;funext _;congr 1;funext _;congr 1;funext c;obtain⟨r,k⟩:=c;cases r <;> rfl
     ·congr 1;funext _;congr 1;funext c;obtain⟨r,k⟩:=c;cases r <;> rfl
end
end Srt
namespace Srt
open PySem PyProof.Rows
variable [SK]
section
variable {prog:Program} {w:World} {X:Around} {E:Value→Shared→Prop} {s:Shared} [SKL prog w X E s] {a₀:Array Keyed}
theorem zc6 {st:SortSt} {lo n ok:Nat} {Q:Bool→SortSt→Prop} (h0:za7 a₀) (hB:SB a₀ st) (hn:lo + n≤a₀.size) (hok:ok≤n) (hs:SIn (arrOf st) lo ok)
  (h:∀ st',SB a₀ st'→Kept lo st st'→SIn (arrOf st') lo n→Q true st'):wpS (model prog w) X E s (ze2 lo n ok) Q st:=by
 refine wpS_bind (wpS_mono (wpS_forRange (I:=fun k c st'=>c=(none,())∧SB a₀ st'∧Kept lo st st'∧SIn (arrOf st') lo (min k n))
  (Q:=fun c st'=>c=(none,())∧SB a₀ st'∧Kept lo st st'∧SIn (arrOf st') lo n) ?step ?fin ?init) ?post)
 case post =>
  rintro c st' ⟨rfl,hB',hK',hs'⟩
  exact wpS_pure (h st' hB' hK' hs')
 case init =>
  refine ⟨rfl,hB,.refl _ _,fun i j hij hj=>?_⟩
  by_cases h1:ok=0
  ·have:i=j:=by lia
   subst this;exact Int.le_refl _
  ·exact hs i j hij (by lia)
 case fin =>
  rintro c st' ⟨hc,hB',hK',hs'⟩
  refine ⟨hc,hB',hK',?_⟩
  rwa [show min (max (max ok 1) n) n=n by lia] at hs'
 case step =>
  rintro k c st' hak hkn ⟨rfl,hB',hK',hs'⟩
  rw [show min k n=k by lia] at hs'
  refine wpS_bind (wpS_mono (wpS_forRange (I:=fun x c st''=>st''=st'∧∃ l r,c=(none,l,r)∧l≤r∧r≤k∧r - l≤k - x ∧
    (∀ i,i < l→K (arrOf st') (lo + i)≤K (arrOf st') (lo + k))∧(∀ i,r≤i→i < k→K (arrOf st') (lo + k) < K (arrOf st') (lo + i)))
   (Q:=fun c st''=>st''=st'∧∃ l r,c=(none,l,r)∧l≤k ∧
    (∀ i,i < l→K (arrOf st') (lo + i)≤K (arrOf st') (lo + k))∧(∀ i,l≤i→i < k→K (arrOf st') (lo + k) < K (arrOf st') (lo + i))) ?istep ?ifin ?iinit) ?ipost)
  case iinit=>exact⟨rfl,0,k,rfl,by lia,by lia,by lia,fun i hi=>by lia,fun i h1 h2=>by lia⟩
  case ifin =>
   rintro c st'' ⟨rfl,l,r,rfl,hlr,hrk,hm,hlo,hhi⟩
   have:l=r:=by lia
   subst this
   exact⟨rfl,l,l,rfl,hrk,hlo,hhi⟩
  case istep =>
   rintro x c st'' _ hxk ⟨rfl,l,r,rfl,hlr,hrk,hm,hlo,hhi⟩
   dsimp only
   by_cases hge:l≥r
   ·refine zai hge ?_
    have:l=r:=by lia
    subst this
    exact wpS_pure ⟨rfl,l,l,rfl,hrk,hlo,hhi⟩
   ·refine zah hge ?_
    refine wpS_bind (zcr hB' h0 (by lia) (by lia) ?_)
    by_cases hless:K (arrOf st'') (lo + k) < K (arrOf st'') (lo + (l + r) / 2)
    ·simp only [hless,decide_true,if_true]
     refine wpS_pure ⟨rfl,l,(l + r) / 2,rfl,by lia,by lia,by lia,hlo,fun i h1 h2=>?_⟩
     exact Int.lt_of_lt_of_le hless (hs' _ _ h1 h2)
    ·simp only [hless,decide_false,Bool.false_eq_true,if_false]
     refine wpS_pure ⟨rfl,(l + r) / 2 + 1,r,rfl,by lia,by lia,by lia,fun i h1=>?_,hhi⟩
     exact Int.le_trans (hs' i ((l + r) / 2) (by lia) (by lia)) (Int.not_lt.mp hless)
  case ipost =>
   rintro c st'' ⟨rfl,l,r,rfl,hlk,hlo,hhi⟩
   dsimp only
   have hks:lo + k < (arrOf st'').size:=by rw [hB'.size];lia
   refine wpS_bind (m:=moveDown' (lo + k) (lo + l)) ?_
   rw [moveDown'_eq]
   have eK:∀ i,K (bubble (arrOf st'') (lo + k) (lo + k - (lo + l))) i=if i=lo + l then K (arrOf st'') (lo + k) else if lo + l < i∧i≤lo + k then K (arrOf st'') (i - 1) else K (arrOf st'') i:=fun i=>by
    rw [zh0 hks (by lia),show lo + k - (lo + k - (lo + l))=lo + l by lia]
   refine wpS_modify (wpS_pure ⟨rfl,hB'.setArr (bubble_perm _ _ _),hK'.trans ⟨fun i hi=>?_,rfl⟩,?_⟩)
   ·show K (bubble (arrOf st'') (lo + k) (lo + k - (lo + l))) i=_
    rw [eK,if_neg (by lia),if_neg (by lia)]
   ·rw [show min (k + 1) n=k + 1 by lia]
    intro i j hij hj
    show K (bubble (arrOf st'') (lo + k) (lo + k - (lo + l))) (lo + i)≤K (bubble (arrOf st'') (lo + k) (lo + k - (lo + l))) (lo + j)
    rw [eK,eK]
    by_cases c1:i < l
    ·rw [if_neg (by lia),if_neg (by lia)]
     by_cases c2:j < l
     ·rw [if_neg (by lia),if_neg (by lia)];exact hs' i j hij (by lia)
     ·by_cases c3:j=l
      ·rw [if_pos (by lia)];exact hlo i c1
      ·rw [if_neg (by lia),if_pos (by lia),show lo + j - 1=lo + (j - 1) by lia];exact hs' i (j - 1) (by lia) (by lia)
    ·by_cases c2:i=l
     ·rw [if_pos (by lia)]
      by_cases c3:j=l
      ·rw [if_pos (by lia)];exact Int.le_refl _
      ·rw [if_neg (by lia),if_pos (by lia),show lo + j - 1=lo + (j - 1) by lia];exact Int.le_of_lt (hhi (j - 1) (by lia) (by lia))
     ·rw [if_neg (by lia),if_pos (by lia),if_neg (by lia),if_pos (by lia),show lo + i - 1=lo + (i - 1) by lia,show lo + j - 1=lo + (j - 1) by lia]
      exact hs' (i - 1) (j - 1) (by lia) (by lia)
end
theorem zeV {α:Type} (sa:Nat):∀ (l:List α) (n:Nat) (xs:Array α) (i:Nat),sa + n + l.length≤xs.size →
  ((l.zipIdx n).foldl (fun a x=>match x with | (p,j)=>a.setIfInBounds (sa + j) p) xs)[i]? = if sa + n≤i∧i < sa + n + l.length then l[i - (sa + n)]? else xs[i]?
 | [],n,xs,i,_=>by
  rw [if_neg (by simp <;> lia)]
  rfl
 | p :: l,n,xs,i,h=>by
  rw [List.length_cons] at h
  rw [List.zipIdx_cons,List.foldl_cons,zeV sa l (n + 1) _ i (by simp;lia)]
  simp only [List.length_cons]
  by_cases h1:sa + (n + 1)≤i∧i < sa + (n + 1) + l.length
  ·rw [if_pos h1,if_pos (by lia),show i - (sa + n)=(i - (sa + (n + 1))) + 1 by lia,List.getElem?_cons_succ]
  ·rw [if_neg h1,Array.getElem?_setIfInBounds]
   by_cases h2:sa + n=i
   ·subst h2
    rw [if_pos rfl,if_pos (by lia),if_pos (by lia),Nat.sub_self,List.getElem?_cons_zero]
   ·rw [if_neg h2,if_neg (by lia)]
theorem zfr {α:Type} (sa:Nat):∀ (l:List α) (n:Nat) (xs:Array α),((l.zipIdx n).foldl (fun a x=>match x with | (p,j)=>a.setIfInBounds (sa + j) p) xs).size=xs.size
 | [],_,_=>rfl
 | p :: l,n,xs=>by
  rw [List.zipIdx_cons,List.foldl_cons,zfr sa l (n + 1)]
  simp
theorem zhs {α:Type} {sa:Nat} {l:List α} {xs:Array α} (h:sa + l.length≤xs.size) :
  (l.zipIdx.foldl (fun a x=>match x with | (p,j)=>a.setIfInBounds (sa + j) p) xs).toList=xs.toList.take sa ++ l ++ xs.toList.drop (sa + l.length):=by
 apply List.ext_getElem?
 intro i
 have hx:xs.toList.length=xs.size:=by simp
 rw [Array.getElem?_toList,zeV sa l 0 xs i (by lia)]
 simp only [Nat.add_zero]
 by_cases h1:i < sa
 ·rw [if_neg (by lia),List.append_assoc,List.getElem?_append_left (by rw [List.length_take];lia),List.getElem?_take_of_lt h1,Array.getElem?_toList]
 ·by_cases h2:i < sa + l.length
  ·rw [if_pos (by lia),List.append_assoc,List.getElem?_append_right (by rw [List.length_take];lia),List.getElem?_append_left (by rw [List.length_take];lia),List.length_take,show min sa xs.toList.length=sa by lia]
  ·rw [if_neg (by lia),List.getElem?_append_right (by rw [List.length_append,List.length_take];lia),List.length_append,List.length_take,show min sa xs.toList.length=sa by lia,List.getElem?_drop,Array.getElem?_toList]
   congr 1
   lia
theorem zcq {xs:Array Keyed} {lo n:Nat} (h:lo + n≤xs.size):SIn xs lo n↔Sr ((xs.toList.drop lo).take n):=by
 have hl:((xs.toList.drop lo).take n).length=n:=by rw [List.length_take,List.length_drop];simp;lia
 have kk:∀ i (hi:i < ((xs.toList.drop lo).take n).length),K xs (lo + i)=key ((xs.toList.drop lo).take n)[i]:=fun i hi=>by
  rw [hl] at hi
  obtain⟨p,e1,e2⟩:=zay (a:=xs) (i:=lo + i) (by lia)
  have e3:((xs.toList.drop lo).take n)[i]? = some p:=by rw [List.getElem?_take_of_lt hi,List.getElem?_drop];exact e2
  obtain⟨hi',e4⟩:=List.getElem?_eq_some_iff.mp e3
  rw [e4]
  unfold K
  rw [e1]
 constructor
 ·intro hs
  refine List.pairwise_iff_getElem.mpr fun i j hi hj hij=>?_
  rw [← kk i hi,← kk j hj]
  exact hs i j (by lia) (by lia)
 ·intro hs i j hij hj
  rw [kk i (by lia),kk j (by lia)]
  by_cases e:i=j
  ·subst e;exact Int.le_refl _
  ·exact List.pairwise_iff_getElem.mp hs i j (by lia) (by lia) (by lia)
end Srt
namespace Srt
open PySem PyProof.Rows
variable [SK]
noncomputable def zd1:Nat→StateT SortSt Sem Bool:=sortPriv% PySem.Builtin.mergeAt
noncomputable def Cov (xs:Array Keyed):Nat→List (Nat×Nat×Nat)→Nat→Prop
 | s,[],e=>s=e
 | s,(b,n,_) :: r,e=>b=s∧1≤n∧SIn xs b n∧Cov xs (s + n) r e
theorem Cov.le {xs:Array Keyed}:∀ {l:List (Nat×Nat×Nat)} {s e:Nat},Cov xs s l e→s + l.length≤e
 | [],s,e,h=>by
  have h':s=e:=h
  subst h'
  exact Nat.le_refl _
 | (b,n,p) :: r,s,e,h=>by
  obtain⟨_,h1,_,h2⟩:=h
  have:=Cov.le h2
  rw [List.length_cons]
  lia
theorem Cov.append {xs:Array Keyed}:∀ {l₁ l₂:List (Nat×Nat×Nat)} {s e:Nat},Cov xs s (l₁ ++ l₂) e↔∃ m,Cov xs s l₁ m∧Cov xs m l₂ e
 | [],l₂,s,e=>by
  constructor
  ·intro h;exact⟨s,rfl,h⟩
  ·rintro ⟨m,h1,h2⟩
   have h1':s=m:=h1
   subst h1'
   exact h2
 | (b,n,p) :: r,l₂,s,e=>by
  constructor
  ·rintro ⟨h1,h2,h3,h4⟩
   obtain⟨m,h5,h6⟩:=Cov.append.mp h4
   exact⟨m,⟨h1,h2,h3,h5⟩,h6⟩
  ·rintro ⟨m,⟨h1,h2,h3,h5⟩,h6⟩
   exact⟨h1,h2,h3,Cov.append.mpr ⟨m,h5,h6⟩⟩
theorem Cov.congr {xs ys:Array Keyed}:∀ {l:List (Nat×Nat×Nat)} {s e:Nat},(∀ k,s≤k→k < e→K ys k=K xs k)→Cov xs s l e→Cov ys s l e
 | [],_,_,_,h=>h
 | (b,n,p) :: r,s,e,hk,h=>by
  obtain⟨h1,h2,h3,h4⟩:=h
  have hle:=h4.le
  refine ⟨h1,h2,fun i j hij hj=>?_,Cov.congr (fun k a b=>hk k (by lia) b) h4⟩
  rw [hk _ (by lia) (by lia),hk _ (by lia) (by lia)]
  exact h3 i j hij hj
theorem zfW {α:Type} {p:Array α} {l₁ l₂:List α} {a b v:α} (h:p.toList=l₁ ++ a :: b :: l₂):((p.setIfInBounds l₁.length v).eraseIdxIfInBounds (l₁.length + 1)).toList=l₁ ++ v :: l₂:=by
 obtain⟨pl⟩:=p
 have h':pl=l₁ ++ a :: b :: l₂:=h
 subst h'
 rw [List.setIfInBounds_toArray,List.eraseIdxIfInBounds_toArray]
 show ((l₁ ++ a :: b :: l₂).set l₁.length v).eraseIdx (l₁.length + 1)=_
 rw [List.set_append_right _ _ (Nat.le_refl _),Nat.sub_self,List.set_cons_zero,List.eraseIdx_append_of_length_le (by lia)]
 simp
theorem zk4 {α:Type} (P M T:List α) (n:Nat) (h:P.length + M.length≤n):(P ++ (M ++ T)).take n=P ++ M ++ T.take (n - P.length - M.length):=by
 rw [List.take_append,List.take_of_length_le (by lia),List.take_append,List.take_of_length_le (by lia),List.append_assoc]
theorem K_of {xs:Array Keyed} {i:Nat} {z:Keyed} (e:xs.toList[i]? = some z):K xs i=key z:=by
 rw [Array.getElem?_toList] at e
 unfold K
 rw [e]
theorem zg4 {a:Array Keyed} {base n:Nat} (sa:SIn a base n) (left:Bool) (k:Keyed) (hn:base + n≤a.size):∀ i j,i≤j→j < n→ask left k a base j=true→ask left k a base i=true:=by
 intro i j hij hj h
 obtain⟨p,e1,e2⟩:=zay (a:=a) (i:=base + i) (by lia)
 obtain⟨q,e3,e4⟩:=zay (a:=a) (i:=base + j) (by lia)
 have hle:=sa i j hij hj
 rw [K_of e2,K_of e4] at hle
 unfold ask at h ⊢
 rw [e1]
 rw [e3] at h
 cases left with
 | true =>
  simp only [if_true,decide_eq_true_eq] at h ⊢
  lia
 | false =>
  simp only [Bool.false_eq_true,if_false,Bool.not_eq_true',decide_eq_false_iff_not] at h ⊢
  lia
section
variable {prog:Program} {w:World} {X:Around} {E:Value→Shared→Prop} {s:Shared} [SKL prog w X E s] {a₀:Array Keyed}
theorem zfb {left:Bool} {k:Keyed} {a:Array Keyed} {base n hint:Nat} {st:SortSt} {Q:Option Nat→SortSt→Prop} (hk:kindOf st=oneType') (hkey:IntK k) (ha:∀ p∈a.toList,IntK p) (sa:SIn a base n)
  (hb:base + n≤a.size) (hn:hint < n)
  (h:∀ m,m≤n→(∀ i,i < m→if left then K a (base + i) < key k else K a (base + i)≤key k)→(∀ i,m≤i→i < n→if left then key k≤K a (base + i) else key k < K a (base + i))→Q (some m) st) :
  wpS (model prog w) X E s (zcl left k a base n hint) Q st:=by
 refine zdE hk hkey (fun i hi=>?_) hn (zg4 sa left k hb) fun m hm h1 h2=>h m hm (fun i hi=>?_) fun i hi hi'=>?_
 ·obtain⟨q,e1,e2⟩:=zay (a:=a) (i:=base + i) (by lia)
  exact⟨q,e1,ha q (List.mem_of_getElem? e2)⟩
 ·obtain⟨q,e1,e2⟩:=zay (a:=a) (i:=base + i) (by lia)
  have:=h1 i hi
  unfold ask at this
  rw [e1] at this
  rw [K_of e2]
  cases left with
  | true=>simpa using this
  | false=>simpa using this
 ·obtain⟨q,e1,e2⟩:=zay (a:=a) (i:=base + i) (by lia)
  have:=h2 i hi hi'
  unfold ask at this
  rw [e1] at this
  rw [K_of e2]
  cases left with
  | true=>simpa using this
  | false=>simpa using this
end
section
variable {prog:Program} {w:World} {X:Around} {E:Value→Shared→Prop} {s:Shared} [SKL prog w X E s] {a₀:Array Keyed}
theorem zeF {st:SortSt} {l₁ l₂:List (Nat×Nat×Nat)} {sa na pw sb nb pb e:Nat} {Q:Bool→SortSt→Prop} (hp:(pendingOf st).toList=l₁ ++ (sa,na,pw) :: (sb,nb,pb) :: l₂)
  (h0:za7 a₀) (hB:SB a₀ st) (hC:Cov (arrOf st) 0 (pendingOf st).toList e) (he:e≤a₀.size)
  (h:∀ st',SB a₀ st'→Cov (arrOf st') 0 (pendingOf st').toList e→(pendingOf st').toList=l₁ ++ (sa,na + nb,pw) :: l₂→(∀ k,e≤k→K (arrOf st') k=K (arrOf st) k)→Q true st') :
  wpS (model prog w) X E s (zd1 l₁.length) Q st:=by
 obtain⟨m1,hC1,hsa,hna,sA,hsb,hnb,sB,hC2⟩:=Cov.append.mp (hp ▸ hC)
 have hsa':sa=m1:=hsa
 have hsb':sb=m1 + na:=hsb
 subst hsa' hsb'
 have hle2:=hC2.le
 have hsz:=hB.size
 have hint:=hB.int h0
 have hLs:(arrOf st).toList.length=(arrOf st).size:=by simp
 have fin:∀ st',SB a₀ st'→(pendingOf st').toList=l₁ ++ (sa,na + nb,pw) :: l₂→(∀ k,k < sa∨sa + na + nb≤k→K (arrOf st') k=K (arrOf st) k)→SIn (arrOf st') sa (na + nb)→Q true st':=by
  intro st' hB' hp' hK' hS'
  refine h st' hB' ?_ hp' fun k hk=>hK' k (.inr (by lia))
  rw [hp']
  refine Cov.append.mpr ⟨sa,hC1.congr fun k _ hk=>hK' k (.inl hk),rfl,by lia,hS',?_⟩
  rw [← Nat.add_assoc]
  exact hC2.congr fun k hk _=>hK' k (.inr hk)
 have e1:(pendingOf st)[l₁.length]? = some (sa,na,pw):=by
  rw [← Array.getElem?_toList,hp,List.getElem?_append_right (Nat.le_refl _),Nat.sub_self];rfl
 have e2:(pendingOf st)[l₁.length + 1]? = some (sa + na,nb,pb):=by
  rw [← Array.getElem?_toList,hp,List.getElem?_append_right (by lia),show l₁.length + 1 - l₁.length=1 by lia];rfl
 have hpm:=zfW (v:=(sa,na + nb,pw)) hp
 have hSS:SIn (arrOf st) sa na:=sA
 have hSB':SIn (arrOf st) (sa + na) nb:=sB
 have lA:=(zcq (xs:=arrOf st) (lo:=sa) (n:=na) (by lia)).mp hSS
 have lB:=(zcq (xs:=arrOf st) (lo:=sa + na) (n:=nb) (by lia)).mp hSB'
 refine wpS_bind (wpS_get ?_)
 rw [e1,e2]
 dsimp only
 refine wpS_bind (m:=set _) ?_
 show wpS _ _ _ _ (modify fun _=>_) _ _
 refine wpS_modify ?_
 have KS:∀ i,i < (arrOf st).size→∃ p,(arrOf st)[i]? = some p∧(arrOf st).toList[i]? = some p∧IntK p∧K (arrOf st) i=key p:=fun i hi=>by
  obtain⟨p,q1,q2⟩:=zay (a:=arrOf st) (i:=i) hi
  exact⟨p,q1,q2,hint p (List.mem_of_getElem? q2),K_of q2⟩
 obtain⟨b0,eb,eb2,ib0,kb0⟩:=KS (sa + na) (by lia)
 refine wpS_bind (zar eb (wpS_bind (zfb (a:=arrOf st) hB.kind ib0 hint hSS (by lia) (by lia) fun k hk1 fA0 gA0=>?_)))
 have fA:∀ i,i < k→K (arrOf st) (sa + i)≤K (arrOf st) (sa + na):=fun i hi=>by
  rw [kb0]
  simpa using fA0 i hi
 have gA:∀ i,k≤i→i < na→K (arrOf st) (sa + na) < K (arrOf st) (sa + i):=fun i hi hi'=>by
  rw [kb0]
  simpa using gA0 i hi hi'
 clear fA0 gA0
 dsimp only
 have hB1:SB a₀ (setPending st (((pendingOf st).setIfInBounds l₁.length (sa,na + nb,pw)).eraseIdxIfInBounds (l₁.length + 1))):=⟨hB.perm,hB.kind,hB.failed⟩
 by_cases c1:(na - k == 0)=true
 ·refine zai c1 ?_
  have c1':na - k=0:=by simpa using c1
  refine wpS_pure (fin _ hB1 hpm (fun _ _=>rfl) fun i j hij hj=>?_)
  show K (arrOf st) (sa + i)≤K (arrOf st) (sa + j)
  by_cases d1:j < na
  ·exact hSS i j hij d1
  ·by_cases d2:i < na
   ·have z1:=fA i (by lia)
    have z2:=hSB' 0 (j - na) (by lia) (by lia)
    rw [Nat.add_zero,show sa + na + (j - na)=sa + j by lia] at z2
    lia
   ·have z2:=hSB' (i - na) (j - na) (by lia) (by lia)
    rw [show sa + na + (j - na)=sa + j by lia,show sa + na + (i - na)=sa + i by lia] at z2
    exact z2
 refine zah c1 ?_
 have c1':na - k≠0:=by simpa using c1
 have ei:sa + k + (na - k) - 1=sa + na - 1:=by lia
 obtain⟨al,ea,ea2,ia0,ka0⟩:=KS (sa + na - 1) (by lia)
 refine wpS_bind (zar (p:=al) (by rw [ei];exact ea) (wpS_bind (zfb (a:=arrOf st) hB.kind ia0 hint hSB' (by lia) (by lia) fun m hm1 fB0 gB0=>?_)))
 have fB:∀ i,i < m→K (arrOf st) (sa + na + i) < K (arrOf st) (sa + na - 1):=fun i hi=>by
  rw [ka0]
  simpa using fB0 i hi
 have gB:∀ i,m≤i→i < nb→K (arrOf st) (sa + na - 1)≤K (arrOf st) (sa + na + i):=fun i hi hi'=>by
  rw [ka0]
  simpa using gB0 i hi hi'
 clear fB0 gB0
 dsimp only
 by_cases c2:(m == 0)=true
 ·refine zai c2 ?_
  have c2':m=0:=by simpa using c2
  refine wpS_pure (fin _ hB1 hpm (fun _ _=>rfl) fun i j hij hj=>?_)
  show K (arrOf st) (sa + i)≤K (arrOf st) (sa + j)
  by_cases d1:j < na
  ·exact hSS i j hij d1
  ·by_cases d2:i < na
   ·have z1:=gB (j - na) (by lia) (by lia)
    have z2:=hSS i (na - 1) (by lia) (by lia)
    rw [show sa + (na - 1)=sa + na - 1 by lia] at z2
    rw [show sa + na + (j - na)=sa + j by lia] at z1
    lia
   ·have z2:=hSB' (i - na) (j - na) (by lia) (by lia)
    rw [show sa + na + (j - na)=sa + j by lia,show sa + na + (i - na)=sa + i by lia] at z2
    exact z2
 refine zah c2 ?_
 have c2':m≠0:=by simpa using c2
 have xl:((arrOf st).extract (sa + k) (sa + na)).toList=((arrOf st).toList.drop (sa + k)).take (na - k):=by
  simp only [Array.toList_extract,List.extract_eq_take_drop]
  congr 1
  lia
 have yl:((arrOf st).extract (sa + na) (sa + na + m)).toList=((arrOf st).toList.drop (sa + na)).take m:=by
  simp only [Array.toList_extract,List.extract_eq_take_drop]
  congr 1
  lia
 have xs:((arrOf st).extract (sa + k) (sa + na)).size=na - k:=by simp;lia
 have ys:((arrOf st).extract (sa + na) (sa + na + m)).size=m:=by simp;lia
 have inx:∀ z∈((arrOf st).extract (sa + k) (sa + na)).toList,∃ j,j < na - k∧K (arrOf st) (sa + k + j)=key z∧IntK z:=fun z hz=>by
  rw [xl] at hz
  obtain⟨j,hj,ej⟩:=zaC hz
  exact⟨j,hj,K_of ej,hint z (List.mem_of_getElem? ej)⟩
 have iny:∀ z∈((arrOf st).extract (sa + na) (sa + na + m)).toList,∃ j,j < m∧K (arrOf st) (sa + na + j)=key z∧IntK z:=fun z hz=>by
  rw [yl] at hz
  obtain⟨j,hj,ej⟩:=zaC hz
  exact⟨j,hj,K_of ej,hint z (List.mem_of_getElem? ej)⟩
 have sx:Sr ((arrOf st).extract (sa + k) (sa + na)).toList:=by
  rw [xl]
  refine (zcq (by lia)).mp fun i j hij hj=>?_
  have z:=hSS (k + i) (k + j) (by lia) (by lia)
  rw [← Nat.add_assoc,← Nat.add_assoc] at z
  exact z
 have sy:Sr ((arrOf st).extract (sa + na) (sa + na + m)).toList:=by
  rw [yl]
  exact (zcq (by lia)).mp fun i j hij hj=>hSB' i j hij (by lia)
 have hy0:∀ q,((arrOf st).extract (sa + na) (sa + na + m))[0]? = some q→∀ z∈((arrOf st).extract (sa + k) (sa + na)).toList,key q < key z:=fun q hq z hz=>by
  have e:=zba hq
  rw [yl,List.getElem?_take_of_lt (by lia),List.getElem?_drop,Nat.add_zero] at e
  obtain⟨j,hj,kz,_⟩:=inx z hz
  have z1:=gA (k + j) (by lia) (by lia)
  rw [← Nat.add_assoc,kz,K_of e] at z1
  exact z1
 have hxl:∀ p,((arrOf st).extract (sa + k) (sa + na))[((arrOf st).extract (sa + k) (sa + na)).size - 1]? = some p→∀ z∈((arrOf st).extract (sa + na) (sa + na + m)).toList,key z < key p:=fun p hp z hz=>by
  have e:=zba hp
  rw [xs,xl,List.getElem?_take_of_lt (by lia),List.getElem?_drop,show sa + k + (na - k - 1)=sa + na - 1 by lia] at e
  obtain⟨j,hj,kz,_⟩:=iny z hz
  have z1:=fB j hj
  rw [kz,K_of e] at z1
  exact z1
 have last:∀ (M:Array Keyed) st',SameG (setPending st (((pendingOf st).setIfInBounds l₁.length (sa,na + nb,pw)).eraseIdxIfInBounds (l₁.length + 1))) st'→Good ((arrOf st).extract (sa + k) (sa + na)).toList ((arrOf st).extract (sa + na) (sa + na + m)).toList M.toList →
   Q true (PyProof.Rows.setArr st' (M.toList.zipIdx.foldl (fun a x=>match x with | (p,j)=>a.setIfInBounds (sa + k + j) p) (arrOf st'))):=by
  intro M st' hG ⟨gp,gs⟩
  have eA:arrOf st'=arrOf st:=hG.arr
  have eP:(pendingOf st').toList=l₁ ++ (sa,na + nb,pw) :: l₂:=by rw [hG.pend];exact hpm
  have lM:M.toList.length=na - k + m:=by
   have:=gp.length_eq
   rw [this,List.length_append,Array.length_toList,Array.length_toList,xs,ys]
  have newL:=zhs (sa:=sa + k) (l:=M.toList) (xs:=arrOf st) (by lia)
  have hsplit:(arrOf st).toList=(arrOf st).toList.take (sa + k) ++ (((arrOf st).extract (sa + k) (sa + na)).toList ++ ((arrOf st).extract (sa + na) (sa + na + m)).toList) ++ (arrOf st).toList.drop (sa + k + M.toList.length):=by
   have e:((arrOf st).extract (sa + k) (sa + na)).toList ++ ((arrOf st).extract (sa + na) (sa + na + m)).toList=((arrOf st).toList.drop (sa + k)).take (na - k + m):=by
    rw [xl,yl,List.take_add,List.drop_drop]
    congr 2
    congr 1
    lia
   rw [e,lM,← List.take_add,List.take_append_drop]
  have eNew:arrOf (PyProof.Rows.setArr st' (M.toList.zipIdx.foldl (fun a x=>match x with | (p,j)=>a.setIfInBounds (sa + k + j) p) (arrOf st')))=M.toList.zipIdx.foldl (fun a x=>match x with | (p,j)=>a.setIfInBounds (sa + k + j) p) (arrOf st):=by
   show M.toList.zipIdx.foldl _ (arrOf st')=_
   rw [eA]
  generalize hN:M.toList.zipIdx.foldl (fun a x=>match x with | (p,j)=>a.setIfInBounds (sa + k + j) p) (arrOf st)=N at eNew newL
  have szN:N.size=(arrOf st).size:=by rw [← hN];exact zfr _ _ _ _
  have getN:∀ i,i < sa + k∨sa + na + m≤i→N[i]? = (arrOf st)[i]?:=fun i hi=>by
   rw [← hN,zeV (sa + k) M.toList 0 (arrOf st) i (by lia),if_neg (by lia)]
  have perm:N.Perm (arrOf st):=by
   refine Array.perm_iff_toList_perm.mpr ?_
   rw [newL]
   conv=>rhs;rw [hsplit]
   exact (gp.append_left _).append_right _
  refine fin _ ⟨by rw [eNew];exact perm.trans hB.perm,hG.kind.trans hB.kind,hG.failed.trans hB.failed⟩ eP (fun i hi=>?_) ?_
  ·rw [eNew]
   exact zcN (getN i (by lia))
  ·rw [eNew]
   refine (zcq (by lia)).mpr ?_
   have e3:(N.toList.drop sa).take (na + nb)=((arrOf st).toList.drop sa).take k ++ M.toList ++ ((arrOf st).toList.drop (sa + na + m)).take (nb - m):=by
    have lP:(((arrOf st).toList.drop sa).take k).length=k:=by rw [List.length_take,List.length_drop];lia
    rw [newL,lM,show sa + k + (na - k + m)=sa + na + m by lia,List.append_assoc,List.drop_append_of_le_length (by rw [List.length_take];lia),List.drop_take,show sa + k - sa=k by lia,
     zk4 _ _ _ _ (by rw [lP,lM];lia),lP,lM,show na + nb - k - (na - k + m)=nb - m by lia]
   rw [e3]
   have inM:∀ z∈M.toList,(∃ j,k≤j∧j < na∧K (arrOf st) (sa + j)=key z)∨∃ j,j < m∧K (arrOf st) (sa + na + j)=key z:=fun z hz=>by
    rcases List.mem_append.mp (gp.mem_iff.mp hz) with hz | hz
    ·obtain⟨j,hj,kz,_⟩:=inx z hz
     exact .inl ⟨k + j,by lia,by lia,by rw [← Nat.add_assoc];exact kz⟩
    ·obtain⟨j,hj,kz,_⟩:=iny z hz
     exact .inr ⟨j,hj,kz⟩
   have inA:∀ z∈((arrOf st).toList.drop sa).take k,∃ j,j < k∧K (arrOf st) (sa + j)=key z:=fun z hz=>by
    obtain⟨j,hj,ej⟩:=zaC hz
    exact⟨j,hj,K_of ej⟩
   have inB:∀ z∈((arrOf st).toList.drop (sa + na + m)).take (nb - m),∃ j,m≤j∧j < nb∧K (arrOf st) (sa + na + j)=key z:=fun z hz=>by
    obtain⟨j,hj,ej⟩:=zaC hz
    exact⟨m + j,by lia,by lia,by rw [← Nat.add_assoc];exact K_of ej⟩
   have first:∀ j,j < nb→K (arrOf st) (sa + na)≤K (arrOf st) (sa + na + j):=fun j hj=>by
    have z:=hSB' 0 j (by lia) hj
    rw [Nat.add_zero] at z
    exact z
   have lastA:∀ j,j < na→K (arrOf st) (sa + j)≤K (arrOf st) (sa + na - 1):=fun j hj=>by
    have z:=hSS j (na - 1) (by lia) (by lia)
    rw [show sa + (na - 1)=sa + na - 1 by lia] at z
    exact z
   refine List.pairwise_append.mpr ⟨List.pairwise_append.mpr ⟨(zcq (by lia)).mp fun i j hij hj=>hSS i j hij (by lia),gs,fun x hx y hy=>?_⟩,(zcq (by lia)).mp fun i j hij hj=>?_,fun x hx y hy=>?_⟩
   ·obtain⟨i,hi,kx⟩:=inA x hx
    have z1:=fA i hi
    rw [← kx]
    rcases inM y hy with ⟨j,h1,h2,ky⟩ | ⟨j,h1,ky⟩
    ·rw [← ky];exact hSS i j (by lia) h2
    ·rw [← ky]
     have:=first j (by lia)
     lia
   ·have z:=hSB' (m + i) (m + j) (by lia) (by lia)
    rw [← Nat.add_assoc,← Nat.add_assoc] at z
    exact z
   ·obtain⟨j,h1,h2,ky⟩:=inB y hy
    rw [← ky]
    rcases List.mem_append.mp hx with hx | hx
    ·obtain⟨i,hi,kx⟩:=inA x hx
     rw [← kx]
     have z1:=fA i hi
     have:=first j h2
     lia
    ·rcases inM x hx with ⟨i,g1,g2,kx⟩ | ⟨i,g1,kx⟩
     ·rw [← kx]
      have z1:=gB j h1 h2
      have:=lastA i g2
      lia
     ·rw [← kx];exact hSB' i j (by lia) h2
 by_cases c3:na - k≤m
 ·refine zai c3 ?_
  refine wpS_bind (zeD (a:=(arrOf st).extract (sa + k) (sa + na)) (b:=(arrOf st).extract (sa + na) (sa + na + m)) hB1.kind (fun p hp=>let ⟨_,_,_,q⟩:=inx p hp;q) (fun p hp=>let ⟨_,_,_,q⟩:=iny p hp;q) sx sy (by lia) (by lia) (fun q hq z hz=>Int.le_of_lt (hy0 q hq z hz)) hxl fun M st' hG hM=>?_)
  refine wpS_bind (wpS_modify (wpS_bind (wpS_get (wpS_pure ?_))))
  have ef:(failedOf st').isNone=true:=by rw [hG.failed];show (failedOf st).isNone=true;rw [hB.failed];rfl
  show Q (failedOf st').isNone _
  rw [ef]
  exact last M st' hG hM
 ·refine zah c3 ?_
  refine wpS_bind (zeE (a:=(arrOf st).extract (sa + k) (sa + na)) (b:=(arrOf st).extract (sa + na) (sa + na + m)) hB1.kind (fun p hp=>let ⟨_,_,_,q⟩:=inx p hp;q) (fun p hp=>let ⟨_,_,_,q⟩:=iny p hp;q) sx sy (by lia) (by lia) hy0 hxl fun M st' hG hM=>?_)
  refine wpS_bind (wpS_modify (wpS_bind (wpS_get (wpS_pure ?_))))
  have ef:(failedOf st').isNone=true:=by rw [hG.failed];show (failedOf st).isNone=true;rw [hB.failed];rfl
  show Q (failedOf st').isNone _
  rw [ef]
  exact last M st' hG hM
end
end Srt
namespace Srt
open PySem PyProof.Rows
variable [SK]
theorem Cov.powers {xs:Array Keyed}:∀ {l l':List (Nat×Nat×Nat)} {s e:Nat},l.map (fun p=>(p.1,p.2.1))=l'.map (fun p=>(p.1,p.2.1))→Cov xs s l e→Cov xs s l' e
 | [],[],_,_,_,h=>h
 | [],_ :: _,_,_,q,_=>by simp at q
 | _ :: _,[],_,_,q,_=>by simp at q
 | (b,n,p) :: r,(b',n',p') :: r',s,e,q,h=>by
  simp only [List.map_cons,List.cons.injEq,Prod.mk.injEq] at q
  obtain⟨⟨rfl,rfl⟩,q⟩:=q
  obtain⟨h1,h2,h3,h4⟩:=h
  exact⟨h1,h2,h3,Cov.powers q h4⟩
theorem zjC {α:Type} {l:List α} {i:Nat} (h:i + 1 < l.length):∃ l₁ a b l₂,l=l₁ ++ a :: b :: l₂∧l₁.length=i:=by
 refine ⟨l.take i,l[i],l[i + 1],l.drop (i + 2),?_,by rw [List.length_take];lia⟩
 conv=>lhs;rw [← List.take_append_drop i l]
 congr 1
 rw [List.drop_eq_getElem_cons (by lia),List.drop_eq_getElem_cons (by lia)]
noncomputable def zgj:StateT SortSt Sem Unit:=sortPriv% PySem.Builtin.sortRuns
section
variable {prog:Program} {w:World} {X:Around} {E:Value→Shared→Prop} {s:Shared} [SKL prog w X E s] {a₀:Array Keyed}
theorem zcO {st:SortSt} {i e:Nat} {Q:Bool→SortSt→Prop} (hi:i + 1 < (pendingOf st).size) (h0:za7 a₀) (hB:SB a₀ st) (hC:Cov (arrOf st) 0 (pendingOf st).toList e) (he:e≤a₀.size)
  (h:∀ st',SB a₀ st'→Cov (arrOf st') 0 (pendingOf st').toList e→(pendingOf st').size + 1=(pendingOf st).size→(∀ k,e≤k→K (arrOf st') k=K (arrOf st) k)→Q true st') :
  wpS (model prog w) X E s (zd1 i) Q st:=by
 obtain⟨l₁,⟨sa,na,pw⟩,⟨sb,nb,pb⟩,l₂,hl,hlen⟩:=zjC (l:=(pendingOf st).toList) (i:=i) (by simpa using hi)
 subst hlen
 refine zeF hl h0 hB hC he fun st' g1 g2 g3 g4=>h st' g1 g2 ?_ g4
 have e1:=congrArg List.length g3
 have e2:=congrArg List.length hl
 simp only [Array.length_toList,List.length_append,List.length_cons] at e1 e2
 lia
structure Mid (a₀:Array Keyed) (lo:Nat) (st:SortSt):Prop where
 b:SB a₀ st
 cov:Cov (arrOf st) 0 (pendingOf st).toList lo
 le:lo≤a₀.size
theorem zdP {st:SortSt} {Q:Unit→SortSt→Prop} (h0:za7 a₀) (hB:SB a₀ st) (hp:pendingOf st = #[]) (h2:1≤a₀.size)
  (h:∀ st',(arrOf st').Perm a₀→failedOf st'=none→zcC (arrOf st') a₀.size→Q () st'):wpS (model prog w) X E s zgj Q st:=by
 refine wpS_bind (wpS_get ?_)
 dsimp only
 have hsz:(arrOf st).size=a₀.size:=hB.size
 rw [show (arrOf st).size=a₀.size from hsz]
 generalize (sortPriv% PySem.Builtin.minRun) a₀.size a₀.size 0=minrun
 refine wpS_bind (wpS_mono (wpS_forRange (a:=0) (b:=a₀.size) (I:=fun x c st'=>c.1=none∧x≤c.2∧Mid a₀ c.2 st') (Q:=fun c st'=>c.1=none∧Mid a₀ a₀.size st') ?step ?fin ?init) ?post)
 case init =>
  refine ⟨rfl,Nat.le_refl _,hB,?_,Nat.zero_le _⟩
  rw [hp]
  rfl
 case fin =>
  rintro ⟨r,lo⟩ st' ⟨e,h1,hM⟩
  dsimp only at *
  have:lo=a₀.size:=by have:=hM.le;lia
  subst this
  exact⟨e,hM⟩
 case step =>
  rintro x ⟨r,lo⟩ st1 _ hx ⟨e,h1,hM⟩
  dsimp only at *
  subst e
  have hle:=hM.le
  by_cases hge:lo≥a₀.size
  ·refine zai hge ?_
   have:lo=a₀.size:=by lia
   subst this
   exact wpS_pure ⟨rfl,hM⟩
  refine zah hge ?_
  refine wpS_bind (zdR h0 hM.b (by lia) (by lia) fun m st2 hB2 hK2 m1 m2 hS2=>?_)
  dsimp only
  have covK:∀ {st3:SortSt},Kept lo st1 st3→Cov (arrOf st3) 0 (pendingOf st3).toList lo:=fun {st3} hK=>by
   rw [hK.pend]
   exact hM.cov.congr fun k _ hk=>hK.keys k hk
  have push:∀ (n:Nat) (st3:SortSt),SB a₀ st3→Cov (arrOf st3) 0 (pendingOf st3).toList lo→1≤n→lo + n≤a₀.size→SIn (arrOf st3) lo n→Mid a₀ (lo + n) (setPending st3 ((pendingOf st3).push (lo,n,0))):=by
   intro n st3 g1 g2 g3 g4 g5
   refine ⟨⟨g1.perm,g1.kind,g1.failed⟩,?_,g4⟩
   show Cov (arrOf st3) 0 ((pendingOf st3).push (lo,n,0)).toList (lo + n)
   rw [Array.toList_push]
   exact Cov.append.mpr ⟨lo,g2,rfl,g3,g5,rfl⟩
  have merges:∀ (pw n:Nat) (st3:SortSt),SB a₀ st3→Cov (arrOf st3) 0 (pendingOf st3).toList lo→SIn (arrOf st3) lo n→lo + n≤a₀.size →
    wpS (model prog w) X E s (forIn [:a₀.size] ((none,()):Option Unit×Unit) fun _ _=>get >>= fun st=>match (if (pendingOf st).size > 1 then (pendingOf st)[(pendingOf st).size - 2]? else none) with
     | some (_,_,older)=>if older≤pw then pure (ForInStep.done (none,())) else zd1 ((pendingOf st).size - 2) >>= fun ok=>if (!ok)=true then pure (ForInStep.done (some (),())) else pure (ForInStep.yield (none,()))
     | _=>pure (ForInStep.done (none,())))
     (fun c st4=>c=(none,())∧SB a₀ st4∧Cov (arrOf st4) 0 (pendingOf st4).toList lo∧SIn (arrOf st4) lo n) st3:=by
   intro pw n st3 g1 g2 g3 g4
   refine wpS_forRange (I:=fun _ c st4=>c=(none,())∧SB a₀ st4∧Cov (arrOf st4) 0 (pendingOf st4).toList lo∧SIn (arrOf st4) lo n) ?_ (fun _ _ z=>z) ⟨rfl,g1,g2,g3⟩
   rintro y c st4 _ _ ⟨rfl,k1,k2,k3⟩
   refine wpS_bind (wpS_get ?_)
   by_cases c1:(pendingOf st4).size > 1
   ·rw [if_pos c1]
    obtain⟨q,eq⟩:∃ q,(pendingOf st4)[(pendingOf st4).size - 2]? = some q:=⟨_,Array.getElem?_eq_getElem (by lia)⟩
    obtain⟨q1,q2,older⟩:=q
    rw [eq]
    dsimp only
    by_cases c2:older≤pw
    ·refine zai c2 ?_
     exact wpS_pure ⟨rfl,k1,k2,k3⟩
    ·refine zah c2 ?_
     refine wpS_bind (zcO (by lia) h0 k1 k2 hle fun st5 t1 t2 t3 t4=>?_)
     simp only [Bool.not_true,Bool.false_eq_true,if_false]
     refine wpS_pure ⟨rfl,t1,t2,fun i j hij hj=>?_⟩
     rw [t4 _ (by lia),t4 _ (by lia)]
     exact k3 i j hij hj
   ·rw [if_neg c1]
    exact wpS_pure ⟨rfl,k1,k2,k3⟩
  have mods:∀ (pw:Nat) (st4:SortSt),Cov (arrOf st4) 0 (pendingOf st4).toList lo→Cov (arrOf st4) 0 ((pendingOf st4).modify ((pendingOf st4).size - 1) fun x=>match x with | (st,len,_)=>(st,len,pw)).toList lo:=by
   intro pw st4 g
   refine Cov.powers ?_ g
   apply List.ext_getElem?
   intro i
   rw [List.getElem?_map,List.getElem?_map,Array.getElem?_toList,Array.getElem?_toList,Array.getElem?_modify]
   split
   ·cases q:(pendingOf st4)[i]? with
    | none=>rfl
    | some z=>rfl
   ·rfl
  by_cases c1:m < minrun
  ·refine zai c1 ?_
   refine wpS_bind (wpS_lift (wpAny_rule ⟨rfl,?_⟩))
   refine wpS_bind (zc6 h0 hB2 (by lia) (by lia) hS2 fun st3 hB3 hK3 hS3=>?_)
   simp only [Bool.not_true,Bool.false_eq_true,if_false]
   have hK:=hK2.trans hK3
   refine wpS_bind (wpS_get ?_)
   cases eb:(pendingOf st3).back? with
   | none =>
    dsimp only
    exact wpS_bind (wpS_modify (wpS_pure ⟨rfl,(by dsimp only;lia),push _ st3 hB3 (covK hK) (by lia) (by lia) hS3⟩))
   | some q =>
    obtain⟨s1,n1,p1⟩:=q
    dsimp only
    refine wpS_bind (wpS_mono (merges _ (min (a₀.size - lo) minrun) st3 hB3 (covK hK) hS3 (by lia)) ?_)
    rintro c st4 ⟨rfl,k1,k2,k3⟩
    dsimp only
    refine wpS_bind (wpS_modify (wpS_bind (wpS_modify (wpS_pure ⟨rfl,(by dsimp only;lia),push _ _ ⟨k1.perm,k1.kind,k1.failed⟩ (mods _ st4 k2) (by lia) (by lia) k3⟩))))
  ·refine zah c1 ?_
   refine wpS_bind (wpS_get ?_)
   cases eb:(pendingOf st2).back? with
   | none =>
    dsimp only
    exact wpS_bind (wpS_modify (wpS_pure ⟨rfl,(by dsimp only;lia),push _ st2 hB2 (covK hK2) (by lia) (by lia) hS2⟩))
   | some q =>
    obtain⟨s1,n1,p1⟩:=q
    dsimp only
    refine wpS_bind (wpS_mono (merges _ m st2 hB2 (covK hK2) hS2 (by lia)) ?_)
    rintro c st4 ⟨rfl,k1,k2,k3⟩
    dsimp only
    refine wpS_bind (wpS_modify (wpS_bind (wpS_modify (wpS_pure ⟨rfl,(by dsimp only;lia),push _ _ ⟨k1.perm,k1.kind,k1.failed⟩ (mods _ st4 k2) (by lia) (by lia) k3⟩))))
 case post =>
  rintro ⟨r,lo⟩ st1 ⟨e,hM⟩
  dsimp only at *
  subst e
  dsimp only
  refine wpS_bind (wpS_mono (wpS_forRange (a:=0) (b:=a₀.size) (I:=fun x c st'=>c=(none,())∧Mid a₀ a₀.size st'∧(pendingOf st').size + x≤a₀.size) (Q:=fun c st'=>c=(none,())∧Mid a₀ a₀.size st'∧(pendingOf st').size≤1) ?jstep ?jfin ?jinit) ?jpost)
  case jinit =>
   have:=hM.cov.le
   simp at this
   exact⟨rfl,hM,by lia⟩
  case jfin =>
   rintro c st' ⟨rfl,hM',hx⟩
   exact⟨rfl,hM',by lia⟩
  case jstep =>
   rintro x c st' _ hx ⟨rfl,hM',hx'⟩
   refine wpS_bind (wpS_get ?_)
   by_cases c1:(pendingOf st').size≤1
   ·refine zai c1 ?_
    exact wpS_pure ⟨rfl,hM',c1⟩
   ·refine zah c1 ?_
    refine wpS_bind (zcO ?_ h0 hM'.b hM'.cov (Nat.le_refl _) fun st5 t1 t2 t3 t4=>?_)
    ·have pick:∀ (c:Prop) [Decidable c],(if c then (pendingOf st').size - 2 - 1 else (pendingOf st').size - 2) + 1 < (pendingOf st').size:=fun c _=>by split <;> lia
     exact pick _
    ·simp only [Bool.not_true,Bool.false_eq_true,if_false]
     exact wpS_pure ⟨rfl,⟨t1,t2,Nat.le_refl _⟩,by lia⟩
  case jpost =>
   rintro c st' ⟨rfl,hM',hx'⟩
   refine wpS_pure (h st' hM'.b.perm hM'.b.failed ?_)
   have hc:=hM'.cov
   have hlen:(pendingOf st').toList.length≤1:=by simpa using hx'
   match hl:(pendingOf st').toList,hlen,hc with
   | [],_,hc =>
    have:0=a₀.size:=hc
    lia
   | [(b,n,p)],_,hc =>
    obtain⟨e1,_,g3,e2⟩:=hc
    have e2':0 + n=a₀.size:=e2
    subst e1
    intro i j hij hj
    have z:=g3 i j hij (by lia)
    simpa using z
end
end Srt
namespace Srt
open PySem PyProof.Rows
section
variable {prog:Program} {w:World} {X:Around} {E:Value→Shared→Prop} {s:Shared}
theorem zeC {α β:Type} {m:α→Sem β} {f:α→β}:∀ {vs:List α} {Q:List β→Shared→Prop},(∀ v∈vs,∀ Q:β→Shared→Prop,Q (f v) s→wpAny (model prog w) X (m v) Q E s)→Q (vs.map f) s→wpAny (model prog w) X (vs.mapM m) Q E s
 | [],Q,_,h=>by rw [List.mapM_nil];exact wpAny_pure h
 | v :: vs,Q,hm,h=>by
  rw [List.mapM_cons]
  exact wpAny_bind (hm v (by simp) _ (wpAny_bind (zeC (fun u hu=>hm u (by simp [hu])) (wpAny_pure h))))
theorem zkg {T:String} {v:Value} {vs:List Value} {Q:SortKind→Shared→Prop} (hT:(Value.type T != Value.type "tuple")=true) (ht:∀ u∈v :: vs,s.TypeIs u T) (h:Q oneType' s):wpAny (model prog w) X (keyKind' (v :: vs).toArray) Q E s:=by
 rw [keyKind'_eq,List.mapM_toArray,map_eq_pure_bind]
 refine wpAny_bind (wpAny_bind (zeC (f:=fun _=>none) (fun u hu Q hq=>?_) (wpAny_pure ?_)))
 ·show wpAny _ _ (typeOf u >>= fun t=>if (t != Value.type "tuple")=true then pure none else _) _ _ _
  refine wpAny_bind (wpAny_typeOf (ht u hu) ?_)
  rw [if_pos hT]
  exact wpAny_pure hq
 ·rw [if_neg (by simp),if_neg (by simp),oneTypeOnly'_eq,List.mapM_toArray,map_eq_pure_bind]
  refine wpAny_bind (wpAny_bind (wpAny_bind (zeC (f:=fun _=>Value.type T) (fun u hu Q hq=>wpAny_typeOf (ht u hu) hq) (wpAny_pure ?_))))
  have h0:(List.map (fun _=>Value.type T) (v :: vs)).toArray[0]? = some (Value.type T):=by simp
  have hall:((List.map (fun _=>Value.type T) (v :: vs)).toArray.all fun x=>x == Value.type T)=true:=by
   simp only [List.all_toArray,List.all_map,List.all_eq_true]
   intro _ _
   simp
  rw [h0]
  dsimp only
  rw [hall,if_pos rfl]
  exact wpAny_pure (wpAny_pure h)
variable [SK]
theorem zd3 {T:String} {a:Addr} {vs:List Value} {n:Nat} {P:Fin→Shared→Prop} (ho:s.heap.get? a=some (seqObj "list" vs.toArray n)) (h0:za7 (pairsOf vs)) (hz:vs.length≤sizeLine) (hT:(Value.type T != Value.type "tuple")=true)
  (hL:∀ h':Heap,(∀ b o,b≠a→s.heap.get? b=some o→h'.get? b=some o)→SKL prog w X E { s with heap:=h' }∧∀ u∈vs,({ s with heap:=h' }:Shared).TypeIs u T)
  (h:∀ out:Array Keyed,out.Perm (pairsOf vs)→zcC out (pairsOf vs).size→P (.done (.ret .none)) { s with heap:=sortedHeap s.heap a vs (out.map (·.2)) }) :
  wpAny (model prog w) X (Builtin.«list.sort» ⟨[.ref a],[]⟩) P E s:=by
 rw [list_sort_plain]
 refine wpAny_bind (listItems_at ho rfl (wpAny_bind (listUpdate_at ho rfl ?_ (by rw [List.size_toArray];exact hz))))
 obtain⟨e1,ho1⟩:∃ e1,(s.heap.update a (Obj.mapSeq fun _=>#[])).get? a=some (seqObj "list" #[] e1):=⟨_,get?_update_seq ho (fun _=>#[])⟩
 refine wpAny_bind (seqEpoch_at ho1 rfl (wpAny_bind (wpAny_newTuple ?_ (hsz:=hz))))
 refine wpAny_bind (wpAny_newList (wpAny_holding ?_))
 have hlt:a < s.heap.objs.size:=Heap.lt_size ho
 have ho2:(((s.heap.update a (Obj.mapSeq fun _=>#[])).push (seqObj "tuple" vs.toArray 0)).push (seqObj "list" #[] 0)).get? a=some (seqObj "list" #[] e1):=by
  refine Heap.get?_push_of_some _ (Heap.get?_push_of_some _ ?_)
  exact ho1
 show wpAny (model prog w) X _ P E { s with heap:=(((s.heap.update a (Obj.mapSeq fun _=>#[])).push (seqObj "tuple" vs.toArray 0)).push (seqObj "list" #[] 0)) }
 dsimp only
 have lens:vs.toArray.size=vs.length:=List.size_toArray ..
 obtain⟨i1,i2⟩:=hL (((s.heap.update a (Obj.mapSeq fun _=>#[])).push (seqObj "tuple" vs.toArray 0)).push (seqObj "list" #[] 0)) fun b o hb e=>Heap.get?_push_of_some _ (Heap.get?_push_of_some _ (by rw [Heap.get?_update_other _ _ (Ne.symm hb)];exact e))
 have done:∀ st':SortSt,(arrOf st').Perm (pairsOf vs)→zcC (arrOf st') (pairsOf vs).size→P (.done (.ret .none)) { s with heap:=sortedHeap s.heap a vs ((arrOf st').map (·.2)) }:=fun st' q1 q2=>h _ q1 q2
 clear hL h
 match vs,lens,h0,hz,done,ho,ho2,i1,i2 with
 | [],_,h0,hz,done,ho,ho2,i1,i2 =>
  refine wpAny_bind (wpAny_pure ?_)
  rw [if_pos (show ([]:List Value).toArray.size < 2 by decide),StateT.run_pure]
  refine wpAny_bind (wpAny_pure (wpAny_bind (seqEpoch_at ho2 rfl (wpAny_bind (listUpdate_at ho2 rfl ?_ (hsz2:=by rw [Array.size_map];show (([]:List Value).toArray.zip ([]:List Value).toArray).size≤_;simp))))))
  simp only [bne_self_eq_false,Bool.false_eq_true,if_false]
  exact wpAny_pure (done (SortSt.mk' general' (([]:List Value).toArray.zip ([]:List Value).toArray) #[] 7 none) (Array.Perm.refl _) fun i j _ hj=>absurd hj (by rw [pairsOf_size];simp))
 | [v],_,h0,hz,done,ho,ho2,i1,i2 =>
  refine wpAny_bind (wpAny_pure ?_)
  rw [if_pos (show ([v]:List Value).toArray.size < 2 by simp),StateT.run_pure]
  refine wpAny_bind (wpAny_pure (wpAny_bind (seqEpoch_at ho2 rfl (wpAny_bind (listUpdate_at ho2 rfl ?_ (hsz2:=by rw [Array.size_map];show (([v]:List Value).toArray.zip ([v]:List Value).toArray).size≤_;simp))))))
  simp only [bne_self_eq_false,Bool.false_eq_true,if_false]
  refine wpAny_pure (done (SortSt.mk' general' (([v]:List Value).toArray.zip ([v]:List Value).toArray) #[] 7 none) (Array.Perm.refl _) fun i j hij hj=>?_)
  rw [pairsOf_size] at hj
  have:i=j:=by simp at hj;lia
  subst this
  exact Int.le_refl _
 | v₁ :: v₂ :: rest,lens,h0,hz,done,ho,ho2,i1,i2 =>
  have two:¬ (v₁ :: v₂ :: rest).toArray.size < 2:=by rw [lens];simp
  rw [if_neg two,if_neg two]
  refine wpAny_bind (zkg hT i2 (wpAny_bind (wpAny_mono (zdP (a₀:=pairsOf (v₁ :: v₂ :: rest)) (st:=SortSt.mk' oneType' ((v₁ :: v₂ :: rest).toArray.zip (v₁ :: v₂ :: rest).toArray) #[] 7 none)
   (Q:=fun _ st'=>(arrOf st').Perm (pairsOf (v₁ :: v₂ :: rest))∧failedOf st'=none∧zcC (arrOf st') (pairsOf (v₁ :: v₂ :: rest)).size) h0 ⟨Array.Perm.refl _,rfl,rfl⟩ rfl
   (by rw [pairsOf_size];simp) fun st' z1 z2 z3=>⟨z1,z2,z3⟩) ?_ fun _ _ z=>z)))
  rintro ⟨⟨⟩,st'⟩ s' ⟨rfl,q1,q2,q3⟩
  dsimp only
  refine wpAny_bind (seqEpoch_at ho2 rfl (wpAny_bind (listUpdate_at ho2 rfl ?_ (hsz2:=?_))))
  ·rw [q2]
   simp only [bne_self_eq_false,Bool.false_eq_true,if_false]
   exact wpAny_pure (done st' q1 q3)
  ·have e:((arrOf st').map (·.2)).size=(v₁ :: v₂ :: rest).length:=by rw [Array.size_map,q1.size_eq,pairsOf_size]
   show ((arrOf st').map (·.2)).size≤sizeLine + 1
   lia
theorem zfR {T:String} {l:Addr} {vs:List Value} {Q:Value→Shared→Prop} (hl:s.heap.IsList l vs.toArray) (h0:za7 (pairsOf vs)) (hz:vs.length≤sizeLine) (hT:(Value.type T != Value.type "tuple")=true)
  (hL:∀ h':Heap,(∀ b o,s.heap.get? b=some o→h'.get? b=some o)→∀ E,SKL prog w X.in1.in1 E { s with heap:=h' }∧∀ u∈vs,({ s with heap:=h' }:Shared).TypeIs u T)
  (h:∀ out:Array Keyed,out.Perm (pairsOf vs)→zcC out (pairsOf vs).size→Q (.ref (s.heap.objs.size + 1)) { s with heap:=sortedAll s.heap vs (out.map (·.2)) }) :
  wpAny (model prog w) X (call (.builtin "sorted") [.ref l]) Q E s:=by
 refine Calls.call_function_entry kind_sorted plain_sorted entry_sorted (args_sorted1 _) ?_
 unfold Builtin.«sorted»
 refine wpAny_bind (m:=checkCount "sorted" 1 1 _) (wpAny_pure (wpAny_bind (collect_list hl ?_ hz)))
 refine wpAny_bind (wpAny_newList ?_ (hsz:=hz))
 have e1:((s.heap.push (seqObj "list" #[] 0)).update s.heap.objs.size (Obj.mapSeq (· ++ vs.toArray))).objs.size=s.heap.objs.size + 1:=by rw [Heap.size_update,size_push']
 have e2:(((s.heap.push (seqObj "list" #[] 0)).update s.heap.objs.size (Obj.mapSeq (· ++ vs.toArray))).push (seqObj "list" vs.toArray 0)).get? (s.heap.objs.size + 1)=some (seqObj "list" vs.toArray 0):=by
  have z:=Heap.get?_push_size ((s.heap.push (seqObj "list" #[] 0)).update s.heap.objs.size (Obj.mapSeq (· ++ vs.toArray))) (o:=seqObj "list" vs.toArray 0) rfl
  rw [e1] at z
  exact z
 show wpAny _ _ _ _ _ { s with heap:=(((s.heap.push (seqObj "list" #[] 0)).update s.heap.objs.size (Obj.mapSeq (· ++ vs.toArray))).push (seqObj "list" vs.toArray 0)) }
 rw [e1]
 refine wpAny_bind (wpAny_holding (wpAny_call_entry slot_list_sort ⟨_,e2,rfl⟩ entry_list_sort (zd3 e2 h0 hz hT (fun h' k=>hL h' (fun b o e=>k b o (fun q=>absurd (Heap.lt_size e) (by rw [q];exact Nat.not_lt.mpr (Nat.le_succ _))) (Heap.get?_push_of_some _ (by rw [Heap.get?_update_other _ _ (fun q=>absurd (Heap.lt_size e) (by rw [← q];exact Nat.lt_irrefl _))];exact Heap.get?_push_of_some _ e))) _) fun out z1 z2=>⟨_,rfl,wpAny_pure ⟨_,rfl,h out z1 z2⟩⟩) (args_list_sort _)))
end
section
variable {prog:Program} {w:World} {X:Around} {E:Value→Shared→Prop} {s:Shared}
theorem zfu:∀ {vs:List Value} {ns:List Int},IntsAre vs ns→∀ u∈vs,∃ n t,u=.int n t
 | _,_,.nil,u,h=>nomatch h
 | _,_,.cons n t r,u,h=>by
  rcases List.mem_cons.mp h with rfl | h
  ·exact⟨n,t,rfl⟩
  ·exact zfu r u h
@[reducible] noncomputable def zgL:SK:=⟨fun p=>numOf p.1,fun p=>∃ n t,p.1=.int n t⟩
theorem zku:@SKL prog w X E s zgL:=by
 refine @SKL.mk prog w X E s zgL ?_
 rintro st x y Q hk ⟨a,t,ea⟩ ⟨b,u,eb⟩ h
 rw [lt'_eq]
 refine wpS_bind (wpS_get ?_)
 rw [hk,keyLt'_oneType,ea,eb]
 refine wpS_bind (wpS_lift (wpAny_attempt (oneLt_int ⟨rfl,?_⟩)))
 have e1:@key zgL x=a:=by show numOf x.1=a;rw [ea];rfl
 have e2:@key zgL y=b:=by show numOf y.1=b;rw [eb];rfl
 rw [e1,e2] at h
 exact wpS_pure h
theorem sorted_any {l:Addr} {vs:List Value} {ns:List Int} {Q:Value→Shared→Prop} (hl:s.heap.IsList l vs.toArray) (hI:IntsAre vs ns) (hz:vs.length≤sizeLine)
  (h:∀ (out:Array Value) (ns':List Int),IntsAre out.toList ns'→ns'.Perm ns→ns'.Pairwise (·≤·)→Q (.ref (s.heap.objs.size + 1)) { s with heap:=sortedAll s.heap vs out }) :
  wpAny (model prog w) X (call (.builtin "sorted") [.ref l]) Q E s:=by
 refine @zfR prog w X E s zgL "int" l vs Q hl hI.intKeys hz (by decide) (fun h' _ E=>⟨zku,fun u hu=>?_⟩) fun out q1 q2=>?_
 ·obtain⟨n,t,rfl⟩:=zfu hI u hu
  rfl
 ·obtain⟨ns',z1,z2,z3⟩:=sorted_out hI q1 q2
  exact h _ ns' z1 z2 z3
end
end Srt
namespace L2
open PySem PySem.Spec PyProof.Rows
noncomputable def zbi (cells cs:List (Str×Addr)) (x:Str×NameKind):List (Str×Addr):=if (x.2 == .free)=true then (x.1,(cells.lookup x.1).getD 0) :: cs else cs
noncomputable def zcb (cells:List (Str×Addr)) (names:List (Str×NameKind)):List (Str×Addr):=names.foldl (zbi cells) []
theorem zbS {α β:Type} (f:α→β→Sem (ForInStep β)) (g:β→α→β):∀ (l:List α) (b:β),(∀ x∈l,∀ b,f x b=pure (.yield (g b x)))→forIn l b f=(pure (l.foldl g b):Sem β)
 | [],b,_=>by rw [List.forIn_nil];rfl
 | x :: l,b,h=>by
  rw [List.forIn_cons,h x List.mem_cons_self b,pure_bind]
  exact zbS f g l (g b x) fun y hy=>h y (List.mem_cons_of_mem _ hy)
theorem zd8 {scope:Scope} {env:Env} (h:∀ x∈scope.names,x.2=.free→∃ c,env.cells.lookup x.1=some c) :
  closureFor scope env=pure (zcb env.cells scope.names):=by
 unfold closureFor zcb
 dsimp only
 rw [zbS _ (zbi env.cells) _ _ fun x hx cs=>?_]
 ·rfl
 ·obtain⟨n,k⟩:=x
  unfold zbi
  cases hk:k == NameKind.free with
  | false=>simp [hk]
  | true =>
   obtain⟨c,hc⟩:=h (n,k) hx (by simpa using hk)
   have hc':env.cells.lookup n=some c:=hc
   simp only [hk,if_true]
   unfold cellOf
   rw [hc']
   rfl
theorem zc2 {cells:List (Str×Addr)}:∀ (names:List (Str×NameKind)) (acc:List (Str×Addr)) (p:Str×Addr),p∈names.foldl (zbi cells) acc→p∈acc∨((p.1,NameKind.free)∈names∧p.2=(cells.lookup p.1).getD 0)
 | [],acc,p,h=>.inl h
 | (n,k) :: r,acc,p,h=>by
  rw [List.foldl_cons] at h
  rcases zc2 r _ p h with h | ⟨h1,h2⟩
  ·unfold zbi at h
   split at h
   ·rename_i hk
    have hk':k=.free:=by simpa using hk
    subst hk'
    rcases List.mem_cons.mp h with e | h
    ·subst e;exact .inr ⟨List.mem_cons_self,rfl⟩
    ·exact .inl h
   ·exact .inl h
  ·exact .inr ⟨List.mem_cons_of_mem _ h1,h2⟩
theorem zes {cells:List (Str×Addr)} {x:Str}:∀ (names:List (Str×NameKind)) (acc:List (Str×Addr)),acc.lookup x=some ((cells.lookup x).getD 0)→(names.foldl (zbi cells) acc).lookup x=some ((cells.lookup x).getD 0)
 | [],acc,h=>h
 | (n,k) :: r,acc,h=>by
  rw [List.foldl_cons]
  refine zes r _ ?_
  unfold zbi
  split
  ·rw [List.lookup_cons]
   cases e:x == n with
   | true=>rw [beq_iff_eq.mp e]
   | false=>exact h
  ·exact h
theorem zco {cells:List (Str×Addr)} {x:Str}:∀ (names:List (Str×NameKind)) (acc:List (Str×Addr)),(x,NameKind.free)∈names→(names.foldl (zbi cells) acc).lookup x=some ((cells.lookup x).getD 0)
 | (n,k) :: r,acc,h=>by
  rw [List.foldl_cons]
  rcases List.mem_cons.mp h with e | h
  ·cases e
   refine zes r _ ?_
   unfold zbi
   rw [if_pos (by rfl),List.lookup_cons]
   simp
  ·exact zco r _ h
theorem zgW:∀ (names:List (Str×NameKind)) (n:Nat) (acc:List (Str×Addr)) (p:Str×Addr),p∈cellsFrom n names acc→p∈acc∨(n≤p.2∧(p.1,NameKind.cell)∈names)
 | [],_,_,_,h=>.inl h
 | (x,k) :: r,n,acc,p,h=>by
  unfold cellsFrom at h
  split at h
  ·rename_i hk
   have hk':k=.cell:=by simpa using hk
   subst hk'
   rcases zgW r _ _ p h with h | ⟨h1,h2⟩
   ·rcases List.mem_cons.mp h with e | h
    ·subst e;exact .inr ⟨Nat.le_refl _,List.mem_cons_self⟩
    ·exact .inl h
   ·exact .inr ⟨by lia,List.mem_cons_of_mem _ h2⟩
  ·rcases zgW r _ _ p h with h | ⟨h1,h2⟩
   ·exact .inl h
   ·exact .inr ⟨h1,List.mem_cons_of_mem _ h2⟩
theorem zgX:∀ (names:List (Str×NameKind)) (n:Nat) (acc:List (Str×Addr)),(∀ p∈acc,p.2 < n)→(∀ p∈acc,∀ q∈acc,p.2=q.2→p.1=q.1) →
  ∀ p∈cellsFrom n names acc,∀ q∈cellsFrom n names acc,p.2=q.2→p.1=q.1
 | [],_,_,_,h=>h
 | (x,k) :: r,n,acc,hl,h=>by
  unfold cellsFrom
  split
  ·refine zgX r (n + 1) ((x,n) :: acc) (fun p hp=>?_) fun p hp q hq e=>?_
   ·rcases List.mem_cons.mp hp with z | hp
    ·subst z;exact Nat.lt_succ_self _
    ·exact Nat.lt_succ_of_lt (hl p hp)
   ·rcases List.mem_cons.mp hp with z | hp <;> rcases List.mem_cons.mp hq with z' | hq
    ·rw [z,z']
    ·subst z
     have h1:q.2 < n:=hl q hq
     have e':n=q.2:=e
     rw [← e'] at h1
     exact absurd h1 (Nat.lt_irrefl _)
    ·subst z'
     have h1:p.2 < n:=hl p hp
     have e':p.2=n:=e
     rw [e'] at h1
     exact absurd h1 (Nat.lt_irrefl _)
    ·exact h p hp q hq e
  ·exact zgX r n acc hl h
theorem zc3 {x:Str}:∀ (names:List (Str×NameKind)) (n:Nat) (acc:List (Str×Addr)),(x,NameKind.cell)∉names→(cellsFrom n names acc).lookup x=acc.lookup x
 | [],_,_,_=>rfl
 | (y,k) :: r,n,acc,h=>by
  have hr:(x,NameKind.cell)∉r:=fun z=>h (List.mem_cons_of_mem _ z)
  unfold cellsFrom
  split
  ·rename_i hk
   have hk':k=.cell:=by simpa using hk
   subst hk'
   rw [zc3 r _ _ hr,List.lookup_cons]
   cases e:x == y with
   | true=>exact absurd (by rw [beq_iff_eq.mp e];exact List.mem_cons_self) h
   | false=>rfl
  ·exact zc3 r _ _ hr
theorem ze1:∀ (names:List (Str×NameKind)) (h:Heap) (acc:List (Str×Addr)) (p:Str×Addr),p∈cellsFrom h.objs.size names acc→p∈acc∨(pushCells h names).IsCell p.2 none
 | [],_,_,_,q=>.inl q
 | (y,k) :: r,h,acc,p,q=>by
  unfold cellsFrom at q
  unfold pushCells
  split at q
  ·rename_i hk
   rw [if_pos hk]
   have e:h.objs.size + 1=(h.push { cls:=.type "cell", data:=.cell none }).objs.size:=(Heap.size_push ..).symm
   rw [e] at q
   rcases ze1 r _ _ p q with q | q
   ·rcases List.mem_cons.mp q with z | q
    ·subst z
     refine .inr ⟨_,pushCells_keeps _ _ _ _ (Heap.get?_push_size _ rfl),rfl⟩
    ·exact .inl q
   ·exact .inr q
  ·rename_i hk
   rw [if_neg hk]
   exact ze1 r _ _ p q
theorem zcs {M:Model} {A:Around} {E:Value→Shared→Prop} {s:Shared} {scope:Scope} {env:Env} {cl:List (Str×Addr)} {Q:Env→Shared→Prop}
  (hQ:Q (newEnv scope s.heap.objs.size env.globals (cellsFrom (s.heap.objs.size + 1) scope.names cl) env.qual none .none (some env) builtinsNs)
   { s with heap:=pushCells (s.heap.push { cls:=.type "dict", data:=.dict #[] }) scope.names }) :
  wpAny M A (newFunctionEnv scope env.globals cl [] env.qual none .none (some env)) Q E s:=by
 simp only [newFunctionEnv,Option.isSome_some,if_true]
 refine wpAny_bind (wpAny_alloc ?_)
 refine wpAny_bind (wpAny_layCells _ (fun name kind cells=>by cases hkc:kind == NameKind.cell <;> simp [hkc]) _ _ _ _ ?_)
 rw [List.forIn_nil]
 refine wpAny_bind (wpAny_pure (wpAny_pure ?_))
 have e:({ s with heap:=s.heap.push { cls:=.type "dict", data:=.dict #[] } }:Shared).heap.objs.size=s.heap.objs.size + 1:=Heap.size_push ..
 rw [e]
 exact hQ
noncomputable def zdp (env:Env) (scope:Scope) (C:Addr):Env:=
 { scope:=relabel scope env,locals:=C,globals:=env.globals,cells:=cellsFrom (C + 1) scope.names (zcb env.cells scope.names),qual:=env.qual,func:=none,code:=env.code,frame:=env.frame,builtins:=env.builtins }
noncomputable def cxB (X:Cx) (N':List Str) (scope:Scope) (C:Addr) (s₂:Shared) (H₂:Hp) (fp:List Addr) (pn:List (Addr×Obj)):Cx:=
 { X with N:=N',s₀:=s₂,H₀:=H₂,env:=zdp X.env scope C,outer:=X.stack,ex:=fp,fn:=fun x=>scope.names.lookup x == some .cell,pn:=pn,xe:=fun _ _=>False }
noncomputable def zfp:List Str→Bool
 | []=>true
 | x :: r=>!r.contains x && zfp r
theorem zap:∀ {l:List Str},zfp l=true→l.Nodup
 | [],_=>List.nodup_nil
 | x :: r,h=>by
  unfold zfp at h
  rw [Bool.and_eq_true] at h
  refine List.nodup_cons.mpr ⟨fun hm=>?_,zap h.2⟩
  have h1:=h.1
  rw [List.contains_iff_mem.mpr hm] at h1
  cases h1
noncomputable def zkD (env:Env) (scope:Scope):Bool:=
 scope.kind == .function && zfp (scope.names.map (·.1)) && scope.names.all fun x=>!(x.2 == .free) || env.kindOf x.1 == some .cell || env.kindOf x.1 == some .free
structure Blk (env:Env) (scope:Scope):Prop where
 kind:scope.kind=.function
 nd:(scope.names.map (·.1)).Nodup
 cap:∀ x∈scope.names,x.2=.free→env.kindOf x.1=some .cell∨env.kindOf x.1=some .free
theorem Blk.of {env:Env} {scope:Scope} (h:zkD env scope=true):Blk env scope:=by
 unfold zkD at h
 rw [Bool.and_eq_true,Bool.and_eq_true] at h
 obtain⟨⟨h1,h2⟩,h3⟩:=h
 refine ⟨by simpa using h1,zap h2,fun x hx hf=>?_⟩
 have h4:=List.all_eq_true.mp h3 x hx
 rw [Bool.or_eq_true,Bool.or_eq_true] at h4
 rcases h4 with (h4 | h4) | h4
 ·rw [hf] at h4
  exact absurd h4 (by decide)
 ·exact .inl (by simpa using h4)
 ·exact .inr (by simpa using h4)
theorem zaP {α:Type}:∀ {l:List (Str×α)} {x:Str} {v:α},(l.map (·.1)).Nodup→(x,v)∈l→l.lookup x=some v
 | (y,u) :: r,x,v,nd,h=>by
  rw [List.map_cons] at nd
  obtain⟨n1,n2⟩:=List.nodup_cons.mp nd
  rw [List.lookup_cons]
  rcases List.mem_cons.mp h with e | hr
  ·cases e;simp
  ·have hne:(x == y)=false:=by
    cases e:x == y with
    | false=>rfl
    | true =>
     have e':=beq_iff_eq.mp e
     refine absurd ?_ n1
     rw [← e']
     exact (show x∈r.map (fun p:Str×α=>p.1) from List.mem_map_of_mem (a:=(x,v)) hr)
   rw [hne]
   exact zaP n2 hr
theorem za8 {env:Env} {x:Str} {k':NameKind}:∀ {names:List (Str×NameKind)},
  (names.map fun (n,k)=>if (k == NameKind.free && env.scope.kind == .function && env.kindOf n == some .cell) then (n,NameKind.cell) else (n,k)).lookup x=some k' →
  ∃ k,names.lookup x=some k∧(k'=k∨k=.free)
 | [],h=>by simp at h
 | (n,k) :: r,h=>by
  have ih:=@za8 env x k' r
  have hh:((if (k == NameKind.free && env.scope.kind == .function && env.kindOf n == some .cell)=true then (n,NameKind.cell) else (n,k)) :: r.map fun (n,k)=>if (k == NameKind.free && env.scope.kind == .function && env.kindOf n == some .cell) then (n,NameKind.cell) else (n,k)).lookup x=some k':=h
  by_cases hc:(k == NameKind.free && env.scope.kind == .function && env.kindOf n == some .cell)=true
  ·rw [if_pos hc,List.lookup_cons] at hh
   rw [List.lookup_cons]
   cases e:x == n with
   | true =>
    refine ⟨k,rfl,.inr ?_⟩
    rw [Bool.and_eq_true,Bool.and_eq_true] at hc
    simpa using hc.1.1
   | false =>
    rw [e] at hh
    exact ih hh
  ·rw [if_neg hc,List.lookup_cons] at hh
   rw [List.lookup_cons]
   cases e:x == n with
   | true =>
    rw [e] at hh
    exact⟨k,rfl,.inl (Option.some.inj hh).symm⟩
   | false =>
    rw [e] at hh
    exact ih hh
theorem zbK {env:Env} {x:Str}:∀ {names:List (Str×NameKind)},names.lookup x=some .free →
  (names.map fun (n,k)=>if (k == NameKind.free && env.scope.kind == .function && env.kindOf n == some .cell) then (n,NameKind.cell) else (n,k)).lookup x≠some .local
 | [],h=>by simp at h
 | (n,k) :: r,h=>fun h'=>by
  have hh:((if (k == NameKind.free && env.scope.kind == .function && env.kindOf n == some .cell)=true then (n,NameKind.cell) else (n,k)) :: r.map fun (n,k)=>if (k == NameKind.free && env.scope.kind == .function && env.kindOf n == some .cell) then (n,NameKind.cell) else (n,k)).lookup x=some .local:=h'
  rw [List.lookup_cons] at h
  by_cases hc:(k == NameKind.free && env.scope.kind == .function && env.kindOf n == some .cell)=true
  ·rw [if_pos hc,List.lookup_cons] at hh
   cases e:x == n with
   | true=>rw [e] at hh;cases hh
   | false=>rw [e] at hh h;exact zbK h hh
  ·rw [if_neg hc,List.lookup_cons] at hh
   cases e:x == n with
   | true=>rw [e] at hh h;cases h;cases hh
   | false=>rw [e] at hh h;exact zbK h hh
noncomputable def inner (ix:List (Option Nat)) (σ:St):St:=ix.map fun o=>o.bind fun j=>(σ[j]?).join
noncomputable def ixOk (N N':List Str) (scope:Scope) (ix:List (Option Nat)):Bool:=
 ix.length == N'.length && (ix.zip N').all fun p=>match p.1 with
  | none=>true
  | some j=>N[j]? == some p.2 && scope.names.lookup p.2 == some .free
section
variable {X:Cx} {pins:List (Addr×Obj)} {σ:St} {H:Hp} {s:Shared} {scope:Scope}
theorem Inv.stk_lt (I:Inv X pins σ H s) {b:Addr} (hb:b∈frs X.stack):b < s.heap.objs.size:=by
 rcases List.mem_cons.mp (I.stkSub b hb) with e | hb
 ·rw [e];exact I.lt
 ·by_cases h:b < s.heap.objs.size
  ·exact h
  ·exact absurd hb (I.nofs (Nat.le_of_not_lt h))
theorem zfG (B:Blk X.env scope) (I:Inv X pins σ H s):closureFor scope X.env=pure (zcb X.env.cells scope.names):=
 zd8 fun x hx hf=>I.ok.has x.1 (B.cap x hx hf)
theorem zcA (B:Blk X.env scope) (I:Inv X pins σ H s) {C:Addr} {p:Str×Addr} (h:p∈cellsFrom (C + 1) scope.names (zcb X.env.cells scope.names)) :
  (X.env.cells.lookup p.1=some p.2∧(p.1,NameKind.free)∈scope.names)∨(C + 1≤p.2∧(p.1,NameKind.cell)∈scope.names):=by
 rcases zgW _ _ _ p h with h | h
 ·rcases zc2 _ _ p h with h | ⟨h1,h2⟩
  ·exact absurd h (by simp)
  ·obtain⟨c,hc⟩:=I.ok.has p.1 (B.cap _ h1 rfl)
   rw [hc] at h2
   exact .inl ⟨by rw [hc,h2];rfl,h1⟩
 ·exact .inr h
theorem Inv.cell_lt (I:Inv X pins σ H s) {x:Str} {c:Addr} (h:X.env.cells.lookup x=some c):c < s.heap.objs.size:=by
 obtain⟨v,z⟩:=I.cell x c h
 exact z.lt
noncomputable def zaU (h:Heap) (scope:Scope):Heap:=pushCells ((h.push { cls:=.type "list", data:=.seq ([]:List Value).toArray }).push { cls:=.type "dict", data:=.dict #[] }) scope.names
theorem zbG {h:Heap} {scope:Scope} {b:Addr} {o:Obj} (e:h.get? b=some o):(zaU h scope).get? b=some o:=
 pushCells_keeps _ _ _ _ (Heap.get?_push_of_some _ (Heap.get?_push_of_some _ e))
theorem zgZ {N':List Str} {C:Addr} {fp:List Addr} (B:Blk X.env scope) (I:Inv X pins σ H s) (hC:C=s.heap.objs.size + 1) (hf:∀ b∈fp,FpOk X pins H b) (hfl:∀ b∈fp,b < s.heap.objs.size) :
  (cxB X N' scope C s H fp (X.pn ++ pins)).Ok:=by
 have nd:=B.nd
 refine ⟨I.ok.mod,B.kind,I.ok.glob,I.ok.blt,(by show s.heap.objs.size≤C;rw [hC];exact Nat.le_succ _),fun x y c h1 h2=>?_,fun x hx=>?_,fun x c hfn h=>?_,I.ok.hd,I.ok.frames,.inl rfl,fun b hb=>⟨?_,fun x c h z=>?_⟩,I.bs,
  Nat.le_trans I.ok.bsz I.sz,fun b o e hb=>?_,fun b hb hm=>?_,I.stack,I.stkFree⟩
 ·have hlt:∀ p∈zcb X.env.cells scope.names,p.2 < C + 1∧X.env.cells.lookup p.1=some p.2:=fun p hp=>by
   rcases zc2 _ _ p hp with h | ⟨h1,h2⟩
   ·exact absurd h (by simp)
   ·obtain⟨c,hc⟩:=I.ok.has p.1 (B.cap _ h1 rfl)
    rw [hc] at h2
    have:=I.cell_lt hc
    have e:p.2=c:=h2
    exact⟨by rw [e,hC];exact Nat.lt_succ_of_lt (Nat.lt_succ_of_lt this),by rw [hc,e]⟩
  exact zgX _ _ _ (fun p hp=>(hlt p hp).1) (fun p hp q hq e=>I.ok.inj _ _ _ (hlt p hp).2 (by rw [e];exact (hlt q hq).2)) (x,c) (PySem.mem_of_lookup h1) (y,c) (PySem.mem_of_lookup h2) rfl
 ·have hx':(relabel scope X.env).names.lookup x=some .cell∨(relabel scope X.env).names.lookup x=some .free:=hx
  have:∃ k,scope.names.lookup x=some k∧(k=.cell∨k=.free):=by
   rcases hx' with h | h
   ·obtain⟨k,h1,h2⟩:=za8 h
    rcases h2 with h2 | h2
    ·exact⟨k,h1,.inl h2.symm⟩
    ·exact⟨k,h1,.inr h2⟩
   ·obtain⟨k,h1,h2⟩:=za8 h
    rcases h2 with h2 | h2
    ·exact⟨k,h1,.inr h2.symm⟩
    ·exact⟨k,h1,.inr h2⟩
  obtain⟨k,h1,h2⟩:=this
  rcases h2 with rfl | rfl
  ·exact Option.isSome_iff_exists.mp (PySem.W.cellsFrom_some scope.names (C + 1) _ (.inl h1))
  ·refine ⟨_,(zc3 _ _ _ fun hm=>?_).trans (zco _ _ (PySem.mem_of_lookup h1))⟩
   have:=zaP nd hm
   rw [h1] at this
   cases this
 ·have hfn':scope.names.lookup x=some .cell:=by simpa [cxB] using hfn
  rcases zcA B I (PySem.mem_of_lookup h) with ⟨_,h1⟩ | ⟨h1,_⟩
  ·have:=zaP nd h1
   rw [hfn'] at this
   cases this
  ·show s.heap.objs.size≤c
   have h1':C + 1≤c:=h1
   rw [hC] at h1'
   exact Nat.le_trans (Nat.le_add_right _ 2) h1'
 ·have:=hfl b hb
  show b≠C
  rw [hC]
  exact Nat.ne_of_lt (Nat.lt_succ_of_lt this)
 ·subst z
  have h':(cellsFrom (C + 1) scope.names (zcb X.env.cells scope.names)).lookup x=some c:=h
  rcases zcA B I (PySem.mem_of_lookup h') with ⟨h1,_⟩ | ⟨h1,_⟩
  ·exact (hf c hb).2.2.2.2.1 x c h1 rfl
  ·have:=hfl c hb
   have h1':C + 1≤c:=h1
   rw [hC] at h1'
   exact absurd (Nat.lt_of_lt_of_le this (Nat.le_trans (Nat.le_add_right _ 2) h1')) (Nat.lt_irrefl _)
 ·rcases (hf b hb).2.2.2.1 with z | z
  ·exact I.ok.noex b o e z
  ·exact absurd (Nat.lt_of_lt_of_le (Heap.lt_size e) (Nat.le_trans I.ok.bsz z)) (Nat.lt_irrefl _)
 ·obtain⟨_,h2,h3,_⟩:=hf b hb
  rcases List.mem_cons.mp (I.stkSub b hm) with e | e
  ·exact h2 e
  ·exact h3 e
theorem zev {N':List Str} {ix:List (Option Nat)} {fp:List Addr} (B:Blk X.env scope) (hix:ixOk X.N N' scope ix=true) (I:Inv X pins σ H s) (hf:∀ b∈fp,FpOk X pins H b) (hfl:∀ b∈fp,b < s.heap.objs.size) :
  Inv (cxB X N' scope (s.heap.objs.size + 1) s H fp (X.pn ++ pins)) [] (inner ix σ) H { s with heap:=zaU s.heap scope }:=by
 unfold ixOk at hix
 rw [Bool.and_eq_true] at hix
 have hlen:ix.length=N'.length:=by simpa using hix.1
 have old:∀ b o,s.heap.get? b=some o→(zaU s.heap scope).get? b=some o:=fun b o e=>zbG e
 have e1:(s.heap.push { cls:=.type "list", data:=.seq ([]:List Value).toArray }).objs.size=s.heap.objs.size + 1:=Heap.size_push ..
 have e2:((s.heap.push { cls:=.type "list", data:=.seq ([]:List Value).toArray }).push { cls:=.type "dict", data:=.dict #[] }).objs.size=s.heap.objs.size + 1 + 1:=by rw [Heap.size_push,e1]
 have ns:(zaU s.heap scope).Ns (s.heap.objs.size + 1) (fun _=>none):=by
  have q:=(Heap.Ns.new (s.heap.push { cls:=.type "list", data:=.seq ([]:List Value).toArray }) (.type "dict"))
  rw [e1] at q
  exact q.keeps fun b o e=>pushCells_keeps _ _ _ _ e
 have cellsOk:∀ x c,(cellsFrom (s.heap.objs.size + 1 + 1) scope.names (zcb X.env.cells scope.names)).lookup x=some c→(∃ v,(zaU s.heap scope).IsCell c v)∧H c=none:=fun x c h=>by
  rcases zcA B I (PySem.mem_of_lookup h) with ⟨h1,_⟩ | ⟨h1,_⟩
  ·have h1':X.env.cells.lookup x=some c:=h1
   obtain⟨v,z⟩:=I.cell x c h1'
   exact⟨⟨v,z.keeps old⟩,I.freeC x c h1'⟩
  ·have h1':s.heap.objs.size + 1 + 1≤c:=h1
   refine ⟨?_,I.hok.fresh (Nat.le_trans (Nat.le_add_right _ 2) h1')⟩
   have q:=PySem.mem_of_lookup h
   rw [← e2] at q
   rcases ze1 _ _ _ _ q with q | q
   ·rcases zc2 _ _ _ q with q | ⟨q1,q2⟩
    ·exact absurd q (by simp)
    ·obtain⟨c',hc'⟩:=I.ok.has x (B.cap _ q1 rfl)
     have q2':c=(X.env.cells.lookup x).getD 0:=q2
     rw [hc'] at q2'
     have:=I.cell_lt hc'
     have e:c=c':=q2'
     rw [e] at h1'
     exact absurd (Nat.lt_of_lt_of_le this (Nat.le_trans (Nat.le_add_right _ 2) h1')) (Nat.lt_irrefl _)
   ·exact⟨_,q⟩
 refine ⟨zgZ B I rfl hf hfl,rfl,I.bare,Un.kept old,⟨_,ns,fun i x v e1 e2 e3=>?_⟩,fun x c h=>(cellsOk x c h).1,I.hok.fresh (by show s.heap.objs.size≤s.heap.objs.size + 1;lia),fun x c h=>(cellsOk x c h).2,fun p hp=>?_,I.hok.kept old,?_⟩
 ·have e1':N'[i]? = some x:=e1
  unfold inner at e2
  rw [List.getElem?_map] at e2
  cases q:ix[i]? with
  | none=>rw [q] at e2;cases e2
  | some o =>
   rw [q] at e2
   cases o with
   | none=>cases e2
   | some j =>
    have e2':(σ[j]?).join=some v:=Option.some.inj e2
    have hσ:σ[j]? = some (some v):=by
     cases z:σ[j]? with
     | none=>rw [z] at e2';cases e2'
     | some o'=>rw [z] at e2';cases o' with
      | none=>cases e2'
      | some v'=>cases e2';rfl
    have hm:(some j,x)∈ix.zip N':=List.mem_of_getElem? (by rw [List.getElem?_zip_eq_some];exact⟨q,e1'⟩)
    have hz:=List.all_eq_true.mp hix.2 _ hm
    rw [Bool.and_eq_true] at hz
    have hN:X.N[j]? = some x:=by simpa using hz.1
    have hfr:scope.names.lookup x=some .free:=by simpa using hz.2
    have hmem:=PySem.mem_of_lookup hfr
    have hk:=B.cap (x,.free) hmem rfl
    obtain⟨m,hn,hl⟩:=I.loc
    have vis:Vis X.env.scope x:=by
     rcases hk with k | k
     ·exact .inr (.inl k)
     ·exact .inr (.inr k)
    obtain⟨u,r,l⟩:=hl j x v hN hσ vis
    refine ⟨u,r,?_⟩
    rcases l with ⟨k,_⟩ | ⟨k,c,hc,hcell⟩
    ·rcases hk with k' | k'
     ·have:X.env.kindOf x=some .cell:=k'
      rw [k] at this;cases this
     ·have:X.env.kindOf x=some .free:=k'
      rw [k] at this;cases this
    ·have hne:(x,NameKind.cell)∉scope.names:=fun z=>by
      have:=zaP B.nd z
      rw [hfr] at this;cases this
     have hcl:(cellsFrom (s.heap.objs.size + 1 + 1) scope.names (zcb X.env.cells scope.names)).lookup x=some c:=by
      rw [zc3 _ _ _ hne]
      unfold zcb
      rw [zco _ _ hmem,hc]
      rfl
     refine .inr ⟨?_,c,hcl,hcell.keeps old⟩
     have hvis:(relabel scope X.env).names.lookup x=some .local∨(relabel scope X.env).names.lookup x=some .cell∨(relabel scope X.env).names.lookup x=some .free:=e3
     rcases hvis with z | z
     ·obtain⟨k',h1,h2⟩:=za8 z
      rw [hfr] at h1
      cases h1
      rcases h2 with h2 | h2
      ·cases h2
      ·exfalso
       exact zbK hfr z
     ·exact z
 ·have hp':p∈(X.pn ++ pins) ++ []:=hp
  rw [List.append_nil] at hp'
  obtain⟨e,n,ne,nf,d⟩:=I.pin p hp'
  refine ⟨old _ _ e,n,?_,fun hm=>?_,d⟩
  ·have:=Heap.lt_size e
   show p.1≠s.heap.objs.size + 1
   exact Nat.ne_of_lt (Nat.lt_succ_of_lt this)
  ·rcases List.mem_cons.mp (I.stkSub p.1 hm) with z | z
   ·exact ne z
   ·exact nf z
 ·show (inner ix σ).length=N'.length
  unfold inner
  rw [List.length_map,hlen]
end
end L2
namespace L2
open PySem PySem.Spec PyProof.Rows
structure Loose (X:Cx) (pins:List (Addr×Obj)) (H:Hp) (C:Addr):Prop where
 free:H C=none
 ne:C≠X.env.locals
 ab:X.s₀.heap.objs.size≤C
 cl:∀ x c,X.env.cells.lookup x=some c→c≠C
 pn:∀ p∈X.pn ++ pins,p.1≠C
theorem Inv.loose {X:Cx} {pins:List (Addr×Obj)} {σ:St} {H H':Hp} {s:Shared} {C:Addr} (I:Inv X pins σ H s) (hb:s.heap.objs.size≤C) (hn:H' C=none):Loose X pins H' C:=by
 obtain⟨h1,h2,h3,h4,h5,h6⟩:=I.fpOk (H':=H') hb hn
 exact⟨h1,h2,Nat.le_trans I.sz hb,h5,h6⟩
theorem Inv.loosed {X:Cx} {pins:List (Addr×Obj)} {σ:St} {H:Hp} {s:Shared} {C:Addr} {h':Heap} (I:Inv X pins σ H s) (L:Loose X pins H C) (hs:Heap.SameBut C s.heap h'):Inv X pins σ H { s with heap:=h' }:=
 I.turned (t':=s.toks) (fun b o hb e=>(hs.2 b hb).trans e) L.free L.ne (.inr L.ab) L.cl L.pn
section
variable {X:Cx} {scope:Scope} {N':List Str} {pins pl:List (Addr×Obj)} {σ σ':St} {H H':Hp} {s s':Shared} {fp:List Addr} {acc:List V} {its:List Value} {k:Nat}
theorem zg0 (I:Inv X pins σ H s) (hf:∀ b∈fp,FpOk X pins H b) (J:Inv (cxB X N' scope (s.heap.objs.size + 1) s H fp (X.pn ++ pins)) pl σ' H' s')
  (hD:s'.heap.get? s.heap.objs.size=some { cls:=.type "list", data:=.seq its.toArray k }) (rv:Vals acc its) (hz:acc.length≤sizeLine) (hD0:H' s.heap.objs.size=none) :
  Inv X pins σ (upd H' s.heap.objs.size (.lst acc)) s'∧Loose X pins (upd H' s.heap.objs.size (.lst acc)) (s.heap.objs.size + 1):=by
 have ub:Un (frs X.stack) fp H H' s.heap s'.heap:=J.base
 have hne:∀ b o,s.heap.get? b=some o→b≠s.heap.objs.size:=fun b o e=>Nat.ne_of_lt (Heap.lt_size e)
 have hsome:∀ b u,H' b=some u→b≠s.heap.objs.size:=fun b u e=>zaw e hD0
 refine ⟨I.call' (s':=s') (ch:=fp) J.os ⟨ub.keep,ub.slot,fun b o e n hx=>?_,ub.there,fun b xs e=>?_,fun b o u e=>?_,fun b ps e=>?_⟩ (fun b u e=>?_) J.bare fun b hb=>?_,?_⟩
 ·rw [zaq (hne b o e)];exact ub.free b o e n hx
 ·have:=ub.tups b xs e
  rw [zaq (hsome b _ this)];exact this
 ·have:=ub.frzs b o u e
  rw [zaq (hsome b _ this)];exact this
 ·obtain⟨more,this⟩:=ub.tbls b ps e
  exact⟨more,by rw [zaq (hsome b _ this)];exact this⟩
 ·by_cases hb:b=s.heap.objs.size
  ·subst hb
   rw [zaW] at e
   cases e
   exact⟨hz,its,k,rv,hD⟩
  ·rw [zaq hb] at e
   exact (J.hok b u e).stay (fun _ _ _ q=>q) (fun c q=>by rw [zaq (hsome c _ q)];exact q) fun c xs q=>by rw [zaq (hsome c _ q)];exact q
 ·obtain⟨_,h2,h3,h4,h5,h6⟩:=hf b hb
  exact⟨h4,h2,h5,h6⟩
 ·refine I.loose (Nat.le_succ _) ?_
  rw [zaq (Nat.succ_ne_self _)]
  exact J.free
end
section
variable {prog:Program} {w:World} {A:Around} {R:Result→Shared→Prop} {s:Shared}
theorem zcn {elt target iter:Expr} {scope:Scope} {pos:Pos} {it acc:Value} {env:Env} (I:Nat→Shared→Prop)
  (turn:∀ n s,I n s→wpAny (model prog w) A (pyNext it) (fun r s₁=>match r with
   | none=>R (.ok .next) s₁
   | some v=>wpAny (model prog w) A (letOwnedTupleGo target it v) (fun _ s₂=>wpAny (model prog w) A (assign target env v) (fun _ s₃=>wpAny (model prog w) A (eval elt env) (fun x s₄ =>
     wpAny (model prog w) A (call (.builtin "list.append") [acc,x]) (fun _ s₅=>∃ m,m < n∧I m s₅) (fun _ _=>False) s₄) (fun _ _=>False) s₃) (fun _ _=>False) s₂) (fun _ _=>False) s₁) (fun _ _=>False) s)
  (n:Nat) (h:I n s):codeAny (model prog w) A (.compLoop (.ListComp elt [⟨target,iter,[],0⟩] scope pos) 0 it acc env) R s:=by
 refine codeAny_loop rfl I (fun n s hI=>?_) n h
 show wpAny _ _ ((compTurn (.ListComp elt [⟨target,iter,[],0⟩] scope pos) 0 it acc env).onRaise (fun x=>do noteFrame x env;theTreesLotGoes x)) _ _ s
 refine wpAny_noted ?_
 rw [compTurn_list1]
 refine wpAny_bind (wpAny_standAt (wpAny_bind (wpAny_mono (turn n s hI) (fun r s₁ h₁=>?_) fun _ _ h'=>h'.elim)))
 cases r with
 | none=>exact wpAny_pure h₁
 | some v =>
  refine wpAny_bind (wpAny_mono h₁ (fun _ s₂ h₂=>?_) fun _ _ h'=>h'.elim)
  exact wpAny_bind (wpAny_mono h₂ (fun _ s₃ h₃=>wpAny_bind (wpAny_bind (wpAny_mono h₃ (fun x s₄ h₄=>wpAny_bind (wpAny_mono h₄
   (fun _ s₅ h₅=>wpAny_pure (wpAny_pure ⟨rfl,h₅⟩)) fun _ _ h'=>h'.elim)) fun _ _ h'=>h'.elim))) fun _ _ h'=>h'.elim)
end
def zii (ix:List (Option Nat)) (wi:TI) (g:TG) (te:TE):TE:=fun σ H Q=>wi σ H fun J H1=>∃ W:Nat→Nat→List V→St→Hp→Prop,(∃ m,W 0 m [] (inner ix σ) H1) ∧
 ∀ i m acc σ' H',W i m acc σ' H'→acc.length≤sizeLine∧((J.stop i H'∧∀ p,H' p=none→Q (.ref p) (upd H' p (.lst acc))) ∨
  (J.go i H'∧∀ x H2,J.yld i H' x H2→g x σ' H2 fun σ2 H3=>te σ2 H3 fun v H4=>∃ m',m' < m∧W (i + 1) m' (acc ++ [v]) σ2 H4))
section
variable {X:Cx} {elt tg iter:Expr} {scope:Scope} {pos:Pos} {wi:TI} {g:TG} {te:TE} {N':List Str} {ix:List (Option Nat)}
theorem zgV (B:Blk X.env scope) (hix:ixOk X.N N' scope ix=true) (hc:X.calm=true) (hi:PI X tg iter wi)
  (hg:∀ C s₂ H₂ fp pn,PG (cxB X N' scope C s₂ H₂ fp pn) tg g) (he:∀ C s₂ H₂ fp pn,PE (cxB X N' scope C s₂ H₂ fp pn) elt te) (hs:∀ x,foldedSetIterable iter X.env x=pure x)
  {pins:List (Addr×Obj)} {s:Shared} {σ:St} {H:Hp} {Q:VK} (I:Inv X pins σ H s) (h:zii ix wi g te σ H Q) (use:Option (Value→Sem Unit)) (QQ:Value→Shared→Prop)
  (hU:∀ D C H' acc s',Inv X pins σ (upd H' D (.lst acc)) s'→Loose X pins (upd H' D (.lst acc)) C→(∃ m,s'.heap.Ns C m)→Q (.ref D) (upd H' D (.lst acc))→compPost (model X.prog X.w) X.A X.xe use QQ (.ref D) C (.ok .next) s') :
  wpAny (model X.prog X.w) X.A (comprehension (.ListComp elt [⟨tg,iter,[],0⟩] scope pos) scope X.env (firstIterPos [⟨tg,iter,[],0⟩] pos) (newList []) false (eval iter X.env) use) QQ X.xe s:=by
 refine wpAny_comprehension_free rfl hs (zfG B I) B.kind (fun x hx hl=>?_) ?_
 ·obtain⟨n,k⟩:=x
  have hl':k=.local:=hl
  subst hl'
  exact zaP B.nd hx
 refine thn (hi pins s σ H _ I h) fun v s1 h1=>thn h1 fun itv s2 h2=>?_
 obtain⟨it,fp,tn,J,H2,e,I2,T,st2,f2,W,⟨m0,w0⟩,turn⟩:=h2
 subst e
 have hfl:∀ b∈fp,b < s2.heap.objs.size:=fun b hb=>by
  obtain⟨o,e,_⟩:=T.obj _ _ st2 b hb
  exact Heap.lt_size e
 refine wpAny_newObj_type ?_
 refine zcs ?_
 have e1:(s2.heap.push { cls:=.type "list", dict:=none,data:=.seq ([]:List Value).toArray }).objs.size=s2.heap.objs.size + 1:=Heap.size_push ..
 show codeAny (model X.prog X.w) X.A (.compStart (.ListComp elt [⟨tg,iter,[],0⟩] scope pos) 0 (.ref it) (.ref s2.heap.objs.size) (zdp X.env scope (s2.heap.push { cls:=.type "list", dict:=none,data:=.seq ([]:List Value).toArray }).objs.size))
  (compPost (model X.prog X.w) X.A X.xe use QQ (.ref s2.heap.objs.size) (s2.heap.push { cls:=.type "list", dict:=none,data:=.seq ([]:List Value).toArray }).objs.size) { s2 with heap:=zaU s2.heap scope }
 rw [e1]
 have old:∀ b o,s2.heap.get? b=some o→(zaU s2.heap scope).get? b=some o:=fun b o e=>zbG e
 have hst4:tn 0 (zaU s2.heap scope):=T.keep _ _ _ st2 fun b _ o e=>old b o e
 have hD4:(zaU s2.heap scope).get? s2.heap.objs.size=some { cls:=.type "list", data:=.seq ([]:List Value).toArray }:=
  pushCells_keeps _ _ _ _ (Heap.get?_push_of_some _ (Heap.get?_push_size _ rfl))
 have hD2:H2 s2.heap.objs.size=none:=I2.hok.fresh (Nat.le_refl _)
 have cellNe:∀ x c,(zdp X.env scope (s2.heap.objs.size + 1)).cells.lookup x=some c→c≠s2.heap.objs.size:=fun x c h=>by
  rcases zcA B I2 (PySem.mem_of_lookup h) with ⟨h1,_⟩ | ⟨h1,_⟩
  ·exact Nat.ne_of_lt (I2.cell_lt h1)
  ·have h1':s2.heap.objs.size + 1 + 1≤c:=h1
   exact Nat.ne_of_gt (Nat.lt_of_lt_of_le (Nat.lt_succ_of_lt (Nat.lt_succ_self _)) h1')
 have pinNe:∀ p∈X.pn ++ pins,p.1≠s2.heap.objs.size:=fun p hp=>Nat.ne_of_lt (Heap.lt_size (I2.pin p hp).1)
 have stat:∀ {H':Hp} {o:Obj},(∀ b∈fp,H' b=none)→∀ b∈fp,FpOk (cxB X N' scope (s2.heap.objs.size + 1) s2 H2 fp (X.pn ++ pins)) [(s2.heap.objs.size,o)] H' b:=fun {H' o} hn b hb=>by
  obtain⟨_,h2,h3,h4,h5,h6⟩:=f2 b hb
  have hlt:=hfl b hb
  refine ⟨hn b hb,(by show b≠s2.heap.objs.size + 1;exact Nat.ne_of_lt (Nat.lt_succ_of_lt hlt)),fun hm=>?_,.inl hb,fun x c h=>((zgZ B I2 rfl f2 hfl).exf b hb).2 x c h,fun p hp=>?_⟩
  ·rcases List.mem_cons.mp (I2.stkSub b hm) with z | z
   ·exact h2 z
   ·exact h3 z
  ·rcases List.mem_append.mp hp with hp | hp
   ·exact h6 p hp
   ·rw [List.mem_singleton.mp hp]
    show s2.heap.objs.size≠b
    exact Nat.ne_of_gt hlt
 have pinD:∀ {σ':St} {H':Hp} {s':Shared} {o:Obj},Inv (cxB X N' scope (s2.heap.objs.size + 1) s2 H2 fp (X.pn ++ pins)) [] σ' H' s'→s'.heap.get? s2.heap.objs.size=some o→(∀ v,o.data≠.cell v)→H' s2.heap.objs.size=none →
   Inv (cxB X N' scope (s2.heap.objs.size + 1) s2 H2 fp (X.pn ++ pins)) [(s2.heap.objs.size,o)] σ' H' s':=fun {σ' H' s' o} J ho hd hn=>J.pins_of fun p hp=>by
  rw [List.mem_singleton.mp hp]
  refine ⟨ho,hn,by show s2.heap.objs.size≠s2.heap.objs.size + 1;exact Nat.ne_of_lt (Nat.lt_succ_self _),fun hm=>?_,hd⟩
  exact absurd (I2.stk_lt hm) (Nat.lt_irrefl _)
 have loop:codeAny (model X.prog X.w) X.A (.compLoop (.ListComp elt [⟨tg,iter,[],0⟩] scope pos) 0 (.ref it) (.ref s2.heap.objs.size) (zdp X.env scope (s2.heap.objs.size + 1)))
   (compPost (model X.prog X.w) X.A X.xe use QQ (.ref s2.heap.objs.size) (s2.heap.objs.size + 1)) { s2 with heap:=zaU s2.heap scope }:=by
  refine zcn (fun n s'=>∃ i σ' H' acc its k,Inv (cxB X N' scope (s2.heap.objs.size + 1) s2 H2 fp (X.pn ++ pins)) [] σ' H' s'∧s'.heap.get? s2.heap.objs.size=some { cls:=.type "list", data:=.seq its k } ∧
   Vals acc its.toList∧tn i s'.heap∧(∀ b∈fp,H' b=none)∧H' s2.heap.objs.size=none∧W i n acc σ' H') ?_ m0 ⟨0,_,_,[],#[],0,zev B hix I2 f2 hfl,hD4,.nil,hst4,fun b hb=>(f2 b hb).1,hD2,w0⟩
  rintro n s3 ⟨i,σ3,H3,acc,its,k,J3,hD3,rv,st3,fr3,hn3,w3⟩
  obtain⟨hz,hor⟩:=turn i n acc σ3 H3 w3
  have J3p:=pinD J3 hD3 (fun v z=>by cases z) hn3
  rcases hor with ⟨stop,q⟩ | ⟨go,step⟩
  ·refine thn (T.done (cxB X N' scope (s2.heap.objs.size + 1) s2 H2 fp (X.pn ++ pins)) rfl rfl rfl hc i _ s3 σ3 H3 _ J3p (stat fr3) st3 stop) fun r s4 ⟨hr,J4⟩=>?_
   subst hr
   have hD4':=(J4.pin (s2.heap.objs.size,_) (List.mem_append_right _ (List.mem_singleton.mpr rfl))).1
   obtain⟨Ie,Le⟩:=zg0 (its:=its.toList) (k:=k) I2 f2 J4 (by simpa using hD4') rv hz hn3
   obtain⟨m,hm,_⟩:=J4.loc
   exact hU _ _ _ _ s4 Ie Le ⟨m,hm⟩ (q _ hn3)
  ·refine thn (T.item (cxB X N' scope (s2.heap.objs.size + 1) s2 H2 fp (X.pn ++ pins)) rfl rfl rfl hc i _ s3 σ3 H3 _ J3p (stat fr3) st3 go) fun r s4 ⟨u,hr,h4⟩=>?_
   subst hr
   refine thn h4 fun _ s5 ⟨x,H5,J5,r5,y5,st5,fr5⟩=>?_
   have J5':=J5.pinned (stat fr5) (T.obj _ _ st5)
   refine thn (hg _ _ _ _ _ _ s5 σ3 H5 x u _ J5' r5 (step x H5 y5)) fun _ s6 ⟨σ6,H6,J6,q6⟩=>?_
   refine thn (he _ _ _ _ _ _ s6 σ6 H6 _ J6 q6) fun v s7 ⟨y,H7,J7,r7,m',hm',w7⟩=>?_
   have hD7:=J7.pin (s2.heap.objs.size,{ cls:=.type "list", data:=.seq its k }) (List.mem_append_right _ (List.mem_append_left _ (List.mem_singleton.mpr rfl)))
   have J7u:Inv (cxB X N' scope (s2.heap.objs.size + 1) s2 H2 fp (X.pn ++ pins)) [] σ6 H7 s7:=J7.pins_of fun p hp=>by cases hp
   have st7:tn (i + 1) s7.heap:=T.keep _ _ _ st5 fun b hb o e=>(J7.pin (b,o) (List.mem_append_right _ (List.mem_append_right _ (zaV hb e)))).1
   have fr7:∀ b∈fp,H7 b=none:=fun b hb=>by
    obtain⟨o,e,d⟩:=T.obj _ _ st5 b hb
    exact (J7.pin (b,o) (List.mem_append_right _ (List.mem_append_right _ (zaV hb e)))).2.1
   have hlen:=rv.length
   refine wpAny_list_append_plain (l:=s2.heap.objs.size) (items:=its) ⟨k,hD7.1⟩ (fun h' ⟨k',hp'⟩ hs'=>?_) (by simp only [Array.length_toList] at hlen;lia)
   refine ⟨m',hm',i + 1,σ6,H7,acc ++ [y],its.push v,k',?_,hp',?_,?_,fr7,hD7.2.1,w7⟩
   ·exact J7u.turned (t':=s7.toks) (it:=s2.heap.objs.size) (fun b o hb e=>(hs'.2 b hb).trans e) hD7.2.1 (by show s2.heap.objs.size≠s2.heap.objs.size + 1;exact Nat.ne_of_lt (Nat.lt_succ_self _)) (.inr (Nat.le_refl _)) cellNe
     fun p hp=>pinNe p (by have hp':p∈(X.pn ++ pins) ++ []:=hp;rw [List.append_nil] at hp';exact hp')
   ·rw [Array.toList_push]
    exact rv.append (.cons r7 .nil)
   ·exact T.keep _ _ _ st7 fun b hb o e=>(hs'.2 b (Nat.ne_of_lt (hfl b hb))).trans e
 exact codeAny_compStart_list loop (T.self _ _ _ _ _ hst4 loop)
theorem ziz (B:Blk X.env scope) (hix:ixOk X.N N' scope ix=true) (hc:X.calm=true) (hi:PI X tg iter wi)
  (hg:∀ C s₂ H₂ fp pn,PG (cxB X N' scope C s₂ H₂ fp pn) tg g) (he:∀ C s₂ H₂ fp pn,PE (cxB X N' scope C s₂ H₂ fp pn) elt te) (hs:∀ x,foldedSetIterable iter X.env x=pure x:=by intro _;rfl) :
  PE X (.ListComp elt [⟨tg,iter,[],0⟩] scope pos) (zii ix wi g te):=by
 intro pins s σ H Q I h
 rw [eval_ListComp]
 refine zgV B hix hc hi hg he hs I h none (EP X pins σ Q) fun D C H' acc s' I' L hm q=>?_
 obtain⟨m,hm⟩:=hm
 exact⟨m,hm,fun h' hs'=>⟨.ref D,_,I'.loosed L hs',rfl,q⟩⟩
end
end L2
namespace L2
open PySem PySem.Spec PyProof.Rows
section
variable {P:Program} {w:World} {H H':Hp} {h h':Heap} {a:Addr} {o:HO}
theorem zcF.stands (x:zcF P w H h a o):∃ ob,h.get? a=some ob:=by
 cases o with
 | lst xs=>exact let ⟨_,_,_,_,e⟩:=x;⟨_,e⟩
 | tup xs=>exact let ⟨_,_,_,o,e,_⟩:=x;⟨o,e⟩
 | dK kvs=>exact let ⟨_,_,_,_,o,_,_,e,_⟩:=x;⟨o,e⟩
 | dT kvs=>exact let ⟨_,_,_,_,o,_,_,e,_⟩:=x;⟨o,e⟩
 | set S n=>exact let ⟨o,_,_,_,e,_⟩:=x;⟨o,e⟩
 | ins C dx fs=>exact let ⟨_,_,_,e,_⟩:=x;⟨_,e⟩
 | own y=>exact x
 | xd fs=>exact let ⟨_,⟨o,_,_,e,_⟩,_⟩:=x;⟨o,e⟩
 | rng lo hi=>exact let ⟨_,_,_,e⟩:=x;⟨_,e⟩
 | frz ob u=>exact⟨ob,x.1⟩
 | tbl ps=>exact⟨_,x⟩
 | met f y=>exact⟨_,x⟩
 | ext φ=>exact x.2.1
theorem HOk.kept_on (x:HOk P w H h) (k:∀ b u,(∃ o,H b=some o)→h.get? b=some u→h'.get? b=some u):HOk P w H h':=fun a o e =>
 (x a o e).stay (fun b u q z=>k b u (q.elim (fun q=>⟨o,q ▸ e⟩) fun q=>⟨_,q⟩) z) (fun _ q=>q) fun _ _ q=>q
theorem HOk.gone (x:HOk P w H h) (e:h.get? a=none):H a=none:=by
 cases q:H a with
 | none=>rfl
 | some o =>
  obtain⟨ob,z⟩:=(x a o q).stands
  rw [e] at z
  cases z
end
structure Fly (P:Program) (w:World) (fr:List Env) (H:Hp) (s:Shared) (H':Hp) (C a:Addr) (s':Shared):Prop where
 os:s'.os=s.os
 bare:AllBare s'.gens
 un:Un (frs fr) [] H H' s.heap s'.heap
 hok:HOk P w H' s'.heap
 new:s.heap.get? a=none
 free:H' a=none
 fly:∃ B t,Heap.FlyingW B fr a (.ref C) (.ref t) s'.heap∧(∀ b o,H' b=some o→∃ ob,B.get? b=some ob) ∧
  (∀ b o,s.heap.get? b=some o→H b=none→b∉frs fr→B.get? b=some o)∧(∀ b o,s.heap.get? b=some o→b∉frs fr→∃ ob,B.get? b=some ob)
noncomputable def CXe (P:Program) (w:World):CXT:=fun outer H s E e s'=>∃ H' C a,e=.ref a∧Fly P w outer H s H' C a s'∧E (.ref C) none H'
section
variable {X:Cx} {pins:List (Addr×Obj)} {σ:St} {H H':Hp} {s s':Shared} {C a:Addr} {M:Model} {A:Around} {E:Value→Shared→Prop}
theorem zcm {B h:Heap} {l:List Env} (F:h.FunFrames B l) {b:Addr} (hb:b∈frs l):∃ o,h.get? b=some o∧∀ vs,o.data≠.fields vs:=(F.mem hb).2
theorem Fly.moved (I:Inv X pins σ H s) (F:Fly X.prog X.w X.stack H s H' C a s') {B h2:Heap} (fr':s'.heap.FunFrames B X.stack) (st:B.StaysIn h2) (sB:B.StaysIn s'.heap) (sm:s'.heap.UpToSlots h2)
  (k1:∀ b o,H' b=some o→∃ ob,B.get? b=some ob)
  (k2:∀ b o,s.heap.get? b=some o→H b=none→b∉frs X.stack→B.get? b=some o) (k3:∀ b o,s.heap.get? b=some o→b∉frs X.stack→∃ ob,B.get? b=some ob):Inv X pins σ H' { s' with heap:=h2 }:=by
 have slots:∀ b∈frs X.stack,∀ o,s'.heap.get? b=some o→∃ sl,h2.get? b=some { o with slots:=sl }:=fun b hb o e=>by
  obtain⟨o',e',d⟩:=zcm fr' hb
  rw [e] at e'
  cases e'
  exact sm b o e d
 refine I.call' (s':={ s' with heap:=h2 }) (ch:=[]) F.os ⟨fun b o e n nf _=>st b o (k2 b o e n nf),fun b o e n hf hx=>?_,F.un.free,fun b o e hx=>?_,F.un.tups,F.un.frzs,F.un.tbls⟩ ?_ F.bare (fun b hb=>nomatch hb)
 ·obtain⟨sl,e1⟩:=F.un.slot b o e n hf hx
  obtain⟨sl',e2⟩:=slots b hf _ e1
  exact⟨sl',e2⟩
 ·by_cases hf:b∈frs X.stack
  ·obtain⟨o1,e1⟩:=F.un.there b o e hx
   obtain⟨sl',e2⟩:=slots b hf _ e1
   exact⟨_,e2⟩
  ·obtain⟨ob,z⟩:=k3 b o e hf
   exact⟨ob,st _ _ z⟩
 ·refine F.hok.kept_on fun b u ⟨o,q⟩ e=>?_
  obtain⟨ob,z⟩:=k1 b o q
  have:=sB b ob z
  rw [e] at this
  cases this
  exact st b _ z
theorem Fly.outer (I:Inv X pins σ H s) (J:Inv X pins σ H' s') (hx:X.ex=[]) (hs:X.stack=X.env :: X.outer) (hf:X.env.frame=some X.env.locals) (new:s.heap.get? a=none) (free:H' a=none) {B:Heap} {t:Addr}
  (fl:Heap.FlyingW B X.outer a (.ref C) (.ref t) s'.heap) (k1:∀ b o,H' b=some o→∃ ob,B.get? b=some ob)
  (k2:∀ b o,s.heap.get? b=some o→H b=none→b∉frs X.stack→B.get? b=some o) (k3:∀ b o,s.heap.get? b=some o→b∉frs X.stack→∃ ob,B.get? b=some ob) :
  Fly X.prog X.w X.outer X.H₀ X.s₀ H' C a s':=by
 have nx:∀ b,b∉X.ex:=fun b hb=>by rw [hx] at hb;cases hb
 have ns:∀ b o,X.s₀.heap.get? b=some o→b∉frs X.outer→b∉frs X.stack:=fun b o e n q=>by
  have z:frs X.stack=X.env.locals :: frs X.outer:=by rw [hs];unfold frs;rw [List.filterMap_cons,hf]
  rw [z] at q
  rcases List.mem_cons.mp q with q | q
  ·have h1:=Heap.lt_size e
   rw [q] at h1
   exact absurd (Nat.lt_of_lt_of_le h1 I.ok.above) (Nat.lt_irrefl _)
  ·exact n q
 refine ⟨J.os,J.bare,by have:=J.base;rw [hx] at this;exact this,J.hok,?_,free,B,t,fl,k1,fun b o e n nf=>?_,fun b o e nf=>?_⟩
 ·cases q:X.s₀.heap.get? a with
  | none=>rfl
  | some o =>
   obtain⟨o',z⟩:=I.base.there a o q (nx a)
   rw [new] at z
   cases z
 ·exact k2 b o (I.base.keep b o e n nf (nx b)) (I.base.free b o e n (nx b)) (ns b o e nf)
 ·obtain⟨o',z⟩:=I.base.there b o e (nx b)
  exact k3 b o' z (ns b o e nf)
theorem Fly.leave {Q:Unit→Shared→Prop} (I:Inv X pins σ H s) (hx:X.ex=[]) (hs:X.stack=X.env :: X.outer) (hf:X.env.frame=some X.env.locals) (F:Fly X.prog X.w X.stack H s H' C a s') (hA:A.frames=some X.stack)
  (k:∀ s2,Fly X.prog X.w X.outer X.H₀ X.s₀ H' C a s2→Q () s2):wpAny M A (leaving X.env (.ref a)) Q E s':=by
 obtain⟨B,t,fl,k1,k2,k3⟩:=F.fly
 have fl':Heap.FlyingW B (X.env :: X.outer) a (.ref C) (.ref t) s'.heap:=hs ▸ fl
 refine wpAny_leaves_onW (hA.trans (congrArg some hs)) hf fl' fun h2 fl2 sm=>k _ ?_
 exact Fly.outer I (F.moved I fl.2.2.1 fl2.1 fl.1 sm k1 k2 k3) hx hs hf F.new F.free fl2 k1 k2 k3
theorem Fly.made {Q:Unit→Shared→Prop} {h1:Heap} {args:List Value} (I:Inv X pins σ H s) (hx:X.ex=[]) (hs:X.stack=X.env :: X.outer) (hf:X.env.frame=some X.env.locals) (mk:Heap.MadeExcOf s.heap h1 a (.ref C) args) (hA:A.frames=some X.stack)
  (k:∀ s2,Fly X.prog X.w X.outer X.H₀ X.s₀ H C a s2→Q () s2):wpAny M A (leaving X.env (.ref a)) Q E { s with heap:=h1 }:=by
 have fs0:s.heap.FunFrames X.base X.stack:=I.stack
 have mem:∀ e∈X.stack,∀ b,e.frame=some b→b∈frs X.stack:=fun e he b hb=>List.mem_filterMap.mpr ⟨e,he,hb⟩
 have fs1:s.heap.FunFrames (PySem.W.hideAll s.heap (frs X.stack)) X.stack:=PySem.W.funFrames_hide fs0 mem
 have sB:(PySem.W.hideAll s.heap (frs X.stack)).StaysIn s.heap:=fun b o e=>PySem.W.of_hideAll _ e
 have free:H a=none:=I.hok.gone mk.new
 have k2:∀ b o,s.heap.get? b=some o→b∉frs X.stack→(PySem.W.hideAll s.heap (frs X.stack)).get? b=some o:=fun b o e n=>PySem.W.hideAll_get _ e n
 have k1:∀ b o,H b=some o→∃ ob,(PySem.W.hideAll s.heap (frs X.stack)).get? b=some ob:=fun b o q=>by
  obtain⟨ob,z⟩:=(I.hok b o q).stands
  exact⟨ob,k2 b ob z fun hb=>by rw [I.stkFree b hb] at q;cases q⟩
 refine wpAny_leaves_madeW (base:=PySem.W.hideAll s.heap (frs X.stack)) (h:=s.heap) (hA.trans (congrArg some hs)) hf sB (hs ▸ fs1) mk fun h2 t fl2 _ _ sm=>k _ ?_
 have slots:∀ b∈frs X.stack,∀ o,s.heap.get? b=some o→∃ sl,h2.get? b=some { o with slots:=sl }:=fun b hb o e=>by
  obtain⟨o',e',d⟩:=zcm fs0 hb
  rw [e] at e'
  cases e'
  exact sm b o (mk.keeps b o e) d
 have J:Inv X pins σ H { s with heap:=h2 }:=by
  refine I.call' (s':={ s with heap:=h2 }) (ch:=[]) rfl ⟨fun b o e n nf _=>fl2.1 b o (k2 b o e nf),fun b o e n hb hx=>slots b hb o e,fun b o e n _=>n,fun b o e hx=>?_,fun _ _ q=>q,fun _ _ _ q=>q,fun b ps q=>⟨#[],by rw [Array.append_empty];exact q⟩⟩ ?_ I.bare (fun b hb=>nomatch hb)
  ·by_cases hb:b∈frs X.stack
   ·obtain⟨sl,z⟩:=slots b hb o e
    exact⟨_,z⟩
   ·exact⟨o,fl2.1 b o (k2 b o e hb)⟩
  ·refine I.hok.kept_on fun b u ⟨o,q⟩ e=>fl2.1 b u (k2 b u e fun hb=>?_)
   rw [I.stkFree b hb] at q
   cases q
 exact Fly.outer (s':={ s with heap:=h2 }) I J hx hs hf mk.new free fl2 k1 (fun b o e _ nf=>k2 b o e nf) fun b o e nf=>⟨o,k2 b o e nf⟩
end
end L2
namespace L2
open PySem PySem.Spec PyProof.Rows
section
variable {P:Program} {w:World} {K:PySem.W.Frag} {mg:Str→Option Value} {base:Heap}
theorem zbL {N:List Str} {qual:Str} {scope:Scope} {f:Addr} {cd:Value} {A:Around} {outer:List Env} {s:Shared} {H:Hp} {E:XK}:zdt (CXe P w) (cxOf (CXe P w) P w K mg base N qual scope f cd A outer s H E) E:=by
 intro pins σ H1 s1 e s' I h
 obtain⟨H',C,a,he,F,hE⟩:=h
 subst he
 exact Fly.leave I rfl rfl rfl F I.ok.frames fun s2 F2=>⟨H',C,a,rfl,F2,hE⟩
def zg5 (X:Cx) (E:XK):Prop:=∀ (pins:List (Addr×Obj)) (σ:St) (H:Hp) (s:Shared) (C a:Addr) (args:List Value) (h1:Heap),Inv X pins σ H s→Heap.MadeExcOf s.heap h1 a (.ref C) args→E (.ref C) none H→X.xe (.ref a) { s with heap:=h1 }
theorem zbu {N:List Str} {qual:Str} {scope:Scope} {f:Addr} {cd:Value} {A:Around} {outer:List Env} {s:Shared} {H:Hp} {E:XK}:zg5 (cxOf (CXe P w) P w K mg base N qual scope f cd A outer s H E) E:=by
 intro pins σ H1 s1 C a args h1 I mk hE
 exact Fly.made I rfl rfl rfl mk I.ok.frames fun s2 F2=>⟨H1,C,a,rfl,F2,hE⟩
theorem ownE {N:List Str} {qual:Str} {scope:Scope} {f:Addr} {cd:Value} {A:Around} {outer:List Env} {s:Shared} {H:Hp} {E:XK} :
  PassesOwn (model P w) (cxOf (CXe P w) P w K mg base N qual scope f cd A outer s H E).A (cxOf (CXe P w) P w K mg base N qual scope f cd A outer s H E).env (cxOf (CXe P w) P w K mg base N qual scope f cd A outer s H E).xe:=
 PassesOwn.leaving (Q₁:=fun e s''=>CXe P w outer H s E e s'') (E₁:=fun e' s''=>CXe P w outer H s E e' s'')
theorem Fun.okE {x qual:Str} {st:Stmt} {f:Addr} {fd:FuncData} {N ps:List Str} {k:Nat} {sp:Sp} (F:Fun K x qual st f fd) (S:FnScope N ps (defScope st)) (len:∀ vs H Q E,sp vs H Q E→vs.length=ps.length)
  (hbody:∀ (cdv:Value) (A:Around) (outer:List Env) (s:Shared) (H:Hp) (vs:List V) (Q:VK) (E:XK),Room k (A.deeper (envOfC qual (defScope st) s.heap.objs.size f cdv))→sp vs H Q E →
   ∃ t,PSs (cxOf (CXe P w) P w K mg base N qual (defScope st) f cdv A outer s H E) (defBody st) t∧t { nx:=fun _ H'=>Q .non H',rt:=Q } (start N vs) H):FnOk P w K mg base (CXe P w) (k + 1) f fd ps sp:=by
 obtain⟨oc,od,kV,doc,pm,an,cdv,ct,osl,rfl,lk,hcd⟩:=F.ex
 exact zlQ lk hcd S len fun A outer s H vs Q E hr hsp=>hbody cdv A outer s H vs Q E hr hsp
end
theorem zkx {K:PySem.W.Frag} {h:Heap} {C:Addr} {bmB:List Value} {newId:String} (X:K.In h) (q:PySem.W.excIn K C bmB newId=true) :
  ∃ bm N nm qn bs hd sn sub ab col dd k0 k1 k2 k3 k5 mN,h.get? C=some (excClassObj nm qn C N bs bm hd sn sub ab col dd k0 k1 k2 k3 k5 newId)∧h.Ns N mN∧mN "__init__" = none∧OwnTail h bmB bm:=by
 unfold PySem.W.excIn at q
 split at q
 case h_2=>exact nomatch q
 case h_1 dd cd sl ho =>
  have hc:=X _ _ ho
  split at q
  case h_2=>exact nomatch q
  case h_1 C' bm k0 k1 k2 k3 n k5 hm hs =>
   rw [Bool.and_eq_true,Bool.and_eq_true,Bool.and_eq_true,Bool.and_eq_true,Bool.and_eq_true] at q
   obtain⟨⟨⟨⟨⟨q1,q2⟩,q3⟩,q4⟩,q5⟩,q6⟩:=q
   replace q1:=eq_of_beq q1
   replace q2:=eq_of_beq q2
   replace q6:=eq_of_beq q6
   replace q3:cd.hasDel=false:=by simpa using q3
   subst q1 q2
   have es:sl = #[k0,k1,k2,k3,some (.builtin n),k5]:=Array.ext' (by rw [hs])
   subst es
   cases cd
   dsimp only at hm q3 q5 q6 hc
   subst hm q3
   exact⟨bm,_,_,_,_,_,_,_,_,_,dd,k0,k1,k2,k3,k5,_,hc,.of_isNs (PySem.W.isNs_of_in X q5),PySem.W.nsMap_none_of_in X q5 q6,PySem.W.tail_of_in X q4⟩
def zjD (C:Addr) (E:XK) (ta:TA):TS:=fun _ σ H=>ta σ H fun xs H1=>xs.length≤sizeLine∧E (.ref C) none H1
theorem zhi {X:Cx} {E:XK} {x:Str} {C:Addr} {bmB:List Value} {B newId initId:String} {e:Expr} {ta:TA} {np cpos pos:Pos} (F:ExcBaseFacts B newId initId bmB) (hR:zg5 X E) (hh:X.A.handled=none) (hg:Gl X x) (hm:X.mg x=some (.ref C))
  (hc:PySem.W.excIn X.K C bmB newId=true) (ha:PA X [e] ta) (hb:bmB.contains (.type "BaseException")=true:=by decide +kernel) (hdb:(x == ("__debug__" : Str))=false:=by decide)
  (he:starEach [e] X.env=[(false,eval e X.env)]:=by rfl):PS X (.Raise (some (.Call (.Name x np) [e] [] cpos)) none pos) (zjD C E ta):=by
 intro pins s σ H D I h
 obtain⟨bm,N,nm,qn,bs,hd,sn,sub,ab,col,dd,k0,k1,k2,k3,k5,mN,o1,o2,o3,o4⟩:=zkx I.mod.kin hc
 have p:=ha cpos pins s σ H (fun xs H1=>xs.length≤sizeLine∧E (.ref C) none H1) I h
 refine wpAny_Raise_call_subT (nm:=nm) (q:=qn) (N:=N) (bs:=bs) (bm:=bm) (hdct:=hd) (sn:=sn) (sub:=sub) (ab:=ab) (col:=col) (dd:=dd) (k0:=k0) (k1:=k1) (k2:=k2) (k3:=k3) (k5:=k5) F (o4.hasType hb) hh (by rw [he];rfl) o3 (zde I hg hm ⟨rfl,?_⟩ hdb)
 rw [he] at p ⊢
 refine Calls.evalArgs_plain (thn p fun us s2 ⟨vs,H1,J,r,l,q⟩=>⟨rfl,?_,J.bk _ _ o1,o2.keeps J.bk,o4.keeps J.bk,fun h1 a mk=>hR pins σ H1 s2 C a us h1 J mk q⟩)
 rw [← r.length]
 exact l
end L2
namespace L2
open PySem PySem.Spec PyProof.Rows
def zbH (X:Cx) (pins:List (Addr×Obj)) (σ:St) (H':Hp) (C a:Addr) (s3:Shared):Prop:=
 ∃ s s' H B t,Inv X pins σ H s∧Fly X.prog X.w X.stack H s H' C a s'∧(∀ b o,H' b=some o→∃ ob,B.get? b=some ob) ∧
  (∀ b o,s.heap.get? b=some o→H b=none→b∉frs X.stack→B.get? b=some o)∧(∀ b o,s.heap.get? b=some o→b∉frs X.stack→∃ ob,B.get? b=some ob) ∧
  Heap.FlyingW B X.stack a (.ref C) (.ref t) s'.heap∧Heap.FlyingW B X.stack a (.ref C) (.ref t) s3.heap∧s'.heap.UpToSlots s3.heap∧s3 = { s' with heap:=s3.heap }
section
variable {X:Cx} {pins:List (Addr×Obj)} {σ:St} {H H':Hp} {s s' s3:Shared} {C a:Addr} {M:Model} {A:Around} {E:Value→Shared→Prop}
theorem zbH.inv (L:zbH X pins σ H' C a s3):Inv X pins σ H' s3:=by
 obtain⟨s,s',H,B,t,I,F,k1,k2,k3,f1,f3,sm,e⟩:=L
 rw [e]
 exact F.moved I f1.2.2.1 f3.1 f1.1 sm k1 k2 k3
theorem zbH.obj (L:zbH X pins σ H' C a s3):∃ oe vs,s3.heap.get? a=some oe∧oe.cls=.ref C∧oe.data=.fields vs:=by
 obtain⟨s,s',H,B,t,I,F,k1,k2,k3,f1,f3,sm,e⟩:=L
 obtain⟨oe,vs,h1,h2,h3,_⟩:=f3.first
 exact⟨oe,vs,h1,h2,h3⟩
theorem zbH.free (L:zbH X pins σ H' C a s3):H' a=none:=by
 obtain⟨s,s',H,B,t,I,F,_⟩:=L
 exact F.free
theorem zbH.again {Q:Unit→Shared→Prop} (L:zbH X pins σ H' C a s3) (k:∀ s4,zbH X pins σ H' C a s4→Q () s4):wpAny M A (setFlight (.ref a) none) Q E s3:=by
 obtain⟨s,s',H,B,t,I,F,k1,k2,k3,f1,f3,sm,e⟩:=L
 refine lands_againW f3 fun h4 f4 sm4=>k _ ⟨s,s',H,B,t,I,F,k1,k2,k3,f1,f4,sm.trans sm4,?_⟩
 rw [e]
theorem Inv.forget {h':Heap} {m':Str→Option Value} {tk:Nat} (I:Inv X pins σ H s) (hn:h'.Ns X.env.locals m') (hs:Heap.SameBut X.env.locals s.heap h'):Inv X pins (List.replicate X.N.length none) H { s with heap:=h',toks:=tk }:=by
 have keep:∀ b,b≠X.env.locals→h'.get? b=s.heap.get? b:=fun b hb=>hs.2 b hb
 have old:∀ b o,X.s₀.heap.get? b=some o→b≠X.env.locals:=fun b o e z=>by
  have:=Heap.lt_size e
  rw [z] at this
  exact absurd (Nat.lt_of_lt_of_le this I.ok.above) (Nat.lt_irrefl _)
 refine ⟨I.ok,I.os,I.bare,⟨fun b o e n hf hx=>?_,fun b o e n hf hx=>?_,I.base.free,fun b o e hx=>?_,I.base.tups,I.base.frzs,I.base.tbls⟩,⟨m',hn,fun i x v h1 h2 _=>?_⟩,fun x c e=>?_,I.free,I.freeC,fun p hp=>?_,?_,?_⟩
 ·exact (keep b (old b o e)).trans (I.base.keep b o e n hf hx)
 ·obtain⟨sl,z⟩:=I.base.slot b o e n hf hx
  exact⟨sl,(keep b (old b o e)).trans z⟩
 ·obtain⟨o',z⟩:=I.base.there b o e hx
  exact⟨o',(keep b (old b o e)).trans z⟩
 ·rw [List.getElem?_replicate] at h2
  split at h2 <;> cases h2
 ·obtain⟨v,ob,z,q⟩:=I.cell x c e
  exact⟨v,ob,(keep c (I.cne x c e)).trans z,q⟩
 ·obtain⟨p1,p2,p3,p4⟩:=I.pin p hp
  exact⟨(keep _ p3).trans p1,p2,p3,p4⟩
 ·refine I.hok.kept_on fun b u ⟨o,q⟩ e=>(keep b fun z=>?_).trans e
  rw [z,I.free] at q
  cases q
 ·rw [List.length_replicate]
noncomputable def hcx (X:Cx) (a:Addr) (oe:Obj):Cx:={ X with A:=X.A.mark (some (.ref a)),calm:=false,pn:=X.pn ++ [(a,oe)],xe:=fun _ _=>False }
theorem zbH.suite (L:zbH X pins σ H' C a s3):∃ oe,oe.cls=.ref C∧s3.heap.get? a=some oe∧Inv (hcx X a oe) pins σ H' s3:=by
 obtain⟨oe,vs,h1,h2,h3⟩:=L.obj
 have I:=L.inv
 refine ⟨oe,h2,h1,⟨⟨I.ok.mod,I.ok.kind,I.ok.glob,I.ok.blt,I.ok.above,I.ok.inj,I.ok.has,I.ok.cab,(fun z=>nomatch z),I.ok.frames,I.ok.stk,I.ok.exf,I.ok.bs,I.ok.bsz,I.ok.noex,I.ok.exfs,I.ok.funs,I.ok.frf⟩,I.os,I.bare,I.base,I.loc,I.cell,I.free,I.freeC,fun p hp=>?_,I.hok,I.len⟩⟩
 rcases List.mem_append.mp hp with hp | hp
 ·rcases List.mem_append.mp hp with hp | hp
  ·exact I.pin p (List.mem_append_left _ hp)
  ·rw [List.mem_singleton.mp hp]
   refine ⟨h1,L.free,fun z=>?_,fun z=>?_,fun v z=>?_⟩
   ·obtain⟨m,⟨o,es,ep,e1,e2,_⟩,_⟩:=I.loc
    rw [show a=X.env.locals from z,e1] at h1
    cases h1
    rw [h3] at e2
    cases e2
   ·obtain⟨o,e1,e2⟩:=zcm I.funs (show a∈frs X.outer from z)
    rw [h1] at e1
    cases e1
    exact e2 vs h3
   ·rw [show oe.data=_ from h3] at z
    cases z
 ·exact I.pin p (List.mem_append_right _ hp)
theorem Inv.unsuite {oe:Obj} (ok:X.Ok) (I:Inv (hcx X a oe) pins σ H s):Inv X pins σ H s:=
 ⟨ok,I.os,I.bare,I.base,I.loc,I.cell,I.free,I.freeC,fun p hp=>I.pin p ((List.mem_append.mp hp).elim (fun z=>List.mem_append_left _ (List.mem_append_left _ z)) fun z=>List.mem_append_right _ z),I.hok,I.len⟩
end
def PH (X:Cx) (hs:List ExceptHandler) (t:Addr→VK→Hp→Prop):Prop:=
 ∀ (pins:List (Addr×Obj)) (s:Shared) (σ:St) (H:Hp) (C a:Addr) (Q:VK),zbH X pins σ H C a s→t C Q H →
  wpAny (model X.prog X.w) X.A (handleBy (.ref a) X.env hs) (fun f s'=>∃ u v σ' H',f=.ret u∧Inv X pins σ' H' s'∧RelV v u∧Q v H') X.xe s
noncomputable def hNil:Addr→VK→Hp→Prop:=fun _ _ _=>False
theorem zjU {X:Cx}:PH X [] hNil:=fun _ _ _ _ _ _ _ _ h=>h.elim
noncomputable def zlO (K:PySem.W.Frag) (n:Nat) (C':Addr) (i:Nat) (ts:Addr→Obj→TS) (tr:Addr→VK→Hp→Prop):Addr→VK→Hp→Prop:=fun C Q H=>∃ b,PySem.W.exmOne K (.ref C) (.ref C')=some b ∧
 if b=true then ∀ (a:Addr) (oe:Obj) (σ:St),oe.cls=.ref C→H a=none→σ.length=n→ts a oe { nx:=fun _ _=>False,rt:=Q } (σ.set i (some (.ref a))) H else tr C Q H
theorem ziy {X:Cx} {x n:Str} {C':Addr} {i:Nat} {b₀:Stmt} {body:List Stmt} {rest:List ExceptHandler} {ts:Addr→Obj→TS} {tr:Addr→VK→Hp→Prop} {np pos:Pos} (hg:Gl X x) (hm:X.mg x=some (.ref C')) (hN:X.N.Nodup) (hi:X.N[i]? = some n)
  (hx:X.env.scope.names.lookup n=some .local) (hsu:∀ a oe,PSs (hcx X a oe) (b₀ :: body) (ts a oe)) (hr:PH X rest tr) (hdb:(x == ("__debug__" : Str))=false:=by decide) :
  PH X (.ExceptHandler (some (.Name x np)) (some n) (b₀ :: body) pos :: rest) (zlO X.K X.N.length C' i ts tr):=by
 intro pins s σ H C a Q L h
 obtain⟨b,hb,h⟩:=h
 obtain⟨oe,hc,ha,I⟩:=L.suite
 refine wpAny_handleBy_cons (codeAny_handlers_test (zde (X:=hcx X a oe) I hg hm ?_ hdb)) (by intro q;cases q)
 have LT:PySem.W.Looks (model X.prog X.w) s.heap (typeOf (.ref a)) (.ref C):=hc ▸ (PySem.W.Looks.ld ha).andThen .now
 refine (PySem.W.exm_one I.kIn LT hb).here ?_
 cases b with
 | false =>
  rw [if_neg (by decide)] at h
  exact hr pins s σ H C a Q L h
 | true =>
  rw [if_pos rfl] at h
  refine codeAny_handlers_suite_as (L.again fun s4 L4=>?_)
  obtain⟨oe4,hc4,ha4,I4⟩:=L4.suite
  refine zdV (X:=hcx X a oe4) (v:=.ref a) I4 hN hi (.inl hx) rfl (fun s5 I5=>?_) (.inr hx)
  refine wpAny_mono (hsu a oe4 pins s5 _ H _ I5 (h a oe4 σ hc4 L.free L.inv.len)) (fun f s6 q=>?_) fun _ _ z=>z.elim
  cases f with
  | ret u =>
   obtain⟨v,σ6,H6,J,r,q⟩:=q
   have J':=J.unsuite L.inv.ok
   obtain⟨m,hns,_⟩:=J'.loc
   refine wpAny_nameGoes hx hns ?_ fun h' m' hn' hs'=>⟨u,v,_,H6,rfl,J'.forget hn' hs',r,q⟩
   rw [L.inv.ok.kind]
   rfl
  | next=>exact (q.choose_spec.choose_spec.2).elim
  | brk=>exact (q.choose_spec.choose_spec.2).elim
  | cont=>exact (q.choose_spec.choose_spec.2).elim
def tTry (tb:XK→TS) (th:Addr→VK→Hp→Prop):TS:=fun D σ H=>∃ Eh:XK,tb Eh D σ H∧∀ c r H',Eh c r H'→∃ C,c=.ref C∧th C D.rt H'
noncomputable abbrev tcx (X:Cx) (pn:List (Addr×Obj)) (E':Value→Shared→Prop):Cx:={ X with xe:=E',pn:=pn }
theorem zjS {X:Cx} {body:List Stmt} {h₀:ExceptHandler} {hs:List ExceptHandler} {tb:XK→TS} {th:Addr→VK→Hp→Prop} {pos:Pos} (hst:X.stack=X.env :: X.outer) (hf:X.env.frame=some X.env.locals)
  (hb:∀ pn E' Eh,zdt (CXe X.prog X.w) (tcx X pn E') Eh→PSs (tcx X pn E') body (tb Eh)) (hh:PH X (h₀ :: hs) th):PS X (.Try body (h₀ :: hs) [] [] pos) (tTry tb th):=by
 intro pins s σ H D I h
 obtain⟨Eh,h1,h2⟩:=h
 have into:∀ {E':Value→Shared→Prop} {σ':St} {H1:Hp} {s1:Shared},Inv X pins σ' H1 s1→Inv (tcx X (X.pn ++ pins) E') [] σ' H1 s1:=fun J =>
  ⟨⟨J.ok.mod,J.ok.kind,J.ok.glob,J.ok.blt,J.ok.above,J.ok.inj,J.ok.has,J.ok.cab,J.ok.hd,J.ok.frames,J.ok.stk,J.ok.exf,J.ok.bs,J.ok.bsz,J.ok.noex,J.ok.exfs,J.ok.funs,J.ok.frf⟩,J.os,J.bare,J.base,J.loc,J.cell,J.free,J.freeC,fun p hp=>J.pin p (by rw [List.append_nil] at hp;exact hp),J.hok,J.len⟩
 have out:∀ {E':Value→Shared→Prop} {pins':List (Addr×Obj)} {σ':St} {H1:Hp} {s1:Shared},Inv (tcx X (X.pn ++ pins) E') pins' σ' H1 s1→Inv X pins σ' H1 s1:=fun J =>
  ⟨I.ok,J.os,J.bare,J.base,J.loc,J.cell,J.free,J.freeC,fun p hp=>J.pin p (List.mem_append_left _ hp),J.hok,J.len⟩
 have pass:zdt (CXe X.prog X.w) (tcx X (X.pn ++ pins) fun e s₁=>wpAny (model X.prog X.w) X.A (noteFrame e X.env) (fun _ s₂=>wpAny (model X.prog X.w) X.A (setFlight e none) (fun _ s₃=>wpAny (model X.prog X.w) X.A (handleBy e X.env (h₀ :: hs)) (SP X pins D) X.xe s₃) X.xe s₂) X.xe s₁) Eh:=by
  intro pins' σ' H1 s1 e s' J hc
  obtain⟨H',C,a,he,F,hE⟩:=hc
  subst he
  have J:=out J
  replace F:Fly X.prog X.w X.stack H1 s1 H' C a s':=F
  obtain⟨B,t,fl,k1,k2,k3⟩:=F.fly
  obtain⟨C2,e2,q⟩:=h2 _ _ _ hE
  cases e2
  refine wpAny_looks_onW (I.ok.frames.trans (congrArg some hst)) hf (hst ▸ fl) fun h4 held sm4=>wpAny_landsW held fun h5 fl5 sm5=>?_
  refine thn (hh pins _ σ' H' C a D.rt ⟨s1,s',H1,B,t,J,F,k1,k2,k3,fl,(hst ▸ fl5),sm4.trans sm5,rfl⟩ q) fun f s6 ⟨u,v,σ6,H6,e,J6,r,q6⟩=>?_
  subst e
  exact⟨v,σ6,H6,J6,r,q6⟩
 rw [arm_exec_Try]
 refine wpAny_bind (wpAny_standAt (wpAny_tryStmt_except (wpAny_mono (hb _ _ Eh pass [] s σ H D (into I) h1) (fun f s1 q=>?_) fun _ _ q=>q)))
 cases f with
 | next=>obtain⟨σ1,H1,J,q⟩:=q;exact wpAny_execs_nil ⟨σ1,H1,out J,q⟩
 | brk=>obtain⟨σ1,H1,J,q⟩:=q;exact⟨σ1,H1,out J,q⟩
 | cont=>obtain⟨σ1,H1,J,q⟩:=q;exact⟨σ1,H1,out J,q⟩
 | ret u=>obtain⟨v,σ1,H1,J,r,q⟩:=q;exact⟨v,σ1,H1,out J,r,q⟩
end L2
namespace TL
open PySem PySem.Spec PyProof.Rows L2
inductive T where
 | sc (v:V)
 | scr (ns:List Int)
 | lst (xs:List T)
 | tup (xs:List T)
inductive Md where
 | al | sp | fu
 deriving DecidableEq
def Scr (K:PySem.W.Frag) (H:Hp) (a:Addr) (ns:List Int):Prop:=
 (∃ o,H a=some (.frz o (.lst (ns.map V.int)))) ∨
  ∃ (o:Obj) (its:Array Value) (n:Nat),K.lookup a=some o∧o.cls=.type "list" ∧ o.dict=none∧o.data=.seq its n∧its.size≤sizeLine∧Vals (ns.map V.int) its.toList
theorem Scr.sq {K:PySem.W.Frag} {H:Hp} {a:Addr} {ns:List Int} (h:Scr K H a ns):SqL K H a (ns.map V.int):=h.elim (fun q=>.inl (.inr q)) .inr
section
variable (K:PySem.W.Frag) (H:Hp) (S:Addr→Prop)
mutual
noncomputable def Den:T→Md→List Addr→V→Prop
 | .sc w,_,A,v=>A=[]∧v=w
 | .scr ns,_,A,v=>A=[]∧∃ a,v=.ref a∧Scr K H a ns
 | .lst ts,.al,A,v=>A=[]∧∃ a vs,v=.ref a∧S a∧H a=some (.lst vs)∧Dens ts .al [] vs
 | .lst ts,.sp,A,v=>∃ a vs,v=.ref a∧A=[a]∧H a=some (.lst vs)∧Dens ts .al [] vs
 | .lst ts,.fu,A,v=>∃ a vs A',v=.ref a∧A=a :: A'∧H a=some (.lst vs)∧Dens ts .fu A' vs
 | .tup ts,.fu,A,v=>∃ a vs,v=.ref a∧SqT K H a vs∧Dens ts .fu A vs
 | .tup ts,.al,A,v=>A=[]∧∃ a vs,v=.ref a∧SqT K H a vs∧Dens ts .al [] vs
 | .tup ts,.sp,A,v=>A=[]∧∃ a vs,v=.ref a∧SqT K H a vs∧Dens ts .al [] vs
noncomputable def Dens:List T→Md→List Addr→List V→Prop
 | [],_,A,vs=>A=[]∧vs=[]
 | t :: ts,m,A,vs=>∃ A1 A2 v vs',A=A1 ++ A2∧vs=v :: vs'∧Den t m A1 v∧Dens ts m A2 vs'
end
end
structure Frm (K:PySem.W.Frag) (H H':Hp) (P:Addr→Prop):Prop where
 nodes:∀ b xs,P b→H b=some (.lst xs)→H' b=some (.lst xs)
 tups:∀ b xs,SqT K H b xs→SqT K H' b xs
 scrs:∀ b ns,Scr K H b ns→Scr K H' b ns
section
variable {K:PySem.W.Frag} {H H' H1 H2:Hp} {S S':Addr→Prop}
mutual
theorem Den.frm {P:Addr→Prop} (F:Frm K H H' P) (hS:∀ a,S a→P a) (hS':∀ a,S a→S' a):∀ {t:T} {m:Md} {A:List Addr} {v:V},(∀ a∈A,P a)→Den K H S t m A v→Den K H' S' t m A v
 | .sc w,m,A,v,_,h=>by unfold Den at h ⊢;exact h
 | .scr ns,m,A,v,_,h=>by unfold Den at h ⊢;obtain⟨e,a,q,r⟩:=h;exact⟨e,a,q,F.scrs _ _ r⟩
 | .lst ts,.al,A,v,_,h=>by
  unfold Den at h ⊢
  obtain⟨e,a,vs,q,s,r,d⟩:=h
  exact⟨e,a,vs,q,hS' a s,F.nodes _ _ (hS a s) r,Dens.frm F hS hS' (fun _ z=>nomatch z) d⟩
 | .lst ts,.sp,A,v,hA,h=>by
  unfold Den at h ⊢
  obtain⟨a,vs,q,e,r,d⟩:=h
  exact⟨a,vs,q,e,F.nodes _ _ (hA a (by rw [e];exact List.mem_singleton.mpr rfl)) r,Dens.frm F hS hS' (fun _ z=>nomatch z) d⟩
 | .lst ts,.fu,A,v,hA,h=>by
  unfold Den at h ⊢
  obtain⟨a,vs,A',q,e,r,d⟩:=h
  subst e
  exact⟨a,vs,A',q,rfl,F.nodes _ _ (hA a (List.mem_cons_self ..)) r,Dens.frm F hS hS' (fun b z=>hA b (List.mem_cons_of_mem _ z)) d⟩
 | .tup ts,.fu,A,v,hA,h=>by
  unfold Den at h ⊢
  obtain⟨a,vs,q,r,d⟩:=h
  exact⟨a,vs,q,F.tups _ _ r,Dens.frm F hS hS' hA d⟩
 | .tup ts,.al,A,v,hA,h=>by
  unfold Den at h ⊢
  obtain⟨e,a,vs,q,r,d⟩:=h
  exact⟨e,a,vs,q,F.tups _ _ r,Dens.frm F hS hS' (fun _ z=>nomatch z) d⟩
 | .tup ts,.sp,A,v,hA,h=>by
  unfold Den at h ⊢
  obtain⟨e,a,vs,q,r,d⟩:=h
  exact⟨e,a,vs,q,F.tups _ _ r,Dens.frm F hS hS' (fun _ z=>nomatch z) d⟩
theorem Dens.frm {P:Addr→Prop} (F:Frm K H H' P) (hS:∀ a,S a→P a) (hS':∀ a,S a→S' a):∀ {ts:List T} {m:Md} {A:List Addr} {vs:List V},(∀ a∈A,P a)→Dens K H S ts m A vs→Dens K H' S' ts m A vs
 | [],m,A,vs,_,h=>by unfold Dens at h ⊢;exact h
 | t :: ts,m,A,vs,hA,h=>by
  unfold Dens at h ⊢
  obtain⟨A1,A2,v,vs',e,q,d,r⟩:=h
  subst e
  exact⟨A1,A2,v,vs',rfl,q,Den.frm F hS hS' (fun a z=>hA a (List.mem_append_left _ z)) d,Dens.frm F hS hS' (fun a z=>hA a (List.mem_append_right _ z)) r⟩
end
theorem Scr.same {K:PySem.W.Frag} {a:Addr} {ns:List Int} (e:Same H H') (h:Scr K H a ns):Scr K H' a ns:=h.imp (fun ⟨o,q⟩=>⟨o,e _ _ q⟩) id
theorem zcZ {K:PySem.W.Frag} {a:Addr} {xs:List V} (e:Same H H') (h:SqT K H a xs):SqT K H' a xs:=by
 rcases h with (h | ⟨o,h⟩) | h
 ·exact .inl (.inl (e _ _ h))
 ·exact .inl (.inr ⟨o,e _ _ h⟩)
 ·exact .inr h
theorem Frm.same (e:Same H H'):Frm K H H' fun _=>True:=⟨fun b xs _ h=>e _ _ h,fun b xs h=>zcZ e h,fun b ns h=>h.same e⟩
theorem Den.mono {t:T} {m:Md} {A:List Addr} {v:V} (h:Den K H S t m A v) (e:Same H H') (hS:∀ a,S a→S' a):Den K H' S' t m A v:=Den.frm (Frm.same e) (fun _ _=>trivial) hS (fun _ _=>trivial) h
theorem Dens.mono {ts:List T} {m:Md} {A:List Addr} {vs:List V} (h:Dens K H S ts m A vs) (e:Same H H') (hS:∀ a,S a→S' a):Dens K H' S' ts m A vs:=Dens.frm (Frm.same e) (fun _ _=>trivial) hS (fun _ _=>trivial) h
theorem Den.monoS {t:T} {m:Md} {A:List Addr} {v:V} (h:Den K H S t m A v) (hS:∀ a,S a→S' a):Den K H S' t m A v:=h.mono (Same.refl _) hS
theorem Dens.monoS {ts:List T} {m:Md} {A:List Addr} {vs:List V} (h:Dens K H S ts m A vs) (hS:∀ a,S a→S' a):Dens K H S' ts m A vs:=h.mono (Same.refl _) hS
theorem Frm.upd {a:Addr} {xs:List V} {o:HO} (h:H a=some (.lst xs)):Frm K H (upd H a o) fun b=>b≠a:=
 ⟨fun b ys hb e=>by rw [zaq hb];exact e,fun b ys e=>by
  rcases e with (e | ⟨o',e⟩) | e
  ·exact .inl (.inl (by rw [zaq];exact e;intro z;rw [z,h] at e;cases e))
  ·exact .inl (.inr ⟨o',by rw [zaq];exact e;intro z;rw [z,h] at e;cases e⟩)
  ·exact .inr e,fun b ns e=>by
  rcases e with ⟨o',e⟩ | e
  ·exact .inl ⟨o',by rw [zaq];exact e;intro z;rw [z,h] at e;cases e⟩
  ·exact .inr e⟩
mutual
/-- of a thing that is wholly ours nothing is shared -/
theorem Den.fuS:∀ {t:T} {A:List Addr} {v:V},Den K H S t .fu A v→Den K H S' t .fu A v
 | .sc w,A,v,h=>by unfold Den at h ⊢;exact h
 | .scr ns,A,v,h=>by unfold Den at h ⊢;exact h
 | .lst ts,A,v,h=>by
  unfold Den at h ⊢
  obtain⟨a,vs,A',q,e,r,d⟩:=h
  exact⟨a,vs,A',q,e,r,Dens.fuS d⟩
 | .tup ts,A,v,h=>by
  unfold Den at h ⊢
  obtain⟨a,vs,q,r,d⟩:=h
  exact⟨a,vs,q,r,Dens.fuS d⟩
theorem Dens.fuS:∀ {ts:List T} {A:List Addr} {vs:List V},Dens K H S ts .fu A vs→Dens K H S' ts .fu A vs
 | [],A,vs,h=>by unfold Dens at h ⊢;exact h
 | t :: ts,A,vs,h=>by
  unfold Dens at h ⊢
  obtain⟨A1,A2,v,vs',e,q,d,r⟩:=h
  exact⟨A1,A2,v,vs',e,q,Den.fuS d,Dens.fuS r⟩
end
mutual
/-- what is ours stands -/
theorem Den.own:∀ {t:T} {m:Md} {A:List Addr} {v:V},Den K H S t m A v→∀ a∈A,∃ vs,H a=some (.lst vs)
 | .sc w,m,A,v,h,a,ha=>by unfold Den at h;rw [h.1] at ha;cases ha
 | .scr ns,m,A,v,h,a,ha=>by unfold Den at h;rw [h.1] at ha;cases ha
 | .lst ts,.al,A,v,h,a,ha=>by unfold Den at h;rw [h.1] at ha;cases ha
 | .lst ts,.sp,A,v,h,a,ha=>by
  unfold Den at h
  obtain⟨b,vs,q,e,r,d⟩:=h
  rw [e] at ha
  rw [List.mem_singleton.mp ha]
  exact⟨vs,r⟩
 | .lst ts,.fu,A,v,h,a,ha=>by
  unfold Den at h
  obtain⟨b,vs,A',q,e,r,d⟩:=h
  rw [e] at ha
  rcases List.mem_cons.mp ha with z | z
  ·rw [z];exact⟨vs,r⟩
  ·exact Dens.own d a z
 | .tup ts,.fu,A,v,h,a,ha=>by
  unfold Den at h
  obtain⟨b,vs,q,r,d⟩:=h
  exact Dens.own d a ha
 | .tup ts,.al,A,v,h,a,ha=>by unfold Den at h;rw [h.1] at ha;cases ha
 | .tup ts,.sp,A,v,h,a,ha=>by unfold Den at h;rw [h.1] at ha;cases ha
theorem Dens.own:∀ {ts:List T} {m:Md} {A:List Addr} {vs:List V},Dens K H S ts m A vs→∀ a∈A,∃ vs,H a=some (.lst vs)
 | [],m,A,vs,h,a,ha=>by unfold Dens at h;rw [h.1] at ha;cases ha
 | t :: ts,m,A,vs,h,a,ha=>by
  unfold Dens at h
  obtain⟨A1,A2,v,vs',e,q,d,r⟩:=h
  rw [e] at ha
  rcases List.mem_append.mp ha with z | z
  ·exact Den.own d a z
  ·exact Dens.own r a z
end
mutual
/-- what is ours may be shared out -/
theorem Den.out:∀ {t:T} {m:Md} {A:List Addr} {v:V},Den K H S t m A v→(∀ a,S a→S' a)→(∀ a∈A,S' a)→Den K H S' t .al [] v
 | .sc w,m,A,v,h,_,_=>by unfold Den at h ⊢;exact⟨rfl,h.2⟩
 | .scr ns,m,A,v,h,_,_=>by unfold Den at h ⊢;exact⟨rfl,h.2⟩
 | .lst ts,.al,A,v,h,k,hA=>by
  unfold Den at h ⊢
  obtain⟨e,a,vs,q,s,r,d⟩:=h
  exact⟨rfl,a,vs,q,k a s,r,d.monoS k⟩
 | .lst ts,.sp,A,v,h,k,hA=>by
  unfold Den at h ⊢
  obtain⟨a,vs,q,e,r,d⟩:=h
  exact⟨rfl,a,vs,q,hA a (by rw [e];exact List.mem_singleton.mpr rfl),r,d.monoS k⟩
 | .lst ts,.fu,A,v,h,k,hA=>by
  unfold Den at h ⊢
  obtain⟨a,vs,A',q,e,r,d⟩:=h
  subst e
  exact⟨rfl,a,vs,q,hA a (List.mem_cons_self ..),r,Dens.out d k fun b z=>hA b (List.mem_cons_of_mem _ z)⟩
 | .tup ts,.fu,A,v,h,k,hA=>by
  unfold Den at h ⊢
  obtain⟨a,vs,q,r,d⟩:=h
  exact⟨rfl,a,vs,q,r,Dens.out d k hA⟩
 | .tup ts,.al,A,v,h,k,hA=>by
  unfold Den at h ⊢
  obtain⟨e,a,vs,q,r,d⟩:=h
  exact⟨rfl,a,vs,q,r,d.monoS k⟩
 | .tup ts,.sp,A,v,h,k,hA=>by
  unfold Den at h ⊢
  obtain⟨e,a,vs,q,r,d⟩:=h
  exact⟨rfl,a,vs,q,r,d.monoS k⟩
theorem Dens.out:∀ {ts:List T} {m:Md} {A:List Addr} {vs:List V},Dens K H S ts m A vs→(∀ a,S a→S' a)→(∀ a∈A,S' a)→Dens K H S' ts .al [] vs
 | [],m,A,vs,h,_,_=>by unfold Dens at h ⊢;exact⟨rfl,h.2⟩
 | t :: ts,m,A,vs,h,k,hA=>by
  unfold Dens at h ⊢
  obtain⟨A1,A2,v,vs',e,q,d,r⟩:=h
  subst e
  exact⟨[],[],v,vs',rfl,q,Den.out d k fun a z=>hA a (List.mem_append_left _ z),Dens.out r k fun a z=>hA a (List.mem_append_right _ z)⟩
end
theorem Dens.length:∀ {ts:List T} {m:Md} {A:List Addr} {vs:List V},Dens K H S ts m A vs→vs.length=ts.length
 | [],m,A,vs,h=>by unfold Dens at h;rw [h.2];rfl
 | t :: ts,m,A,vs,h=>by
  unfold Dens at h
  obtain⟨A1,A2,v,vs',e,q,d,r⟩:=h
  rw [q,List.length_cons,List.length_cons,Dens.length r]
theorem Dens.nil {m:Md}:Dens K H S [] m [] []:=by unfold Dens;exact⟨rfl,rfl⟩
theorem Dens.cons {t:T} {ts:List T} {m:Md} {A1 A2:List Addr} {v:V} {vs:List V} (d:Den K H S t m A1 v) (r:Dens K H S ts m A2 vs):Dens K H S (t :: ts) m (A1 ++ A2) (v :: vs):=by
 unfold Dens
 exact⟨A1,A2,v,vs,rfl,rfl,d,r⟩
theorem Dens.cons0 {t:T} {ts:List T} {v:V} {vs:List V} (d:Den K H S t .al [] v) (r:Dens K H S ts .al [] vs):Dens K H S (t :: ts) .al [] (v :: vs):=Dens.cons (A1:=[]) (A2:=[]) d r
theorem Dens.append:∀ {ts us:List T} {m:Md} {A1 A2:List Addr} {vs ws:List V},Dens K H S ts m A1 vs→Dens K H S us m A2 ws→Dens K H S (ts ++ us) m (A1 ++ A2) (vs ++ ws)
 | [],us,m,A1,A2,vs,ws,h,g=>by
  unfold Dens at h
  obtain⟨rfl,rfl⟩:=h
  exact g
 | t :: ts,us,m,A1,A2,vs,ws,h,g=>by
  unfold Dens at h
  obtain⟨B1,B2,v,vs',rfl,rfl,d,r⟩:=h
  rw [List.append_assoc]
  exact Dens.cons d (Dens.append r g)
theorem Den.alA {t:T} {A:List Addr} {v:V} (h:Den K H S t .al A v):A=[]:=by
 cases t with
 | sc w=>unfold Den at h;exact h.1
 | scr ns=>unfold Den at h;exact h.1
 | lst ts=>unfold Den at h;exact h.1
 | tup ts=>unfold Den at h;exact h.1
theorem Dens.alA:∀ {ts:List T} {A:List Addr} {vs:List V},Dens K H S ts .al A vs→A=[]
 | [],A,vs,h=>by unfold Dens at h;exact h.1
 | t :: ts,A,vs,h=>by
  unfold Dens at h
  obtain⟨A1,A2,v,vs',e,q,d,r⟩:=h
  rw [e,d.alA,Dens.alA r]
  rfl
theorem Dens.get:∀ {ts:List T} {vs:List V} {i:Nat} {t:T},Dens K H S ts .al [] vs→ts[i]? = some t→∃ v,vs[i]? = some v∧Den K H S t .al [] v
 | [],vs,i,t,h,e=>by simp at e
 | u :: us,vs,i,t,h,e=>by
  unfold Dens at h
  obtain⟨A1,A2,v,vs',ea,rfl,d,r⟩:=h
  obtain⟨rfl,rfl⟩:=List.append_eq_nil_iff.mp ea.symm
  cases i with
  | zero=>simp at e;subst e;exact⟨v,rfl,d⟩
  | succ i =>
   obtain⟨w,h1,h2⟩:=Dens.get (i:=i) r (by simpa using e)
   exact⟨w,by simpa using h1,h2⟩
end
theorem zcy {K:PySem.W.Frag} {H:Hp} {S:Addr→Prop} {m:Md} (v:V):Den K H S (.sc v) m [] v:=by unfold Den;exact⟨rfl,rfl⟩
theorem zad {K:PySem.W.Frag} {H:Hp} {S:Addr→Prop} {m:Md} {w v:V} {A:List Addr}:Den K H S (.sc w) m A v↔A=[]∧v=w:=by unfold Den;exact Iff.rfl
theorem zag {K:PySem.W.Frag} {H:Hp} {S:Addr→Prop} {ts:List T} {v:V} {A:List Addr}:Den K H S (.lst ts) .al A v↔A=[]∧∃ a vs,v=.ref a∧S a∧H a=some (.lst vs)∧Dens K H S ts .al [] vs:=by conv=>lhs;unfold Den
theorem zby {K:PySem.W.Frag} {H:Hp} {S:Addr→Prop} {ts:List T} {v:V} {A:List Addr}:Den K H S (.lst ts) .sp A v↔∃ a vs,v=.ref a∧A=[a]∧H a=some (.lst vs)∧Dens K H S ts .al [] vs:=by conv=>lhs;unfold Den
theorem zbk {K:PySem.W.Frag} {H:Hp} {S:Addr→Prop} {ts:List T} {v:V} {A:List Addr}:Den K H S (.lst ts) .fu A v↔∃ a vs A',v=.ref a∧A=a :: A'∧H a=some (.lst vs)∧Dens K H S ts .fu A' vs:=by conv=>lhs;unfold Den
theorem zal {K:PySem.W.Frag} {H:Hp} {S:Addr→Prop} {ts:List T} {v:V} {A:List Addr}:Den K H S (.tup ts) .al A v↔A=[]∧∃ a vs,v=.ref a∧SqT K H a vs∧Dens K H S ts .al [] vs:=by conv=>lhs;unfold Den
theorem zf1 {K:PySem.W.Frag} {H:Hp} {S:Addr→Prop} {ts:List T} {v:V} {A:List Addr}:Den K H S (.tup ts) .fu A v↔∃ a vs,v=.ref a∧SqT K H a vs∧Dens K H S ts .fu A vs:=by conv=>lhs;unfold Den
theorem ze0 {K:PySem.W.Frag} {H:Hp} {S:Addr→Prop} {ns:List Int} {m:Md} {v:V} {A:List Addr}:Den K H S (.scr ns) m A v↔A=[]∧∃ a,v=.ref a∧Scr K H a ns:=by conv=>lhs;unfold Den
end TL
namespace TL
open PySem PySem.Spec L2
inductive Res (α:Type) where
 | ok (a:α)
 | exc (c:Nat)
 | bad
noncomputable def Res.bind {α β:Type} (x:Res α) (f:α→Res β):Res β:=match x with
 | .ok a=>f a
 | .exc c=>.exc c
 | .bad=>.bad
@[simp] theorem Res.bind_ok {α β:Type} (a:α) (f:α→Res β):(Res.ok a).bind f=f a:=(rfl)
noncomputable def Res.of {α:Type}:Option α→Res α
 | some a=>.ok a
 | none=>.bad
@[simp] theorem Res.of_some {α:Type} (a:α):Res.of (some a)=.ok a:=(rfl)
noncomputable abbrev VEnv:=List (Option T)
noncomputable abbrev SEnv:=List (Option (Md×T))
structure Z where
 H₀:Hp
 S₀:Addr→Prop
 cl:Nat→Addr
 E:XK
def Dom (S:Addr→Prop) (H:Hp):Prop:=∀ a,S a→H a≠none
structure Grow (H:Hp) (S:Addr→Prop) (H':Hp) (S':Addr→Prop):Prop where
 same:Same H H'
 up:∀ a,S a→S' a
 new:∀ a,S' a→S a∨H a=none
 dom:Dom S' H'
theorem zaT {H H':Hp} (e:Same H H') {a:Addr} (h:H' a=none):H a=none:=e.free h
theorem zbd {H H':Hp} (e:Same H H') {a:Addr} (h:H a≠none):H' a≠none:=fun z=>h (zaT e z)
theorem Grow.refl {H:Hp} {S:Addr→Prop} (d:Dom S H):Grow H S H S:=⟨Same.refl _,fun _ h=>h,fun _ h=>.inl h,d⟩
theorem Grow.trans {H H1 H2:Hp} {S S1 S2:Addr→Prop} (a:Grow H S H1 S1) (b:Grow H1 S1 H2 S2):Grow H S H2 S2:=
 ⟨a.same.trans b.same,fun c h=>b.up c (a.up c h),fun c h=>(b.new c h).elim (fun q=>a.new c q) fun q=>.inr (zaT a.same q),b.dom⟩
structure Got (K:PySem.W.Frag) (H:Hp) (S:Addr→Prop) (H':Hp) (S':Addr→Prop) (A:List Addr) (v:V) (md:Md) (t:T):Prop where
 g:Grow H S H' S'
 nd:A.Nodup
 ow:∀ a∈A,H a=none∧¬ S' a
 den:Den K H' S' t md A v
structure Gots (K:PySem.W.Frag) (H:Hp) (S:Addr→Prop) (H':Hp) (S':Addr→Prop) (A:List Addr) (vs:List V) (md:Md) (ts:List T):Prop where
 g:Grow H S H' S'
 nd:A.Nodup
 ow:∀ a∈A,H a=none∧¬ S' a
 den:Dens K H' S' ts md A vs
section
variable {K:PySem.W.Frag} {H H' H1 H2:Hp} {S S' S1 S2:Addr→Prop} {A:List Addr} {v:V} {vs:List V} {md:Md} {t:T} {ts:List T}
theorem Got.trans (a:Grow H S H1 S1) (b:Got K H1 S1 H2 S2 A v md t):Got K H S H2 S2 A v md t:=
 ⟨a.trans b.g,b.nd,fun x hx=>⟨zaT a.same (b.ow x hx).1,(b.ow x hx).2⟩,b.den⟩
theorem Got.al (b:Got K H S H' S' A v md t):Got K H S H' (fun a=>S' a∨a∈A) [] v .al t:=
 ⟨⟨b.g.same,fun a h=>.inl (b.g.up a h),fun a h=>h.elim (b.g.new a) fun q=>.inr (b.ow a q).1,fun a h=>h.elim (b.g.dom a) fun q z=>by
  obtain⟨vs,e⟩:=b.den.own a q
  rw [z] at e;cases e⟩,List.nodup_nil,fun _ z=>(nomatch z),b.den.out (fun a h=>.inl h) fun a h=>.inr h⟩
theorem Gots.al (b:Gots K H S H' S' A vs md ts):Gots K H S H' (fun a=>S' a∨a∈A) [] vs .al ts:=
 ⟨⟨b.g.same,fun a h=>.inl (b.g.up a h),fun a h=>h.elim (b.g.new a) fun q=>.inr (b.ow a q).1,fun a h=>h.elim (b.g.dom a) fun q z=>by
  obtain⟨vs,e⟩:=b.den.own a q
  rw [z] at e;cases e⟩,List.nodup_nil,fun _ z=>(nomatch z),b.den.out (fun a h=>.inl h) fun a h=>.inr h⟩
theorem Got.sc (d:Dom S H) (v:V):Got K H S H S [] v md (.sc v):=⟨.refl d,List.nodup_nil,fun _ z=>(nomatch z),zcy v⟩
theorem Got.newSp {p:Addr} (d:Dom S H) (hp:H p=none) (h:Dens K H S ts .al [] vs):Got K H S (upd H p (.lst vs)) S [p] (.ref p) .sp (.lst ts):=by
 have sm:Same H (upd H p (.lst vs)):=fun b o e=>by rw [zaq (zaw e hp)];exact e
 exact⟨⟨sm,fun _ h=>h,fun _ h=>.inl h,fun a h=>zbd sm (d a h)⟩,by simp,fun a ha=>by
  rw [List.mem_singleton.mp ha]
  exact⟨hp,fun z=>d p z hp⟩,zby.mpr ⟨p,vs,rfl,rfl,zaW,h.mono sm fun _ h=>h⟩⟩
theorem Got.newFu {p:Addr} (g:Gots K H S H' S' A vs .fu ts) (hp:H' p=none):Got K H S (upd H' p (.lst vs)) S' (p :: A) (.ref p) .fu (.lst ts):=by
 have sm:Same H' (upd H' p (.lst vs)):=fun b o e=>by rw [zaq (zaw e hp)];exact e
 have np:p∉A:=fun z=>by
  obtain⟨ws,e⟩:=g.den.own p z
  rw [hp] at e;cases e
 refine ⟨⟨g.g.same.trans sm,g.g.up,g.g.new,fun a h=>zbd sm (g.g.dom a h)⟩,List.nodup_cons.mpr ⟨np,g.nd⟩,fun a ha=>?_,zbk.mpr ⟨p,vs,A,rfl,rfl,zaW,g.den.mono sm fun _ h=>h⟩⟩
 rcases List.mem_cons.mp ha with z | z
 ·rw [z];exact⟨zaT g.g.same hp,fun q=>g.g.dom p q hp⟩
 ·exact g.ow a z
theorem Got.newTup {p:Addr} (g:Gots K H S H' S' A vs .fu ts) (hp:H' p=none):Got K H S (upd H' p (.tup vs)) S' A (.ref p) .fu (.tup ts):=by
 have sm:Same H' (upd H' p (.tup vs)):=fun b o e=>by rw [zaq (zaw e hp)];exact e
 exact⟨⟨g.g.same.trans sm,g.g.up,g.g.new,fun a h=>zbd sm (g.g.dom a h)⟩,g.nd,g.ow,zf1.mpr ⟨p,vs,rfl,.inl (.inl zaW),g.den.mono sm fun _ h=>h⟩⟩
theorem Gots.nil (d:Dom S H):Gots K H S H S [] [] md []:=⟨.refl d,List.nodup_nil,fun _ z=>(nomatch z),Dens.nil⟩
theorem Gots.cons {A2:List Addr} (a:Got K H S H1 S1 A v md t) (b:Gots K H1 S1 H2 S2 A2 vs md ts):Gots K H S H2 S2 (A ++ A2) (v :: vs) md (t :: ts):=by
 have dj:∀ x∈A,x∉A2:=fun x hx hy=>by
  obtain⟨ws,e⟩:=a.den.own x hx
  rw [(b.ow x hy).1] at e;cases e
 refine ⟨a.g.trans b.g,List.nodup_append.mpr ⟨a.nd,b.nd,fun x hx y hy z=>dj x hx (z ▸ hy)⟩,fun x hx=>?_,Dens.cons (a.den.mono b.g.same b.g.up) b.den⟩
 rcases List.mem_append.mp hx with z | z
 ·refine ⟨(a.ow x z).1,fun q=>?_⟩
  rcases b.g.new x q with q | q
  ·exact (a.ow x z).2 q
  ·obtain⟨ws,e⟩:=a.den.own x z
   rw [q] at e;cases e
 ·exact⟨zaT a.g.same (b.ow x z).1,(b.ow x z).2⟩
theorem Gots.snoc {A2:List Addr} (a:Gots K H S H1 S1 A vs md ts) (b:Got K H1 S1 H2 S2 A2 v md t):Gots K H S H2 S2 (A ++ A2) (vs ++ [v]) md (ts ++ [t]):=by
 have dj:∀ x∈A,x∉A2:=fun x hx hy=>by
  obtain⟨ws,e⟩:=a.den.own x hx
  rw [(b.ow x hy).1] at e;cases e
 refine ⟨a.g.trans b.g,List.nodup_append.mpr ⟨a.nd,b.nd,fun x hx y hy z=>dj x hx (z ▸ hy)⟩,fun x hx=>?_,(a.den.mono b.g.same b.g.up).append (by simpa using Dens.cons b.den Dens.nil)⟩
 rcases List.mem_append.mp hx with z | z
 ·refine ⟨(a.ow x z).1,fun q=>?_⟩
  rcases b.g.new x q with q | q
  ·exact (a.ow x z).2 q
  ·obtain⟨ws,e⟩:=a.den.own x z
   rw [q] at e;cases e
 ·exact⟨zaT a.g.same (b.ow x z).1,(b.ow x z).2⟩
end
structure OkE (K:PySem.W.Frag) (z:Z) (S:Addr→Prop) (ρ:VEnv) (σ:St) (H:Hp):Prop where
 same:Same z.H₀ H
 dom:Dom S H
 sl:∀ (i:Nat) t,ρ[i]? = some (some t)→∃ v,σ[i]? = some (some v)∧Den K H S t .al [] v
theorem OkE.grow {K:PySem.W.Frag} {z:Z} {S S':Addr→Prop} {ρ:VEnv} {σ:St} {H H':Hp} (o:OkE K z S ρ σ H) (g:Grow H S H' S'):OkE K z S' ρ σ H':=
 ⟨o.same.trans g.same,g.dom,fun i t e=>let ⟨v,h1,h2⟩:=o.sl i t e;⟨v,h1,h2.mono g.same g.up⟩⟩
noncomputable def endE (K:PySem.W.Frag) (z:Z) (H:Hp) (S:Addr→Prop) (md:Md) (Q:VK):Res T→Prop
 | .ok t=>∀ v H' S' A,Got K H S H' S' A v md t→Q v H'
 | .exc c=>∀ H',Same z.H₀ H'→z.E (.ref (z.cl c)) none H'
 | .bad=>False
noncomputable def endA (K:PySem.W.Frag) (z:Z) (H:Hp) (S:Addr→Prop) (md:Md) (Q:List V→Hp→Prop):Res (List T)→Prop
 | .ok ts=>∀ vs H' S' A,Gots K H S H' S' A vs md ts→Q vs H'
 | .exc c=>∀ H',Same z.H₀ H'→z.E (.ref (z.cl c)) none H'
 | .bad=>False
noncomputable def endB (z:Z) (H:Hp) (S:Addr→Prop) (Q:Bool→Hp→Prop):Res Bool→Prop
 | .ok b=>∀ H' S',Grow H S H' S'→Q b H'
 | .exc c=>∀ H',Same z.H₀ H'→z.E (.ref (z.cl c)) none H'
 | .bad=>False
theorem endE.grow {K:PySem.W.Frag} {z:Z} {H H1:Hp} {S S1:Addr→Prop} {md:Md} {Q:VK} {r:Res T} (g:Grow H S H1 S1) (h:endE K z H S md Q r):endE K z H1 S1 md Q r:=by
 cases r with
 | ok t=>exact fun v H2 S2 A g2=>h v H2 S2 A (g2.trans g)
 | exc c=>exact h
 | bad=>exact h
def tr (K:PySem.W.Frag) (z:Z) (md:Md) (F:VEnv→Res T):TE:=fun σ H Q=>∃ S ρ,OkE K z S ρ σ H∧endE K z H S md Q (F ρ)
def tra (K:PySem.W.Frag) (z:Z) (md:Md) (F:VEnv→Res (List T)):TA:=fun σ H Q=>∃ S ρ,OkE K z S ρ σ H∧endA K z H S md Q (F ρ)
def trb (K:PySem.W.Frag) (z:Z) (F:VEnv→Res Bool):TT:=fun σ H Q=>∃ S ρ,OkE K z S ρ σ H∧endB z H S Q (F ρ)
abbrev JE (X:Cx) (z:Z) (md:Md) (F:VEnv→Res T) (e:Expr):Prop:=PE X e (tr X.K z md F)
abbrev JA (X:Cx) (z:Z) (md:Md) (F:VEnv→Res (List T)) (es:List Expr):Prop:=PA X es (tra X.K z md F)
abbrev JT (X:Cx) (z:Z) (F:VEnv→Res Bool) (e:Expr):Prop:=PT X e (trb X.K z F)
abbrev JW (X:Cx) (z:Z) (F:VEnv→Res Bool) (e:Expr):Prop:=PW X e (trb X.K z F)
theorem PE.imp {X:Cx} {e:Expr} {t t':TE} (h:PE X e t) (k:∀ σ H Q,t' σ H Q→t σ H Q):PE X e t':=fun pins s σ H Q I q=>h pins s σ H Q I (k σ H Q q)
theorem PA.imp {X:Cx} {e:List Expr} {t t':TA} (h:PA X e t) (k:∀ σ H Q,t' σ H Q→t σ H Q):PA X e t':=fun pos pins s σ H Q I q=>h pos pins s σ H Q I (k σ H Q q)
theorem PT.imp {X:Cx} {e:Expr} {t t':TT} (h:PT X e t) (k:∀ σ H Q,t' σ H Q→t σ H Q):PT X e t':=fun pins s σ H Q I q=>h pins s σ H Q I (k σ H Q q)
theorem PW.imp {X:Cx} {e:Expr} {t t':TT} (h:PW X e t) (k:∀ σ H Q,t' σ H Q→t σ H Q):PW X e t':=fun wh pins s σ H Q I q=>h wh pins s σ H Q I (k σ H Q q)
section
variable {X:Cx} {z:Z} {md md1 md2:Md} {F F1 F2:VEnv→Res T} {e a b:Expr} {es:List Expr} {pos:Pos} {K:PySem.W.Frag}
theorem zk3 {σ:St} {H:Hp} {Q:VK} (h:tr K z .al F σ H Q):tr K z md F σ H Q:=by
 obtain⟨S,ρ,o,h⟩:=h
 refine ⟨S,ρ,o,?_⟩
 cases e:F ρ with
 | ok t=>rw [e] at h;exact fun v H' S' A g=>h v H' _ [] g.al
 | exc c=>rw [e] at h;exact h
 | bad=>rw [e] at h;exact h
theorem JE.al (h:JE X z md F e):JE X z .al F e:=PE.imp h fun _ _ _=>zk3
noncomputable def isSc:T→Bool
 | .sc _=>true
 | _=>false
noncomputable def chk (x:Res T):Res T:=x.bind fun t=>if isSc t then .ok t else .bad
@[simp] theorem zmo (v:V):chk (.ok (.sc v))=.ok (.sc v):=(rfl)
theorem JE.sc (h:JE X z md F e):JE X z md1 (fun ρ=>chk (F ρ)) e:=PE.imp h fun σ H Q q=>by
 obtain⟨S,ρ,o,q⟩:=q
 refine ⟨S,ρ,o,?_⟩
 replace q:endE X.K z H S md1 Q (chk (F ρ)):=q
 cases e:F ρ with
 | ok t =>
  rw [e] at q
  cases t with
  | sc w =>
   intro v H' S' A g
   refine q v H' S' A ⟨g.g,g.nd,g.ow,?_⟩
   have:=zad.mp g.den
   exact zad.mpr this
  | scr ns=>exact (show False from q).elim
  | lst ts=>exact (show False from q).elim
  | tup ts=>exact (show False from q).elim
 | exc c=>rw [e] at q;exact q
 | bad=>rw [e] at q;exact q
theorem zdU {F1:VEnv→Res T} {G:VEnv→T→Res T} {σ:St} {H:Hp} {Q:VK} {Q1:VK} (h:tr K z md (fun ρ=>(F1 ρ).bind (G ρ)) σ H Q)
  (k:∀ S ρ t v H' S',OkE K z S' ρ σ H'→F1 ρ=.ok t→Grow H S H' S'→Den K H' S' t .al [] v→endE K z H' S' md Q (G ρ t)→Q1 v H'):tr K z .al F1 σ H Q1:=by
 obtain⟨S,ρ,o,h⟩:=h
 refine ⟨S,ρ,o,?_⟩
 replace h:endE K z H S md Q ((F1 ρ).bind (G ρ)):=h
 cases e:F1 ρ with
 | ok t =>
  rw [e] at h
  intro v H' S' A g
  obtain rfl:=g.den.alA
  exact k S ρ t v H' S' (o.grow g.g) e g.g g.den (endE.grow g.g h)
 | exc c=>rw [e] at h;exact h
 | bad=>rw [e] at h;exact h
def endT (K:PySem.W.Frag) (H:Hp) (S:Addr→Prop) (md:Md) (Q:VK) (r:Option T):Prop:=match r with
 | some t=>∀ v H' S' A,Got K H S H' S' A v md t→Q v H'
 | none=>False
def rT (K:PySem.W.Frag) (md:Md) (g:T→T→Option T):R2:=fun x y H Q=>∃ S t u,Dom S H∧Den K H S t .al [] x∧Den K H S u .al [] y∧endT K H S md Q (g t u)
noncomputable def r1T (K:PySem.W.Frag) (md:Md) (g:T→Option T):V→Hp→VK→Prop:=fun x H Q=>∃ S t,Dom S H∧Den K H S t .al [] x∧endT K H S md Q (g t)
noncomputable def rCT (K:PySem.W.Frag) (md:Md) (g:List T→Option T):List V→Hp→VK→Prop:=fun xs H Q=>∃ S ts,Dom S H∧Dens K H S ts .al [] xs∧endT K H S md Q (g ts)
noncomputable def eOp (g:T→T→Option T) (F1 F2:VEnv→Res T):VEnv→Res T:=fun ρ=>(F1 ρ).bind fun t=>(F2 ρ).bind fun u=>.of (g t u)
noncomputable def eUn (g:T→Option T) (F1:VEnv→Res T):VEnv→Res T:=fun ρ=>(F1 ρ).bind fun t=>.of (g t)
theorem zdm {H:Hp} {S:Addr→Prop} {Q:VK} {r:Option T} (h:endE K z H S md Q (.of r)):endT K H S md Q r:=by
 cases r with
 | some t=>exact h
 | none=>exact h
theorem zgh {g:T→T→Option T} {σ:St} {H:Hp} {Q:VK} (h:tr K z md (eOp g F1 F2) σ H Q):tOp (rT K md g) (tr K z .al F1) (tr K z .al F2) σ H Q:=by
 refine zdU h fun S ρ t v H' S' o _ g1 d q=>⟨S',ρ,o,?_⟩
 try dsimp only at q
 cases e2:F2 ρ with
 | exc c=>rw [e2] at q;exact q
 | bad=>rw [e2] at q;exact q
 | ok u =>
  rw [e2] at q
  intro v2 H2 S2 A2 g2
  obtain rfl:=g2.den.alA
  exact⟨S2,t,u,g2.g.dom,d.mono g2.g.same g2.g.up,g2.den,zdm (z:=z) (endE.grow g2.g q)⟩
theorem zdg {op:Operator} {g:T→T→Option T} (ho:OpR X (binaryOp op) (rT X.K md g)) (ha:JE X z md1 F1 a) (hb:JE X z md2 F2 b):JE X z md (eOp g F1 F2) (.BinOp a op b pos):=
 PE.imp (zlu ho (JE.al ha) (JE.al hb)) fun _ _ _=>zgh
theorem zhx {g:T→T→Option T} (ho:IxR X (rT X.K md g)) (ha:JE X z md1 F1 a) (hb:JE X z md2 F2 b) (hs:zg6 b):JE X z md (eOp g F1 F2) (.Subscript a b pos):=
 PE.imp (zlv ho (JE.al ha) (JE.al hb) hs) fun _ _ _=>zgh
theorem zlF {op:UnaryOp} {g:T→Option T} (ho:UnR X (unaryOp op) (r1T X.K md g)) (ha:JE X z md1 F1 a):JE X z md (eUn g F1) (.UnaryOp op a pos):=
 PE.imp (zlt ho (JE.al ha)) fun σ H Q h=>zdU h fun S ρ t v H' S' o _ g d q=>⟨S',t,g.dom,d,zdm (z:=z) q⟩
noncomputable def asB:T→Option Bool
 | .sc (.bl b)=>some b
 | _=>none
noncomputable def eB (F:VEnv→Res T):VEnv→Res Bool:=fun ρ=>(F ρ).bind fun t=>.of (asB t)
theorem zhQ {t:T} {b:Bool} (h:asB t=some b):t=.sc (.bl b):=by
 unfold asB at h
 split at h
 ·cases h;rfl
 ·cases h
theorem zgg {σ:St} {H:Hp} {Q:Bool→Hp→Prop} (h:trb K z (eB F) σ H Q):tr K z md F σ H (fun x H'=>∃ k,x=.bl k∧Q k H'):=by
 obtain⟨S,ρ,o,h⟩:=h
 refine ⟨S,ρ,o,?_⟩
 unfold eB at h
 try dsimp only at h
 cases e:F ρ with
 | exc c=>rw [e] at h;exact h
 | bad=>rw [e] at h;exact h
 | ok t =>
  rw [e,Res.bind_ok] at h
  intro v H' S' A g
  cases e2:asB t with
  | none=>rw [e2] at h;exact (show False from h).elim
  | some b =>
   rw [e2] at h
   obtain rfl:=zhQ e2
   obtain⟨rfl,rfl⟩:=zad.mp g.den
   exact⟨_,rfl,h H' S' g.g⟩
theorem zaA {op:CmpOp} {g:T→T→Option T} (ho:OpR X (compareOp op) (rT X.K .al g)) (ha:JE X z md1 F1 a) (hb:JE X z md2 F2 b) (hm:behindInMarks op b=false):JT X z (eB (eOp g F1 F2)) (.Compare a [op] [b] pos):=
 PT.imp (ziu ho (JE.al ha) (JE.al hb) hm) fun σ H Q h=>zgh (md:=.al) (zgg h)
theorem zh7 {e:Expr} (h:JE X z md F e) (he:∀ whole,isTrue e X.env whole=(do let v ← whole;standAt e.pos;holding [v] (truthy v)):=by intro _;rfl):JT X z (eB F) e:=
 PT.imp (zjQ h he) fun σ H Q q=>zgg q
variable {B B1 B2:VEnv→Res Bool} {rest:List Expr}
theorem zgE (h:JW X z B e):JT X z B e:=PW.pt h
theorem zdT {G:VEnv→Bool→Res Bool} {σ:St} {H:Hp} {Q:Bool→Hp→Prop} {Q1:Bool→Hp→Prop} (h:trb K z (fun ρ=>(B1 ρ).bind (G ρ)) σ H Q)
  (k:∀ b H' , trb K z (fun ρ=>G ρ b) σ H' Q→Q1 b H'):trb K z B1 σ H Q1:=by
 obtain⟨S,ρ,o,h⟩:=h
 refine ⟨S,ρ,o,?_⟩
 try dsimp only at h
 cases e:B1 ρ with
 | exc c=>rw [e] at h;exact h
 | bad=>rw [e] at h;exact h
 | ok t =>
  rw [e,Res.bind_ok] at h
  intro H' S' g
  refine k t H' ⟨S',ρ,o.grow g,?_⟩
  dsimp only
  cases e2:G ρ t with
  | exc c=>rw [e2] at h;exact h
  | bad=>rw [e2] at h;exact h
  | ok b=>rw [e2] at h;exact fun H2 S2 g2=>h H2 S2 (g.trans g2)
theorem zdS {b:Bool} {σ:St} {H:Hp} {Q:Bool→Hp→Prop} (h:trb K z (fun _=>.ok b) σ H Q):Q b H:=by
 obtain⟨S,ρ,o,h⟩:=h
 exact h H S (.refl o.dom)
noncomputable def bAnd (B1 B2:VEnv→Res Bool):VEnv→Res Bool:=fun ρ=>(B1 ρ).bind fun b=>if b=true then B2 ρ else .ok false
noncomputable def bOr (B1 B2:VEnv→Res Bool):VEnv→Res Bool:=fun ρ=>(B1 ρ).bind fun b=>if b=true then .ok true else B2 ρ
noncomputable def bNot (B1:VEnv→Res Bool):VEnv→Res Bool:=fun ρ=>(B1 ρ).bind fun b=>.ok (!b)
theorem ziP (ha:JT X z B a):JW X z B (.BoolOp .And [a] pos):=zis ha
theorem zfs (ha:JT X z B a):JW X z B (.BoolOp .Or [a] pos):=zjN ha
theorem zkl (ha:JT X z B1 a) (hb:JW X z B2 (.BoolOp .And (b :: rest) pos)):JW X z (bAnd B1 B2) (.BoolOp .And (a :: b :: rest) pos):=
 PW.imp (zjO ha hb) fun σ H Q h=>zdT h fun b H' q=>by
  cases b with
  | true=>exact q
  | false=>rw [if_neg (by decide)];exact zdS (z:=z) (K:=X.K) q
theorem zfZ (ha:JT X z B1 a) (hb:JW X z B2 (.BoolOp .Or (b :: rest) pos)):JW X z (bOr B1 B2) (.BoolOp .Or (a :: b :: rest) pos):=
 PW.imp (zlr ha hb) fun σ H Q h=>zdT h fun b H' q=>by
  cases b with
  | false=>rw [if_neg (by decide)];exact q
  | true=>rw [if_pos rfl];exact zdS (z:=z) (K:=X.K) q
theorem zh8 (ha:JT X z B a):JT X z (bNot B) (.UnaryOp .Not a pos):=
 PT.imp (zjR ha) fun σ H Q h=>zdT h fun b H' q=>zdS (z:=z) (K:=X.K) q
noncomputable def eVar (i:Nat):VEnv→Res T:=fun ρ=>match ρ[i]? with
 | some (some t)=>.ok t
 | _=>.bad
noncomputable def eC (v:V):VEnv→Res T:=fun _=>.ok (.sc v)
theorem zak {i:Nat} (h:PE X e (tVar i)):JE X z .al (eVar i) e:=PE.imp h fun σ H Q q=>by
 obtain⟨S,ρ,o,q⟩:=q
 unfold eVar at q
 split at q
 ·rename_i t e
  obtain⟨v,h1,h2⟩:=o.sl i t e
  exact⟨v,h1,q v H S [] ⟨.refl o.dom,List.nodup_nil,fun _ z=>(nomatch z),h2⟩⟩
 ·exact (show False from q).elim
theorem zbr {v:V} (h:PE X e (tC v)):JE X z md (eC v) e:=PE.imp h fun σ H Q q=>by
 obtain⟨S,ρ,o,q⟩:=q
 exact q v H S [] (Got.sc o.dom v)
theorem zac {i j}:JE X z md (eC (.int i)) (.Constant (.int i) j pos):=zbr zjZ
theorem zhA {i j}:JE X z md (eC (.bl i)) (.Constant (.bool i) j pos):=zbr zlw
variable {Fs:VEnv→Res (List T)} {te:TE}
noncomputable def aNil:VEnv→Res (List T):=fun _=>.ok []
noncomputable def zab (F:VEnv→Res T) (Fs:VEnv→Res (List T)):VEnv→Res (List T):=fun ρ=>(F ρ).bind fun t=>(Fs ρ).bind fun ts=>.ok (t :: ts)
theorem zae:JA X z md aNil []:=PA.imp zdH fun σ H Q q=>by
 obtain⟨S,ρ,o,q⟩:=q
 exact q [] H S [] (Gots.nil o.dom)
theorem zaa (ha:JE X z md F e) (hr:JA X z md Fs es) (hs:starEach (e :: es) X.env=(false,eval e X.env) :: starEach es X.env:=by rfl):JA X z md (zab F Fs) (e :: es):=
 PA.imp (zcf ha hr hs) fun σ H Q h=>by
  obtain⟨S,ρ,o,h⟩:=h
  refine ⟨S,ρ,o,?_⟩
  unfold zab at h
  try dsimp only at h
  cases e1:F ρ with
  | exc c=>rw [e1] at h;exact h
  | bad=>rw [e1] at h;exact h
  | ok t =>
   rw [e1,Res.bind_ok] at h
   intro v1 H1 S1 A1 g1
   refine ⟨S1,ρ,o.grow g1.g,?_⟩
   cases e2:Fs ρ with
   | exc c=>rw [e2] at h;exact h
   | bad=>rw [e2] at h;exact h
   | ok ts =>
    rw [e2] at h
    exact fun vs H2 S2 A2 g2=>h _ H2 S2 _ (Gots.cons g1 g2)
theorem JA.al (h:JA X z md Fs es):JA X z .al Fs es:=PA.imp h fun σ H Q q=>by
 obtain⟨S,ρ,o,q⟩:=q
 refine ⟨S,ρ,o,?_⟩
 cases e:Fs ρ with
 | ok t=>rw [e] at q;exact fun v H' S' A g=>q v H' _ [] g.al
 | exc c=>rw [e] at q;exact q
 | bad=>rw [e] at q;exact q
noncomputable def zcU (ts:List T):Option T:=if ts.length≤sizeLine then some (.lst ts) else none
noncomputable def zgf (ts:List T):Option T:=if ts.length≤sizeLine then some (.tup ts) else none
noncomputable def eLst (Fs:VEnv→Res (List T)):VEnv→Res T:=fun ρ=>(Fs ρ).bind fun ts=>.of (zcU ts)
noncomputable def eTup (Fs:VEnv→Res (List T)):VEnv→Res T:=fun ρ=>(Fs ρ).bind fun ts=>.of (zgf ts)
theorem zbT {G:List T→Res T} {σ:St} {H:Hp} {Q:VK} {Q1:List V→Hp→Prop} (h:tr K z md (fun ρ=>(Fs ρ).bind G) σ H Q)
  (k:∀ S ts vs H' S' A,Same z.H₀ H→Gots K H S H' S' A vs md1 ts→endE K z H S md Q (G ts)→Q1 vs H'):tra K z md1 Fs σ H Q1:=by
 obtain⟨S,ρ,o,h⟩:=h
 refine ⟨S,ρ,o,?_⟩
 try dsimp only at h
 cases e:Fs ρ with
 | ok t=>rw [e] at h;exact fun vs H' S' A g=>k S t vs H' S' A o.same g h
 | exc c=>rw [e] at h;exact h
 | bad=>rw [e] at h;exact h
theorem zcK {ts:List T} {t:T} (h:zcU ts=some t):t=.lst ts∧ts.length≤sizeLine:=by
 unfold zcU at h
 split at h
 ·cases h;exact⟨rfl,by assumption⟩
 ·cases h
theorem zfQ {ts:List T} {t:T} (h:zgf ts=some t):t=.tup ts∧ts.length≤sizeLine:=by
 unfold zgf at h
 split at h
 ·cases h;exact⟨rfl,by assumption⟩
 ·cases h
theorem zax (h:JA X z .fu Fs es):JE X z .fu (eLst Fs) (.List es pos):=PE.imp (zjY h) fun σ H Q q=>zbT q fun S ts vs H' S' A _ g q=>by
 cases e:zcU ts with
 | none=>rw [e] at q;exact (show False from q).elim
 | some t =>
  rw [e] at q
  obtain⟨rfl,hl⟩:=zcK e
  exact⟨by rw [g.den.length];exact hl,fun p hp=>q _ _ S' _ (Got.newFu g hp)⟩
theorem zkp {x1} (h:JA X z .fu Fs es):JE X z .fu (eTup Fs) (.Tuple es x1 pos):=PE.imp (zjW h) fun σ H Q q=>zbT q fun S ts vs H' S' A _ g q=>by
 cases e:zgf ts with
 | none=>rw [e] at q;exact (show False from q).elim
 | some t =>
  rw [e] at q
  obtain⟨rfl,hl⟩:=zfQ e
  exact⟨by rw [g.den.length];exact hl,fun p hp=>q _ _ S' _ (Got.newTup g hp)⟩
noncomputable def endC (K:PySem.W.Frag) (cl:Nat→Addr) (H:Hp) (S:Addr→Prop) (md:Md) (Q:VK) (E:XK):Res T→Prop
 | .ok t=>∀ v H' S' A,Got K H S H' S' A v md t→Q v H'
 | .exc c=>∀ H',Same H H'→E (.ref (cl c)) none H'
 | .bad=>False
def spT (K:PySem.W.Frag) (cl:Nat→Addr) (n:Nat) (md:Md) (m:List T→Res T):Sp:=fun vs H Q E=>∃ S ts,ts.length=n∧Dom S H∧Dens K H S ts .al [] vs∧endC K cl H S md Q E (m ts)
noncomputable def zaR (n:Nat) (m:List T→Res T) (Fs:VEnv→Res (List T)):VEnv→Res T:=fun ρ=>(Fs ρ).bind fun ts=>if ts.length=n then m ts else .bad
theorem zi3 {H:Hp} {S:Addr→Prop} {Q:VK} {r:Res T} (s:Same z.H₀ H) (h:endE K z H S md Q r):endC K z.cl H S md Q z.E r:=by
 cases r with
 | ok t=>exact h
 | exc c=>exact fun H2 s2=>h H2 (s.trans s2)
 | bad=>exact h
theorem zgi {n:Nat} {m:List T→Res T} {σ:St} {H:Hp} {Q:VK} (h:tr K z md (zaR n m Fs) σ H Q):zij (spT K z.cl n md m) [] z.E (tra K z .al Fs) σ H Q:=zbT h fun S ts vs H' S' A s g q=>by
 obtain rfl:=g.den.alA
 by_cases hl:ts.length=n
 ·rw [if_pos hl] at q
  exact⟨S',ts,hl,g.g.dom,by rw [List.append_nil];exact g.den,zi3 (s.trans g.g.same) (endE.grow g.g q)⟩
 ·rw [if_neg hl] at q;exact (show False from q).elim
theorem zau {k:Nat} {f:Addr} {fd:FuncData} {ps:List Str} {n:Nat} {m:List T→Res T} {CX:CXT} {x:Str} {p:Pos} (G:FnOk X.prog X.w X.K X.mg X.base CX k f fd ps (spT X.K z.cl n md m)) (hr:Room k X.A) (hg:Gl X x) (hm:X.mg x=some (.ref f)) (hk:PySem.W.keepIn X.K (.ref f)=true)
  (hb:za1 X.K fd ps []) (hx:zdt CX X z.E) (ha:JA X z md1 Fs (e :: es)) (hdb:(x == ("__debug__" : Str))=false:=by decide) (he:starEach (e :: es) X.env=(false,eval e X.env) :: starEach es X.env:=by rfl) (hpl:(backTo pos (starEach es X.env)).any (·.1)=false:=by rfl) :
  JE X z md (zaR n m Fs) (.Call (.Name x p) (e :: es) [] pos):=
 PE.imp (ziA G hr hg hm hk hb .nil hx (JA.al ha) hdb he hpl) fun σ H Q=>zgi
noncomputable def eB1 (g:List T→Option T) (Fs:VEnv→Res (List T)):VEnv→Res T:=fun ρ=>(Fs ρ).bind fun ts=>.of (g ts)
theorem zk2 {g:List T→Option T} {σ:St} {H:Hp} {Q:VK} (h:tr K z md (eB1 g Fs) σ H Q):tCB (rCT K md g) (tra K z .al Fs) σ H Q:=zbT h fun S ts vs H' S' A _ gg q=>by
 obtain rfl:=gg.den.alA
 exact⟨S',ts,gg.g.dom,gg.den,zdm (z:=z) (endE.grow gg.g q)⟩
theorem zaF {id:String} {x:Str} {p:Pos} {g:List T→Option T} (hc:zdu X (.builtin id) (rCT X.K md g)) (hg:Gl X x) (hm:X.mg x=none) (hv:bootBuiltins x=some (.builtin id)) (ha:JA X z md1 Fs (e :: es)) (hn:x ≠ "__name__" := by decide) (hdb:(x == ("__debug__" : Str))=false:=by decide)
  (he:starEach (e :: es) X.env=(false,eval e X.env) :: starEach es X.env:=by rfl) (hpl:(backTo pos (starEach es X.env)).any (·.1)=false:=by rfl):JE X z md (eB1 g Fs) (.Call (.Name x p) (e :: es) [] pos):=
 PE.imp (zfl hc hg hm hv (JA.al ha) hn hdb he hpl) fun σ H Q=>zk2
end
end TL
namespace TL
open PySem PySem.Spec L2
inductive SRes where
 | nx (ρ:SEnv)
 | rt (md:Md) (t:T)
 | exc (c:Nat)
 | bad
structure Ok (K:PySem.W.Frag) (z:Z) (S:Addr→Prop) (As:Nat→List Addr) (ρ:SEnv) (σ:St) (H:Hp):Prop where
 same:Same z.H₀ H
 dom:Dom S H
 ln:ρ.length=σ.length
 s0:∀ a,z.S₀ a→S a
 s1:∀ a,S a→z.S₀ a∨z.H₀ a=none
 nd:∀ i,(As i).Nodup
 ow:∀ i,∀ a∈As i,¬ S a∧z.H₀ a=none∧H a≠none
 dj:∀ i j,i≠j→∀ a∈As i,a∉As j
 sl:∀ (i:Nat) m t,ρ[i]? = some (some (m,t))→∃ v,σ[i]? = some (some v)∧Den K H S t m (As i) v
structure Step (K:PySem.W.Frag) (S:Addr→Prop) (H:Hp) (S':Addr→Prop) (H':Hp):Prop where
 up:∀ a,S a→S' a
 frm:Frm K H H' S
theorem Step.refl {K:PySem.W.Frag} {S:Addr→Prop} {H:Hp}:Step K S H S H:=⟨fun _ h=>h,⟨fun _ _ _ h=>h,fun _ _ h=>h,fun _ _ h=>h⟩⟩
theorem Step.trans {K:PySem.W.Frag} {S S1 S2:Addr→Prop} {H H1 H2:Hp} (a:Step K S H S1 H1) (b:Step K S1 H1 S2 H2):Step K S H S2 H2:=
 ⟨fun c h=>b.up c (a.up c h),⟨fun c xs h e=>b.frm.nodes c xs (a.up c h) (a.frm.nodes c xs h e),fun c xs h=>b.frm.tups c xs (a.frm.tups c xs h),fun c xs h=>b.frm.scrs c xs (a.frm.scrs c xs h)⟩⟩
theorem Grow.step {K:PySem.W.Frag} {S S':Addr→Prop} {H H':Hp} (g:Grow H S H' S'):Step K S H S' H':=
 ⟨g.up,⟨fun c xs _ e=>g.same _ _ e,fun c xs h=>zcZ g.same h,fun c xs h=>h.same g.same⟩⟩
theorem Step.dens {K:PySem.W.Frag} {S S':Addr→Prop} {H H':Hp} {t:List T} {v:List V} (s:Step K S H S' H') (d:Dens K H S t .al [] v):Dens K H' S' t .al [] v:=Dens.frm s.frm (fun _ h=>h) s.up (fun _ z=>nomatch z) d
noncomputable def endS (K:PySem.W.Frag) (z:Z) (S:Addr→Prop) (H:Hp) (D:Ends):SRes→Prop
 | .nx ρ'=>∀ S' As' σ' H',Ok K z S' As' ρ' σ' H'→Step K S H S' H'→D.nx σ' H'
 | .rt md t=>∀ v H' S' A,Got K z.H₀ z.S₀ H' S' A v md t→D.rt v H'
 | .exc c=>∀ H',Same z.H₀ H'→z.E (.ref (z.cl c)) none H'
 | .bad=>False
def st (K:PySem.W.Frag) (z:Z) (R:SEnv→SRes):TS:=fun D σ H=>∃ S As ρ,Ok K z S As ρ σ H∧endS K z S H D (R ρ)
abbrev JS (X:Cx) (z:Z) (R:SEnv→SRes) (s:Stmt):Prop:=PS X s (st X.K z R)
abbrev JSs (X:Cx) (z:Z) (R:SEnv→SRes) (s:List Stmt):Prop:=PSs X s (st X.K z R)
theorem PS.imp {X:Cx} {e:Stmt} {t t':TS} (h:PS X e t) (k:∀ D σ H,t' D σ H→t D σ H):PS X e t':=fun pins s σ H Q I q=>h pins s σ H Q I (k Q σ H q)
theorem PSs.imp {X:Cx} {e:List Stmt} {t t':TS} (h:PSs X e t) (k:∀ D σ H,t' D σ H→t D σ H):PSs X e t':=fun pins s σ H Q I q=>h pins s σ H Q I (k Q σ H q)
theorem endS.step {K:PySem.W.Frag} {z:Z} {S S1:Addr→Prop} {H H1:Hp} {D:Ends} {r:SRes} (s:Step K S H S1 H1) (h:endS K z S H D r):endS K z S1 H1 D r:=by
 cases r with
 | nx ρ'=>exact fun S' As' σ' H' o q=>h S' As' σ' H' o (s.trans q)
 | rt md t=>exact h
 | exc c=>exact h
 | bad=>exact h
noncomputable def SRes.then (r:SRes) (f:SEnv→SRes):SRes:=match r with
 | .nx ρ=>f ρ
 | .rt md t=>.rt md t
 | .exc c=>.exc c
 | .bad=>.bad
@[simp] theorem SRes.then_nx (ρ:SEnv) (f:SEnv→SRes):(SRes.nx ρ).then f=f ρ:=(rfl)
@[simp] theorem SRes.then_rt (md:Md) (t:T) (f:SEnv→SRes):(SRes.rt md t).then f=.rt md t:=(rfl)
noncomputable def Res.sthen {α:Type} (r:Res α) (f:α→SRes):SRes:=match r with
 | .ok t=>f t
 | .exc c=>.exc c
 | .bad=>.bad
@[simp] theorem Res.sthen_ok {α:Type} (t:α) (f:α→SRes):(Res.ok t).sthen f=f t:=(rfl)
noncomputable def view:List Bool→SEnv→VEnv
 | b :: bs,s :: ρ=>(if b=true then s.map (·.2) else none) :: view bs ρ
 | _,_=>[]
noncomputable def zaB:List Bool→SEnv→SEnv
 | b :: bs,s :: ρ=>(if b=true then s.map (fun p=>(.al,p.2)) else s) :: zaB bs ρ
 | _,ρ=>ρ
theorem zff:∀ {M:List Bool} {ρ:SEnv} {i:Nat} {t:T},(view M ρ)[i]? = some (some t)→M[i]? = some true∧∃ m,ρ[i]? = some (some (m,t))
 | [],ρ,i,t,h=>by unfold view at h;simp at h
 | b :: bs,[],i,t,h=>by unfold view at h;simp at h
 | b :: bs,s :: ρ,0,t,h=>by
  unfold view at h
  simp at h
  obtain⟨rfl,m,rfl⟩:=h
  exact⟨rfl,m,rfl⟩
 | b :: bs,s :: ρ,i + 1,t,h=>by
  unfold view at h
  have:=zff (M:=bs) (ρ:=ρ) (i:=i) (t:=t) (by simpa using h)
  simpa using this
theorem zdM:∀ {M:List Bool} {ρ:SEnv} {i:Nat} {m:Md} {t:T},(zaB M ρ)[i]? = some (some (m,t))→(M[i]? = some true∧m=.al∧∃ m',ρ[i]? = some (some (m',t)))∨(M[i]?≠some true∧ρ[i]? = some (some (m,t)))
 | [],ρ,i,m,t,h=>by unfold zaB at h;exact .inr ⟨by simp,h⟩
 | b :: bs,[],i,m,t,h=>by unfold zaB at h;simp at h
 | b :: bs,s :: ρ,0,m,t,h=>by
  unfold zaB at h
  cases b with
  | true =>
   simp at h
   obtain⟨⟨m',rfl⟩,rfl⟩:=h
   exact .inl ⟨rfl,rfl,m',rfl⟩
  | false =>
   simp at h
   subst h
   exact .inr ⟨by simp,rfl⟩
 | b :: bs,s :: ρ,i + 1,m,t,h=>by
  unfold zaB at h
  have:=zdM (M:=bs) (ρ:=ρ) (i:=i) (m:=m) (t:=t) (by simpa using h)
  simpa using this
theorem zbF:∀ (M:List Bool) (ρ:SEnv),(zaB M ρ).length=ρ.length
 | [],ρ=>by unfold zaB;rfl
 | b :: bs,[]=>by unfold zaB;rfl
 | b :: bs,s :: ρ=>by unfold zaB;rw [List.length_cons,List.length_cons,zbF]
section
variable {K:PySem.W.Frag} {z:Z} {S S':Addr→Prop} {As:Nat→List Addr} {ρ:SEnv} {σ:St} {H H':Hp} {M:List Bool} {A:List Addr} {v:V} {md:Md} {t:T}
noncomputable def SB (S:Addr→Prop) (As:Nat→List Addr) (M:List Bool):Addr→Prop:=fun a=>S a∨∃ i,M[i]? = some true∧a∈As i
theorem Ok.view (o:Ok K z S As ρ σ H) (M:List Bool):OkE K z (SB S As M) (view M ρ) σ H:=by
 refine ⟨o.same,fun a h=>?_,fun i t e=>?_⟩
 ·rcases h with h | ⟨i,_,h⟩
  ·exact o.dom a h
  ·exact (o.ow i a h).2.2
 ·obtain⟨hm,m,e⟩:=zff e
  obtain⟨v,h1,h2⟩:=o.sl i m t e
  exact⟨v,h1,h2.out (fun a h=>.inl h) fun a h=>.inr ⟨i,hm,h⟩⟩
theorem Ok.sb1 (o:Ok K z S As ρ σ H) {a:Addr} (h:SB S As M a):z.S₀ a∨z.H₀ a=none:=by
 rcases h with h | ⟨i,_,h⟩
 ·exact o.s1 a h
 ·exact .inr (o.ow i a h).2.1
theorem Ok.got (o:Ok K z S As ρ σ H) (g:Got K H (SB S As M) H' S' A v md t):Got K z.H₀ z.S₀ H' S' A v md t:=
 ⟨⟨o.same.trans g.g.same,fun a h=>g.g.up a (.inl (o.s0 a h)),fun a h=>(g.g.new a h).elim (fun q=>o.sb1 q) fun q=>.inr (zaT o.same q),g.g.dom⟩,g.nd,fun a h=>⟨zaT o.same (g.ow a h).1,(g.ow a h).2⟩,g.den⟩
theorem Ok.putFu (o:Ok K z S As ρ σ H) (g:Got K H (SB S As M) H' S' A v .fu t) (i:Nat) (hi:i < ρ.length):Ok K z S (fun j=>if j=i then A else As j) (ρ.set i (some (.fu,t))) (σ.set i (some v)) H':=by
 have dj:∀ j,∀ a∈As j,a∉A:=fun j a h q=>(o.ow j a h).2.2 (g.ow a q).1
 refine ⟨o.same.trans g.g.same,fun a h=>zbd g.g.same (o.dom a h),by simp [o.ln],o.s0,o.s1,fun j=>?_,fun j a h=>?_,fun j k hjk a h=>?_,fun j m u e=>?_⟩
 ·by_cases hj:j=i
  ·rw [if_pos hj];exact g.nd
  ·rw [if_neg hj];exact o.nd j
 ·by_cases hj:j=i
  ·rw [if_pos hj] at h
   refine ⟨fun q=>(g.ow a h).2 (g.g.up a (.inl q)),zaT o.same (g.ow a h).1,fun q=>?_⟩
   obtain⟨ws,e⟩:=g.den.own a h
   rw [q] at e;cases e
  ·rw [if_neg hj] at h
   obtain⟨h1,h2,h3⟩:=o.ow j a h
   exact⟨h1,h2,zbd g.g.same h3⟩
 ·by_cases hj:j=i
  ·rw [if_pos hj] at h
   rw [if_neg (fun z=>hjk (hj.trans z.symm))]
   exact fun q=>dj k a q h
  ·rw [if_neg hj] at h
   by_cases hk:k=i
   ·rw [if_pos hk];exact dj j a h
   ·rw [if_neg hk];exact o.dj j k hjk a h
 ·by_cases hj:j=i
  ·subst hj
   rw [List.getElem?_set_self hi] at e
   cases e
   refine ⟨v,by rw [List.getElem?_set_self (by rw [← o.ln];exact hi)],?_⟩
   rw [if_pos rfl]
   exact g.den.fuS
  ·rw [List.getElem?_set_ne (Ne.symm hj)] at e
   obtain⟨w,h1,h2⟩:=o.sl j m u e
   refine ⟨w,by rw [List.getElem?_set_ne (Ne.symm hj)];exact h1,?_⟩
   rw [if_neg hj]
   exact h2.mono g.g.same fun _ h=>h
noncomputable def dAs (As:Nat→List Addr) (M:List Bool):Nat→List Addr:=fun j=>if M[j]? = some true then [] else As j
theorem Ok.share (o:Ok K z S As ρ σ H) (g:Grow H (SB S As M) H' S'):Ok K z S' (dAs As M) (zaB M ρ) σ H':=by
 refine ⟨o.same.trans g.same,g.dom,by rw [zbF];exact o.ln,fun a h=>g.up a (.inl (o.s0 a h)),fun a h=>(g.new a h).elim (fun q=>o.sb1 q) fun q=>.inr (zaT o.same q),fun j=>?_,fun j a h=>?_,fun j k hjk a h=>?_,fun j m u e=>?_⟩
 ·unfold dAs;split
  ·exact List.nodup_nil
  ·exact o.nd j
 ·unfold dAs at h;split at h
  ·cases h
  ·rename_i hj
   obtain⟨h1,h2,h3⟩:=o.ow j a h
   refine ⟨fun q=>?_,h2,zbd g.same h3⟩
   rcases g.new a q with (q | ⟨i,hi,q⟩) | q
   ·exact h1 q
   ·exact o.dj j i (fun z=>hj (z ▸ hi)) a h q
   ·exact h3 q
 ·unfold dAs at h ⊢
  split at h
  ·cases h
  ·split
   ·exact fun z=>nomatch z
   ·exact o.dj j k hjk a h
 ·rcases zdM e with ⟨hm,rfl,m',e⟩ | ⟨hm,e⟩
  ·obtain⟨w,h1,h2⟩:=o.sl j m' u e
   refine ⟨w,h1,?_⟩
   unfold dAs
   rw [if_pos hm]
   exact (h2.mono g.same fun _ h=>h).out (fun a h=>g.up a (.inl h)) fun a h=>g.up a (.inr ⟨j,hm,h⟩)
  ·obtain⟨w,h1,h2⟩:=o.sl j m u e
   refine ⟨w,h1,?_⟩
   unfold dAs
   rw [if_neg hm]
   exact h2.mono g.same fun a h=>g.up a (.inl h)
theorem Ok.put (o:Ok K z S As ρ σ H) (g:Got K H S H' S' A v md t) (i:Nat) (hi:i < ρ.length):Ok K z S' (fun j=>if j=i then A else As j) (ρ.set i (some (md,t))) (σ.set i (some v)) H':=by
 have dj:∀ j,∀ a∈As j,a∉A:=fun j a h q=>(o.ow j a h).2.2 (g.ow a q).1
 refine ⟨o.same.trans g.g.same,g.g.dom,by simp [o.ln],fun a h=>g.g.up a (o.s0 a h),fun a h=>(g.g.new a h).elim (o.s1 a) fun q=>.inr (zaT o.same q),fun j=>?_,fun j a h=>?_,fun j k hjk a h=>?_,fun j m u e=>?_⟩
 ·by_cases hj:j=i
  ·rw [if_pos hj];exact g.nd
  ·rw [if_neg hj];exact o.nd j
 ·by_cases hj:j=i
  ·rw [if_pos hj] at h
   refine ⟨(g.ow a h).2,zaT o.same (g.ow a h).1,fun q=>?_⟩
   obtain⟨ws,e⟩:=g.den.own a h
   rw [q] at e;cases e
  ·rw [if_neg hj] at h
   obtain⟨h1,h2,h3⟩:=o.ow j a h
   exact⟨fun q=>(g.g.new a q).elim h1 h3,h2,zbd g.g.same h3⟩
 ·by_cases hj:j=i
  ·rw [if_pos hj] at h
   rw [if_neg (fun z=>hjk (hj.trans z.symm))]
   exact fun q=>dj k a q h
  ·rw [if_neg hj] at h
   by_cases hk:k=i
   ·rw [if_pos hk];exact dj j a h
   ·rw [if_neg hk];exact o.dj j k hjk a h
 ·by_cases hj:j=i
  ·subst hj
   rw [List.getElem?_set_self hi] at e
   cases e
   refine ⟨v,by rw [List.getElem?_set_self (by rw [← o.ln];exact hi)],?_⟩
   rw [if_pos rfl]
   exact g.den
  ·rw [List.getElem?_set_ne (Ne.symm hj)] at e
   obtain⟨w,h1,h2⟩:=o.sl j m u e
   refine ⟨w,by rw [List.getElem?_set_ne (Ne.symm hj)];exact h1,?_⟩
   rw [if_neg hj]
   exact h2.mono g.g.same g.g.up
theorem Ok.putSp (o:Ok K z S As ρ σ H) (g:Got K H (SB S As M) H' S' A v md t) (i:Nat) (hi:i < ρ.length):Ok K z S' (fun j=>if j=i then A else dAs As M j) ((zaB M ρ).set i (some (md,t))) (σ.set i (some v)) H':=by
 have o2:=o.share g.g
 have dj:∀ j,∀ a∈dAs As M j,a∉A:=fun j a h q=>by
  unfold dAs at h;split at h
  ·cases h
  ·exact (o.ow j a h).2.2 (g.ow a q).1
 refine ⟨o2.same,o2.dom,by simp [o2.ln],o2.s0,o2.s1,fun j=>?_,fun j a h=>?_,fun j k hjk a h=>?_,fun j m u e=>?_⟩
 ·by_cases hj:j=i
  ·rw [if_pos hj];exact g.nd
  ·rw [if_neg hj];exact o2.nd j
 ·by_cases hj:j=i
  ·rw [if_pos hj] at h
   refine ⟨(g.ow a h).2,zaT o.same (g.ow a h).1,fun q=>?_⟩
   obtain⟨ws,e⟩:=g.den.own a h
   rw [q] at e;cases e
  ·rw [if_neg hj] at h;exact o2.ow j a h
 ·by_cases hj:j=i
  ·rw [if_pos hj] at h
   rw [if_neg (fun z=>hjk (hj.trans z.symm))]
   exact fun q=>dj k a q h
  ·rw [if_neg hj] at h
   by_cases hk:k=i
   ·rw [if_pos hk];exact dj j a h
   ·rw [if_neg hk];exact o2.dj j k hjk a h
 ·by_cases hj:j=i
  ·subst hj
   rw [List.getElem?_set_self (by rw [zbF];exact hi)] at e
   cases e
   refine ⟨v,by rw [List.getElem?_set_self (by rw [← o.ln];exact hi)],?_⟩
   rw [if_pos rfl]
   exact g.den
  ·rw [List.getElem?_set_ne (Ne.symm hj)] at e
   obtain⟨w,h1,h2⟩:=o2.sl j m u e
   refine ⟨w,by rw [List.getElem?_set_ne (Ne.symm hj)];exact h1,?_⟩
   rw [if_neg hj]
   exact h2
theorem zeG (g:Grow H (SB S As M) H' S'):Step K S H S' H':=⟨fun a h=>g.up a (.inl h),⟨fun c xs _ e=>g.same _ _ e,fun c xs h=>zcZ g.same h,fun c xs h=>h.same g.same⟩⟩
theorem zbI (e:Same H H'):Step K S H S H':=⟨fun a h=>h,⟨fun c xs _ q=>e _ _ q,fun c xs h=>zcZ e h,fun c xs h=>h.same e⟩⟩
end
section
variable {X:Cx} {z:Z} {md md1 md2:Md} {F F1 F2:VEnv→Res T} {B:VEnv→Res Bool} {e a b:Expr} {pos:Pos} {R R1 R2:SEnv→SRes} {s:Stmt} {ss ss2:List Stmt} {K:PySem.W.Frag}
noncomputable def sNil:SEnv→SRes:=.nx
noncomputable def sSeq (R1 R2:SEnv→SRes):SEnv→SRes:=fun ρ=>(R1 ρ).then R2
theorem za6:JSs X z sNil []:=PSs.imp ziw fun D σ H h=>by
 obtain⟨S,As,ρ,o,h⟩:=h
 exact h S As σ H o .refl
theorem endS.seq {S:Addr→Prop} {H:Hp} {D:Ends} {r:SRes} (h:endS K z S H D (r.then R2)):endS K z S H { D with nx:=st K z R2 D } r:=by
 cases r with
 | nx ρ'=>exact fun S' As' σ' H' o q=>⟨S',As',ρ',o,h.step q⟩
 | rt md t=>exact h
 | exc c=>exact h
 | bad=>exact h
theorem zaj (h1:JS X z R1 s) (h2:JSs X z R2 ss):JSs X z (sSeq R1 R2) (s :: ss):=PSs.imp (zhh h1 h2) fun D σ H h=>by
 obtain⟨S,As,ρ,o,h⟩:=h
 exact⟨S,As,ρ,o,endS.seq h⟩
theorem zaf (h1:JS X z R1 s):JSs X z R1 [s]:=ziv h1
theorem zdW {M:List Bool} {G:T→SEnv→SRes} {D:Ends} {σ:St} {H:Hp} {Q:VK} (h:st K z (fun ρ=>(F (view M ρ)).sthen fun t=>G t ρ) D σ H)
  (k:∀ S As ρ t v H' S' A,Ok K z S As ρ σ H→Got K H (SB S As M) H' S' A v md t→endS K z S H D (G t ρ)→Q v H'):tr K z md F σ H Q:=by
 obtain⟨S,As,ρ,o,h⟩:=h
 refine ⟨_,_,o.view M,?_⟩
 try dsimp only at h
 cases e:F (view M ρ) with
 | ok t=>rw [e] at h;exact fun v H' S' A g=>k S As ρ t v H' S' A o g h
 | exc c=>rw [e] at h;exact h
 | bad=>rw [e] at h;exact h
noncomputable def sRet (md:Md) (M:List Bool) (F:VEnv→Res T):SEnv→SRes:=fun ρ=>(F (view M ρ)).sthen fun t=>.rt md t
theorem zcv (M:List Bool) (he:JE X z md F e):JS X z (sRet md M F) (.Return (some e) pos):=PS.imp (zh3 he) fun D σ H h =>
 zdW h fun S As ρ t v H' S' A o g q=>q v H' S' A (o.got g)
noncomputable def zgr (i:Nat):SEnv→SRes:=fun ρ=>match ρ[i]? with
 | some (some (m,t))=>.rt m t
 | _=>.bad
theorem zgF {i:Nat} (he:PE X e (tVar i)):JS X z (zgr i) (.Return (some e) pos):=PS.imp (zh3 he) fun D σ H h=>by
 obtain⟨S,As,ρ,o,h⟩:=h
 unfold zgr at h
 split at h
 ·rename_i m t e
  obtain⟨v,h1,h2⟩:=o.sl i m t e
  exact⟨v,h1,h v H S (As i) ⟨⟨o.same,o.s0,o.s1,o.dom⟩,o.nd i,fun a q=>⟨(o.ow i a q).2.1,(o.ow i a q).1⟩,h2⟩⟩
 ·exact (show False from h).elim
noncomputable def sSet (i:Nat) (M:List Bool) (F:VEnv→Res T):SEnv→SRes:=fun ρ=>(F (view M ρ)).sthen fun t=>if i < ρ.length then .nx (ρ.set i (some (.fu,t))) else .bad
noncomputable def zhc (md:Md) (i:Nat) (M:List Bool) (F:VEnv→Res T):SEnv→SRes:=fun ρ=>(F (view M ρ)).sthen fun t=>if i < ρ.length then .nx ((zaB M ρ).set i (some (md,t))) else .bad
theorem zic {i:Nat} {M:List Bool} {te:TE} (ht:∀ σ H Q,tr K z .fu F σ H Q→te σ H Q) (D:Ends) (σ:St) (H:Hp) (h:st K z (sSet i M F) D σ H):tAsg te (zdy i) D σ H:=
 ht _ _ _ (zdW h fun S As ρ t v H' S' A o g q=>by
  by_cases hi:i < ρ.length
  ·rw [if_pos hi] at q
   exact q S _ _ H' (o.putFu g i hi) (zbI g.g.same)
  ·rw [if_neg hi] at q;exact (show False from q).elim)
theorem zjd {i:Nat} {M:List Bool} {te:TE} (ht:∀ σ H Q,tr K z md F σ H Q→te σ H Q) (D:Ends) (σ:St) (H:Hp) (h:st K z (zhc md i M F) D σ H):tAsg te (zdy i) D σ H:=
 ht _ _ _ (zdW h fun S As ρ t v H' S' A o g q=>by
  by_cases hi:i < ρ.length
  ·rw [if_pos hi] at q
   exact q S' _ _ H' (o.putSp g i hi) (zeG g.g)
  ·rw [if_neg hi] at q;exact (show False from q).elim)
theorem zca {i:Nat} {x:Str} {pos':Pos} (M:List Bool) (hN:X.N.Nodup) (hi:X.N[i]? = some x) (hx:Loc X.env.scope x) (he:JE X z .fu F e) (hs:swapsWith e (some (.Name x pos')) pos.line X.env=pure false:=by rfl)
  (hf:X.fn x=true∨X.env.scope.names.lookup x=some .local:=by first | exact .inl rfl | exact .inr rfl | assumption):JS X z (sSet i M F) (.Assign [.Name x pos'] e pos):=PS.imp (zh2 hN hi hx he hs hf) fun D σ H h=>zic (fun _ _ _ q=>q) D σ H h
theorem ziQ {i:Nat} {x:Str} {pos':Pos} (M:List Bool) (hN:X.N.Nodup) (hi:X.N[i]? = some x) (hx:Loc X.env.scope x) (he:JE X z md F e) (hs:swapsWith e (some (.Name x pos')) pos.line X.env=pure false:=by rfl)
  (hf:X.fn x=true∨X.env.scope.names.lookup x=some .local:=by first | exact .inl rfl | exact .inr rfl | assumption):JS X z (zhc md i M F) (.Assign [.Name x pos'] e pos):=PS.imp (zh2 hN hi hx he hs hf) fun D σ H h=>zjd (fun _ _ _ q=>q) D σ H h
noncomputable def sIf (M:List Bool) (B:VEnv→Res Bool) (R1 R2:SEnv→SRes):SEnv→SRes:=fun ρ=>(B (view M ρ)).sthen fun b=>if b=true then R1 ρ else R2 ρ
theorem Ok.grow {S S':Addr→Prop} {As:Nat→List Addr} {ρ:SEnv} {σ:St} {H H':Hp} {M:List Bool} (o:Ok K z S As ρ σ H) (g:Grow H (SB S As M) H' S'):Ok K z S As ρ σ H':=
 ⟨o.same.trans g.same,fun a h=>zbd g.same (o.dom a h),o.ln,o.s0,o.s1,o.nd,fun i a h=>let ⟨h1,h2,h3⟩:=o.ow i a h;⟨h1,h2,zbd g.same h3⟩,o.dj,fun i m t e=>let ⟨v,h1,h2⟩:=o.sl i m t e;⟨v,h1,h2.mono g.same fun _ h=>h⟩⟩
theorem zbn (M:List Bool) (hc:JT X z B e) (h1:JSs X z R1 ss) (h2:JSs X z R2 ss2):JS X z (sIf M B R1 R2) (.If e ss ss2 pos):=PS.imp (zls hc h1 h2) fun D σ H h=>by
 obtain⟨S,As,ρ,o,h⟩:=h
 refine ⟨_,_,o.view M,?_⟩
 unfold sIf at h
 try dsimp only at h
 cases e:B (view M ρ) with
 | exc c=>rw [e] at h;exact h
 | bad=>rw [e] at h;exact h
 | ok b =>
  rw [e,Res.sthen_ok] at h
  intro H' S' g
  have o':=o.grow g
  cases b with
  | true=>rw [if_pos rfl] at h ⊢;exact⟨S,As,ρ,o',h.step (zbI g.same)⟩
  | false=>rw [if_neg (by decide)] at h ⊢;exact⟨S,As,ρ,o',h.step (zbI g.same)⟩
noncomputable def zbm (M:List Bool) (F:VEnv→Res T):SEnv→SRes:=fun ρ=>(F (view M ρ)).sthen fun _=>.nx ρ
theorem zaE (M:List Bool) (he:JE X z md F e) (hs:swapsWith e none pos.line X.env=pure false:=by rfl):JS X z (zbm M F) (.Expr e pos):=PS.imp (zgs he hs) fun D σ H h =>
 zdW h fun S As ρ t v H' S' A o g q=>q S As σ H' (o.grow g.g) (zbI g.g.same)
noncomputable def zav (N:List Str) (ts:List T):SEnv:=ts.map (fun t=>some (.al,t)) ++ List.replicate (N.length - ts.length) none
noncomputable def fin (md:Md):SRes→Res T
 | .nx _=>.ok (.sc .non)
 | .rt m t=>if m=md∨md=.al∨isSc t=true then .ok t else .bad
 | .exc c=>.exc c
 | .bad=>.bad
theorem zei {K:PySem.W.Frag} {H:Hp} {S:Addr→Prop} {N:List Str} {ts:List T} {vs:List V} (h:Dens K H S ts .al [] vs) {i:Nat} {m:Md} {t:T} (e:(zav N ts)[i]? = some (some (m,t))):∃ v,(L2.start N vs)[i]? = some (some v)∧Den K H S t m [] v:=by
 unfold zav at e
 unfold L2.start
 have hl:=h.length
 by_cases hi:i < ts.length
 ·rw [List.getElem?_append_left (by rw [List.length_map];exact hi),List.getElem?_map] at e
  obtain⟨u,hu⟩:∃ u,ts[i]? = some u:=⟨ts[i],List.getElem?_eq_getElem hi⟩
  rw [hu] at e
  cases e
  obtain⟨v,h1,h2⟩:=h.get hu
  exact⟨v,by rw [List.getElem?_append_left (by rw [List.length_map,hl];exact hi),List.getElem?_map,h1];rfl,h2⟩
 ·rw [List.getElem?_append_right (by rw [List.length_map];lia),List.getElem?_replicate] at e
  split at e <;> cases e
theorem Got.weak {K:PySem.W.Frag} {H H':Hp} {S S':Addr→Prop} {A:List Addr} {v:V} {m:Md} {t:T} (g:Got K H S H' S' A v m t) (h:m=md∨md=.al∨isSc t=true):∃ S' A,Got K H S H' S' A v md t:=by
 rcases h with rfl | rfl | h
 ·exact⟨_,_,g⟩
 ·exact⟨_,_,g.al⟩
 ·cases t with
  | sc w=>exact⟨S',A,g.g,g.nd,g.ow,zad.mpr (zad.mp g.den)⟩
  | scr ns=>cases h
  | lst ts=>cases h
  | tup ts=>cases h
theorem za2 {P:Program} {w:World} {K:PySem.W.Frag} {mg:Str→Option Value} {base:Heap} {cl:Nat→Addr} {x qual:Str} {st₀:Stmt} {f:Addr} {fd:FuncData} {N ps:List Str} {k n:Nat} {md:Md} {R:SEnv→SRes} (F:Fun K x qual st₀ f fd) (S:FnScope N ps (defScope st₀)) (hn:ps.length=n)
  (hbody:∀ (cdv:Value) (A:Around) (outer:List Env) (s:Shared) (H:Hp) (E:XK) (S₀:Addr→Prop),Dom S₀ H→Room k (A.deeper (PyProof.Rows.envOfC qual (defScope st₀) s.heap.objs.size f cdv)) →
   JSs (cxOf (CXe P w) P w K mg base N qual (defScope st₀) f cdv A outer s H E) ⟨H,S₀,cl,E⟩ R (defBody st₀)):FnOk P w K mg base (CXe P w) (k + 1) f fd ps (spT K cl n md fun ts=>fin md (R (zav N ts))):=by
 refine Fun.okE F S (fun vs H Q E h=>?_) fun cdv A outer s H vs Q E hr h=>?_
 ·obtain⟨S,ts,h1,_,h2,_⟩:=h
  rw [h2.length,h1,hn]
 ·obtain⟨S₀,ts,h1,hd,h2,h3⟩:=h
  refine ⟨_,hbody cdv A outer s H E S₀ hd hr,S₀,fun _=>[],zav N ts,?_,?_⟩
  ·refine ⟨Same.refl _,hd,?_,fun _ h=>h,fun _ h=>.inl h,fun _=>List.nodup_nil,fun _ _ z=>(nomatch z),fun _ _ _ _ z=>(nomatch z),fun i m t e=>zei h2 e⟩
   unfold zav L2.start
   rw [List.length_append,List.length_append,List.length_map,List.length_map,List.length_replicate,List.length_replicate,h2.length]
  ·replace h3:endC K cl H S₀ md Q E (fin md (R (zav N ts))):=h3
   cases e:R (zav N ts) with
   | nx ρ' =>
    rw [e] at h3
    intro S' As' σ' H' o q
    exact h3 .non H' S' [] ⟨⟨o.same,o.s0,o.s1,o.dom⟩,List.nodup_nil,fun _ z=>(nomatch z),zcy _⟩
   | rt m t =>
    rw [e] at h3
    by_cases hm:m=md∨md=.al∨isSc t=true
    ·have e3:fin md (.rt m t)=.ok t:=if_pos hm
     rw [e3] at h3
     intro v H' S' A g
     obtain⟨S2,A2,g2⟩:=g.weak hm
     exact h3 v H' S2 A2 g2
    ·have e3:fin md (.rt m t)=.bad:=if_neg hm
     rw [e3] at h3
     exact (show False from h3).elim
   | exc c=>rw [e] at h3;exact h3
   | bad=>rw [e] at h3;exact (show False from h3).elim
end
end TL
namespace L2
open PySem PySem.Spec PyProof.Rows
section
variable {prog:Program} {w:World} {A:Around} {R:Result→Shared→Prop} {s:Shared}
theorem zb0 {elt target iter c:Expr} {scope:Scope} {pos:Pos} {it acc:Value} {env:Env} (I:Nat→Shared→Prop)
  (turn:∀ n s,I n s→wpAny (model prog w) A (pyNext it) (fun r s₁=>match r with
   | none=>R (.ok .next) s₁
   | some v=>wpAny (model prog w) A (letOwnedTupleGo target it v) (fun _ s₂=>wpAny (model prog w) A (assign target env v) (fun _ s₃=>wpAny (model prog w) A (isTrue c env (eval c env)) (fun ok s₆=>if ok=true then wpAny (model prog w) A (eval elt env) (fun x s₄ =>
     wpAny (model prog w) A (call (.builtin "list.append") [acc,x]) (fun _ s₅=>∃ m,m < n∧I m s₅) (fun _ _=>False) s₄) (fun _ _=>False) s₆ else ∃ m,m < n∧I m s₆) (fun _ _=>False) s₃) (fun _ _=>False) s₂) (fun _ _=>False) s₁) (fun _ _=>False) s)
  (n:Nat) (h:I n s):codeAny (model prog w) A (.compLoop (.ListComp elt [⟨target,iter,[c],0⟩] scope pos) 0 it acc env) R s:=by
 refine codeAny_loop rfl I (fun n s hI=>?_) n h
 show wpAny _ _ ((compTurn (.ListComp elt [⟨target,iter,[c],0⟩] scope pos) 0 it acc env).onRaise (fun x=>do noteFrame x env;theTreesLotGoes x)) _ _ s
 refine wpAny_noted ?_
 rw [compTurn_list]
 refine wpAny_bind (wpAny_standAt (wpAny_bind (wpAny_mono (turn n s hI) (fun r s₁ h₁=>?_) fun _ _ h'=>h'.elim)))
 cases r with
 | none=>exact wpAny_pure h₁
 | some v =>
  refine wpAny_bind (wpAny_mono h₁ (fun _ s₂ h₂=>?_) fun _ _ h'=>h'.elim)
  refine wpAny_bind (wpAny_mono h₂ (fun _ s₃ h₃=>wpAny_bind (wpAny_tests_one (wpAny_mono h₃ (fun ok s₆ h₆=>?_) fun _ _ h'=>h'.elim))) fun _ _ h'=>h'.elim)
  cases ok with
  | false=>exact wpAny_pure ⟨rfl,h₆⟩
  | true =>
   exact wpAny_bind (wpAny_bind (wpAny_mono h₆ (fun x s₄ h₄=>wpAny_bind (wpAny_mono h₄ (fun _ s₅ h₅=>wpAny_pure (wpAny_pure ⟨rfl,h₅⟩)) fun _ _ h'=>h'.elim)) fun _ _ h'=>h'.elim))
end
def zfg (ix:List (Option Nat)) (wi:TI) (g:TG) (tt:TT) (te:TE):TE:=fun σ H Q=>wi σ H fun J H1=>∃ W:Nat→Nat→List V→St→Hp→Prop,(∃ m,W 0 m [] (inner ix σ) H1) ∧
 ∀ i m acc σ' H',W i m acc σ' H'→acc.length≤sizeLine∧((J.stop i H'∧∀ p,H' p=none→Q (.ref p) (upd H' p (.lst acc))) ∨
  (J.go i H'∧∀ x H2,J.yld i H' x H2→g x σ' H2 fun σ2 H3=>tt σ2 H3 fun b H5=>if b=true then te σ2 H5 fun v H4=>∃ m',m' < m∧W (i + 1) m' (acc ++ [v]) σ2 H4 else ∃ m',m' < m∧W (i + 1) m' acc σ2 H5))
section
variable {X:Cx} {elt tg iter c:Expr} {scope:Scope} {pos:Pos} {wi:TI} {g:TG} {tt:TT} {te:TE} {N':List Str} {ix:List (Option Nat)}
theorem zdN (B:Blk X.env scope) (hix:ixOk X.N N' scope ix=true) (hc:X.calm=true) (hi:PI X tg iter wi)
  (hg:∀ C s₂ H₂ fp pn,PG (cxB X N' scope C s₂ H₂ fp pn) tg g) (ht:∀ C s₂ H₂ fp pn,PT (cxB X N' scope C s₂ H₂ fp pn) c tt) (he:∀ C s₂ H₂ fp pn,PE (cxB X N' scope C s₂ H₂ fp pn) elt te) (hs:∀ x,foldedSetIterable iter X.env x=pure x)
  {pins:List (Addr×Obj)} {s:Shared} {σ:St} {H:Hp} {Q:VK} (I:Inv X pins σ H s) (h:zfg ix wi g tt te σ H Q) (use:Option (Value→Sem Unit)) (QQ:Value→Shared→Prop)
  (hU:∀ D C H' acc s',Inv X pins σ (upd H' D (.lst acc)) s'→Loose X pins (upd H' D (.lst acc)) C→(∃ m,s'.heap.Ns C m)→Q (.ref D) (upd H' D (.lst acc))→compPost (model X.prog X.w) X.A X.xe use QQ (.ref D) C (.ok .next) s') :
  wpAny (model X.prog X.w) X.A (comprehension (.ListComp elt [⟨tg,iter,[c],0⟩] scope pos) scope X.env (firstIterPos [⟨tg,iter,[c],0⟩] pos) (newList []) false (eval iter X.env) use) QQ X.xe s:=by
 refine wpAny_comprehension_free rfl hs (zfG B I) B.kind (fun x hx hl=>?_) ?_
 ·obtain⟨n,k⟩:=x
  have hl':k=.local:=hl
  subst hl'
  exact zaP B.nd hx
 refine thn (hi pins s σ H _ I h) fun v s1 h1=>thn h1 fun itv s2 h2=>?_
 obtain⟨it,fp,tn,J,H2,e,I2,T,st2,f2,W,⟨m0,w0⟩,turn⟩:=h2
 subst e
 have hfl:∀ b∈fp,b < s2.heap.objs.size:=fun b hb=>by
  obtain⟨o,e,_⟩:=T.obj _ _ st2 b hb
  exact Heap.lt_size e
 refine wpAny_newObj_type ?_
 refine zcs ?_
 have e1:(s2.heap.push { cls:=.type "list", dict:=none,data:=.seq ([]:List Value).toArray }).objs.size=s2.heap.objs.size + 1:=Heap.size_push ..
 show codeAny (model X.prog X.w) X.A (.compStart (.ListComp elt [⟨tg,iter,[c],0⟩] scope pos) 0 (.ref it) (.ref s2.heap.objs.size) (zdp X.env scope (s2.heap.push { cls:=.type "list", dict:=none,data:=.seq ([]:List Value).toArray }).objs.size))
  (compPost (model X.prog X.w) X.A X.xe use QQ (.ref s2.heap.objs.size) (s2.heap.push { cls:=.type "list", dict:=none,data:=.seq ([]:List Value).toArray }).objs.size) { s2 with heap:=zaU s2.heap scope }
 rw [e1]
 have old:∀ b o,s2.heap.get? b=some o→(zaU s2.heap scope).get? b=some o:=fun b o e=>zbG e
 have hst4:tn 0 (zaU s2.heap scope):=T.keep _ _ _ st2 fun b _ o e=>old b o e
 have hD4:(zaU s2.heap scope).get? s2.heap.objs.size=some { cls:=.type "list", data:=.seq ([]:List Value).toArray }:=
  pushCells_keeps _ _ _ _ (Heap.get?_push_of_some _ (Heap.get?_push_size _ rfl))
 have hD2:H2 s2.heap.objs.size=none:=I2.hok.fresh (Nat.le_refl _)
 have cellNe:∀ x c,(zdp X.env scope (s2.heap.objs.size + 1)).cells.lookup x=some c→c≠s2.heap.objs.size:=fun x c h=>by
  rcases zcA B I2 (PySem.mem_of_lookup h) with ⟨h1,_⟩ | ⟨h1,_⟩
  ·exact Nat.ne_of_lt (I2.cell_lt h1)
  ·have h1':s2.heap.objs.size + 1 + 1≤c:=h1
   exact Nat.ne_of_gt (Nat.lt_of_lt_of_le (Nat.lt_succ_of_lt (Nat.lt_succ_self _)) h1')
 have pinNe:∀ p∈X.pn ++ pins,p.1≠s2.heap.objs.size:=fun p hp=>Nat.ne_of_lt (Heap.lt_size (I2.pin p hp).1)
 have stat:∀ {H':Hp} {o:Obj},(∀ b∈fp,H' b=none)→∀ b∈fp,FpOk (cxB X N' scope (s2.heap.objs.size + 1) s2 H2 fp (X.pn ++ pins)) [(s2.heap.objs.size,o)] H' b:=fun {H' o} hn b hb=>by
  obtain⟨_,h2,h3,h4,h5,h6⟩:=f2 b hb
  have hlt:=hfl b hb
  refine ⟨hn b hb,(by show b≠s2.heap.objs.size + 1;exact Nat.ne_of_lt (Nat.lt_succ_of_lt hlt)),fun hm=>?_,.inl hb,fun x c h=>((zgZ B I2 rfl f2 hfl).exf b hb).2 x c h,fun p hp=>?_⟩
  ·rcases List.mem_cons.mp (I2.stkSub b hm) with z | z
   ·exact h2 z
   ·exact h3 z
  ·rcases List.mem_append.mp hp with hp | hp
   ·exact h6 p hp
   ·rw [List.mem_singleton.mp hp]
    show s2.heap.objs.size≠b
    exact Nat.ne_of_gt hlt
 have pinD:∀ {σ':St} {H':Hp} {s':Shared} {o:Obj},Inv (cxB X N' scope (s2.heap.objs.size + 1) s2 H2 fp (X.pn ++ pins)) [] σ' H' s'→s'.heap.get? s2.heap.objs.size=some o→(∀ v,o.data≠.cell v)→H' s2.heap.objs.size=none →
   Inv (cxB X N' scope (s2.heap.objs.size + 1) s2 H2 fp (X.pn ++ pins)) [(s2.heap.objs.size,o)] σ' H' s':=fun {σ' H' s' o} J ho hd hn=>J.pins_of fun p hp=>by
  rw [List.mem_singleton.mp hp]
  refine ⟨ho,hn,by show s2.heap.objs.size≠s2.heap.objs.size + 1;exact Nat.ne_of_lt (Nat.lt_succ_self _),fun hm=>?_,hd⟩
  exact absurd (I2.stk_lt hm) (Nat.lt_irrefl _)
 have loop:codeAny (model X.prog X.w) X.A (.compLoop (.ListComp elt [⟨tg,iter,[c],0⟩] scope pos) 0 (.ref it) (.ref s2.heap.objs.size) (zdp X.env scope (s2.heap.objs.size + 1)))
   (compPost (model X.prog X.w) X.A X.xe use QQ (.ref s2.heap.objs.size) (s2.heap.objs.size + 1)) { s2 with heap:=zaU s2.heap scope }:=by
  refine zb0 (fun n s'=>∃ i σ' H' acc its k,Inv (cxB X N' scope (s2.heap.objs.size + 1) s2 H2 fp (X.pn ++ pins)) [] σ' H' s'∧s'.heap.get? s2.heap.objs.size=some { cls:=.type "list", data:=.seq its k } ∧
   Vals acc its.toList∧tn i s'.heap∧(∀ b∈fp,H' b=none)∧H' s2.heap.objs.size=none∧W i n acc σ' H') ?_ m0 ⟨0,_,_,[],#[],0,zev B hix I2 f2 hfl,hD4,.nil,hst4,fun b hb=>(f2 b hb).1,hD2,w0⟩
  rintro n s3 ⟨i,σ3,H3,acc,its,k,J3,hD3,rv,st3,fr3,hn3,w3⟩
  obtain⟨hz,hor⟩:=turn i n acc σ3 H3 w3
  have J3p:=pinD J3 hD3 (fun v z=>by cases z) hn3
  rcases hor with ⟨stop,q⟩ | ⟨go,step⟩
  ·refine thn (T.done (cxB X N' scope (s2.heap.objs.size + 1) s2 H2 fp (X.pn ++ pins)) rfl rfl rfl hc i _ s3 σ3 H3 _ J3p (stat fr3) st3 stop) fun r s4 ⟨hr,J4⟩=>?_
   subst hr
   have hD4':=(J4.pin (s2.heap.objs.size,_) (List.mem_append_right _ (List.mem_singleton.mpr rfl))).1
   obtain⟨Ie,Le⟩:=zg0 (its:=its.toList) (k:=k) I2 f2 J4 (by simpa using hD4') rv hz hn3
   obtain⟨m,hm,_⟩:=J4.loc
   exact hU _ _ _ _ s4 Ie Le ⟨m,hm⟩ (q _ hn3)
  ·refine thn (T.item (cxB X N' scope (s2.heap.objs.size + 1) s2 H2 fp (X.pn ++ pins)) rfl rfl rfl hc i _ s3 σ3 H3 _ J3p (stat fr3) st3 go) fun r s4 ⟨u,hr,h4⟩=>?_
   subst hr
   refine thn h4 fun _ s5 ⟨x,H5,J5,r5,y5,st5,fr5⟩=>?_
   have J5':=J5.pinned (stat fr5) (T.obj _ _ st5)
   refine thn (hg _ _ _ _ _ _ s5 σ3 H5 x u _ J5' r5 (step x H5 y5)) fun _ s6 ⟨σ6,H6,J6,q6⟩=>?_
   refine thn (ht _ _ _ _ _ _ s6 σ6 H6 _ J6 q6) fun ok s8 ⟨H8,J8,q8⟩=>?_
   cases ok with
   | false =>
    rw [if_neg (by decide)] at q8 ⊢
    obtain⟨m',hm',w7⟩:=q8
    have hD7:=J8.pin (s2.heap.objs.size,{ cls:=.type "list", data:=.seq its k }) (List.mem_append_right _ (List.mem_append_left _ (List.mem_singleton.mpr rfl)))
    have J7u:Inv (cxB X N' scope (s2.heap.objs.size + 1) s2 H2 fp (X.pn ++ pins)) [] σ6 H8 s8:=J8.pins_of fun p hp=>by cases hp
    have st7:tn (i + 1) s8.heap:=T.keep _ _ _ st5 fun b hb o e=>(J8.pin (b,o) (List.mem_append_right _ (List.mem_append_right _ (zaV hb e)))).1
    have fr7:∀ b∈fp,H8 b=none:=fun b hb=>by
     obtain⟨o,e,d⟩:=T.obj _ _ st5 b hb
     exact (J8.pin (b,o) (List.mem_append_right _ (List.mem_append_right _ (zaV hb e)))).2.1
    exact⟨m',hm',i + 1,σ6,H8,acc,its,k,J7u,hD7.1,rv,st7,fr7,hD7.2.1,w7⟩
   | true =>
   rw [if_pos rfl] at q8 ⊢
   refine thn (he _ _ _ _ _ _ s8 σ6 H8 _ J8 q8) fun v s7 ⟨y,H7,J7,r7,m',hm',w7⟩=>?_
   have hD7:=J7.pin (s2.heap.objs.size,{ cls:=.type "list", data:=.seq its k }) (List.mem_append_right _ (List.mem_append_left _ (List.mem_singleton.mpr rfl)))
   have J7u:Inv (cxB X N' scope (s2.heap.objs.size + 1) s2 H2 fp (X.pn ++ pins)) [] σ6 H7 s7:=J7.pins_of fun p hp=>by cases hp
   have st7:tn (i + 1) s7.heap:=T.keep _ _ _ st5 fun b hb o e=>(J7.pin (b,o) (List.mem_append_right _ (List.mem_append_right _ (zaV hb e)))).1
   have fr7:∀ b∈fp,H7 b=none:=fun b hb=>by
    obtain⟨o,e,d⟩:=T.obj _ _ st5 b hb
    exact (J7.pin (b,o) (List.mem_append_right _ (List.mem_append_right _ (zaV hb e)))).2.1
   have hlen:=rv.length
   refine wpAny_list_append_plain (l:=s2.heap.objs.size) (items:=its) ⟨k,hD7.1⟩ (fun h' ⟨k',hp'⟩ hs'=>?_) (by simp only [Array.length_toList] at hlen;lia)
   refine ⟨m',hm',i + 1,σ6,H7,acc ++ [y],its.push v,k',?_,hp',?_,?_,fr7,hD7.2.1,w7⟩
   ·exact J7u.turned (t':=s7.toks) (it:=s2.heap.objs.size) (fun b o hb e=>(hs'.2 b hb).trans e) hD7.2.1 (by show s2.heap.objs.size≠s2.heap.objs.size + 1;exact Nat.ne_of_lt (Nat.lt_succ_self _)) (.inr (Nat.le_refl _)) cellNe
     fun p hp=>pinNe p (by have hp':p∈(X.pn ++ pins) ++ []:=hp;rw [List.append_nil] at hp';exact hp')
   ·rw [Array.toList_push]
    exact rv.append (.cons r7 .nil)
   ·exact T.keep _ _ _ st7 fun b hb o e=>(hs'.2 b (Nat.ne_of_lt (hfl b hb))).trans e
 exact codeAny_compStart_list loop (T.self _ _ _ _ _ hst4 loop)
theorem zhj (B:Blk X.env scope) (hix:ixOk X.N N' scope ix=true) (hc:X.calm=true) (hi:PI X tg iter wi)
  (hg:∀ C s₂ H₂ fp pn,PG (cxB X N' scope C s₂ H₂ fp pn) tg g) (ht:∀ C s₂ H₂ fp pn,PT (cxB X N' scope C s₂ H₂ fp pn) c tt) (he:∀ C s₂ H₂ fp pn,PE (cxB X N' scope C s₂ H₂ fp pn) elt te) (hs:∀ x,foldedSetIterable iter X.env x=pure x:=by intro _;rfl) :
  PE X (.ListComp elt [⟨tg,iter,[c],0⟩] scope pos) (zfg ix wi g tt te):=by
 intro pins s σ H Q I h
 rw [eval_ListComp]
 refine zdN B hix hc hi hg ht he hs I h none (EP X pins σ Q) fun D C H' acc s' I' L hm q=>?_
 obtain⟨m,hm⟩:=hm
 exact⟨m,hm,fun h' hs'=>⟨.ref D,_,I'.loosed L hs',rfl,q⟩⟩
theorem zeO {i:Nat} {y:Str} {py spos:Pos} (hN:X.N.Nodup) (hi':X.N[i]? = some y) (hy:X.env.scope.names.lookup y=some .local) (B:Blk X.env scope) (hix:ixOk X.N N' scope ix=true) (hc:X.calm=true) (hi:PI X tg iter wi)
  (hg:∀ C s₂ H₂ fp pn,PG (cxB X N' scope C s₂ H₂ fp pn) tg g) (ht:∀ C s₂ H₂ fp pn,PT (cxB X N' scope C s₂ H₂ fp pn) c tt) (he:∀ C s₂ H₂ fp pn,PE (cxB X N' scope C s₂ H₂ fp pn) elt te)
  (hsw:swapsWith (.ListComp elt [⟨tg,iter,[c],0⟩] scope pos) (some (.Name y py)) spos.line X.env=pure true:=by rfl) (hs:∀ x,foldedSetIterable iter X.env x=pure x:=by intro _;rfl) :
  PS X (.Assign [.Name y py] (.ListComp elt [⟨tg,iter,[c],0⟩] scope pos) spos) (tAsg (zfg ix wi g tt te) (zdy i)):=by
 intro pins s σ H D I h
 rw [exec_Assign_Name_used _ _ _ _ hsw]
 refine wpAny_bind (wpAny_standAt (wpAny_bind ?_))
 show wpAny _ X.A (do let _ ← comprehension (.ListComp elt [⟨tg,iter,[c],0⟩] scope pos) scope X.env _ (newList []) false (eval iter X.env) (some (assign (.Name y py) X.env))) _ _ s
 refine wpAny_bind (wpAny_mono (zdN B hix hc hi hg ht he hs I h (some (assign (.Name y py) X.env)) (fun _ s'=>SP X pins D .next s') fun A C H' acc s' I' L hm q=>?_) (fun _ s' hq=>wpAny_pure (wpAny_pure hq)) fun _ _ z=>z)
 show wpAny _ _ (assign (.Name y py) X.env (.ref A)) _ _ _
 obtain⟨m,hm⟩:=hm
 refine wpAny_assign_Name (zeh I' hN hi' (.inl hy) (v:=.ref A) rfl (fun s2 I2 ⟨b,hs2,hb⟩=>?_) (.inr hy))
 have hCb:C≠b:=by
  rcases hb with z | z
  ·rw [z];exact L.ne
  ·exact Ne.symm (L.cl _ _ z)
 exact⟨m,hm.sameBut hs2 hCb,fun h' hs'=>⟨_,_,I2.loosed L hs',q⟩⟩
end
end L2
namespace TL
open PySem PySem.Spec L2
structure JOk (K:PySem.W.Frag) (J:It) (H:Hp) (S:Addr→Prop) (ts:List T):Prop where
 go:∀ H2 S2,Step K S H S2 H2→Dom S2 H2→∀ (i:Nat) t,ts[i]? = some t→J.go i H2∧∀ x H3,J.yld i H2 x H3→Grow H2 S2 H3 S2∧Den K H3 S2 t .al [] x
 stop:∀ H2 S2,Step K S H S2 H2→Dom S2 H2→J.stop ts.length H2
noncomputable def endI (K:PySem.W.Frag) (z:Z) (H:Hp) (S:Addr→Prop) (R:It→Hp→Prop):Res (List T)→Prop
 | .ok ts=>∀ J H' S',Grow H S H' S'→JOk K J H' S' ts→R J H'
 | .exc c=>∀ H',Same z.H₀ H'→z.E (.ref (z.cl c)) none H'
 | .bad=>False
def tri (K:PySem.W.Frag) (z:Z) (I:VEnv→Res (List T)):TI:=fun σ H R=>∃ S ρ,OkE K z S ρ σ H∧endI K z H S R (I ρ)
abbrev JI (X:Cx) (z:Z) (tg:Expr) (I:VEnv→Res (List T)) (iter:Expr):Prop:=PI X tg iter (tri X.K z I)
theorem PI.imp {X:Cx} {tg e:Expr} {t t':TI} (h:PI X tg e t) (k:∀ σ H Q,t' σ H Q→t σ H Q):PI X tg e t':=fun pins s σ H Q I q=>h pins s σ H Q I (k σ H Q q)
noncomputable def asL:T→Option (List T)
 | .lst ts=>some ts
 | _=>none
noncomputable def asI:T→Option Int
 | .sc (.int i)=>some i
 | _=>none
theorem zhO {t:T} {ts:List T} (h:asL t=some ts):t=.lst ts:=by
 unfold asL at h;split at h
 ·cases h;rfl
 ·cases h
theorem zhP {t:T} {i:Int} (h:asI t=some i):t=.sc (.int i):=by
 unfold asI at h;split at h
 ·cases h;rfl
 ·cases h
@[simp] theorem zmq (i:Bool):asB (.sc (.bl i))=some i:=(rfl)
theorem zft {K:PySem.W.Frag} {H:Hp} {S:Addr→Prop} {a:Addr} {vs:List V} {ts:List T} (hS:S a) (hH:H a=some (.lst vs)) (d:Dens K H S ts .al [] vs):JOk K (Itl K a) H S ts:=by
 refine ⟨fun H2 S2 s _ i t e=>?_,fun H2 S2 s _=>⟨vs,.of (s.frm.nodes _ _ hS hH),by rw [d.length];exact Nat.le_refl _⟩⟩
 have h2:SqL K H2 a vs:=.of (s.frm.nodes _ _ hS hH)
 obtain⟨v,h3,h4⟩:=(s.dens d).get e
 refine ⟨⟨vs,v,h2,h3⟩,fun x H3 y=>?_⟩
 obtain⟨rfl,y⟩:=y
 have:=y vs h2
 rw [h3] at this
 cases this
 exact⟨.refl (by assumption),h4⟩
section
variable {X:Cx} {z:Z} {md md1:Md} {F F1 F2:VEnv→Res T} {e a b tg:Expr} {es:List Expr} {pos:Pos} {K:PySem.W.Frag} {Fs:VEnv→Res (List T)}
noncomputable def iLst (F:VEnv→Res T):VEnv→Res (List T):=fun ρ=>(F ρ).bind fun t=>.of (asL t)
theorem zeX (h:JE X z md F e):JI X z tg (iLst F) e:=PI.imp (zix (JE.al h)) fun σ H R q=>by
 obtain⟨S,ρ,o,q⟩:=q
 refine ⟨S,ρ,o,?_⟩
 unfold iLst at q
 try dsimp only at q
 cases e:F ρ with
 | exc c=>rw [e] at q;exact q
 | bad=>rw [e] at q;exact q
 | ok t =>
  rw [e,Res.bind_ok] at q
  intro v H' S' A g
  obtain rfl:=g.den.alA
  cases e2:asL t with
  | none=>rw [e2] at q;exact (show False from q).elim
  | some ts =>
   rw [e2] at q
   obtain rfl:=zhO e2
   obtain⟨_,a,vs,rfl,h1,h2,h3⟩:=zag.mp g.den
   exact⟨a,rfl,⟨vs,.of h2⟩,q _ H' S' g.g (zft h1 h2 h3)⟩
noncomputable def rngI (lo:Int) (n:Nat):List T:=(List.range n).map fun (k:Nat)=>.sc (.int (lo + (k:Int)))
theorem zhd {lo:Int} {n i:Nat} {t:T} (h:(rngI lo n)[i]? = some t):i < n∧t=.sc (.int (lo + (i:Int))):=by
 unfold rngI at h
 rw [List.getElem?_map] at h
 by_cases hi:i < n
 ·rw [List.getElem?_range hi] at h
  cases h
  exact⟨hi,rfl⟩
 ·rw [List.getElem?_eq_none (by rw [List.length_range];lia)] at h
  cases h
theorem zgG {H:Hp} {S:Addr→Prop} (lo:Int) (n:Nat):JOk K (Itr lo n) H S (rngI lo n):=by
 refine ⟨fun H2 S2 s d i t e=>?_,fun H2 S2 s _=>by
  show n≤(rngI lo n).length
  unfold rngI;rw [List.length_map,List.length_range];exact Nat.le_refl _⟩
 obtain⟨hi,rfl⟩:=zhd e
 refine ⟨hi,fun x H3 y=>?_⟩
 obtain⟨rfl,rfl⟩:=y
 exact⟨.refl d,zcy _⟩
noncomputable def rng1 (ts:List T):Option (List T):=match ts with
 | [.sc (.int j)]=>if -(2 ^ 62)≤j∧j < 2 ^ 62 then some (rngI 0 j.toNat) else none
 | _=>none
noncomputable def rng2 (ts:List T):Option (List T):=match ts with
 | [.sc (.int i),.sc (.int j)]=>if -(2 ^ 62)≤i∧i < 2 ^ 62∧-(2 ^ 62)≤j∧j < 2 ^ 62 then some (rngI i (j - i).toNat) else none
 | _=>none
noncomputable def iRng (g:List T→Option (List T)) (Fs:VEnv→Res (List T)):VEnv→Res (List T):=fun ρ=>(Fs ρ).bind fun ts=>.of (g ts)
theorem zcw {p:Pos} (hg:Gl X "range") (hm:X.mg "range" = none) (ha:JA X z md Fs [a]) (hs:starEach [a] X.env=[(false,eval a X.env)]:=by rfl):JI X z tg (iRng rng1 Fs) (.Call (.Name "range" p) [a] [] pos):=
 PI.imp (zgu hg hm (JA.al ha) hs) fun σ H R q=>by
  obtain⟨S,ρ,o,q⟩:=q
  refine ⟨S,ρ,o,?_⟩
  unfold iRng at q
  try dsimp only at q
  cases e:Fs ρ with
  | exc c=>rw [e] at q;exact q
  | bad=>rw [e] at q;exact q
  | ok ts =>
   rw [e,Res.bind_ok] at q
   intro vs H' S' A g
   unfold rng1 at q
   split at q
   ·rename_i j
    split at q
    ·rename_i hj
     have d:=g.den
     unfold Dens at d
     obtain⟨A1,A2,v,vs',_,rfl,d1,d2⟩:=d
     unfold Dens at d2
     obtain⟨_,rfl⟩:=d2
     obtain⟨_,rfl⟩:=zad.mp d1
     exact⟨j,rfl,hj.1,hj.2,q _ H' S' g.g (zgG _ _)⟩
    ·exact (show False from q).elim
   ·exact (show False from q).elim
end
def zjt (K:PySem.W.Frag) (g:TG) (gT:T→SEnv→Option SEnv):Prop:=∀ z S As ρ σ H t v ρ' (Q:St→Hp→Prop),Ok K z S As ρ σ H→Den K H S t .al [] v→gT t ρ=some ρ'→(∀ As' σ',Ok K z S As' ρ' σ' H→Q σ' H)→g v σ H Q
noncomputable def gS (i:Nat):T→SEnv→Option SEnv:=fun t ρ=>if i < ρ.length then some (ρ.set i (some (.al,t))) else none
noncomputable def zdh (ρ:VEnv) (i:Nat):Bool:=match ρ[i]? with
 | some none=>true
 | _=>false
theorem zem {ρ:VEnv} {i:Nat} (h:zdh ρ i=true):ρ[i]? = some none:=by
 unfold zdh at h
 split at h
 ·assumption
 ·cases h
noncomputable def gE (i:Nat):T→VEnv→Option VEnv:=fun t ρ=>if zdh ρ i=true then some (ρ.set i (some t)) else none
noncomputable def gS2 (i j:Nat):T→SEnv→Option SEnv:=fun t ρ=>match t with
 | .tup [x,y]=>(gS i x ρ).bind (gS j y)
 | _=>none
noncomputable def gE2 (i j:Nat):T→VEnv→Option VEnv:=fun t ρ=>match t with
 | .tup [x,y]=>if i=j then none else if zdh ρ j=true then (gE i x ρ).bind (gE j y) else none
 | _=>none
theorem Ok.setAl {K:PySem.W.Frag} {z:Z} {S:Addr→Prop} {As:Nat→List Addr} {ρ:SEnv} {σ:St} {H:Hp} {t:T} {v:V} (o:Ok K z S As ρ σ H) (d:Den K H S t .al [] v) {i:Nat} (hi:i < ρ.length):Ok K z S (fun j=>if j=i then [] else As j) (ρ.set i (some (.al,t))) (σ.set i (some v)) H:=
 o.put ⟨.refl o.dom,List.nodup_nil,fun _ z=>(nomatch z),d⟩ i hi
theorem zbc {K:PySem.W.Frag} (i:Nat):zjt K (zdy i) (gS i):=by
 intro z S As ρ σ H t v ρ' Q o d e k
 unfold gS at e
 split at e
 ·cases e
  exact k _ _ (o.setAl d (by assumption))
 ·cases e
theorem zcx {α:Type} {l:List (Option α)} {i:Nat} {x:Option α} (h:l[i]? = some x):i < l.length:=(List.getElem?_eq_some_iff.mp h).1
theorem OkE.set {K:PySem.W.Frag} {z:Z} {S:Addr→Prop} {ρ:VEnv} {σ:St} {H:Hp} {t:T} {v:V} (o:OkE K z S ρ σ H) (d:Den K H S t .al [] v) {i:Nat} (hi:ρ[i]? = some none) (hl:i < σ.length):OkE K z S (ρ.set i (some t)) (σ.set i (some v)) H∧OkE K z S ρ (σ.set i (some v)) H:=by
 refine ⟨⟨o.same,o.dom,fun j u e=>?_⟩,⟨o.same,o.dom,fun j u e=>?_⟩⟩
 ·by_cases hj:j=i
  ·subst hj
   rw [List.getElem?_set_self (zcx hi)] at e
   cases e
   exact⟨v,by rw [List.getElem?_set_self hl],d⟩
  ·rw [List.getElem?_set_ne (Ne.symm hj)] at e
   obtain⟨w,h1,h2⟩:=o.sl j u e
   exact⟨w,by rw [List.getElem?_set_ne (Ne.symm hj)];exact h1,h2⟩
 ·have hj:j≠i:=fun q=>by subst q;rw [hi] at e;cases e
  obtain⟨w,h1,h2⟩:=o.sl j u e
  exact⟨w,by rw [List.getElem?_set_ne (Ne.symm hj)];exact h1,h2⟩
theorem zf3 {K:PySem.W.Frag} (i:Nat) {n:Nat}:∀ z S ρ σ H t v ρ' (Q:St→Hp→Prop),OkE K z S ρ σ H→i < σ.length→Den K H S t .al [] v→gE i t ρ=some ρ'→(∀ σ',OkE K z S ρ' σ' H→OkE K z S ρ σ' H→σ'.length=σ.length→Q σ' H)→zdy i v σ H Q:=by
 intro z S ρ σ H t v ρ' Q o hl d e k
 unfold gE at e
 split at e
 ·cases e
  obtain⟨h1,h2⟩:=o.set d (zem (by assumption)) hl
  exact k _ h1 h2 (by simp)
 ·cases e
section
variable {X:Cx} {z:Z} {md md1:Md} {F F1 F2:VEnv→Res T} {e a b tg iter:Expr} {es:List Expr} {pos:Pos} {K:PySem.W.Frag} {I:VEnv→Res (List T)} {B:SEnv→SRes} {body:List Stmt} {g:TG} {gT:T→SEnv→Option SEnv}
noncomputable def forL (gT:T→SEnv→Option SEnv) (B:SEnv→SRes):List T→SEnv→SRes
 | [],ρ=>.nx ρ
 | t :: ts,ρ=>match gT t ρ with
  | some ρ1=>(B ρ1).then (forL gT B ts)
  | none=>.bad
noncomputable def sFor (M:List Bool) (I:VEnv→Res (List T)) (gT:T→SEnv→Option SEnv) (B:SEnv→SRes):SEnv→SRes:=fun ρ=>(I (view M ρ)).sthen fun ts=>forL gT B ts (zaB M ρ)
theorem Ok.growS {S S':Addr→Prop} {As:Nat→List Addr} {ρ:SEnv} {σ:St} {H H':Hp} (o:Ok K z S As ρ σ H) (g:Grow H S H' S'):Ok K z S' As ρ σ H':=
 ⟨o.same.trans g.same,g.dom,o.ln,fun a h=>g.up a (o.s0 a h),fun a h=>(g.new a h).elim (o.s1 a) fun q=>.inr (zaT o.same q),o.nd,fun i a h=>let ⟨h1,h2,h3⟩:=o.ow i a h;⟨fun q=>(g.new a q).elim h1 h3,h2,zbd g.same h3⟩,o.dj,fun i m t e=>let ⟨v,h1,h2⟩:=o.sl i m t e;⟨v,h1,h2.mono g.same g.up⟩⟩
theorem zdf (M:List Bool) (hp:PassesOwn (model X.prog X.w) X.A X.env X.xe) (hc:X.calm=true) (hi:JI X z tg I iter) (hg:PG X tg g) (bg:zjt X.K g gT) (hb:JSs X z B body) (hs:∀ x,foldedSetIterable iter X.env x=pure x:=by intro _;rfl) :
  JS X z (sFor M I gT B) (.For tg iter body [] pos):=PS.imp (zjT hp hc hi hg hb hs) fun D σ H h=>by
 obtain⟨S,As,ρ,o,h⟩:=h
 refine ⟨_,_,o.view M,?_⟩
 unfold sFor at h
 try dsimp only at h
 cases e:I (view M ρ) with
 | exc c=>rw [e] at h;exact h
 | bad=>rw [e] at h;exact h
 | ok ts =>
  rw [e,Res.sthen_ok] at h
  intro J H1 S1 gr jo
  have o1:=o.share gr
  refine ⟨fun i m σ2 H2=>m=ts.length - i∧i≤ts.length∧∃ S2 As2 ρ2,Ok X.K z S2 As2 ρ2 σ2 H2∧Step X.K S1 H1 S2 H2∧endS X.K z S2 H2 D (forL gT B (ts.drop i) ρ2),⟨ts.length,by simp,Nat.zero_le _,S1,_,_,o1,.refl,h.step (zeG gr)⟩,?_⟩
  rintro i m σ2 H2 ⟨rfl,hi,S2,As2,ρ2,o2,s2,h2⟩
  by_cases hlt:i < ts.length
  ·have e1:ts[i]? = some ts[i]:=List.getElem?_eq_getElem hlt
   have e2:ts.drop i=ts[i] :: ts.drop (i + 1):=List.drop_eq_getElem_cons hlt
   obtain⟨hgo,hy⟩:=jo.go H2 S2 s2 o2.dom i _ e1
   rw [e2] at h2
   unfold forL at h2
   cases e3:gT ts[i] ρ2 with
   | none=>rw [e3] at h2;exact (show False from h2).elim
   | some ρ3 =>
    rw [e3] at h2
    replace h2:endS X.K z S2 H2 D ((B ρ3).then (forL gT B (ts.drop (i + 1)))):=h2
    refine .inr ⟨hgo,fun σ' H'=>∃ S3 As3 ρ3,Ok X.K z S3 As3 ρ3 σ' H'∧Step X.K S1 H1 S3 H'∧endS X.K z S3 H' D (forL gT B (ts.drop (i + 1)) ρ3),fun σ' H' ⟨S3,As3,ρ3,o3,s3,h3⟩=>⟨ts.length - (i + 1),by lia,rfl,hlt,S3,As3,ρ3,o3,s3,h3⟩,fun x H3 y=>?_⟩
    obtain⟨g3,d3⟩:=hy x H3 y
    refine bg z S2 As2 ρ2 σ2 H3 _ x ρ3 _ (o2.growS g3) d3 e3 fun As4 σ4 o4=>⟨S2,As4,ρ3,o4,?_⟩
    have s3:Step X.K S2 H2 S2 H3:=g3.step
    replace h2:=h2.step s3
    cases e5:B ρ3 with
    | nx ρ5=>rw [e5] at h2;exact fun S5 As5 σ5 H5 o5 s5=>⟨S5,As5,ρ5,o5,(s2.trans s3).trans s5,h2.step s5⟩
    | rt md t=>rw [e5] at h2;exact h2
    | exc c=>rw [e5] at h2;exact h2
    | bad=>rw [e5] at h2;exact (show False from h2).elim
  ·have ei:i=ts.length:=by lia
   subst ei
   rw [List.drop_length] at h2
   exact .inl ⟨jo.stop H2 S2 s2 o2.dom,h2 S2 As2 σ2 H2 o2 .refl⟩
end
end TL
namespace TL
open PySem PySem.Spec L2
noncomputable def nev (z:Z):Z:={ z with E:=fun _ _ _=>False }
noncomputable def Res.no {α:Type}:Res α→Res α
 | .ok a=>.ok a
 | .exc _=>.bad
 | .bad=>.bad
@[simp] theorem Res.no_ok {α:Type} (a:α):(Res.ok a).no=.ok a:=(rfl)
noncomputable def zaH (ix:List (Option Nat)) (ρ:VEnv):VEnv:=ix.map fun o=>o.bind fun j=>(ρ[j]?).join
noncomputable def mapL (gE:T→VEnv→Option VEnv) (F:VEnv→Res T) (ρ:VEnv):List T→Res (List T)
 | []=>.ok []
 | t :: ts=>(Res.of (gE t ρ)).bind fun ρ1=>(F ρ1).no.bind fun u=>(mapL gE F ρ ts).bind fun us=>.ok (u :: us)
noncomputable def mapT (gE:T→VEnv→Option VEnv) (Bt:VEnv→Res Bool) (F:VEnv→Res T) (ρ:VEnv):List T→Res (List T)
 | []=>.ok []
 | t :: ts=>(Res.of (gE t ρ)).bind fun ρ1=>(Bt ρ1).no.bind fun b=>if b=true then (F ρ1).no.bind fun u=>(mapT gE Bt F ρ ts).bind fun us=>.ok (u :: us) else mapT gE Bt F ρ ts
noncomputable def zgS (ix:List (Option Nat)) (I:VEnv→Res (List T)) (gE:T→VEnv→Option VEnv) (F:VEnv→Res T):VEnv→Res T:=fun ρ=>(I ρ).bind fun ts=>(mapL gE F (zaH ix ρ) ts).bind fun us=>.of (zcU us)
noncomputable def zdn (ix:List (Option Nat)) (I:VEnv→Res (List T)) (gE:T→VEnv→Option VEnv) (Bt:VEnv→Res Bool) (F:VEnv→Res T):VEnv→Res T:=fun ρ=>(I ρ).bind fun ts=>(mapT gE Bt F (zaH ix ρ) ts).bind fun us=>.of (zcU us)
def zdv (K:PySem.W.Frag) (n:Nat) (g:TG) (gE:T→VEnv→Option VEnv):Prop:=∀ z S ρ σ H t v ρ' (Q:St→Hp→Prop),OkE K z S ρ σ H→σ.length=n→Den K H S t .al [] v→gE t ρ=some ρ'→(∀ σ',OkE K z S ρ' σ' H→OkE K z S ρ σ' H→σ'.length=n→Q σ' H)→g v σ H Q
theorem zfH {K:PySem.W.Frag} {n i:Nat} (hi:i < n):zdv K n (zdy i) (gE i):=by
 intro z S ρ σ H t v ρ' Q o hl d e k
 exact zf3 (n:=n) i z S ρ σ H t v ρ' Q o (by lia) d e fun σ' h1 h2 h3=>k σ' h1 h2 (h3.trans hl)
theorem OkE.nev {K:PySem.W.Frag} {z:Z} {S:Addr→Prop} {ρ:VEnv} {σ:St} {H:Hp} (o:OkE K z S ρ σ H):OkE K (nev z) S ρ σ H:=⟨o.same,o.dom,o.sl⟩
theorem OkE.inner {K:PySem.W.Frag} {z:Z} {S:Addr→Prop} {ρ:VEnv} {σ:St} {H:Hp} (o:OkE K z S ρ σ H) (ix:List (Option Nat)):OkE K z S (zaH ix ρ) (inner ix σ) H:=by
 refine ⟨o.same,o.dom,fun i t e=>?_⟩
 unfold zaH at e
 rw [List.getElem?_map] at e
 cases q:ix[i]? with
 | none=>rw [q] at e;cases e
 | some oj =>
  rw [q] at e
  cases oj with
  | none=>cases e
  | some j =>
   have e':(ρ[j]?).join=some t:=Option.some.inj e
   have e2:ρ[j]? = some (some t):=by
    cases r:ρ[j]? with
    | none=>rw [r] at e';cases e'
    | some u=>rw [r] at e';cases e';rfl
   obtain⟨v,h1,h2⟩:=o.sl j t e2
   refine ⟨v,?_,h2⟩
   unfold L2.inner
   rw [List.getElem?_map,q]
   show some ((σ[j]?).join)=_
   rw [h1]
   rfl
section
variable {X:Cx} {z:Z} {md mdE:Md} {F:VEnv→Res T} {Bt:VEnv→Res Bool} {elt tg iter c:Expr} {pos:Pos} {K:PySem.W.Frag} {I:VEnv→Res (List T)} {g:TG} {gE:T→VEnv→Option VEnv} {ix:List (Option Nat)} {N':List Str} {scope:Scope}
def Made (K:PySem.W.Frag) (mdE md:Md):Prop:=∀ {H:Hp} {S:Addr→Prop} {H':Hp} {S':Addr→Prop} {A:List Addr} {vs:List V} {ts:List T} {p:Addr},Gots K H S H' S' A vs mdE ts→H' p=none→∃ S2 A2,Got K H S (upd H' p (.lst vs)) S2 A2 (.ref p) md (.lst ts)
theorem zeT:Made K .fu .fu:=fun g hp=>⟨_,_,Got.newFu g hp⟩
theorem zje (M:Made K mdE md) (bg:zdv K ix.length g gE) {σ:St} {H:Hp} {Q:VK} (h:tr K z md (zgS ix I gE F) σ H Q):zii ix (tri K z I) g (tr K (nev z) mdE F) σ H Q:=by
 obtain⟨S,ρ,o,h⟩:=h
 refine ⟨S,ρ,o,?_⟩
 unfold zgS at h
 try dsimp only at h
 cases e:I ρ with
 | exc c=>rw [e] at h;exact h
 | bad=>rw [e] at h;exact h
 | ok ts =>
  rw [e,Res.bind_ok] at h
  intro J H1 S1 gr jo
  cases e2:mapL gE F (zaH ix ρ) ts with
  | bad=>rw [e2] at h;exact (show False from h).elim
  | exc c=>exact absurd e2 (by
    have:∀ l c,mapL gE F (zaH ix ρ) l≠.exc c:=by
     intro l
     induction l with
     | nil=>intro c q;unfold mapL at q;cases q
     | cons t l ih =>
      intro c q
      unfold mapL at q
      cases r:gE t (zaH ix ρ) with
      | none=>rw [r] at q;cases q
      | some ρ1 =>
       rw [r,Res.of_some,Res.bind_ok] at q
       cases r2:F ρ1 with
       | exc c=>rw [r2] at q;cases q
       | bad=>rw [r2] at q;cases q
       | ok u =>
        rw [r2,Res.no_ok,Res.bind_ok] at q
        cases r3:mapL gE F (zaH ix ρ) l with
        | exc c2=>exact ih _ r3
        | bad=>rw [r3] at q;cases q
        | ok us=>rw [r3] at q;cases q
    exact this ts c)
  | ok us =>
   rw [e2,Res.bind_ok] at h
   cases e3:zcU us with
   | none=>rw [e3] at h;exact (show False from h).elim
   | some t0 =>
    rw [e3] at h
    obtain⟨rfl,hz⟩:=zcK e3
    have o1:=((o.grow gr).inner ix).nev
    refine ⟨fun i m acc σ2 H2=>m=ts.length - i∧i≤ts.length∧σ2.length=ix.length∧∃ S2 A us1 us2,us=us1 ++ us2∧mapL gE F (zaH ix ρ) (ts.drop i)=.ok us2∧Gots K H1 S1 H2 S2 A acc mdE us1∧OkE K (nev z) S2 (zaH ix ρ) σ2 H2,
     ⟨ts.length,by simp,Nat.zero_le _,by unfold L2.inner;rw [List.length_map],S1,[],[],us,rfl,e2,Gots.nil gr.dom,o1⟩,?_⟩
    rintro i m acc σ2 H2 ⟨rfl,hi,hl,S2,A,us1,us2,hu,hm,gs,o2⟩
    refine ⟨by rw [gs.den.length];rw [hu,List.length_append] at hz;lia,?_⟩
    by_cases hlt:i < ts.length
    ·have e1:ts[i]? = some ts[i]:=List.getElem?_eq_getElem hlt
     have ed:ts.drop i=ts[i] :: ts.drop (i + 1):=List.drop_eq_getElem_cons hlt
     obtain⟨hgo,hy⟩:=jo.go H2 S2 gs.g.step gs.g.dom i _ e1
     refine .inr ⟨hgo,fun x H3 y=>?_⟩
     obtain⟨g3,d3⟩:=hy x H3 y
     rw [ed] at hm
     unfold mapL at hm
     cases r:gE ts[i] (zaH ix ρ) with
     | none=>rw [r] at hm;cases hm
     | some ρ1 =>
      rw [r,Res.of_some,Res.bind_ok] at hm
      cases r2:F ρ1 with
      | exc c=>rw [r2] at hm;cases hm
      | bad=>rw [r2] at hm;cases hm
      | ok u =>
       rw [r2,Res.no_ok,Res.bind_ok] at hm
       cases r3:mapL gE F (zaH ix ρ) (ts.drop (i + 1)) with
       | exc c=>rw [r3] at hm;cases hm
       | bad=>rw [r3] at hm;cases hm
       | ok us3 =>
        rw [r3,Res.bind_ok] at hm
        cases hm
        refine bg (nev z) S2 _ σ2 H3 _ x ρ1 _ (o2.grow g3) hl d3 r fun σ4 o4 o5 hl4=>⟨S2,ρ1,o4,?_⟩
        rw [r2]
        intro v H4 S4 A4 g4
        have gs3:Gots K H1 S1 H3 S2 A acc mdE us1:=⟨gs.g.trans g3,gs.nd,gs.ow,gs.den.mono g3.same fun _ h=>h⟩
        exact⟨ts.length - (i + 1),by lia,rfl,hlt,hl4,S4,_,us1 ++ [u],us3,by rw [hu,List.append_assoc];rfl,r3,gs3.snoc g4,o5.grow g4.g⟩
    ·have ei:i=ts.length:=by lia
     subst ei
     rw [List.drop_length] at hm
     unfold mapL at hm
     cases hm
     rw [List.append_nil] at hu
     subst hu
     refine .inl ⟨jo.stop H2 S2 gs.g.step gs.g.dom,fun p hp=>?_⟩
     obtain⟨S5,A5,g5⟩:=M gs hp
     exact h _ _ S5 A5 (g5.trans gr)
theorem ziT (M:Made X.K mdE md) (B:Blk X.env scope) (hix:ixOk X.N N' scope ix=true) (hc:X.calm=true) (hi:JI X z tg I iter) (hg:∀ C s₂ H₂ fp pn,PG (cxB X N' scope C s₂ H₂ fp pn) tg g) (bg:zdv X.K ix.length g gE)
  (he:∀ C s₂ H₂ fp pn,PE (cxB X N' scope C s₂ H₂ fp pn) elt (tr X.K (nev z) mdE F)) (hs:∀ x,foldedSetIterable iter X.env x=pure x:=by intro _;rfl):JE X z md (zgS ix I gE F) (.ListComp elt [⟨tg,iter,[],0⟩] scope pos):=
 PE.imp (ziz B hix hc hi hg he hs) fun σ H Q h=>zje M bg h
theorem zfI (M:Made K mdE md) (bg:zdv K ix.length g gE) {σ:St} {H:Hp} {Q:VK} (h:tr K z md (zdn ix I gE Bt F) σ H Q):zfg ix (tri K z I) g (trb K (nev z) Bt) (tr K (nev z) mdE F) σ H Q:=by
 obtain⟨S,ρ,o,h⟩:=h
 refine ⟨S,ρ,o,?_⟩
 unfold zdn at h
 try dsimp only at h
 cases e:I ρ with
 | exc c=>rw [e] at h;exact h
 | bad=>rw [e] at h;exact h
 | ok ts =>
  rw [e,Res.bind_ok] at h
  intro J H1 S1 gr jo
  cases e2:mapT gE Bt F (zaH ix ρ) ts with
  | bad=>rw [e2] at h;exact (show False from h).elim
  | exc c=>exact absurd e2 (by
    have:∀ l c,mapT gE Bt F (zaH ix ρ) l≠.exc c:=by
     intro l
     induction l with
     | nil=>intro c q;unfold mapT at q;cases q
     | cons t l ih =>
      intro c q
      unfold mapT at q
      cases r:gE t (zaH ix ρ) with
      | none=>rw [r] at q;cases q
      | some ρ1 =>
       rw [r,Res.of_some,Res.bind_ok] at q
       cases r1:Bt ρ1 with
       | exc c=>rw [r1] at q;cases q
       | bad=>rw [r1] at q;cases q
       | ok b =>
        rw [r1,Res.no_ok,Res.bind_ok] at q
        cases b with
        | false=>rw [if_neg (by decide)] at q;exact ih _ q
        | true =>
         rw [if_pos rfl] at q
         cases r2:F ρ1 with
         | exc c=>rw [r2] at q;cases q
         | bad=>rw [r2] at q;cases q
         | ok u =>
          rw [r2,Res.no_ok,Res.bind_ok] at q
          cases r3:mapT gE Bt F (zaH ix ρ) l with
          | exc c2=>exact ih _ r3
          | bad=>rw [r3] at q;cases q
          | ok us=>rw [r3] at q;cases q
    exact this ts c)
  | ok us =>
   rw [e2,Res.bind_ok] at h
   cases e3:zcU us with
   | none=>rw [e3] at h;exact (show False from h).elim
   | some t0 =>
    rw [e3] at h
    obtain⟨rfl,hz⟩:=zcK e3
    have o1:=((o.grow gr).inner ix).nev
    refine ⟨fun i m acc σ2 H2=>m=ts.length - i∧i≤ts.length∧σ2.length=ix.length∧∃ S2 A us1 us2,us=us1 ++ us2∧mapT gE Bt F (zaH ix ρ) (ts.drop i)=.ok us2∧Gots K H1 S1 H2 S2 A acc mdE us1∧OkE K (nev z) S2 (zaH ix ρ) σ2 H2,
     ⟨ts.length,by simp,Nat.zero_le _,by unfold L2.inner;rw [List.length_map],S1,[],[],us,rfl,e2,Gots.nil gr.dom,o1⟩,?_⟩
    rintro i m acc σ2 H2 ⟨rfl,hi,hl,S2,A,us1,us2,hu,hm,gs,o2⟩
    refine ⟨by rw [gs.den.length];rw [hu,List.length_append] at hz;lia,?_⟩
    by_cases hlt:i < ts.length
    ·have e1:ts[i]? = some ts[i]:=List.getElem?_eq_getElem hlt
     have ed:ts.drop i=ts[i] :: ts.drop (i + 1):=List.drop_eq_getElem_cons hlt
     obtain⟨hgo,hy⟩:=jo.go H2 S2 gs.g.step gs.g.dom i _ e1
     refine .inr ⟨hgo,fun x H3 y=>?_⟩
     obtain⟨g3,d3⟩:=hy x H3 y
     rw [ed] at hm
     unfold mapT at hm
     have gs3:Gots K H1 S1 H3 S2 A acc mdE us1:=⟨gs.g.trans g3,gs.nd,gs.ow,gs.den.mono g3.same fun _ h=>h⟩
     cases r:gE ts[i] (zaH ix ρ) with
     | none=>rw [r] at hm;cases hm
     | some ρ1 =>
      rw [r,Res.of_some,Res.bind_ok] at hm
      refine bg (nev z) S2 _ σ2 H3 _ x ρ1 _ (o2.grow g3) hl d3 r fun σ4 o4 o5 hl4=>⟨S2,ρ1,o4,?_⟩
      cases r1:Bt ρ1 with
      | exc c=>rw [r1] at hm;cases hm
      | bad=>rw [r1] at hm;cases hm
      | ok b =>
       rw [r1,Res.no_ok,Res.bind_ok] at hm
       intro H6 S6 g6
       have gs6:Gots K H1 S1 H6 S6 A acc mdE us1:=⟨gs3.g.trans g6,gs3.nd,fun a ha=>⟨(gs3.ow a ha).1,fun q=>by
        rcases g6.new a q with q | q
        ·exact (gs3.ow a ha).2 q
        ·obtain⟨ws,w⟩:=gs3.den.own a ha
         rw [q] at w;cases w⟩,gs3.den.mono g6.same g6.up⟩
       cases b with
       | false =>
        rw [if_neg (by decide)] at hm ⊢
        exact⟨ts.length - (i + 1),by lia,rfl,hlt,hl4,S6,A,us1,us2,hu,hm,gs6,o5.grow g6⟩
       | true =>
        rw [if_pos rfl] at hm ⊢
        cases r2:F ρ1 with
        | exc c=>rw [r2] at hm;cases hm
        | bad=>rw [r2] at hm;cases hm
        | ok u =>
         rw [r2,Res.no_ok,Res.bind_ok] at hm
         cases r3:mapT gE Bt F (zaH ix ρ) (ts.drop (i + 1)) with
         | exc c=>rw [r3] at hm;cases hm
         | bad=>rw [r3] at hm;cases hm
         | ok us3 =>
          rw [r3,Res.bind_ok] at hm
          cases hm
          refine ⟨S6,ρ1,o4.grow g6,?_⟩
          rw [r2]
          intro v H4 S4 A4 g4
          exact⟨ts.length - (i + 1),by lia,rfl,hlt,hl4,S4,_,us1 ++ [u],us3,by rw [hu,List.append_assoc];rfl,r3,gs6.snoc g4,(o5.grow g6).grow g4.g⟩
    ·have ei:i=ts.length:=by lia
     subst ei
     rw [List.drop_length] at hm
     unfold mapT at hm
     cases hm
     rw [List.append_nil] at hu
     subst hu
     refine .inl ⟨jo.stop H2 S2 gs.g.step gs.g.dom,fun p hp=>?_⟩
     obtain⟨S5,A5,g5⟩:=M gs hp
     exact h _ _ S5 A5 (g5.trans gr)
theorem zhy (M:Made X.K mdE md) (B:Blk X.env scope) (hix:ixOk X.N N' scope ix=true) (hc:X.calm=true) (hi:JI X z tg I iter) (hg:∀ C s₂ H₂ fp pn,PG (cxB X N' scope C s₂ H₂ fp pn) tg g) (bg:zdv X.K ix.length g gE)
  (ht:∀ C s₂ H₂ fp pn,PT (cxB X N' scope C s₂ H₂ fp pn) c (trb X.K (nev z) Bt)) (he:∀ C s₂ H₂ fp pn,PE (cxB X N' scope C s₂ H₂ fp pn) elt (tr X.K (nev z) mdE F)) (hs:∀ x,foldedSetIterable iter X.env x=pure x:=by intro _;rfl) :
  JE X z md (zdn ix I gE Bt F) (.ListComp elt [⟨tg,iter,[c],0⟩] scope pos):=
 PE.imp (zhj B hix hc hi hg ht he hs) fun σ H Q h=>zfI M bg h
theorem zeW {i:Nat} {y:Str} {py spos:Pos} (Mk:List Bool) (M:Made X.K mdE .fu) (hN:X.N.Nodup) (hi':X.N[i]? = some y) (hy:X.env.scope.names.lookup y=some .local) (B:Blk X.env scope) (hix:ixOk X.N N' scope ix=true) (hc:X.calm=true) (hi:JI X z tg I iter)
  (hg:∀ C s₂ H₂ fp pn,PG (cxB X N' scope C s₂ H₂ fp pn) tg g) (bg:zdv X.K ix.length g gE) (ht:∀ C s₂ H₂ fp pn,PT (cxB X N' scope C s₂ H₂ fp pn) c (trb X.K (nev z) Bt)) (he:∀ C s₂ H₂ fp pn,PE (cxB X N' scope C s₂ H₂ fp pn) elt (tr X.K (nev z) mdE F))
  (hsw:swapsWith (.ListComp elt [⟨tg,iter,[c],0⟩] scope pos) (some (.Name y py)) spos.line X.env=pure true:=by rfl) (hs:∀ x,foldedSetIterable iter X.env x=pure x:=by intro _;rfl) :
  JS X z (sSet i Mk (zdn ix I gE Bt F)) (.Assign [.Name y py] (.ListComp elt [⟨tg,iter,[c],0⟩] scope pos) spos):=
 PS.imp (zeO hN hi' hy B hix hc hi hg ht he hsw hs) fun D σ H h=>zic (fun _ _ _ q=>zfI M bg q) D σ H h
end
end TL
namespace TL
open PySem PySem.Spec L2
mutual
noncomputable def eqT:T→T→Bool
 | .sc x,.sc y=>eqV x y
 | .lst xs,.lst ys=>eqTs xs ys
 | .tup xs,.tup ys=>eqTs xs ys
 | _,_=>false
noncomputable def eqTs:List T→List T→Bool
 | [],[]=>true
 | x :: xs,y :: ys=>eqT x y && eqTs xs ys
 | _,_=>false
end
noncomputable def okT:Nat→T→Bool
 | _,.sc v=>zcV v
 | _,.scr _=>false
 | 0,_=>false
 | d + 1,.lst ts=>ts.all (okT d)
 | d + 1,.tup ts=>ts.all (okT d)
noncomputable def eAt (ts us:List T) (j:Nat):Bool:=match ts[j]?,us[j]? with
 | some t,some u=>eqT t u
 | _,_=>false
theorem zcp:∀ (ts us:List T),ts.length=us.length→(List.range ts.length).all (eAt ts us)=eqTs ts us
 | [],[],_=>by unfold eqTs;rfl
 | [],u :: us,h=>by simp at h
 | t :: ts,[],h=>by simp at h
 | t :: ts,u :: us,h=>by
  have ih:=zcp ts us (by simpa using h)
  rw [List.length_cons,List.range_succ_eq_map,List.all_cons,List.all_map]
  unfold eqTs
  have e1:eAt (t :: ts) (u :: us) 0=eqT t u:=rfl
  have e2:(eAt (t :: ts) (u :: us) ∘ Nat.succ)=eAt ts us:=by funext j;rfl
  rw [e1,e2,ih]
theorem zbE:∀ (ts us:List T),ts.length≠us.length→eqTs ts us=false
 | [],[],h=>absurd rfl h
 | [],u :: us,_=>by unfold eqTs;rfl
 | t :: ts,[],_=>by unfold eqTs;rfl
 | t :: ts,u :: us,h=>by
  unfold eqTs
  rw [zbE ts us (by simpa using h),Bool.and_false]
theorem zfv {v:V} (h:zcV v=true):eqV v v=true:=by
 cases v with
 | non=>rfl
 | bl b=>cases b <;> rfl
 | int i=>unfold eqV;simp
 | str x=>unfold eqV;simp
 | _=>cases h
section
variable {X:Cx} {pins:List (Addr×Obj)} {σ:St} {H:Hp} {s:Shared} {S:Addr→Prop}
theorem Inv.lst_tup (I:Inv X pins σ H s) {a:Addr} {vs ws:List V} (h1:H a=some (.lst vs)) (h2:SqT X.K H a ws):False:=by
 rcases h2 with (h2 | ⟨o,h2⟩) | ⟨o,its,n,h2,_⟩
 ·rw [h1] at h2;cases h2
 ·rw [h1] at h2;cases h2
 ·have:=(I.bs a o (I.mod.kin _ _ h2)).2
  rw [h1] at this;cases this
theorem zi7 (I:Inv X pins σ H s):∀ (d:Nat) (t u:T) (x:V),okT d t=true→okT d u=true→Den X.K H S t .al [] x→Den X.K H S u .al [] x→t=u:=by
 intro d
 induction d with
 | zero =>
  intro t u x ht hu d1 d2
  cases t with
  | sc w =>
   cases u with
   | sc w2 =>
    obtain⟨_,rfl⟩:=zad.mp d1
    obtain⟨_,rfl⟩:=zad.mp d2
    rfl
   | _=>unfold okT at hu;cases hu
  | _=>unfold okT at ht;cases ht
 | succ d ih =>
  have seq:∀ (ts us:List T) (vs:List V),ts.all (okT d)=true→us.all (okT d)=true→Dens X.K H S ts .al [] vs→Dens X.K H S us .al [] vs→ts=us:=by
   intro ts
   induction ts with
   | nil =>
    intro us vs _ _ d1 d2
    unfold Dens at d1
    obtain⟨_,rfl⟩:=d1
    cases us with
    | nil=>rfl
    | cons u us=>unfold Dens at d2;obtain⟨_,_,_,_,_,q,_⟩:=d2;cases q
   | cons t ts iht =>
    intro us vs h1 h2 d1 d2
    unfold Dens at d1
    obtain⟨A1,A2,v,vs',ea,rfl,d3,d4⟩:=d1
    obtain⟨rfl,rfl⟩:=List.append_eq_nil_iff.mp ea.symm
    cases us with
    | nil=>unfold Dens at d2;obtain⟨_,q⟩:=d2;cases q
    | cons u us =>
     unfold Dens at d2
     obtain⟨B1,B2,v2,vs2,eb,q,d5,d6⟩:=d2
     cases q
     obtain⟨rfl,rfl⟩:=List.append_eq_nil_iff.mp eb.symm
     rw [List.all_cons,Bool.and_eq_true] at h1 h2
     rw [ih t u v h1.1 h2.1 d3 d5,iht us vs' h1.2 h2.2 d4 d6]
  intro t u x ht hu d1 d2
  cases t with
  | sc w =>
   obtain⟨_,rfl⟩:=zad.mp d1
   cases u with
   | sc w2 =>
    obtain⟨_,rfl⟩:=zad.mp d2
    rfl
   | lst us=>obtain⟨_,a,vs,rfl,_⟩:=zag.mp d2;cases ht
   | tup us=>obtain⟨_,a,vs,rfl,_⟩:=zal.mp d2;cases ht
   | scr ns=>unfold okT at hu;cases hu
  | scr ns=>unfold okT at ht;cases ht
  | lst ts =>
   obtain⟨_,a,vs,rfl,_,h1,h2⟩:=zag.mp d1
   cases u with
   | sc w2=>obtain⟨_,rfl⟩:=zad.mp d2;cases hu
   | lst us =>
    obtain⟨_,a',vs',e,_,h3,h4⟩:=zag.mp d2
    cases e
    rw [h1] at h3
    cases h3
    rw [seq ts us vs ht hu h2 h4]
   | tup us =>
    obtain⟨_,a',vs',e,h3,h4⟩:=zal.mp d2
    cases e
    exact (Inv.lst_tup I h1 h3).elim
   | scr ns=>unfold okT at hu;cases hu
  | tup ts =>
   obtain⟨_,a,vs,rfl,h1,h2⟩:=zal.mp d1
   cases u with
   | sc w2=>obtain⟨_,rfl⟩:=zad.mp d2;cases hu
   | lst us =>
    obtain⟨_,a',vs',e,_,h3,h4⟩:=zag.mp d2
    cases e
    exact (Inv.lst_tup I h3 h1).elim
   | tup us =>
    obtain⟨_,a',vs',e,h3,h4⟩:=zal.mp d2
    cases e
    obtain rfl:=I.tuple_inj h1 h3
    rw [seq ts us vs ht hu h2 h4]
   | scr ns=>unfold okT at hu;cases hu
theorem zhH:∀ (d:Nat) (t:T),okT d t=true→eqT t t=true:=by
 intro d
 induction d with
 | zero =>
  intro t h
  cases t with
  | sc w=>unfold eqT;exact zfv h
  | _=>unfold okT at h;cases h
 | succ d ih =>
  have seq:∀ ts:List T,ts.all (okT d)=true→eqTs ts ts=true:=by
   intro ts
   induction ts with
   | nil=>intro _;unfold eqTs;rfl
   | cons t ts iht =>
    intro h
    rw [List.all_cons,Bool.and_eq_true] at h
    unfold eqTs
    rw [ih t h.1,iht h.2]
    rfl
  intro t h
  cases t with
  | sc w=>unfold eqT;exact zfv h
  | scr ns=>unfold okT at h;cases h
  | lst ts=>unfold eqT;exact seq ts h
  | tup ts=>unfold eqT;exact seq ts h
theorem zfC (I:Inv X pins σ H s) (d:Nat) (t u:T) (x:V) (h1:okT d t=true) (h2:okT d u=true) (d1:Den X.K H S t .al [] x) (d2:Den X.K H S u .al [] x):eqT t u=true:=by
 rw [← zi7 I d t u x h1 h2 d1 d2]
 exact zhH d t h1
theorem zgM (A:Around):A.in1.units=A.units + 1:=rfl
theorem zbV {A:Around} {d:Nat} (ih:∀ (A:Around) (t u:T) (x y:V) (vx vy:Value),okT d t=true→okT d u=true→A.units + d < cLine→Den X.K H S t .al [] x→Den X.K H S u .al [] y→RelV x vx→RelV y vy→SeqAt.EqAt A s vx vy (eqT t u))
  {ts us:List T} {vs ws:List V} {its its2:List Value} (h1:ts.all (okT d)=true) (h2:us.all (okT d)=true) (hA:A.units + (d + 1) < cLine) (d1:Dens X.K H S ts .al [] vs) (d2:Dens X.K H S us .al [] ws) (r1:Vals vs its) (r2:Vals ws its2) :
  ∀ j (g1:j < its.toArray.size) (g2:j < its2.toArray.size),SeqAt.EqAt A.in1 s its.toArray[j] its2.toArray[j] (eAt ts us j):=by
 intro j g1 g2
 have l1:=d1.length
 have l2:=d2.length
 have l3:=r1.length
 have l4:=r2.length
 simp only [List.size_toArray] at g1 g2
 have e1:ts[j]? = some ts[j]:=List.getElem?_eq_getElem (by lia)
 have e2:us[j]? = some us[j]:=List.getElem?_eq_getElem (by lia)
 obtain⟨v,q1,p1⟩:=d1.get e1
 obtain⟨w,q2,p2⟩:=d2.get e2
 obtain⟨x1,f1,b1⟩:=r1.get q1
 obtain⟨x2,f2,b2⟩:=r2.get q2
 have c1:its.toArray[j]=x1:=by
  have:its[j]? = some its[j]:=List.getElem?_eq_getElem g1
  rw [f1] at this
  simp
  exact (Option.some.inj this).symm
 have c2:its2.toArray[j]=x2:=by
  have:its2[j]? = some its2[j]:=List.getElem?_eq_getElem g2
  rw [f2] at this
  simp
  exact (Option.some.inj this).symm
 have ee:eAt ts us j=eqT ts[j] us[j]:=by unfold eAt;rw [e1,e2]
 rw [c1,c2,ee]
 exact ih A.in1 _ _ v w x1 x2 (List.all_eq_true.mp h1 _ (List.getElem_mem _)) (List.all_eq_true.mp h2 _ (List.getElem_mem _)) (by rw [zgM];lia) p1 p2 b1 b2
theorem zhG (I:Inv X pins σ H s):∀ (d:Nat) (A:Around) (t u:T) (x y:V) (vx vy:Value),okT d t=true→okT d u=true→A.units + d < cLine→Den X.K H S t .al [] x→Den X.K H S u .al [] y→RelV x vx→RelV y vy→SeqAt.EqAt A s vx vy (eqT t u):=by
 have scsc:∀ (A:Around) (w1 w2:V) (x y:V) (vx vy:Value),zcV w1=true→zcV w2=true→Den X.K H S (.sc w1) .al [] x→Den X.K H S (.sc w2) .al [] y→RelV x vx→RelV y vy→SeqAt.EqAt A s vx vy (eqT (.sc w1) (.sc w2)):=by
  intro A w1 w2 x y vx vy h1 h2 d1 d2 r1 r2
  obtain⟨_,rfl⟩:=zad.mp d1
  obtain⟨_,rfl⟩:=zad.mp d2
  unfold eqT
  exact zky r1 r2 h1 h2
 intro d
 induction d with
 | zero =>
  intro A t u x y vx vy ht hu _ d1 d2 r1 r2
  cases t with
  | sc w =>
   cases u with
   | sc w2=>exact scsc A w w2 x y vx vy ht hu d1 d2 r1 r2
   | _=>unfold okT at hu;cases hu
  | _=>unfold okT at ht;cases ht
 | succ d ih =>
  intro A t u x y vx vy ht hu hA d1 d2 r1 r2
  have hA0:A.units < cLine:=by lia
  cases t with
  | scr ns=>unfold okT at ht;cases ht
  | sc w =>
   cases u with
   | scr ns=>unfold okT at hu;cases hu
   | sc w2=>exact scsc A w w2 x y vx vy ht hu d1 d2 r1 r2
   | lst us =>
    obtain⟨_,rfl⟩:=zad.mp d1
    obtain⟨_,a,vs,rfl,_,h1,h2⟩:=zag.mp d2
    cases r2
    obtain⟨its,_,pl,_⟩:=I.list (.of h1)
    have e:eqT (.sc x) (.lst us)=false:=by unfold eqT;rfl
    rw [e]
    cases x with
    | non=>cases r1;exact .none_list pl.isList hA0
    | bl b=>cases r1;exact .bool_list b pl.isList hA0
    | int i=>obtain⟨t,rfl⟩:=r1;exact .int_list i t pl.isList hA0
    | str i=>obtain⟨t,rfl⟩:=r1;exact .str_list i t pl.isList hA0
    | _=>cases ht
   | tup us =>
    obtain⟨_,rfl⟩:=zad.mp d1
    obtain⟨_,a,vs,rfl,h1,h2⟩:=zal.mp d2
    cases r2
    obtain⟨its,_,pl,_⟩:=I.tuple h1
    have e:eqT (.sc x) (.tup us)=false:=by unfold eqT;rfl
    rw [e]
    cases x with
    | non=>cases r1;exact .none_tuple pl hA0
    | bl b=>cases r1;exact .bool_tuple b pl hA0
    | int i=>obtain⟨t,rfl⟩:=r1;exact .int_tuple i t pl hA0
    | str i=>obtain⟨t,rfl⟩:=r1;exact .str_tuple i t pl hA0
    | _=>cases ht
  | lst ts =>
   obtain⟨_,a,vs,rfl,_,h1,h2⟩:=zag.mp d1
   cases r1
   obtain⟨its,rv,pl,_⟩:=I.list (.of h1)
   cases u with
   | scr ns=>unfold okT at hu;cases hu
   | sc w =>
    obtain⟨_,rfl⟩:=zad.mp d2
    have e:eqT (.lst ts) (.sc y)=false:=by unfold eqT;rfl
    rw [e]
    cases y with
    | non=>cases r2;exact .list_none pl.isList hA0
    | bl b=>cases r2;exact .list_bool b pl.isList hA0
    | int i=>obtain⟨t,rfl⟩:=r2;exact .list_int i t pl.isList hA0
    | str i=>obtain⟨t,rfl⟩:=r2;exact .list_str i t pl.isList hA0
    | _=>cases hu
   | tup us =>
    obtain⟨_,b,ws,rfl,h3,h4⟩:=zal.mp d2
    cases r2
    obtain⟨its2,rv2,pl2,_⟩:=I.tuple h3
    have e:eqT (.lst ts) (.tup us)=false:=by unfold eqT;rfl
    rw [e]
    exact .list_tuple pl.isList pl2 hA0
   | lst us =>
    have d2':=d2
    obtain⟨_,b,ws,rfl,_,h3,h4⟩:=zag.mp d2
    cases r2
    by_cases hab:a=b
    ·subst hab
     rw [zfC I (d + 1) _ _ _ ht hu d1 d2']
     exact .same _
    ·obtain⟨its2,rv2,pl2,_⟩:=I.list (.of h3)
     refine SeqAt.EqAt.of_refs hab ?_
     have l1:=h2.length;have l2:=h4.length;have l3:=rv.length;have l4:=rv2.length
     unfold eqT
     by_cases hl:ts.length=us.length
     ·rw [← zcp ts us hl]
      have:=SeqAt.RcAt.lists pl.isList pl2.isList (by simp;lia) hA0 (zbV ih ht hu hA h2 h4 rv rv2)
      simp only [List.size_toArray] at this
      rw [show its.length=ts.length by lia] at this
      exact this
     ·rw [zbE ts us hl]
      exact SeqAt.RcAt.lists_lengths pl.isList pl2.isList (by simp;lia) hA0
  | tup ts =>
   obtain⟨_,a,vs,rfl,h1,h2⟩:=zal.mp d1
   cases r1
   obtain⟨its,rv,pl,_⟩:=I.tuple h1
   cases u with
   | scr ns=>unfold okT at hu;cases hu
   | sc w =>
    obtain⟨_,rfl⟩:=zad.mp d2
    have e:eqT (.tup ts) (.sc y)=false:=by unfold eqT;rfl
    rw [e]
    cases y with
    | non=>cases r2;exact .tuple_none pl hA0
    | bl b=>cases r2;exact .tuple_bool b pl hA0
    | int i=>obtain⟨t,rfl⟩:=r2;exact .tuple_int i t pl hA0
    | str i=>obtain⟨t,rfl⟩:=r2;exact .tuple_str i t pl hA0
    | _=>cases hu
   | lst us =>
    obtain⟨_,b,ws,rfl,_,h3,h4⟩:=zag.mp d2
    cases r2
    obtain⟨its2,rv2,pl2,_⟩:=I.list (.of h3)
    have e:eqT (.tup ts) (.lst us)=false:=by unfold eqT;rfl
    rw [e]
    exact .tuple_list pl pl2.isList hA0
   | tup us =>
    have d2':=d2
    obtain⟨_,b,ws,rfl,h3,h4⟩:=zal.mp d2
    cases r2
    by_cases hab:a=b
    ·subst hab
     rw [zfC I (d + 1) _ _ _ ht hu d1 d2']
     exact .same _
    ·obtain⟨its2,rv2,pl2,_⟩:=I.tuple h3
     refine SeqAt.EqAt.of_refs hab ?_
     have l1:=h2.length;have l2:=h4.length;have l3:=rv.length;have l4:=rv2.length
     have:=SeqAt.RcAt.tuples pl pl2 hA0 (zbV ih ht hu hA h2 h4 rv rv2)
     simp only [List.size_toArray] at this
     unfold eqT
     by_cases hl:ts.length=us.length
     ·rw [← zcp ts us hl]
      rw [show min its.length its2.length=ts.length by lia,show (its.length == its2.length)=true by simp;lia,Bool.and_true] at this
      exact this
     ·rw [zbE ts us hl]
      rw [show (its.length == its2.length)=false by simp;lia,Bool.and_false] at this
      exact this
end
end TL
namespace TL
open PySem PySem.Spec L2
theorem zjM {A:Around} {s:Shared} {y x:V} {p q:Value} (ry:RelV y p) (rx:RelV x q) (fy:zcV y=true) (fx:zcV x=true):SeqAt.RcAt A s p q (eqV y x):=by
 cases y with
 | non =>
  cases ry
  cases x with
  | non=>cases rx;exact SeqAt.RcAt.none_none
  | bl b=>cases rx;exact SeqAt.RcAt.none_bool b
  | int b=>obtain⟨u,rfl⟩:=rx;exact SeqAt.RcAt.none_int b u
  | str b=>obtain⟨u,rfl⟩:=rx;exact SeqAt.RcAt.none_str b u
  | _=>exact absurd (show false=true from fx) Bool.false_ne_true
 | bl a =>
  cases ry
  cases x with
  | non=>cases rx;exact SeqAt.RcAt.bool_none a
  | bl b=>cases rx;exact SeqAt.RcAt.bool_bool a b
  | int b=>obtain⟨u,rfl⟩:=rx;exact SeqAt.RcAt.bool_int a b u
  | str b=>obtain⟨u,rfl⟩:=rx;exact SeqAt.RcAt.bool_str a b u
  | _=>exact absurd (show false=true from fx) Bool.false_ne_true
 | int a =>
  obtain⟨t,rfl⟩:=ry
  cases x with
  | non=>cases rx;exact SeqAt.RcAt.int_none a t
  | bl b=>cases rx;exact SeqAt.RcAt.int_bool a t b
  | int b=>obtain⟨u,rfl⟩:=rx;exact SeqAt.RcAt.int_int a t b u
  | str b=>obtain⟨u,rfl⟩:=rx;exact SeqAt.RcAt.int_str a t b u
  | _=>exact absurd (show false=true from fx) Bool.false_ne_true
 | str a =>
  obtain⟨t,rfl⟩:=ry
  cases x with
  | non=>cases rx;exact SeqAt.RcAt.str_none a t
  | bl b=>cases rx;exact SeqAt.RcAt.str_bool a t b
  | int b=>obtain⟨u,rfl⟩:=rx;exact SeqAt.RcAt.str_int a t b u
  | str b=>obtain⟨u,rfl⟩:=rx;exact SeqAt.RcAt.str_str a t b u
  | _=>exact absurd (show false=true from fx) Bool.false_ne_true
 | _=>exact absurd (show false=true from fy) Bool.false_ne_true
theorem zhf {A:Around} {s:Shared} {y x:V} {p q:Value} (ry:RelV y p) (rx:RelV x q) (fy:zcV y=true) (fx:zcV x=true):SeqAt.RcNeAt A s p q (!eqV y x):=by
 cases y with
 | non =>
  cases ry
  cases x with
  | non=>cases rx;exact SeqAt.RcNeAt.none_none
  | bl b=>cases rx;exact SeqAt.RcNeAt.none_bool b
  | int b=>obtain⟨u,rfl⟩:=rx;exact SeqAt.RcNeAt.none_int b u
  | str b=>obtain⟨u,rfl⟩:=rx;exact SeqAt.RcNeAt.none_str b u
  | _=>exact absurd (show false=true from fx) Bool.false_ne_true
 | bl a =>
  cases ry
  cases x with
  | non=>cases rx;exact SeqAt.RcNeAt.bool_none a
  | bl b=>cases rx;exact SeqAt.RcNeAt.bool_bool a b
  | int b=>obtain⟨u,rfl⟩:=rx;exact SeqAt.RcNeAt.bool_int a b u
  | str b=>obtain⟨u,rfl⟩:=rx;exact SeqAt.RcNeAt.bool_str a b u
  | _=>exact absurd (show false=true from fx) Bool.false_ne_true
 | int a =>
  obtain⟨t,rfl⟩:=ry
  cases x with
  | non=>cases rx;exact SeqAt.RcNeAt.int_none a t
  | bl b=>cases rx;exact SeqAt.RcNeAt.int_bool a t b
  | int b=>obtain⟨u,rfl⟩:=rx;exact SeqAt.RcNeAt.int_int a t b u
  | str b=>obtain⟨u,rfl⟩:=rx;exact SeqAt.RcNeAt.int_str a t b u
  | _=>exact absurd (show false=true from fx) Bool.false_ne_true
 | str a =>
  obtain⟨t,rfl⟩:=ry
  cases x with
  | non=>cases rx;exact SeqAt.RcNeAt.str_none a t
  | bl b=>cases rx;exact SeqAt.RcNeAt.str_bool a t b
  | int b=>obtain⟨u,rfl⟩:=rx;exact SeqAt.RcNeAt.str_int a t b u
  | str b=>obtain⟨u,rfl⟩:=rx;exact SeqAt.RcNeAt.str_str a t b u
  | _=>exact absurd (show false=true from fx) Bool.false_ne_true
 | _=>exact absurd (show false=true from fy) Bool.false_ne_true
section
variable {X:Cx} {pins:List (Addr×Obj)} {σ:St} {H:Hp} {s:Shared} {S:Addr→Prop} {md:Md}
theorem zlp (I:Inv X pins σ H s) (d:Nat) (A:Around) (t u:T) (x y:V) (vx vy:Value) (ht:okT (d + 1) t=true) (hu:okT (d + 1) u=true) (hA:A.units + (d + 1) < cLine) (d1:Den X.K H S t .al [] x) (d2:Den X.K H S u .al [] y) (r1:RelV x vx) (r2:RelV y vy):SeqAt.RcAt A s vx vy (eqT t u):=by
 have hA0:A.units < cLine:=by lia
 cases t with
 | scr ns=>unfold okT at ht;cases ht
 | sc w =>
  obtain⟨_,rfl⟩:=zad.mp d1
  cases u with
  | scr ns=>unfold okT at hu;cases hu
  | sc w2 =>
   obtain⟨_,rfl⟩:=zad.mp d2
   have e:eqT (.sc x) (.sc y)=eqV x y:=by unfold eqT;rfl
   rw [e]
   exact zjM r1 r2 ht hu
  | lst us =>
   obtain⟨_,a,vs,rfl,_,h1,h2⟩:=zag.mp d2
   cases r2
   obtain⟨its,_,pl,_⟩:=I.list (.of h1)
   have e:eqT (.sc x) (.lst us)=false:=by unfold eqT;rfl
   rw [e]
   cases x with
   | non=>cases r1;exact SeqAt.RcAt.none_list pl.isList hA0
   | bl b=>cases r1;exact SeqAt.RcAt.bool_list b pl.isList hA0
   | int i=>obtain⟨t,rfl⟩:=r1;exact SeqAt.RcAt.int_list i t pl.isList hA0
   | str i=>obtain⟨t,rfl⟩:=r1;exact SeqAt.RcAt.str_list i t pl.isList hA0
   | _=>cases ht
  | tup us =>
   obtain⟨_,a,vs,rfl,h1,h2⟩:=zal.mp d2
   cases r2
   obtain⟨its,_,pl,_⟩:=I.tuple h1
   have e:eqT (.sc x) (.tup us)=false:=by unfold eqT;rfl
   rw [e]
   cases x with
   | non=>cases r1;exact SeqAt.RcAt.none_tuple pl hA0
   | bl b=>cases r1;exact SeqAt.RcAt.bool_tuple b pl hA0
   | int i=>obtain⟨t,rfl⟩:=r1;exact SeqAt.RcAt.int_tuple i t pl hA0
   | str i=>obtain⟨t,rfl⟩:=r1;exact SeqAt.RcAt.str_tuple i t pl hA0
   | _=>cases ht
 | lst ts =>
  obtain⟨_,a,vs,rfl,_,h1,h2⟩:=zag.mp d1
  cases r1
  obtain⟨its,rv,pl,_⟩:=I.list (.of h1)
  cases u with
  | scr ns=>unfold okT at hu;cases hu
  | sc w =>
   obtain⟨_,rfl⟩:=zad.mp d2
   have e:eqT (.lst ts) (.sc y)=false:=by unfold eqT;rfl
   rw [e]
   cases y with
   | non=>cases r2;exact SeqAt.RcAt.list_none pl.isList hA0
   | bl b=>cases r2;exact SeqAt.RcAt.list_bool b pl.isList hA0
   | int i=>obtain⟨t,rfl⟩:=r2;exact SeqAt.RcAt.list_int i t pl.isList hA0
   | str i=>obtain⟨t,rfl⟩:=r2;exact SeqAt.RcAt.list_str i t pl.isList hA0
   | _=>cases hu
  | tup us =>
   obtain⟨_,b,ws,rfl,h3,h4⟩:=zal.mp d2
   cases r2
   obtain⟨its2,rv2,pl2,_⟩:=I.tuple h3
   have e:eqT (.lst ts) (.tup us)=false:=by unfold eqT;rfl
   rw [e]
   exact SeqAt.RcAt.list_tuple pl.isList pl2 hA0
  | lst us =>
   obtain⟨_,b,ws,rfl,_,h3,h4⟩:=zag.mp d2
   cases r2
   obtain⟨its2,rv2,pl2,_⟩:=I.list (.of h3)
   have l1:=h2.length;have l2:=h4.length;have l3:=rv.length;have l4:=rv2.length
   unfold eqT
   by_cases hl:ts.length=us.length
   ·rw [← zcp ts us hl]
    have:=SeqAt.RcAt.lists pl.isList pl2.isList (by simp;lia) hA0 (zbV (zhG I d) ht hu hA h2 h4 rv rv2)
    simp only [List.size_toArray] at this
    rw [show its.length=ts.length by lia] at this
    exact this
   ·rw [zbE ts us hl]
    exact SeqAt.RcAt.lists_lengths pl.isList pl2.isList (by simp;lia) hA0
 | tup ts =>
  obtain⟨_,a,vs,rfl,h1,h2⟩:=zal.mp d1
  cases r1
  obtain⟨its,rv,pl,_⟩:=I.tuple h1
  cases u with
  | scr ns=>unfold okT at hu;cases hu
  | sc w =>
   obtain⟨_,rfl⟩:=zad.mp d2
   have e:eqT (.tup ts) (.sc y)=false:=by unfold eqT;rfl
   rw [e]
   cases y with
   | non=>cases r2;exact SeqAt.RcAt.tuple_none pl hA0
   | bl b=>cases r2;exact SeqAt.RcAt.tuple_bool b pl hA0
   | int i=>obtain⟨t,rfl⟩:=r2;exact SeqAt.RcAt.tuple_int i t pl hA0
   | str i=>obtain⟨t,rfl⟩:=r2;exact SeqAt.RcAt.tuple_str i t pl hA0
   | _=>cases hu
  | lst us =>
   obtain⟨_,b,ws,rfl,_,h3,h4⟩:=zag.mp d2
   cases r2
   obtain⟨its2,rv2,pl2,_⟩:=I.list (.of h3)
   have e:eqT (.tup ts) (.lst us)=false:=by unfold eqT;rfl
   rw [e]
   exact SeqAt.RcAt.tuple_list pl pl2.isList hA0
  | tup us =>
   obtain⟨_,b,ws,rfl,h3,h4⟩:=zal.mp d2
   cases r2
   obtain⟨its2,rv2,pl2,_⟩:=I.tuple h3
   have l1:=h2.length;have l2:=h4.length;have l3:=rv.length;have l4:=rv2.length
   have:=SeqAt.RcAt.tuples pl pl2 hA0 (zbV (zhG I d) ht hu hA h2 h4 rv rv2)
   simp only [List.size_toArray] at this
   unfold eqT
   by_cases hl:ts.length=us.length
   ·rw [← zcp ts us hl]
    rw [show min its.length its2.length=ts.length by lia,show (its.length == its2.length)=true by simp;lia,Bool.and_true] at this
    exact this
   ·rw [zbE ts us hl]
    rw [show (its.length == its2.length)=false by simp;lia,Bool.and_false] at this
    exact this
theorem ziq (I:Inv X pins σ H s) (d:Nat) (A:Around) (t u:T) (x y:V) (vx vy:Value) (ht:okT (d + 1) t=true) (hu:okT (d + 1) u=true) (hA:A.units + (d + 1) < cLine) (d1:Den X.K H S t .al [] x) (d2:Den X.K H S u .al [] y) (r1:RelV x vx) (r2:RelV y vy):SeqAt.RcNeAt A s vx vy (!eqT t u):=by
 have hA0:A.units < cLine:=by lia
 cases t with
 | scr ns=>unfold okT at ht;cases ht
 | sc w =>
  obtain⟨_,rfl⟩:=zad.mp d1
  cases u with
  | scr ns=>unfold okT at hu;cases hu
  | sc w2 =>
   obtain⟨_,rfl⟩:=zad.mp d2
   have e:eqT (.sc x) (.sc y)=eqV x y:=by unfold eqT;rfl
   rw [e]
   exact zhf r1 r2 ht hu
  | lst us =>
   obtain⟨_,a,vs,rfl,_,h1,h2⟩:=zag.mp d2
   cases r2
   obtain⟨its,_,pl,_⟩:=I.list (.of h1)
   have e:eqT (.sc x) (.lst us)=false:=by unfold eqT;rfl
   rw [e]
   cases x with
   | non=>cases r1;exact SeqAt.RcNeAt.none_list pl.isList hA0
   | bl b=>cases r1;exact SeqAt.RcNeAt.bool_list b pl.isList hA0
   | int i=>obtain⟨t,rfl⟩:=r1;exact SeqAt.RcNeAt.int_list i t pl.isList hA0
   | str i=>obtain⟨t,rfl⟩:=r1;exact SeqAt.RcNeAt.str_list i t pl.isList hA0
   | _=>cases ht
  | tup us =>
   obtain⟨_,a,vs,rfl,h1,h2⟩:=zal.mp d2
   cases r2
   obtain⟨its,_,pl,_⟩:=I.tuple h1
   have e:eqT (.sc x) (.tup us)=false:=by unfold eqT;rfl
   rw [e]
   cases x with
   | non=>cases r1;exact SeqAt.RcNeAt.none_tuple pl hA0
   | bl b=>cases r1;exact SeqAt.RcNeAt.bool_tuple b pl hA0
   | int i=>obtain⟨t,rfl⟩:=r1;exact SeqAt.RcNeAt.int_tuple i t pl hA0
   | str i=>obtain⟨t,rfl⟩:=r1;exact SeqAt.RcNeAt.str_tuple i t pl hA0
   | _=>cases ht
 | lst ts =>
  obtain⟨_,a,vs,rfl,_,h1,h2⟩:=zag.mp d1
  cases r1
  obtain⟨its,rv,pl,_⟩:=I.list (.of h1)
  cases u with
  | scr ns=>unfold okT at hu;cases hu
  | sc w =>
   obtain⟨_,rfl⟩:=zad.mp d2
   have e:eqT (.lst ts) (.sc y)=false:=by unfold eqT;rfl
   rw [e]
   cases y with
   | non=>cases r2;exact SeqAt.RcNeAt.list_none pl.isList hA0
   | bl b=>cases r2;exact SeqAt.RcNeAt.list_bool b pl.isList hA0
   | int i=>obtain⟨t,rfl⟩:=r2;exact SeqAt.RcNeAt.list_int i t pl.isList hA0
   | str i=>obtain⟨t,rfl⟩:=r2;exact SeqAt.RcNeAt.list_str i t pl.isList hA0
   | _=>cases hu
  | tup us =>
   obtain⟨_,b,ws,rfl,h3,h4⟩:=zal.mp d2
   cases r2
   obtain⟨its2,rv2,pl2,_⟩:=I.tuple h3
   have e:eqT (.lst ts) (.tup us)=false:=by unfold eqT;rfl
   rw [e]
   exact SeqAt.RcNeAt.list_tuple pl.isList pl2 hA0
  | lst us =>
   obtain⟨_,b,ws,rfl,_,h3,h4⟩:=zag.mp d2
   cases r2
   obtain⟨its2,rv2,pl2,_⟩:=I.list (.of h3)
   have l1:=h2.length;have l2:=h4.length;have l3:=rv.length;have l4:=rv2.length
   unfold eqT
   by_cases hl:ts.length=us.length
   ·rw [← zcp ts us hl]
    have:=SeqAt.RcNeAt.lists pl.isList pl2.isList (by simp;lia) hA0 (zbV (zhG I d) ht hu hA h2 h4 rv rv2)
    simp only [List.size_toArray] at this
    rw [show its.length=ts.length by lia] at this
    exact this
   ·rw [zbE ts us hl]
    exact SeqAt.RcNeAt.lists_lengths pl.isList pl2.isList (by simp;lia) hA0
 | tup ts =>
  obtain⟨_,a,vs,rfl,h1,h2⟩:=zal.mp d1
  cases r1
  obtain⟨its,rv,pl,_⟩:=I.tuple h1
  cases u with
  | scr ns=>unfold okT at hu;cases hu
  | sc w =>
   obtain⟨_,rfl⟩:=zad.mp d2
   have e:eqT (.tup ts) (.sc y)=false:=by unfold eqT;rfl
   rw [e]
   cases y with
   | non=>cases r2;exact SeqAt.RcNeAt.tuple_none pl hA0
   | bl b=>cases r2;exact SeqAt.RcNeAt.tuple_bool b pl hA0
   | int i=>obtain⟨t,rfl⟩:=r2;exact SeqAt.RcNeAt.tuple_int i t pl hA0
   | str i=>obtain⟨t,rfl⟩:=r2;exact SeqAt.RcNeAt.tuple_str i t pl hA0
   | _=>cases hu
  | lst us =>
   obtain⟨_,b,ws,rfl,_,h3,h4⟩:=zag.mp d2
   cases r2
   obtain⟨its2,rv2,pl2,_⟩:=I.list (.of h3)
   have e:eqT (.tup ts) (.lst us)=false:=by unfold eqT;rfl
   rw [e]
   exact SeqAt.RcNeAt.tuple_list pl pl2.isList hA0
  | tup us =>
   obtain⟨_,b,ws,rfl,h3,h4⟩:=zal.mp d2
   cases r2
   obtain⟨its2,rv2,pl2,_⟩:=I.tuple h3
   have l1:=h2.length;have l2:=h4.length;have l3:=rv.length;have l4:=rv2.length
   have:=SeqAt.RcNeAt.tuples pl pl2 hA0 (zbV (zhG I d) ht hu hA h2 h4 rv rv2)
   simp only [List.size_toArray] at this
   unfold eqT
   by_cases hl:ts.length=us.length
   ·rw [← zcp ts us hl]
    rw [show min its.length its2.length=ts.length by lia,show (its.length == its2.length)=true by simp;lia,Bool.and_true] at this
    exact this
   ·rw [zbE ts us hl]
    rw [show (its.length == its2.length)=false by simp;lia,Bool.and_false] at this
    exact this
theorem OpR.imp {f:Value→Value→Sem Value} {r r':R2} (h:OpR X f r) (k:∀ x y H Q,r' x y H Q→r x y H Q):OpR X f r':=fun pins s σ H x y v u Q I r1 r2 q=>h pins s σ H x y v u Q I r1 r2 (k x y H Q q)
theorem UnR.imp {f:Value→Sem Value} {r r':V→Hp→VK→Prop} (h:UnR X f r) (k:∀ x H Q,r' x H Q→r x H Q):UnR X f r':=fun pins s σ H x v Q I r1 q=>h pins s σ H x v Q I r1 (k x H Q q)
theorem zdu.imp {f:Value} {r r':List V→Hp→VK→Prop} (h:zdu X f r) (k:∀ x H Q,r' x H Q→r x H Q):zdu X f r':=fun pins s σ H xs us Q I r1 q=>h pins s σ H xs us Q I r1 (k xs H Q q)
noncomputable def oI (g:Int→Int→Option V):T→T→Option T
 | .sc (.int i),.sc (.int j)=>(g i j).map .sc
 | _,_=>none
theorem zdG {K:PySem.W.Frag} {g:Int→Int→Option V} {x y:V} {H:Hp} {Q:VK} (h:rT K md (oI g) x y H Q):∃ i j v,x=.int i∧y=.int j∧g i j=some v∧Q v H:=by
 obtain⟨S,t,u,dm,d1,d2,h⟩:=h
 unfold oI at h
 split at h
 ·rename_i i j
  obtain⟨_,rfl⟩:=zad.mp d1
  obtain⟨_,rfl⟩:=zad.mp d2
  cases e:g i j with
  | none=>rw [e] at h;exact (show False from h).elim
  | some v=>rw [e] at h;exact⟨i,j,v,rfl,rfl,e,h v H S [] (Got.sc dm v)⟩
 ·exact (show False from h).elim
noncomputable def iAdd (i j:Int):Option V:=some (.int (i + j))
noncomputable def iSub (i j:Int):Option V:=some (.int (i - j))
noncomputable def iMul (i j:Int):Option V:=if (-(2 ^ 64) < i∧i < 2 ^ 64)∨(-(2 ^ 64) < j∧j < 2 ^ 64) then some (.int (i * j)) else none
noncomputable def iMod (i j:Int):Option V:=if 0 < j then some (.int (i % j)) else none
noncomputable def iLt (i j:Int):Option V:=some (.bl (decide (i < j)))
noncomputable def iGt (i j:Int):Option V:=some (.bl (decide (j < i)))
theorem ziG:OpR X (binaryOp .Add) (rT X.K md (oI iAdd)):=OpR.imp zj5 fun x y H Q h=>by
 obtain⟨i,j,v,rfl,rfl,e,q⟩:=zdG h
 cases e
 exact⟨i,j,rfl,rfl,q⟩
theorem zj8:OpR X (binaryOp .Sub) (rT X.K md (oI iSub)):=OpR.imp zj1 fun x y H Q h=>by
 obtain⟨i,j,v,rfl,rfl,e,q⟩:=zdG h
 cases e
 exact⟨i,j,rfl,rfl,q⟩
theorem ziF:OpR X (binaryOp .Mult) (rT X.K md (oI iMul)):=OpR.imp zj3 fun x y H Q h=>by
 obtain⟨i,j,v,rfl,rfl,e,q⟩:=zdG h
 unfold iMul at e
 split at e
 ·cases e;exact⟨i,j,rfl,rfl,by assumption,q⟩
 ·cases e
theorem zj9:OpR X (binaryOp .Mod) (rT X.K md (oI iMod)):=OpR.imp zj4 fun x y H Q h=>by
 obtain⟨i,j,v,rfl,rfl,e,q⟩:=zdG h
 unfold iMod at e
 split at e
 ·cases e;exact⟨i,j,rfl,rfl,by assumption,q⟩
 ·cases e
theorem o_lt:OpR X (compareOp .Lt) (rT X.K md (oI iLt)):=OpR.imp zly fun x y H Q h=>by
 obtain⟨i,j,v,rfl,rfl,e,q⟩:=zdG h
 cases e
 exact⟨i,j,rfl,rfl,q⟩
theorem o_gt:OpR X (compareOp .Gt) (rT X.K md (oI iGt)):=OpR.imp zlz fun x y H Q h=>by
 obtain⟨i,j,v,rfl,rfl,e,q⟩:=zdG h
 cases e
 exact⟨i,j,rfl,rfl,q⟩
noncomputable def oNeg:T→Option T
 | .sc (.int i)=>some (.sc (.int (-i)))
 | _=>none
theorem zlB:UnR X (unaryOp .USub) (r1T X.K md oNeg):=UnR.imp zjA fun x H Q h=>by
 obtain⟨S,t,dm,d1,h⟩:=h
 unfold oNeg at h
 split at h
 ·rename_i i
  obtain⟨_,rfl⟩:=zad.mp d1
  exact⟨i,rfl,h _ H S [] (Got.sc dm _)⟩
 ·exact (show False from h).elim
noncomputable def oEq (t u:T):Option T:=if okT 5 t=true∧okT 5 u=true then some (.sc (.bl (eqT t u))) else none
noncomputable def oNe (t u:T):Option T:=if okT 5 t=true∧okT 5 u=true then some (.sc (.bl (!eqT t u))) else none
theorem o_eq (hu:X.A.units + 5 < cLine):OpR X (compareOp .Eq) (rT X.K md oEq):=by
 intro pins s σ H x y v u Q I rx ry h
 obtain⟨S,t,w,dm,d1,d2,h⟩:=h
 unfold oEq at h
 split at h
 ·rename_i hk
  exact zlp I 4 X.A t w x y v u hk.1 hk.2 hu d1 d2 rx ry _ _ _ _ ⟨.bl _,H,I,rfl,h _ H S [] (Got.sc dm _)⟩
 ·exact (show False from h).elim
theorem o_ne (hu:X.A.units + 5 < cLine):OpR X (compareOp .NotEq) (rT X.K md oNe):=by
 intro pins s σ H x y v u Q I rx ry h
 obtain⟨S,t,w,dm,d1,d2,h⟩:=h
 unfold oNe at h
 split at h
 ·rename_i hk
  exact ziq I 4 X.A t w x y v u hk.1 hk.2 hu d1 d2 rx ry _ _ _ _ ⟨.bl _,H,I,rfl,h _ H S [] (Got.sc dm _)⟩
 ·exact (show False from h).elim
end
end TL
namespace TL
open PySem PySem.Spec L2
section
variable {X:Cx} {pins:List (Addr×Obj)} {σ:St} {H:Hp} {s:Shared} {S:Addr→Prop} {md:Md} {K:PySem.W.Frag}
noncomputable def zgK (ns:List Int):List T:=ns.map fun n=>.sc (.int n)
noncomputable def oIx:T→T→Option T
 | .lst ts,.sc (.int i)=>atI ts i
 | .tup ts,.sc (.int i)=>atI ts i
 | .scr ns,.sc (.int i)=>(atI ns i).map fun n=>.sc (.int n)
 | _,_=>none
theorem zg3 {ts:List T} {vs:List V} {i:Int} {t:T} (d:Dens K H S ts .al [] vs) (h:atI ts i=some t):∃ v,atI vs i=some v∧Den K H S t .al [] v:=by
 unfold atI at h ⊢
 rw [d.length]
 cases e:ixN ts.length i with
 | none=>rw [e] at h;cases h
 | some j =>
  rw [e] at h
  exact d.get h
theorem zjc {α β:Type} (f:α→β) (xs:List α) (i:Int):atI (xs.map f) i=(atI xs i).map f:=by
 unfold atI
 rw [List.length_map]
 cases ixN xs.length i with
 | none=>rfl
 | some j=>simp
theorem o_ix:IxR X (rT X.K .al oIx):=by
 intro va sl pins s σ H x y v u Q I rx ry h hs
 obtain⟨S,t,w,dm,d1,d2,h⟩:=h
 unfold oIx at h
 split at h
 ·rename_i ts i
  obtain⟨_,a,vs,rfl,hS,h1,h2⟩:=zag.mp d1
  obtain⟨_,rfl⟩:=zad.mp d2
  cases e:atI ts i with
  | none=>rw [e] at h;exact (show False from h).elim
  | some r =>
   rw [e] at h
   obtain⟨z,e1,e2⟩:=zg3 h2 e
   exact zgJ va sl pins s σ H _ _ v u Q I rx ry ⟨a,vs,i,z,rfl,rfl,.of h1,e1,h z H S [] ⟨.refl dm,List.nodup_nil,fun _ q=>(nomatch q),e2⟩⟩ hs
 ·rename_i ts i
  obtain⟨_,a,vs,rfl,h1,h2⟩:=zal.mp d1
  obtain⟨_,rfl⟩:=zad.mp d2
  cases e:atI ts i with
  | none=>rw [e] at h;exact (show False from h).elim
  | some r =>
   rw [e] at h
   obtain⟨z,e1,e2⟩:=zg3 h2 e
   exact zks va sl pins s σ H _ _ v u Q I rx ry ⟨a,vs,i,z,rfl,rfl,h1,e1,h z H S [] ⟨.refl dm,List.nodup_nil,fun _ q=>(nomatch q),e2⟩⟩ hs
 ·rename_i ns i
  obtain⟨_,a,rfl,h1⟩:=ze0.mp d1
  obtain⟨_,rfl⟩:=zad.mp d2
  cases e:atI ns i with
  | none=>rw [e] at h;exact (show False from h).elim
  | some r =>
   rw [e] at h
   exact zgJ va sl pins s σ H _ _ v u Q I rx ry ⟨a,_,i,.int r,rfl,rfl,h1.sq,by rw [zjc,e];rfl,h _ H S [] (Got.sc dm _)⟩ hs
 ·exact (show False from h).elim
noncomputable def zeZ (ts:List T):Bool:=ts.all isSc
theorem zdo:∀ {ts:List T} {vs:List V},Dens K H S ts .al [] vs→zeZ ts=true→Dens K H S ts .fu [] vs
 | [],vs,h,_=>by unfold Dens at h ⊢;exact h
 | t :: ts,vs,h,f=>by
  unfold zeZ at f
  rw [List.all_cons,Bool.and_eq_true] at f
  unfold Dens at h ⊢
  obtain⟨A1,A2,v,vs',ea,q,d,r⟩:=h
  obtain⟨rfl,rfl⟩:=List.append_eq_nil_iff.mp ea.symm
  cases t with
  | sc w=>exact⟨[],[],v,vs',rfl,q,zad.mpr (zad.mp d),zdo r f.2⟩
  | scr _=>cases f.1
  | lst _=>cases f.1
  | tup _=>cases f.1
theorem zhn {ts:List T} {vs:List V} {p:Addr} (dm:Dom S H) (hp:H p=none) (d:Dens K H S ts .al [] vs) (hf:md=.sp∨(md=.fu∧zeZ ts=true)):∃ A,Got K H S (upd H p (.lst vs)) S A (.ref p) md (.lst ts):=by
 rcases hf with rfl | ⟨rfl,hf⟩
 ·exact⟨_,Got.newSp dm hp d⟩
 ·exact⟨_,Got.newFu ⟨.refl dm,List.nodup_nil,fun _ z=>(nomatch z),zdo d hf⟩ hp⟩
noncomputable def ze3 (md:Md) (ts:List T):Option T:=match md with
 | .sp=>some (.lst ts)
 | .fu=>if zeZ ts=true then some (.lst ts) else none
 | .al=>none
theorem zf5 {ts:List T} {t:T} (h:ze3 md ts=some t):t=.lst ts∧(md=.sp∨(md=.fu∧zeZ ts=true)):=by
 unfold ze3 at h
 split at h
 ·cases h;exact⟨rfl,.inl rfl⟩
 ·split at h
  ·cases h;exact⟨rfl,.inr ⟨rfl,by assumption⟩⟩
  ·cases h
 ·cases h
theorem zi2 {ts:List T} {vs:List V} {Q:VK} (dm:Dom S H) (d:Dens K H S ts .al [] vs) (h:endT K H S md Q (ze3 md ts)):∀ p,H p=none→Q (.ref p) (upd H p (.lst vs)):=fun p hp=>by
 cases e:ze3 md ts with
 | none=>rw [e] at h;exact (show False from h).elim
 | some t =>
  rw [e] at h
  obtain⟨rfl,hf⟩:=zf5 e
  obtain⟨A,g⟩:=zhn dm hp d hf
  exact h _ _ S A g
noncomputable def repT (k:Nat) (xs:List T):List T:=(List.replicate k xs).flatten
theorem zfB {xs:List T} {vs:List V} (d:Dens K H S xs .al [] vs):∀ k,Dens K H S (repT k xs) .al [] (List.replicate k vs).flatten
 | 0=>Dens.nil
 | k + 1=>by
  unfold repT
  rw [List.replicate_succ,List.replicate_succ,List.flatten_cons,List.flatten_cons]
  exact d.append (A1:=[]) (A2:=[]) (zfB d k)
noncomputable def oRep (md:Md):T→T→Option T
 | .lst xs,.sc (.int k)=>if -(2 ^ 63)≤k∧k < 2 ^ 63∧xs.length * k.toNat≤sizeLine then ze3 md (repT k.toNat xs) else none
 | _,_=>none
theorem zlA:OpR X (binaryOp .Mult) (rT X.K md (oRep md)):=OpR.imp zj2 fun x y H Q h=>by
 obtain⟨S,t,u,dm,d1,d2,h⟩:=h
 unfold oRep at h
 split at h
 ·rename_i xs k
  split at h
  ·rename_i hk
   obtain⟨_,a,vs,rfl,hS,h1,h2⟩:=zag.mp d1
   obtain⟨_,rfl⟩:=zad.mp d2
   exact⟨a,k,vs,rfl,rfl,h1,hk.1,hk.2.1,by rw [h2.length];exact hk.2.2,zi2 dm (zfB h2 _) h⟩
  ·exact (show False from h).elim
 ·exact (show False from h).elim
theorem zbW {t:T} {xs:List V} (d:Dens K H S [t] .al [] xs):∃ v,xs=[v]∧Den K H S t .al [] v:=by
 unfold Dens at d
 obtain⟨A1,A2,v,vs,ea,rfl,d1,d2⟩:=d
 unfold Dens at d2
 obtain⟨rfl,rfl⟩:=List.append_eq_nil_iff.mp ea.symm
 exact⟨v,by rw [d2.2],d1⟩
theorem zfA {t u:T} {xs:List V} (d:Dens K H S [t,u] .al [] xs):∃ v w,xs=[v,w]∧Den K H S t .al [] v∧Den K H S u .al [] w:=by
 unfold Dens at d
 obtain⟨A1,A2,v,vs,ea,rfl,d1,d2⟩:=d
 obtain⟨rfl,rfl⟩:=List.append_eq_nil_iff.mp ea.symm
 obtain⟨w,rfl,d3⟩:=zbW d2
 exact⟨v,w,rfl,d1,d3⟩
noncomputable def cLen:List T→Option T
 | [.lst ts]=>some (.sc (.int ts.length))
 | [.tup ts]=>some (.sc (.int ts.length))
 | [.scr ns]=>some (.sc (.int ns.length))
 | _=>none
theorem zcz:zdu X (.builtin "len") (rCT X.K md cLen):=zdu.imp zet fun xs H Q h=>by
 obtain⟨S,ts,dm,d,h⟩:=h
 unfold cLen at h
 split at h
 ·rename_i us
  obtain⟨v,rfl,d1⟩:=zbW d
  obtain⟨_,a,vs,rfl,hS,h1,h2⟩:=zag.mp d1
  exact⟨a,vs,rfl,.inl (.of h1),by rw [h2.length];exact h _ H S [] (Got.sc dm _)⟩
 ·rename_i us
  obtain⟨v,rfl,d1⟩:=zbW d
  obtain⟨_,a,vs,rfl,h1,h2⟩:=zal.mp d1
  exact⟨a,vs,rfl,.inr h1,by rw [h2.length];exact h _ H S [] (Got.sc dm _)⟩
 ·rename_i ns
  obtain⟨v,rfl,d1⟩:=zbW d
  obtain⟨_,a,rfl,h1⟩:=ze0.mp d1
  exact⟨a,_,rfl,.inl h1.sq,by rw [List.length_map];exact h _ H S [] (Got.sc dm _)⟩
 ·exact (show False from h).elim
noncomputable def zcB:List T→Option (List Int)
 | []=>some []
 | t :: ts=>(asI t).bind fun i=>(zcB ts).map (i :: ·)
theorem zdq:∀ {ts:List T} {vs:List V} {ns:List Int},Dens K H S ts .al [] vs→zcB ts=some ns→vs=ns.map V.int
 | [],vs,ns,d,h=>by unfold zcB at h;cases h;unfold Dens at d;rw [d.2];rfl
 | t :: ts,vs,ns,d,h=>by
  unfold zcB at h
  unfold Dens at d
  obtain⟨A1,A2,v,vs',ea,rfl,d1,d2⟩:=d
  obtain⟨rfl,rfl⟩:=List.append_eq_nil_iff.mp ea.symm
  cases e:asI t with
  | none=>rw [e] at h;cases h
  | some i =>
   rw [e] at h
   cases e2:zcB ts with
   | none=>rw [e2] at h;cases h
   | some ms =>
    rw [e2] at h
    have h':some (i :: ms)=some ns:=h
    cases h'
    obtain rfl:=zhP e
    obtain⟨_,rfl⟩:=zad.mp d1
    rw [zdq d2 e2]
    rfl
theorem zdL:∀ (ns:List Int) (m:Md),Dens K H S (zgK ns) m [] (ns.map V.int)
 | [],m=>Dens.nil
 | n :: ns,m=>Dens.cons (A1:=[]) (A2:=[]) (zcy _) (zdL ns m)
theorem zeo (I:Inv X pins σ H s) {a:Addr} {vs:List V} {ns:List Int} (h:H a=some (.lst vs)) (e:vs=ns.map V.int):∃ its:List Value,PyProof.Rows.IntsAre its ns∧s.heap.IsList a its.toArray∧ns.length≤sizeLine∧its.length=ns.length:=by
 subst e
 obtain⟨its,r,pl,hz⟩:=I.list (.of h)
 have:=r.length
 rw [List.length_map] at this hz
 exact⟨its,zf0 r,pl.isList,hz,this.symm⟩
noncomputable def insI (x:Int):List Int→List Int
 | []=>[x]
 | y :: ys=>if x≤y then x :: y :: ys else y :: insI x ys
noncomputable def zfS:List Int→List Int
 | []=>[]
 | x :: xs=>insI x (zfS xs)
theorem zdk (x:Int):∀ ys:List Int,(insI x ys).Perm (x :: ys)
 | []=>.refl _
 | y :: ys=>by
  unfold insI
  split
  ·exact .refl _
  ·exact ((zdk x ys).cons y).trans (List.Perm.swap x y ys)
theorem zcH:∀ xs:List Int,(zfS xs).Perm xs
 | []=>.refl _
 | x :: xs=>(zdk x _).trans ((zcH xs).cons x)
theorem zdj (x:Int):∀ {ys:List Int},ys.Pairwise (·≤·)→(insI x ys).Pairwise (·≤·)
 | [],_=>by unfold insI;simp
 | y :: ys,h=>by
  unfold insI
  have h1:=List.pairwise_cons.mp h
  split
  ·rename_i hxy
   exact List.pairwise_cons.mpr ⟨fun z hz=>by rcases List.mem_cons.mp hz with rfl | hz;exact hxy;exact Int.le_trans hxy (h1.1 z hz),h⟩
  ·rename_i hxy
   refine List.pairwise_cons.mpr ⟨fun z hz=>?_,zdj x h1.2⟩
   rcases List.mem_cons.mp ((zdk x ys).mem_iff.mp hz) with rfl | hz
   ·lia
   ·exact h1.1 z hz
theorem zcP:∀ xs:List Int,(zfS xs).Pairwise (·≤·)
 | []=>List.Pairwise.nil
 | x :: xs=>zdj x (zcP xs)
theorem zeI {a b:List Int} (p:a.Perm b) (h1:a.Pairwise (·≤·)) (h2:b.Pairwise (·≤·)):a=b:=
 p.eq_of_pairwise (fun x y _ _ h g=>Int.le_antisymm h g) h1 h2
noncomputable def zd9:List T→Option T
 | [.lst ts]=>(zcB ts).map fun ns=>.lst (zgK (zfS ns))
 | _=>none
theorem zfF:zdu X (.builtin "sorted") (rCT X.K .fu zd9):=by
 intro pins s σ H xs us Q I r h
 obtain⟨S,ts,dm,d,h⟩:=h
 unfold zd9 at h
 split at h
 ·rename_i ts
  obtain⟨v,rfl,d1⟩:=zbW d
  obtain⟨_,a,vs,rfl,hS,h1,h2⟩:=zag.mp d1
  obtain⟨u,rfl,rx⟩:=zig r
  cases rx
  cases e:zcB ts with
  | none=>rw [e] at h;exact (show False from h).elim
  | some ns =>
   rw [e] at h
   obtain⟨its,i1,i2,hz,hl⟩:=zeo I h1 (zdq h2 e)
   refine Srt.sorted_any i2 i1 (by lia) fun out ns' a1 a2 a3=>?_
   have en:ns'=zfS ns:=zeI (a2.trans (zcH ns).symm) a3 (zcP ns)
   subst en
   obtain⟨e',he⟩:=PyProof.Rows.sortedAll_at s.heap its out
   refine ⟨.ref (s.heap.objs.size + 1),_,I.laid (t':=s.toks) (o:=.lst ((zfS ns).map V.int)) (fun b ob q=>PyProof.Rows.sortedAll_old q) (Nat.le_succ _) ⟨?_,_,e',zc7 a1,?_⟩,rfl,h _ _ S _ (Got.newFu ⟨.refl dm,List.nodup_nil,fun _ z=>(nomatch z),zdL _ _⟩ (I.hok.fresh (Nat.le_succ _)))⟩
   ·rw [List.length_map,(zcH ns).length_eq];exact hz
   ·rw [he]
 ·exact (show False from h).elim
end
end TL
namespace TL
open PySem PySem.Spec L2
section
variable {X:Cx} {z:Z} {pins:List (Addr×Obj)} {σ:St} {H:Hp} {s:Shared} {S:Addr→Prop} {md md1 md2:Md} {K:PySem.W.Frag} {F F1 F2:VEnv→Res T} {Fs:VEnv→Res (List T)} {e a b:Expr} {pos p2:Pos}
end
end TL
namespace TL
open PySem PySem.Spec L2
open PyProof.Rows hiding St
section
variable {X:Cx} {z:Z} {pins:List (Addr×Obj)} {σ:St} {H:Hp} {s:Shared} {S:Addr→Prop} {md md1 md2 md3:Md} {K:PySem.W.Frag} {F F1 F2 F3:VEnv→Res T} {Fs:VEnv→Res (List T)} {e a b c:Expr} {pos p p2 p3:Pos}
def zg7 (X:Cx) (e:Expr) (t:St→Hp→(Int→Int→Hp→Prop)→Prop):Prop:=
 ∀ (pins:List (Addr×Obj)) (s:Shared) (σ:St) (H:Hp) (Q:Int→Int→Hp→Prop),Inv X pins σ H s→t σ H Q →
  wpAny (model X.prog X.w) X.A (eval e X.env) (fun v s1=>∃ (r:Addr) (lo hi:Int) (t u w:Tok) (H1:Hp),v=.ref r∧IsRange s1.heap r lo hi 1 t u w∧Inv X pins σ H1 s1∧Q lo hi H1) X.xe s
noncomputable def tR1 (ta:TA):St→Hp→(Int→Int→Hp→Prop)→Prop:=fun σ H Q=>ta σ H fun vs H1=>∃ j:Int,vs=[.int j]∧Q 0 j H1
noncomputable def tR2 (ta:TA):St→Hp→(Int→Int→Hp→Prop)→Prop:=fun σ H Q=>ta σ H fun vs H1=>∃ i j:Int,vs=[.int i,.int j]∧Q i j H1
theorem pr_1 {ta:TA} (hg:Gl X "range") (hm:X.mg "range" = none) (ha:PA X [a] ta) (hs:starEach [a] X.env=[(false,eval a X.env)]:=by rfl):zg7 X (.Call (.Name "range" p) [a] [] pos) (tR1 ta):=by
 intro pins s σ H Q I h
 refine PyProof.Rows.Call_ (zcu I hg hm boot_range (PyProof.Rows.callWith_type1 (thn (ha pos pins s σ H _ I h) fun us s1 ⟨vs,H1,I1,r1,q1⟩=>?_) hs rfl))
 obtain⟨j,e,q⟩:=q1
 subst e
 cases r1 with
 | cons r rr =>
  cases rr
  obtain⟨t,rfl⟩:=r
  exact call_range_1 ⟨_,0,j,_,_,_,H1,rfl,IsRange.new ..,I1.kept fun b o e=>Heap.get?_push_of_some _ e,q⟩
theorem pr_2 {ta:TA} (hg:Gl X "range") (hm:X.mg "range" = none) (ha:PA X [a,b] ta) (hs:starEach [a,b] X.env=[(false,eval a X.env),(false,eval b X.env)]:=by rfl) (hs2:starEach [b] X.env=[(false,eval b X.env)]:=by rfl) :
  zg7 X (.Call (.Name "range" p) [a,b] [] pos) (tR2 ta):=by
 intro pins s σ H Q I h
 refine PyProof.Rows.Call_ (zcu I hg hm boot_range (PyProof.Rows.callWith_type1 (thn (ha pos pins s σ H _ I h) fun us s1 ⟨vs,H1,I1,r1,q1⟩=>?_) (by rw [hs,hs2]) (by rw [hs2];rfl)))
 obtain⟨i,j,e,q⟩:=q1
 subst e
 cases r1 with
 | cons r rr =>
  cases rr with
  | cons r' rr =>
   cases rr
   obtain⟨t,rfl⟩:=r
   obtain⟨t',rfl⟩:=r'
   exact call_range_2 ⟨_,i,j,_,_,_,H1,rfl,IsRange.new ..,I1.kept fun b o e=>Heap.get?_push_of_some _ e,q⟩
def tLR (tr:St→Hp→(Int→Int→Hp→Prop)→Prop):TE:=fun σ H Q=>tr σ H fun lo hi H1=>(-(2 ^ 62)≤lo∧lo < 2 ^ 62∧-(2 ^ 62)≤hi∧hi < 2 ^ 62)∧(hi - lo).toNat≤1000000 ∧
 ∀ p,H1 p=none→Q (.ref p) (upd H1 p (.lst ((List.range (hi - lo).toNat).map fun (k:Nat)=>.int (lo + (k:Int)))))
theorem zfU {lo:Int}:∀ {n:Nat} {acc:Array Value},ItemsOf (fun i v=>∃ t,v=Value.int (lo + (i:Int) * 1) t) acc n→Vals ((List.range n).map fun (k:Nat)=>V.int (lo + (k:Int))) acc.toList:=by
 intro n acc h
 obtain⟨h1,h2⟩:=h
 have gen:∀ (l:List Value) (k:Nat),(∀ j v,l[j]? = some v→∃ t,v=Value.int (lo + ((k + j:Nat):Int)) t)→Vals ((List.range' k l.length).map fun (k:Nat)=>V.int (lo + (k:Int))) l:=by
  intro l
  induction l with
  | nil=>intro k _;exact .nil
  | cons v l ih =>
   intro k hk
   rw [List.length_cons,List.range'_succ,List.map_cons]
   obtain⟨t,ht⟩:=hk 0 v rfl
   refine .cons ⟨t,by simpa using ht⟩ (ih (k + 1) fun j w hj=>?_)
   obtain⟨t,ht⟩:=hk (j + 1) w (by simpa using hj)
   exact⟨t,by rw [ht,show k + (j + 1)=k + 1 + j by lia]⟩
 have:=gen acc.toList 0 fun j v hj=>by
  obtain⟨t,ht⟩:=h2 j v (by simpa using hj)
  exact⟨t,by rw [ht];simp⟩
 rw [show acc.toList.length=n by simpa using h1,← List.range_eq_range'] at this
 exact this
theorem zcR {tr:St→Hp→(Int→Int→Hp→Prop)→Prop} (hc:X.calm=true) (hg:Gl X "list") (hm:X.mg "list" = none) (hr:zg7 X e tr) (hs:starEach [e] X.env=[(false,eval e X.env)]:=by rfl):PE X (.Call (.Name "list" p) [e] [] pos) (tLR tr):=by
 intro pins s σ H Q I h
 refine Call_ (zcu I hg hm boot_list (callWith_type1 ?_ hs rfl))
 rw [hs]
 show wpAny _ _ (spliced ((false,eval e X.env) :: backTo pos [])) _ _ s
 refine Calls.spliced_cons (thn (hr pins s σ H _ I h) fun v s1 ⟨r,lo,hi,t,u,w,H1,e1,hr,I1,⟨b1,b2,b3,b4⟩,hn,q⟩=>Calls.spliced_nil ?_)
 subst e1
 have hsz:Builtin.Range.rangeSize lo hi 1=((hi - lo).toNat:Nat):=by rw [rangeSize_one];split <;> lia
 refine call_list_range (I1.ok.hd hc) hr (small_one b1 b2 b3 b4) hsz (by lia) fun h' tk acc' c' hk he hacc=>?_
 refine ⟨.ref _,_,I1.laid (t':=tk) (o:=.lst ((List.range (hi - lo).toNat).map fun (k:Nat)=>.int (lo + (k:Int)))) hk (Nat.le_refl _) ⟨?_,acc'.toList,c',zfU hacc,by simpa using he⟩,rfl,q _ (I1.hok.fresh (Nat.le_refl _))⟩
 rw [List.length_map,List.length_range]
 exact Nat.le_trans hn (by decide)
end
end TL
namespace TL
open PySem PySem.Spec L2
open PyProof.Rows hiding St
section
variable {X:Cx} {z:Z} {pins:List (Addr×Obj)} {σ:St} {H:Hp} {s:Shared} {S:Addr→Prop} {md md1 md2 md3:Md} {K:PySem.W.Frag} {F F1 F2 F3:VEnv→Res T} {Fs:VEnv→Res (List T)} {e a b c:Expr} {pos p p2 p3:Pos}
noncomputable def eLR (g:List T→Option (List T)) (Fs:VEnv→Res (List T)):VEnv→Res T:=fun ρ=>(Fs ρ).bind fun ts=>.of ((g ts).bind fun us=>if us.length≤1000000 then some (.lst us) else none)
theorem zeN (lo:Int) (n:Nat):(rngI lo n).length=n:=by unfold rngI;rw [List.length_map,List.length_range]
theorem zgT {lo:Int} {n:Nat} {m:Md}:Dens K H S (rngI lo n) m [] ((List.range n).map fun (k:Nat)=>.int (lo + (k:Int))):=by
 unfold rngI
 generalize List.range n=l
 induction l with
 | nil=>exact Dens.nil
 | cons k l ih=>exact Dens.cons (A1:=[]) (A2:=[]) (zcy _) ih
theorem zer {lo hi:Int} {n:Nat} {Q:VK} (dm:Dom S H) (hn:n=(hi - lo).toNat) (h:endT K H S .fu Q (if (rngI lo n).length≤1000000 then some (.lst (rngI lo n)) else none)) :
  (hi - lo).toNat≤1000000∧∀ p,H p=none→Q (.ref p) (upd H p (.lst ((List.range (hi - lo).toNat).map fun (k:Nat)=>.int (lo + (k:Int))))):=by
 subst hn
 rw [zeN] at h
 split at h
 ·exact⟨by assumption,fun p hp=>h _ _ S _ (Got.newFu ⟨.refl dm,List.nodup_nil,fun _ q=>(nomatch q),zgT⟩ hp)⟩
 ·exact (show False from h).elim
theorem zd6 {q:Pos} (hc:X.calm=true) (hgl:Gl X "list") (hml:X.mg "list" = none) (hg:Gl X "range") (hm:X.mg "range" = none) (ha:JA X z md Fs [a]) (hs:starEach [a] X.env=[(false,eval a X.env)]:=by rfl)
  (hs2:starEach [.Call (.Name "range" p) [a] [] p2] X.env=[(false,eval (.Call (.Name "range" p) [a] [] p2) X.env)]:=by rfl):JE X z .fu (eLR rng1 Fs) (.Call (.Name "list" q) [.Call (.Name "range" p) [a] [] p2] [] pos):=
 PE.imp (zcR hc hgl hml (pr_1 hg hm (JA.al ha) hs) hs2) fun σ H Q h=>zbT h fun S ts vs H' S' A _ gg q=>by
  obtain rfl:=gg.den.alA
  have q':=zdm (z:=z) (endE.grow gg.g q)
  unfold rng1 at q'
  split at q'
  ·rename_i j
   split at q'
   ·rename_i hj
    obtain⟨v,rfl,d1⟩:=zbW gg.den
    obtain⟨_,rfl⟩:=zad.mp d1
    exact⟨j,rfl,⟨by decide,by decide,hj.1,hj.2⟩,zer gg.g.dom (by simp) q'⟩
   ·exact (show False from q').elim
  ·exact (show False from q').elim
theorem zd5 {q:Pos} (hc:X.calm=true) (hgl:Gl X "list") (hml:X.mg "list" = none) (hg:Gl X "range") (hm:X.mg "range" = none) (ha:JA X z md Fs [a,b]) (hs:starEach [a,b] X.env=[(false,eval a X.env),(false,eval b X.env)]:=by rfl) (hs3:starEach [b] X.env=[(false,eval b X.env)]:=by rfl)
  (hs2:starEach [.Call (.Name "range" p) [a,b] [] p2] X.env=[(false,eval (.Call (.Name "range" p) [a,b] [] p2) X.env)]:=by rfl):JE X z .fu (eLR rng2 Fs) (.Call (.Name "list" q) [.Call (.Name "range" p) [a,b] [] p2] [] pos):=
 PE.imp (zcR hc hgl hml (pr_2 hg hm (JA.al ha) hs hs3) hs2) fun σ H Q h=>zbT h fun S ts vs H' S' A _ gg q=>by
  obtain rfl:=gg.den.alA
  have q':=zdm (z:=z) (endE.grow gg.g q)
  unfold rng2 at q'
  split at q'
  ·rename_i i j
   split at q'
   ·rename_i hj
    obtain⟨v,w,rfl,d1,d2⟩:=zfA gg.den
    obtain⟨_,rfl⟩:=zad.mp d1
    obtain⟨_,rfl⟩:=zad.mp d2
    exact⟨i,j,rfl,hj,zer gg.g.dom rfl q'⟩
   ·exact (show False from q').elim
  ·exact (show False from q').elim
end
end TL
namespace TL
open PySem PySem.Spec L2
open PyProof.Rows hiding St
section
variable {K:PySem.W.Frag} {z:Z} {S S':Addr→Prop} {As:Nat→List Addr} {ρ:SEnv} {σ:St} {H H':Hp} {M:List Bool} {A A':List Addr} {v:V} {vs vs':List V} {md m m':Md} {t t':T} {ts:List T} {i:Nat} {a:Addr}
theorem zfi {o:HO} (ha:¬ S a) (h:H a=some (.lst vs)):Step K S H S (upd H a o):=by
 have f:=Frm.upd (K:=K) (o:=o) h
 exact⟨fun _ h=>h,⟨fun b xs hb e=>f.nodes b xs (fun q=>ha (q ▸ hb)) e,f.tups,f.scrs⟩⟩
theorem zi6 {o:HO} (h:H a=some (.lst vs)) (ha:¬ S a) (hA:a∉A) (d:Den K H S t m A v):Den K (upd H a o) S t m A v:=
 Den.frm (Frm.upd h) (fun b hb q=>ha (q ▸ hb)) (fun _ h=>h) (fun b hb q=>hA (q ▸ hb)) d
theorem zc1 {ws:List V} {o:HO} (h:H a=some (.lst vs)) (ha:¬ S a) (hA:a∉A) (d:Dens K H S ts m A ws):Dens K (upd H a o) S ts m A ws:=
 Dens.frm (Frm.upd h) (fun b hb q=>ha (q ▸ hb)) (fun _ h=>h) (fun b hb q=>hA (q ▸ hb)) d
theorem Ok.wr (o:Ok K z S As ρ σ H) (hi:i < ρ.length) (ha:a∈As i) (h:H a=some (.lst vs)) (hv:σ[i]? = some (some v)) (new:Den K (upd H a (.lst vs')) S t' m' A' v) (nd:A'.Nodup)
  (sub:∀ b∈A',b∈As i∨((∀ j,b∉As j)∧¬ S b∧z.H₀ b=none∧H b≠none)):Ok K z S (fun j=>if j=i then A' else As j) (ρ.set i (some (m',t'))) σ (upd H a (.lst vs')):=by
 obtain⟨a1,a2,a3⟩:=o.ow i a ha
 have big:∀ b,H b≠none→upd H a (.lst vs') b≠none:=fun b hb q=>by
  by_cases e:b=a
  ·subst e;rw [zaW] at q;cases q
  ·rw [zaq e] at q;exact hb q
 have inew:∀ b∈A',¬ S b∧z.H₀ b=none∧H b≠none∧∀ j,j≠i→b∉As j:=fun b hb=>by
  rcases sub b hb with q | ⟨q1,q2,q3,q4⟩
  ·obtain⟨x1,x2,x3⟩:=o.ow i b q
   exact⟨x1,x2,x3,fun j hj w=>o.dj j i hj b w q⟩
  ·exact⟨q2,q3,q4,fun j _=>q1 j⟩
 refine ⟨fun b ob e=>?_,fun b hb=>big b (o.dom b hb),by simp [o.ln],o.s0,o.s1,fun j=>?_,fun j b hb=>?_,fun j k hjk b hb=>?_,fun j m u e=>?_⟩
 ·have:b≠a:=fun q=>by rw [q,a2] at e;cases e
  rw [zaq this];exact o.same b ob e
 ·by_cases hj:j=i
  ·rw [if_pos hj];exact nd
  ·rw [if_neg hj];exact o.nd j
 ·by_cases hj:j=i
  ·rw [if_pos hj] at hb
   obtain⟨x1,x2,x3,_⟩:=inew b hb
   exact⟨x1,x2,big b x3⟩
  ·rw [if_neg hj] at hb
   obtain⟨x1,x2,x3⟩:=o.ow j b hb
   exact⟨x1,x2,big b x3⟩
 ·by_cases hj:j=i
  ·rw [if_pos hj] at hb
   rw [if_neg (fun q=>hjk (hj.trans q.symm))]
   exact (inew b hb).2.2.2 k fun q=>hjk (hj.trans q.symm)
  ·rw [if_neg hj] at hb
   by_cases hk:k=i
   ·rw [if_pos hk];exact fun q=>(inew b q).2.2.2 j hj hb
   ·rw [if_neg hk];exact o.dj j k hjk b hb
 ·by_cases hj:j=i
  ·subst hj
   rw [List.getElem?_set_self hi] at e
   cases e
   exact⟨v,hv,by rw [if_pos rfl];exact new⟩
  ·rw [List.getElem?_set_ne (Ne.symm hj)] at e
   obtain⟨w,h1,h2⟩:=o.sl j m u e
   refine ⟨w,h1,?_⟩
   rw [if_neg hj]
   exact zi6 h a1 (fun q=>o.dj i j (Ne.symm hj) a ha q) h2
theorem Ok.toSp (o:Ok K z S As ρ σ H) (e:ρ[i]? = some (some (.fu,.lst ts))):∃ a vs,σ[i]? = some (some (.ref a))∧a∈As i∧H a=some (.lst vs) ∧
  Ok K z (fun b=>S b∨(b∈As i∧b≠a)) (fun j=>if j=i then [a] else As j) (ρ.set i (some (.sp,.lst ts))) σ H∧Step K S H (fun b=>S b∨(b∈As i∧b≠a)) H:=by
 obtain⟨v,hv,d⟩:=o.sl i _ _ e
 obtain⟨a,vs,A',rfl,ea,h1,h2⟩:=zbk.mp d
 have hil:i < ρ.length:=zcx e
 have ha:a∈As i:=by rw [ea];exact List.mem_cons_self ..
 refine ⟨a,vs,hv,ha,h1,⟨o.same,fun b hb=>?_,by simp [o.ln],fun b hb=>.inl (o.s0 b hb),fun b hb=>?_,fun j=>?_,fun j b hb=>?_,fun j k hjk b hb=>?_,fun j m u e=>?_⟩,⟨fun b hb=>.inl hb,⟨fun b xs _ q=>q,fun b xs q=>q,fun b xs q=>q⟩⟩⟩
 ·rcases hb with hb | ⟨hb,_⟩
  ·exact o.dom b hb
  ·exact (o.ow i b hb).2.2
 ·rcases hb with hb | ⟨hb,_⟩
  ·exact o.s1 b hb
  ·exact .inr (o.ow i b hb).2.1
 ·by_cases hj:j=i
  ·rw [if_pos hj];simp
  ·rw [if_neg hj];exact o.nd j
 ·by_cases hj:j=i
  ·rw [if_pos hj] at hb
   rw [List.mem_singleton.mp hb]
   obtain⟨x1,x2,x3⟩:=o.ow i a ha
   exact⟨fun q=>q.elim x1 fun q=>q.2 rfl,x2,x3⟩
  ·rw [if_neg hj] at hb
   obtain⟨x1,x2,x3⟩:=o.ow j b hb
   exact⟨fun q=>q.elim x1 fun q=>o.dj j i hj b hb q.1,x2,x3⟩
 ·by_cases hj:j=i
  ·rw [if_pos hj] at hb
   rw [if_neg (fun q=>hjk (hj.trans q.symm)),List.mem_singleton.mp hb]
   exact o.dj i k (fun q=>hjk (hj.trans q)) a ha
  ·rw [if_neg hj] at hb
   by_cases hk:k=i
   ·rw [if_pos hk];intro q;rw [List.mem_singleton.mp q] at hb;exact o.dj j i hj a hb ha
   ·rw [if_neg hk];exact o.dj j k hjk b hb
 ·by_cases hj:j=i
  ·subst hj
   rw [List.getElem?_set_self hil] at e
   cases e
   refine ⟨_,hv,?_⟩
   rw [if_pos rfl]
   refine zby.mpr ⟨a,vs,rfl,rfl,h1,h2.out (fun b hb=>.inl hb) fun b hb=>.inr ⟨by rw [ea];exact List.mem_cons_of_mem _ hb,fun q=>?_⟩⟩
   have:=o.nd j
   rw [ea] at this
   exact (List.nodup_cons.mp this).1 (q ▸ hb)
  ·rw [List.getElem?_set_ne (Ne.symm hj)] at e
   obtain⟨w,g1,g2⟩:=o.sl j m u e
   refine ⟨w,g1,?_⟩
   rw [if_neg hj]
   exact g2.monoS fun b hb=>.inl hb
theorem zim {α:Type} {l:List α} {i:Nat} {x:α} (h:i < l.length):(l.set i x)[i]? = some x:=List.getElem?_set_self h
end
section
variable {X:Cx} {z:Z} {md md1:Md} {F F1 F2 F3:VEnv→Res T} {e a b:Expr} {pos p1 p2 p3:Pos} {K:PySem.W.Frag} {i:Nat} {x:Str}
noncomputable def zfN (i:Nat) (ρ:SEnv) (k:Md→List T→SRes):SRes:=match ρ[i]? with
 | some (some (m,.lst ts))=>k m ts
 | _=>.bad
theorem zgd {S:Addr→Prop} {H:Hp} {D:Ends} {ρ:SEnv} {k:Md→List T→SRes} (h:endS K z S H D (zfN i ρ k)):∃ m ts,ρ[i]? = some (some (m,.lst ts))∧endS K z S H D (k m ts):=by
 unfold zfN at h
 split at h
 ·rename_i m ts e
  exact⟨m,ts,e,h⟩
 ·exact (show False from h).elim
theorem zcT:∀ {M:List Bool} {ρ:SEnv} {i:Nat},M[i]?≠some true→(zaB M ρ)[i]? = ρ[i]?
 | [],ρ,i,h=>by unfold zaB;rfl
 | b :: bs,[],i,h=>by unfold zaB;rfl
 | b :: bs,s :: ρ,0,h=>by
  unfold zaB
  have:¬ b=true:=fun q=>h (by rw [q];rfl)
  rw [if_neg this]
  rfl
 | b :: bs,s :: ρ,i + 1,h=>by
  unfold zaB
  show (zaB bs ρ)[i]? = ρ[i]?
  exact zcT (by simpa using h)
theorem zgm {S:Addr→Prop} {As:Nat→List Addr} {ρ:SEnv} {σ:St} {H:Hp} {m:Md} {ts:List T} (o:Ok K z S As ρ σ H) (e:ρ[i]? = some (some (m,.lst ts))):∃ a vs,σ[i]? = some (some (.ref a))∧H a=some (.lst vs)∧vs.length=ts.length:=by
 obtain⟨v,hv,d⟩:=o.sl i _ _ e
 cases m with
 | al=>obtain⟨_,a,vs,rfl,_,h1,h2⟩:=zag.mp d;exact⟨a,vs,hv,h1,h2.length⟩
 | sp=>obtain⟨a,vs,rfl,_,h1,h2⟩:=zby.mp d;exact⟨a,vs,hv,h1,h2.length⟩
 | fu=>obtain⟨a,vs,A',rfl,_,h1,h2⟩:=zbk.mp d;exact⟨a,vs,hv,h1,h2.length⟩
theorem zik {M:List Bool} {G:Md→List T→T→SEnv→SRes} {D:Ends} {σ:St} {H:Hp} {r:V→List V→Hp→VK→Prop} (h:st K z (fun ρ=>zfN i ρ fun m ts=>(F (view M ρ)).sthen fun t=>G m ts t ρ) D σ H)
  (k:∀ S As ρ m ts t y H' S' A a,Ok K z S As ρ σ H→ρ[i]? = some (some (m,.lst ts))→Got K H (SB S As M) H' S' A y md t→endS K z S H D (G m ts t ρ)→σ[i]? = some (some (.ref a))→r (.ref a) [y] H' (fun _ H2=>D.nx σ H2)) :
  zjE (tBM K "list" r (tVar i) (zih (tr K z md F) tNil)) D σ H:=by
 obtain⟨S,As,ρ,o,h⟩:=h
 obtain⟨m,ts,e1,h⟩:=zgd h
 obtain⟨a,vs,h1,h2,h3⟩:=zgm o e1
 refine ⟨_,h1,.inl ⟨rfl,vs,.of h2⟩,_,_,o.view M,?_⟩
 cases e:F (view M ρ) with
 | exc c=>rw [e] at h;exact h
 | bad=>rw [e] at h;exact h
 | ok t=>rw [e] at h;exact fun y H' S' A g=>k S As ρ m ts t y H' S' A a o e1 g h h1
end
end TL
namespace TL
open PySem PySem.Spec L2
open PyProof.Rows hiding St
section
variable {X:Cx} {z:Z} {md md1 md2:Md} {F F1 F2 F3:VEnv→Res T} {e a b c:Expr} {pos p1 p2 p3 p4:Pos} {K:PySem.W.Frag} {i:Nat} {x:Str}
noncomputable def zi1 (i:Nat) (md:Md) (M:List Bool) (m:Md) (ts:List T) (t:T) (ρ:SEnv):SRes:=match t with
 | .lst us =>
  if ts.length + us.length≤sizeLine then
   if m=.fu∧(md=.fu∨zeZ us=true) then .nx (ρ.set i (some (.fu,.lst (ts ++ us))))
   else if m=.al∨M[i]? = some true then .bad
   else .nx ((zaB M ρ).set i (some (.sp,.lst (ts ++ us))))
  else .bad
 | _=>.bad
noncomputable def sExt (i:Nat) (md:Md) (M:List Bool) (F:VEnv→Res T):SEnv→SRes:=fun ρ=>zfN i ρ fun m ts=>(F (view M ρ)).sthen fun t=>zi1 i md M m ts t ρ
theorem zia {S:Addr→Prop} {As:Nat→List Addr} {ρ:SEnv} {σ:St} {H:Hp} {ts us:List T} {ys:List V} {D:Ends} (o:Ok K z S As ρ σ H) (e:ρ[i]? = some (some (.sp,.lst ts))) (hd:Dens K H S us .al [] ys)
  (h:endS K z S H D (.nx (ρ.set i (some (.sp,.lst (ts ++ us)))))):∃ a vs,σ[i]? = some (some (.ref a))∧H a=some (.lst vs)∧vs.length=ts.length∧D.nx σ (upd H a (.lst (vs ++ ys))):=by
 obtain⟨v,hv,d⟩:=o.sl i _ _ e
 obtain⟨a,vs,rfl,ea,h1,h2⟩:=zby.mp d
 have ha:a∈As i:=by rw [ea];exact List.mem_singleton.mpr rfl
 have hS:=(o.ow i a ha).1
 refine ⟨a,vs,hv,h1,h2.length,h S _ σ _ (o.wr (zcx e) ha h1 hv (vs':=vs ++ ys) (A':=[a]) (zby.mpr ⟨a,_,rfl,rfl,zaW,?_⟩) (by simp) fun b hb=>.inl (by rw [List.mem_singleton.mp hb];exact ha)) (zfi hS h1)⟩
 exact (zc1 (A:=[]) h1 hS (by simp) h2).append (A1:=[]) (A2:=[]) (zc1 (A:=[]) h1 hS (by simp) hd)
theorem zhF {M:List Bool} {S S':Addr→Prop} {As:Nat→List Addr} {ρ:SEnv} {σ:St} {H H':Hp} {m:Md} {ts:List T} {t:T} {y:V} {A:List Addr} {D:Ends} (o:Ok K z S As ρ σ H) (e:ρ[i]? = some (some (m,.lst ts))) (g:Got K H (SB S As M) H' S' A y md t) (h:endS K z S H D (zi1 i md M m ts t ρ)) :
  ∃ a vs b ws,σ[i]? = some (some (.ref a))∧y=.ref b∧H' a=some (.lst vs)∧H' b=some (.lst ws)∧vs.length + ws.length≤sizeLine∧D.nx σ (upd H' a (.lst (vs ++ ws))):=by
 cases t with
 | sc _=>exact (show False from h).elim
 | scr _=>exact (show False from h).elim
 | tup _=>exact (show False from h).elim
 | lst us =>
  have h0:endS K z S H D (if ts.length + us.length≤sizeLine then if m=.fu∧(md=.fu∨zeZ us=true) then .nx (ρ.set i (some (.fu,.lst (ts ++ us)))) else if m=.al∨M[i]? = some true then .bad else .nx ((zaB M ρ).set i (some (.sp,.lst (ts ++ us)))) else .bad):=h
  clear h
  split at h0
  ·rename_i hz
   split at h0
   ·rename_i hm
    obtain⟨rfl,hm⟩:=hm
    obtain⟨b,ws,B,rfl,hb,dB,ndB,owB⟩:∃ b ws B,y=.ref b∧H' b=some (.lst ws)∧Dens K H' S us .fu B ws∧B.Nodup∧∀ c∈B,H c=none∧¬ S' c:=by
     rcases hm with rfl | hf
     ·obtain⟨b,ws,B,rfl,rfl,h1,h2⟩:=zbk.mp g.den
      exact⟨b,ws,B,rfl,h1,h2.fuS,(List.nodup_cons.mp g.nd).2,fun c hc=>g.ow c (List.mem_cons_of_mem _ hc)⟩
     ·obtain⟨_,b,ws,rfl,_,h1,h2⟩:=zag.mp g.al.den
      exact⟨b,ws,[],rfl,h1,(zdo h2 hf).fuS,List.nodup_nil,fun _ q=>(nomatch q)⟩
    obtain⟨v,hv,d⟩:=o.sl i _ _ e
    obtain⟨a,vs,A',rfl,ea,h1,h2⟩:=zbk.mp d
    have ha:a∈As i:=by rw [ea];exact List.mem_cons_self ..
    have o':=o.grow g.g
    obtain⟨a1,a2,a3⟩:=o.ow i a ha
    have h1':=g.g.same _ _ h1
    have nB:a∉B:=fun q=>a3 (owB a q).1
    have nd:=o.nd i
    rw [ea] at nd
    refine ⟨a,vs,b,ws,hv,rfl,h1',hb,by rw [h2.length,dB.length];exact hz,h0 S _ σ _ (o'.wr (zcx e) ha h1' hv (vs':=vs ++ ws) (A':=a :: (A' ++ B)) (zbk.mpr ⟨a,_,_,rfl,rfl,zaW,?_⟩) ?_ fun c hc=>?_) ((zbI g.g.same).trans (zfi a1 h1'))⟩
    ·exact (zc1 h1' a1 (List.nodup_cons.mp nd).1 (h2.mono g.g.same fun _ q=>q)).append (zc1 h1' a1 nB dB)
    ·refine List.nodup_cons.mpr ⟨fun q=>?_,List.nodup_append.mpr ⟨(List.nodup_cons.mp nd).2,ndB,fun c hc c' hc' q=>?_⟩⟩
     ·rcases List.mem_append.mp q with q | q
      ·exact (List.nodup_cons.mp nd).1 q
      ·exact nB q
     ·subst q
      exact (o.ow i c (by rw [ea];exact List.mem_cons_of_mem _ hc)).2.2 (owB c hc').1
    ·rcases List.mem_cons.mp hc with q | q
     ·rw [q];exact .inl ha
     ·rcases List.mem_append.mp q with q | q
      ·exact .inl (by rw [ea];exact List.mem_cons_of_mem _ q)
      ·refine .inr ⟨fun j w=>(o.ow j c w).2.2 (owB c q).1,fun w=>(owB c q).2 (g.g.up c (.inl w)),zaT o.same (owB c q).1,fun w=>?_⟩
       obtain⟨ws,w'⟩:=dB.own c q
       rw [w] at w';cases w'
   ·split at h0
    ·exact (show False from h0).elim
    ·rename_i hn
     have hn1:M[i]?≠some true:=fun q=>hn (.inr q)
     have hn2:m≠.al:=fun q=>hn (.inl q)
     have ga:=g.al
     obtain⟨_,b,ws,rfl,_,hb,dB⟩:=zag.mp ga.den
     have o1:=o.share ga.g
     have e1:(zaB M ρ)[i]? = some (some (m,.lst ts)):=by rw [zcT hn1];exact e
     have st1:Step K S H _ H':=zeG ga.g
     cases m with
     | al=>exact (hn2 rfl).elim
     | sp =>
      obtain⟨a,vs,q1,q2,q3,q4⟩:=zia (D:=D) o1 e1 dB (h0.step st1)
      exact⟨a,vs,b,ws,q1,rfl,q2,hb,by rw [dB.length];lia,q4⟩
     | fu =>
      obtain⟨a,vs,q1,q2,q3,o2,s2⟩:=o1.toSp e1
      have hl1:i < (zaB M ρ).length:=zcx e1
      have h':endS K z (fun b=>(S' b∨b∈A)∨b∈dAs As M i∧b≠a) H' D (.nx (((zaB M ρ).set i (some (.sp,.lst ts))).set i (some (.sp,.lst (ts ++ us))))):=by
       rw [List.set_set]
       exact h0.step (st1.trans s2)
      obtain⟨a',vs',r1,r2,r3,r4⟩:=zia (D:=D) (z:=z) o2 (zim hl1) (dB.monoS fun b hb=>.inl hb) h'
      exact⟨a',vs',b,ws,r1,rfl,r2,hb,by rw [dB.length];lia,r4⟩
  ·exact (show False from h0).elim
theorem zh9 (M:List Bool) (hx:PE X a (tVar i)) (he:JE X z md F e) (hbase:attributeBase a "extend" X.env (eval a X.env)=eval a X.env:=by rfl)
  (hfew:((backTo p2 (starEach [e] X.env)).all (fun x=>!x.1) && (backToKw p2 (keywordEach [] X.env)).all (fun x=>x.1.isSome) && decide ([e].length + ([]:List Keyword).length + (if ([]:List Keyword).isEmpty then 0 else 1) < 30))=true:=by rfl)
  (hline:(p1.endLine == p2.line)=true:=by rfl) (hst:starEach [e] X.env=(false,eval e X.env) :: starEach [] X.env:=by rfl) (hplain:(backTo p2 (starEach [] X.env)).any (·.1)=false:=by rfl)
  (hs:swapsWith (.Call (.Attribute a "extend" p1) [e] [] p2) none pos.line X.env=pure false:=by rfl):JS X z (sExt i md M F) (.Expr (.Call (.Attribute a "extend" p1) [e] [] p2) pos):=
 PS.imp (zgs (zj0 PySem.F.plainAttrs_list PySem.F.slot_list_extend PySem.F.type_list_extend zgB hx (zcf he zdH hst) hbase hfew hline hst hplain) hs) fun D σ H h=>zik h fun S As ρ m ts t y H' S' A a o e1 g q ha=>by
  obtain⟨a',vs,b,ws,h1,h2,h3,h4,h5,h6⟩:=zhF o e1 g q
  rw [ha] at h1
  cases h1
  exact⟨a,b,vs,ws,rfl,by rw [h2],h3,h4,h5,h6⟩
end
end TL
namespace TL
open PySem PySem.Spec L2
open PyProof.Rows hiding St
section
variable {X:Cx} {z:Z} {md md1 md2 md3:Md} {F F1 F2 F3:VEnv→Res T} {e a b c:Expr} {pos p1 p2 p3 p4:Pos} {K:PySem.W.Frag} {i:Nat} {x:Str}
end
end TL
namespace TL
open PySem PySem.Spec L2
open PyProof.Rows hiding St
section
variable {X:Cx} {z:Z} {md md1 md2 md3:Md} {F F1 F2 F3:VEnv→Res T} {e a b c:Expr} {pos p1 p2 p3 p4:Pos} {K:PySem.W.Frag} {i:Nat} {x:Str}
end
end TL
namespace TL
open PySem PySem.Spec L2
open PyProof.Rows hiding St
noncomputable def endU (z:Z) (H:Hp) (S:Addr→Prop) (Q:VK):Res Unit→Prop
 | .ok _=>∀ x H' S',Grow H S H' S'→Q (.str x) H'
 | .exc c=>∀ H',Same z.H₀ H'→z.E (.ref (z.cl c)) none H'
 | .bad=>False
def trs (K:PySem.W.Frag) (z:Z) (F:VEnv→Res Unit):TE:=fun σ H Q=>∃ S ρ,OkE K z S ρ σ H∧endU z H S Q (F ρ)
noncomputable def uOk:VEnv→Res Unit:=fun _=>.ok ()
section
variable {X:Cx} {z:Z} {md md1:Md} {F F1 F2 F3:VEnv→Res T} {U:VEnv→Res Unit} {e a b c:Expr} {pos p1 p2 p3 p4:Pos} {K:PySem.W.Frag} {i:Nat} {x:Str}
theorem zdI {j}:PE X (.Constant (.str x) j pos) (trs X.K z uOk):=PE.imp zjX fun σ H Q h=>by
 obtain⟨S,ρ,o,h⟩:=h
 exact h x H S (.refl o.dom)
def PJ (X:Cx) (parts:List Expr) (n:Nat) (t:St→Hp→(Hp→Prop)→Prop):Prop:=
 ∀ (out:Str) (pins:List (Addr×Obj)) (s:Shared) (σ:St) (H:Hp) (Q:Hp→Prop),out.length + n≤1000→Inv X pins σ H s→t σ H Q →
  wpAny (model X.prog X.w) X.A (joinParts out (evalEach parts X.env)) (fun u s'=>∃ x tk H',u=.str x tk∧Inv X pins σ H' s'∧Q H') X.xe s
noncomputable def tju (K:PySem.W.Frag) (z:Z) (F:VEnv→Res Unit):St→Hp→(Hp→Prop)→Prop:=fun σ H Q=>∃ S ρ,OkE K z S ρ σ H∧endU z H S (fun _=>Q) (F ρ)
theorem zaQ:1000≤sizeLine:=by decide
theorem zfj:PJ X [] 0 (tju X.K z uOk):=by
 intro out pins s σ H Q hn I h
 obtain⟨S,ρ,o,h⟩:=h
 refine joinParts_nilE (joinParts_nil ⟨out,_,H,rfl,I.tok _,h out H S (.refl o.dom)⟩ (Nat.le_trans (by lia) zaQ))
theorem zcQ {es:List Expr} {n j} (hr:PJ X es n (tju X.K z U)):PJ X (.Constant (.str x) j pos :: es) (x.length + n) (tju X.K z U):=by
 intro out pins s σ H Q hn I h
 refine joinParts_consE (joinParts_cons (Calls.Constant_str ⟨?_,?_⟩))
 ·exact Nat.le_trans (by rw [strLen_append];lia) zaQ
 ·exact hr _ pins _ σ H Q (by rw [strLen_append];lia) (I.tok _) h
noncomputable def uInt (F:VEnv→Res T) (U:VEnv→Res Unit):VEnv→Res Unit:=fun ρ=>(F ρ).bind fun t=>match t with
 | .sc (.int i)=>if 0≤i∧i < 100 then U ρ else .bad
 | _=>.bad
theorem zeg:∀ k:Fin 100,(toString ((k.val:Nat):Int):Str).length≤2:=by decide +kernel
theorem zgk {i:Int} (h0:0≤i) (h1:i < 100):i.natAbs.log2 < 1920:=by
 have:i.natAbs < 2 ^ 7:=by lia
 have h2:i.natAbs.log2 < 7:=by
  by_cases h:i.natAbs=0
  ·rw [h];decide
  ·exact (Nat.log2_lt h).mpr this
 lia
theorem zgl {i:Int} (h0:0≤i) (h1:i < 100):(toString i:Str).length≤2:=by
 have:=zeg ⟨i.toNat,by lia⟩
 rw [show (((⟨i.toNat,by lia⟩:Fin 100).val:Nat):Int)=i by show ((i.toNat:Nat):Int)=i;lia] at this
 exact this
theorem zej {es:List Expr} {n} (he:JE X z md F e) (hr:PJ X es n (tju X.K z U)):PJ X (.FormattedValue e (-1) none pos :: es) (2 + n) (tju X.K z (uInt F U)):=by
 intro out pins s σ H Q hn I h
 obtain⟨S,ρ,o,h⟩:=h
 unfold uInt at h
 try dsimp only at h
 have he':=JE.al he
 refine joinParts_consE (joinParts_cons (FormattedValue_plain (thn (he' pins s σ H (fun v H1=>∃ i,v=.int i∧0≤i∧i < 100∧tju X.K z U σ H1 Q) I ⟨S,ρ,o,?_⟩) fun u s1 ⟨v,H1,J,r,i,e1,h0,h1,q⟩=>?_)))
 ·cases e1:F ρ with
  | exc c=>rw [e1] at h;exact h
  | bad=>rw [e1] at h;exact h
  | ok t =>
   rw [e1,Res.bind_ok] at h
   intro v H1 S1 A g
   split at h
   ·rename_i i
    split at h
    ·rename_i hi
     obtain⟨_,rfl⟩:=zad.mp g.den
     refine ⟨i,rfl,hi.1,hi.2,S1,ρ,o.grow g.g,?_⟩
     cases e2:U ρ with
     | ok _=>rw [e2] at h;exact fun x H2 S2 g2=>h x H2 S2 (g.g.trans g2)
     | exc c=>rw [e2] at h;exact h
     | bad=>rw [e2] at h;exact h
    ·exact (show False from h).elim
   ·exact (show False from h).elim
 ·subst e1
  obtain⟨t,rfl⟩:=r
  have:=zgl h0 h1
  refine formatField_int_small (zgk h0 h1) ⟨?_,?_⟩
  ·exact Nat.le_trans (by rw [strLen_append];lia) zaQ
  ·exact hr _ pins _ σ H1 Q (by rw [strLen_append];lia) (J.tok _) q
theorem zd4 {v1 v2:Expr} {es:List Expr} {n:Nat} (h:PJ X (v1 :: v2 :: es) n (tju X.K z U)) (hn:n≤1000:=by decide):PE X (.JoinedStr (v1 :: v2 :: es) pos) (trs X.K z U):=by
 intro pins s σ H Q I hq
 obtain⟨S,ρ,o,hq⟩:=hq
 refine JoinedStr_many (thn (h Str.empty pins s σ H (fun H'=>∀ x,Q (.str x) H') (by show 0 + n≤1000;lia) I ⟨S,ρ,o,?_⟩) fun u s' ⟨x,tk,H',e,J,q⟩=>⟨.str x,H',J,⟨tk,e⟩,q x⟩)
 cases e2:U ρ with
 | ok _=>rw [e2] at hq;exact fun _ H2 S2 g2 y=>hq y H2 S2 g2
 | exc c=>rw [e2] at hq;exact hq
 | bad=>rw [e2] at hq;exact hq
noncomputable def zbw (c:Nat) (M:List Bool) (U:VEnv→Res Unit):SEnv→SRes:=fun ρ=>(U (view M ρ)).sthen fun _=>.exc c
abbrev bmV:List Value:=[.type "ValueError", .type "Exception", .type "BaseException", .type "object"]
theorem za9 {c:Nat} {C:Addr} {np cpos:Pos} (M:List Bool) (hcl:z.cl c=C) (hR:zg5 X z.E) (hh:X.A.handled=none) (hg:Gl X x) (hm:X.mg x=some (.ref C)) (hc:PySem.W.excIn X.K C bmV "ValueError.__new__" = true) (ha:PE X e (trs X.K z U)) (hdb:(x == ("__debug__" : Str))=false:=by decide)
  (he:starEach [e] X.env=[(false,eval e X.env)]:=by rfl):JS X z (zbw c M U) (.Raise (some (.Call (.Name x np) [e] [] cpos)) none pos):=
 PS.imp (zhi PySem.F.excBase_ValueError hR hh hg hm hc (zcf ha zdH he) (by decide +kernel) hdb he) fun D σ H h=>by
  obtain⟨S,As,ρ,o,h⟩:=h
  refine ⟨_,_,o.view M,?_⟩
  unfold zbw at h
  try dsimp only at h
  cases e1:U (view M ρ) with
  | exc c=>rw [e1] at h;exact h
  | bad=>rw [e1] at h;exact h
  | ok u =>
   rw [e1,Res.sthen_ok] at h
   intro y H' S' g
   refine ⟨Nat.le_trans (by show 1≤1000;decide) zaQ,?_⟩
   rw [← hcl]
   exact h H' (o.same.trans g.same)
noncomputable def subC (c c':Nat):Bool:=c' == 0 || c == c'
noncomputable def envE (n i:Nat) (a:Addr):SEnv:=(List.replicate n none).set i (some (.al,.sc (.ref a)))
noncomputable def trh (K:PySem.W.Frag) (z:Z) (Hd:Nat→SRes):Addr→VK→Hp→Prop:=fun C Q H=>∃ c,C=z.cl c∧Same z.H₀ H∧match Hd c with
 | .rt md t=>∀ v H' S' A,Got K z.H₀ z.S₀ H' S' A v md t→Q v H'
 | _=>False
abbrev JH (X:Cx) (z:Z) (Hd:Nat→SRes) (hs:List ExceptHandler):Prop:=PH X hs (trh X.K z Hd)
theorem PH.imp {hs:List ExceptHandler} {t t':Addr→VK→Hp→Prop} (h:PH X hs t) (k:∀ C Q H,t' C Q H→t C Q H):PH X hs t':=fun pins s σ H C a Q L q=>h pins s σ H C a Q L (k C Q H q)
noncomputable def hBad:Nat→SRes:=fun _=>.bad
theorem zko:JH X z hBad []:=PH.imp zjU fun C Q H h=>by
 obtain⟨c,_,_,h⟩:=h
 exact h.elim
noncomputable def sTry (R:SEnv→SRes) (Hd:Nat→SRes):SEnv→SRes:=fun ρ=>match R ρ with
 | .exc c=>match Hd c with
  | .rt md t=>.rt md t
  | _=>.bad
 | r=>r
theorem zkm {body:List Stmt} {h₀:ExceptHandler} {hs:List ExceptHandler} {R:SEnv→SRes} {Hd:Nat→SRes} (hst:X.stack=X.env :: X.outer) (hf:X.env.frame=some X.env.locals)
  (hb:∀ pn E' Eh,zdt (CXe X.prog X.w) (tcx X pn E') Eh→PSs (tcx X pn E') body (st X.K { z with E:=Eh } R)) (hh:JH X z Hd (h₀ :: hs)):JS X z (sTry R Hd) (.Try body (h₀ :: hs) [] [] pos):=
 PS.imp (zjS hst hf hb hh) fun D σ H h=>by
  obtain⟨S,As,ρ,o,h⟩:=h
  have o':∀ E,Ok X.K { z with E:=E } S As ρ σ H:=fun E=>⟨o.same,o.dom,o.ln,o.s0,o.s1,o.nd,o.ow,o.dj,o.sl⟩
  unfold sTry at h
  cases e:R ρ with
  | nx ρ' =>
   rw [e] at h
   refine ⟨fun _ _ _=>False,⟨S,As,ρ,o' _,?_⟩,fun _ _ _ q=>q.elim⟩
   rw [e]
   exact fun S' As' σ' H' o1 s1=>h S' As' σ' H' ⟨o1.same,o1.dom,o1.ln,o1.s0,o1.s1,o1.nd,o1.ow,o1.dj,o1.sl⟩ s1
  | rt md t =>
   rw [e] at h
   refine ⟨fun _ _ _=>False,⟨S,As,ρ,o' _,?_⟩,fun _ _ _ q=>q.elim⟩
   rw [e]
   exact h
  | bad=>rw [e] at h;exact (show False from h).elim
  | exc c =>
   rw [e] at h
   refine ⟨fun cv _ H'=>cv=.ref (z.cl c)∧Same z.H₀ H',⟨S,As,ρ,o' _,?_⟩,fun cv r H' q=>?_⟩
   ·rw [e]
    exact fun H' sm=>⟨rfl,sm⟩
   ·obtain⟨rfl,sm⟩:=q
    refine ⟨_,rfl,c,rfl,sm,?_⟩
    replace h:endS X.K z S H D (match Hd c with | .rt md t=>.rt md t | _=>.bad):=h
    cases e2:Hd c with
    | rt md t=>rw [e2] at h;exact h
    | nx _=>rw [e2] at h;exact h
    | exc _=>rw [e2] at h;exact h
    | bad=>rw [e2] at h;exact h
end
end TL
namespace TL
open PySem PySem.Spec L2
open PyProof.Rows hiding St
theorem Inv.turnedTup {X:Cx} {pins:List (Addr×Obj)} {σ:St} {H:Hp} {s:Shared} {h':Heap} {ch:List Addr} {p:Addr} {xs:List V} {its:List Value} {tk:Nat} (I:Inv X pins σ H s) (hf:∀ b∈ch,FpOk X pins H b) (hp:s.heap.objs.size≤p)
  (k:∀ b o,b∉ch→s.heap.get? b=some o→h'.get? b=some o) (hv:Vals xs its) (hz:xs.length≤sizeLine) (ht:IsTup h' p its.toArray):Inv X pins σ (upd H p (.tup xs)) { s with heap:=h',toks:=tk }:=by
 have hn:H p=none:=I.hok.fresh hp
 have un:Un (frs X.stack) ch H (upd H p (.tup xs)) s.heap h':=
  ⟨fun b o e _ _ hx=>k b o hx e,fun b o e _ _ hx=>⟨o.slots,k b o hx e⟩,fun b o e n _=>by rw [zaq (Nat.ne_of_lt (Nat.lt_of_lt_of_le (Heap.lt_size e) hp))];exact n,fun b o e hx=>⟨o,k b o hx e⟩,
   fun b ys q=>by rw [zaq (zaw q hn)];exact q,fun b u ys q=>by rw [zaq (zaw q hn)];exact q,fun b ps q=>⟨#[],by rw [zaq (zaw q hn),q];simp⟩⟩
 have hok:HOk X.prog X.w (upd H p (.tup xs)) h':=fun b u e=>by
  by_cases hb:b=p
  ·subst hb;rw [zaW] at e;cases e;exact⟨hz,its,hv,ht⟩
  ·rw [zaq hb] at e
   have nch:∀ c u,H c=some u→c∉ch:=fun c u q hc=>by rw [(hf c hc).1] at q;cases q
   refine (I.hok b u e).stay (fun c v hc r=>k c v ?_ r) (fun c q=>by rw [zaq (zaw q hn)];exact q) fun c ys q=>by rw [zaq (zaw q hn)];exact q
   rcases hc with rfl | hc
   ·exact nch _ _ e
   ·exact nch _ _ hc
 exact I.call (g':=s.gens) (t':=tk) (d':=s.drawn) un hok I.bare fun b hb=>let ⟨_,h1,_,h3,h4,h5⟩:=hf b hb;⟨h3,h1,h4,h5⟩
theorem Inv.turnedMany {X:Cx} {pins:List (Addr×Obj)} {σ:St} {H:Hp} {s:Shared} {h':Heap} {ch:List Addr} {tk:Nat} (I:Inv X pins σ H s) (hf:∀ b∈ch,FpOk X pins H b)
  (k:∀ b o,b∉ch→s.heap.get? b=some o→h'.get? b=some o):Inv X pins σ H { s with heap:=h',toks:=tk }:=by
 have un:Un (frs X.stack) ch H H s.heap h':=
  ⟨fun b o e _ _ hx=>k b o hx e,fun b o e _ _ hx=>⟨o.slots,k b o hx e⟩,fun b o e n _=>n,fun b o e hx=>⟨o,k b o hx e⟩,fun b ys q=>q,fun b u ys q=>q,fun b ps q=>⟨#[],by rw [q];simp⟩⟩
 have hok:HOk X.prog X.w H h':=fun b u e=>by
  have nch:∀ c u,H c=some u→c∉ch:=fun c u q hc=>by rw [(hf c hc).1] at q;cases q
  refine (I.hok b u e).stay (fun c v hc r=>k c v ?_ r) (fun c q=>q) fun c ys q=>q
  rcases hc with rfl | hc
  ·exact nch _ _ e
  ·exact nch _ _ hc
 exact I.call (g':=s.gens) (t':=tk) (d':=s.drawn) un hok I.bare fun b hb=>let ⟨_,h1,_,h3,h4,h5⟩:=hf b hb;⟨h3,h1,h4,h5⟩
section
variable {X:Cx} {z:Z} {md1 md2:Md} {F1 F2:VEnv→Res T} {a b:Expr} {pos p p2:Pos} {K:PySem.W.Frag} {elts:List Expr} {x1:Nat}
end
end TL
namespace TL
open PySem PySem.Spec L2
open PyProof.Rows hiding St
noncomputable def Ite (K:PySem.W.Frag) (a:Addr):It:=
 ⟨fun i H=>∃ xs x,SqL K H a xs∧xs[i]? = some x,
  fun i H v H'=>∃ p x,H p=none∧v=.ref p∧H'=upd H p (.tup [.int i,x])∧∀ xs,SqL K H a xs→xs[i]? = some x,
  fun i H=>∃ xs,SqL K H a xs∧xs.length≤i⟩
theorem zge {P:Program} {w:World} {K:PySem.W.Frag} {elts:List Expr} {x1} {pos:Pos} (a e it:Addr) (n1:e≠it):Turn P w K (.Tuple elts x1 pos) (Ite K a) [e,it] e
  (fun i h=>(∃ old,IsEnum h e it i old)∧h.IsListIter it a i) where
 mem:=by simp
 obj:=fun i h st c hc=>by
  obtain⟨⟨old,he⟩,h1⟩:=st
  simp only [List.mem_cons,List.not_mem_nil,or_false] at hc
  rcases hc with rfl | rfl
  ·exact⟨_,he,fun v z=>by cases z⟩
  ·obtain⟨o,e,c,d⟩:=h1
   exact⟨o,e,fun v z=>by rw [d] at z;cases z⟩
 keep:=fun i h h' st k=>by
  obtain⟨⟨old,he⟩,h1⟩:=st
  exact⟨⟨old,k e (by simp) _ he⟩,h1.at fun o e=>k it (by simp) o e⟩
 item:=by
  intro X hP hw hK hc i pins s σ H E I hf st hg
  subst hP hw hK
  obtain⟨⟨old,he⟩,h1⟩:=st
  obtain⟨xs,x,hq1,hx⟩:=hg
  obtain⟨its1,rv1,p1,z1⟩:=I.list hq1
  obtain⟨u,hu,ru⟩:=rv1.get hx
  refine wpAny_pyNext_enum_item he h1 p1.isList (x:=u) (by simpa using hu) n1 fun h' a1 a2 a3 a4 a5=>⟨_,rfl,?_⟩
  have le:e < s.heap.objs.size:=Heap.lt_size he
  have lit:it < s.heap.objs.size:=by obtain⟨o,q,_⟩:=h1;exact Heap.lt_size q
  refine wpAny_letOwnedTupleGo_enum (s:={ s with heap:=h',toks:=s.toks + 1 }) a1 fun h'' b1 b2=>?_
  have hn:H s.heap.objs.size=none:=I.hok.fresh (Nat.le_refl _)
  have kp:∀ c o,c∉[e,it]→s.heap.get? c=some o→h''.get? c=some o:=fun c o hc q=>by
   simp only [List.mem_cons,List.not_mem_nil,or_false,not_or] at hc
   exact (b2.2 c hc.1).trans (a5 c o hc.1 hc.2 q)
  have tp:IsTup h'' s.heap.objs.size [Value.int i s.toks,u].toArray:=⟨_,(b2.2 _ (Nat.ne_of_gt le)).trans a3,rfl,_,rfl⟩
  have I1:=Inv.turnedTup (xs:=[.int i,x]) (its:=[Value.int i s.toks,u]) (tk:=s.toks + 1) I hf (Nat.le_refl _) kp (.cons ⟨_,rfl⟩ (.cons ru .nil)) (by show 2≤sizeLine;decide) tp
  refine ⟨.ref s.heap.objs.size,_,I1,rfl,⟨s.heap.objs.size,x,hn,rfl,rfl,fun xs' g1=>by rw [I.list_inj g1 hq1];exact hx⟩,?_,fun c hc=>?_⟩
  ·exact⟨⟨u,by simpa using b1⟩,a2.at fun o q=>(b2.2 it (Ne.symm n1)).trans q⟩
  ·have:c < s.heap.objs.size:=by
    simp only [List.mem_cons,List.not_mem_nil,or_false] at hc
    rcases hc with rfl | rfl
    ·exact le
    ·exact lit
   rw [zaq (Nat.ne_of_lt this)];exact (hf c hc).1
 done:=by
  intro X hP hw hK hc i pins s σ H E I hf st hg
  subst hP hw hK
  obtain⟨⟨old,he⟩,h1⟩:=st
  obtain⟨xs,hq1,hx⟩:=hg
  obtain⟨its1,rv1,p1,z1⟩:=I.list hq1
  have l1:=rv1.length
  refine wpAny_pyNext_enum_end (I.ok.hd hc) he h1 p1.isList (by simp;lia) fun h' kp=>⟨rfl,Inv.turnedMany (tk:=s.toks) I hf fun b o hb e=>?_⟩
  simp only [List.mem_cons,List.not_mem_nil,or_false,not_or] at hb
  exact kp b o hb.2 e
 self:=fun _ _ _ _ _ st h=>let ⟨⟨_,he⟩,_⟩:=st;wpAny_pyIter_enum he h
section
variable {X:Cx} {z:Z} {md1:Md} {F1:VEnv→Res T} {a:Expr} {pos p p2:Pos} {K:PySem.W.Frag} {elts:List Expr} {x1:Nat}
noncomputable def zeq:Nat→List T→List T
 | _,[]=>[]
 | k,t :: ts=>.tup [.sc (.int k),t] :: zeq (k + 1) ts
theorem zgQ:∀ (ts:List T) (k:Nat),(zeq k ts).length=ts.length:=by
 intro ts
 induction ts with
 | nil=>intro k;rfl
 | cons t ts ih=>intro k;show (zeq (k + 1) ts).length + 1=_;rw [ih];rfl
theorem zgR:∀ (ts:List T) (k i:Nat),(zeq k ts)[i]? = (ts[i]?).map fun t=>.tup [.sc (.int ((k + i:Nat):Int)),t]:=by
 intro ts
 induction ts with
 | nil=>intro k i;rfl
 | cons t ts ih =>
  intro k i
  cases i with
  | zero=>rfl
  | succ i =>
   show (zeq (k + 1) ts)[i]? = (ts[i]?).map _
   rw [ih,show k + 1 + i=k + (i + 1) by lia]
noncomputable def zhC (F1:VEnv→Res T):VEnv→Res (List T):=fun ρ=>(F1 ρ).bind fun t=>.of ((asL t).map (zeq 0))
theorem zhv {H:Hp} {S:Addr→Prop} {a:Addr} {vs:List V} {ts:List T} (hS:S a) (hH:H a=some (.lst vs)) (d:Dens K H S ts .al [] vs):JOk K (Ite K a) H S (zeq 0 ts):=by
 refine ⟨fun H2 S2 s dm i t e=>?_,fun H2 S2 s _=>⟨vs,.of (s.frm.nodes _ _ hS hH),by rw [zgQ,d.length];exact Nat.le_refl _⟩⟩
 have h2:SqL K H2 a vs:=.of (s.frm.nodes _ _ hS hH)
 rw [zgR,Nat.zero_add] at e
 obtain⟨t',e1,rfl⟩:=Option.map_eq_some_iff.mp e
 obtain⟨v,h3,h4⟩:=(s.dens d).get e1
 refine ⟨⟨vs,v,h2,h3⟩,fun x H3 y=>?_⟩
 obtain⟨q,x',hn,rfl,rfl,y⟩:=y
 have y1:=y vs h2
 rw [h3] at y1
 cases y1
 have sm:Same H2 (upd H2 q (.tup [.int i,v])):=fun c o e=>by rw [zaq (zaw e hn)];exact e
 exact⟨⟨sm,fun _ h=>h,fun _ h=>.inl h,fun c h=>zbd sm (dm c h)⟩,zal.mpr ⟨rfl,q,_,rfl,.inl (.inl zaW),Dens.cons0 (zcy _) (Dens.cons0 (h4.mono sm fun _ h=>h) Dens.nil)⟩⟩
theorem zeu:bootBuiltins "enumerate" = some (.type "enumerate"):=by kernel_rfl
theorem zgH (hg:Gl X "enumerate") (hm:X.mg "enumerate" = none) (ha:JE X z md1 F1 a) (hs:starEach [a] X.env=(false,eval a X.env) :: starEach [] X.env:=by rfl) (hpl:(backTo pos (starEach [] X.env)).any (·.1)=false:=by rfl) :
  JI X z (.Tuple elts x1 p2) (zhC F1) (.Call (.Name "enumerate" p) [a] [] pos):=by
 intro pins s σ H R I h
 have hA:PA X [a] (zih (tr X.K z .al F1) tNil):=zcf (JE.al ha) zdH hs
 refine Call_ (zcu I hg hm zeu (callWith_type1 (thn (hA pos pins s σ H (fun vs H1=>∃ a xs ts S1,vs=[.ref a]∧S1 a∧H1 a=some (.lst xs)∧Dens X.K H1 S1 ts .al [] xs∧Dom S1 H1∧∀ J H' S',Grow H1 S1 H' S'→JOk X.K J H' S' (zeq 0 ts)→R J H') I ?_) fun us s1 ⟨vs,H1,I1,r1,q1⟩=>?_) hs hpl))
 ·obtain⟨S,ρ,o,h⟩:=h
  refine ⟨S,ρ,o,?_⟩
  unfold zhC at h
  try dsimp only at h
  cases e1:F1 ρ with
  | exc c=>rw [e1] at h;exact h
  | bad=>rw [e1] at h;exact h
  | ok t =>
   rw [e1,Res.bind_ok] at h
   intro v1 H1 S1 A1 g1
   obtain rfl:=g1.den.alA
   cases t with
   | lst ts =>
    obtain⟨_,a,xs,rfl,q1,q2,q3⟩:=zag.mp g1.den
    exact⟨a,xs,ts,S1,rfl,q1,q2,q3,g1.g.dom,fun J H' S' g=>h J H' S' (g1.g.trans g)⟩
   | sc _=>exact (show False from h).elim
   | scr _=>exact (show False from h).elim
   | tup _=>exact (show False from h).elim
 ·obtain⟨a,xs,ts,S1,rfl,q1,q3,q5,dm,q⟩:=q1
  obtain⟨u1,rfl,rx⟩:=zig r1
  obtain rfl:u1=Value.ref a:=rx
  obtain⟨its1,rv1,p1,z1⟩:=I1.list (.of q3)
  refine call_enumerate_list p1.isList ?_
  intro h' a1 a2 a3 kp
  refine wpAny_pyIter_enum a1 ?_
  have I2:Inv X pins σ H1 { s1 with heap:=h' }:=I1.kept (t':=s1.toks) kp
  refine ⟨s1.heap.objs.size + 1,[s1.heap.objs.size + 1,s1.heap.objs.size],_,_,H1,rfl,I2,
   zge a _ _ (Nat.succ_ne_self _),⟨⟨_,a1⟩,a2⟩,fun c hc=>?_,q _ H1 S1 (.refl dm) (zhv q1 q3 q5)⟩
  ·have hge:s1.heap.objs.size≤c:=by
    simp only [List.mem_cons,List.not_mem_nil,or_false] at hc
    rcases hc with rfl | rfl <;> lia
   exact I1.fpOk hge (I1.hok.fresh hge)
end
end TL
namespace TL
open PySem PySem.Spec L2
open PyProof.Rows hiding St
def g2 (K:PySem.W.Frag) (i j:Nat):TG:=gTup K 2 (zi0 (zdy i) (zi0 (zdy j) gNil))
theorem zfD {K:PySem.W.Frag} {H:Hp} {S:Addr→Prop} {x y:T} {v:V} (d:Den K H S (.tup [x,y]) .al [] v):∃ a u w,v=.ref a∧SqT K H a [u,w]∧Den K H S x .al [] u∧Den K H S y .al [] w:=by
 obtain⟨_,a,vs,rfl,h1,h2⟩:=zal.mp d
 obtain⟨u,w,rfl,h3,h4⟩:=zfA h2
 exact⟨a,u,w,rfl,h1,h3,h4⟩
theorem zg1 {K:PySem.W.Frag} (i j:Nat):zjt K (g2 K i j) (gS2 i j):=by
 intro z S As ρ σ H t v ρ' Q o d e k
 unfold gS2 at e
 split at e
 ·rename_i x y
  obtain⟨a,u,w,rfl,h1,h2,h3⟩:=zfD d
  cases e1:gS i x ρ with
  | none=>rw [e1] at e;cases e
  | some ρ1 =>
   rw [e1] at e
   refine ⟨a,[u,w],rfl,h1,rfl,u,[w],rfl,?_⟩
   refine zbc i z S As ρ σ H x u ρ1 _ o h2 e1 fun As1 σ1 o1=>⟨w,[],rfl,?_⟩
   exact zbc j z S As1 ρ1 σ1 H y w ρ' _ o1 h3 e fun As2 σ2 o2=>⟨rfl,k As2 σ2 o2⟩
 ·cases e
theorem zkE {K:PySem.W.Frag} {n i j:Nat} (hi:i < n) (hj:j < n):zdv K n (g2 K i j) (gE2 i j):=by
 intro z S ρ σ H t v ρ' Q o hl d e k
 unfold gE2 at e
 split at e
 ·rename_i x y
  split at e
  ·cases e
  ·rename_i hij
   split at e
   ·rename_i hf
    obtain⟨a,u,w,rfl,h1,h2,h3⟩:=zfD d
    cases e1:gE i x ρ with
    | none=>rw [e1] at e;cases e
    | some ρ1 =>
     rw [e1] at e
     refine ⟨a,[u,w],rfl,h1,rfl,u,[w],rfl,?_⟩
     refine zfH hi z S ρ σ H x u ρ1 _ o hl h2 e1 fun σ1 o1 o1' hl1=>⟨w,[],rfl,?_⟩
     refine zfH hj z S ρ1 σ1 H y w ρ' _ o1 hl1 h3 e fun σ2 o2 o3 hl2=>⟨rfl,k σ2 o2 ?_ hl2⟩
     unfold gE at e1
     split at e1
     ·rename_i hfi
      cases e1
      refine ⟨o.same,o.dom,fun l t el=>o3.sl l t ?_⟩
      have hl:l≠i:=fun q=>by subst q;rw [zem hfi] at el;cases el
      rw [List.getElem?_set_ne (Ne.symm hl)]
      exact el
     ·cases e1
   ·cases e
 ·cases e
section
variable {X:Cx} {z:Z} {md md1 md2:Md} {F F1 F2:VEnv→Res T} {e a b:Expr} {pos px py pt pt2:Pos} {K:PySem.W.Frag} {i j:Nat} {x y:Str} {kt k2:Nat}
end
end TL
namespace TL
open PySem PySem.Spec L2
open PyProof.Rows hiding St
section
variable {X:Cx} {z:Z} {md md1 md2 md3:Md} {F F1 F2 F3:VEnv→Res T} {e a b c:Expr} {pos p1 p2 p3 p4 p5 p6:Pos} {K:PySem.W.Frag} {i:Nat} {x:Str}
end
end TL
namespace TL
open PySem PySem.Spec L2
open PyProof.Rows hiding St
section
variable {K:PySem.W.Frag} {H H':Hp} {S S':Addr→Prop}
end
section
variable {X:Cx} {z:Z} {md md1 md2 md3:Md} {F F1 F2 F3:VEnv→Res T} {e a b c a':Expr} {pos pos2 p1 p2 p3 p4:Pos} {K:PySem.W.Frag} {i p:Nat} {x:Str} {R:SEnv→SRes} {ss:List Stmt}
end
end TL
namespace TL
open PySem PySem.Spec L2
open PyProof.Rows hiding St
section
variable {prog:Program} {w:World} {A:Around} {s:Shared} {R:Result→Shared→Prop} {E:Value→Shared→Prop} {J:Addr} {fp wr:List Addr} {G:Array GenState→Array GenState→Prop} {n:Nat} {P:Nat→Value→Prop} {Sx:Nat→Shared→Prop}
end
section
variable {X:Cx} {z:Z} {md md1:Md} {F:VEnv→Res T} {e:Expr} {p1 p2 p3 p4:Pos}
end
end TL
namespace TL
open PySem PySem.Spec L2
open PyProof.Rows hiding St
section
variable {X:Cx} {z:Z} {md md1:Md} {F:VEnv→Res T} {Fs:VEnv→Res (List T)} {e:Expr} {es:List Expr} {p pos:Pos} {i n:Nat} {K:PySem.W.Frag}
def KDen (K:PySem.W.Frag) (t:T) (v:V):Prop:=∀ H S,Den K H S t .al [] v
def zh1 (K:PySem.W.Frag) (ts:List T) (vs:List V):Prop:=∀ H S,Dens K H S ts .al [] vs
theorem zbf (v:V):KDen K (.sc v) v:=fun _ _=>zcy v
theorem zaY:zh1 K [] []:=fun _ _=>Dens.nil
theorem zao {t:T} {ts:List T} {v:V} {vs:List V} (h:KDen K t v) (hs:zh1 K ts vs):zh1 K (t :: ts) (v :: vs):=fun H S=>Dens.cons (A1:=[]) (A2:=[]) (h H S) (hs H S)
theorem zbh {a:Addr} {o:Obj} {its:Array Value} {n:Nat} {ts:List T} {vs:List V} (l:K.lookup a=some o) (hc:o.cls=.type "tuple") (hd:o.data=.seq its n) (hz:its.size≤sizeLine) (r:Vals vs its.toList) (h:zh1 K ts vs):KDen K (.tup ts) (.ref a):=fun H S =>
 zal.mpr ⟨rfl,a,vs,rfl,.inr ⟨o,its,n,l,hc,hd,hz,r⟩,h H S⟩
end
noncomputable def asS:T→Option (List T)
 | .lst ts=>some ts
 | .tup ts=>some ts
 | _=>none
@[simp] theorem zlX (ts:List T):asS (.lst ts)=some ts:=rfl
@[simp] theorem zlW (ts:List T):asS (.tup ts)=some ts:=rfl
noncomputable def iSeq (F:VEnv→Res T):VEnv→Res (List T):=fun ρ=>(F ρ).bind fun t=>.of (asS t)
section
variable {X:Cx} {z:Z} {md:Md} {F:VEnv→Res T} {e tg:Expr}
def ziX (K:PySem.W.Frag) (tl:TE):TI:=fun σ H R=>tl σ H fun x H1=>∃ a,x=.ref a∧(((∃ xs,SqL K H1 a xs)∧R (Itl K a) H1)∨((∃ xs,SqT K H1 a xs)∧R (Itt K a) H1))
theorem zgv {l:Expr} {tl:TE} (hl:PE X l tl):PI X tg l (ziX X.K tl):=by
 intro pins s σ H R I h
 refine thn (hl pins s σ H _ I h) ?_
 rintro v s1 ⟨x,H1,I1,r1,a,rfl,q1⟩
 cases r1
 have fin:∀ b∈[s1.heap.objs.size],_:=fun b hb=>by
  obtain rfl:b=s1.heap.objs.size:=by simpa using hb
  exact I1.fpOk (Nat.le_refl _) (I1.hok.fresh (Nat.le_refl _))
 rcases q1 with ⟨⟨xs,hq⟩,q⟩ | ⟨⟨xs,hq⟩,q⟩
 ·obtain⟨its,rv,pl,_⟩:=I1.list hq
  refine wpAny_pyIter_list pl.isList ?_
  exact⟨_,[s1.heap.objs.size],_,_,H1,rfl,I1.kept (t':=s1.toks) fun b o w=>Heap.get?_push_of_some _ w,zef a _,⟨_,Heap.get?_push_size _ rfl,rfl,rfl⟩,fin,q⟩
 ·obtain⟨its,rv,pl,_⟩:=I1.tuple hq
  have pt:s1.heap.IsTuple a its.toArray:=pl
  refine wpAny_pyIter_tuple pt ?_
  exact⟨_,[s1.heap.objs.size],_,_,H1,rfl,I1.kept (t':=s1.toks) fun b o w=>Heap.get?_push_of_some _ w,zfO a _,⟨_,Heap.get?_push_size _ rfl,rfl,rfl⟩,fin,q⟩
theorem ziR {K:PySem.W.Frag} {H:Hp} {S:Addr→Prop} {a:Addr} {vs:List V} {ts:List T} (hH:SqT K H a vs) (d:Dens K H S ts .al [] vs):JOk K (Itt K a) H S ts:=by
 refine ⟨fun H2 S2 s _ i t e=>?_,fun H2 S2 s _=>⟨vs,s.frm.tups _ _ hH,by rw [d.length];exact Nat.le_refl _⟩⟩
 have h2:SqT K H2 a vs:=s.frm.tups _ _ hH
 obtain⟨v,h3,h4⟩:=(s.dens d).get e
 refine ⟨⟨vs,v,h2,h3⟩,fun x H3 y=>?_⟩
 obtain⟨rfl,y⟩:=y
 have:=y vs h2
 rw [h3] at this
 cases this
 exact⟨.refl (by assumption),h4⟩
theorem zkn (h:JE X z md F e):JI X z tg (iSeq F) e:=PI.imp (zgv (JE.al h)) fun σ H R q=>by
 obtain⟨S,ρ,o,q⟩:=q
 refine ⟨S,ρ,o,?_⟩
 unfold iSeq at q
 try dsimp only at q
 cases e:F ρ with
 | exc c=>rw [e] at q;exact q
 | bad=>rw [e] at q;exact q
 | ok t =>
  rw [e,Res.bind_ok] at q
  intro v H' S' A g
  obtain rfl:=g.den.alA
  cases t with
  | sc _=>exact (show False from q).elim
  | scr _=>exact (show False from q).elim
  | lst ts =>
   obtain⟨_,a,vs,rfl,h1,h2,h3⟩:=zag.mp g.den
   exact⟨a,rfl,.inl ⟨⟨vs,.of h2⟩,q _ H' S' g.g (zft h1 h2 h3)⟩⟩
  | tup ts =>
   obtain⟨_,a,vs,rfl,h2,h3⟩:=zal.mp g.den
   exact⟨a,rfl,.inr ⟨⟨vs,h2⟩,q _ H' S' g.g (ziR h2 h3)⟩⟩
end
end TL
namespace TL
open PySem PySem.Spec L2
open PyProof.Rows hiding St
open PySem.SeqAt
open PySem.AutoSeq1 (wpAny_loadPart')
open PySem.MeetsSeq PySem.MeetsSeq2 PySem.MeetsSeq3
end TL
namespace TL
open PySem PySem.Spec L2
open PyProof.Rows hiding St
open PySem.SeqAt
section
variable {α:Type} {lt:α→α→Bool} (ir:∀ a,lt a a=false) (tr:∀ a b c,lt a b=true→lt b c=true→lt a c=true) (tot:∀ a b,lt a b=false→lt b a=false→a=b)
open Classical in
end
section
variable {β:Type} (lt:β→β→Bool)
variable {lt} (ir:∀ a,lt a a=false) (tr:∀ a b c,lt a b=true→lt b c=true→lt a c=true) (D:β→Prop) (tot:∀ a b,D a→D b→lt a b=false→lt b a=false→a=b)
include tr in
end
section
variable {prog:Program} {w:World} {A:Around} {E:Value→Shared→Prop} {s:Shared}
end
section
variable {X:Cx} {pins:List (Addr×Obj)} {σ:St} {H:Hp} {s:Shared} {S:Addr→Prop}
open Classical in
end
end TL
namespace TL
open PySem PySem.Spec L2
open PyProof.Rows hiding St
section
variable {X:Cx} {z:Z} {md md1:Md} {Fs:VEnv→Res (List T)} {e:Expr} {es:List Expr} {p p' pos cpos:Pos} {i n:Nat} {x:Str} {K:PySem.W.Frag}
end
end TL
namespace TL
open PySem PySem.Spec L2
open PyProof.Rows hiding St
section
variable {X:Cx} {z:Z} {K:PySem.W.Frag} {i p:Nat} {x:Str} {a a' e:Expr} {pos p1 p2 p3 p4:Pos}
end
end TL
namespace TL
open PySem PySem.Spec L2
section
variable {X:Cx} {z:Z} {K:PySem.W.Frag} {i p:Nat} {x:Str} {a a' e:Expr} {pos p1 p2 p3 p4:Pos}
end
end TL
namespace Sx
open PySem PySem.Spec
open PyProof.Rows (IntsAre)
noncomputable def oS0 (led:Bool):Obj:={ cls:=.type "set", dict:=none,data:=.set #[] 0 (.fresh 0 0 led) }
section
variable {prog:Program} {w:World} {A:Around} {E:Value→Shared→Prop} {s:Shared} {a:Addr} {led:Bool} {k:Int} {t t0:Nat}
end
section
variable {prog:Program} {w:World} {A:Around} {E:Value→Shared→Prop} {s:Shared} {S I:Addr} {led:Bool} {k:Int} {t:Nat}
end
section
variable {prog:Program} {w:World} {A:Around} {R:Result→Shared→Prop} {I S:Addr} {fp wr:List Addr} {G:Array GenState→Array GenState→Prop} {n:Nat} {P:Nat→Value→Prop} {St:Nat→Shared→Prop} {led:Bool} {k:Int}
end
section
variable {prog:Program} {w:World} {A:Around} {E:Value→Shared→Prop} {s:Shared}
noncomputable abbrev ldOf (w:World):Bool:=!(w.params.followText "set-order")
theorem zil (v:Value) {R:Result→Shared→Prop} (h:R (.ok (.ret (.ref s.heap.objs.size))) { s with heap:=s.heap.push (oS0 (ldOf w)) }) :
  codeAny (model prog w) A (.call (.builtin "set.__new__") ⟨[.type "set", v],[]⟩) R s:=by
 refine codeAny_of_tree ?_
 show wpAny _ A.in1 (checkBuiltinCall "set.__new__" ⟨[.type "set", v],[]⟩ >>= fun _=>again (.builtin "set.__new__" ⟨[.type "set", v],[]⟩)) _ _ s
 rw [F.newCall_set_1 v]
 refine wpAny_bind (wpAny_pure (wpAny_pure ⟨plainId_quiet F.plain_set_new _,codeAny_builtin F.entry_set_new ?_⟩))
 rw [Around.under_plainId F.plain_set_new _]
 unfold Builtin.«set.__new__» Builtin.Frozenset.newClass
 have hsub:=sub_set_self
 obtain⟨hp,g,d,tk,os⟩:=s
 dsimp only
 wp_walk
 refine wpAny_askSetting ?_
 refine wpAny_pure ?_
 dsimp only
 simp only [newObj]
 exact wpAny_bind (wpAny_alloc (wpAny_pure (wpAny_pure h)))
set_option maxHeartbeats 3200000 in
set_option maxHeartbeats 3200000 in
end
end Sx
namespace Sx
open PySem PySem.Spec
section
variable {prog:Program} {w:World} {A:Around} {E:Value→Shared→Prop} {s:Shared} {S I:Addr} {h k:Int} {t f:Nat} {x:Value}
open PyProof.Rows Srt in
end
end Sx
namespace TL
open PySem PySem.Spec L2
section
variable {X:Cx} {z:Z} {md md1:Md} {F:VEnv→Res T} {e:Expr} {t:TE} {p1 p2 p3 p4:Pos}
theorem zea:bootBuiltins "ValueError" = some (.type "ValueError"):=by kernel_rfl
theorem zkC:bootBuiltins "set" = some (.type "set"):=by kernel_rfl
end
end TL
namespace TL
open PySem PySem.Spec L2
section
variable {X:Cx} {z:Z} {md md1 md2:Md} {F1 F2:VEnv→Res T} {a e:Expr} {p1 p2:Pos}
end
end TL
namespace Sx
open PySem PySem.Spec
def Ris (xs:Array Nat):Prop:=xs.toList.Pairwise (· < ·)
theorem Ris.mono {xs:Array Nat} (h:Ris xs) {i k j:Nat} (hik:i≤k) (hk:k < xs.size):xs.getD i j≤xs.getD k j:=by
 have hi:i < xs.size:=by lia
 simp only [Array.getD_eq_getD_getElem?,Array.getElem?_eq_getElem hi,Array.getElem?_eq_getElem hk,Option.getD_some]
 rcases Nat.lt_or_ge i k with q | q
 ·have:=List.pairwise_iff_getElem.mp h i k (by simpa using hi) (by simpa using hk) q
  simp at this
  lia
 ·have:i=k:=by lia
  subst this;exact Nat.le_refl _
theorem ziY {xs:Array Nat} (h:Ris xs) (j:Nat):∀ (fuel lo hi:Nat),hi - lo≤fuel→lo≤hi→hi≤xs.size→(∀ i,i < lo→xs.getD i j < j)→(∀ i,hi≤i→i < xs.size→j≤xs.getD i j) →
  SetTable.below.go xs j fuel lo hi≤xs.size∧(∀ i,i < SetTable.below.go xs j fuel lo hi→xs.getD i j < j)∧∀ i,SetTable.below.go xs j fuel lo hi≤i→i < xs.size→j≤xs.getD i j:=by
 intro fuel
 induction fuel with
 | zero =>
  intro lo hi h1 h2 h3 h4 h5
  have:lo=hi:=by lia
  subst this
  exact⟨h3,h4,h5⟩
 | succ fuel ih =>
  intro lo hi h1 h2 h3 h4 h5
  unfold SetTable.below.go
  by_cases q:lo < hi
  ·rw [if_pos q]
   dsimp only
   have hm:(lo + hi) / 2 < hi:=by lia
   have hm2:lo≤(lo + hi) / 2:=by lia
   generalize (lo + hi) / 2=mid at hm hm2
   by_cases q2:xs.getD mid j < j
   ·rw [if_pos q2]
    refine ih (mid + 1) hi (by lia) (by lia) h3 (fun i hi'=>?_) h5
    exact Nat.lt_of_le_of_lt (h.mono (by lia) (by lia)) q2
   ·rw [if_neg q2]
    refine ih lo mid (by lia) hm2 (by lia) h4 (fun i hi' hs=>?_)
    have:=h.mono (j:=j) hi' hs
    lia
  ·rw [if_neg q]
   exact⟨by lia,h4,fun i hi' hs=>h5 i (by lia) hs⟩
theorem zf4 {xs:Array Nat} (h:Ris xs) (j:Nat):SetTable.below xs j≤xs.size∧(∀ i,i < SetTable.below xs j→xs.getD i j < j)∧∀ i,SetTable.below xs j≤i→i < xs.size→j≤xs.getD i j:=
 ziY h j xs.size 0 xs.size (by lia) (by lia) (Nat.le_refl _) (fun i hi=>absurd hi (by lia)) fun i h1 h2=>absurd h1 (by lia)
theorem zeY {xs:Array Nat} {i j:Nat} (h:i < xs.size):xs.getD i j=xs[i]:=by simp [h]
theorem zd7 {α:Type} (xs:Array α) (p:Nat) (x:α) (hp:p≤xs.size):(SetTable.insertAt xs p x).toList=xs.toList.take p ++ x :: xs.toList.drop p:=by
 unfold SetTable.insertAt
 simp
 rw [List.take_of_length_le (by simp)]
theorem Ris.put {xs:Array Nat} (h:Ris xs) {j:Nat} (hj:¬ xs[SetTable.below xs j]? = some j):Ris (SetTable.insertAt xs (SetTable.below xs j) j):=by
 obtain⟨b1,b2,b3⟩:=zf4 h j
 generalize hr:SetTable.below xs j=r at *
 unfold Ris
 rw [zd7 _ _ _ b1]
 have lt:∀ y∈xs.toList.drop r,j < y:=by
  intro y hy
  obtain⟨k,hk,rfl⟩:=List.mem_iff_getElem.mp hy
  simp at hk
  have hk':r + k < xs.size:=by lia
  have:=b3 (r + k) (by lia) hk'
  rw [zeY hk'] at this
  simp
  rcases Nat.lt_or_eq_of_le this with q | q
  ·exact q
  ·exfalso
   rcases Nat.eq_zero_or_pos k with z | z
   ·subst z
    apply hj
    rw [Array.getElem?_eq_getElem (by lia)]
    exact congrArg some q.symm
   ·have h0:=b3 r (Nat.le_refl _) (by lia)
    rw [zeY (by lia)] at h0
    have h2:=List.pairwise_iff_getElem.mp h r (r + k) (by simp;lia) (by simp;lia) (by lia)
    simp at h2
    lia
 have gt:∀ y∈xs.toList.take r,y < j:=by
  intro y hy
  obtain⟨k,hk,rfl⟩:=List.mem_iff_getElem.mp hy
  simp at hk
  have:=b2 k (by lia)
  rw [zeY (by lia)] at this
  simpa using this
 refine List.pairwise_append.mpr ⟨h.sublist (List.take_sublist _ _),List.pairwise_cons.mpr ⟨lt,h.sublist (List.drop_sublist _ _)⟩,fun a ha b hb=>?_⟩
 rcases List.mem_cons.mp hb with rfl | hb
 ·exact gt a ha
 ·exact Nat.lt_trans (gt a ha) (lt b hb)
theorem Ris.range (n:Nat):Ris (Array.range n):=by
 unfold Ris
 rw [Array.toList_range]
 exact List.pairwise_lt_range
theorem zfV {t:SetTable} {f:Nat→Int} {h:Int}:∀ (fuel:Nat) (p:SetTable.Probe) (j:Nat) (d:Option Nat),(∀ e,p.dummy=some e→¬ t.place[SetTable.below t.place e]? = some e)→SetTable.probe.go t f h fuel p=some (.empty j d) →
  ¬ t.place[SetTable.below t.place j]? = some j∧∀ e,d=some e→¬ t.place[SetTable.below t.place e]? = some e:=by
 intro fuel
 induction fuel with
 | zero=>intro p j d _ e;cases e
 | succ fuel ih =>
  intro p j d hd e
  unfold SetTable.probe.go at e
  have adv:∀ q:SetTable.Probe,(t.advance q).dummy=q.dummy:=fun q=>by
   unfold SetTable.advance;split <;> rfl
  cases hs:t.slot p.j with
  | empty =>
   rw [hs] at e
   simp only [Option.some.injEq,SetTable.Met.empty.injEq] at e
   obtain⟨rfl,rfl⟩:=e
   refine ⟨fun z=>?_,hd⟩
   unfold SetTable.slot at hs
   rw [if_pos (by simpa using z)] at hs
   cases hs
  | dummy =>
   rw [hs] at e
   refine ih _ j d (fun e' he=>?_) e
   rw [adv] at he
   simp only [Option.some.injEq] at he
   subst he
   intro z
   unfold SetTable.slot at hs
   rw [if_pos (by simpa using z)] at hs
   cases hs
  | live i =>
   rw [hs] at e
   simp only at e
   split at e
   ·cases e
   ·exact ih _ j d (fun e' he=>hd e' (by rw [adv] at he;exact he)) e
structure TOk (led:Bool) (t:SetTable) (n:Nat):Prop where
 led:t.led=led
 ris:Ris t.place
 fit:t.fits n=true
theorem zgD {led:Bool} {t:SetTable} {es:Array (Int×Value)} {h:Int} {x:Value} (T:TOk led t es.size):TOk led (layNew t es h x).2.1 (layNew t es h x).1.size:=by
 have hf:=layNew_fits t es h x
 refine ⟨?_,?_,hf⟩
 ·unfold layNew
  split
  ·dsimp only
   unfold SetTable.orStandIn
   split
   ·exact T.led
   ·exact T.led
  ·exact T.led
 ·unfold layNew
  split
  ·rename_i slot wd e
   dsimp only
   unfold SetTable.orStandIn
   split
   ·show Ris (SetTable.insertAt t.place (SetTable.below t.place slot) slot)
    refine T.ris.put ?_
    unfold SetTable.freeSlot at e
    split at e
    ·rename_i j d ep
     obtain⟨p1,p2⟩:=zfV _ _ j d (fun e' he=>by cases he) ep
     simp only [Option.some.injEq,Prod.mk.injEq] at e
     obtain⟨rfl,_⟩:=e
     cases d with
     | none=>exact p1
     | some e'=>exact p2 e' rfl
    ·cases e
   ·exact Ris.range _
  ·exact Ris.range _
theorem zhe {led:Bool} {t:SetTable} {es:Array (Int×Value)} {wanted:Nat} (hl:t.led=led):TOk led (relayAll t es wanted).2.1 (relayAll t es wanted).1.size:=by
 have hf:=relayAll_fits t es wanted
 refine ⟨?_,?_,hf⟩
 ·unfold relayAll
  split
  ·rename_i t' order e
   dsimp only
   split
   ·unfold SetTable.relaid SetTable.laid at e
    dsimp only
    simp only [Option.bind_eq_bind,Option.bind_eq_some_iff,Option.pure_def,Option.some.injEq,Prod.mk.injEq] at e
    obtain⟨_,_,rfl,_⟩:=e
    exact hl
   ·exact hl
  ·exact hl
 ·unfold relayAll
  split
  ·rename_i t' order e
   dsimp only
   split
   ·unfold SetTable.relaid SetTable.laid at e
    dsimp only
    simp only [Option.bind_eq_bind,Option.bind_eq_some_iff,Option.pure_def,Option.some.injEq,Prod.mk.injEq] at e
    obtain⟨owner,_,rfl,_⟩:=e
    unfold Ris
    dsimp only
    refine List.Pairwise.map (R:=fun a b:Nat×Nat=>a.1 < b.1) Prod.fst (fun a b h=>h) ?_
    refine List.Pairwise.filterMap _ (fun a b hab x hx y hy=>?_) List.pairwise_lt_range
    obtain⟨x',_,rfl⟩:=Option.map_eq_some_iff.mp hx
    obtain⟨y',_,rfl⟩:=Option.map_eq_some_iff.mp hy
    exact hab
   ·exact Ris.range _
  ·exact Ris.range _
section
variable {prog:Program} {w:World} {A:Around} {E:Value→Shared→Prop} {s:Shared}
end
noncomputable def nm:Value→Int
 | .int k _=>k
 | _=>0
structure SG (prog:Program) (w:World) (led:Bool) (h:Heap) (a:Addr) (es:Array (Int×Value)) (ep:Nat) (t:SetTable) (ds:List Int):Prop where
 ob:∃ o,h.get? a=some o∧o.ExactSet∧o.data=.set es ep t
 tok:TOk led t es.size
 el:∀ e∈es.toList,∃ k u,e=((intKind prog w).hash k,.int k u)
 pm:(es.toList.map fun e=>nm e.2).Perm ds
theorem SG.at {prog:Program} {w:World} {led:Bool} {h h':Heap} {a:Addr} {es:Array (Int×Value)} {ep:Nat} {t:SetTable} {ds:List Int} (x:SG prog w led h a es ep t ds) (e:∀ o,h.get? a=some o→h'.get? a=some o):SG prog w led h' a es ep t ds:=
 ⟨let ⟨o,ho,r⟩:=x.ob;⟨o,e _ ho,r⟩,x.tok,x.el,x.pm⟩
section
variable {prog:Program} {w:World} {A:Around} {E:Value→Shared→Prop} {s:Shared} {a:Addr} {es:Array (Int×Value)} {ep:Nat} {t:SetTable} {ds:List Int} {led:Bool} {k:Int} {u:Nat}
theorem zfh {o:Obj} {es':Array (Int×Value)} {t':SetTable} {h:Heap} (ho:h.get? a=some o) (hx:o.ExactSet) (hd:o.data=.set es ep t):∃ o',(h.update a (Obj.putSet es' t')).get? a=some o'∧o'.ExactSet∧o'.data=.set es' (ep + 1) t':=by
 have g:=Heap.get?_update_self (Obj.putSet es' t') ho (by rw [putSet_of es' t' hd];rfl)
 rw [putSet_of es' t' hd] at g
 exact⟨_,g,hx,rfl⟩
theorem zhI (h:∀ e∈es.toList,∃ k u,e=((intKind prog w).hash k,Value.int k u)):ElemsOf (intKind prog w) es.toList:=fun e he=>by
 obtain⟨k,u,rfl⟩:=h e he
 exact⟨⟨k,intKind_is _ _ _ _,rfl⟩,rfl⟩
theorem zfJ {o:Obj} {es1:Array (Int×Value)} {t1:SetTable} {wd:Bool} {Q:Bool→Shared→Prop} {g:Bool→Sem Unit} (hg:∀ (b:Bool) (s₁:Shared) (Q':Unit→Shared→Prop),Q' () s₁→wpAny (model prog w) A (g b) Q' E s₁)
  (ho:s.heap.get? a=some o) (hx:o.ExactSet) (hd:o.data=.set es ep t) (T:TOk led t1 es1.size) (el:∀ e∈es1.toList,∃ k u,e=((intKind prog w).hash k,Value.int k u)) (pm:(es1.toList.map fun e=>nm e.2).Perm ds) (hz:es1.size < scanBound)
  (h:∀ h' es' ep' t',Heap.SameBut a s.heap h'→SG prog w led h' a es' ep' t' ds→Q true { s with heap:=h' }) :
  wpAny (model prog w) A (storeSet a es1 t1 >>= fun _=>(if (!wd && t1.tooFull)=true then g (relayAll t1 es1 (SetTable.grown es1.size)).2.2 >>= fun _=>storeSet a (relayAll t1 es1 (SetTable.grown es1.size)).1 (relayAll t1 es1 (SetTable.grown es1.size)).2.1 >>= fun _=>pure (some true)
   else pure (some true)))
   (fun r s'=>wpAny (model prog w) A (match r with | some added=>pure added | none=>setAddHashedIn a (.int k u) ((intKind prog w).hash k) 99999) Q E s') E s:=by
 refine wpAny_bind (wpAny_storeSet_of ho hd ?_ (fits_of_scanBound hz))
 obtain⟨o1,g1,x1,d1⟩:=zfh (es':=es1) (t':=t1) ho hx hd
 have sb:=Heap.SameBut.update s.heap a (Obj.putSet es1 t1)
 split
 ·have rp:=relayAll_perm t1 es1 (SetTable.grown es1.size)
  have rt:=zhe (es:=es1) (wanted:=SetTable.grown es1.size) T.led
  generalize relayAll t1 es1 (SetTable.grown es1.size)=R at rp rt ⊢
  obtain⟨es2,t2,gave⟩:=R
  dsimp only at rp rt ⊢
  have hz2:es2.size < scanBound:=by rw [← Array.length_toList,rp.length_eq,Array.length_toList];exact hz
  refine wpAny_bind (hg _ _ _ (wpAny_bind (wpAny_storeSet_of g1 d1 ?_ (fits_of_scanBound hz2))))
  refine wpAny_pure (wpAny_pure (h _ es2 (ep + 1 + 1) t2 (sb.trans (Heap.SameBut.update _ a _)) ⟨zfh g1 x1 d1,rt,fun e he=>el e (rp.mem_iff.mp he),(rp.map _).trans pm⟩))
 ·exact wpAny_pure (wpAny_pure (h _ es1 (ep + 1) t1 sb ⟨⟨o1,g1,x1,d1⟩,T,el,pm⟩))
theorem zid {Q:Bool→Shared→Prop} (x:SG prog w led s.heap a es ep t ds) (hz:es.size + 1 < scanBound)
  (h:∀ b h' es' ep' t',Heap.SameBut a s.heap h'→SG prog w led h' a es' ep' t' (if k∈ds then ds else ds ++ [k])→Q b { s with heap:=h' }):wpAny (model prog w) A (setAddHashed a (.int k u) ((intKind prog w).hash k)) Q E s:=by
 obtain⟨o,ho,hx,hd⟩:=x.ob
 have he:=zhI x.el
 unfold setAddHashed setAddHashedIn
 refine wpAny_holding (wpAny_bind (wpAny_setState_of ho hd x.tok.fit ?_))
 dsimp only
 rw [byScan_of (knd:=intKind prog w) rfl (by lia) he]
 simp only [↓reduceIte]
 unfold setAddByScan
 refine wpAny_bind (wpAny_bind (wpAny_rule (wpAny_bind ?_)))
 refine wpAny_setScan_of (knd:=intKind prog w) (k:=k) (intKind_is _ _ _ _) ho hd x.tok.fit he ?_
 cases hr:es.toList.findIdx? (fun e=>(intKind prog w).is k e.2) with
 | some j =>
  dsimp only
  obtain⟨hj,pj,_⟩:=List.findIdx?_eq_some_iff_getElem.mp hr
  obtain⟨k',u',ej⟩:=x.el _ (List.getElem_mem hj)
  rw [ej] at pj
  have ek:k=k':=(intKind prog w).inj _ _ _ pj (intKind_is _ _ _ _)
  have hm:k∈ds:=x.pm.mem_iff.mp (List.mem_map.mpr ⟨_,List.getElem_mem hj,by rw [ej,ek];rfl⟩)
  refine wpAny_pure (wpAny_pure ?_)
  have:=h false s.heap es ep t (Heap.SameBut.refl _ _) (by rw [if_pos hm];exact x)
  exact this
 | none =>
  dsimp only
  have hm:k∉ds:=fun hm=>by
   obtain⟨e,he',ee⟩:=List.mem_map.mp (x.pm.mem_iff.mpr hm)
   obtain⟨k',u',rfl⟩:=x.el e he'
   have:=List.findIdx?_eq_none_iff.mp hr _ he'
   obtain rfl:k'=k:=ee
   rw [intKind_is] at this
   cases this
  have lp:=layNew_perm t es ((intKind prog w).hash k) (.int k u)
  have lt:=zgD (h:=(intKind prog w).hash k) (x:=.int k u) x.tok
  generalize layNew t es ((intKind prog w).hash k) (.int k u)=L at lp lt ⊢
  obtain⟨es1,t1,wd,gave⟩:=L
  dsimp only at lp lt ⊢
  rw [Array.toList_push] at lp
  have gw:∀ (b:Bool) (s₁:Shared) (Q':Unit→Shared→Prop),Q' () s₁→wpAny (model prog w) A (match b with | true=>rule "set.scan.the-table-gave-way" | false=>pure ()) Q' E s₁:=by
   intro b s₁ Q' q
   cases b with
   | true=>exact wpAny_rule q
   | false=>exact wpAny_pure q
  refine wpAny_bind (gw _ _ _ ?_)
  have el1:∀ e∈es1.toList,∃ k u,e=((intKind prog w).hash k,Value.int k u):=fun e he=>by
   rcases List.mem_append.mp (lp.mem_iff.mp he) with z | z
   ·exact x.el e z
   ·exact⟨k,u,List.mem_singleton.mp z⟩
  have pm1:(es1.toList.map fun e=>nm e.2).Perm (ds ++ [k]):=by
   refine (lp.map _).trans ?_
   rw [List.map_append]
   exact List.Perm.append_right _ x.pm
  have hz1:es1.size < scanBound:=by
   rw [← Array.length_toList,lp.length_eq,List.length_append,Array.length_toList]
   exact hz
  have fin:=fun h' es' ep' t' sb (sg:SG prog w led h' a es' ep' t' (ds ++ [k]))=>h true h' es' ep' t' sb (by rw [if_neg hm];exact sg)
  split
  ·refine wpAny_bind (wpAny_pure ?_)
   simp only [↓reduceIte]
   exact zfJ (fun b s₁ Q' q=>by cases b <;> first | exact wpAny_pure q | exact wpAny_rule q) ho hx hd lt el1 pm1 hz1 fin
  ·refine wpAny_bind (wpAny_pure ?_)
   simp only [↓reduceIte]
   exact zfJ (fun b s₁ Q' q=>by cases b <;> first | exact wpAny_pure q | exact wpAny_rule q) ho hx hd lt el1 pm1 hz1 fin
end
end Sx
namespace Sx
open PySem PySem.Spec
open PyProof.Rows (IntsAre)
noncomputable def zhM (d:List Int) (k:Int):List Int:=if k∈d then d else d ++ [k]
noncomputable def dd (l:List Int):List Int:=l.foldl zhM []
theorem zi9 (l:List Int) (k:Int):dd (l ++ [k])=zhM (dd l) k:=by unfold dd;rw [List.foldl_append];rfl
theorem dd_len (l:List Int):(dd l).length≤l.length:=by
 unfold dd
 have:∀ (l d:List Int),(l.foldl zhM d).length≤d.length + l.length:=by
  intro l
  induction l with
  | nil=>intro d;exact Nat.le_refl _
  | cons k l ih =>
   intro d
   refine Nat.le_trans (ih _) ?_
   unfold zhM
   split
   ·rw [List.length_cons];lia
   ·rw [List.length_append,List.length_cons,List.length_cons,List.length_nil];lia
 simpa using this l []
def Sq1 (prog:Program) (w:World) (led:Bool) (S:Addr) (ds:List Int) (h:Heap):Prop:=∃ es ep t,SG prog w led h S es ep t ds
theorem Sq1.at {prog:Program} {w:World} {led:Bool} {S:Addr} {ds:List Int} {h h':Heap} (x:Sq1 prog w led S ds h) (e:∀ o,h.get? S=some o→h'.get? S=some o):Sq1 prog w led S ds h':=let ⟨es,ep,t,y⟩:=x;⟨es,ep,t,y.at e⟩
section
variable {prog:Program} {w:World} {A:Around} {R:Result→Shared→Prop} {I S:Addr} {fp wr:List Addr} {G:Array GenState→Array GenState→Prop} {n:Nat} {P:Nat→Value→Prop} {St:Nat→Shared→Prop} {led:Bool} {ns:List Int}
theorem zg9 (W:WalksS prog w A.in1 I fp wr G n P St) (hn:n + 1 < scanBound) (hl:ns.length=n) (hSf:S∉fp) (hval:∀ i v,P i v→∃ k u,ns[i]? = some k∧v=.int k u) :
  ∀ (d i:Nat) (s:Shared),d + i=n→St i s→Sq1 prog w led S (dd (ns.take i)) s.heap →
   (∀ s',Moved (S :: wr) G s s'→Sq1 prog w led S (dd ns) s'.heap→R (.ok (.ret .none)) s') →
   codeAny (model prog w) A (.builtin "set.update.loop" ⟨[.ref S,.ref I],[]⟩) R s:=by
 have nS:S∉wr:=fun h=>hSf (W.sub _ h)
 intro d
 induction d with
 | zero =>
  intro i s hd st x hR
  obtain rfl:i=n:=by lia
  refine codeAny_builtin PyProof.Rows.F.entry_set_update_loop ?_
  rw [Around.under_plainId PyProof.Rows.F.plain_set_update_loop _]
  unfold Builtin.«set.update.loop»
  refine wpAny_bind (W.done s _ _ st fun s' mv=>?_)
  rw [List.take_of_length_le (by lia)] at x
  exact wpAny_pure (hR s' (mv.mono fun b hb=>List.mem_cons_of_mem _ hb) (x.at fun o e=>mv.heap S o nS e))
 | succ d ih =>
  intro i s hd st x hR
  refine codeAny_builtin PyProof.Rows.F.entry_set_update_loop ?_
  rw [Around.under_plainId PyProof.Rows.F.plain_set_update_loop _]
  unfold Builtin.«set.update.loop»
  refine wpAny_bind (W.item i s _ _ (by lia) st fun v s' hP st' mv=>?_)
  obtain⟨k,u,hk,rfl⟩:=hval i v hP
  have et:ns.take (i + 1)=ns.take i ++ [k]:=by rw [List.take_add_one,hk];rfl
  refine wpAny_bind (wpAny_holding ?_)
  unfold setAdd
  refine wpAny_holding (wpAny_bind ((intKind prog w).pyHash (k:=k) (intKind_is _ _ _ _) ?_))
  obtain⟨es,ep,t,y⟩:=x
  have hz:es.size≤i:=by
   have h1:=y.pm.length_eq
   have h2:=dd_len (ns.take i)
   rw [List.length_map,Array.length_toList] at h1
   rw [List.length_take] at h2
   lia
  refine zid (led:=led) (s:={ s' with toks:=s'.toks + 1 }) (y.at fun o e=>mv.heap S o nS e) (by lia) fun b h' es' ep' t' sb y'=>?_
  refine wpAny_pure ⟨plainId_quiet PyProof.Rows.F.plain_set_update_loop _,ih (i + 1) _ (by lia) (W.frame _ s' _ _ st' (Nat.le_succ _) fun c hc o e=>?_) ⟨es',ep',t',by rw [et,zi9];exact y'⟩ fun s2 m2 x2=>?_⟩
  ·rw [sb.2 c fun q=>hSf (q ▸ hc)];exact e
  ·refine hR s2 (Moved.trans W.gtrans ((mv.mono fun c hc=>List.mem_cons_of_mem _ hc).then_heap (Nat.le_succ _) fun c o hc e=>?_) m2) x2
   rw [sb.2 c fun q=>hc (q ▸ List.mem_cons_self)];exact e
end
section
variable {prog:Program} {w:World} {A:Around} {E:Value→Shared→Prop} {s:Shared}
theorem zhE {h:Heap} {S:Addr} {led:Bool} (g:h.get? S=some (oS0 led)):Sq1 prog w led S (dd []) h:=
 ⟨#[],0,.fresh 0 0 led,⟨_,g,⟨rfl,rfl,rfl⟩,rfl⟩,⟨rfl,List.Pairwise.nil,rfl⟩,fun e he=>by simp at he,.refl _⟩
theorem zhB {its:Array Value} {ns:List Int} (h:IntsAre its.toList ns) (i:Nat) (v:Value) (e:its[i]? = some v):∃ k u,ns[i]? = some k∧v=Value.int k u:=by
 rw [← Array.getElem?_toList] at e
 generalize its.toList=l at h e
 induction h generalizing i with
 | nil=>simp at e
 | cons k u r ih =>
  cases i with
  | zero=>simp at e;exact⟨k,u,by simp,e.symm⟩
  | succ i=>simpa using ih i (by simpa using e)
set_option maxHeartbeats 3200000 in
theorem zgn {l S:Addr} {its:Array Value} {led:Bool} {ns:List Int} {R:Result→Shared→Prop} (hh:A.handled=none) (g0:s.heap.get? S=some (oS0 led)) (hl:s.heap.IsList l its) (hne:l≠S) (hn:its.size + 1 < scanBound)
  (hi:IntsAre its.toList ns)
  (h:∀ (h':Heap) (tk:Nat),Sq1 prog w led S (dd ns) h'→(∀ b o,b≠S→s.heap.get? b=some o→h'.get? b=some o)→s.toks≤tk→R (.ok (.ret .none)) { s with heap:=h',toks:=tk }) :
  codeAny (model prog w) A (.call (.builtin "set.__init__") ⟨[.ref S,.ref l],[]⟩) R s:=by
 have hT:s.TypeIs (.ref S) "set" := ⟨_,g0,rfl⟩
 refine codeAny_call_builtin F.called_set.init.plain F.entry_set_init (check_set_init_1 hT ?_)
 obtain⟨ol,hol,hcl,nl,hdl⟩:=id hl
 obtain⟨ocls,odict,odata,oslots⟩:=ol
 simp only at hcl hdl
 subst hcl hdl
 have w1:=F.sub_list_set
 have w2:=F.sub_list_frozenset
 have w3:(Value.type "list" == Value.type "dict")=false:=by decide
 have g0':=g0
 unfold oS0 at g0
 unfold Builtin.«set.__init__» noKeywords Builtin.Frozenset.updateFrom
 generalize hPI:pyIter=PI
 wp_walk
 subst hPI
 refine wpAny_pyIter_list hl ?_
 refine wpAny_bind (wpAny_runValue ?_)
 have nI:l≠s.heap.objs.size:=Nat.ne_of_lt (Heap.lt_size hol)
 have nS:S≠s.heap.objs.size:=Nat.ne_of_lt (Heap.lt_size g0)
 have hlen:ns.length=its.size:=by have:=hi.length;rw [Array.length_toList] at this;lia
 refine zg9 (led:=led) (n:=its.size) ((Walks.list (by simp [hh]) _ l nI its).toS) (S:=S) hn hlen (by simp [nS,Ne.symm hne]) (zhB hi) its.size 0 _ rfl ⟨⟨_,Heap.get?_push_size _ rfl,rfl,rfl⟩,hl.push _⟩ (zhE (Heap.get?_push_of_some _ g0')) fun s' mv x=>?_
 obtain⟨h',g',d',tk',os'⟩:=s'
 obtain rfl:g'=s.gens:=mv.gens
 obtain rfl:d'=s.drawn:=mv.drawn
 obtain rfl:os'=s.os:=mv.os
 refine wpAny_pure (wpAny_pure (h h' tk' x (fun b o hb e=>mv.heap b o ?_ (Heap.get?_push_of_some _ e)) mv.toks))
 simp only [List.mem_cons,List.not_mem_nil,or_false,not_or]
 exact⟨hb,Nat.ne_of_lt (Heap.lt_size e)⟩
set_option maxHeartbeats 3200000 in
theorem set_callG {l:Addr} {its:Array Value} {ns:List Int} {Q:Value→Shared→Prop} (hh:A.handled=none) (hl:s.heap.IsList l its) (hn:its.size + 1 < scanBound) (hi:IntsAre its.toList ns)
  (h:∀ (h':Heap) (tk:Nat),Sq1 prog w (ldOf w) s.heap.objs.size (dd ns) h'→(∀ b o,s.heap.get? b=some o→h'.get? b=some o)→s.toks≤tk→Q (.ref s.heap.objs.size) { s with heap:=h',toks:=tk }) :
  wpAny (model prog w) A (call (.type "set") [.ref l]) Q E s:=by
 obtain⟨c,tl,hmro⟩:=F.called_set.mro
 have w1:=F.called_set.made
 have w2:=F.called_set.sub
 have w3:=F.called_set.notType
 have w4:=F.called_set.canCreate
 have w5:=F.typeCall_set_1 (.ref l)
 refine wpAny_call (codeAny_of_tree ?_)
 show wpAny _ _ (callAny (Value.type "set") ⟨[Value.ref l],[]⟩) _ _ s
 refine wpAny_pure ⟨Code.quiet_builtin _ (by decide +kernel),?_⟩
 refine codeAny_builtin F.entry_type_call ?_
 rw [Around.under_plain (weight_type_call_type "set" [.ref l] []) rfl]
 repeat (any_goals (first | wp_step | assumption))
 refine codeAny_mono (zil (w:=w) (.ref l) (R:=fun r s1=>r=.ok (.ret (.ref s.heap.objs.size))∧s1 = { s with heap:=s.heap.push (oS0 (ldOf w)) }) ⟨rfl,rfl⟩) fun r s1 hr=>?_
 obtain⟨rfl,rfl⟩:=hr
 have g0:(s.heap.push (oS0 (ldOf w))).get? s.heap.objs.size=some (oS0 (ldOf w)):=Heap.get?_push_size _ rfl
 have hT:Shared.TypeIs { s with heap:=s.heap.push (oS0 (ldOf w)) } (.ref s.heap.objs.size) "set" := ⟨_,g0,rfl⟩
 have w6:=F.called_set.init.lookup
 have w7:=F.called_set.init.bind (.ref s.heap.objs.size)
 repeat (any_goals (first | wp_step | assumption))
 refine zgn (led:=ldOf w) (by simp [hh]) g0 (hl.push _) (Nat.ne_of_lt (let ⟨_,e,_⟩:=hl;Heap.lt_size e)) hn hi fun h' tk x1 x2 x3=>?_
 exact wpAny_pure (wpAny_pure (h h' tk x1 (fun b o e=>x2 b o (Nat.ne_of_lt (Heap.lt_size e)) (Heap.get?_push_of_some _ e)) x3))
end
end Sx
namespace Sx
open PySem PySem.Spec
section
variable (w:World) (S:Addr) (es:Array (Int×Value)) (ep:Nat) (t:SetTable) (tp:Option (Addr×List Nat))
end
section
variable {prog:Program} {w:World} {A:Around} {E:Value→Shared→Prop} {s:Shared} {S I:Addr} {es:Array (Int×Value)} {ep:Nat} {t:SetTable} {ds:List Int} {tp:Option (Addr×List Nat)} {i:Nat}
end
end Sx
namespace Sx
open PySem PySem.Spec
section
variable {prog:Program} {w:World} {A:Around} {E:Value→Shared→Prop} {s:Shared} {S I:Addr} {es:Array (Int×Value)} {ep:Nat} {t:SetTable} {ds:List Int} {tp:Option (Addr×List Nat)} {i:Nat}
end
end Sx
namespace Sx
open PySem PySem.Spec
section
variable {prog:Program} {w:World} {A:Around} {E:Value→Shared→Prop} {s:Shared} {S I:Addr} {es:Array (Int×Value)} {ep:Nat} {t:SetTable} {ds:List Int} {tp:Option (Addr×List Nat)} {i:Nat}
end
end Sx
namespace Sx
open PySem PySem.Spec
open PyProof.Rows (IntsAre)
section
variable {prog:Program} {w:World} {A:Around} {E:Value→Shared→Prop} {s:Shared} {S:Addr} {es:Array (Int×Value)} {ep:Nat} {t:SetTable} {ds:List Int}
open PyProof.Rows Srt in
end
end Sx
namespace TL
open PySem PySem.Spec L2
section
variable {X:Cx} {z:Z} {md md1:Md} {F:VEnv→Res T} {e:Expr} {t:TE} {p1 p2 p3 p4:Pos}
end
end TL
namespace TL
open PySem PySem.Spec L2
section
variable {X:Cx} {z:Z} {K:PySem.W.Frag} {f c q k:Nat}
variable {x:Str} {eT eM fe1 fe2 ce iter:Expr} {mT mM:List T→Res T} {pos p1 p2 p3 p4 p5 p6 p7 p8:Pos} {nm:Str}
end
end TL
namespace TL
open PySem PySem.Spec L2
section
variable {X:Cx} {z:Z} {K:PySem.W.Frag} {H:Hp} {S:Addr→Prop} {i:Nat} {a:Expr} {pos p1 p2 p3 p4:Pos}
end
end TL
namespace TL
open PySem PySem.Spec L2
section
variable {X:Cx} {z:Z} {K:PySem.W.Frag} {F:VEnv→Res T} {e b:Expr} {pos:Pos}
end
section
variable {X:Cx} {z:Z} {K:PySem.W.Frag} {i:Nat}
variable {p q:Nat} {x y:Str} {a a' a2 e:Expr} {pos p1 p2 p3 p4 p5 p6:Pos}
end
end TL
namespace L2
open PySem PySem.Spec PySem.W PySem.Builtin PySem.Builtin.ObjectAttr PySem.Builtin.Getset_descriptor
open PyProof.Rows hiding InstAt
structure ExcQ (K:Frag) (D:Addr):Prop where
 ga:findIn K (.ref D) "__getattribute__" = some (some (.builtin "BaseException.__getattribute__"))
 gh:findIn K (.ref D) "__getattr__" = some none
 cl:findIn K (.ref D) "__class__" = some (some (.builtin "object.__class__"))
 gt:specialIn K (.builtin "object.__class__") "__get__" = some (some (.builtin "getset_descriptor.__get__"))
 tk:takesIn K (.builtin "object.__class__")=some true
 mo:mroIn K D (.type "object")=some true
 mb:mroIn K D (.type "BaseException")=some true
 cs:(clsIn K D).isSome=true
noncomputable def excQ (K:Frag) (D:Addr):Bool:=findIn K (.ref D) "__getattribute__" == some (some (.builtin "BaseException.__getattribute__")) && (findIn K (.ref D) "__getattr__" == some none && (findIn K (.ref D) "__class__" == some (some (.builtin "object.__class__")) &&
 (specialIn K (.builtin "object.__class__") "__get__" == some (some (.builtin "getset_descriptor.__get__")) && (takesIn K (.builtin "object.__class__") == some true && (mroIn K D (.type "object") == some true && (mroIn K D (.type "BaseException") == some true && (clsIn K D).isSome))))))
theorem zdl {K:Frag} {D:Addr} (h:excQ K D=true):ExcQ K D:=by
 unfold excQ at h
 simp only [Bool.and_eq_true,beq_iff_eq] at h
 obtain⟨h1,h2,h3,h4,h5,h6,h7,h8⟩:=h
 exact⟨h1,h2,h3,h4,h5,h6,h7,h8⟩
section
variable {prog:Program} {w:World} {A:Around} {E:Value→Shared→Prop} {K:Frag} {x D:Addr} {ox:Obj}
theorem zcL {M:Model} {h:Heap} (hx:h.get? x=some ox) (hc:ox.cls=.ref D):Looks M h (typeOf (.ref x)) (.ref D):=hc ▸ (Looks.ld hx).andThen .now
theorem zi4 {M:Model} {h:Heap} (X:K.In h) (q:ExcQ K D):Looks M h (find (.ref x) (.ref D) "__class__") (.bind (.builtin "getset_descriptor.__get__") (.builtin "object.__class__")):=by
 refine (looks_findIn X q.cl).andThen ((looks_specialIn X q.gt).andThen (Looks.andThen (a:=some (.builtin "getset_descriptor.__get__", .builtin "object.__class__")) ?_ (Looks.tag .now)))
 exact (looks_takesIn X q.tk).andThen .now
theorem zkz {s:Shared} {R:Result→Shared→Prop} (hx:s.heap.get? x=some ox) (hc:ox.cls=.ref D) (h:R (.ok (.ret (.ref D))) s):codeAny (model prog w) A (.builtin "object.__class__" ⟨[.ref x],[]⟩) R s:=
 codeAny_builtin KF.entry_class <| by
  have L0:=zcL (M:=model prog w) hx hc
  unfold Builtin.«object.__class__» shownTypeOf;repeat lk
  exact h
theorem zkA {s:Shared} {R:Result→Shared→Prop} {tp:Value} (X:K.In s.heap) (q:ExcQ K D) (hx:s.heap.get? x=some ox) (hc:ox.cls=.ref D) (h:R (.ok (.ret (.ref D))) s) :
  codeAny (model prog w) A (.call (.builtin "getset_descriptor.__get__") ⟨[.builtin "object.__class__", .ref x,tp],[]⟩) R s:=
 codeAny_call_builtin KF.slot_gs.plain KF.entry_gs <| KF.slot_gs.check _ _ _ _ _ _ _ _ KF.type_class (KF.args_gs _ _ _) <| by
  cases s with | _ hh g dr t os
  have L0:=zcL (M:=model prog w) hx hc
  have L1:=looks_mroIn (M:=model prog w) X q.mo
  unfold Builtin.«getset_descriptor.__get__» descrGet descrGetter descrCheckInstance descrNameAndClass isInstance;rw [dga_obj]
  refine wpAny_bind (wpAny_pure ?_);simp only [KF.owner_class];repeat lk
  exact⟨Code.quiet_builtin _ (by decide +kernel),zkz hx hc (by (repeat lk);exact h)⟩
theorem zhJ {s:Shared} {tk:Tok} {Q:Fin→Shared→Prop} (X:K.In s.heap) (q:ExcQ K D) (hx:s.heap.get? x=some ox) (hc:ox.cls=.ref D) (h:Q (.done (.ret (.ref D))) s) :
  wpAny (model prog w) A (Builtin.«object.__getattribute__» ⟨[.ref x,.str "__class__" tk],[]⟩) Q E s:=by
 cases s with | _ hh g dr t os
 have L0:=zcL (M:=model prog w) hx hc
 have L1:=zi4 (M:=model prog w) (x:=x) X q
 unfold Builtin.«object.__getattribute__»;iterate 16 lk
 refine wpAny_bind (L1.at ?_)
 show wpAny _ _ (holding [.builtin "object.__class__"] (call (.builtin "getset_descriptor.__get__") [.builtin "object.__class__", .ref x,.ref D]) >>= ret) _ _ _
 exact wpAny_bind (wpAny_holding (wpAny_call (zkA X q hx hc (wpAny_pure h))))
theorem zhL {s:Shared} {M:Model} {nameV:Value} {Q:Unit→Shared→Prop} (X:K.In s.heap) (q:ExcQ K D) (hx:s.heap.get? x=some ox) (hc:ox.cls=.ref D) (h:Q () s) :
  wpAny M A (checkBuiltinCall "BaseException.__getattribute__" ⟨[.ref x,nameV],[]⟩) Q E s:=by
 cases s with | _ hh g dr t os
 have L0:=zcL (M:=M) hx hc
 have L1:=looks_mroIn (M:=M) X q.mb
 have ha:=PySem.F.args_bexc_ga (.ref x) nameV
 simp only [checkBuiltinCall,(by decide +kernel:builtinKind "BaseException.__getattribute__" = some .slot),(by decide +kernel:splitId "BaseException.__getattribute__" = some ("BaseException", "__getattribute__"))]
 unfold isInstance
 repeat lk
 repeat any_goals first | wp_step | assumption
theorem zi5 {s:Shared} {tk:Tok} {R:Result→Shared→Prop} (X:K.In s.heap) (q:ExcQ K D) (hx:s.heap.get? x=some ox) (hc:ox.cls=.ref D) (h:R (.ok (.ret (.ref D))) s) :
  codeAny (model prog w) A (.call (.builtin "BaseException.__getattribute__") ⟨[.ref x,.str "__class__" tk],[]⟩) R s:=
 codeAny_call_builtin PySem.F.excAttr_ValueError.ga.plain PySem.F.entry_bexc_ga (zhL X q hx hc (zhJ X q hx hc h))
theorem zhK {s:Shared} {Q:Option Value→Shared→Prop} (X:K.In s.heap) (q:ExcQ K D) (hx:s.heap.get? x=some ox) (hc:ox.cls=.ref D) (h:Q (some (.ref D)) { s with toks:=s.toks + 1 }) :
  wpAny (model prog w) A (getAttr? (.ref x) "__class__") Q E s:=by
 cases s with | _ hh g dr t os
 have L0:=zcL (M:=model prog w) hx hc
 have L1:=looks_findIn (M:=model prog w) X q.ga
 have L2:=looks_findIn (M:=model prog w) X q.gh
 have f3:=PySem.F.excAttr_ValueError.ga.bind (.ref x)
 unfold getAttr? getAttrBy? getAttrBy;refine wpAny_bind <| wpAny_mkText <| wpAny_bind <| wpAny_attempt <| wpAny_holding <| wpAny_bind <| L0.at <| wpAny_bind <| L1.at ?_
 simp only [(by decide +kernel:(Value.builtin "BaseException.__getattribute__" == Value.builtin "object.__getattribute__")=false),Bool.and_false,Bool.false_eq_true,if_false]
 unfold getAttrByItsOwn callGetattribute hookBefore boundAndCalled
 rw [if_pos (show onTheHeap (Value.ref D)=true from rfl)]
 refine wpAny_bind (L2.at ?_)
 simp only [Bool.false_and,Bool.false_eq_true,if_false,f3]
 refine wpAny_bind (wpAny_attempt (wpAny_holding (wpAny_bind (wpAny_pure (wpAny_call (zi5 (s:={ heap:=hh,gens:=g,drawn:=dr,toks:=t + 1,os:=os }) X q hx hc ?_))))))
 repeat any_goals first | wp_step | assumption
theorem zhu (q:ExcQ K D):KitX K (.ref x) (.ref D) (fun h=>∃ ox,h.get? x=some ox∧ox.cls=.ref D) where
 ty:=fun _ _ _ ⟨_,hx,hc⟩=>zcL hx hc
 it:=fun M h X _=>by
  have hD:=q.cs
  unfold clsIn at hD
  split at hD
  ·rename_i ho
   intro _ _ _ _ k z;unfold isType loadHead;exact wpAny_bind <| wpAny_loadPart (k _ _ (X _ _ ho)) <| wpAny_pure z
  ·cases hD
 ne:=fun _ _ _ _ _ _ X htp=>by
  refine Bool.eq_false_iff.mpr fun e=>?_
  cases Value.ref.inj (beq_iff_eq.mp e)
  have hD:=q.cs
  unfold clsIn at hD
  split at hD
  ·rename_i ho
   cases (X _ _ ho).symm.trans htp
  ·cases hD
 ca:=fun X ⟨_,hx,hc⟩ k=>zhK X q hx hc k
theorem zf2 {X:Cx} {a D:Addr} {oe:Obj} (hp:(a,oe)∈X.pn) (hc:oe.cls=.ref D) (q:ExcQ X.K D):zdu X (.builtin "isinstance") (fun xs H Q=>∃ c u b,xs=[.ref a,c]∧(∀ u',RelV c u'→u'=u)∧PySem.W.kitOne X.K (.ref D) u=some b∧Q (.bl b) H):=by
 intro pins s σ H xs us Q I r h
 obtain⟨c,u,b,rfl,hu,hk,q'⟩:=h
 obtain⟨u1,u2,rfl,r1,r2⟩:=Vals.two r
 obtain rfl:u1=.ref a:=r1
 obtain rfl:=hu _ r2
 obtain⟨p,_⟩:=I.pin (a,oe) (List.mem_append_left _ hp)
 exact kia_one (zhu q) I.kIn ⟨oe,p,hc⟩ hk (fun z=>nomatch z) fun tk=>⟨.bl b,H,I.tok _,rfl,q'⟩
end
end L2
namespace L2
open PySem PySem.Spec PyProof.Rows
noncomputable def wcx (P:Program) (w:World) (K:PySem.W.Frag) (mg:Str→Option Value) (base:Heap) (N:List Str) (qual:Str) (scope:Scope) (f:Addr) (cd:Value) (A:Around) (outer:List Env) (s:Shared) (H:Hp) (a:Addr) (oe:Obj):Cx:=
 { cxOf CX0 P w K mg base N qual scope f cd A outer s H (fun _ _ _=>False) with calm:=false,pn:=[(a,oe)],xe:=fun _ _=>False }
section
variable {P:Program} {w:World} {K:PySem.W.Frag} {mg:Str→Option Value} {base:Heap} {N ps:List Str} {qual x:Str} {st:Stmt} {f a:Addr} {fd:FuncData} {cd:Value} {A:Around} {outer:List Env} {s s1:Shared} {H:Hp} {oe:Obj} {us:List Value} {vs:List V} {scope:Scope}
theorem zlG (S:FnScope N ps scope) (e0:Env0 P w K mg base A outer s H) (ha:s.heap.get? a=some oe) (hH:H a=none) (hf:a∉frs outer) (hd:∀ v,oe.data≠.cell v) (hl:vs.length=ps.length) (r:Vals vs us)
  (x:InCallC s s.heap.objs.size (bindL (envOfC qual scope s.heap.objs.size f cd).kindOf (ps.zip us) fun _=>none) (cellsFrom (s.heap.objs.size + 1) scope.names []) (bindC (envOfC qual scope s.heap.objs.size f cd).kindOf (ps.zip us) fun _=>none) s1) :
  Inv (wcx P w K mg base N qual scope f cd A outer s H a oe) [] (start N vs) H s1:=by
 have I:Inv (cxOf CX0 P w K mg base N qual scope f cd ({ A with handled:=none }:Around) outer s H (fun _ _ _=>False)) [] (start N vs) H s1:=zen S rfl ⟨e0.frames,e0.mod,e0.bs,e0.bsz,e0.funs,e0.frf,e0.hok,e0.bare⟩ hl r x
 refine ⟨⟨I.ok.mod,I.ok.kind,I.ok.glob,I.ok.blt,I.ok.above,I.ok.inj,I.ok.has,I.ok.cab,(fun z=>nomatch z),Around.frames_deeper e0.frames,I.ok.stk,I.ok.exf,I.ok.bs,I.ok.bsz,I.ok.noex,I.ok.exfs,I.ok.funs,I.ok.frf⟩,I.os,I.bare,I.base,I.loc,I.cell,I.free,I.freeC,fun p hp=>?_,I.hok,I.len⟩
 rw [List.append_nil] at hp
 rw [List.mem_singleton.mp hp]
 refine ⟨x.toInCall.keep _ _ ha,hH,fun z=>?_,hf,hd⟩
 have h1:=Heap.lt_size ha
 rw [show a=s.heap.objs.size from z] at h1
 exact absurd h1 (Nat.lt_irrefl _)
theorem zle {Y:Cx} {pins:List (Addr×Obj)} {σ:St} {Q:VK} (hp:(a,oe)∈Y.pn) (F:Fun Y.K x qual st f fd) (S:FnScope N ps (defScope st)) (hdp:Y.A.depth < recursionLimit) (hb:za1 Y.K fd ps []) (I:Inv Y pins σ H s) (r:Vals vs us) (hl:vs.length=ps.length)
  (hbody:∀ (cdv:Value) (A:Around) (outer:List Env),(A=Y.A)→∃ t,PSs (wcx Y.prog Y.w Y.K Y.mg Y.base N qual (defScope st) f cdv A outer s H a oe) (defBody st) t∧t { nx:=fun _ H'=>Q .non H',rt:=Q } (start N vs) H) :
  wpAny (model Y.prog Y.w) Y.A (call (.ref f) us) (EP Y pins σ Q) Y.xe s:=by
 obtain⟨oc,od,kV,doc,pm,an,cdv,ct,osl,rfl,lk,hcd⟩:=F.ex
 have e0:=I.env0
 have KX:=I.kIn
 have hkind:∀ y∈ps.zip us,(defScope st).names.lookup y.1=some .local∨((defScope st).names.lookup y.1=some .cell∧((cellsFrom (s.heap.objs.size + 1) (defScope st).names []).lookup y.1).isSome=true):=fun ⟨n,v⟩ hy=>by
  rcases S.par n (List.of_mem_zip hy).1 with q | q
  ·exact .inl q
  ·exact .inr ⟨q,PySem.W.cellsFrom_some _ _ _ (.inl q)⟩
 have hus:(us ++ []).length=ps.length:=by rw [List.append_nil,← r.length,hl]
 have bt:=hb s us KX hus
 rw [List.append_nil] at bt
 refine wpAny_call (codeAny_call_function hdp (KX _ _ lk) rfl S.co S.gen rfl (PySem.W.codeRec_of KX hcd) (bt _ _ _ _ ?_))
 refine wpAny_newFunctionEnv_cells S.kind hkind fun env he s1 x=>?_
 subst he
 refine ⟨I.nolimit.keeps x.toInCall.keep,codeAny_func ?_⟩
 obtain⟨p1,p2,p3,p4,p5⟩:=I.pin (a,oe) (List.mem_append_left _ hp)
 have hfr:a∉frs Y.stack:=fun z=>by
  rcases I.ok.stk with e | ⟨e,e'⟩
  ·rw [e] at z;exact p4 z
  ·rw [e] at z
   unfold frs at z
   rw [List.filterMap_cons,e'] at z
   rcases List.mem_cons.mp z with z | z
   ·exact p3 z
   ·exact p4 z
 obtain⟨t,ht,hq⟩:=hbody cdv Y.A Y.stack rfl
 have J:=zlG (qual:=qual) (f:=f) (cd:=cdv) S e0 p1 p2 hfr p5 hl r x
 refine wpAny_mono (ht [] s1 (start N vs) H _ J hq) (fun fl s' hs=>?_) fun e s' hs=>False.elim hs
 have fin:∀ {σ':St} {H':Hp} {v:V} {u:Value},Inv (wcx Y.prog Y.w Y.K Y.mg Y.base N qual (defScope st) f cdv Y.A Y.stack s H a oe) [] σ' H' s'→RelV v u→Q v H'→CE Y.stack Y.prog Y.w H s Q u s':=
  fun {σ' H' v u} J rv q=>⟨v,H',J.os,J.bare,J.base,J.hok,rv,q⟩
 cases fl with
 | ret u =>
  obtain⟨v,σ',H',J,rv,q⟩:=hs
  exact I.after (fin J rv q)
 | next =>
  obtain⟨σ',H',J,q⟩:=hs
  exact I.after (fin (v:=V.non) (u:=Value.none) J rfl q)
 | brk =>
  obtain⟨_,_,_,q⟩:=hs
  exact False.elim q
 | cont =>
  obtain⟨_,_,_,q⟩:=hs
  exact False.elim q
theorem zhk {Y:Cx} {sp:Sp} {E:XK} {e:Expr} {es:List Expr} {t:TA} {p pos:Pos} (hp:(a,oe)∈Y.pn) (F:Fun Y.K x qual st f fd) (S:FnScope N ps (defScope st)) (len:∀ vs H Q E,sp vs H Q E→vs.length=ps.length) (hdp:Y.A.depth < recursionLimit) (hb:za1 Y.K fd ps [])
  (hbody:∀ (cdv:Value) (A:Around) (outer:List Env) (s:Shared) (H:Hp) (vs:List V) (Q:VK),A=Y.A→sp vs H Q E→∃ t,PSs (wcx Y.prog Y.w Y.K Y.mg Y.base N qual (defScope st) f cdv A outer s H a oe) (defBody st) t∧t { nx:=fun _ H'=>Q .non H',rt:=Q } (start N vs) H)
  (hg:Gl Y x) (hm:Y.mg x=some (.ref f)) (ha:PA Y (e :: es) t) (hdb:(x == ("__debug__" : Str))=false:=by decide) (he:starEach (e :: es) Y.env=(false,eval e Y.env) :: starEach es Y.env:=by rfl) (hpl:(backTo pos (starEach es Y.env)).any (·.1)=false:=by rfl) :
  PE Y (.Call (.Name x p) (e :: es) [] pos) (zij sp [] E t):=by
 intro pins s σ H Q I h
 refine wpAny_Call_Name_kw (zde I hg hm ?_ hdb)
 refine PySem.W.callWith_K (h₀:=Y.base) I.ok.mod.kin F.kp (thn (ha pos pins s σ H _ I h) fun us s1 ⟨vs,H1,I1,r,q⟩=>⟨I1.kIn,?_⟩) he hpl
 replace q:sp (vs ++ []) H1 Q E:=q
 rw [List.append_nil] at q
 exact zle hp F S hdp hb I1 r (len _ _ _ _ q) fun cdv A outer hA=>hbody cdv A outer s1 H1 vs Q hA q
end
end L2
namespace TL
open PySem PySem.Spec L2
open PyProof.Rows hiding St InstAt
section
variable {X:Cx} {z:Z} {md md1 md2:Md} {F1 F2:VEnv→Res T} {Fs:VEnv→Res (List T)} {a b e:Expr} {es:List Expr} {pos p p1 p2 p5:Pos} {i:Nat}
noncomputable def eIsC (i:Nat) (E:Addr) (r:Bool):VEnv→Res T:=fun ρ=>match ρ[i]? with
 | some (some (.sc (.ref b)))=>if b=E then .ok (.sc (.bl r)) else .bad
 | _=>.bad
theorem zdJ {E D:Addr} {oe:Obj} {r:Bool} {v:V} {u:Value} (hp:(E,oe)∈X.pn) (hD:oe.cls=.ref D) (q:ExcQ X.K D) (hg:Gl X "isinstance") (hm:X.mg "isinstance" = none) (hx:PE X a (tVar i)) (hc:PE X b (tC v)) (hv:∀ u',RelV v u'→u'=u) (hk:PySem.W.kitOne X.K (.ref D) u=some r)
  (he:starEach [a,b] X.env=(false,eval a X.env) :: starEach [b] X.env:=by rfl) (he2:starEach [b] X.env=(false,eval b X.env) :: starEach [] X.env:=by rfl) (hpl:(backTo pos (starEach [b] X.env)).any (·.1)=false:=by rfl) :
  JE X z md (eIsC i E r) (.Call (.Name "isinstance" p5) [a,b] [] pos):=
 PE.imp (zfl (zf2 hp hD q) hg hm boot_isinstance (zcf hx (zcf hc zdH he2) he) (by decide) (by decide) he hpl) fun σ H Q h=>by
  obtain⟨S,ρ,o,h⟩:=h
  unfold eIsC at h
  split at h
  ·rename_i b e
   split at h
   ·rename_i hb
    subst hb
    obtain⟨w,h1,h2⟩:=o.sl i _ e
    obtain⟨_,rfl⟩:=zad.mp h2
    exact⟨_,h1,v,u,r,rfl,hv,hk,h _ H S [] (Got.sc o.dom _)⟩
   ·exact (show False from h).elim
  ·exact (show False from h).elim
theorem zbQ {K:PySem.W.Frag} {t c:Value} {r:Bool} (h:PySem.W.kitCls K t c=some r) (hc:PySem.W.kitCls K c c=some true):PySem.W.kitOne K t c=some r:=by
 unfold PySem.W.kitOne
 split
 ·rename_i e
  obtain rfl:=beq_iff_eq.mp e
  rw [h] at hc
  exact hc.symm
 ·exact h
theorem zbP {K:PySem.W.Frag} {a:Addr} {n:String} {r:Bool} (h:PySem.W.kitCls K (.ref a) (.type n)=some r):PySem.W.kitOne K (.ref a) (.type n)=some r:=by
 unfold PySem.W.kitOne
 rw [if_neg (fun e=>by cases beq_iff_eq.mp e)]
 exact h
noncomputable def zdz:List T→Option (List Bool)
 | []=>some []
 | .sc (.bl b) :: ts=>(zdz ts).map (b :: ·)
 | _ :: _=>none
theorem zeb {K:PySem.W.Frag} {H:Hp} {S:Addr→Prop}:∀ {ts:List T} {vs:List V} {bs:List Bool},Dens K H S ts .al [] vs→zdz ts=some bs→vs=bs.map V.bl
 | [],vs,bs,d,h=>by unfold zdz at h;cases h;unfold Dens at d;rw [d.2];rfl
 | t :: ts,vs,bs,d,h=>by
  unfold Dens at d
  obtain⟨A1,A2,v,vs',ea,rfl,d1,d2⟩:=d
  obtain⟨rfl,rfl⟩:=List.append_eq_nil_iff.mp ea.symm
  unfold zdz at h
  split at h
  ·rename_i e;cases e
  ·rename_i e
   cases e
   obtain⟨_,rfl⟩:=zad.mp d1
   cases e2:zdz ts with
   | none=>rw [e2] at h;cases h
   | some bs'=>rw [e2] at h;cases h;rw [zeb d2 e2];rfl
  ·cases h
theorem zgY:∀ {bs:List Bool} {its:List Value},Vals (bs.map V.bl) its→its=bs.map Value.bool
 | [],its,r=>by cases r;rfl
 | b :: bs,its,r=>by
  cases r with
  | cons h r=>rw [zgY r,show _=Value.bool b from h];rfl
noncomputable def rCnt:V→List V→Hp→VK→Prop:=fun x vs H Q=>∃ (l:Addr) (bs:List Bool) (k:Bool),x=.ref l∧vs=[.bl k]∧H l=some (.lst (bs.map V.bl))∧Q (.int ((bs.countP (· == k):Nat):Int)) H
noncomputable def zlq:V→List V→Hp→VK→Prop:=fun x vs H Q=>∃ (l:Addr) (bs:List Bool) (k:Bool),x=.ref l∧vs=[.bl k]∧H l=some (.lst (bs.map V.bl))∧k∈bs∧Q (.int ((bs.idxOf k:Nat):Int)) H
theorem zib (k:Bool) {bs:List Bool} {y:Value} (hy:y∈bs.map Value.bool) (A:Around) (s:Shared):PySem.SeqAt.EqAt A s y (.bool k) (isBoolOf k y):=by
 obtain⟨b,_,rfl⟩:=List.mem_map.mp hy
 exact PySem.SeqAt.EqAt.bool_bool b k
theorem zkd:MtR X "list.count" rCnt:=by
 intro pins s σ H x vs v us Q I rx rv h
 obtain⟨l,bs,k,rfl,rfl,hH,q⟩:=h
 cases rx
 obtain⟨u,rfl,ru⟩:=rv.one
 obtain rfl:u=.bool k:=ru
 obtain⟨its,r,pl,hz⟩:=I.list (.of hH)
 obtain rfl:=zgY r
 obtain⟨⟨cls,dd,data,sl⟩,ho,hc,n,hd⟩:=id pl.isList
 simp only at hc hd
 subst hc hd
 refine call_meets PySem.F.slot_list_count ⟨_,ho,rfl⟩ PySem.F.entry_list_count (PySem.F.args_list_count_2 _ _) (SeqAt.list_countAt l (bs.map Value.bool).toArray n dd sl (.bool k) (isBoolOf k)) ⟨ho,fun y hy=>zib k (by simpa using hy) _ _,?_⟩
 have e:(bs.map Value.bool).toArray.toList.countP (isBoolOf k)=bs.countP (· == k):=by
  show (bs.map Value.bool).countP (isBoolOf k)=_
  rw [List.countP_map]
  rfl
 rw [e]
 exact⟨.int _,H,I.tok _,⟨_,rfl⟩,q⟩
theorem zgN {k:Bool}:∀ {bs:List Bool} {j:Nat},j < bs.idxOf k→∀ (h2:j < bs.length),bs[j]≠k
 | b :: r,0,h,_=>by
  intro e
  rw [show b=k from e] at h
  simp at h
 | b :: r,j + 1,h,h2=>by
  rw [List.idxOf_cons] at h
  cases e:(b == k) with
  | true=>rw [e] at h;simp at h
  | false=>rw [e] at h;exact zgN (bs:=r) (by simpa using h) (by simpa using h2)
theorem ziJ:MtR X "list.index" zlq:=by
 intro pins s σ H x vs v us Q I rx rv h
 obtain⟨l,bs,k,rfl,rfl,hH,hk,q⟩:=h
 cases rx
 obtain⟨u,rfl,ru⟩:=rv.one
 obtain rfl:u=.bool k:=ru
 obtain⟨its,r,pl,hz⟩:=I.list (.of hH)
 obtain rfl:=zgY r
 rw [List.length_map] at hz
 obtain⟨⟨cls,dd,data,sl⟩,ho,hc,n,hd⟩:=id pl.isList
 simp only at hc hd
 subst hc hd
 have hj:bs.idxOf k < bs.length:=List.idxOf_lt_length_iff.mpr hk
 have h63:(sizeLine:Nat) < 2 ^ 62:=by decide
 refine call_meets PySem.F.slot_list_index ⟨_,ho,rfl⟩ PySem.F.entry_list_index (PySem.F.args_list_index_2 _ _) (SeqAt.list_indexAt l (bs.map Value.bool).toArray n dd sl (.bool k) (isBoolOf k) (bs.idxOf k) (by simpa using hj) (by lia) ?_ ?_) ⟨ho,fun y hy=>zib k (by simpa using hy) _ _,?_⟩
 ·simp only [List.getElem_toArray,List.getElem_map]
  show (bs[bs.idxOf k] == k)=true;simpa using List.getElem_idxOf hj
 ·intro j hjs hlt
  simp only [List.getElem_toArray,List.getElem_map]
  show (bs[j] == k)=false
  have hjl:j < bs.length:=by simpa using hjs
  rw [beq_eq_false_iff_ne]
  intro ek
  exact zgN hlt hjl ek
 ·exact⟨.int (bs.idxOf k:Nat),H,I.tok _,⟨_,rfl⟩,q⟩
noncomputable def oCnt (ts:List T):T→Option T
 | .sc (.bl k)=>(zdz ts).map fun bs=>.sc (.int ((bs.countP (· == k):Nat):Int))
 | _=>none
noncomputable def zhm (ts:List T):T→Option T
 | .sc (.bl k)=>(zdz ts).bind fun bs=>if k∈bs then some (.sc (.int ((bs.idxOf k:Nat):Int))) else none
 | _=>none
noncomputable def eMt (g:List T→T→Option T) (F1 F2:VEnv→Res T):VEnv→Res T:=fun ρ=>(F1 ρ).bind fun t=>match t with
 | .lst ts=>(F2 ρ).bind fun u=>.of (g ts u)
 | _=>.bad
theorem zkq {g:List T→T→Option T} {nm:Str} {id:String} {rr:V→List V→Hp→VK→Prop} (hs:PySem.Slot "list" nm id) (ht:typeOf (.builtin id)=pure (.type "method_descriptor")) (hM:MtR X id rr)
  (hg:∀ {H:Hp} {S:Addr→Prop} {Q:VK} {l:Addr} {vs:List V} {ts:List T} {v:V} {u:T},Dom S H→H l=some (.lst vs)→Dens X.K H S ts .al [] vs→Den X.K H S u .al [] v→endT X.K H S md Q (g ts u)→rr (.ref l) [v] H Q)
  (hx:JE X z md1 F1 a) (he:JE X z md2 F2 e)
  (hbase:attributeBase a nm X.env (eval a X.env)=eval a X.env:=by rfl)
  (hfew:((backTo p2 (starEach [e] X.env)).all (fun x=>!x.1) && (backToKw p2 (keywordEach [] X.env)).all (fun x=>x.1.isSome) && decide ([e].length + ([]:List Keyword).length + (if ([]:List Keyword).isEmpty then 0 else 1) < 30))=true:=by rfl)
  (hline:(p1.endLine == p2.line)=true:=by rfl) (hst:starEach [e] X.env=(false,eval e X.env) :: starEach [] X.env:=by rfl) (hplain:(backTo p2 (starEach [] X.env)).any (·.1)=false:=by rfl) :
  JE X z md (eMt g F1 F2) (.Call (.Attribute a nm p1) [e] [] p2):=
 PE.imp (zj0 PySem.F.plainAttrs_list hs ht hM (JE.al hx) (zcf (JE.al he) zdH hst) hbase hfew hline hst hplain) fun σ H Q h =>
  zdU h fun S ρ t v H1 S1 o _ g1 d q=>by
   cases t with
   | sc _=>exact (show False from q).elim
   | scr _=>exact (show False from q).elim
   | tup _=>exact (show False from q).elim
   | lst ts =>
    obtain⟨_,l,vs,rfl,hS,h1,h2⟩:=zag.mp d
    refine ⟨.inl ⟨rfl,vs,.of h1⟩,S1,ρ,o,?_⟩
    replace q:endE X.K z H1 S1 md Q ((F2 ρ).bind fun u=>.of (g ts u)):=q
    cases e2:F2 ρ with
    | exc c=>rw [e2] at q;exact q
    | bad=>rw [e2] at q;exact q
    | ok u =>
     rw [e2] at q
     intro v2 H2 S2 A2 g2
     obtain rfl:=g2.den.alA
     exact hg g2.g.dom (g2.g.same _ _ h1) (h2.mono g2.g.same g2.g.up) g2.den (zdm (z:=z) (endE.grow g2.g q))
theorem zkr (hx:JE X z md1 F1 a) (he:JE X z md2 F2 e)
  (hbase:attributeBase a "count" X.env (eval a X.env)=eval a X.env:=by rfl)
  (hfew:((backTo p2 (starEach [e] X.env)).all (fun x=>!x.1) && (backToKw p2 (keywordEach [] X.env)).all (fun x=>x.1.isSome) && decide ([e].length + ([]:List Keyword).length + (if ([]:List Keyword).isEmpty then 0 else 1) < 30))=true:=by rfl)
  (hline:(p1.endLine == p2.line)=true:=by rfl) (hst:starEach [e] X.env=(false,eval e X.env) :: starEach [] X.env:=by rfl) (hplain:(backTo p2 (starEach [] X.env)).any (·.1)=false:=by rfl) :
  JE X z md (eMt oCnt F1 F2) (.Call (.Attribute a "count" p1) [e] [] p2):=
 zkq PySem.F.slot_list_count PySem.F.type_list_count zkd (fun {H S Q l vs ts v u} dm hl d du q=>by
  unfold oCnt at q
  split at q
  ·rename_i k
   obtain⟨_,rfl⟩:=zad.mp du
   cases ea:zdz ts with
   | none=>rw [ea] at q;exact (show False from q).elim
   | some bs =>
    rw [ea] at q
    have ev:=zeb d ea
    subst ev
    exact⟨l,bs,k,rfl,rfl,hl,q _ _ S [] (Got.sc dm _)⟩
  ·exact (show False from q).elim) hx he hbase hfew hline hst hplain
theorem ziS (hx:JE X z md1 F1 a) (he:JE X z md2 F2 e)
  (hbase:attributeBase a "index" X.env (eval a X.env)=eval a X.env:=by rfl)
  (hfew:((backTo p2 (starEach [e] X.env)).all (fun x=>!x.1) && (backToKw p2 (keywordEach [] X.env)).all (fun x=>x.1.isSome) && decide ([e].length + ([]:List Keyword).length + (if ([]:List Keyword).isEmpty then 0 else 1) < 30))=true:=by rfl)
  (hline:(p1.endLine == p2.line)=true:=by rfl) (hst:starEach [e] X.env=(false,eval e X.env) :: starEach [] X.env:=by rfl) (hplain:(backTo p2 (starEach [] X.env)).any (·.1)=false:=by rfl) :
  JE X z md (eMt zhm F1 F2) (.Call (.Attribute a "index" p1) [e] [] p2):=
 zkq PySem.F.slot_list_index PySem.F.type_list_index ziJ (fun {H S Q l vs ts v u} dm hl d du q=>by
  unfold zhm at q
  split at q
  ·rename_i k
   obtain⟨_,rfl⟩:=zad.mp du
   cases ea:zdz ts with
   | none=>rw [ea] at q;exact (show False from q).elim
   | some bs =>
    rw [ea] at q
    have ev:=zeb d ea
    subst ev
    replace q:endT X.K H S md Q (if k∈bs then some (.sc (.int ((bs.idxOf k:Nat):Int))) else none):=q
    split at q
    ·rename_i hk
     exact⟨l,bs,k,rfl,rfl,hl,hk,q _ _ S [] (Got.sc dm _)⟩
    ·exact (show False from q).elim
  ·exact (show False from q).elim) hx he hbase hfew hline hst hplain
theorem zhz {f E:Addr} {oe:Obj} {fd:FuncData} {x qual:Str} {st₀:Stmt} {N ps:List Str} {n:Nat} {R:SEnv→SRes} (hp:(E,oe)∈X.pn) (F:Fun X.K x qual st₀ f fd) (S:FnScope N ps (defScope st₀)) (hn:ps.length=n) (hdp:X.A.depth < recursionLimit) (hb:za1 X.K fd ps [])
  (hbody:∀ (cdv:Value) (A:Around) (outer:List Env) (s:Shared) (H:Hp) (S₀:Addr→Prop),Dom S₀ H→A=X.A→JSs (wcx X.prog X.w X.K X.mg X.base N qual (defScope st₀) f cdv A outer s H E oe) ⟨H,S₀,z.cl,z.E⟩ R (defBody st₀))
  (hg:Gl X x) (hm:X.mg x=some (.ref f)) (ha:JA X z md1 Fs (e :: es)) (hdb:(x == ("__debug__" : Str))=false:=by decide) (he:starEach (e :: es) X.env=(false,eval e X.env) :: starEach es X.env:=by rfl) (hpl:(backTo pos (starEach es X.env)).any (·.1)=false:=by rfl) :
  JE X z md (zaR n (fun ts=>fin md (R (zav N ts))) Fs) (.Call (.Name x p) (e :: es) [] pos):=
 PE.imp (zhk (sp:=spT X.K z.cl n md fun ts=>fin md (R (zav N ts))) hp F S (fun vs H Q E h=>by
  obtain⟨S,ts,h1,_,h2,_⟩:=h
  rw [h2.length,h1,hn]) hdp hb (fun cdv A outer s H vs Q hA h=>by
  obtain⟨S₀,ts,h1,hd,h2,h3⟩:=h
  refine ⟨_,hbody cdv A outer s H S₀ hd hA,S₀,fun _=>[],zav N ts,?_,?_⟩
  ·refine ⟨Same.refl _,hd,?_,fun _ h=>h,fun _ h=>.inl h,fun _=>List.nodup_nil,fun _ _ z=>(nomatch z),fun _ _ _ _ z=>(nomatch z),fun i m t e=>zei h2 e⟩
   unfold zav L2.start
   rw [List.length_append,List.length_append,List.length_map,List.length_map,List.length_replicate,List.length_replicate,h2.length]
  ·replace h3:endC X.K z.cl H S₀ md Q z.E (fin md (R (zav N ts))):=h3
   cases e:R (zav N ts) with
   | nx ρ' =>
    rw [e] at h3
    intro S' As' σ' H' o q
    exact h3 .non H' S' [] ⟨⟨o.same,o.s0,o.s1,o.dom⟩,List.nodup_nil,fun _ z=>(nomatch z),zcy _⟩
   | rt m t =>
    rw [e] at h3
    by_cases hm:m=md∨md=.al∨isSc t=true
    ·have e3:fin md (.rt m t)=.ok t:=if_pos hm
     rw [e3] at h3
     intro v H' S' A g
     obtain⟨S2,A2,g2⟩:=g.weak hm
     exact h3 v H' S2 A2 g2
    ·have e3:fin md (.rt m t)=.bad:=if_neg hm
     rw [e3] at h3
     exact (show False from h3).elim
   | exc c=>rw [e] at h3;exact h3
   | bad=>rw [e] at h3;exact (show False from h3).elim) hg hm (JA.al ha) hdb he hpl) fun σ H Q=>zgi
theorem ziL {k:Nat} {A:Around} {v:Option Value} (r:Room k A):(A.mark v).depth < recursionLimit:=by
 have:=r.depth
 cases v <;> exact this
theorem ziK {k:Nat} {A:Around} {v:Option Value} {env:Env} (r:Room k A):((A.mark v).deeper env).units + 5 < cLine:=by
 have h:A.units + 3 + 5 < cLine:=by have:=r.un;lia
 cases v <;> exact h
noncomputable def zgP (cs:List Nat) (c':Nat) (md:Md) (t:Nat→T) (Hd:Nat→SRes):Nat→SRes:=fun c=>if cs.contains c=true then (if subC c c'=true then .rt md (t c) else Hd c) else .bad
theorem zhw {x n:Str} {C':Addr} {c':Nat} {b₀:Stmt} {body:List Stmt} {rest:List ExceptHandler} {np:Pos} {md:Md} {t:Nat→T} {Hd:Nat→SRes} {Rh:Nat→Addr→SEnv→SRes} (cs:List Nat) (hcl:z.cl c'=C') (hdom:Dom z.S₀ z.H₀) (hg:Gl X x) (hm:X.mg x=some (.ref C')) (hN:X.N.Nodup) (hi:X.N[i]? = some n)
  (hx:X.env.scope.names.lookup n=some .local) (hsub:∀ c∈cs,PySem.W.exmOne X.K (.ref (z.cl c)) (.ref C')=some (subC c c'))
  (hsu:∀ a oe c,c∈cs→subC c c'=true→oe.cls=.ref (z.cl c)→PSs (hcx X a oe) (b₀ :: body) (st X.K z (Rh c a))) (hres:∀ c∈cs,subC c c'=true→∀ a,Rh c a (envE X.N.length i a)=.rt md (t c)) (hr:JH X z Hd rest) (hdb:(x == ("__debug__" : Str))=false:=by decide) :
  JH X z (zgP cs c' md t Hd) (.ExceptHandler (some (.Name x np)) (some n) (b₀ :: body) pos :: rest):=by
 refine PH.imp (ziy (ts:=fun a oe D σ H=>∃ c∈cs,subC c c'=true∧oe.cls=.ref (z.cl c)∧st X.K z (Rh c a) D σ H) hg hm hN hi hx (fun a oe=>?_) hr hdb) fun C Q H h=>?_
 ·intro pins s σ H D I h
  obtain⟨c,h1,h2,h3,q⟩:=h
  exact hsu a oe c h1 h2 h3 pins s σ H D I q
 ·obtain⟨c,rfl,sm,h⟩:=h
  unfold zgP at h
  by_cases hc:cs.contains c=true
  ·have hc':c∈cs:=by simpa using hc
   refine ⟨subC c c',hsub c hc',?_⟩
   cases hs:subC c c' with
   | false =>
    rw [if_neg (by decide)]
    rw [if_pos hc,hs] at h
    exact⟨c,rfl,sm,h⟩
   | true =>
    rw [if_pos rfl]
    rw [if_pos hc,hs] at h
    intro a oe σ hcls ha hl
    refine ⟨c,hc',hs,hcls,z.S₀,fun _=>[],envE X.N.length i a,⟨sm,fun b hb=>zbd sm (hdom b hb),?_,fun _ h=>h,fun _ h=>.inl h,fun _=>List.nodup_nil,fun _ _ q=>(nomatch q),fun _ _ _ _ q=>(nomatch q),fun j m u e=>?_⟩,?_⟩
    ·unfold envE;simp [hl]
    ·unfold envE at e
     by_cases hj:j=i
     ·subst hj
      by_cases hlt:j < X.N.length
      ·rw [List.getElem?_set_self (by simpa using hlt)] at e
       cases e
       exact⟨.ref a,by rw [List.getElem?_set_self (by lia)],zcy _⟩
      ·rw [List.getElem?_eq_none (by simp;lia)] at e;cases e
     ·rw [List.getElem?_set_ne (Ne.symm hj),List.getElem?_replicate] at e
      split at e <;> cases e
    ·rw [hres c hc' hs a]
     exact h
  ·rw [if_neg hc] at h
   exact h.elim
theorem zbR {ss:List Stmt}:JSs X z (fun _=>.bad) ss:=fun pins s σ H D I h=>by
 obtain⟨S,As,ρ,o,h⟩:=h
 exact (show False from h).elim
end
end TL
namespace TL
open PySem PySem.Spec L2
noncomputable def cLS:T→Option T
 | .lst ts=>(zcB ts).bind fun ns=>if ns.length≤1000 then some (.sc (.int ((Sx.dd ns).length:Nat))) else none
 | _=>none
noncomputable def eLS (F:VEnv→Res T):VEnv→Res T:=fun ρ=>(F ρ).bind fun t=>.of (cLS t)
def tLS (t:TE):TE:=fun σ H Q=>t σ H fun v H1=>∃ (a:Addr) (ns:List Int),v=.ref a∧H1 a=some (.lst (ns.map V.int))∧ns.length≤1000∧Q (.int ((Sx.dd ns).length:Nat)) H1
section
variable {X:Cx} {z:Z} {md md1:Md} {F:VEnv→Res T} {e:Expr} {t:TE} {p1 p2 p3 p4:Pos}
theorem zlx (hc:X.calm=true) (hg:Gl X "len") (hm:X.mg "len" = none) (hg2:Gl X "set") (hm2:X.mg "set" = none) (he:PE X e t)
  (s1:starEach [.Call (.Name "set" p1) [e] [] p2] X.env=[(false,eval (.Call (.Name "set" p1) [e] [] p2) X.env)]:=by rfl) (s2:starEach [e] X.env=[(false,eval e X.env)]:=by rfl) :
  PE X (.Call (.Name "len" p3) [.Call (.Name "set" p1) [e] [] p2] [] p4) (tLS t):=by
 intro pins s σ H Q I h
 refine wpAny_Call_Name_kw (zcu I hg hm PySem.boot_len ?_)
 refine PyProof.Rows.callWith_builtin1 ?_ s1 rfl
 rw [s1]
 refine Calls.spliced_cons ?_
 refine wpAny_Call_Name_kw (zcu I hg2 hm2 zkC ?_)
 refine PyProof.Rows.callWith_type1 ?_ s2 rfl
 rw [s2]
 refine Calls.spliced_cons (thn (he pins s σ H _ I h) fun u s1 ⟨v,H1,I1,r1,a,ns,e1,e2,e3,q⟩=>?_)
 subst e1
 cases r1
 obtain⟨its,i1,i2,hz,hl⟩:=zeo I1 e2 rfl
 have z1:its.toArray.size + 1 < scanBound:=by rw [List.size_toArray,hl];unfold scanBound;lia
 refine Calls.spliced_nil (Sx.set_callG (I1.ok.hd hc) i2 z1 (by simpa using i1) fun h' tk x1 x2 x3=>?_)
 obtain⟨es,ep,tb,x1⟩:=x1
 have dl:=Sx.dd_len ns
 have ee:es.size=(Sx.dd ns).length:=by
  have:=x1.pm.length_eq
  rw [List.length_map,Array.length_toList] at this
  exact this
 obtain⟨o,ho,hx,hd⟩:=x1.ob
 refine Calls.spliced_nil (call_len_set (s:={ s1 with heap:=h',toks:=tk }) ho hx hd x1.tok.fit (by lia) ?_)
 rw [ee]
 exact⟨.int _,H1,I1.kept (t':=tk + 1 + 1) fun b o w=>x2 b o w,⟨_,rfl⟩,q⟩
theorem zgI (hc:X.calm=true) (hg:Gl X "len") (hm:X.mg "len" = none) (hg2:Gl X "set") (hm2:X.mg "set" = none) (he:JE X z md1 F e)
  (s1:starEach [.Call (.Name "set" p1) [e] [] p2] X.env=[(false,eval (.Call (.Name "set" p1) [e] [] p2) X.env)]:=by rfl) (s2:starEach [e] X.env=[(false,eval e X.env)]:=by rfl) :
  JE X z md (eLS F) (.Call (.Name "len" p3) [.Call (.Name "set" p1) [e] [] p2] [] p4):=
 PE.imp (zlx hc hg hm hg2 hm2 (JE.al he) s1 s2) fun σ H Q h=>zdU h fun S ρ t v H1 S1 o _ g1 d q=>by
  unfold cLS at q
  split at q
  ·rename_i ts0 ts
   cases ea:zcB ts0 with
   | none=>rw [ea] at q;exact (show False from q).elim
   | some ns =>
    rw [ea] at q
    replace q:endE X.K z H1 S1 md Q (.of (if ns.length≤1000 then some (.sc (.int ((Sx.dd ns).length:Nat))) else none)):=q
    split at q
    ·rename_i le
     obtain⟨_,a,vs,rfl,hS,h1,h2⟩:=zag.mp d
     have ev:=zdq h2 ea
     subst ev
     exact⟨a,ns,rfl,h1,le,zdm (z:=z) q _ _ S1 [] (Got.sc g1.dom _)⟩
    ·exact (show False from q).elim
  ·exact (show False from q).elim
end
end TL
set_option maxRecDepth 1000000
namespace TL
open PySem PySem.Spec L2
section
variable {X:Cx} {z:Z} {md md1 md2:Md} {F:VEnv→Res T} {a b e:Expr} {es:List Expr} {pos p p1 p2 p5:Pos} {i j:Nat} {K:PySem.W.Frag} {H:Hp} {S:Addr→Prop} {As:Nat→List Addr} {ρ:SEnv} {σ:St}
end
end TL
namespace TL
open PySem PySem.Spec L2
section
variable {X:Cx} {z:Z} {elt tg iter c:Expr} {scope:Scope} {pos cpos:Pos} {i:Nat} {N':List Str} {Bt:VEnv→Res Bool}
end
end TL
namespace TL
open PySem PySem.Spec L2
open PyProof.Rows hiding St
theorem sz1:1≤sizeLine:=by decide
theorem sz2:2≤sizeLine:=by decide
def spL (K:PySem.W.Frag):Sp:=fun vs H Q _=>∃ (a:Addr) (ns:List Int),vs=[.ref a]∧Scr K H a ns∧ns.length≤63∧∀ H',Q (.bl true) H'
theorem law_fn {P:Program} {w:World} {K:PySem.W.Frag} {mg:Str→Option Value} {base:Heap} {k j:Nat} {f:Addr} {fd:FuncData} {cl:Nat→Addr} {m:List T→Res T} {x:Str} (F:FnOk P w K mg base (CXe P w) k f fd [x] (spT K cl 1 .fu m)) (hk:k≤j)
  (hm:∀ ns:List Int,ns.length≤63→m [.scr ns]=.ok (.sc (.bl true))):FnOk P w K mg base (CXe P w) j f fd [x] (spL K):=
 (F.mono hk).imp fun vs H Q E h=>by
  obtain⟨a,ns,rfl,hs,hl,q⟩:=h
  refine ⟨fun _=>False,[.scr ns],rfl,fun _ z=>z.elim,?_,?_⟩
  ·unfold Dens
   exact⟨[],[],.ref a,[],rfl,rfl,ze0.mpr ⟨rfl,a,rfl,hs⟩,by unfold Dens;exact⟨rfl,rfl⟩⟩
  ·rw [hm ns hl]
   intro v H' S' A g
   obtain⟨_,rfl⟩:=zad.mp g.den
   exact q H'
theorem zam {K:PySem.W.Frag} {a c:Value} {b:Bool} (h:PySem.W.exmOne K a c=some b):PySem.W.kitCls K a c=some b:=by
 unfold PySem.W.exmOne at h
 split at h
 ·exact h
 ·cases h
theorem zjF {K:PySem.W.Frag} {H:Hp} {a:Addr} {ns:List Int} (hO:Only H) (hS:SqL K H a (ns.map V.int)):Scr K H a ns:=by
 rcases hS with (h | h) | h
 ·rcases hO a with q | ⟨o,xs,q⟩
  ·rw [q] at h;cases h
  ·rw [q] at h;cases h
 ·exact .inl h
 ·exact .inr h
theorem walk {l:PySem.W.OpenLaw} {q:Program} {loose:List Str} {XP:(Str→Option Value)→Heap→Prop} {YP:World→Heap→Prop} {d:DefRec} {K:Params→PySem.W.Frag} (hn:l.most=some 63) (hdf:d.params.defaults=[])
  (hY:∀ (w:World) (h:Heap),YP w h→(K w.params).In h)
  (F:∀ (w:World) (mg:Str→Option Value) (fa:Addr) (h:Heap),(K w.params).In h→h.Ns mainGlobals mg→mg d.name=some (.ref fa) →
   ∃ fd:FuncData,(∀ (s:Shared) (u:Value),BindsTo s fd ⟨[u],[]⟩ [("script", u)])∧∀ base:Heap,(K w.params).In base→base.Ns mainGlobals mg→FnOk l.prog w (K w.params) mg base (CXe l.prog w) 12 fa fd ["script"] (spL (K w.params))) :
  PySem.W.WalkO q loose XP YP l.row.toRowW d [] (fun f vs=>PySem.call f vs):=
 L2.walk_of (n:=63) (k:=12) (x := "script") (CX:=fun w=>CXe l.prog w) (sp:=fun w=>spL (K w.params)) hn (by decide) hdf ⟨rfl,by decide,by decide⟩ hY F
  (fun w H a ns hl hO hS=>⟨a,ns,rfl,zjF hO hS,hl,fun _=>rfl⟩) fun w H s e s' h=>by
   obtain⟨_,_,_,_,_,h⟩:=h
   exact h.elim
theorem zbq {α:Type} {P:List α→Prop} {us:List α} (hl:us.length=1) (h:∀ a,P [a]):P us:=match us,hl with | [a],_=>h a
theorem zel {α:Type} {P:List α→Prop} {us:List α} (hl:us.length=2) (h:∀ a b,P [a,b]):P us:=match us,hl with | [a,b],_=>h a b
end TL
namespace TL
open PySem PySem.Spec L2
@[simp] theorem zk9 (R1 R2:SEnv→SRes) (ρ:SEnv):sSeq R1 R2 ρ=((R1 ρ).then R2):=rfl
@[simp] theorem zla (md:Md) (M:List Bool) (F:VEnv→Res T) (ρ:SEnv):sRet md M F ρ=((F (view M ρ)).sthen fun t=>.rt md t):=rfl
@[simp] theorem zk8 (i:Nat) (M:List Bool) (F:VEnv→Res T) (ρ:SEnv):sSet i M F ρ=((F (view M ρ)).sthen fun t=>if i < ρ.length then .nx (ρ.set i (some (.fu,t))) else .bad):=rfl
@[simp] theorem zkO (md:Md) (i:Nat) (M:List Bool) (F:VEnv→Res T) (ρ:SEnv):zhc md i M F ρ=((F (view M ρ)).sthen fun t=>if i < ρ.length then .nx ((zaB M ρ).set i (some (md,t))) else .bad):=rfl
@[simp] theorem zl2 (M:List Bool) (B:VEnv→Res Bool) (R1 R2:SEnv→SRes) (ρ:SEnv):sIf M B R1 R2 ρ=((B (view M ρ)).sthen fun b=>if b=true then R1 ρ else R2 ρ):=rfl
@[simp] theorem zkQ (M:List Bool) (F:VEnv→Res T) (ρ:SEnv):zbm M F ρ=((F (view M ρ)).sthen fun _=>.nx ρ):=rfl
@[simp] theorem zml (g:T→T→Option T) (F1 F2:VEnv→Res T) (ρ:VEnv):eOp g F1 F2 ρ=((F1 ρ).bind fun t=>(F2 ρ).bind fun u=>.of (g t u)):=rfl
@[simp] theorem zmk (g:T→Option T) (F1:VEnv→Res T) (ρ:VEnv):eUn g F1 ρ=((F1 ρ).bind fun t=>.of (g t)):=rfl
@[simp] theorem eB_ap (F:VEnv→Res T) (ρ:VEnv):eB F ρ=((F ρ).bind fun t=>.of (asB t)):=rfl
@[simp] theorem zlV (B1 B2:VEnv→Res Bool) (ρ:VEnv):bAnd B1 B2 ρ=((B1 ρ).bind fun b=>if b=true then B2 ρ else .ok false):=rfl
@[simp] theorem zmp (B1 B2:VEnv→Res Bool) (ρ:VEnv):bOr B1 B2 ρ=((B1 ρ).bind fun b=>if b=true then .ok true else B2 ρ):=rfl
@[simp] theorem zlU (B1:VEnv→Res Bool) (ρ:VEnv):bNot B1 ρ=((B1 ρ).bind fun b=>.ok (!b)):=rfl
@[simp] theorem eC_ap (v:V) (ρ:VEnv):eC v ρ=(.ok (.sc v)):=rfl
@[simp] theorem zlY  (ρ:VEnv):aNil ρ=(.ok []):=rfl
@[simp] theorem zk0 (F:VEnv→Res T) (Fs:VEnv→Res (List T)) (ρ:VEnv):zab F Fs ρ=((F ρ).bind fun t=>(Fs ρ).bind fun ts=>.ok (t :: ts)):=rfl
@[simp] theorem zlT (Fs:VEnv→Res (List T)) (ρ:VEnv):eLst Fs ρ=((Fs ρ).bind fun ts=>.of (zcU ts)):=rfl
@[simp] theorem zlS (Fs:VEnv→Res (List T)) (ρ:VEnv):eTup Fs ρ=((Fs ρ).bind fun ts=>.of (zgf ts)):=rfl
@[simp] theorem zkV (n:Nat) (m:List T→Res T) (Fs:VEnv→Res (List T)) (ρ:VEnv):zaR n m Fs ρ=((Fs ρ).bind fun ts=>if ts.length=n then m ts else .bad):=rfl
@[simp] theorem zmn (g:List T→Option T) (Fs:VEnv→Res (List T)) (ρ:VEnv):eB1 g Fs ρ=((Fs ρ).bind fun ts=>.of (g ts)):=rfl
@[simp] theorem zlL (F:VEnv→Res T) (ρ:VEnv):iLst F ρ=((F ρ).bind fun t=>.of (asL t)):=rfl
@[simp] theorem zlJ (g:List T→Option (List T)) (Fs:VEnv→Res (List T)) (ρ:VEnv):iRng g Fs ρ=((Fs ρ).bind fun ts=>.of (g ts)):=rfl
@[simp] theorem zkU (ix:List (Option Nat)) (I:VEnv→Res (List T)) (gE:T→VEnv→Option VEnv) (F:VEnv→Res T) (ρ:VEnv):zgS ix I gE F ρ=((I ρ).bind fun ts=>(mapL gE F (zaH ix ρ) ts).bind fun us=>.of (zcU us)):=rfl
@[simp] theorem zkB (ix:List (Option Nat)) (I:VEnv→Res (List T)) (gE:T→VEnv→Option VEnv) (Bt:VEnv→Res Bool) (F:VEnv→Res T) (ρ:VEnv):zdn ix I gE Bt F ρ=((I ρ).bind fun ts=>(mapT gE Bt F (zaH ix ρ) ts).bind fun us=>.of (zcU us)):=rfl
@[simp] theorem zlc (M:List Bool) (I:VEnv→Res (List T)) (gT:T→SEnv→Option SEnv) (B:SEnv→SRes) (ρ:SEnv):sFor M I gT B ρ=((I (view M ρ)).sthen fun ts=>forL gT B ts (zaB M ρ)):=rfl
@[simp] theorem gS_ap (i:Nat) (t:T) (ρ:SEnv):gS i t ρ=(if i < ρ.length then some (ρ.set i (some (.al,t))) else none):=rfl
@[simp] theorem gE_ap (i:Nat) (t:T) (ρ:VEnv):gE i t ρ=(if zdh ρ i=true then some (ρ.set i (some t)) else none):=rfl
@[simp] theorem zld (i:Nat) (md:Md) (M:List Bool) (F:VEnv→Res T) (ρ:SEnv):sExt i md M F ρ=(zfN i ρ fun m ts=>(F (view M ρ)).sthen fun t=>zi1 i md M m ts t ρ):=rfl
@[simp] theorem zjJ (c:Nat) (M:List Bool) (U:VEnv→Res Unit) (ρ:SEnv):zbw c M U ρ=((U (view M ρ)).sthen fun _=>.exc c):=rfl
@[simp] theorem zl1  (ρ:VEnv):uOk ρ=(.ok ()):=rfl
@[simp] theorem zk1 (F:VEnv→Res T) (U:VEnv→Res Unit) (ρ:VEnv):uInt F U ρ=((F ρ).bind fun t=>match t with
 | .sc (.int i)=>if 0≤i∧i < 100 then U ρ else .bad
 | _=>.bad):=rfl
@[simp] theorem zmm (g:List T→Option (List T)) (Fs:VEnv→Res (List T)) (ρ:VEnv):eLR g Fs ρ=((Fs ρ).bind fun ts=>.of ((g ts).bind fun us=>if us.length≤1000000 then some (.lst us) else none)):=rfl
@[simp] theorem zlI (F:VEnv→Res T) (ρ:VEnv):iSeq F ρ=((F ρ).bind fun t=>.of (asS t)):=rfl
@[simp] theorem zlP  (ρ:Nat):hBad ρ=(.bad):=rfl
@[simp] theorem zk7 (R:SEnv→SRes) (Hd:Nat→SRes) (ρ:SEnv):sTry R Hd ρ=(match R ρ with
 | .exc c=>match Hd c with
  | .rt md t=>.rt md t
  | _=>.bad
 | r=>r):=rfl
@[simp] theorem zl6 (i j:Nat) (t:T) (ρ:SEnv):gS2 i j t ρ=(match t with
 | .tup [x,y]=>(gS i x ρ).bind (gS j y)
 | _=>none):=rfl
@[simp] theorem zl7 (i j:Nat) (t:T) (ρ:VEnv):gE2 i j t ρ=(match t with
 | .tup [x,y]=>if i=j then none else if zdh ρ j=true then (gE i x ρ).bind (gE j y) else none
 | _=>none):=rfl
end TL
namespace TL
open PySem PySem.Spec L2
@[simp] theorem zkK (ρ:SEnv):view [] ρ=[]:=rfl
@[simp] theorem zjy (M:List Bool):view M []=[]:=by cases M <;> (unfold view;rfl)
@[simp] theorem zjz (b:Bool) (bs:List Bool) (s:Option (Md×T)) (ρ:SEnv):view (b :: bs) (s :: ρ)=(if b=true then s.map (·.2) else none) :: view bs ρ:=rfl
@[simp] theorem zjx (ρ:SEnv):zaB [] ρ=ρ:=rfl
@[simp] theorem zi8 (b:Bool) (bs:List Bool) (s:Option (Md×T)) (ρ:SEnv):zaB (b :: bs) (s :: ρ)=(if b=true then s.map (fun p=>(Md.al,p.2)) else s) :: zaB bs ρ:=rfl
@[simp] theorem zkw (t:T) (md:Md):fin md (.rt md t)=.ok t:=if_pos (.inl rfl)
@[simp] theorem zl8 (md:Md) (ρ:SEnv):fin md (.nx ρ)=.ok (.sc .non):=rfl
@[simp] theorem zlR (md:Md) (c:Nat):fin md (.exc c)=.exc c:=rfl
@[simp] theorem zkN (N:List Str) (a:T):zav N [a]=some (.al,a) :: List.replicate (N.length - 1) none:=rfl
@[simp] theorem zkM (N:List Str) (a b:T):zav N [a,b]=some (.al,a) :: some (.al,b) :: List.replicate (N.length - 2) none:=rfl
@[simp] theorem zkL (N:List Str) (a b c:T):zav N [a,b,c]=some (.al,a) :: some (.al,b) :: some (.al,c) :: List.replicate (N.length - 3) none:=rfl
@[simp] theorem zmj (t:T) (ρ:VEnv):eVar 0 (some t :: ρ)=.ok t:=rfl
@[simp] theorem zl9 (i:Nat) (o:Option T) (ρ:VEnv):eVar (i + 1) (o :: ρ)=eVar i ρ:=rfl
@[simp] theorem zmi (o:Option T) (ρ:VEnv):eVar 1 (o :: ρ)=eVar 0 ρ:=rfl
@[simp] theorem zmh (o o1:Option T) (ρ:VEnv):eVar 2 (o :: o1 :: ρ)=eVar 0 ρ:=rfl
@[simp] theorem zmg (o o1 o2:Option T) (ρ:VEnv):eVar 3 (o :: o1 :: o2 :: ρ)=eVar 0 ρ:=rfl
@[simp] theorem zmf (o o1 o2 o3:Option T) (ρ:VEnv):eVar 4 (o :: o1 :: o2 :: o3 :: ρ)=eVar 0 ρ:=rfl
@[simp] theorem zme (o o1 o2 o3 o4:Option T) (ρ:VEnv):eVar 5 (o :: o1 :: o2 :: o3 :: o4 :: ρ)=eVar 0 ρ:=rfl
@[simp] theorem zmd (o o1 o2 o3 o4 o5:Option T) (ρ:VEnv):eVar 6 (o :: o1 :: o2 :: o3 :: o4 :: o5 :: ρ)=eVar 0 ρ:=rfl
@[simp] theorem zmc (o o1 o2 o3 o4 o5 o6:Option T) (ρ:VEnv):eVar 7 (o :: o1 :: o2 :: o3 :: o4 :: o5 :: o6 :: ρ)=eVar 0 ρ:=rfl
@[simp] theorem zmb (o o1 o2 o3 o4 o5 o6 o7:Option T) (ρ:VEnv):eVar 8 (o :: o1 :: o2 :: o3 :: o4 :: o5 :: o6 :: o7 :: ρ)=eVar 0 ρ:=rfl
@[simp] theorem zma (o o1 o2 o3 o4 o5 o6 o7 o8:Option T) (ρ:VEnv):eVar 9 (o :: o1 :: o2 :: o3 :: o4 :: o5 :: o6 :: o7 :: o8 :: ρ)=eVar 0 ρ:=rfl
@[simp] theorem zkP (i:Nat) (ρ:SEnv):zgr i ρ=(match ρ[i]? with | some (some (m,t))=>.rt m t | _=>.bad):=rfl
@[simp] theorem oI_ap (g:Int→Int→Option V) (i j:Int):oI g (.sc (.int i)) (.sc (.int j))=(g i j).map .sc:=rfl
@[simp] theorem zlN (i j:Int):iAdd i j=some (.int (i + j)):=rfl
@[simp] theorem zlH (i j:Int):iSub i j=some (.int (i - j)):=rfl
@[simp] theorem zl4 (i j:Int):iLt i j=some (.bl (decide (i < j))):=rfl
@[simp] theorem zl5 (i j:Int):iGt i j=some (.bl (decide (j < i))):=rfl
@[simp] theorem zkt:zgK []=[]:=rfl
@[simp] theorem zjv (i:Int) (l:List Int):zgK (i :: l)=.sc (.int i) :: zgK l:=rfl
theorem zjb {α:Type} {l:List α} {i:Int} {x:α} (h0:0≤i) (h:l[i.toNat]? = some x):atI l i=some x:=by
 unfold atI ixN
 have:i.toNat < l.length:=(List.getElem?_eq_some_iff.mp h).1
 rw [if_pos h0,if_pos (by lia)]
 exact h
@[simp] theorem zl3 {i j:Int} (h:0 < j):iMod i j=some (.int (i % j)):=if_pos h
@[simp] theorem zlb (ρ:SEnv):sNil ρ=.nx ρ:=rfl
@[simp] theorem zlE (ts:List T) (i:Int):oIx (.lst ts) (.sc (.int i))=atI ts i:=rfl
@[simp] theorem zlC (ts:List T) (i:Int):oIx (.tup ts) (.sc (.int i))=atI ts i:=rfl
@[simp] theorem zlD (ns:List Int) (i:Int):oIx (.scr ns) (.sc (.int i))=(atI ns i).map fun n=>.sc (.int n):=rfl
@[simp] theorem zkY (ts:List T):cLen [.lst ts]=some (.sc (.int ts.length)):=rfl
@[simp] theorem zkW (ts:List T):cLen [.tup ts]=some (.sc (.int ts.length)):=rfl
@[simp] theorem zkX (ts:List Int):cLen [.scr ts]=some (.sc (.int ts.length)):=rfl
@[simp] theorem zkJ (i:Nat) (ρ:SEnv) (k:Md→List T→SRes):zfN i ρ k=(match ρ[i]? with | some (some (m,.lst ts))=>k m ts | _=>.bad):=rfl
@[simp] theorem zkZ (ts:List T):ze3 .sp ts=some (.lst ts):=rfl
@[simp] theorem zkF:ze3 .fu []=some (.lst []):=rfl
@[simp] theorem zkT (gT:T→SEnv→Option SEnv) (B:SEnv→SRes) (ρ:SEnv):forL gT B [] ρ=.nx ρ:=rfl
theorem zkv (gT:T→SEnv→Option SEnv) (B:SEnv→SRes) (t:T) (ts:List T) (ρ:SEnv):forL gT B (t :: ts) ρ=(match gT t ρ with | some ρ1=>(B ρ1).then (forL gT B ts) | none=>.bad):=rfl
@[simp] theorem zjw (ρ:VEnv):zaH [] ρ=[]:=rfl
@[simp] theorem ziW (ix:List (Option Nat)) (ρ:VEnv):zaH (none :: ix) ρ=none :: zaH ix ρ:=rfl
@[simp] theorem ziV (j:Nat) (ix:List (Option Nat)) (ρ:VEnv):zaH (some j :: ix) ρ=(ρ[j]?).join :: zaH ix ρ:=rfl
@[simp] theorem zkS (ρ:VEnv):zdh (none :: ρ) 0=true:=rfl
@[simp] theorem zkR (i:Int):oNeg (.sc (.int i))=some (.sc (.int (-i))):=rfl
end TL
namespace TL
open PySem PySem.Spec L2
end TL
namespace Qk11
open PySem PySem.Spec L2 TL
open PyProof.Rows hiding St
noncomputable def top (i:Nat):Stmt:=PySem.Challenge.pw_likesums_k11_refusals_apart.main.body.getD i (.Pass ⟨0,0,0,0⟩)
noncomputable abbrev zbl:Stmt:=top 54
noncomputable abbrev zaD:Stmt:=top 9
noncomputable abbrev zbB:Stmt:=top 10
noncomputable abbrev zaI:Stmt:=top 8
noncomputable abbrev zc9:Stmt:=top 15
noncomputable abbrev zas:Stmt:=top 23
noncomputable abbrev zaM:Stmt:=top 26
noncomputable abbrev zan:Stmt:=top 24
noncomputable abbrev za4:Stmt:=top 21
noncomputable abbrev za3:Stmt:=top 22
noncomputable abbrev zda:Stmt:=top 35
noncomputable abbrev zbA:Stmt:=top 43
noncomputable abbrev zeM:Stmt:=top 45
noncomputable abbrev zat:Stmt:=top 47
noncomputable abbrev za5:Stmt:=top 46
noncomputable abbrev zce:Stmt:=top 50
noncomputable abbrev zbt:Stmt:=top 55
noncomputable abbrev zeH:Stmt:=top 56
noncomputable abbrev s_law:Stmt:=top 57
noncomputable def zbz:List Str:=["script", "k"]
noncomputable def zds (ρ:SEnv):SRes:=(sSeq (sIf [true,true] (eB (eOp (oI iLt) (eVar 1) (eB1 cLen (zab (eVar 0) aNil)))) (sRet .fu [true,true] (fun ρ=>chk ((eOp oIx (eVar 0) (eVar 1)) ρ))) sNil)
 (sRet .fu [false,false] (eC (.int 0)))) ρ
noncomputable def zbx (ts:List T):Res T:=fin .fu (zds (zav zbz ts))
noncomputable def zbb:List Str:=["board", "largest", "size", "row"]
noncomputable def zcY (ρ:SEnv):SRes:=(sIf [false,false,true,true] (eB (eOp (oNe) (eB1 cLen (zab (eVar 3) aNil)) (eVar 2))) (zbw 1 [false,false,false,false] uOk) sNil) ρ
@[simp] noncomputable def zcX (ρ:SEnv):SRes:=(sFor [true,false,false,false] (iLst (eVar 0)) (gS 3) zcY) ρ
@[simp] noncomputable def zcW (ρ:SEnv):SRes:=(sSeq (sIf [false,true,true,false] (bOr (eB (eOp (oI iLt) (eVar 2) (eC (.int 1)))) (eB (eOp (oI iGt) (eVar 2) (eVar 1)))) (zbw 1 [false,true,false,false] (uInt (eVar 1) uOk)) sNil)
 zcX) ρ
noncomputable def zdB (ρ:SEnv):SRes:=(sSeq (sSet 2 [true,false,false,false] (eB1 cLen (zab (eVar 0) aNil)))
 zcW) ρ
noncomputable def zbv (ts:List T):Res T:=fin .fu (zdB (zav zbb ts))
noncomputable def zc5:List Str:=["lists", "numbers", "part"]
noncomputable def zgb (ρ:SEnv):SRes:=(sExt 1 .al [false,false,true] (eVar 2)) ρ
@[simp] noncomputable def zf6 (ρ:SEnv):SRes:=(sSeq (sFor [true,false,false] (iSeq (eVar 0)) (gS 2) zgb)
 (zgr 1)) ρ
noncomputable def zhX (ρ:SEnv):SRes:=(sSeq (sSet 1 [false,false,false] (eLst aNil))
 zf6) ρ
noncomputable def zd2 (ts:List T):Res T:=fin .fu (zhX (zav zc5 ts))
noncomputable def zbj:List Str:=["board"]
@[simp] noncomputable def zdr (ρ:SEnv):SRes:=(sIf [true] (eB (eOp (oNe) (eB1 zd9 (zab (zaR 1 zd2 (zab (eVar 0) aNil)) aNil)) (eLR rng2 (zab (eC (.int 1)) (zab (eOp (oI iAdd) (eOp (oI iMul) (eB1 cLen (zab (eVar 0) aNil)) (eB1 cLen (zab (eVar 0) aNil))) (eC (.int 1))) aNil))))) (zbw 1 [false] uOk) sNil) ρ
noncomputable def zec (ρ:SEnv):SRes:=(sSeq (zbm [true] (zaR 2 zbv (zab (eVar 0) (zab (eC (.int 12)) aNil))))
 zdr) ρ
noncomputable def zaO (ts:List T):Res T:=fin .fu (zec (zav zbj ts))
noncomputable def zfK:List Str:=["board"]
noncomputable def zkG (ρ:SEnv):SRes:=(sSeq (zbm [true] (zaR 1 zaO (zab (eVar 0) aNil))) (fun _=>.bad)) ρ
noncomputable def zh5 (ts:List T):Res T:=fin .fu (zkG (zav zfK ts))
noncomputable def zaK:List Str:=["board", "placed", "number"]
noncomputable def zb9:VEnv→Res T:=(fun ρ=>chk ((eVar 0) ρ))
noncomputable def zb7 (ρ:SEnv):SRes:=(sIf [true,false,true] (bOr (eB (eOp (oI iLt) (eVar 2) (eC (.int 1)))) (eB (eOp (oI iGt) (eVar 2) (eOp (oI iMul) (eB1 cLen (zab (eVar 0) aNil)) (eB1 cLen (zab (eVar 0) aNil)))))) (zbw 1 [false,false,false] uOk) sNil) ρ
@[simp] noncomputable def zb3 (ρ:SEnv):SRes:=(sFor [false,true,false] (iLst (eVar 1)) (gS 2) zb7) ρ
@[simp] noncomputable def zb2 (ρ:SEnv):SRes:=(sSeq (sIf [false,true,false] (eB (eOp (oNe) (eLS (eVar 1)) (eB1 cLen (zab (eVar 1) aNil)))) (zbw 1 [false,false,false] uOk) sNil)
 zb3) ρ
@[simp] noncomputable def zb1 (ρ:SEnv):SRes:=(sSeq (sSet 1 [true,false,false] (zdn [none] (iLst (zaR 1 zd2 (zab (eVar 0) aNil))) (gE 0) (eB (eOp (oNe) (eVar 0) (eC (.int 0)))) zb9))
 zb2) ρ
noncomputable def zcD (ρ:SEnv):SRes:=(sSeq (zbm [true,false,false] (zaR 2 zbv (zab (eVar 0) (zab (eC (.int 4)) aNil))))
 zb1) ρ
noncomputable def zbo (ts:List T):Res T:=fin .fu (zcD (zav zaK ts))
noncomputable def zbs:List Str:=["board", "cells", "r", "row"]
noncomputable def zdD:VEnv→Res T:=(eTup (zab (fun ρ=>chk ((eVar 2) ρ)) (zab (fun ρ=>chk ((eVar 0) ρ)) aNil)))
noncomputable def zdC (ρ:SEnv):SRes:=(sExt 1 .fu [false,false,true,true] (zdn [none,none,some 2] (zhC (eVar 3)) (gE2 0 1) (eB (eOp (oEq) (eVar 1) (eC (.int 0)))) zdD)) ρ
@[simp] noncomputable def zdA (ρ:SEnv):SRes:=(sSeq (sFor [true,false,false,false] (zhC (eVar 0)) (gS2 2 3) zdC)
 (zgr 1)) ρ
noncomputable def zeB (ρ:SEnv):SRes:=(sSeq (sSet 1 [false,false,false,false] (eLst aNil))
 zdA) ρ
noncomputable def zcS (ts:List T):Res T:=fin .fu (zeB (zav zbs ts))
noncomputable def zaG:List Str:=["board"]
noncomputable def zb6 (ρ:SEnv):SRes:=(sIf [true] (bAnd (eB (eOp (oEq) (eB1 cLen (zab (eVar 0) aNil)) (eC (.int 4)))) (eB (eOp (oI iGt) (eB1 cLen (zab (zaR 1 zcS (zab (eVar 0) aNil)) aNil)) (eC (.int 6))))) (zbw 4 [false] (uInt (eC (.int 4)) (uInt (eC (.int 6)) uOk))) sNil) ρ
noncomputable def zbg (ts:List T):Res T:=fin .fu (zb6 (zav zaG ts))
noncomputable def zbY:List Str:=["board", "found", "cell"]
noncomputable def zf8 (ρ:SEnv):SRes:=(sSeq (zbm [true,false,false] (zaR 1 zbo (zab (eVar 0) aNil))) (sSeq (zbm [true,false,false] (zaR 1 zbg (zab (eVar 0) aNil))) (fun _=>.bad))) ρ
noncomputable def zcJ (ts:List T):Res T:=fin .fu (zf8 (zav zbY ts))
noncomputable def zbX:List Str:=["board"]
noncomputable def zf7 (ρ:SEnv):SRes:=(sRet .fu [true] (eB1 cLen (zab (zaR 1 zcJ (zab (eVar 0) aNil)) aNil))) ρ
noncomputable def zcI (ts:List T):Res T:=fin .fu (zf7 (zav zbX ts))
noncomputable def zfL:List Str:=["size"]
noncomputable def zkI (ρ:SEnv):SRes:=(sSeq (sIf [true] (bOr (eB (eOp (oI iLt) (eVar 0) (eC (.int 1)))) (bOr (eB (eOp (oI iGt) (eVar 0) (eC (.int 12)))) (eB (eOp (oEq) (eVar 0) (eC (.int 2)))))) (zbw 3 [false] (uInt (eC (.int 12)) uOk)) sNil) (fun _=>.bad)) ρ
noncomputable def zh6 (ts:List T):Res T:=fin .fu (zkI (zav zfL ts))
noncomputable def zc4:List Str:=["board"]
noncomputable def zhW (ρ:SEnv):SRes:=(sSeq (zbm [true] (zaR 1 zaO (zab (eVar 0) aNil))) (fun _=>.bad)) ρ
noncomputable def zfq (ts:List T):Res T:=fin .fu (zhW (zav zc4 ts))
noncomputable def zhZ:List Str:=["board", "found", "current", "turn"]
noncomputable def zjr (ρ:SEnv):SRes:=(sSeq (sSet 2 [false,false,true,false] (zaR 1 zfq (zab (eVar 2) aNil))) (fun _=>.bad)) ρ
noncomputable def zl0 (ρ:SEnv):SRes:=(sSeq (sSet 1 [false,false,false,false] (eLst aNil)) (sSeq (zhc .al 2 [true,false,false,false] (eVar 0)) (sSeq (sFor [false,false,false,false] (iRng rng1 (zab (eC (.int 4)) aNil)) (gS 3) zjr) (fun _=>.bad)))) ρ
noncomputable def zkf (ts:List T):Res T:=fin .sp (zl0 (zav zhZ ts))
noncomputable def zaL:List Str:=["order", "size", "last", "k"]
noncomputable def zb8 (ρ:SEnv):SRes:=(sIf [true,false,true,true] (eB (eOp (oNe) (eOp (oI iAdd) (eOp oIx (eVar 0) (eVar 3)) (eOp oIx (eVar 0) (eOp (oI iSub) (eVar 2) (eVar 3)))) (eVar 2))) (zbw 2 [false,false,false,false] uOk) sNil) ρ
@[simp] noncomputable def zb5 (ρ:SEnv):SRes:=(sFor [false,true,false,false] (iRng rng1 (zab (eVar 1) aNil)) (gS 3) zb8) ρ
@[simp] noncomputable def zb4 (ρ:SEnv):SRes:=(sSeq (sSet 2 [false,true,false,false] (eOp (oI iSub) (eVar 1) (eC (.int 1))))
 zb5) ρ
noncomputable def zcE (ρ:SEnv):SRes:=(sSeq (sIf [true,true,false,false] (eB (eOp (oNe) (eB1 zd9 (zab (eVar 0) aNil)) (eLR rng1 (zab (eVar 1) aNil)))) (zbw 2 [false,false,false,false] uOk) sNil)
 zb4) ρ
noncomputable def zbp (ts:List T):Res T:=fin .fu (zcE (zav zaL ts))
noncomputable def zbZ:List Str:=["board", "order"]
noncomputable def zf9 (ρ:SEnv):SRes:=(sSeq (zbm [true,false] (zaR 1 zaO (zab (eVar 0) aNil))) (sSeq (zbm [true,true] (zaR 2 zbp (zab (eVar 1) (zab (eB1 cLen (zab (eVar 0) aNil)) aNil)))) (fun _=>.bad))) ρ
noncomputable def zbU (ts:List T):Res T:=fin .fu (zf9 (zav zbZ ts))
noncomputable def zed:List Str:=["outer", "inner", "board", "outer_row", "inner_row"]
noncomputable def zjp (ρ:SEnv):SRes:=(sSeq (zbm [true,false,false,false,false] (zaR 1 zaO (zab (eVar 0) aNil))) (sSeq (zbm [false,true,false,false,false] (zaR 1 zaO (zab (eVar 1) aNil))) (sSeq (sIf [true,true,false,false,false] (eB (eOp (oI iGt) (eOp (oI iMul) (eB1 cLen (zab (eVar 0) aNil)) (eB1 cLen (zab (eVar 1) aNil))) (eC (.int 12)))) (zbw 3 [false,false,false,false,false] (uInt (eC (.int 12)) uOk)) sNil) (fun _=>.bad)))) ρ
noncomputable def zeU (ts:List T):Res T:=fin .fu (zjp (zav zed ts))
noncomputable def zcM:List Str:=["e", "told"]
noncomputable def zeA (c:Nat) (a:Addr) (ρ:SEnv):SRes:=(sSeq (sIf [true,true] (bOr (bNot (eB (eIsC 0 a (subC c 0)))) (bOr (bNot (eB (eIsC 0 a true))) (eB (eOp (oNe) (eMt oCnt (eVar 1) (eC (.bl true))) (eC (.int 1)))))) (sRet .fu [false,false] (eUn oNeg (eC (.int 1)))) sNil)
 (sRet .fu [false,true] (eMt zhm (eVar 1) (eC (.bl true))))) ρ
noncomputable def ze4 (c:Nat) (a:Addr) (ρ:SEnv):SRes:=(sSeq (sSet 1 [true,false] (eLst (zab (eIsC 0 a (subC c 1)) (zab (eIsC 0 a (subC c 2)) (zab (eIsC 0 a (subC c 3)) (zab (eIsC 0 a (subC c 4)) aNil))))))
 (zeA c a)) ρ
noncomputable def zd0 (c:Nat) (a:Addr) (ts:List T):Res T:=fin .fu (ze4 c a (zav zcM ts))
noncomputable def zfe:Nat→T
 | 1=>.sc (.int 0)
 | 2=>.sc (.int 1)
 | 3=>.sc (.int 2)
 | 4=>.sc (.int 3)
 | _=>.sc (.int (-1))
theorem zg8:∀ c∈[0,1,2,3,4],∀ a:Addr,zd0 c a [.sc (.ref a)]=.ok (zfe c):=by
 intro c hc a
 simp only [List.mem_cons,List.not_mem_nil,or_false] at hc
 have e1:∀ ρ b,ρ[0]? = some (some (T.sc (.ref a)))→eIsC 0 a b ρ=.ok (.sc (.bl b)):=fun ρ b h=>by unfold eIsC;rw [h];simp
 have h4:4≤sizeLine:=by decide
 have e2:oNe (.sc (.int 0)) (.sc (.int 1))=some (.sc (.bl true)):=by unfold oNe;simp [okT,TL.eqT,eqV,zcV]
 have e3:oNe (.sc (.int 1)) (.sc (.int 1))=some (.sc (.bl false)):=by unfold oNe;simp [okT,TL.eqT,eqV,zcV]
 rcases hc with rfl | rfl | rfl | rfl | rfl <;> simp [zd0,ze4,zeA,sSeq,sSet,sIf,sRet,eLst,zab,aNil,eC,view,zav,zcM,zcU,Res.of,Res.bind,Res.sthen,SRes.then,subC,e1,h4,zfe,bOr,bNot,eB,eOp,e2,e3,eMt,oCnt,zhm,zdz,eVar,eUn,oNeg,sNil,fin,isSc,asB,List.idxOf,List.findIdx,List.findIdx.go]
noncomputable def zhY:List Str:=["way", "four", "e"]
noncomputable def zjs:VEnv→Res T:=(eOp (oRep .fu) (eLst (zab (eC (.int 0)) aNil)) (eC (.int 5)))
@[simp] noncomputable def zjn (ρ:SEnv):SRes:=(zbm [false,false,false] (zaR 1 zcI (zab (eLst (zab (eLst (zab (eC (.int 0)) (zab (eC (.int 0)) (zab (eC (.int 0)) (zab (eC (.int 0)) aNil))))) (zab (eLst (zab (eC (.int 0)) (zab (eC (.int 0)) (zab (eC (.int 0)) (zab (eC (.int 0)) aNil))))) (zab (eLst (zab (eC (.int 1)) (zab (eC (.int 1)) (zab (eC (.int 3)) (zab (eC (.int 4)) aNil))))) (zab (eLst (zab (eC (.int 5)) (zab (eC (.int 6)) (zab (eC (.int 7)) (zab (eC (.int 8)) aNil))))) aNil))))) aNil))) ρ
@[simp] noncomputable def zjm (ρ:SEnv):SRes:=(zbm [false,false,false] (zaR 1 zcI (zab (zgS [none] (iRng rng1 (zab (eC (.int 5)) aNil)) (gE 0) zjs) aNil))) ρ
@[simp] noncomputable def zjl (ρ:SEnv):SRes:=(zbm [false,false,false] (zaR 1 zcJ (zab (eLst (zab (eLst (zab (eC (.int 0)) (zab (eC (.int 0)) (zab (eC (.int 0)) (zab (eC (.int 0)) aNil))))) (zab (eLst (zab (eC (.int 0)) (zab (eC (.int 0)) (zab (eC (.int 0)) (zab (eC (.int 0)) aNil))))) (zab (eLst (zab (eC (.int 1)) (zab (eC (.int 2)) (zab (eC (.int 3)) (zab (eC (.int 4)) aNil))))) (zab (eLst (zab (eC (.int 5)) (zab (eC (.int 6)) (zab (eC (.int 7)) (zab (eC (.int 8)) aNil))))) aNil))))) aNil))) ρ
@[simp] noncomputable def zjk (ρ:SEnv):SRes:=(sIf [true,false,false] (eB (eOp (oEq) (eVar 0) (eC (.int 8)))) zjl (sIf [true,false,false] (eB (eOp (oEq) (eVar 0) (eC (.int 9)))) zjn zjm)) ρ
@[simp] noncomputable def zjj (ρ:SEnv):SRes:=(sIf [true,false,false] (eB (eOp (oEq) (eVar 0) (eC (.int 7)))) (zbm [false,true,false] (zaR 2 zeU (zab (eVar 1) (zab (eLst (zab (eLst (zab (eC (.int 2)) aNil)) aNil)) aNil)))) zjk) ρ
@[simp] noncomputable def zji (ρ:SEnv):SRes:=(sIf [true,false,false] (eB (eOp (oEq) (eVar 0) (eC (.int 6)))) (zbm [false,true,false] (zaR 2 zeU (zab (eVar 1) (zab (eVar 1) aNil)))) zjj) ρ
@[simp] noncomputable def zjh (ρ:SEnv):SRes:=(zbm [false,true,false] (zaR 2 zbU (zab (eVar 1) (zab (eLst (zab (eC (.int 0)) (zab (eC (.int 1)) (zab (eC (.int 3)) (zab (eC (.int 2)) aNil))))) aNil)))) ρ
@[simp] noncomputable def zjg (ρ:SEnv):SRes:=(sIf [true,false,false] (eB (eOp (oEq) (eVar 0) (eC (.int 5)))) (zbm [false,false,false] (zaR 1 zh6 (zab (eC (.int 2)) aNil))) zji) ρ
@[simp] noncomputable def zjf (ρ:SEnv):SRes:=(zbm [false,false,false] (zaR 2 zbU (zab (eLst (zab (eLst (zab (eC (.int 1)) (zab (eC (.int 2)) aNil))) (zab (eLst (zab (eC (.int 3)) (zab (eC (.int 4)) aNil))) aNil))) (zab (eLst (zab (eC (.int 0)) (zab (eC (.int 0)) aNil))) aNil)))) ρ
@[simp] noncomputable def zhV (ρ:SEnv):SRes:=(zbm [false,false,false] (zaR 2 zbU (zab (eLst (zab (eLst (zab (eC (.int 1)) (zab (eC (.int 1)) aNil))) (zab (eLst (zab (eC (.int 2)) (zab (eC (.int 3)) aNil))) aNil))) (zab (eLst (zab (eC (.int 0)) (zab (eC (.int 0)) aNil))) aNil)))) ρ
@[simp] noncomputable def zhU (ρ:SEnv):SRes:=(sIf [true,false,false] (eB (eOp (oEq) (eVar 0) (eC (.int 3)))) zjf (sIf [true,false,false] (eB (eOp (oEq) (eVar 0) (eC (.int 4)))) zjh zjg)) ρ
@[simp] noncomputable def zhT (ρ:SEnv):SRes:=(zbm [false,false,false] (zaR 1 zh5 (zab (eLst (zab (eLst (zab (eC (.int 1)) (zab (eC (.int 2)) aNil))) (zab (eLst (zab (eC (.int 3)) aNil)) aNil))) aNil))) ρ
@[simp] noncomputable def zhS (ρ:SEnv):SRes:=(sIf [true,false,false] (eB (eOp (oEq) (eVar 0) (eC (.int 1)))) (zbm [false,false,false] (zaR 1 zkf (zab (eLst aNil) aNil))) (sIf [true,false,false] (eB (eOp (oEq) (eVar 0) (eC (.int 2)))) zhV zhU)) ρ
@[simp] noncomputable def zhR (ρ:SEnv):SRes:=(sSeq (sTry (sIf [true,false,false] (eB (eOp (oEq) (eVar 0) (eC (.int 0)))) zhT zhS) (zgP [0,1,2,3,4] 0 .fu zfe hBad))
 (sRet .fu [false,false,false] (eC (.int 9)))) ρ
noncomputable def zlZ (ρ:SEnv):SRes:=(sSeq (sSet 1 [false,false,false] (eLst (zab (eLst (zab (eC (.int 1)) (zab (eC (.int 2)) (zab (eC (.int 3)) (zab (eC (.int 4)) aNil))))) (zab (eLst (zab (eC (.int 5)) (zab (eC (.int 6)) (zab (eC (.int 7)) (zab (eC (.int 8)) aNil))))) (zab (eLst (zab (eC (.int 9)) (zab (eC (.int 10)) (zab (eC (.int 11)) (zab (eC (.int 12)) aNil))))) (zab (eLst (zab (eC (.int 13)) (zab (eC (.int 14)) (zab (eC (.int 15)) (zab (eC (.int 16)) aNil))))) aNil))))))
 zhR) ρ
noncomputable def zke (ts:List T):Res T:=fin .fu (zlZ (zav zhY ts))
noncomputable def zga:List Str:=["script", "first", "k", "way"]
@[simp] noncomputable def zjo (ρ:SEnv):SRes:=(sIf [false,false,false,true] (eB (eOp (oNe) (zaR 1 zke (zab (eVar 3) aNil)) (eOp oIx (eLst (zab (eC (.int 0)) (zab (eC (.int 0)) (zab (eC (.int 0)) (zab (eC (.int 1)) (zab (eC (.int 1)) (zab (eC (.int 2)) (zab (eC (.int 2)) (zab (eC (.int 0)) (zab (eC (.int 3)) (zab (eC (.int 0)) (zab (eC (.int 0)) aNil)))))))))))) (eVar 3)))) (sRet .fu [false,false,false,false] (eC (.bl false))) sNil) ρ
noncomputable def zjq (ρ:SEnv):SRes:=(sSeq (sSet 3 [false,true,true,false] (eOp (oI iMod) (eOp (oI iAdd) (eVar 1) (eVar 2)) (eC (.int 11))))
 zjo) ρ
@[simp] noncomputable def za0 (ρ:SEnv):SRes:=(sSeq (sFor [false,false,false,false] (iRng rng1 (zab (eC (.int 11)) aNil)) (gS 2) zjq)
 (sRet .fu [false,false,false,false] (eC (.bl true)))) ρ
noncomputable def zkH (ρ:SEnv):SRes:=(sSeq (sSet 1 [true,false,false,false] (eOp (oI iMod) (zaR 2 zbx (zab (eVar 0) (zab (eC (.int 0)) aNil))) (eC (.int 11))))
 za0) ρ
noncomputable def ziM (ts:List T):Res T:=fin .fu (zkH (zav zga ts))
theorem nd_0:(["k"]:List Str).Nodup:=zap (by decide +kernel)
theorem nd_1:(["number"]:List Str).Nodup:=zap (by decide +kernel)
theorem nd_2:(["c", "number", "r"]:List Str).Nodup:=zap (by decide +kernel)
set_option genInjectivity false in
set_option genSizeOf false in
structure Adr where
 fqcell_at:Addr
 dqcell_at:FuncData
 f_check_square:Addr
 d_check_square:FuncData
 f_joined:Addr
 d_joined:FuncData
 f_check_board:Addr
 d_check_board:FuncData
 f_sums:Addr
 d_sums:FuncData
 f_check_open_board:Addr
 d_check_open_board:FuncData
 f_open_cells:Addr
 d_open_cells:FuncData
 f_check_not_too_open:Addr
 d_check_not_too_open:FuncData
 f_fillings:Addr
 d_fillings:FuncData
 f_how_many:Addr
 d_how_many:FuncData
 f_laid:Addr
 d_laid:FuncData
 f_turned:Addr
 d_turned:FuncData
 f_kin:Addr
 d_kin:FuncData
 f_check_fair_order:Addr
 d_check_fair_order:FuncData
 f_arranged:Addr
 d_arranged:FuncData
 f_woven:Addr
 d_woven:FuncData
 fqwhich:Addr
 dqwhich:FuncData
 fqmet:Addr
 dqmet:FuncData
 f_law:Addr
 d_law:FuncData
 C_SumError:Addr
 C_BadBoard:Addr
 C_BadOrder:Addr
 C_NoSize:Addr
 C_TooOpen:Addr
 v_CROSSED:Addr
 tk_LARGEST_OPEN_SIZE:Nat
 tk_LARGEST_SIZE:Nat
 v_LEFT_HEAVY:Addr
 tk_MOST_OPEN_CELLS:Nat
 tk_OPEN_MARK:Nat
 v_RIGHT_HEAVY:Addr
noncomputable def Adr.cl (t:Adr):Nat→Addr
 | 0=>t.C_SumError
 | 1=>t.C_BadBoard
 | 2=>t.C_BadOrder
 | 3=>t.C_NoSize
 | 4=>t.C_TooOpen
 | _=>0
structure Txt (K:PySem.W.Frag) (mg:Str→Option Value) (t:Adr):Prop where
 Fqcell_at:Fun K "_law_cell_at" "_law_cell_at" zbl t.fqcell_at t.dqcell_at
 mgqcell_at:mg "_law_cell_at" = some (.ref t.fqcell_at)
 bqcell_at:za1 K t.dqcell_at ["script", "k"] []
 F_check_square:Fun K "check_square" "check_square" zaD t.f_check_square t.d_check_square
 mg_check_square:mg "check_square" = some (.ref t.f_check_square)
 b_check_square:za1 K t.d_check_square ["board", "largest"] []
 F_joined:Fun K "joined" "joined" zbB t.f_joined t.d_joined
 mg_joined:mg "joined" = some (.ref t.f_joined)
 b_joined:za1 K t.d_joined ["lists"] []
 F_check_board:Fun K "check_board" "check_board" zaI t.f_check_board t.d_check_board
 mg_check_board:mg "check_board" = some (.ref t.f_check_board)
 b_check_board:za1 K t.d_check_board ["board"] []
 F_sums:Fun K "sums" "sums" zc9 t.f_sums t.d_sums
 mg_sums:mg "sums" = some (.ref t.f_sums)
 b_sums:za1 K t.d_sums ["board"] []
 F_check_open_board:Fun K "check_open_board" "check_open_board" zas t.f_check_open_board t.d_check_open_board
 mg_check_open_board:mg "check_open_board" = some (.ref t.f_check_open_board)
 b_check_open_board:za1 K t.d_check_open_board ["board"] []
 F_open_cells:Fun K "open_cells" "open_cells" zaM t.f_open_cells t.d_open_cells
 mg_open_cells:mg "open_cells" = some (.ref t.f_open_cells)
 b_open_cells:za1 K t.d_open_cells ["board"] []
 F_check_not_too_open:Fun K "check_not_too_open" "check_not_too_open" zan t.f_check_not_too_open t.d_check_not_too_open
 mg_check_not_too_open:mg "check_not_too_open" = some (.ref t.f_check_not_too_open)
 b_check_not_too_open:za1 K t.d_check_not_too_open ["board"] []
 F_fillings:Fun K "fillings" "fillings" za4 t.f_fillings t.d_fillings
 mg_fillings:mg "fillings" = some (.ref t.f_fillings)
 b_fillings:za1 K t.d_fillings ["board"] []
 F_how_many:Fun K "how_many" "how_many" za3 t.f_how_many t.d_how_many
 mg_how_many:mg "how_many" = some (.ref t.f_how_many)
 b_how_many:za1 K t.d_how_many ["board"] []
 F_laid:Fun K "laid" "laid" zda t.f_laid t.d_laid
 mg_laid:mg "laid" = some (.ref t.f_laid)
 b_laid:za1 K t.d_laid ["size"] []
 F_turned:Fun K "turned" "turned" zbA t.f_turned t.d_turned
 mg_turned:mg "turned" = some (.ref t.f_turned)
 b_turned:za1 K t.d_turned ["board"] []
 F_kin:Fun K "kin" "kin" zeM t.f_kin t.d_kin
 mg_kin:mg "kin" = some (.ref t.f_kin)
 b_kin:za1 K t.d_kin ["board"] []
 F_check_fair_order:Fun K "check_fair_order" "check_fair_order" zat t.f_check_fair_order t.d_check_fair_order
 mg_check_fair_order:mg "check_fair_order" = some (.ref t.f_check_fair_order)
 b_check_fair_order:za1 K t.d_check_fair_order ["order", "size"] []
 F_arranged:Fun K "arranged" "arranged" za5 t.f_arranged t.d_arranged
 mg_arranged:mg "arranged" = some (.ref t.f_arranged)
 b_arranged:za1 K t.d_arranged ["board", "order"] []
 F_woven:Fun K "woven" "woven" zce t.f_woven t.d_woven
 mg_woven:mg "woven" = some (.ref t.f_woven)
 b_woven:za1 K t.d_woven ["outer", "inner"] []
 Fqwhich:Fun K "_law_which" "_law_which" zbt t.fqwhich t.dqwhich
 mgqwhich:mg "_law_which" = some (.ref t.fqwhich)
 bqwhich:za1 K t.dqwhich ["e"] []
 Fqmet:Fun K "_law_met" "_law_met" zeH t.fqmet t.dqmet
 mgqmet:mg "_law_met" = some (.ref t.fqmet)
 bqmet:za1 K t.dqmet ["way"] []
 F_law:Fun K "law" "law" s_law t.f_law t.d_law
 mg_law:mg "law" = some (.ref t.f_law)
 b_law:za1 K t.d_law ["script"] []
 mg_SumError:mg "SumError" = some (.ref t.C_SumError)
 x_SumError:PySem.W.excIn K t.C_SumError bmV "ValueError.__new__" = true
 e_SumError_SumError:PySem.W.exmOne K (.ref t.C_SumError) (.ref t.C_SumError)=some true
 e_BadBoard_SumError:PySem.W.exmOne K (.ref t.C_BadBoard) (.ref t.C_SumError)=some true
 e_BadOrder_SumError:PySem.W.exmOne K (.ref t.C_BadOrder) (.ref t.C_SumError)=some true
 e_NoSize_SumError:PySem.W.exmOne K (.ref t.C_NoSize) (.ref t.C_SumError)=some true
 e_TooOpen_SumError:PySem.W.exmOne K (.ref t.C_TooOpen) (.ref t.C_SumError)=some true
 v_SumError:PySem.W.kitCls K (.ref t.C_SumError) (.type "ValueError")=some true
 k_SumError_SumError:PySem.W.kitCls K (.ref t.C_SumError) (.ref t.C_SumError)=some true
 k_BadBoard_SumError:PySem.W.kitCls K (.ref t.C_BadBoard) (.ref t.C_SumError)=some true
 k_BadOrder_SumError:PySem.W.kitCls K (.ref t.C_BadOrder) (.ref t.C_SumError)=some true
 k_NoSize_SumError:PySem.W.kitCls K (.ref t.C_NoSize) (.ref t.C_SumError)=some true
 k_TooOpen_SumError:PySem.W.kitCls K (.ref t.C_TooOpen) (.ref t.C_SumError)=some true
 q_SumError:ExcQ K t.C_SumError
 mg_BadBoard:mg "BadBoard" = some (.ref t.C_BadBoard)
 x_BadBoard:PySem.W.excIn K t.C_BadBoard bmV "ValueError.__new__" = true
 e_SumError_BadBoard:PySem.W.exmOne K (.ref t.C_SumError) (.ref t.C_BadBoard)=some false
 e_BadBoard_BadBoard:PySem.W.exmOne K (.ref t.C_BadBoard) (.ref t.C_BadBoard)=some true
 e_BadOrder_BadBoard:PySem.W.exmOne K (.ref t.C_BadOrder) (.ref t.C_BadBoard)=some false
 e_NoSize_BadBoard:PySem.W.exmOne K (.ref t.C_NoSize) (.ref t.C_BadBoard)=some false
 e_TooOpen_BadBoard:PySem.W.exmOne K (.ref t.C_TooOpen) (.ref t.C_BadBoard)=some false
 v_BadBoard:PySem.W.kitCls K (.ref t.C_BadBoard) (.type "ValueError")=some true
 k_BadBoard_BadBoard:PySem.W.kitCls K (.ref t.C_BadBoard) (.ref t.C_BadBoard)=some true
 q_BadBoard:ExcQ K t.C_BadBoard
 mg_BadOrder:mg "BadOrder" = some (.ref t.C_BadOrder)
 x_BadOrder:PySem.W.excIn K t.C_BadOrder bmV "ValueError.__new__" = true
 e_SumError_BadOrder:PySem.W.exmOne K (.ref t.C_SumError) (.ref t.C_BadOrder)=some false
 e_BadBoard_BadOrder:PySem.W.exmOne K (.ref t.C_BadBoard) (.ref t.C_BadOrder)=some false
 e_BadOrder_BadOrder:PySem.W.exmOne K (.ref t.C_BadOrder) (.ref t.C_BadOrder)=some true
 e_NoSize_BadOrder:PySem.W.exmOne K (.ref t.C_NoSize) (.ref t.C_BadOrder)=some false
 e_TooOpen_BadOrder:PySem.W.exmOne K (.ref t.C_TooOpen) (.ref t.C_BadOrder)=some false
 v_BadOrder:PySem.W.kitCls K (.ref t.C_BadOrder) (.type "ValueError")=some true
 k_BadOrder_BadOrder:PySem.W.kitCls K (.ref t.C_BadOrder) (.ref t.C_BadOrder)=some true
 q_BadOrder:ExcQ K t.C_BadOrder
 mg_NoSize:mg "NoSize" = some (.ref t.C_NoSize)
 x_NoSize:PySem.W.excIn K t.C_NoSize bmV "ValueError.__new__" = true
 e_SumError_NoSize:PySem.W.exmOne K (.ref t.C_SumError) (.ref t.C_NoSize)=some false
 e_BadBoard_NoSize:PySem.W.exmOne K (.ref t.C_BadBoard) (.ref t.C_NoSize)=some false
 e_BadOrder_NoSize:PySem.W.exmOne K (.ref t.C_BadOrder) (.ref t.C_NoSize)=some false
 e_NoSize_NoSize:PySem.W.exmOne K (.ref t.C_NoSize) (.ref t.C_NoSize)=some true
 e_TooOpen_NoSize:PySem.W.exmOne K (.ref t.C_TooOpen) (.ref t.C_NoSize)=some false
 v_NoSize:PySem.W.kitCls K (.ref t.C_NoSize) (.type "ValueError")=some true
 k_NoSize_NoSize:PySem.W.kitCls K (.ref t.C_NoSize) (.ref t.C_NoSize)=some true
 q_NoSize:ExcQ K t.C_NoSize
 mg_TooOpen:mg "TooOpen" = some (.ref t.C_TooOpen)
 x_TooOpen:PySem.W.excIn K t.C_TooOpen bmV "ValueError.__new__" = true
 e_SumError_TooOpen:PySem.W.exmOne K (.ref t.C_SumError) (.ref t.C_TooOpen)=some false
 e_BadBoard_TooOpen:PySem.W.exmOne K (.ref t.C_BadBoard) (.ref t.C_TooOpen)=some false
 e_BadOrder_TooOpen:PySem.W.exmOne K (.ref t.C_BadOrder) (.ref t.C_TooOpen)=some false
 e_NoSize_TooOpen:PySem.W.exmOne K (.ref t.C_NoSize) (.ref t.C_TooOpen)=some false
 e_TooOpen_TooOpen:PySem.W.exmOne K (.ref t.C_TooOpen) (.ref t.C_TooOpen)=some true
 v_TooOpen:PySem.W.kitCls K (.ref t.C_TooOpen) (.type "ValueError")=some true
 k_TooOpen_TooOpen:PySem.W.kitCls K (.ref t.C_TooOpen) (.ref t.C_TooOpen)=some true
 q_TooOpen:ExcQ K t.C_TooOpen
 c_CROSSED:mg "CROSSED" = some (.ref t.v_CROSSED)
 t_CROSSED:KDen K (.tup [(.tup [(.sc (.int 1)),(.sc (.int 4))]),(.tup [(.sc (.int 3)),(.sc (.int 2))])]) (.ref t.v_CROSSED)
 c_LARGEST_OPEN_SIZE:mg "LARGEST_OPEN_SIZE" = some (.int 4 t.tk_LARGEST_OPEN_SIZE)
 c_LARGEST_SIZE:mg "LARGEST_SIZE" = some (.int 12 t.tk_LARGEST_SIZE)
 c_LEFT_HEAVY:mg "LEFT_HEAVY" = some (.ref t.v_LEFT_HEAVY)
 t_LEFT_HEAVY:KDen K (.tup [(.tup [(.sc (.int 4)),(.sc (.int 1))]),(.tup [(.sc (.int 2)),(.sc (.int 3))])]) (.ref t.v_LEFT_HEAVY)
 c_MOST_OPEN_CELLS:mg "MOST_OPEN_CELLS" = some (.int 6 t.tk_MOST_OPEN_CELLS)
 c_OPEN_MARK:mg "OPEN_MARK" = some (.int 0 t.tk_OPEN_MARK)
 c_RIGHT_HEAVY:mg "RIGHT_HEAVY" = some (.ref t.v_RIGHT_HEAVY)
 t_RIGHT_HEAVY:KDen K (.tup [(.tup [(.sc (.int 1)),(.sc (.int 4))]),(.tup [(.sc (.int 2)),(.sc (.int 3))])]) (.ref t.v_RIGHT_HEAVY)
 n_ValueError:mg "ValueError" = none
 n_enumerate:mg "enumerate" = none
 n_isinstance:mg "isinstance" = none
 n_len:mg "len" = none
 n_list:mg "list" = none
 n_range:mg "range" = none
 n_set:mg "set" = none
 n_sorted:mg "sorted" = none
seal PSs PS PE PA PT PW PI PG PGs PJ PH OpR IxR UnR zdu tr tra trb tri trs tju trh TL.st
section
variable {P:Program} {w:World} {K:PySem.W.Frag} {mg:Str→Option Value} {base:Heap} {t:Adr}
theorem Txt.e_SumError (T:Txt K mg t):∀ c∈[0,1,2,3,4],PySem.W.exmOne K (.ref (t.cl c)) (.ref t.C_SumError)=some (subC c 0):=by
 intro c h
 simp only [List.mem_cons,List.not_mem_nil,or_false] at h
 rcases h with rfl | rfl | rfl | rfl | rfl
 ·exact T.e_SumError_SumError
 ·exact T.e_BadBoard_SumError
 ·exact T.e_BadOrder_SumError
 ·exact T.e_NoSize_SumError
 ·exact T.e_TooOpen_SumError
theorem Txt.e_BadBoard (T:Txt K mg t):∀ c∈[0,1,2,3,4],PySem.W.exmOne K (.ref (t.cl c)) (.ref t.C_BadBoard)=some (subC c 1):=by
 intro c h
 simp only [List.mem_cons,List.not_mem_nil,or_false] at h
 rcases h with rfl | rfl | rfl | rfl | rfl
 ·exact T.e_SumError_BadBoard
 ·exact T.e_BadBoard_BadBoard
 ·exact T.e_BadOrder_BadBoard
 ·exact T.e_NoSize_BadBoard
 ·exact T.e_TooOpen_BadBoard
theorem Txt.e_BadOrder (T:Txt K mg t):∀ c∈[0,1,2,3,4],PySem.W.exmOne K (.ref (t.cl c)) (.ref t.C_BadOrder)=some (subC c 2):=by
 intro c h
 simp only [List.mem_cons,List.not_mem_nil,or_false] at h
 rcases h with rfl | rfl | rfl | rfl | rfl
 ·exact T.e_SumError_BadOrder
 ·exact T.e_BadBoard_BadOrder
 ·exact T.e_BadOrder_BadOrder
 ·exact T.e_NoSize_BadOrder
 ·exact T.e_TooOpen_BadOrder
theorem Txt.e_NoSize (T:Txt K mg t):∀ c∈[0,1,2,3,4],PySem.W.exmOne K (.ref (t.cl c)) (.ref t.C_NoSize)=some (subC c 3):=by
 intro c h
 simp only [List.mem_cons,List.not_mem_nil,or_false] at h
 rcases h with rfl | rfl | rfl | rfl | rfl
 ·exact T.e_SumError_NoSize
 ·exact T.e_BadBoard_NoSize
 ·exact T.e_BadOrder_NoSize
 ·exact T.e_NoSize_NoSize
 ·exact T.e_TooOpen_NoSize
theorem Txt.e_TooOpen (T:Txt K mg t):∀ c∈[0,1,2,3,4],PySem.W.exmOne K (.ref (t.cl c)) (.ref t.C_TooOpen)=some (subC c 4):=by
 intro c h
 simp only [List.mem_cons,List.not_mem_nil,or_false] at h
 rcases h with rfl | rfl | rfl | rfl | rfl
 ·exact T.e_SumError_TooOpen
 ·exact T.e_BadBoard_TooOpen
 ·exact T.e_BadOrder_TooOpen
 ·exact T.e_NoSize_TooOpen
 ·exact T.e_TooOpen_TooOpen
theorem Txt.q_all (T:Txt K mg t):∀ c∈[0,1,2,3,4],ExcQ K (t.cl c):=by
 intro c h
 simp only [List.mem_cons,List.not_mem_nil,or_false] at h
 rcases h with rfl | rfl | rfl | rfl | rfl
 ·exact T.q_SumError
 ·exact T.q_BadBoard
 ·exact T.q_BadOrder
 ·exact T.q_NoSize
 ·exact T.q_TooOpen
theorem Txt.o_ValueError (T:Txt K mg t):∀ c∈[0,1,2,3,4],PySem.W.kitOne K (.ref (t.cl c)) (.type "ValueError")=some true:=by
 intro c h
 simp only [List.mem_cons,List.not_mem_nil,or_false] at h
 rcases h with rfl | rfl | rfl | rfl | rfl
 ·exact zbP T.v_SumError
 ·exact zbP T.v_BadBoard
 ·exact zbP T.v_BadOrder
 ·exact zbP T.v_NoSize
 ·exact zbP T.v_TooOpen
theorem Txt.o_SumError (T:Txt K mg t):∀ c∈[0,1,2,3,4],PySem.W.kitOne K (.ref (t.cl c)) (.ref t.C_SumError)=some (subC c 0):=fun c h=>zbQ (zam (T.e_SumError c h)) T.k_SumError_SumError
theorem Txt.o_BadBoard (T:Txt K mg t):∀ c∈[0,1,2,3,4],PySem.W.kitOne K (.ref (t.cl c)) (.ref t.C_BadBoard)=some (subC c 1):=fun c h=>zbQ (zam (T.e_BadBoard c h)) T.k_BadBoard_BadBoard
theorem Txt.o_BadOrder (T:Txt K mg t):∀ c∈[0,1,2,3,4],PySem.W.kitOne K (.ref (t.cl c)) (.ref t.C_BadOrder)=some (subC c 2):=fun c h=>zbQ (zam (T.e_BadOrder c h)) T.k_BadOrder_BadOrder
theorem Txt.o_NoSize (T:Txt K mg t):∀ c∈[0,1,2,3,4],PySem.W.kitOne K (.ref (t.cl c)) (.ref t.C_NoSize)=some (subC c 3):=fun c h=>zbQ (zam (T.e_NoSize c h)) T.k_NoSize_NoSize
theorem Txt.o_TooOpen (T:Txt K mg t):∀ c∈[0,1,2,3,4],PySem.W.kitOne K (.ref (t.cl c)) (.ref t.C_TooOpen)=some (subC c 4):=fun c h=>zbQ (zam (T.e_TooOpen c h)) T.k_TooOpen_TooOpen
theorem zfT:FnScope zbz ["script", "k"] (defScope zbl):=⟨rfl,rfl,rfl,by decide +kernel,rfl,by decide +kernel,by decide +kernel⟩
theorem zfY:zbz.Nodup:=zap (by decide +kernel)
theorem zfX (T:Txt K mg t):FnOk P w K mg base (CXe P w) 1 t.fqcell_at t.dqcell_at ["script", "k"] (spT K t.cl 2 .fu zbx):=
 za2 (N:=zbz) T.Fqcell_at zfT rfl fun cdv A outer s H E S₀ hd hr=>by
 have hu5:(A.deeper (PyProof.Rows.envOfC "_law_cell_at" (defScope zbl) s.heap.objs.size t.fqcell_at cdv)).units + 5 < cLine:=by have:=hr.un;lia
 have nd:=zfY
 refine zaj ?_ ?_
 ·refine zbn [true,true] (zaA (o_lt) (zak (pv 1)) (zaF (md:=.al) zcz rfl T.n_len PySem.boot_len (zaa (zak (pv 0)) zae)) (zaz _)) ?_ ?_
  ·refine zaf ?_
   exact (zcv [true,true] (JE.sc (md1:=.fu) (zhx o_ix (zak (pv 0)) (zak (pv 1)) (fun _ _=>rfl))))
  ·exact za6
 refine zaf ?_
 exact (zcv [false,false] (zac (md:=.fu)))
theorem zc8:FnScope zbb ["board", "largest"] (defScope zaD):=⟨rfl,rfl,rfl,by decide +kernel,rfl,by decide +kernel,by decide +kernel⟩
theorem zdd:zbb.Nodup:=zap (by decide +kernel)
theorem zbM (T:Txt K mg t):FnOk P w K mg base (CXe P w) 1 t.f_check_square t.d_check_square ["board", "largest"] (spT K t.cl 2 .fu zbv):=
 za2 (N:=zbb) T.F_check_square zc8 rfl fun cdv A outer s H E S₀ hd hr=>by
 have hu5:(A.deeper (PyProof.Rows.envOfC "check_square" (defScope zaD) s.heap.objs.size t.f_check_square cdv)).units + 5 < cLine:=by have:=hr.un;lia
 have nd:=zdd
 refine zaj ?_ ?_
 ·exact (zca (i:=2) [true,false,false,false] nd rfl (.inl rfl) (zaF (md:=.fu) zcz rfl T.n_len PySem.boot_len (zaa (zak (pv 0)) zae)))
 refine zaj ?_ ?_
 ·refine zbn [false,true,true,false] (zgE (zfZ (zaA (o_lt) (zak (pv 2)) (zac (md:=.al)) (zaz _)) (zfs (zaA (o_gt) (zak (pv 2)) (zak (pv 1)) (zaz _))))) ?_ ?_
  ·refine zaf ?_
   exact (za9 (c:=1) [false,true,false,false] rfl zbu hr.hd rfl T.mg_BadBoard T.x_BadBoard (zd4 (zcQ (zej (zak (pv 1)) (zcQ zfj)))))
  ·exact za6
 refine zaf ?_
 refine zdf [true,false,false,false] ownE rfl (zeX (zak (pv 0))) (zbe (i:=3) nd rfl (.inl rfl)) (zbc 3) ?_
 refine zaf ?_
 refine zbn [false,false,true,true] (zaA (o_ne hu5) (zaF (md:=.al) zcz rfl T.n_len PySem.boot_len (zaa (zak (pv 3)) zae)) (zak (pv 2)) (zaz _)) ?_ ?_
 ·refine zaf ?_
  exact (za9 (c:=1) [false,false,false,false] rfl zbu hr.hd rfl T.mg_BadBoard T.x_BadBoard zdI)
 ·exact za6
theorem zgq:FnScope zc5 ["lists"] (defScope zbB):=⟨rfl,rfl,rfl,by decide +kernel,rfl,by decide +kernel,by decide +kernel⟩
theorem zgA:zc5.Nodup:=zap (by decide +kernel)
theorem zek (T:Txt K mg t):FnOk P w K mg base (CXe P w) 1 t.f_joined t.d_joined ["lists"] (spT K t.cl 1 .fu zd2):=
 za2 (N:=zc5) T.F_joined zgq rfl fun cdv A outer s H E S₀ hd hr=>by
 have hu5:(A.deeper (PyProof.Rows.envOfC "joined" (defScope zbB) s.heap.objs.size t.f_joined cdv)).units + 5 < cLine:=by have:=hr.un;lia
 have nd:=zgA
 refine zaj ?_ ?_
 ·exact (zca (i:=1) [false,false,false] nd rfl (.inl rfl) (zax zae))
 refine zaj ?_ ?_
 ·refine zdf [true,false,false] ownE rfl (zkn (zak (pv 0))) (zbe (i:=2) nd rfl (.inl rfl)) (zbc 2) ?_
  refine zaf ?_
  exact (zh9 [false,false,true] (pv 1) (zak (pv 2)))
 refine zaf ?_
 exact (zgF (pv 1))
theorem zdw:FnScope zbj ["board"] (defScope zaI):=⟨rfl,rfl,rfl,by decide +kernel,rfl,by decide +kernel,by decide +kernel⟩
theorem zdx:zbj.Nodup:=zap (by decide +kernel)
theorem zaS (T:Txt K mg t):FnOk P w K mg base (CXe P w) 2 t.f_check_board t.d_check_board ["board"] (spT K t.cl 1 .fu zaO):=
 za2 (N:=zbj) T.F_check_board zdw rfl fun cdv A outer s H E S₀ hd hr=>by
 have hu5:(A.deeper (PyProof.Rows.envOfC "check_board" (defScope zaI) s.heap.objs.size t.f_check_board cdv)).units + 5 < cLine:=by have:=hr.un;lia
 have nd:=zdx
 refine zaj ?_ ?_
 ·exact (zaE [true] (zau (zbM T) (hr.mono (by decide)) rfl T.mg_check_square T.F_check_square.kp T.b_check_square zbL (zaa (zak (pv 0)) (zaa (zbr (md:=.al) (zaN (v:=.int 12) rfl T.c_LARGEST_SIZE ⟨_,rfl⟩)) zae))))
 refine zaf ?_
 refine zbn [true] (zaA (o_ne hu5) (JE.al (zaF zfF rfl T.n_sorted boot_sorted (zaa (JE.al (zau (zek T) (hr.mono (by decide)) rfl T.mg_joined T.F_joined.kp T.b_joined zbL (zaa (zak (pv 0)) zae))) zae))) (JE.al (zd5 rfl rfl T.n_list rfl T.n_range (zaa (zac (md:=.al)) (zaa (zdg (md:=.al) ziG (zdg (md:=.al) ziF (zaF (md:=.al) zcz rfl T.n_len PySem.boot_len (zaa (zak (pv 0)) zae)) (zaF (md:=.al) zcz rfl T.n_len PySem.boot_len (zaa (zak (pv 0)) zae))) (zac (md:=.al))) zae)))) (zaz _)) ?_ ?_
 ·refine zaf ?_
  exact (za9 (c:=1) [false] rfl zbu hr.hd rfl T.mg_BadBoard T.x_BadBoard zdI)
 ·exact za6
theorem zin:FnScope zfK ["board"] (defScope zc9):=⟨rfl,rfl,rfl,by decide +kernel,rfl,by decide +kernel,by decide +kernel⟩
theorem ziH:zfK.Nodup:=zap (by decide +kernel)
theorem ziC (T:Txt K mg t):FnOk P w K mg base (CXe P w) 3 t.f_sums t.d_sums ["board"] (spT K t.cl 1 .fu zh5):=
 za2 (N:=zfK) T.F_sums zin rfl fun cdv A outer s H E S₀ hd hr=>by
 have hu5:(A.deeper (PyProof.Rows.envOfC "sums" (defScope zc9) s.heap.objs.size t.f_sums cdv)).units + 5 < cLine:=by have:=hr.un;lia
 have nd:=ziH
 refine zaj ?_ ?_
 ·exact (zaE [true] (zau (zaS T) (hr.mono (by decide)) rfl T.mg_check_board T.F_check_board.kp T.b_check_board zbL (zaa (zak (pv 0)) zae)))
 exact zbR
theorem zcc:FnScope zaK ["board"] (defScope zas):=⟨rfl,rfl,rfl,by decide +kernel,rfl,by decide +kernel,by decide +kernel⟩
theorem zcj:zaK.Nodup:=zap (by decide +kernel)
theorem zcg (T:Txt K mg t):FnOk P w K mg base (CXe P w) 2 t.f_check_open_board t.d_check_open_board ["board"] (spT K t.cl 1 .fu zbo):=
 za2 (N:=zaK) T.F_check_open_board zcc rfl fun cdv A outer s H E S₀ hd hr=>by
 have hu5:(A.deeper (PyProof.Rows.envOfC "check_open_board" (defScope zas) s.heap.objs.size t.f_check_open_board cdv)).units + 5 < cLine:=by have:=hr.un;lia
 have nd:=zcj
 refine zaj ?_ ?_
 ·exact (zaE [true,false,false] (zau (zbM T) (hr.mono (by decide)) rfl T.mg_check_square T.F_check_square.kp T.b_check_square zbL (zaa (zak (pv 0)) (zaa (zbr (md:=.al) (zaN (v:=.int 4) rfl T.c_LARGEST_OPEN_SIZE ⟨_,rfl⟩)) zae))))
 refine zaj ?_ ?_
 ·exact (zeW (i:=1) [true,false,false] zeT nd rfl rfl (Blk.of rfl) (N':=["number"]) (ix:=[none]) rfl rfl (zeX (JE.al (zau (zek T) (hr.mono (by decide)) rfl T.mg_joined T.F_joined.kp T.b_joined zbL (zaa (zak (pv 0)) zae)))) (fun _ _ _ _ _=>zbe (i:=0) nd_1 rfl (by first | exact Or.inl rfl | exact Or.inr rfl)) (zfH (i:=0) (by decide)) (fun _ _ _ _ _=>(zaA (o_ne hu5) (zak (pv 0)) (zbr (md:=.al) (zaN (v:=.int 0) rfl T.c_OPEN_MARK ⟨_,rfl⟩)) (zaz _))) (fun _ _ _ _ _=>(JE.sc (md1:=.fu) (zak (pv 0)))))
 refine zaj ?_ ?_
 ·refine zbn [false,true,false] (zaA (o_ne hu5) (zgI (md:=.al) rfl rfl T.n_len rfl T.n_set (zak (pv 1))) (zaF (md:=.al) zcz rfl T.n_len PySem.boot_len (zaa (zak (pv 1)) zae)) (zaz _)) ?_ ?_
  ·refine zaf ?_
   exact (za9 (c:=1) [false,false,false] rfl zbu hr.hd rfl T.mg_BadBoard T.x_BadBoard zdI)
  ·exact za6
 refine zaf ?_
 refine zdf [false,true,false] ownE rfl (zeX (zak (pv 1))) (zbe (i:=2) nd rfl (.inl rfl)) (zbc 2) ?_
 refine zaf ?_
 refine zbn [true,false,true] (zgE (zfZ (zaA (o_lt) (zak (pv 2)) (zac (md:=.al)) (zaz _)) (zfs (zaA (o_gt) (zak (pv 2)) (zdg (md:=.al) ziF (zaF (md:=.al) zcz rfl T.n_len PySem.boot_len (zaa (zak (pv 0)) zae)) (zaF (md:=.al) zcz rfl T.n_len PySem.boot_len (zaa (zak (pv 0)) zae))) (zaz _))))) ?_ ?_
 ·refine zaf ?_
  exact (za9 (c:=1) [false,false,false] rfl zbu hr.hd rfl T.mg_BadBoard T.x_BadBoard zdI)
 ·exact za6
theorem zdX:FnScope zbs ["board"] (defScope zaM):=⟨rfl,rfl,rfl,by decide +kernel,rfl,by decide +kernel,by decide +kernel⟩
theorem zdZ:zbs.Nodup:=zap (by decide +kernel)
theorem zdY (T:Txt K mg t):FnOk P w K mg base (CXe P w) 1 t.f_open_cells t.d_open_cells ["board"] (spT K t.cl 1 .fu zcS):=
 za2 (N:=zbs) T.F_open_cells zdX rfl fun cdv A outer s H E S₀ hd hr=>by
 have hu5:(A.deeper (PyProof.Rows.envOfC "open_cells" (defScope zaM) s.heap.objs.size t.f_open_cells cdv)).units + 5 < cLine:=by have:=hr.un;lia
 have nd:=zdZ
 refine zaj ?_ ?_
 ·exact (zca (i:=1) [false,false,false,false] nd rfl (.inl rfl) (zax zae))
 refine zaj ?_ ?_
 ·refine zdf [true,false,false,false] ownE rfl (zgH rfl T.n_enumerate (zak (pv 0))) (zh4 rfl (zc0 (zbe (i:=2) nd rfl (.inr rfl)) (zc0 (zbe (i:=3) nd rfl (.inl rfl)) zgw))) (zg1 2 3) ?_
  refine zaf ?_
  exact (zh9 [false,false,true,true] (pv 1) (zhy zeT (Blk.of rfl) (N':=["c", "number", "r"]) (ix:=[none,none,some 2]) rfl rfl (zgH rfl T.n_enumerate (zak (pv 3))) (fun _ _ _ _ _=>zh4 rfl (zc0 (zbe (i:=0) nd_2 rfl (by first | exact Or.inl rfl | exact Or.inr rfl)) (zc0 (zbe (i:=1) nd_2 rfl (by first | exact Or.inl rfl | exact Or.inr rfl)) zgw))) (zkE (i:=0) (j:=1) (by decide) (by decide)) (fun _ _ _ _ _=>(zaA (o_eq hu5) (zak (pv 1)) (zbr (md:=.al) (zaN (v:=.int 0) rfl T.c_OPEN_MARK ⟨_,rfl⟩)) (zaz _))) (fun _ _ _ _ _=>(zkp (zaa (JE.sc (md1:=.fu) (zak (pv 2))) (zaa (JE.sc (md1:=.fu) (zak (pv 0))) zae))))))
 refine zaf ?_
 exact (zgF (pv 1))
theorem zbJ:FnScope zaG ["board"] (defScope zan):=⟨rfl,rfl,rfl,by decide +kernel,rfl,by decide +kernel,by decide +kernel⟩
theorem zbO:zaG.Nodup:=zap (by decide +kernel)
theorem zbN (T:Txt K mg t):FnOk P w K mg base (CXe P w) 2 t.f_check_not_too_open t.d_check_not_too_open ["board"] (spT K t.cl 1 .fu zbg):=
 za2 (N:=zaG) T.F_check_not_too_open zbJ rfl fun cdv A outer s H E S₀ hd hr=>by
 have hu5:(A.deeper (PyProof.Rows.envOfC "check_not_too_open" (defScope zan) s.heap.objs.size t.f_check_not_too_open cdv)).units + 5 < cLine:=by have:=hr.un;lia
 have nd:=zbO
 refine zaf ?_
 refine zbn [true] (zgE (zkl (zaA (o_eq hu5) (zaF (md:=.al) zcz rfl T.n_len PySem.boot_len (zaa (zak (pv 0)) zae)) (zbr (md:=.al) (zaN (v:=.int 4) rfl T.c_LARGEST_OPEN_SIZE ⟨_,rfl⟩)) (zaz _)) (ziP (zaA (o_gt) (zaF (md:=.al) zcz rfl T.n_len PySem.boot_len (zaa (JE.al (zau (zdY T) (hr.mono (by decide)) rfl T.mg_open_cells T.F_open_cells.kp T.b_open_cells zbL (zaa (zak (pv 0)) zae))) zae)) (zbr (md:=.al) (zaN (v:=.int 6) rfl T.c_MOST_OPEN_CELLS ⟨_,rfl⟩)) (zaz _))))) ?_ ?_
 ·refine zaf ?_
  exact (za9 (c:=4) [false] rfl zbu hr.hd rfl T.mg_TooOpen T.x_TooOpen (zd4 (zcQ (zej (zbr (md:=.al) (zaN (v:=.int 4) rfl T.c_LARGEST_OPEN_SIZE ⟨_,rfl⟩)) (zcQ (zej (zbr (md:=.al) (zaN (v:=.int 6) rfl T.c_MOST_OPEN_CELLS ⟨_,rfl⟩)) (zcQ zfj)))))))
 ·exact za6
theorem zeK:FnScope zbY ["board"] (defScope za4):=⟨rfl,rfl,rfl,by decide +kernel,rfl,by decide +kernel,by decide +kernel⟩
theorem zeQ:zbY.Nodup:=zap (by decide +kernel)
theorem zdc (T:Txt K mg t):FnOk P w K mg base (CXe P w) 3 t.f_fillings t.d_fillings ["board"] (spT K t.cl 1 .fu zcJ):=
 za2 (N:=zbY) T.F_fillings zeK rfl fun cdv A outer s H E S₀ hd hr=>by
 have hu5:(A.deeper (PyProof.Rows.envOfC "fillings" (defScope za4) s.heap.objs.size t.f_fillings cdv)).units + 5 < cLine:=by have:=hr.un;lia
 have nd:=zeQ
 refine zaj ?_ ?_
 ·exact (zaE [true,false,false] (zau (zcg T) (hr.mono (by decide)) rfl T.mg_check_open_board T.F_check_open_board.kp T.b_check_open_board zbL (zaa (zak (pv 0)) zae)))
 refine zaj ?_ ?_
 ·exact (zaE [true,false,false] (zau (zbN T) (hr.mono (by decide)) rfl T.mg_check_not_too_open T.F_check_not_too_open.kp T.b_check_not_too_open zbL (zaa (zak (pv 0)) zae)))
 exact zbR
theorem zeJ:FnScope zbX ["board"] (defScope za3):=⟨rfl,rfl,rfl,by decide +kernel,rfl,by decide +kernel,by decide +kernel⟩
theorem zeP:zbX.Nodup:=zap (by decide +kernel)
theorem zdb (T:Txt K mg t):FnOk P w K mg base (CXe P w) 4 t.f_how_many t.d_how_many ["board"] (spT K t.cl 1 .fu zcI):=
 za2 (N:=zbX) T.F_how_many zeJ rfl fun cdv A outer s H E S₀ hd hr=>by
 have hu5:(A.deeper (PyProof.Rows.envOfC "how_many" (defScope za3) s.heap.objs.size t.f_how_many cdv)).units + 5 < cLine:=by have:=hr.un;lia
 have nd:=zeP
 refine zaf ?_
 exact (zcv [true] (zaF (md:=.fu) zcz rfl T.n_len PySem.boot_len (zaa (JE.al (zau (zdc T) (hr.mono (by decide)) rfl T.mg_fillings T.F_fillings.kp T.b_fillings zbL (zaa (zak (pv 0)) zae))) zae)))
theorem zio:FnScope zfL ["size"] (defScope zda):=⟨rfl,rfl,rfl,by decide +kernel,rfl,by decide +kernel,by decide +kernel⟩
theorem ziI:zfL.Nodup:=zap (by decide +kernel)
theorem ziD (T:Txt K mg t):FnOk P w K mg base (CXe P w) 1 t.f_laid t.d_laid ["size"] (spT K t.cl 1 .fu zh6):=
 za2 (N:=zfL) T.F_laid zio rfl fun cdv A outer s H E S₀ hd hr=>by
 have hu5:(A.deeper (PyProof.Rows.envOfC "laid" (defScope zda) s.heap.objs.size t.f_laid cdv)).units + 5 < cLine:=by have:=hr.un;lia
 have nd:=ziI
 refine zaj ?_ ?_
 ·refine zbn [true] (zgE (zfZ (zaA (o_lt) (zak (pv 0)) (zac (md:=.al)) (zaz _)) (zfZ (zaA (o_gt) (zak (pv 0)) (zbr (md:=.al) (zaN (v:=.int 12) rfl T.c_LARGEST_SIZE ⟨_,rfl⟩)) (zaz _)) (zfs (zaA (o_eq hu5) (zak (pv 0)) (zac (md:=.al)) (zaz _)))))) ?_ ?_
  ·refine zaf ?_
   exact (za9 (c:=3) [false] rfl zbu hr.hd rfl T.mg_NoSize T.x_NoSize (zd4 (zcQ (zej (zbr (md:=.al) (zaN (v:=.int 12) rfl T.c_LARGEST_SIZE ⟨_,rfl⟩)) (zcQ zfj)))))
  ·exact za6
 exact zbR
theorem zgp:FnScope zc4 ["board"] (defScope zbA):=⟨rfl,rfl,rfl,by decide +kernel,rfl,by decide +kernel,by decide +kernel⟩
theorem zgz:zc4.Nodup:=zap (by decide +kernel)
theorem zgx (T:Txt K mg t):FnOk P w K mg base (CXe P w) 3 t.f_turned t.d_turned ["board"] (spT K t.cl 1 .fu zfq):=
 za2 (N:=zc4) T.F_turned zgp rfl fun cdv A outer s H E S₀ hd hr=>by
 have hu5:(A.deeper (PyProof.Rows.envOfC "turned" (defScope zbA) s.heap.objs.size t.f_turned cdv)).units + 5 < cLine:=by have:=hr.un;lia
 have nd:=zgz
 refine zaj ?_ ?_
 ·exact (zaE [true] (zau (zaS T) (hr.mono (by decide)) rfl T.mg_check_board T.F_check_board.kp T.b_check_board zbL (zaa (zak (pv 0)) zae)))
 exact zbR
theorem zjI:FnScope zhZ ["board"] (defScope zeM):=⟨rfl,rfl,rfl,by decide +kernel,rfl,by decide +kernel,by decide +kernel⟩
theorem zkc:zhZ.Nodup:=zap (by decide +kernel)
theorem zj7 (T:Txt K mg t):FnOk P w K mg base (CXe P w) 4 t.f_kin t.d_kin ["board"] (spT K t.cl 1 .sp zkf):=
 za2 (N:=zhZ) T.F_kin zjI rfl fun cdv A outer s H E S₀ hd hr=>by
 have hu5:(A.deeper (PyProof.Rows.envOfC "kin" (defScope zeM) s.heap.objs.size t.f_kin cdv)).units + 5 < cLine:=by have:=hr.un;lia
 have nd:=zkc
 refine zaj ?_ ?_
 ·exact (zca (i:=1) [false,false,false,false] nd rfl (.inl rfl) (zax zae))
 refine zaj ?_ ?_
 ·exact (ziQ (i:=2) [true,false,false,false] nd rfl (.inl rfl) (zak (pv 0)))
 refine zaj ?_ ?_
 ·refine zdf [false,false,false,false] ownE rfl (zcw rfl T.n_range (zaa (zac (md:=.al)) zae)) (zbe (i:=3) nd rfl (.inl rfl)) (zbc 3) ?_
  refine zaj ?_ ?_
  ·exact (zca (i:=2) [false,false,true,false] nd rfl (.inl rfl) (zau (zgx T) (hr.mono (by decide)) rfl T.mg_turned T.F_turned.kp T.b_turned zbL (zaa (zak (pv 2)) zae)))
  exact zbR
 exact zbR
theorem zcd:FnScope zaL ["order", "size"] (defScope zat):=⟨rfl,rfl,rfl,by decide +kernel,rfl,by decide +kernel,by decide +kernel⟩
theorem zck:zaL.Nodup:=zap (by decide +kernel)
theorem zch (T:Txt K mg t):FnOk P w K mg base (CXe P w) 1 t.f_check_fair_order t.d_check_fair_order ["order", "size"] (spT K t.cl 2 .fu zbp):=
 za2 (N:=zaL) T.F_check_fair_order zcd rfl fun cdv A outer s H E S₀ hd hr=>by
 have hu5:(A.deeper (PyProof.Rows.envOfC "check_fair_order" (defScope zat) s.heap.objs.size t.f_check_fair_order cdv)).units + 5 < cLine:=by have:=hr.un;lia
 have nd:=zck
 refine zaj ?_ ?_
 ·refine zbn [true,true,false,false] (zaA (o_ne hu5) (JE.al (zaF zfF rfl T.n_sorted boot_sorted (zaa (zak (pv 0)) zae))) (JE.al (zd6 rfl rfl T.n_list rfl T.n_range (zaa (zak (pv 1)) zae))) (zaz _)) ?_ ?_
  ·refine zaf ?_
   exact (za9 (c:=2) [false,false,false,false] rfl zbu hr.hd rfl T.mg_BadOrder T.x_BadOrder zdI)
  ·exact za6
 refine zaj ?_ ?_
 ·exact (zca (i:=2) [false,true,false,false] nd rfl (.inl rfl) (zdg (md:=.fu) zj8 (zak (pv 1)) (zac (md:=.al))))
 refine zaf ?_
 refine zdf [false,true,false,false] ownE rfl (zcw rfl T.n_range (zaa (zak (pv 1)) zae)) (zbe (i:=3) nd rfl (.inl rfl)) (zbc 3) ?_
 refine zaf ?_
 refine zbn [true,false,true,true] (zaA (o_ne hu5) (zdg (md:=.al) ziG (zhx o_ix (zak (pv 0)) (zak (pv 3)) (fun _ _=>rfl)) (zhx o_ix (zak (pv 0)) (zdg (md:=.al) zj8 (zak (pv 2)) (zak (pv 3))) (fun _ _=>rfl))) (zak (pv 2)) (zaz _)) ?_ ?_
 ·refine zaf ?_
  exact (za9 (c:=2) [false,false,false,false] rfl zbu hr.hd rfl T.mg_BadOrder T.x_BadOrder zdI)
 ·exact za6
theorem zeL:FnScope zbZ ["board", "order"] (defScope za5):=⟨rfl,rfl,rfl,by decide +kernel,rfl,by decide +kernel,by decide +kernel⟩
theorem zeR:zbZ.Nodup:=zap (by decide +kernel)
theorem zci (T:Txt K mg t):FnOk P w K mg base (CXe P w) 3 t.f_arranged t.d_arranged ["board", "order"] (spT K t.cl 2 .fu zbU):=
 za2 (N:=zbZ) T.F_arranged zeL rfl fun cdv A outer s H E S₀ hd hr=>by
 have hu5:(A.deeper (PyProof.Rows.envOfC "arranged" (defScope za5) s.heap.objs.size t.f_arranged cdv)).units + 5 < cLine:=by have:=hr.un;lia
 have nd:=zeR
 refine zaj ?_ ?_
 ·exact (zaE [true,false] (zau (zaS T) (hr.mono (by decide)) rfl T.mg_check_board T.F_check_board.kp T.b_check_board zbL (zaa (zak (pv 0)) zae)))
 refine zaj ?_ ?_
 ·exact (zaE [true,true] (zau (zch T) (hr.mono (by decide)) rfl T.mg_check_fair_order T.F_check_fair_order.kp T.b_check_fair_order zbL (zaa (zak (pv 1)) (zaa (zaF (md:=.al) zcz rfl T.n_len PySem.boot_len (zaa (zak (pv 0)) zae)) zae))))
 exact zbR
theorem zhb:FnScope zed ["outer", "inner"] (defScope zce):=⟨rfl,rfl,rfl,by decide +kernel,rfl,by decide +kernel,by decide +kernel⟩
theorem zhp:zed.Nodup:=zap (by decide +kernel)
theorem zfm (T:Txt K mg t):FnOk P w K mg base (CXe P w) 3 t.f_woven t.d_woven ["outer", "inner"] (spT K t.cl 2 .fu zeU):=
 za2 (N:=zed) T.F_woven zhb rfl fun cdv A outer s H E S₀ hd hr=>by
 have hu5:(A.deeper (PyProof.Rows.envOfC "woven" (defScope zce) s.heap.objs.size t.f_woven cdv)).units + 5 < cLine:=by have:=hr.un;lia
 have nd:=zhp
 refine zaj ?_ ?_
 ·exact (zaE [true,false,false,false,false] (zau (zaS T) (hr.mono (by decide)) rfl T.mg_check_board T.F_check_board.kp T.b_check_board zbL (zaa (zak (pv 0)) zae)))
 refine zaj ?_ ?_
 ·exact (zaE [false,true,false,false,false] (zau (zaS T) (hr.mono (by decide)) rfl T.mg_check_board T.F_check_board.kp T.b_check_board zbL (zaa (zak (pv 1)) zae)))
 refine zaj ?_ ?_
 ·refine zbn [true,true,false,false,false] (zaA (o_gt) (zdg (md:=.al) ziF (zaF (md:=.al) zcz rfl T.n_len PySem.boot_len (zaa (zak (pv 0)) zae)) (zaF (md:=.al) zcz rfl T.n_len PySem.boot_len (zaa (zak (pv 1)) zae))) (zbr (md:=.al) (zaN (v:=.int 12) rfl T.c_LARGEST_SIZE ⟨_,rfl⟩)) (zaz _)) ?_ ?_
  ·refine zaf ?_
   exact (za9 (c:=3) [false,false,false,false,false] rfl zbu hr.hd rfl T.mg_NoSize T.x_NoSize (zd4 (zcQ (zej (zbr (md:=.al) (zaN (v:=.int 12) rfl T.c_LARGEST_SIZE ⟨_,rfl⟩)) zfj))))
  ·exact za6
 exact zbR
theorem zha:FnScope zcM ["e"] (defScope zbt):=⟨rfl,rfl,rfl,by decide +kernel,rfl,by decide +kernel,by decide +kernel⟩
theorem zho:zcM.Nodup:=zap (by decide +kernel)
theorem zhl (T:Txt K mg t) {c:Nat} {a:Addr} {oe:Obj} {cdv:Value} {A:Around} {outer:List Env} {s:Shared} {H:Hp} {S₀:Addr→Prop} {E:XK} (hc:c∈[0,1,2,3,4]) (hcl:oe.cls=.ref (t.cl c)) (hu5:(A.deeper (PyProof.Rows.envOfC "_law_which" (defScope zbt) s.heap.objs.size t.fqwhich cdv)).units + 5 < cLine) :
  JSs (wcx P w K mg base zcM "_law_which" (defScope zbt) t.fqwhich cdv A outer s H a oe) ⟨H,S₀,t.cl,E⟩ (ze4 c a) (defBody zbt):=by
 have nd:=zho
 have hpn:(a,oe)∈(wcx P w K mg base zcM "_law_which" (defScope zbt) t.fqwhich cdv A outer s H a oe).pn:=List.mem_singleton.mpr rfl
 refine zaj ?_ ?_
 ·exact (zca (i:=1) [true,false] nd rfl (.inl rfl) (zax (by refine zaa (zdJ (md:=.fu) hpn hcl (T.q_all c hc) rfl T.n_isinstance (pv 0) (zaN (v:=.ref t.C_BadBoard) rfl T.mg_BadBoard rfl) (fun _ q=>q) (T.o_BadBoard c hc)) ?_;refine zaa (zdJ (md:=.fu) hpn hcl (T.q_all c hc) rfl T.n_isinstance (pv 0) (zaN (v:=.ref t.C_BadOrder) rfl T.mg_BadOrder rfl) (fun _ q=>q) (T.o_BadOrder c hc)) ?_;refine zaa (zdJ (md:=.fu) hpn hcl (T.q_all c hc) rfl T.n_isinstance (pv 0) (zaN (v:=.ref t.C_NoSize) rfl T.mg_NoSize rfl) (fun _ q=>q) (T.o_NoSize c hc)) ?_;refine zaa (zdJ (md:=.fu) hpn hcl (T.q_all c hc) rfl T.n_isinstance (pv 0) (zaN (v:=.ref t.C_TooOpen) rfl T.mg_TooOpen rfl) (fun _ q=>q) (T.o_TooOpen c hc)) ?_;exact zae)))
 refine zaj ?_ ?_
 ·refine zbn [true,true] (zgE (zfZ (zh8 (zh7 (zdJ (md:=.al) hpn hcl (T.q_all c hc) rfl T.n_isinstance (pv 0) (zaN (v:=.ref t.C_SumError) rfl T.mg_SumError rfl) (fun _ q=>q) (T.o_SumError c hc)))) (zfZ (zh8 (zh7 (zdJ (md:=.al) hpn hcl (T.q_all c hc) rfl T.n_isinstance (pv 0) (ziB (v:=.ty "ValueError") rfl T.n_ValueError zea rfl) (fun _ q=>q) (T.o_ValueError c hc)))) (zfs (zaA (o_ne hu5) (zkr (md:=.al) (zak (pv 1)) (zhA (md:=.al))) (zac (md:=.al)) (zaz _)))))) ?_ ?_
  ·refine zaf ?_
   exact (zcv [false,false] (zlF (md:=.fu) zlB (zac (md:=.al))))
  ·exact za6
 refine zaf ?_
 exact (zcv [false,true] (ziS (md:=.fu) (zak (pv 1)) (zhA (md:=.al))))
theorem zjG:FnScope zhY ["way"] (defScope zeH):=⟨rfl,rfl,rfl,by decide +kernel,rfl,by decide +kernel,by decide +kernel⟩
theorem zka:zhY.Nodup:=zap (by decide +kernel)
theorem zj6 (T:Txt K mg t):FnOk P w K mg base (CXe P w) 5 t.fqmet t.dqmet ["way"] (spT K t.cl 1 .fu zke):=
 za2 (N:=zhY) T.Fqmet zjG rfl fun cdv A outer s H E S₀ hd hr=>by
 have hu5:(A.deeper (PyProof.Rows.envOfC "_law_met" (defScope zeH) s.heap.objs.size t.fqmet cdv)).units + 5 < cLine:=by have:=hr.un;lia
 have nd:=zka
 refine zaj ?_ ?_
 ·exact (zca (i:=1) [false,false,false] nd rfl (.inl rfl) (zax (by refine zaa (zax (by refine zaa (zac (md:=.fu)) ?_;refine zaa (zac (md:=.fu)) ?_;refine zaa (zac (md:=.fu)) ?_;refine zaa (zac (md:=.fu)) ?_;exact zae)) ?_;refine zaa (zax (by refine zaa (zac (md:=.fu)) ?_;refine zaa (zac (md:=.fu)) ?_;refine zaa (zac (md:=.fu)) ?_;refine zaa (zac (md:=.fu)) ?_;exact zae)) ?_;refine zaa (zax (by refine zaa (zac (md:=.fu)) ?_;refine zaa (zac (md:=.fu)) ?_;refine zaa (zac (md:=.fu)) ?_;refine zaa (zac (md:=.fu)) ?_;exact zae)) ?_;refine zaa (zax (by refine zaa (zac (md:=.fu)) ?_;refine zaa (zac (md:=.fu)) ?_;refine zaa (zac (md:=.fu)) ?_;refine zaa (zac (md:=.fu)) ?_;exact zae)) ?_;exact zae)))
 refine zaj ?_ ?_
 ·refine zkm rfl rfl (fun pn E' Eh hp=>?_) ?_
  ·refine zaf ?_
   refine zbn [true,false,false] (zaA (o_eq hu5) (zak (pv 0)) (zac (md:=.al)) (zaz _)) ?_ ?_
   ·refine zaf ?_
    exact (zaE [false,false,false] (zau (ziC T) (hr.mono (by decide)) rfl T.mg_sums T.F_sums.kp T.b_sums hp (zaa (JE.al (zax (zaa (zax (zaa (zac (md:=.fu)) (zaa (zac (md:=.fu)) zae))) (zaa (zax (zaa (zac (md:=.fu)) zae)) zae)))) zae)))
   ·refine zaf ?_
    refine zbn [true,false,false] (zaA (o_eq hu5) (zak (pv 0)) (zac (md:=.al)) (zaz _)) ?_ ?_
    ·refine zaf ?_
     exact (zaE [false,false,false] (zau (zj7 T) (hr.mono (by decide)) rfl T.mg_kin T.F_kin.kp T.b_kin hp (zaa (JE.al (zax zae)) zae)))
    ·refine zaf ?_
     refine zbn [true,false,false] (zaA (o_eq hu5) (zak (pv 0)) (zac (md:=.al)) (zaz _)) ?_ ?_
     ·refine zaf ?_
      exact (zaE [false,false,false] (zau (zci T) (hr.mono (by decide)) rfl T.mg_arranged T.F_arranged.kp T.b_arranged hp (zaa (JE.al (zax (zaa (zax (zaa (zac (md:=.fu)) (zaa (zac (md:=.fu)) zae))) (zaa (zax (zaa (zac (md:=.fu)) (zaa (zac (md:=.fu)) zae))) zae)))) (zaa (JE.al (zax (zaa (zac (md:=.fu)) (zaa (zac (md:=.fu)) zae)))) zae))))
     ·refine zaf ?_
      refine zbn [true,false,false] (zaA (o_eq hu5) (zak (pv 0)) (zac (md:=.al)) (zaz _)) ?_ ?_
      ·refine zaf ?_
       exact (zaE [false,false,false] (zau (zci T) (hr.mono (by decide)) rfl T.mg_arranged T.F_arranged.kp T.b_arranged hp (zaa (JE.al (zax (zaa (zax (zaa (zac (md:=.fu)) (zaa (zac (md:=.fu)) zae))) (zaa (zax (zaa (zac (md:=.fu)) (zaa (zac (md:=.fu)) zae))) zae)))) (zaa (JE.al (zax (zaa (zac (md:=.fu)) (zaa (zac (md:=.fu)) zae)))) zae))))
      ·refine zaf ?_
       refine zbn [true,false,false] (zaA (o_eq hu5) (zak (pv 0)) (zac (md:=.al)) (zaz _)) ?_ ?_
       ·refine zaf ?_
        exact (zaE [false,true,false] (zau (zci T) (hr.mono (by decide)) rfl T.mg_arranged T.F_arranged.kp T.b_arranged hp (zaa (zak (pv 1)) (zaa (JE.al (zax (by refine zaa (zac (md:=.fu)) ?_;refine zaa (zac (md:=.fu)) ?_;refine zaa (zac (md:=.fu)) ?_;refine zaa (zac (md:=.fu)) ?_;exact zae))) zae))))
       ·refine zaf ?_
        refine zbn [true,false,false] (zaA (o_eq hu5) (zak (pv 0)) (zac (md:=.al)) (zaz _)) ?_ ?_
        ·refine zaf ?_
         exact (zaE [false,false,false] (zau (ziD T) (hr.mono (by decide)) rfl T.mg_laid T.F_laid.kp T.b_laid hp (zaa (zac (md:=.al)) zae)))
        ·refine zaf ?_
         refine zbn [true,false,false] (zaA (o_eq hu5) (zak (pv 0)) (zac (md:=.al)) (zaz _)) ?_ ?_
         ·refine zaf ?_
          exact (zaE [false,true,false] (zau (zfm T) (hr.mono (by decide)) rfl T.mg_woven T.F_woven.kp T.b_woven hp (zaa (zak (pv 1)) (zaa (zak (pv 1)) zae))))
         ·refine zaf ?_
          refine zbn [true,false,false] (zaA (o_eq hu5) (zak (pv 0)) (zac (md:=.al)) (zaz _)) ?_ ?_
          ·refine zaf ?_
           exact (zaE [false,true,false] (zau (zfm T) (hr.mono (by decide)) rfl T.mg_woven T.F_woven.kp T.b_woven hp (zaa (zak (pv 1)) (zaa (JE.al (zax (zaa (zax (zaa (zac (md:=.fu)) zae)) zae))) zae))))
          ·refine zaf ?_
           refine zbn [true,false,false] (zaA (o_eq hu5) (zak (pv 0)) (zac (md:=.al)) (zaz _)) ?_ ?_
           ·refine zaf ?_
            exact (zaE [false,false,false] (zau (zdc T) (hr.mono (by decide)) rfl T.mg_fillings T.F_fillings.kp T.b_fillings hp (zaa (JE.al (zax (by refine zaa (zax (by refine zaa (zac (md:=.fu)) ?_;refine zaa (zac (md:=.fu)) ?_;refine zaa (zac (md:=.fu)) ?_;refine zaa (zac (md:=.fu)) ?_;exact zae)) ?_;refine zaa (zax (by refine zaa (zac (md:=.fu)) ?_;refine zaa (zac (md:=.fu)) ?_;refine zaa (zac (md:=.fu)) ?_;refine zaa (zac (md:=.fu)) ?_;exact zae)) ?_;refine zaa (zax (by refine zaa (zac (md:=.fu)) ?_;refine zaa (zac (md:=.fu)) ?_;refine zaa (zac (md:=.fu)) ?_;refine zaa (zac (md:=.fu)) ?_;exact zae)) ?_;refine zaa (zax (by refine zaa (zac (md:=.fu)) ?_;refine zaa (zac (md:=.fu)) ?_;refine zaa (zac (md:=.fu)) ?_;refine zaa (zac (md:=.fu)) ?_;exact zae)) ?_;exact zae))) zae)))
           ·refine zaf ?_
            refine zbn [true,false,false] (zaA (o_eq hu5) (zak (pv 0)) (zac (md:=.al)) (zaz _)) ?_ ?_
            ·refine zaf ?_
             exact (zaE [false,false,false] (zau (zdb T) (hr.mono (by decide)) rfl T.mg_how_many T.F_how_many.kp T.b_how_many hp (zaa (JE.al (zax (by refine zaa (zax (by refine zaa (zac (md:=.fu)) ?_;refine zaa (zac (md:=.fu)) ?_;refine zaa (zac (md:=.fu)) ?_;refine zaa (zac (md:=.fu)) ?_;exact zae)) ?_;refine zaa (zax (by refine zaa (zac (md:=.fu)) ?_;refine zaa (zac (md:=.fu)) ?_;refine zaa (zac (md:=.fu)) ?_;refine zaa (zac (md:=.fu)) ?_;exact zae)) ?_;refine zaa (zax (by refine zaa (zac (md:=.fu)) ?_;refine zaa (zac (md:=.fu)) ?_;refine zaa (zac (md:=.fu)) ?_;refine zaa (zac (md:=.fu)) ?_;exact zae)) ?_;refine zaa (zax (by refine zaa (zac (md:=.fu)) ?_;refine zaa (zac (md:=.fu)) ?_;refine zaa (zac (md:=.fu)) ?_;refine zaa (zac (md:=.fu)) ?_;exact zae)) ?_;exact zae))) zae)))
            ·refine zaf ?_
             exact (zaE [false,false,false] (zau (zdb T) (hr.mono (by decide)) rfl T.mg_how_many T.F_how_many.kp T.b_how_many hp (zaa (JE.al (ziT zeT (Blk.of rfl) (N':=["k"]) (ix:=[none]) rfl rfl (zcw rfl T.n_range (zaa (zac (md:=.al)) zae)) (fun _ _ _ _ _=>zbe (i:=0) nd_0 rfl (by first | exact Or.inl rfl | exact Or.inr rfl)) (zfH (i:=0) (by decide)) (fun _ _ _ _ _=>(zdg (zlA (md:=.fu)) (JE.al (zax (zaa (zac (md:=.fu)) zae))) (zac (md:=.al)))))) zae)))
  ·refine zhw (i:=2) (c':=0) (Rh:=fun c a=>sRet .fu [false,false,true] (zaR 1 (zd0 c a) (zab (eVar 2) aNil))) (t:=zfe) (md:=.fu) [0,1,2,3,4] rfl hd rfl T.mg_SumError nd rfl rfl T.e_SumError (fun a oe c hc hs hcl=>?_) (fun c hc hs a=>?_) ?_
   ·refine zaf (zcv [false,false,true] (zhz (E:=a) (oe:=oe) (List.mem_append_right _ (List.mem_singleton.mpr rfl)) T.Fqwhich zha rfl (ziL hr) T.bqwhich (fun cdv A outer s H S₀ hd hA=>?_) rfl T.mgqwhich (zaa (zak (pv 2)) zae)))
    exact zhl T hc hcl (hA ▸ ziK hr)
   ·show (zd0 c a [.sc (.ref a)]).sthen (fun t=>.rt .fu t)=_;rw [zg8 c hc a];rfl
   exact zko
 refine zaf ?_
 exact (zcv [false,false,false] (zac (md:=.fu)))
theorem zjH:FnScope zga ["script"] (defScope s_law):=⟨rfl,rfl,rfl,by decide +kernel,rfl,by decide +kernel,by decide +kernel⟩
theorem zkb:zga.Nodup:=zap (by decide +kernel)
theorem ok_law (T:Txt K mg t):FnOk P w K mg base (CXe P w) 6 t.f_law t.d_law ["script"] (spT K t.cl 1 .fu ziM):=
 za2 (N:=zga) T.F_law zjH rfl fun cdv A outer s H E S₀ hd hr=>by
 have hu5:(A.deeper (PyProof.Rows.envOfC "law" (defScope s_law) s.heap.objs.size t.f_law cdv)).units + 5 < cLine:=by have:=hr.un;lia
 have nd:=zkb
 refine zaj ?_ ?_
 ·exact (zca (i:=1) [true,false,false,false] nd rfl (.inl rfl) (zdg (md:=.fu) zj9 (JE.al (zau (zfX T) (hr.mono (by decide)) rfl T.mgqcell_at T.Fqcell_at.kp T.bqcell_at zbL (zaa (zak (pv 0)) (zaa (zac (md:=.al)) zae)))) (zac (md:=.al))))
 refine zaj ?_ ?_
 ·refine zdf [false,false,false,false] ownE rfl (zcw rfl T.n_range (zaa (zac (md:=.al)) zae)) (zbe (i:=2) nd rfl (.inl rfl)) (zbc 2) ?_
  refine zaj ?_ ?_
  ·exact (zca (i:=3) [false,true,true,false] nd rfl (.inl rfl) (zdg (md:=.fu) zj9 (zdg (md:=.al) ziG (zak (pv 1)) (zak (pv 2))) (zac (md:=.al))))
  refine zaf ?_
  refine zbn [false,false,false,true] (zaA (o_ne hu5) (JE.al (zau (zj6 T) (hr.mono (by decide)) rfl T.mgqmet T.Fqmet.kp T.bqmet zbL (zaa (zak (pv 3)) zae))) (zhx o_ix (JE.al (zax (by refine zaa (zac (md:=.fu)) ?_;refine zaa (zac (md:=.fu)) ?_;refine zaa (zac (md:=.fu)) ?_;refine zaa (zac (md:=.fu)) ?_;refine zaa (zac (md:=.fu)) ?_;refine zaa (zac (md:=.fu)) ?_;refine zaa (zac (md:=.fu)) ?_;refine zaa (zac (md:=.fu)) ?_;refine zaa (zac (md:=.fu)) ?_;refine zaa (zac (md:=.fu)) ?_;refine zaa (zac (md:=.fu)) ?_;exact zae))) (zak (pv 3)) (fun _ _=>rfl)) (zaz _)) ?_ ?_
  ·refine zaf ?_
   exact (zcv [false,false,false,false] (zhA (md:=.fu)))
  ·exact za6
 refine zaf ?_
 exact (zcv [false,false,false,false] (zhA (md:=.fu)))
end
end Qk11
namespace Qk11
open PySem PySem.Spec L2 TL
noncomputable def zdO (ns:List Int) (k:Nat):Int:=ns.getD k 0
theorem zja (ns:List Int) (k:Nat):zbx [.scr ns,.sc (.int k)]=.ok (.sc (.int (zdO ns k))):=by
 unfold zdO
 by_cases h:k < ns.length
 ·have:atI ns (k:Int)=some ns[k]:=zjb (by lia) (by simp [h])
  simp [zbx,zds,zbz,h,this]
 ·simp [zbx,zds,zbz,h]
theorem zlo (ns:List Int):fin .fu (za0 [some (.al,.scr ns),some (.fu,.sc (.int 0)),none,none])=.ok (.sc (.bl true)):=by kernel_rfl
theorem zln (ns:List Int):fin .fu (za0 [some (.al,.scr ns),some (.fu,.sc (.int 1)),none,none])=.ok (.sc (.bl true)):=by kernel_rfl
theorem zlm (ns:List Int):fin .fu (za0 [some (.al,.scr ns),some (.fu,.sc (.int 2)),none,none])=.ok (.sc (.bl true)):=by kernel_rfl
theorem zll (ns:List Int):fin .fu (za0 [some (.al,.scr ns),some (.fu,.sc (.int 3)),none,none])=.ok (.sc (.bl true)):=by kernel_rfl
theorem zlk (ns:List Int):fin .fu (za0 [some (.al,.scr ns),some (.fu,.sc (.int 4)),none,none])=.ok (.sc (.bl true)):=by kernel_rfl
theorem zlj (ns:List Int):fin .fu (za0 [some (.al,.scr ns),some (.fu,.sc (.int 5)),none,none])=.ok (.sc (.bl true)):=by kernel_rfl
theorem zli (ns:List Int):fin .fu (za0 [some (.al,.scr ns),some (.fu,.sc (.int 6)),none,none])=.ok (.sc (.bl true)):=by kernel_rfl
theorem zlh (ns:List Int):fin .fu (za0 [some (.al,.scr ns),some (.fu,.sc (.int 7)),none,none])=.ok (.sc (.bl true)):=by kernel_rfl
theorem zlg (ns:List Int):fin .fu (za0 [some (.al,.scr ns),some (.fu,.sc (.int 8)),none,none])=.ok (.sc (.bl true)):=by kernel_rfl
theorem zlf (ns:List Int):fin .fu (za0 [some (.al,.scr ns),some (.fu,.sc (.int 9)),none,none])=.ok (.sc (.bl true)):=by kernel_rfl
theorem zjL (ns:List Int):fin .fu (za0 [some (.al,.scr ns),some (.fu,.sc (.int 10)),none,none])=.ok (.sc (.bl true)):=by kernel_rfl
theorem law_true (ns:List Int) (h:ns.length≤63):ziM [.scr ns]=.ok (.sc (.bl true)):=by
 have e:=zja ns 0
 have h1:sSet 1 [true,false,false,false] (eOp (oI iMod) (zaR 2 zbx (zab (eVar 0) (zab (eC (.int 0)) aNil))) (eC (.int 11))) (zav zga [.scr ns])=.nx [some (.al,.scr ns),some (.fu,.sc (.int (zdO ns 0 % 11))),none,none]:=by
  simp at e
  simp [zga,e]
 unfold ziM zkH
 show fin .fu (SRes.then _ (za0))=_
 rw [h1]
 show fin .fu (za0 _)=_
 have h0:0≤zdO ns 0 % 11∧zdO ns 0 % 11 < 11:=by lia
 generalize zdO ns 0 % 11=f at h0
 have:f=0∨f=1∨f=2∨f=3∨f=4∨f=5∨f=6∨f=7∨f=8∨f=9∨f=10:=by lia
 rcases this with rfl | rfl | rfl | rfl | rfl | rfl | rfl | rfl | rfl | rfl | rfl
 ·exact zlo ns
 ·exact zln ns
 ·exact zlm ns
 ·exact zll ns
 ·exact zlk ns
 ·exact zlj ns
 ·exact zli ns
 ·exact zlh ns
 ·exact zlg ns
 ·exact zlf ns
 ·exact zjL ns
end Qk11
namespace Qk11
open PySem PySem.Spec L2 TL
open PyProof.Rows hiding St
theorem txt_mk {K:PySem.W.Frag} {h:Heap} {mg:Str→Option Value} {fa f_0 f_1 f_2 f_3 f_4 f_5 f_6 f_7 f_8 f_9 f_10 f_11 f_12 f_13 f_14 f_15 f_16 f_17 f_18 C_SumError C_BadBoard C_BadOrder C_NoSize C_TooOpen:Addr} (X:K.In h) (G:h.Ns mainGlobals mg) (hfa:mg "law" = some (.ref fa))
  {tk_LARGEST_OPEN_SIZE tk_LARGEST_SIZE tk_MOST_OPEN_CELLS tk_OPEN_MARK:Nat}
  {q_CROSSED_2:Nat} {q_CROSSED_3:Nat} {v_CROSSED_1:Addr} {o_CROSSED_1:Obj} {n_CROSSED_1:Nat} {q_CROSSED_5:Nat} {q_CROSSED_6:Nat} {v_CROSSED_4:Addr} {o_CROSSED_4:Obj} {n_CROSSED_4:Nat} {v_CROSSED:Addr} {o_CROSSED_0:Obj} {n_CROSSED_0:Nat} {q_LEFT_HEAVY_2:Nat} {q_LEFT_HEAVY_3:Nat} {v_LEFT_HEAVY_1:Addr} {o_LEFT_HEAVY_1:Obj} {n_LEFT_HEAVY_1:Nat} {q_LEFT_HEAVY_5:Nat} {q_LEFT_HEAVY_6:Nat} {v_LEFT_HEAVY_4:Addr} {o_LEFT_HEAVY_4:Obj} {n_LEFT_HEAVY_4:Nat} {v_LEFT_HEAVY:Addr} {o_LEFT_HEAVY_0:Obj} {n_LEFT_HEAVY_0:Nat} {q_RIGHT_HEAVY_2:Nat} {q_RIGHT_HEAVY_3:Nat} {v_RIGHT_HEAVY_1:Addr} {o_RIGHT_HEAVY_1:Obj} {n_RIGHT_HEAVY_1:Nat} {q_RIGHT_HEAVY_5:Nat} {q_RIGHT_HEAVY_6:Nat} {v_RIGHT_HEAVY_4:Addr} {o_RIGHT_HEAVY_4:Obj} {n_RIGHT_HEAVY_4:Nat} {v_RIGHT_HEAVY:Addr} {o_RIGHT_HEAVY_0:Obj} {n_RIGHT_HEAVY_0:Nat}
  {od_0 an_0:Option Addr} {sl_0:Array (Option Value)} {oc_0 kV_0 dc_0 pm_0 cd_0 ct_0:Value}
  (a_0:PySem.W.nsIn K mainGlobals "_law_cell_at" = some (some (.ref f_0)))
  (l_0:K.lookup f_0=some ⟨oc_0,od_0,.func (PySem.W.fnOf "_law_cell_at" "_law_cell_at" (defArgs zbl) (defBody zbl) (defScope zbl) .none kV_0 dc_0 pm_0 an_0 cd_0 ct_0),sl_0⟩)
  (c_0:PySem.W.codeIn K cd_0 "_law_cell_at" = true) (k_0:PySem.W.keepIn K (.ref f_0)=true)
  {od_1 an_1:Option Addr} {sl_1:Array (Option Value)} {oc_1 kV_1 dc_1 pm_1 cd_1 ct_1:Value}
  (a_1:PySem.W.nsIn K mainGlobals "check_square" = some (some (.ref f_1)))
  (l_1:K.lookup f_1=some ⟨oc_1,od_1,.func (PySem.W.fnOf "check_square" "check_square" (defArgs zaD) (defBody zaD) (defScope zaD) .none kV_1 dc_1 pm_1 an_1 cd_1 ct_1),sl_1⟩)
  (c_1:PySem.W.codeIn K cd_1 "check_square" = true) (k_1:PySem.W.keepIn K (.ref f_1)=true)
  {od_2 an_2:Option Addr} {sl_2:Array (Option Value)} {oc_2 kV_2 dc_2 pm_2 cd_2 ct_2:Value}
  (a_2:PySem.W.nsIn K mainGlobals "joined" = some (some (.ref f_2)))
  (l_2:K.lookup f_2=some ⟨oc_2,od_2,.func (PySem.W.fnOf "joined" "joined" (defArgs zbB) (defBody zbB) (defScope zbB) .none kV_2 dc_2 pm_2 an_2 cd_2 ct_2),sl_2⟩)
  (c_2:PySem.W.codeIn K cd_2 "joined" = true) (k_2:PySem.W.keepIn K (.ref f_2)=true)
  {od_3 an_3:Option Addr} {sl_3:Array (Option Value)} {oc_3 kV_3 dc_3 pm_3 cd_3 ct_3:Value}
  (a_3:PySem.W.nsIn K mainGlobals "check_board" = some (some (.ref f_3)))
  (l_3:K.lookup f_3=some ⟨oc_3,od_3,.func (PySem.W.fnOf "check_board" "check_board" (defArgs zaI) (defBody zaI) (defScope zaI) .none kV_3 dc_3 pm_3 an_3 cd_3 ct_3),sl_3⟩)
  (c_3:PySem.W.codeIn K cd_3 "check_board" = true) (k_3:PySem.W.keepIn K (.ref f_3)=true)
  {od_4 an_4:Option Addr} {sl_4:Array (Option Value)} {oc_4 kV_4 dc_4 pm_4 cd_4 ct_4:Value}
  (a_4:PySem.W.nsIn K mainGlobals "sums" = some (some (.ref f_4)))
  (l_4:K.lookup f_4=some ⟨oc_4,od_4,.func (PySem.W.fnOf "sums" "sums" (defArgs zc9) (defBody zc9) (defScope zc9) .none kV_4 dc_4 pm_4 an_4 cd_4 ct_4),sl_4⟩)
  (c_4:PySem.W.codeIn K cd_4 "sums" = true) (k_4:PySem.W.keepIn K (.ref f_4)=true)
  {od_5 an_5:Option Addr} {sl_5:Array (Option Value)} {oc_5 kV_5 dc_5 pm_5 cd_5 ct_5:Value}
  (a_5:PySem.W.nsIn K mainGlobals "check_open_board" = some (some (.ref f_5)))
  (l_5:K.lookup f_5=some ⟨oc_5,od_5,.func (PySem.W.fnOf "check_open_board" "check_open_board" (defArgs zas) (defBody zas) (defScope zas) .none kV_5 dc_5 pm_5 an_5 cd_5 ct_5),sl_5⟩)
  (c_5:PySem.W.codeIn K cd_5 "check_open_board" = true) (k_5:PySem.W.keepIn K (.ref f_5)=true)
  {od_6 an_6:Option Addr} {sl_6:Array (Option Value)} {oc_6 kV_6 dc_6 pm_6 cd_6 ct_6:Value}
  (a_6:PySem.W.nsIn K mainGlobals "open_cells" = some (some (.ref f_6)))
  (l_6:K.lookup f_6=some ⟨oc_6,od_6,.func (PySem.W.fnOf "open_cells" "open_cells" (defArgs zaM) (defBody zaM) (defScope zaM) .none kV_6 dc_6 pm_6 an_6 cd_6 ct_6),sl_6⟩)
  (c_6:PySem.W.codeIn K cd_6 "open_cells" = true) (k_6:PySem.W.keepIn K (.ref f_6)=true)
  {od_7 an_7:Option Addr} {sl_7:Array (Option Value)} {oc_7 kV_7 dc_7 pm_7 cd_7 ct_7:Value}
  (a_7:PySem.W.nsIn K mainGlobals "check_not_too_open" = some (some (.ref f_7)))
  (l_7:K.lookup f_7=some ⟨oc_7,od_7,.func (PySem.W.fnOf "check_not_too_open" "check_not_too_open" (defArgs zan) (defBody zan) (defScope zan) .none kV_7 dc_7 pm_7 an_7 cd_7 ct_7),sl_7⟩)
  (c_7:PySem.W.codeIn K cd_7 "check_not_too_open" = true) (k_7:PySem.W.keepIn K (.ref f_7)=true)
  {od_8 an_8:Option Addr} {sl_8:Array (Option Value)} {oc_8 kV_8 dc_8 pm_8 cd_8 ct_8:Value}
  (a_8:PySem.W.nsIn K mainGlobals "fillings" = some (some (.ref f_8)))
  (l_8:K.lookup f_8=some ⟨oc_8,od_8,.func (PySem.W.fnOf "fillings" "fillings" (defArgs za4) (defBody za4) (defScope za4) .none kV_8 dc_8 pm_8 an_8 cd_8 ct_8),sl_8⟩)
  (c_8:PySem.W.codeIn K cd_8 "fillings" = true) (k_8:PySem.W.keepIn K (.ref f_8)=true)
  {od_9 an_9:Option Addr} {sl_9:Array (Option Value)} {oc_9 kV_9 dc_9 pm_9 cd_9 ct_9:Value}
  (a_9:PySem.W.nsIn K mainGlobals "how_many" = some (some (.ref f_9)))
  (l_9:K.lookup f_9=some ⟨oc_9,od_9,.func (PySem.W.fnOf "how_many" "how_many" (defArgs za3) (defBody za3) (defScope za3) .none kV_9 dc_9 pm_9 an_9 cd_9 ct_9),sl_9⟩)
  (c_9:PySem.W.codeIn K cd_9 "how_many" = true) (k_9:PySem.W.keepIn K (.ref f_9)=true)
  {od_10 an_10:Option Addr} {sl_10:Array (Option Value)} {oc_10 kV_10 dc_10 pm_10 cd_10 ct_10:Value}
  (a_10:PySem.W.nsIn K mainGlobals "laid" = some (some (.ref f_10)))
  (l_10:K.lookup f_10=some ⟨oc_10,od_10,.func (PySem.W.fnOf "laid" "laid" (defArgs zda) (defBody zda) (defScope zda) .none kV_10 dc_10 pm_10 an_10 cd_10 ct_10),sl_10⟩)
  (c_10:PySem.W.codeIn K cd_10 "laid" = true) (k_10:PySem.W.keepIn K (.ref f_10)=true)
  {od_11 an_11:Option Addr} {sl_11:Array (Option Value)} {oc_11 kV_11 dc_11 pm_11 cd_11 ct_11:Value}
  (a_11:PySem.W.nsIn K mainGlobals "turned" = some (some (.ref f_11)))
  (l_11:K.lookup f_11=some ⟨oc_11,od_11,.func (PySem.W.fnOf "turned" "turned" (defArgs zbA) (defBody zbA) (defScope zbA) .none kV_11 dc_11 pm_11 an_11 cd_11 ct_11),sl_11⟩)
  (c_11:PySem.W.codeIn K cd_11 "turned" = true) (k_11:PySem.W.keepIn K (.ref f_11)=true)
  {od_12 an_12:Option Addr} {sl_12:Array (Option Value)} {oc_12 kV_12 dc_12 pm_12 cd_12 ct_12:Value}
  (a_12:PySem.W.nsIn K mainGlobals "kin" = some (some (.ref f_12)))
  (l_12:K.lookup f_12=some ⟨oc_12,od_12,.func (PySem.W.fnOf "kin" "kin" (defArgs zeM) (defBody zeM) (defScope zeM) .none kV_12 dc_12 pm_12 an_12 cd_12 ct_12),sl_12⟩)
  (c_12:PySem.W.codeIn K cd_12 "kin" = true) (k_12:PySem.W.keepIn K (.ref f_12)=true)
  {od_13 an_13:Option Addr} {sl_13:Array (Option Value)} {oc_13 kV_13 dc_13 pm_13 cd_13 ct_13:Value}
  (a_13:PySem.W.nsIn K mainGlobals "check_fair_order" = some (some (.ref f_13)))
  (l_13:K.lookup f_13=some ⟨oc_13,od_13,.func (PySem.W.fnOf "check_fair_order" "check_fair_order" (defArgs zat) (defBody zat) (defScope zat) .none kV_13 dc_13 pm_13 an_13 cd_13 ct_13),sl_13⟩)
  (c_13:PySem.W.codeIn K cd_13 "check_fair_order" = true) (k_13:PySem.W.keepIn K (.ref f_13)=true)
  {od_14 an_14:Option Addr} {sl_14:Array (Option Value)} {oc_14 kV_14 dc_14 pm_14 cd_14 ct_14:Value}
  (a_14:PySem.W.nsIn K mainGlobals "arranged" = some (some (.ref f_14)))
  (l_14:K.lookup f_14=some ⟨oc_14,od_14,.func (PySem.W.fnOf "arranged" "arranged" (defArgs za5) (defBody za5) (defScope za5) .none kV_14 dc_14 pm_14 an_14 cd_14 ct_14),sl_14⟩)
  (c_14:PySem.W.codeIn K cd_14 "arranged" = true) (k_14:PySem.W.keepIn K (.ref f_14)=true)
  {od_15 an_15:Option Addr} {sl_15:Array (Option Value)} {oc_15 kV_15 dc_15 pm_15 cd_15 ct_15:Value}
  (a_15:PySem.W.nsIn K mainGlobals "woven" = some (some (.ref f_15)))
  (l_15:K.lookup f_15=some ⟨oc_15,od_15,.func (PySem.W.fnOf "woven" "woven" (defArgs zce) (defBody zce) (defScope zce) .none kV_15 dc_15 pm_15 an_15 cd_15 ct_15),sl_15⟩)
  (c_15:PySem.W.codeIn K cd_15 "woven" = true) (k_15:PySem.W.keepIn K (.ref f_15)=true)
  {od_16 an_16:Option Addr} {sl_16:Array (Option Value)} {oc_16 kV_16 dc_16 pm_16 cd_16 ct_16:Value}
  (a_16:PySem.W.nsIn K mainGlobals "_law_which" = some (some (.ref f_16)))
  (l_16:K.lookup f_16=some ⟨oc_16,od_16,.func (PySem.W.fnOf "_law_which" "_law_which" (defArgs zbt) (defBody zbt) (defScope zbt) .none kV_16 dc_16 pm_16 an_16 cd_16 ct_16),sl_16⟩)
  (c_16:PySem.W.codeIn K cd_16 "_law_which" = true) (k_16:PySem.W.keepIn K (.ref f_16)=true)
  {od_17 an_17:Option Addr} {sl_17:Array (Option Value)} {oc_17 kV_17 dc_17 pm_17 cd_17 ct_17:Value}
  (a_17:PySem.W.nsIn K mainGlobals "_law_met" = some (some (.ref f_17)))
  (l_17:K.lookup f_17=some ⟨oc_17,od_17,.func (PySem.W.fnOf "_law_met" "_law_met" (defArgs zeH) (defBody zeH) (defScope zeH) .none kV_17 dc_17 pm_17 an_17 cd_17 ct_17),sl_17⟩)
  (c_17:PySem.W.codeIn K cd_17 "_law_met" = true) (k_17:PySem.W.keepIn K (.ref f_17)=true)
  {od_18 an_18:Option Addr} {sl_18:Array (Option Value)} {oc_18 kV_18 dc_18 pm_18 cd_18 ct_18:Value}
  (a_18:PySem.W.nsIn K mainGlobals "law" = some (some (.ref f_18)))
  (l_18:K.lookup f_18=some ⟨oc_18,od_18,.func (PySem.W.fnOf "law" "law" (defArgs s_law) (defBody s_law) (defScope s_law) .none kV_18 dc_18 pm_18 an_18 cd_18 ct_18),sl_18⟩)
  (c_18:PySem.W.codeIn K cd_18 "law" = true) (k_18:PySem.W.keepIn K (.ref f_18)=true)
  (aC_SumError:PySem.W.nsIn K mainGlobals "SumError" = some (some (.ref C_SumError)))
  (aC_BadBoard:PySem.W.nsIn K mainGlobals "BadBoard" = some (some (.ref C_BadBoard)))
  (aC_BadOrder:PySem.W.nsIn K mainGlobals "BadOrder" = some (some (.ref C_BadOrder)))
  (aC_NoSize:PySem.W.nsIn K mainGlobals "NoSize" = some (some (.ref C_NoSize)))
  (aC_TooOpen:PySem.W.nsIn K mainGlobals "TooOpen" = some (some (.ref C_TooOpen)))
  (xC_SumError:PySem.W.excIn K C_SumError bmV "ValueError.__new__" = true)
  (e_SumError_SumError:PySem.W.exmOne K (.ref C_SumError) (.ref C_SumError)=some true)
  (e_BadBoard_SumError:PySem.W.exmOne K (.ref C_BadBoard) (.ref C_SumError)=some true)
  (e_BadOrder_SumError:PySem.W.exmOne K (.ref C_BadOrder) (.ref C_SumError)=some true)
  (e_NoSize_SumError:PySem.W.exmOne K (.ref C_NoSize) (.ref C_SumError)=some true)
  (e_TooOpen_SumError:PySem.W.exmOne K (.ref C_TooOpen) (.ref C_SumError)=some true)
  (v_SumError:PySem.W.exmOne K (.ref C_SumError) (.type "ValueError")=some true)
  (qq_SumError:excQ K C_SumError=true)
  (xC_BadBoard:PySem.W.excIn K C_BadBoard bmV "ValueError.__new__" = true)
  (e_SumError_BadBoard:PySem.W.exmOne K (.ref C_SumError) (.ref C_BadBoard)=some false)
  (e_BadBoard_BadBoard:PySem.W.exmOne K (.ref C_BadBoard) (.ref C_BadBoard)=some true)
  (e_BadOrder_BadBoard:PySem.W.exmOne K (.ref C_BadOrder) (.ref C_BadBoard)=some false)
  (e_NoSize_BadBoard:PySem.W.exmOne K (.ref C_NoSize) (.ref C_BadBoard)=some false)
  (e_TooOpen_BadBoard:PySem.W.exmOne K (.ref C_TooOpen) (.ref C_BadBoard)=some false)
  (v_BadBoard:PySem.W.exmOne K (.ref C_BadBoard) (.type "ValueError")=some true)
  (qq_BadBoard:excQ K C_BadBoard=true)
  (xC_BadOrder:PySem.W.excIn K C_BadOrder bmV "ValueError.__new__" = true)
  (e_SumError_BadOrder:PySem.W.exmOne K (.ref C_SumError) (.ref C_BadOrder)=some false)
  (e_BadBoard_BadOrder:PySem.W.exmOne K (.ref C_BadBoard) (.ref C_BadOrder)=some false)
  (e_BadOrder_BadOrder:PySem.W.exmOne K (.ref C_BadOrder) (.ref C_BadOrder)=some true)
  (e_NoSize_BadOrder:PySem.W.exmOne K (.ref C_NoSize) (.ref C_BadOrder)=some false)
  (e_TooOpen_BadOrder:PySem.W.exmOne K (.ref C_TooOpen) (.ref C_BadOrder)=some false)
  (v_BadOrder:PySem.W.exmOne K (.ref C_BadOrder) (.type "ValueError")=some true)
  (qq_BadOrder:excQ K C_BadOrder=true)
  (xC_NoSize:PySem.W.excIn K C_NoSize bmV "ValueError.__new__" = true)
  (e_SumError_NoSize:PySem.W.exmOne K (.ref C_SumError) (.ref C_NoSize)=some false)
  (e_BadBoard_NoSize:PySem.W.exmOne K (.ref C_BadBoard) (.ref C_NoSize)=some false)
  (e_BadOrder_NoSize:PySem.W.exmOne K (.ref C_BadOrder) (.ref C_NoSize)=some false)
  (e_NoSize_NoSize:PySem.W.exmOne K (.ref C_NoSize) (.ref C_NoSize)=some true)
  (e_TooOpen_NoSize:PySem.W.exmOne K (.ref C_TooOpen) (.ref C_NoSize)=some false)
  (v_NoSize:PySem.W.exmOne K (.ref C_NoSize) (.type "ValueError")=some true)
  (qq_NoSize:excQ K C_NoSize=true)
  (xC_TooOpen:PySem.W.excIn K C_TooOpen bmV "ValueError.__new__" = true)
  (e_SumError_TooOpen:PySem.W.exmOne K (.ref C_SumError) (.ref C_TooOpen)=some false)
  (e_BadBoard_TooOpen:PySem.W.exmOne K (.ref C_BadBoard) (.ref C_TooOpen)=some false)
  (e_BadOrder_TooOpen:PySem.W.exmOne K (.ref C_BadOrder) (.ref C_TooOpen)=some false)
  (e_NoSize_TooOpen:PySem.W.exmOne K (.ref C_NoSize) (.ref C_TooOpen)=some false)
  (e_TooOpen_TooOpen:PySem.W.exmOne K (.ref C_TooOpen) (.ref C_TooOpen)=some true)
  (v_TooOpen:PySem.W.exmOne K (.ref C_TooOpen) (.type "ValueError")=some true)
  (qq_TooOpen:excQ K C_TooOpen=true)
  (n_CROSSED:PySem.W.nsIn K mainGlobals "CROSSED" = some (some (.ref v_CROSSED)))
  (l_CROSSED_0:K.lookup v_CROSSED=some o_CROSSED_0) (h_CROSSED_0:o_CROSSED_0.cls=.type "tuple") (w_CROSSED_0:o_CROSSED_0.data=.seq #[.ref v_CROSSED_1,.ref v_CROSSED_4] n_CROSSED_0)
  (l_CROSSED_1:K.lookup v_CROSSED_1=some o_CROSSED_1) (h_CROSSED_1:o_CROSSED_1.cls=.type "tuple") (w_CROSSED_1:o_CROSSED_1.data=.seq #[.int 1 q_CROSSED_2,.int 4 q_CROSSED_3] n_CROSSED_1)
  (l_CROSSED_4:K.lookup v_CROSSED_4=some o_CROSSED_4) (h_CROSSED_4:o_CROSSED_4.cls=.type "tuple") (w_CROSSED_4:o_CROSSED_4.data=.seq #[.int 3 q_CROSSED_5,.int 2 q_CROSSED_6] n_CROSSED_4)
  (n_LARGEST_OPEN_SIZE:PySem.W.nsIn K mainGlobals "LARGEST_OPEN_SIZE" = some (some (.int 4 tk_LARGEST_OPEN_SIZE)))
  (n_LARGEST_SIZE:PySem.W.nsIn K mainGlobals "LARGEST_SIZE" = some (some (.int 12 tk_LARGEST_SIZE)))
  (n_LEFT_HEAVY:PySem.W.nsIn K mainGlobals "LEFT_HEAVY" = some (some (.ref v_LEFT_HEAVY)))
  (l_LEFT_HEAVY_0:K.lookup v_LEFT_HEAVY=some o_LEFT_HEAVY_0) (h_LEFT_HEAVY_0:o_LEFT_HEAVY_0.cls=.type "tuple") (w_LEFT_HEAVY_0:o_LEFT_HEAVY_0.data=.seq #[.ref v_LEFT_HEAVY_1,.ref v_LEFT_HEAVY_4] n_LEFT_HEAVY_0)
  (l_LEFT_HEAVY_1:K.lookup v_LEFT_HEAVY_1=some o_LEFT_HEAVY_1) (h_LEFT_HEAVY_1:o_LEFT_HEAVY_1.cls=.type "tuple") (w_LEFT_HEAVY_1:o_LEFT_HEAVY_1.data=.seq #[.int 4 q_LEFT_HEAVY_2,.int 1 q_LEFT_HEAVY_3] n_LEFT_HEAVY_1)
  (l_LEFT_HEAVY_4:K.lookup v_LEFT_HEAVY_4=some o_LEFT_HEAVY_4) (h_LEFT_HEAVY_4:o_LEFT_HEAVY_4.cls=.type "tuple") (w_LEFT_HEAVY_4:o_LEFT_HEAVY_4.data=.seq #[.int 2 q_LEFT_HEAVY_5,.int 3 q_LEFT_HEAVY_6] n_LEFT_HEAVY_4)
  (n_MOST_OPEN_CELLS:PySem.W.nsIn K mainGlobals "MOST_OPEN_CELLS" = some (some (.int 6 tk_MOST_OPEN_CELLS)))
  (n_OPEN_MARK:PySem.W.nsIn K mainGlobals "OPEN_MARK" = some (some (.int 0 tk_OPEN_MARK)))
  (n_RIGHT_HEAVY:PySem.W.nsIn K mainGlobals "RIGHT_HEAVY" = some (some (.ref v_RIGHT_HEAVY)))
  (l_RIGHT_HEAVY_0:K.lookup v_RIGHT_HEAVY=some o_RIGHT_HEAVY_0) (h_RIGHT_HEAVY_0:o_RIGHT_HEAVY_0.cls=.type "tuple") (w_RIGHT_HEAVY_0:o_RIGHT_HEAVY_0.data=.seq #[.ref v_RIGHT_HEAVY_1,.ref v_RIGHT_HEAVY_4] n_RIGHT_HEAVY_0)
  (l_RIGHT_HEAVY_1:K.lookup v_RIGHT_HEAVY_1=some o_RIGHT_HEAVY_1) (h_RIGHT_HEAVY_1:o_RIGHT_HEAVY_1.cls=.type "tuple") (w_RIGHT_HEAVY_1:o_RIGHT_HEAVY_1.data=.seq #[.int 1 q_RIGHT_HEAVY_2,.int 4 q_RIGHT_HEAVY_3] n_RIGHT_HEAVY_1)
  (l_RIGHT_HEAVY_4:K.lookup v_RIGHT_HEAVY_4=some o_RIGHT_HEAVY_4) (h_RIGHT_HEAVY_4:o_RIGHT_HEAVY_4.cls=.type "tuple") (w_RIGHT_HEAVY_4:o_RIGHT_HEAVY_4.data=.seq #[.int 2 q_RIGHT_HEAVY_5,.int 3 q_RIGHT_HEAVY_6] n_RIGHT_HEAVY_4)
  (z_ValueError:PySem.W.nsIn K mainGlobals "ValueError" = some none)
  (z_enumerate:PySem.W.nsIn K mainGlobals "enumerate" = some none)
  (z_isinstance:PySem.W.nsIn K mainGlobals "isinstance" = some none)
  (z_len:PySem.W.nsIn K mainGlobals "len" = some none)
  (z_list:PySem.W.nsIn K mainGlobals "list" = some none)
  (z_range:PySem.W.nsIn K mainGlobals "range" = some none)
  (z_set:PySem.W.nsIn K mainGlobals "set" = some none)
  (z_sorted:PySem.W.nsIn K mainGlobals "sorted" = some none)
  : ∃ t:Adr,Txt K mg t∧t.f_law=fa∧∃ (kV doc pm:Value) (an:Option Addr) (cdv ct:Value),t.d_law=PySem.W.fnOf "law" "law" (defArgs s_law) (defBody s_law) (defScope s_law) .none kV doc pm an cdv ct:=by
 have e:=hfa.symm.trans (PySem.W.mg_of X G a_18)
 cases e
 have F_0:=zaZ (st:=zbl) l_0 c_0 k_0
 have b_0:=F_0.binds (ps:=["script", "k"]) fun _ _ _ _ _ _ us hl=>zel (P:=fun us=>bindArgs _ ⟨us,[]⟩=pure (List.zip _ us)) hl fun _ _=>rfl
 have F_1:=zaZ (st:=zaD) l_1 c_1 k_1
 have b_1:=F_1.binds (ps:=["board", "largest"]) fun _ _ _ _ _ _ us hl=>zel (P:=fun us=>bindArgs _ ⟨us,[]⟩=pure (List.zip _ us)) hl fun _ _=>rfl
 have F_2:=zaZ (st:=zbB) l_2 c_2 k_2
 have b_2:=F_2.binds (ps:=["lists"]) fun _ _ _ _ _ _ us hl=>zbq (P:=fun us=>bindArgs _ ⟨us,[]⟩=pure (List.zip _ us)) hl fun _=>rfl
 have F_3:=zaZ (st:=zaI) l_3 c_3 k_3
 have b_3:=F_3.binds (ps:=["board"]) fun _ _ _ _ _ _ us hl=>zbq (P:=fun us=>bindArgs _ ⟨us,[]⟩=pure (List.zip _ us)) hl fun _=>rfl
 have F_4:=zaZ (st:=zc9) l_4 c_4 k_4
 have b_4:=F_4.binds (ps:=["board"]) fun _ _ _ _ _ _ us hl=>zbq (P:=fun us=>bindArgs _ ⟨us,[]⟩=pure (List.zip _ us)) hl fun _=>rfl
 have F_5:=zaZ (st:=zas) l_5 c_5 k_5
 have b_5:=F_5.binds (ps:=["board"]) fun _ _ _ _ _ _ us hl=>zbq (P:=fun us=>bindArgs _ ⟨us,[]⟩=pure (List.zip _ us)) hl fun _=>rfl
 have F_6:=zaZ (st:=zaM) l_6 c_6 k_6
 have b_6:=F_6.binds (ps:=["board"]) fun _ _ _ _ _ _ us hl=>zbq (P:=fun us=>bindArgs _ ⟨us,[]⟩=pure (List.zip _ us)) hl fun _=>rfl
 have F_7:=zaZ (st:=zan) l_7 c_7 k_7
 have b_7:=F_7.binds (ps:=["board"]) fun _ _ _ _ _ _ us hl=>zbq (P:=fun us=>bindArgs _ ⟨us,[]⟩=pure (List.zip _ us)) hl fun _=>rfl
 have F_8:=zaZ (st:=za4) l_8 c_8 k_8
 have b_8:=F_8.binds (ps:=["board"]) fun _ _ _ _ _ _ us hl=>zbq (P:=fun us=>bindArgs _ ⟨us,[]⟩=pure (List.zip _ us)) hl fun _=>rfl
 have F_9:=zaZ (st:=za3) l_9 c_9 k_9
 have b_9:=F_9.binds (ps:=["board"]) fun _ _ _ _ _ _ us hl=>zbq (P:=fun us=>bindArgs _ ⟨us,[]⟩=pure (List.zip _ us)) hl fun _=>rfl
 have F_10:=zaZ (st:=zda) l_10 c_10 k_10
 have b_10:=F_10.binds (ps:=["size"]) fun _ _ _ _ _ _ us hl=>zbq (P:=fun us=>bindArgs _ ⟨us,[]⟩=pure (List.zip _ us)) hl fun _=>rfl
 have F_11:=zaZ (st:=zbA) l_11 c_11 k_11
 have b_11:=F_11.binds (ps:=["board"]) fun _ _ _ _ _ _ us hl=>zbq (P:=fun us=>bindArgs _ ⟨us,[]⟩=pure (List.zip _ us)) hl fun _=>rfl
 have F_12:=zaZ (st:=zeM) l_12 c_12 k_12
 have b_12:=F_12.binds (ps:=["board"]) fun _ _ _ _ _ _ us hl=>zbq (P:=fun us=>bindArgs _ ⟨us,[]⟩=pure (List.zip _ us)) hl fun _=>rfl
 have F_13:=zaZ (st:=zat) l_13 c_13 k_13
 have b_13:=F_13.binds (ps:=["order", "size"]) fun _ _ _ _ _ _ us hl=>zel (P:=fun us=>bindArgs _ ⟨us,[]⟩=pure (List.zip _ us)) hl fun _ _=>rfl
 have F_14:=zaZ (st:=za5) l_14 c_14 k_14
 have b_14:=F_14.binds (ps:=["board", "order"]) fun _ _ _ _ _ _ us hl=>zel (P:=fun us=>bindArgs _ ⟨us,[]⟩=pure (List.zip _ us)) hl fun _ _=>rfl
 have F_15:=zaZ (st:=zce) l_15 c_15 k_15
 have b_15:=F_15.binds (ps:=["outer", "inner"]) fun _ _ _ _ _ _ us hl=>zel (P:=fun us=>bindArgs _ ⟨us,[]⟩=pure (List.zip _ us)) hl fun _ _=>rfl
 have F_16:=zaZ (st:=zbt) l_16 c_16 k_16
 have b_16:=F_16.binds (ps:=["e"]) fun _ _ _ _ _ _ us hl=>zbq (P:=fun us=>bindArgs _ ⟨us,[]⟩=pure (List.zip _ us)) hl fun _=>rfl
 have F_17:=zaZ (st:=zeH) l_17 c_17 k_17
 have b_17:=F_17.binds (ps:=["way"]) fun _ _ _ _ _ _ us hl=>zbq (P:=fun us=>bindArgs _ ⟨us,[]⟩=pure (List.zip _ us)) hl fun _=>rfl
 have F_18:=zaZ (st:=s_law) l_18 c_18 k_18
 have b_18:=F_18.binds (ps:=["script"]) fun _ _ _ _ _ _ us hl=>zbq (P:=fun us=>bindArgs _ ⟨us,[]⟩=pure (List.zip _ us)) hl fun _=>rfl
 exact⟨⟨f_0,_,f_1,_,f_2,_,f_3,_,f_4,_,f_5,_,f_6,_,f_7,_,f_8,_,f_9,_,f_10,_,f_11,_,f_12,_,f_13,_,f_14,_,f_15,_,f_16,_,f_17,_,fa,_,C_SumError,C_BadBoard,C_BadOrder,C_NoSize,C_TooOpen,v_CROSSED,tk_LARGEST_OPEN_SIZE,tk_LARGEST_SIZE,v_LEFT_HEAVY,tk_MOST_OPEN_CELLS,tk_OPEN_MARK,v_RIGHT_HEAVY⟩,⟨F_0,PySem.W.mg_of X G a_0,b_0,F_1,PySem.W.mg_of X G a_1,b_1,F_2,PySem.W.mg_of X G a_2,b_2,F_3,PySem.W.mg_of X G a_3,b_3,F_4,PySem.W.mg_of X G a_4,b_4,F_5,PySem.W.mg_of X G a_5,b_5,F_6,PySem.W.mg_of X G a_6,b_6,F_7,PySem.W.mg_of X G a_7,b_7,F_8,PySem.W.mg_of X G a_8,b_8,F_9,PySem.W.mg_of X G a_9,b_9,F_10,PySem.W.mg_of X G a_10,b_10,F_11,PySem.W.mg_of X G a_11,b_11,F_12,PySem.W.mg_of X G a_12,b_12,F_13,PySem.W.mg_of X G a_13,b_13,F_14,PySem.W.mg_of X G a_14,b_14,F_15,PySem.W.mg_of X G a_15,b_15,F_16,PySem.W.mg_of X G a_16,b_16,F_17,PySem.W.mg_of X G a_17,b_17,F_18,PySem.W.mg_of X G a_18,b_18,PySem.W.mg_of X G aC_SumError,xC_SumError,e_SumError_SumError,e_BadBoard_SumError,e_BadOrder_SumError,e_NoSize_SumError,e_TooOpen_SumError,zam v_SumError,zam e_SumError_SumError,zam e_BadBoard_SumError,zam e_BadOrder_SumError,zam e_NoSize_SumError,zam e_TooOpen_SumError,zdl qq_SumError,PySem.W.mg_of X G aC_BadBoard,xC_BadBoard,e_SumError_BadBoard,e_BadBoard_BadBoard,e_BadOrder_BadBoard,e_NoSize_BadBoard,e_TooOpen_BadBoard,zam v_BadBoard,zam e_BadBoard_BadBoard,zdl qq_BadBoard,PySem.W.mg_of X G aC_BadOrder,xC_BadOrder,e_SumError_BadOrder,e_BadBoard_BadOrder,e_BadOrder_BadOrder,e_NoSize_BadOrder,e_TooOpen_BadOrder,zam v_BadOrder,zam e_BadOrder_BadOrder,zdl qq_BadOrder,PySem.W.mg_of X G aC_NoSize,xC_NoSize,e_SumError_NoSize,e_BadBoard_NoSize,e_BadOrder_NoSize,e_NoSize_NoSize,e_TooOpen_NoSize,zam v_NoSize,zam e_NoSize_NoSize,zdl qq_NoSize,PySem.W.mg_of X G aC_TooOpen,xC_TooOpen,e_SumError_TooOpen,e_BadBoard_TooOpen,e_BadOrder_TooOpen,e_NoSize_TooOpen,e_TooOpen_TooOpen,zam v_TooOpen,zam e_TooOpen_TooOpen,zdl qq_TooOpen,PySem.W.mg_of X G n_CROSSED,(zbh (vs:=[.ref v_CROSSED_1,.ref v_CROSSED_4]) l_CROSSED_0 h_CROSSED_0 w_CROSSED_0 (Nat.le_trans (by simp) zaQ) (.cons rfl (.cons rfl .nil)) (zao (zbh (vs:=[.int 1,.int 4]) l_CROSSED_1 h_CROSSED_1 w_CROSSED_1 (Nat.le_trans (by simp) zaQ) (.cons ⟨_,rfl⟩ (.cons ⟨_,rfl⟩ .nil)) (zao (zbf _) (zao (zbf _) zaY))) (zao (zbh (vs:=[.int 3,.int 2]) l_CROSSED_4 h_CROSSED_4 w_CROSSED_4 (Nat.le_trans (by simp) zaQ) (.cons ⟨_,rfl⟩ (.cons ⟨_,rfl⟩ .nil)) (zao (zbf _) (zao (zbf _) zaY))) zaY))),PySem.W.mg_of X G n_LARGEST_OPEN_SIZE,PySem.W.mg_of X G n_LARGEST_SIZE,PySem.W.mg_of X G n_LEFT_HEAVY,(zbh (vs:=[.ref v_LEFT_HEAVY_1,.ref v_LEFT_HEAVY_4]) l_LEFT_HEAVY_0 h_LEFT_HEAVY_0 w_LEFT_HEAVY_0 (Nat.le_trans (by simp) zaQ) (.cons rfl (.cons rfl .nil)) (zao (zbh (vs:=[.int 4,.int 1]) l_LEFT_HEAVY_1 h_LEFT_HEAVY_1 w_LEFT_HEAVY_1 (Nat.le_trans (by simp) zaQ) (.cons ⟨_,rfl⟩ (.cons ⟨_,rfl⟩ .nil)) (zao (zbf _) (zao (zbf _) zaY))) (zao (zbh (vs:=[.int 2,.int 3]) l_LEFT_HEAVY_4 h_LEFT_HEAVY_4 w_LEFT_HEAVY_4 (Nat.le_trans (by simp) zaQ) (.cons ⟨_,rfl⟩ (.cons ⟨_,rfl⟩ .nil)) (zao (zbf _) (zao (zbf _) zaY))) zaY))),PySem.W.mg_of X G n_MOST_OPEN_CELLS,PySem.W.mg_of X G n_OPEN_MARK,PySem.W.mg_of X G n_RIGHT_HEAVY,(zbh (vs:=[.ref v_RIGHT_HEAVY_1,.ref v_RIGHT_HEAVY_4]) l_RIGHT_HEAVY_0 h_RIGHT_HEAVY_0 w_RIGHT_HEAVY_0 (Nat.le_trans (by simp) zaQ) (.cons rfl (.cons rfl .nil)) (zao (zbh (vs:=[.int 1,.int 4]) l_RIGHT_HEAVY_1 h_RIGHT_HEAVY_1 w_RIGHT_HEAVY_1 (Nat.le_trans (by simp) zaQ) (.cons ⟨_,rfl⟩ (.cons ⟨_,rfl⟩ .nil)) (zao (zbf _) (zao (zbf _) zaY))) (zao (zbh (vs:=[.int 2,.int 3]) l_RIGHT_HEAVY_4 h_RIGHT_HEAVY_4 w_RIGHT_HEAVY_4 (Nat.le_trans (by simp) zaQ) (.cons ⟨_,rfl⟩ (.cons ⟨_,rfl⟩ .nil)) (zao (zbf _) (zao (zbf _) zaY))) zaY))),PySem.W.mg_none_of X G z_ValueError,PySem.W.mg_none_of X G z_enumerate,PySem.W.mg_none_of X G z_isinstance,PySem.W.mg_none_of X G z_len,PySem.W.mg_none_of X G z_list,PySem.W.mg_none_of X G z_range,PySem.W.mg_none_of X G z_set,PySem.W.mg_none_of X G z_sorted⟩,rfl,_,_,_,_,_,_,rfl⟩
end Qk11
open PySem PySem.W PyProof.Rows
set_option maxRecDepth 100000 in
set_option maxHeartbeats 0 in
theorem PySem.Challenge.cw_likesums_k11_refusals_apart_holds : PySem.Challenge.rw_likesums_k11_refusals_apart.Holds := by
 w_on;o_law;k_head;(case hw=>w_witness2)
 k_fill
 refine TL.walk (l:=PySem.Challenge.rw_likesums_k11_refusals_apart) rfl rfl (fun w h Y=>PySem.W.kIn_of Y) ?F
 case F =>
  intro w mg fa h KX G hmg
  have T:∃ t:Qk11.Adr,Qk11.Txt (L2.KOf KX) mg t∧t.f_law=fa∧∃ (kV doc pm:Value) (an:Option Addr) (cdv ct:Value),t.d_law=PySem.W.fnOf "law" "law" (L2.defArgs Qk11.s_law) (L2.defBody Qk11.s_law) (L2.defScope Qk11.s_law) .none kV doc pm an cdv ct:=by
   dsimp only [L2.KOf]
   refine' Qk11.txt_mk KX G hmg ?c0 ?c1 ?c2 ?c3 ?c4 ?c5 ?c6 ?c7 ?c8 ?c9 ?c10 ?c11 ?c12 ?c13 ?c14 ?c15 ?c16 ?c17 ?c18 ?c19 ?c20 ?c21 ?c22 ?c23 ?c24 ?c25 ?c26 ?c27 ?c28 ?c29 ?c30 ?c31 ?c32 ?c33 ?c34 ?c35 ?c36 ?c37 ?c38 ?c39 ?c40 ?c41 ?c42 ?c43 ?c44 ?c45 ?c46 ?c47 ?c48 ?c49 ?c50 ?c51 ?c52 ?c53 ?c54 ?c55 ?c56 ?c57 ?c58 ?c59 ?c60 ?c61 ?c62 ?c63 ?c64 ?c65 ?c66 ?c67 ?c68 ?c69 ?c70 ?c71 ?c72 ?c73 ?c74 ?c75 ?c76 ?c77 ?c78 ?c79 ?c80 ?c81 ?c82 ?c83 ?c84 ?c85 ?c86 ?c87 ?c88 ?c89 ?c90 ?c91 ?c92 ?c93 ?c94 ?c95 ?c96 ?c97 ?c98 ?c99 ?c100 ?c101 ?c102 ?c103 ?c104 ?c105 ?c106 ?c107 ?c108 ?c109 ?c110 ?c111 ?c112 ?c113 ?c114 ?c115 ?c116 ?c117 ?c118 ?c119 ?c120 ?c121 ?c122 ?c123 ?c124 ?c125 ?c126 ?c127 ?c128 ?c129 ?c130 ?c131 ?c132 ?c133 ?c134 ?c135 ?c136 ?c137 ?c138 ?c139 ?c140 ?c141 ?c142 ?c143 ?c144 ?c145 ?c146 ?c147 ?c148 ?c149 ?c150 ?c151 ?c152 ?c153 ?c154 ?c155 ?c156 ?c157 ?c158 ?c159 ?c160 ?c161 ?c162
   (case c0=>k_is)
   (case c1=>k_is)
   (case c2=>k_is)
   (case c3=>k_is)
   (case c4=>k_is)
   (case c5=>k_is)
   (case c6=>k_is)
   (case c7=>k_is)
   (case c8=>k_is)
   (case c9=>k_is)
   (case c10=>k_is)
   (case c11=>k_is)
   (case c12=>k_is)
   (case c13=>k_is)
   (case c14=>k_is)
   (case c15=>k_is)
   (case c16=>k_is)
   (case c17=>k_is)
   (case c18=>k_is)
   (case c19=>k_is)
   (case c20=>k_is)
   (case c21=>k_is)
   (case c22=>k_is)
   (case c23=>k_is)
   (case c24=>k_is)
   (case c25=>k_is)
   (case c26=>k_is)
   (case c27=>k_is)
   (case c28=>k_is)
   (case c29=>k_is)
   (case c30=>k_is)
   (case c31=>k_is)
   (case c32=>k_is)
   (case c33=>k_is)
   (case c34=>k_is)
   (case c35=>k_is)
   (case c36=>k_is)
   (case c37=>k_is)
   (case c38=>k_is)
   (case c39=>k_is)
   (case c40=>k_is)
   (case c41=>k_is)
   (case c42=>k_is)
   (case c43=>k_is)
   (case c44=>k_is)
   (case c45=>k_is)
   (case c46=>k_is)
   (case c47=>k_is)
   (case c48=>k_is)
   (case c49=>k_is)
   (case c50=>k_is)
   (case c51=>k_is)
   (case c52=>k_is)
   (case c53=>k_is)
   (case c54=>k_is)
   (case c55=>k_is)
   (case c56=>k_is)
   (case c57=>k_is)
   (case c58=>k_is)
   (case c59=>k_is)
   (case c60=>k_is)
   (case c61=>k_is)
   (case c62=>k_is)
   (case c63=>k_is)
   (case c64=>k_is)
   (case c65=>k_is)
   (case c66=>k_is)
   (case c67=>k_is)
   (case c68=>k_is)
   (case c69=>k_is)
   (case c70=>k_is)
   (case c71=>k_is)
   (case c72=>k_is)
   (case c73=>k_is)
   (case c74=>k_is)
   (case c75=>k_is)
   (case c76=>k_is)
   (case c77=>k_is)
   (case c78=>k_is)
   (case c79=>k_is)
   (case c80=>k_is)
   (case c81=>k_exc)
   (case c82=>kts_exm)
   (case c83=>kts_exm)
   (case c84=>kts_exm)
   (case c85=>kts_exm)
   (case c86=>kts_exm)
   (case c87=>kts_exm)
   (case c88=>kernel_rfl)
   (case c89=>k_exc)
   (case c90=>kts_exm)
   (case c91=>kts_exm)
   (case c92=>kts_exm)
   (case c93=>kts_exm)
   (case c94=>kts_exm)
   (case c95=>kts_exm)
   (case c96=>kernel_rfl)
   (case c97=>k_exc)
   (case c98=>kts_exm)
   (case c99=>kts_exm)
   (case c100=>kts_exm)
   (case c101=>kts_exm)
   (case c102=>kts_exm)
   (case c103=>kts_exm)
   (case c104=>kernel_rfl)
   (case c105=>k_exc)
   (case c106=>kts_exm)
   (case c107=>kts_exm)
   (case c108=>kts_exm)
   (case c109=>kts_exm)
   (case c110=>kts_exm)
   (case c111=>kts_exm)
   (case c112=>kernel_rfl)
   (case c113=>k_exc)
   (case c114=>kts_exm)
   (case c115=>kts_exm)
   (case c116=>kts_exm)
   (case c117=>kts_exm)
   (case c118=>kts_exm)
   (case c119=>kts_exm)
   (case c120=>kernel_rfl)
   (case c121=>k_is)
   (case c122=>k_is)
   (case c123=>rfl)
   (case c124=>rfl)
   (case c125=>k_is)
   (case c126=>rfl)
   (case c127=>rfl)
   (case c128=>k_is)
   (case c129=>rfl)
   (case c130=>rfl)
   (case c131=>k_is)
   (case c132=>k_is)
   (case c133=>k_is)
   (case c134=>k_is)
   (case c135=>rfl)
   (case c136=>rfl)
   (case c137=>k_is)
   (case c138=>rfl)
   (case c139=>rfl)
   (case c140=>k_is)
   (case c141=>rfl)
   (case c142=>rfl)
   (case c143=>k_is)
   (case c144=>k_is)
   (case c145=>k_is)
   (case c146=>k_is)
   (case c147=>rfl)
   (case c148=>rfl)
   (case c149=>k_is)
   (case c150=>rfl)
   (case c151=>rfl)
   (case c152=>k_is)
   (case c153=>rfl)
   (case c154=>rfl)
   (case c155=>k_is)
   (case c156=>k_is)
   (case c157=>k_is)
   (case c158=>k_is)
   (case c159=>k_is)
   (case c160=>k_is)
   (case c161=>k_is)
   (case c162=>k_is)
  obtain⟨t,T,e,kV,doc,pm,an,cdv,ct,e2⟩:=T
  cases e
  refine ⟨t.d_law,fun s v=>?_,fun base _ _=>TL.law_fn (Qk11.ok_law T) (by decide) Qk11.law_true⟩
  rw [e2]
  exact .of_eq rfl
