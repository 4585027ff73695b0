import PyProof.Rows.All
import Wide.All
import OpenK.AllK
import Wide.FinOn
import Lean
import PyProof.EqAt
import PyProof.EqKinds
import PyProof.TupleCall
import KE.KLam
import KE.KNest
import KE.KNestM
import PySem.Challenge.RW_wholeowners_k31_rules
set_option Elab.async false
set_option linter.all false
set_option maxRecDepth 100000
namespace L2
open PySem PySem.Spec PyProof.Rows
abbrev Key:=Sum Int Str
def qnn:Key→Value→Bool
 | .inl k,v=>Value.isInt k v
 | .inr x,v=>Value.isStrOf x v
def keyH (w:World):Key→Int
 | .inl k=>hashInt k
 | .inr x=>hashStr w x
theorem qa6:∀ {k:Key}{v:Value},qnn k v=true→(∃ i t,k=Sum.inl i∧v=Value.int i t)∨(∃ x t,k=Sum.inr x∧v=Value.str x t)
 | .inl i,v,h=>by
  obtain ⟨t,e⟩:=Value.isInt_shape (k:=i) (v:=v) h
  exact .inl ⟨i,t,rfl,e⟩
 | .inr x,v,h=>by
  obtain ⟨t,e⟩:=Value.isStrOf_shape (x:=x) (v:=v) h
  exact .inr ⟨x,t,rfl,e⟩
theorem keyIs_int (i:Int) (t:Tok):qnn (.inl i) (.int i t)=true:=by simp [qnn,Value.isInt]
theorem keyIs_str (x:Str) (t:Tok):qnn (.inr x) (.str x t)=true:=by simp [qnn,Value.isStrOf]
theorem key_ll (a b:Int):decide ((Sum.inl a:Key)=Sum.inl b)=(a == b):=by
 by_cases e:a=b
 ·subst e;simp
 ·have h:¬ (Sum.inl a:Key)=Sum.inl b:=fun q=>e (Sum.inl.inj q)
  rw [decide_eq_false h]
  exact (beq_eq_false_iff_ne.mpr e).symm
theorem qmi (a b:Str):decide ((Sum.inr a:Key)=Sum.inr b)=decide (a=b):=by
 by_cases e:a=b
 ·subst e;simp
 ·have h:¬ (Sum.inr a:Key)=Sum.inr b:=fun q=>e (Sum.inr.inj q)
  rw [decide_eq_false h,decide_eq_false e]
theorem key_lr (a:Int) (b:Str):decide ((Sum.inl a:Key)=Sum.inr b)=false:=decide_eq_false (fun q=>nomatch q)
theorem key_rl (a:Str) (b:Int):decide ((Sum.inr a:Key)=Sum.inl b)=false:=decide_eq_false (fun q=>nomatch q)
def qbi (prog:Program) (w:World):PySem.KeyKind prog w Key where
 is:=qnn
 hash:=keyH w
 inj:=fun v a b ha hb=>by
  rcases qa6 ha with ⟨i,t,rfl,rfl⟩ | ⟨x,t,rfl,rfl⟩
  ·rcases qa6 hb with ⟨j,u,rfl,e⟩ | ⟨y,u,rfl,e⟩
   ·injection e with e1 _;rw [e1]
   ·exact nomatch e
  ·rcases qa6 hb with ⟨j,u,rfl,e⟩ | ⟨y,u,rfl,e⟩
   ·exact nomatch e
   ·injection e with e1 _;rw [e1]
 byValue:=fun k v h=>by
  rcases qa6 h with ⟨i,t,rfl,rfl⟩ | ⟨x,t,rfl,rfl⟩ <;> rfl
 pyHash:=fun hv h=>by
  rcases qa6 hv with ⟨i,t,rfl,rfl⟩ | ⟨x,t,rfl,rfl⟩
  ·exact wpAny_pyHash_int h
  ·exact wpAny_pyHash_str h
 eqBool:=fun hu hv h=>by
  rcases qa6 hu with ⟨i,t,rfl,rfl⟩ | ⟨x,t,rfl,rfl⟩
  ·rcases qa6 hv with ⟨j,u,rfl,rfl⟩ | ⟨y,u,rfl,rfl⟩
   ·rw [key_ll] at h;exact wpAny_eqBool_int h
   ·rw [key_lr] at h;exact SeqAt.EqAt.int_str i t y u _ _ _ _ h
  ·rcases qa6 hv with ⟨j,u,rfl,rfl⟩ | ⟨y,u,rfl,rfl⟩
   ·rw [key_rl] at h;exact SeqAt.EqAt.str_int x t j u _ _ _ _ h
   ·rw [qmi] at h;exact wpAny_eqBool_str h
 «strs»:=fun k x t v h=>by
  rcases qa6 h with ⟨i,u,rfl,e⟩ | ⟨y,u,rfl,e⟩
  ·exact nomatch e
  ·injection e with e1 _
   subst e1
   cases v <;> rfl
theorem qnk (prog:Program) (w:World) (i:Int) (t:Tok):(qbi prog w).is (.inl i) (.int i t)=true:=keyIs_int i t
theorem qnj (prog:Program) (w:World) (x:Str) (t:Tok):(qbi prog w).is (.inr x) (.str x t)=true:=keyIs_str x t
end L2
namespace L2
open PySem PySem.Spec PyProof.Rows
inductive V where
 | non | bl (b:Bool) | int (i:Int) | str (x:Str) | byt (b:Array UInt8) | flt (b:UInt64) | ref (a:Addr) | ty (n:String)
 deriving DecidableEq
def RelV:V→Value→Prop
 | .non,u=>u=Value.none
 | .bl b,u=>u=Value.bool b
 | .int i,u=>∃ t,u=Value.int i t
 | .str x,u=>∃ t,u=Value.str x t
 | .byt b,u=>∃ t,u=Value.bytes b t
 | .flt b,u=>∃ t,u=Value.float b t
 | .ref a,u=>u=Value.ref a
 | .ty n,u=>u=Value.type n
abbrev Vals:List V→List Value→Prop:=Paired RelV
theorem Vals.length {xs:List V}{us:List Value} (r:Vals xs us):xs.length=us.length:=Paired.length r
theorem Vals.get:∀ {xs:List V}{us:List Value}{i:Nat}{x:V},Vals xs us→xs[i]?=some x→∃ u,us[i]?=some u∧RelV x u
 | _,_,_,_,.nil,e=>by simp at e
 | _,_,0,_,.cons r _,e=>by simp at e;subst e;exact ⟨_,rfl,r⟩
 | _,_,i+1,x,.cons _ t,e=>by
  obtain ⟨u,h1,h2⟩:=Vals.get (i:=i) (x:=x) t (by simpa using e)
  exact ⟨u,by simpa using h1,h2⟩
theorem Vals.set {x:V}{u:Value} (r:RelV x u):∀ {xs:List V}{us:List Value} (i:Nat),Vals xs us→Vals (xs.set i x) (us.set i u)
 | _,_,_,.nil=>.nil
 | _,_,0,.cons _ t=>.cons r t
 | _,_,i+1,.cons q t=>.cons q (Vals.set r i t)
theorem Vals.append:∀ {xs ys:List V}{us ws:List Value},Vals xs us→Vals ys ws→Vals (xs++ys) (us++ws)
 | _,_,_,_,.nil,s=>s
 | _,_,_,_,.cons r t,s=>.cons r (Vals.append t s)
theorem Vals.take:∀ {xs:List V}{us:List Value} (n:Nat),Vals xs us→Vals (xs.take n) (us.take n)
 | _,_,0,_=>.nil
 | _,_,_+1,.nil=>.nil
 | _,_,n+1,.cons r t=>.cons r (Vals.take n t)
theorem Vals.drop:∀ {xs:List V}{us:List Value} (n:Nat),Vals xs us→Vals (xs.drop n) (us.drop n)
 | _,_,0,r=>r
 | _,_,_+1,.nil=>.nil
 | _,_,n+1,.cons _ t=>Vals.drop n t
def RelO:Option V→Option Value→Prop
 | some v,some u=>RelV v u
 | none,none=>True
 | _,_=>False
def KV {κ:Type}:List (κ×V)→List (κ×Value)→Prop:=Paired fun (p:κ×V) (q:κ×Value)=>p.1=q.1∧RelV p.2 q.2
def kV:Key→V
 | .inl i=>.int i
 | .inr x=>.str x
inductive HO where
 /-- a list -/
 | lst (xs:List V)
 /-- a tuple (never changes) -/
 | tup (xs:List V)
 /-- a dict whose keys are ints and texts;one whose keys are tuples of ints and texts (the empty one is both) -/
 | dK (kvs:List (Key×V)) | dT (kvs:List (List Key×V))
 /-- a set of ints: its members,its size -/
 | set (S:Int→Bool) (n:Nat)
 /-- an instance of the class at C,its dict at dx,its attributes -/
 | ins (C dx:Addr) (fs:List (Str×V))
 /-- the dict of the instance at x -/
 | own (x:Addr)
 /-- the dict of an exception -/
 | xd (fs:List (Str×V))
 /-- a bound method,f of x -/
 | met (f x:Addr)
 /-- a range object lo,lo+1,.. below hi -/
 | rng (lo hi:Int)
 /-- a thing that is known to the object (the script;a dict while a loop walks it): read,never written while it is so -/
 | frz (o:Obj) (u:HO)
 /-- a code object's table -/
 | tbl (ps:Array Value)
 /-- any other thing,by what is true of its one object (a def of one's own: SetO a S n:=HO.ext fun h=>..) -/
 | ext (φ:Heap→Prop)
abbrev Hp:=Addr→Option HO
def upd (H:Hp) (a:Addr) (o:HO):Hp:=fun b=>if b=a then some o else H b
theorem qae {H:Hp}{a:Addr}{o:HO}:upd H a o a=some o:=by unfold upd;rw [if_pos rfl]
theorem qad {H:Hp}{a b:Addr}{o:HO} (h:b≠a):upd H a o b=H b:=by unfold upd;rw [if_neg h]
theorem upd_upd {H:Hp}{a:Addr}{o u:HO}:upd (upd H a o) a u=upd H a u:=by
 funext b;unfold upd;split <;> rfl
theorem ne_of {H:Hp}{a b:Addr}{o u:HO} (h:H a=some o) (h':H b=some u) (d:o≠u):a≠b:=by
 intro e;subst e;rw [h] at h';exact d (Option.some.inj h')
theorem qak {H:Hp}{a b:Addr}{o:HO} (h:H a=some o) (h':H b=none):a≠b:=by
 intro e;subst e;rw [h] at h';cases h'
section
variable (P:Program) (w:World)
def ObjOk (H:Hp) (h:Heap) (a:Addr):HO→Prop
 | .lst xs=>xs.length≤sizeLine∧∃ (its:List Value) (n:Nat),Vals xs its∧h.get? a=some { cls:=.type "list",data:=.seq its.toArray n }
 | .tup xs=>xs.length≤sizeLine∧∃ its:List Value,Vals xs its∧IsTup h a its.toArray
 | .dK kvs=>kvs.length≤sizeLine∧(a == sysModules)=false∧∃ vs,KV kvs vs∧h.DictOf (qbi P w) a vs
 | .dT kvs=>kvs.length≤sizeLine∧(a == sysModules)=false∧∃ xs:List (List Key×Addr×Value),
   Paired (fun (p:List Key×V) (q:List Key×Addr×Value)=>p.1=q.1∧H q.2.1=some (.tup (p.1.map kV))∧RelV p.2 q.2.2) kvs xs ∧
   ∃ o es ep,h.get? a=some o∧o.ExactDict∧o.data=.dict es ep∧es.toList=xs.map (entryOfKey (tupleKind (qbi P w)))∧(xs.map (·.1)).Nodup
 | .set S n=>h.SetOf (intKind P w) a S n
 | .ins C dx fs=>H dx=some (.own a)∧fs.length≤1000∧dx≠a∧h.get? a=some (PySem.W.instObj C dx) ∧
   ∃ mA,h.Ns1 dx mA∧(∀ f,RelO (fs.lookup f) (mA f))∧PySem.Within mA (fs.map (·.1))
 | .own _=>∃ o,h.get? a=some o
 | .xd fs=>∃ mA,h.Ns1 a mA∧∀ f,RelO (fs.lookup f) (mA f)
 | .rng lo hi=>∃ t u v,h.get? a=some { cls:=.type "range",data:=.fields #[.int lo t,.int hi u,.int 1 v] }
 | .frz o u=>h.get? a=some o∧ObjOk H h a u
 | .tbl ps=>h.get? a=some { cls:=.none,data:=.fields ps }
 | .met f x=>h.get? a=some (PySem.W.methodObj (.ref f) (.ref x))
 | .ext φ=>φ h∧(∃ o,h.get? a=some o)∧∀ h1 h2:Heap,φ h1→(∀ o,h1.get? a=some o→h2.get? a=some o)→φ h2
def HOk (H:Hp) (h:Heap):Prop:=∀ a o,H a=some o→ObjOk P w H h a o
end
section
variable {P:Program}{w:World}{H H':Hp}{h h':Heap}{a:Addr}{o:HO}
theorem ObjOk.lt (x:ObjOk P w H h a o):a < h.objs.size:=by
 cases o with
 | lst xs=>obtain ⟨_,_,_,_,e⟩:=x;exact Heap.lt_size e
 | tup xs=>obtain ⟨_,_,_,p⟩:=x;exact p.lt
 | dK kvs=>obtain ⟨_,_,_,_,o,_,_,e,_⟩:=x;exact Heap.lt_size e
 | dT kvs=>obtain ⟨_,_,_,_,o,_,_,e,_⟩:=x;exact Heap.lt_size e
 | set S n=>obtain ⟨o,_,_,_,e,_⟩:=x;exact Heap.lt_size e
 | ins C dx fs=>obtain ⟨_,_,_,e,_⟩:=x;exact Heap.lt_size e
 | own y=>obtain ⟨_,e⟩:=x;exact Heap.lt_size e
 | xd fs=>obtain ⟨_,⟨_,_,_,e,_⟩,_⟩:=x;exact Heap.lt_size e
 | rng lo hi=>obtain ⟨_,_,_,e⟩:=x;exact Heap.lt_size e
 | frz ob u=>obtain ⟨e,_⟩:=x;exact Heap.lt_size e
 | tbl ps=>exact Heap.lt_size (show h.get? a=some _ from x)
 | met f y=>exact Heap.lt_size (show h.get? a=some _ from x)
 | ext φ=>obtain ⟨_,⟨_,e⟩,_⟩:=x;exact Heap.lt_size e
theorem Paired.mapP {α β:Type}{F G:α→β→Prop}:∀ {l₁:List α}{l₂:List β},Paired F l₁ l₂→(∀ a b,F a b→G a b)→Paired G l₁ l₂
 | _,_,.nil,_=>.nil
 | _,_,.cons r t,f=>.cons (f _ _ r) (Paired.mapP t f)
theorem ObjOk.stay (x:ObjOk P w H h a o) (k:∀ b u,(b=a∨H b=some (.own a))→h.get? b=some u→h'.get? b=some u)
  (ho:∀ b,H b=some (.own a)→H' b=some (.own a)) (ht:∀ b xs,H b=some (.tup xs)→H' b=some (.tup xs)):ObjOk P w H' h' a o:=by
 induction o with
 | lst xs=>obtain ⟨z,its,n,r,e⟩:=x;exact ⟨z,its,n,r,k _ _ (.inl rfl) e⟩
 | tup xs=>obtain ⟨z,its,r,ob,e,c⟩:=x;exact ⟨z,its,r,ob,k _ _ (.inl rfl) e,c⟩
 | dK kvs=>obtain ⟨z,y,vs,r,ob,es,ep,e,c⟩:=x;exact ⟨z,y,vs,r,ob,es,ep,k _ _ (.inl rfl) e,c⟩
 | dT kvs =>
  obtain ⟨z,y,xs,r,ob,es,ep,e,c⟩:=x
  exact ⟨z,y,xs,Paired.mapP r fun p q z=>⟨z.1,ht _ _ z.2.1,z.2.2⟩,ob,es,ep,k _ _ (.inl rfl) e,c⟩
 | set S n=>obtain ⟨ob,es,ep,t,e,c⟩:=x;exact ⟨ob,es,ep,t,k _ _ (.inl rfl) e,c⟩
 | ins C dx fs =>
  obtain ⟨d,z,ne,e,mA,⟨od,es,ep,e2,c⟩,r⟩:=x
  exact ⟨ho _ d,z,ne,k _ _ (.inl rfl) e,mA,⟨od,es,ep,k _ _ (.inr d) e2,c⟩,r⟩
 | own y=>obtain ⟨ob,e⟩:=x;exact ⟨ob,k _ _ (.inl rfl) e⟩
 | xd fs=>obtain ⟨mA,⟨od,es,ep,e,c⟩,r⟩:=x;exact ⟨mA,⟨od,es,ep,k _ _ (.inl rfl) e,c⟩,r⟩
 | rng lo hi=>obtain ⟨t,u,v,e⟩:=x;exact ⟨t,u,v,k _ _ (.inl rfl) e⟩
 | frz ob u ih=>obtain ⟨e,q⟩:=x;exact ⟨k _ _ (.inl rfl) e,ih q⟩
 | tbl ps =>
  have e:h.get? a=some { cls:=.none,data:=.fields ps }:=x
  show h'.get? a=some { cls:=.none,data:=.fields ps }
  exact k a _ (.inl rfl) e
 | met f y =>
  have e:h.get? a=some (PySem.W.methodObj (.ref f) (.ref y)):=x
  show h'.get? a=some (PySem.W.methodObj (.ref f) (.ref y))
  exact k a _ (.inl rfl) e
 | ext φ=>obtain ⟨p,⟨o,e⟩,st⟩:=x;exact ⟨st _ _ p fun o q=>k _ _ (.inl rfl) q,⟨o,k _ _ (.inl rfl) e⟩,st⟩
theorem HOk.lt (x:HOk P w H h) (e:H a=some o):a < h.objs.size:=(x a o e).lt
theorem HOk.fresh (x:HOk P w H h) (e:h.objs.size≤a):H a=none:=by
 cases q:H a with
 | none=>rfl
 | some u=>exact absurd (Nat.lt_of_lt_of_le (x.lt q) e) (Nat.lt_irrefl _)
theorem HOk.kept (x:HOk P w H h) (k:∀ b u,h.get? b=some u→h'.get? b=some u):HOk P w H h':=fun a o e =>
 (x a o e).stay (fun b u _ q=>k b u q) (fun _ q=>q) fun _ _ q=>q
theorem HOk.laid (x:HOk P w H h) (k:∀ b u,h.get? b=some u→h'.get? b=some u) (hp:h.objs.size≤a) (new:ObjOk P w (upd H a o) h' a o):HOk P w (upd H a o) h':=fun b u e=>by
 have hn:=x.fresh hp
 by_cases hb:b=a
 ·subst hb;rw [qae] at e;cases e;exact new
 ·rw [qad hb] at e
  exact (x b u e).stay (fun c v _ q=>k c v q) (fun c q=>by rw [qad (qak q hn)];exact q) fun c xs q=>by rw [qad (qak q hn)];exact q
end
def Rd (H:Hp) (a:Addr) (u:HO):Prop:=H a=some u∨∃ o,H a=some (.frz o u)
theorem Rd.ok {P:Program}{w:World}{H:Hp}{h:Heap}{a:Addr}{u:HO} (r:Rd H a u) (x:HOk P w H h):ObjOk P w H h a u:=by
 rcases r with r | ⟨o,r⟩
 ·exact x a u r
 ·obtain ⟨_,q⟩:=x a _ r
  exact q
def Mut:Option HO→Prop
 | some (.lst _)=>True
 | some (.dK _)=>True
 | some (.dT _)=>True
 | some (.set _ _)=>True
 | some (.ins _ _ _)=>True
 | some (.ext _)=>True
 | _=>False
section
variable {P:Program}{w:World}{H:Hp}{h h':Heap}{x e:Addr}{o':HO}
theorem HOk.write (ok:HOk P w H h) (mu:Mut (H x)) (he:e=x∨H e=some (.own x)) (k:∀ b u,b≠e→h.get? b=some u→h'.get? b=some u) (heo:∃ u,h'.get? e=some u)
  (new:ObjOk P w (upd H x o') h' x o'):HOk P w (upd H x o') h':=fun b u q=>by
 have nown:∀ c y,H c=some (.own y)→c≠x:=fun c y r z=>by subst z;rw [r] at mu;exact mu
 have ntup:∀ c xs,H c=some (.tup xs)→c≠x:=fun c xs r z=>by subst z;rw [r] at mu;exact mu
 by_cases hb:b=x
 ·subst hb;rw [qae] at q;cases q;exact new
 ·rw [qad hb] at q
  by_cases hbe:b=e
  ·have q':H b=some (.own x):=by
    rcases he with z | z
    ·exact absurd (hbe.trans z) hb
    ·rw [hbe];exact z
   rw [q] at q';cases q'
   obtain ⟨v,hv⟩:=heo
   exact ⟨v,by rw [hbe];exact hv⟩
  ·refine (ok b u q).stay (fun c v hc r=>k c v ?_ r) (fun c r=>by rw [qad (nown c b r)];exact r) fun c xs r=>by rw [qad (ntup c xs r)];exact r
   rcases hc with rfl | hc
   ·exact hbe
   ·rintro rfl
    rcases he with z | z
    ·exact nown c b hc z
    ·rw [hc] at z;cases z;exact hb rfl
end
structure Un (fs ex:List Addr) (H H':Hp) (h h':Heap):Prop where
 keep:∀ b o,h.get? b=some o→H b=none→b∉fs→b∉ex→h'.get? b=some o
 slot:∀ b o,h.get? b=some o→H b=none→b∈fs→b∉ex→∃ sl,h'.get? b=some { o with slots:=sl }
 free:∀ b o,h.get? b=some o→H b=none→b∉ex→H' b=none
 there:∀ b o,h.get? b=some o→b∉ex→∃ o',h'.get? b=some o'
 tups:∀ b xs,H b=some (.tup xs)→H' b=some (.tup xs)
 frzs:∀ b o u,H b=some (.frz o u)→H' b=some (.frz o u)
 tbls:∀ b ps,H b=some (.tbl ps)→∃ more,H' b=some (.tbl (ps++more))
section
variable {fs fs' ex ex':List Addr}{H H1 H2:Hp}{h h1 h2 h':Heap}{a x e:Addr}{o:HO}
theorem Un.any (u:Un fs ex H H1 h h1) {b:Addr}{ob:Obj} (q:h.get? b=some ob) (n:H b=none) (hx:b∉ex):∃ sl,h1.get? b=some { ob with slots:=sl }:=by
 by_cases hb:b∈fs
 ·exact u.slot b ob q n hb hx
 ·exact ⟨ob.slots,u.keep b ob q n hb hx⟩
theorem Un.kept (k:∀ b u,h.get? b=some u→h'.get? b=some u):Un fs ex H H h h' :=
 ⟨fun b ob q _ _ _=>k b ob q,fun b ob q _ _ _=>⟨ob.slots,k b ob q⟩,fun _ _ _ n _=>n,fun b ob q _=>⟨ob,k b ob q⟩,fun _ _ q=>q,fun _ _ _ q=>q,fun _ ps q=>⟨#[],by rw [q];simp⟩⟩
theorem Un.refl:Un fs ex H H h h:=Un.kept fun _ _ q=>q
theorem Un.laid (k:∀ b u,h.get? b=some u→h'.get? b=some u) (hp:h.objs.size≤a) (hn:H a=none):Un fs ex H (upd H a o) h h' where
 keep:=fun b u q _ _ _=>k b u q
 slot:=fun b u q _ _ _=>⟨u.slots,k b u q⟩
 free:=fun b u q n _=>by rw [qad (Nat.ne_of_lt (Nat.lt_of_lt_of_le (Heap.lt_size q) hp))];exact n
 there:=fun b u q _=>⟨u,k b u q⟩
 tups:=fun b xs q=>by rw [qad (qak q hn)];exact q
 frzs:=fun b u xs q=>by rw [qad (qak q hn)];exact q
 tbls:=fun b ps q=>⟨#[],by rw [qad (qak q hn),q];simp⟩
theorem Un.write (mu:Mut (H x)) (he:e=x∨H e=some (.own x)) (k:∀ b u,b≠e→h.get? b=some u→h'.get? b=some u) (heo:∃ u,h'.get? e=some u):Un fs ex H (upd H x o) h h':=by
 have hx:∀ b,H b=none→b≠x:=fun b n z=>by subst z;rw [n] at mu;exact mu
 have hb:∀ b,H b=none→b≠e:=fun b n z=>by
  subst z
  rcases he with r | r
  ·exact hx b n r
  ·rw [n] at r;cases r
 have hm:∀ b u,H b=some u→¬ Mut (some u)→b≠x:=fun b u q nm z=>by subst z;rw [q] at mu;exact nm mu
 refine ⟨fun b u q n _ _=>k b u (hb b n) q,fun b u q n _ _=>⟨u.slots,k b u (hb b n) q⟩,fun b u q n _=>by rw [qad (hx b n)];exact n,fun b u q _=>?_,
  fun b xs q=>by rw [qad (hm b _ q fun z=>z)];exact q,fun b u xs q=>by rw [qad (hm b _ q fun z=>z)];exact q,fun b ps q=>⟨#[],by rw [qad (hm b _ q fun z=>z),q];simp⟩⟩
 by_cases hbe:b=e
 ·subst hbe;exact heo
 ·exact ⟨u,k b u hbe q⟩
end
def trk (h:Heap) (H:Hp):List Addr:=(List.range h.objs.size).filter fun a=>(H a).isSome
def hidT (h:Heap) (H:Hp):Heap:=PySem.W.hideAll h (trk h H)
theorem hidT_size (h:Heap) (H:Hp):(hidT h H).objs.size=h.objs.size:=PySem.W.hideAll_size _ _
theorem qol {h:Heap}{H:Hp}{b:Addr}{o:Obj} (e:h.get? b=some o) (n:H b=none):(hidT h H).get? b=some o :=
 PySem.W.hideAll_get _ e fun hm=>by
  have q:(H b).isSome=true:=(List.mem_filter.mp hm).2
  rw [n] at q;simp at q
theorem of_hidT {h:Heap}{H:Hp}{b:Addr}{o:Obj} (e:(hidT h H).get? b=some o):h.get? b=some o∧H b=none:=by
 have e':h.get? b=some o:=PySem.W.of_hideAll (trk h H) e
 refine ⟨e',?_⟩
 cases q:H b with
 | none=>rfl
 | some x =>
  have hm:b∈trk h H:=List.mem_filter.mpr ⟨List.mem_range.mpr (Heap.lt_size e'),by simp [q]⟩
  have z:(hidT h H).get? b=none:=PySem.W.hideAll_none (trk h H) hm
  rw [z] at e;cases e
def allNews (g h:Heap) (L:Addr):List (Addr×Obj):=(List.range h.objs.size).filterMap fun a=>if a=L∨(g.get? a).isSome=true then none else (h.get? a).map fun o=>(a,o)
def rest (g h:Heap) (L d:Addr):List (Addr×Obj):=(allNews g h L).filter fun p=>decide (p.1≠d)
end L2
namespace L2
open PySem PySem.Spec PyProof.Rows
structure Mod (K:PySem.W.Frag) (mg:Str→Option Value) (base:Heap):Prop where
 kin:K.In base
 glob:base.Ns mainGlobals mg
 blt:∃ mb,base.Ns builtinsNs mb∧∀ x:Str,x≠"__name__"→mb x=bootBuiltins x
 nolimit:base.NoLimit
structure Cx where
 prog:Program
 w:World
 K:PySem.W.Frag
 mg:Str→Option Value
 base:Heap
 A:Around
 N:List Str
 s₀:Shared
 H₀:Hp
 env:Env
 outer:List Env
 stack:List Env
 ex:List Addr
 fn:Str→Bool
 calm:Bool
 pn:List (Addr×Obj)
 xe:Value→Shared→Prop
def frs (l:List Env):List Addr:=l.filterMap (·.frame)
abbrev Cx.fs (X:Cx):List Addr:=frs X.outer
def Vis (sc:Scope) (x:Str):Prop:=sc.names.lookup x=some .local∨sc.names.lookup x=some .cell∨sc.names.lookup x=some .free
def Loc (sc:Scope) (x:Str):Prop:=sc.names.lookup x=some .local∨sc.names.lookup x=some .cell
def Look (env:Env) (h:Heap) (m:Str→Option Value) (x:Str) (u:Value):Prop :=
 (env.kindOf x=some .local∧m x=some u)∨((env.kindOf x=some .cell∨env.kindOf x=some .free)∧∃ c,env.cells.lookup x=some c∧h.IsCell c (some u))
structure Cx.Ok (X:Cx):Prop where
 mod:Mod X.K X.mg X.base
 kind:X.env.scope.kind=.function
 glob:X.env.globals=mainGlobals
 blt:X.env.builtins=builtinsNs
 above:X.s₀.heap.objs.size≤X.env.locals
 inj:∀ x y c,X.env.cells.lookup x=some c→X.env.cells.lookup y=some c→x=y
 has:∀ x,(X.env.kindOf x=some .cell∨X.env.kindOf x=some .free)→∃ c,X.env.cells.lookup x=some c
 cab:∀ x c,X.fn x=true→X.env.cells.lookup x=some c→X.s₀.heap.objs.size≤c
 hd:X.calm=true→X.A.handled=none
 frames:X.A.frames=some X.stack
 stk:X.stack=X.outer∨(X.stack=X.env::X.outer∧X.env.frame=some X.env.locals)
 exf:∀ b∈X.ex,b≠X.env.locals∧∀ x c,X.env.cells.lookup x=some c→c≠b
 bs:∀ b o,X.base.get? b=some o→X.s₀.heap.get? b=some o∧X.H₀ b=none
 bsz:X.base.objs.size≤X.s₀.heap.objs.size
 noex:∀ b o,X.base.get? b=some o→b∉X.ex
 exfs:∀ b∈X.ex,b∉X.fs
 funs:X.s₀.heap.FunFrames X.base X.outer
 frf:∀ b∈X.fs,X.H₀ b=none
structure Inv (X:Cx) (pins:List (Addr×Obj)) (σ:List (Option V)) (H:Hp) (s:Shared):Prop where
 ok:X.Ok
 os:s.os=X.s₀.os
 bare:AllBare s.gens
 base:Un X.fs X.ex X.H₀ H X.s₀.heap s.heap
 loc:∃ m,s.heap.Ns X.env.locals m∧∀ (i:Nat) (x:Str) (v:V),X.N[i]?=some x→σ[i]?=some (some v)→Vis X.env.scope x→∃ u,RelV v u∧Look X.env s.heap m x u
 cell:∀ x c,X.env.cells.lookup x=some c→∃ v,s.heap.IsCell c v
 free:H X.env.locals=none
 freeC:∀ x c,X.env.cells.lookup x=some c→H c=none
 pin:∀ p∈X.pn++pins,s.heap.get? p.1=some p.2∧H p.1=none∧p.1≠X.env.locals∧p.1∉X.fs∧∀ v,p.2.data≠.cell v
 hok:HOk X.prog X.w H s.heap
 len:σ.length=X.N.length
section
variable {X:Cx}{pins:List (Addr×Obj)}{σ:List (Option V)}{H H':Hp}{s:Shared}{h':Heap}
theorem Cx.Ok.nofr (ok:X.Ok) {b:Addr}{o:Obj} (e:X.base.get? b=some o):b∉X.fs:=fun hb=>by
 have:=(ok.funs.mem hb).1
 rw [e] at this;cases this
theorem Inv.bs (I:Inv X pins σ H s):∀ b o,X.base.get? b=some o→s.heap.get? b=some o∧H b=none:=fun b o e =>
 ⟨I.base.keep b o (I.ok.bs b o e).1 (I.ok.bs b o e).2 (I.ok.nofr e) (I.ok.noex b o e),I.base.free b o (I.ok.bs b o e).1 (I.ok.bs b o e).2 (I.ok.noex b o e)⟩
theorem Inv.bk (I:Inv X pins σ H s):∀ b o,X.base.get? b=some o→s.heap.get? b=some o:=fun b o e=>(I.bs b o e).1
theorem Inv.mod (I:Inv X pins σ H s):Mod X.K X.mg X.base:=I.ok.mod
theorem Inv.kIn (I:Inv X pins σ H s):X.K.In s.heap:=I.ok.mod.kin.keeps I.bk
theorem Inv.lt (I:Inv X pins σ H s):X.env.locals < s.heap.objs.size:=let ⟨_,hn,_⟩:=I.loc;hn.lt
theorem Inv.sz (I:Inv X pins σ H s):X.s₀.heap.objs.size≤s.heap.objs.size:=Nat.le_trans I.ok.above (Nat.le_of_lt I.lt)
theorem Inv.nofs (I:Inv X pins σ H s) {a:Addr} (h:s.heap.objs.size≤a):a∉X.fs:=fun hb=>by
 obtain ⟨_,o,ho,_⟩:=I.ok.funs.mem hb
 exact absurd (Nat.lt_of_lt_of_le (Heap.lt_size ho) (Nat.le_trans I.sz h)) (Nat.lt_irrefl _)
theorem Inv.cne (I:Inv X pins σ H s):∀ x c,X.env.cells.lookup x=some c→c≠X.env.locals:=fun x c e z=>by
 obtain ⟨v,o,ho,hd⟩:=I.cell x c e
 obtain ⟨m,⟨o',es,ep,ho',hd',_⟩,_⟩:=I.loc
 rw [z,ho'] at ho;cases ho;rw [hd'] at hd;cases hd
theorem Inv.funs (I:Inv X pins σ H s):s.heap.FunFrames X.base X.outer:=by
 have all:∀ (l:List Env),(∀ b∈frs l,b∈X.fs)→X.s₀.heap.FunFrames X.base l→s.heap.FunFrames X.base l:=by
  intro l
  induction l with
  | nil=>intro _ _;trivial
  | cons env r ih =>
   intro hs hl
   obtain ⟨hk,⟨L,o,hf,hn,ho,hd⟩,hr⟩:=hl
   have hL:L∈X.fs:=hs L (by unfold frs;rw [List.filterMap_cons,hf];exact List.mem_cons_self)
   obtain ⟨sl,e⟩:=I.base.slot L o ho (I.ok.frf L hL) hL fun z=>I.ok.exfs L z hL
   exact ⟨hk,⟨L,_,hf,hn,e,hd⟩,ih (fun b hb=>hs b (by unfold frs;rw [List.filterMap_cons,hf];exact List.mem_cons_of_mem _ hb)) hr⟩
 exact all X.outer (fun _ hb=>hb) I.ok.funs
theorem Inv.stack (I:Inv X pins σ H s):s.heap.FunFrames X.base X.stack:=by
 rcases I.ok.stk with e | ⟨e,hf⟩
 ·rw [e];exact I.funs
 ·rw [e]
  obtain ⟨m,hn,_⟩:=I.loc
  refine .cons (by rw [I.ok.kind];decide) hf hn ?_ I.funs
  exact Heap.get?_none_of_le (Nat.le_trans I.ok.bsz I.ok.above)
theorem Inv.stkSub (I:Inv X pins σ H s):∀ b∈frs X.stack,b∈X.env.locals::X.fs:=fun b hb=>by
 rcases I.ok.stk with e | ⟨e,hf⟩
 ·rw [e] at hb;exact List.mem_cons_of_mem _ hb
 ·rw [e] at hb
  unfold frs at hb
  rw [List.filterMap_cons,hf] at hb
  exact hb
theorem Inv.stkFree (I:Inv X pins σ H s):∀ b∈frs X.stack,H b=none:=fun b hb=>by
 rcases List.mem_cons.mp (I.stkSub b hb) with e | hb
 ·rw [e];exact I.free
 ·obtain ⟨_,o,ho,_⟩:=I.ok.funs.mem hb
  exact I.base.free b o ho (I.ok.frf b hb) fun z=>I.ok.exfs b z hb
theorem Inv.step {g':Array GenState}{t':Nat}{d':Drawn}{ch:List Addr} (I:Inv X pins σ H s)
  (hch:∀ b∈ch,(b∈X.ex∨X.s₀.heap.objs.size≤b)∧b≠X.env.locals∧(∀ x c,X.env.cells.lookup x=some c→c≠b)∧∀ p∈X.pn++pins,p.1≠b)
  (keep:∀ b o,b≠X.env.locals→b∉X.fs→b∉ch→s.heap.get? b=some o→H b=none→h'.get? b=some o)
  (slot:∀ b o,b≠X.env.locals→b∈X.fs→b∉ch→s.heap.get? b=some o→H b=none→∃ sl,h'.get? b=some { o with slots:=sl }) (free:∀ b o,b∉ch→s.heap.get? b=some o→H b=none→H' b=none)
  (there:∀ b o,b∉ch→s.heap.get? b=some o→∃ o',h'.get? b=some o')
  (tups:∀ b xs,H b=some (.tup xs)→H' b=some (.tup xs)) (frzs:∀ b o u,H b=some (.frz o u)→H' b=some (.frz o u)) (tbls:∀ b ps,H b=some (.tbl ps)→∃ more,H' b=some (.tbl (ps++more)))
  (ns:∀ m,s.heap.Ns X.env.locals m→h'.Ns X.env.locals m) (hok:HOk X.prog X.w H' h') (hg:AllBare g') :
  Inv X pins σ H' { s with heap:=h',gens:=g',drawn:=d',toks:=t' }:=by
 have neL:∀ b o,X.s₀.heap.get? b=some o→b≠X.env.locals:=fun b o e=>Nat.ne_of_lt (Nat.lt_of_lt_of_le (Heap.lt_size e) I.ok.above)
 have neC:∀ b o,X.s₀.heap.get? b=some o→b∉X.ex→b∉ch:=fun b o e hx hb=>by
  rcases (hch b hb).1 with z | z
  ·exact hx z
  ·exact absurd (Nat.lt_of_lt_of_le (Heap.lt_size e) z) (Nat.lt_irrefl _)
 have cellK:∀ x c,X.env.cells.lookup x=some c→∀ v,s.heap.IsCell c v→h'.IsCell c v:=fun x c e v ⟨o,ho,hd⟩=>by
  have nch:c∉ch:=fun z=>(hch c z).2.2.1 x c e rfl
  by_cases hc:c∈X.fs
  ·obtain ⟨sl,q⟩:=slot c o (I.cne x c e) hc nch ho (I.freeC x c e)
   exact ⟨_,q,hd⟩
  ·exact ⟨o,keep c o (I.cne x c e) hc nch ho (I.freeC x c e),hd⟩
 refine ⟨I.ok,I.os,hg,⟨fun b o e n hb hx=>?_,fun b o e n hb hx=>?_,fun b o e n hx=>?_,fun b o e hx=>?_,fun b xs e=>tups b xs (I.base.tups b xs e),fun b o xs e=>frzs b o xs (I.base.frzs b o xs e),fun b ps e=>?_⟩,?_,fun x c e=>?_,?_,fun x c e=>?_,fun p hp=>?_,hok,I.len⟩
 ·exact keep b o (neL b o e) hb (neC b o e hx) (I.base.keep b o e n hb hx) (I.base.free b o e n hx)
 ·obtain ⟨sl,e1⟩:=I.base.slot b o e n hb hx
  obtain ⟨sl',e2⟩:=slot b _ (neL b o e) hb (neC b o e hx) e1 (I.base.free b o e n hx)
  exact ⟨sl',e2⟩
 ·obtain ⟨o',e1⟩:=I.base.there b o e hx
  exact free b o' (neC b o e hx) e1 (I.base.free b o e n hx)
 ·obtain ⟨o',e1⟩:=I.base.there b o e hx
  exact there b o' (neC b o e hx) e1
 ·obtain ⟨m1,e1⟩:=I.base.tbls b ps e
  obtain ⟨m2,e2⟩:=tbls b _ e1
  exact ⟨m1++m2,by rw [e2,Array.append_assoc]⟩
 ·obtain ⟨m,hn,hl⟩:=I.loc
  refine ⟨m,ns m hn,fun i x v e1 e2 e3=>?_⟩
  obtain ⟨u,r,l⟩:=hl i x v e1 e2 e3
  refine ⟨u,r,?_⟩
  rcases l with l | ⟨k,c,e,z⟩
  ·exact .inl l
  ·exact .inr ⟨k,c,e,cellK x c e _ z⟩
 ·obtain ⟨v,z⟩:=I.cell x c e
  exact ⟨v,cellK x c e v z⟩
 ·obtain ⟨m,⟨o,_,_,ho,_⟩,_⟩:=I.loc
  exact free _ o (fun z=>(hch _ z).2.1 rfl) ho I.free
 ·obtain ⟨v,o,ho,hd⟩:=I.cell x c e
  exact free c o (fun z=>(hch c z).2.2.1 x c e rfl) ho (I.freeC x c e)
 ·obtain ⟨e,n,ne,nf,d⟩:=I.pin p hp
  have nch:p.1∉ch:=fun z=>(hch p.1 z).2.2.2 p hp rfl
  exact ⟨keep p.1 p.2 ne nf nch e n,free p.1 p.2 nch e n,ne,nf,d⟩
theorem Inv.un {t':Nat} (I:Inv X pins σ H s) (u:Un X.fs [] H H' s.heap h') (hok:HOk X.prog X.w H' h'):Inv X pins σ H' { s with heap:=h',toks:=t' }:=by
 obtain ⟨m,⟨o,es,ep,ho,r⟩,_⟩:=id I.loc
 obtain ⟨sl,hL⟩:=u.any ho I.free (by simp)
 exact I.step (g':=s.gens) (d':=s.drawn) (ch:=[]) (fun _ z=>nomatch z) (fun b o _ hb _ e n=>u.keep b o e n hb (by simp)) (fun b o _ hb _ e n=>u.slot b o e n hb (by simp)) (fun b o _ e n=>u.free b o e n (by simp)) (fun b o _ e=>u.there b o e (by simp)) u.tups u.frzs u.tbls (fun m' hm=>by
  obtain ⟨o',es',ep',ho',r'⟩:=hm
  rw [ho] at ho';cases ho'
  exact ⟨_,es',ep',hL,r'⟩) hok I.bare
theorem Inv.call {g':Array GenState}{t':Nat}{d':Drawn}{ch:List Addr} (I:Inv X pins σ H s) (u:Un (frs X.stack) ch H H' s.heap h') (hok:HOk X.prog X.w H' h') (hg:AllBare g')
  (hch:∀ b∈ch,(b∈X.ex∨X.s₀.heap.objs.size≤b)∧b≠X.env.locals∧(∀ x c,X.env.cells.lookup x=some c→c≠b)∧∀ p∈X.pn++pins,p.1≠b) :
  Inv X pins σ H' { s with heap:=h',gens:=g',drawn:=d',toks:=t' }:=by
 obtain ⟨m,⟨o,es,ep,ho,r⟩,_⟩:=id I.loc
 obtain ⟨sl,hL⟩:=u.any ho I.free fun z=>(hch _ z).2.1 rfl
 exact I.step (ch:=ch) hch (fun b o hL hb hc e n=>u.keep b o e n (fun z=>(List.mem_cons.mp (I.stkSub b z)).elim hL hb) hc) (fun b o _ _ hc e n=>u.any e n hc) (fun b o hc e n=>u.free b o e n hc) (fun b o hc e=>u.there b o e hc) u.tups u.frzs u.tbls (fun m' hm=>by
  obtain ⟨o',es',ep',ho',r'⟩:=hm
  rw [ho] at ho';cases ho'
  exact ⟨_,es',ep',hL,r'⟩) hok hg
theorem Inv.turned {t':Nat}{it:Addr} (I:Inv X pins σ H s) (k:∀ b o,b≠it→s.heap.get? b=some o→h'.get? b=some o) (hn:H it=none) (hL:it≠X.env.locals)
  (h1:it∈X.ex∨X.s₀.heap.objs.size≤it) (h2:∀ x c,X.env.cells.lookup x=some c→c≠it) (h3:∀ p∈X.pn++pins,p.1≠it):Inv X pins σ H { s with heap:=h',toks:=t' }:=by
 have nit:∀ b u,H b=some u→b≠it:=fun b u e z=>by rw [z,hn] at e;cases e
 refine I.step (g':=s.gens) (d':=s.drawn) (ch:=[it]) (fun b hb=>?_) (fun b o _ _ hc e _=>k b o (fun z=>hc (by simp [z])) e) (fun b o _ _ hc e _=>⟨o.slots,k b o (fun z=>hc (by simp [z])) e⟩) (fun _ _ _ _ n=>n)
  (fun b o hc e=>⟨o,k b o (fun z=>hc (by simp [z])) e⟩) (fun _ _ e=>e) (fun _ _ _ e=>e) (fun b ps e=>⟨#[],by rw [e];simp⟩) (fun m hm=>?_) (fun b u e=>?_) I.bare
 ·have e:b=it:=by simpa using hb
  subst e
  exact ⟨h1,hL,h2,h3⟩
 ·obtain ⟨o,es,ep,ho,r⟩:=hm
  exact ⟨o,es,ep,k _ o (Ne.symm hL) ho,r⟩
 ·refine (I.hok b u e).stay (fun c v hc q=>k c v ?_ q) (fun _ q=>q) fun _ _ q=>q
  rcases hc with z | z
  ·rw [z];exact nit b u e
  ·exact nit c _ z
theorem Inv.tok (I:Inv X pins σ H s) (t:Nat):Inv X pins σ H { s with toks:=t }:=I.un (h':=s.heap) (t':=t) Un.refl I.hok
theorem Inv.kept {t':Nat} (I:Inv X pins σ H s) (k:∀ b u,s.heap.get? b=some u→h'.get? b=some u):Inv X pins σ H { s with heap:=h',toks:=t' }:=I.un (Un.kept k) (I.hok.kept k)
theorem Inv.laid {a:Addr}{o:HO}{t':Nat} (I:Inv X pins σ H s) (k:∀ b u,s.heap.get? b=some u→h'.get? b=some u) (hp:s.heap.objs.size≤a) (new:ObjOk X.prog X.w (upd H a o) h' a o) :
  Inv X pins σ (upd H a o) { s with heap:=h',toks:=t' }:=I.un (Un.laid k hp (I.hok.fresh hp)) (I.hok.laid k hp new)
theorem Inv.write {x e:Addr}{o:HO}{t':Nat} (I:Inv X pins σ H s) (mu:Mut (H x)) (he:e=x∨H e=some (.own x)) (k:∀ b u,b≠e→s.heap.get? b=some u→h'.get? b=some u) (heo:∃ u,h'.get? e=some u)
  (new:ObjOk X.prog X.w (upd H x o) h' x o):Inv X pins σ (upd H x o) { s with heap:=h',toks:=t' }:=I.un (Un.write mu he k heo) (I.hok.write mu he k heo new)
theorem Inv.pins_of {pins':List (Addr×Obj)} (I:Inv X pins σ H s) (h:∀ p∈pins',s.heap.get? p.1=some p.2∧H p.1=none∧p.1≠X.env.locals∧p.1∉X.fs∧∀ v,p.2.data≠.cell v):Inv X pins' σ H s :=
 ⟨I.ok,I.os,I.bare,I.base,I.loc,I.cell,I.free,I.freeC,fun p hp=>(List.mem_append.mp hp).elim (fun z=>I.pin p (List.mem_append_left _ z)) (h p),I.hok,I.len⟩
theorem qof {N:List Str} (hN:N.Nodup) {i j:Nat}{x:Str} (a:N[i]?=some x) (b:N[j]?=some x):i=j:=by
 obtain ⟨h1,e1⟩:=List.getElem?_eq_some_iff.mp a
 obtain ⟨h2,e2⟩:=List.getElem?_eq_some_iff.mp b
 exact (List.getElem_inj hN).mp (e1.trans e2.symm)
theorem qlj {M:Model}{A:Around}{E:Value→Shared→Prop}{i:Nat}{x:Str}{v:V}{u:Value}{Q:Unit→Shared→Prop} (I:Inv X pins σ H s) (hN:X.N.Nodup) (hi:X.N[i]?=some x) (hx:Loc X.env.scope x) (r:RelV v u)
  (h:∀ s',Inv X pins (σ.set i (some v)) H s'→(∃ a,Heap.SameBut a s.heap s'.heap∧(a=X.env.locals∨X.env.cells.lookup x=some a))→Q () s') (hf:X.fn x=true∨X.env.scope.names.lookup x=some .local:=by first | exact .inl rfl | exact .inr rfl | assumption):wpAny M A (storeName X.env x u) Q E s:=by
 obtain ⟨m,hn,hl⟩:=id I.loc
 have hcls:(X.env.scope.kind == .class || (X.env.scope.kind == .module && X.env.locals != X.env.globals))=false:=by rw [I.ok.kind];rfl
 have hiσ:i < σ.length:=by rw [I.len];exact (List.getElem?_eq_some_iff.mp hi).1
 have cne:=I.cne
 have tracked:∀ {a:Addr}{h':Heap},(∃ o,s.heap.get? a=some o∧H a=none)→Heap.SameBut a s.heap h'→HOk X.prog X.w H h':=fun {a h'} ha hs b ob e=>by
  obtain ⟨_,_,hfree⟩:=ha
  refine (I.hok b ob e).stay (fun c w' hc q=>(hs.2 c ?_).trans q) (fun _ q=>q) fun _ _ q=>q
  rintro rfl
  rcases hc with rfl | hc
  ·rw [hfree] at e;cases e
  ·rw [hfree] at hc;cases hc
 rcases hx with hk | hk
 ·refine wpAny_storeName_local hk hn (fun h' hn' hs=>?_) hcls
  obtain ⟨oL,_,_,hoL,_⟩:=id hn
  refine h _ ⟨I.ok,I.os,I.bare,⟨fun b o e n hb hx=>?_,fun b o e n hb hx=>?_,I.base.free,fun b o e hx=>?_,I.base.tups,I.base.frzs,I.base.tbls⟩,⟨_,hn',fun j y v' e1 e2 e3=>?_⟩,fun y c e=>?_,I.free,I.freeC,fun p hp=>?_,tracked ⟨oL,hoL,I.free⟩ hs,by simpa using I.len⟩ ⟨_,hs,.inl rfl⟩
  ·exact (hs.2 b (Nat.ne_of_lt (Nat.lt_of_lt_of_le (Heap.lt_size e) I.ok.above))).trans (I.base.keep b o e n hb hx)
  ·obtain ⟨sl,e1⟩:=I.base.slot b o e n hb hx
   exact ⟨sl,(hs.2 b (Nat.ne_of_lt (Nat.lt_of_lt_of_le (Heap.lt_size e) I.ok.above))).trans e1⟩
  ·obtain ⟨o',e1⟩:=I.base.there b o e hx
   exact ⟨o',(hs.2 b (Nat.ne_of_lt (Nat.lt_of_lt_of_le (Heap.lt_size e) I.ok.above))).trans e1⟩
  ·by_cases hj:j=i
   ·subst hj
    rw [hi] at e1;cases e1
    rw [List.getElem?_set_self hiσ] at e2
    cases e2
    exact ⟨u,r,.inl ⟨hk,by simp⟩⟩
   ·rw [List.getElem?_set_ne (Ne.symm hj)] at e2
    obtain ⟨u',r',q⟩:=hl j y v' e1 e2 e3
    refine ⟨u',r',?_⟩
    rcases q with ⟨k,e⟩ | ⟨k,c,e,z⟩
    ·refine .inl ⟨k,?_⟩
     have:y≠x:=fun e=>hj (qof hN e1 (e ▸ hi))
     simp [this,e]
    ·exact .inr ⟨k,c,e,z.sameBut hs (cne y c e)⟩
  ·obtain ⟨w',z⟩:=I.cell y c e
   exact ⟨w',z.sameBut hs (cne y c e)⟩
  ·obtain ⟨e,n,ne,nf,d⟩:=I.pin p hp
   exact ⟨(hs.2 p.1 ne).trans e,n,ne,nf,d⟩
 ·have hfn:X.fn x=true:=by
   rcases hf with z | z
   ·exact z
   ·rw [z] at hk;cases hk
  obtain ⟨c,hc⟩:=I.ok.has x (.inl hk)
  obtain ⟨w',z⟩:=I.cell x c hc
  refine wpAny_storeName_cell I.ok.kind hk hc z (fun h' hc' hs=>?_)
  obtain ⟨oc,hoc,hocd⟩:=id z
  refine h { s with heap:=h' } ⟨I.ok,I.os,I.bare,⟨fun b o e n hb hx=>?_,fun b o e n hb hx=>?_,I.base.free,fun b o e hx=>?_,I.base.tups,I.base.frzs,I.base.tbls⟩,⟨m,hn.sameBut hs (Ne.symm (cne x c hc)),fun j y v' e1 e2 e3=>?_⟩,fun y c' e=>?_,I.free,I.freeC,fun p hp=>?_,tracked ⟨oc,hoc,I.freeC x c hc⟩ hs,by simpa using I.len⟩ ⟨c,hs,.inr hc⟩
  ·exact (hs.2 b (Nat.ne_of_lt (Nat.lt_of_lt_of_le (Heap.lt_size e) (I.ok.cab x c hfn hc)))).trans (I.base.keep b o e n hb hx)
  ·obtain ⟨sl,e1⟩:=I.base.slot b o e n hb hx
   exact ⟨sl,(hs.2 b (Nat.ne_of_lt (Nat.lt_of_lt_of_le (Heap.lt_size e) (I.ok.cab x c hfn hc)))).trans e1⟩
  ·obtain ⟨o',e1⟩:=I.base.there b o e hx
   exact ⟨o',(hs.2 b (Nat.ne_of_lt (Nat.lt_of_lt_of_le (Heap.lt_size e) (I.ok.cab x c hfn hc)))).trans e1⟩
  ·by_cases hj:j=i
   ·subst hj
    rw [hi] at e1;cases e1
    rw [List.getElem?_set_self hiσ] at e2
    cases e2
    exact ⟨u,r,.inr ⟨.inl hk,c,hc,hc'⟩⟩
   ·rw [List.getElem?_set_ne (Ne.symm hj)] at e2
    obtain ⟨u',r',q⟩:=hl j y v' e1 e2 e3
    refine ⟨u',r',?_⟩
    rcases q with q | ⟨k,c',e,z'⟩
    ·exact .inl q
    ·refine .inr ⟨k,c',e,z'.sameBut hs ?_⟩
     rintro rfl
     exact hj (qof hN e1 (I.ok.inj _ _ _ e hc ▸ hi))
  ·by_cases hcc:c'=c
   ·subst hcc;exact ⟨_,hc'⟩
   ·obtain ⟨w2,z2⟩:=I.cell y c' e
    exact ⟨w2,z2.sameBut hs hcc⟩
  ·obtain ⟨e,n,ne,nf,d⟩:=I.pin p hp
   refine ⟨(hs.2 p.1 ?_).trans e,n,ne,nf,d⟩
   intro q
   rw [q,hoc] at e
   have q':oc=p.2:=Option.some.inj e
   exact d w' (by rw [← q'];exact hocd)
theorem qhd {M:Model}{A:Around}{E:Value→Shared→Prop}{i:Nat}{x:Str}{v:V}{u:Value}{Q:Unit→Shared→Prop} (I:Inv X pins σ H s) (hN:X.N.Nodup) (hi:X.N[i]?=some x) (hx:Loc X.env.scope x) (r:RelV v u)
  (h:∀ s',Inv X pins (σ.set i (some v)) H s'→Q () s') (hf:X.fn x=true∨X.env.scope.names.lookup x=some .local:=by first | exact .inl rfl | exact .inr rfl | assumption):wpAny M A (storeName X.env x u) Q E s :=
 qlj I hN hi hx r (fun s' I' _=>h s' I') hf
theorem Inv.call' {s':Shared}{ch:List Addr} (I:Inv X pins σ H s) (ho:s'.os=s.os) (u:Un (frs X.stack) ch H H' s.heap s'.heap) (hok:HOk X.prog X.w H' s'.heap) (hg:AllBare s'.gens)
  (hch:∀ b∈ch,(b∈X.ex∨X.s₀.heap.objs.size≤b)∧b≠X.env.locals∧(∀ x c,X.env.cells.lookup x=some c→c≠b)∧∀ p∈X.pn++pins,p.1≠b):Inv X pins σ H' s':=by
 obtain ⟨h',g',d',t',o'⟩:=s'
 have e:o'=s.os:=ho
 subst e
 exact I.call (g':=g') (t':=t') (d':=d') u hok hg hch
end
abbrev XK:=Value→Option Addr→Hp→Prop
abbrev St:=List (Option V)
abbrev VK:=V→Hp→Prop
abbrev TE:=St→Hp→VK→Prop
abbrev TT:=St→Hp→(Bool→Hp→Prop)→Prop
abbrev TA:=St→Hp→(List V→Hp→Prop)→Prop
structure Ends where
 nx:St→Hp→Prop
 rt:VK
 bk:St→Hp→Prop:=fun _ _=>False
 ct:St→Hp→Prop:=fun _ _=>False
abbrev TS:=Ends→St→Hp→Prop
def EP (X:Cx) (pins:List (Addr×Obj)) (σ:St) (Q:VK) (u:Value) (s':Shared):Prop:=∃ v H',Inv X pins σ H' s'∧RelV v u∧Q v H'
def TP (X:Cx) (pins:List (Addr×Obj)) (σ:St) (Q:Bool→Hp→Prop) (b:Bool) (s':Shared):Prop:=∃ H',Inv X pins σ H' s'∧Q b H'
def AP (X:Cx) (pins:List (Addr×Obj)) (σ:St) (Q:List V→Hp→Prop) (us:List Value) (s':Shared):Prop:=∃ vs H',Inv X pins σ H' s'∧Vals vs us∧Q vs H'
def SP (X:Cx) (pins:List (Addr×Obj)) (D:Ends) (f:Flow) (s':Shared):Prop :=
 match f with
 | .next=>∃ σ' H',Inv X pins σ' H' s'∧D.nx σ' H'
 | .brk=>∃ σ' H',Inv X pins σ' H' s'∧D.bk σ' H'
 | .cont=>∃ σ' H',Inv X pins σ' H' s'∧D.ct σ' H'
 | .ret u=>∃ v σ' H',Inv X pins σ' H' s'∧RelV v u∧D.rt v H'
def PE (X:Cx) (e:Expr) (t:TE):Prop :=
 ∀ (pins:List (Addr×Obj)) (s:Shared) (σ:St) (H:Hp) (Q:VK),Inv X pins σ H s→t σ H Q→wpAny (model X.prog X.w) X.A (eval e X.env) (EP X pins σ Q) X.xe s
def PT (X:Cx) (e:Expr) (t:TT):Prop :=
 ∀ (pins:List (Addr×Obj)) (s:Shared) (σ:St) (H:Hp) (Q:Bool→Hp→Prop),Inv X pins σ H s→t σ H Q→wpAny (model X.prog X.w) X.A (isTrue e X.env (eval e X.env)) (TP X pins σ Q) X.xe s
def PW (X:Cx) (e:Expr) (t:TT):Prop :=
 ∀ (whole:Sem Value) (pins:List (Addr×Obj)) (s:Shared) (σ:St) (H:Hp) (Q:Bool→Hp→Prop),Inv X pins σ H s→t σ H Q→wpAny (model X.prog X.w) X.A (isTrue e X.env whole) (TP X pins σ Q) X.xe s
theorem PW.pt {X:Cx}{e:Expr}{t:TT} (h:PW X e t):PT X e t:=h _
def PA (X:Cx) (es:List Expr) (t:TA):Prop :=
 ∀ (pos:Pos) (pins:List (Addr×Obj)) (s:Shared) (σ:St) (H:Hp) (Q:List V→Hp→Prop),Inv X pins σ H s→t σ H Q→wpAny (model X.prog X.w) X.A (spliced (backTo pos (starEach es X.env))) (AP X pins σ Q) X.xe s
def PS (X:Cx) (st:Stmt) (t:TS):Prop :=
 ∀ (pins:List (Addr×Obj)) (s:Shared) (σ:St) (H:Hp) (D:Ends),Inv X pins σ H s→t D σ H→wpAny (model X.prog X.w) X.A (exec st X.env) (SP X pins D) X.xe s
def PSs (X:Cx) (st:List Stmt) (t:TS):Prop :=
 ∀ (pins:List (Addr×Obj)) (s:Shared) (σ:St) (H:Hp) (D:Ends),Inv X pins σ H s→t D σ H→wpAny (model X.prog X.w) X.A (execs st X.env) (SP X pins D) X.xe s
theorem thn {α:Type}{t:Sem α}{Q Q':α→Shared→Prop}{M:Model}{A:Around}{E:Value→Shared→Prop}{s:Shared} (h:wpAny M A t Q E s) (hQ:∀ a s,Q a s→Q' a s):wpAny M A t Q' E s:=wpAny_mono h hQ fun _ _ x=>x
end L2
namespace L2
open PySem PySem.Spec PyProof.Rows
section
variable {X:Cx}
def tVar (i:Nat):TE:=fun σ H Q=>∃ v,σ[i]?=some (some v)∧Q v H
def tC (v:V):TE:=fun _ H Q=>Q v H
theorem qoc {i:Nat}{x:Str}{pos:Pos} (hN:X.N[i]?=some x) (hv:Vis X.env.scope x) (hd:(x == ("__debug__":Str))=false:=by decide) (hcd:(x == ("__classdict__":Str))=false:=by decide):PE X (.Name x pos) (tVar i):=by
 intro pins s σ H Q I h
 obtain ⟨v,e,h⟩:=h
 obtain ⟨m,hn,hl⟩:=I.loc
 obtain ⟨u,r,l⟩:=hl i x v hN e hv
 have fin:EP X pins σ Q u s:=⟨v,H,I,r,h⟩
 rcases l with ⟨hk,hm⟩ | ⟨hk,c,hc,hcell⟩
 ·exact wpAny_Name (wpAny_loadName_local I.ok.kind hk hn hm fin) hd
 ·rcases hk with hk | hk
  ·exact wpAny_Name (wpAny_loadName_cell I.ok.kind hk hc hcell fin) hd
  ·exact wpAny_Name (wpAny_loadName_free I.ok.kind hk hc hcell fin hcd) hd
theorem pe_int {i j pos}:PE X (.Constant (.int i) j pos) (tC (.int i)):=fun _ _ _ H _ I h=>wpAny_Constant_int ⟨.int i,H,I.tok _,⟨_,rfl⟩,h⟩
theorem pe_bl {b j pos}:PE X (.Constant (.bool b) j pos) (tC (.bl b)):=fun _ _ _ H _ I h=>Constant_bool ⟨.bl b,H,I,rfl,h⟩
theorem pe_str {x j pos}:PE X (.Constant (.str x) j pos) (tC (.str x)):=fun _ _ _ H _ I h=>Calls.Constant_str ⟨.str x,H,I.tok _,⟨_,rfl⟩,h⟩
def Gl (X:Cx) (x:Str):Prop:=X.env.kindOf x=some .globalImplicit
theorem qia {E:Value→Shared→Prop}{pins:List (Addr×Obj)}{s:Shared}{σ:St}{H:Hp}{x:Str}{u:Value}{pos:Pos}{Q:Value→Shared→Prop} (I:Inv X pins σ H s) (hg:Gl X x) (hm:X.mg x=some u) (h:Q u s)
  (hd:(x == ("__debug__":Str))=false:=by decide):wpAny (model X.prog X.w) X.A (eval (.Name x pos) X.env) Q E s :=
 Calls.Name_function_global I.ok.kind hg (Calls.loadGlobal_global (by rw [I.ok.glob];exact I.mod.glob.keeps I.bk) hm h) hd
theorem qoi {E:Value→Shared→Prop}{pins:List (Addr×Obj)}{s:Shared}{σ:St}{H:Hp}{x:Str}{u:Value}{pos:Pos}{Q:Value→Shared→Prop} (I:Inv X pins σ H s) (hg:Gl X x) (hm:X.mg x=none) (hv:bootBuiltins x=some u) (h:Q u s)
  (hn:x≠"__name__":=by decide) (hd:(x == ("__debug__":Str))=false:=by decide):wpAny (model X.prog X.w) X.A (eval (.Name x pos) X.env) Q E s:=by
 obtain ⟨mb,h1,h2⟩:=I.mod.blt
 exact Calls.Name_function_global I.ok.kind hg (Calls.loadGlobal_builtin (by rw [I.ok.glob];exact I.mod.glob.keeps I.bk) hm (by rw [I.ok.blt];exact h1.keeps I.bk) ((h2 x hn).trans hv) h) hd
theorem qd8 {x:Str}{v:V}{u:Value}{pos:Pos} (hg:Gl X x) (hm:X.mg x=some u) (r:RelV v u) (hd:(x == ("__debug__":Str))=false:=by decide):PE X (.Name x pos) (tC v) :=
 fun _ _ _ H _ I h=>qia I hg hm ⟨v,H,I,r,h⟩ hd
theorem pe_bltn {x:Str}{v:V}{u:Value}{pos:Pos} (hg:Gl X x) (hm:X.mg x=none) (hv:bootBuiltins x=some u) (r:RelV v u) (hn:x≠"__name__":=by decide) (hd:(x == ("__debug__":Str))=false:=by decide):PE X (.Name x pos) (tC v) :=
 fun _ _ _ H _ I h=>qoi I hg hm hv ⟨v,H,I,r,h⟩ hn hd
variable {a b:Expr}{ta tb:TE}{pos:Pos}
def PC (X:Cx) (op:CmpOp) (a b:Expr) (t:TE):Prop :=
 ∀ (pins:List (Addr×Obj)) (s:Shared) (σ:St) (H:Hp) (Q:VK),Inv X pins σ H s→t σ H Q →
  wpAny (model X.prog X.w) X.A (eval a X.env) (fun v s₁=>wpAny (model X.prog X.w) X.A (eval b X.env) (fun u s₂=>wpAny (model X.prog X.w) X.A (compareOp op v u) (EP X pins σ Q) X.xe s₂) X.xe s₁) X.xe s
theorem nobehind (b:Expr) {op:CmpOp} (h:op≠.In) (h2:op≠.NotIn):behindInMarks op b=false:=by
 have e1:(op == CmpOp.In)=false:=by cases op <;> first | rfl | exact absurd rfl h
 have e2:(op == CmpOp.NotIn)=false:=by cases op <;> first | rfl | exact absurd rfl h2
 cases b <;> simp [behindInMarks,e1,e2]
def tB (t:TE):TT:=fun σ H Q=>t σ H fun x H1=>∃ c,x=.bl c∧Q c H1
theorem pe_cmp {op:CmpOp}{t:TE} (h:PC X op a b t) (h1:behindInMarks op b=false:=by first | exact nobehind _ (by decide) (by decide) | rfl):PE X (.Compare a [op] [b] pos) t:=fun pins s σ H Q I hw=>wpAny_Compare1 (h pins s σ H Q I hw) h1
theorem qh0 {e:Expr}{t:TE} (h:PE X e t) (he:∀ whole,isTrue e X.env whole=(do let v ← whole;standAt e.pos;holding [v] (truthy v)):=by intro _;rfl):PT X e (tB t):=by
 intro pins s σ H Q I hw
 refine isTrue_plain (thn (h pins s σ H _ I hw) fun v s1 ⟨x,H1,I1,r1,q1⟩=>?_) (he _)
 obtain ⟨d,rfl,q⟩:=q1
 cases r1
 exact wpAny_truthy_bool ⟨H1,I1,q⟩
variable {tA tB':TT}{rest:List Expr}
def tAnd (t u:TT):TT:=fun σ H Q=>t σ H fun c H1=>if c=true then u σ H1 Q else Q false H1
def tOr (t u:TT):TT:=fun σ H Q=>t σ H fun c H1=>if c=true then Q true H1 else u σ H1 Q
def tNot (t:TT):TT:=fun σ H Q=>t σ H fun c H1=>Q (!c) H1
theorem pw_and1 (ha:PT X a tA):PW X (.BoolOp .And [a] pos) tA:=by
 intro wh pins s σ H Q I h
 refine isTrue_and (thn (ha pins s σ H Q I h) fun c s1 e=>?_)
 cases c with
 | true=>exact isTrue_and_nil e
 | false=>exact e
theorem pw_or1 (ha:PT X a tA):PW X (.BoolOp .Or [a] pos) tA:=by
 intro wh pins s σ H Q I h
 refine isTrue_or (thn (ha pins s σ H Q I h) fun c s1 e=>?_)
 cases c with
 | false=>exact isTrue_or_nil e
 | true=>exact e
theorem pw_and (ha:PT X a tA) (hb:PW X (.BoolOp .And (b::rest) pos) tB'):PW X (.BoolOp .And (a::b::rest) pos) (tAnd tA tB'):=by
 intro wh pins s σ H Q I h
 refine isTrue_and (thn (ha pins s σ H _ I h) fun c s1 ⟨H1,I1,q1⟩=>?_)
 cases c with
 | true=>exact hb wh pins s1 σ H1 Q I1 q1
 | false=>exact ⟨H1,I1,q1⟩
theorem pw_or (ha:PT X a tA) (hb:PW X (.BoolOp .Or (b::rest) pos) tB'):PW X (.BoolOp .Or (a::b::rest) pos) (tOr tA tB'):=by
 intro wh pins s σ H Q I h
 refine isTrue_or (thn (ha pins s σ H _ I h) fun c s1 ⟨H1,I1,q1⟩=>?_)
 cases c with
 | true=>exact ⟨H1,I1,q1⟩
 | false=>exact hb wh pins s1 σ H1 Q I1 q1
theorem qlv (ha:PT X a tA):PT X (.UnaryOp .Not a pos) (tNot tA):=by
 intro pins s σ H Q I h
 exact isTrue_not (ha pins s σ H (fun c H1=>Q (!c) H1) I h)
def tAndV (ta tb:TE):TE:=fun σ H Q=>ta σ H fun x H1=>∃ c,x=.bl c∧if c=true then tb σ H1 Q else Q (.bl false) H1
def tOrV (ta tb:TE):TE:=fun σ H Q=>ta σ H fun x H1=>∃ c,x=.bl c∧if c=true then Q (.bl true) H1 else tb σ H1 Q
def tNotV (ta:TE):TE:=fun σ H Q=>ta σ H fun x H1=>∃ c,x=.bl c∧Q (.bl (!c)) H1
theorem pe_one {op}{t:TE} (h:PE X a t):PE X (.BoolOp op [a] pos) t:=fun pins s σ H Q I hw=>BoolOp_one (h pins s σ H Q I hw)
theorem pe_and (ha:PE X a ta) (hb:PE X (.BoolOp .And (b::rest) pos) tb):PE X (.BoolOp .And (a::b::rest) pos) (tAndV ta tb):=by
 intro pins s σ H Q I h
 refine BoolOp_and (thn (ha pins s σ H _ I h) fun v s1 ⟨x,H1,I1,r1,q1⟩=>?_)
 obtain ⟨c,rfl,q1⟩:=q1
 cases r1
 refine wpAny_truthy_bool ?_
 cases c with
 | true=>exact hb pins s1 σ H1 Q I1 q1
 | false=>exact ⟨.bl false,H1,I1,rfl,q1⟩
theorem pe_or (ha:PE X a ta) (hb:PE X (.BoolOp .Or (b::rest) pos) tb):PE X (.BoolOp .Or (a::b::rest) pos) (tOrV ta tb):=by
 intro pins s σ H Q I h
 refine BoolOp_or (thn (ha pins s σ H _ I h) fun v s1 ⟨x,H1,I1,r1,q1⟩=>?_)
 obtain ⟨c,rfl,q1⟩:=q1
 cases r1
 refine wpAny_truthy_bool ?_
 cases c with
 | false=>exact hb pins s1 σ H1 Q I1 q1
 | true=>exact ⟨.bl true,H1,I1,rfl,q1⟩
theorem pe_not (ha:PE X a ta):PE X (.UnaryOp .Not a pos) (tNotV ta):=by
 intro pins s σ H Q I h
 refine UnaryOp_ (thn (ha pins s σ H _ I h) fun v s1 ⟨x,H1,I1,r1,q1⟩=>?_)
 obtain ⟨c,rfl,q1⟩:=q1
 cases r1
 exact not_of (wpAny_truthy_bool ⟨.bl (!c),H1,I1,rfl,q1⟩)
end
end L2
namespace L2
open PySem PySem.Spec PyProof.Rows
def SqL (K:PySem.W.Frag) (H:Hp) (a:Addr) (xs:List V):Prop :=
 Rd H a (.lst xs) ∨
  ∃ (o:Obj) (its:Array Value) (n:Nat),K.lookup a=some o∧o.cls=.type "list"∧o.dict=none∧o.data=.seq its n∧its.size≤sizeLine∧Vals xs its.toList
def SqT (K:PySem.W.Frag) (H:Hp) (a:Addr) (xs:List V):Prop :=
 Rd H a (.tup xs) ∨
  ∃ (o:Obj) (its:Array Value) (n:Nat),K.lookup a=some o∧o.cls=.type "tuple"∧o.data=.seq its n∧its.size≤sizeLine∧Vals xs its.toList
def absV:Value→Option V
 | .none=>some .non
 | .bool b=>some (.bl b)
 | .int i _=>some (.int i)
 | .str x _=>some (.str x)
 | .bytes b _=>some (.byt b)
 | .float b _=>some (.flt b)
 | .ref a=>some (.ref a)
 | .type n=>some (.ty n)
 | _=>none
theorem RelV.abs {x:V}{u:Value} (r:RelV x u):absV u=some x:=by
 cases x with
 | non=>cases r;rfl
 | bl _=>cases r;rfl
 | int _=>obtain ⟨t,rfl⟩:=r;rfl
 | str _=>obtain ⟨t,rfl⟩:=r;rfl
 | byt _=>obtain ⟨t,rfl⟩:=r;rfl
 | flt _=>obtain ⟨t,rfl⟩:=r;rfl
 | ref _=>cases r;rfl
 | ty _=>cases r;rfl
theorem RelV.inj {x y:V}{u:Value} (r:RelV x u) (q:RelV y u):x=y:=Option.some.inj (r.abs.symm.trans q.abs)
theorem Vals.inj:∀ {xs ys:List V}{us:List Value},Vals xs us→Vals ys us→xs=ys
 | _,_,_,.nil,.nil=>rfl
 | _,_,_,.cons r t,.cons r' t'=>by rw [r.inj r',Vals.inj t t']
section
variable {X:Cx}{pins:List (Addr×Obj)}{σ:St}{H:Hp}{s:Shared}{a:Addr}{xs ys:List V}
theorem SqL.of {K:PySem.W.Frag} (h:H a=some (.lst xs)):SqL K H a xs:=.inl (.inl h)
theorem SqT.of {K:PySem.W.Frag} (h:H a=some (.tup xs)):SqT K H a xs:=.inl (.inl h)
theorem Inv.list (I:Inv X pins σ H s) (h:SqL X.K H a xs):∃ its:List Value,Vals xs its∧PlainL s.heap a its.toArray∧xs.length≤sizeLine:=by
 rcases h with h | ⟨o,its,n,hk,hc,hd,hs,hz,r⟩
 ·obtain ⟨z,its,n,r,e⟩:=h.ok I.hok
  exact ⟨its,r,⟨_,n,e,rfl,rfl,rfl⟩,z⟩
 ·refine ⟨its.toList,r,⟨o,n,I.kIn a o hk,hc,hd,by simpa using hs⟩,?_⟩
  have e:=r.length
  simp only [Array.length_toList] at e
  omega
theorem Inv.tuple (I:Inv X pins σ H s) (h:SqT X.K H a xs):∃ its:List Value,Vals xs its∧IsTup s.heap a its.toArray∧xs.length≤sizeLine:=by
 rcases h with h | ⟨o,its,n,hk,hc,hs,hz,r⟩
 ·obtain ⟨z,its,r,p⟩:=h.ok I.hok
  exact ⟨its,r,p,z⟩
 ·refine ⟨its.toList,r,⟨o,I.kIn a o hk,hc,n,by simpa using hs⟩,?_⟩
  have e:=r.length
  simp only [Array.length_toList] at e
  omega
theorem Inv.list_inj (I:Inv X pins σ H s) (h:SqL X.K H a xs) (h':SqL X.K H a ys):xs=ys:=by
 obtain ⟨its,r,⟨o,n,e,_,_,d⟩,_⟩:=I.list h
 obtain ⟨its',r',⟨o',n',e',_,_,d'⟩,_⟩:=I.list h'
 rw [e] at e';cases e'
 rw [d] at d'
 injection d' with d1 _
 have:its=its':=by simpa using congrArg Array.toList d1
 subst this
 exact r.inj r'
theorem Inv.tuple_inj (I:Inv X pins σ H s) (h:SqT X.K H a xs) (h':SqT X.K H a ys):xs=ys:=by
 obtain ⟨its,r,⟨o,e,_,n,d⟩,_⟩:=I.tuple h
 obtain ⟨its',r',⟨o',e',_,n',d'⟩,_⟩:=I.tuple h'
 rw [e] at e';cases e'
 rw [d] at d'
 injection d' with d1 _
 have:its=its':=by simpa using congrArg Array.toList d1
 subst this
 exact r.inj r'
end
abbrev Cx.wish (X:Cx) (E:Value→Shared→Prop):Cx:={ X with xe:=E }
abbrev Cx.nox (X:Cx):Cx:=X.wish fun _ _=>False
theorem Cx.Ok.wish {X:Cx} (ok:X.Ok) (E:Value→Shared→Prop):(X.wish E).Ok :=
 ⟨ok.mod,ok.kind,ok.glob,ok.blt,ok.above,ok.inj,ok.has,ok.cab,ok.hd,ok.frames,ok.stk,ok.exf,ok.bs,ok.bsz,ok.noex,ok.exfs,ok.funs,ok.frf⟩
theorem Cx.Ok.unwish {X:Cx}{E:Value→Shared→Prop} (ok:(X.wish E).Ok):X.Ok :=
 ⟨ok.mod,ok.kind,ok.glob,ok.blt,ok.above,ok.inj,ok.has,ok.cab,ok.hd,ok.frames,ok.stk,ok.exf,ok.bs,ok.bsz,ok.noex,ok.exfs,ok.funs,ok.frf⟩
section
variable {X:Cx}{pins:List (Addr×Obj)}{σ:St}{H:Hp}{s:Shared}{E:Value→Shared→Prop}
theorem Inv.wish (I:Inv X pins σ H s) (E:Value→Shared→Prop):Inv (X.wish E) pins σ H s:=⟨I.ok.wish E,I.os,I.bare,I.base,I.loc,I.cell,I.free,I.freeC,I.pin,I.hok,I.len⟩
theorem Inv.unwish (I:Inv (X.wish E) pins σ H s):Inv X pins σ H s:=⟨I.ok.unwish,I.os,I.bare,I.base,I.loc,I.cell,I.free,I.freeC,I.pin,I.hok,I.len⟩
theorem SP.unwish {D:Ends}{f:Flow}{s':Shared} (h:SP (X.wish E) pins D f s'):SP X pins D f s':=by
 cases f with
 | next=>obtain ⟨σ',H',I,q⟩:=h;exact ⟨σ',H',I.unwish,q⟩
 | brk=>obtain ⟨σ',H',I,q⟩:=h;exact ⟨σ',H',I.unwish,q⟩
 | cont=>obtain ⟨σ',H',I,q⟩:=h;exact ⟨σ',H',I.unwish,q⟩
 | ret u=>obtain ⟨v,σ',H',I,r,q⟩:=h;exact ⟨v,σ',H',I.unwish,r,q⟩
theorem PSs.nox {st:List Stmt}{t:TS} (h:PSs X.nox st t):PSs X st t:=fun pins s σ H D I hw =>
 wpAny_mono (h pins s σ H D (I.wish _) hw) (fun _ _ q=>q.unwish) fun _ _ z=>False.elim z
end
section
variable {X:Cx}{st:Stmt}{rest:List Stmt}{t u:TS}{e:Expr}{te:TE}{pos:Pos}
def tNext:TS:=fun D σ H=>D.nx σ H
def tSeq (t u:TS):TS:=fun D σ H=>t { D with nx:=u D } σ H
theorem pss_nil:PSs X [] tNext:=fun _ _ σ H _ I h=>wpAny_execs_nil ⟨σ,H,I,h⟩
theorem qaq (h1:PS X st t) (h2:PSs X rest u):PSs X (st::rest) (tSeq t u):=by
 intro pins s σ H D I h
 refine wpAny_execs_cons (thn (h1 pins s σ H { D with nx:=u D } I h) fun f s1 q=>?_)
 cases f with
 | next =>
  obtain ⟨σ',H',I',q⟩:=q
  exact h2 pins s1 σ' H' D I' q
 | ret v=>exact q
 | brk=>exact q
 | cont=>exact q
theorem qas (h1:PS X st t):PSs X [st] t:=by
 intro pins s σ H D I h
 refine wpAny_execs_cons (thn (h1 pins s σ H D I h) fun f s1 q=>?_)
 cases f with
 | next=>exact wpAny_execs_nil q
 | ret v=>exact q
 | brk=>exact q
 | cont=>exact q
theorem Inv.quiet {pins:List (Addr×Obj)}{σ:St}{H:Hp}{s:Shared} (I:Inv X pins σ H s):interactive X.env=false:=by simp [interactive,I.ok.kind]
def tDrop (te:TE):TS:=fun D σ H=>te σ H fun _ H1=>D.nx σ H1
theorem qdt (he:PE X e te) (hs:swapsWith e none pos.line X.env=pure false:=by rfl):PS X (.Expr e pos) (tDrop te):=by
 intro pins s σ H D I h
 exact wpAny_Expr_any (thn (he pins s σ H _ I h) fun v s1 ⟨x,H1,I1,r1,q1⟩=>⟨σ,H1,I1,q1⟩) I.quiet hs
def tRet (te:TE):TS:=fun D σ H=>te σ H D.rt
theorem qe6 (he:PE X e te):PS X (.Return (some e) pos) (tRet te):=by
 intro pins s σ H D I h
 exact wpAny_Return_some (thn (he pins s σ H _ I h) fun v s1 ⟨x,H1,I1,r1,q1⟩=>⟨x,σ,H1,I1,r1,q1⟩)
def tIfS (c:TT) (t u:TS):TS:=fun D σ H=>c σ H fun b H1=>if b=true then t D σ H1 else u D σ H1
theorem qix {c:Expr}{a b:List Stmt}{tc:TT} (hc:PT X c tc) (ha:PSs X a t) (hb:PSs X b u):PS X (.If c a b pos) (tIfS tc t u):=by
 intro pins s σ H D I h
 refine wpAny_If (thn (hc pins s σ H _ I h) fun d s1 ⟨H1,I1,q1⟩=>?_)
 cases d with
 | true=>exact ha pins s1 σ H1 D I1 q1
 | false=>exact hb pins s1 σ H1 D I1 q1
end
abbrev TG:=V→St→Hp→(St→Hp→Prop)→Prop
abbrev TGs:=List V→St→Hp→(St→Hp→Prop)→Prop
def PG (X:Cx) (target:Expr) (t:TG):Prop :=
 ∀ (pins:List (Addr×Obj)) (s:Shared) (σ:St) (H:Hp) (v:V) (u:Value) (Q:St→Hp→Prop),Inv X pins σ H s→RelV v u→t v σ H Q →
  wpAny (model X.prog X.w) X.A (assign target X.env u) (fun _ s'=>∃ σ' H',Inv X pins σ' H' s'∧Q σ' H') X.xe s
def PGs (X:Cx) (ts:List Expr) (t:TGs):Prop :=
 ∀ (pins:List (Addr×Obj)) (s:Shared) (σ:St) (H:Hp) (vs:List V) (us:List Value) (Q:St→Hp→Prop),Inv X pins σ H s→Vals vs us→t vs σ H Q →
  wpAny (model X.prog X.w) X.A (assignInOrder ((assignEach ts X.env).map (·.2)) us) (fun _ s'=>∃ σ' H',Inv X pins σ' H' s'∧Q σ' H') X.xe s
abbrev TSet:=V→V→V→Hp→(Hp→Prop)→Prop
def PSet (X:Cx) (t:TSet):Prop :=
 ∀ (pins:List (Addr×Obj)) (s:Shared) (σ:St) (H:Hp) (o i v:V) (ov iv u:Value) (Q:Hp→Prop),Inv X pins σ H s→RelV o ov→RelV i iv→RelV v u→t o i v H Q →
  wpAny (model X.prog X.w) X.A (setItem ov iv u) (fun _ s'=>∃ H',Inv X pins σ H' s'∧Q H') X.xe s
section
variable {X:Cx}{pos:Pos}
def gName (i:Nat):TG:=fun v σ H Q=>Q (σ.set i (some v)) H
theorem pg_name {i:Nat}{x:Str} (hN:X.N.Nodup) (hi:X.N[i]?=some x) (hx:Loc X.env.scope x) (hf:X.fn x=true∨X.env.scope.names.lookup x=some .local:=by first | exact .inl rfl | exact .inr rfl | assumption):PG X (.Name x pos) (gName i):=by
 intro pins s σ H v u Q I r h
 exact wpAny_assign_Name (qhd I hN hi hx r (fun s' I'=>⟨_,H,I',h⟩) hf)
def gNil:TGs:=fun vs σ H Q=>vs=[]∧Q σ H
def gCons (t:TG) (u:TGs):TGs:=fun vs σ H Q=>∃ v r,vs=v::r∧t v σ H fun σ' H'=>u r σ' H' Q
theorem pgs_nil:PGs X [] gNil:=by
 intro pins s σ H vs us Q I r h
 obtain ⟨e,h⟩:=h
 subst e
 cases r
 exact assignInOrder_nil ⟨σ,H,I,h⟩
theorem pgs_cons {e:Expr}{es:List Expr}{t:TG}{u:TGs} (h1:PG X e t) (h2:PGs X es u)
  (hs:(assignEach (e::es) X.env).map (·.2)=assign e X.env::(assignEach es X.env).map (·.2):=by rfl):PGs X (e::es) (gCons t u):=by
 intro pins s σ H vs us Q I r h
 obtain ⟨v,vr,e1,h⟩:=h
 subst e1
 cases r with
 | cons r rr =>
  rw [hs]
  refine assignInOrder_cons (thn (h1 pins s σ H _ _ _ I r h) fun _ s1 ⟨σ1,H1,I1,q1⟩=>?_)
  exact h2 pins s1 σ1 H1 _ _ Q I1 rr q1
def gTup (K:PySem.W.Frag) (n:Nat) (t:TGs):TG:=fun v σ H Q=>∃ a xs,v=.ref a∧SqT K H a xs∧xs.length=n∧t xs σ H Q
theorem pg_tup {es:List Expr}{k:Nat}{t:TGs}{n:Nat} (hc:X.calm=true) (h:PGs X es t)
  (hn:(assignEach es X.env).length=n:=by rfl) (hst:(assignEach es X.env).findIdx? (·.1)=none:=by rfl):PG X (.Tuple es k pos) (gTup X.K n t):=by
 intro pins s σ H v u Q I r hw
 obtain ⟨a,xs,e1,hq,hl,hw⟩:=hw
 subst e1
 cases r
 obtain ⟨its,rv,ht,hz⟩:=I.tuple hq
 refine assign_Tuple_tuple (I.ok.hd hc) ht (by simp [hn,← hl,rv.length]) hst fun h' hx=>?_
 have I1:Inv X pins σ H { s with heap:=h' }:=I.kept (t':=s.toks) fun b o e=>hx b o (Nat.ne_of_lt (Heap.lt_size e)) e
 exact h pins _ σ H xs _ Q I1 (by simpa using rv) hw
def gSub (to ti:TE) (t:TSet):TG:=fun v σ H Q=>to σ H fun o H1=>ti σ H1 fun i H2=>t o i v H2 fun H3=>Q σ H3
theorem pg_sub {o i:Expr}{to ti:TE}{t:TSet} (ho:PE X o to) (hi:PE X i ti) (hs:PSet X t)
  (ha:∀ v,assign (.Subscript o i pos) X.env v=(do
   let ov ← holding [v] (eval o X.env)
   let iv ← holding [v,ov] (eval i X.env)
   standAt pos
   holding [v,ov,iv] (setItem ov iv v)
   release [v,ov,iv] []):=by intro _;rfl):PG X (.Subscript o i pos) (gSub to ti t):=by
 intro pins s σ H v u Q I r h
 rw [ha]
 refine wpAny_bind (wpAny_holding (thn (ho pins s σ H _ I h) fun ov s1 ⟨x,H1,I1,r1,q1⟩=>?_))
 refine wpAny_bind (wpAny_holding (thn (hi pins s1 σ H1 _ I1 q1) fun iv s2 ⟨y,H2,I2,r2,q2⟩=>?_))
 refine wpAny_bind (wpAny_standAt (wpAny_bind (wpAny_holding (thn (hs pins s2 σ H2 x y v ov iv u _ I2 r1 r2 r q2) fun _ s3 ⟨H3,I3,q3⟩=>?_))))
 exact wpAny_release ⟨σ,H3,I3,q3⟩
def tAsg (te:TE) (g:TG):TS:=fun D σ H=>te σ H fun x H1=>g x σ H1 D.nx
theorem ps_asg {tg e:Expr}{te:TE}{g:TG} (he:PE X e te) (hg:PG X tg g) (hs:swapsWithSole [tg] e pos.line X.env=pure false:=by rfl) (hw:swappedStores [tg] e X.env=pure none:=by rfl)
  (h1:(assignEach [tg] X.env).map (·.2)=[assign tg X.env]:=by rfl):PS X (.Assign [tg] e pos) (tAsg te g):=by
 intro pins s σ H D I h
 refine wpAny_Assign_stores (thn (he pins s σ H _ I h) fun v s1 ⟨x,H1,I1,r1,q1⟩=>?_) hs hw
 rw [h1]
 exact thn (hg pins s1 σ H1 x v _ I1 r1 q1) fun _ s2 q=>q
theorem qe5 {i:Nat}{x:Str}{e:Expr}{te:TE}{pos':Pos} (hN:X.N.Nodup) (hi:X.N[i]?=some x) (hx:Loc X.env.scope x) (he:PE X e te) (hs:swapsWith e (some (.Name x pos')) pos.line X.env=pure false:=by rfl) (hf:X.fn x=true∨X.env.scope.names.lookup x=some .local:=by first | exact .inl rfl | exact .inr rfl | assumption) :
  PS X (.Assign [.Name x pos'] e pos) (tAsg te (gName i)):=by
 intro pins s σ H D I h
 refine wpAny_Assign_Name (thn (he pins s σ H _ I h) fun v s1 ⟨y,H1,I1,r1,q1⟩=>?_) hs
 exact qhd I1 hN hi hx r1 (fun s2 I2=>⟨_,H1,I2,q1⟩) hf
def tPar (i j:Nat) (ta:TA):TS:=fun D σ H=>ta σ H fun vs H1=>∃ v w,vs=[v,w]∧D.nx ((σ.set i (some v)).set j (some w)) H1
theorem ps_par {i j:Nat}{x y:Str}{a b:Expr}{ta:TA}{px py pt:Pos}{kt k2 pt2} (hc:X.calm=true) (hN:X.N.Nodup) (hi:X.N[i]?=some x) (hj:X.N[j]?=some y) (hij:i≠j)
  (hx:X.env.scope.names.lookup x=some .local) (hy:X.env.scope.names.lookup y=some .local) (ha:PA X [a,b] ta)
  (hw:swappedStores [.Tuple [.Name x px,.Name y py] kt pt] (.Tuple [a,b] k2 pt2) X.env=pure (some [x,y]))
  (hs:swapsWithSole [.Tuple [.Name x px,.Name y py] kt pt] (.Tuple [a,b] k2 pt2) pos.line X.env=pure false:=by rfl) :
  PS X (.Assign [.Tuple [.Name x px,.Name y py] kt pt] (.Tuple [a,b] k2 pt2) pos) (tPar i j ta):=by
 intro pins s σ H D I h
 rw [exec_Assign_arm]
 refine wpAny_bind (wpAny_standAt ?_)
 rw [hs]
 refine wpAny_bind (wpAny_pure ?_)
 rw [if_neg (by decide)]
 refine wpAny_bind (Tuple_ (thn (ha _ pins s σ H _ I h) fun us s1 ⟨vs,H1,I1,r1,q1⟩=>?_))
 obtain ⟨v,w,e1,q1⟩:=q1
 subst e1
 obtain ⟨u1,u2,rfl,rv,rw'⟩:∃ u1 u2,us=[u1,u2]∧RelV v u1∧RelV w u2:=by
  cases r1 with
  | cons p q =>
   cases q with
   | cons p' q' =>
    cases q'
    exact ⟨_,_,rfl,p,p'⟩
 refine wpAny_newObj_type ?_ (by show 2≤sizeLine;decide)
 have I2:Inv X pins σ H1 { s1 with heap:=s1.heap.push { cls:=.type "tuple",data:=.seq [u1,u2].toArray } }:=I1.kept (t':=s1.toks) fun b o e=>Heap.get?_push_of_some _ e
 rw [hw]
 refine wpAny_bind (wpAny_pure ?_)
 show wpAny (model X.prog X.w) X.A (do rule "assign.swapped-stores";let items ← unpackItems (.ref s1.heap.objs.size) 2 none;assignInOrder [fun v=>bindName X.env y v,fun v=>bindName X.env x v] items.reverse;pure Flow.next) _ _ _
 refine wpAny_bind (wpAny_rule (wpAny_bind (unpackItems_tuple (items:=#[u1,u2]) (I.ok.hd hc) (IsTup.new s1.heap _) fun h' hx'=>?_)))
 have I3:=I2.kept (h':=h') (t':=s1.toks) fun b o e=>hx' b o (Nat.ne_of_lt (Heap.lt_size e)) e
 show wpAny _ _ (assignInOrder [fun v=>bindName X.env y v,fun v=>bindName X.env x v] [u2,u1] >>= fun _=>pure Flow.next) _ _ _
 refine wpAny_bind (assignInOrder_cons (wpAny_bindName (qhd I3 hN hj (.inl hy) rw' (fun s2 I4=>?_) (.inr hy))))
 refine assignInOrder_cons (wpAny_bindName (qhd I4 hN hi (.inl hx) rv (fun s3 I5=>assignInOrder_nil (wpAny_pure ?_)) (.inr hx)))
 rw [List.set_comm _ _ (Ne.symm hij)] at I5
 exact ⟨_,H1,I5,q1⟩
end
section
variable {X:Cx}{pos:Pos}
def tWhile (c:TT) (tb:TS):TS:=fun D σ H=>∃ W:Nat→St→Hp→Prop,(∃ m,W m σ H)∧∀ m σ H,W m σ H →
 c σ H fun b H1=>if b=true then ∃ N:St→Hp→Prop,(∀ σ' H',N σ' H'→∃ m',m' < m∧W m' σ' H')∧tb { D with nx:=N,ct:=N,bk:=D.nx } σ H1 else D.nx σ H1
theorem qoa {c:Expr}{body:List Stmt}{tc:TT}{tb:TS} (hp:PassesOwn (model X.prog X.w) X.A X.env X.xe) (hc:PT X c tc) (hb:PSs X body tb):PS X (.While c body [] pos) (tWhile tc tb):=by
 intro pins s σ H D I h
 obtain ⟨W,⟨m0,w0⟩,turn⟩:=h
 refine wpAny_While (codeAny_whileLoop (fun n s'=>∃ σ' H',Inv X pins σ' H' s'∧W n σ' H') ?_ m0 ⟨σ,H,I,w0⟩)
 rintro n s1 ⟨σ1,H1,I1,w1⟩
 refine wpAny_passesOwn hp (thn (hc pins s1 σ1 H1 _ I1 (turn n σ1 H1 w1)) fun b s2 ⟨H2,I2,q2⟩=>?_)
 cases b with
 | true =>
  obtain ⟨N,hN,q2⟩:=q2
  rw [if_pos rfl]
  refine wpAny_passesOwn hp (thn (hb pins s2 σ1 H2 _ I2 q2) fun f s3 q3=>?_)
  cases f with
  | next =>
   obtain ⟨σ3,H3,I3,n3⟩:=q3
   obtain ⟨m',hm,w3⟩:=hN σ3 H3 n3
   exact ⟨m',hm,σ3,H3,I3,w3⟩
  | cont =>
   obtain ⟨σ3,H3,I3,n3⟩:=q3
   obtain ⟨m',hm,w3⟩:=hN σ3 H3 n3
   exact ⟨m',hm,σ3,H3,I3,w3⟩
  | brk=>exact q3
  | ret v=>exact q3
 | false =>
  rw [if_neg Bool.false_ne_true]
  exact wpAny_execs_nil ⟨σ1,H2,I2,q2⟩
end
structure It where
 go:Nat→Hp→Prop
 yld:Nat→Hp→V→Hp→Prop
 stop:Nat→Hp→Prop
def FpOk (X:Cx) (pins:List (Addr×Obj)) (H:Hp) (b:Addr):Prop :=
 H b=none∧b≠X.env.locals∧b∉X.fs∧(b∈X.ex∨X.s₀.heap.objs.size≤b)∧(∀ x c,X.env.cells.lookup x=some c→c≠b)∧∀ p∈X.pn++pins,p.1≠b
theorem Inv.fpOk {X:Cx}{pins:List (Addr×Obj)}{σ:St}{H H':Hp}{s:Shared}{b:Addr} (I:Inv X pins σ H s) (hb:s.heap.objs.size≤b) (hn:H' b=none):FpOk X pins H' b:=by
 refine ⟨hn,Nat.ne_of_gt (Nat.lt_of_lt_of_le I.lt hb),I.nofs hb,.inr (Nat.le_trans I.sz hb),fun x c e z=>?_,fun p hp z=>?_⟩
 ·obtain ⟨v,q⟩:=I.cell x c e
  exact absurd (Nat.lt_of_lt_of_le q.lt (by rw [z];exact hb)) (Nat.lt_irrefl _)
 ·exact absurd (Nat.lt_of_lt_of_le (Heap.lt_size (I.pin p hp).1) (by rw [z];exact hb)) (Nat.lt_irrefl _)
structure Turn (P:Program) (w:World) (K:PySem.W.Frag) (tg:Expr) (J:It) (fp:List Addr) (it:Addr) (tn:Nat→Heap→Prop):Prop where
 mem:it∈fp
 obj:∀ i h,tn i h→∀ b∈fp,∃ o,h.get? b=some o∧∀ v,o.data≠.cell v
 keep:∀ i h h',tn i h→(∀ b∈fp,∀ o,h.get? b=some o→h'.get? b=some o)→tn i h'
 item:∀ (X:Cx),X.prog=P→X.w=w→X.K=K→X.calm=true→∀ (i:Nat) (pins:List (Addr×Obj)) (s:Shared) (σ:St) (H:Hp) (E:Value→Shared→Prop),Inv X pins σ H s→(∀ b∈fp,FpOk X pins H b)→tn i s.heap→J.go i H →
  wpAny (model P w) X.A (pyNext (.ref it)) (fun r s1=>∃ u,r=some u ∧
   wpAny (model P w) X.A (letOwnedTupleGo tg (.ref it) u) (fun _ s2=>∃ x H',Inv X pins σ H' s2∧RelV x u∧J.yld i H x H'∧tn (i+1) s2.heap∧∀ b∈fp,H' b=none) E s1) E s
 done:∀ (X:Cx),X.prog=P→X.w=w→X.K=K→X.calm=true→∀ (i:Nat) (pins:List (Addr×Obj)) (s:Shared) (σ:St) (H:Hp) (E:Value→Shared→Prop),Inv X pins σ H s→(∀ b∈fp,FpOk X pins H b)→tn i s.heap→J.stop i H →
  wpAny (model P w) X.A (pyNext (.ref it)) (fun r s1=>r=none∧Inv X pins σ H s1) E s
 self:∀ (A:Around) (i:Nat) (s:Shared) (Q:Value→Shared→Prop) (E:Value→Shared→Prop),tn i s.heap→Q (.ref it) s→wpAny (model P w) A (pyIter (.ref it)) Q E s
abbrev TI:=St→Hp→(It→Hp→Prop)→Prop
def PIE (X:Cx) (pins:List (Addr×Obj)) (σ:St) (tg:Expr) (R:It→Hp→Prop) (itv:Value) (s2:Shared):Prop :=
 ∃ (it:Addr) (fp:List Addr) (tn:Nat→Heap→Prop) (J:It) (H':Hp),itv=.ref it∧Inv X pins σ H' s2∧Turn X.prog X.w X.K tg J fp it tn∧tn 0 s2.heap∧(∀ b∈fp,FpOk X pins H' b)∧R J H'
def PI (X:Cx) (tg iter:Expr) (wi:TI):Prop :=
 ∀ (pins:List (Addr×Obj)) (s:Shared) (σ:St) (H:Hp) (R:It→Hp→Prop),Inv X pins σ H s→wi σ H R →
  wpAny (model X.prog X.w) X.A (eval iter X.env) (fun v s1=>wpAny (model X.prog X.w) X.A (pyIter v) (PIE X pins σ tg R) X.xe s1) X.xe s
theorem go_of {M:Model}{A:Around}{E:Value→Shared→Prop}{s:Shared}{tg:Expr}{it:Addr}{u:Value}{o:Obj}{n:String}{vs:Array Value}{Q:Unit→Shared→Prop} (ho:s.heap.get? it=some o) (hc:o.cls=.type n) (hd:o.data=.fields vs)
  (hn:["enumerate","zip","dict_itemiterator","dict_reverseitemiterator","odict_iterator","itertools.zip_longest","itertools.pairwise"].contains n=false) (hQ:Q () s):wpAny M A (letOwnedTupleGo tg (.ref it) u) Q E s:=by
 unfold letOwnedTupleGo
 cases tg <;> first
  | exact wpAny_pure hQ
  | (cases u <;> first
    | exact wpAny_pure hQ
    | (refine wpAny_bind (wpAny_load ho ?_)
       rw [hc,hd]
       show wpAny M A (if (["enumerate","zip","dict_itemiterator","dict_reverseitemiterator","odict_iterator","itertools.zip_longest","itertools.pairwise"].contains n && vs[0]? == some (rawInt _))=true then _ else _) Q E s
       rw [if_neg (by intro h;rw [hn,Bool.false_and] at h;cases h)]
       exact wpAny_pure hQ))
def Itl (K:PySem.W.Frag) (a:Addr):It :=
 ⟨fun i H=>∃ xs x,SqL K H a xs∧xs[i]?=some x,fun i H x H'=>H'=H∧∀ xs,SqL K H a xs→xs[i]?=some x,fun i H=>∃ xs,SqL K H a xs∧xs.length≤i⟩
def Itt (K:PySem.W.Frag) (a:Addr):It :=
 ⟨fun i H=>∃ xs x,SqT K H a xs∧xs[i]?=some x,fun i H x H'=>H'=H∧∀ xs,SqT K H a xs→xs[i]?=some x,fun i H=>∃ xs,SqT K H a xs∧xs.length≤i⟩
def Itr (lo:Int) (n:Nat):It:=⟨fun i _=>i < n,fun i H x H'=>H'=H∧x=.int (lo+i),fun i _=>n≤i⟩
theorem qlh {P:Program}{w:World}{K:PySem.W.Frag}{tg:Expr} (a it:Addr):Turn P w K tg (Itl K a) [it] it (fun i h=>h.IsListIter it a i) where
 mem:=by simp
 obj:=fun i h st b hb=>by
  have e:b=it:=by simpa using hb
  subst e
  obtain ⟨o,e,c,d⟩:=st
  exact ⟨o,e,fun v z=>by rw [d] at z;cases z⟩
 keep:=fun i h h' st k=>st.at fun o e=>k it (by simp) o e
 item:=by
  intro X hP hw hK hc i pins s σ H E I hf st hg
  subst hP hw hK
  obtain ⟨xs,x,hq,hx⟩:=hg
  obtain ⟨its,rv,p,hz⟩:=I.list hq
  obtain ⟨u,hu,ru⟩:=rv.get hx
  obtain ⟨f0,f1,f2,f3,f4,f5⟩:=hf it (by simp)
  refine wpAny_pyNext_list_item st p.isList (x:=u) (by simpa using hu) fun h' st' sb=>?_
  have I1:Inv X pins σ H { s with heap:=h' }:=I.turned (t':=s.toks) (fun b o hb e=>(sb.2 b hb).trans e) f0 f1 f3 f4 f5
  obtain ⟨o,e,c,d⟩:=id st'
  exact ⟨u,rfl,go_of (s:={ s with heap:=h' }) e c d (by decide) ⟨x,H,I1,ru,⟨rfl,fun ys hy=>by rw [I.list_inj hy hq];exact hx⟩,st',fun b hb=>(hf b hb).1⟩⟩
 done:=by
  intro X hP hw hK hc i pins s σ H E I hf st hg
  subst hP hw hK
  obtain ⟨xs,hq,hx⟩:=hg
  obtain ⟨its,rv,p,hz⟩:=I.list hq
  obtain ⟨f0,f1,f2,f3,f4,f5⟩:=hf it (by simp)
  have hl:=rv.length
  exact wpAny_pyNext_list_end (I.ok.hd hc) st p.isList (by simp;omega) fun h' eb=>⟨rfl,I.turned (t':=s.toks) (fun b o hb e=>eb b o hb e) f0 f1 f3 f4 f5⟩
 self:=fun _ _ _ _ _ st h=>wpAny_pyIter_listiter st h
theorem turn_tuple {P:Program}{w:World}{K:PySem.W.Frag}{tg:Expr} (a it:Addr):Turn P w K tg (Itt K a) [it] it (fun i h=>h.IsTupleIter it a i) where
 mem:=by simp
 obj:=fun i h st b hb=>by
  have e:b=it:=by simpa using hb
  subst e
  obtain ⟨o,e,c,d⟩:=st
  exact ⟨o,e,fun v z=>by rw [d] at z;cases z⟩
 keep:=fun i h h' st k=>st.at fun o e=>k it (by simp) o e
 item:=by
  intro X hP hw hK hc i pins s σ H E I hf st hg
  subst hP hw hK
  obtain ⟨xs,x,hq,hx⟩:=hg
  obtain ⟨its,rv,p,hz⟩:=I.tuple hq
  obtain ⟨u,hu,ru⟩:=rv.get hx
  obtain ⟨f0,f1,f2,f3,f4,f5⟩:=hf it (by simp)
  refine wpAny_pyNext_tuple_item st (show s.heap.IsTuple a its.toArray from p) (x:=u) (by simpa using hu) fun h' st' sb=>?_
  have I1:Inv X pins σ H { s with heap:=h' }:=I.turned (t':=s.toks) (fun b o hb e=>(sb.2 b hb).trans e) f0 f1 f3 f4 f5
  obtain ⟨o,e,c,d⟩:=id st'
  exact ⟨u,rfl,go_of (s:={ s with heap:=h' }) e c d (by decide) ⟨x,H,I1,ru,⟨rfl,fun ys hy=>by rw [I.tuple_inj hy hq];exact hx⟩,st',fun b hb=>(hf b hb).1⟩⟩
 done:=by
  intro X hP hw hK hc i pins s σ H E I hf st hg
  subst hP hw hK
  obtain ⟨xs,hq,hx⟩:=hg
  obtain ⟨its,rv,p,hz⟩:=I.tuple hq
  obtain ⟨f0,f1,f2,f3,f4,f5⟩:=hf it (by simp)
  have hl:=rv.length
  exact wpAny_pyNext_tuple_end (I.ok.hd hc) st (show s.heap.IsTuple a its.toArray from p) (by simp;omega) fun h' eb=>⟨rfl,I.turned (t':=s.toks) (fun b o hb e=>eb b o hb e) f0 f1 f3 f4 f5⟩
 self:=fun _ _ _ _ _ st h=>wpAny_pyIter_tupleiter st h
theorem turn_range {P:Program}{w:World}{K:PySem.W.Frag}{tg:Expr} (it:Addr) (lo:Int) (n:Nat):Turn P w K tg (Itr lo n) [it] it (fun i h=>IsRangeIter h it (lo+(i:Nat) * 1) ((n:Int) - (i:Nat)) 1) where
 mem:=by simp
 obj:=fun i h st b hb=>by
  have e:b=it:=by simpa using hb
  subst e
  exact ⟨_,st,fun v z=>by
   have z':Data.fields _=Data.cell v:=z
   cases z'⟩
 keep:=fun i h h' st k=>k it (by simp) _ st
 item:=by
  intro X hP hw hK hc i pins s σ H E I hf st hg
  subst hP hw hK
  obtain ⟨f0,f1,f2,f3,f4,f5⟩:=hf it (by simp)
  have W:=Walks.range (prog:=X.prog) (w:=X.w) (I.ok.hd hc) it lo 1 n
  refine W.item i s _ _ hg st fun v h' tk hv st' kk=>?_
  obtain ⟨t,rfl⟩:=hv
  have I1:Inv X pins σ H { s with heap:=h',toks:=tk }:=I.turned (fun b o hb e=>kk b o (by simpa using hb) e) f0 f1 f3 f4 f5
  refine ⟨_,rfl,go_of (s:={ s with heap:=h',toks:=tk }) (n:="range_iterator") st' rfl rfl (by decide) ⟨.int (lo+i),H,I1,⟨t,?_⟩,⟨rfl,rfl⟩,st',fun b hb=>(hf b hb).1⟩⟩
  rw [Int.mul_one]
 done:=by
  intro X hP hw hK hc i pins s σ H E I hf st hg
  subst hP hw hK
  obtain ⟨f0,f1,f2,f3,f4,f5⟩:=hf it (by simp)
  exact wpAny_pyNext_range_end (I.ok.hd hc) st (by have:n≤i:=hg;omega) fun h' eb=>⟨rfl,I.turned (t':=s.toks) (fun b o hb e=>eb b o hb e) f0 f1 f3 f4 f5⟩
 self:=fun _ _ _ _ _ st h=>wpAny_pyIter_rangeiter st h
end L2
namespace L2
open PySem PySem.Spec PyProof.Rows
section
variable {X:Cx}{tg:Expr}
def iList (K:PySem.W.Frag) (tl:TE):TI:=fun σ H R=>tl σ H fun x H1=>∃ a,x=.ref a∧(∃ xs,SqL K H1 a xs)∧R (Itl K a) H1
theorem pi_list {l:Expr}{tl:TE} (hl:PE X l tl):PI X tg l (iList X.K tl):=by
 intro pins s σ H R I h
 refine thn (hl pins s σ H _ I h) fun v s1 ⟨x,H1,I1,r1,q1⟩=>?_
 obtain ⟨a,e,⟨xs,hq⟩,q⟩:=q1
 subst e
 cases r1
 obtain ⟨its,rv,p,hz⟩:=I1.list hq
 refine wpAny_pyIter_list p.isList ?_
 refine ⟨s1.heap.objs.size,[s1.heap.objs.size],_,_,H1,rfl,I1.kept (t':=s1.toks) fun b o e=>Heap.get?_push_of_some _ e,qlh a _,⟨_,Heap.get?_push_size _ rfl,rfl,rfl⟩,fun b hb=>?_,q⟩
 have e:b=s1.heap.objs.size:=by simpa using hb
 subst e
 exact I1.fpOk (Nat.le_refl _) (I1.hok.fresh (Nat.le_refl _))
theorem range_it {pins:List (Addr×Obj)}{σ:St}{H:Hp}{s:Shared}{R:It→Hp→Prop}{E:Value→Shared→Prop}{lo hi:Int}{t u v:Tok}{tk:Nat} (I:Inv X pins σ H s) (h1:-(2 ^ 62)≤lo) (h2:lo < 2 ^ 62) (h3:-(2 ^ 62)≤hi) (h4:hi < 2 ^ 62)
  (q:R (Itr lo (hi - lo).toNat) H):wpAny (model X.prog X.w) X.A (pyIter (.ref s.heap.objs.size)) (PIE X pins σ tg R) E { s with heap:=s.heap.push { cls:=.type "range",data:=.fields #[.int lo t,.int hi u,.int 1 v] },toks:=tk }:=by
 refine wpAny_pyIter_range (IsRange.new ..) (small_one h1 h2 h3 h4) ?_
 have I1:Inv X pins σ H { s with heap:=s.heap.push { cls:=.type "range",data:=.fields #[.int lo t,.int hi u,.int 1 v] },toks:=tk }:=I.kept fun b o e=>Heap.get?_push_of_some _ e
 refine ⟨(s.heap.push { cls:=.type "range",data:=.fields #[.int lo t,.int hi u,.int 1 v] }).objs.size,[(s.heap.push { cls:=.type "range",data:=.fields #[.int lo t,.int hi u,.int 1 v] }).objs.size],_,_,H,rfl,
  I1.kept (t':=tk) fun b o e=>Heap.get?_push_of_some _ e,turn_range _ lo (hi - lo).toNat,?_,fun b hb=>?_,q⟩
 ·have e1:lo+((0:Nat):Int) * 1=lo:=by simp
  have e2:(((hi - lo).toNat:Nat):Int) - ((0:Nat):Int)=Builtin.Range.rangeSize lo hi 1:=by rw [rangeSize_one];split <;> omega
  show IsRangeIter _ _ (lo+((0:Nat):Int) * 1) ((((hi - lo).toNat:Nat):Int) - ((0:Nat):Int)) 1
  rw [e1,e2]
  exact Heap.get?_push_size _ rfl
 ·have e:b=(s.heap.push { cls:=.type "range",data:=.fields #[.int lo t,.int hi u,.int 1 v] }).objs.size:=by simpa using hb
  subst e
  exact I1.fpOk (Nat.le_refl _) (I1.hok.fresh (Nat.le_refl _))
def iRng1 (ta:TA):TI:=fun σ H R=>ta σ H fun vs H1=>∃ j:Int,vs=[.int j]∧-(2 ^ 62)≤j∧j < 2 ^ 62∧R (Itr 0 j.toNat) H1
theorem pi_range1 {a:Expr}{ta:TA}{p pos:Pos} (hg:Gl X "range") (hm:X.mg "range"=none) (ha:PA X [a] ta) (hs:starEach [a] X.env=[(false,eval a X.env)]:=by rfl):PI X tg (.Call (.Name "range" p) [a] [] pos) (iRng1 ta):=by
 intro pins s σ H R I h
 refine Call_ (qoi I hg hm boot_range (PyProof.Rows.callWith_type1 (thn (ha pos pins s σ H _ I h) fun us s1 ⟨vs,H1,I1,r1,q1⟩=>?_) hs rfl))
 obtain ⟨j,e,q1,q2,q⟩:=q1
 subst e
 cases r1 with
 | cons r rr =>
  cases rr
  obtain ⟨t,rfl⟩:=r
  exact call_range_1 (range_it I1 (by omega) (by omega) q1 q2 (by simpa using q))
def tFor (wi:TI) (g:TG) (tb:TS):TS:=fun D σ H=>wi σ H fun J H1=>∃ W:Nat→Nat→St→Hp→Prop,(∃ m,W 0 m σ H1)∧∀ i m σ H,W i m σ H →
 (J.stop i H∧D.nx σ H)∨(J.go i H∧∃ N:St→Hp→Prop,(∀ σ' H',N σ' H'→∃ m',m' < m∧W (i+1) m' σ' H')∧∀ x H',J.yld i H x H'→g x σ H' fun σ2 H2=>tb { D with nx:=N,ct:=N,bk:=D.nx } σ2 H2)
def qlz (fp:List Addr) (h:Heap):List (Addr×Obj):=fp.filterMap fun b=>(h.get? b).map fun o=>(b,o)
theorem qey {fp:List Addr}{h:Heap}{b:Addr}{o:Obj} (hb:b∈fp) (e:h.get? b=some o):(b,o)∈qlz fp h:=List.mem_filterMap.mpr ⟨b,hb,by rw [e];rfl⟩
theorem of_pinsAt {fp:List Addr}{h:Heap}{p:Addr×Obj} (hp:p∈qlz fp h):p.1∈fp∧h.get? p.1=some p.2:=by
 obtain ⟨b,hb,e⟩:=List.mem_filterMap.mp hp
 cases q:h.get? b with
 | none=>rw [q] at e;cases e
 | some o =>
  rw [q] at e
  have e':(b,o)=p:=Option.some.inj e
  subst e'
  exact ⟨hb,q⟩
theorem Inv.pinned {pins:List (Addr×Obj)}{σ:St}{H:Hp}{s:Shared}{fp:List Addr} (I:Inv X pins σ H s) (hf:∀ b∈fp,FpOk X pins H b) (ho:∀ b∈fp,∃ o,s.heap.get? b=some o∧∀ v,o.data≠.cell v):Inv X (pins++qlz fp s.heap) σ H s :=
 I.pins_of fun p hp=>(List.mem_append.mp hp).elim (fun z=>I.pin p (List.mem_append_right _ z)) fun z=>by
  obtain ⟨hb,e⟩:=of_pinsAt z
  obtain ⟨f0,f1,f2,_⟩:=hf p.1 hb
  obtain ⟨o,e',d⟩:=ho p.1 hb
  rw [e] at e';cases e'
  exact ⟨e,f0,f1,f2,d⟩
theorem Inv.unpinned {pins pl:List (Addr×Obj)}{σ:St}{H:Hp}{s:Shared} (I:Inv X (pins++pl) σ H s):Inv X pins σ H s:=I.pins_of fun p hp=>I.pin p (List.mem_append_right _ (List.mem_append_left _ hp))
theorem ps_for {iter:Expr}{body:List Stmt}{wi:TI}{g:TG}{tb:TS}{pos:Pos} (hp:PassesOwn (model X.prog X.w) X.A X.env X.xe) (hc:X.calm=true) (hi:PI X tg iter wi) (hg:PG X tg g) (hb:PSs X body tb)
  (hs:∀ x,foldedSetIterable iter X.env x=pure x:=by intro _;rfl):PS X (.For tg iter body [] pos) (tFor wi g tb):=by
 intro pins s σ H D I h
 refine wpAny_For (thn (hi pins s σ H _ I h) fun v s1 h1=>thn h1 fun itv s2 h2=>?_) hs
 obtain ⟨it,fp,tn,J,H2,e,I2,T,st2,f2,W,⟨m0,w0⟩,turn⟩:=h2
 subst e
 have stat:∀ {H':Hp},(∀ b∈fp,H' b=none)→∀ b∈fp,FpOk X pins H' b:=fun hn b hb=>⟨hn b hb,(f2 b hb).2⟩
 refine codeAny_forLoop_any (fun n s'=>∃ i σ' H',Inv X pins σ' H' s'∧tn i s'.heap∧(∀ b∈fp,H' b=none)∧W i n σ' H') ?_ m0 ⟨0,σ,H2,I2,st2,fun b hb=>(f2 b hb).1,w0⟩
 rintro n s3 ⟨i,σ3,H3,I3,st3,fr3,w3⟩
 rcases turn i n σ3 H3 w3 with ⟨stop,qn⟩ | ⟨go,N,hN,step⟩
 ·refine wpAny_passesOwn hp (thn (T.done X rfl rfl rfl hc i pins s3 σ3 H3 X.xe I3 (stat fr3) st3 stop) fun r s4 ⟨hr,I4⟩=>?_)
  subst hr
  exact wpAny_execs_nil ⟨σ3,H3,I4,qn⟩
 ·refine wpAny_passesOwn hp (thn (T.item X rfl rfl rfl hc i pins s3 σ3 H3 X.xe I3 (stat fr3) st3 go) fun r s4 ⟨u,hr,h4⟩=>?_)
  subst hr
  refine wpAny_passesOwn hp (thn h4 fun _ s5 ⟨x,H5,I5,r5,y5,st5,fr5⟩=>?_)
  have I5':=I5.pinned (stat fr5) (T.obj _ _ st5)
  refine wpAny_passesOwn hp (thn (hg _ s5 σ3 H5 x u _ I5' r5 (step x H5 y5)) fun _ s6 ⟨σ6,H6,I6,q6⟩=>?_)
  refine wpAny_passesOwn hp (thn (hb _ s6 σ6 H6 _ I6 q6) fun f s7 q7=>?_)
  have again:∀ {σ7:St}{H7:Hp},Inv X (pins++qlz fp s5.heap) σ7 H7 s7→N σ7 H7→∃ m,m < n∧∃ i σ' H',Inv X pins σ' H' s7∧tn i s7.heap∧(∀ b∈fp,H' b=none)∧W i m σ' H':=fun {σ7 H7} I7 n7=>by
   obtain ⟨m',hm,w7⟩:=hN σ7 H7 n7
   refine ⟨m',hm,i+1,σ7,H7,I7.unpinned,T.keep _ _ _ st5 fun b hb o e=>(I7.pin (b,o) (List.mem_append_right _ (List.mem_append_right _ (qey hb e)))).1,fun b hb=>?_,w7⟩
   obtain ⟨o,e,d⟩:=T.obj _ _ st5 b hb
   exact (I7.pin (b,o) (List.mem_append_right _ (List.mem_append_right _ (qey hb e)))).2.1
  cases f with
  | next=>obtain ⟨σ7,H7,I7,n7⟩:=q7;exact again I7 n7
  | cont=>obtain ⟨σ7,H7,I7,n7⟩:=q7;exact again I7 n7
  | brk=>obtain ⟨σ7,H7,I7,q7⟩:=q7;exact ⟨σ7,H7,I7.unpinned,q7⟩
  | ret v=>obtain ⟨x7,σ7,H7,I7,r7,q7⟩:=q7;exact ⟨x7,σ7,H7,I7.unpinned,r7,q7⟩
end
end L2
namespace L2
open PySem PySem.Spec PyProof.Rows
abbrev R2:=V→V→Hp→VK→Prop
def OpR (X:Cx) (f:Value→Value→Sem Value) (r:R2):Prop :=
 ∀ (pins:List (Addr×Obj)) (s:Shared) (σ:St) (H:Hp) (x y:V) (v u:Value) (Q:VK),Inv X pins σ H s→RelV x v→RelV y u→r x y H Q →
  wpAny (model X.prog X.w) X.A (f v u) (EP X pins σ Q) X.xe s
def UnR (X:Cx) (f:Value→Sem Value) (r:V→Hp→VK→Prop):Prop :=
 ∀ (pins:List (Addr×Obj)) (s:Shared) (σ:St) (H:Hp) (x:V) (v:Value) (Q:VK),Inv X pins σ H s→RelV x v→r x H Q →
  wpAny (model X.prog X.w) X.A (f v) (EP X pins σ Q) X.xe s
def CallR (X:Cx) (f:Value) (r:List V→Hp→VK→Prop):Prop :=
 ∀ (pins:List (Addr×Obj)) (s:Shared) (σ:St) (H:Hp) (xs:List V) (us:List Value) (Q:VK),Inv X pins σ H s→Vals xs us→r xs H Q →
  wpAny (model X.prog X.w) X.A (call f us) (EP X pins σ Q) X.xe s
def tOp (r:R2) (ta tb:TE):TE:=fun σ H Q=>ta σ H fun x H1=>tb σ H1 fun y H2=>r x y H2 Q
def tUn (r:V→Hp→VK→Prop) (ta:TE):TE:=fun σ H Q=>ta σ H fun x H1=>r x H1 Q
def rI (C:Int→Int→Prop) (g:Int→Int→V):R2:=fun x y H Q=>∃ i j,x=.int i∧y=.int j∧C i j∧Q (g i j) H
def rI0 (g:Int→Int→V):R2:=fun x y H Q=>∃ i j,x=.int i∧y=.int j∧Q (g i j) H
def rU (g:Int→V):V→Hp→VK→Prop:=fun x H Q=>∃ i,x=.int i∧Q (g i) H
section
variable {X:Cx}{a b c:Expr}{ta tb tc:TE}{pos:Pos}
theorem binT (ha:PE X a ta) (hb:PE X b tb) {pins:List (Addr×Obj)}{s:Shared}{σ:St}{H:Hp}{R:V→V→Hp→Prop} (I:Inv X pins σ H s)
  (h:ta σ H fun x H1=>tb σ H1 fun y H2=>R x y H2) {Q:Value→Shared→Prop}{f:Value→Value→Sem Value}
  (hf:∀ v u s2 x y H2,Inv X pins σ H2 s2→RelV x v→RelV y u→R x y H2→wpAny (model X.prog X.w) X.A (f v u) Q X.xe s2) :
  wpAny (model X.prog X.w) X.A (eval a X.env) (fun v s₁=>wpAny (model X.prog X.w) X.A (eval b X.env) (fun u s₂=>wpAny (model X.prog X.w) X.A (f v u) Q X.xe s₂) X.xe s₁) X.xe s:=by
 refine thn (ha pins s σ H _ I h) fun v s1 ⟨x,H1,I1,r1,q1⟩=>?_
 refine thn (hb pins s1 σ H1 _ I1 q1) fun u s2 ⟨y,H2,I2,r2,q2⟩=>?_
 exact hf v u s2 x y H2 I2 r1 r2 q2
theorem qgq {op:Operator}{r:R2} (ho:OpR X (binaryOp op) r) (ha:PE X a ta) (hb:PE X b tb):PE X (.BinOp a op b pos) (tOp r ta tb):=by
 intro pins s σ H Q I h
 exact wpAny_BinOp (binT ha hb I h fun v u s2 x y H2 I2 rx ry q=>ho pins s2 σ H2 x y v u Q I2 rx ry q)
theorem pe_un {op:UnaryOp}{r:V→Hp→VK→Prop} (ho:UnR X (unaryOp op) r) (ha:PE X a ta):PE X (.UnaryOp op a pos) (tUn r ta):=by
 intro pins s σ H Q I h
 exact UnaryOp_ (thn (ha pins s σ H _ I h) fun v s1 ⟨x,H1,I1,r1,q1⟩=>ho pins s1 σ H1 x v Q I1 r1 q1)
theorem opI {f:Value→Value→Sem Value}{C:Int→Int→Prop}{g:Int→Int→Int}
  (rule:∀ (i j:Int) (t u:Tok) (s:Shared) (Q:Value→Shared→Prop) (E:Value→Shared→Prop),C i j→Q (.int (g i j) s.toks) { s with toks:=s.toks+1 }→wpAny (model X.prog X.w) X.A (f (.int i t) (.int j u)) Q E s) :
  OpR X f (rI C fun i j=>.int (g i j)):=by
 intro pins s σ H x y v u Q I rx ry h
 obtain ⟨i,j,rfl,rfl,hc,q⟩:=h
 obtain ⟨t,rfl⟩:=rx
 obtain ⟨t',rfl⟩:=ry
 exact rule i j t t' s _ _ hc ⟨.int (g i j),H,I.tok _,⟨_,rfl⟩,q⟩
theorem opI0 {f:Value→Value→Sem Value}{g:Int→Int→Int}
  (rule:∀ (i j:Int) (t u:Tok) (s:Shared) (Q:Value→Shared→Prop) (E:Value→Shared→Prop),Q (.int (g i j) s.toks) { s with toks:=s.toks+1 }→wpAny (model X.prog X.w) X.A (f (.int i t) (.int j u)) Q E s) :
  OpR X f (rI0 fun i j=>.int (g i j)):=by
 intro pins s σ H x y v u Q I rx ry h
 obtain ⟨i,j,rfl,rfl,q⟩:=h
 obtain ⟨t,rfl⟩:=rx
 obtain ⟨t',rfl⟩:=ry
 exact rule i j t t' s _ _ ⟨.int (g i j),H,I.tok _,⟨_,rfl⟩,q⟩
theorem opB0 {f:Value→Value→Sem Value}{g:Int→Int→Bool}
  (rule:∀ (i j:Int) (t u:Tok) (s:Shared) (Q:Value→Shared→Prop) (E:Value→Shared→Prop),Q (.bool (g i j)) s→wpAny (model X.prog X.w) X.A (f (.int i t) (.int j u)) Q E s) :
  OpR X f (rI0 fun i j=>.bl (g i j)):=by
 intro pins s σ H x y v u Q I rx ry h
 obtain ⟨i,j,rfl,rfl,q⟩:=h
 obtain ⟨t,rfl⟩:=rx
 obtain ⟨t',rfl⟩:=ry
 exact rule i j t t' s _ _ ⟨.bl (g i j),H,I,rfl,q⟩
def CPow (i j:Int):Prop:=0≤j∧j≤1000000∧i.natAbs < 2 ^ 64
def CMul (i j:Int):Prop:=(-(2 ^ 64) < i∧i < 2 ^ 64)∨(-(2 ^ 64) < j∧j < 2 ^ 64)
theorem CMul.ok {i j:Int} (h:CMul i j):IntMulOk i j:=by
 rcases h with ⟨h1,h2⟩ | ⟨h1,h2⟩
 ·exact .of_left (intBits_le_64 h1 h2)
 ·exact .of_right (intBits_le_64 h1 h2)
theorem op_add:OpR X (binaryOp .Add) (rI0 fun i j=>.int (i+j)):=opI0 fun _ _ _ _ _ _ _ q=>add_int q
theorem op_sub:OpR X (binaryOp .Sub) (rI0 fun i j=>.int (i - j)):=opI0 fun _ _ _ _ _ _ _ q=>sub_int q
theorem op_mul:OpR X (binaryOp .Mult) (rI CMul fun i j=>.int (i * j)):=opI fun _ _ _ _ _ _ _ hc q=>mul_int q hc.ok
theorem op_mod:OpR X (binaryOp .Mod) (rI (fun _ j=>0 < j) fun i j=>.int (i % j)):=opI fun i j _ _ _ _ _ hc q=>by
 have h1:(0:Int) < j:=hc
 exact mod_int' (by omega) (by rw [Int.fmod_eq_emod_of_nonneg i (by omega)];exact q)
theorem op_pow:OpR X (binaryOp .Pow) (rI CPow fun i j=>.int (i ^ j.toNat)):=opI fun _ _ _ _ _ _ _ hc q=>pow_int_small hc.1 hc.2.1 hc.2.2 q
theorem unI {f:Value→Sem Value}{g:Int→Int}
  (rule:∀ (i:Int) (t:Tok) (s:Shared) (Q:Value→Shared→Prop) (E:Value→Shared→Prop),Q (.int (g i) s.toks) { s with toks:=s.toks+1 }→wpAny (model X.prog X.w) X.A (f (.int i t)) Q E s) :
  UnR X f (rU fun i=>.int (g i)):=by
 intro pins s σ H x v Q I rx h
 obtain ⟨i,rfl,q⟩:=h
 obtain ⟨t,rfl⟩:=rx
 exact rule i t s _ _ ⟨.int (g i),H,I.tok _,⟨_,rfl⟩,q⟩
theorem un_neg:UnR X (unaryOp .USub) (rU fun i=>.int (-i)):=unI fun _ _ _ _ _ q=>neg_int q
end
def scal:V→V→Bool
 | .non,.non=>true | .non,.int _=>true | .int _,.non=>true | .non,.bl _=>true | .bl _,.non=>true | .non,.str _=>true | .str _,.non=>true
 | .int _,.int _=>true | .bl _,.bl _=>true | .str _,.str _=>true | .byt _,.byt _=>true
 | .int _,.str _=>true | .str _,.int _=>true | .bl _,.str _=>true | .str _,.bl _=>true
 | _,_=>false
def rNe:R2:=fun x y H Q=>scal x y=true∧Q (.bl (!decide (x=y))) H
theorem dec_int {i j:Int}:decide (V.int i=V.int j)=(i == j):=by
 rw [Bool.eq_iff_iff]
 simp
theorem dec_bl {i j:Bool}:decide (V.bl i=V.bl j)=(i == j):=by
 rw [Bool.eq_iff_iff]
 simp
theorem dec_str {i j:Str}:decide (V.str i=V.str j)=(i == j):=by
 rw [Bool.eq_iff_iff]
 simp
theorem dec_byt {i j:Array UInt8}:decide (V.byt i=V.byt j)=(i.toList == j.toList):=by
 rw [Bool.eq_iff_iff]
 cases i
 cases j
 simp
section
variable {X:Cx}{a b c:Expr}{ta tb tc:TE}{pos:Pos}
theorem qdg {pins:List (Addr×Obj)}{σ:St}{H:Hp}{s:Shared}{Q:VK}{k k':Bool} (I:Inv X pins σ H s) (q:Q (.bl k) H) (e:k=k'):EP X pins σ Q (.bool k') s:=by
 subst e
 exact ⟨.bl k,H,I,rfl,q⟩
theorem op_ne:OpR X (compareOp .NotEq) rNe:=by
 intro pins s σ H x y v u Q I rx ry h
 obtain ⟨hs,q⟩:=h
 cases x with
 | non =>
  cases rx
  cases y with
  | non=>cases ry;exact PySem.EqNone.ne_none_none (qdg I q (by simp))
  | bl j=>cases ry;exact PySem.EqNone.ne_none_bool (qdg I q (by simp))
  | int j=>obtain ⟨t',rfl⟩:=ry;exact PySem.EqNone.ne_none_int (qdg I q (by simp))
  | str j=>obtain ⟨t',rfl⟩:=ry;exact PySem.EqNone.ne_none_str (qdg I q (by simp))
  | _=>exact absurd (show false=true from hs) Bool.false_ne_true
 | bl i =>
  cases rx
  cases y with
  | non=>cases ry;exact PySem.EqNone.ne_bool_none (qdg I q (by simp))
  | bl j=>cases ry;exact ne_bool (qdg I q (congrArg not dec_bl))
  | str j=>obtain ⟨t',rfl⟩:=ry;exact PySem.EqMixed.ne_bool_str (qdg I q (by simp))
  | _=>exact absurd (show false=true from hs) Bool.false_ne_true
 | int i =>
  obtain ⟨t,rfl⟩:=rx
  cases y with
  | non=>cases ry;exact PySem.EqNone.ne_int_none (qdg I q (by simp))
  | int j=>obtain ⟨t',rfl⟩:=ry;exact ne_int (qdg I q (congrArg not dec_int))
  | str j=>obtain ⟨t',rfl⟩:=ry;exact PySem.EqMixed.ne_int_str (qdg I q (by simp))
  | _=>exact absurd (show false=true from hs) Bool.false_ne_true
 | str i =>
  obtain ⟨t,rfl⟩:=rx
  cases y with
  | non=>cases ry;exact PySem.EqNone.ne_str_none (qdg I q (by simp))
  | bl j=>cases ry;exact PySem.EqMixed.ne_str_bool (qdg I q (by simp))
  | int j=>obtain ⟨t',rfl⟩:=ry;exact PySem.EqMixed.ne_str_int (qdg I q (by simp))
  | str j=>obtain ⟨t',rfl⟩:=ry;exact ne_str (qdg I q (congrArg not dec_str))
  | _=>exact absurd (show false=true from hs) Bool.false_ne_true
 | byt i =>
  obtain ⟨t,rfl⟩:=rx
  cases y with
  | byt j=>obtain ⟨t',rfl⟩:=ry;exact PySem.W.ne_bytes (qdg I q (congrArg not dec_byt))
  | _=>exact absurd (show false=true from hs) Bool.false_ne_true
 | _=>cases y <;> exact absurd (show false=true from hs) Bool.false_ne_true
theorem op_lt:OpR X (compareOp .Lt) (rI0 fun i j=>.bl (decide (i < j))):=opB0 fun _ _ _ _ _ _ _ q=>lt_int q
theorem op_le:OpR X (compareOp .LtE) (rI0 fun i j=>.bl (decide (i≤j))):=opB0 fun _ _ _ _ _ _ _ q=>le_int q
theorem op_gt:OpR X (compareOp .Gt) (rI0 fun i j=>.bl (decide (j < i))):=opB0 fun _ _ _ _ _ _ _ q=>gt_int q
theorem op_ge:OpR X (compareOp .GtE) (rI0 fun i j=>.bl (decide (j≤i))):=opB0 fun _ _ _ _ _ _ _ q=>ge_int q
theorem OpR.or {f:Value→Value→Sem Value}{r r':R2} (h:OpR X f r) (h':OpR X f r'):OpR X f (fun x y H Q=>r x y H Q∨r' x y H Q):=by
 intro pins s σ H x y v u Q I rx ry q
 rcases q with q | q
 ·exact h pins s σ H x y v u Q I rx ry q
 ·exact h' pins s σ H x y v u Q I rx ry q
theorem qci (b:Expr) {op:CmpOp} (h:op≠.In:=by decide) (h2:op≠.NotIn:=by decide):behindInMarks op b=false:=by
 have e1:(op == CmpOp.In)=false:=by cases op <;> first | rfl | exact absurd rfl h
 have e2:(op == CmpOp.NotIn)=false:=by cases op <;> first | rfl | exact absurd rfl h2
 cases b <;> simp [behindInMarks,e1,e2]
theorem pe_cmpR {op:CmpOp}{r:R2} (ho:OpR X (compareOp op) r) (ha:PE X a ta) (hb:PE X b tb) (hm:behindInMarks op b=false):PE X (.Compare a [op] [b] pos) (tOp r ta tb):=by
 intro pins s σ H Q I h
 exact wpAny_Compare1 (binT ha hb I h fun v u s2 x y H2 I2 rx ry q=>ho pins s2 σ H2 x y v u Q I2 rx ry q) hm
def tTest (t:TE):TT:=fun σ H Q=>t σ H fun x H'=>∃ k,x=.bl k∧Q k H'
theorem qgo {op:CmpOp}{r:R2} (ho:OpR X (compareOp op) r) (ha:PE X a ta) (hb:PE X b tb) (hm:behindInMarks op b=false):PT X (.Compare a [op] [b] pos) (tTest (tOp r ta tb)):=by
 intro pins s σ H Q I h
 refine wpAny_isTrue_Compare1 (thn (ha pins s σ H _ I h) fun v s1 ⟨x,H1,I1,r1,q1⟩=>thn (hb pins s1 σ H1 _ I1 q1) fun u s2 ⟨y,H2,I2,r2,q2⟩ =>
  thn (ho pins s2 σ H2 x y v u _ I2 r1 r2 q2) fun c s3 ⟨z,H3,I3,r3,k,e,q3⟩=>?_) hm
 subst e
 cases r3
 exact wpAny_truthy_bool ⟨H3,I3,q3⟩
def tChain (r r':R2) (ta tb tc:TE):TE:=fun σ H Q=>ta σ H fun x H1=>tb σ H1 fun y H2=>r x y H2 fun z H3=>∃ k,z=.bl k ∧
 (if k=true then tc σ H3 fun w' H4=>r' y w' H4 Q else Q (.bl false) H3)
theorem qoe {op op':CmpOp}{r r':R2} (ho:OpR X (compareOp op) r) (ho':OpR X (compareOp op') r') (ha:PE X a ta) (hb:PE X b tb) (hc:PE X c tc)
  (hm:lastMarks [op,op'] [b,c]=false:=by with_unfolding_all rfl):PE X (.Compare a [op,op'] [b,c] pos) (tChain r r' ta tb tc):=by
 intro pins s σ H Q I h
 refine Compare_chain (thn (ha pins s σ H _ I h) fun v s1 ⟨x,H1,I1,r1,q1⟩=>chain_link (thn (hb pins s1 σ H1 _ I1 q1) fun u s2 ⟨y,H2,I2,r2,q2⟩ =>
  thn (ho pins s2 σ H2 x y v u _ I2 r1 r2 q2) fun d s3 ⟨z,H3,I3,r3,k,e,q3⟩=>?_)) hm
 subst e
 cases r3
 refine wpAny_truthy_bool ?_
 cases k with
 | false=>exact ite_ff ⟨.bl false,H3,I3,rfl,q3⟩
 | true=>exact ite_tt (chain_last (thn (hc pins s3 σ H3 _ I3 q3) fun w' s4 ⟨z',H4,I4,r4,q4⟩=>ho' pins s4 σ H4 y z' u w' Q I4 r2 r4 q4))
theorem qjl:(sizeLine:Nat) < 2 ^ 63:=by rw [sizeLine_eq];decide
theorem op_add_str:OpR X (binaryOp .Add) (fun x y H Q=>∃ i j,x=.str i∧y=.str j∧i.length+j.length≤sizeLine∧Q (.str (i++j)) H):=by
 intro pins s σ H x y v u Q I rx ry h
 obtain ⟨i,j,rfl,rfl,hz,q⟩:=h
 obtain ⟨t,rfl⟩:=rx
 obtain ⟨t',rfl⟩:=ry
 exact add_str (fun t' tk=>⟨.str (i++j),H,I.tok _,⟨_,rfl⟩,q⟩) hz
theorem qgh {x:V}{us:List Value} (r:Vals [x] us):∃ u,us=[u]∧RelV x u:=by
 cases r with
 | cons r1 r2=>cases r2;exact ⟨_,rfl,r1⟩
theorem vals2 {x y:V}{us:List Value} (r:Vals [x,y] us):∃ u w',us=[u,w']∧RelV x u∧RelV y w':=by
 cases r with
 | cons r1 r2 =>
  cases r2 with
  | cons r3 r4=>cases r4;exact ⟨_,_,rfl,r1,r3⟩
theorem call_abs:CallR X (.builtin "abs") (fun xs H Q=>∃ i,xs=[.int i]∧Q (.int (if i < 0 then -i else i)) H):=by
 intro pins s σ H xs us Q I r h
 obtain ⟨i,rfl,q⟩:=h
 obtain ⟨u,rfl,t,rfl⟩:=qgh r
 exact call_abs_int fun u tk=>⟨.int (if i < 0 then -i else i),H,I.tok _,⟨_,rfl⟩,q⟩
theorem call_max2 (hc:X.calm=true):CallR X (.builtin "max") (fun xs H Q=>∃ i j,xs=[.int i,.int j]∧Q (.int (if j > i then j else i)) H):=by
 intro pins s σ H xs us Q I r h
 obtain ⟨i,j,rfl,q⟩:=h
 obtain ⟨u,w',rfl,⟨t,rfl⟩,⟨t',rfl⟩⟩:=vals2 r
 refine max_two_ints (I.ok.hd hc) fun h' tk k=>⟨_,H,I.kept k,?_,q⟩
 by_cases hj:j > i
 ·rw [if_pos hj,if_pos hj];exact ⟨_,rfl⟩
 ·rw [if_neg hj,if_neg hj];exact ⟨_,rfl⟩
theorem call_int1:CallR X (.type "int") (fun xs H Q=>(∃ i,xs=[.int i]∧Q (.int i) H)∨∃ k,xs=[.bl k]∧Q (.int (if k then 1 else 0)) H):=by
 intro pins s σ H xs us Q I r h
 rcases h with ⟨i,rfl,q⟩ | ⟨k,rfl,q⟩
 ·obtain ⟨u,rfl,t,rfl⟩:=qgh r
  exact call_int_int ⟨.int i,H,I,⟨_,rfl⟩,q⟩
 ·obtain ⟨u,rfl,r1⟩:=qgh r
  cases r1
  exact call_int_bool ⟨.int (if k then 1 else 0),H,I.tok _,⟨_,rfl⟩,q⟩
end
end L2
namespace L2
open PySem PySem.Spec PyProof.Rows
structure ObjM (h:Heap) (x dx C:Addr) (mA:Str→Option Value):Prop where
 obj:h.get? x=some (PySem.W.instObj C dx)
 ns:h.Ns1 dx mA
 ne:dx≠x
theorem lookIn_ns {h:Heap}{dx:Addr}{mA:Str→Option Value} (n:h.Ns1 dx mA):∃ od,h.get? dx=some od∧∀ name,PySem.W.lookIn name od=some (mA name):=by
 obtain ⟨o,es,ep,ho,hd,hk,_,hm⟩:=n
 refine ⟨o,ho,fun name=>?_⟩
 have e:=hm name
 unfold nsFind findBy at e
 rw [← Array.find?_toList] at e
 unfold PySem.W.lookIn
 rw [hd]
 dsimp only
 split
 ·rename_i y q
  rw [q] at e
  exact congrArg some e
 ·rename_i q
  rw [q] at e
  have a:es.toList.any (·.refKey)=false:=by
   rw [List.any_eq_false]
   intro y hy
   obtain ⟨z,t,hkey⟩:=hk y (Array.mem_toList_iff.mp hy)
   simp [DictEntry.refKey,hkey]
  have a':¬ es.toList.any (·.refKey)=true:=by rw [a];exact Bool.false_ne_true
  rw [if_neg a']
  exact congrArg some e
theorem ObjM.look {h:Heap}{x dx C:Addr}{mA:Str→Option Value} (I:ObjM h x dx C mA):∃ od,PySem.W.InstAt h x (PySem.W.instObj C dx) C (some od)∧∀ name,PySem.W.lookIn name od=some (mA name) :=
 let ⟨od,ho,hl⟩:=lookIn_ns I.ns
 ⟨od,⟨I.obj,rfl,rfl,ho⟩,hl⟩
section
variable {prog:Program}{w:World}{A:Around}{E:Value→Shared→Prop}{s:Shared}{K:PySem.W.Frag}{x dx C f:Addr}{mA:Str→Option Value}{name:Str}{v:Value}
theorem get_map {expr:Bool}{Q:Value→Shared→Prop} (X:K.In s.heap) (I:ObjM s.heap x dx C mA) (hg:PySem.W.plainGet K C name=true) (hh:PySem.W.hasDictIn K C=true)
  (ha:PySem.W.findIn K (.ref C) name=some none) (hv:mA name=some v) (hv':PySem.W.handedIn v=true) (h:Q v { s with toks:=s.toks+1 }) :
  wpAny (model prog w) A (getAttr (.ref x) name expr) Q E s:=by
 obtain ⟨od,J,hl⟩:=I.look
 exact PySem.W.get_value X J (PySem.W.plainGet_of hg).1 (PySem.W.findObj_own hh ha rfl (by rw [hl,hv])) hv' h
theorem get_meth {pl:Sem Bool}{Q:Value×List Value→Shared→Prop} (X:K.In s.heap) (I:ObjM s.heap x dx C mA) (hg:PySem.W.plainGet K C name=true)
  (hf:PySem.W.findIn K (.ref C) name=some (some (.ref f))) (ht:PySem.W.isFn K (.ref f)=true) (hv:mA name=none) (h:Q (.ref f,[.ref x]) s) :
  wpAny (model prog w) A (getMethod (.ref x) name pl) Q E s:=by
 obtain ⟨od,J,hl⟩:=I.look
 exact PySem.W.method_fn X J (PySem.W.plainGet_of hg).1 (PySem.W.plainGet_of hg).2 hf (beq_iff_eq.mp ht) (by show (PySem.W.lookIn name od).map (·.isSome)=some false;rw [hl,hv];rfl) h
theorem set_map {ns:List Str}{Q:Unit→Shared→Prop} (X:K.In s.heap) (I:ObjM s.heap x dx C mA)
  (hs:PySem.W.findIn K (.ref C) "__setattr__"=some (some (.builtin "object.__setattr__"))) (hp:PySem.W.plainOver K C=true) (ht:PySem.W.takerIn K C name=some none) (hh:PySem.W.hasDictIn K C=true)
  (hw:PySem.Within mA ns) (hsz:ns.length≤sizeLine)
  (h:∀ h',ObjM h' x dx C (fun y=>if y=name then some v else mA y)→Heap.SameBut dx s.heap h'→Q () { s with heap:=h',toks:=s.toks+2 }) :
  wpAny (model prog w) A (setAttr (.ref x) name v) Q E s:=by
 obtain ⟨od,J,hl⟩:=I.look
 refine PySem.W.set_plain X J hs (PySem.W.osa_open (s:={ s with toks:=s.toks+1 }) (r:=none) X J hp ht fun b=>?_)
 obtain ⟨cd,hc,hd'⟩:=PySem.W.any_some hh
 have hx:s.heap.get? x=some ⟨.ref C,some dx,.plain,#[]⟩:=I.obj
 refine wpAny_bind (wpAny_pure (wpAny_bind (wpAny_bind (wpAny_loadPart hx (wpAny_bind (PySem.W.Looks.here (s:={ s with toks:=s.toks+1 }) (PySem.W.looks_clsIn X hc) ?_))))))
 rw [hd']
 refine wpAny_pure (a:=some dx) (wpAny_bind (wpAny_pure (wpAny_bind ?_)))
 refine wpAny_nsSet1 (s:={ s with toks:=s.toks+1 }) I.ns fun h' hn2 hs2=>?_
 obtain ⟨oD,esD,epD,hoD,hdD,hcD⟩:=hn2.count (PySem.Within.cons name v hw)
 refine wpAny_bind (wpAny_lookBehind hoD (by rw [hdD];exact pastItsLine_dict (Nat.le_trans hcD (by rw [List.length_cons];omega))) ?_)
 exact wpAny_pure (h _ ⟨(hs2.2 _ (Ne.symm I.ne)).trans I.obj,hn2,I.ne⟩ hs2)
theorem make_map {R:Result→Shared→Prop}{vs:List Value}{kw:List (Str×Value)} (X:K.In s.heap) (hm:PySem.W.makesIn K C=true)
  (hi:PySem.W.findIn K (.ref C) "__init__"=some (some (.ref f))) (hf:PySem.W.typeIn K (.ref f)=some (.type "function"))
  (h:codeAny (model prog w) (A.under (.builtin "type.__call__" ⟨.ref C::vs,kw⟩)) (.call (.ref f) ⟨.ref (s.heap.objs.size+1)::vs,kw⟩) (PySem.W.InitBack (s.heap.objs.size+1) R)
   {s with heap:=(s.heap.push PySem.W.emptyDict).push (PySem.W.instObj C s.heap.objs.size) }) :
  codeAny (model prog w) A (.call (.ref C) ⟨vs,kw⟩) R s:=by
 obtain ⟨hh,g,d,t,os⟩:=s
 exact PySem.W.make_core (PySem.W.makes_of X hm) (PySem.W.looks_findIn X hi) (fun self=>PySem.W.bind_fn X self hf) (.inl rfl) h
end
def putF (f:Str) (v:V):List (Str×V)→List (Str×V)
 | []=>[(f,v)]
 | (g,x)::r=>if g=f then (g,v)::r else (g,x)::putF f v r
theorem qh7 (f g:Str) (v:V):∀ fs:List (Str×V),(putF f v fs).lookup g=if g=f then some v else fs.lookup g
 | []=>by
  show List.lookup g [(f,v)]=_
  by_cases h:g=f
  ·have hb:(g == f)=true:=beq_iff_eq.mpr h
   simp only [List.lookup,hb,if_pos h]
  ·have hb:(g == f)=false:=beq_eq_false_iff_ne.mpr h
   simp only [List.lookup,hb,if_neg h]
 | (k,x)::r=>by
  have ih:=qh7 f g v r
  rw [show putF f v ((k,x)::r)=(if k=f then (k,v)::r else (k,x)::putF f v r) from rfl]
  by_cases hk:k=f
  ·rw [if_pos hk]
   by_cases h:g=k
   ·have hb:(g == k)=true:=beq_iff_eq.mpr h
    simp only [List.lookup,hb,if_pos (h.trans hk)]
   ·have hb:(g == k)=false:=beq_eq_false_iff_ne.mpr h
    simp only [List.lookup,hb,if_neg (fun e:g=f=>h (e.trans hk.symm))]
  ·rw [if_neg hk]
   by_cases h:g=k
   ·have hb:(g == k)=true:=beq_iff_eq.mpr h
    simp only [List.lookup,hb,if_neg (fun e:g=f=>hk (h.symm.trans e))]
   ·have hb:(g == k)=false:=beq_eq_false_iff_ne.mpr h
    simp only [List.lookup,hb]
    exact ih
theorem qib (f:Str) (v:V):∀ fs:List (Str×V),f∈(putF f v fs).map (·.1)∧∀ g,g∈fs.map (·.1)→g∈(putF f v fs).map (·.1)
 | []=>⟨by simp [putF],fun g h=>by simp at h⟩
 | (k,x)::r=>by
  obtain ⟨i1,i2⟩:=qib f v r
  rw [show putF f v ((k,x)::r)=(if k=f then (k,v)::r else (k,x)::putF f v r) from rfl]
  by_cases hk:k=f
  ·rw [if_pos hk]
   subst hk
   exact ⟨by simp,fun g h=>by simpa using h⟩
  ·rw [if_neg hk]
   refine ⟨?_,fun g h=>?_⟩
   ·rw [List.map_cons]
    exact List.mem_cons_of_mem _ i1
   ·rw [List.map_cons] at h ⊢
    rcases List.mem_cons.mp h with e | e
    ·exact List.mem_cons.mpr (.inl e)
    ·exact List.mem_cons_of_mem _ (i2 g e)
theorem qfl (f:Str) (v:V):∀ fs:List (Str×V),(putF f v fs).length≤fs.length+1
 | []=>by simp [putF]
 | (k,x)::r=>by
  have ih:=qfl f v r
  rw [show putF f v ((k,x)::r)=(if k=f then (k,v)::r else (k,x)::putF f v r) from rfl]
  by_cases hk:k=f
  ·rw [if_pos hk,List.length_cons,List.length_cons];omega
  ·rw [if_neg hk,List.length_cons,List.length_cons];omega
theorem RelO.some_of {v:V}{o:Option Value} (r:RelO (some v) o):∃ u,o=some u∧RelV v u:=by
 cases o with
 | none=>exact (show False from r).elim
 | some u=>exact ⟨u,rfl,r⟩
theorem RelO.none_of {o:Option Value} (r:RelO none o):o=none:=by
 cases o with
 | none=>rfl
 | some u=>exact (show False from r).elim
theorem handed_of {v:V}{u:Value} (r:RelV v u):PySem.W.handedIn u=true:=by
 cases v with
 | non=>cases (show u=Value.none from r);rfl
 | bl b=>cases (show u=Value.bool b from r);rfl
 | int i=>obtain ⟨t,e⟩:=(show ∃ t,u=Value.int i t from r);cases e;rfl
 | str x=>obtain ⟨t,e⟩:=(show ∃ t,u=Value.str x t from r);cases e;rfl
 | byt b=>obtain ⟨t,e⟩:=(show ∃ t,u=Value.bytes b t from r);cases e;rfl
 | flt b=>obtain ⟨t,e⟩:=(show ∃ t,u=Value.float b t from r);cases e;rfl
 | ref a=>cases (show u=Value.ref a from r);rfl
 | ty n=>cases (show u=Value.type n from r);rfl
section
variable {P:Program}{w:World}{H H':Hp}{h h':Heap}{a C dx:Addr}{fs fs':List (Str×V)}
theorem qkw (hok:HOk P w H h) (e:H a=some (.ins C dx fs)):∃ mA,ObjM h a dx C mA∧(∀ f,RelO (fs.lookup f) (mA f))∧PySem.Within mA (fs.map (·.1))∧fs.length≤1000∧H dx=some (.own a):=by
 obtain ⟨d,z,ne,ob,mA,n,r,q⟩:=(show ObjOk P w H h a (.ins C dx fs) from hok a _ e)
 exact ⟨mA,⟨ob,n,ne⟩,r,q,z,d⟩
end
structure Cls (K:PySem.W.Frag) (C:Addr):Prop where
 pg:PySem.W.plainGet K C Str.empty=true
 hd:PySem.W.hasDictIn K C=true
 po:PySem.W.plainOver K C=true
 sa:PySem.W.findIn K (.ref C) "__setattr__"=some (some (.builtin "object.__setattr__"))
theorem Cls.get {K:PySem.W.Frag}{C:Addr} (c:Cls K C) (f:Str):PySem.W.plainGet K C f=true:=c.pg
def NoAttr (K:PySem.W.Frag) (C:Addr) (f:Str):Prop:=PySem.W.findIn K (.ref C) f=some none
theorem NoAttr.taker {K:PySem.W.Frag}{C:Addr}{f:Str} (n:NoAttr K C f):PySem.W.takerIn K C f=some none:=by
 unfold PySem.W.takerIn
 rw [show PySem.W.findIn K (.ref C) f=some none from n]
 rfl
structure Con (K:PySem.W.Frag) (C:Addr) (f:Str) (v:V) (u:Value):Prop where
 at_:PySem.W.findIn K (.ref C) f=some (some u)
 rel:RelV v u
 get:PySem.W.specialIn K u "__get__"=some none
 cp:PySem.W.copiedNames.contains f=false
structure Meth (K:PySem.W.Frag) (C:Addr) (m:Str) (f:Addr):Prop where
 at_:PySem.W.findIn K (.ref C) m=some (some (.ref f))
 fn:PySem.W.isFn K (.ref f)=true
 kp:PySem.W.keepIn K (.ref f)=true
section
variable {X:Cx}{pins:List (Addr×Obj)}{σ:St}{H:Hp}{s:Shared}{a C dx:Addr}{fs:List (Str×V)}{f:Str}{v:V}{A:Around}{E:Value→Shared→Prop}
theorem getattr_ok {b:Bool}{Q:Value→Shared→Prop} (I:Inv X pins σ H s) (e:H a=some (.ins C dx fs)) (c:Cls X.K C) (n:NoAttr X.K C f) (l:fs.lookup f=some v)
  (h:∀ u s',Inv X pins σ H s'→RelV v u→Q u s'):wpAny (model X.prog X.w) A (getAttr (.ref a) f b) Q E s:=by
 obtain ⟨mA,O,r,_,_,_⟩:=qkw I.hok e
 obtain ⟨u,hu,ru⟩:=RelO.some_of (v:=v) (o:=mA f) (by rw [← l];exact r f)
 exact get_map I.kIn O (c.get f) c.hd n hu (handed_of ru) (h u _ (I.tok _) ru)
theorem qjo {m:Str}{g:Addr}{pl:Sem Bool}{Q:Value×List Value→Shared→Prop} (I:Inv X pins σ H s) (e:H a=some (.ins C dx fs)) (c:Cls X.K C) (k:Meth X.K C m g) (l:fs.lookup m=none)
  (h:Q (.ref g,[.ref a]) s):wpAny (model X.prog X.w) A (getMethod (.ref a) m pl) Q E s:=by
 obtain ⟨mA,O,r,_,_,_⟩:=qkw I.hok e
 have hn:mA m=none:=RelO.none_of (by rw [← l];exact r m)
 exact get_meth I.kIn O (c.get m) k.at_ k.fn hn h
theorem setattr_ok {y:V}{u:Value}{Q:Unit→Shared→Prop} (I:Inv X pins σ H s) (e:H a=some (.ins C dx fs)) (c:Cls X.K C) (n:NoAttr X.K C f) (hl:fs.length < 1000) (ry:RelV y u)
  (h:∀ s',Inv X pins σ (upd H a (.ins C dx (putF f y fs))) s'→Q () s'):wpAny (model X.prog X.w) A (setAttr (.ref a) f u) Q E s:=by
 obtain ⟨mA,O,r,wi,_,ho⟩:=qkw I.hok e
 have hz:(fs.map (·.1)).length≤sizeLine:=by rw [List.length_map,sizeLine_eq];omega
 refine set_map I.kIn O c.sa c.po n.taker c.hd wi hz fun h' O' sb=>h _ ?_
 have hd:∃ o,h'.get? dx=some o:=let ⟨o,_,_,e',_⟩:=O'.ns;⟨o,e'⟩
 refine I.write (x:=a) (e:=dx) (by rw [e];exact True.intro) (.inr ho) (fun b q hb z=>(sb.2 b hb).trans z) hd ?_
 refine ⟨by rw [qad O.ne];exact ho,?_,O.ne,O'.obj,_,O'.ns,fun g=>?_,fun g hg=>?_⟩
 ·have:=qfl f y fs;omega
 ·show RelO ((putF f y fs).lookup g) (if g=f then some u else mA g)
  rw [qh7]
  by_cases q:g=f
  ·rw [if_pos q,if_pos q];exact ry
  ·rw [if_neg q,if_neg q];exact r g
 ·by_cases q:g=f
  ·rw [q];exact (qib f y fs).1
  ·refine (qib f y fs).2 g (wi g fun z=>hg ?_)
   show (if g=f then some u else mA g)=none
   rw [if_neg q];exact z
theorem Inv.made (I:Inv X pins σ H s):Inv X pins σ (upd (upd H s.heap.objs.size (.own (s.heap.objs.size+1))) (s.heap.objs.size+1) (.ins C s.heap.objs.size []))
  {s with heap:=(s.heap.push PySem.W.emptyDict).push (PySem.W.instObj C s.heap.objs.size) }:=by
 have e1:(s.heap.push PySem.W.emptyDict).get? s.heap.objs.size=some PySem.W.emptyDict:=Heap.get?_push_size s.heap rfl
 have e2:((s.heap.push PySem.W.emptyDict).push (PySem.W.instObj C s.heap.objs.size)).get? (s.heap.objs.size+1)=some (PySem.W.instObj C s.heap.objs.size):=by
  have:=Heap.get?_push_size (s.heap.push PySem.W.emptyDict) (o:=PySem.W.instObj C s.heap.objs.size) rfl
  rwa [Heap.size_push] at this
 have e3:(s.heap.push PySem.W.emptyDict).Ns s.heap.objs.size (fun _=>none):=⟨PySem.W.emptyDict,#[],_,e1,rfl,(fun e he=>absurd he (by simp)),fun _=>rfl⟩
 have I1:=I.laid (a:=s.heap.objs.size) (o:=.own (s.heap.objs.size+1)) (h':=s.heap.push PySem.W.emptyDict) (t':=s.toks) (fun b u q=>Heap.get?_push_of_some _ q) (Nat.le_refl _) ⟨_,e1⟩
 refine I1.laid (a:=s.heap.objs.size+1) (o:=.ins C s.heap.objs.size []) (t':=s.toks) (fun b u q=>Heap.get?_push_of_some _ q) (Nat.le_of_eq (Heap.size_push _ _)) ?_
 have ne:s.heap.objs.size≠s.heap.objs.size+1:=Nat.ne_of_lt (Nat.lt_succ_self _)
 refine ⟨by rw [qad ne,qae],Nat.zero_le _,ne,e2,fun _=>none,(Heap.Ns1.of_empty e3).at fun o q=>Heap.get?_push_of_some _ q,fun _=>True.intro,fun y hy=>absurd rfl hy⟩
theorem attr_of {prog:Program}{w:World}{env:Env}{e:Expr}{f:Str}{pos:Pos}{s:Shared}{Q:Value→Shared→Prop} (hb:attributeBase e f env (eval e env)=eval e env)
  (h:wpAny (model prog w) A (eval e env) (fun o s₁=>wpAny (model prog w) A (getAttr o f true) Q E s₁) E s):wpAny (model prog w) A (eval (.Attribute e f pos) env) Q E s :=
 Attribute_any_ h (by rw [arm_eval_Attribute,hb])
end
def tFld (K:PySem.W.Frag) (ta:TE) (f:Str):TE:=fun σ H Q=>ta σ H fun x H1=>∃ a C dx fs v,x=.ref a∧H1 a=some (.ins C dx fs)∧Cls K C∧NoAttr K C f∧fs.lookup f=some v∧Q v H1
def sFld (K:PySem.W.Frag) (ta tv:TE) (f:Str):TS:=fun D σ H=>tv σ H fun y H1=>ta σ H1 fun x H2=>∃ a C dx fs,x=.ref a∧H2 a=some (.ins C dx fs)∧Cls K C∧NoAttr K C f∧fs.length < 1000 ∧
 D.nx σ (upd H2 a (.ins C dx (putF f y fs)))
section
variable {X:Cx}{o e value:Expr}{f:Str}{pos pos' tpos:Pos}{ta tv:TE}
theorem qef (he:PE X e ta) (hb:attributeBase e f X.env (eval e X.env)=eval e X.env):PE X (.Attribute e f pos) (tFld X.K ta f):=by
 intro pins s σ H Q I h
 refine attr_of hb (thn (he pins s σ H _ I h) fun u s1 ⟨x,H1,I1,rx,a,C,dx,fs,v,ex,ea,c,n,l,q⟩=>?_)
 subst ex
 obtain rfl:u=Value.ref a:=rx
 exact getattr_ok I1 ea c n l fun u' s2 I2 ru=>⟨v,H1,I2,ru,q⟩
theorem qlw (ha:PE X o ta) (hv:PE X value tv) (hs:swapsWith value (some (.Attribute o f pos')) pos.line X.env=pure false):PS X (.Assign [.Attribute o f pos'] value pos) (sFld X.K ta tv f):=by
 intro pins s σ H D I h
 refine plainObj_wpAny_Assign_Attribute (thn (hv pins s σ H _ I h) fun u s1 ⟨y,H1,I1,ry,q⟩=>thn (ha pins s1 σ H1 _ I1 q) fun ov s2 ⟨x,H2,I2,rx,a,C,dx,fs,ex,ea,c,n,l,q2⟩=>?_) hs
 subst ex
 obtain rfl:ov=Value.ref a:=rx
 exact setattr_ok I2 ea c n l ry fun s3 I3=>⟨σ,_,I3,q2⟩
end
section
variable {X:Cx}{pins:List (Addr×Obj)}{σ:St}{H:Hp}{s:Shared}{A:Around}{E:Value→Shared→Prop}{Q:Value→Shared→Prop}{c:Value}{b:Bool}
inductive TyOf (K:PySem.W.Frag) (H:Hp):V→Value→Prop where
 | non:TyOf K H .non (.type "NoneType")
 | bl (x:Bool):TyOf K H (.bl x) (.type "bool")
 | int (i:Int):TyOf K H (.int i) (.type "int")
 | str (x:Str):TyOf K H (.str x) (.type "str")
 | flt (x:UInt64):TyOf K H (.flt x) (.type "float")
 | lst {a:Addr}{xs:List V} (e:H a=some (.lst xs)):TyOf K H (.ref a) (.type "list")
 | frz {a:Addr}{o:Obj}{xs:List V} (e:H a=some (.frz o (.lst xs))):TyOf K H (.ref a) (.type "list")
 | tup {a:Addr}{xs:List V} (e:H a=some (.tup xs)):TyOf K H (.ref a) (.type "tuple")
 | dK {a:Addr}{kvs:List (Key×V)} (e:H a=some (.dK kvs)):TyOf K H (.ref a) (.type "dict")
 | dT {a:Addr}{kvs:List (List Key×V)} (e:H a=some (.dT kvs)):TyOf K H (.ref a) (.type "dict")
 | ins {a C dx:Addr}{fs:List (Str×V)} (e:H a=some (.ins C dx fs)) (cl:Cls K C) (ha:PySem.W.findIn K (.ref C) "__class__"=some (some (.builtin "object.__class__")))
   (hn:PySem.W.specialIn K (.builtin "object.__class__") "__get__"=some (some (.builtin "getset_descriptor.__get__"))) (htk:PySem.W.takesIn K (.builtin "object.__class__")=some true)
   (hm:PySem.W.mroIn K C (.type "object")=some true):TyOf K H (.ref a) (.ref C)
theorem isinst_ok {x:V}{u t:Value} (I:Inv X pins σ H s) (rx:RelV x u) (ty:TyOf X.K H x t) (e:PySem.W.kitOne X.K t c=some b) (h:∀ tk,Q (.bool b) { s with toks:=tk }) :
  wpAny (model X.prog X.w) A (call (.builtin "isinstance") [u,c]) Q E s:=by
 cases ty with
 | non=>cases (show u=Value.none from rx);exact PySem.W.kia_one PySem.W.kitx_none I.kIn True.intro e (fun z=>nomatch z) h
 | bl y=>cases (show u=Value.bool y from rx);exact PySem.W.kia_one PySem.W.kitx_bool I.kIn True.intro e (fun z=>nomatch z) h
 | int i=>obtain ⟨t,q⟩:=(show ∃ t,u=Value.int i t from rx);cases q;exact PySem.W.kia_one PySem.W.kitx_int I.kIn True.intro e (fun z=>nomatch z) h
 | str y=>obtain ⟨t,q⟩:=(show ∃ t,u=Value.str y t from rx);cases q;exact PySem.W.kia_one PySem.W.kitx_str I.kIn True.intro e (fun z=>nomatch z) h
 | flt y=>obtain ⟨t,q⟩:=(show ∃ t,u=Value.float y t from rx);cases q;exact PySem.W.kia_one PySem.W.kitx_float I.kIn True.intro e (fun z=>nomatch z) h
 | @lst a xs ea =>
  cases (show u=Value.ref a from rx)
  obtain ⟨_,_,n,_,h1⟩:=(show ObjOk X.prog X.w H s.heap a (.lst xs) from I.hok a _ ea)
  exact PySem.W.kia_one PySem.W.kitx_list I.kIn ⟨_,h1,rfl⟩ e (fun z=>nomatch z) h
 | @frz a ob xs ea =>
  cases (show u=Value.ref a from rx)
  obtain ⟨_,_,_,n,_,h1⟩:=(show ObjOk X.prog X.w H s.heap a (.frz ob (.lst xs)) from I.hok a _ ea)
  exact PySem.W.kia_one PySem.W.kitx_list I.kIn ⟨_,h1,rfl⟩ e (fun z=>nomatch z) h
 | @tup a xs ea =>
  cases (show u=Value.ref a from rx)
  obtain ⟨_,_,_,p⟩:=(show ObjOk X.prog X.w H s.heap a (.tup xs) from I.hok a _ ea)
  obtain ⟨o,h1,h2,_⟩:=p
  exact PySem.W.kia_one PySem.W.kitx_tuple I.kIn ⟨o,h1,h2⟩ e (fun z=>nomatch z) h
 | @dK a kvs ea =>
  cases (show u=Value.ref a from rx)
  obtain ⟨_,_,vs,_,p⟩:=(show ObjOk X.prog X.w H s.heap a (.dK kvs) from I.hok a _ ea)
  obtain ⟨o,es,ep,h1,h2,_⟩:=p
  exact PySem.W.kia_one PySem.W.kitx_dict I.kIn ⟨o,h1,h2.1⟩ e (fun z=>nomatch z) h
 | @dT a kvs ea =>
  cases (show u=Value.ref a from rx)
  obtain ⟨_,_,xs,_,o,es,ep,h1,h2,_⟩:=(show ObjOk X.prog X.w H s.heap a (.dT kvs) from I.hok a _ ea)
  exact PySem.W.kia_one PySem.W.kitx_dict I.kIn ⟨o,h1,h2.1⟩ e (fun z=>nomatch z) h
 | @ins a C dx fs ea cl ha hn htk hm =>
  cases (show u=Value.ref a from rx)
  obtain ⟨mA,O,_⟩:=qkw I.hok ea
  obtain ⟨od,J,_⟩:=O.look
  exact PySem.W.kia_one (PySem.W.kitx_own (cl.get _) cl.hd ha hn htk hm) I.kIn J e (fun z=>nomatch z) h
end
end L2
namespace L2
open PySem PySem.Spec PyProof.Rows
structure Room (k:Nat) (A:Around):Prop where
 hd:A.handled=none
 dp:A.depth+3 * k+5 < recursionLimit
 un:A.units+16 * k+200 < cLine
theorem Room.mono {j k:Nat}{A:Around} (r:Room k A) (h:j≤k):Room j A:=⟨r.hd,by have:=r.dp;omega,by have:=r.un;omega⟩
theorem Room.deeper {k:Nat}{A:Around} (r:Room (k+1) A) (env:Env):Room k (A.deeper env) :=
 ⟨r.hd,by have:=r.dp;show A.depth+1+3 * k+5 < _;omega,by have:=r.un;show A.units+3+16 * k+200 < _;omega⟩
theorem make_depth {A:Around}{C:Addr}{us:List Value}{kw:List (Str×Value)}:(A.under (.builtin "type.__call__" ⟨.ref C::us,kw⟩)).depth=A.depth+1:=by
 first | rfl | simp [Around.under,Code.weight,Code.isCreation,Code.isGuard,Code.isCaller,Code.frames,Code.isFrame,guardIds]
theorem make_units {A:Around}{C:Addr}{us:List Value}{kw:List (Str×Value)}:(A.under (.builtin "type.__call__" ⟨.ref C::us,kw⟩)).units=A.units+1:=by
 first | rfl | simp [Around.under,Code.cUnits,Code.frames,Code.isFrame]
theorem Room.make {k:Nat}{A:Around} (r:Room (k+1) A) (C:Addr) (us:List Value) (kw:List (Str×Value)):Room k (A.under (.builtin "type.__call__" ⟨.ref C::us,kw⟩)) :=
 ⟨r.hd,by have:=r.dp;rw [make_depth];omega,by have:=r.un;rw [make_units];omega⟩
theorem Room.depth {k:Nat}{A:Around} (r:Room k A):A.depth < recursionLimit:=by have:=r.dp;omega
theorem Room.units {k:Nat}{A:Around} (r:Room k A):A.units+64 < cLine:=by have:=r.un;omega
def tNil:TA:=fun _ H Q=>Q [] H
def tCons (ta:TE) (tr:TA):TA:=fun σ H Q=>ta σ H fun x H1=>tr σ H1 fun xs H2=>Q (x::xs) H2
section
variable {X:Cx}{e:Expr}{es:List Expr}{te:TE}{t:TA}{pos:Pos}
theorem pa_nil:PA X [] tNil:=fun _ _ _ _ H Q I h=>Calls.spliced_nil ⟨[],H,I,.nil,h⟩
theorem qam (ha:PE X e te) (hr:PA X es t) (hs:starEach (e::es) X.env=(false,eval e X.env)::starEach es X.env:=by rfl):PA X (e::es) (tCons te t):=by
 intro pos pins s σ H Q I h
 rw [hs]
 show wpAny _ _ (spliced ((false,eval e X.env)::backTo pos (starEach es X.env))) _ _ s
 refine Calls.spliced_cons (thn (ha pins s σ H _ I h) fun u s1 ⟨x,H1,I1,r1,q1⟩=>?_)
 exact thn (hr pos pins s1 σ H1 _ I1 q1) fun us s2 ⟨xs,H2,I2,r2,q2⟩=>⟨x::xs,H2,I2,.cons r1 r2,q2⟩
def tTup (t:TA):TE:=fun σ H Q=>t σ H fun xs H1=>xs.length≤sizeLine∧∀ p,H1 p=none→Q (.ref p) (upd H1 p (.tup xs))
def tLst (t:TA):TE:=fun σ H Q=>t σ H fun xs H1=>xs.length≤sizeLine∧∀ p,H1 p=none→Q (.ref p) (upd H1 p (.lst xs))
theorem qod {x1} (h:PA X es t):PE X (.Tuple es x1 pos) (tTup t):=by
 intro pins s σ H Q I hq
 refine wpAny_Tuple_spliced (thn (h pos pins s σ H _ I hq) fun us s1 ⟨xs,H1,I1,r,z,q⟩=>⟨by rw [← r.length];exact z,?_⟩)
 have hf:H1 s1.heap.objs.size=none:=I1.hok.fresh (Nat.le_refl _)
 refine ⟨.ref s1.heap.objs.size,upd H1 s1.heap.objs.size (.tup xs),I1.laid (t':=s1.toks) (fun b u e=>Heap.get?_push_of_some _ e) (Nat.le_refl _) ?_,rfl,q _ hf⟩
 exact ⟨z,us,r,⟨_,Heap.get?_push_size _ rfl,rfl,_,rfl⟩⟩
theorem pe_lst (h:PA X es t):PE X (.List es pos) (tLst t):=by
 intro pins s σ H Q I hq
 refine wpAny_List_spliced (thn (h pos pins s σ H _ I hq) fun us s1 ⟨xs,H1,I1,r,z,q⟩=>⟨by rw [← r.length];exact z,?_⟩)
 have hf:H1 s1.heap.objs.size=none:=I1.hok.fresh (Nat.le_refl _)
 refine ⟨.ref s1.heap.objs.size,upd H1 s1.heap.objs.size (.lst xs),I1.laid (t':=s1.toks) (fun b u e=>Heap.get?_push_of_some _ e) (Nat.le_refl _) ?_,rfl,q _ hf⟩
 exact ⟨z,us,0,r,Heap.get?_push_size _ rfl⟩
end
abbrev Sp:=List V→Hp→VK→XK→Prop
abbrev CXT:=List Env→Hp→Shared→XK→Value→Shared→Prop
structure Env0 (P:Program) (w:World) (K:PySem.W.Frag) (mg:Str→Option Value) (base:Heap) (A:Around) (outer:List Env) (s:Shared) (H:Hp):Prop where
 frames:A.frames=some outer
 mod:Mod K mg base
 bs:∀ b o,base.get? b=some o→s.heap.get? b=some o∧H b=none
 bsz:base.objs.size≤s.heap.objs.size
 funs:s.heap.FunFrames base outer
 frf:∀ b∈frs outer,H b=none
 hok:HOk P w H s.heap
 bare:AllBare s.gens
def CE (outer:List Env) (P:Program) (w:World) (H:Hp) (s:Shared) (Q:VK) (u:Value) (s':Shared):Prop :=
 ∃ v H',s'.os=s.os∧AllBare s'.gens∧Un (frs outer) [] H H' s.heap s'.heap∧HOk P w H' s'.heap∧RelV v u∧Q v H'
def CR (CX:CXT) (outer:List Env) (P:Program) (w:World) (H:Hp) (s:Shared) (Q:VK) (E:XK) (r:Result) (s':Shared):Prop :=
 match r with
 | .ok (.ret u)=>CE outer P w H s Q u s'
 | .ok _=>False
 | .error e=>CX outer H s E e s'
structure FnOk (P:Program) (w:World) (K:PySem.W.Frag) (mg:Str→Option Value) (base:Heap) (CX:CXT) (k:Nat) (f:Addr) (fd:FuncData) (ps:List Str) (sp:Sp):Prop where
 len:∀ vs H Q E,sp vs H Q E→vs.length=ps.length
 run:∀ (A:Around) (outer:List Env) (s:Shared) (H:Hp) (args:Args) (us:List Value) (vs:List V) (Q:VK) (E:XK),Room k A→Env0 P w K mg base A outer s H→BindsTo s fd args (ps.zip us)→Vals vs us→sp vs H Q E →
  codeAny (model P w) A (.call (.ref f) args) (CR CX outer P w H s Q E) s
theorem FnOk.imp {P:Program}{w:World}{K:PySem.W.Frag}{mg:Str→Option Value}{base:Heap}{CX:CXT}{k:Nat}{f:Addr}{fd:FuncData}{ps:List Str}{sp sp':Sp} (F:FnOk P w K mg base CX k f fd ps sp)
  (h:∀ vs H Q E,sp' vs H Q E→sp vs H Q E):FnOk P w K mg base CX k f fd ps sp' :=
 ⟨fun vs H Q E q=>F.len vs H Q E (h _ _ _ _ q),fun A outer s H args us vs Q E hr he hb hv hs=>F.run A outer s H args us vs Q E hr he hb hv (h _ _ _ _ hs)⟩
theorem Env0.make {P:Program}{w:World}{K:PySem.W.Frag}{mg:Str→Option Value}{base:Heap}{A:Around}{outer:List Env}{s:Shared}{H:Hp} (e:Env0 P w K mg base A outer s H) (C:Addr) (us:List Value) (kw:List (Str×Value)) :
  Env0 P w K mg base (A.under (.builtin "type.__call__" ⟨.ref C::us,kw⟩)) outer s H:=⟨by first | exact e.frames | (simpa [Around.under,Code.envs,Code.isFrame,pushEnvs] using e.frames),e.mod,e.bs,e.bsz,e.funs,e.frf,e.hok,e.bare⟩
section
variable {X:Cx}{pins:List (Addr×Obj)}{σ:St}{H:Hp}{s s':Shared}
theorem Inv.env0 (I:Inv X pins σ H s):Env0 X.prog X.w X.K X.mg X.base X.A X.stack s H :=
 ⟨I.ok.frames,I.ok.mod,I.bs,Nat.le_trans I.ok.bsz I.sz,I.stack,I.stkFree,I.hok,I.bare⟩
theorem Inv.after {Q:VK}{u:Value} (I:Inv X pins σ H s) (h:CE X.stack X.prog X.w H s Q u s'):EP X pins σ Q u s':=by
 obtain ⟨v,H',os,bare,un,hok,r,q⟩:=h
 obtain ⟨hh,g,d,t,os'⟩:=s'
 obtain rfl:os'=s.os:=os
 exact ⟨v,H',I.call (h':=hh) (g':=g) (d':=d) (t':=t) (ch:=[]) un hok bare (fun b z=>absurd z (by simp)),r,q⟩
end
def tCall (sp:Sp) (dvs:List V) (E:XK) (t:TA):TE:=fun σ H Q=>t σ H fun vs H1=>sp (vs++dvs) H1 Q E
def tMeth (C:Addr) (m:Str) (sp:Sp) (dvs:List V) (E:XK) (ta:TE) (t:TA):TE:=fun σ H Q=>ta σ H fun x H1=>∃ a dx fs,x=.ref a∧H1 a=some (.ins C dx fs)∧fs.lookup m=none ∧
 t σ H1 fun vs H2=>sp (x::(vs++dvs)) H2 Q E
def tMake (C:Addr) (sp:Sp) (dvs:List V) (E:XK) (t:TA):TE:=fun σ H Q=>t σ H fun vs H1=>∀ x dx,H1 x=none→H1 dx=none→dx≠x →
 sp (.ref x::(vs++dvs)) (upd (upd H1 dx (.own x)) x (.ins C dx [])) (fun v H2=>v=.non∧Q (.ref x) H2) E
def Binds (K:PySem.W.Frag) (fd:FuncData) (ps:List Str) (ds:List Value):Prop :=
 ∀ (s:Shared) (us:List Value),K.In s.heap→(us++ds).length=ps.length→BindsTo s fd ⟨us,[]⟩ (ps.zip (us++ds))
theorem Binds.all {K:PySem.W.Frag}{fd:FuncData}{ps:List Str} (h:∀ us:List Value,us.length=ps.length→bindArgs fd ⟨us,[]⟩=pure (ps.zip us)):Binds K fd ps []:=fun s us _ hl=>by
 rw [List.append_nil] at hl ⊢
 exact .of_eq (h us hl)
def qc7 (CX:CXT) (X:Cx) (E:XK):Prop:=∀ (pins:List (Addr×Obj)) (σ:St) (H:Hp) (s:Shared) (e:Value) (s':Shared),Inv X pins σ H s→CX X.stack H s E e s'→X.xe e s'
section
variable {X:Cx}{CX:CXT}{k:Nat}{f C:Addr}{fd:FuncData}{ps:List Str}{sp:Sp}{dvs:List V}{ds:List Value}{E:XK}{x m:Str}{p pos apos:Pos}{e o:Expr}{es:List Expr}{ta:TE}{t:TA}
theorem qn4 {pins:List (Addr×Obj)}{σ:St}{H:Hp}{s:Shared}{Q:VK}{us:List Value}{vs:List V} (F:FnOk X.prog X.w X.K X.mg X.base CX k f fd ps sp) (hr:Room k X.A) (hb:Binds X.K fd ps ds) (hd:Vals dvs ds) (hx:qc7 CX X E)
  (I:Inv X pins σ H s) (r:Vals vs us) (h:sp (vs++dvs) H Q E):wpAny (model X.prog X.w) X.A (call (.ref f) us) (EP X pins σ Q) X.xe s:=by
 have r2:Vals (vs++dvs) (us++ds):=r.append hd
 have hl:(us++ds).length=ps.length:=by rw [← r2.length];exact F.len _ _ _ _ h
 refine wpAny_call (codeAny_mono (F.run X.A X.stack s H ⟨us,[]⟩ (us++ds) (vs++dvs) Q E hr I.env0 (hb s us I.kIn hl) r2 h) fun r s' hq=>?_)
 cases r with
 | error e=>exact hx pins σ H s e s' I hq
 | ok fl =>
  cases fl with
  | ret u=>exact I.after hq
  | next=>exact False.elim hq
  | brk=>exact False.elim hq
  | cont=>exact False.elim hq
theorem pe_call (F:FnOk X.prog X.w X.K X.mg X.base CX k f fd ps sp) (hr:Room k X.A) (hg:Gl X x) (hm:X.mg x=some (.ref f)) (hk:PySem.W.keepIn X.K (.ref f)=true) (hb:Binds X.K fd ps ds) (hd:Vals dvs ds) (hx:qc7 CX X E)
  (ha:PA X (e::es) t) (hdb:(x == ("__debug__":Str))=false:=by decide) (he:starEach (e::es) X.env=(false,eval e X.env)::starEach es X.env:=by rfl) (hpl:(backTo pos (starEach es X.env)).any (·.1)=false:=by rfl) :
  PE X (.Call (.Name x p) (e::es) [] pos) (tCall sp dvs E t):=by
 intro pins s σ H Q I h
 refine wpAny_Call_Name_kw (qia I hg hm ?_ hdb)
 refine PySem.W.callWith_K (h₀:=X.base) I.ok.mod.kin hk (thn (ha pos pins s σ H _ I h) fun us s1 ⟨vs,H1,I1,r,q⟩=>⟨I1.kIn,?_⟩) he hpl
 exact qn4 F hr hb hd hx I1 r q
theorem pe_meth {pl:Sem Bool} (he:PE X o ta) (c:Cls X.K C) (hm:Meth X.K C m f) (F:FnOk X.prog X.w X.K X.mg X.base CX k f fd ps sp) (hr:Room k X.A) (hb:Binds X.K fd ps ds) (hd:Vals dvs ds) (hx:qc7 CX X E) (ha:PA X (e::es) t)
  (hst:starEach (e::es) X.env=(false,eval e X.env)::starEach es X.env:=by rfl) (hpl:(backTo pos (starEach es X.env)).any (·.1)=false:=by rfl)
  (ht:eval (.Call (.Attribute o m apos) (e::es) [] pos) X.env=(do
   let ov ← eval o X.env
   standAt apos.atName
   let (f,first) ← holding [ov] (getMethod ov m pl)
   callWith pos f first (backTo pos (starEach (e::es) X.env)) (backToKw pos (keywordEach [] X.env))):=by rfl) :
  PE X (.Call (.Attribute o m apos) (e::es) [] pos) (tMeth C m sp dvs E ta t):=by
 intro pins s σ H Q I h
 refine PySem.W.methodCall_KW (pl:=pl) (thn (he pins s σ H _ I h) fun u s1 ⟨x,H1,I1,rx,a,dx,fs,ex,ea,l,q⟩=>?_) ht
 subst ex
 obtain rfl:u=Value.ref a:=rx
 refine qjo I1 ea c hm l ?_
 refine PySem.W.callWith_K (first:=[.ref a]) (h₀:=X.base) I.ok.mod.kin hm.kp (thn (ha pos pins s1 σ H1 _ I1 q) fun us s2 ⟨vs,H2,I2,r,q2⟩=>⟨I2.kIn,?_⟩) hst hpl
 exact qn4 (us:=.ref a::us) (vs:=.ref a::vs) F hr hb hd hx I2 (.cons rfl r) q2
theorem pe_meth0 {pl:Sem Bool} (he:PE X o ta) (c:Cls X.K C) (hm:Meth X.K C m f) (F:FnOk X.prog X.w X.K X.mg X.base CX k f fd ps sp) (hr:Room k X.A) (hb:Binds X.K fd ps ds) (hd:Vals dvs ds) (hx:qc7 CX X E)
  (ht:eval (.Call (.Attribute o m apos) [] [] pos) X.env=(do
   let ov ← eval o X.env
   standAt apos.atName
   let (f,first) ← holding [ov] (getMethod ov m pl)
   callWith pos f first (backTo pos (starEach [] X.env)) (backToKw pos (keywordEach [] X.env))):=by rfl) :
  PE X (.Call (.Attribute o m apos) [] [] pos) (tMeth C m sp dvs E ta tNil):=by
 intro pins s σ H Q I h
 refine PySem.W.methodCall_KW (pl:=pl) (thn (he pins s σ H _ I h) fun u s1 ⟨x,H1,I1,rx,a,dx,fs,ex,ea,l,q⟩=>?_) ht
 subst ex
 obtain rfl:u=Value.ref a:=rx
 refine qjo I1 ea c hm l ?_
 exact PySem.W.callWith_K0 (first:=[.ref a]) I1.kIn hm.kp (qn4 (us:=[.ref a]) (vs:=[.ref a]) F hr hb hd hx I1 (.cons rfl .nil) q)
structure Mk (K:PySem.W.Frag) (C f:Addr):Prop where
 makes:PySem.W.makesIn K C=true
 init:PySem.W.findIn K (.ref C) "__init__"=some (some (.ref f))
 fn:PySem.W.isFn K (.ref f)=true
 kp:PySem.W.keepIn K (.ref C)=true
theorem run_make {pins:List (Addr×Obj)}{σ:St}{H:Hp}{s:Shared}{Q:VK}{us:List Value}{vs:List V} (M:Mk X.K C f) (F:FnOk X.prog X.w X.K X.mg X.base CX k f fd ps sp) (hr:Room (k+1) X.A) (hb:Binds X.K fd ps ds) (hd:Vals dvs ds)
  (hx:qc7 CX X E) (I:Inv X pins σ H s) (r:Vals vs us)
  (h:∀ x dx,H x=none→H dx=none→dx≠x→sp (.ref x::(vs++dvs)) (upd (upd H dx (.own x)) x (.ins C dx [])) (fun v H2=>v=.non∧Q (.ref x) H2) E) :
  wpAny (model X.prog X.w) X.A (call (.ref C) us) (EP X pins σ Q) X.xe s:=by
 have hq:=h (s.heap.objs.size+1) s.heap.objs.size (I.hok.fresh (Nat.le_succ _)) (I.hok.fresh (Nat.le_refl _)) (Nat.ne_of_lt (Nat.lt_succ_self _))
 have I2:=Inv.made (C:=C) I
 have r2:Vals (V.ref (s.heap.objs.size+1)::(vs++dvs)) (Value.ref (s.heap.objs.size+1)::(us++ds)):=.cons rfl (r.append hd)
 have hl:(Value.ref (s.heap.objs.size+1)::us++ds).length=ps.length:=by
  have e:=r2.length
  rw [F.len _ _ _ _ hq] at e
  exact e.symm
 refine wpAny_call (make_map (f:=f) I.kIn M.makes M.init (beq_iff_eq.mp M.fn) (codeAny_mono (F.run _ X.stack _ _ ⟨Value.ref (s.heap.objs.size+1)::us,[]⟩ (Value.ref (s.heap.objs.size+1)::(us++ds)) _ _ E (hr.make C us [])
  (I2.env0.make C us []) (hb _ (Value.ref (s.heap.objs.size+1)::us) I2.kIn hl) r2 hq) fun r s' hq'=>?_))
 cases r with
 | error e=>exact hx pins σ _ _ e s' I2 hq'
 | ok fl =>
  cases fl with
  | ret u =>
   obtain ⟨v,H',I3,rv,ev,q3⟩:=I2.after hq'
   subst ev
   exact ⟨rv,⟨V.ref (s.heap.objs.size+1),H',I3,rfl,q3⟩⟩
  | next=>exact False.elim hq'
  | brk=>exact False.elim hq'
  | cont=>exact False.elim hq'
theorem pe_make0 (M:Mk X.K C f) (F:FnOk X.prog X.w X.K X.mg X.base CX k f fd ps sp) (hr:Room (k+1) X.A) (hg:Gl X x) (hm:X.mg x=some (.ref C)) (hb:Binds X.K fd ps ds) (hd:Vals dvs ds) (hx:qc7 CX X E)
  (hdb:(x == ("__debug__":Str))=false:=by decide):PE X (.Call (.Name x p) [] [] pos) (tMake C sp dvs E tNil):=by
 intro pins s σ H Q I h
 refine wpAny_Call_Name_kw (qia I hg hm ?_ hdb)
 exact PySem.W.callWith_K0 I.kIn M.kp (run_make (us:=[]) M F hr hb hd hx I .nil h)
end
section
variable {X:Cx}{CX:CXT}{k:Nat}{f C:Addr}{fd:FuncData}{ps ks:List Str}{sp:Sp}{E:XK}{x m:Str}{p pos apos kpos:Pos}{e o:Expr}{es:List Expr}{kws:List Keyword}{te ta:TE}{t tk:TA}{nm:Option Str}
structure KBinds (K:PySem.W.Frag) (fd:FuncData) (ps ks:List Str) (g:List Value→List Value→List Value) (gV:List V→List V→List V):Prop where
 to:∀ (s:Shared) (us ws:List Value),K.In s.heap→(g us ws).length=ps.length→BindsTo s fd ⟨us,ks.zip ws⟩ (ps.zip (g us ws))
 rel:∀ {vs:List V}{us:List Value}{zs:List V}{ws:List Value},Vals vs us→Vals zs ws→Vals (gV vs zs) (g us ws)
variable {g:List Value→List Value→List Value}{gV:List V→List V→List V}
end
structure FnScope (N P:List Str) (sc:Scope):Prop where
 kind:sc.kind=.function
 co:sc.isCoroutine=false
 gen:sc.isGenerator=false
 nd:N.Nodup
 pre:N.take P.length=P
 par:∀ x∈P,sc.names.lookup x=some .local∨sc.names.lookup x=some .cell
 nofree:∀ y∈sc.names,y.2≠.free
theorem qm2 {kindOf:Str→Option NameKind}{x:Str}:∀ {binds:List (Str×Value)}{m:Str→Option Value},(∀ v,(x,v)∉binds)→bindL kindOf binds m x=m x
 | [],_,_=>rfl
 | (n,v)::r,m,h=>by
  unfold bindL
  rw [qm2 fun w hw=>h w (List.mem_cons_of_mem _ hw)]
  split
  ·have:x≠n:=by rintro rfl;exact h v List.mem_cons_self
   simp [this]
  ·rfl
theorem qm4 {kindOf:Str→Option NameKind}{x:Str}:∀ {binds:List (Str×Value)}{m:Str→Option Value},(∀ v,(x,v)∉binds)→bindC kindOf binds m x=m x
 | [],_,_=>rfl
 | (n,v)::r,m,h=>by
  unfold bindC
  rw [qm4 fun w hw=>h w (List.mem_cons_of_mem _ hw)]
  split
  ·rfl
  ·have:x≠n:=by rintro rfl;exact h v List.mem_cons_self
   simp [this]
theorem qm3 {kindOf:Str→Option NameKind}{x:Str}{v:Value}:∀ {P:List Str}{vs:List Value}{i:Nat}{m:Str→Option Value},P.Nodup→P[i]?=some x→vs[i]?=some v→kindOf x=some .local →
  bindL kindOf (P.zip vs) m x=some v
 | [],_,_,_,_,h,_,_=>by simp at h
 | _::_,[],_,_,_,_,h,_=>by simp at h
 | p::P,w::vs,0,m,nd,h1,h2,hk=>by
  simp at h1 h2;subst h1;subst h2
  show bindL kindOf ((p,w)::P.zip vs) m p=_
  unfold bindL
  rw [qm2 fun v hv=>(List.nodup_cons.mp nd).1 (List.of_mem_zip hv).1,if_pos hk]
  simp
 | p::P,w::vs,i+1,m,nd,h1,h2,hk=>by
  show bindL kindOf ((p,w)::P.zip vs) m x=_
  unfold bindL
  exact qm3 (i:=i) (List.nodup_cons.mp nd).2 (by simpa using h1) (by simpa using h2) hk
theorem qm5 {kindOf:Str→Option NameKind}{x:Str}{v:Value}:∀ {P:List Str}{vs:List Value}{i:Nat}{m:Str→Option Value},P.Nodup→P[i]?=some x→vs[i]?=some v→kindOf x≠some .local →
  bindC kindOf (P.zip vs) m x=some v
 | [],_,_,_,_,h,_,_=>by simp at h
 | _::_,[],_,_,_,_,h,_=>by simp at h
 | p::P,w::vs,0,m,nd,h1,h2,hk=>by
  simp at h1 h2;subst h1;subst h2
  show bindC kindOf ((p,w)::P.zip vs) m p=_
  unfold bindC
  rw [qm4 fun v hv=>(List.nodup_cons.mp nd).1 (List.of_mem_zip hv).1,if_neg hk]
  simp
 | p::P,w::vs,i+1,m,nd,h1,h2,hk=>by
  show bindC kindOf ((p,w)::P.zip vs) m x=_
  unfold bindC
  exact qm5 (i:=i) (List.nodup_cons.mp nd).2 (by simpa using h1) (by simpa using h2) hk
def start (N:List Str) (vs:List V):St:=vs.map some++List.replicate (N.length - vs.length) none
def cxOf (CX:CXT) (P:Program) (w:World) (K:PySem.W.Frag) (mg:Str→Option Value) (base:Heap) (N:List Str) (qual:Str) (scope:Scope) (f:Addr) (cd:Value) (A:Around) (outer:List Env) (s:Shared) (H:Hp) (E:XK):Cx where
 prog:=P
 w:=w
 K:=K
 mg:=mg
 base:=base
 A:=A.deeper (envOfC qual scope s.heap.objs.size f cd)
 N:=N
 s₀:=s
 H₀:=H
 env:=envOfC qual scope s.heap.objs.size f cd
 outer:=outer
 stack:=envOfC qual scope s.heap.objs.size f cd::outer
 ex:=[]
 calm:=true
 fn:=fun _=>true
 pn:=[]
 xe:=fun e s'=>wpAny (model P w) (A.deeper (envOfC qual scope s.heap.objs.size f cd)) (leaving (envOfC qual scope s.heap.objs.size f cd) e) (fun _ s''=>CX outer H s E e s'') (fun e' s''=>CX outer H s E e' s'') s'
theorem qo5 {sc:Scope}{n:Nat}{x:Str} (h:sc.names.lookup x=some .cell):∃ c,(cellsFrom n sc.names []).lookup x=some c:=by
 have q:=PySem.W.cellsFrom_some sc.names n [] (.inl h)
 exact Option.isSome_iff_exists.mp q
theorem inv_start {CX:CXT}{P:Program}{w:World}{K:PySem.W.Frag}{mg:Str→Option Value}{base:Heap}{N ps:List Str}{qual:Str}{scope:Scope}{f:Addr}{cd:Value}{A:Around}{outer:List Env}{s s1:Shared}{H:Hp}{E:XK}{us:List Value}{vs:List V}
  (S:FnScope N ps scope) (hd:A.handled=none) (e0:Env0 P w K mg base A outer s H) (hl:vs.length=ps.length) (r:Vals vs us)
  (x:InCallC s s.heap.objs.size (bindL (envOfC qual scope s.heap.objs.size f cd).kindOf (ps.zip us) fun _=>none) (cellsFrom (s.heap.objs.size+1) scope.names []) (bindC (envOfC qual scope s.heap.objs.size f cd).kindOf (ps.zip us) fun _=>none) s1) :
  Inv (cxOf CX P w K mg base N qual scope f cd A outer s H E) [] (start N vs) H s1:=by
 have hpl:ps.length≤N.length:=by have:=congrArg List.length S.pre;rw [List.length_take] at this;omega
 obtain ⟨h1,tk,rfl,hk⟩:=x.done
 have noA:∀ b:Addr,b∉(cxOf CX P w K mg base N qual scope f cd A outer s H E).ex:=fun b z=>absurd (show b∈([]:List Addr) from z) (by simp)
 refine ⟨⟨e0.mod,S.kind,rfl,rfl,Nat.le_refl _,fun y z c h1 h2=>?_,fun y hy=>?_,fun y c _ h=>?_,fun _=>hd,Around.frames_deeper e0.frames,.inr ⟨rfl,rfl⟩,fun b z=>absurd z (noA b),e0.bs,e0.bsz,fun b _ _=>noA b,fun b z=>absurd z (noA b),e0.funs,e0.frf⟩,
  rfl,e0.bare,Un.kept hk,⟨_,x.toInCall.ns,fun i y v h1 h2 h3=>?_⟩,fun y c h=>⟨_,x.cell y c h⟩,e0.hok.fresh (Nat.le_refl _),fun y c h=>?_,fun p hp=>absurd (show p∈([]:List (Addr×Obj)) from hp) (by simp),e0.hok.kept hk,?_⟩
 ·exact name_of_addr x.apart (PySem.mem_of_lookup h1) (PySem.mem_of_lookup h2)
 ·have hy:scope.names.lookup y=some .cell∨scope.names.lookup y=some .free:=hy
  rcases hy with hy | hy
  ·exact qo5 hy
  ·exact absurd rfl (S.nofree _ (PySem.mem_of_lookup hy))
 ·exact Nat.le_of_lt (x.above y c (PySem.mem_of_lookup h))
 ·have hi:i < vs.length:=by
   unfold start at h2
   by_cases hi:i < vs.length
   ·exact hi
   ·rw [List.getElem?_append_right (by simpa using hi)] at h2
    rw [List.getElem?_replicate] at h2
    split at h2 <;> cases h2
  have ha:vs[i]?=some v:=by
   unfold start at h2
   rw [List.getElem?_append_left (by simpa using hi),List.getElem?_map] at h2
   cases e:vs[i]? with
   | none=>rw [e] at h2;cases h2
   | some a=>rw [e] at h2;cases h2;rfl
  obtain ⟨u,hu,rv⟩:=r.get ha
  have hp:ps[i]?=some y:=by
   rw [← S.pre,List.getElem?_take_of_lt (by omega)];exact h1
  have ndP:ps.Nodup:=by rw [← S.pre];exact S.nd.sublist (List.take_sublist _ _)
  refine ⟨u,rv,?_⟩
  rcases S.par y (List.mem_of_getElem? hp) with k | k
  ·exact .inl ⟨k,qm3 ndP hp hu k⟩
  ·obtain ⟨c,e⟩:=qo5 (n:=s.heap.objs.size+1) k
   refine .inr ⟨.inl k,c,e,?_⟩
   have q:=x.cell y c e
   rw [qm5 ndP hp hu (by show scope.names.lookup y≠_;rw [k];decide)] at q
   exact q
 ·exact e0.hok.fresh (Nat.le_of_lt (x.above y c (PySem.mem_of_lookup h)))
 ·unfold start
  show _=N.length
  rw [List.length_append,List.length_map,List.length_replicate]
  omega
theorem fn_of {CX:CXT}{P:Program}{w:World}{K:PySem.W.Frag}{mg:Str→Option Value}{base:Heap}{k:Nat}{f:Addr}{name qual:Str}{params:Arguments}{body:List Stmt}{scope:Scope}{dV kV doc pm cdv ct oc:Value}{an od:Option Addr}
  {osl:Array (Option Value)}{N ps:List Str}{sp:Sp} (lk:K.lookup f=some ⟨oc,od,.func (PySem.W.fnOf name qual params body scope dV kV doc pm an cdv ct),osl⟩) (hcd:PySem.W.codeIn K cdv qual=true) (S:FnScope N ps scope)
  (len:∀ vs H Q E,sp vs H Q E→vs.length=ps.length)
  (hbody:∀ (A:Around) (outer:List Env) (s:Shared) (H:Hp) (vs:List V) (Q:VK) (E:XK),Room k (A.deeper (envOfC qual scope s.heap.objs.size f cdv))→sp vs H Q E →
   ∃ t,PSs (cxOf CX P w K mg base N qual scope f cdv A outer s H E) body t∧t { nx:=fun _ H'=>Q .non H',rt:=Q } (start N vs) H) :
  FnOk P w K mg base CX (k+1) f (PySem.W.fnOf name qual params body scope dV kV doc pm an cdv ct) ps sp:=by
 refine ⟨len,fun A outer s H args us vs Q E hr e0 hb r hsp=>?_⟩
 have hl:=len _ _ _ _ hsp
 have KX:K.In s.heap:=e0.mod.kin.keeps fun b o e=>(e0.bs b o e).1
 have lim:s.heap.NoLimit:=e0.mod.nolimit.keeps fun b o e=>(e0.bs b o e).1
 have hkind:∀ y∈ps.zip us,scope.names.lookup y.1=some .local∨(scope.names.lookup y.1=some .cell∧((cellsFrom (s.heap.objs.size+1) scope.names []).lookup y.1).isSome=true):=fun ⟨n,v⟩ hy=>by
  rcases S.par n (List.of_mem_zip hy).1 with q | q
  ·exact .inl q
  ·exact .inr ⟨q,PySem.W.cellsFrom_some _ _ _ (.inl q)⟩
 refine codeAny_call_function hr.depth (KX _ _ lk) rfl S.co S.gen rfl (PySem.W.codeRec_of KX hcd) (hb _ _ _ _ ?_)
 refine wpAny_newFunctionEnv_cells S.kind hkind fun env he s1 x=>?_
 subst he
 refine ⟨lim.keeps x.toInCall.keep,codeAny_func ?_⟩
 obtain ⟨t,ht,hq⟩:=hbody A outer s H vs Q E (hr.deeper _) hsp
 have I:Inv (cxOf CX P w K mg base N qual scope f cdv A outer s H E) [] (start N vs) H s1:=inv_start S hr.hd e0 hl r x
 refine wpAny_mono (ht [] s1 (start N vs) H _ I hq) (fun fl s' hs=>?_) fun e s' hs=>hs
 have fin:∀ {σ':St}{H':Hp}{v:V}{u:Value},Inv (cxOf CX P w K mg base N qual scope f cdv A outer s H E) [] σ' H' s'→RelV v u→Q v H'→CE outer P w H s Q u s' :=
  fun {σ' H' v u} J rv q=>⟨v,H',J.os,J.bare,J.base,J.hok,rv,q⟩
 cases fl with
 | ret u =>
  obtain ⟨v,σ',H',J,rv,q⟩:=hs
  exact fin J rv q
 | next =>
  obtain ⟨σ',H',J,q⟩:=hs
  exact fin (v:=V.non) (u:=Value.none) J rfl q
 | brk =>
  obtain ⟨_,_,_,q⟩:=hs
  exact False.elim q
 | cont =>
  obtain ⟨_,_,_,q⟩:=hs
  exact False.elim q
end L2
namespace L2
open PySem PySem.Spec PyProof.Rows
section
variable {X:Cx}{x:Str}{p pos:Pos}{e:Expr}{es:List Expr}{t:TA}{id T:String}{r:List V→Hp→VK→Prop}
def tCB (r:List V→Hp→VK→Prop) (t:TA):TE:=fun σ H Q=>t σ H fun vs H1=>r vs H1 Q
theorem qdp (hc:CallR X (.builtin id) r) (hg:Gl X x) (hm:X.mg x=none) (hv:bootBuiltins x=some (.builtin id)) (ha:PA X (e::es) t) (hn:x≠"__name__":=by decide) (hdb:(x == ("__debug__":Str))=false:=by decide)
  (he:starEach (e::es) X.env=(false,eval e X.env)::starEach es X.env:=by rfl) (hpl:(backTo pos (starEach es X.env)).any (·.1)=false:=by rfl):PE X (.Call (.Name x p) (e::es) [] pos) (tCB r t):=by
 intro pins s σ H Q I h
 refine wpAny_Call_Name_kw (qoi I hg hm hv ?_ hn hdb)
 exact PyProof.Rows.callWith_builtin1 (thn (ha pos pins s σ H _ I h) fun us s1 ⟨vs,H1,I1,r1,q1⟩=>hc pins s1 σ H1 vs us Q I1 r1 q1) he hpl
theorem pe_callTy (hc:CallR X (.type T) r) (hg:Gl X x) (hm:X.mg x=none) (hv:bootBuiltins x=some (.type T)) (ha:PA X (e::es) t) (hn:x≠"__name__":=by decide) (hdb:(x == ("__debug__":Str))=false:=by decide)
  (he:starEach (e::es) X.env=(false,eval e X.env)::starEach es X.env:=by rfl) (hpl:(backTo pos (starEach es X.env)).any (·.1)=false:=by rfl):PE X (.Call (.Name x p) (e::es) [] pos) (tCB r t):=by
 intro pins s σ H Q I h
 refine wpAny_Call_Name_kw (qoi I hg hm hv ?_ hn hdb)
 exact PyProof.Rows.callWith_type1 (thn (ha pos pins s σ H _ I h) fun us s1 ⟨vs,H1,I1,r1,q1⟩=>hc pins s1 σ H1 vs us Q I1 r1 q1) he hpl
end
end L2
namespace HT
open PySem PyProof.Rows
section
open PySem.SeqAt
open PySem.AutoSeq1 (wpAny_loadPart')
open PySem.MeetsSeq PySem.MeetsSeq2 PySem.MeetsSeq3
end
section
variable {prog:Program}{w:World}{A:Around}{E:Value→Shared→Prop}{s:Shared}
def sIx (n d:Nat):Option Int→Nat
 | none=>d
 | some v=>if v < 0 then (v+(n:Int)).toNat else min v.toNat n
theorem sIx_le (n d:Nat) (hd:d≤n) (o:Option Int):sIx n d o≤n:=by
 cases o with
 | none=>exact hd
 | some v =>
  show (if v < 0 then (v+(n:Int)).toNat else min v.toNat n)≤n
  by_cases hv:v < 0
  ·rw [if_pos hv];omega
  ·rw [if_neg hv];exact Nat.min_le_right _ _
theorem clip_eq (v:Int) (n d:Nat):(if v < 0 then max (v+(n:Int)) 0 else min v (n:Int))=((sIx n d (some v):Nat):Int):=by
 show (if v < 0 then max (v+(n:Int)) 0 else min v (n:Int))=(((if v < 0 then (v+(n:Int)).toNat else min v.toNat n):Nat):Int)
 by_cases hv:v < 0
 ·simp only [if_pos hv];omega
 ·simp only [if_neg hv];omega
theorem adjust_gen (lo hi:Option Int) (n:Nat):Builtin.Slice.sliceAdjust lo hi 1 (n:Int)=(((sIx n 0 lo:Nat):Int),((sIx n n hi:Nat):Int)):=by
 have h1:¬ ((1:Int) < 0):=by omega
 unfold Builtin.Slice.sliceAdjust
 simp only [h1,if_false]
 refine Prod.ext ?_ ?_
 ·cases lo with
  | none=>rfl
  | some v=>exact clip_eq v n 0
 ·cases hi with
  | none=>rfl
  | some v=>exact clip_eq v n n
theorem places_gen (i j:Nat):Builtin.Slice.slicePlaces (i:Int) (j:Int) 1=j - i:=by
 unfold Builtin.Slice.slicePlaces
 have h1:(1:Int) > 0:=by omega
 simp only [h1,if_true,Int.ediv_one]
 split <;> omega
theorem qi9 {v:Value}{o:Option Int}{Q:Option Int→Shared→Prop} (p:IsPart v o) (h:Q o s):wpAny (model prog w) A (Builtin.Slice.slicePartIndex v) Q E s:=by
 cases p with
 | none=>exact slicePart_none h
 | int i t=>exact slicePart_int h
theorem qg6 {sl:Addr}{vl vu:Value}{lo hi:Option Int}{n:Nat}{Q:Int×Int×Nat→Shared→Prop} (hs:s.heap.IsSliceOf sl vl vu .none) (pl:IsPart vl lo) (pu:IsPart vu hi)
  (h:Q (((sIx n 0 lo:Nat):Int),1,sIx n n hi - sIx n 0 lo) s):wpAny (model prog w) A (Builtin.Slice.sliceApplied (.ref sl) (pure (n:Int))) Q E s:=by
 obtain ⟨os,hos,hcs,hds⟩:=id hs
 unfold Builtin.Slice.sliceApplied Builtin.Slice.sliceFields
 refine wpAny_bind (wpAny_bind (wpAny_field hos hds (x:=vl) rfl (wpAny_bind (wpAny_field hos hds (x:=vu) rfl (wpAny_bind (wpAny_field hos hds (x:=.none) rfl (wpAny_pure ?_)))))))
 refine wpAny_bind (slicePart_none ?_)
 show wpAny _ _ (if ((1:Int) == 0)=true then _ else _) _ _ s
 rw [if_neg (by decide)]
 refine wpAny_bind (qi9 pl (wpAny_bind (qi9 pu (wpAny_bind (wpAny_pure ?_)))))
 show wpAny _ _ (match Builtin.Slice.sliceAdjust lo hi 1 (n:Int) with | (lo,hi)=>pure (lo,(1:Int),Builtin.Slice.slicePlaces lo hi 1)) _ _ s
 rw [adjust_gen lo hi n]
 show wpAny _ _ (pure (((sIx n 0 lo:Nat):Int),(1:Int),Builtin.Slice.slicePlaces ((sIx n 0 lo:Nat):Int) ((sIx n n hi:Nat):Int) 1)) _ _ s
 rw [places_gen]
 exact wpAny_pure h
theorem pick_gen (xs:Array Value) (i k:Nat):((List.range k).filterMap fun (m:Nat)=>xs[((i:Int)+(m:Int) * 1).toNat]?).toArray=((xs.toList.drop i).take k).toArray:=by
 have e:(fun (m:Nat)=>xs[((i:Int)+(m:Int) * 1).toNat]?)=fun m=>xs[i+m]?:=by
  funext m
  have:((i:Int)+(m:Int) * 1).toNat=i+m:=by omega
  rw [this]
 rw [e]
 have:=pick_run xs i k
 rw [List.filterMap_map] at this
 have e2:((fun x=>xs[x]?) ∘ fun x=>i+x)=fun m=>xs[i+m]?:=rfl
 rw [e2] at this
 rw [this]
theorem getItem_tuple_cut {t sl:Addr}{items:Array Value}{vl vu:Value}{lo hi:Option Int}{Q:Value→Shared→Prop} (ht:IsTup s.heap t items) (hs:s.heap.IsSliceOf sl vl vu .none) (pl:IsPart vl lo) (pu:IsPart vu hi)
  (hw:¬ (sIx items.size 0 lo=0∧sIx items.size items.size hi=items.size))
  (h:Q (.ref s.heap.objs.size) { s with heap:=s.heap.push { cls:=.type "tuple",data:=.seq ((items.toList.drop (sIx items.size 0 lo)).take (sIx items.size items.size hi - sIx items.size 0 lo)).toArray } })
  (hsz:items.size≤sizeLine):wpAny (model prog w) A (getItem (.ref t) (.ref sl)) Q E s:=by
 have htake:sizeOk (.seq ((items.toList.drop (sIx items.size 0 lo)).take (sIx items.size items.size hi - sIx items.size 0 lo)).toArray):=by
  show ((items.toList.drop (sIx items.size 0 lo)).take (sIx items.size items.size hi - sIx items.size 0 lo)).toArray.size≤sizeLine
  rw [List.size_toArray,List.length_take,List.length_drop,Array.length_toList]
  omega
 have hj:sIx items.size items.size hi≤items.size:=sIx_le _ _ (Nat.le_refl _) hi
 obtain ⟨os,hos,hcs,hds⟩:=id hs
 have hTs:s.TypeIs (.ref sl) "slice":=⟨os,hos,hcs⟩
 unfold getItem
 try with_reducible refine wpAny_holding ?_
 first | refine wpAny_bind (wpAny_pure ?_) | skip
 refine wpAny_bind (wpAny_sequenceKey ht.typeIs (by decide) ?_)
 refine wpAny_bind (wpAny_callSpecial?_slot (name:=Str.ofString "__getitem__") ht.typeIs PyProof.Rows.slot_tuple_getitem
  (wpAny_call_entry PyProof.Rows.slot_tuple_getitem ht.typeIs entry_tuple_getitem ?_ (args_tuple_getitem _ _)))
 show wpAny _ _ (Builtin.Tuple.tupleItemsOf (.ref t) >>= _) _ _ s
 refine wpAny_bind (tupleItemsOf_ ht ?_)
 refine wpAny_bind (wpAny_typeOf hTs ?_)
 rw [if_pos (by decide)]
 refine wpAny_bind (qg6 hs pl pu ?_)
 have hno:¬ ((((sIx items.size 0 lo:Nat):Int) == 0 && (1:Int) == 1 && (sIx items.size items.size hi - sIx items.size 0 lo) == items.size)=true):=by
  intro q
  rw [Bool.and_eq_true,Bool.and_eq_true] at q
  have q1:((sIx items.size 0 lo:Nat):Int)=0:=eq_of_beq q.1.1
  have q2:sIx items.size items.size hi - sIx items.size 0 lo=items.size:=eq_of_beq q.2
  exact hw ⟨by omega,by omega⟩
 show wpAny _ _ (if (((sIx items.size 0 lo:Nat):Int) == 0 && (1:Int) == 1 && (sIx items.size items.size hi - sIx items.size 0 lo) == items.size)=true then _ else _) _ _ s
 rw [if_neg hno,pick_gen]
 first
  | exact wpAny_bind (m:=Builtin.Tuple.tupleExact _) (wpAny_newObj_type (wpAny_pure ⟨_,rfl,wpAny_pure h⟩) htake)
  | exact wpAny_bind (m:=Builtin.Tuple.tupleExact _) (wpAny_newObj_type (wpAny_bind (wpAny_pure (wpAny_pure ⟨_,rfl,wpAny_pure h⟩))) htake)
  | exact wpAny_bind (wpAny_bind (m:=Builtin.Tuple.tupleExact _) (wpAny_newObj_type (wpAny_pure (wpAny_pure ⟨_,rfl,wpAny_pure h⟩)) htake))
  | exact wpAny_bind (wpAny_bind (m:=Builtin.Tuple.tupleExact _) (wpAny_newObj_type (wpAny_pure ⟨_,rfl,wpAny_pure h⟩) htake))
end
end HT
namespace L2
open PySem PySem.Spec PyProof.Rows
abbrev TO:=St→Hp→(Option Int→Hp→Prop)→Prop
def PO (X:Cx) (e:Option Expr) (t:TO):Prop :=
 ∀ (pins:List (Addr×Obj)) (s:Shared) (σ:St) (H:Hp) (Q:Option Int→Hp→Prop),Inv X pins σ H s→t σ H Q →
  wpAny (model X.prog X.w) X.A (evalPart e X.env) (fun u s'=>∃ o H',Inv X pins σ H' s'∧IsPart u o∧Q o H') X.xe s
def tNoPart:TO:=fun _ H Q=>Q none H
def tPart (t:TE):TO:=fun σ H Q=>t σ H fun x H1=>∃ i,x=.int i∧Q (some i) H1
section
variable {X:Cx}{e:Expr}{te:TE}{lo hi:Option Expr}{tl th:TO}{pos p2:Pos}
theorem po_none:PO X none tNoPart:=by
 intro pins s σ H Q I h
 rw [evalPart_none]
 exact wpAny_pure ⟨none,H,I,.none,h⟩
theorem po_some (h:PE X e te):PO X (some e) (tPart te):=by
 intro pins s σ H Q I hw
 rw [evalPart_some]
 refine thn (h pins s σ H _ I hw) fun u s1 ⟨x,H1,I1,r1,q1⟩=>?_
 obtain ⟨i,rfl,q⟩:=q1
 obtain ⟨t,rfl⟩:=r1
 exact ⟨some i,H1,I1,.int i t,q⟩
def SlR (X:Cx) (r:V→Option Int→Option Int→Hp→VK→Prop):Prop :=
 ∀ (pins:List (Addr×Obj)) (s:Shared) (σ:St) (H:Hp) (x:V) (v vl vu:Value) (lo hi:Option Int) (sl:Addr) (Q:VK),Inv X pins σ H s→RelV x v→s.heap.IsSliceOf sl vl vu .none→IsPart vl lo→IsPart vu hi→r x lo hi H Q →
  ∃ T id,typeLookup (.type T) "__getitem__"=pure (some (.builtin id))∧s.TypeIs v T∧wpAny (model X.prog X.w) X.A (getItem v (.ref sl)) (EP X pins σ Q) X.xe s
theorem SlR.or {r r':V→Option Int→Option Int→Hp→VK→Prop} (h:SlR X r) (h':SlR X r'):SlR X (fun x lo hi H Q=>r x lo hi H Q∨r' x lo hi H Q):=by
 intro pins s σ H x v vl vu lo hi sl Q I rx hs pl pu q
 rcases q with q | q
 ·exact h pins s σ H x v vl vu lo hi sl Q I rx hs pl pu q
 ·exact h' pins s σ H x v vl vu lo hi sl Q I rx hs pl pu q
def tSl (r:V→Option Int→Option Int→Hp→VK→Prop) (te:TE) (tl th:TO):TE:=fun σ H Q=>te σ H fun x H1=>tl σ H1 fun l H2=>th σ H2 fun u H3=>r x l u H3 Q
theorem pe_slice {r:V→Option Int→Option Int→Hp→VK→Prop} (hr:SlR X r) (he:PE X e te) (hl:PO X lo tl) (hu:PO X hi th):PE X (.Subscript e (.Slice lo hi none p2) pos) (tSl r te tl th):=by
 intro pins s σ H Q I h
 refine Subscript_ (thn (he pins s σ H _ I h) fun v s1 ⟨x,H1,I1,r1,q1⟩=>?_)
 refine wpAny_Slice (thn (hl pins s1 σ H1 _ I1 q1) fun vl s2 ⟨l,H2,I2,pl,q2⟩=>thn (hu pins s2 σ H2 _ I2 q2) fun vu s3 ⟨u,H3,I3,pu,q3⟩=>?_)
 rw [evalPart_none]
 refine wpAny_pure ?_
 have I4:Inv X pins σ H3 { s3 with heap:=s3.heap.push { cls:=.type "slice",data:=.fields #[vl,vu,.none] } }:=I3.kept (t':=s3.toks) fun b ob q=>Heap.get?_push_of_some _ q
 obtain ⟨T,id,hT,ht,hg⟩:=hr pins { s3 with heap:=s3.heap.push { cls:=.type "slice",data:=.fields #[vl,vu,.none] } } σ H3 x v vl vu l u s3.heap.objs.size Q I4 r1 (Heap.IsSliceOf.new ..) pl pu q3
 show wpAny (model X.prog X.w) X.A (subscriptTail e (.Slice lo hi none p2) v (.ref s3.heap.objs.size)) (EP X pins σ Q) X.xe { s3 with heap:=s3.heap.push { cls:=.type "slice",data:=.fields #[vl,vu,.none] } }
 exact tail_any (ops:=[.ref s3.heap.objs.size,v]) ht hT hg (by with_unfolding_all rfl)
def cutV (xs:List V) (lo hi:Option Int):List V:=(xs.drop (HT.sIx xs.length 0 lo)).take (HT.sIx xs.length xs.length hi - HT.sIx xs.length 0 lo)
theorem qin (xs:List V) (lo hi:Option Int):(cutV xs lo hi).length≤xs.length:=by
 unfold cutV
 rw [List.length_take,List.length_drop]
 omega
def rSlT (K:PySem.W.Frag):V→Option Int→Option Int→Hp→VK→Prop:=fun x lo hi H Q=>∃ a xs,x=.ref a∧SqT K H a xs ∧
 ¬ (HT.sIx xs.length 0 lo=0∧HT.sIx xs.length xs.length hi=xs.length)∧∀ p,H p=none→Q (.ref p) (upd H p (.tup (cutV xs lo hi)))
theorem sl_tup:SlR X (rSlT X.K):=by
 intro pins s σ H x v vl vu lo hi sl Q I rx hs pl pu h
 obtain ⟨a,xs,rfl,hx,hw,q⟩:=h
 cases rx
 obtain ⟨its,r,ht,hz⟩:=I.tuple hx
 have hlen:its.toArray.size=xs.length:=by rw [List.size_toArray];exact r.length.symm
 refine ⟨"tuple",_,PyProof.Rows.slot_tuple_getitem.lookup,ht.typeIs,?_⟩
 refine HT.getItem_tuple_cut ht hs pl pu (by rw [hlen];exact hw) ?_ (by rw [hlen];exact hz)
 rw [hlen]
 refine ⟨.ref s.heap.objs.size,_,I.laid (t':=s.toks) (o:=.tup (cutV xs lo hi)) (fun b ob q=>Heap.get?_push_of_some _ q) (Nat.le_refl _) ?_,rfl,q _ (I.hok.fresh (Nat.le_refl _))⟩
 exact ⟨Nat.le_trans (qin xs lo hi) hz,_,(r.drop (HT.sIx xs.length 0 lo)).take (HT.sIx xs.length xs.length hi - HT.sIx xs.length 0 lo),IsTup.new _ _⟩
end
end L2
namespace L2
open PySem PySem.Spec PyProof.Rows
def ixN (n:Nat) (i:Int):Option Nat:=if 0≤i then (if i < n then some i.toNat else none) else if -(n:Int)≤i then some (i+n).toNat else none
def atI {α:Type} (xs:List α) (i:Int):Option α:=(ixN xs.length i).bind fun j=>xs[j]?
theorem ixN_seq {n:Nat}{i:Int}{j:Nat} (h:ixN n i=some j):seqIndex? i n=some j∧j < n∧-(n:Int)≤i∧i < n:=by
 unfold ixN at h
 by_cases h0:0≤i
 ·rw [if_pos h0] at h
  by_cases h1:i < n
  ·rw [if_pos h1] at h
   have e:i.toNat=j:=Option.some.inj h
   exact ⟨by rw [seqIndex_of h0 h1,e],by omega,by omega,h1⟩
  ·rw [if_neg h1] at h;cases h
 ·rw [if_neg h0] at h
  by_cases h1:-(n:Int)≤i
  ·rw [if_pos h1] at h
   have e:(i+n).toNat=j:=Option.some.inj h
   exact ⟨by rw [seqIndex_neg (by omega) h1,e],by omega,h1,by omega⟩
  ·rw [if_neg h1] at h;cases h
theorem qnw {α:Type}{xs:List α}{i:Int}{v:α} (h:atI xs i=some v):∃ j,seqIndex? i xs.length=some j∧xs[j]?=some v∧j < xs.length∧-(xs.length:Int)≤i∧i < xs.length:=by
 unfold atI at h
 cases e:ixN xs.length i with
 | none=>rw [e] at h;cases h
 | some j =>
  rw [e] at h
  obtain ⟨h1,h2,h3,h4⟩:=ixN_seq e
  exact ⟨j,h1,h,h2,h3,h4⟩
theorem qbe {α:Type}{xs:List α}{j:Nat}{v:α} (h:xs[j]?=some v):atI xs (j:Int)=some v:=by
 have hj:j < xs.length:=(List.getElem?_eq_some_iff.mp h).1
 have e:ixN xs.length (j:Int)=some j:=by
  unfold ixN
  rw [if_pos (by omega),if_pos (by omega)];simp
 unfold atI;rw [e];exact h
def PlainIx (b:Expr):Prop:=∀ o i,subscripted b false o i=operate [o,i] (getItem o i)
def IxR (X:Cx) (r:R2):Prop :=
 ∀ (value slice:Expr) (pins:List (Addr×Obj)) (s:Shared) (σ:St) (H:Hp) (x y:V) (v u:Value) (Q:VK),Inv X pins σ H s→RelV x v→RelV y u→r x y H Q →
  subscripted slice false v u=operate [v,u] (getItem v u)→wpAny (model X.prog X.w) X.A (subscriptTail value slice v u) (EP X pins σ Q) X.xe s
def MtR (X:Cx) (id:String) (r:V→List V→Hp→VK→Prop):Prop :=
 ∀ (pins:List (Addr×Obj)) (s:Shared) (σ:St) (H:Hp) (x:V) (xs:List V) (v:Value) (us:List Value) (Q:VK),Inv X pins σ H s→RelV x v→Vals xs us→r x xs H Q →
  wpAny (model X.prog X.w) X.A (call (.builtin id) (v::us)) (EP X pins σ Q) X.xe s
section
variable {X:Cx}{a b:Expr}{ta tb:TE}{pos:Pos}
theorem IxR.or {r r':R2} (h:IxR X r) (h':IxR X r'):IxR X (fun x y H Q=>r x y H Q∨r' x y H Q):=by
 intro value slice pins s σ H x y v u Q I rx ry q hs
 rcases q with q | q
 ·exact h value slice pins s σ H x y v u Q I rx ry q hs
 ·exact h' value slice pins s σ H x y v u Q I rx ry q hs
theorem qfh {r:R2} (hr:IxR X r) (ha:PE X a ta) (hb:PE X b tb) (hs:PlainIx b):PE X (.Subscript a b pos) (tOp r ta tb):=by
 intro pins s σ H Q I h
 exact Subscript_ (binT ha hb I h fun v u s2 x y H2 I2 rx ry q=>hr a b pins s2 σ H2 x y v u Q I2 rx ry q (hs _ _))
def rIxL (K:PySem.W.Frag):R2:=fun x y H Q=>∃ p xs i v,x=.ref p∧y=.int i∧SqL K H p xs∧atI xs i=some v∧Q v H
def rIxT (K:PySem.W.Frag):R2:=fun x y H Q=>∃ p xs i v,x=.ref p∧y=.int i∧SqT K H p xs∧atI xs i=some v∧Q v H
def rIxS:R2:=fun x y H Q=>∃ z i c,x=.str z∧y=.int i∧z.length≤sizeLine∧atI z.cps.toList i=some c∧Q (.str ⟨#[c]⟩) H
theorem ix_list:IxR X (rIxL X.K):=by
 intro value slice pins s σ H x y v u Q I rx ry h hs
 obtain ⟨p,xs,i,z,rfl,rfl,hq,he,q⟩:=h
 cases rx
 obtain ⟨t,rfl⟩:=ry
 obtain ⟨its,r,pl,hz⟩:=I.list hq
 obtain ⟨j,h1,h2,h3,h4,h5⟩:=qnw he
 obtain ⟨w,ew,rw'⟩:=r.get h2
 have hl:=r.length
 have hn:=qjl
 have fin:EP X pins σ Q w s:=⟨z,H,I,rw',q⟩
 by_cases h0:0≤i
 ·have hj:i.toNat=j:=by
   rw [seqIndex_of h0 h5] at h1
   exact Option.some.inj h1
  exact item_listR pl.isList h0 (by omega) (by rw [hj];simpa using ew) fin hs
 ·have hj:(i+(its.toArray.size:Int)).toNat=j:=by
   rw [seqIndex_neg (by omega) h4] at h1
   rw [List.size_toArray,← hl]
   exact Option.some.inj h1
  exact subscriptTail_builtinR (x:=w) pl.isList.typeIs slot_list_getitem.lookup
   (wpAny_getItem_list_neg (Q:=fun r s'=>r=w∧EP X pins σ Q r s') pl.isList (by omega) (by rw [List.size_toArray] <;> omega) (by omega) (by rw [hj];simpa using ew) ⟨rfl,fin⟩) hs
theorem ix_tup:IxR X (rIxT X.K):=by
 intro value slice pins s σ H x y v u Q I rx ry h hs
 obtain ⟨p,xs,i,z,rfl,rfl,hq,he,q⟩:=h
 cases rx
 obtain ⟨t,rfl⟩:=ry
 obtain ⟨its,r,pl,hz⟩:=I.tuple hq
 obtain ⟨j,h1,h2,h3,h4,h5⟩:=qnw he
 obtain ⟨w,ew,rw'⟩:=r.get h2
 have hl:=r.length
 have hn:=qjl
 have fin:EP X pins σ Q w s:=⟨z,H,I,rw',q⟩
 exact subscriptTail_builtinR (x:=w) pl.typeIs slot_tuple_getitem.lookup
  (getItem_tuple (j:=j) (Q:=fun r s'=>r=w∧EP X pins σ Q r s') pl (by omega) (by omega) (by rw [List.size_toArray,← hl];exact h1) (by simpa using ew) ⟨rfl,fin⟩) hs
theorem ix_str:IxR X rIxS:=by
 intro value slice pins s σ H x y v u Q I rx ry h hs
 obtain ⟨z,i,c,rfl,rfl,hz,he,q⟩:=h
 obtain ⟨t,rfl⟩:=rx
 obtain ⟨t',rfl⟩:=ry
 obtain ⟨j,h1,h2,h3,h4,h5⟩:=qnw he
 have hl:z.cps.toList.length=z.length:=by simp [Str.length]
 rw [hl] at h1 h4 h5
 have hn:=qjl
 exact tail_any (typeIs_str s z t) slot_str_getitem.lookup (getItem_str (c:=c) (by
  have e1:decide (i < -(2 ^ 63:Int))=false:=decide_eq_false (by omega)
  have e2:decide (i ≥ 2 ^ 63)=false:=decide_eq_false (by omega)
  rw [e1,e2,Bool.or_false]) (by rw [h1];simpa using h2) ⟨.str ⟨#[c]⟩,H,I.tok _,⟨_,rfl⟩,q⟩) hs
theorem mapSeq_set (its:List Value) (n j:Nat) (u:Value):Obj.mapSeq (·.setIfInBounds j u) { cls:=.type "list",data:=.seq its.toArray n }={ cls:=.type "list",data:=.seq (its.set j u).toArray n }:=by
 simp [Obj.mapSeq]
theorem Inv.lst {pins:List (Addr×Obj)}{σ:St}{H:Hp}{s:Shared}{p:Addr}{xs:List V} (I:Inv X pins σ H s) (h:H p=some (.lst xs)) :
  ∃ (its:List Value) (n:Nat),Vals xs its∧s.heap.get? p=some { cls:=.type "list",data:=.seq its.toArray n }∧xs.length≤sizeLine:=by
 obtain ⟨z,its,n,r,e⟩:=I.hok p _ h
 exact ⟨its,n,r,e,z⟩
theorem Inv.lstUpd {pins:List (Addr×Obj)}{σ:St}{H:Hp}{s:Shared}{p:Addr}{xs ys:List V}{its its':List Value}{n n':Nat}{f:Obj→Obj} (I:Inv X pins σ H s) (h:H p=some (.lst xs))
  (ho:s.heap.get? p=some { cls:=.type "list",data:=.seq its.toArray n }) (hf:f { cls:=.type "list",data:=.seq its.toArray n }={ cls:=.type "list",data:=.seq its'.toArray n' }) (r:Vals ys its') (hz:ys.length≤sizeLine) (t:Nat) :
  Inv X pins σ (upd H p (.lst ys)) { s with heap:=s.heap.update p f,toks:=t }:=by
 have e:(s.heap.update p f).get? p=some { cls:=.type "list",data:=.seq its'.toArray n' }:=by
  rw [Heap.get?_update_self f ho (by rw [hf] <;> rfl),hf]
 refine I.write (x:=p) (e:=p) (by rw [h];trivial) (.inl rfl) (fun b u hb q=>(Heap.get?_update_other _ _ (Ne.symm hb)).trans q) ⟨_,e⟩ ?_
 exact ⟨hz,its',n',r,e⟩
def rSetL:V→V→V→Hp→(Hp→Prop)→Prop:=fun o i v H Q=>∃ p xs k j,o=.ref p∧i=.int k∧H p=some (.lst xs)∧ixN xs.length k=some j∧Q (upd H p (.lst (xs.set j v)))
theorem set_list:PSet X rSetL:=by
 intro pins s σ H o i v ov iv u Q I ro ri rv h
 obtain ⟨p,xs,k,j,rfl,rfl,hp,hj,q⟩:=h
 cases ro
 obtain ⟨t,rfl⟩:=ri
 obtain ⟨its,n,r,ho,hz⟩:=I.lst hp
 obtain ⟨h1,h2,h3,h4⟩:=ixN_seq hj
 have hl:=r.length
 have hn:=qjl
 have I':Inv X pins σ (upd H p (.lst (xs.set j v))) { s with heap:=s.heap.update p (Obj.mapSeq (·.setIfInBounds j u)) } :=
  I.lstUpd hp ho (mapSeq_set its n j u) (r.set rv j) (by rw [List.length_set];exact hz) s.toks
 by_cases h0:0≤k
 ·have hk:k.toNat=j:=by
   rw [seqIndex_of h0 h4] at h1
   exact Option.some.inj h1
  exact PySem.W.ki_setAt ho h0 (by omega) (by rw [List.size_toArray,← hl];exact h4) (by rw [hk];exact ⟨_,I',q⟩)
 ·have hk:(k+(its.toArray.size:Int)).toNat=j:=by
   rw [seqIndex_neg (by omega) h3] at h1
   rw [List.size_toArray,← hl]
   exact Option.some.inj h1
  exact PySem.W.ki_setBack ho (by omega) (by rw [List.size_toArray,← hl];exact h3) (by omega) (by rw [hk];exact ⟨_,I',q⟩)
theorem qln (lo hi:Option Int) (n:Nat):(sliceBounds lo hi none n).1=((HT.sIx n 0 lo:Nat):Int)∧(sliceBounds lo hi none n).2.1=((HT.sIx n n hi:Nat):Int)∧(sliceBounds lo hi none n).2.2=1:=by
 refine ⟨?_,?_,rfl⟩
 ·cases lo with
  | none=>simp [sliceBounds,HT.sIx]
  | some i =>
   simp only [sliceBounds,HT.sIx,Option.getD_none,show (1:Int) > 0 by decide,if_true]
   by_cases h:i < 0
   ·simp only [h,if_true] <;> omega
   ·simp only [h,if_false] <;> omega
 ·cases hi with
  | none=>simp [sliceBounds,HT.sIx]
  | some i =>
   simp only [sliceBounds,HT.sIx,Option.getD_none,show (1:Int) > 0 by decide,if_true]
   by_cases h:i < 0
   ·simp only [h,if_true] <;> omega
   ·simp only [h,if_false] <;> omega
theorem qka (its:List Value) (lo hi:Option Int):slicePick its.toArray lo hi none=((its.drop (HT.sIx its.length 0 lo)).take (HT.sIx its.length its.length hi - HT.sIx its.length 0 lo)).toArray:=by
 obtain ⟨h1,h2,h3⟩:=qln lo hi its.toArray.size
 unfold slicePick
 rw [h1,h2,h3]
 simp only [sliceRange_one,pick_run,List.size_toArray] <;> rfl
def rSlL (K:PySem.W.Frag):V→Option Int→Option Int→Hp→VK→Prop:=fun x lo hi H Q=>∃ a xs,x=.ref a∧SqL K H a xs∧∀ p,H p=none→Q (.ref p) (upd H p (.lst (cutV xs lo hi)))
theorem sl_list:SlR X (rSlL X.K):=by
 intro pins s σ H x v vl vu lo hi sl Q I rx hs pl pu h
 obtain ⟨a,xs,rfl,hx,q⟩:=h
 cases rx
 obtain ⟨its,r,ht,hz⟩:=I.list hx
 have hlen:=r.length
 refine ⟨"list",_,slot_list_getitem.lookup,ht.isList.typeIs,?_⟩
 refine wpAny_getItem_list_slice ht.isList hs pl pu .none (by simp) ?_ (by rw [List.size_toArray] <;> omega)
 rw [qka,← hlen]
 refine ⟨.ref s.heap.objs.size,_,I.laid (t':=s.toks) (o:=.lst (cutV xs lo hi)) (fun b ob q=>Heap.get?_push_of_some _ q) (Nat.le_refl _) ?_,rfl,q _ (I.hok.fresh (Nat.le_refl _))⟩
 exact ⟨Nat.le_trans (qin xs lo hi) hz,_,0,(r.drop (HT.sIx xs.length 0 lo)).take (HT.sIx xs.length xs.length hi - HT.sIx xs.length 0 lo),Heap.get?_push_size _ rfl⟩
def qf7:V→Bool
 | .non=>true
 | .bl _=>true
 | .int _=>true
 | .str _=>true
 | _=>false
def eqV:V→V→Bool
 | .non,.non=>true
 | .bl a,.bl b=>a == b
 | .bl a,.int b=>(if a then 1 else 0) == b
 | .int a,.bl b=>a == (if b then 1 else 0)
 | .int a,.int b=>a == b
 | .str a,.str b=>a == b
 | _,_=>false
theorem eqAt_V {A:Around}{s:Shared}{y x:V}{u v:Value} (ry:RelV y u) (rx:RelV x v) (fy:qf7 y=true) (fx:qf7 x=true):SeqAt.EqAt A s u v (eqV y x):=by
 cases y with
 | non =>
  cases ry
  cases x with
  | non=>cases rx;exact SeqAt.EqAt.same _
  | bl b=>cases rx;exact SeqAt.EqAt.none_bool b
  | int b=>obtain ⟨t,rfl⟩:=rx;exact SeqAt.EqAt.none_int b t
  | str b=>obtain ⟨t,rfl⟩:=rx;exact SeqAt.EqAt.none_str b t
  | _=>exact absurd (show false=true from fx) Bool.false_ne_true
 | bl a =>
  cases ry
  cases x with
  | non=>cases rx;exact SeqAt.EqAt.bool_none a
  | bl b=>cases rx;exact SeqAt.EqAt.bool_bool a b
  | int b=>obtain ⟨t,rfl⟩:=rx;exact SeqAt.EqAt.bool_int a b t
  | str b=>obtain ⟨t,rfl⟩:=rx;exact SeqAt.EqAt.bool_str a b t
  | _=>exact absurd (show false=true from fx) Bool.false_ne_true
 | int a =>
  obtain ⟨t',rfl⟩:=ry
  cases x with
  | non=>cases rx;exact SeqAt.EqAt.int_none a t'
  | bl b=>cases rx;exact SeqAt.EqAt.int_bool a t' b
  | int b=>obtain ⟨t,rfl⟩:=rx;exact SeqAt.EqAt.int_int a t' b t
  | str b=>obtain ⟨t,rfl⟩:=rx;exact SeqAt.EqAt.int_str a t' b t
  | _=>exact absurd (show false=true from fx) Bool.false_ne_true
 | str a =>
  obtain ⟨t',rfl⟩:=ry
  cases x with
  | non=>cases rx;exact SeqAt.EqAt.str_none a t'
  | bl b=>cases rx;exact SeqAt.EqAt.str_bool a t' b
  | int b=>obtain ⟨t,rfl⟩:=rx;exact SeqAt.EqAt.str_int a t' b t
  | str b=>obtain ⟨t,rfl⟩:=rx;exact SeqAt.EqAt.str_str a t' b t
  | _=>exact absurd (show false=true from fx) Bool.false_ne_true
 | _=>exact absurd (show false=true from fy) Bool.false_ne_true
def eqU (x:V) (u:Value):Bool:=match u with
 | .none=>eqV .non x
 | .bool b=>eqV (.bl b) x
 | .int i _=>eqV (.int i) x
 | .str z _=>eqV (.str z) x
 | _=>false
theorem eqU_of {x y:V}{u:Value} (r:RelV y u) (f:qf7 y=true):eqU x u=eqV y x:=by
 cases y with
 | non=>cases r;rfl
 | bl b=>cases r;rfl
 | int i=>obtain ⟨t,rfl⟩:=r;rfl
 | str z=>obtain ⟨t,rfl⟩:=r;rfl
 | _=>exact absurd (show false=true from f) Bool.false_ne_true
theorem qir {x:V}:∀ {xs:List V}{us:List Value},Vals xs us→xs.all qf7=true→us.any (eqU x)=xs.any fun y=>eqV y x
 | _,_,.nil,_=>rfl
 | y::xs,u::us,.cons r t,f=>by
  rw [List.all_cons,Bool.and_eq_true] at f
  rw [List.any_cons,List.any_cons,eqU_of r f.1,qir t f.2]
theorem qfy {A:Around}{s:Shared}{x:V}{v:Value} (rx:RelV x v) (fx:qf7 x=true):∀ {xs:List V}{us:List Value},Vals xs us→xs.all qf7=true→∀ u∈us,SeqAt.EqAt A s u v (eqU x u)
 | _,_,.nil,_=>fun u hu=>by cases hu
 | y::xs,u::us,.cons r t,f=>fun u' hu=>by
  rw [List.all_cons,Bool.and_eq_true] at f
  rcases List.mem_cons.mp hu with rfl | hu
  ·rw [eqU_of r f.1];exact eqAt_V r rx f.1 fx
  ·exact qfy rx fx t f.2 u' hu
def inV (x:V) (xs:List V):Bool:=xs.any fun y=>eqV y x
def rIn (K:PySem.W.Frag) (neg:Bool):R2:=fun x y H Q=>∃ p xs,y=.ref p∧(SqL K H p xs∨SqT K H p xs)∧qf7 x=true∧xs.all qf7=true∧Q (.bl (if neg then !inV x xs else inV x xs)) H
theorem op_in_seq:OpR X (compareOp .In) (rIn X.K false):=by
 intro pins s σ H x y v u Q I rx ry h
 obtain ⟨p,xs,rfl,hq,fx,fs,q⟩:=h
 cases ry
 rcases hq with hq | hq
 ·obtain ⟨its,r,pl,hz⟩:=I.list hq
  refine SeqAt.in_listAt (eqU x) pl.isList (fun w hw=>qfy rx fx r fs w (by simpa using hw)) ⟨.bl _,H,I,rfl,?_⟩
  rw [show its.toArray.any (eqU x)=its.any (eqU x) by simp,qir r fs]
  exact q
 ·obtain ⟨its,r,pl,hz⟩:=I.tuple hq
  refine SeqAt.in_tupleAt (eqU x) pl (fun w hw=>qfy rx fx r fs w (by simpa using hw)) ⟨.bl _,H,I,rfl,?_⟩
  rw [show its.toArray.any (eqU x)=its.any (eqU x) by simp,qir r fs]
  exact q
theorem ql2:OpR X (compareOp .NotIn) (rIn X.K true):=by
 intro pins s σ H x y v u Q I rx ry h
 obtain ⟨p,xs,rfl,hq,fx,fs,q⟩:=h
 cases ry
 rcases hq with hq | hq
 ·obtain ⟨its,r,pl,hz⟩:=I.list hq
  refine SeqAt.notIn_listAt (eqU x) pl.isList (fun w hw=>qfy rx fx r fs w (by simpa using hw)) ⟨.bl _,H,I,rfl,?_⟩
  rw [show its.toArray.any (eqU x)=its.any (eqU x) by simp,qir r fs]
  exact q
 ·obtain ⟨its,r,pl,hz⟩:=I.tuple hq
  refine SeqAt.notIn_tupleAt (eqU x) pl (fun w hw=>qfy rx fx r fs w (by simpa using hw)) ⟨.bl _,H,I,rfl,?_⟩
  rw [show its.toArray.any (eqU x)=its.any (eqU x) by simp,qir r fs]
  exact q
theorem call_len_seq:CallR X (.builtin "len") (fun xs H Q=>∃ p ys,xs=[.ref p]∧(SqL X.K H p ys∨SqT X.K H p ys)∧Q (.int ys.length) H):=by
 intro pins s σ H xs us Q I r h
 obtain ⟨p,ys,rfl,hq,q⟩:=h
 obtain ⟨u,rfl,rx⟩:=qgh r
 cases rx
 have hn:=qjl
 rcases hq with hq | hq
 ·obtain ⟨its,r',pl,hz⟩:=I.list hq
  have hlen:=r'.length
  exact Calls.call_len_list pl.isList (by simp only [List.size_toArray] <;> omega) ⟨.int ys.length,H,I.tok _,⟨s.toks+1,by rw [List.size_toArray,hlen]⟩,q⟩
 ·obtain ⟨its,r',pl,hz⟩:=I.tuple hq
  have hlen:=r'.length
  exact len_tuple pl (by simp only [List.size_toArray] <;> omega) ⟨.int ys.length,H,I.tok _,⟨s.toks+1,by rw [List.size_toArray,hlen]⟩,q⟩
theorem call_len_str:CallR X (.builtin "len") (fun xs H Q=>∃ z,xs=[.str z]∧z.length≤sizeLine∧Q (.int z.length) H):=by
 intro pins s σ H xs us Q I r h
 obtain ⟨z,rfl,hz,q⟩:=h
 obtain ⟨u,rfl,t,rfl⟩:=qgh r
 have hn:=qjl
 exact len_str (by omega) ⟨.int z.length,H,I.tok _,⟨_,rfl⟩,q⟩
theorem CallR.or {f:Value}{r r':List V→Hp→VK→Prop} (h:CallR X f r) (h':CallR X f r'):CallR X f (fun xs H Q=>r xs H Q∨r' xs H Q):=by
 intro pins s σ H xs us Q I rs q
 rcases q with q | q
 ·exact h pins s σ H xs us Q I rs q
 ·exact h' pins s σ H xs us Q I rs q
theorem qm0:CallR X (.type "list") (fun xs H Q=>∃ p ys,xs=[.ref p]∧(SqL X.K H p ys∨SqT X.K H p ys)∧∀ l,H l=none→Q (.ref l) (upd H l (.lst ys))):=by
 intro pins s σ H xs us Q I r h
 obtain ⟨p,ys,rfl,hq,q⟩:=h
 obtain ⟨u,rfl,rx⟩:=qgh r
 cases rx
 have fin:∀ (its:List Value),Vals ys its→ys.length≤sizeLine→∀ (h':Heap) (c':Nat),(∀ b o',s.heap.get? b=some o'→h'.get? b=some o') →
   h'.get? s.heap.objs.size=some { cls:=.type "list",dict:=none,data:=.seq its.toArray c',slots:=#[] }→EP X pins σ Q (.ref s.heap.objs.size) { s with heap:=h' }:=fun its r' hz h' c' kp e =>
  ⟨.ref s.heap.objs.size,_,I.laid (t':=s.toks) kp (Nat.le_refl _) (show ObjOk X.prog X.w _ h' _ (.lst ys) from ⟨hz,its,c',r',e⟩),rfl,q _ (I.hok.fresh (Nat.le_refl _))⟩
 rcases hq with hq | hq
 ·obtain ⟨its,r',pl,hz⟩:=I.list hq
  have hlen:=r'.length
  obtain ⟨o,ho,hc,n,hd⟩:=pl.isList
  exact call_list_seq p (.inl rfl) ho hc hd (fun h' c' kp e=>fin its r' hz h' c' kp e) (by simp only [List.size_toArray] <;> omega)
 ·obtain ⟨its,r',pl,hz⟩:=I.tuple hq
  have hlen:=r'.length
  obtain ⟨o,ho,hc,n,hd⟩:=pl
  exact call_list_seq p (.inr rfl) ho hc hd (fun h' c' kp e=>fin its r' hz h' c' kp e) (by simp only [List.size_toArray] <;> omega)
theorem qk5:CallR X (.type "tuple") (fun xs H Q=>∃ p ys,xs=[.ref p]∧((SqL X.K H p ys∧∀ l,H l=none→Q (.ref l) (upd H l (.tup ys)))∨(SqT X.K H p ys∧Q (.ref p) H))):=by
 intro pins s σ H xs us Q I r h
 obtain ⟨p,ys,rfl,h⟩:=h
 obtain ⟨u,rfl,rx⟩:=qgh r
 cases rx
 rcases h with ⟨hq,q⟩ | ⟨hq,q⟩
 ·obtain ⟨its,r',pl,hz⟩:=I.list hq
  have hlen:=r'.length
  refine call_tuple_list pl.isList (fun h' kp=>?_) (by simp only [List.size_toArray] <;> omega)
  have I1:Inv X pins σ H { s with heap:=h' }:=I.kept (t':=s.toks) kp
  have I2:Inv X pins σ (upd H h'.objs.size (.tup ys)) { s with heap:=h'.push { cls:=.type "tuple",data:=.seq its.toArray } } :=
   I1.laid (t':=s.toks) (fun b o e=>Heap.get?_push_of_some _ e) (Nat.le_refl _) (show ObjOk X.prog X.w _ _ _ (.tup ys) from ⟨hz,its,r',IsTup.new _ _⟩)
  exact ⟨.ref h'.objs.size,_,I2,rfl,q _ (I1.hok.fresh (Nat.le_refl _))⟩
 ·obtain ⟨its,r',pl,hz⟩:=I.tuple hq
  exact call_tuple_same pl ⟨.ref p,H,I,rfl,q⟩
def tyV (K:PySem.W.Frag) (T:String) (x:V) (H:Hp):Prop:=match x with
 | .str _=>T="str"
 | .int _=>T="int"
 | .ref p=>(T="list"∧∃ xs,SqL K H p xs)∨(T="tuple"∧∃ o,K.lookup p=some o∧o.cls=.type "tuple"∧o.dict=none) ∨
   (T="dict"∧((∃ kvs,H p=some (.dK kvs))∨∃ kvs,H p=some (.dT kvs)))∨(T="set"∧∃ S n,H p=some (.set S n))
 | _=>False
theorem tyV_is {pins:List (Addr×Obj)}{σ:St}{H:Hp}{s:Shared}{T:String}{x:V}{v:Value} (I:Inv X pins σ H s) (r:RelV x v) (ty:tyV X.K T x H) :
  s.TypeIs v T∧∀ a,v=.ref a→∃ ob,s.heap.get? a=some ob∧ob.dict=none:=by
 cases x with
 | str z =>
  obtain ⟨t,rfl⟩:=r
  cases (show T="str" from ty)
  exact ⟨typeIs_str s z t,fun _ e=>nomatch e⟩
 | int i =>
  obtain ⟨t,rfl⟩:=r
  cases (show T="int" from ty)
  exact ⟨typeIs_int s i t,fun _ e=>nomatch e⟩
 | ref p =>
  cases r
  rcases ty with ⟨rfl,xs,hq⟩ | ⟨rfl,o,hk,hc,hd⟩ | ⟨rfl,hk⟩ | ⟨rfl,S,n,hk⟩
  ·obtain ⟨its,_,pl,_⟩:=I.list hq
   refine ⟨pl.isList.typeIs,fun a e=>?_⟩
   cases e
   obtain ⟨o,n,e,c,hd,_⟩:=pl
   exact ⟨o,e,hd⟩
  ·refine ⟨⟨o,I.kIn p o hk,hc⟩,fun a e=>?_⟩
   cases e
   exact ⟨o,I.kIn _ o hk,hd⟩
  ·have z:∃ o,s.heap.get? p=some o∧o.ExactDict:=by
    rcases hk with ⟨kvs,hk⟩ | ⟨kvs,hk⟩
    ·obtain ⟨_,_,_,_,o,_,_,e,ex,_⟩:=I.hok p _ hk
     exact ⟨o,e,ex⟩
    ·obtain ⟨_,_,_,_,o,_,_,e,ex,_⟩:=I.hok p _ hk
     exact ⟨o,e,ex⟩
   obtain ⟨o,e,ex⟩:=z
   refine ⟨⟨o,e,ex.1⟩,fun a e2=>?_⟩
   cases e2
   exact ⟨o,e,ex.2.1⟩
  ·obtain ⟨o,_,_,_,e,ex,_⟩:=I.hok p _ hk
   refine ⟨⟨o,e,ex.1⟩,fun a e2=>?_⟩
   cases e2
   exact ⟨o,e,ex.2.1⟩
 | _=>exact False.elim ty
def tBM0 (K:PySem.W.Frag) (T:String) (r:V→List V→Hp→VK→Prop) (to:TE):TE:=fun σ H Q=>to σ H fun x H1=>tyV K T x H1∧r x [] H1 Q
def tBM (K:PySem.W.Frag) (T:String) (r:V→List V→Hp→VK→Prop) (to:TE) (t:TA):TE:=fun σ H Q=>to σ H fun x H1=>tyV K T x H1∧t σ H1 fun xs H2=>r x xs H2 Q
variable {o e:Expr}{es:List Expr}{to:TE}{t:TA}{name:Str}{apos cpos:Pos}{T id:String}{r:V→List V→Hp→VK→Prop}
theorem pe_bm0 (pa:PlainAttrs T) (slot:Slot T name id) (hty:typeOf (.builtin id)=pure (.type "method_descriptor")) (hm:MtR X id r) (ho:PE X o to)
  (hbase:attributeBase o name X.env (eval o X.env)=eval o X.env:=by rfl) (hline:(apos.endLine == cpos.line)=true:=by rfl):PE X (.Call (.Attribute o name apos) [] [] cpos) (tBM0 X.K T r to):=by
 intro pins s σ H Q I h
 refine wpAny_Call_method0_late hbase hline (thn (ho pins s σ H _ I h) fun v s1 ⟨x,H1,I1,r1,ty,q1⟩=>?_)
 obtain ⟨h1,h2⟩:=tyV_is I1 r1 ty
 exact ⟨T,id,pa,slot,hty,h1,h2,Calls.callWith_builtin rfl (PySem.evalArgs_none (hm pins s1 σ H1 x [] v [] Q I1 r1 .nil q1))⟩
theorem pe_bm (pa:PlainAttrs T) (slot:Slot T name id) (hty:typeOf (.builtin id)=pure (.type "method_descriptor")) (hm:MtR X id r) (ho:PE X o to) (ha:PA X (e::es) t)
  (hbase:attributeBase o name X.env (eval o X.env)=eval o X.env:=by rfl)
  (hfew:((backTo cpos (starEach (e::es) X.env)).all (fun x=>!x.1) && (backToKw cpos (keywordEach [] X.env)).all (fun x=>x.1.isSome)
   && decide ((e::es).length+([]:List Keyword).length+(if ([]:List Keyword).isEmpty then 0 else 1) < 30))=true:=by rfl)
  (hline:(apos.endLine == cpos.line)=true:=by rfl) (hs:starEach (e::es) X.env=(false,eval e X.env)::starEach es X.env:=by rfl) (hplain:(backTo cpos (starEach es X.env)).any (·.1)=false:=by rfl) :
  PE X (.Call (.Attribute o name apos) (e::es) [] cpos) (tBM X.K T r to t):=by
 intro pins s σ H Q I h
 refine wpAny_Call_method_late hbase hfew hline rfl (thn (ho pins s σ H _ I h) fun v s1 ⟨x,H1,I1,r1,ty,q1⟩=>?_)
 obtain ⟨h1,h2⟩:=tyV_is I1 r1 ty
 refine ⟨T,id,pa,slot,hty,h1,h2,?_⟩
 have hA:=ha cpos pins s1 σ H1 _ I1 q1
 rw [hs] at hA ⊢
 refine Calls.callWith_builtin (by show (false || (backTo cpos (starEach es X.env)).any (·.1))=false;rw [hplain] <;> rfl) (Calls.evalArgs_plain ?_)
 exact thn hA fun us s2 ⟨vs,H2,I2,r2,q2⟩=>hm pins s2 σ H2 x vs v us Q I2 r1 r2 q2
end
end L2
namespace L2
open PySem PySem.Spec PyProof.Rows
def MtM (X:Cx) (id:String) (r:V→List V→Hp→VK→Prop):Prop :=
 ∀ (pins:List (Addr×Obj)) (s:Shared) (σ:St) (H:Hp) (x:V) (xs:List V) (v:Value) (us:List Value) (Q:VK),Inv X pins σ H s→RelV x v→Vals xs us→r x xs H Q →
  wpAny (model X.prog X.w) X.A (call (.builtin id) (v::us)) (EP X pins σ Q) X.xe s
theorem Vals.one:∀ {x:V}{us:List Value},Vals [x] us→∃ u,us=[u]∧RelV x u
 | _,_,.cons r .nil=>⟨_,rfl,r⟩
theorem Vals.zero:∀ {us:List Value},Vals [] us→us=[]
 | _,.nil=>rfl
theorem Vals.rep {xs:List V}{us:List Value} (h:Vals xs us):∀ k:Nat,Vals (List.replicate k xs).flatten (List.replicate k us).flatten
 | 0=>.nil
 | k+1=>by
  rw [List.replicate_succ,List.replicate_succ,List.flatten_cons,List.flatten_cons]
  exact Vals.append h (Vals.rep h k)
theorem qmr (its:List Value):∀ (k:Nat) (acc:List Value),
  List.foldl (fun x1 x2=>x1++x2) acc.toArray (List.replicate k its.toArray)=(acc++(List.replicate k its).flatten).toArray
 | 0,acc=>by simp
 | k+1,acc=>by
  have e:acc.toArray++its.toArray=(acc++its).toArray:=by simp
  have e2:(acc++its)++(List.replicate k its).flatten=acc++(List.replicate (k+1) its).flatten:=by
   rw [List.replicate_succ,List.flatten_cons,List.append_assoc]
  rw [← e2,← qmr its k (acc++its),← e,List.replicate_succ,List.foldl_cons]
section
variable {X:Cx}{pins:List (Addr×Obj)}{σ:St}{H:Hp}{s:Shared}{l b:Addr}{xs ys zs:List V}
theorem Inv.lset {its its':List Value}{n:Nat}{f:Array Value→Array Value}{t':Nat} (I:Inv X pins σ H s) (hH:H l=some (.lst xs))
  (e:s.heap.get? l=some { cls:=.type "list",data:=.seq its.toArray n }) (hf:f its.toArray=its'.toArray) (hv:Vals ys its') (hz:ys.length≤sizeLine) :
  Inv X pins σ (upd H l (.lst ys)) { s with heap:=s.heap.update l (Obj.mapSeq f),toks:=t' }:=by
 have q:=PySem.IsL.update e f
 rw [hf] at q
 refine I.write (x:=l) (e:=l) (by rw [hH];exact trivial) (.inl rfl) (fun b' u hb hu=>(Heap.get?_update_other s.heap (Obj.mapSeq f) (Ne.symm hb)).trans hu) ⟨_,q⟩ ?_
 exact ⟨hz,its',_,hv,q⟩
theorem Inv.lnew {its:List Value}{t':Nat} (I:Inv X pins σ H s) (hv:Vals ys its) (hz:ys.length≤sizeLine) :
  Inv X pins σ (upd H s.heap.objs.size (.lst ys)) { s with heap:=s.heap.push { cls:=.type "list",data:=.seq its.toArray },toks:=t' } :=
 I.laid (fun _ _ q=>Heap.get?_push_of_some _ q) (Nat.le_refl _) ⟨hz,its,0,hv,Heap.get?_push_size _ rfl⟩
theorem Inv.fresh (I:Inv X pins σ H s):H s.heap.objs.size=none:=I.hok.fresh (Nat.le_refl _)
theorem Inv.lstM (I:Inv X pins σ H s) (hH:H l=some (.lst xs)):xs.length≤sizeLine∧∃ (its:List Value) (n:Nat),Vals xs its∧xs.length=its.length∧s.heap.get? l=some { cls:=.type "list",data:=.seq its.toArray n }:=by
 obtain ⟨z,its,n,r,e⟩:=I.hok l _ hH
 exact ⟨z,its,n,r,r.length,e⟩
theorem notLongL {n:Nat} (h:n≤sizeLine):Builtin.List.listTooLong n=false:=by
 unfold Builtin.List.listTooLong
 exact decide_eq_false (by omega)
end
section
variable {X:Cx}
def rAppend:V→List V→Hp→VK→Prop:=fun x vs H Q=>∃ l xs y,x=.ref l∧vs=[y]∧H l=some (.lst xs)∧xs.length < sizeLine∧Q .non (upd H l (.lst (xs++[y])))
theorem qmd:MtM X "list.append" rAppend:=by
 intro pins s σ H x vs v us Q I rx rv h
 obtain ⟨l,xs,y,rfl,rfl,hH,hz,q⟩:=h
 cases rx
 obtain ⟨u,rfl,ru⟩:=rv.one
 obtain ⟨z,its,n,r,hl,e⟩:=I.lstM hH
 refine call_meets F.slot_list_append ⟨_,e,rfl⟩ F.entry_list_append (F.args_list_append_2 _ _) (PySem.list_append l its.toArray n u (by rw [List.size_toArray];omega)) ⟨e,?_⟩
 refine ⟨.non,_,I.lset (its':=its++[u]) hH e (by simp) (r.append (.cons ru .nil)) ?_,rfl,q⟩
 rw [List.length_append,List.length_singleton]
 omega
def rClear:V→List V→Hp→VK→Prop:=fun x vs H Q=>∃ l xs,x=.ref l∧vs=[]∧H l=some (.lst xs)∧Q .non (upd H l (.lst []))
theorem mt_clear:MtM X "list.clear" rClear:=by
 intro pins s σ H x vs v us Q I rx rv h
 obtain ⟨l,xs,rfl,rfl,hH,q⟩:=h
 cases rx
 have hus:=rv.zero
 subst hus
 obtain ⟨z,its,n,r,hl,e⟩:=I.lstM hH
 refine call_meets F.slot_list_clear ⟨_,e,rfl⟩ F.entry_list_clear (F.args_list_clear_1 _) (AutoSeq1.list_clear_list_0 l its.toArray n (by rw [List.size_toArray];omega)) ⟨e,?_⟩
 exact ⟨.non,_,I.lset (its':=[]) (ys:=[]) hH e rfl .nil (Nat.zero_le _),rfl,q⟩
def rRep:R2:=fun x y H Q=>∃ l k xs,x=.ref l∧y=.int k∧H l=some (.lst xs)∧-(2 ^ 63)≤k∧k < 2 ^ 63∧xs.length * k.toNat≤sizeLine ∧
 ∀ p,H p=none→Q (.ref p) (upd H p (.lst (List.replicate k.toNat xs).flatten))
theorem len_rep {α:Type} (xs:List α) (k:Nat):(List.replicate k xs).flatten.length=k * xs.length:=by
 induction k with
 | zero=>simp
 | succ k ih=>rw [List.replicate_succ,List.flatten_cons,List.length_append,ih,Nat.succ_mul,Nat.add_comm]
theorem op_rep:OpR X (binaryOp .Mult) rRep:=by
 intro pins s σ H x y v u Q I rx ry h
 obtain ⟨l,k,xs,rfl,rfl,hH,h1,h2,hz,q⟩:=h
 cases rx
 obtain ⟨t,rfl⟩:=ry
 obtain ⟨z,its,n,r,hl,e⟩:=I.lstM hH
 have hlen:its.toArray.size * k.toNat≤sizeLine:=by rw [List.size_toArray,← hl];exact hz
 have hcap:¬ its.toArray.size * k.toNat > (2 ^ 63 - 1) / 8:=by
  have:(sizeLine:Nat)≤(2 ^ 63 - 1) / 8:=by decide
  omega
 have hfit:¬ (!Builtin.List.listFitsIndex k)=true:=by
  rw [fitsIndex_both h1 h2]
  exact Bool.false_ne_true
 have hlong:¬ Builtin.List.listTooLong (its.toArray.size * k.toNat)=true:=by
  rw [notLongL hlen]
  exact Bool.false_ne_true
 have hnew:List.foldl (fun x1 x2=>x1++x2) #[] (List.replicate (if its.toArray.isEmpty=true then 0 else k.toNat) its.toArray)=(List.replicate k.toNat its).flatten.toArray:=by
  have f0:∀ m:Nat,List.foldl (fun x1 x2=>x1++x2) #[] (List.replicate m its.toArray)=(List.replicate m its).flatten.toArray:=fun m=>by
   have:=qmr its m []
   rw [List.nil_append] at this
   exact this
  rw [f0]
  cases its with
  | nil=>simp
  | cons a r'=>rw [if_neg (by simp)]
 refine wpAny_binaryOp_repeat_ref (T:="list") (U:="int") (by decide) ⟨_,e,rfl⟩ (fun s'=>typeIs_int s' k t) noFill_list_mul F.fills_int_mul F.slot_int_rmul repeat_list F.slot_int_index.lookup
  (call_meets F.slot_int_rmul (typeIs_int s k t) F.entry_int_rmul (F.args_int_rmul_2 _ _) (int___rmul___int_list k t l its.toArray n)
   ⟨e,rfl,⟨_,e,rfl⟩,call_meets F.slot_list_mul ⟨_,e,rfl⟩ F.entry_list_mul (F.args_list_mul_2 _ _) (AutoListH.list___mul___list_int_3 l its.toArray n k t hfit hcap hlong) ⟨e,?_⟩⟩)
 rw [hnew]
 exact ⟨.ref _,_,I.lnew (t':=s.toks) (r.rep k.toNat) (by rw [len_rep,Nat.mul_comm];exact hz),rfl,q _ I.fresh⟩
end
section
variable {prog:Program}{w:World}{A:Around}{E:Value→Shared→Prop}{s:Shared}
set_option maxRecDepth 100000 in
end
section
variable {X:Cx}
end
end L2
namespace L2
open PySem PySem.Spec PyProof.Rows
section
variable {κ:Type} [DecidableEq κ]
def valV (kvs:List (κ×V)) (k:κ):Option V:=(kvs.find? fun kv=>decide (kv.1=k)).map (·.2)
def putK (kvs:List (κ×V)) (k:κ) (v:V):List (κ×V) :=
 if (kvs.any fun kv=>decide (kv.1=k))=true then kvs.map (fun kv=>if kv.1=k then (kv.1,v) else kv) else kvs++[(k,v)]
def qnr (kvs:List (κ×V)) (k:κ):List (κ×V):=kvs.filter fun kv=>decide (kv.1≠k)
theorem qha {p:κ×V}{r:List (κ×V)}{k:κ} (e:p.1=k):valV (p::r) k=some p.2:=by simp [valV,List.find?_cons,e]
theorem qhb {p:κ×V}{r:List (κ×V)}{k:κ} (e:¬ p.1=k):valV (p::r) k=valV r k:=by simp [valV,List.find?_cons,e]
theorem qj3 (k:κ):∀ kvs:List (κ×V),(kvs.any fun kv=>decide (kv.1=k))=(valV kvs k).isSome
 | []=>rfl
 | p::r=>by
  rw [List.any_cons]
  by_cases e:p.1=k
  ·simp only [qha e,decide_eq_true e,Bool.true_or,Option.isSome_some]
  ·rw [qhb e,decide_eq_false e,Bool.false_or];exact qj3 k r
theorem qfk (kvs:List (κ×V)) (k:κ) (v:V):(putK kvs k v).length≤kvs.length+1:=by
 unfold putK
 split
 ·rw [List.length_map];omega
 ·rw [List.length_append,List.length_cons,List.length_nil];omega
theorem qfx {kvs:List (κ×V)}{k:κ} (v:V) (h:valV kvs k=none):putK kvs k v=kvs++[(k,v)]:=by
 unfold putK
 rw [qj3,h]
 exact if_neg (by decide)
theorem RelO.isSome_eq {o:Option V}{u:Option Value} (r:RelO o u):o.isSome=u.isSome:=by
 cases o with
 | none=>cases u with
  | none=>rfl
  | some _=>exact (show False from r).elim
 | some _=>cases u with
  | none=>exact (show False from r).elim
  | some _=>rfl
theorem RelO.getD {o:Option V}{u:Option Value}{d:V}{d':Value} (r:RelO o u) (rd:RelV d d'):RelV (o.getD d) (u.getD d'):=by
 cases o with
 | none=>cases u with
  | none=>exact rd
  | some _=>exact (show False from r).elim
 | some _=>cases u with
  | none=>exact (show False from r).elim
  | some _=>exact r
theorem KV.val {kvs:List (κ×V)}{vs:List (κ×Value)} (r:KV kvs vs) (k:κ):RelO (valV kvs k) (valueAt vs k):=by
 unfold KV at r
 induction r with
 | nil=>exact True.intro
 | @cons p q ps qs h t ih =>
  obtain ⟨h1,h2⟩:=h
  by_cases e:p.1=k
  ·have e':q.1=k:=h1.symm.trans e
   have b:valueAt (q::qs) k=some q.2:=by simp [valueAt,List.find?_cons,e']
   rw [qha e,b];exact h2
  ·have e':¬ q.1=k:=fun z=>e (h1.trans z)
   have b:valueAt (q::qs) k=valueAt qs k:=by simp [valueAt,List.find?_cons,e']
   rw [qhb e,b];exact ih
theorem KV.any {kvs:List (κ×V)}{vs:List (κ×Value)} (r:KV kvs vs) (k:κ):(kvs.any fun kv=>decide (kv.1=k))=vs.any fun kv=>decide (kv.1=k):=by
 unfold KV at r
 induction r with
 | nil=>rfl
 | cons h t ih=>rw [List.any_cons,List.any_cons,ih,h.1]
theorem KV.repl {kvs:List (κ×V)}{vs:List (κ×Value)} (r:KV kvs vs) (k:κ) {y:V}{u:Value} (ry:RelV y u) :
  KV (kvs.map fun kv=>if kv.1=k then (kv.1,y) else kv) (vs.map fun kv=>if kv.1=k then (kv.1,u) else kv):=by
 unfold KV at r ⊢
 induction r with
 | nil=>exact .nil
 | @cons p q ps qs h t ih =>
  rw [List.map_cons,List.map_cons]
  refine .cons ?_ ih
  obtain ⟨h1,h2⟩:=h
  by_cases e:p.1=k
  ·rw [if_pos e,if_pos (h1.symm.trans e)];exact ⟨h1,ry⟩
  ·rw [if_neg e,if_neg (fun z=>e (h1.trans z))];exact ⟨h1,h2⟩
theorem KV.put {kvs:List (κ×V)}{vs:List (κ×Value)} (r:KV kvs vs) (k:κ) {y:V}{u:Value} (ry:RelV y u):KV (putK kvs k y) (stored vs k u):=by
 unfold putK stored
 rw [r.any k]
 by_cases e:(vs.any fun kv=>decide (kv.1=k))=true
 ·rw [if_pos e,if_pos e];exact r.repl k ry
 ·rw [if_neg e,if_neg e];exact Paired.snoc r ⟨rfl,ry⟩
theorem KV.drop {kvs:List (κ×V)}{vs:List (κ×Value)} (r:KV kvs vs) (k:κ):KV (qnr kvs k) (without vs k):=by
 unfold KV at r ⊢
 unfold qnr without
 induction r with
 | nil=>exact .nil
 | @cons p q ps qs h t ih =>
  obtain ⟨h1,h2⟩:=h
  rw [List.filter_cons,List.filter_cons]
  by_cases e:p.1=k
  ·have a:¬ decide (p.1≠k)=true:=by simp [e]
   have b:¬ decide (q.1≠k)=true:=by simp [h1.symm.trans e]
   rw [if_neg a,if_neg b];exact ih
  ·have e':¬ q.1=k:=fun z=>e (h1.trans z)
   have a:decide (p.1≠k)=true:=by simp [e]
   have b:decide (q.1≠k)=true:=by simp [e']
   rw [if_pos a,if_pos b];exact .cons ⟨h1,h2⟩ ih
theorem KV.keys {kvs:List (κ×V)}{vs:List (κ×Value)} (r:KV kvs vs):kvs.map (·.1)=vs.map (·.1):=by
 unfold KV at r
 induction r with
 | nil=>rfl
 | cons h t ih=>rw [List.map_cons,List.map_cons,ih,h.1]
theorem KV.length {kvs:List (κ×V)}{vs:List (κ×Value)} (r:KV kvs vs):kvs.length=vs.length:=Paired.length r
theorem dropK_le (kvs:List (κ×V)) (k:κ):(qnr kvs k).length≤kvs.length:=List.length_filter_le _ _
end
theorem qmj {P:Program}{w:World}{k:Key}{u:Value} (r:RelV (kV k) u):(qbi P w).is k u=true:=by
 cases k with
 | inl i=>obtain ⟨t,e⟩:=(show ∃ t,u=Value.int i t from r);subst e;exact qnk P w i t
 | inr x=>obtain ⟨t,e⟩:=(show ∃ t,u=Value.str x t from r);subst e;exact qnj P w x t
theorem qmk {P:Program}{w:World}:∀ {ks:List Key}{us:List Value},Vals (ks.map kV) us→ItemsAre (qbi P w) ks us
 | [],_,r=>by rw [List.map_nil] at r;cases r;exact .nil
 | k::ks,_,r=>by
  rw [List.map_cons] at r
  cases r with
  | cons h t=>exact .cons (qmj h) (qmk t)
abbrev KT (H:Hp):List (List Key×V)→List (List Key×Addr×Value)→Prop:=Paired fun p q=>p.1=q.1∧H q.2.1=some (.tup (p.1.map kV))∧RelV p.2 q.2.2
theorem KT.val {H:Hp}{kvs:List (List Key×V)}{xs:List (List Key×Addr×Value)} (r:KT H kvs xs) (k:List Key):RelO (valV kvs k) ((atKey xs k).map (·.2)):=by
 induction r with
 | nil=>exact True.intro
 | @cons p q ps qs h t ih =>
  obtain ⟨h1,_,h2⟩:=h
  by_cases e:p.1=k
  ·have e':q.1=k:=h1.symm.trans e
   have b:atKey (q::qs) k=some q.2:=by simp [atKey,List.find?_cons,e']
   rw [qha e,b];exact h2
  ·have e':¬ q.1=k:=fun z=>e (h1.trans z)
   have b:atKey (q::qs) k=atKey qs k:=by simp [atKey,List.find?_cons,e']
   rw [qhb e,b];exact ih
theorem KT.repl {H:Hp}{kvs:List (List Key×V)}{xs:List (List Key×Addr×Value)} (r:KT H kvs xs) (k:List Key) {y:V}{u:Value} (ry:RelV y u) :
  KT H (kvs.map fun kv=>if kv.1=k then (kv.1,y) else kv) (xs.map (putAt k u)):=by
 induction r with
 | nil=>exact .nil
 | @cons p q ps qs h t ih =>
  rw [List.map_cons,List.map_cons]
  refine .cons ?_ ih
  obtain ⟨h1,h2,h3⟩:=h
  unfold putAt
  by_cases e:p.1=k
  ·rw [if_pos e,if_pos (h1.symm.trans e)];exact ⟨h1,h2,ry⟩
  ·rw [if_neg e,if_neg (fun z=>e (h1.trans z))];exact ⟨h1,h2,h3⟩
theorem KT.put {H:Hp}{kvs:List (List Key×V)}{xs:List (List Key×Addr×Value)} (r:KT H kvs xs) (k:List Key) {b:Addr}{y:V}{u:Value} (hb:H b=some (.tup (k.map kV))) (ry:RelV y u) :
  KT H (putK kvs k y) (storedH xs k b u):=by
 have e:(kvs.any fun kv=>decide (kv.1=k))=(atKey xs k).isSome:=by
  rw [qj3,(r.val k).isSome_eq,Option.isSome_map]
 unfold putK storedH
 rw [e]
 by_cases q:(atKey xs k).isSome=true
 ·rw [if_pos q,if_pos q];exact r.repl k ry
 ·rw [if_neg q,if_neg q];exact Paired.snoc r ⟨rfl,hb,ry⟩
theorem KT.keeps {H H':Hp}{kvs:List (List Key×V)}{xs:List (List Key×Addr×Value)} (r:KT H kvs xs) (ht:∀ b ys,H b=some (.tup ys)→H' b=some (.tup ys)):KT H' kvs xs :=
 Paired.mapP r fun _ _ z=>⟨z.1,ht _ _ z.2.1,z.2.2⟩
section
variable {P:Program}{w:World}{H:Hp}{h:Heap}{a:Addr}
theorem rd_of {u:HO} (ok:HOk P w H h) (e:Rd H a u):ObjOk P w H h a u:=e.ok ok
theorem qi5 {kvs:List (Key×V)} (ok:HOk P w H h) (e:Rd H a (.dK kvs)):kvs.length≤sizeLine∧(a == sysModules)=false∧∃ vs,KV kvs vs∧h.DictOf (qbi P w) a vs :=
 show ObjOk P w H h a (.dK kvs) from rd_of ok e
theorem dk_of {kvs:List (Key×V)} (ok:HOk P w H h) (e:H a=some (.dK kvs)):kvs.length≤sizeLine∧(a == sysModules)=false∧∃ vs,KV kvs vs∧h.DictOf (qbi P w) a vs:=qi5 ok (.inl e)
theorem qjm {ks:List Key} (ok:HOk P w H h) (e:H a=some (.tup (ks.map kV))):(tupleKind (qbi P w)).is h ks a:=by
 obtain ⟨_,its,r,o,h1,h2,n,h3⟩:=(show ObjOk P w H h a (.tup (ks.map kV)) from ok a _ e)
 exact ⟨o,its.toArray,n,h1,h2,h3,by simpa using qmk r⟩
theorem qnp {kvs:List (List Key×V)} (ok:HOk P w H h) (e:Rd H a (.dT kvs)):kvs.length≤sizeLine∧(a == sysModules)=false ∧
  ∃ xs,KT H kvs xs∧h.DictOfH (tupleKind (qbi P w)) a xs:=by
 obtain ⟨z,y,xs,r,o,es,ep,h1,h2,h3,h4,h5⟩:=(show ObjOk P w H h a (.dT kvs) from rd_of ok e)
 refine ⟨z,y,xs,r,o,es,ep,h1,h2,h3,h4,fun x hx=>?_,h5⟩
 have all:∀ {l:List (List Key×V)}{m:List (List Key×Addr×Value)},KT H l m→∀ x∈m,(tupleKind (qbi P w)).is h x.1 x.2.1:=by
  intro l m q
  induction q with
  | nil=>intro x hx;exact nomatch hx
  | @cons p q ps qs hq t ih =>
   intro x hx
   rcases List.mem_cons.mp hx with e | hx
   ·subst e
    exact qjm ok (by rw [← hq.1];exact hq.2.1)
   ·exact ih x hx
 exact all r x hx
theorem dt_of {kvs:List (List Key×V)} (ok:HOk P w H h) (e:H a=some (.dT kvs)):kvs.length≤sizeLine∧(a == sysModules)=false ∧
  ∃ xs,KT H kvs xs∧h.DictOfH (tupleKind (qbi P w)) a xs:=qnp ok (.inl e)
end
def DGet (H:Hp) (a:Addr) (y:V) (r:Option V):Prop :=
 (∃ kvs k,Rd H a (.dK kvs)∧y=kV k∧r=valV kvs k)∨∃ kvs k b,Rd H a (.dT kvs)∧y=.ref b∧H b=some (.tup (k.map kV))∧r=valV kvs k
def DPut (H:Hp) (a:Addr) (y v:V) (H':Hp):Prop :=
 (∃ kvs k,H a=some (.dK kvs)∧y=kV k∧kvs.length < sizeLine∧H'=upd H a (.dK (putK kvs k v))) ∨
 ∃ kvs k b,H a=some (.dT kvs)∧y=.ref b∧H b=some (.tup (k.map kV))∧kvs.length < sizeLine∧H'=upd H a (.dT (putK kvs k v))
theorem DGet.k {H:Hp}{a:Addr}{kvs:List (Key×V)}{k:Key} (e:H a=some (.dK kvs)):DGet H a (kV k) (valV kvs k):=.inl ⟨kvs,k,.inl e,rfl,rfl⟩
theorem DPut.k {H:Hp}{a:Addr}{kvs:List (Key×V)}{k:Key}{v:V} (e:H a=some (.dK kvs)) (hl:kvs.length < sizeLine):DPut H a (kV k) v (upd H a (.dK (putK kvs k v))):=.inl ⟨kvs,k,e,rfl,hl,rfl⟩
section
variable {X:Cx}{pins:List (Addr×Obj)}{σ:St}{H:Hp}{s:Shared}{a:Addr}{y v:V}{u r:Value}{o:Option V}{A:Around}{E:Value→Shared→Prop}
theorem Inv.big (I:Inv X pins σ H s):sysModules < s.heap.objs.size:=by
 have h:mainGlobals < s.heap.objs.size:=(I.mod.glob.keeps I.bk).lt
 exact Nat.lt_trans (by decide) h
theorem qmx {Q:Value→Shared→Prop} (hu:A.units+1 < cLine) (I:Inv X pins σ H s) (g:DGet H a y (some v)) (ry:RelV y u) (h:∀ w' s',Inv X pins σ H s'→RelV v w'→Q w' s') :
  wpAny (model X.prog X.w) A (getItem (.ref a) u) Q E s:=by
 rcases g with ⟨kvs,k,e,ey,l⟩ | ⟨kvs,k,b,e,ey,eb,l⟩
 ·subst ey
  obtain ⟨z,hd,vs,rel,dd⟩:=qi5 I.hok e
  obtain ⟨w',hw,rw'⟩:=RelO.some_of (v:=v) (o:=valueAt vs k) (by rw [l];exact rel.val k)
  exact wpAny_getItem_of (qmj ry) dd.mapOf hw (h w' _ (I.tok _) rw')
 ·subst ey
  cases (show u=Value.ref b from ry)
  obtain ⟨z,hd,xs,rel,dd⟩:=qnp I.hok e
  obtain ⟨w',hw,rw'⟩:=RelO.some_of (v:=v) (o:=(atKey xs k).map (·.2)) (by rw [l];exact rel.val k)
  obtain ⟨p,hp,hp2⟩:=Option.map_eq_some_iff.mp hw
  refine wpAny_getItem_heap (tupleKind_room_in1 hu) (qjm I.hok eb) dd hp ?_
  rw [hp2]
  exact h w' _ (I.tok _) rw'
theorem d_in {Q:Value→Shared→Prop} (hu:A.units+1 < cLine) (I:Inv X pins σ H s) (g:DGet H a y o) (ry:RelV y u) (h:∀ s',Inv X pins σ H s'→Q (.bool o.isSome) s') :
  wpAny (model X.prog X.w) A (compareOp .In u (.ref a)) Q E s:=by
 rcases g with ⟨kvs,k,e,ey,l⟩ | ⟨kvs,k,b,e,ey,eb,l⟩
 ·subst ey
  obtain ⟨z,hd,vs,rel,dd⟩:=qi5 I.hok e
  refine wpAny_in_of (qmj ry) hd dd.mapOf ?_
  rw [← (rel.val k).isSome_eq,← l]
  exact h _ (I.tok _)
 ·subst ey
  cases (show u=Value.ref b from ry)
  obtain ⟨z,hd,xs,rel,dd⟩:=qnp I.hok e
  refine wpAny_in_heap (tupleKind_room_in1 hu) (qjm I.hok eb) hd dd ?_
  have q:=(rel.val k).isSome_eq
  rw [Option.isSome_map] at q
  rw [← q,← l]
  exact h _ (I.tok _)
theorem d_notIn {Q:Value→Shared→Prop} (hu:A.units+1 < cLine) (I:Inv X pins σ H s) (g:DGet H a y o) (ry:RelV y u) (h:∀ s',Inv X pins σ H s'→Q (.bool (!o.isSome)) s') :
  wpAny (model X.prog X.w) A (compareOp .NotIn u (.ref a)) Q E s:=by
 rcases g with ⟨kvs,k,e,ey,l⟩ | ⟨kvs,k,b,e,ey,eb,l⟩
 ·subst ey
  obtain ⟨z,hd,vs,rel,dd⟩:=qi5 I.hok e
  refine wpAny_notIn_of (qmj ry) hd dd.mapOf ?_
  rw [← (rel.val k).isSome_eq,← l]
  exact h _ (I.tok _)
 ·subst ey
  cases (show u=Value.ref b from ry)
  obtain ⟨z,hd,xs,rel,dd⟩:=qnp I.hok e
  refine wpAny_notIn_heap (tupleKind_room_in1 hu) (qjm I.hok eb) hd dd ?_
  have q:=(rel.val k).isSome_eq
  rw [Option.isSome_map] at q
  rw [← q,← l]
  exact h _ (I.tok _)
theorem qk1 {h':Heap}{t':Nat}{ob:HO} (I:Inv X pins σ H s) (mu:Mut (H a)) (hs:Heap.SameBut a s.heap h') (he:∃ q,h'.get? a=some q) (new:ObjOk X.prog X.w (upd H a ob) h' a ob) :
  Inv X pins σ (upd H a ob) { s with heap:=h',toks:=t' } :=
 I.write (x:=a) (e:=a) mu (.inl rfl) (fun b q hb z=>(hs.2 b hb).trans z) he new
theorem dk_new {P:Program}{w:World}{H':Hp}{h':Heap}{kvs:List (Key×V)}{vs:List (Key×Value)} (z:kvs.length≤sizeLine) (hd:(a == sysModules)=false) (rel:KV kvs vs) (dd:h'.DictOf (qbi P w) a vs) :
  ObjOk P w H' h' a (.dK kvs):=⟨z,hd,vs,rel,dd⟩
theorem qmw {H':Hp}{Q:Unit→Shared→Prop} (hu:A.units+1 < cLine) (I:Inv X pins σ H s) (g:DPut H a y v H') (ry:RelV y u) (rv:RelV v r) (h:∀ s',Inv X pins σ H' s'→Q () s') :
  wpAny (model X.prog X.w) A (setItem (.ref a) u r) Q E s:=by
 rcases g with ⟨kvs,k,e,ey,l,eH⟩ | ⟨kvs,k,b,e,ey,eb,l,eH⟩
 ·subst ey eH
  obtain ⟨z,hd,vs,rel,dd⟩:=dk_of I.hok e
  have hz:vs.length≤sizeLine:=by rw [← rel.length];exact z
  have hl:(putK kvs k v).length≤sizeLine:=by have:=qfk kvs k v;omega
  refine wpAny_setItem_pairs (hsz:=hz) (qmj ry) dd fun h' dd' hs=>h _ ?_
  have he:∃ q,h'.get? a=some q:=let ⟨q,_,_,hq,_⟩:=dd';⟨q,hq⟩
  exact qk1 I (by rw [e];exact True.intro) hs he (dk_new hl hd (rel.put k rv) dd')
 ·subst ey eH
  cases (show u=Value.ref b from ry)
  obtain ⟨z,hd,xs,rel,dd⟩:=dt_of I.hok e
  have hz:xs.length≤sizeLine:=by rw [← Paired.length rel];exact z
  have hl:(putK kvs k v).length≤sizeLine:=by have:=qfk kvs k v;omega
  refine wpAny_setItem_heap (hsz:=hz) (tupleKind_room_in1 hu) (qjm I.hok eb) dd fun h' dd' hs=>h _ ?_
  obtain ⟨q,es,ep,hq,h2,h3,h4,_,h5⟩:=dd'
  refine qk1 I (by rw [e];exact True.intro) hs ⟨q,hq⟩ ⟨hl,hd,_,(rel.put k eb rv).keeps fun c ys ec=>?_,q,es,ep,hq,h2,h3,h4,h5⟩
  rw [qad (ne_of ec e (fun z=>nomatch z))]
  exact ec
end
section
variable {X:Cx}{pins:List (Addr×Obj)}{σ:St}{H:Hp}{s:Shared}{a:Addr}{kvs:List (Key×V)}{k:Key}{u:Value}{A:Around}{E:Value→Shared→Prop}
theorem d_pop {v:V}{more:List Value}{Q:Value→Shared→Prop} (I:Inv X pins σ H s) (e:H a=some (.dK kvs)) (ry:RelV (kV k) u) (l:valV kvs k=some v) (hm:more=[]∨∃ x,more=[x])
  (h:∀ w' s',Inv X pins σ (upd H a (.dK (qnr kvs k))) s'→RelV v w'→Q w' s'):wpAny (model X.prog X.w) A (call (.builtin "dict.pop") (.ref a::u::more)) Q E s:=by
 obtain ⟨z,hd,vs,rel,dd⟩:=dk_of I.hok e
 obtain ⟨w',hw,rw'⟩:=RelO.some_of (v:=v) (o:=valueAt vs k) (by rw [← l];exact rel.val k)
 have hp:(keyPart u).isSome=true:=by
  cases k with
  | inl i=>obtain ⟨t,q⟩:=(show ∃ t,u=Value.int i t from ry);subst q;rfl
  | inr x=>obtain ⟨t,q⟩:=(show ∃ t,u=Value.str x t from ry);subst q;rfl
 have ha:argsOk "dict.pop" ⟨.ref a::u::more,[]⟩:=by
  rcases hm with q | ⟨x,q⟩
  ·subst q;exact PySem.F.args_dict_pop_2 _ _
  ·subst q;exact PySem.F.args_dict_pop_3 _ _ _
 refine call_meetsIn PySem.F.slot_dict_pop dd.typeIs PySem.F.entry_dict_pop ha (meets_dict_pop_there (qbi X.prog X.w) a (qmj ry) more hm hp)
  ⟨vs,w',dd,by rw [← rel.length];exact z,hw,fun h' dd' hs=>h w' _ ?_ rw'⟩
 have he:∃ q,h'.get? a=some q:=let ⟨q,_,_,hq,_⟩:=dd';⟨q,hq⟩
 exact qk1 I (by rw [e];exact True.intro) hs he (dk_new (Nat.le_trans (dropK_le kvs k) z) hd (rel.drop k) dd')
theorem d_len {Q:Value→Shared→Prop} (I:Inv X pins σ H s) (e:Rd H a (.dK kvs)) (h:∀ t s',Inv X pins σ H s'→Q (.int kvs.length t) s'):wpAny (model X.prog X.w) A (call (.builtin "len") [.ref a]) Q E s:=by
 obtain ⟨z,hd,vs,rel,dd⟩:=qi5 I.hok e
 refine call_len_dict hd dd (by rw [← rel.length];rw [sizeLine_eq] at z;omega) ?_
 rw [← rel.length]
 exact h _ _ (I.tok _)
end
def NoSl (i:Expr):Prop:=∀ ov iv,subscripted i false ov iv=operate [ov,iv] (getItem ov iv)
theorem subD_of {prog:Program}{w:World}{A:Around}{E:Value→Shared→Prop}{s:Shared}{env:Env}{value slice:Expr}{pos:Pos}{T id:String}{Q:Value→Shared→Prop}
  (hl:typeLookup (.type T) "__getitem__"=pure (some (.builtin id))) (hs:NoSl slice)
  (h:wpAny (model prog w) A (eval value env) (fun o s₁=>wpAny (model prog w) A (eval slice env) (fun i s₂=>s₂.TypeIs o T∧wpAny (model prog w) A (getItem o i) Q E s₂) E s₁) E s) :
  wpAny (model prog w) A (eval (.Subscript value slice pos) env) Q E s:=by
 refine Subscript_ (wpAny_mono h (fun o s₁ h₁=>wpAny_mono h₁ (fun i s₂ h₂=>?_) fun _ _ x=>x) fun _ _ x=>x)
 obtain ⟨hT,h₂⟩:=h₂
 unfold subscriptTail
 refine wpAny_bind ?_
 rw [getitemInPython_of_ne hT.not_modules]
 refine wpAny_bind (wpAny_specialOf hT hl ?_)
 have fin:wpAny (model prog w) A (subscripted slice false o i) (fun r s₃=>wpAny (model prog w) A (letTemporaryGo value o r >>= fun _=>pure r) Q E s₃) E s₂:=by
  rw [hs o i]
  exact wpAny_operating (wpAny_mono h₂ (fun r s₃ h₃=>wpAny_bind (wpAny_letTemporaryGo (wpAny_pure h₃))) fun _ _ x=>x)
 first
  | exact wpAny_pure (wpAny_bind fin)
  | exact wpAny_bind (wpAny_pure (wpAny_bind fin))
  | exact wpAny_bind fin
theorem qil {X:Cx}{pins:List (Addr×Obj)}{σ:St}{H:Hp}{s:Shared}{a:Addr}{y:V}{o:Option V} (I:Inv X pins σ H s) (g:DGet H a y o):s.TypeIs (.ref a) "dict":=by
 rcases g with ⟨kvs,k,e,_,_⟩ | ⟨kvs,k,b,e,_,_,_⟩
 ·obtain ⟨_,_,vs,_,dd⟩:=qi5 I.hok e
  exact dd.typeIs
 ·obtain ⟨_,_,xs,_,dd⟩:=qnp I.hok e
  exact dd.typeIs
def tDGet (td ty:TE):TE:=fun σ H Q=>td σ H fun x H1=>ty σ H1 fun y H2=>∃ a v,x=.ref a∧DGet H2 a y (some v)∧Q v H2
def tDIn (ty td:TE):TE:=fun σ H Q=>ty σ H fun y H1=>td σ H1 fun x H2=>∃ a o,x=.ref a∧DGet H2 a y o∧Q (.bl o.isSome) H2
def sDPut (td ty tv:TE):TS:=fun D σ H=>tv σ H fun v H1=>td σ H1 fun x H2=>ty σ H2 fun y H3=>∃ a H4,x=.ref a∧DPut H3 a y v H4∧D.nx σ H4
section
variable {X:Cx}{o i e value:Expr}{pos pos' tpos:Pos}{td ty tv:TE}
theorem qkl (hu:X.A.units+1 < cLine) (ho:PE X o td) (hi:PE X i ty) (hs:NoSl i):PE X (.Subscript o i pos) (tDGet td ty):=by
 intro pins s σ H Q I h
 refine subD_of PySem.F.slot_dict_getitem.lookup hs (thn (ho pins s σ H _ I h) fun u s1 ⟨x,H1,I1,rx,q1⟩=>thn (hi pins s1 σ H1 _ I1 q1) fun iv s2 ⟨y,H2,I2,ry,a,v,ex,g,q2⟩=>?_)
 subst ex
 obtain rfl:u=Value.ref a:=rx
 exact ⟨qil I2 g,qmx hu I2 g ry fun w' s3 I3 rw'=>⟨v,H2,I3,rw',q2⟩⟩
theorem pc_din (hu:X.A.units+1 < cLine) (hi:PE X i ty) (ho:PE X o td):PC X .In i o (tDIn ty td):=by
 intro pins s σ H Q I h
 refine thn (hi pins s σ H _ I h) fun iv s1 ⟨y,H1,I1,ry,q1⟩=>thn (ho pins s1 σ H1 _ I1 q1) fun u s2 ⟨x,H2,I2,rx,a,ov,ex,g,q2⟩=>?_
 subst ex
 obtain rfl:u=Value.ref a:=rx
 exact d_in hu I2 g ry fun s3 I3=>⟨.bl ov.isSome,H2,I3,rfl,q2⟩
theorem qfg (hu:X.A.units+1 < cLine) (ho:PE X o td) (hi:PE X i ty) (hv:PE X value tv) (hs:swapsWith value (some (.Subscript o i pos')) pos.line X.env=pure false) :
  PS X (.Assign [.Subscript o i pos'] value pos) (sDPut td ty tv):=by
 intro pins s σ H D I h
 refine wpAny_Assign_Subscript (thn (hv pins s σ H _ I h) fun r s1 ⟨v,H1,I1,rv,q1⟩=>thn (ho pins s1 σ H1 _ I1 q1) fun u s2 ⟨x,H2,I2,rx,q2⟩=>thn (hi pins s2 σ H2 _ I2 q2) fun iv s3 ⟨y,H3,I3,ry,a,H4,ex,g,q3⟩=>?_) hs
 subst ex
 obtain rfl:u=Value.ref a:=rx
 exact qmw hu I3 g ry rv fun s4 I4=>⟨σ,H4,I4,q3⟩
end
theorem qoz {P:Program}{w:World}{H:Hp} (h:Heap) (hb:sysModules < h.objs.size):ObjOk P w H (h.push { cls:=.type "dict",data:=.dict #[] }) h.objs.size (.dK []) :=
 ⟨Nat.zero_le _,beq_eq_false_iff_ne.mpr (Ne.symm (Nat.ne_of_lt hb)),[],.nil,Heap.DictOf.new h⟩
def tDNewK:TE:=fun _ H Q=>∀ p,H p=none→Q (.ref p) (upd H p (.dK []))
section
variable {X:Cx}{pos:Pos}
theorem pe_dnewK:PE X (.Dict [] [] pos) tDNewK:=fun pins s σ H Q I h =>
 wpAny_Dict_empty ⟨.ref s.heap.objs.size,_,I.laid (a:=s.heap.objs.size) (o:=.dK []) (t':=s.toks) (fun _ _ q=>Heap.get?_push_of_some _ q) (Nat.le_refl _) (qoz s.heap I.big),rfl,h _ (I.hok.fresh (Nat.le_refl _))⟩
end
def tPairs:List (TE×TE)→St→Hp→(List (V×V)→Hp→Prop)→Prop
 | [],_,H,Q=>Q [] H
 | (tk,tv)::r,σ,H,Q=>tk σ H fun x H1=>tv σ H1 fun y H2=>tPairs r σ H2 fun ps H3=>Q ((x,y)::ps) H3
abbrev VV:List (V×V)→List (Value×Value)→Prop:=Paired fun p q=>RelV p.1 q.1∧RelV p.2 q.2
def PPs (X:Cx) (pos:Pos) (keys:List (Option Expr)) (values:List Expr) (trs:List (TE×TE)):Prop :=
 ∀ (pins:List (Addr×Obj)) (s:Shared) (σ:St) (H:Hp) (Q:List (V×V)→Hp→Prop),Inv X pins σ H s→tPairs trs σ H Q →
  wpAny (model X.prog X.w) X.A (evalPairs (pairTrees keys values X.env pos)) (fun vs s'=>∃ ps H',Inv X pins σ H' s'∧VV ps vs∧Q ps H') X.xe s
theorem pps_nil {X:Cx}{pos:Pos}:PPs X pos [] [] []:=fun pins s σ H Q I h=>pairTrees_nil_walk ⟨[],H,I,.nil,h⟩
theorem qob {X:Cx}{pos:Pos}{k v:Expr}{ks:List (Option Expr)}{vs:List Expr}{tk tv:TE}{trs:List (TE×TE)} (hk:PE X k tk) (hv:PE X v tv) (hr:PPs X pos ks vs trs) :
  PPs X pos (some k::ks) (v::vs) ((tk,tv)::trs):=fun pins s σ H Q I h =>
 pairTrees_cons_walk (thn (hk pins s σ H _ I h) fun u s1 ⟨x,H1,I1,rx,q1⟩=>thn (hv pins s1 σ H1 _ I1 q1) fun w2 s2 ⟨y,H2,I2,ry,q2⟩ =>
  thn (hr pins s2 σ H2 _ I2 q2) fun ws s3 ⟨ps,H3,I3,rel,q3⟩=>⟨(x,y)::ps,H3,I3,.cons ⟨rx,ry⟩ rel,q3⟩)
def qme (kvs more:List (Key×V)):List (Key×V):=more.foldl (fun acc kv=>putK acc kv.1 kv.2) kvs
theorem KV.merge:∀ {more:List (Key×V)}{rs:List (Key×Value)}{kvs:List (Key×V)}{vs:List (Key×Value)},KV more rs→KV kvs vs→KV (qme kvs more) (merged vs rs):=by
 intro more rs kvs vs r
 unfold KV at r
 induction r generalizing kvs vs with
 | nil=>intro q;exact q
 | @cons p q ps qs h t ih =>
  intro r0
  have e:KV (putK kvs p.1 p.2) (stored vs q.1 q.2):=by
   have:=r0.put p.1 h.2
   rw [← h.1];exact this
  exact ih e
theorem qf0:∀ (more kvs:List (Key×V)),(qme kvs more).length≤kvs.length+more.length
 | [],kvs=>by show kvs.length≤kvs.length+0;omega
 | p::r,kvs=>by
  have h1:=qf0 r (putK kvs p.1 p.2)
  have h2:=qfk kvs p.1 p.2
  show (qme (putK kvs p.1 p.2) r).length≤_
  rw [List.length_cons];omega
theorem qjy {P:Program}{w:World}:∀ {kvs:List (Key×V)}{ws:List (Value×Value)},VV (kvs.map fun kv=>(kV kv.1,kv.2)) ws→∃ rs,Carries (qbi P w) ws rs∧KV kvs rs
 | [],_,r=>by rw [List.map_nil] at r;cases r;exact ⟨[],True.intro,.nil⟩
 | p::kvs,_,r=>by
  rw [List.map_cons] at r
  cases r with
  | @cons a b as bs h t =>
   obtain ⟨rs,c,q⟩:=qjy (P:=P) (w:=w) t
   obtain ⟨b1,b2⟩:=b
   exact ⟨(p.1,b2)::rs,⟨qmj h.1,rfl,c⟩,.cons ⟨rfl,h.2⟩ q⟩
def tDisp (trs:List (TE×TE)):TE:=fun σ H Q=>∀ p,H p=none→tPairs trs σ (upd H p (.dK [])) fun ps H2=>H2 p=some (.dK [])∧∃ kvs:List (Key×V),ps=kvs.map (fun kv=>(kV kv.1,kv.2))∧kvs.length≤15∧Q (.ref p) (upd H2 p (.dK (qme [] kvs)))
theorem pe_disp {X:Cx}{pos:Pos}{keys:List (Option Expr)}{values:List Expr}{trs:List (TE×TE)} (h:PPs X pos keys values trs) (hall:keys.all (·.isSome)=true) (hl:keys.length=values.length) (h0:keys≠[])
  (h15:keys.length≤15):PE X (.Dict keys values pos) (tDisp trs):=by
 intro pins s σ H Q I q
 have hn:=I.hok.fresh (Nat.le_refl s.heap.objs.size)
 have I1:=I.laid (a:=s.heap.objs.size) (o:=.dK []) (h':=s.heap.push { cls:=.type "dict",data:=.dict #[] }) (t':=s.toks) (fun _ _ q=>Heap.get?_push_of_some _ q) (Nat.le_refl _) (qoz s.heap I.big)
 refine wpAny_Dict_walk (knd:=qbi X.prog X.w) hall hl h0 h15 (thn (h pins _ σ _ _ I1 (q _ hn)) fun ws s2 ⟨ps,H2,I2,rel,e,kvs,ep,lk,q2⟩=>?_)
 subst ep
 obtain ⟨rs,c,rk⟩:=qjy (P:=X.prog) (w:=X.w) rel
 obtain ⟨z,hd,vs0,r0,dd⟩:=dk_of I2.hok e
 cases r0
 refine ⟨rs,c,dd,fun h' dd' hs=>⟨.ref s.heap.objs.size,_,?_,rfl,q2⟩⟩
 have hz:(qme [] kvs).length≤sizeLine:=by
  have h1:=qf0 kvs []
  rw [List.length_nil] at h1
  rw [sizeLine_eq];omega
 have he:∃ q,h'.get? s.heap.objs.size=some q:=let ⟨q,_,_,hq,_⟩:=dd';⟨q,hq⟩
 exact qk1 I2 (by rw [e];exact True.intro) hs he (dk_new hz hd (rk.merge .nil) dd')
structure M1 (X:Cx) (o:Expr) (m:Str) (apos:Pos) (e:Expr) (cpos:Pos):Prop where
 base:attributeBase o m X.env (eval o X.env)=eval o X.env
 few:((backTo cpos (starEach [e] X.env)).all (fun x=>!x.1) && (backToKw cpos (keywordEach [] X.env)).all (fun x=>x.1.isSome)
  && decide (([e]:List Expr).length+([]:List Keyword).length+(if ([]:List Keyword).isEmpty then 0 else 1) < 30))=true
 line:(apos.endLine == cpos.line)=true
 trees:backTo cpos (starEach [e] X.env)=[(false,eval e X.env)]
structure M2 (X:Cx) (o:Expr) (m:Str) (apos:Pos) (e f:Expr) (cpos:Pos):Prop where
 base:attributeBase o m X.env (eval o X.env)=eval o X.env
 few:((backTo cpos (starEach [e,f] X.env)).all (fun x=>!x.1) && (backToKw cpos (keywordEach [] X.env)).all (fun x=>x.1.isSome)
  && decide (([e,f]:List Expr).length+([]:List Keyword).length+(if ([]:List Keyword).isEmpty then 0 else 1) < 30))=true
 line:(apos.endLine == cpos.line)=true
 trees:backTo cpos (starEach [e,f] X.env)=[(false,eval e X.env),(false,eval f X.env)]
def IsD (H:Hp) (a:Addr):Prop:=(∃ kvs,Rd H a (.dK kvs))∨∃ kvs,Rd H a (.dT kvs)
theorem isD_at {X:Cx}{pins:List (Addr×Obj)}{σ:St}{H:Hp}{s:Shared}{a:Addr} (I:Inv X pins σ H s) (d:IsD H a) :
  s.TypeIs (.ref a) "dict"∧(∀ b,Value.ref a=.ref b→∃ ob,s.heap.get? b=some ob∧ob.dict=none)∧(a == sysModules)=false:=by
 rcases d with ⟨kvs,e⟩ | ⟨kvs,e⟩
 ·obtain ⟨_,hd,vs,_,dd⟩:=qi5 I.hok e
  refine ⟨dd.typeIs,fun b q=>?_,hd⟩
  cases q
  obtain ⟨ob,_,_,h1,h2,_⟩:=dd
  exact ⟨ob,h1,h2.2.1⟩
 ·obtain ⟨_,hd,xs,_,dd⟩:=qnp I.hok e
  refine ⟨dd.typeIs,fun b q=>?_,hd⟩
  cases q
  obtain ⟨ob,_,_,h1,h2,_⟩:=dd
  exact ⟨ob,h1,h2.2.1⟩
section
variable {X:Cx}{pins:List (Addr×Obj)}{σ:St}{H:Hp}{s:Shared}{a:Addr}{y d:V}{u r:Value}{o:Option V}{A:Around}{E:Value→Shared→Prop}
theorem d_get2 {Q:Value→Shared→Prop} (hu:A.units+1 < cLine) (I:Inv X pins σ H s) (g:DGet H a y o) (ry:RelV y u) (rd:RelV d r) (h:∀ w' s',Inv X pins σ H s'→RelV (o.getD d) w'→Q w' s') :
  wpAny (model X.prog X.w) A (call (.builtin "dict.get") [.ref a,u,r]) Q E s:=by
 rcases g with ⟨kvs,k,e,ey,l⟩ | ⟨kvs,k,b,e,ey,eb,l⟩
 ·subst ey
  obtain ⟨z,hd,vs,rel,dd⟩:=qi5 I.hok e
  refine call_meetsIn PySem.F.slot_dict_get dd.typeIs PySem.F.entry_dict_get (PySem.F.args_dict_get_3 _ _ _) (meets_dict_get_default (qbi X.prog X.w) a (qmj ry) hd r) ⟨_,dd.mapOf,h _ _ (I.tok _) ?_⟩
  rw [l]
  exact (rel.val k).getD rd
 ·subst ey
  cases (show u=Value.ref b from ry)
  obtain ⟨z,hd,xs,rel,dd⟩:=qnp I.hok e
  refine call_meetsIn PySem.F.slot_dict_get dd.typeIs PySem.F.entry_dict_get (PySem.F.args_dict_get_3 _ _ _) (meetsH_dict_get_default (tupleKind (qbi X.prog X.w)) a b hd r) ⟨tupleKind_room_in1 hu,k,xs,qjm I.hok eb,dd,h _ _ (I.tok _) ?_⟩
  rw [l]
  exact (rel.val k).getD rd
end
def tDGet2 (td ty tx:TE):TE:=fun σ H Q=>td σ H fun x H1=>∃ a,x=.ref a∧IsD H1 a∧ty σ H1 fun y H2=>tx σ H2 fun z H3=>∃ o,DGet H3 a y o∧Q (o.getD z) H3
def tDPop1 (td ty:TE):TE:=fun σ H Q=>td σ H fun x H1=>∃ a,x=.ref a∧IsD H1 a∧ty σ H1 fun y H2=>∃ kvs k v,H2 a=some (.dK kvs)∧y=kV k∧valV kvs k=some v∧Q v (upd H2 a (.dK (qnr kvs k)))
section
variable {X:Cx}{o e f:Expr}{apos cpos:Pos}{td ty tx:TE}
theorem qkk (hu:X.A.units+1 < cLine) (ho:PE X o td) (he:PE X e ty) (hf:PE X f tx) (m:M2 X o "get" apos e f cpos):PE X (.Call (.Attribute o "get" apos) [e,f] [] cpos) (tDGet2 td ty tx):=by
 intro pins s σ H Q I h
 refine wpAny_Call_method m.base m.few m.line PySem.F.plainAttrs_dict PySem.F.slot_dict_get PySem.F.type_dict_get (thn (ho pins s σ H _ I h) fun u s1 ⟨x,H1,I1,rx,a,ex,d,q1⟩=>?_)
 subst ex
 obtain rfl:u=Value.ref a:=rx
 obtain ⟨t1,t2,_⟩:=isD_at I1 d
 refine ⟨t1,t2,?_⟩
 rw [m.trees]
 refine Calls.callWith_builtin rfl (Calls.evalArgs_plain (Calls.spliced_cons (thn (he pins s1 σ H1 _ I1 q1) fun iv s2 ⟨y,H2,I2,ry,q2⟩ =>
  Calls.spliced_cons (thn (hf pins s2 σ H2 _ I2 q2) fun fv s3 ⟨z,H3,I3,rz,ov,g,q3⟩=>Calls.spliced_nil ?_))))
 exact d_get2 hu I3 g ry rz fun w' s4 I4 rw'=>⟨_,H3,I4,rw',q3⟩
theorem pe_dpop1 (ho:PE X o td) (he:PE X e ty) (m:M1 X o "pop" apos e cpos):PE X (.Call (.Attribute o "pop" apos) [e] [] cpos) (tDPop1 td ty):=by
 intro pins s σ H Q I h
 refine wpAny_Call_method m.base m.few m.line PySem.F.plainAttrs_dict PySem.F.slot_dict_pop PySem.F.type_dict_pop (thn (ho pins s σ H _ I h) fun u s1 ⟨x,H1,I1,rx,a,ex,d,q1⟩=>?_)
 subst ex
 obtain rfl:u=Value.ref a:=rx
 obtain ⟨t1,t2,_⟩:=isD_at I1 d
 refine ⟨t1,t2,?_⟩
 rw [m.trees]
 refine Calls.callWith_builtin rfl (Calls.evalArgs_plain (Calls.spliced_cons (thn (he pins s1 σ H1 _ I1 q1) fun iv s2 ⟨y,H2,I2,ry,kvs,k,v,ea,ey,l,q2⟩=>Calls.spliced_nil ?_)))
 subst ey
 exact d_pop I2 ea ry l (.inl rfl) fun w' s3 I3 rw'=>⟨v,_,I3,rw',q2⟩
end
section
variable {X:Cx}{pins:List (Addr×Obj)}{σ:St}{H:Hp}{s:Shared}{a:Addr}{kvs:List (Key×V)}{A:Around}{E:Value→Shared→Prop}
end
section
variable {X:Cx}{pins:List (Addr×Obj)}{σ:St}{H:Hp}{s:Shared}{a:Addr}{y:V}{u:Value}{A:Around}{E:Value→Shared→Prop}
end
end L2
namespace Att
open PySem PySem.W PySem.Calls PyProof.Rows
theorem qid {P:Params}{h:Heap}:∀ (ns:List Int) (vs:List Value),WellAll P h vs (ns.map WData.int)→IntsAre vs ns:=by
 intro ns
 induction ns with
 | nil =>
  intro vs w
  rw [List.map_nil] at w
  cases w
  exact .nil
 | cons n ns ih =>
  intro vs w
  rw [List.map_cons] at w
  cases w with
  | cons a b =>
   cases a
   exact .cons _ _ (ih _ b)
theorem script_of {l:OpenLaw}{n:Nat} (hn:l.most=some n) {P:Params}{h:Heap}{args:List WData}{vals:List Value}
  (hpre:l.row.toRowW.claim.pre args=true) (hwl:WellAll P h vals args) :
  ∃ a vs ns,vals=[Value.ref a]∧args=[WData.list (ns.map WData.int)]∧h.get? a=some { cls:=.type "list",data:=.seq vs.toArray }∧IntsAre vs ns∧ns.length≤n:=by
 have hsh:WShape.hasAll [] args [.list .int]=true:=(pre_splitW hpre).1
 have hc:l.pre.holds [] { args:=args }=true:=(pre_splitW hpre).2
 obtain ⟨d,r,rfl,h1,h2⟩:=hasAllW_cons hsh
 obtain rfl:=hasAllW_nil h2
 obtain ⟨xs,rfl,h3⟩:=hasW_list h1
 obtain ⟨ns,rfl⟩:=items_int h3
 have hlen:ns.length≤n:=by
  unfold OpenLaw.pre at hc
  have h4:(WTm.not (.lt (.lit (.int (n:Int))) (.len (.arg 0)))).holds [] { args:=[.list (ns.map .int)] }=true:=by
   have h4:=(holds_andW hc).1
   rw [hn] at h4
   exact h4
  have h5:=condW_of h4 (w_not (w_lt w_lit (w_len_list (w_arg rfl))))
  rw [List.length_map] at h5
  refine Nat.le_of_not_lt fun q=>?_
  have q':(n:Int) < ((ns.length:Nat):Int):=by omega
  first
   | (rw [decide_eq_true q'] at h5;exact absurd h5 (by decide))
   | (simp at h5;omega)
 cases hwl with
 | cons w1 w2 =>
  cases w2
  cases w1 with
  | list ho hall=>exact ⟨_,_,ns,rfl,rfl,ho,qid ns _ hall,hlen⟩
theorem post_true (l:OpenLaw) (args:List WData):l.row.toRowW.claim.post args (.bool true) args=true :=
 postW_of (r:=l.row.toRowW) (X:=(true == true))
  (show WShape.has [] (.bool true) .bool=true by first | rfl | decide | simp [WShape.has,WShape.arms,WShape.armsAll])
  (show (WTm.eq .res (.lit (.bool true))).value [] { args:=args,res:=some (.bool true),after:=args }=some (.bool (true == true)) from w_eq_bool (w_res rfl) w_lit) rfl
theorem attach_call {l:OpenLaw}{n:Nat}{q:Program}{loose:List Str}{XP:(Str→Option Value)→Heap→Prop}{YP:World→Heap→Prop}{d:DefRec}
  (hn:l.most=some n) (hdf:d.params.defaults=[])
  (call:∀ (w:World) (s₀ s₁:Shared) (mg mb:Str→Option Value) (fa:Addr) (o:Obj) (pm cd doc:Value) (a:Addr) (vs:List Value) (ns:List Int),
   Ground q loose [] XP w s₀ mg mb s₁.heap→YP w s₁.heap →
   s₁.heap.get? fa=some o→o.data=.func (docDef d.name d.params d.body d.scope pm cd doc)→s₁.heap.CodeRec cd d.name→mg d.name=some (.ref fa) →
   s₁.heap.get? a=some { cls:=.type "list",data:=.seq vs.toArray }→IntsAre vs ns→ns.length≤n→s₁.gens=#[] →
   codeAny (model l.prog w) callerA (.call (.ref fa) ⟨[.ref a],[]⟩) (fun r s'=>r=.ok (.ret (.bool true))∧OldK s₁.heap s'.heap∧s'.os=s₁.os∧AllBare s'.gens) s₁) :
  WalkO q loose XP YP l.row.toRowW d [] (fun f vs=>PySem.call f vs):=by
 intro w s₀ s₁ mg mb G Y fa o pm cd doc dV kV ho hd hcd hD hmg hg args vals as hpre hlay hrd hwl hlo
 obtain rfl:dV=.none:=Dflts.none hD hdf
 obtain rfl:kV=.none:=Dflts.noKw hD
 obtain ⟨a,vs,ns,rfl,rfl,hobj,hints,hlen⟩:=script_of hn hpre hwl
 refine enter_call (codeAny_mono (call w s₀ s₁ mg mb fa o pm cd doc a vs ns G Y ho (fd_plain hd) hcd hmg hobj hints hlen hg) fun r s' hq=>?_)
 obtain ⟨rfl,h2,h3,h4⟩:=hq
 exact ⟨.inl ⟨.bool true,.bool true,[],rfl,fun _=>rfl,.bool true,post_true l _,fun _=>⟨List.Pairwise.nil,fun _ hm=>(nomatch hm)⟩⟩,h2,h3,h4⟩
section
variable {prog:Program}{w:World}{A:Around}{E:Value→Shared→Prop}{s:Shared}{K:Frag}
end
end Att
namespace L2
open PySem PySem.Spec PyProof.Rows
theorem qlg:∀ {vs:List Value}{ns:List Int},IntsAre vs ns→Vals (ns.map V.int) vs
 | _,_,.nil=>.nil
 | _,_,.cons n t h=>.cons ⟨t,rfl⟩ (qlg h)
end L2
namespace L2
open PySem PySem.Spec PyProof.Rows
end L2
namespace L2
open PySem PySem.Spec PyProof.Rows
def qde (s:Stmt) (j:Nat):Stmt:=match s with
 | .ClassDef _ _ _ body _ _ _ _ _ _ _=>body.getD j (.Pass ⟨0,0,0,0⟩)
 | _=>.Pass ⟨0,0,0,0⟩
def qao (s:Stmt):Arguments:=match s with
 | .FunctionDef _ a _ _ _ _ _ _ _ _=>a
 | _=>{ posonlyargs:=[],args:=[],vararg:=none,kwonlyargs:=[],kw_defaults:=[],kwarg:=none,defaults:=[] }
def qal (s:Stmt):List Stmt:=match s with
 | .FunctionDef _ _ b _ _ _ _ _ _ _=>b
 | _=>[]
def qac (s:Stmt):Scope:=match s with
 | .FunctionDef _ _ _ _ _ _ sc _ _ _=>sc
 | _=>{ kind:=.function,names:=[],isGenerator:=false,isCoroutine:=false }
abbrev E0:XK:=fun _ _ _=>False
structure Fun (K:PySem.W.Frag) (x qual:Str) (st:Stmt) (f:Addr) (fd:FuncData):Prop where
 ex:∃ (oc:Value) (od:Option Addr) (kV doc pm:Value) (an:Option Addr) (cdv ct:Value) (osl:Array (Option Value)),
  fd=PySem.W.fnOf x qual (qao st) (qal st) (qac st) .none kV doc pm an cdv ct∧K.lookup f=some ⟨oc,od,.func fd,osl⟩∧PySem.W.codeIn K cdv qual=true
 kp:PySem.W.keepIn K (.ref f)=true
section
variable {P:Program}{w:World}{K:PySem.W.Frag}{mg:Str→Option Value}{base:Heap}
theorem Fun.binds {x qual:Str}{st:Stmt}{f:Addr}{fd:FuncData}{ps:List Str} (F:Fun K x qual st f fd)
  (h:∀ (kV doc pm:Value) (an:Option Addr) (cdv ct:Value) (us:List Value),us.length=ps.length→bindArgs (PySem.W.fnOf x qual (qao st) (qal st) (qac st) .none kV doc pm an cdv ct) ⟨us,[]⟩=pure (ps.zip us)):Binds K fd ps []:=by
 obtain ⟨oc,od,kV,doc,pm,an,cdv,ct,osl,rfl,lk,hcd⟩:=F.ex
 exact .all (h kV doc pm an cdv ct)
theorem qax {x qual:Str}{st:Stmt}{f:Addr}{oc:Value}{od an:Option Addr}{osl:Array (Option Value)}{kV doc pm cdv ct:Value} (l:K.lookup f=some ⟨oc,od,.func (PySem.W.fnOf x qual (qao st) (qal st) (qac st) .none kV doc pm an cdv ct),osl⟩)
  (c:PySem.W.codeIn K cdv qual=true) (k:PySem.W.keepIn K (.ref f)=true):Fun K x qual st f (PySem.W.fnOf x qual (qao st) (qal st) (qac st) .none kV doc pm an cdv ct):=⟨⟨oc,od,kV,doc,pm,an,cdv,ct,osl,rfl,l,c⟩,k⟩
end
theorem qar {A:Around}{k:Nat} (hr:Room k A):A.units+1 < cLine:=Nat.lt_of_le_of_lt (Nat.add_le_add_left (by decide:1≤64) _) hr.units
section
variable {X:Cx}
theorem pv (i:Nat) {x:Str}{pos:Pos} (hN:X.N[i]?=some x:=by rfl) (hv:Vis X.env.scope x:=by first | exact Or.inl rfl | exact Or.inr (Or.inl rfl) | exact Or.inr (Or.inr rfl)) (hd:(x == ("__debug__":Str))=false:=by decide)
  (hcd:(x == ("__classdict__":Str))=false:=by decide):PE X (.Name x pos) (tVar i):=qoc hN hv hd hcd
theorem qm1:CallR X (.builtin "len") (fun xs H Q=>∃ a kvs,xs=[V.ref a]∧H a=some (.dK kvs)∧Q (.int kvs.length) H):=by
 intro pins s σ H xs us Q I r h
 obtain ⟨a,kvs,rfl,ha,q⟩:=h
 obtain ⟨u,rfl,ru⟩:=qgh r
 cases ru
 exact d_len I (.inl ha) fun t s' I'=>⟨.int kvs.length,H,I',⟨t,rfl⟩,q⟩
end
theorem iteF {A B:Prop} (h:B):if false=true then A else B:=by
 rw [if_neg Bool.false_ne_true]
 exact h
theorem iteT {A B:Prop} (h:A):if true=true then A else B:=by
 rw [if_pos rfl]
 exact h
theorem ite2 {c A B:Prop} [Decidable c] (h1:c→A) (h2:¬ c→B):if c then A else B:=by
 by_cases h:c
 ·rw [if_pos h]
  exact h1 h
 ·rw [if_neg h]
  exact h2 h
def Same (H H':Hp):Prop:=∀ b o,H b=some o→H' b=some o
theorem Same.trans {H H1 H2:Hp} (a:Same H H1) (b:Same H1 H2):Same H H2:=fun c o h=>b c o (a c o h)
theorem Same.free {H H':Hp} (e:Same H H') {l:Addr} (h:H' l=Option.none):H l=Option.none:=by
 cases q:H l with
 | none=>rfl
 | some o =>
  rw [e l o q] at h
  cases h
theorem Same.seq {K:PySem.W.Frag}{H H':Hp}{a:Addr}{xs:List V} (e:Same H H') (h:SqL K H a xs):SqL K H' a xs:=by
 rcases h with (h | ⟨o,h⟩) | h
 ·exact .inl (.inl (e _ _ h))
 ·exact .inl (.inr ⟨o,e _ _ h⟩)
 ·exact .inr h
section
variable {κ:Type} [DecidableEq κ]
theorem qkv:∀ {l:List κ}{k:κ},l.Nodup→¬ k∈l→(l++[k]).Nodup
 | [],k,_,_=>by simp
 | a::r,k,h,hk=>by
  obtain ⟨h1,h2⟩:=List.nodup_cons.mp h
  show (a::(r++[k])).Nodup
  refine List.nodup_cons.mpr ⟨fun m=>?_,qkv h2 fun m=>hk (List.mem_cons.mpr (Or.inr m))⟩
  rcases List.mem_append.mp m with q | q
  ·exact h1 q
  ·exact hk (List.mem_cons.mpr (Or.inl (List.mem_singleton.mp q).symm))
end
end L2
namespace L2
open PySem PySem.Spec PyProof.Rows
theorem ff:(NameKind.free == NameKind.free)=true:=rfl
def qcx (cells:List (Str×Addr)):List (Str×NameKind)→List (Str×Addr)→List (Str×Addr)
 | [],cs=>cs
 | (n,k)::r,cs=>qcx cells r (if k == .free then (n,(cells.lookup n).getD 0)::cs else cs)
theorem qio (env:Env):∀ (names:List (Str×NameKind)) (cs:List (Str×Addr)),(∀ y∈names,y.2=.free→∃ c,env.cells.lookup y.1=some c) →
  (forIn names cs fun (x:Str×NameKind) (r:List (Str×Addr))=>match x with
   | (name,kind)=>if (kind == .free)=true then (do let c ← cellOf env name;pure (ForInStep.yield ((name,c)::r))) else pure (ForInStep.yield r):Sem (List (Str×Addr)))=pure (qcx env.cells names cs)
 | [],cs,_=>rfl
 | (n,k)::r,cs,h=>by
  rw [List.forIn_cons]
  by_cases hk:k=.free
  ·subst hk
   obtain ⟨c,hc⟩:=h (n,.free) List.mem_cons_self rfl
   have hc:env.cells.lookup n=some c:=hc
   have ih:=qio env r ((n,c)::cs) fun y hy=>h y (List.mem_cons_of_mem _ hy)
   have e1:qcx env.cells ((n,NameKind.free)::r) cs=qcx env.cells r ((n,c)::cs):=by
    show qcx env.cells r (if (NameKind.free == NameKind.free)=true then (n,(env.cells.lookup n).getD 0)::cs else cs)=_
    rw [if_pos ff,hc]
    all_goals rfl
   rw [e1,← ih]
   have e2:cellOf env n=pure c:=by
    unfold cellOf
    rw [hc]
   simp only [beq_self_eq_true,if_true,e2]
   rfl
  ·have hb:(k == NameKind.free)=false:=by simpa using hk
   have ih:=qio env r cs fun y hy=>h y (List.mem_cons_of_mem _ hy)
   have e1:qcx env.cells ((n,k)::r) cs=qcx env.cells r cs:=by
    show qcx env.cells r (if (k == NameKind.free)=true then (n,(env.cells.lookup n).getD 0)::cs else cs)=_
    rw [hb,if_neg Bool.false_ne_true]
   rw [e1,← ih]
   simp only [hb]
   rfl
theorem qed {scope:Scope}{env:Env} (h:∀ y∈scope.names,y.2=.free→∃ c,env.cells.lookup y.1=some c):closureFor scope env=pure (qcx env.cells scope.names []):=by
 have e:=qio env scope.names [] h
 unfold closureFor
 refine Eq.trans ?_ (congrArg (fun m:Sem (List (Str×Addr))=>m >>= pure) e)
 rfl
theorem qo4 {cells:List (Str×Addr)}{y:Str}{c:Addr}:∀ (names:List (Str×NameKind)) (cs:List (Str×Addr)),(∀ z∈names,z.2=.free→∃ c,cells.lookup z.1=some c)→(∀ z d,cs.lookup z=some d→cells.lookup z=some d) →
  (qcx cells names cs).lookup y=some c→cells.lookup y=some c
 | [],cs,_,hcs,h=>hcs y c h
 | (n,k)::r,cs,hf,hcs,h=>by
  refine qo4 r _ (fun z hz=>hf z (List.mem_cons_of_mem _ hz)) ?_ h
  by_cases hk:k=.free
  ·subst hk
   obtain ⟨d,hd⟩:=hf (n,.free) List.mem_cons_self rfl
   have hd:cells.lookup n=some d:=hd
   intro z d' hz
   rw [if_pos ff,hd] at hz
   by_cases e:z=n
   ·subst e
    rw [List.lookup_cons] at hz
    simp only [beq_self_eq_true] at hz
    rw [hd]
    exact hz
   ·have hb:(z == n)=false:=by simpa using e
    rw [List.lookup_cons] at hz
    simp only [hb] at hz
    exact hcs z d' hz
  ·have hb:(k == NameKind.free)=false:=by simpa using hk
   rw [hb,if_neg Bool.false_ne_true]
   exact hcs
theorem qjw {cells:List (Str×Addr)}{y:Str}:∀ (names:List (Str×NameKind)) (cs:List (Str×Addr)),(cs.lookup y).isSome=true→((qcx cells names cs).lookup y).isSome=true
 | [],cs,h=>h
 | (n,k)::r,cs,h=>by
  refine qjw r _ ?_
  by_cases hk:(k == NameKind.free)=true
  ·rw [if_pos hk,List.lookup_cons]
   cases z:(y == n)
   ·exact h
   ·rfl
  ·rw [if_neg hk]
   exact h
theorem qgd {cells:List (Str×Addr)}{y:Str}:∀ (names:List (Str×NameKind)) (cs:List (Str×Addr)),(y,NameKind.free)∈names→((qcx cells names cs).lookup y).isSome=true
 | (n,k)::r,cs,h=>by
  rcases List.mem_cons.mp h with e | e
  ·cases e
   refine qjw r _ ?_
   rw [if_pos ff,List.lookup_cons]
   simp
  ·exact qgd r _ e
def blk (X:Cx) (scope:Scope) (cl:List (Str×Addr)) (C:Addr) (Nb:List Str) (s₃:Shared) (H₃:Hp) (fp:List Addr):Cx where
 prog:=X.prog
 w:=X.w
 K:=X.K
 mg:=X.mg
 base:=X.base
 A:=X.A
 N:=Nb
 s₀:=s₃
 H₀:=H₃
 env:=compEnvC scope cl C X.env
 outer:=X.stack
 stack:=X.stack
 ex:=fp
 fn:=fun _=>false
 calm:=true
 pn:=[]
 xe:=fun _ _=>False
structure CompOk (N:List Str) (esc:Scope) (scope:Scope) (x:Str) (fr:List Str) (ix:List Nat):Prop where
 kind:scope.kind=.function
 cell:∀ y∈scope.names,y.2≠.cell
 loc:scope.names.lookup x=some .local
 nm:∀ y∈scope.names,y.2=.local→scope.names.lookup y.1=some .local
 free:∀ y∈scope.names,y.2=.free→esc.names.lookup y.1=some .cell
 nd:(x::fr).Nodup
 idx:∀ p∈fr.zip ix,N[p.2]?=some p.1
 frs:∀ y∈fr,scope.names.lookup y=some .free∧esc.names.lookup y=some .cell
 len:ix.length=fr.length
def capt (ix:List Nat) (σ:St):St:=ix.map fun i=>(σ[i]?).getD none
def PIfs (X:Cx) (ifs:List Expr) (t:TT):Prop :=
 ∀ (pins:List (Addr×Obj)) (s:Shared) (σ:St) (H:Hp) (Q:Bool→Hp→Prop),Inv X pins σ H s→t σ H Q →
  wpAny (model X.prog X.w) X.A (forIn ifs true fun c r=>if r=true then do let ok ← isTrue c X.env (eval c X.env);pure (ForInStep.yield ok) else pure (ForInStep.yield r)) (TP X pins σ Q) X.xe s
def tYes:TT:=fun _ H Q=>Q true H
theorem qkj {X:Cx}:PIfs X [] tYes:=fun pins s σ H Q I h=>wpAny_pure ⟨H,I,h⟩
theorem pifs_one {X:Cx}{c:Expr}{t:TT} (h:PT X c t):PIfs X [c] t:=by
 intro pins s σ H Q I hq
 rw [List.forIn_cons]
 refine wpAny_bind ?_
 rw [if_pos rfl]
 refine wpAny_bind (thn (h pins s σ H Q I hq) fun b s1 h1=>wpAny_pure ?_)
 show wpAny _ _ (forIn [] b _) _ _ _
 rw [List.forIn_nil]
 exact wpAny_pure h1
def CompB (J:It) (tc:TT) (te:TE) (cap:St) (D:Addr) (H1:Hp) (Q:VK):Prop :=
 ∃ Pv:Nat→Nat→List V→Hp→Prop,(∃ m,Pv 0 m [] (upd H1 D (.lst [])))∧∀ i m ys H2,Pv i m ys H2 →
  (J.stop i H2∧H2 D=some (.lst ys)∧Q (.ref D) H2)∨(J.go i H2∧∀ x H3,J.yld i H2 x H3→tc (some x::cap) H3 fun b H4=>if b=true then
   te (some x::cap) H4 fun v H5=>H5 D=some (.lst ys)∧ys.length < sizeLine∧∃ m',m' < m∧Pv (i+1) m' (ys++[v]) (upd H5 D (.lst (ys++[v])))
   else ∃ m',m' < m∧Pv (i+1) m' ys H4)
def tComp (wi:TI) (ix:List Nat) (tc:TT) (te:TE):TE:=fun σ H Q=>wi σ H fun J H1=>∀ D,H1 D=none→CompB J tc te (capt ix σ) D H1 Q
section
variable {X:Cx}{elt iter:Expr}{ifs:List Expr}{x:Str}{px pos:Pos}{scope:Scope}{wi:TI}{tc:TT}{te:TE}{fr:List Str}{ix:List Nat}
theorem qdd {env:Env} (hk:env.scope.kind=.function):∀ {names:List (Str×NameKind)}{y:Str},names.lookup y=some .free→env.scope.names.lookup y=some .cell →
  (names.map fun (n,k)=>if (k == NameKind.free && env.scope.kind == .function && env.kindOf n == some .cell) then (n,NameKind.cell) else (n,k)).lookup y=some .cell
 | [],_,h,_=>by simp at h
 | (n,k)::r,y,h,hc=>by
  have ih:=@qdd env hk r y
  show List.lookup y ((if (k == NameKind.free && env.scope.kind == .function && env.kindOf n == some .cell)=true then (n,NameKind.cell) else (n,k))::_)=_
  cases hx:y == n with
  | true =>
   simp only [List.lookup_cons,hx] at h
   cases h
   have e:y=n:=by simpa using hx
   subst e
   have e2:env.kindOf y=some .cell:=hc
   rw [if_pos (by rw [hk,e2];rfl),List.lookup_cons]
   simp
  | false =>
   simp only [List.lookup_cons,hx] at h
   split
   ·simp only [List.lookup_cons,hx];exact ih h hc
   ·simp only [List.lookup_cons,hx];exact ih h hc
theorem capt_get {ix:List Nat}{σ:St}{k:Nat}{v:V} (h:(capt ix σ)[k]?=some (some v)):∃ i,ix[k]?=some i∧σ[i]?=some (some v):=by
 unfold capt at h
 rw [List.getElem?_map] at h
 cases e:ix[k]? with
 | none=>rw [e] at h;cases h
 | some i =>
  rw [e] at h
  refine ⟨i,rfl,?_⟩
  have h2:(σ[i]?).getD none=some v:=Option.some.inj h
  cases q:σ[i]? with
  | none=>rw [q] at h2;cases h2
  | some o=>rw [q] at h2;exact congrArg some h2
def BlkAt (X:Cx) (pins:List (Addr×Obj)) (C:Addr):Prop:=C≠X.env.locals∧X.s₀.heap.objs.size≤C∧(∀ y c,X.env.cells.lookup y=some c→c≠C)∧∀ p∈X.pn++pins,p.1≠C
theorem qmy {PR:Value→Addr→Result→Shared→Prop}{pins:List (Addr×Obj)}{σ:St}{H2:Hp}{s2:Shared}{it:Addr}{fp:List Addr}{tn:Nat→Heap→Prop}{J:It}{Q:VK} (hc:X.calm=true) (S:CompOk X.N X.env.scope scope x fr ix)
  (ht:∀ cl C s₃ H₃ fp,PIfs (blk X scope cl C (x::fr) s₃ H₃ fp) ifs tc) (he:∀ cl C s₃ H₃ fp,PE (blk X scope cl C (x::fr) s₃ H₃ fp) elt te)
  (hcells:∀ y∈scope.names,y.2=.free→∃ c,X.env.cells.lookup y.1=some c)
  (I2:Inv X pins σ H2 s2) (T:Turn X.prog X.w X.K (.Name x px) J fp it tn) (st2:tn 0 s2.heap) (f2:∀ b∈fp,FpOk X pins H2 b) (q2:∀ D,H2 D=none→CompB J tc te (capt ix σ) D H2 Q)
  (hfin:∀ D C H' s',Inv X pins σ H' s'→H' C=none→BlkAt X pins C→(∃ m,s'.heap.Ns C m)→Q (.ref D) H'→PR (.ref D) C (.ok .next) s') :
  wpAny (model X.prog X.w) X.A (newList []) (fun acc s₃=>wpAny (model X.prog X.w) X.A (newFunctionEnv scope X.env.globals (qcx X.env.cells scope.names []) [] X.env.qual none .none (some X.env)) (fun cenv s₄ =>
   codeAny (model X.prog X.w) X.A (.compStart (.ListComp elt [⟨.Name x px,iter,ifs,0⟩] scope pos) 0 (.ref it) acc { cenv with scope:=relabel scope X.env }) (PR acc cenv.locals) s₄) X.xe s₃) X.xe s2:=by
 refine wpAny_newObj_type ?_
 have hD:H2 s2.heap.objs.size=none:=I2.hok.fresh (Nat.le_refl _)
 have I3:Inv X pins σ (upd H2 s2.heap.objs.size (.lst [])) { s2 with heap:=s2.heap.push { cls:=.type "list",dict:=none,data:=.seq ([]:List Value).toArray } } :=
  I2.lnew (its:=[]) (t':=s2.toks) (.nil) (Nat.zero_le _)
 obtain ⟨Pv,⟨m0,p0⟩,turn⟩:=q2 s2.heap.objs.size hD
 generalize hD':s2.heap.objs.size=D at *
 generalize hs3:({ s2 with heap:=s2.heap.push { cls:=.type "list",dict:=none,data:=.seq ([]:List Value).toArray } }:Shared)=s3 at *
 have hk23:∀ b o,s2.heap.get? b=some o→s3.heap.get? b=some o:=fun b o e=>by rw [← hs3];exact Heap.get?_push_of_some _ e
 have hH3:∀ b,b≠D→(upd H2 D (.lst [])) b=H2 b:=fun b hb=>qad hb
 have f3:∀ b∈fp,FpOk X pins (upd H2 D (.lst [])) b∧b < s3.heap.objs.size:=fun b hb=>by
  obtain ⟨o,e,_⟩:=T.obj _ _ st2 b hb
  have hlt:=Heap.lt_size e
  refine ⟨⟨?_,(f2 b hb).2⟩,Heap.lt_size (hk23 b o e)⟩
  rw [hH3 b (by rw [← hD'];exact Nat.ne_of_lt hlt)]
  exact (f2 b hb).1
 have st3:tn 0 s3.heap:=T.keep _ _ _ st2 fun b hb o e=>hk23 b o e
 refine wpAny_newFunctionEnv S.cell (by intro y hy;simp at hy) (fun h4 hns4 hsb4=>?_) S.kind
 generalize hC:s3.heap.objs.size=C at *
 let X':Cx:=blk X scope (qcx X.env.cells scope.names []) C (x::fr) s3 (upd H2 D (.lst [])) fp
 have clof:∀ y c,(qcx X.env.cells scope.names []).lookup y=some c→X.env.cells.lookup y=some c:=fun y c e=>qo4 scope.names [] hcells (fun z d hz=>by simp at hz) e
 have clhas:∀ y,(y,NameKind.free)∈scope.names→∃ c,(qcx X.env.cells scope.names []).lookup y=some c:=fun y hy=>Option.isSome_iff_exists.mp (qgd scope.names [] hy)
 have k34:∀ b o,s3.heap.get? b=some o→h4.get? b=some o:=fun b o e=>hsb4.extBut b o (by rw [← hC];exact Nat.ne_of_lt (Heap.lt_size e)) (Heap.get?_push_of_some _ e)
 have relfree:∀ (l:List (Str×NameKind)) y k,(l.map fun (n,k)=>if (k == NameKind.free && X.env.scope.kind == .function && X.env.kindOf n == some .cell) then (n,NameKind.cell) else (n,k)).lookup y=some k→(k=.cell∨k=.free) →
   (∀ z∈l,z.2≠.cell)→(y,NameKind.free)∈l:=by
  intro l
  induction l with
  | nil=>intro y k e _ _;simp at e
  | cons z r ih =>
   intro y k e hk hn
   obtain ⟨n,kz⟩:=z
   rw [List.map_cons] at e
   by_cases hy:y=n
   ·subst hy
    have:kz=.free:=by
     by_cases hkz:kz=.free
     ·exact hkz
     ·exfalso
      have hb:(kz == NameKind.free)=false:=by simpa using hkz
      simp only [hb,Bool.false_and,Bool.false_eq_true,if_false,List.lookup_cons,beq_self_eq_true] at e
      have e':kz=k:=Option.some.inj e
      rcases hk with z | z
      ·exact hn (y,kz) List.mem_cons_self (e'.trans z)
      ·exact hkz (e'.trans z)
    rw [this]
    exact List.mem_cons_self
   ·have hb:(y == n)=false:=by simpa using hy
    refine List.mem_cons_of_mem _ (ih y k ?_ hk fun z hz=>hn z (List.mem_cons_of_mem _ hz))
    have e:List.lookup y ((if (kz == NameKind.free && X.env.scope.kind == .function && X.env.kindOf n == some .cell)=true then (n,NameKind.cell) else (n,kz))::_)=some k:=e
    by_cases hq:(kz == NameKind.free && X.env.scope.kind == .function && X.env.kindOf n == some .cell)=true
    ·rw [if_pos hq,List.lookup_cons] at e
     simp only [hb] at e
     exact e
    ·rw [if_neg hq,List.lookup_cons] at e
     simp only [hb] at e
     exact e
 have ok':X'.Ok:=by
  refine ⟨I3.ok.mod,S.kind,I3.ok.glob,I3.ok.blt,?_,fun y z c e1 e2=>I3.ok.inj y z c (clof y c e1) (clof z c e2),fun y hy=>?_,fun y c e _=>(by cases e),fun _=>I3.ok.hd hc,I3.ok.frames,.inl rfl,fun b hb=>⟨?_,fun y c e=>(f3 b hb).1.2.2.2.2.1 y c (clof y c e)⟩,I3.bs,Nat.le_trans I3.ok.bsz I3.sz,fun b o e hb=>?_,fun b hb z=>?_,I3.stack,I3.stkFree⟩
  ·show s3.heap.objs.size≤C
   rw [hC]
   exact Nat.le_refl _
  ·rcases hy with hy | hy
   ·exact clhas y (relfree scope.names y _ hy (.inl rfl) S.cell)
   ·exact clhas y (relfree scope.names y _ hy (.inr rfl) S.cell)
  ·exact Nat.ne_of_lt (f3 b hb).2
  ·rcases (f3 b hb).1.2.2.2.1 with z | z
   ·exact I3.ok.noex b o e z
   ·exact absurd (Nat.lt_of_lt_of_le (Heap.lt_size e) (Nat.le_trans I3.ok.bsz z)) (Nat.lt_irrefl _)
  ·rcases List.mem_cons.mp (I3.stkSub b z) with z | z
   ·exact (f3 b hb).1.2.1 z
   ·exact (f3 b hb).1.2.2.1 z
 have capture:∀ {h':Heap}{m:Str→Option Value},(∀ b o,s3.heap.get? b=some o→(∃ v,o.data=.cell v)→h'.get? b=some o)→∀ (k:Nat) (y:Str) (v:V),fr[k]?=some y→(capt ix σ)[k]?=some (some v)→∃ u,RelV v u∧Look X'.env h' m y u:=by
  intro h' m hkc k y v hy hv
  obtain ⟨i,hix,hσ⟩:=capt_get hv
  have hzip:(y,i)∈fr.zip ix:=by
   refine List.mem_of_getElem? (i:=k) ?_
   rw [List.getElem?_zip_eq_some]
   exact ⟨hy,hix⟩
  have hN:X.N[i]?=some y:=S.idx (y,i) hzip
  obtain ⟨hfr,hcell⟩:=S.frs y (List.mem_of_getElem? hy)
  obtain ⟨m3,hn3,hl3⟩:=I3.loc
  obtain ⟨u,ru,l⟩:=hl3 i y v hN hσ (.inr (.inl hcell))
  refine ⟨u,ru,?_⟩
  rcases l with ⟨kd,_⟩ | ⟨_,c,ec,ic⟩
  ·have kd:X.env.scope.names.lookup y=some .local:=kd
   rw [hcell] at kd
   cases kd
  ·refine .inr ⟨.inl (qdd I3.ok.kind hfr hcell),c,?_,?_⟩
   ·obtain ⟨c',e'⟩:=clhas y (PySem.mem_of_lookup hfr)
    have:=clof y c' e'
    rw [ec] at this
    cases this
    exact e'
   ·obtain ⟨o,ho,hd⟩:=ic
    exact ⟨o,hkc c o ho ⟨_,hd⟩,hd⟩
 have hNd:X'.N.Nodup:=S.nd
 have hx0:X'.env.scope.names.lookup x=some .local:=lookup_relabel_local S.loc
 have lenb:∀ o:Option V,(o::capt ix σ).length=X'.N.length:=fun o=>by
  show (capt ix σ).length+1=fr.length+1
  unfold capt
  rw [List.length_map,S.len]
 have I4:Inv X' [] (none::capt ix σ) (upd H2 D (.lst [])) { s3 with heap:=h4,toks:=s3.toks+([]:List (Str×Value)).length }:=by
  refine ⟨ok',rfl,I3.bare,Un.kept k34,⟨_,hns4,fun k y v e1 e2 e3=>?_⟩,fun y c e=>?_,?_,fun y c e=>I3.freeC y c (clof y c e),fun p hp=>?_,I3.hok.kept k34,lenb none⟩
  ·cases k with
   | zero=>cases e2
   | succ k=>exact capture (fun b o e _=>k34 b o e) k y v (by have e1:(x::fr)[k+1]?=some y:=e1;simpa using e1) (by simpa using e2)
  ·obtain ⟨v,o,ho,hd⟩:=I3.cell y c (clof y c e)
   exact ⟨v,o,k34 c o ho,hd⟩
  ·exact I3.hok.fresh (by show s3.heap.objs.size≤C;rw [hC];exact Nat.le_refl _)
  ·exact absurd (show p∈([]:List (Addr×Obj)) from hp) (by simp)
 have stat:∀ {H':Hp}{b:Addr},b∈fp→H' b=none→FpOk X' [] H' b:=fun {H' b} hb hn=>by
  refine ⟨hn,?_,?_,.inl hb,fun y c e=>(f3 b hb).1.2.2.2.2.1 y c (clof y c e),fun p hp=>absurd (show p∈([]:List (Addr×Obj)) from hp) (by simp)⟩
  ·exact Nat.ne_of_lt (f3 b hb).2
  ·intro z
   rcases List.mem_cons.mp (I3.stkSub b z) with z | z
   ·exact (f3 b hb).1.2.1 z
   ·exact (f3 b hb).1.2.2.1 z
 have hch:∀ b∈fp,(b∈X.ex∨X.s₀.heap.objs.size≤b)∧b≠X.env.locals∧(∀ y c,X.env.cells.lookup y=some c→c≠b)∧∀ p∈X.pn++pins,p.1≠b:=fun b hb =>
  ⟨(f3 b hb).1.2.2.2.1,(f3 b hb).1.2.1,(f3 b hb).1.2.2.2.2.1,(f3 b hb).1.2.2.2.2.2⟩
 have fin:∀ {σ':St}{H':Hp}{s':Shared},Inv X' [] σ' H' s'→Q (.ref D) H'→PR (.ref D) C (.ok .next) s':=fun {σ' H' s'} I' q'=>by
  obtain ⟨m',hn',_⟩:=I'.loc
  have J:=I3.call' (s':=s') (ch:=fp) I'.os I'.base I'.hok I'.bare hch
  refine hfin D C H' s' J I'.free ⟨?_,?_,fun y c e=>?_,fun p hp=>?_⟩ ⟨m',hn'⟩ q'
  ·rw [← hC];exact Nat.ne_of_gt I3.lt
  ·rw [← hC];exact I3.sz
  ·obtain ⟨v,z⟩:=I3.cell y c e
   rw [← hC];exact Nat.ne_of_lt z.lt
  ·rw [← hC];exact Nat.ne_of_lt (Heap.lt_size (I3.pin p hp).1)
 have loop:codeAny (model X.prog X.w) X.A (.compLoop (.ListComp elt [⟨.Name x px,iter,ifs,0⟩] scope pos) 0 (.ref it) (.ref D) X'.env) (PR (.ref D) C) { s3 with heap:=h4,toks:=s3.toks+([]:List (Str×Value)).length }:=by
  refine codeAny_compLoop_tests (fun n s'=>∃ i ys o H',Inv X' [] (o::capt ix σ) H' s'∧tn i s'.heap∧(∀ b∈fp,H' b=none)∧Pv i n ys H') ?_ m0 ⟨0,[],none,_,I4,T.keep _ _ _ st3 fun b hb o e=>k34 b o e,fun b hb=>(f3 b hb).1.1,p0⟩
  rintro n s5 ⟨i,ys,o,H5,I5,st5,fr5,p5⟩
  rcases turn i n ys H5 p5 with ⟨stop,hd5,qn⟩ | ⟨go,step⟩
  ·refine wpAny_mono (T.done X' rfl rfl rfl rfl i [] s5 _ H5 (fun _ _=>False) I5 (fun b hb=>stat hb (fr5 b hb)) st5 stop) (fun r s6 ⟨hr,I6⟩=>?_) fun _ _ z=>False.elim z
   subst hr
   exact fin I6 qn
  ·refine wpAny_mono (T.item X' rfl rfl rfl rfl i [] s5 _ H5 (fun _ _=>False) I5 (fun b hb=>stat hb (fr5 b hb)) st5 go) (fun r s6 ⟨u,hr,h6⟩=>?_) fun _ _ z=>False.elim z
   subst hr
   dsimp only
   intro Γ p hΓ
   obtain ⟨xv,H6,I6,r6,y6,st6,fr6⟩:∃ xv H',Inv X' [] (o::capt ix σ) H' s6∧RelV xv u∧J.yld i H5 xv H'∧tn (i+1) s6.heap∧∀ b∈fp,H' b=none:=h6 Γ p hΓ
   refine (?_:wpAny (model X.prog X.w) X.A (assign (.Name x px) X'.env u) _ _ s6) Γ p hΓ
   have I6':=I6.pinned (fun b hb=>stat hb (fr6 b hb)) (T.obj _ _ st6)
   refine wpAny_mono (pg_name (i:=0) (X:=X') (pos:=px) hNd rfl (.inl hx0) (.inr hx0) _ s6 _ H6 xv u (fun σ' H'=>σ'=some xv::capt ix σ∧H'=H6) I6' r6 ⟨rfl,rfl⟩) (fun _ s7 h7=>?_) fun _ _ z=>False.elim z
   obtain ⟨σ7,H7,I7,rfl,rfl⟩:=h7
   refine wpAny_mono (ht _ _ _ _ _ _ s7 _ H7 _ I7 (step xv H7 y6)) (fun b s8 ⟨H8,I8,q8⟩=>?_) fun _ _ z=>False.elim z
   have back:∀ {σ9:St}{H9:Hp}{s9:Shared}{ys':List V},Inv X' ([]++qlz fp s6.heap) (some xv::capt ix σ) H9 s9→(∃ m',m' < n∧Pv (i+1) m' ys' H9) →
     ∃ m,m < n∧∃ i ys o H',Inv X' [] (o::capt ix σ) H' s9∧tn i s9.heap∧(∀ b∈fp,H' b=none)∧Pv i m ys H':=fun {σ9 H9 s9 ys'} I9 h9=>by
    obtain ⟨m',hm,p9⟩:=h9
    refine ⟨m',hm,i+1,ys',_,H9,I9.unpinned,T.keep _ _ _ st6 fun b hb o e=>(I9.pin (b,o) (List.mem_append_right _ (List.mem_append_right _ (qey hb e)))).1,fun b hb=>?_,p9⟩
    obtain ⟨o,e,d⟩:=T.obj _ _ st6 b hb
    exact (I9.pin (b,o) (List.mem_append_right _ (List.mem_append_right _ (qey hb e)))).2.1
   cases b with
   | false =>
    rw [if_neg Bool.false_ne_true] at q8 ⊢
    exact back (σ9:=[]) I8 q8
   | true =>
    rw [if_pos rfl] at q8 ⊢
    refine wpAny_mono (he _ _ _ _ _ _ s8 _ H8 _ I8 q8) (fun w9 s9 ⟨v9,H9,I9,r9,hd9,hz9,q9⟩=>?_) fun _ _ z=>False.elim z
    refine wpAny_mono (qmd (X:=X') _ s9 _ H9 (.ref D) [v9] (.ref D) [w9] (fun _ H'=>H'=upd H9 D (.lst (ys++[v9]))) I9 rfl (.cons r9 .nil) ⟨D,ys,v9,rfl,rfl,hd9,hz9,rfl⟩) (fun _ s10 h10=>?_) fun _ _ z=>False.elim z
    obtain ⟨_,H10,I10,_,rfl⟩:=h10
    exact back (σ9:=[]) I10 q9
 exact codeAny_compStart_list loop (T.self _ 0 _ _ _ (T.keep _ _ _ st3 fun b hb o e=>k34 b o e) loop)
theorem qkm (hc:X.calm=true) (S:CompOk X.N X.env.scope scope x fr ix) (hi:PI X (.Name x px) iter wi)
  (ht:∀ cl C s₃ H₃ fp,PIfs (blk X scope cl C (x::fr) s₃ H₃ fp) ifs tc) (he:∀ cl C s₃ H₃ fp,PE (blk X scope cl C (x::fr) s₃ H₃ fp) elt te)
  (hs:∀ v,foldedSetIterable iter X.env v=pure v:=by intro _;rfl):PE X (.ListComp elt [⟨.Name x px,iter,ifs,0⟩] scope pos) (tComp wi ix tc te):=by
 intro pins s σ H Q I h
 have hcells:∀ y∈scope.names,y.2=.free→∃ c,X.env.cells.lookup y.1=some c:=fun y hy hf=>I.ok.has y.1 (.inl (S.free y hy hf))
 rw [eval_ListComp]
 refine wpAny_comprehension_free (use:=none) rfl hs (qed hcells) S.kind S.nm (thn (hi pins s σ H _ I h) fun v s1 h1=>thn h1 fun itv s2 h2=>?_)
 obtain ⟨it,fp,tn,J,H2,e,I2,T,st2,f2,q2⟩:=h2
 subst e
 refine qmy (PR:=fun acc C r s'=>compPost (model X.prog X.w) X.A X.xe none (EP X pins σ Q) acc C r s') hc S ht he hcells I2 T st2 f2 q2 fun D C H' s' I' hCn ⟨b1,b2,b3,b4⟩ hns q'=>?_
 obtain ⟨m',hn'⟩:=hns
 refine ⟨m',hn',fun h' hs'=>⟨.ref D,H',?_,rfl,q'⟩⟩
 exact I'.turned (t':=s'.toks) (it:=C) (fun b o hb e=>hs'.extBut b o hb e) hCn b1 (.inr b2) b3 b4
theorem qjd {i:Nat}{y:Str}{py spos:Pos} (hN:X.N.Nodup) (hiy:X.N[i]?=some y) (hly:X.env.scope.names.lookup y=some .local) (hc:X.calm=true) (S:CompOk X.N X.env.scope scope x fr ix) (hi:PI X (.Name x px) iter wi)
  (ht:∀ cl C s₃ H₃ fp,PIfs (blk X scope cl C (x::fr) s₃ H₃ fp) ifs tc) (he:∀ cl C s₃ H₃ fp,PE (blk X scope cl C (x::fr) s₃ H₃ fp) elt te)
  (hsw:swapsWith (.ListComp elt [⟨.Name x px,iter,ifs,0⟩] scope pos) (some (.Name y py)) spos.line X.env=pure true:=by rfl)
  (hs:∀ v,foldedSetIterable iter X.env v=pure v:=by intro _;rfl):PS X (.Assign [.Name y py] (.ListComp elt [⟨.Name x px,iter,ifs,0⟩] scope pos) spos) (tAsg (tComp wi ix tc te) (gName i)):=by
 intro pins s σ H D0 I h
 have hcells:∀ y∈scope.names,y.2=.free→∃ c,X.env.cells.lookup y.1=some c:=fun y hy hf=>I.ok.has y.1 (.inl (S.free y hy hf))
 rw [exec_Assign_Name_used _ _ _ _ hsw]
 refine wpAny_bind (wpAny_standAt (wpAny_bind ?_))
 show wpAny _ X.A (do let _ ← comprehension (.ListComp elt [⟨.Name x px,iter,ifs,0⟩] scope pos) scope X.env _ (newList []) false (eval iter X.env) (some (assign (.Name y py) X.env))) _ _ s
 refine wpAny_bind (wpAny_mono (wpAny_comprehension_free (use:=some (assign (.Name y py) X.env)) (Q:=fun _ s'=>SP X pins D0 .next s') rfl hs (qed hcells) S.kind S.nm
  (thn (hi pins s σ H _ I h) fun v s1 h1=>thn h1 fun itv s2 h2=>?_)) (fun _ s' hq=>wpAny_pure (wpAny_pure hq)) fun _ _ e=>e)
 obtain ⟨it,fp,tn,J,H2,e,I2,T,st2,f2,q2⟩:=h2
 subst e
 refine qmy (PR:=fun acc C r s'=>compPost (model X.prog X.w) X.A X.xe (some (assign (.Name y py) X.env)) (fun _ s'=>SP X pins D0 .next s') acc C r s') hc S ht he hcells I2 T st2 f2 q2 fun D C H' s' I' hCn ⟨b1,b2,b3,b4⟩ hns q'=>?_
 obtain ⟨m',hn'⟩:=hns
 refine wpAny_assign_Name (qlj (v:=.ref D) I' hN hiy (.inl hly) rfl (fun s5 I5 sb=>?_) (.inr hly))
 obtain ⟨a5,sb,ha5⟩:=sb
 have hCa:C≠a5:=by
  rcases ha5 with z | z
  ·rw [z];exact b1
  ·exact (b3 _ _ z).symm
 refine ⟨m',hn'.sameBut sb hCa,fun h' hs'=>⟨_,H',?_,q'⟩⟩
 exact I5.turned (t':=s5.toks) (it:=C) (fun b o hb e=>hs'.extBut b o hb e) hCn b1 (.inr b2) b3 b4
end
end L2
namespace L2
open PySem PySem.Spec PyProof.Rows
abbrev bmV:List Value:=[.type "ValueError",.type "Exception",.type "BaseException",.type "object"]
structure Exc (K:PySem.W.Frag) (C:Addr):Prop where
 ex:PySem.W.excIn K C bmV "ValueError.__new__"=true
 ga:PySem.W.findIn K (.ref C) "__getattribute__"=some (some (.builtin "BaseException.__getattribute__"))
 gt:PySem.W.findIn K (.ref C) "__getattr__"=some none
 ha:PySem.W.findIn K (.ref C) "__class__"=some (some (.builtin "object.__class__"))
 hn:PySem.W.specialIn K (.builtin "object.__class__") "__get__"=some (some (.builtin "getset_descriptor.__get__"))
 ht:PySem.W.takesIn K (.builtin "object.__class__")=some true
 mo:PySem.W.mroIn K C (.type "object")=some true
 mb:PySem.W.mroIn K C (.type "BaseException")=some true
theorem Exc.obj {K:PySem.W.Frag}{C:Addr}{h:Heap} (Z:Exc K C) (X:K.In h):∃ bm N nm q bs hdct sn sub ab col dd k0 k1 k2 k3 k5 mN,
  h.get? C=some (excClassObj nm q C N bs bm hdct sn sub ab col dd k0 k1 k2 k3 k5 "ValueError.__new__")∧h.Ns N mN∧mN "__init__"=none∧OwnTail h bmV bm:=by
 have z:=Z.ex
 unfold PySem.W.excIn at z
 split at z
 case h_2=>cases z
 case h_1 ddv cdv slv lk =>
  split at z
  case h_2=>cases z
  case h_1 D bm a0 a1 a2 a3 nw a5 em es =>
   have z':((((D=C∧nw="ValueError.__new__")∧cdv.hasDel=false)∧PySem.W.tailIn K bmV bm=true)∧PySem.W.nsOkIn K cdv.ns=true)∧PySem.W.nsIn K cdv.ns "__init__"=some none:=by
    simpa only [Bool.and_eq_true,beq_iff_eq,Bool.not_eq_true'] using z
   obtain ⟨⟨⟨⟨⟨eD,eN⟩,hdl⟩,tl⟩,okn⟩,ini⟩:=z'
   rcases cdv with ⟨c1,c2,c3,c4,c5,c6,c7,c8,c9,c10,c11⟩
   have em:c3=.ref D::bm:=em
   have hdl:c11=false:=hdl
   have okn:PySem.W.nsOkIn K c4=true:=okn
   have ini:PySem.W.nsIn K c4 "__init__"=some none:=ini
   subst em hdl eD eN
   have esl:slv=#[a0,a1,a2,a3,some (.builtin "ValueError.__new__"),a5]:=by
    rcases slv with ⟨l⟩
    have es:l=_:=es
    rw [es]
   subst esl
   refine ⟨bm,c4,c1,c5,c2,c6,c7,c8,c9,c10,ddv,a0,a1,a2,a3,a5,h.nsMap c4,X _ _ lk,?_,?_,PySem.W.tail_of_in X tl⟩
   ·exact .of_isNs (PySem.W.isNs_of_in X okn)
   ·exact PySem.W.nsMap_none_of_in X okn ini
def ExcAt (h:Heap) (a C:Addr):Prop:=∃ ox vs,h.get? a=some ox∧ox.cls=.ref C∧ox.data=.fields vs
def excO (C a:Addr):HO:=.ext fun h=>ExcAt h a C
section
variable {prog:Program}{w:World}{A:Around}{E:Value→Shared→Prop}{s:Shared}{K:PySem.W.Frag}{x C:Addr}{ox:Obj}
open PySem.W Builtin Builtin.ObjectAttr Builtin.Getset_descriptor in
theorem exc_class {Q:Option Value→Shared→Prop} (Z:Exc K C) (X:K.In s.heap) (I:ExcAt s.heap x C) (h:Q (some (.ref C)) { s with toks:=s.toks+1 }) :
  wpAny (model prog w) A (getAttr? (.ref x) "__class__") Q E s:=by
 obtain ⟨hh,g,d,t,os⟩:=s
 have L0:Looks (model prog w) hh (typeOf (.ref x)) (.ref C):=by
  obtain ⟨ox,vs,hat,hcl,hdt⟩:=I
  have hat:hh.get? x=some ox:=hat
  exact hcl ▸ (Looks.ld hat).andThen .now
 have L1:=looks_findIn (M:=model prog w) X Z.ga
 have L2:=looks_findIn (M:=model prog w) X Z.gt
 have L3:Looks (model prog w) hh (Builtin.ObjectAttr.find (.ref x) (.ref C) "__class__") (.bind (.builtin "getset_descriptor.__get__") (.builtin "object.__class__")):=by
  have M1:=looks_findIn (M:=model prog w) X Z.ha
  have M2:Looks (model prog w) hh (Builtin.ObjectAttr.getOf (some (.builtin "object.__class__"))) (some (.builtin "getset_descriptor.__get__")):=looks_specialIn X Z.hn
  have M3:=looks_takesIn (M:=model prog w) X Z.ht
  refine M1.andThen (M2.andThen ?_)
  refine Looks.andThen (a:=some (.builtin "getset_descriptor.__get__",.builtin "object.__class__")) ?_ (Looks.tag .now)
  exact M3.andThen .now
 have LO:=looks_mroIn (M:=model prog w) X Z.mo
 have cget:∀ {A:Around}{tk:Nat}{R:Result→Shared→Prop},R (.ok (.ret (.ref C))) ⟨hh,g,d,tk,os⟩→codeAny (model prog w) A (.call (.builtin "getset_descriptor.__get__") ⟨[.builtin "object.__class__",.ref x,.ref C],[]⟩) R ⟨hh,g,d,tk,os⟩:=by
  intro A tk R hq
  obtain ⟨ox,vs,hat,hcl,hdt⟩:=I
  have hat:hh.get? x=some ox:=hat
  refine codeAny_call_builtin KF.slot_gs.plain KF.entry_gs (KF.slot_gs.check _ _ _ _ _ _ _ _ KF.type_class (KF.args_gs _ _ _) ?_)
  unfold Builtin.«getset_descriptor.__get__» descrGet
  rw [dga_obj]
  refine wpAny_bind (wpAny_pure ?_)
  unfold descrGetter descrCheckInstance descrNameAndClass isInstance
  simp only [KF.owner_class]
  repeat lk
  refine ⟨Code.quiet_builtin _ (by decide +kernel),codeAny_builtin KF.entry_class ?_⟩
  unfold Builtin.«object.__class__» shownTypeOf
  repeat lk
  exact hq
 have LB:Looks (model prog w) hh (isInstance (.ref x) (.type "BaseException")) true:=L0.andThen (looks_mroIn X Z.mb)
 have f3:=PySem.F.slot_gs_get
 have hx2:(Value.builtin "BaseException.__getattribute__" == Value.builtin "object.__getattribute__")=false:=by decide +kernel
 have cls:∀ {tk:Tok}{R:Result→Shared→Prop},R (.ok (.ret (.ref C))) ⟨hh,g,d,t+1,os⟩→codeAny (model prog w) A (.call (.builtin "BaseException.__getattribute__") ⟨[.ref x,.str "__class__" tk],[]⟩) R ⟨hh,g,d,t+1,os⟩:=by
  intro tk R hq
  have hk:builtinKind "BaseException.__getattribute__"=some .slot:=by decide +kernel
  have hsplit:splitId "BaseException.__getattribute__"=some ("BaseException","__getattribute__"):=by decide +kernel
  have ha:=F.args_bexc_ga (.ref x) (.str "__class__" tk)
  refine codeAny_call_builtin (by decide +kernel) F.entry_bexc_ga ?_
  simp only [checkBuiltinCall,hk,hsplit]
  refine wpAny_bind (LB.at ?_)
  repeat (any_goals (first | assumption | wp_step))
  obtain ⟨ox,vs,hat,hcl,hdt⟩:=id I
  have hat:hh.get? x=some ox:=hat
  refine wpAny_loadPart_at hat (wpAny_pure ?_)
  rw [hcl]
  clear hat hcl hdt
  refine wpAny_bind (L3.at ?_)
  repeat (any_goals (first | assumption | wp_step))
  refine cget ?_
  repeat (any_goals (first | assumption | wp_step))
 have f4:=PySem.F.excAttr_ValueError.ga.bind (.ref x)
 unfold getAttr? getAttrBy? getAttrBy
 refine wpAny_bind (wpAny_mkText (wpAny_bind (wpAny_attempt (wpAny_holding (wpAny_bind (L0.at (wpAny_bind (L1.at ?_))))))))
 show wpAny _ _ (getAttrByItsOwn _ _ _ _ _ _) _ _ _
 unfold getAttrByItsOwn
 refine wpAny_bind (L2.at ?_)
 repeat (any_goals (first | assumption | wp_step))
 refine cls ?_
 repeat (any_goals (first | assumption | wp_step))
end
end L2
namespace L2
open PySem PySem.Spec PyProof.Rows
section
variable {K:PySem.W.Frag}{C a:Addr}
open PySem.W in
theorem kitx_exc (Z:Exc K C):KitX K (.ref a) (.ref C) (fun h=>ExcAt h a C) where
 ty:=fun _ _ _ ⟨_,_,e,c,_⟩=>c ▸ (Looks.ld e).andThen .now
 it:=fun _ h X _=>by
  obtain ⟨bm,N,nm,q,bs,hdct,sn,sub,ab,col,dd,k0,k1,k2,k3,k5,mN,hC,_⟩:=Z.obj X
  intro A' Q' E' s' k z
  unfold isType loadHead
  exact wpAny_bind (wpAny_loadPart (k _ _ hC) (wpAny_pure z))
 ne:=fun h tp dd its n sl X htp=>by
  obtain ⟨bm,N,nm,q,bs,hdct,sn,sub,ab,col,dd,k0,k1,k2,k3,k5,mN,hC,_⟩:=Z.obj X
  refine Bool.eq_false_iff.mpr fun z=>?_
  have e:C=tp:=Value.ref.inj (beq_iff_eq.mp z)
  subst e
  rw [hC] at htp
  injection (Option.some.inj htp) with _ _ z3 _
  exact nomatch z3
 ca:=fun X I k=>exc_class Z X I k
end
def clsV:V→Value
 | .ref a=>.ref a
 | .ty n=>.type n
 | _=>.none
theorem clsV_rel {c:V}{u:Value} (r:RelV c u) (h:(∃ a,c=.ref a)∨∃ n,c=.ty n):u=clsV c:=by
 rcases h with ⟨a,rfl⟩ | ⟨n,rfl⟩ <;> exact r
section
variable {X:Cx}
def rIsi (K:PySem.W.Frag):List V→Hp→VK→Prop:=fun xs H Q=>∃ x c t b,xs=[x,c]∧((∃ a,c=.ref a)∨∃ n,c=.ty n)∧(TyOf K H x t∨(∃ a C,x=.ref a∧t=.ref C∧H a=some (excO C a)∧Exc K C)∨(∃ a ys,x=.ref a∧t=.type "list"∧SqL K H a ys)∨∃ a ys,x=.ref a∧t=.type "tuple"∧SqT K H a ys)∧PySem.W.kitOne K t (clsV c)=some b∧Q (.bl b) H
theorem call_isi:CallR X (.builtin "isinstance") (rIsi X.K):=by
 intro pins s σ H xs us Q I r h
 obtain ⟨x,c,t,b,rfl,hc,ty,e,q⟩:=h
 obtain ⟨u,v,rfl,ru,rv⟩:=vals2 r
 rw [clsV_rel rv hc]
 have fin:∀ tk,EP X pins σ Q (.bool b) { s with toks:=tk }:=fun tk=>⟨.bl b,H,I.tok tk,rfl,q⟩
 rcases ty with ty | ⟨a,C,rfl,rfl,ha,Z⟩ | ⟨a,ys,rfl,rfl,hq⟩ | ⟨a,ys,rfl,rfl,hq⟩
 ·exact isinst_ok I ru ty e fin
 ·cases (show u=Value.ref a from ru)
  obtain ⟨p,_⟩:=I.hok a _ ha
  exact PySem.W.kia_one (kitx_exc Z) I.kIn p e (fun z=>nomatch z) fin
 ·cases (show u=Value.ref a from ru)
  obtain ⟨its,r',pl,_⟩:=I.list hq
  obtain ⟨o,h1,h2,_⟩:=pl.isList
  exact PySem.W.kia_one PySem.W.kitx_list I.kIn ⟨o,h1,h2⟩ e (fun z=>nomatch z) fin
 ·cases (show u=Value.ref a from ru)
  obtain ⟨its,r',pl,_⟩:=I.tuple hq
  obtain ⟨o,h1,h2,_⟩:=pl
  exact PySem.W.kia_one PySem.W.kitx_tuple I.kIn ⟨o,h1,h2⟩ e (fun z=>nomatch z) fin
end
theorem ObjOk.there {P:Program}{w:World}{H:Hp}{h:Heap}{a:Addr}{o:HO} (x:ObjOk P w H h a o):∃ ob,h.get? a=some ob:=by
 cases o with
 | lst xs=>obtain ⟨_,_,_,_,e⟩:=x;exact ⟨_,e⟩
 | tup xs=>obtain ⟨_,_,_,ob,e,_⟩:=x;exact ⟨ob,e⟩
 | dK kvs=>obtain ⟨_,_,_,_,ob,_,_,e,_⟩:=x;exact ⟨ob,e⟩
 | dT kvs=>obtain ⟨_,_,_,_,ob,_,_,e,_⟩:=x;exact ⟨ob,e⟩
 | set S n=>obtain ⟨ob,_,_,_,e,_⟩:=x;exact ⟨ob,e⟩
 | ins C dx fs=>obtain ⟨_,_,_,e,_⟩:=x;exact ⟨_,e⟩
 | own y=>exact x
 | xd fs=>obtain ⟨_,⟨ob,_,_,e,_⟩,_⟩:=x;exact ⟨ob,e⟩
 | rng lo hi=>obtain ⟨_,_,_,e⟩:=x;exact ⟨_,e⟩
 | frz ob u=>obtain ⟨e,_⟩:=x;exact ⟨ob,e⟩
 | tbl ps=>exact ⟨_,show h.get? a=some _ from x⟩
 | met f y=>exact ⟨_,show h.get? a=some _ from x⟩
 | ext φ=>exact x.2.1
def CXo (P:Program) (w:World):CXT:=fun outer H s E e s'=>∃ (a C:Addr) (t:Value) (B:Heap) (H':Hp),e=.ref a∧s'.os=s.os∧AllBare s'.gens∧Un (frs outer) [] H H' s.heap s'.heap∧HOk P w H' s'.heap ∧
 Heap.FlyingW B outer a (.ref C) t s'.heap∧(∀ b u o,H' b=some u→s'.heap.get? b=some o→B.get? b=some o) ∧
 (∀ b o,s.heap.get? b=some o→b∉frs outer→∃ o',s'.heap.get? b=some o'∧B.get? b=some o')∧E (.ref C) none H'
theorem qa3 {P:Program}{w:World}{X:Cx}:qc7 (CXo P w) X E0:=fun _ _ _ _ _ _ _ h=>by
 obtain ⟨_,_,_,_,_,_,_,_,_,_,_,_,_,z⟩:=h
 exact z.elim
theorem mem_frs {env:Env}{outer:List Env}{L b:Addr} (hf:env.frame=some L) (h:b∈frs (env::outer)):b=L∨b∈frs outer:=by
 unfold frs at h ⊢
 rw [List.filterMap_cons,hf] at h
 exact List.mem_cons.mp h
theorem qky {env:Env}{outer:List Env}{L b:Addr} (hf:env.frame=some L) (h:b∈frs outer):b∈frs (env::outer):=by
 unfold frs at h ⊢
 rw [List.filterMap_cons,hf]
 exact List.mem_cons_of_mem _ h
section
variable {P:Program}{w:World}{K:PySem.W.Frag}{mg:Str→Option Value}{base:Heap}{N:List Str}{qual:Str}{scope:Scope}{f:Addr}{cd:Value}{A:Around}{outer:List Env}{s₀:Shared}{H₀:Hp}{E:XK}
theorem qb0:qc7 (CXo P w) (cxOf (CXo P w) P w K mg base N qual scope f cd A outer s₀ H₀ E) E:=by
 intro pins σ H s e s' I h
 obtain ⟨a,C,t,B,H',rfl,hos,hbare,un,hok,fl,inB,oldB,hE⟩:=h
 have hlow:∀ b o,s₀.heap.get? b=some o→b≠s₀.heap.objs.size:=fun b o e=>Nat.ne_of_lt (Heap.lt_size e)
 refine wpAny_leaves_onW (L:=s₀.heap.objs.size) (by exact I.ok.frames) rfl fl fun h' fl' up=>?_
 have eq1:frs (envOfC qual scope s₀.heap.objs.size f cd::outer)=s₀.heap.objs.size::frs outer:=rfl
 have notin:∀ b o,s₀.heap.get? b=some o→b∉frs outer→b∉frs (envOfC qual scope s₀.heap.objs.size f cd::outer):=fun b o e n z=>by
  rw [eq1] at z
  rcases List.mem_cons.mp z with z | z
  ·exact hlow b o e z
  ·exact n z
 have ub:Un (frs outer) [] H₀ H s₀.heap s.heap:=I.base
 have old:∀ b o,s₀.heap.get? b=some o→b∉frs outer→∃ o',h'.get? b=some o'∧B.get? b=some o':=fun b o e n=>by
  obtain ⟨o1,e1⟩:=ub.there b o e (by simp)
  obtain ⟨o2,e2,e3⟩:=oldB b o1 e1 (notin b o e n)
  exact ⟨o2,fl'.1 b o2 e3,e3⟩
 refine ⟨a,C,t,B,H',rfl,hos.trans I.os,hbare,⟨fun b o e n hb _=>?_,fun b o e n hb _=>?_,fun b o e n _=>?_,fun b o e _=>?_,fun b xs e=>un.tups b xs (ub.tups b xs e),fun b o u e=>un.frzs b o u (ub.frzs b o u e),fun b ps e=>?_⟩,?_,fl',?_,old,hE⟩
 ·have e1:=ub.keep b o e n hb (by simp)
  have n1:=ub.free b o e n (by simp)
  have e2:=un.keep b o e1 n1 (notin b o e hb) (by simp)
  obtain ⟨o2,e3,e4⟩:=oldB b o e1 (notin b o e hb)
  rw [e2] at e3
  cases e3
  exact fl'.1 b o e4
 ·obtain ⟨sl,e1⟩:=ub.slot b o e n hb (by simp)
  have n1:=ub.free b o e n (by simp)
  obtain ⟨sl2,e2⟩:=un.slot b _ e1 n1 (qky rfl hb) (by simp)
  obtain ⟨_,o3,e3,hnf⟩:=fl.2.2.1.mem (show b∈(envOfC qual scope s₀.heap.objs.size f cd::outer).filterMap (·.frame) from qky rfl hb)
  obtain ⟨sl3,e4⟩:=up b _ e3 hnf
  rw [e2] at e3
  cases e3
  exact ⟨sl3,e4⟩
 ·obtain ⟨o1,e1⟩:=ub.there b o e (by simp)
  exact un.free b o1 e1 (ub.free b o e n (by simp)) (by simp)
 ·by_cases hb:b∈frs outer
  ·obtain ⟨_,o3,e3,hnf⟩:=fl.2.2.1.mem (show b∈(envOfC qual scope s₀.heap.objs.size f cd::outer).filterMap (·.frame) from qky rfl hb)
   obtain ⟨sl3,e4⟩:=up b _ e3 hnf
   exact ⟨_,e4⟩
  ·obtain ⟨o',e1,_⟩:=old b o e hb
   exact ⟨o',e1⟩
 ·obtain ⟨m1,e1⟩:=ub.tbls b ps e
  obtain ⟨m2,e2⟩:=un.tbls b _ e1
  exact ⟨m1++m2,by rw [e2,Array.append_assoc]⟩
 ·intro b u e
  refine (hok b u e).stay (fun c v hc q=>?_) (fun _ q=>q) fun _ _ q=>q
  rcases hc with z | z
  ·subst z
   exact fl'.1 _ _ (inB _ u v e q)
  ·exact fl'.1 _ _ (inB c _ v z q)
 ·intro b u o e q
  obtain ⟨o1,q1⟩:∃ o1,s'.heap.get? b=some o1:=by
   exact (hok b u e).there
  have z:=inB b u o1 e q1
  have z2:=fl'.1 b o1 z
  rw [z2] at q
  cases q
  exact z
end
end L2
namespace L2
open PySem PySem.Spec PyProof.Rows
def qj0 (X:Cx) (E:XK):Prop:=∀ (pins:List (Addr×Obj)) (σ:St) (H:Hp) (s:Shared) (a C:Addr) (vs:List Value) (h':Heap),Inv X pins σ H s→Heap.MadeExcOf s.heap h' a (.ref C) vs→E (.ref C) none H→X.xe (.ref a) { s with heap:=h' }
section
variable {P:Program}{w:World}{K:PySem.W.Frag}{mg:Str→Option Value}{base:Heap}{N:List Str}{qual:Str}{scope:Scope}{f:Addr}{cd:Value}{A:Around}{outer:List Env}{s₀:Shared}{H₀:Hp}{E:XK}
theorem qmf:qj0 (cxOf (CXo P w) P w K mg base N qual scope f cd A outer s₀ H₀ E) E:=by
 intro pins σ H s a C vs h₁ I mk hE
 have stk:s.heap.FunFrames base (envOfC qual scope s₀.heap.objs.size f cd::outer):=I.stack
 let l:List Addr:=frs (envOfC qual scope s₀.heap.objs.size f cd::outer)
 have hin:∀ env∈(envOfC qual scope s₀.heap.objs.size f cd::outer),∀ b,env.frame=some b→b∈l:=fun env he b hb=>List.mem_filterMap.mpr ⟨env,he,hb⟩
 have toB:∀ b o,s.heap.get? b=some o→b∉l→(PySem.W.hideAll s.heap l).get? b=some o:=fun b o e n=>PySem.W.hideAll_get l e n
 have ub:Un (frs outer) [] H₀ H s₀.heap s.heap:=I.base
 have notin:∀ b o,s₀.heap.get? b=some o→b∉frs outer→b∉l:=fun b o e n z=>by
  rcases mem_frs (L:=s₀.heap.objs.size) rfl z with z | z
  ·exact Nat.ne_of_lt (Heap.lt_size e) z
  ·exact n z
 have trkN:∀ b u,H b=some u→b∉l:=fun b u e z=>by
  rw [I.stkFree b z] at e
  cases e
 refine wpAny_leaves_madeW (L:=s₀.heap.objs.size) (base:=PySem.W.hideAll s.heap l) (h:=s.heap) (by exact I.ok.frames) rfl (fun b o e=>PySem.W.of_hideAll l e) (PySem.W.funFrames_hide stk hin) mk fun h' t fl tup nt up=>?_
 have keepB:∀ b o,s.heap.get? b=some o→b∉l→h'.get? b=some o:=fun b o e n=>fl.1 b o (toB b o e n)
 have frame:∀ b o,s.heap.get? b=some o→b∈l→∃ sl,h'.get? b=some { o with slots:=sl }:=fun b o e hb=>by
  obtain ⟨_,o3,e3,hnf⟩:=stk.mem hb
  rw [e] at e3
  cases e3
  exact up b o (mk.keeps b o e) hnf
 refine ⟨a,C,.ref t,PySem.W.hideAll s.heap l,H,rfl,I.os,I.bare,⟨fun b o e n hb _=>?_,fun b o e n hb _=>?_,fun b o e n _=>ub.free b o e n (by simp),fun b o e _=>?_,ub.tups,ub.frzs,ub.tbls⟩,fun b u e=>?_,fl,fun b u o e q=>?_,fun b o e n=>?_,hE⟩
 ·exact keepB b o (ub.keep b o e n hb (by simp)) (notin b o e hb)
 ·obtain ⟨sl,e1⟩:=ub.slot b o e n hb (by simp)
  obtain ⟨sl2,e2⟩:=frame b _ e1 (qky rfl hb)
  exact ⟨sl2,e2⟩
 ·obtain ⟨o1,e1⟩:=ub.there b o e (by simp)
  by_cases hb:b∈l
  ·obtain ⟨sl2,e2⟩:=frame b _ e1 hb
   exact ⟨_,e2⟩
  ·exact ⟨o1,keepB b o1 e1 hb⟩
 ·refine (I.hok b u e).stay (fun c v hc q=>?_) (fun _ q=>q) fun _ _ q=>q
  rcases hc with z | z
  ·subst z
   exact keepB _ v q (trkN _ u e)
  ·exact keepB c v q (trkN c _ z)
 ·obtain ⟨o1,q1⟩:=(I.hok b u e).there
  have z2:=keepB b o1 q1 (trkN b u e)
  have q:h'.get? b=some o:=q
  rw [z2] at q
  cases q
  exact toB b _ q1 (trkN b u e)
 ·obtain ⟨o1,e1⟩:=ub.there b o e (by simp)
  exact ⟨o1,keepB b o1 e1 (notin b o e n),toB b o1 e1 (notin b o e n)⟩
end
section
variable {X:Cx}{C:Addr}{x:Str}{np cpos pos:Pos}{e:Expr}{te:TE}{E:XK}
def tRaise (C:Addr) (E:XK) (te:TE):TS:=fun _ σ H=>te σ H fun _ H1=>E (.ref C) none H1
theorem qdo (Z:Exc X.K C) (hg:Gl X x) (hm:X.mg x=some (.ref C)) (hc:X.calm=true) (ha:PE X e te) (hp:qj0 X E)
  (hd:(x == ("__debug__":Str))=false:=by decide) (he:starEach [e] X.env=[(false,eval e X.env)]:=by rfl):PS X (.Raise (some (.Call (.Name x np) [e] [] cpos)) none pos) (tRaise C E te):=by
 intro pins s σ H D I h
 obtain ⟨bm,N,nm,q,bs,hdct,sn,sub,ab,col,dd,k0,k1,k2,k3,k5,mN,hC,hN,hni,T⟩:=Z.obj I.mod.kin
 refine wpAny_Raise_call_subT (C:=C) (nm:=nm) (q:=q) (N:=N) (bs:=bs) (bm:=bm) (hdct:=hdct) (sn:=sn) (sub:=sub) (ab:=ab) (col:=col) (dd:=dd) (k0:=k0) (k1:=k1) (k2:=k2) (k3:=k3) (k5:=k5)
  PySem.F.excBase_ValueError (mN:=mN) (T.hasType PySem.F.excBase_ValueError.hasBase) (I.ok.hd hc) (by rw [he];rfl) hni (qia I hg hm ⟨rfl,?_⟩ hd)
 rw [he]
 refine Calls.evalArgs_plain ?_
 show wpAny _ _ (spliced ((false,eval e X.env)::[])) _ _ s
 refine Calls.spliced_cons (thn (ha pins s σ H _ I h) fun u s₂ ⟨v,H2,I2,r2,q2⟩=>?_)
 refine Calls.spliced_nil ⟨rfl,?_,I2.bk _ _ hC,hN.keeps I2.bk,T.keeps I2.bk,fun h' a mk=>hp pins σ H2 s₂ a C _ h' I2 mk q2⟩
 show 1≤sizeLine
 decide
end
end L2
namespace L2
open PySem PySem.Spec PyProof.Rows
section
variable {M:Model}{A:Around}{E:Value→Shared→Prop}{K:PySem.W.Frag}{C D e:Addr}{oe:Obj}
end
section
variable {X:Cx}{k:Nat}{f C:Addr}{fd:FuncData}{ps:List Str}{sp:Sp}{dvs:List V}{ds:List Value}{x m:Str}{p pos apos:Pos}{e o:Expr}{es:List Expr}{ta:TE}{t:TA}
end
section
variable {X:Cx}{e:Expr}{te:XK→TE}{pos:Pos}
end
def hnd (X:Cx) (a:Addr):Cx:={ X with A:=X.A.mark (some (.ref a)),calm:=false,xe:=fun _ _=>False }
section
variable {X:Cx}
end
end L2
namespace L2
open PySem PySem.Spec PyProof.Rows
section
variable {X:Cx}{body:List Stmt}{x n:Str}{np hp pos:Pos}{b₀:Stmt}{bs:List Stmt}{tb:XK→TS}{th:TS}{D:Addr}{i:Nat}
end
end L2
namespace L2
open PySem PySem.Spec PyProof.Rows
def leS (a b:Str):Bool:=!ltCps b.cps.toList a.cps.toList
theorem qg0:∀ a:List Nat,ltCps a a=false
 | []=>rfl
 | a::r=>by
  show (decide (a < a) || (a == a && ltCps r r))=false
  rw [qg0 r]
  simp
theorem qfj:∀ {a b c:List Nat},ltCps a b=true→ltCps b c=true→ltCps a c=true
 | [],_,[],h1,h2=>by
  cases ‹List Nat› with
  | nil=>exact h1
  | cons x r=>exact absurd (show ltCps (x::r) []=true from h2) (by intro z;cases z)
 | [],_,_::_,_,_=>rfl
 | a::r,[],_,h1,_=>by cases h1
 | a::r,b::t,[],_,h2=>by cases h2
 | a::r,b::t,c::u,h1,h2=>by
  have h1:(decide (a < b) || (a == b && ltCps r t))=true:=h1
  have h2:(decide (b < c) || (b == c && ltCps t u))=true:=h2
  show (decide (a < c) || (a == c && ltCps r u))=true
  simp only [Bool.or_eq_true,decide_eq_true_eq,Bool.and_eq_true,beq_iff_eq] at h1 h2 ⊢
  rcases h1 with h1 | ⟨e1,g1⟩
  ·rcases h2 with h2 | ⟨e2,g2⟩
   ·exact .inl (by omega)
   ·exact .inl (by omega)
  ·rcases h2 with h2 | ⟨e2,g2⟩
   ·exact .inl (by omega)
   ·exact .inr ⟨e1.trans e2,qfj g1 g2⟩
theorem qh5:∀ a b:List Nat,ltCps a b=false→ltCps b a=false→a=b
 | [],[],_,_=>rfl
 | [],_::_,h,_=>by cases h
 | _::_,[],_,h=>by cases h
 | a::r,b::t,h1,h2=>by
  have h1:(decide (a < b) || (a == b && ltCps r t))=false:=h1
  have h2:(decide (b < a) || (b == a && ltCps t r))=false:=h2
  simp only [Bool.or_eq_false_iff,decide_eq_false_iff_not,Bool.and_eq_false_iff,beq_eq_false_iff_ne] at h1 h2
  have e:a=b:=by omega
  subst e
  rw [qh5 r t (h1.2.resolve_left fun z=>z rfl) (h2.2.resolve_left fun z=>z rfl)]
theorem leS_total (a b:Str):leS a b=true∨leS b a=true:=by
 unfold leS
 cases h:ltCps b.cps.toList a.cps.toList with
 | false=>exact .inl rfl
 | true =>
  right
  cases h2:ltCps a.cps.toList b.cps.toList with
  | false=>rfl
  | true =>
   have:=qfj h h2
   rw [qg0] at this
   cases this
theorem leS_anti {a b:Str} (h1:leS a b=true) (h2:leS b a=true):a=b:=by
 unfold leS at h1 h2
 have e:=qh5 b.cps.toList a.cps.toList (by simpa using h1) (by simpa using h2)
 obtain ⟨⟨x⟩⟩:=a
 obtain ⟨⟨y⟩⟩:=b
 have e:y=x:=e
 rw [e]
theorem qmg {a b c:Str} (h1:leS a b=true) (h2:leS b c=true):leS a c=true:=by
 unfold leS at *
 cases h:ltCps c.cps.toList a.cps.toList with
 | false=>rfl
 | true =>
  exfalso
  have h1:ltCps b.cps.toList a.cps.toList=false:=by simpa using h1
  have h2:ltCps c.cps.toList b.cps.toList=false:=by simpa using h2
  cases h3:ltCps b.cps.toList c.cps.toList with
  | true =>
   have:=qfj h3 h
   rw [h1] at this
   cases this
  | false =>
   have e:=qh5 _ _ h3 h2
   rw [e,h] at h1
   cases h1
def insS (x:Str):List Str→List Str
 | []=>[x]
 | y::r=>if leS x y then x::y::r else y::insS x r
def srt:List Str→List Str
 | []=>[]
 | x::r=>insS x (srt r)
theorem qif (x:Str):∀ l,(insS x l).Perm (x::l)
 | []=>.refl _
 | y::r=>by
  unfold insS
  split
  ·exact .refl _
  ·exact ((qif x r).cons y).trans (.swap x y r)
theorem qbq:∀ l,(srt l).Perm l
 | []=>.refl _
 | x::r=>(qif x (srt r)).trans ((qbq r).cons x)
theorem qie (x:Str):∀ l,l.Pairwise (fun a b=>leS a b=true)→(insS x l).Pairwise (fun a b=>leS a b=true)
 | [],_=>by simp [insS]
 | y::r,h=>by
  obtain ⟨h1,h2⟩:=List.pairwise_cons.mp h
  unfold insS
  split
  ·rename_i hxy
   refine List.pairwise_cons.mpr ⟨fun z hz=>?_,h⟩
   rcases List.mem_cons.mp hz with rfl | hz
   ·exact hxy
   ·exact qmg hxy (h1 z hz)
  ·rename_i hxy
   refine List.pairwise_cons.mpr ⟨fun z hz=>?_,qie x r h2⟩
   rcases List.mem_cons.mp ((qif x r).mem_iff.mp hz) with rfl | hz
   ·exact (leS_total z y).resolve_left hxy
   ·exact h1 z hz
theorem qi8:∀ l,(srt l).Pairwise (fun a b=>leS a b=true)
 | []=>.nil
 | x::r=>qie x _ (qi8 r)
theorem qft:∀ {l m:List Str},l.Perm m→l.Pairwise (fun a b=>leS a b=true)→m.Pairwise (fun a b=>leS a b=true)→l=m
 | [],m,p,_,_=>(List.nil_perm.mp p).symm
 | a::l,[],p,_,_=>absurd (List.perm_nil.mp p) (by simp)
 | a::l,b::m,p,h1,h2=>by
  obtain ⟨a1,a2⟩:=List.pairwise_cons.mp h1
  obtain ⟨b1,b2⟩:=List.pairwise_cons.mp h2
  have e:a=b:=by
   have ha:a∈b::m:=p.mem_iff.mp List.mem_cons_self
   have hb:b∈a::l:=p.mem_iff.mpr List.mem_cons_self
   rcases List.mem_cons.mp ha with e | ha
   ·exact e
   ·rcases List.mem_cons.mp hb with e | hb
    ·exact e.symm
    ·exact leS_anti (a1 b hb) (b1 a ha)
  subst e
  rw [qft (List.Perm.cons_inv p) a2 b2]
theorem qaw (l:List Str):(srt l).length=l.length:=(qbq l).length_eq
theorem qek:∀ (p:Str) (l:List Str),risingS p l=true→(p::l).Pairwise (fun a b=>leS a b=true)
 | p,[],_=>List.pairwise_singleton _ _
 | p,x::r,h=>by
  have h:(!ltCps x.cps.toList p.cps.toList && risingS x r)=true:=h
  rw [Bool.and_eq_true] at h
  have ih:=qek x r h.2
  refine List.pairwise_cons.mpr ⟨fun z hz=>?_,ih⟩
  rcases List.mem_cons.mp hz with rfl | hz
  ·exact h.1
  ·exact qmg (show leS p x=true from h.1) ((List.pairwise_cons.mp ih).1 z hz)
theorem qg5:∀ (l:List Str),sortedS l=true→l.Pairwise (fun a b=>leS a b=true)
 | [],_=>.nil
 | x::r,h=>qek x r h
theorem is_srt {l m:List Str} (p:l.Perm m) (h:sortedS l=true):l=srt m:=qft (p.trans (qbq m).symm) (qg5 l h) (qi8 m)
theorem qj7:∀ {ss:List Str}{us:List Value},Vals (ss.map V.str) us→StrsAre us ss
 | [],_,.nil=>.nil
 | x::ss,_,.cons ⟨t,e⟩ r=>by subst e;exact .cons x t (qj7 r)
theorem qni:∀ {ss:List Str}{us:List Value},StrsAre us ss→Vals (ss.map V.str) us
 | _,_,.nil=>.nil
 | _,_,.cons x t r=>.cons ⟨t,rfl⟩ (qni r)
theorem vals_of:∀ (xs:List V) (us:List Value),xs.length=us.length→(∀ (j:Nat) x u,xs[j]?=some x→us[j]?=some u→RelV x u)→Vals xs us
 | [],[],_,_=>.nil
 | [],_::_,e,_=>by cases e
 | _::_,[],e,_=>by cases e
 | x::xs,u::us,e,h=>.cons (h 0 x u rfl rfl) (vals_of xs us (Nat.succ.inj e) fun j y v e1 e2=>h (j+1) y v (by simpa using e1) (by simpa using e2))
section
variable {X:Cx}
theorem call_sortedL:CallR X (.builtin "sorted") (fun xs H Q=>∃ p ss,xs=[.ref p]∧SqL X.K H p (ss.map V.str)∧ss.length < 64∧∀ l,H l=none→Q (.ref l) (upd H l (.lst ((srt ss).map V.str)))):=by
 intro pins s σ H xs us Q I r h
 obtain ⟨p,ss,rfl,hq,hz,q⟩:=h
 obtain ⟨u,rfl,ru⟩:=qgh r
 cases ru
 obtain ⟨its,rv,pl,hz2⟩:=I.list hq
 have hS:=qj7 rv
 have hl:its.length=ss.length:=by have:=rv.length;rw [List.length_map] at this;exact this.symm
 refine sorted_strs pl.isList hS (by omega) fun out ss' h1 h2 h3=>?_
 have e:=is_srt h2 h3
 subst e
 obtain ⟨ep,hat⟩:=sortedAll_at s.heap its out
 have hf:H (s.heap.objs.size+1)=none:=I.hok.fresh (Nat.le_succ _)
 refine ⟨.ref _,_,I.laid (t':=s.toks) (fun b o e=>sortedAll_old e) (Nat.le_succ _) (o:=.lst ((srt ss).map V.str)) ?_,rfl,q _ hf⟩
 refine ⟨?_,out.toList,ep,qni h1,?_⟩
 ·rw [List.length_map,qaw]
  exact Nat.le_trans (Nat.le_of_lt hz) (by decide)
 ·rw [hat]
theorem qes (hc:X.calm=true):CallR X (.builtin "sorted") (fun xs H Q=>∃ p kvs ss,xs=[.ref p]∧Rd H p (.dK kvs)∧kvs.map (·.1)=ss.map Sum.inr∧ss.length < 64∧∀ l,H l=none→Q (.ref l) (upd H l (.lst ((srt ss).map V.str)))):=by
 intro pins s σ H xs us Q I r h
 obtain ⟨p,kvs,ss,rfl,hq,hk,hz,q⟩:=h
 obtain ⟨u,rfl,ru⟩:=qgh r
 cases ru
 obtain ⟨z,hsys,vs,rel,dd⟩:=qi5 I.hok hq
 obtain ⟨ep,hat⟩:=dd.dictAt
 have hlen:vs.length=ss.length:=by
  have e1:=rel.length
  have e2:=congrArg List.length hk
  rw [List.length_map,List.length_map] at e2
  omega
 refine Calls.call_function_entry kind_sorted plain_sorted entry_sorted (args_sorted1 _) ?_
 unfold Builtin.«sorted»
 refine wpAny_bind (m:=checkCount "sorted" 1 1 _) (wpAny_pure ?_)
 refine wpAny_bind (PySem.W.kdu_collect (A:=X.A.in1) (PySem.W.kdl_dict (knd:=qbi X.prog X.w) (kvs:=vs) (ep:=ep) hsys) (I.ok.hd hc) hat (Nat.le_trans (by omega) (show 64≤sizeLine by decide)) fun h' tk acc hkp hacc=>?_)
 have hl:acc.toList.length=vs.length:=by rw [Array.length_toList];exact hacc.1
 have hS:StrsAre acc.toList ss:=by
  refine qj7 (vals_of _ _ (by rw [List.length_map,hl,hlen]) fun j x u e1 e2=>?_)
  obtain ⟨k,y,e3,e4⟩:=hacc.2 j u (by rw [← Array.getElem?_toList];exact e2)
  have e5:(vs.map (·.1))[j]?=some k:=by rw [List.getElem?_map,e3];rfl
  rw [← rel.keys,hk,List.getElem?_map] at e5
  rw [List.getElem?_map] at e1
  cases e6:ss[j]? with
  | none=>rw [e6] at e1;cases e1
  | some z =>
   rw [e6] at e1 e5
   have e1:V.str z=x:=Option.some.inj e1
   have e5:Sum.inr z=k:=Option.some.inj e5
   subst e1 e5
   rcases qa6 (k:=Sum.inr z) (v:=u) e4 with ⟨i,t,q1,_⟩ | ⟨y',t,q1,q2⟩
   ·cases q1
   ·cases q1
    exact ⟨t,q2⟩
 refine wpAny_bind (wpAny_newList ?_ (by rw [hl];exact Nat.le_trans (by omega) (show 64≤sizeLine by decide)))
 have hoL:(h'.push (seqObj "list" acc.toList.toArray 0)).get? h'.objs.size=some (seqObj "list" acc.toList.toArray 0):=Heap.get?_push_size _ rfl
 refine wpAny_bind (wpAny_holding (wpAny_call_entry slot_list_sort ⟨_,hoL,rfl⟩ entry_list_sort (list_sort_treeK strKind_oneLt hoL hS.keysOf (fun v₁ v₂ rest e=>keyKind_strs (by rw [← e];exact hS)) (by omega) fun st' a1 a2=>⟨_,rfl,?_⟩) (args_list_sort _)))
 refine wpAny_pure ⟨_,rfl,?_⟩
 obtain ⟨ss',h1,h2,h3⟩:=sorted_out_str hS a1 a2
 have e:=is_srt h2 h3
 subst e
 have I1:Inv X pins σ H { s with heap:=h',toks:=tk }:=I.kept hkp
 obtain ⟨e',hat'⟩:=sortedHeap_at (out:=(arrOf st').map (·.2)) hoL
 have hf:H h'.objs.size=none:=I1.hok.fresh (Nat.le_refl _)
 refine ⟨.ref _,_,I1.laid (t':=tk) (fun b o e=>?_) (Nat.le_refl _) (o:=.lst ((srt ss).map V.str)) ?_,rfl,q _ hf⟩
 ·have hlt:b < h'.objs.size:=Heap.lt_size e
  refine (sortedHeap_old (Nat.ne_of_lt hlt) (by rw [size_push'];exact Nat.lt_succ_of_lt hlt)).trans ?_
  exact Heap.get?_push_of_some _ e
 ·refine ⟨?_,((arrOf st').map (·.2)).toList,e',qni h1,?_⟩
  ·rw [List.length_map,qaw]
   exact Nat.le_trans (Nat.le_of_lt hz) (by decide)
  ·exact hat'
end
end L2
namespace L2
open PySem PySem.Spec PyProof.Rows
def Its (x:Str):It:=⟨fun i _=>i < x.cps.size,fun i H v H'=>H'=H∧∃ c,x.cps[i]?=some c∧v=.str ⟨#[c]⟩,fun i _=>x.cps.size≤i⟩
theorem qlf {P:Program}{w:World}{A:Around} (hh:A.handled=none) (it:Addr) (x:Str) (t:Tok):Walks P w A it [it] [it] x.cps.size (SignAt x) (fun i h=>h.IsStrIter it (strIterType x) x t i):=by
 unfold strIterType
 split
 ·exact Walks.strAscii hh it x t
 ·exact Walks.strWide hh it x t
theorem turn_str {P:Program}{w:World}{K:PySem.W.Frag}{tg:Expr} (it:Addr) (x:Str) (t:Tok):Turn P w K tg (Its x) [it] it (fun i h=>i≤x.cps.size∧h.IsStrIter it (strIterType x) x t i) where
 mem:=by simp
 obj:=fun i h st b hb=>by
  have e:b=it:=by simpa using hb
  subst e
  obtain ⟨_,o,e,c,d⟩:=st
  exact ⟨o,e,fun v z=>by rw [d] at z;cases z⟩
 keep:=fun i h h' st k=>by
  obtain ⟨z,o,e,c,d⟩:=st
  exact ⟨z,o,k it (by simp) o e,c,d⟩
 item:=by
  intro X hP hw hK hc i pins s σ H E I hf st hg
  subst hP hw hK
  obtain ⟨f0,f1,f2,f3,f4,f5⟩:=hf it (by simp)
  refine (qlf (I.ok.hd hc) it x t).item i s _ _ hg st.2 fun v h' tk hv st' kk=>?_
  obtain ⟨c,u,e1,e2⟩:=hv
  subst e2
  have I1:Inv X pins σ H { s with heap:=h',toks:=tk }:=I.turned (fun b o hb e=>kk b o (by simpa using hb) e) f0 f1 f3 f4 f5
  obtain ⟨o,e,cl,d⟩:=id st'
  refine ⟨_,rfl,go_of (s:={ s with heap:=h',toks:=tk }) e cl d ?_ ⟨.str ⟨#[c]⟩,H,I1,⟨u,rfl⟩,⟨rfl,c,e1,rfl⟩,⟨hg,st'⟩,fun b hb=>(hf b hb).1⟩⟩
  unfold strIterType
  split <;> decide
 done:=by
  intro X hP hw hK hc i pins s σ H E I hf st hg
  subst hP hw hK
  obtain ⟨f0,f1,f2,f3,f4,f5⟩:=hf it (by simp)
  have e:i=x.cps.size:=Nat.le_antisymm st.1 hg
  subst e
  exact (qlf (I.ok.hd hc) it x t).done s _ _ st.2 fun h' tk kk=>⟨rfl,I.turned (fun b o hb e=>kk b o (by simpa using hb) e) f0 f1 f3 f4 f5⟩
 self:=fun A i s Q E st h=>by
  obtain ⟨_,st⟩:=st
  unfold strIterType at st
  split at st
  ·exact wpAny_pyIter_striter_ascii st h
  ·exact wpAny_pyIter_striter_wide st h
section
variable {X:Cx}{tg:Expr}
def iStr (tl:TE):TI:=fun σ H R=>tl σ H fun v H1=>∃ x,v=.str x∧R (Its x) H1
theorem pi_str {l:Expr}{tl:TE} (hl:PE X l tl):PI X tg l (iStr tl):=by
 intro pins s σ H R I h
 refine thn (hl pins s σ H _ I h) fun v s1 ⟨y,H1,I1,r1,q1⟩=>?_
 obtain ⟨x,e,q⟩:=q1
 subst e
 obtain ⟨t,rfl⟩:=r1
 refine wpAny_pyIter_strU ?_
 refine ⟨s1.heap.objs.size,[s1.heap.objs.size],_,_,H1,rfl,I1.kept (t':=s1.toks) fun b o e=>Heap.get?_push_of_some _ e,turn_str _ x t,⟨Nat.zero_le _,_,Heap.get?_push_size _ rfl,rfl,rfl⟩,fun b hb=>?_,q⟩
 have e:b=s1.heap.objs.size:=by simpa using hb
 subst e
 exact I1.fpOk (Nat.le_refl _) (I1.hok.fresh (Nat.le_refl _))
end
section
variable {X:Cx}{pins:List (Addr×Obj)}{σ:St}{H:Hp}{s:Shared}{d:Addr}{kvs:List (Key×V)}{ob:Obj}
theorem Inv.redo {u u':HO} (I:Inv X pins σ H s) (hd:H d=some u) (n1:∀ y,u≠.own y) (n2:∀ xs,u≠.tup xs) (n3:∀ o v,X.H₀ d≠some (.frz o v)) (n4:∀ ps,u≠.tbl ps) (ok:ObjOk X.prog X.w (upd H d u') s.heap d u'):Inv X pins σ (upd H d u') s:=by
 have ne:∀ b v,H b=some v→v≠u→b≠d:=fun b v e hv z=>by
  subst z
  rw [hd] at e
  exact hv (Option.some.inj e).symm
 have nn:∀ b,H b=none→b≠d:=fun b e z=>by
  subst z
  rw [hd] at e
  cases e
 refine ⟨I.ok,I.os,I.bare,⟨I.base.keep,I.base.slot,fun b o e z hx=>?_,I.base.there,fun b xs e=>?_,fun b o v e=>?_,fun b ps e=>?_⟩,I.loc,I.cell,?_,fun y c e=>?_,fun p hp=>?_,fun b v e=>?_,I.len⟩
 ·have:=I.base.free b o e z hx
  rw [qad (nn b this)]
  exact this
 ·have:=I.base.tups b xs e
  rw [qad (ne b _ this fun z=>n2 xs z.symm)]
  exact this
 ·have:=I.base.frzs b o v e
  have hb:b≠d:=fun z=>by subst z;exact n3 o v e
  rw [qad hb]
  exact this
 ·obtain ⟨m,e1⟩:=I.base.tbls b ps e
  exact ⟨m,by rw [qad (ne b _ e1 fun z=>n4 _ z.symm)];exact e1⟩
 ·rw [qad (nn _ I.free)]
  exact I.free
 ·rw [qad (nn _ (I.freeC y c e))]
  exact I.freeC y c e
 ·obtain ⟨e1,z1,r1⟩:=I.pin p hp
  exact ⟨e1,by rw [qad (nn _ z1)];exact z1,r1⟩
 ·by_cases hb:b=d
  ·subst hb
   rw [qae] at e
   cases e
   exact ok
  ·rw [qad hb] at e
   exact (I.hok b v e).stay (fun c v _ q=>q) (fun c q=>by rw [qad (ne c _ q fun z=>n1 _ z.symm)];exact q) fun c xs q=>by rw [qad (ne c _ q fun z=>n2 _ z.symm)];exact q
theorem dK_ok {P:Program}{w:World}{H H':Hp}{h:Heap} (x:ObjOk P w H h d (.dK kvs)):ObjOk P w H' h d (.dK kvs):=x
theorem Inv.freeze (I:Inv X pins σ H s) (hd:H d=some (.dK kvs)) (ho:s.heap.get? d=some ob):Inv X pins σ (upd H d (.frz ob (.dK kvs))) s :=
 I.redo hd (by intro y z;cases z) (by intro y z;cases z) (fun o v z=>by rw [I.base.frzs d o v z] at hd;cases hd) (by intro y z;cases z) ⟨ho,dK_ok (I.hok d _ hd)⟩
theorem Inv.thaw (I:Inv X pins σ H s) (hd:H d=some (.frz ob (.dK kvs))) (n3:∀ o v,X.H₀ d≠some (.frz o v)):Inv X pins σ (upd H d (.dK kvs)) s :=
 I.redo hd (by intro y z;cases z) (by intro y z;cases z) n3 (by intro y z;cases z) (dK_ok (show ObjOk X.prog X.w H s.heap d (.frz ob (.dK kvs)) from I.hok d _ hd).2)
end
def Itd (d:Addr) (ob:Obj) (kvs:List (Key×V)):It :=
 ⟨fun i H=>i < kvs.length∧H d=some (.frz ob (.dK kvs)),fun i H v H'=>H'=H∧∃ kv,kvs[i]?=some kv∧v=kV kv.1,fun i H=>kvs.length≤i∧H d=some (.frz ob (.dK kvs))⟩
theorem frz_at {X:Cx}{pins:List (Addr×Obj)}{σ:St}{H:Hp}{s:Shared}{d:Addr}{kvs:List (Key×V)}{ob:Obj}{es0:Array DictEntry}{ep:Nat} (I:Inv X pins σ H s) (hd:H d=some (.frz ob (.dK kvs))) (he:ob.data=.dict es0 ep) :
  ∃ vs,KV kvs vs∧s.heap.DictAt (qbi X.prog X.w) d vs ep:=by
 obtain ⟨e,z,_,vs,rel,dd⟩:=(show ObjOk X.prog X.w H s.heap d (.frz ob (.dK kvs)) from I.hok d _ hd)
 obtain ⟨ep',o,es,e1,e2,e3,e4⟩:=dd.dictAt
 rw [e] at e1
 cases e1
 rw [he] at e3
 cases e3
 exact ⟨vs,rel,ob,_,e,e2,he,e4⟩
theorem qli {P:Program}{w:World}{K:PySem.W.Frag}{tg:Expr} (d it:Addr) (ob:Obj) (kvs:List (Key×V)) (es0:Array DictEntry) (ep:Nat) (he:ob.data=.dict es0 ep) :
  Turn P w K tg (Itd d ob kvs) [it] it (fun i h=>i≤kvs.length∧h.IsKeyIter it d i kvs.length ep) where
 mem:=by simp
 obj:=fun i h st b hb=>by
  have e:b=it:=by simpa using hb
  subst e
  obtain ⟨_,o,e,c,d⟩:=st
  exact ⟨o,e,fun v z=>by rw [d] at z;cases z⟩
 keep:=fun i h h' st k=>by
  obtain ⟨z,o,e,c,d⟩:=st
  exact ⟨z,o,k it (by simp) o e,c,d⟩
 item:=by
  intro X hP hw hK hc i pins s σ H E I hf st hg
  subst hP hw hK
  obtain ⟨f0,f1,f2,f3,f4,f5⟩:=hf it (by simp)
  obtain ⟨hi,hd⟩:=hg
  obtain ⟨vs,rel,at_⟩:=frz_at I hd he
  have hl:=rel.length
  have hiv:i < vs.length:=by omega
  have hit:s.heap.IsKeyIter it d i vs.length ep:=by rw [← hl];exact st.2
  refine wpAny_pyNext_dict_item (k:=vs[i].1) (v:=vs[i].2) hit at_ (by simp [hiv]) fun key h' hk it' sb=>?_
  have I1:Inv X pins σ H { s with heap:=h' }:=I.turned (t':=s.toks) (fun b o hb e=>(sb.2 b hb).trans e) f0 f1 f3 f4 f5
  have hkey:kvs[i].1=vs[i].1:=by
   have e1:(kvs.map (·.1))[i]?=(vs.map (·.1))[i]?:=by rw [rel.keys]
   rw [List.getElem?_map,List.getElem?_map,List.getElem?_eq_getElem hi,List.getElem?_eq_getElem hiv] at e1
   exact Option.some.inj e1
  obtain ⟨o,e,cl,dt⟩:=id it'
  refine ⟨key,rfl,go_of (s:={ s with heap:=h' }) e cl dt (by decide) ⟨kV kvs[i].1,H,I1,?_,⟨rfl,kvs[i],by simp [hi],rfl⟩,⟨hi,by rw [hl];exact it'⟩,fun b hb=>(hf b hb).1⟩⟩
  rw [hkey]
  have hk:qnn vs[i].1 key=true:=hk
  rcases qa6 hk with ⟨z,t,q1,q2⟩ | ⟨z,t,q1,q2⟩
  ·rw [q1,q2];exact ⟨t,rfl⟩
  ·rw [q1,q2];exact ⟨t,rfl⟩
 done:=by
  intro X hP hw hK hc i pins s σ H E I hf st hg
  subst hP hw hK
  obtain ⟨f0,f1,f2,f3,f4,f5⟩:=hf it (by simp)
  obtain ⟨hi,hd⟩:=hg
  obtain ⟨vs,rel,at_⟩:=frz_at I hd he
  have hl:=rel.length
  have hit:s.heap.IsKeyIter it d i vs.length ep:=by rw [← hl];exact st.2
  exact wpAny_pyNext_dict_end (I.ok.hd hc) hit at_ (by simp;omega) fun h' eb=>⟨rfl,I.turned (t':=s.toks) (fun b o hb e=>eb b o hb e) f0 f1 f3 f4 f5⟩
 self:=fun A i s Q E st h=>by
  exact wpAny_pyIter_keyiter st.2 h
section
variable {X:Cx}{tg:Expr}
end
end L2
namespace L2
open PySem PySem.Spec PyProof.Rows
def Nm (x:Str):Prop:=x.length≤100∧∀ c∈x.cps.toList,c < 16 ^ 8
section
variable {X:Cx}
theorem ql3:OpR X (compareOp .LtE) (fun x y H Q=>∃ i j,x=.str i∧y=.str j∧Q (.bl (!decide (j.cps.toList < i.cps.toList))) H):=by
 intro pins s σ H x y v u Q I rx ry h
 obtain ⟨i,j,rfl,rfl,q⟩:=h
 obtain ⟨t,rfl⟩:=rx
 obtain ⟨t',rfl⟩:=ry
 exact PySem.P.le_str ⟨.bl _,H,I,rfl,q⟩
theorem mt_join:MtR X "str.join" (fun x vs H Q=>∃ (z:Str) (p:Addr) (ys:List Str),x=.str z∧vs=[.ref p]∧SqL X.K H p (ys.map V.str)∧(ys.map (·.length)).sum+ys.length * z.length≤16777216∧Q (.str (Txt.join z ys)) H):=by
 intro pins s σ H x vs v us Q I rx rv h
 obtain ⟨z,p,ys,rfl,rfl,hq,hz,q⟩:=h
 obtain ⟨t,rfl⟩:=rx
 obtain ⟨u,rfl,ru⟩:=rv.one
 cases ru
 obtain ⟨its,r,pl,hz2⟩:=I.list hq
 exact join_list pl.isList (by simpa using qj7 r) hz fun t' k=>⟨.str _,H,I.tok k,⟨t',rfl⟩,q⟩
theorem qo6:CallR X (.builtin "all") (fun xs H Q=>∃ (p:Addr) (bs:List Bool),xs=[.ref p]∧SqL X.K H p (bs.map V.bl)∧X.calm=true∧Q (.bl (bs.all id)) H):=by
 intro pins s σ H xs us Q I r h
 obtain ⟨p,bs,rfl,hq,hc,q⟩:=h
 obtain ⟨u,rfl,ru⟩:=qgh r
 cases ru
 obtain ⟨its,rv,pl,hz2⟩:=I.list hq
 have hl:its.length=bs.length:=by have:=rv.length;rw [List.length_map] at this;exact this.symm
 have hne:p≠s.heap.objs.size:=by obtain ⟨o,ho,_⟩:=pl.isList;exact Nat.ne_of_lt (Heap.lt_size ho)
 refine call_all_walk (wpAny_pyIter_list pl.isList ?_)
 refine ⟨s.heap.objs.size,_,_,its.toArray.size,_,_,fun i=>(bs[i]?).getD true,rfl,Walks.list (show X.A.in1.handled=none from I.ok.hd hc) _ p hne its.toArray,⟨⟨_,Heap.get?_push_size _ rfl,rfl,rfl⟩,pl.isList.push _⟩,?_,fun h' tk hk=>?_⟩
 ·intro i v s' Q' E' hP hQ
  have hP:its.toArray[i]?=some v:=hP
  have hv:its[i]?=some v:=by simpa using hP
  have hi:i < its.length:=(List.getElem?_eq_some_iff.mp hv).1
  obtain ⟨u',hu',ru'⟩:=rv.get (i:=i) (x:=.bl bs[i]) (by simp [← hl,hi])
  rw [hv] at hu'
  cases hu'
  cases ru'
  refine wpAny_truthy_bool ?_
  have e:(bs[i]?).getD true=bs[i]:=by simp [← hl,hi]
  rw [← e]
  exact hQ
 ·have I1:Inv X pins σ H { s with heap:=h',toks:=tk }:=I.kept fun b o e=>hk b o (fun z=>by
   have e1:b=s.heap.objs.size:=by simpa using z
   exact absurd (Heap.lt_size e) (by rw [e1];exact Nat.lt_irrefl _)) (Heap.get?_push_of_some _ e)
  refine ⟨.bl _,H,I1,rfl,?_⟩
  have e:(List.range its.toArray.size).all (fun i=>(bs[i]?).getD true)=bs.all id:=by
   rw [List.size_toArray,hl,Bool.eq_iff_iff,List.all_eq_true,List.all_eq_true]
   constructor
   ·intro z b hb
    obtain ⟨i,hi,rfl⟩:=List.mem_iff_getElem.mp hb
    have:=z i (List.mem_range.mpr hi)
    simpa [hi] using this
   ·intro z i hi
    have hi:=List.mem_range.mp hi
    simpa [hi] using z bs[i] (List.getElem_mem hi)
  rw [e]
  exact q
def eqLs:List V→List V→Bool
 | [],[]=>true
 | x::xs,y::ys=>eqV x y && eqLs xs ys
 | _,_=>false
theorem qow:∀ {xs ys:List V},xs.length=ys.length→eqLs xs ys=(List.range xs.length).all fun i=>eqV ((xs[i]?).getD .non) ((ys[i]?).getD .non)
 | [],[],_=>rfl
 | [],_::_,h=>by cases h
 | _::_,[],h=>by cases h
 | x::xs,y::ys,h=>by
  show (eqV x y && eqLs xs ys)=_
  rw [qow (Nat.succ.inj h),List.length_cons,List.range_succ_eq_map,List.all_cons,List.all_map]
  rfl
theorem items_eqAt {A:Around}{s:Shared}{xs ys:List V}{us ws:List Value} (rx:Vals xs us) (ry:Vals ys ws) (hl:xs.length=ys.length) (fx:xs.all qf7=true) (fy:ys.all qf7=true) :
  ∀ j (h1:j < us.toArray.size) (h2:j < ws.toArray.size),SeqAt.EqAt A s us.toArray[j] ws.toArray[j] (eqV ((xs[j]?).getD .non) ((ys[j]?).getD .non)):=by
 intro j h1 h2
 have e1:=rx.length
 have e2:=ry.length
 have h1':j < xs.length:=by rw [e1];simpa using h1
 have h2':j < ys.length:=by rw [e2];simpa using h2
 obtain ⟨u,hu,ru⟩:=rx.get (i:=j) (x:=xs[j]) (by simp [h1'])
 obtain ⟨w,hw,rw'⟩:=ry.get (i:=j) (x:=ys[j]) (by simp [h2'])
 have e3:us.toArray[j]=u:=by
  have:us[j]?=some us.toArray[j]:=by simp [show j < us.length by simpa using h1]
  rw [hu] at this
  exact (Option.some.inj this).symm
 have e4:ws.toArray[j]=w:=by
  have:ws[j]?=some ws.toArray[j]:=by simp [show j < ws.length by simpa using h2]
  rw [hw] at this
  exact (Option.some.inj this).symm
 rw [e3,e4]
 have e5:(xs[j]?).getD .non=xs[j]:=by simp [h1']
 have e6:(ys[j]?).getD .non=ys[j]:=by simp [h2']
 rw [e5,e6]
 exact eqAt_V ru rw' (List.all_eq_true.mp fx _ (List.getElem_mem h1')) (List.all_eq_true.mp fy _ (List.getElem_mem h2'))
def gLst (K:PySem.W.Frag) (n:Nat) (t:TGs):TG:=fun v σ H Q=>∃ a xs,v=.ref a∧SqL K H a xs∧xs.length=n∧t xs σ H Q
theorem pg_lst {es:List Expr}{k:Nat}{t:TGs}{n:Nat}{pos:Pos} (hc:X.calm=true) (h:PGs X es t)
  (hn:(assignEach es X.env).length=n:=by rfl) (hst:(assignEach es X.env).findIdx? (·.1)=none:=by rfl):PG X (.Tuple es k pos) (gLst X.K n t):=by
 intro pins s σ H v u Q I r hw
 obtain ⟨a,xs,e1,hq,hl,hw⟩:=hw
 subst e1
 cases r
 obtain ⟨its,rv,ht,hz⟩:=I.list hq
 rw [assign_Tuple]
 refine wpAny_bind (wpAny_standAt ?_)
 unfold unpack
 have hsz:(assignEach es X.env).length=its.toArray.size:=by simp [hn,← hl,rv.length]
 rw [hsz,hst]
 refine wpAny_bind (wpAny_holding (PySem.W.kun_itemsOf (I.ok.hd hc) ht.isList fun h' hx=>?_))
 have I1:Inv X pins σ H { s with heap:=h' }:=I.kept (t':=s.toks) fun b o e=>hx b o (Nat.ne_of_lt (Heap.lt_size e)) e
 exact h pins _ σ H xs _ Q I1 (by simpa using rv) hw
def PJ (X:Cx) (es:List Expr) (t:St→Hp→(Hp→Prop)→Prop):Prop:=∀ (pins:List (Addr×Obj)) (s:Shared) (σ:St) (H:Hp) (acc:Str) (n:Nat) (Q:Hp→Prop),Inv X pins σ H s→acc.length≤2000 * n→n+es.length≤100→t σ H Q →
 Joins (model X.prog X.w) X.A X.xe (evalEach es X.env) acc (fun out s1=>out.length≤sizeLine∧∃ H',Inv X pins σ H' s1∧Q H') s
def jNil:St→Hp→(Hp→Prop)→Prop:=fun _ H Q=>Q H
def jRep (te:TE) (t:St→Hp→(Hp→Prop)→Prop):St→Hp→(Hp→Prop)→Prop:=fun σ H Q=>te σ H fun v H1=>(∃ x,v=.str x∧Nm x)∧t σ H1 Q
theorem qly:PJ X [] jNil:=fun pins s σ H acc n Q I h1 h2 h=>⟨Nat.le_trans h1 (Nat.le_trans (Nat.mul_le_mul_left 2000 (show n≤100 by simpa using h2)) (by decide)),H,I,h⟩
theorem qfm (a b:Str):(a++b).length=a.length+b.length:=strLen_append a b
theorem qlx {c:Str}{j pos}{es:List Expr}{t:St→Hp→(Hp→Prop)→Prop} (hr:PJ X es t) (hl:c.length≤2000:=by decide):PJ X (.Constant (.str c) j pos::es) t:=by
 intro pins s σ H acc n Q I h1 h2 h
 have h2:n+(es.length+1)≤100:=h2
 refine Calls.Constant_str ⟨c,s.toks,rfl,?_,hr pins _ σ H (acc++c) (n+1) Q (I.tok _) ?_ (by omega) h⟩
 ·rw [qfm]
  exact Nat.le_trans (show acc.length+c.length≤2000 * 101 by omega) (by decide)
 ·rw [qfm]
  omega
theorem qje {e:Expr}{pos:Pos}{es:List Expr}{te:TE}{t:St→Hp→(Hp→Prop)→Prop} (he:PE X e te) (hr:PJ X es t):PJ X (.FormattedValue e 114 none pos::es) (jRep te t):=by
 intro pins s σ H acc n Q I h1 h2 h
 have h2:n+(es.length+1)≤100:=h2
 refine wpAny_FormattedValue_repr (thn (he pins s σ H _ I h) fun v s1 ⟨y,H1,I1,r1,⟨x,e1,nm⟩,q1⟩=>?_)
 subst e1
 obtain ⟨tk,rfl⟩:=r1
 have hlen:(PySem.reprText x).length≤1002:=Nat.le_trans (PySem.StrLaws.reprText_len x nm.2) (by have:=nm.1;omega)
 have hsz:(PySem.reprText x).length≤sizeLine:=Nat.le_trans hlen (by decide)
 have fin:∀ tk s2,Inv X pins σ H1 s2→∃ y t',Value.str (PySem.reprText x) tk=.str y t'∧(acc++y).length≤sizeLine∧Joins (model X.prog X.w) X.A X.xe (evalEach es X.env) (acc++y) (fun out s1=>out.length≤sizeLine∧∃ H',Inv X pins σ H' s1∧Q H') s2:=fun tk s2 I2=>by
  refine ⟨_,tk,rfl,?_,hr pins s2 σ H1 _ (n+1) Q I2 ?_ (by omega) q1⟩
  ·rw [qfm]
   exact Nat.le_trans (show acc.length+(PySem.reprText x).length≤2000 * 101 by omega) (by decide)
  ·rw [qfm]
   omega
 refine wpAny_pyReprObj_str ?_ hsz
 exact wpAny_formatField_str (fin _ _ (I1.tok _)) (fin _ _ ((I1.tok _).tok _)) hsz
def tFs (t:St→Hp→(Hp→Prop)→Prop):TE:=fun σ H Q=>t σ H fun H1=>∀ x,Q (.str x) H1
theorem pe_fs {v₁ v₂:Expr}{rest:List Expr}{pos:Pos}{t:St→Hp→(Hp→Prop)→Prop} (h:PJ X (v₁::v₂::rest) t) (hl:(v₁::v₂::rest).length≤100:=by decide):PE X (.JoinedStr (v₁::v₂::rest) pos) (tFs t):=by
 intro pins s σ H Q I hq
 refine wpAny_JoinedStr ?_
 have:=h pins s σ H Str.empty 0 (fun H1=>∀ x,Q (.str x) H1) I (Nat.zero_le _) (by omega) hq
 revert this
 generalize evalEach (v₁::v₂::rest) X.env=parts
 generalize Str.empty=acc
 intro this
 clear h hl hq I
 induction parts generalizing acc s with
 | nil =>
  obtain ⟨z,H',I',q⟩:=this
  exact ⟨z,.str acc,H',I'.tok _,⟨_,rfl⟩,q acc⟩
 | cons p ps ih =>
  refine wpAny_mono this (fun v s1 ⟨y,t,e,z,k⟩=>⟨y,t,e,z,ih _ _ k⟩) fun _ _ z=>z
end
end L2
namespace L2
open PySem PySem.Spec PyProof.Rows
def Fn (P:Program) (w:World) (K:PySem.W.Frag) (mg:Str→Option Value) (base:Heap) (x:Str) (k:Nat) (ps:List Str) (sp:Sp):Prop :=
 ∃ f fd,FnOk P w K mg base (CXo P w) k f fd ps sp∧mg x=some (.ref f)∧PySem.W.keepIn K (.ref f)=true∧Binds K fd ps []
def Mt (P:Program) (w:World) (K:PySem.W.Frag) (mg:Str→Option Value) (base:Heap) (C:Addr) (m:Str) (k:Nat) (ps:List Str) (sp:Sp):Prop :=
 ∃ f fd,FnOk P w K mg base (CXo P w) k f fd ps sp∧Meth K C m f∧Cls K C∧Binds K fd ps []
def MkB (P:Program) (w:World) (K:PySem.W.Frag) (mg:Str→Option Value) (base:Heap) (x:Str) (C:Addr) (k:Nat) (ps:List Str) (sp:Sp):Prop :=
 ∃ f fd,FnOk P w K mg base (CXo P w) k f fd ps sp∧mg x=some (.ref C)∧Mk K C f∧Binds K fd ps []
section
variable {X:Cx}{k:Nat}{C:Addr}{ps:List Str}{sp:Sp}{E:XK}{x m:Str}{p pos apos:Pos}{e o:Expr}{es:List Expr}{ta:TE}{t:TA}
theorem qiy (F:Fn X.prog X.w X.K X.mg X.base x k ps sp) (hr:Room k X.A) (hg:Gl X x) (hx:qc7 (CXo X.prog X.w) X E) (ha:PA X (e::es) t) (hdb:(x == ("__debug__":Str))=false:=by decide)
  (he:starEach (e::es) X.env=(false,eval e X.env)::starEach es X.env:=by rfl) (hpl:(backTo pos (starEach es X.env)).any (·.1)=false:=by rfl):PE X (.Call (.Name x p) (e::es) [] pos) (tCall sp [] E t):=by
 obtain ⟨f,fd,F,hm,hk,hb⟩:=F
 exact pe_call F hr hg hm hk hb .nil hx ha hdb he hpl
theorem qg8 {pl:Sem Bool} (he:PE X o ta) (M:Mt X.prog X.w X.K X.mg X.base C m k ps sp) (hr:Room k X.A) (hx:qc7 (CXo X.prog X.w) X E) (ha:PA X (e::es) t)
  (hst:starEach (e::es) X.env=(false,eval e X.env)::starEach es X.env:=by rfl) (hpl:(backTo pos (starEach es X.env)).any (·.1)=false:=by rfl)
  (ht:eval (.Call (.Attribute o m apos) (e::es) [] pos) X.env=(do
   let ov ← eval o X.env
   standAt apos.atName
   let (f,first) ← holding [ov] (getMethod ov m pl)
   callWith pos f first (backTo pos (starEach (e::es) X.env)) (backToKw pos (keywordEach [] X.env))):=by rfl):PE X (.Call (.Attribute o m apos) (e::es) [] pos) (tMeth C m sp [] E ta t):=by
 obtain ⟨f,fd,F,hm,c,hb⟩:=M
 exact pe_meth (pl:=pl) he c hm F hr hb .nil hx ha hst hpl ht
theorem pe_mt0 {pl:Sem Bool} (he:PE X o ta) (M:Mt X.prog X.w X.K X.mg X.base C m k ps sp) (hr:Room k X.A) (hx:qc7 (CXo X.prog X.w) X E)
  (ht:eval (.Call (.Attribute o m apos) [] [] pos) X.env=(do
   let ov ← eval o X.env
   standAt apos.atName
   let (f,first) ← holding [ov] (getMethod ov m pl)
   callWith pos f first (backTo pos (starEach [] X.env)) (backToKw pos (keywordEach [] X.env))):=by rfl):PE X (.Call (.Attribute o m apos) [] [] pos) (tMeth C m sp [] E ta tNil):=by
 obtain ⟨f,fd,F,hm,c,hb⟩:=M
 exact pe_meth0 (pl:=pl) he c hm F hr hb .nil hx ht
theorem pe_mk0 (M:MkB X.prog X.w X.K X.mg X.base x C k ps sp) (hr:Room (k+1) X.A) (hg:Gl X x) (hx:qc7 (CXo X.prog X.w) X E) (hdb:(x == ("__debug__":Str))=false:=by decide):PE X (.Call (.Name x p) [] [] pos) (tMake C sp [] E tNil):=by
 obtain ⟨f,fd,F,hm,mk,hb⟩:=M
 exact pe_make0 mk F hr hg hm hb .nil hx hdb
theorem qex:OpR X (binaryOp .FloorDiv) (rI (fun _ j=>0 < j∧j.natAbs.log2 < 9000) fun i j=>.int (i / j)):=opI fun i j _ _ _ _ _ hc q=>by
 have h1:(0:Int) < j:=hc.1
 exact floordiv_int (by omega) (by rw [Int.fdiv_eq_ediv_of_nonneg i (by omega)];exact q) (.inl (PyProof.noPylong_of_log2 hc.2))
end
section
variable {P:Program}{w:World}{K:PySem.W.Frag}{mg:Str→Option Value}{base:Heap}
theorem Fun.okN {x qual:Str}{st:Stmt}{f:Addr}{fd:FuncData}{N ps:List Str}{k:Nat}{sp:Sp} (F:Fun K x qual st f fd) (S:FnScope N ps (qac st)) (len:∀ vs H Q E,sp vs H Q E→vs.length=ps.length)
  (hbody:∀ (cdv:Value) (A:Around) (outer:List Env) (s:Shared) (H:Hp) (vs:List V) (Q:VK) (E:XK),Room k (A.deeper (envOfC qual (qac st) s.heap.objs.size f cdv))→sp vs H Q E →
   ∃ t,PSs (cxOf (CXo P w) P w K mg base N qual (qac st) f cdv A outer s H E).nox (qal st) t∧t { nx:=fun _ H'=>Q .non H',rt:=Q } (start N vs) H):FnOk P w K mg base (CXo P w) (k+1) f fd ps sp:=by
 obtain ⟨oc,od,kV,doc,pm,an,cdv,ct,osl,rfl,lk,hcd⟩:=F.ex
 refine fn_of lk hcd S len fun A outer s H vs Q E hr hsp=>?_
 obtain ⟨t,h,q⟩:=hbody cdv A outer s H vs Q E hr hsp
 exact ⟨t,h.nox,q⟩
theorem Fun.okX {x qual:Str}{st:Stmt}{f:Addr}{fd:FuncData}{N ps:List Str}{k:Nat}{sp:Sp} (F:Fun K x qual st f fd) (S:FnScope N ps (qac st)) (len:∀ vs H Q E,sp vs H Q E→vs.length=ps.length)
  (hbody:∀ (cdv:Value) (A:Around) (outer:List Env) (s:Shared) (H:Hp) (vs:List V) (Q:VK) (E:XK),Room k (A.deeper (envOfC qual (qac st) s.heap.objs.size f cdv))→sp vs H Q E →
   ∃ t,PSs (cxOf (CXo P w) P w K mg base N qual (qac st) f cdv A outer s H E) (qal st) t∧t { nx:=fun _ H'=>Q .non H',rt:=Q } (start N vs) H):FnOk P w K mg base (CXo P w) (k+1) f fd ps sp:=by
 obtain ⟨oc,od,kV,doc,pm,an,cdv,ct,osl,rfl,lk,hcd⟩:=F.ex
 exact fn_of lk hcd S len fun A outer s H vs Q E hr hsp=>hbody cdv A outer s H vs Q E hr hsp
end
theorem comp_by {J:It}{tc:TT}{te:TE}{cap:St}{D:Addr}{Q:VK}{H1:Hp} (n:Nat) (R:Nat→List V→Hp→Prop) (h0:R 0 [] (upd H1 D (.lst []))) (hn:n≤sizeLine) (hD:∀ i ys H,R i ys H→H D=some (.lst ys))
  (hgo:∀ i ys H,i < n→R i ys H→J.go i H)
  (hstep:∀ i ys H x H',i < n→R i ys H→J.yld i H x H'→∀ (Kt:VK) (Kf:Hp→Prop),(∀ v H5,H5 D=some (.lst ys)→R (i+1) (ys++[v]) (upd H5 D (.lst (ys++[v])))→Kt v H5)→(∀ H4,R (i+1) ys H4→Kf H4) →
   tc (some x::cap) H' fun b H4=>if b=true then te (some x::cap) H4 Kt else Kf H4)
  (hend:∀ ys H,ys.length≤n→R n ys H→J.stop n H∧Q (.ref D) H) :
  CompB J tc te cap D H1 Q:=by
 refine ⟨fun i m ys H=>i≤n∧m=n - i∧ys.length≤i∧R i ys H,⟨n,Nat.zero_le _,by simp,Nat.zero_le _,h0⟩,?_⟩
 rintro i m ys H2 ⟨hi,rfl,hl,r⟩
 by_cases hlt:i < n
 ·refine .inr ⟨hgo i ys H2 hlt r,fun x H3 y=>hstep i ys H2 x H3 hlt r y _ _ (fun v H5 e r'=>⟨e,by omega,n - (i+1),by omega,hlt,rfl,by rw [List.length_append];simp;omega,r'⟩) fun H4 r'=>⟨n - (i+1),by omega,hlt,rfl,by omega,r'⟩⟩
 ·have e:i=n:=by omega
  subst e
  obtain ⟨h1,h2⟩:=hend ys H2 hl r
  exact .inl ⟨h1,hD i ys H2 r,h2⟩
theorem qd3:bootBuiltins "len"=some (.builtin "len"):=by decide +kernel
theorem qk7:bootBuiltins "isinstance"=some (.builtin "isinstance"):=by decide +kernel
theorem qdj:bootBuiltins "sorted"=some (.builtin "sorted"):=by decide +kernel
theorem bt_abs:bootBuiltins "abs"=some (.builtin "abs"):=by decide +kernel
theorem bt_all:bootBuiltins "all"=some (.builtin "all"):=by decide +kernel
theorem bt_int:bootBuiltins "int"=some (.type "int"):=by decide +kernel
theorem qk6:bootBuiltins "tuple"=some (.type "tuple"):=by decide +kernel
theorem qnv:bootBuiltins "list"=some (.type "list"):=by decide +kernel
theorem bt_str:bootBuiltins "str"=some (.type "str"):=by decide +kernel
theorem bt_bool:bootBuiltins "bool"=some (.type "bool"):=by decide +kernel
end L2
namespace Fra
def Cop (a b:Int):Prop:=Int.gcd a b=1
def Low (q:Int×Int):Prop:=0 < q.2∧Cop q.1 q.2
def red (q:Int×Int):Int×Int:=(q.1 / (Int.gcd q.1 q.2:Int),q.2 / (Int.gcd q.1 q.2:Int))
theorem Cop.symm {a b:Int} (h:Cop a b):Cop b a:=by unfold Cop at *;rw [Int.gcd_comm];exact h
theorem qd1 {a a' b:Int} (d:a ∣ a') (h:Cop a' b):Cop a b:=Nat.Coprime.coprime_dvd_left (Int.natAbs_dvd_natAbs.mpr d) h
theorem qk2 {a b c:Int} (h1:Cop a c) (h2:Cop b c):Cop (a * b) c:=by
 unfold Cop Int.gcd at *
 rw [Int.natAbs_mul]
 exact Nat.Coprime.mul_left h1 h2
theorem cop_dvd {a b c:Int} (h:Cop a b) (d:a ∣ b * c):a ∣ c:=by
 have d':=Int.natAbs_dvd_natAbs.mpr d
 rw [Int.natAbs_mul] at d'
 exact Int.natAbs_dvd_natAbs.mp (Nat.Coprime.dvd_of_dvd_mul_left h d')
theorem cop_add {a b k:Int} (h:Cop a b):Cop (a+k * b) b:=by
 unfold Cop at *
 have g1:(Int.gcd (a+k * b) b:Int) ∣ a+k * b:=Int.gcd_dvd_left ..
 have g2:(Int.gcd (a+k * b) b:Int) ∣ b:=Int.gcd_dvd_right ..
 have g3:(Int.gcd (a+k * b) b:Int) ∣ a:=by
  have:=Int.dvd_sub g1 (Int.dvd_trans g2 (Int.dvd_mul_left k b))
  have e:a+k * b - k * b=a:=by omega
  rw [e] at this
  exact this
 have g4:=Int.dvd_gcd g3 g2
 rw [h] at g4
 exact Nat.dvd_one.mp g4
theorem qjk {p q:Int×Int} (hp:Low p) (hq:Low q) (h:p.1 * q.2=q.1 * p.2):p=q:=by
 obtain ⟨a,b⟩:=p
 obtain ⟨c,d⟩:=q
 obtain ⟨h1,h2⟩:=hp
 obtain ⟨h3,h4⟩:=hq
 simp only at h h1 h2 h3 h4
 have d1:b ∣ d:=cop_dvd h2.symm ⟨c,by rw [h];exact Int.mul_comm _ _⟩
 have d2:d ∣ b:=cop_dvd h4.symm ⟨a,by rw [← h];exact Int.mul_comm _ _⟩
 have e:b=d:=Int.dvd_antisymm (by omega) (by omega) d1 d2
 subst e
 have:a=c:=Int.eq_of_mul_eq_mul_right (by omega) h
 rw [this]
theorem qgn {q:Int×Int} (h:0 < q.2):Low (red q)∧(red q).1 * q.2=q.1 * (red q).2:=by
 obtain ⟨a,b⟩:=q
 simp only at h
 have hg:0 < Int.gcd a b:=Int.gcd_pos_of_ne_zero_right _ (by omega)
 obtain ⟨u,hu⟩:(Int.gcd a b:Int) ∣ a:=Int.gcd_dvd_left ..
 obtain ⟨v,hv⟩:(Int.gcd a b:Int) ∣ b:=Int.gcd_dvd_right ..
 have eu:a / (Int.gcd a b:Int)=u:=Int.ediv_eq_of_eq_mul_right (by omega) hu
 have ev:b / (Int.gcd a b:Int)=v:=Int.ediv_eq_of_eq_mul_right (by omega) hv
 have hc:Cop u v:=by
  have e:Int.gcd ((Int.gcd a b:Int) * u) ((Int.gcd a b:Int) * v)=Int.gcd a b * Int.gcd u v:=by rw [Int.gcd_mul_left];rfl
  rw [← hu,← hv] at e
  unfold Cop
  have:Int.gcd a b * Int.gcd u v=Int.gcd a b * 1:=by omega
  exact Nat.eq_of_mul_eq_mul_left hg this
 have hv0:0 < v:=by
  by_cases z:0 < v
  ·exact z
  ·have:(Int.gcd a b:Int) * v≤0:=Int.mul_nonpos_of_nonneg_of_nonpos (by omega) (by omega)
   omega
 unfold red
 simp only
 rw [eu,ev]
 refine ⟨⟨hv0,hc⟩,?_⟩
 show u * b=a * v
 have e1:u * b=u * ((Int.gcd a b:Int) * v):=by rw [← hv]
 have e2:a * v=(Int.gcd a b:Int) * u * v:=by rw [← hu]
 rw [e1,e2,Int.mul_comm (Int.gcd a b:Int) u,Int.mul_assoc]
theorem red_eq {p q:Int×Int} (hp:Low p) (hq:0 < q.2) (h:p.1 * q.2=q.1 * p.2):p=red q:=by
 obtain ⟨r1,r2⟩:=qgn hq
 refine qjk hp r1 ?_
 have e:p.1 * (red q).2 * q.2=(red q).1 * p.2 * q.2:=by
  rw [Int.mul_right_comm,h,Int.mul_right_comm q.1,← r2,Int.mul_right_comm]
 exact Int.eq_of_mul_eq_mul_right (by omega) e
def addK (p q:Int×Int):Int×Int :=
 let d:Int:=Int.gcd p.2 q.2
 let t:=p.1 * (q.2 / d)+q.1 * (p.2 / d)
 let e:Int:=Int.gcd t d
 (t / e,p.2 / d * (q.2 / e))
def addR (p q:Int×Int):Int×Int:=red (p.1 * q.2+q.1 * p.2,p.2 * q.2)
theorem addK_eq {p q:Int×Int} (hp:Low p) (hq:Low q):addK p q=addR p q:=by
 obtain ⟨n1,b1⟩:=p
 obtain ⟨n2,b2⟩:=q
 obtain ⟨h1,h2⟩:=hp
 obtain ⟨h3,h4⟩:=hq
 simp only at h1 h2 h3 h4
 unfold addK addR
 simp only
 have hd:0 < Int.gcd b1 b2:=Int.gcd_pos_of_ne_zero_right _ (by omega)
 obtain ⟨u,hu⟩:(Int.gcd b1 b2:Int) ∣ b1:=Int.gcd_dvd_left ..
 obtain ⟨v,hv⟩:(Int.gcd b1 b2:Int) ∣ b2:=Int.gcd_dvd_right ..
 have huv:Cop u v:=by
  have e:Int.gcd ((Int.gcd b1 b2:Int) * u) ((Int.gcd b1 b2:Int) * v)=Int.gcd b1 b2 * Int.gcd u v:=by rw [Int.gcd_mul_left];rfl
  rw [← hu,← hv] at e
  have:Int.gcd b1 b2 * Int.gcd u v=Int.gcd b1 b2 * 1:=by omega
  exact Nat.eq_of_mul_eq_mul_left hd this
 generalize hD:(Int.gcd b1 b2:Int)=d at *
 have d0:0 < d:=by omega
 subst hu
 subst hv
 rw [Int.mul_ediv_cancel_left _ (by omega:d≠0),Int.mul_ediv_cancel_left _ (by omega:d≠0)]
 have pos:∀ {x:Int},0 < d * x→0 < x:=fun {x} hx=>by
  by_cases z:0 < x
  ·exact z
  ·have:d * x≤0:=Int.mul_nonpos_of_nonneg_of_nonpos (by omega) (by omega)
   omega
 have u0:=pos h1
 have v0:=pos h3
 have ct_u:Cop (n1 * v+n2 * u) u:=cop_add (qk2 (qd1 (Int.dvd_refl _) (qd1 ⟨d,Int.mul_comm _ _⟩ h2.symm).symm) huv.symm)
 have ct_v:Cop (n1 * v+n2 * u) v:=by
  rw [Int.add_comm]
  exact cop_add (qk2 (qd1 ⟨d,Int.mul_comm _ _⟩ h4.symm).symm huv)
 generalize hT:n1 * v+n2 * u=t at *
 have he:0 < Int.gcd t d:=Int.gcd_pos_of_ne_zero_right _ (by omega)
 obtain ⟨t',ht⟩:(Int.gcd t d:Int) ∣ t:=Int.gcd_dvd_left ..
 obtain ⟨e',hE⟩:(Int.gcd t d:Int) ∣ d:=Int.gcd_dvd_right ..
 have cte:Cop t' e':=by
  have e:Int.gcd ((Int.gcd t d:Int) * t') ((Int.gcd t d:Int) * e')=Int.gcd t d * Int.gcd t' e':=by rw [Int.gcd_mul_left];rfl
  rw [← ht,← hE] at e
  have:Int.gcd t d * Int.gcd t' e'=Int.gcd t d * 1:=by omega
  exact Nat.eq_of_mul_eq_mul_left he this
 generalize hG:(Int.gcd t d:Int)=g at *
 have g0:0 < g:=by omega
 have e0:0 < e':=by
  by_cases z:0 < e'
  ·exact z
  ·have:g * e'≤0:=Int.mul_nonpos_of_nonneg_of_nonpos (by omega) (by omega)
   omega
 have q1:t / g=t':=by rw [ht];exact Int.mul_ediv_cancel_left _ (by omega)
 have q2:d * v / g=e' * v:=by
  rw [hE,Int.mul_assoc]
  exact Int.mul_ediv_cancel_left _ (by omega)
 rw [q1,q2]
 refine red_eq ⟨Int.mul_pos u0 (Int.mul_pos e0 v0),?_⟩ (Int.mul_pos h1 h3) ?_
 ·have d1:t' ∣ t:=⟨g,by rw [ht];exact Int.mul_comm _ _⟩
  exact (qk2 (qd1 d1 ct_u).symm (qk2 cte.symm (qd1 d1 ct_v).symm)).symm
 ·show t' * (d * u * (d * v))=(n1 * (d * v)+n2 * (d * u)) * (u * (e' * v))
  have e1:n1 * (d * v)+n2 * (d * u)=d * t:=by
   rw [← hT,Int.mul_add,Int.mul_left_comm,Int.mul_left_comm n2]
  rw [e1]
  have e2:d * t * (u * (e' * v))=d * (g * t') * (u * (e' * v)):=by rw [← ht]
  have e3:t' * (d * u * (d * v))=t' * (d * u * (g * e' * v)):=by rw [← hE]
  rw [e2,e3]
  simp only [Int.mul_assoc,Int.mul_left_comm,Int.mul_comm]
theorem qhn {p q:Int×Int} (hp:Low p) (hq:Low q):Low (addR p q):=(qgn (Int.mul_pos hp.1 hq.1)).1
end Fra
namespace L2
open PySem PySem.Spec PyProof.Rows
abbrev fzO (o:Obj):HO:=.frz o (.own 0)
def fz (H:Hp) (cs:List (Addr×Obj)):Hp:=fun b=>match cs.lookup b with
 | some o=>some (fzO o)
 | none=>H b
def ufz (H:Hp) (cs:List (Addr×Obj)):Hp:=fun b=>match cs.lookup b with
 | some _=>none
 | none=>H b
section
variable {H:Hp}{cs:List (Addr×Obj)}{b:Addr}{o:Obj}
theorem qkx (h:cs.lookup b=some o):fz H cs b=some (fzO o):=by unfold fz;rw [h]
theorem qb4 (h:cs.lookup b=none):fz H cs b=H b:=by unfold fz;rw [h]
theorem qhs (h:cs.lookup b=some o):ufz H cs b=none:=by unfold ufz;rw [h]
theorem qa8 (h:cs.lookup b=none):ufz H cs b=H b:=by unfold ufz;rw [h]
theorem qeu (h:H b=none):ufz H cs b=none:=by
 cases q:cs.lookup b with
 | none=>rw [qa8 q];exact h
 | some o=>exact qhs q
theorem ufz_some {u:HO} (h:ufz H cs b=some u):cs.lookup b=none∧H b=some u:=by
 cases q:cs.lookup b with
 | none=>exact ⟨rfl,(qa8 q).symm.trans h⟩
 | some o=>rw [qhs q] at h;cases h
end
def Fzd (H:Hp) (cs:List (Addr×Obj)):Prop:=∀ c o,cs.lookup c=some o→H c=some (fzO o)
theorem Fzd.out {H:Hp}{cs:List (Addr×Obj)} (h:Fzd H cs) {b:Addr}{u:HO} (e:H b=some u) (n:∀ o,u≠fzO o):cs.lookup b=none:=by
 cases q:cs.lookup b with
 | none=>rfl
 | some o=>rw [h b o q] at e;cases e;exact absurd rfl (n o)
theorem Fzd.out0 {H:Hp}{cs:List (Addr×Obj)} (h:Fzd H cs) {b:Addr} (e:H b=none):cs.lookup b=none:=by
 cases q:cs.lookup b with
 | none=>rfl
 | some o=>rw [h b o q] at e;cases e
section
variable {P:Program}{w:World}{K:PySem.W.Frag}{mg:Str→Option Value}{base:Heap}{A:Around}{outer:List Env}{s s':Shared}{H H2:Hp}{cs:List (Addr×Obj)}
theorem hok_ufz {h h1:Heap} (ok:HOk P w H h) (f:Fzd H cs) (k:∀ b o,h.get? b=some o→h1.get? b=some o):HOk P w (ufz H cs) h1:=fun b u e=>by
 obtain ⟨_,e⟩:=ufz_some e
 refine (ok b u e).stay (fun c v _ q=>k c v q) (fun c q=>?_) fun c xs q=>?_
 ·rw [qa8 (f.out q fun o z=>by cases z)];exact q
 ·rw [qa8 (f.out q fun o z=>by cases z)];exact q
theorem un_fz (f:Fzd H cs) (fs:∀ b∈frs outer,H b=none) (ok:HOk P w H s.heap) (u:Un (frs outer) [] (ufz H cs) H2 s.heap s'.heap) (ok2:HOk P w H2 s'.heap):Un (frs outer) [] H (fz H2 cs) s.heap s'.heap∧HOk P w (fz H2 cs) s'.heap:=by
 have at0:∀ c o,cs.lookup c=some o→s.heap.get? c=some o:=fun c o e=>(ok c _ (f c o e)).1
 have at2:∀ c o,cs.lookup c=some o→s'.heap.get? c=some o∧H2 c=none:=fun c o e=>by
  have nf:c∉frs outer:=fun z=>by have:=fs c z;rw [f c o e] at this;cases this
  exact ⟨u.keep c o (at0 c o e) (qhs e) nf (by simp),u.free c o (at0 c o e) (qhs e) (by simp)⟩
 have out2:∀ {b:Addr}{v:HO},H2 b=some v→cs.lookup b=none:=fun {b v} e=>by
  cases q:cs.lookup b with
  | none=>rfl
  | some o=>rw [(at2 b o q).2] at e;cases e
 refine ⟨⟨fun b o e n hb hx=>u.keep b o e (qeu n) hb hx,fun b o e n hb hx=>u.slot b o e (qeu n) hb hx,fun b o e n hx=>?_,u.there,fun b xs e=>?_,fun b o v e=>?_,fun b ps e=>?_⟩,fun b v e=>?_⟩
 ·rw [qb4 (f.out0 n)]
  exact u.free b o e (qeu n) hx
 ·have q:=f.out e fun o z=>by cases z
  rw [qb4 q]
  exact u.tups b xs (by rw [qa8 q];exact e)
 ·cases q:cs.lookup b with
  | none =>
   rw [qb4 q]
   exact u.frzs b o v (by rw [qa8 q];exact e)
  | some o' =>
   rw [qkx q,← e,f b o' q]
 ·have q:=f.out e fun o z=>by cases z
  rw [qb4 q]
  exact u.tbls b ps (by rw [qa8 q];exact e)
 ·cases q:cs.lookup b with
  | none =>
   rw [qb4 q] at e
   refine (ok2 b v e).stay (fun c v _ q=>q) (fun c q=>?_) fun c xs q=>?_
   ·rw [qb4 (out2 q)];exact q
   ·rw [qb4 (out2 q)];exact q
  | some o =>
   rw [qkx q] at e
   cases e
   exact ⟨(at2 b o q).1,o,(at2 b o q).1⟩
end
structure LamOk (scope:Scope) (x:Str) (fr:List Str):Prop where
 kind:scope.kind=.function
 co:scope.isCoroutine=false
 gen:scope.isGenerator=false
 cell:∀ y∈scope.names,y.2≠.cell
 par:scope.names.lookup x=some .local
 frs:∀ y∈fr,scope.names.lookup y=some .free
 nd:(x::fr).Nodup
structure CloOk (scope:Scope) (fr:List Str) (cl:List (Str×Addr)) (cs:List (Addr×Obj)) (caps:List V):Prop where
 has:∀ y,scope.names.lookup y=some .free→∃ c,cl.lookup y=some c
 inj:∀ y z c,cl.lookup y=some c→cl.lookup z=some c→y=z
 cel:∀ y c,cl.lookup y=some c→∃ o u,cs.lookup c=some o∧o.data=.cell u
 val:∀ (i:Nat) (y:Str) (v:V),fr[i]?=some y→caps[i]?=some v→∃ c o u,cl.lookup y=some c∧cs.lookup c=some o∧o.data=.cell (some u)∧RelV v u
 len:caps.length=fr.length
abbrev envL (qual:Str) (scope:Scope) (L f:Addr) (cd:Value) (cl:List (Str×Addr)):Env:=PySem.W.envX qual scope L f cd cl
def cxL (P:Program) (w:World) (K:PySem.W.Frag) (mg:Str→Option Value) (base:Heap) (N:List Str) (qual:Str) (scope:Scope) (f:Addr) (cd:Value) (cl:List (Str×Addr)) (A:Around) (outer:List Env) (s:Shared) (H:Hp):Cx where
 prog:=P
 w:=w
 K:=K
 mg:=mg
 base:=base
 A:=A.deeper (envL qual scope s.heap.objs.size f cd cl)
 N:=N
 s₀:=s
 H₀:=H
 env:=envL qual scope s.heap.objs.size f cd cl
 outer:=outer
 stack:=envL qual scope s.heap.objs.size f cd cl::outer
 ex:=[]
 calm:=true
 fn:=fun _=>false
 pn:=[]
 xe:=fun _ _=>False
section
variable {P:Program}{w:World}{K:PySem.W.Frag}{mg:Str→Option Value}{base:Heap}{CX:CXT}{k:Nat}{f c':Addr}{qual x:Str}{params:Arguments}{body:Expr}{scope:Scope}{cl:List (Str×Addr)}{cs:List (Addr×Obj)}{pm ctv:Value}{fr:List Str}{caps:List V}{oc:Obj}
def spClo (f c':Addr) (of oc:Obj) (cs:List (Addr×Obj)) (caps:List V) (t:TE):Sp:=fun vs H Q _=>∃ v0,vs=[v0]∧H f=some (fzO of)∧H c'=some (fzO oc)∧Fzd H cs∧t (some v0::caps.map some) (ufz H cs) fun v H2=>(∀ c o,cs.lookup c=some o→H2 c=none)→Q v (fz H2 cs)
theorem clo_of {t:TE} (S:LamOk scope x fr) (C:CloOk scope fr cl cs caps) (hoc:∃ vs tq,oc.data=.fields vs∧vs[1]?=some (.str qual tq))
  (hbody:∀ (A:Around) (outer:List Env) (s:Shared) (H:Hp),Room k (A.deeper (envL qual scope s.heap.objs.size f (.ref c') cl))→PE (cxL P w K mg base (x::fr) qual scope f (.ref c') cl A outer s H) body t) :
  FnOk P w K mg base CX (k+1) f (PySem.W.kla_fn "<lambda>" qual params body scope cl pm (.ref c') ctv) [x] (spClo f c' (PySem.W.kla_obj "<lambda>" qual params body scope cl pm c' ctv) oc cs caps t):=by
 refine ⟨fun vs H Q E h=>by obtain ⟨v0,rfl,_⟩:=h;rfl,fun A outer s H args us vs Q E hr e0 hb r hsp=>?_⟩
 obtain ⟨v0,rfl,hf,hc',hfz,ht⟩:=hsp
 have lim:s.heap.NoLimit:=e0.mod.nolimit.keeps fun b o e=>(e0.bs b o e).1
 have of':=(e0.hok f _ hf).1
 have oc':=(e0.hok c' _ hc').1
 obtain ⟨vsc,tq,hd,hv⟩:=hoc
 obtain ⟨u0,rfl,r0⟩:=qgh r
 refine PySem.W.kla_callFunE hr.depth of' rfl S.co S.gen rfl ⟨c',oc,vsc,tq,rfl,oc',hd,hv⟩ (hb _ _ _ _ ?_)
 refine wpAny_newFunctionEnv S.cell (fun y hy=>?_) (fun h1 hns hsb=>⟨lim.fresh _ hsb,?_⟩) S.kind
 ·have:y=(x,u0):=by simpa using hy
  rw [this];exact S.par
 have hk₁:∀ b o,s.heap.get? b=some o→h1.get? b=some o:=fun b o e=>hsb.extBut b o (Nat.ne_of_lt (Heap.lt_size e)) (Heap.get?_push_of_some _ e)
 show codeAny _ _ (.expr body (envL qual scope s.heap.objs.size f (.ref c') cl)) _ _
 have at0:∀ c o,cs.lookup c=some o→s.heap.get? c=some o:=fun c o e=>(e0.hok c _ (hfz c o e)).1
 have I:Inv (cxL P w K mg base (x::fr) qual scope f (.ref c') cl A outer s (ufz H cs)) [] (some v0::caps.map some) (ufz H cs) { s with heap:=h1,toks:=s.toks+[(x,u0)].length }:=by
  have noA:∀ b:Addr,b∉(cxL P w K mg base (x::fr) qual scope f (.ref c') cl A outer s (ufz H cs)).ex:=fun b z=>absurd (show b∈([]:List Addr) from z) (by simp)
  refine ⟨⟨e0.mod,S.kind,rfl,rfl,Nat.le_refl _,C.inj,fun y hy=>?_,fun _ _ z=>Bool.noConfusion (show false=true from z),fun _=>hr.hd,Around.frames_deeper e0.frames,.inr ⟨rfl,rfl⟩,fun b z=>absurd z (noA b),fun b o e=>⟨(e0.bs b o e).1,qeu (e0.bs b o e).2⟩,e0.bsz,fun b _ _=>noA b,fun b z=>absurd z (noA b),e0.funs,fun b hb'=>qeu (e0.frf b hb')⟩,
   rfl,e0.bare,Un.kept hk₁,⟨_,hns,fun i y v h1' h2 h3=>?_⟩,fun y c e=>?_,qeu (e0.hok.fresh (Nat.le_refl _)),fun y c e=>?_,fun p hp=>absurd (show p∈([]:List (Addr×Obj)) from hp) (by simp),hok_ufz e0.hok hfz hk₁,?_⟩
  ·have hy:scope.names.lookup y=some .cell∨scope.names.lookup y=some .free:=hy
   rcases hy with hy | hy
   ·exact absurd rfl (S.cell _ (PySem.mem_of_lookup hy))
   ·exact C.has y hy
  ·cases i with
   | zero =>
    cases h1'
    cases h2
    refine ⟨u0,r0,.inl ⟨S.par,?_⟩⟩
    show List.lookup x [(x,u0)]=some u0
    rw [List.lookup_cons];simp
   | succ i =>
    have h1':fr[i]?=some y:=h1'
    have h2:(caps.map some)[i]?=some (some v):=h2
    rw [List.getElem?_map] at h2
    obtain ⟨v',hv',e⟩:=Option.map_eq_some_iff.mp h2
    cases e
    obtain ⟨c,o,u,e1,e2,e3,rv⟩:=C.val i y v h1' hv'
    exact ⟨u,rv,.inr ⟨.inr (S.frs y (List.mem_of_getElem? h1')),c,e1,o,hk₁ _ _ (at0 c o e2),e3⟩⟩
  ·obtain ⟨o,u,e2,e3⟩:=C.cel y c e
   exact ⟨u,o,hk₁ _ _ (at0 c o e2),e3⟩
  ·obtain ⟨o,u,e2,e3⟩:=C.cel y c e
   exact qhs e2
  ·show (some v0::caps.map some).length=(x::fr).length
   rw [List.length_cons,List.length_cons,List.length_map,C.len]
 refine PySem.W.kla_codeExpr (wpAny_mono (hbody A outer s (ufz H cs) (hr.deeper _) [] _ _ _ _ I ht) (fun u s' ⟨v,H2,J,rv,q⟩=>?_) fun _ _ z=>False.elim z)
 obtain ⟨un,ok⟩:=un_fz hfz e0.frf e0.hok J.base J.hok
 exact ⟨v,fz H2 cs,J.os,J.bare,un,ok,rv,q fun c o e=>J.base.free c o (at0 c o e) (qhs e) (fun z=>absurd z (by simp [cxL]))⟩
end
section
variable {X:Cx}{CX:CXT}{k i:Nat}{x:Str}{p pos:Pos}{e:Expr}{es:List Expr}{t:TA}{E:XK}
end
section
variable {X:Cx}{CX:CXT}{k:Nat}{f:Addr}{fd:FuncData}{ps:List Str}{sp:Sp}{E:XK}
theorem run_fz {pins:List (Addr×Obj)}{σ:St}{H:Hp}{s:Shared}{Q:VK}{us:List Value}{vs:List V}{cs:List (Addr×Obj)} (F:FnOk X.prog X.w X.K X.mg X.base CX k f fd ps sp) (hr:Room k X.A) (hb:Binds X.K fd ps [])
  (hcx:∀ (H':Hp) (e:Value) (s':Shared),CX X.stack H' s E e s'→X.xe e s')
  (I:Inv X pins σ H s) (hcs:∀ c o,cs.lookup c=some o→s.heap.get? c=some o∧H c=none∧X.s₀.heap.objs.size≤c∧c≠X.env.locals) (r:Vals vs us) (h:sp vs (fz H cs) (fun v H2=>Q v (ufz H2 cs)) E):wpAny (model X.prog X.w) X.A (call (.ref f) us) (EP X pins σ Q) X.xe s:=by
 have hl:us.length=ps.length:=by rw [← r.length];exact F.len _ _ _ _ h
 have frz:Fzd (fz H cs) cs:=fun c o e=>qkx e
 have out:∀ {b:Addr}{u:HO},H b=some u→cs.lookup b=none:=fun {b u} e=>by
  cases q:cs.lookup b with
  | none=>rfl
  | some o=>rw [(hcs b o q).2.1] at e;cases e
 have nofr:∀ b∈frs X.stack,cs.lookup b=none:=fun b hb'=>by
  cases q:cs.lookup b with
  | none=>rfl
  | some o =>
   obtain ⟨_,_,a3,a4⟩:=hcs b o q
   rcases List.mem_cons.mp (I.stkSub b hb') with z | z
   ·exact absurd z a4
   ·obtain ⟨_,o',ho,_⟩:=I.ok.funs.mem z
    exact absurd (Nat.lt_of_lt_of_le (Heap.lt_size ho) a3) (Nat.lt_irrefl _)
 have hok:HOk X.prog X.w (fz H cs) s.heap:=fun b u e=>by
  cases q:cs.lookup b with
  | none =>
   rw [qb4 q] at e
   refine (I.hok b u e).stay (fun c v _ q=>q) (fun c q=>?_) fun c xs q=>?_
   ·rw [qb4 (out q)];exact q
   ·rw [qb4 (out q)];exact q
  | some o =>
   rw [qkx q] at e
   cases e
   exact ⟨(hcs b o q).1,o,(hcs b o q).1⟩
 have e0:=I.env0
 have e1:Env0 X.prog X.w X.K X.mg X.base X.A X.stack s (fz H cs):=⟨e0.frames,e0.mod,fun b o e=>⟨(e0.bs b o e).1,?_⟩,e0.bsz,e0.funs,fun b hb'=>by rw [qb4 (nofr b hb')];exact e0.frf b hb',hok,e0.bare⟩
 ·have hb2:=hb s us I.kIn (by rw [List.append_nil];exact hl)
  rw [List.append_nil] at hb2
  refine wpAny_call (codeAny_mono (F.run X.A X.stack s (fz H cs) ⟨us,[]⟩ us vs _ E hr e1 hb2 r h) fun rr s' hq=>?_)
  cases rr with
  | error e=>exact hcx _ e s' hq
  | ok fl =>
   cases fl with
   | next=>exact False.elim hq
   | brk=>exact False.elim hq
   | cont=>exact False.elim hq
   | ret u =>
    obtain ⟨v,H',os,bare,un,hok',rv,q⟩:=hq
    have frz':Fzd H' cs:=fun c o e=>un.frzs c o _ (frz c o e)
    have un2:Un (frs X.stack) [] H (ufz H' cs) s.heap s'.heap:=by
     refine ⟨fun b o e n hb' hx=>?_,fun b o e n hb' hx=>?_,fun b o e n hx=>?_,un.there,fun b xs e=>?_,fun b o v e=>?_,fun b ps e=>?_⟩
     ·cases q:cs.lookup b with
      | none=>exact un.keep b o e (by rw [qb4 q];exact n) hb' hx
      | some o' =>
       have e2:=(hcs b o' q).1
       rw [e] at e2
       cases e2
       exact (hok' b _ (frz' b o q)).1
     ·exact un.slot b o e (by rw [qb4 (nofr b hb')];exact n) hb' hx
     ·cases q:cs.lookup b with
      | none =>
       rw [qa8 q]
       exact un.free b o e (by rw [qb4 q];exact n) hx
      | some o'=>exact qhs q
     ·rw [qa8 (out e)]
      exact un.tups b xs (by rw [qb4 (out e)];exact e)
     ·rw [qa8 (out e)]
      exact un.frzs b o v (by rw [qb4 (out e)];exact e)
     ·rw [qa8 (out e)]
      exact un.tbls b ps (by rw [qb4 (out e)];exact e)
    have hok2:=hok_ufz hok' frz' (fun _ _ e=>e)
    exact ⟨v,ufz H' cs,I.call' (ch:=[]) os un2 hok2 bare (fun b z=>absurd z (by simp)),rv,q⟩
 ·cases q:cs.lookup b with
  | none=>rw [qb4 q];exact (e0.bs b o e).2
  | some o' =>
   exact absurd (Nat.lt_of_lt_of_le (Heap.lt_size e) (Nat.le_trans I.ok.bsz (hcs b o' q).2.2.1)) (Nat.lt_irrefl _)
end
def TbOk (H:Hp) (P:Addr) (q:Str):Prop:=∃ ps,H P=some (.tbl ps)∧TriplesOk ps.toList∧∀ pos c,codeAmong pos ps.toList=some c→∃ c' oc,c=.ref c'∧H c'=some (fzO oc)∧∃ vs tq,oc.data=.fields vs∧vs[1]?=some (.str q tq)
theorem qk4 {pos:Pos}{c c0:Value}{a b:Int}:∀ {l:List Value},TriplesOk l→codeAmong pos (l++[rawInt a,rawInt b,c0])=some c→codeAmong pos l=some c∨c=c0
 | l,h,e=>by
  fun_induction TriplesOk l with
  | case1 =>
   simp only [List.nil_append,codeAmong,rawInt] at e
   split at e
   ·exact .inr (Option.some.inj e).symm
   ·cases e
  | case2 a' t b' u x rest ih =>
   simp only [List.cons_append,codeAmong] at e ⊢
   split at e
   ·rename_i hh;rw [if_pos hh];exact .inl e
   ·rename_i hh;rw [if_neg hh];exact ih h e
  | case3 l h1 h2=>exact h.elim
theorem qm7 {c0:Value}{a b:Int}:∀ {l:List Value},TriplesOk l→TriplesOk (l++[rawInt a,rawInt b,c0])
 | l,h=>by
  fun_induction TriplesOk l with
  | case1=>exact trivial
  | case2 a' t b' u x rest ih=>exact ih h
  | case3 l h1 h2=>exact h.elim
section
variable {X:Cx}{params:Arguments}{body:Expr}{scope:Scope}{pos:Pos}{cd P:Addr}{q:Str}
def tLam (P:Addr) (q:Str) (params:Arguments) (body:Expr) (scope:Scope) (cl:List (Str×Addr)):TE:=fun σ H Q=>TbOk H P q∧∀ f c' oc pm ctv H1,TbOk H1 P q→H1 f=some (fzO (PySem.W.kla_obj "<lambda>" q params body scope cl pm c' ctv))→H1 c'=some (fzO oc)→(∃ vs tq,oc.data=.fields vs∧vs[1]?=some (.str q tq)) →
 (∀ b u,H b=some u→b≠P→H1 b=some u)→H f=none→Q (.ref f) H1
structure LamTxt (K:PySem.W.Frag) (mg:Str→Option Value) (base:Heap) (cd P:Addr):Prop where
 hd:∀ h:Heap,K.In h→PySem.W.CodeHd h cd P
 nP:P≠mainGlobals
 bm:∃ bm o,mg "__builtins__"=some (.ref bm)∧bm≠builtinsNs∧bm≠mainGlobals∧bm≠P∧base.get? bm=some o∧o.cls=.type "module"∧o.dict=some builtinsNs∧o.data=.plain
theorem pe_lam (T:LamTxt X.K X.mg X.base cd P) (hcode:X.env.code=.ref cd) (hq:X.env.qual++"<lambda>"=q) (hdef:defaultsOf params X.env=([],[])) (hcells:∀ y∈scope.names,y.2=.free→X.env.scope.names.lookup y.1=some .cell∨X.env.scope.names.lookup y.1=some .free) :
  PE X (.Lambda params body scope pos) (tLam P q params body scope (qcx X.env.cells scope.names [])):=by
 intro pins s σ H Q I ⟨⟨ps,hP,htr,hgood⟩,k⟩
 have hcl:closureFor scope X.env=pure (qcx X.env.cells scope.names []):=qed fun y hy hf=>I.ok.has y.1 (hcells y hy hf)
 have hPh:s.heap.get? P=some (PySem.W.tabObj ps):=I.hok P _ hP
 have hg:s.heap.Ns mainGlobals X.mg:=I.mod.glob.keeps I.bk
 have C:=T.hd s.heap I.kIn
 obtain ⟨bm,ob,b1,b2,b3,b4,b5,b6,b7,b8⟩:=T.bm
 have hb:s.heap.BuiltinsAt X.mg P:=⟨bm,ob,b1,b2,b3,b4,I.bk _ _ b5,b6,b7,b8⟩
 refine PySem.W.kla_eval hdef ?_
 rw [hq]
 cases hc:codeAmong pos ps.toList with
 | some cv =>
  obtain ⟨c',oc,rfl,hc',hrec⟩:=hgood pos cv hc
  refine PySem.W.kla_makeFunctionHit hcl I.ok.glob hg hcode C hPh htr hc hb fun ctv h' tk hk hsz=>?_
  have hf:H h'.objs.size=none:=I.hok.fresh hsz
  have hkeep:∀ b u,H b=some u→(upd H h'.objs.size (fzO (PySem.W.kla_obj "<lambda>" q params body scope (qcx X.env.cells scope.names []) ((X.mg "__name__").getD .none) c' ctv))) b=some u:=fun b u e=>by rw [qad (qak e hf)];exact e
  refine ⟨.ref h'.objs.size,upd H h'.objs.size (fzO (PySem.W.kla_obj "<lambda>" q params body scope (qcx X.env.cells scope.names []) ((X.mg "__name__").getD .none) c' ctv)),?_,rfl,k _ c' oc _ ctv _ ⟨ps,hkeep _ _ hP,htr,fun p c e=>?_⟩ qae (hkeep _ _ hc') hrec (fun b u e _=>hkeep b u e) hf⟩
  ·refine I.laid (t':=tk) (h':=h'.push _) (fun b u e=>Heap.get?_push_of_some _ (hk b u e)) hsz ?_
   have e0:(h'.push (PySem.W.kla_obj "<lambda>" q params body scope (qcx X.env.cells scope.names []) ((X.mg "__name__").getD .none) c' ctv)).get? h'.objs.size=some (PySem.W.kla_obj "<lambda>" q params body scope (qcx X.env.cells scope.names []) ((X.mg "__name__").getD .none) c' ctv):=Heap.get?_push_size _ rfl
   exact ⟨e0,_,e0⟩
  ·obtain ⟨c2,o2,e2,e3,e4⟩:=hgood p c e
   exact ⟨c2,o2,e2,hkeep _ _ e3,e4⟩
 | none =>
  refine PySem.W.kla_makeFunction hcl I.ok.glob hg hcode C hPh htr hc T.nP.symm hb fun c' ctv h' tk hx hge hlt hrec htb=>?_
  obtain ⟨c2,oc,vs,tq,e2,hoc,hd,hv⟩:=hrec
  cases e2
  generalize hof:PySem.W.kla_obj "<lambda>" q params body scope (qcx X.env.cells scope.names []) ((X.mg "__name__").getD .none) c' ctv=of
  have hlP:P < s.heap.objs.size:=Heap.lt_size hPh
  have hc'n:H c'=none:=I.hok.fresh hge
  have hfn:H h'.objs.size=none:=I.hok.fresh (Nat.le_of_lt (Nat.lt_of_le_of_lt hge hlt))
  have nPc:P≠c':=Nat.ne_of_lt (Nat.lt_of_lt_of_le hlP hge)
  have nPf:P≠h'.objs.size:=Nat.ne_of_lt (Nat.lt_trans (Nat.lt_of_lt_of_le hlP hge) hlt)
  have ncf:c'≠h'.objs.size:=Nat.ne_of_lt hlt
  generalize hF:h'.objs.size=F at hfn nPf ncf
  have hk:∀ b u,b≠P→s.heap.get? b=some u→(h'.push of).get? b=some u:=fun b u n e=>Heap.get?_push_of_some _ (hx b u n e)
  have ePh:(h'.push of).get? P=some (PySem.W.tabObj (ps++#[rawInt pos.line,rawInt pos.col,.ref c'])):=Heap.get?_push_of_some _ htb
  have ech:(h'.push of).get? c'=some oc:=Heap.get?_push_of_some _ hoc
  have efh:(h'.push of).get? F=some of:=by rw [← hF];exact Heap.get?_push_size _ (by rw [← hof];rfl)
  have low:∀ b u,s.heap.get? b=some u→b≠c'∧b≠F:=fun b u e=>⟨Nat.ne_of_lt (Nat.lt_of_lt_of_le (Heap.lt_size e) hge),fun z=>by rw [z,← hF] at e;exact absurd (Heap.lt_size e) (Nat.not_lt.mpr (Nat.le_of_lt (Nat.lt_of_le_of_lt hge hlt)))⟩
  have g1:upd (upd (upd H P (.tbl (ps++#[rawInt pos.line,rawInt pos.col,.ref c']))) c' (fzO oc)) F (fzO of) P=some (.tbl (ps++#[rawInt pos.line,rawInt pos.col,.ref c'])):=by rw [qad nPf,qad nPc,qae]
  have g2:upd (upd (upd H P (.tbl (ps++#[rawInt pos.line,rawInt pos.col,.ref c']))) c' (fzO oc)) F (fzO of) c'=some (fzO oc):=by rw [qad ncf,qae]
  have g3:upd (upd (upd H P (.tbl (ps++#[rawInt pos.line,rawInt pos.col,.ref c']))) c' (fzO oc)) F (fzO of) F=some (fzO of):=qae
  have g4:∀ b,b≠P→b≠c'→b≠F→upd (upd (upd H P (.tbl (ps++#[rawInt pos.line,rawInt pos.col,.ref c']))) c' (fzO oc)) F (fzO of) b=H b:=fun b n1 n2 n3=>by rw [qad n3,qad n2,qad n1]
  generalize upd (upd (upd H P (.tbl (ps++#[rawInt pos.line,rawInt pos.col,.ref c']))) c' (fzO oc)) F (fzO of)=H1 at g1 g2 g3 g4
  have hkeep:∀ b u,H b=some u→b≠P→H1 b=some u:=fun b u e n=>by rw [g4 b n (qak e hc'n) (qak e hfn)];exact e
  have nt:∀ {b:Addr}{u:HO},H b=some u→(∀ ps,u≠.tbl ps)→b≠P:=fun {b u} e n z=>by rw [z,hP] at e;cases e;exact n _ rfl
  refine ⟨.ref F,H1,I.un (t':=tk) ⟨fun b o e n _ _=>hk b o (fun z=>by rw [z,hP] at n;cases n) e,fun b o e n _ _=>⟨o.slots,hk b o (fun z=>by rw [z,hP] at n;cases n) e⟩,fun b o e n _=>?_,fun b o e _=>?_,fun b xs e=>hkeep b _ e (nt e fun _ z=>by cases z),fun b o v e=>hkeep b _ e (nt e fun _ z=>by cases z),fun b ps' e=>?_⟩ (fun b u e=>?_),rfl,k F c' oc _ ctv H1 ⟨_,g1,?_,fun p c e=>?_⟩ (by rw [g3,← hof]) g2 ⟨vs,tq,hd,hv⟩ hkeep hfn⟩
  ·rw [g4 b (fun z=>by rw [z,hP] at n;cases n) (low b o e).1 (low b o e).2];exact n
  ·by_cases z:b=P
   ·rw [z];exact ⟨_,ePh⟩
   ·exact ⟨o,hk b o z e⟩
  ·by_cases z:b=P
   ·rw [z,hP] at e
    cases e
    exact ⟨_,by rw [z];exact g1⟩
   ·exact ⟨#[],by rw [hkeep b _ e z];simp⟩
  ·by_cases z1:b=P
   ·rw [z1,g1] at e;cases e;rw [z1];exact ePh
   by_cases z2:b=c'
   ·rw [z2,g2] at e;cases e;rw [z2];exact ⟨ech,_,ech⟩
   by_cases z3:b=F
   ·rw [z3,g3] at e;cases e;rw [z3];exact ⟨efh,_,efh⟩
   rw [g4 b z1 z2 z3] at e
   refine (I.hok b u e).stay (fun c v hc q=>?_) (fun c q=>hkeep c _ q (nt q fun _ z=>by cases z)) fun c xs q=>hkeep c _ q (nt q fun _ z=>by cases z)
   rcases hc with z | z
   ·exact hk c v (by rw [z];exact z1) q
   ·exact hk c v (nt z fun _ z=>by cases z) q
  ·rw [Array.toList_append];exact qm7 htr
  ·rw [Array.toList_append] at e
   rcases qk4 htr e with z | z
   ·obtain ⟨c2,o2,e2,e3,e4⟩:=hgood p c z
    exact ⟨c2,o2,e2,hkeep _ _ e3 (nt e3 fun _ z=>by cases z),e4⟩
   ·exact ⟨c',oc,z,g2,vs,tq,hd,hv⟩
end
end L2
set_option maxHeartbeats 4000000
namespace My
open PySem L2
abbrev Same:=L2.Same
theorem qew {H:Hp}{p:Addr}{o:HO} (h:H p=none):Same H (upd H p o):=fun b u e=>by rw [qad (qak e h)];exact e
theorem nbT {b:Bool} (h:(!b)=true):b=false:=by cases b <;> first | rfl | cases h
theorem nbF {b:Bool} (h:¬ (!b)=true):b=true:=by cases b <;> first | rfl | exact absurd rfl h
structure Ent where
 nm:Str
 th:Int
 mr:Int
 ls:Int
 held:List (Str×Int×Int)
structure BA where
 dx:Addr
 dp:Addr
 dt:Addr
 dm:Addr
 dl:Addr
 dh:Addr
def bf (z:BA):List (Str×V):=[(("people":Str),V.ref z.dp),("things_of",.ref z.dt),("mark_of",.ref z.dm),("loss_of",.ref z.dl),("held_of",.ref z.dh)]
theorem qca {g f:Str}{v:V}{r:List (Str×V)} (h:¬ f=g):List.lookup f ((g,v)::r)=List.lookup f r:=by
 rw [List.lookup_cons]
 have:(f == g)=false:=by simpa using h
 rw [this]
theorem qh8 {f:Str}{v:V}{r:List (Str×V)}:List.lookup f ((f,v)::r)=some v:=by
 rw [List.lookup_cons]
 simp
theorem qiq (z:BA):(bf z).lookup ("people":Str)=some (V.ref z.dp):=qh8
theorem bf_things (z:BA):(bf z).lookup ("things_of":Str)=some (V.ref z.dt):=by
 unfold bf
 rw [qca (by decide +kernel)]
 exact qh8
theorem bf_mark (z:BA):(bf z).lookup ("mark_of":Str)=some (V.ref z.dm):=by
 unfold bf
 rw [qca (by decide +kernel),qca (by decide +kernel)]
 exact qh8
theorem bf_loss (z:BA):(bf z).lookup ("loss_of":Str)=some (V.ref z.dl):=by
 unfold bf
 rw [qca (by decide +kernel),qca (by decide +kernel),qca (by decide +kernel)]
 exact qh8
theorem qgv (z:BA):(bf z).lookup ("held_of":Str)=some (V.ref z.dh):=by
 unfold bf
 rw [qca (by decide +kernel),qca (by decide +kernel),qca (by decide +kernel),qca (by decide +kernel)]
 exact qh8
theorem qgu (z:BA) {m:Str} (h1:¬ m="people") (h2:¬ m="things_of") (h3:¬ m="mark_of") (h4:¬ m="loss_of") (h5:¬ m="held_of"):(bf z).lookup m=none:=by
 unfold bf
 rw [qca h1,qca h2,qca h3,qca h4,qca h5]
 rfl
def HeldAt (K:PySem.W.Frag) (H:Hp) (p:Addr) (l:List (Str×Int×Int)):Prop :=
 ∃ ts:List Addr,ts.length=l.length∧H p=some (.dK ((l.zip ts).map fun q=>(Sum.inr q.1.1,V.ref q.2)))∧∀ q∈l.zip ts,SqT K H q.2 [.int q.1.2.1,.int q.1.2.2]
structure BookAt (K:PySem.W.Frag) (C:Addr) (H:Hp) (b:Addr) (z:BA) (ppl:List Str) (L:List (Ent×Addr)):Prop where
 ob:H b=some (.ins C z.dx (bf z))
 pp:H z.dp=some (.dK (ppl.map fun n=>(Sum.inr n,.bl true)))
 tt:H z.dt=some (.dK (L.map fun e=>(Sum.inr e.1.nm,.int e.1.th)))
 mm:H z.dm=some (.dK (L.map fun e=>(Sum.inr e.1.nm,.int e.1.mr)))
 ll:H z.dl=some (.dK (L.map fun e=>(Sum.inr e.1.nm,.int e.1.ls)))
 hh:H z.dh=some (.dK (L.map fun e=>(Sum.inr e.1.nm,.ref e.2)))
 he:∀ e∈L,HeldAt K H e.2 e.1.held
 nd:(b::z.dp::z.dt::z.dm::z.dl::z.dh::L.map (·.2)).Nodup
 p6:ppl.length≤6
 h8:L.length≤8
def BFp (b:Addr) (z:BA) (L:List (Ent×Addr)):List Addr:=b::z.dp::z.dt::z.dm::z.dl::z.dh::L.map (·.2)
theorem qgi {K:PySem.W.Frag}{H H':Hp}{t:Addr}{xs:List V} (h:SqT K H t xs) (k:∀ c o,H c=some o→(∃ xs,o=.tup xs∨∃ ob,o=.frz ob (.tup xs))→H' c=some o):SqT K H' t xs:=by
 rcases h with (h | ⟨ob,h⟩) | h
 ·exact .inl (.inl (k _ _ h ⟨xs,.inl rfl⟩))
 ·exact .inl (.inr ⟨ob,k _ _ h ⟨xs,.inr ⟨ob,rfl⟩⟩⟩)
 ·exact .inr h
theorem HeldAt.keep {K:PySem.W.Frag}{H H':Hp}{p:Addr}{l:List (Str×Int×Int)} (h:HeldAt K H p l) (hp:∀ o,H p=some o→H' p=some o) (k:∀ c o,H c=some o→(∃ xs,o=.tup xs∨∃ ob,o=.frz ob (.tup xs))→H' c=some o):HeldAt K H' p l:=by
 obtain ⟨ts,e1,e2,e3⟩:=h
 exact ⟨ts,e1,hp _ e2,fun q hq=>qgi (e3 q hq) k⟩
theorem BookAt.keep {K:PySem.W.Frag}{C:Addr}{H H':Hp}{b:Addr}{z:BA}{ppl:List Str}{L:List (Ent×Addr)} (B:BookAt K C H b z ppl L) (k:∀ c o,H c=some o→(c∈BFp b z L∨∃ xs,o=.tup xs∨∃ ob,o=.frz ob (.tup xs))→H' c=some o):BookAt K C H' b z ppl L:=by
 refine ⟨k _ _ B.ob (.inl (by simp [BFp])),k _ _ B.pp (.inl (by simp [BFp])),k _ _ B.tt (.inl (by simp [BFp])),k _ _ B.mm (.inl (by simp [BFp])),k _ _ B.ll (.inl (by simp [BFp])),k _ _ B.hh (.inl (by simp [BFp])),fun e he=>?_,B.nd,B.p6,B.h8⟩
 refine (B.he e he).keep (fun o h=>k _ _ h (.inl ?_)) fun c o h x=>k c o h (.inr x)
 unfold BFp
 simp only [List.mem_cons]
 right;right;right;right;right;right
 exact List.mem_map.mpr ⟨e,he,rfl⟩
theorem BookAt.same {K:PySem.W.Frag}{C:Addr}{H H':Hp}{b:Addr}{z:BA}{ppl:List Str}{L:List (Ent×Addr)} (B:BookAt K C H b z ppl L) (s:Same H H'):BookAt K C H' b z ppl L:=B.keep fun c o h _=>s c o h
def hasH (L:List (Ent×Addr)) (n:Str):Bool:=(L.find? fun e=>decide (e.1.nm=n)).isSome
def hasP (ppl:List Str) (n:Str):Bool:=(ppl.find? fun m=>decide (m=n)).isSome
theorem qeh {α:Type} (l:List α) (key:α→Str) (v:α→V) (n:Str):valV (l.map fun e=>((Sum.inr (key e):Key),v e)) (Sum.inr n)=(l.find? fun e=>decide (key e=n)).map v:=by
 unfold valV
 rw [List.find?_map,Option.map_map]
 have e:((fun kv:Key×V=>decide (kv.1=Sum.inr n)) ∘ fun e=>((Sum.inr (key e):Key),v e))=fun e=>decide (key e=n):=by
  funext x
  show decide ((Sum.inr (key x):Key)=Sum.inr n)=decide (key x=n)
  rw [qmi]
 rw [e]
 rfl
end My
namespace L2
open PySem PySem.Spec PyProof.Rows
def Odd (u:HO):Prop:=(∃ ps,u=.tbl ps)∨∃ ob x,u=.frz ob (.own x)
def TbS (H H':Hp):Prop:=(∀ a ps,H a=some (.tbl ps)→∃ ps',H' a=some (.tbl ps'))∧∀ P q,TbOk H P q→TbOk H' P q
theorem TbS.of {H H':Hp} (k:∀ a o,H a=some o→Odd o→H' a=some o):TbS H H':=⟨fun a ps h=>⟨ps,k a _ h (.inl ⟨ps,rfl⟩)⟩,fun P q ⟨ps,h,t,g⟩=>⟨ps,k P _ h (.inl ⟨ps,rfl⟩),t,fun p c e=>by
 obtain ⟨c',oc,a1,a2,a3⟩:=g p c e
 exact ⟨c',oc,a1,k c' _ a2 (.inr ⟨oc,0,rfl⟩),a3⟩⟩⟩
theorem TbS.same {H H':Hp} (k:Same H H'):TbS H H':=.of fun a o h _=>k a o h
theorem TbS.upd {H:Hp}{d:Addr}{u o:HO} (h:H d=some u) (n:¬ Odd u):TbS H (upd H d o):=.of fun a o' h' od=>by
 rw [qad (show a≠d from fun z=>by rw [z,h] at h';cases h';exact n od)];exact h'
theorem no_dK {kvs:List (Key×V)}:¬ Odd (.dK kvs):=fun z=>by rcases z with ⟨_,z⟩ | ⟨_,_,z⟩ <;> cases z
theorem ql9 {xs:List V}:¬ Odd (.lst xs):=fun z=>by rcases z with ⟨_,z⟩ | ⟨_,_,z⟩ <;> cases z
theorem no_ins {C dx:Addr}{fs:List (Str×V)}:¬ Odd (.ins C dx fs):=fun z=>by rcases z with ⟨_,z⟩ | ⟨_,_,z⟩ <;> cases z
theorem no_fdK {ob:Obj}{kvs:List (Key×V)}:¬ Odd (.frz ob (.dK kvs)):=fun z=>by rcases z with ⟨_,z⟩ | ⟨_,_,z⟩ <;> cases z
def qlc:List Str:=["rules"]
def Tab (K:PySem.W.Frag) (P:Addr) (q:Str):Prop:=∃ x∈qlc,∃ c,PySem.W.tabIn K x=some (c,P)∧q=x++".<locals>.<lambda>"
inductive PV where
 | non | bl (b:Bool) | int (i:Int) | str (x:Str) | tup (l:List PV) | lst (l:List PV) | dct (l:List (Key×PV)) | ref (n:Nat) | exc (c:Addr) | seq (l:List PV) | clo (a:Addr) (vs:List V) (l:List PV)
inductive Cell where
 | lst (l:List PV) | dct (l:List (Key×PV)) | book (pp:List Str) (L:List My.Ent) | obj (C:Addr) (fs:List (Str×PV)) | dfz (l:List (Key×PV))
structure Sto where
 nx:Nat
 cs:List (Nat×Cell)
structure Mp where
 ad:Nat→Addr
 fp:Nat→List Addr
 hid:List Addr
def getC:List (Nat×Cell)→Nat→Option Cell
 | [],_=>none
 | (k,c)::r,n=>if k=n then some c else getC r n
def setC (n:Nat) (c:Cell):List (Nat×Cell)→List (Nat×Cell)
 | []=>[]
 | (k,d)::r=>if k=n then (n,c)::r else (k,d)::setC n c r
def delC (n:Nat):List (Nat×Cell)→List (Nat×Cell)
 | []=>[]
 | (k,d)::r=>if k=n then r else (k,d)::delC n r
def Sto.get (s:Sto) (n:Nat):Option Cell:=getC s.cs n
def Sto.set (s:Sto) (n:Nat) (c:Cell):Sto:=⟨s.nx,setC n c s.cs⟩
def Sto.del (s:Sto) (n:Nat):Sto:=⟨s.nx,delC n s.cs⟩
def Sto.add (s:Sto) (c:Cell):Sto:=⟨s.nx+1,(s.nx,c)::s.cs⟩
theorem qbc {n:Nat}{c:Cell}:∀ {l:List (Nat×Cell)},getC l n=some c→(n,c)∈l
 | (k,d)::r,h=>by
  unfold getC at h
  split at h
  ·rename_i e;cases h;subst e;exact List.mem_cons_self
  ·exact List.mem_cons_of_mem _ (qbc h)
theorem qn1 {n:Nat}{c:Cell}{q:Nat×Cell}:∀ {l:List (Nat×Cell)},(l.map (·.1)).Nodup→q∈setC n c l→q=(n,c)∨(q∈l∧q.1≠n)
 | (k,d)::r,nd,h=>by
  unfold setC at h
  obtain ⟨n1,n2⟩:=List.nodup_cons.mp (show (k::r.map (·.1)).Nodup from nd)
  split at h
  ·rename_i e
   rcases List.mem_cons.mp h with h | h
   ·exact .inl h
   ·exact .inr ⟨List.mem_cons_of_mem _ h,fun z=>n1 (by rw [e,← z];exact List.mem_map.mpr ⟨q,h,rfl⟩)⟩
  ·rename_i e
   rcases List.mem_cons.mp h with h | h
   ·subst h;exact .inr ⟨List.mem_cons_self,e⟩
   ·rcases qn1 n2 h with h | ⟨h,h'⟩
    ·exact .inl h
    ·exact .inr ⟨List.mem_cons_of_mem _ h,h'⟩
theorem qdb {n:Nat}{c:Cell}:∀ {l:List (Nat×Cell)},(setC n c l).map (·.1)=l.map (·.1)
 | []=>rfl
 | (k,d)::r=>by
  unfold setC
  split
  ·rename_i e;simp [e]
  ·simp [qdb]
theorem qgb {n:Nat}{q:Nat×Cell}:∀ {l:List (Nat×Cell)},q∈delC n l→q∈l
 | (k,d)::r,h=>by
  unfold delC at h
  split at h
  ·exact List.mem_cons_of_mem _ h
  ·rcases List.mem_cons.mp h with h | h
   ·subst h;exact List.mem_cons_self
   ·exact List.mem_cons_of_mem _ (qgb h)
theorem delC_nd {n:Nat}:∀ {l:List (Nat×Cell)},(l.map (·.1)).Nodup→((delC n l).map (·.1)).Nodup
 | [],_=>List.nodup_nil
 | (k,d)::r,nd=>by
  obtain ⟨n1,n2⟩:=List.nodup_cons.mp (show (k::r.map (·.1)).Nodup from nd)
  unfold delC
  split
  ·exact n2
  ·refine List.nodup_cons.mpr ⟨fun z=>n1 ?_,delC_nd n2⟩
   obtain ⟨q,hq,e⟩:=List.mem_map.mp z
   exact List.mem_map.mpr ⟨q,qgb hq,e⟩
theorem delC_no {n:Nat}{q:Nat×Cell}:∀ {l:List (Nat×Cell)},(l.map (·.1)).Nodup→q∈delC n l→q.1≠n
 | (k,d)::r,nd,h=>by
  obtain ⟨n1,n2⟩:=List.nodup_cons.mp (show (k::r.map (·.1)).Nodup from nd)
  unfold delC at h
  split at h
  ·rename_i e;intro z;exact n1 (by rw [e,← z];exact List.mem_map.mpr ⟨q,h,rfl⟩)
  ·rename_i e
   rcases List.mem_cons.mp h with h | h
   ·subst h;exact e
   ·exact delC_no n2 h
theorem qcb {n k:Nat}{c:Cell} (h:k≠n):∀ {l:List (Nat×Cell)},getC (setC n c l) k=getC l k
 | []=>rfl
 | (j,d)::r=>by
  unfold setC
  split
  ·rename_i e
   unfold getC
   rw [if_neg (fun z=>h z.symm),if_neg (fun z=>h (z.symm.trans e))]
  ·unfold getC
   split
   ·rfl
   ·exact qcb h
theorem qig {n k:Nat} (h:k≠n):∀ {l:List (Nat×Cell)},getC (delC n l) k=getC l k
 | []=>rfl
 | (j,d)::r=>by
  unfold delC
  split
  ·rename_i e
   conv=>rhs;unfold getC
   rw [if_neg (fun z=>h (z.symm.trans e))]
  ·unfold getC
   split
   ·rfl
   ·exact qig h
def Pur (m:Mp) (s:Sto) (a:Addr):Prop:=a∉m.hid∧∀ n∈s.cs.map (·.1),a∉m.fp n
def KL (K:PySem.W.Frag) (a:Addr) (xs:List V):Prop:=∃ (o:Obj) (its:Array Value) (n:Nat),K.lookup a=some o∧o.cls=.type "list"∧o.dict=none∧o.data=.seq its n∧its.size≤sizeLine∧Vals xs its.toList
def KT' (K:PySem.W.Frag) (a:Addr) (xs:List V):Prop:=∃ (o:Obj) (its:Array Value) (n:Nat),K.lookup a=some o∧o.cls=.type "tuple"∧o.data=.seq its n∧its.size≤sizeLine∧Vals xs its.toList
mutual
inductive Rep (K:PySem.W.Frag) (H:Hp) (m:Mp) (s:Sto):V→PV→Prop
 | non:Rep K H m s .non .non
 | bl {b:Bool}:Rep K H m s (.bl b) (.bl b)
 | int {i:Int}:Rep K H m s (.int i) (.int i)
 | str {x:Str}:Rep K H m s (.str x) (.str x)
 | tup {a:Addr}{vs:List V}{l:List PV}:(Rd H a (.tup vs)∧Pur m s a∨KT' K a vs)→Reps K H m s vs l→Rep K H m s (.ref a) (.tup l)
 | lst {a:Addr}{vs:List V}{l:List PV}:H a=some (.lst vs)→Pur m s a→Reps K H m s vs l→Rep K H m s (.ref a) (.lst l)
 | seq {a:Addr}{vs:List V}{l:List PV}:((∃ o,H a=some (.frz o (.lst vs)))∧Pur m s a∨KL K a vs)→Reps K H m s vs l→Rep K H m s (.ref a) (.seq l)
 | dct {a:Addr}{vs:List (Key×V)}{l:List (Key×PV)}:Rd H a (.dK vs)→Pur m s a→RepKs K H m s vs l→Rep K H m s (.ref a) (.dct l)
 | ref {n:Nat}:n < s.nx→Rep K H m s (.ref (m.ad n)) (.ref n)
 | exc {a c:Addr}:H a=some (excO c a)→Pur m s a→Rep K H m s (.ref a) (.exc c)
 | clo {a:Addr}{vs:List V}{l:List PV}:Reps K H m s vs l→Rep K H m s (.ref a) (.clo a vs l)
inductive Reps (K:PySem.W.Frag) (H:Hp) (m:Mp) (s:Sto):List V→List PV→Prop
 | nil:Reps K H m s [] []
 | cons {v:V}{p:PV}{vs:List V}{l:List PV}:Rep K H m s v p→Reps K H m s vs l→Reps K H m s (v::vs) (p::l)
inductive RepKs (K:PySem.W.Frag) (H:Hp) (m:Mp) (s:Sto):List (Key×V)→List (Key×PV)→Prop
 | nil:RepKs K H m s [] []
 | cons {k:Key}{v:V}{p:PV}{vs:List (Key×V)}{l:List (Key×PV)}:Rep K H m s v p→RepKs K H m s vs l→RepKs K H m s ((k,v)::vs) ((k,p)::l)
end
structure ExtR (H:Hp) (m:Mp) (s:Sto) (H':Hp) (m':Mp) (s':Sto):Prop where
 nx:s.nx≤s'.nx
 ad:∀ n,n < s.nx→m'.ad n=m.ad n
 pu:∀ a u,Rd H a u→Pur m s a→Rd H' a u∧Pur m' s' a
 el:∀ a u,H a=some u→(∀ kvs,u≠.dK kvs)→Pur m s a→H' a=some u
structure Ext0 (H:Hp) (m:Mp) (s:Sto) (H':Hp) (m':Mp) (s':Sto):Prop extends ExtR H m s H' m' s' where
 df:∀ n l,n < s.nx→getC s.cs n=some (.dfz l)→getC s'.cs n=some (.dfz l)∧∀ o,H (m.ad n)=some o→H' (m.ad n)=some o
structure Ext (H:Hp) (m:Mp) (s:Sto) (H':Hp) (m':Mp) (s':Sto):Prop extends Ext0 H m s H' m' s' where
 hd:m'.hid=m.hid
 hk:∀ a∈m.hid,∀ o,H a=some o→(∀ ps,o≠.tbl ps)→H' a=some o
theorem Ext.refl {H:Hp}{m:Mp}{s:Sto}:Ext H m s H m s:=⟨⟨⟨Nat.le_refl _,fun _ _=>rfl,fun _ _ h p=>⟨h,p⟩,fun _ _ h _ _=>h⟩,fun _ _ _ h=>⟨h,fun _ h=>h⟩⟩,rfl,fun _ _ _ h _=>h⟩
theorem Ext0.trans {H H1 H2:Hp}{m m1 m2:Mp}{s s1 s2:Sto} (a:Ext0 H m s H1 m1 s1) (b:Ext0 H1 m1 s1 H2 m2 s2):Ext0 H m s H2 m2 s2 :=
 ⟨⟨Nat.le_trans a.nx b.nx,fun n h=>(b.ad n (Nat.lt_of_lt_of_le h a.nx)).trans (a.ad n h),fun c u h p=>let ⟨h1,p1⟩:=a.pu c u h p;b.pu c u h1 p1,fun c x h n p=>b.el c x (a.el c x h n p) n (a.pu c _ (.inl h) p).2⟩,fun n l hn h=>by
  obtain ⟨h1,k1⟩:=a.df n l hn h
  obtain ⟨h2,k2⟩:=b.df n l (Nat.lt_of_lt_of_le hn a.nx) h1
  rw [a.ad n hn] at k2
  exact ⟨h2,fun o h=>k2 o (k1 o h)⟩⟩
theorem Ext.trans {H H1 H2:Hp}{m m1 m2:Mp}{s s1 s2:Sto} (a:Ext H m s H1 m1 s1) (b:Ext H1 m1 s1 H2 m2 s2):Ext H m s H2 m2 s2 :=
 ⟨a.toExt0.trans b.toExt0,b.hd.trans a.hd,fun c hc o h n=>b.hk c (by rw [a.hd];exact hc) o (a.hk c hc o h n) n⟩
theorem Rd.same {H H':Hp}{a:Addr}{u:HO} (k:Same H H') (h:Rd H a u):Rd H' a u:=h.elim (fun h=>.inl (k _ _ h)) fun ⟨o,h⟩=>.inr ⟨o,k _ _ h⟩
theorem Rd.ne {H:Hp}{a b:Addr}{u:HO} (h:Rd H a u) (hb:H b=none):a≠b:=h.elim (fun h=>qak h hb) fun ⟨_,h⟩=>qak h hb
theorem Ext.same {H H':Hp}{m:Mp}{s:Sto} (k:Same H H'):Ext H m s H' m s:=⟨⟨⟨Nat.le_refl _,fun _ _=>rfl,fun _ _ h p=>⟨h.same k,p⟩,fun _ _ h _ _=>k _ _ h⟩,fun _ _ _ h=>⟨h,fun o h=>k _ _ h⟩⟩,rfl,fun _ _ _ h _=>k _ _ h⟩
mutual
theorem Rep.ext0 {K:PySem.W.Frag}{H H':Hp}{m m':Mp}{s s':Sto} (e:ExtR H m s H' m' s'):∀ {v:V}{p:PV},Rep K H m s v p→Rep K H' m' s' v p
 | _,_,.non=>.non
 | _,_,.bl=>.bl
 | _,_,.int=>.int
 | _,_,.str=>.str
 | _,_,.tup h r=>.tup (h.imp (fun z=>e.pu _ _ z.1 z.2) fun z=>z) (Reps.ext0 e r)
 | _,_,.lst h p r=>.lst (e.el _ _ h (by intro _ z;cases z) p) (e.pu _ _ (.inl h) p).2 (Reps.ext0 e r)
 | _,_,.seq h r=>.seq (h.imp (fun ⟨⟨o,z⟩,p⟩=>⟨⟨o,e.el _ _ z (by intro _ z;cases z) p⟩,(e.pu _ _ (.inl z) p).2⟩) fun z=>z) (Reps.ext0 e r)
 | _,_,.dct h p r=>.dct (e.pu _ _ h p).1 (e.pu _ _ h p).2 (RepKs.ext0 e r)
 | _,_,.ref (n:=n) h=>by rw [← e.ad _ h];exact .ref (Nat.lt_of_lt_of_le h e.nx)
 | _,_,.exc h p=>.exc (e.el _ _ h (by intro _ z;cases z) p) (e.pu _ _ (.inl h) p).2
 | _,_,.clo r=>.clo (Reps.ext0 e r)
theorem Reps.ext0 {K:PySem.W.Frag}{H H':Hp}{m m':Mp}{s s':Sto} (e:ExtR H m s H' m' s'):∀ {v:List V}{p:List PV},Reps K H m s v p→Reps K H' m' s' v p
 | _,_,.nil=>.nil
 | _,_,.cons a b=>.cons (Rep.ext0 e a) (Reps.ext0 e b)
theorem RepKs.ext0 {K:PySem.W.Frag}{H H':Hp}{m m':Mp}{s s':Sto} (e:ExtR H m s H' m' s'):∀ {v:List (Key×V)}{p:List (Key×PV)},RepKs K H m s v p→RepKs K H' m' s' v p
 | _,_,.nil=>.nil
 | _,_,.cons a b=>.cons (Rep.ext0 e a) (RepKs.ext0 e b)
end
theorem Rep.ext {K:PySem.W.Frag}{H H':Hp}{m m':Mp}{s s':Sto} (e:Ext H m s H' m' s') {v:V}{p:PV} (r:Rep K H m s v p):Rep K H' m' s' v p:=r.ext0 e.toExtR
theorem Reps.ext {K:PySem.W.Frag}{H H':Hp}{m m':Mp}{s s':Sto} (e:Ext H m s H' m' s') {v:List V}{p:List PV} (r:Reps K H m s v p):Reps K H' m' s' v p:=r.ext0 e.toExtR
theorem RepKs.ext {K:PySem.W.Frag}{H H':Hp}{m m':Mp}{s s':Sto} (e:Ext H m s H' m' s') {v:List (Key×V)}{p:List (Key×PV)} (r:RepKs K H m s v p):RepKs K H' m' s' v p:=r.ext0 e.toExtR
mutual
inductive Old (k:Nat):PV→Prop
 | non:Old k .non
 | bl {b:Bool}:Old k (.bl b)
 | int {i:Int}:Old k (.int i)
 | str {x:Str}:Old k (.str x)
 | tup {l:List PV}:Olds k l→Old k (.tup l)
 | lst {l:List PV}:Olds k l→Old k (.lst l)
 | seq {l:List PV}:Olds k l→Old k (.seq l)
 | dct {l:List (Key×PV)}:OldKs k l→Old k (.dct l)
 | ref {n:Nat}:n < k→Old k (.ref n)
 | exc {c:Addr}:Old k (.exc c)
 | clo {a:Addr}{vs:List V}{l:List PV}:Olds k l→Old k (.clo a vs l)
inductive Olds (k:Nat):List PV→Prop
 | nil:Olds k []
 | cons {p:PV}{l:List PV}:Old k p→Olds k l→Olds k (p::l)
inductive OldKs (k:Nat):List (Key×PV)→Prop
 | nil:OldKs k []
 | cons {q:Key}{p:PV}{l:List (Key×PV)}:Old k p→OldKs k l→OldKs k ((q,p)::l)
end
structure Sub (m:Mp) (s:Sto) (m':Mp) (s':Sto):Prop where
 pu:∀ a,Pur m s a→Pur m' s' a
 ad:∀ n,n < s'.nx→m'.ad n=m.ad n
mutual
theorem Rep.sub {K:PySem.W.Frag}{H:Hp}{m m':Mp}{s s':Sto} (e:Sub m s m' s'):∀ {v:V}{p:PV},Old s'.nx p→Rep K H m s v p→Rep K H m' s' v p
 | _,_,_,.non=>.non
 | _,_,_,.bl=>.bl
 | _,_,_,.int=>.int
 | _,_,_,.str=>.str
 | _,_,.tup o,.tup h r=>.tup (h.imp (fun z=>⟨z.1,e.pu _ z.2⟩) fun z=>z) (Reps.sub e o r)
 | _,_,.lst o,.lst h p r=>.lst h (e.pu _ p) (Reps.sub e o r)
 | _,_,.seq o,.seq h r=>.seq (h.imp (fun z=>⟨z.1,e.pu _ z.2⟩) fun z=>z) (Reps.sub e o r)
 | _,_,.dct o,.dct h p r=>.dct h (e.pu _ p) (RepKs.sub e o r)
 | _,_,.ref o,.ref _=>by rw [← e.ad _ o];exact .ref o
 | _,_,_,.exc h p=>.exc h (e.pu _ p)
 | _,_,.clo o,.clo r=>.clo (Reps.sub e o r)
theorem Reps.sub {K:PySem.W.Frag}{H:Hp}{m m':Mp}{s s':Sto} (e:Sub m s m' s'):∀ {v:List V}{p:List PV},Olds s'.nx p→Reps K H m s v p→Reps K H m' s' v p
 | _,_,_,.nil=>.nil
 | _,_,.cons o q,.cons a b=>.cons (Rep.sub e o a) (Reps.sub e q b)
theorem RepKs.sub {K:PySem.W.Frag}{H:Hp}{m m':Mp}{s s':Sto} (e:Sub m s m' s'):∀ {v:List (Key×V)}{p:List (Key×PV)},OldKs s'.nx p→RepKs K H m s v p→RepKs K H m' s' v p
 | _,_,_,.nil=>.nil
 | _,_,.cons o q,.cons a b=>.cons (Rep.sub e o a) (RepKs.sub e q b)
end
mutual
theorem Rep.old {K:PySem.W.Frag}{H:Hp}{m:Mp}{s:Sto}:∀ {v:V}{p:PV},Rep K H m s v p→Old s.nx p
 | _,_,.non=>.non
 | _,_,.bl=>.bl
 | _,_,.int=>.int
 | _,_,.str=>.str
 | _,_,.tup _ r=>.tup (Reps.old r)
 | _,_,.lst _ _ r=>.lst (Reps.old r)
 | _,_,.seq _ r=>.seq (Reps.old r)
 | _,_,.dct _ _ r=>.dct (RepKs.old r)
 | _,_,.ref h=>.ref h
 | _,_,.exc _ _=>.exc
 | _,_,.clo r=>.clo r.old
theorem Reps.old {K:PySem.W.Frag}{H:Hp}{m:Mp}{s:Sto}:∀ {v:List V}{p:List PV},Reps K H m s v p→Olds s.nx p
 | _,_,.nil=>.nil
 | _,_,.cons a b=>.cons (Rep.old a) (Reps.old b)
theorem RepKs.old {K:PySem.W.Frag}{H:Hp}{m:Mp}{s:Sto}:∀ {v:List (Key×V)}{p:List (Key×PV)},RepKs K H m s v p→OldKs s.nx p
 | _,_,.nil=>.nil
 | _,_,.cons a b=>.cons (Rep.old a) (RepKs.old b)
end
def RepFs (K:PySem.W.Frag) (H:Hp) (m:Mp) (s:Sto) (fs':List (Str×V)) (fs:List (Str×PV)):Prop:=fs'.map (·.1)=fs.map (·.1)∧Reps K H m s (fs'.map (·.2)) (fs.map (·.2))
def CellOk (K:PySem.W.Frag) (CB:Addr) (H:Hp) (m:Mp) (s:Sto) (n:Nat):Cell→Prop
 | .lst l=>m.fp n=[m.ad n]∧∃ vs,H (m.ad n)=some (.lst vs)∧Reps K H m s vs l
 | .dct l=>m.fp n=[m.ad n]∧∃ vs,H (m.ad n)=some (.dK vs)∧RepKs K H m s vs l
 | .dfz l=>m.fp n=[m.ad n]∧∃ ob vs,H (m.ad n)=some (.frz ob (.dK vs))∧RepKs K H m s vs l
 | .book pp L=>∃ z L',My.BookAt K CB H (m.ad n) z pp L'∧L'.map (·.1)=L∧m.fp n=My.BFp (m.ad n) z L'
 | .obj C fs=>m.fp n=[m.ad n]∧∃ dx fs',H (m.ad n)=some (.ins C dx fs')∧RepFs K H m s fs' fs
structure SR (K:PySem.W.Frag) (CB:Addr) (H:Hp) (m:Mp) (s:Sto):Prop where
 nd:(s.cs.map (·.1)).Nodup
 lt:∀ n∈s.cs.map (·.1),n < s.nx
 ok:∀ q∈s.cs,CellOk K CB H m s q.1 q.2
 dj:∀ n∈s.cs.map (·.1),∀ k∈s.cs.map (·.1),n≠k→∀ a∈m.fp n,a∉m.fp k
 hx:∀ n∈s.cs.map (·.1),∀ a∈m.fp n,a∉m.hid
 hs:∀ a∈m.hid,H a≠none∧∀ xs o,H a≠some (.tup xs)∧H a≠some (.frz o (.tup xs))∧H a≠some (.frz o (.lst xs))∧∀ x,H a≠some (.frz o (.own x))
 tb:∀ P q,Tab K P q→P∈m.hid∧TbOk H P q
theorem SR.tbk {K:PySem.W.Frag}{CB:Addr}{H H':Hp}{m:Mp}{s:Sto} (S:SR K CB H m s) (e:TbS H H'):∀ P q,Tab K P q→P∈m.hid∧TbOk H' P q:=fun P q t=>⟨(S.tb P q t).1,e.2 P q (S.tb P q t).2⟩
theorem CellOk.kind {K:PySem.W.Frag}{CB:Addr}{H:Hp}{m:Mp}{s:Sto}{n:Nat}{c:Cell} (h:CellOk K CB H m s n c) {a:Addr} (ha:a∈m.fp n):∃ o,H a=some o∧(∀ xs,o≠.tup xs)∧(∀ ob xs,o≠.frz ob (.tup xs)∧o≠.frz ob (.lst xs))∧¬ Odd o:=by
 cases c with
 | lst l=>obtain ⟨e,vs,h,_⟩:=h;rw [e,List.mem_singleton] at ha;subst ha;exact ⟨_,h,(by intro _ z;cases z),(fun _ _=>⟨(by intro z;cases z),(by intro z;cases z)⟩),ql9⟩
 | dct l=>obtain ⟨e,vs,h,_⟩:=h;rw [e,List.mem_singleton] at ha;subst ha;exact ⟨_,h,(by intro _ z;cases z),(fun _ _=>⟨(by intro z;cases z),(by intro z;cases z)⟩),no_dK⟩
 | dfz l=>obtain ⟨e,ob,vs,h,_⟩:=h;rw [e,List.mem_singleton] at ha;subst ha;exact ⟨_,h,(by intro _ z;cases z),(fun _ _=>⟨(by intro z;cases z),(by intro z;cases z)⟩),no_fdK⟩
 | obj C fs=>obtain ⟨e,dx,vs,h,_⟩:=h;rw [e,List.mem_singleton] at ha;subst ha;exact ⟨_,h,(by intro _ z;cases z),(fun _ _=>⟨(by intro z;cases z),(by intro z;cases z)⟩),no_ins⟩
 | book pp L =>
  obtain ⟨z,L',B,_,e⟩:=h
  rw [e] at ha
  unfold My.BFp at ha
  have d:∀ {c:Addr}{kvs:List (Key×V)},H c=some (.dK kvs)→∃ o,H c=some o∧(∀ xs,o≠.tup xs)∧(∀ ob xs,o≠.frz ob (.tup xs)∧o≠.frz ob (.lst xs))∧¬ Odd o:=fun h=>⟨_,h,(by intro _ z;cases z),(fun _ _=>⟨(by intro z;cases z),(by intro z;cases z)⟩),no_dK⟩
  simp only [List.mem_cons] at ha
  rcases ha with rfl | rfl | rfl | rfl | rfl | rfl | ha
  ·exact ⟨_,B.ob,(by intro _ z;cases z),(fun _ _=>⟨(by intro z;cases z),(by intro z;cases z)⟩),no_ins⟩
  ·exact d B.pp
  ·exact d B.tt
  ·exact d B.mm
  ·exact d B.ll
  ·exact d B.hh
  ·obtain ⟨q,hq,rfl⟩:=List.mem_map.mp ha
   obtain ⟨ts,_,h2,_⟩:=B.he q hq
   exact d h2
theorem SR.pure_none {K:PySem.W.Frag}{CB:Addr}{H:Hp}{m:Mp}{s:Sto} (S:SR K CB H m s) {a:Addr} (h:H a=none):Pur m s a:=⟨fun z=>(S.hs a z).1 h,fun n hn ha=>by
 obtain ⟨q,hq,rfl⟩:=List.mem_map.mp hn
 obtain ⟨o,e,_⟩:=(S.ok q hq).kind ha
 rw [h] at e;cases e⟩
theorem SR.pure_tup {K:PySem.W.Frag}{CB:Addr}{H:Hp}{m:Mp}{s:Sto} (S:SR K CB H m s) {a:Addr}{xs:List V} (h:H a=some (.tup xs)):Pur m s a:=⟨fun z=>((S.hs a z).2 xs default).1 h,fun n hn ha=>by
 obtain ⟨q,hq,rfl⟩:=List.mem_map.mp hn
 obtain ⟨o,e,k,_⟩:=(S.ok q hq).kind ha
 rw [h] at e;cases e;exact k _ rfl⟩
theorem SR.pure_frz {K:PySem.W.Frag}{CB:Addr}{H:Hp}{m:Mp}{s:Sto} (S:SR K CB H m s) {a:Addr}{ob:Obj}{xs:List V} (h:H a=some (.frz ob (.tup xs))∨H a=some (.frz ob (.lst xs))):Pur m s a:=⟨fun z=>h.elim (fun h=>((S.hs a z).2 xs ob).2.1 h) fun h=>((S.hs a z).2 xs ob).2.2.1 h,fun n hn ha=>by
 obtain ⟨q,hq,rfl⟩:=List.mem_map.mp hn
 obtain ⟨o,e,_,k,_⟩:=(S.ok q hq).kind ha
 rcases h with h | h <;> (rw [h] at e;cases e)
 ·exact (k _ _).1 rfl
 ·exact (k _ _).2 rfl⟩
theorem SqT.keepX {K:PySem.W.Frag}{CB:Addr}{H H':Hp}{m m':Mp}{s s':Sto} (S:SR K CB H m s) (e:ExtR H m s H' m' s') {t:Addr}{xs:List V} (h:SqT K H t xs):SqT K H' t xs:=by
 rcases h with h | h
 ·exact .inl (e.pu _ _ h (h.elim (fun h=>S.pure_tup h) fun ⟨_,h⟩=>S.pure_frz (.inl h))).1
 ·exact .inr h
theorem RepFs.ext {K:PySem.W.Frag}{H H':Hp}{m m':Mp}{s s':Sto} (e:ExtR H m s H' m' s') {a:List (Str×V)}{b:List (Str×PV)} (h:RepFs K H m s a b):RepFs K H' m' s' a b:=⟨h.1,h.2.ext0 e⟩
theorem CellOk.keep {K:PySem.W.Frag}{CB:Addr}{H H':Hp}{m m':Mp}{s s':Sto}{n:Nat}{c:Cell} (S:SR K CB H m s) (e:ExtR H m s H' m' s') (k:∀ a∈m.fp n,∀ o,H a=some o→H' a=some o) (ha:m'.ad n=m.ad n) (hf:m'.fp n=m.fp n) (h:CellOk K CB H m s n c):CellOk K CB H' m' s' n c:=by
 cases c with
 | lst l=>obtain ⟨e1,vs,h,r⟩:=h;exact ⟨by rw [ha,hf];exact e1,vs,by rw [ha];exact k _ (by rw [e1];simp) _ h,r.ext0 e⟩
 | dct l=>obtain ⟨e1,vs,h,r⟩:=h;exact ⟨by rw [ha,hf];exact e1,vs,by rw [ha];exact k _ (by rw [e1];simp) _ h,r.ext0 e⟩
 | dfz l=>obtain ⟨e1,ob,vs,h,r⟩:=h;exact ⟨by rw [ha,hf];exact e1,ob,vs,by rw [ha];exact k _ (by rw [e1];simp) _ h,r.ext0 e⟩
 | obj C fs=>obtain ⟨e1,dx,vs,h,r⟩:=h;exact ⟨by rw [ha,hf];exact e1,dx,vs,by rw [ha];exact k _ (by rw [e1];simp) _ h,RepFs.ext e r⟩
 | book pp L =>
  obtain ⟨z,L',B,e1,e2⟩:=h
  rw [e2] at k
  have kb:∀ a∈My.BFp (m.ad n) z L',∀ o,H a=some o→H' a=some o:=k
  refine ⟨z,L',?_,e1,by rw [ha,hf];exact e2⟩
  rw [ha]
  refine ⟨kb _ (by simp [My.BFp]) _ B.ob,kb _ (by simp [My.BFp]) _ B.pp,kb _ (by simp [My.BFp]) _ B.tt,kb _ (by simp [My.BFp]) _ B.mm,kb _ (by simp [My.BFp]) _ B.ll,kb _ (by simp [My.BFp]) _ B.hh,fun q hq=>?_,B.nd,B.p6,B.h8⟩
  obtain ⟨ts,h1,h2,h3⟩:=B.he q hq
  refine ⟨ts,h1,kb _ ?_ _ h2,fun y hy=>(h3 y hy).keepX S e⟩
  unfold My.BFp
  simp only [List.mem_cons]
  right;right;right;right;right;right
  exact List.mem_map.mpr ⟨q,hq,rfl⟩
theorem SR.same {K:PySem.W.Frag}{CB:Addr}{H H':Hp}{m:Mp}{s:Sto} (S:SR K CB H m s) (k:Same H H'):SR K CB H' m s :=
 ⟨S.nd,S.lt,fun q hq=>(S.ok q hq).keep S (Ext.same k).toExtR (fun a _ o h=>k a o h) rfl rfl,S.dj,S.hx,fun a ha=>by
  obtain ⟨h1,h2⟩:=S.hs a ha
  cases e:H a with
  | none=>exact absurd e h1
  | some o =>
   rw [k a o e]
   rw [e] at h2
   exact ⟨by simp,h2⟩,S.tbk (.same k)⟩
theorem SR.get {K:PySem.W.Frag}{CB:Addr}{H:Hp}{m:Mp}{s:Sto} (S:SR K CB H m s) {n:Nat}{c:Cell} (h:s.get n=some c):CellOk K CB H m s n c:=S.ok _ (qbc h)
theorem SR.getlt {K:PySem.W.Frag}{CB:Addr}{H:Hp}{m:Mp}{s:Sto} (S:SR K CB H m s) {n:Nat}{c:Cell} (h:s.get n=some c):n < s.nx:=S.lt _ (List.mem_map.mpr ⟨_,qbc h,rfl⟩)
def Mp.fput (m:Mp) (n:Nat) (f':List Addr):Mp:=⟨m.ad,fun j=>if j=n then f' else m.fp j,m.hid⟩
theorem SR.hsk {K:PySem.W.Frag}{CB:Addr}{H H':Hp}{m:Mp}{s:Sto} (S:SR K CB H m s) (k:∀ a∈m.hid,∀ o,H a=some o→(∀ ps,o≠.tbl ps)→H' a=some o) (kt:TbS H H'):∀ a∈m.hid,H' a≠none∧∀ xs o,H' a≠some (.tup xs)∧H' a≠some (.frz o (.tup xs))∧H' a≠some (.frz o (.lst xs))∧∀ x,H' a≠some (.frz o (.own x)):=fun a ha=>by
 obtain ⟨h1,h2⟩:=S.hs a ha
 cases e:H a with
 | none=>exact absurd e h1
 | some o =>
  by_cases t:∃ ps,o=.tbl ps
  ·obtain ⟨ps,t⟩:=t
   rw [t] at e
   obtain ⟨ps',e'⟩:=kt.1 a ps e
   rw [e']
   exact ⟨by simp,fun _ _=>⟨by simp,by simp,by simp,by simp⟩⟩
  rw [k a ha o e fun ps z=>t ⟨ps,z⟩]
  rw [e] at h2
  exact ⟨by simp,h2⟩
theorem SR.put' {K:PySem.W.Frag}{CB:Addr}{H:Hp}{m:Mp}{s:Sto} (S:SR K CB H m s) {n:Nat}{c c':Cell} (hn:s.get n=some c) (H':Hp) (f':List Addr) (k:∀ a o,H a=some o→a∉m.fp n→H' a=some o) (hnew:∀ a∈f',a∈m.fp n∨H a=none)
  (hok:ExtR H m s H' (m.fput n f') (s.set n c')→CellOk K CB H' (m.fput n f') (s.set n c') n c') :
  SR K CB H' (m.fput n f') (s.set n c')∧ExtR H m s H' (m.fput n f') (s.set n c')∧((∀ l,c≠.dfz l)→Ext H m s H' (m.fput n f') (s.set n c')):=by
 have hin:n∈s.cs.map (·.1):=List.mem_map.mpr ⟨_,qbc hn,rfl⟩
 have hkd:∀ a∈m.hid,∀ o,H a=some o→(∀ ps,o≠.tbl ps)→H' a=some o:=fun a ha o h _=>k a o h fun z=>S.hx n hin a z ha
 have htb:TbS H H':=.of fun a o h od=>k a o h fun z=>by
  obtain ⟨o',e',_,_,no⟩:=(S.get hn).kind z
  rw [h] at e';cases e';exact no od
 have hx:ExtR H m s H' (m.fput n f') (s.set n c'):=by
  refine ⟨Nat.le_refl _,fun _ _=>rfl,fun a u h p=>?_,fun a u h _ p=>k _ _ h (p.2 n hin)⟩
  have hne:∃ o,H a=some o:=h.elim (fun h=>⟨_,h⟩) fun ⟨o,h⟩=>⟨_,h⟩
  refine ⟨h.elim (fun h=>.inl (k _ _ h (p.2 n hin))) fun ⟨o,h⟩=>.inr ⟨o,k _ _ h (p.2 n hin)⟩,p.1,fun j hj hm=>?_⟩
  have hm:a∈(if j=n then f' else m.fp j):=hm
  have hj':j∈s.cs.map (·.1):=by rw [← qdb (n:=n) (c:=c')];exact hj
  by_cases e:j=n
  ·simp only [e,if_pos] at hm
   rcases hnew a hm with z | z
   ·exact p.2 n hin z
   ·obtain ⟨o,ho⟩:=hne;rw [z] at ho;cases ho
  ·simp only [if_neg e] at hm
   exact p.2 j hj' hm
 refine ⟨⟨?_,?_,fun q hq=>?_,fun j hj i hi hne a ha hb=>?_,fun j hj a ha hb=>?_,S.hsk hkd htb,S.tbk htb⟩,hx,fun hnd=>⟨⟨hx,fun j l hj h=>?_⟩,rfl,hkd⟩⟩
 ·show ((setC n c' s.cs).map (·.1)).Nodup
  rw [qdb];exact S.nd
 ·intro j hj
  have hj':j∈s.cs.map (·.1):=by rw [← qdb (n:=n) (c:=c')];exact hj
  exact S.lt j hj'
 ·rcases qn1 S.nd hq with rfl | ⟨hq,hne⟩
  ·exact hok hx
  ·refine (S.ok q hq).keep S hx (fun a ha o h=>k a o h (S.dj _ (List.mem_map.mpr ⟨q,hq,rfl⟩) _ hin hne a ha)) rfl ?_
   show (if q.1=n then f' else m.fp q.1)=_
   rw [if_neg hne]
 ·have ha:a∈(if j=n then f' else m.fp j):=ha
  have hb:a∈(if i=n then f' else m.fp i):=hb
  have hj':j∈s.cs.map (·.1):=by rw [← qdb (n:=n) (c:=c')];exact hj
  have hi':i∈s.cs.map (·.1):=by rw [← qdb (n:=n) (c:=c')];exact hi
  have none_out:∀ j∈s.cs.map (·.1),∀ a∈m.fp j,H a≠none:=fun j hj a ha z=>by
   obtain ⟨q,hq,rfl⟩:=List.mem_map.mp hj
   obtain ⟨o,e,_⟩:=(S.ok q hq).kind ha
   rw [z] at e;cases e
  by_cases e1:j=n
  ·have e2:i≠n:=fun z=>hne (e1.trans z.symm)
   simp only [e1,if_pos] at ha
   simp only [if_neg e2] at hb
   rcases hnew a ha with z | z
   ·exact S.dj _ hin _ hi' (fun z=>e2 z.symm) a z hb
   ·exact none_out i hi' a hb z
  ·simp only [if_neg e1] at ha
   by_cases e2:i=n
   ·simp only [e2,if_pos] at hb
    rcases hnew a hb with z | z
    ·exact S.dj _ hj' _ hin e1 a ha z
    ·exact none_out j hj' a ha z
   ·simp only [if_neg e2] at hb
    exact S.dj _ hj' _ hi' hne a ha hb
 ·have ha:a∈(if j=n then f' else m.fp j):=ha
  have hj':j∈s.cs.map (·.1):=by rw [← qdb (n:=n) (c:=c')];exact hj
  by_cases e1:j=n
  ·rw [if_pos e1] at ha
   rcases hnew a ha with z | z
   ·exact S.hx n hin a z hb
   ·exact (S.hs a hb).1 z
  ·rw [if_neg e1] at ha
   exact S.hx j hj' a ha hb
 ·have hjn:j≠n:=fun z=>by
   subst z
   have h:s.get j=some (.dfz l):=h
   rw [hn] at h
   exact hnd l (Option.some.inj h)
  refine ⟨(qcb hjn).trans h,fun o ho=>?_⟩
  obtain ⟨e1,_⟩:=S.ok _ (qbc h)
  exact k _ _ ho (S.dj j (List.mem_map.mpr ⟨_,qbc h,rfl⟩) n hin hjn _ (by rw [e1];simp))
theorem SR.put {K:PySem.W.Frag}{CB:Addr}{H:Hp}{m:Mp}{s:Sto} (S:SR K CB H m s) {n:Nat}{c c':Cell} (hn:s.get n=some c) (hnd:∀ l,c≠.dfz l) (H':Hp) (f':List Addr) (k:∀ a o,H a=some o→a∉m.fp n→H' a=some o) (hnew:∀ a∈f',a∈m.fp n∨H a=none)
  (hok:ExtR H m s H' (m.fput n f') (s.set n c')→CellOk K CB H' (m.fput n f') (s.set n c') n c'):SR K CB H' (m.fput n f') (s.set n c')∧Ext H m s H' (m.fput n f') (s.set n c') :=
 let ⟨a,_,b⟩:=S.put' hn H' f' k hnew hok;⟨a,b hnd⟩
def Mp.add (m:Mp) (n:Nat) (p:Addr) (f:List Addr):Mp:=⟨fun j=>if j=n then p else m.ad j,fun j=>if j=n then f else m.fp j,m.hid⟩
theorem SR.add {K:PySem.W.Frag}{CB:Addr}{H:Hp}{m:Mp}{s:Sto} (S:SR K CB H m s) {c:Cell} (H':Hp) (p:Addr) (f:List Addr) (k:Same H H') (hf:∀ a∈f,H a=none) (hok:Ext H m s H' (m.add s.nx p f) (s.add c)→CellOk K CB H' (m.add s.nx p f) (s.add c) s.nx c) :
  SR K CB H' (m.add s.nx p f) (s.add c)∧Ext H m s H' (m.add s.nx p f) (s.add c):=by
 have hlt:∀ j∈s.cs.map (·.1),j≠s.nx:=fun j hj=>Nat.ne_of_lt (S.lt j hj)
 have none_out:∀ j∈s.cs.map (·.1),∀ a∈m.fp j,H a≠none:=fun j hj a ha z=>by
  obtain ⟨q,hq,rfl⟩:=List.mem_map.mp hj
  obtain ⟨o,e,_⟩:=(S.ok q hq).kind ha
  rw [z] at e;cases e
 have hx:Ext H m s H' (m.add s.nx p f) (s.add c):=by
  refine ⟨⟨⟨Nat.le_succ _,fun j hj=>?_,fun a u h q=>⟨h.same k,q.1,fun j hj hm=>?_⟩,fun a u h _ _=>k _ _ h⟩,fun j l hj h=>⟨?_,fun o ho=>k _ _ ho⟩⟩,rfl,fun a _ o h _=>k a o h⟩
  rotate_left 2
  ·show getC ((s.nx,c)::s.cs) j=_
   unfold getC
   rw [if_neg (fun z=>Nat.ne_of_lt hj z.symm)]
   exact h
  ·show (if j=s.nx then p else m.ad j)=_
   rw [if_neg (Nat.ne_of_lt hj)]
  ·have hm:a∈(if j=s.nx then f else m.fp j):=hm
   rcases List.mem_cons.mp (show j∈s.nx::s.cs.map (·.1) from hj) with e | hj
   ·rw [if_pos e] at hm
    have:=hf a hm
    rcases h with h | ⟨o,h⟩ <;> (rw [this] at h;cases h)
   ·rw [if_neg (hlt j hj)] at hm
    exact q.2 j hj hm
 have hfp:∀ j∈s.cs.map (·.1),(m.add s.nx p f).fp j=m.fp j:=fun j hj=>by
  show (if j=s.nx then f else m.fp j)=_
  rw [if_neg (hlt j hj)]
 have hfn:(m.add s.nx p f).fp s.nx=f:=by show (if s.nx=s.nx then f else _)=_;rw [if_pos rfl]
 refine ⟨⟨?_,?_,fun q hq=>?_,fun j hj i hi hne a ha hb=>?_,fun j hj a ha hb=>?_,S.hsk hx.hk (.same k),S.tbk (.same k)⟩,hx⟩
 ·exact List.nodup_cons.mpr ⟨fun z=>hlt _ z rfl,S.nd⟩
 ·intro j hj
  rcases List.mem_cons.mp (show j∈s.nx::s.cs.map (·.1) from hj) with e | hj
  ·rw [e];exact Nat.lt_succ_self _
  ·exact Nat.lt_succ_of_lt (S.lt j hj)
 ·rcases List.mem_cons.mp (show q∈(s.nx,c)::s.cs from hq) with rfl | hq
  ·exact hok hx
  ·have hqm:q.1∈s.cs.map (·.1):=List.mem_map.mpr ⟨q,hq,rfl⟩
   exact (S.ok q hq).keep S hx.toExtR (fun a ha o h=>k a o h) (hx.ad _ (S.lt _ hqm)) (hfp _ hqm)
 ·rcases List.mem_cons.mp (show j∈s.nx::s.cs.map (·.1) from hj) with e | hj <;> rcases List.mem_cons.mp (show i∈s.nx::s.cs.map (·.1) from hi) with e' | hi
  ·exact hne (e.trans e'.symm)
  ·rw [e,hfn] at ha;rw [hfp i hi] at hb;exact none_out i hi a hb (hf a ha)
  ·rw [hfp j hj] at ha;rw [e',hfn] at hb;exact none_out j hj a ha (hf a hb)
  ·rw [hfp j hj] at ha;rw [hfp i hi] at hb;exact S.dj j hj i hi hne a ha hb
 ·rcases List.mem_cons.mp (show j∈s.nx::s.cs.map (·.1) from hj) with e | hj
  ·rw [e,hfn] at ha;exact (S.hs a hb).1 (hf a ha)
  ·rw [hfp j hj] at ha;exact S.hx j hj a ha hb
theorem SR.del {K:PySem.W.Frag}{CB:Addr}{H:Hp}{m:Mp}{s:Sto} (S:SR K CB H m s) (n:Nat) (hnd:∀ l,s.get n≠some (.dfz l)):SR K CB H m (s.del n)∧Ext H m s H m (s.del n):=by
 have hin:∀ j∈(s.del n).cs.map (·.1),j∈s.cs.map (·.1):=fun j hj=>by
  obtain ⟨q,hq,rfl⟩:=List.mem_map.mp hj
  exact List.mem_map.mpr ⟨q,qgb hq,rfl⟩
 have hx:Ext H m s H m (s.del n):=⟨⟨⟨Nat.le_refl _,fun _ _=>rfl,fun a u h p=>⟨h,p.1,fun j hj=>p.2 j (hin j hj)⟩,fun _ _ h _ _=>h⟩,fun j l hj h=>⟨(qig (fun z=>hnd l (by rw [← z];exact h))).trans h,fun o h=>h⟩⟩,rfl,fun _ _ _ h _=>h⟩
 exact ⟨⟨delC_nd S.nd,fun j hj=>S.lt j (hin j hj),fun q hq=>(S.ok q (qgb hq)).keep S hx.toExtR (fun _ _ _ h=>h) rfl rfl,fun j hj i hi=>S.dj j (hin j hj) i (hin i hi),fun j hj=>S.hx j (hin j hj),S.hs,S.tb⟩,hx⟩
end L2
namespace L2
open PySem PySem.Spec PyProof.Rows
inductive Out (α:Type) where
 | ok (a:α) (s:Sto) | ex (c:Addr) (s:Sto) | bad
def Out.bind {α β:Type} (o:Out α) (k:α→Sto→Out β):Out β:=match o with
 | .ok a s=>k a s
 | .ex c s=>.ex c s
 | .bad=>.bad
abbrev En:=List (Option PV)
abbrev XE:=En→Sto→Out PV
abbrev XT:=En→Sto→Out Bool
abbrev XA:=En→Sto→Out (List PV)
inductive SO where
 | nx (ρ:En) (s:Sto) | rt (v:PV) (s:Sto) | bk (ρ:En) (s:Sto) | ct (ρ:En) (s:Sto) | ex (c:Addr) (s:Sto) | bad
abbrev XS:=En→Sto→SO
def Post {α β:Type} (K:PySem.W.Frag) (CB:Addr) (R:Hp→Mp→Sto→β→α→Prop) (E:XK) (o:Out α) (H:Hp) (m:Mp) (s:Sto) (Q:β→Hp→Prop):Prop:=match o with
 | .ok v s'=>∀ u H' m',Ext H m s H' m' s'→SR K CB H' m' s'→R H' m' s' u v→Q u H'
 | .ex c s'=>∀ H' m',Ext H m s H' m' s'→SR K CB H' m' s'→E (.ref c) none H'
 | .bad=>False
theorem Post.shift {α β:Type}{K:PySem.W.Frag}{CB:Addr}{R:Hp→Mp→Sto→β→α→Prop}{E:XK}{o:Out α}{H H1:Hp}{m m1:Mp}{s s1:Sto}{Q:β→Hp→Prop} (e:Ext H m s H1 m1 s1) (h:Post K CB R E o H m s Q):Post K CB R E o H1 m1 s1 Q:=by
 cases o with
 | ok v s'=>exact fun u H' m' x S r=>h u H' m' (e.trans x) S r
 | ex c s'=>exact fun H' m' x S=>h H' m' (e.trans x) S
 | bad=>exact h
theorem Post.bind {α β α' β':Type}{K:PySem.W.Frag}{CB:Addr}{R:Hp→Mp→Sto→β→α→Prop}{R':Hp→Mp→Sto→β'→α'→Prop}{E:XK}{o:Out α}{k:α→Sto→Out α'}{H:Hp}{m:Mp}{s:Sto}{Q:β'→Hp→Prop}{Q1:β→Hp→Prop} (h:Post K CB R' E (o.bind k) H m s Q)
  (f:∀ v s1 u H1 m1,Ext H m s H1 m1 s1→SR K CB H1 m1 s1→R H1 m1 s1 u v→Post K CB R' E (k v s1) H1 m1 s1 Q→Q1 u H1):Post K CB R E o H m s Q1:=by
 cases o with
 | ok v s1=>exact fun u H1 m1 x S r=>f v s1 u H1 m1 x S r (Post.shift x h)
 | ex c s'=>exact h
 | bad=>exact h
theorem Post.here {α β:Type}{K:PySem.W.Frag}{CB:Addr}{R:Hp→Mp→Sto→β→α→Prop}{E:XK}{v:α}{H:Hp}{m:Mp}{s:Sto}{Q:β→Hp→Prop}{u:β} (h:Post K CB R E (.ok v s) H m s Q) (S:SR K CB H m s) (r:R H m s u v):Q u H:=h u H m .refl S r
theorem Post.new {α β:Type}{K:PySem.W.Frag}{CB:Addr}{R:Hp→Mp→Sto→β→α→Prop}{E:XK}{v:α}{H:Hp}{m:Mp}{s:Sto}{Q:β→Hp→Prop}{u:β}{p:Addr}{o:HO} (h:Post K CB R E (.ok v s) H m s Q) (S:SR K CB H m s) (hp:H p=none)
  (r:Ext H m s (upd H p o) m s→SR K CB (upd H p o) m s→R (upd H p o) m s u v):Q u (upd H p o):=by
 have k:Same H (upd H p o):=My.qew hp
 exact h u _ m (.same k) (S.same k) (r (.same k) (S.same k))
structure ER (K:PySem.W.Frag) (H:Hp) (m:Mp) (s:Sto) (σ:St) (ρ:En):Prop where
 len:ρ.length=σ.length
 at_:∀ (i:Nat) (p:PV),ρ[i]?=some (some p)→∃ u,σ[i]?=some (some u)∧Rep K H m s u p
theorem ER.ext {K:PySem.W.Frag}{H H':Hp}{m m':Mp}{s s':Sto}{σ:St}{ρ:En} (h:ER K H m s σ ρ) (e:Ext H m s H' m' s'):ER K H' m' s' σ ρ :=
 ⟨h.len,fun i p q=>let ⟨u,a,b⟩:=h.at_ i p q;⟨u,a,b.ext e⟩⟩
theorem ER.set {K:PySem.W.Frag}{H:Hp}{m:Mp}{s:Sto}{σ:St}{ρ:En}{u:V}{p:PV} (h:ER K H m s σ ρ) (i:Nat) (r:Rep K H m s u p):ER K H m s (σ.set i (some u)) (ρ.set i (some p)):=by
 refine ⟨by simp [h.len],fun j q e=>?_⟩
 rw [List.getElem?_set] at e ⊢
 by_cases c:i=j
 ·rw [if_pos c] at e ⊢
  by_cases d:i < ρ.length
  ·rw [if_pos d] at e;rw [if_pos (by rw [← h.len];exact d)];cases e;exact ⟨u,rfl,r⟩
  ·rw [if_neg d] at e;cases e
 ·rw [if_neg c] at e ⊢;exact h.at_ j q e
theorem ER.cons {K:PySem.W.Frag}{H:Hp}{m:Mp}{s:Sto}{σ:St}{ρ:En}{u:V}{p:PV} (h:ER K H m s σ ρ) (r:Rep K H m s u p):ER K H m s (some u::σ) (some p::ρ):=by
 refine ⟨by simp [h.len],fun j q e=>?_⟩
 cases j with
 | zero=>simp at e;subst e;exact ⟨u,rfl,r⟩
 | succ j=>exact h.at_ j q (by simpa using e)
theorem ER.start {K:PySem.W.Frag}{H:Hp}{m:Mp}{s:Sto}:∀ {vs:List V}{ps:List PV},Reps K H m s vs ps→∀ n,ER K H m s (vs.map some++List.replicate n none) (ps.map some++List.replicate n none)
 | _,_,.nil,n=>⟨by simp,fun i p e=>by
   have e:(List.replicate n (none:Option PV))[i]?=some (some p):=by simpa using e
   rw [List.getElem?_replicate] at e
   split at e <;> cases e⟩
 | _,_,.cons a b,n=>(ER.start b n).cons a
def qck (ix:List Nat) (ρ:En):En:=ix.map fun i=>(ρ[i]?).getD none
theorem ER.capt {K:PySem.W.Frag}{H:Hp}{m:Mp}{s:Sto}{σ:St}{ρ:En} (h:ER K H m s σ ρ) (ix:List Nat):ER K H m s (capt ix σ) (qck ix ρ):=by
 refine ⟨by simp [L2.capt,qck],fun j q e=>?_⟩
 unfold qck at e
 unfold L2.capt
 rw [List.getElem?_map] at e ⊢
 cases c:ix[j]? with
 | none=>rw [c] at e;cases e
 | some i =>
  rw [c] at e
  have e:(ρ[i]?).getD none=some q:=Option.some.inj e
  cases d:ρ[i]? with
  | none=>rw [d] at e;cases e
  | some o =>
   rw [d] at e
   have e:o=some q:=e
   subst e
   obtain ⟨u,h1,h2⟩:=h.at_ i q d
   refine ⟨u,?_,h2⟩
   show some ((σ[i]?).getD none)=_
   rw [h1];rfl
def TDE (K:PySem.W.Frag) (CB:Addr) (E:XK) (f:XE):TE:=fun σ H Q=>∃ ρ s m,ER K H m s σ ρ∧SR K CB H m s∧Post K CB (Rep K) E (f ρ s) H m s Q
def TDT (K:PySem.W.Frag) (CB:Addr) (E:XK) (f:XT):TT:=fun σ H Q=>∃ ρ s m,ER K H m s σ ρ∧SR K CB H m s∧Post K CB (fun _ _ _ u v=>u=v) E (f ρ s) H m s Q
def TDA (K:PySem.W.Frag) (CB:Addr) (E:XK) (f:XA):TA:=fun σ H Q=>∃ ρ s m,ER K H m s σ ρ∧SR K CB H m s∧Post K CB (Reps K) E (f ρ s) H m s Q
def PostS (K:PySem.W.Frag) (CB:Addr) (E:XK) (o:SO) (H:Hp) (m:Mp) (s:Sto) (D:Ends):Prop:=match o with
 | .nx ρ' s'=>∀ σ' H' m',Ext H m s H' m' s'→SR K CB H' m' s'→ER K H' m' s' σ' ρ'→D.nx σ' H'
 | .rt v s'=>∀ u H' m',Ext H m s H' m' s'→SR K CB H' m' s'→Rep K H' m' s' u v→D.rt u H'
 | .bk ρ' s'=>∀ σ' H' m',Ext H m s H' m' s'→SR K CB H' m' s'→ER K H' m' s' σ' ρ'→D.bk σ' H'
 | .ct ρ' s'=>∀ σ' H' m',Ext H m s H' m' s'→SR K CB H' m' s'→ER K H' m' s' σ' ρ'→D.ct σ' H'
 | .ex c s'=>∀ H' m',Ext H m s H' m' s'→SR K CB H' m' s'→E (.ref c) none H'
 | .bad=>False
def TDS (K:PySem.W.Frag) (CB:Addr) (E:XK) (g:XS):TS:=fun D σ H=>∃ ρ s m,ER K H m s σ ρ∧SR K CB H m s∧PostS K CB E (g ρ s) H m s D
structure DE (X:Cx) (CB:Addr) (E:XK) (e:Expr) (f:XE):Prop where
 pe:PE X e (TDE X.K CB E f)
structure DT (X:Cx) (CB:Addr) (E:XK) (e:Expr) (f:XT):Prop where
 pt:PT X e (TDT X.K CB E f)
structure DW (X:Cx) (CB:Addr) (E:XK) (e:Expr) (f:XT):Prop where
 pw:PW X e (TDT X.K CB E f)
structure DA (X:Cx) (CB:Addr) (E:XK) (es:List Expr) (f:XA):Prop where
 pa:PA X es (TDA X.K CB E f)
structure DS (X:Cx) (CB:Addr) (E:XK) (st:Stmt) (g:XS):Prop where
 ps:PS X st (TDS X.K CB E g)
structure DSs (X:Cx) (CB:Addr) (E:XK) (st:List Stmt) (g:XS):Prop where
 pss:PSs X st (TDS X.K CB E g)
theorem PE.mono {X:Cx}{e:Expr}{t t':TE} (h:PE X e t) (k:∀ σ H Q,t' σ H Q→t σ H Q):PE X e t':=fun pins s σ H Q I q=>h pins s σ H Q I (k σ H Q q)
theorem PT.mono {X:Cx}{e:Expr}{t t':TT} (h:PT X e t) (k:∀ σ H Q,t' σ H Q→t σ H Q):PT X e t':=fun pins s σ H Q I q=>h pins s σ H Q I (k σ H Q q)
theorem PW.mono {X:Cx}{e:Expr}{t t':TT} (h:PW X e t) (k:∀ σ H Q,t' σ H Q→t σ H Q):PW X e t':=fun w pins s σ H Q I q=>h w pins s σ H Q I (k σ H Q q)
theorem PA.mono {X:Cx}{e:List Expr}{t t':TA} (h:PA X e t) (k:∀ σ H Q,t' σ H Q→t σ H Q):PA X e t':=fun pos pins s σ H Q I q=>h pos pins s σ H Q I (k σ H Q q)
theorem PS.mono {X:Cx}{e:Stmt}{t t':TS} (h:PS X e t) (k:∀ D σ H,t' D σ H→t D σ H):PS X e t':=fun pins s σ H D I q=>h pins s σ H D I (k D σ H q)
theorem PSs.mono {X:Cx}{e:List Stmt}{t t':TS} (h:PSs X e t) (k:∀ D σ H,t' D σ H→t D σ H):PSs X e t':=fun pins s σ H D I q=>h pins s σ H D I (k D σ H q)
def xVar (i:Nat) (ρ:En) (s:Sto):Out PV:=match ρ[i]? with
 | some (some p)=>.ok p s
 | _=>.bad
def xC (p:PV) (_:En) (s:Sto):Out PV:=.ok p s
def x1 (f:XE) (F:PV→Sto→Out PV) (ρ:En) (s:Sto):Out PV:=(f ρ s).bind F
def x2 (f g:XE) (F:PV→PV→Sto→Out PV) (ρ:En) (s:Sto):Out PV:=(f ρ s).bind fun v s1=>(g ρ s1).bind fun w s2=>F v w s2
def xNil (_:En) (s:Sto):Out (List PV):=.ok [] s
def xCons (f:XE) (g:XA) (ρ:En) (s:Sto):Out (List PV):=(f ρ s).bind fun v s1=>(g ρ s1).bind fun vs s2=>.ok (v::vs) s2
section
variable {X:Cx}{CB:Addr}{E:XK}{a b c e:Expr}{es:List Expr}{f g h:XE}{fa:XA}{p pos apos:Pos}{x:Str}
def Op2 (K:PySem.W.Frag) (CB:Addr) (E:XK) (r:R2) (F:PV→PV→Sto→Out PV):Prop:=∀ H m s v w x y Q,SR K CB H m s→Rep K H m s x v→Rep K H m s y w→Post K CB (Rep K) E (F v w s) H m s Q→r x y H Q
def Op1 (K:PySem.W.Frag) (CB:Addr) (E:XK) (r:V→Hp→VK→Prop) (F:PV→Sto→Out PV):Prop:=∀ H m s v x Q,SR K CB H m s→Rep K H m s x v→Post K CB (Rep K) E (F v s) H m s Q→r x H Q
def OpN (K:PySem.W.Frag) (CB:Addr) (E:XK) (r:List V→Hp→VK→Prop) (F:List PV→Sto→Out PV):Prop:=∀ H m s v x Q,SR K CB H m s→Reps K H m s x v→Post K CB (Rep K) E (F v s) H m s Q→r x H Q
theorem two {r:R2}{F:PV→PV→Sto→Out PV} (o:Op2 X.K CB E r F) {σ:St}{H:Hp}{Q:VK} (q:TDE X.K CB E (x2 f g F) σ H Q):tOp r (TDE X.K CB E f) (TDE X.K CB E g) σ H Q:=by
 obtain ⟨ρ,s,m,er,S,P⟩:=q
 exact ⟨ρ,s,m,er,S,P.bind fun v s1 u H1 m1 e1 S1 r1 P1=>⟨ρ,s1,m1,er.ext e1,S1,P1.bind fun w s2 u2 H2 m2 e2 S2 r2 P2=>o H2 m2 s2 v w u u2 Q S2 (r1.ext e2) r2 P2⟩⟩
theorem qab (i:Nat) (hN:X.N[i]?=some x:=by rfl) (hv:Vis X.env.scope x:=by first | exact Or.inl rfl | exact Or.inr (Or.inl rfl) | exact Or.inr (Or.inr rfl)) (hd:(x == ("__debug__":Str))=false:=by decide)
  (hcd:(x == ("__classdict__":Str))=false:=by decide):DE X CB E (.Name x pos) (xVar i):=⟨(qoc hN hv hd hcd).mono fun σ H Q ⟨ρ,s,m,er,S,P⟩=>by
 unfold xVar at P
 split at P
 ·rename_i q hq
  obtain ⟨u,h1,h2⟩:=er.at_ i q hq
  exact ⟨u,h1,P.here S h2⟩
 ·exact P.elim⟩
theorem qai {i:Int}{j:Nat}:DE X CB E (.Constant (.int i) j pos) (xC (.int i)):=⟨pe_int.mono fun σ H Q ⟨ρ,s,m,er,S,P⟩=>P.here S .int⟩
theorem de_bl {i:Bool}{j:Nat}:DE X CB E (.Constant (.bool i) j pos) (xC (.bl i)):=⟨pe_bl.mono fun σ H Q ⟨ρ,s,m,er,S,P⟩=>P.here S .bl⟩
theorem de_str {i:Str}{j:Nat}:DE X CB E (.Constant (.str i) j pos) (xC (.str i)):=⟨pe_str.mono fun σ H Q ⟨ρ,s,m,er,S,P⟩=>P.here S .str⟩
theorem de_glob {v:V}{q:PV}{u:Value} (hg:Gl X x) (hm:X.mg x=some u) (r:RelV v u) (hq:∀ H m s,Rep X.K H m s v q) (hd:(x == ("__debug__":Str))=false:=by decide):DE X CB E (.Name x pos) (xC q) :=
 ⟨(qd8 hg hm r hd).mono fun σ H Q ⟨ρ,s,m,er,S,P⟩=>P.here S (hq H m s)⟩
theorem de_op {op:Operator}{r:R2}{F:PV→PV→Sto→Out PV} (ho:OpR X (binaryOp op) r) (o:Op2 X.K CB E r F) (ha:DE X CB E a f) (hb:DE X CB E b g):DE X CB E (.BinOp a op b pos) (x2 f g F):=⟨(qgq ho ha.pe hb.pe).mono fun σ H Q q=>two o q⟩
theorem de_un {op:UnaryOp}{r:V→Hp→VK→Prop}{F:PV→Sto→Out PV} (ho:UnR X (unaryOp op) r) (o:Op1 X.K CB E r F) (ha:DE X CB E a f):DE X CB E (.UnaryOp op a pos) (x1 f F):=⟨(pe_un ho ha.pe).mono fun σ H Q ⟨ρ,s,m,er,S,P⟩ =>
 ⟨ρ,s,m,er,S,P.bind fun v s1 u H1 m1 e1 S1 r1 P1=>o H1 m1 s1 v u Q S1 r1 P1⟩⟩
theorem de_cmp {op:CmpOp}{r:R2}{F:PV→PV→Sto→Out PV} (ho:OpR X (compareOp op) r) (o:Op2 X.K CB E r F) (ha:DE X CB E a f) (hb:DE X CB E b g) (hm:behindInMarks op b=false):DE X CB E (.Compare a [op] [b] pos) (x2 f g F):=⟨(pe_cmpR ho ha.pe hb.pe hm).mono fun σ H Q q=>two o q⟩
def xTr (f:XE) (ρ:En) (s:Sto):Out Bool:=(f ρ s).bind fun v s1=>match v with
 | .bl b=>.ok b s1
 | _=>.bad
theorem TDT.tst {σ:St}{H:Hp}{Q:Bool→Hp→Prop} (q:TDT X.K CB E (xTr f) σ H Q):TDE X.K CB E f σ H fun x H1=>∃ k,x=.bl k∧Q k H1:=by
 obtain ⟨ρ,s,m,er,S,P⟩:=q
 refine ⟨ρ,s,m,er,S,P.bind fun v s1 u H1 m1 e1 S1 r1 P1=>?_⟩
 cases r1 <;> first | exact P1.elim | exact ⟨_,rfl,P1.here S1 rfl⟩
theorem dt_cmp {op:CmpOp}{r:R2}{F:PV→PV→Sto→Out PV} (ho:OpR X (compareOp op) r) (o:Op2 X.K CB E r F) (ha:DE X CB E a f) (hb:DE X CB E b g) (hm:behindInMarks op b=false):DT X CB E (.Compare a [op] [b] pos) (xTr (x2 f g F)):=⟨(qgo ho ha.pe hb.pe hm).mono fun σ H Q q=>two o (TDT.tst q)⟩
theorem qfa (h:DE X CB E e f) (he:∀ whole,isTrue e X.env whole=(do let v ← whole;standAt e.pos;holding [v] (truthy v)):=by intro _;rfl):DT X CB E e (xTr f):=⟨(qh0 h.pe he).mono fun σ H Q q=>TDT.tst q⟩
def xChain (f g h:XE) (F G:PV→PV→Sto→Out PV) (ρ:En) (s:Sto):Out PV:=(f ρ s).bind fun v s1=>(g ρ s1).bind fun w s2=>(F v w s2).bind fun z s3=>match z with
 | .bl true=>(h ρ s3).bind fun y s4=>G w y s4
 | .bl false=>.ok (.bl false) s3
 | _=>.bad
def xNot (f:XT) (ρ:En) (s:Sto):Out Bool:=(f ρ s).bind fun b s1=>.ok (!b) s1
def xAnd (f g:XT) (ρ:En) (s:Sto):Out Bool:=(f ρ s).bind fun b s1=>if b=true then g ρ s1 else .ok false s1
def xOr (f g:XT) (ρ:En) (s:Sto):Out Bool:=(f ρ s).bind fun b s1=>if b=true then .ok true s1 else g ρ s1
variable {t u:XT}{rest:List Expr}
theorem dt_not (h:DT X CB E a t):DT X CB E (.UnaryOp .Not a pos) (xNot t):=⟨(qlv h.pt).mono fun σ H Q ⟨ρ,s,m,er,S,P⟩ =>
 ⟨ρ,s,m,er,S,P.bind fun v s1 b H1 m1 e1 S1 r1 P1=>by cases r1;exact P1.here S1 rfl⟩⟩
theorem dw_and1 (h:DT X CB E a t):DW X CB E (.BoolOp .And [a] pos) t:=⟨pw_and1 h.pt⟩
theorem dw_or1 (h:DT X CB E a t):DW X CB E (.BoolOp .Or [a] pos) t:=⟨pw_or1 h.pt⟩
theorem dw_and (h:DT X CB E a t) (k:DW X CB E (.BoolOp .And (b::rest) pos) u):DW X CB E (.BoolOp .And (a::b::rest) pos) (xAnd t u):=⟨(pw_and h.pt k.pw).mono fun σ H Q ⟨ρ,s,m,er,S,P⟩ =>
 ⟨ρ,s,m,er,S,P.bind fun v s1 b H1 m1 e1 S1 r1 P1=>by
  cases r1
  refine ite2 (fun c=>?_) fun c=>?_
  ·rw [if_pos c] at P1;exact ⟨ρ,s1,m1,er.ext e1,S1,P1⟩
  ·rw [if_neg c] at P1;exact P1.here S1 rfl⟩⟩
theorem dw_or (h:DT X CB E a t) (k:DW X CB E (.BoolOp .Or (b::rest) pos) u):DW X CB E (.BoolOp .Or (a::b::rest) pos) (xOr t u):=⟨(pw_or h.pt k.pw).mono fun σ H Q ⟨ρ,s,m,er,S,P⟩ =>
 ⟨ρ,s,m,er,S,P.bind fun v s1 b H1 m1 e1 S1 r1 P1=>by
  cases r1
  refine ite2 (fun c=>?_) fun c=>?_
  ·rw [if_pos c] at P1;exact P1.here S1 rfl
  ·rw [if_neg c] at P1;exact ⟨ρ,s1,m1,er.ext e1,S1,P1⟩⟩⟩
theorem DW.dt (h:DW X CB E a t):DT X CB E a t:=⟨h.pw.pt⟩
def xAndV (f g:XE) (ρ:En) (s:Sto):Out PV:=(f ρ s).bind fun v s1=>match v with
 | .bl true=>g ρ s1
 | .bl false=>.ok (.bl false) s1
 | _=>.bad
def xOrV (f g:XE) (ρ:En) (s:Sto):Out PV:=(f ρ s).bind fun v s1=>match v with
 | .bl true=>.ok (.bl true) s1
 | .bl false=>g ρ s1
 | _=>.bad
def xNotV (f:XE) (ρ:En) (s:Sto):Out PV:=(f ρ s).bind fun v s1=>match v with
 | .bl b=>.ok (.bl (!b)) s1
 | _=>.bad
theorem de_one {op:BoolOp} (h:DE X CB E a f):DE X CB E (.BoolOp op [a] pos) f:=⟨pe_one h.pe⟩
theorem de_not (h:DE X CB E a f):DE X CB E (.UnaryOp .Not a pos) (xNotV f):=⟨(pe_not h.pe).mono fun σ H Q ⟨ρ,s,m,er,S,P⟩ =>
 ⟨ρ,s,m,er,S,P.bind fun v s1 b H1 m1 e1 S1 r1 P1=>by cases r1 <;> first | exact P1.elim | exact ⟨_,rfl,P1.here S1 .bl⟩⟩⟩
theorem de_and (h:DE X CB E a f) (k:DE X CB E (.BoolOp .And (b::rest) pos) g):DE X CB E (.BoolOp .And (a::b::rest) pos) (xAndV f g):=⟨(pe_and h.pe k.pe).mono fun σ H Q ⟨ρ,s,m,er,S,P⟩ =>
 ⟨ρ,s,m,er,S,P.bind fun v s1 b H1 m1 e1 S1 r1 P1=>by
  cases r1 with
  | bl =>
   rename_i b
   cases b
   ·exact ⟨_,rfl,iteF (P1.here S1 .bl)⟩
   ·exact ⟨_,rfl,iteT ⟨ρ,s1,m1,er.ext e1,S1,P1⟩⟩
  | _=>exact P1.elim⟩⟩
theorem qag:DA X CB E [] xNil:=⟨pa_nil.mono fun σ H Q ⟨ρ,s,m,er,S,P⟩=>P.here S .nil⟩
theorem qaa (ha:DE X CB E e f) (hr:DA X CB E es fa) (hs:starEach (e::es) X.env=(false,eval e X.env)::starEach es X.env:=by rfl):DA X CB E (e::es) (xCons f fa):=⟨(qam ha.pe hr.pa hs).mono fun σ H Q ⟨ρ,s,m,er,S,P⟩ =>
 ⟨ρ,s,m,er,S,P.bind fun v s1 u H1 m1 e1 S1 r1 P1=>⟨ρ,s1,m1,er.ext e1,S1,P1.bind fun w s2 u2 H2 m2 e2 S2 r2 P2=>P2.here S2 (.cons (r1.ext e2) r2)⟩⟩⟩
theorem Reps.length {K:PySem.W.Frag}{H:Hp}{m:Mp}{s:Sto}:∀ {vs:List V}{l:List PV},Reps K H m s vs l→vs.length=l.length
 | _,_,.nil=>rfl
 | _,_,.cons _ b=>congrArg Nat.succ b.length
theorem sz5 {n:Nat} (h:n≤100000):n≤sizeLine:=Nat.le_trans h (by decide)
theorem sz6 {n:Nat} (h:n < 100000):n < sizeLine:=Nat.lt_of_lt_of_le h (by decide)
def xTup (fa:XA) (ρ:En) (s:Sto):Out PV:=(fa ρ s).bind fun vs s1=>if vs.length≤100000 then .ok (.tup vs) s1 else .bad
def xLst (fa:XA) (ρ:En) (s:Sto):Out PV:=(fa ρ s).bind fun vs s1=>if vs.length≤100000 then .ok (.lst vs) s1 else .bad
def xLstC (fa:XA) (ρ:En) (s:Sto):Out PV:=(fa ρ s).bind fun vs s1=>if vs.length≤100000 then .ok (.ref s1.nx) (s1.add (.lst vs)) else .bad
theorem qjt {x1} (h:DA X CB E es fa):DE X CB E (.Tuple es x1 pos) (xTup fa):=⟨(qod h.pa).mono fun σ H Q ⟨ρ,s,m,er,S,P⟩ =>
 ⟨ρ,s,m,er,S,P.bind fun v s1 u H1 m1 e1 S1 r1 P1=>by
  split at P1
  ·rename_i hl
   exact ⟨by rw [r1.length];exact sz5 hl,fun p hp=>P1.new S1 hp fun ex S'=>.tup (.inl ⟨.inl qae,S'.pure_tup qae⟩) (r1.ext ex)⟩
  ·exact P1.elim⟩⟩
theorem qd0 (h:DA X CB E es fa):DE X CB E (.List es pos) (xLst fa):=⟨(pe_lst h.pa).mono fun σ H Q ⟨ρ,s,m,er,S,P⟩ =>
 ⟨ρ,s,m,er,S,P.bind fun v s1 u H1 m1 e1 S1 r1 P1=>by
  split at P1
  ·rename_i hl
   exact ⟨by rw [r1.length];exact sz5 hl,fun p hp=>P1.new S1 hp fun ex S'=>.lst qae (S1.pure_none hp) (r1.ext ex)⟩
  ·exact P1.elim⟩⟩
theorem SR.newL {K:PySem.W.Frag}{H:Hp}{m:Mp}{s:Sto}{vs:List V}{l:List PV}{p:Addr} (S:SR K CB H m s) (hp:H p=none) (r:Reps K H m s vs l):SR K CB (upd H p (.lst vs)) (m.add s.nx p [p]) (s.add (.lst l))∧Ext H m s (upd H p (.lst vs)) (m.add s.nx p [p]) (s.add (.lst l)) :=
 S.add _ p [p] (My.qew hp) (fun a ha=>by rw [List.mem_singleton.mp ha];exact hp) fun ex=>by
  have e1:(m.add s.nx p [p]).ad s.nx=p:=by show (if s.nx=s.nx then p else _)=_;rw [if_pos rfl]
  have e2:(m.add s.nx p [p]).fp s.nx=[p]:=by show (if s.nx=s.nx then [p] else _)=_;rw [if_pos rfl]
  exact ⟨by rw [e1,e2],vs,by rw [e1];exact qae,r.ext ex⟩
theorem SR.newD {K:PySem.W.Frag}{H H':Hp}{m:Mp}{s:Sto}{vs:List (Key×V)}{l:List (Key×PV)}{p:Addr} (S:SR K CB H m s) (hp:H p=none) (k:Same H H') (hd:H' p=some (.dK vs)) (r:RepKs K H m s vs l):SR K CB H' (m.add s.nx p [p]) (s.add (.dct l))∧Ext H m s H' (m.add s.nx p [p]) (s.add (.dct l)) :=
 S.add _ p [p] k (fun a ha=>by rw [List.mem_singleton.mp ha];exact hp) fun ex=>by
  have e1:(m.add s.nx p [p]).ad s.nx=p:=by show (if s.nx=s.nx then p else _)=_;rw [if_pos rfl]
  have e2:(m.add s.nx p [p]).fp s.nx=[p]:=by show (if s.nx=s.nx then [p] else _)=_;rw [if_pos rfl]
  exact ⟨by rw [e1,e2],vs,by rw [e1];exact hd,r.ext ex⟩
theorem Mp.add_ad {m:Mp}{n:Nat}{p:Addr}{f:List Addr}:(m.add n p f).ad n=p:=by show (if n=n then p else _)=_;rw [if_pos rfl]
theorem Rep.new {K:PySem.W.Frag}{H:Hp}{m:Mp}{s:Sto}{p:Addr}{f:List Addr}{c:Cell}:Rep K H (m.add s.nx p f) (s.add c) (.ref p) (.ref s.nx):=by
 have h:Rep K H (m.add s.nx p f) (s.add c) (.ref ((m.add s.nx p f).ad s.nx)) (.ref s.nx):=.ref (Nat.lt_succ_self _)
 rw [Mp.add_ad] at h;exact h
theorem qim (h:DA X CB E es fa):DE X CB E (.List es pos) (xLstC fa):=⟨(pe_lst h.pa).mono fun σ H Q ⟨ρ,s,m,er,S,P⟩ =>
 ⟨ρ,s,m,er,S,P.bind fun v s1 u H1 m1 e1 S1 r1 P1=>by
  split at P1
  ·rename_i hl
   refine ⟨by rw [r1.length];exact sz5 hl,fun p hp=>?_⟩
   obtain ⟨S2,e2⟩:=S1.newL hp r1
   exact P1 _ _ _ e2 S2 .new
  ·exact P1.elim⟩⟩
end
end L2
namespace L2
open PySem PySem.Spec PyProof.Rows
def lsOf (s:Sto):PV→Option (List PV)
 | .lst l=>some l
 | .seq l=>some l
 | .ref n=>match s.get n with
  | some (.lst l)=>some l
  | _=>none
 | _=>none
def dcOf (s:Sto):PV→Option (List (Key×PV))
 | .dct l=>some l
 | .ref n=>match s.get n with
  | some (.dct l)=>some l
  | some (.dfz l)=>some l
  | _=>none
 | _=>none
def kyOf:PV→Option Key
 | .int i=>some (.inl i)
 | .str x=>some (.inr x)
 | _=>none
def toV:PV→Option V
 | .non=>some .non
 | .bl b=>some (.bl b)
 | .int i=>some (.int i)
 | .str x=>some (.str x)
 | _=>none
def toVs:List PV→Option (List V)
 | []=>some []
 | p::l=>match toV p,toVs l with
  | some v,some vs=>some (v::vs)
  | _,_=>none
def valP (l:List (Key×PV)) (k:Key):Option PV:=(l.find? fun kv=>decide (kv.1=k)).map (·.2)
def putP (l:List (Key×PV)) (k:Key) (p:PV):List (Key×PV) :=
 if (l.any fun kv=>decide (kv.1=k))=true then l.map (fun kv=>if kv.1=k then (kv.1,p) else kv) else l++[(k,p)]
def mapO (f:PV→Option PyData):List PV→Option (List PyData)
 | []=>some []
 | p::l=>match f p,mapO f l with
  | some d,some ds=>some (d::ds)
  | _,_=>none
def PV.data (s:Sto):Nat→PV→Option PyData
 | 0,_=>none
 | _+1,.non=>some .none
 | _+1,.bl b=>some (.bool b)
 | _+1,.int i=>some (.int i)
 | _+1,.str x=>if PyData.strOk x=true then some (.str x) else none
 | k+1,.tup l=>(mapO (PV.data s k) l).map .tuple
 | k+1,.lst l=>(mapO (PV.data s k) l).map .list
 | k+1,.seq l=>(mapO (PV.data s k) l).map .list
 | k+1,.ref n=>match s.get n with
  | some (.lst l)=>(mapO (PV.data s k) l).map .list
  | _=>none
 | _+1,_=>none
section
variable {K:PySem.W.Frag}{CB:Addr}{H:Hp}{m:Mp}{s:Sto}{x y:V}{v w:PV}
theorem Rep.ls (S:SR K CB H m s) (r:Rep K H m s x v) {l:List PV} (e:lsOf s v=some l):∃ a vs,x=.ref a∧SqL K H a vs∧Reps K H m s vs l:=by
 cases r with
 | lst h _ q=>cases e;exact ⟨_,_,rfl,SqL.of h,q⟩
 | seq h q=>cases e;exact ⟨_,_,rfl,h.elim (fun z=>.inl (.inr z.1)) .inr,q⟩
 | ref h =>
  rename_i n
  have e:(match s.get n with | some (.lst l)=>some l | _=>none)=some l:=e
  split at e <;> cases e
  rename_i hg
  obtain ⟨_,vs,h1,h2⟩:=S.get hg
  exact ⟨_,vs,rfl,SqL.of h1,h2⟩
 | _=>cases e
theorem Rep.tp (r:Rep K H m s x (.tup l)):∃ a vs,x=.ref a∧SqT K H a vs∧Reps K H m s vs l:=by
 cases r with
 | tup h q=>exact ⟨_,_,rfl,h.elim (fun z=>.inl z.1) .inr,q⟩
theorem Rep.dc (S:SR K CB H m s) (r:Rep K H m s x v) {l:List (Key×PV)} (e:dcOf s v=some l):∃ a vs,x=.ref a∧Rd H a (.dK vs)∧RepKs K H m s vs l:=by
 cases r with
 | dct h _ q=>cases e;exact ⟨_,_,rfl,h,q⟩
 | ref h =>
  rename_i n
  have e:(match s.get n with | some (.dct l)=>some l | some (.dfz l)=>some l | _=>none)=some l:=e
  split at e <;> cases e
  ·rename_i hg
   obtain ⟨_,vs,h1,h2⟩:=S.get hg
   exact ⟨_,vs,rfl,.inl h1,h2⟩
  ·rename_i hg
   obtain ⟨_,ob,vs,h1,h2⟩:=S.get hg
   exact ⟨_,vs,rfl,.inr ⟨ob,h1⟩,h2⟩
 | _=>cases e
theorem Rep.toV (r:Rep K H m s x v) {z:V} (e:L2.toV v=some z):x=z:=by cases r <;> first | cases e;rfl | cases e
theorem Reps.toVs:∀ {vs:List V}{l:List PV}{zs:List V},Reps K H m s vs l→L2.toVs l=some zs→vs=zs
 | _,_,_,.nil,e=>by cases e;rfl
 | _,_,_,.cons a b,e=>by
  unfold L2.toVs at e
  split at e <;> cases e
  rename_i h1 h2
  rw [a.toV h1,b.toVs h2]
theorem qj4 {v:PV}{z:V} (e:L2.toV v=some z):qf7 z=true:=by cases v <;> first | cases e;rfl | cases e
theorem qhu:∀ {l:List PV}{zs:List V},L2.toVs l=some zs→zs.all qf7=true
 | [],_,e=>by cases e;rfl
 | p::l,_,e=>by
  unfold L2.toVs at e
  split at e <;> cases e
  rename_i h1 h2
  rw [List.all_cons,qj4 h1,qhu h2];rfl
theorem Reps.get:∀ {vs:List V}{l:List PV}{i:Nat}{p:PV},Reps K H m s vs l→l[i]?=some p→∃ u,vs[i]?=some u∧Rep K H m s u p
 | _,_,_,_,.nil,e=>by simp at e
 | _,_,0,_,.cons a _,e=>by simp at e;subst e;exact ⟨_,rfl,a⟩
 | _,_,i+1,p,.cons _ b,e=>by
  obtain ⟨u,h1,h2⟩:=b.get (i:=i) (p:=p) (by simpa using e)
  exact ⟨u,by simpa using h1,h2⟩
theorem Reps.atI {vs:List V}{l:List PV} (r:Reps K H m s vs l) {i:Int}{p:PV} (e:L2.atI l i=some p):∃ u,L2.atI vs i=some u∧Rep K H m s u p:=by
 unfold L2.atI at e ⊢
 rw [r.length]
 cases c:ixN l.length i with
 | none=>rw [c] at e;cases e
 | some j=>rw [c] at e;exact r.get e
theorem Reps.append:∀ {vs ws:List V}{l k:List PV},Reps K H m s vs l→Reps K H m s ws k→Reps K H m s (vs++ws) (l++k)
 | _,_,_,_,.nil,q=>q
 | _,_,_,_,.cons a b,q=>.cons a (b.append q)
theorem Reps.drop:∀ {vs:List V}{l:List PV} (n:Nat),Reps K H m s vs l→Reps K H m s (vs.drop n) (l.drop n)
 | _,_,0,r=>r
 | _,_,_+1,.nil=>.nil
 | _,_,n+1,.cons _ b=>b.drop n
theorem Reps.take:∀ {vs:List V}{l:List PV} (n:Nat),Reps K H m s vs l→Reps K H m s (vs.take n) (l.take n)
 | _,_,0,_=>.nil
 | _,_,_+1,.nil=>.nil
 | _,_,n+1,.cons a b=>.cons a (b.take n)
theorem Reps.set:∀ {vs:List V}{l:List PV}{u:V}{p:PV} (i:Nat),Reps K H m s vs l→Rep K H m s u p→Reps K H m s (vs.set i u) (l.set i p)
 | _,_,_,_,_,.nil,_=>.nil
 | _,_,_,_,0,.cons _ b,r=>.cons r b
 | _,_,_,_,i+1,.cons a b,r=>.cons a (b.set i r)
theorem Reps.strs:∀ {vs:List V}{ss:List Str},Reps K H m s vs (ss.map PV.str)→vs=ss.map V.str
 | _,[],.nil=>rfl
 | _,x::ss,.cons a b=>by cases a;rw [Reps.strs (ss:=ss) b];rfl
theorem Reps.ofStrs:∀ (ss:List Str),Reps K H m s (ss.map V.str) (ss.map PV.str)
 | []=>.nil
 | _::r=>.cons .str (Reps.ofStrs r)
theorem RepKs.keys:∀ {vs:List (Key×V)}{l:List (Key×PV)},RepKs K H m s vs l→vs.map (·.1)=l.map (·.1)
 | _,_,.nil=>rfl
 | _,_,.cons _ b=>by simp [b.keys]
theorem RepKs.length {vs:List (Key×V)}{l:List (Key×PV)} (r:RepKs K H m s vs l):vs.length=l.length:=by have:=congrArg List.length r.keys;simpa using this
theorem RepKs.val:∀ {vs:List (Key×V)}{l:List (Key×PV)} (k:Key),RepKs K H m s vs l→(∀ p,valP l k=some p→∃ u,valV vs k=some u∧Rep K H m s u p)∧(valP l k=none→valV vs k=none)
 | _,_,k,.nil=>⟨fun p e=>(by cases e),fun _=>rfl⟩
 | _,_,k,.cons (k:=q) (p:=p0) (v:=v0) a b=>by
  by_cases e:q=k
  ·refine ⟨fun p h=>⟨v0,qha e,?_⟩,fun h=>?_⟩
   ·unfold valP at h;simp [e] at h;subst h;exact a
   ·unfold valP at h;simp [e] at h
  ·rw [qhb e]
   have h2:∀ {l:List (Key×PV)},valP ((q,p0)::l) k=valP l k:=fun {l}=>by unfold valP;simp [e]
   rw [h2]
   exact b.val k
theorem RepKs.any {vs:List (Key×V)}{l:List (Key×PV)} (r:RepKs K H m s vs l) (k:Key):(vs.any fun kv=>decide (kv.1=k))=l.any fun kv=>decide (kv.1=k):=by
 have h:∀ {β:Type} (l:List (Key×β)),(l.any fun kv=>decide (kv.1=k))=(l.map (·.1)).any fun j=>decide (j=k):=fun l=>by rw [List.any_map];rfl
 rw [h,h,r.keys]
theorem RepKs.mapput:∀ {vs:List (Key×V)}{l:List (Key×PV)}{u:V}{p:PV} (k:Key),RepKs K H m s vs l→Rep K H m s u p→RepKs K H m s (vs.map fun kv=>if kv.1=k then (kv.1,u) else kv) (l.map fun kv=>if kv.1=k then (kv.1,p) else kv)
 | _,_,_,_,_,.nil,_=>.nil
 | _,_,u,p,k,.cons (k:=q) a b,r=>by
  rw [List.map_cons,List.map_cons]
  by_cases e:q=k
  ·rw [if_pos e,if_pos e];exact .cons r (b.mapput k r)
  ·rw [if_neg e,if_neg e];exact .cons a (b.mapput k r)
theorem RepKs.append:∀ {vs ws:List (Key×V)}{l k:List (Key×PV)},RepKs K H m s vs l→RepKs K H m s ws k→RepKs K H m s (vs++ws) (l++k)
 | _,_,_,_,.nil,q=>q
 | _,_,_,_,.cons a b,q=>.cons a (b.append q)
theorem RepKs.put {vs:List (Key×V)}{l:List (Key×PV)}{u:V}{p:PV} (k:Key) (q:RepKs K H m s vs l) (r:Rep K H m s u p):RepKs K H m s (putK vs k u) (putP l k p):=by
 unfold putK putP
 rw [q.any]
 split
 ·exact q.mapput k r
 ·exact q.append (.cons r .nil)
theorem qf2 {k:Key} (r:Rep K H m s x v) (e:kyOf v=some k):x=kV k:=by cases r <;> first | cases e;rfl | cases e
end
section
variable {X:Cx}{CB:Addr}{E:XK}
theorem Reps.readss {sh:Shared}{H:Hp}{m:Mp}{s:Sto}{k:Nat} (ih:∀ {v:V}{p:PV}{u:Value}{d:PyData},Rep X.K H m s v p→RelV v u→PV.data s k p=some d→(∃ as,Reads sh.heap u d as)∧d.canLay0=true∧d.depth≤k) :
  ∀ {v:List V}{p:List PV}{u:List Value}{d:List PyData},Reps X.K H m s v p→Vals v u→mapO (PV.data s k) p=some d→(∃ as,ReadsAll sh.heap u.toArray.toList d as)∧PyData.canLayAll0 d=true∧PyData.depthAll d≤k
 | _,_,_,_,.nil,.nil,e=>by unfold mapO at e;cases e;exact ⟨⟨_,.nil⟩,rfl,Nat.zero_le _⟩
 | _,_,_,_,.cons a b,.cons r rs,e=>by
  unfold mapO at e
  split at e <;> cases e
  rename_i h1 h2
  obtain ⟨⟨as,r1⟩,r2,r3⟩:=ih a r h1
  obtain ⟨⟨bs,q1⟩,q2,q3⟩:=Reps.readss ih b rs h2
  refine ⟨⟨_,.cons r1 (by simpa using q1)⟩,by unfold PyData.canLayAll0;rw [r2,q2];rfl,?_⟩
  unfold PyData.depthAll
  omega
theorem Rep.reads {pins:List (Addr×Obj)}{σ:St}{H:Hp}{sh:Shared}{m:Mp}{s:Sto} (I:Inv X pins σ H sh) (S:SR X.K CB H m s):∀ (k:Nat) {v:V}{p:PV}{u:Value}{d:PyData},Rep X.K H m s v p→RelV v u→PV.data s k p=some d →
  (∃ as,Reads sh.heap u d as)∧d.canLay0=true∧d.depth≤k
 | 0,_,p,_,_,_,_,e=>by cases p <;> (unfold PV.data at e;cases e)
 | k+1,_,_,_,_,.non,ru,e=>by cases ru;unfold PV.data at e;cases e;exact ⟨⟨_,.none⟩,rfl,Nat.zero_le _⟩
 | k+1,_,_,_,_,.bl,ru,e=>by cases ru;unfold PV.data at e;cases e;exact ⟨⟨_,.bool _⟩,rfl,Nat.zero_le _⟩
 | k+1,_,_,_,_,.int,ru,e=>by obtain ⟨t,rfl⟩:=ru;unfold PV.data at e;cases e;exact ⟨⟨_,.int _ _⟩,rfl,Nat.zero_le _⟩
 | k+1,_,_,_,_,.str,ru,e=>by
  obtain ⟨t,rfl⟩:=ru;unfold PV.data at e
  split at e <;> cases e
  rename_i h
  exact ⟨⟨_,.str _ _⟩,h,Nat.zero_le _⟩
 | k+1,_,_,_,_,.tup (l:=l) h q,ru,e=>by
  cases ru;unfold PV.data at e
  cases c:mapO (PV.data s k) l with
  | none=>rw [c] at e;cases e
  | some ds =>
   rw [c] at e;cases e
   obtain ⟨its,rv,⟨o,g1,g2,n,g3⟩,_⟩:=I.tuple (h.elim (fun z=>(.inl z.1:SqT X.K H _ _)) .inr)
   obtain ⟨⟨as,r1⟩,r2,r3⟩:=Reps.readss (Rep.reads I S k) q rv c
   exact ⟨⟨_,.tuple g1 g2 g3 r1⟩,by unfold PyData.canLay0;exact r2,by unfold PyData.depth;omega⟩
 | k+1,_,_,_,_,.lst (l:=l) h _ q,ru,e=>by
  cases ru;unfold PV.data at e
  cases c:mapO (PV.data s k) l with
  | none=>rw [c] at e;cases e
  | some ds =>
   rw [c] at e;cases e
   obtain ⟨its,rv,⟨o,n,g1,g2,_,g3⟩,_⟩:=I.list (SqL.of h)
   obtain ⟨⟨as,r1⟩,r2,r3⟩:=Reps.readss (Rep.reads I S k) q rv c
   exact ⟨⟨_,.list g1 g2 g3 r1⟩,by unfold PyData.canLay0;exact r2,by unfold PyData.depth;omega⟩
 | k+1,_,_,_,_,.seq (l:=l) h q,ru,e=>by
  cases ru;unfold PV.data at e
  cases c:mapO (PV.data s k) l with
  | none=>rw [c] at e;cases e
  | some ds =>
   rw [c] at e;cases e
   obtain ⟨its,rv,⟨o,n,g1,g2,_,g3⟩,_⟩:=I.list (h.elim (fun z=>(.inl (.inr z.1):SqL X.K H _ _)) .inr)
   obtain ⟨⟨as,r1⟩,r2,r3⟩:=Reps.readss (Rep.reads I S k) q rv c
   exact ⟨⟨_,.list g1 g2 g3 r1⟩,by unfold PyData.canLay0;exact r2,by unfold PyData.depth;omega⟩
 | k+1,_,_,_,_,.dct _ _ _,_,e=>by unfold PV.data at e;cases e
 | k+1,_,_,_,_,.exc _ _,_,e=>by unfold PV.data at e;cases e
 | k+1,_,_,_,_,.clo _,_,e=>by unfold PV.data at e;cases e
 | k+1,_,_,_,_,.ref _,ru,e=>by
  cases ru;unfold PV.data at e
  split at e <;> first | cases e | skip
  rename_i l hg
  cases c:mapO (PV.data s k) l with
  | none=>rw [c] at e;cases e
  | some ds =>
   rw [c] at e;cases e
   obtain ⟨_,vs,h1,q⟩:=S.get hg
   obtain ⟨its,rv,⟨o,n,g1,g2,_,g3⟩,_⟩:=I.list (SqL.of h1)
   obtain ⟨⟨as,r1⟩,r2,r3⟩:=Reps.readss (Rep.reads I S k) q rv c
   exact ⟨⟨_,.list g1 g2 g3 r1⟩,by unfold PyData.canLay0;exact r2,by unfold PyData.depth;omega⟩
end
end L2
namespace L2
open PySem PySem.Spec PyProof.Rows
def Bt (k:Nat) (n:Int):Prop:=n.natAbs < 2 ^ k
theorem Bt.mono {k l:Nat}{n:Int} (h:Bt k n) (hl:k≤l):Bt l n:=Nat.lt_of_lt_of_le h (Nat.pow_le_pow_right (by decide) hl)
theorem Bt.mul {k l:Nat}{n m:Int} (h:Bt k n) (g:Bt l m):Bt (k+l) (n * m):=by
 unfold Bt at *
 rw [Int.natAbs_mul,Nat.pow_add]
 by_cases z:m.natAbs=0
 ·rw [z,Nat.mul_zero];exact Nat.mul_pos (Nat.two_pow_pos k) (Nat.two_pow_pos l)
 ·exact Nat.lt_of_lt_of_le (Nat.mul_lt_mul_of_pos_right h (Nat.pos_of_ne_zero z)) (Nat.mul_le_mul_left _ (Nat.le_of_lt g))
theorem Bt.neg {k:Nat}{n:Int} (h:Bt k n):Bt k (-n):=by unfold Bt at *;rw [Int.natAbs_neg];exact h
theorem Bt.div {k:Nat}{n d:Int} (h:Bt k n):Bt k (n / d):=Nat.lt_of_le_of_lt (Int.natAbs_ediv_le_natAbs n d) h
theorem Bt.dvd {k:Nat}{n d:Int} (h:Bt k n) (hn:n≠0) (hd:d ∣ n):Bt k d:=Nat.lt_of_le_of_lt (Nat.le_of_dvd (by omega) (Int.natAbs_dvd_natAbs.mpr hd)) h
theorem Bt.log {n:Int} (h:Bt 9000 n) (h0:0 < n):n.natAbs.log2 < 9000:=(Nat.log2_lt (by omega)).mpr h
section
variable {X:Cx}
theorem qo7 {i:Int} (h:Bt 20000 i):Builtin.Int.intBits i≤2 ^ 20:=by
 unfold Builtin.Int.intBits
 split
 ·exact Nat.zero_le _
 ·rename_i z
  have z:i≠0:=by simpa using z
  have:=(Nat.log2_lt (by omega:i.natAbs≠0)).mpr h
  omega
theorem op_mulB:OpR X (binaryOp .Mult) (rI (fun i j=>Bt 20000 i∧Bt 20000 j) fun i j=>.int (i * j)):=opI fun _ _ _ _ _ _ _ hc q=>mul_int q (.of_bits (qo7 hc.1) (qo7 hc.2))
def rCatS (K:PySem.W.Frag):R2:=fun x y H Q=>∃ l b xs zs,x=.ref l∧y=.ref b∧SqL K H l xs∧SqL K H b zs∧xs.length+zs.length≤sizeLine∧∀ p,H p=none→Q (.ref p) (upd H p (.lst (xs++zs)))
theorem op_catS:OpR X (binaryOp .Add) (rCatS X.K):=by
 intro pins s σ H x y v u Q I rx ry h
 obtain ⟨l,b,xs,zs,rfl,rfl,hH,hB,hz,q⟩:=h
 cases rx
 cases ry
 obtain ⟨its,r,ht,_⟩:=I.list hH
 obtain ⟨its2,r2,ht2,_⟩:=I.list hB
 have l1:=r.length
 have l2:=r2.length
 obtain ⟨⟨cls,dd,data,sl⟩,n,ho,hc,_,hd⟩:=ht
 obtain ⟨⟨cls2,dd2,data2,sl2⟩,n2,ho2,hc2,_,hd2⟩:=ht2
 simp only at hc hd hc2 hd2
 subst hc hd hc2 hd2
 refine concat_meets ⟨_,ho,rfl⟩ ⟨_,ho2,rfl⟩ noFill_list_add seq_list_add PySem.F.slot_list_add PySem.F.entry_list_add (PySem.F.args_list_add_2 _ _) (list_addW l b its.toArray its2.toArray n n2 dd dd2 sl sl2 (by rw [List.size_toArray,List.size_toArray];omega)) ⟨ho,ho2,?_⟩
 have ea:its.toArray++its2.toArray=(its++its2).toArray:=by simp
 rw [ea]
 exact ⟨.ref _,_,I.lnew (t':=s.toks) (r.append r2) (by rw [List.length_append];omega),rfl,q _ I.fresh⟩
def rIxD:R2:=fun x y H Q=>∃ a v,x=.ref a∧DGet H a y (some v)∧Q v H
theorem ix_dict (hu:X.A.units+1 < cLine):IxR X rIxD:=by
 intro value slice pins s σ H x y v u Q I rx ry h hs
 obtain ⟨a,z,rfl,g,q⟩:=h
 obtain rfl:v=Value.ref a:=rx
 have hT:=qil I g
 unfold subscriptTail
 refine wpAny_bind ?_
 rw [getitemInPython_of_ne hT.not_modules]
 refine wpAny_bind (wpAny_specialOf hT PySem.F.slot_dict_getitem.lookup ?_)
 have fin:wpAny (model X.prog X.w) X.A (subscripted slice false (.ref a) u) (fun r s₃=>wpAny (model X.prog X.w) X.A (letTemporaryGo value (.ref a) r >>= fun _=>pure r) (EP X pins σ Q) X.xe s₃) X.xe s:=by
  rw [hs]
  exact wpAny_operating (wpAny_mono (qmx hu I g ry fun w' s3 I3 rw'=>(⟨z,H,I3,rw',q⟩:EP X pins σ Q w' s3)) (fun r s₃ h₃=>wpAny_bind (wpAny_letTemporaryGo (wpAny_pure h₃))) fun _ _ x=>x)
 first
  | exact wpAny_pure (wpAny_bind fin)
  | exact wpAny_bind (wpAny_pure (wpAny_bind fin))
  | exact wpAny_bind fin
def rInD:R2:=fun y x H Q=>∃ a o,x=.ref a∧DGet H a y o∧Q (.bl o.isSome) H
def rNotInD:R2:=fun y x H Q=>∃ a o,x=.ref a∧DGet H a y o∧Q (.bl (!o.isSome)) H
theorem op_in_dict (hu:X.A.units+1 < cLine):OpR X (compareOp .In) rInD:=by
 intro pins s σ H y x v u Q I ry rx h
 obtain ⟨a,o,rfl,g,q⟩:=h
 obtain rfl:u=Value.ref a:=rx
 exact d_in hu I g ry fun s3 I3=>⟨.bl o.isSome,H,I3,rfl,q⟩
theorem qkn (hu:X.A.units+1 < cLine):OpR X (compareOp .NotIn) rNotInD:=by
 intro pins s σ H y x v u Q I ry rx h
 obtain ⟨a,o,rfl,g,q⟩:=h
 obtain rfl:u=Value.ref a:=rx
 exact d_notIn hu I g ry fun s3 I3=>⟨.bl (!o.isSome),H,I3,rfl,q⟩
theorem call_lenR:CallR X (.builtin "len") (fun xs H Q=>∃ a kvs,xs=[V.ref a]∧Rd H a (.dK kvs)∧Q (.int kvs.length) H):=by
 intro pins s σ H xs us Q I r h
 obtain ⟨a,kvs,rfl,ha,q⟩:=h
 obtain ⟨u,rfl,ru⟩:=qgh r
 cases ru
 exact d_len I ha fun t s' I'=>⟨.int kvs.length,H,I',⟨t,rfl⟩,q⟩
def rEqD (K:PySem.W.Frag) (CB:Addr) (neg:Bool):R2:=fun x y H Q=>∃ m s v w d e,SR K CB H m s∧Rep K H m s x v∧Rep K H m s y w∧PV.data s 12 v=some d∧PV.data s 12 w=some e∧Q (.bl (if neg then !PyData.eqv d e else PyData.eqv d e)) H
theorem op_eqD {CB:Addr} (hu:X.A.units+12 < cLine):OpR X (compareOp .Eq) (rEqD X.K CB false):=by
 intro pins s σ H x y v u Q I rx ry h
 obtain ⟨m,t,p,q,d,e,S,r1,r2,e1,e2,k⟩:=h
 obtain ⟨⟨as,a1⟩,a2,a3⟩:=r1.reads I S 12 rx e1
 obtain ⟨⟨bs,b1⟩,b2,b3⟩:=r2.reads I S 12 ry e2
 exact SeqAt.rcAt_reads a1 b1 a2 b2 (by omega) _ _ _ _ ⟨.bl _,H,I,rfl,k⟩
theorem op_neD {CB:Addr} (hu:X.A.units+12 < cLine):OpR X (compareOp .NotEq) (rEqD X.K CB true):=by
 intro pins s σ H x y v u Q I rx ry h
 obtain ⟨m,t,p,q,d,e,S,r1,r2,e1,e2,k⟩:=h
 obtain ⟨⟨as,a1⟩,a2,a3⟩:=r1.reads I S 12 rx e1
 obtain ⟨⟨bs,b1⟩,b2,b3⟩:=r2.reads I S 12 ry e2
 exact SeqAt.rcNeAt_reads a1 b1 a2 b2 (by omega) _ _ _ _ ⟨.bl _,H,I,rfl,k⟩
end
end L2
namespace L2
open PySem PySem.Spec PyProof.Rows
def qmc (i j:Int):Prop:=(Bt 20000 i∧Bt 20000 j)∨CMul i j
def divOk (j:Int):Prop:=0 < j∧Bt 9000 j
noncomputable instance (i j:Int):Decidable (qmc i j):=Classical.propDecidable _
noncomputable instance (j:Int):Decidable (divOk j):=Classical.propDecidable _
def fAdd (v w:PV) (s:Sto):Out PV:=match v,w with
 | .int i,.int j=>.ok (.int (i+j)) s
 | .str x,.str y=>if x.length+y.length≤100000 then .ok (.str (x++y)) s else .bad
 | v,w=>match lsOf s v,lsOf s w with
  | some l,some k=>if l.length+k.length≤100000 then .ok (.lst (l++k)) s else .bad
  | _,_=>.bad
def fSub (v w:PV) (s:Sto):Out PV:=match v,w with
 | .int i,.int j=>.ok (.int (i - j)) s
 | _,_=>.bad
noncomputable def fMul (v w:PV) (s:Sto):Out PV:=match v,w with
 | .int i,.int j=>if qmc i j then .ok (.int (i * j)) s else .bad
 | .lst l,.int k=>if -(2 ^ 63)≤k∧k < 2 ^ 63∧l.length * k.toNat≤100000 then .ok (.lst (List.replicate k.toNat l).flatten) s else .bad
 | _,_=>.bad
noncomputable def fDiv (v w:PV) (s:Sto):Out PV:=match v,w with
 | .int i,.int j=>if divOk j then .ok (.int (i / j)) s else .bad
 | _,_=>.bad
def fMod (v w:PV) (s:Sto):Out PV:=match v,w with
 | .int i,.int j=>if 0 < j then .ok (.int (i % j)) s else .bad
 | _,_=>.bad
def fPow (v w:PV) (s:Sto):Out PV:=match v,w with
 | .int i,.int j=>if 0≤j∧j≤1000000∧i.natAbs < 2 ^ 64 then .ok (.int (i ^ j.toNat)) s else .bad
 | _,_=>.bad
def fCmp (p:Int→Int→Bool) (v w:PV) (s:Sto):Out PV:=match v,w with
 | .int i,.int j=>.ok (.bl (p i j)) s
 | _,_=>.bad
abbrev fLt:=fCmp fun i j=>decide (i < j)
abbrev fGt:=fCmp fun i j=>decide (j < i)
abbrev fGe:=fCmp fun i j=>decide (j≤i)
def fEqN (neg:Bool) (v w:PV) (s:Sto):Out PV:=match PV.data s 12 v,PV.data s 12 w with
 | some d,some e=>.ok (.bl (if neg then !PyData.eqv d e else PyData.eqv d e)) s
 | _,_=>.bad
abbrev fEq:=fEqN false
abbrev fNe:=fEqN true
def PV.isNon:PV→Bool
 | .non=>true
 | _=>false
def fIs (v w:PV) (s:Sto):Out PV:=match w with
 | .non=>.ok (.bl v.isNon) s
 | _=>.bad
def fIsnt (v w:PV) (s:Sto):Out PV:=match w with
 | .non=>.ok (.bl (!v.isNon)) s
 | _=>.bad
def xor' (neg b:Bool):Bool:=if neg then !b else b
def fInN (neg:Bool) (v w:PV) (s:Sto):Out PV:=match dcOf s w with
 | some l=>match kyOf v with
  | some k=>.ok (.bl (xor' neg (valP l k).isSome)) s
  | none=>.bad
 | none=>match toV v with
  | none=>.bad
  | some x=>match w with
   | .tup l=>match toVs l with
    | some zs=>.ok (.bl (xor' neg (inV x zs))) s
    | none=>.bad
   | w=>match lsOf s w with
    | some l=>match toVs l with
     | some zs=>.ok (.bl (xor' neg (inV x zs))) s
     | none=>.bad
    | none=>.bad
abbrev fIn:=fInN false
abbrev qdy:=fInN true
def fIx (v w:PV) (s:Sto):Out PV:=match v with
 | .tup l=>match w with
  | .int i=>match atI l i with
   | some p=>.ok p s
   | none=>.bad
  | _=>.bad
 | .str x=>match w with
  | .int i=>match atI x.cps.toList i with
   | some c=>if x.length≤100000 then .ok (.str ⟨#[c]⟩) s else .bad
   | none=>.bad
  | _=>.bad
 | v=>match lsOf s v with
  | some l=>match w with
   | .int i=>match atI l i with
    | some p=>.ok p s
    | none=>.bad
   | _=>.bad
  | none=>match dcOf s v with
   | some l=>match kyOf w with
    | some k=>match valP l k with
     | some p=>.ok p s
     | none=>.bad
    | none=>.bad
   | none=>.bad
def fNeg (v:PV) (s:Sto):Out PV:=match v with
 | .int i=>.ok (.int (-i)) s
 | _=>.bad
section
variable {X:Cx}{CB:Addr}{E:XK}
theorem o_add:Op2 X.K CB E (fun x y H Q=>rI0 (fun i j=>V.int (i+j)) x y H Q∨(∃ i j,x=V.str i∧y=V.str j∧i.length+j.length≤sizeLine∧Q (V.str (i++j)) H)∨rCatS X.K x y H Q) fAdd:=by
 intro H m s v w x y Q S rx ry P
 unfold fAdd at P
 split at P
 ·cases rx;cases ry;exact .inl ⟨_,_,rfl,rfl,P.here S .int⟩
 ·cases rx;cases ry
  split at P
  ·rename_i h;exact .inr (.inl ⟨_,_,rfl,rfl,sz5 h,P.here S .str⟩)
  ·exact P.elim
 ·split at P
  ·rename_i l k h1 h2
   split at P
   ·rename_i h
    obtain ⟨a,vs,rfl,q1,r1⟩:=rx.ls S h1
    obtain ⟨b,ws,rfl,q2,r2⟩:=ry.ls S h2
    exact .inr (.inr ⟨a,b,vs,ws,rfl,rfl,q1,q2,by rw [r1.length,r2.length];exact sz5 h,fun p hp=>P.new S hp fun ex S'=>.lst qae (S.pure_none hp) ((r1.append r2).ext ex)⟩)
   ·exact P.elim
  ·exact P.elim
theorem op_addU:OpR X (binaryOp .Add) (fun x y H Q=>rI0 (fun i j=>V.int (i+j)) x y H Q∨(∃ i j,x=V.str i∧y=V.str j∧i.length+j.length≤sizeLine∧Q (V.str (i++j)) H)∨rCatS X.K x y H Q):=op_add.or (op_add_str.or op_catS)
theorem o_sub:Op2 X.K CB E (rI0 fun i j=>V.int (i - j)) fSub:=by
 intro H m s v w x y Q S rx ry P
 unfold fSub at P
 split at P
 ·cases rx;cases ry;exact ⟨_,_,rfl,rfl,P.here S .int⟩
 ·exact P.elim
theorem Reps.rep {K:PySem.W.Frag}{H:Hp}{m:Mp}{s:Sto}{vs:List V}{l:List PV} (r:Reps K H m s vs l):∀ n,Reps K H m s (List.replicate n vs).flatten (List.replicate n l).flatten
 | 0=>.nil
 | n+1=>by rw [List.replicate_succ,List.replicate_succ,List.flatten_cons,List.flatten_cons];exact r.append (r.rep n)
theorem o_mul:Op2 X.K CB E (fun x y H Q=>(rI (fun i j=>Bt 20000 i∧Bt 20000 j) (fun i j=>V.int (i * j)) x y H Q∨rI CMul (fun i j=>V.int (i * j)) x y H Q)∨rRep x y H Q) fMul:=by
 intro H m s v w x y Q S rx ry P
 unfold fMul at P
 split at P
 ·cases rx;cases ry
  split at P
  ·rename_i h
   rcases h with h | h
   ·exact .inl (.inl ⟨_,_,rfl,rfl,h,P.here S .int⟩)
   ·exact .inl (.inr ⟨_,_,rfl,rfl,h,P.here S .int⟩)
  ·exact P.elim
 ·split at P
  ·rename_i h
   cases rx with
   | lst h1 _ r1 =>
    cases ry
    exact .inr ⟨_,_,_,rfl,rfl,h1,h.1,h.2.1,by rw [r1.length];exact sz5 h.2.2,fun p hp=>P.new S hp fun ex S'=>.lst qae (S.pure_none hp) ((r1.rep _).ext ex)⟩
  ·exact P.elim
 ·exact P.elim
theorem op_mulU:OpR X (binaryOp .Mult) (fun x y H Q=>(rI (fun i j=>Bt 20000 i∧Bt 20000 j) (fun i j=>V.int (i * j)) x y H Q∨rI CMul (fun i j=>V.int (i * j)) x y H Q)∨rRep x y H Q):=(op_mulB.or op_mul).or op_rep
theorem o_div:Op2 X.K CB E (rI (fun _ j=>0 < j∧j.natAbs.log2 < 9000) fun i j=>V.int (i / j)) fDiv:=by
 intro H m s v w x y Q S rx ry P
 unfold fDiv at P
 split at P
 ·cases rx;cases ry
  split at P
  ·rename_i h;exact ⟨_,_,rfl,rfl,⟨h.1,h.2.log h.1⟩,P.here S .int⟩
  ·exact P.elim
 ·exact P.elim
theorem o_mod:Op2 X.K CB E (rI (fun _ j=>0 < j) fun i j=>V.int (i % j)) fMod:=by
 intro H m s v w x y Q S rx ry P
 unfold fMod at P
 split at P
 ·cases rx;cases ry
  split at P
  ·rename_i h;exact ⟨_,_,rfl,rfl,h,P.here S .int⟩
  ·exact P.elim
 ·exact P.elim
theorem o_pow:Op2 X.K CB E (rI CPow fun i j=>V.int (i ^ j.toNat)) fPow:=by
 intro H m s v w x y Q S rx ry P
 unfold fPow at P
 split at P
 ·cases rx;cases ry
  split at P
  ·rename_i h;exact ⟨_,_,rfl,rfl,h,P.here S .int⟩
  ·exact P.elim
 ·exact P.elim
theorem o_cmp {p:Int→Int→Bool}:Op2 X.K CB E (rI0 fun i j=>V.bl (p i j)) (fCmp p):=by
 intro H m s v w x y Q S rx ry P
 unfold fCmp at P
 split at P
 ·cases rx;cases ry;exact ⟨_,_,rfl,rfl,P.here S .bl⟩
 ·exact P.elim
theorem o_eqN {neg:Bool}:Op2 X.K CB E (rEqD X.K CB neg) (fEqN neg):=by
 intro H m s v w x y Q S rx ry P
 unfold fEqN at P
 split at P
 ·rename_i d e h1 h2;exact ⟨m,s,v,w,d,e,S,rx,ry,h1,h2,P.here S .bl⟩
 ·exact P.elim
def rDin (neg:Bool):R2:=fun y x H Q=>∃ a o,x=.ref a∧DGet H a y o∧Q (.bl (xor' neg o.isSome)) H
theorem o_in {neg:Bool}:Op2 X.K CB E (fun x y H Q=>rDin neg x y H Q∨rIn X.K neg x y H Q) (fInN neg):=by
 intro H m s v w x y Q S rx ry P
 unfold fInN at P
 split at P
 ·rename_i l hl
  split at P
  ·rename_i k hk
   obtain ⟨a,vs,rfl,q,r⟩:=ry.dc S hl
   refine .inl ⟨a,valV vs k,rfl,.inl ⟨vs,k,q,qf2 rx hk,rfl⟩,?_⟩
   obtain ⟨r1,r2⟩:=r.val k
   cases c:valP l k with
   | none=>rw [r2 c];rw [c] at P;exact P.here S .bl
   | some p=>obtain ⟨u,e,_⟩:=r1 p c;rw [e];rw [c] at P;exact P.here S .bl
  ·exact P.elim
 ·split at P
  ·exact P.elim
  ·rename_i z hz
   have ez:=rx.toV hz
   subst ez
   split at P
   ·split at P
    ·rename_i l zs hzs
     obtain ⟨a,vs,rfl,q,r⟩:=ry.tp
     have e:=r.toVs hzs
     subst e
     exact .inr ⟨a,vs,rfl,.inr q,qj4 hz,qhu hzs,P.here S .bl⟩
    ·exact P.elim
   ·split at P
    ·rename_i l hl
     split at P
     ·rename_i zs hzs
      obtain ⟨a,vs,rfl,q,r⟩:=ry.ls S hl
      have e:=r.toVs hzs
      subst e
      exact .inr ⟨a,vs,rfl,.inl q,qj4 hz,qhu hzs,P.here S .bl⟩
     ·exact P.elim
    ·exact P.elim
theorem op_inU (hu:X.A.units+1 < cLine):OpR X (compareOp .In) (fun x y H Q=>rDin false x y H Q∨rIn X.K false x y H Q):=(op_in_dict hu).or op_in_seq
theorem op_notInU (hu:X.A.units+1 < cLine):OpR X (compareOp .NotIn) (fun x y H Q=>rDin true x y H Q∨rIn X.K true x y H Q):=(qkn hu).or ql2
theorem o_ix:Op2 X.K CB E (fun x y H Q=>(rIxT X.K x y H Q∨rIxS x y H Q)∨(rIxL X.K x y H Q∨rIxD x y H Q)) fIx:=by
 intro H m s v w x y Q S rx ry P
 unfold fIx at P
 split at P
 ·split at P
  ·split at P
   ·rename_i p hp
    cases ry
    obtain ⟨a,vs,rfl,q,r⟩:=rx.tp
    obtain ⟨u,e,ru⟩:=r.atI hp
    exact .inl (.inl ⟨a,vs,_,u,rfl,rfl,q,e,P.here S ru⟩)
   ·exact P.elim
  ·exact P.elim
 ·split at P
  ·split at P
   ·rename_i c hc
    split at P
    ·rename_i hl
     cases rx;cases ry
     exact .inl (.inr ⟨_,_,c,rfl,rfl,sz5 hl,hc,P.here S .str⟩)
    ·exact P.elim
   ·exact P.elim
  ·exact P.elim
 ·split at P
  ·rename_i l hl
   split at P
   ·split at P
    ·rename_i p hp
     cases ry
     obtain ⟨a,vs,rfl,q,r⟩:=rx.ls S hl
     obtain ⟨u,e,ru⟩:=r.atI hp
     exact .inr (.inl ⟨a,vs,_,u,rfl,rfl,q,e,P.here S ru⟩)
    ·exact P.elim
   ·exact P.elim
  ·split at P
   ·rename_i l hl
    split at P
    ·rename_i k hk
     split at P
     ·rename_i p hp
      obtain ⟨a,vs,rfl,q,r⟩:=rx.dc S hl
      obtain ⟨u,e,ru⟩:=(r.val k).1 p hp
      exact .inr (.inr ⟨a,u,rfl,.inl ⟨vs,k,q,qf2 ry hk,e.symm⟩,P.here S ru⟩)
     ·exact P.elim
    ·exact P.elim
   ·exact P.elim
theorem ix_U (hu:X.A.units+1 < cLine):IxR X (fun x y H Q=>(rIxT X.K x y H Q∨rIxS x y H Q)∨(rIxL X.K x y H Q∨rIxD x y H Q)):=(ix_tup.or ix_str).or (ix_list.or (ix_dict hu))
theorem o_neg:Op1 X.K CB E (rU fun i=>V.int (-i)) fNeg:=by
 intro H m s v x Q S rx P
 unfold fNeg at P
 split at P
 ·cases rx;exact ⟨_,rfl,P.here S .int⟩
 ·exact P.elim
variable {a b c e:Expr}{es:List Expr}{f g h:XE}{fa:XA}{p pos apos cpos:Pos}{x:Str}
theorem qcn (ha:DE X CB E a f) (hb:DE X CB E b g):DE X CB E (.BinOp a .Add b pos) (x2 f g fAdd):=de_op op_addU o_add ha hb
theorem de_sub (ha:DE X CB E a f) (hb:DE X CB E b g):DE X CB E (.BinOp a .Sub b pos) (x2 f g fSub):=de_op op_sub o_sub ha hb
theorem qeg (ha:DE X CB E a f) (hb:DE X CB E b g):DE X CB E (.BinOp a .Mult b pos) (x2 f g fMul):=de_op op_mulU o_mul ha hb
theorem de_div (ha:DE X CB E a f) (hb:DE X CB E b g):DE X CB E (.BinOp a .FloorDiv b pos) (x2 f g fDiv):=de_op qex o_div ha hb
theorem qju (ha:DE X CB E a f) (hb:DE X CB E b g):DE X CB E (.BinOp a .Mod b pos) (x2 f g fMod):=de_op op_mod o_mod ha hb
theorem qo1 (ha:DE X CB E a f) (hb:DE X CB E b g):DE X CB E (.BinOp a .Pow b pos) (x2 f g fPow):=de_op op_pow o_pow ha hb
theorem de_neg (ha:DE X CB E a f):DE X CB E (.UnaryOp .USub a pos) (x1 f fNeg):=de_un un_neg o_neg ha
theorem qbd (hu:X.A.units+1 < cLine) (ha:DE X CB E a f) (hb:DE X CB E b g) (hs:PlainIx b):DE X CB E (.Subscript a b pos) (x2 f g fIx):=⟨(qfh (ix_U hu) ha.pe hb.pe hs).mono fun σ H Q q=>two o_ix q⟩
structure CmpR (X:Cx) (CB:Addr) (E:XK) (op:CmpOp) (F:PV→PV→Sto→Out PV):Prop where
 ex:∃ r,OpR X (compareOp op) r∧Op2 X.K CB E r F
theorem c_lt:CmpR X CB E .Lt fLt:=⟨_,op_lt,o_cmp⟩
theorem c_gt:CmpR X CB E .Gt fGt:=⟨_,op_gt,o_cmp⟩
theorem c_ge:CmpR X CB E .GtE fGe:=⟨_,op_ge,o_cmp⟩
theorem c_eq (hu:X.A.units+12 < cLine):CmpR X CB E .Eq fEq:=⟨_,op_eqD hu,o_eqN⟩
theorem c_ne (hu:X.A.units+12 < cLine):CmpR X CB E .NotEq fNe:=⟨_,op_neD hu,o_eqN⟩
theorem c_in (hu:X.A.units+1 < cLine):CmpR X CB E .In fIn:=⟨_,op_inU hu,o_in⟩
theorem c_notin (hu:X.A.units+1 < cLine):CmpR X CB E .NotIn qdy:=⟨_,op_notInU hu,o_in⟩
theorem de_cp {op:CmpOp}{F:PV→PV→Sto→Out PV} (r:CmpR X CB E op F) (ha:DE X CB E a f) (hb:DE X CB E b g) (hm:behindInMarks op b=false):DE X CB E (.Compare a [op] [b] pos) (x2 f g F):=let ⟨_,r1,r2⟩:=r.ex;L2.de_cmp r1 r2 ha hb hm
theorem qgt {op:CmpOp}{F:PV→PV→Sto→Out PV} (r:CmpR X CB E op F) (ha:DE X CB E a f) (hb:DE X CB E b g) (hm:behindInMarks op b=false):DT X CB E (.Compare a [op] [b] pos) (xTr (x2 f g F)):=let ⟨_,r1,r2⟩:=r.ex;L2.dt_cmp r1 r2 ha hb hm
abbrev XO':=En→Sto→Out (Option Int)
def TDO (K:PySem.W.Frag) (CB:Addr) (E:XK) (f:XO'):TO:=fun σ H Q=>∃ ρ s m,ER K H m s σ ρ∧SR K CB H m s∧Post K CB (fun _ _ _ u v=>u=v) E (f ρ s) H m s Q
structure DO (X:Cx) (CB:Addr) (E:XK) (e:Option Expr) (f:XO'):Prop where
 po:PO X e (TDO X.K CB E f)
def xNoP (_:En) (s:Sto):Out (Option Int):=.ok none s
def xPart (f:XE) (ρ:En) (s:Sto):Out (Option Int):=(f ρ s).bind fun v s1=>match v with
 | .int i=>.ok (some i) s1
 | _=>.bad
theorem PO.mono {e:Option Expr}{t t':TO} (h:PO X e t) (k:∀ σ H Q,t' σ H Q→t σ H Q):PO X e t':=fun pins s σ H Q I q=>h pins s σ H Q I (k σ H Q q)
theorem qns:DO X CB E none xNoP:=⟨po_none.mono fun σ H Q ⟨ρ,s,m,er,S,P⟩=>P.here S rfl⟩
theorem qik (h:DE X CB E e f):DO X CB E (some e) (xPart f):=⟨(po_some h.pe).mono fun σ H Q ⟨ρ,s,m,er,S,P⟩=>⟨ρ,s,m,er,S,P.bind fun v s1 u H1 m1 e1 S1 r1 P1=>by
 cases r1 <;> first | exact P1.elim | exact ⟨_,rfl,P1.here S1 rfl⟩⟩⟩
def cutP (l:List PV) (lo hi:Option Int):List PV:=(l.drop (HT.sIx l.length 0 lo)).take (HT.sIx l.length l.length hi - HT.sIx l.length 0 lo)
def fSl (v:PV) (lo hi:Option Int) (s:Sto):Out PV:=match v with
 | .tup l=>if HT.sIx l.length 0 lo=0∧HT.sIx l.length l.length hi=l.length then .bad else .ok (.tup (cutP l lo hi)) s
 | v=>match lsOf s v with
  | some l=>.ok (.lst (cutP l lo hi)) s
  | none=>.bad
def xSl (f:XE) (lo hi:XO') (ρ:En) (s:Sto):Out PV:=(f ρ s).bind fun v s1=>(lo ρ s1).bind fun l s2=>(hi ρ s2).bind fun u s3=>fSl v l u s3
theorem Reps.cut {K:PySem.W.Frag}{H:Hp}{m:Mp}{s:Sto}{vs:List V}{l:List PV} (r:Reps K H m s vs l) (lo hi:Option Int):Reps K H m s (cutV vs lo hi) (cutP l lo hi):=by
 unfold cutV cutP;rw [r.length];exact (r.drop _).take _
theorem de_sl {lo hi:Option Expr}{fl fh:XO'}{p2:Pos} (ha:DE X CB E a f) (hl:DO X CB E lo fl) (hh:DO X CB E hi fh):DE X CB E (.Subscript a (.Slice lo hi none p2) pos) (xSl f fl fh) :=
 ⟨(pe_slice (sl_list.or sl_tup) ha.pe hl.po hh.po).mono fun σ H Q ⟨ρ,s,m,er,S,P⟩=>⟨ρ,s,m,er,S,P.bind fun v s1 u H1 m1 e1 S1 r1 P1=>⟨ρ,s1,m1,er.ext e1,S1,P1.bind fun l s2 l' H2 m2 e2 S2 r2 P2=>by
  cases r2
  refine ⟨ρ,s2,m2,(er.ext e1).ext e2,S2,P2.bind fun k s3 k' H3 m3 e3 S3 r3 P3=>?_⟩
  cases r3
  have r1:=(r1.ext e2).ext e3
  unfold fSl at P3
  split at P3
  ·split at P3
   ·exact P3.elim
   ·rename_i hn
    obtain ⟨a,vs,rfl,q,r⟩:=r1.tp
    exact .inr ⟨a,vs,rfl,q,by rw [r.length];exact hn,fun p hp=>P3.new S3 hp fun ex S'=>.tup (.inl ⟨.inl qae,S'.pure_tup qae⟩) ((r.cut _ _).ext ex)⟩
  ·split at P3
   ·rename_i l hl
    obtain ⟨a,vs,rfl,q,r⟩:=r1.ls S3 hl
    exact .inl ⟨a,vs,rfl,q,fun p hp=>P3.new S3 hp fun ex S'=>.lst qae (S3.pure_none hp) ((r.cut _ _).ext ex)⟩
   ·exact P3.elim⟩⟩⟩
def xB (fa:XA) (F:List PV→Sto→Out PV) (ρ:En) (s:Sto):Out PV:=(fa ρ s).bind F
theorem nOf {r:List V→Hp→VK→Prop}{F:List PV→Sto→Out PV} (o:OpN X.K CB E r F) {σ:St}{H:Hp}{Q:VK} (q:TDE X.K CB E (xB fa F) σ H Q):tCB r (TDA X.K CB E fa) σ H Q:=by
 obtain ⟨ρ,s,m,er,S,P⟩:=q
 exact ⟨ρ,s,m,er,S,P.bind fun v s1 u H1 m1 e1 S1 r1 P1=>o H1 m1 s1 v u Q S1 r1 P1⟩
structure BltR (X:Cx) (CB:Addr) (E:XK) (fv:Value) (F:List PV→Sto→Out PV):Prop where
 ex:∃ r,CallR X fv r∧OpN X.K CB E r F
theorem qbg {id:String}{F:List PV→Sto→Out PV} (r:BltR X CB E (.builtin id) F) (hg:Gl X x) (hm:X.mg x=none) (hv:bootBuiltins x=some (.builtin id)) (ha:DA X CB E (e::es) fa) (hn:x≠"__name__":=by decide) (hdb:(x == ("__debug__":Str))=false:=by decide)
  (hs:starEach (e::es) X.env=(false,eval e X.env)::starEach es X.env:=by rfl) (hpl:(backTo pos (starEach es X.env)).any (·.1)=false:=by rfl):DE X CB E (.Call (.Name x p) (e::es) [] pos) (xB fa F) :=
 let ⟨_,r1,r2⟩:=r.ex;⟨(qdp r1 hg hm hv ha.pa hn hdb hs hpl).mono fun σ H Q q=>nOf r2 q⟩
theorem de_callTy {T:String}{F:List PV→Sto→Out PV} (r:BltR X CB E (.type T) F) (hg:Gl X x) (hm:X.mg x=none) (hv:bootBuiltins x=some (.type T)) (ha:DA X CB E (e::es) fa) (hn:x≠"__name__":=by decide) (hdb:(x == ("__debug__":Str))=false:=by decide)
  (hs:starEach (e::es) X.env=(false,eval e X.env)::starEach es X.env:=by rfl) (hpl:(backTo pos (starEach es X.env)).any (·.1)=false:=by rfl):DE X CB E (.Call (.Name x p) (e::es) [] pos) (xB fa F) :=
 let ⟨_,r1,r2⟩:=r.ex;⟨(pe_callTy r1 hg hm hv ha.pa hn hdb hs hpl).mono fun σ H Q q=>nOf r2 q⟩
def fLen (vs:List PV) (s:Sto):Out PV:=match vs with
 | [.tup l]=>.ok (.int l.length) s
 | [.str x]=>if x.length≤100000 then .ok (.int x.length) s else .bad
 | [v]=>match lsOf s v with
  | some l=>.ok (.int l.length) s
  | none=>match dcOf s v with
   | some l=>.ok (.int l.length) s
   | none=>.bad
 | _=>.bad
theorem b_len:BltR X CB E (.builtin "len") fLen:=⟨_,call_len_seq.or (call_len_str.or call_lenR),by
 intro H m s v x Q S rx P
 unfold fLen at P
 split at P
 ·cases rx with
  | cons r n =>
   cases n
   obtain ⟨a,vs,rfl,q,r⟩:=r.tp
   rw [← r.length] at P
   exact .inl ⟨a,vs,rfl,.inr q,P.here S .int⟩
 ·cases rx with
  | cons r n =>
   cases n;cases r
   split at P
   ·rename_i h;exact .inr (.inl ⟨_,rfl,sz5 h,P.here S .int⟩)
   ·exact P.elim
 ·cases rx with
  | cons r n =>
   cases n
   split at P
   ·rename_i l hl
    obtain ⟨a,vs,rfl,q,r⟩:=r.ls S hl
    rw [← r.length] at P
    exact .inl ⟨a,vs,rfl,.inl q,P.here S .int⟩
   ·split at P
    ·rename_i l hl
     obtain ⟨a,vs,rfl,q,r⟩:=r.dc S hl
     rw [← r.length] at P
     exact .inr (.inr ⟨a,vs,rfl,q,P.here S .int⟩)
    ·exact P.elim
 ·exact P.elim⟩
def fAbs (vs:List PV) (s:Sto):Out PV:=match vs with
 | [.int i]=>.ok (.int (if i < 0 then -i else i)) s
 | _=>.bad
theorem b_abs:BltR X CB E (.builtin "abs") fAbs:=⟨_,call_abs,by
 intro H m s v x Q S rx P
 unfold fAbs at P
 split at P
 ·cases rx with
  | cons r n=>cases n;cases r;exact ⟨_,rfl,P.here S .int⟩
 ·exact P.elim⟩
def fInt (vs:List PV) (s:Sto):Out PV:=match vs with
 | [.int i]=>.ok (.int i) s
 | [.bl b]=>.ok (.int (if b=true then 1 else 0)) s
 | _=>.bad
theorem b_int:BltR X CB E (.type "int") fInt:=⟨_,call_int1,by
 intro H m s v x Q S rx P
 unfold fInt at P
 split at P
 ·cases rx with
  | cons r n=>cases n;cases r;exact .inl ⟨_,rfl,P.here S .int⟩
 ·cases rx with
  | cons r n=>cases n;cases r;exact .inr ⟨_,rfl,P.here S .int⟩
 ·exact P.elim⟩
def fTuple (vs:List PV) (s:Sto):Out PV:=match vs with
 | [v]=>match lsOf s v with
  | some l=>.ok (.tup l) s
  | none=>.bad
 | _=>.bad
theorem b_tuple:BltR X CB E (.type "tuple") fTuple:=⟨_,qk5,by
 intro H m s v x Q S rx P
 unfold fTuple at P
 split at P
 ·cases rx with
  | cons r n =>
   cases n
   split at P
   ·rename_i l hl
    obtain ⟨a,vs,rfl,q,r⟩:=r.ls S hl
    exact ⟨a,vs,rfl,.inl ⟨q,fun p hp=>P.new S hp fun ex S'=>.tup (.inl ⟨.inl qae,S'.pure_tup qae⟩) (r.ext ex)⟩⟩
   ·exact P.elim
 ·exact P.elim⟩
def fList (vs:List PV) (s:Sto):Out PV:=match vs with
 | [.tup l]=>.ok (.lst l) s
 | [v]=>match lsOf s v with
  | some l=>.ok (.lst l) s
  | none=>.bad
 | _=>.bad
theorem b_list:BltR X CB E (.type "list") fList:=⟨_,qm0,by
 intro H m s v x Q S rx P
 unfold fList at P
 split at P
 ·cases rx with
  | cons r n =>
   cases n
   obtain ⟨a,vs,rfl,q,r⟩:=r.tp
   exact ⟨a,vs,rfl,.inr q,fun p hp=>P.new S hp fun ex S'=>.lst qae (S.pure_none hp) (r.ext ex)⟩
 ·cases rx with
  | cons r n =>
   cases n
   split at P
   ·rename_i l hl
    obtain ⟨a,vs,rfl,q,r⟩:=r.ls S hl
    exact ⟨a,vs,rfl,.inl q,fun p hp=>P.new S hp fun ex S'=>.lst qae (S.pure_none hp) (r.ext ex)⟩
   ·exact P.elim
 ·exact P.elim⟩
def qgy:List PV→Option (List Str)
 | []=>some []
 | .str x::l=>(qgy l).map (x::·)
 | _=>none
theorem qhv:∀ {l:List PV}{ss:List Str},qgy l=some ss→l=ss.map PV.str
 | [],_,e=>by cases e;rfl
 | p::l,ss,e=>by
  unfold qgy at e
  split at e
  ·rename_i h;cases h
  ·rename_i x l' h
   cases h
   cases c:qgy l with
   | none=>rw [c] at e;cases e
   | some t=>rw [c] at e;cases e;rw [qhv c];rfl
  ·cases e
theorem qev (ss:List Str):qgy (ss.map PV.str)=some ss:=by
 induction ss with
 | nil=>rfl
 | cons x r ih=>rw [List.map_cons];unfold qgy;rw [ih];rfl
def keysOf:List (Key×PV)→Option (List Str)
 | []=>some []
 | (.inr x,_)::l=>(keysOf l).map (x::·)
 | _=>none
theorem qmh:∀ {l:List (Key×PV)}{ss:List Str},keysOf l=some ss→l.map (·.1)=ss.map Sum.inr
 | [],_,e=>by cases e;rfl
 | p::l,ss,e=>by
  unfold keysOf at e
  split at e
  ·rename_i h;cases h
  ·rename_i x _ l' h
   cases h
   cases c:keysOf l with
   | none=>rw [c] at e;cases e
   | some t=>rw [c] at e;cases e;rw [List.map_cons,qmh c];rfl
  ·cases e
def qah (vs:List PV) (s:Sto):Out PV:=match vs with
 | [v]=>match lsOf s v with
  | some l=>match qgy l with
   | some ss=>if ss.length < 64 then .ok (.lst ((srt ss).map PV.str)) s else .bad
   | none=>.bad
  | none=>match dcOf s v with
   | some l=>match keysOf l with
    | some ss=>if ss.length < 64 then .ok (.lst ((srt ss).map PV.str)) s else .bad
    | none=>.bad
   | none=>.bad
 | _=>.bad
theorem b_sorted (hc:X.calm=true):BltR X CB E (.builtin "sorted") qah:=⟨_,call_sortedL.or (qes hc),by
 intro H m s v x Q S rx P
 unfold qah at P
 split at P
 ·cases rx with
  | cons r n =>
   cases n
   split at P
   ·rename_i l hl
    split at P
    ·rename_i ss hs
     split at P
     ·rename_i h64
      obtain ⟨a,vs,rfl,q,r⟩:=r.ls S hl
      have e:=qhv hs
      subst e
      rw [r.strs] at q
      exact .inl ⟨a,ss,rfl,q,h64,fun p hp=>P.new S hp fun ex S'=>.lst qae (S.pure_none hp) (.ofStrs _)⟩
     ·exact P.elim
    ·exact P.elim
   ·split at P
    ·rename_i l hl
     split at P
     ·rename_i ss hs
      split at P
      ·rename_i h64
       obtain ⟨a,vs,rfl,q,r⟩:=r.dc S hl
       exact .inr ⟨a,vs,ss,rfl,q,r.keys.trans (qmh hs),h64,fun p hp=>P.new S hp fun ex S'=>.lst qae (S.pure_none hp) (.ofStrs _)⟩
      ·exact P.elim
     ·exact P.elim
    ·exact P.elim
 ·exact P.elim⟩
def blsOf:List PV→Option (List Bool)
 | []=>some []
 | .bl x::l=>(blsOf l).map (x::·)
 | _=>none
theorem qjz {K:PySem.W.Frag}{H:Hp}{m:Mp}{s:Sto}:∀ {vs:List V}{l:List PV}{bs:List Bool},Reps K H m s vs l→blsOf l=some bs→vs=bs.map V.bl
 | _,_,_,.nil,e=>by cases e;rfl
 | _,_,_,.cons (l:=l) a b,e=>by
  unfold blsOf at e
  split at e
  ·rename_i h;cases h
  ·rename_i h
   cases h
   cases a
   cases c:blsOf l with
   | none=>rw [c] at e;cases e
   | some t=>rw [c] at e;cases e;rw [qjz b c];rfl
  ·cases e
def fAll (vs:List PV) (s:Sto):Out PV:=match vs with
 | [v]=>match lsOf s v with
  | some l=>match blsOf l with
   | some bs=>.ok (.bl (bs.all id)) s
   | none=>.bad
  | none=>.bad
 | _=>.bad
theorem b_all (hc:X.calm=true):BltR X CB E (.builtin "all") fAll:=⟨_,qo6,by
 intro H m s v x Q S rx P
 unfold fAll at P
 split at P
 ·cases rx with
  | cons r n =>
   cases n
   split at P
   ·rename_i l hl
    split at P
    ·rename_i bs hb
     obtain ⟨a,vs,rfl,q,r⟩:=r.ls S hl
     have e:=qjz r hb
     subst e
     exact ⟨a,bs,rfl,q,hc,P.here S .bl⟩
    ·exact P.elim
   ·exact P.elim
 ·exact P.elim⟩
def xJoin (f:XE) (fa:XA) (ρ:En) (s:Sto):Out PV:=(f ρ s).bind fun v s1=>match v with
 | .str z=>(fa ρ s1).bind fun vs s2=>match vs with
  | [w]=>match lsOf s2 w with
   | some l=>match qgy l with
    | some ys=>if (ys.map (·.length)).sum+ys.length * z.length≤16777216 then .ok (.str (Txt.join z ys)) s2 else .bad
    | none=>.bad
   | none=>.bad
  | _=>.bad
 | _=>.bad
theorem de_join (ho:DE X CB E a f) (ha:DA X CB E (e::es) fa)
  (hbase:attributeBase a "join" X.env (eval a X.env)=eval a X.env:=by rfl)
  (hfew:((backTo cpos (starEach (e::es) X.env)).all (fun x=>!x.1) && (backToKw cpos (keywordEach [] X.env)).all (fun x=>x.1.isSome)
   && decide ((e::es).length+([]:List Keyword).length+(if ([]:List Keyword).isEmpty then 0 else 1) < 30))=true:=by rfl)
  (hline:(apos.endLine == cpos.line)=true:=by rfl) (hs:starEach (e::es) X.env=(false,eval e X.env)::starEach es X.env:=by rfl) (hplain:(backTo cpos (starEach es X.env)).any (·.1)=false:=by rfl) :
  DE X CB E (.Call (.Attribute a "join" apos) (e::es) [] cpos) (xJoin f fa) :=
 ⟨(pe_bm PySem.F.plainAttrs_str PySem.F.slot_str_join PySem.F.type_str_join mt_join ho.pe ha.pa hbase hfew hline hs hplain).mono fun σ H Q ⟨ρ,s,m,er,S,P⟩=>⟨ρ,s,m,er,S,P.bind fun v s1 u H1 m1 e1 S1 r1 P1=>by
  split at P1
  ·cases r1
   refine ⟨rfl,ρ,s1,m1,er.ext e1,S1,P1.bind fun vs s2 us H2 m2 e2 S2 r2 P2=>?_⟩
   split at P2
   ·cases r2 with
    | cons r n =>
     cases n
     split at P2
     ·rename_i l hl
      split at P2
      ·rename_i ys hy
       split at P2
       ·rename_i hz
        obtain ⟨b,vs,rfl,q,r⟩:=r.ls S2 hl
        have e:=qhv hy
        subst e
        rw [r.strs] at q
        exact ⟨_,b,ys,rfl,rfl,q,hz,P2.here S2 .str⟩
       ·exact P2.elim
      ·exact P2.elim
     ·exact P2.elim
   ·exact P2.elim
  ·exact P1.elim⟩⟩
def xAppend (f:XE) (fa:XA) (ρ:En) (s:Sto):Out PV:=(f ρ s).bind fun v s1=>match v with
 | .ref n=>match s1.get n with
  | some (.lst _)=>(fa ρ s1).bind fun vs s2=>match vs with
   | [w]=>match s2.get n with
    | some (.lst l)=>if l.length < 100000 then .ok .non (s2.set n (.lst (l++[w]))) else .bad
    | _=>.bad
   | _=>.bad
  | _=>.bad
 | _=>.bad
theorem SR.putL {K:PySem.W.Frag}{H:Hp}{m:Mp}{s:Sto}{n:Nat}{l l':List PV}{vs':List V} (S:SR K CB H m s) (hn:s.get n=some (.lst l)) (r:Reps K H m s vs' l') :
  SR K CB (upd H (m.ad n) (.lst vs')) (m.fput n [m.ad n]) (s.set n (.lst l'))∧Ext H m s (upd H (m.ad n) (.lst vs')) (m.fput n [m.ad n]) (s.set n (.lst l')):=by
 obtain ⟨e1,vs,h1,_⟩:=S.get hn
 refine S.put hn (by intro _ z;cases z) _ _ (fun a o h ha=>?_) (fun a ha=>.inl (by rw [e1];exact ha)) fun ex=>⟨by show (if n=n then [m.ad n] else m.fp n)=_;rw [if_pos rfl];rfl,vs',qae,r.ext0 ex⟩
 rw [e1,List.mem_singleton] at ha
 rw [qad ha];exact h
theorem SR.putD {K:PySem.W.Frag}{H:Hp}{m:Mp}{s:Sto}{n:Nat}{l l':List (Key×PV)}{vs':List (Key×V)} (S:SR K CB H m s) (hn:s.get n=some (.dct l)) (r:RepKs K H m s vs' l') :
  SR K CB (upd H (m.ad n) (.dK vs')) (m.fput n [m.ad n]) (s.set n (.dct l'))∧Ext H m s (upd H (m.ad n) (.dK vs')) (m.fput n [m.ad n]) (s.set n (.dct l')):=by
 obtain ⟨e1,vs,h1,_⟩:=S.get hn
 refine S.put hn (by intro _ z;cases z) _ _ (fun a o h ha=>?_) (fun a ha=>.inl (by rw [e1];exact ha)) fun ex=>⟨by show (if n=n then [m.ad n] else m.fp n)=_;rw [if_pos rfl];rfl,vs',qae,r.ext0 ex⟩
 rw [e1,List.mem_singleton] at ha
 rw [qad ha];exact h
theorem qgc (ho:DE X CB E a f) (ha:DA X CB E (e::es) fa)
  (hbase:attributeBase a "append" X.env (eval a X.env)=eval a X.env:=by rfl)
  (hfew:((backTo cpos (starEach (e::es) X.env)).all (fun x=>!x.1) && (backToKw cpos (keywordEach [] X.env)).all (fun x=>x.1.isSome)
   && decide ((e::es).length+([]:List Keyword).length+(if ([]:List Keyword).isEmpty then 0 else 1) < 30))=true:=by rfl)
  (hline:(apos.endLine == cpos.line)=true:=by rfl) (hs:starEach (e::es) X.env=(false,eval e X.env)::starEach es X.env:=by rfl) (hplain:(backTo cpos (starEach es X.env)).any (·.1)=false:=by rfl) :
  DE X CB E (.Call (.Attribute a "append" apos) (e::es) [] cpos) (xAppend f fa) :=
 ⟨(pe_bm PySem.F.plainAttrs_list PySem.F.slot_list_append PySem.F.type_list_append qmd ho.pe ha.pa hbase hfew hline hs hplain).mono fun σ H Q ⟨ρ,s,m,er,S,P⟩=>⟨ρ,s,m,er,S,P.bind fun v s1 u H1 m1 e1 S1 r1 P1=>by
  split at P1
  ·split at P1
   ·rename_i n _ _ hg
    obtain ⟨_,vs0,h0,_⟩:=S1.get hg
    cases r1 with
    | ref hn =>
    refine ⟨.inl ⟨rfl,vs0,SqL.of h0⟩,ρ,s1,m1,er.ext e1,S1,P1.bind fun vs s2 us H2 m2 e2 S2 r2 P2=>?_⟩
    split at P2
    ·cases r2 with
     | cons r n' =>
      cases n'
      split at P2
      ·rename_i l hg2
       split at P2
       ·rename_i hl
        obtain ⟨f1,vs1,h1,q1⟩:=S2.get hg2
        obtain ⟨S3,e3⟩:=S2.putL hg2 (q1.append (.cons r .nil))
        rw [← e2.ad _ hn]
        exact ⟨_,vs1,_,rfl,rfl,h1,by rw [q1.length];exact sz6 hl,P2 _ _ _ e3 S3 .non⟩
       ·exact P2.elim
      ·exact P2.elim
    ·exact P2.elim
   ·exact P1.elim
  ·exact P1.elim⟩⟩
def xGet (f g h:XE) (ρ:En) (s:Sto):Out PV:=(f ρ s).bind fun v s1=>match dcOf s1 v with
 | some _=>(g ρ s1).bind fun w s2=>(h ρ s2).bind fun z s3=>match dcOf s3 v with
  | some l=>match kyOf w with
   | some k=>.ok ((valP l k).getD z) s3
   | none=>.bad
  | none=>.bad
 | none=>.bad
theorem de_get (hu:X.A.units+1 < cLine) (ho:DE X CB E a f) (he:DE X CB E b g) (hf:DE X CB E c h) (mm:M2 X a "get" apos b c cpos):DE X CB E (.Call (.Attribute a "get" apos) [b,c] [] cpos) (xGet f g h) :=
 ⟨(qkk hu ho.pe he.pe hf.pe mm).mono fun σ H Q ⟨ρ,s,m,er,S,P⟩=>⟨ρ,s,m,er,S,P.bind fun v s1 u H1 m1 e1 S1 r1 P1=>by
  split at P1
  ·rename_i l0 hl0
   obtain ⟨a,vs0,rfl,q0,_⟩:=r1.dc S1 hl0
   refine ⟨a,rfl,.inl ⟨vs0,q0⟩,ρ,s1,m1,er.ext e1,S1,P1.bind fun w s2 u2 H2 m2 e2 S2 r2 P2=>⟨ρ,s2,m2,(er.ext e1).ext e2,S2,P2.bind fun z s3 u3 H3 m3 e3 S3 r3 P3=>?_⟩⟩
   split at P3
   ·rename_i l hl
    split at P3
    ·rename_i k hk
     obtain ⟨a',vs,ea,q,r⟩:=((r1.ext e2).ext e3).dc S3 hl
     cases ea
     refine ⟨valV vs k,.inl ⟨vs,k,q,qf2 (r2.ext e3) hk,rfl⟩,?_⟩
     obtain ⟨v1,v2⟩:=r.val k
     cases cc:valP l k with
     | none=>rw [v2 cc];rw [cc] at P3;exact P3.here S3 r3
     | some p=>obtain ⟨u,e,ru⟩:=v1 p cc;rw [e];rw [cc] at P3;exact P3.here S3 ru
    ·exact P3.elim
   ·exact P3.elim
  ·exact P1.elim⟩⟩
def xNewD (_:En) (s:Sto):Out PV:=.ok (.ref s.nx) (s.add (.dct []))
theorem de_newD:DE X CB E (.Dict [] [] pos) xNewD:=⟨pe_dnewK.mono fun σ H Q ⟨ρ,s,m,er,S,P⟩ p hp=>by
 obtain ⟨S2,e2⟩:=S.newD hp (My.qew hp) qae .nil
 exact P _ _ _ e2 S2 .new⟩
end
end L2
namespace L2
open PySem PySem.Spec PyProof.Rows
def Out.so {α:Type} (o:Out α) (k:α→Sto→SO):SO:=match o with
 | .ok a s=>k a s
 | .ex c s=>.ex c s
 | .bad=>.bad
def SO.noex:SO→SO
 | .ex _ _=>.bad
 | o=>o
theorem PostS.shift {K:PySem.W.Frag}{CB:Addr}{E:XK}{o:SO}{H H1:Hp}{m m1:Mp}{s s1:Sto}{D:Ends} (e:Ext H m s H1 m1 s1) (h:PostS K CB E o H m s D):PostS K CB E o H1 m1 s1 D:=by
 cases o with
 | nx=>exact fun σ' H' m' x=>h σ' H' m' (e.trans x)
 | rt=>exact fun σ' H' m' x=>h σ' H' m' (e.trans x)
 | bk=>exact fun σ' H' m' x=>h σ' H' m' (e.trans x)
 | ct=>exact fun σ' H' m' x=>h σ' H' m' (e.trans x)
 | ex=>exact fun H' m' x=>h H' m' (e.trans x)
 | bad=>exact h
theorem Post.so {α β:Type}{K:PySem.W.Frag}{CB:Addr}{R:Hp→Mp→Sto→β→α→Prop}{E:XK}{o:Out α}{k:α→Sto→SO}{H:Hp}{m:Mp}{s:Sto}{D:Ends}{Q1:β→Hp→Prop} (h:PostS K CB E (o.so k) H m s D)
  (f:∀ v s1 u H1 m1,Ext H m s H1 m1 s1→SR K CB H1 m1 s1→R H1 m1 s1 u v→PostS K CB E (k v s1) H1 m1 s1 D→Q1 u H1):Post K CB R E o H m s Q1:=by
 cases o with
 | ok v s1=>exact fun u H1 m1 x S r=>f v s1 u H1 m1 x S r (PostS.shift x h)
 | ex c s'=>exact h
 | bad=>exact h
theorem PostS.next {K:PySem.W.Frag}{CB:Addr}{E:XK}{ρ:En}{H:Hp}{m:Mp}{s:Sto}{D:Ends}{σ:St} (h:PostS K CB E (.nx ρ s) H m s D) (S:SR K CB H m s) (er:ER K H m s σ ρ):D.nx σ H:=h σ H m .refl S er
theorem PostS.noex {K:PySem.W.Frag}{CB:Addr}{E:XK}{o:SO}{H:Hp}{m:Mp}{s:Sto}{D:Ends} (h:PostS K CB E o.noex H m s D):PostS K CB E0 o H m s D:=by
 cases o <;> first | exact h | exact False.elim h
def xSet (i:Nat) (f:XE) (ρ:En) (s:Sto):SO:=(f ρ s).so fun v s1=>.nx (ρ.set i (some v)) s1
def xRet (f:XE) (ρ:En) (s:Sto):SO:=(f ρ s).so fun v s1=>.rt v s1
def xRetN (_:En) (s:Sto):SO:=.rt .non s
def xDo (f:XE) (ρ:En) (s:Sto):SO:=(f ρ s).so fun _ s1=>.nx ρ s1
def xIf (t:XT) (g h:XS) (ρ:En) (s:Sto):SO:=(t ρ s).so fun b s1=>if b=true then g ρ s1 else h ρ s1
def xEnd (ρ:En) (s:Sto):SO:=.nx ρ s
def xSeq (g h:XS) (ρ:En) (s:Sto):SO:=match g ρ s with
 | .nx ρ' s'=>h ρ' s'
 | o=>o
section
variable {X:Cx}{CB:Addr}{E:XK}{a b c e:Expr}{es:List Expr}{f g h:XE}{fa:XA}{t:XT}{p pos pos' apos cpos:Pos}{x:Str}{st:Stmt}{rest sts sts':List Stmt}{u v:XS}
theorem PS.nox {t:TS} (h:PS X.nox st t):PS X st t:=fun pins s σ H D I hw=>wpAny_mono (h pins s σ H D (I.wish _) hw) (fun _ _ q=>q.unwish) fun _ _ z=>False.elim z
theorem qau (i:Nat) (hN:X.N.Nodup) (hi:X.N[i]?=some x) (hx:Loc X.env.scope x) (he:DE X CB E e f) (hs:swapsWith e (some (.Name x pos')) pos.line X.env=pure false:=by rfl)
  (hf:X.fn x=true∨X.env.scope.names.lookup x=some .local:=by first | exact .inl rfl | exact .inr rfl | assumption):DS X CB E (.Assign [.Name x pos'] e pos) (xSet i f) :=
 ⟨(qe5 hN hi hx he.pe hs hf).mono fun D σ H ⟨ρ,s,m,er,S,P⟩=>⟨ρ,s,m,er,S,Post.so P fun v s1 u H1 m1 e1 S1 r1 P1=>P1.next S1 ((er.ext e1).set i r1)⟩⟩
theorem qbk (he:DE X CB E e f):DS X CB E (.Return (some e) pos) (xRet f) :=
 ⟨(qe6 he.pe).mono fun D σ H ⟨ρ,s,m,er,S,P⟩=>⟨ρ,s,m,er,S,Post.so P fun v s1 u H1 m1 e1 S1 r1 P1=>P1 u H1 m1 .refl S1 r1⟩⟩
theorem qk0 (he:DE X CB E e f) (hs:swapsWith e none pos.line X.env=pure false:=by rfl):DS X CB E (.Expr e pos) (xDo f) :=
 ⟨(qdt he.pe hs).mono fun D σ H ⟨ρ,s,m,er,S,P⟩=>⟨ρ,s,m,er,S,Post.so P fun v s1 u H1 m1 e1 S1 r1 P1=>P1.next S1 (er.ext e1)⟩⟩
theorem qii (hc:DT X CB E c t) (ha:DSs X CB E sts u) (hb:DSs X CB E sts' v):DS X CB E (.If c sts sts' pos) (xIf t u v) :=
 ⟨(qix hc.pt ha.pss hb.pss).mono fun D σ H ⟨ρ,s,m,er,S,P⟩=>⟨ρ,s,m,er,S,Post.so P fun v s1 u H1 m1 e1 S1 r1 P1=>by
  cases r1
  refine ite2 (fun c=>?_) fun c=>?_
  ·rw [if_pos c] at P1;exact ⟨ρ,s1,m1,er.ext e1,S1,P1⟩
  ·rw [if_neg c] at P1;exact ⟨ρ,s1,m1,er.ext e1,S1,P1⟩⟩⟩
theorem qdh:DSs X CB E [] xEnd:=⟨pss_nil.mono fun D σ H ⟨ρ,s,m,er,S,P⟩=>P.next S er⟩
theorem qan (h:DS X CB E st u):DSs X CB E [st] u:=⟨qas h.ps⟩
theorem qaf (h:DS X CB E st u) (k:DSs X CB E rest v):DSs X CB E (st::rest) (xSeq u v) :=
 ⟨(qaq h.ps k.pss).mono fun D σ H ⟨ρ,s,m,er,S,P⟩=>⟨ρ,s,m,er,S,by
  unfold xSeq at P
  cases c:u ρ s with
  | nx ρ' s'=>rw [c] at P;exact fun σ' H' m' x S' er'=>⟨ρ',s',m',er',S',PostS.shift x P⟩
  | rt=>rw [c] at P;exact P
  | bk=>rw [c] at P;exact P
  | ct=>rw [c] at P;exact P
  | ex=>rw [c] at P;exact P
  | bad=>rw [c] at P;exact P⟩⟩
abbrev XG:=PV→En→Sto→Option En
abbrev XGs:=List PV→En→Sto→Option En
def TDG (K:PySem.W.Frag) (CB:Addr) (h:XG):TG:=fun v σ H Q=>∃ ρ s m q ρ',ER K H m s σ ρ∧SR K CB H m s∧Rep K H m s v q∧h q ρ s=some ρ'∧∀ σ',ER K H m s σ' ρ'→Q σ' H
def TDGs (K:PySem.W.Frag) (CB:Addr) (h:XGs):TGs:=fun v σ H Q=>∃ ρ s m q ρ',ER K H m s σ ρ∧SR K CB H m s∧Reps K H m s v q∧h q ρ s=some ρ'∧∀ σ',ER K H m s σ' ρ'→Q σ' H
structure DG (X:Cx) (CB:Addr) (tg:Expr) (h:XG):Prop where
 pg:PG X tg (TDG X.K CB h)
structure DGs (X:Cx) (CB:Addr) (tg:List Expr) (h:XGs):Prop where
 pgs:PGs X tg (TDGs X.K CB h)
theorem PG.mono {tg:Expr}{t t':TG} (h:PG X tg t) (k:∀ v σ H Q,t' v σ H Q→t v σ H Q):PG X tg t':=fun pins s σ H v u Q I r q=>h pins s σ H v u Q I r (k v σ H Q q)
theorem PGs.mono {tg:List Expr}{t t':TGs} (h:PGs X tg t) (k:∀ v σ H Q,t' v σ H Q→t v σ H Q):PGs X tg t':=fun pins s σ H v u Q I r q=>h pins s σ H v u Q I r (k v σ H Q q)
theorem PG.or {tg:Expr}{t t':TG} (h:PG X tg t) (h':PG X tg t'):PG X tg (fun v σ H Q=>t v σ H Q∨t' v σ H Q):=fun pins s σ H v u Q I r q=>q.elim (h pins s σ H v u Q I r) (h' pins s σ H v u Q I r)
def yName (i:Nat) (q:PV) (ρ:En) (_:Sto):Option En:=some (ρ.set i (some q))
def yNil (q:List PV) (ρ:En) (_:Sto):Option En:=match q with
 | []=>some ρ
 | _=>none
def yCons (h:XG) (k:XGs) (q:List PV) (ρ:En) (s:Sto):Option En:=match q with
 | p::r=>(h p ρ s).bind fun ρ'=>k r ρ' s
 | []=>none
def yTup (n:Nat) (k:XGs) (q:PV) (ρ:En) (s:Sto):Option En:=match q with
 | .tup l=>if l.length=n then k l ρ s else none
 | q=>match lsOf s q with
  | some l=>if l.length=n then k l ρ s else none
  | none=>none
theorem qcm (i:Nat) (hN:X.N.Nodup) (hi:X.N[i]?=some x) (hx:Loc X.env.scope x) (hf:X.fn x=true∨X.env.scope.names.lookup x=some .local:=by first | exact .inl rfl | exact .inr rfl | assumption):DG X CB (.Name x pos) (yName i) :=
 ⟨(pg_name hN hi hx hf).mono fun v σ H Q ⟨ρ,s,m,q,ρ',er,S,r,e,k⟩=>by cases e;exact k _ (er.set i r)⟩
theorem dgs_nil:DGs X CB [] yNil:=⟨pgs_nil.mono fun v σ H Q ⟨ρ,s,m,q,ρ',er,S,r,e,k⟩=>by
 unfold yNil at e
 split at e <;> cases e
 cases r
 exact ⟨rfl,k _ er⟩⟩
theorem qga {h:XG}{k:XGs} (h1:DG X CB e h) (h2:DGs X CB es k) (hs:(assignEach (e::es) X.env).map (·.2)=assign e X.env::(assignEach es X.env).map (·.2):=by rfl):DGs X CB (e::es) (yCons h k) :=
 ⟨(pgs_cons h1.pg h2.pgs hs).mono fun v σ H Q ⟨ρ,s,m,q,ρ',er,S,r,e,kk⟩=>by
  unfold yCons at e
  split at e
  ·rename_i p r'
   cases r with
   | cons a b =>
    cases c:h p ρ s with
    | none=>rw [c] at e;cases e
    | some ρ1 =>
     rw [c] at e
     exact ⟨_,_,rfl,ρ,s,m,p,ρ1,er,S,a,c,fun σ1 er1=>⟨ρ1,s,m,r',ρ',er1,S,b,e,kk⟩⟩
  ·cases e⟩
theorem dg_tup {k:XGs}{n k0:Nat} (hc:X.calm=true) (h:DGs X CB es k) (hn:(assignEach es X.env).length=n:=by rfl) (hst:(assignEach es X.env).findIdx? (·.1)=none:=by rfl):DG X CB (.Tuple es k0 pos) (yTup n k) :=
 ⟨((pg_tup hc h.pgs hn hst).or (pg_lst hc h.pgs hn hst)).mono fun v σ H Q ⟨ρ,s,m,q,ρ',er,S,r,e,kk⟩=>by
  unfold yTup at e
  split at e
  ·split at e
   ·rename_i hl
    obtain ⟨a,vs,rfl,q1,r1⟩:=r.tp
    exact .inl ⟨a,vs,rfl,q1,r1.length.trans hl,ρ,s,m,_,ρ',er,S,r1,e,kk⟩
   ·cases e
  ·split at e
   ·rename_i l hl0
    split at e
    ·rename_i hl
     obtain ⟨a,vs,rfl,q1,r1⟩:=r.ls S hl0
     exact .inr ⟨a,vs,rfl,q1,r1.length.trans hl,ρ,s,m,_,ρ',er,S,r1,e,kk⟩
    ·cases e
   ·cases e⟩
def xAsg (f:XE) (h:XG) (ρ:En) (s:Sto):SO:=(f ρ s).so fun v s1=>match h v ρ s1 with
 | some ρ'=>.nx ρ' s1
 | none=>.bad
theorem ds_asg {h:XG}{tg:Expr} (he:DE X CB E e f) (hg:DG X CB tg h) (hs:swapsWithSole [tg] e pos.line X.env=pure false:=by rfl) (hw:swappedStores [tg] e X.env=pure none:=by rfl)
  (h1:(assignEach [tg] X.env).map (·.2)=[assign tg X.env]:=by rfl):DS X CB E (.Assign [tg] e pos) (xAsg f h) :=
 ⟨(ps_asg he.pe hg.pg hs hw h1).mono fun D σ H ⟨ρ,s,m,er,S,P⟩=>⟨ρ,s,m,er,S,Post.so P fun v s1 u H1 m1 e1 S1 r1 P1=>by
  split at P1
  ·rename_i ρ' hρ
   exact ⟨ρ,s1,m1,v,ρ',er.ext e1,S1,r1,hρ,fun σ' er'=>P1.next S1 er'⟩
  ·exact P1.elim⟩⟩
def xPar (i j:Nat) (fa:XA) (ρ:En) (s:Sto):SO:=(fa ρ s).so fun vs s1=>match vs with
 | [v,w]=>.nx ((ρ.set i (some v)).set j (some w)) s1
 | _=>.bad
theorem ds_par {i j:Nat}{y:Str}{px py pt:Pos}{kt k2 pt2} (hc:X.calm=true) (hN:X.N.Nodup) (hi:X.N[i]?=some x) (hj:X.N[j]?=some y) (hij:i≠j) (hx:X.env.scope.names.lookup x=some .local) (hy:X.env.scope.names.lookup y=some .local) (ha:DA X CB E [a,b] fa)
  (hw:swappedStores [.Tuple [.Name x px,.Name y py] kt pt] (.Tuple [a,b] k2 pt2) X.env=pure (some [x,y])) (hs:swapsWithSole [.Tuple [.Name x px,.Name y py] kt pt] (.Tuple [a,b] k2 pt2) pos.line X.env=pure false:=by rfl):DS X CB E (.Assign [.Tuple [.Name x px,.Name y py] kt pt] (.Tuple [a,b] k2 pt2) pos) (xPar i j fa) :=
 ⟨(ps_par hc hN hi hj hij hx hy ha.pa hw hs).mono fun D σ H ⟨ρ,s,m,er,S,P⟩=>⟨ρ,s,m,er,S,Post.so P fun v s1 u H1 m1 e1 S1 r1 P1=>by
  split at P1
  ·cases r1 with
   | cons a b =>
    cases b with
    | cons b c=>cases c;exact ⟨_,_,rfl,P1.next S1 (((er.ext e1).set i a).set j b)⟩
  ·exact P1.elim⟩⟩
def fPut (o i v:PV) (s:Sto):Option Sto:=match o with
 | .ref n=>match s.get n with
  | some (.lst l)=>match i with
   | .int k=>match ixN l.length k with
    | some j=>some (s.set n (.lst (l.set j v)))
    | none=>none
   | _=>none
  | some (.dct l)=>match kyOf i with
   | some k=>if l.length < 100000 then some (s.set n (.dct (putP l k v))) else none
   | none=>none
  | _=>none
 | _=>none
def xPut (fo fi fv:XE) (ρ:En) (s:Sto):SO:=(fv ρ s).so fun v s1=>(fo ρ s1).so fun o s2=>(fi ρ s2).so fun i s3=>match fPut o i v s3 with
 | some s4=>.nx ρ s4
 | none=>.bad
def rPutD:V→V→V→Hp→(Hp→Prop)→Prop:=fun o i v H Q=>∃ a H',o=.ref a∧DPut H a i v H'∧Q H'
theorem set_dict (hu:X.A.units+1 < cLine):PSet X rPutD:=by
 intro pins s σ H o i v ov iv u Q I ro ri rv h
 obtain ⟨a,H',rfl,g,q⟩:=h
 obtain rfl:ov=Value.ref a:=ro
 exact qmw hu I g ri rv fun s4 I4=>⟨H',I4,q⟩
theorem PSet.or {t t':TSet} (h:PSet X t) (h':PSet X t'):PSet X (fun o i v H Q=>t o i v H Q∨t' o i v H Q):=fun pins s σ H o i v ov iv u Q I r1 r2 r3 q=>q.elim (h pins s σ H o i v ov iv u Q I r1 r2 r3) (h' pins s σ H o i v ov iv u Q I r1 r2 r3)
theorem put_ok {K:PySem.W.Frag}{H:Hp}{m:Mp}{s s':Sto}{o i v:PV}{xo xi xv:V} (S:SR K CB H m s) (ro:Rep K H m s xo o) (ri:Rep K H m s xi i) (rv:Rep K H m s xv v) (e:fPut o i v s=some s') {Q:Hp→Prop} (hq:∀ H' m',Ext H m s H' m' s'→SR K CB H' m' s'→Q H'):rSetL xo xi xv H Q∨rPutD xo xi xv H Q:=by
 unfold fPut at e
 split at e
 ·split at e
  ·rename_i l hg
   split at e
   ·split at e
    ·rename_i j hj
     cases e
     cases ro;cases ri
     obtain ⟨_,vs,h1,q1⟩:=S.get hg
     obtain ⟨S2,e2⟩:=S.putL hg (q1.set j rv)
     exact .inl ⟨_,vs,_,j,rfl,rfl,h1,by rw [q1.length];exact hj,hq _ _ e2 S2⟩
    ·cases e
   ·cases e
  ·rename_i l hg
   split at e
   ·rename_i k hk
    split at e
    ·rename_i hl
     cases e
     cases ro
     obtain ⟨_,vs,h1,q1⟩:=S.get hg
     obtain ⟨S2,e2⟩:=S.putD hg (q1.put k rv)
     exact .inr ⟨_,_,rfl,.inl ⟨vs,k,h1,qf2 ri hk,by rw [q1.length];exact sz6 hl,rfl⟩,hq _ _ e2 S2⟩
    ·cases e
   ·cases e
  ·cases e
 ·cases e
theorem qoy {tpos:Pos} (hu:X.A.units+1 < cLine) (ho:DE X CB E a f) (hi:DE X CB E b g) (hv:DE X CB E e h) (hs:swapsWithSole [Expr.Subscript a b tpos] e pos.line X.env=pure false:=by rfl) (hw:swappedStores [Expr.Subscript a b tpos] e X.env=pure none:=by rfl)
  (h1:(assignEach [Expr.Subscript a b tpos] X.env).map (·.2)=[assign (Expr.Subscript a b tpos) X.env]:=by rfl)
  (ha:∀ v,assign (.Subscript a b tpos) X.env v=(do
   let ov ← holding [v] (eval a X.env)
   let iv ← holding [v,ov] (eval b X.env)
   standAt tpos
   holding [v,ov,iv] (setItem ov iv v)
   release [v,ov,iv] []):=by intro _;rfl):DS X CB E (.Assign [.Subscript a b tpos] e pos) (xPut f g h) :=
 ⟨(ps_asg hv.pe (pg_sub ho.pe hi.pe (set_list.or (set_dict hu)) ha) hs hw h1).mono fun D σ H ⟨ρ,s,m,er,S,P⟩=>⟨ρ,s,m,er,S,Post.so P fun v s1 u H1 m1 e1 S1 r1 P1 =>
  ⟨ρ,s1,m1,er.ext e1,S1,Post.so P1 fun o s2 uo H2 m2 e2 S2 r2 P2=>⟨ρ,s2,m2,(er.ext e1).ext e2,S2,Post.so P2 fun i s3 ui H3 m3 e3 S3 r3 P3=>by
   split at P3
   ·rename_i s4 h4
    exact put_ok S3 (r2.ext e3) r3 ((r1.ext e2).ext e3) h4 fun H' m' x S'=>P3 σ H' m' x S' ((((er.ext e1).ext e2).ext e3).ext x)
   ·exact P3.elim⟩⟩⟩⟩
def qet (K:PySem.W.Frag) (CB:Addr) (J:It) (l:List PV) (H0:Hp) (m0:Mp) (s0:Sto):Prop:=∀ i H m s,Ext0 H0 m0 s0 H m s→SR K CB H m s →
 (∀ q,l[i]?=some q→J.go i H∧∀ x H',J.yld i H x H'→Ext H m s H' m s∧SR K CB H' m s∧Rep K H' m s x q)∧(l.length≤i→J.stop i H)
def TDI (K:PySem.W.Frag) (CB:Addr) (E:XK) (f:XA):TI:=fun σ H R=>∃ ρ s m,ER K H m s σ ρ∧SR K CB H m s∧match f ρ s with
 | .ok l s'=>∀ J H' m',Ext H m s H' m' s'→SR K CB H' m' s'→qet K CB J l H' m' s'→R J H'
 | .ex c s'=>∀ H' m',Ext H m s H' m' s'→SR K CB H' m' s'→E (.ref c) none H'
 | .bad=>False
structure DI (X:Cx) (CB:Addr) (E:XK) (tg e:Expr) (f:XA):Prop where
 pi:PI X tg e (TDI X.K CB E f)
theorem PI.mono {tg:Expr}{t t':TI} (h:PI X tg e t) (k:∀ σ H R,t' σ H R→t σ H R):PI X tg e t':=fun pins s σ H R I q=>h pins s σ H R I (k σ H R q)
end
end L2
namespace L2
open PySem PySem.Spec PyProof.Rows
section
variable {X:Cx}{CB:Addr}{E:XK}{a b c e tg:Expr}{es:List Expr}{f g h:XE}{fa fi:XA}{t:XT}{p pos pos' apos cpos:Pos}{x:Str}{st:Stmt}{rest sts sts':List Stmt}{u v:XS}
def xIter (f:XE) (ρ:En) (s:Sto):Out (List PV):=(f ρ s).bind fun v s1=>match v with
 | .lst l=>.ok l s1
 | .seq l=>.ok l s1
 | .tup l=>.ok l s1
 | _=>.bad
theorem iterL {K:PySem.W.Frag}{H0:Hp}{m0:Mp}{s0:Sto}{b:Addr}{q:PV}{l:List PV} (r:Rep K H0 m0 s0 (.ref b) q) (hl:∀ s,lsOf s q=some l):qet K CB (Itl K b) l H0 m0 s0:=by
 intro i H m s ex S
 obtain ⟨b',vs,e,hq,rs⟩:=(r.ext0 ex.toExtR).ls S (hl s)
 cases e
 refine ⟨fun q' hq'=>?_,fun hi=>⟨vs,hq,by rw [rs.length];exact hi⟩⟩
 obtain ⟨u,hu,ru⟩:=rs.get hq'
 refine ⟨⟨vs,u,hq,hu⟩,fun x H' ⟨e1,e2⟩=>?_⟩
 subst e1
 have e3:=e2 vs hq
 rw [hu] at e3
 cases e3
 exact ⟨.refl,S,ru⟩
theorem iterT {K:PySem.W.Frag}{H0:Hp}{m0:Mp}{s0:Sto}{b:Addr}{l:List PV} (r:Rep K H0 m0 s0 (.ref b) (.tup l)):qet K CB (Itt K b) l H0 m0 s0:=by
 intro i H m s ex S
 obtain ⟨b',vs,e,hq,rs⟩:=(r.ext0 ex.toExtR).tp
 cases e
 refine ⟨fun q' hq'=>?_,fun hi=>⟨vs,hq,by rw [rs.length];exact hi⟩⟩
 obtain ⟨u,hu,ru⟩:=rs.get hq'
 refine ⟨⟨vs,u,hq,hu⟩,fun x H' ⟨e1,e2⟩=>?_⟩
 subst e1
 have e3:=e2 vs hq
 rw [hu] at e3
 cases e3
 exact ⟨.refl,S,ru⟩
def iLT (K:PySem.W.Frag) (tl:TE):TI:=fun σ H R=>tl σ H fun x H1=>(∃ a,x=.ref a∧(∃ xs,SqL K H1 a xs)∧R (Itl K a) H1)∨(∃ a,x=.ref a∧(∃ xs,SqT K H1 a xs)∧R (Itt K a) H1)
theorem pi_lt {tl:TE} (hl:PE X e tl):PI X tg e (iLT X.K tl):=by
 intro pins s σ H R I h
 refine thn (hl pins s σ H _ I h) fun v s1 ⟨x,H1,I1,r1,q1⟩=>?_
 rcases q1 with ⟨a,e,⟨xs,hq⟩,q⟩ | ⟨a,e,⟨xs,hq⟩,q⟩
 ·subst e
  cases r1
  obtain ⟨its,rv,p,hz⟩:=I1.list hq
  refine wpAny_pyIter_list p.isList ?_
  refine ⟨s1.heap.objs.size,[s1.heap.objs.size],_,_,H1,rfl,I1.kept (t':=s1.toks) fun b o e=>Heap.get?_push_of_some _ e,qlh a _,⟨_,Heap.get?_push_size _ rfl,rfl,rfl⟩,fun b hb=>?_,q⟩
  have e:b=s1.heap.objs.size:=by simpa using hb
  subst e
  exact I1.fpOk (Nat.le_refl _) (I1.hok.fresh (Nat.le_refl _))
 ·subst e
  cases r1
  obtain ⟨its,rv,p,hz⟩:=I1.tuple hq
  refine wpAny_pyIter_tuple (show s1.heap.IsTuple a its.toArray from p) ?_
  refine ⟨s1.heap.objs.size,[s1.heap.objs.size],_,_,H1,rfl,I1.kept (t':=s1.toks) fun b o e=>Heap.get?_push_of_some _ e,turn_tuple a _,⟨_,Heap.get?_push_size _ rfl,rfl,rfl⟩,fun b hb=>?_,q⟩
  have e:b=s1.heap.objs.size:=by simpa using hb
  subst e
  exact I1.fpOk (Nat.le_refl _) (I1.hok.fresh (Nat.le_refl _))
theorem TDI.bind {σ:St}{H:Hp}{R:It→Hp→Prop}{F:PV→Sto→Out (List PV)} (q:TDI X.K CB E (fun ρ s=>(f ρ s).bind F) σ H R) {Q:VK} (k:∀ v s1 u H1 m1,SR X.K CB H1 m1 s1→Rep X.K H1 m1 s1 u v→(match F v s1 with
  | .ok l s'=>∀ J H' m',Ext H1 m1 s1 H' m' s'→SR X.K CB H' m' s'→qet X.K CB J l H' m' s'→R J H'
  | .ex c s'=>∀ H' m',Ext H1 m1 s1 H' m' s'→SR X.K CB H' m' s'→E (.ref c) none H'
  | .bad=>False)→Q u H1):TDE X.K CB E f σ H Q:=by
 obtain ⟨ρ,s,m,er,S,P⟩:=q
 refine ⟨ρ,s,m,er,S,?_⟩
 cases c:f ρ s with
 | ok v s1 =>
  simp only [c,Out.bind] at P
  refine fun u H1 m1 e1 S1 r1=>k v s1 u H1 m1 S1 r1 ?_
  cases d:F v s1 with
  | ok l s'=>rw [d] at P;exact fun J H' m' x=>P J H' m' (e1.trans x)
  | ex c' s'=>rw [d] at P;exact fun H' m' x=>P H' m' (e1.trans x)
  | bad=>rw [d] at P;exact P
 | ex c' s'=>simp only [c,Out.bind] at P;exact P
 | bad=>simp only [c,Out.bind] at P
theorem qmu (hl:DE X CB E e f):DI X CB E tg e (xIter f):=⟨(pi_lt hl.pe).mono fun σ H R q=>TDI.bind q fun v s1 u H1 m1 S1 r1 P=>by
 cases r1 with
 | lst h1 h2 h3=>exact .inl ⟨_,rfl,⟨_,SqL.of h1⟩,P _ _ _ .refl S1 (iterL (.lst h1 h2 h3) fun _=>rfl)⟩
 | seq h1 h3=>exact .inl ⟨_,rfl,⟨_,h1.elim (fun z=>.inl (.inr z.1)) .inr⟩,P _ _ _ .refl S1 (iterL (.seq h1 h3) fun _=>rfl)⟩
 | tup h1 h3=>exact .inr ⟨_,rfl,⟨_,h1.elim (fun z=>.inl z.1) .inr⟩,P _ _ _ .refl S1 (iterT (.tup h1 h3))⟩
 | _=>exact P.elim⟩
def strP (x:Str):List PV:=x.cps.toList.map fun c=>PV.str ⟨#[c]⟩
def xIterS (f:XE) (ρ:En) (s:Sto):Out (List PV):=(f ρ s).bind fun v s1=>match v with
 | .str x=>.ok (strP x) s1
 | _=>.bad
def rngP (lo:Int) (n:Nat):List PV:=(List.range n).map fun (k:Nat)=>PV.int (lo+k)
def xRng1 (fa:XA) (ρ:En) (s:Sto):Out (List PV):=(fa ρ s).bind fun vs s1=>match vs with
 | [.int j]=>if -(2 ^ 62)≤j∧j < 2 ^ 62 then .ok (rngP 0 j.toNat) s1 else .bad
 | _=>.bad
theorem iterR {K:PySem.W.Frag}{lo:Int}{n:Nat}{H0:Hp}{m0:Mp}{s0:Sto}:qet K CB (Itr lo n) (rngP lo n) H0 m0 s0:=by
 intro i H m s ex S
 refine ⟨fun q hq=>?_,fun hi=>?_⟩
 ·unfold rngP at hq
  rw [List.getElem?_map] at hq
  by_cases hi:i < n
  ·rw [List.getElem?_range hi] at hq
   cases hq
   exact ⟨hi,fun x H' ⟨e1,e2⟩=>by subst e1 e2;exact ⟨.refl,S,.int⟩⟩
  ·rw [List.getElem?_eq_none (by simpa using hi)] at hq;cases hq
 ·unfold rngP at hi;rw [List.length_map,List.length_range] at hi;exact hi
theorem TDI.bindA {σ:St}{H:Hp}{R:It→Hp→Prop}{F:List PV→Sto→Out (List PV)} (q:TDI X.K CB E (fun ρ s=>(fa ρ s).bind F) σ H R) {Q:List V→Hp→Prop} (k:∀ v s1 u H1 m1,SR X.K CB H1 m1 s1→Reps X.K H1 m1 s1 u v→(match F v s1 with
  | .ok l s'=>∀ J H' m',Ext H1 m1 s1 H' m' s'→SR X.K CB H' m' s'→qet X.K CB J l H' m' s'→R J H'
  | .ex c s'=>∀ H' m',Ext H1 m1 s1 H' m' s'→SR X.K CB H' m' s'→E (.ref c) none H'
  | .bad=>False)→Q u H1):TDA X.K CB E fa σ H Q:=by
 obtain ⟨ρ,s,m,er,S,P⟩:=q
 refine ⟨ρ,s,m,er,S,?_⟩
 cases c:fa ρ s with
 | ok v s1 =>
  simp only [c,Out.bind] at P
  refine fun u H1 m1 e1 S1 r1=>k v s1 u H1 m1 S1 r1 ?_
  cases d:F v s1 with
  | ok l s'=>rw [d] at P;exact fun J H' m' x=>P J H' m' (e1.trans x)
  | ex c' s'=>rw [d] at P;exact fun H' m' x=>P H' m' (e1.trans x)
  | bad=>rw [d] at P;exact P
 | ex c' s'=>simp only [c,Out.bind] at P;exact P
 | bad=>simp only [c,Out.bind] at P
theorem qdz (hg:Gl X "range") (hm:X.mg "range"=none) (ha:DA X CB E [a] fa) (hs:starEach [a] X.env=[(false,eval a X.env)]:=by rfl):DI X CB E tg (.Call (.Name "range" p) [a] [] pos) (xRng1 fa) :=
 ⟨(pi_range1 hg hm ha.pa hs).mono fun σ H R q=>TDI.bindA q fun v s1 u H1 m1 S1 r1 P=>by
  split at P
  ·rename_i l s' hF
   split at hF
   ·split at hF <;> cases hF
    rename_i hj
    cases r1 with
    | cons r n=>cases n;cases r;exact ⟨_,rfl,hj.1,hj.2,P _ _ _ .refl S1 iterR⟩
   ·cases hF
  ·rename_i hF
   split at hF
   ·split at hF <;> cases hF
   ·cases hF
  ·exact P.elim⟩
def keyP:Key→PV
 | .inl i=>.int i
 | .inr x=>.str x
def xIterD (f:XE) (ρ:En) (s:Sto):Out (List PV):=(f ρ s).bind fun v s1=>match v with
 | .dct l=>.ok (l.map fun kv=>keyP kv.1) s1
 | _=>.bad
def iDict (tl:TE):TI:=fun σ H R=>tl σ H fun x H1=>∃ d kvs,x=.ref d∧((H1 d=some (.dK kvs)∧∀ ob,R (Itd d ob kvs) (upd H1 d (.frz ob (.dK kvs))))∨∃ ob,H1 d=some (.frz ob (.dK kvs))∧R (Itd d ob kvs) H1)
theorem pi_dict {tl:TE} (hl:PE X e tl):PI X tg e (iDict tl):=by
 intro pins s σ H R I h
 refine thn (hl pins s σ H _ I h) fun v s1 ⟨x,H1,I1,r1,q1⟩=>?_
 obtain ⟨d,kvs,e,q1⟩:=q1
 subst e
 cases r1
 have hd:Rd H1 d (.dK kvs):=q1.elim (fun z=>.inl z.1) fun ⟨ob,z,_⟩=>.inr ⟨ob,z⟩
 obtain ⟨z,hsys,vs,rel,dd⟩:=qi5 I1.hok hd
 obtain ⟨ep,at_⟩:=dd.dictAt
 obtain ⟨ob,es,ho,hex,hdat,hrest⟩:=id at_
 refine wpAny_pyIter_dict hsys at_ ?_
 have hl:=rel.length
 have I2:Inv X pins σ H1 { s1 with heap:=s1.heap.push { cls:=.type "dict_keyiterator",data:=.fields #[.ref d,.int 0 0,.int vs.length 0,.int ep 0] } }:=I1.kept (t':=s1.toks) fun b o e=>Heap.get?_push_of_some _ e
 have hne:s1.heap.objs.size≠d:=fun z=>by
  have:=Heap.lt_size ho
  rw [z] at this
  exact Nat.lt_irrefl _ this
 have st2:(0≤kvs.length∧(s1.heap.push { cls:=.type "dict_keyiterator",data:=.fields #[.ref d,.int 0 0,.int vs.length 0,.int ep 0] }).IsKeyIter s1.heap.objs.size d 0 kvs.length ep):=by
  refine ⟨Nat.zero_le _,{ cls:=.type "dict_keyiterator",data:=.fields #[.ref d,.int 0 0,.int vs.length 0,.int ep 0] },Heap.get?_push_size _ rfl,rfl,?_⟩
  rw [hl]
  rfl
 rcases q1 with ⟨hd1,q⟩ | ⟨ob',hd1,q⟩
 ·refine ⟨s1.heap.objs.size,[s1.heap.objs.size],_,Itd d ob kvs,_,rfl,I2.freeze hd1 (Heap.get?_push_of_some _ ho),qli d _ ob kvs es ep hdat,st2,fun b hb=>?_,q ob⟩
  have e:b=s1.heap.objs.size:=by simpa using hb
  subst e
  refine I1.fpOk (Nat.le_refl _) ?_
  rw [qad hne]
  exact I1.hok.fresh (Nat.le_refl _)
 ·have e0:ob'=ob:=by
   obtain ⟨e1,_⟩:=(show ObjOk X.prog X.w H1 s1.heap d (.frz ob' (.dK kvs)) from I1.hok d _ hd1)
   rw [ho] at e1
   exact (Option.some.inj e1).symm
  subst e0
  refine ⟨s1.heap.objs.size,[s1.heap.objs.size],_,Itd d ob' kvs,_,rfl,I2,qli d _ ob' kvs es ep hdat,st2,fun b hb=>?_,q⟩
  have e:b=s1.heap.objs.size:=by simpa using hb
  subst e
  exact I1.fpOk (Nat.le_refl _) (I1.hok.fresh (Nat.le_refl _))
theorem kV_rep {K:PySem.W.Frag}{H:Hp}{m:Mp}{s:Sto} (k:Key):Rep K H m s (kV k) (keyP k):=by
 cases k with
 | inl i=>exact .int
 | inr x=>exact .str
theorem RepKs.get:∀ {K:PySem.W.Frag}{H:Hp}{m:Mp}{s:Sto}{vs:List (Key×V)}{l:List (Key×PV)}{i:Nat}{q:Key×PV},RepKs K H m s vs l→l[i]?=some q→∃ w,vs[i]?=some w∧w.1=q.1
 | _,_,_,_,_,_,_,_,.nil,e=>by simp at e
 | _,_,_,_,_,_,0,_,.cons _ _,e=>by simp at e;subst e;exact ⟨_,rfl,rfl⟩
 | _,_,_,_,_,_,i+1,q,.cons _ b,e=>by
  obtain ⟨w,h1,h2⟩:=b.get (i:=i) (q:=q) (by simpa using e)
  exact ⟨w,by simpa using h1,h2⟩
theorem iterD {K:PySem.W.Frag}{H0:Hp}{m0:Mp}{s0:Sto}{d:Addr}{ob:Obj}{kvs:List (Key×V)}{l:List (Key×PV)} (hd:∀ H m s,Ext0 H0 m0 s0 H m s→SR K CB H m s→H d=some (.frz ob (.dK kvs))) (r:RepKs K H0 m0 s0 kvs l):qet K CB (Itd d ob kvs) (l.map fun kv=>keyP kv.1) H0 m0 s0:=by
 intro i H m s ex S
 have h:=hd H m s ex S
 refine ⟨fun q hq=>?_,fun hi=>⟨by rw [r.length];simpa using hi,h⟩⟩
 rw [List.getElem?_map] at hq
 cases c:l[i]? with
 | none=>rw [c] at hq;cases hq
 | some kv =>
  rw [c] at hq
  cases hq
  obtain ⟨w,h1,h2⟩:=r.get c
  refine ⟨⟨(List.getElem?_eq_some_iff.mp h1).1,h⟩,fun x H' ⟨e1,kv',e2,e3⟩=>?_⟩
  subst e1 e3
  rw [h1] at e2
  cases e2
  rw [h2]
  exact ⟨.refl,S,kV_rep _⟩
theorem Ext.freeze {K:PySem.W.Frag}{H:Hp}{m:Mp}{s:Sto}{d:Addr}{ob:Obj}{kvs:List (Key×V)} (S:SR K CB H m s) (hd:H d=some (.dK kvs)) (hp:Pur m s d):Ext H m s (upd H d (.frz ob (.dK kvs))) m s:=by
 refine ⟨⟨⟨Nat.le_refl _,fun _ _=>rfl,fun a u h p=>⟨?_,p⟩,fun a u h n p=>?_⟩,fun j l hj h=>⟨h,fun o ho=>?_⟩⟩,rfl,fun a ha o h _=>?_⟩
 ·by_cases e:a=d
  ·subst e
   rcases h with h | ⟨o,h⟩
   ·rw [hd] at h;cases h;exact .inr ⟨ob,qae⟩
   ·rw [hd] at h;cases h
  ·exact h.elim (fun h=>.inl (by rw [qad e];exact h)) fun ⟨o,h⟩=>.inr ⟨o,by rw [qad e];exact h⟩
 ·rw [qad (ne_of h hd (n _))];exact h
 ·obtain ⟨e1,_⟩:=S.ok _ (qbc h)
  rw [qad (show m.ad j≠d from fun z=>hp.2 j (List.mem_map.mpr ⟨_,qbc h,rfl⟩) (by rw [e1,z];simp))];exact ho
 ·rw [qad (show a≠d from fun z=>hp.1 (by rw [← z];exact ha))];exact h
theorem SR.freezeP {K:PySem.W.Frag}{H:Hp}{m:Mp}{s:Sto}{d:Addr}{ob:Obj}{kvs:List (Key×V)} (S:SR K CB H m s) (hd:H d=some (.dK kvs)) (hp:Pur m s d):SR K CB (upd H d (.frz ob (.dK kvs))) m s:=by
 refine ⟨S.nd,S.lt,fun q hq=>(S.ok q hq).keep S (Ext.freeze S hd hp).toExtR (fun a ha o h=>?_) rfl rfl,S.dj,S.hx,S.hsk (Ext.freeze S hd hp).hk (.upd hd no_dK),S.tbk (.upd hd no_dK)⟩
 have:a≠d:=fun z=>hp.2 q.1 (List.mem_map.mpr ⟨q,hq,rfl⟩) (z ▸ ha)
 rw [qad this];exact h
theorem di_dict (hl:DE X CB E e f):DI X CB E tg e (xIterD f):=⟨(pi_dict hl.pe).mono fun σ H R q=>TDI.bind q fun v s1 u H1 m1 S1 r1 P=>by
 cases r1 with
 | dct h1 h2 h3 =>
  rename_i d vs l
  rcases h1 with h1 | ⟨ob,h1⟩
  ·refine ⟨d,vs,rfl,.inl ⟨h1,fun ob=>P _ _ m1 (.freeze S1 h1 h2) (S1.freezeP h1 h2) (iterD (fun H m s ex S=>ex.el _ _ qae (by intro _ z;cases z) h2) (h3.ext (.freeze S1 h1 h2)))⟩⟩
  ·exact ⟨d,vs,rfl,.inr ⟨ob,h1,P _ _ m1 .refl S1 (iterD (fun H m s ex S=>ex.el _ _ h1 (by intro _ z;cases z) h2) h3)⟩⟩
 | _=>exact P.elim⟩
def loopL (body:PV→XS):List PV→XS
 | [],ρ,s=>.nx ρ s
 | q::l,ρ,s=>match body q ρ s with
  | .nx ρ' s'=>loopL body l ρ' s'
  | .ct ρ' s'=>loopL body l ρ' s'
  | .bk ρ' s'=>.nx ρ' s'
  | o=>o
def qav (y:XG) (u:XS) (q:PV) (ρ:En) (s:Sto):SO:=match y q ρ s with
 | some ρ'=>u ρ' s
 | none=>.bad
def xFor (fi:XA) (y:XG) (body:XS) (ρ:En) (s:Sto):SO:=((fi ρ s).so fun l s1=>loopL (qav y body) l ρ s1).noex
theorem for_core {y:XG}{J:It}{l:List PV}{H1:Hp}{m1:Mp}{s1:Sto}{σ:St}{ρ:En}{D:Ends} (S1:SR X.K CB H1 m1 s1) (er:ER X.K H1 m1 s1 σ ρ) (it:qet X.K CB J l H1 m1 s1) (P:PostS X.K CB E0 (loopL (qav y u) l ρ s1) H1 m1 s1 D) :
  ∃ W:Nat→Nat→St→Hp→Prop,(∃ m,W 0 m σ H1)∧∀ i m σ H,W i m σ H →
   (J.stop i H∧D.nx σ H)∨(J.go i H∧∃ N:St→Hp→Prop,(∀ σ' H',N σ' H'→∃ m',m' < m∧W (i+1) m' σ' H')∧∀ x H',J.yld i H x H'→(TDG X.K CB y) x σ H' fun σ2 H2=>(TDS X.K CB E0 u) { D with nx:=N,ct:=N,bk:=D.nx } σ2 H2):=by
 refine ⟨fun i k σ' H'=>∃ ρ' s' m',ER X.K H' m' s' σ' ρ'∧SR X.K CB H' m' s'∧Ext H1 m1 s1 H' m' s'∧i≤l.length∧k=l.length - i∧PostS X.K CB E0 (loopL (qav y u) (l.drop i) ρ' s') H' m' s' D,⟨l.length,ρ,s1,m1,er,S1,.refl,Nat.zero_le _,rfl,P⟩,?_⟩
 rintro i k σ' H' ⟨ρ',s',m',er',S',ex',hi',rfl,P'⟩
 obtain ⟨it1,it2⟩:=it i H' m' s' ex'.toExt0 S'
 by_cases hlt:i < l.length
 ·right
  have hq:l[i]?=some l[i]:=List.getElem?_eq_getElem hlt
  obtain ⟨go,yl⟩:=it1 _ hq
  rw [List.drop_eq_getElem_cons hlt] at P'
  refine ⟨go,fun σ2 H2=>∃ ρ2 s2 m2,ER X.K H2 m2 s2 σ2 ρ2∧SR X.K CB H2 m2 s2∧Ext H1 m1 s1 H2 m2 s2∧PostS X.K CB E0 (loopL (qav y u) (l.drop (i+1)) ρ2 s2) H2 m2 s2 D,fun σ2 H2 ⟨ρ2,s2,m2,a1,a2,a3,a4⟩=>⟨l.length - (i+1),by omega,ρ2,s2,m2,a1,a2,a3,hlt,rfl,a4⟩,fun x H2 hy=>?_⟩
  obtain ⟨e2,S2,r2⟩:=yl x H2 hy
  unfold loopL at P'
  have hbo:qav y u l[i] ρ' s'=match y l[i] ρ' s' with | some ρ'=>u ρ' s' | none=>.bad:=rfl
  rw [hbo] at P'
  cases hyq:y l[i] ρ' s' with
  | none=>rw [hyq] at P';exact P'.elim
  | some ρ2 =>
   rw [hyq] at P'
   have P':=PostS.shift e2 P'
   dsimp only at P'
   refine ⟨ρ',s',m',l[i],ρ2,er'.ext e2,S2,r2,hyq,fun σ2 er2=>⟨ρ2,s',m',er2,S2,?_⟩⟩
   cases cb:u ρ2 s' with
   | nx ρ3 s3=>rw [cb] at P';exact fun σ3 H3 m3 e3 S3 er3=>⟨ρ3,s3,m3,er3,S3,(ex'.trans e2).trans e3,PostS.shift e3 P'⟩
   | ct ρ3 s3=>rw [cb] at P';exact fun σ3 H3 m3 e3 S3 er3=>⟨ρ3,s3,m3,er3,S3,(ex'.trans e2).trans e3,PostS.shift e3 P'⟩
   | bk ρ3 s3=>rw [cb] at P';exact P'
   | rt v3 s3=>rw [cb] at P';exact P'
   | ex c3 s3=>rw [cb] at P';exact P'
   | bad=>rw [cb] at P';exact P'
 ·left
  have hle:l.length≤i:=Nat.le_of_not_lt hlt
  rw [List.drop_eq_nil_of_le hle] at P'
  exact ⟨it2 hle,P'.next S' er'⟩
theorem qf9 {y:XG} (hc:X.calm=true) (hi:DI X.nox CB E0 tg e fi) (hg:DG X.nox CB tg y) (hb:DSs X.nox CB E0 sts u) (hs:∀ x,foldedSetIterable e X.env x=pure x:=by intro _;rfl):DS X CB E (.For tg e sts [] pos) (xFor fi y u) :=
 ⟨PS.nox ((ps_for (X:=X.nox) PassesOwn.never hc hi.pi hg.pg hb.pss hs).mono fun D σ H ⟨ρ,s,m,er,S,P⟩=>by
  have P:=PostS.noex P
  refine ⟨ρ,s,m,er,S,?_⟩
  cases c:fi ρ s with
  | bad=>rw [c] at P;exact P
  | ex c' s'=>rw [c] at P;exact P
  | ok l s1 =>
   rw [c] at P
   intro J H1 m1 e1 S1 it
   exact for_core (X:=X.nox) S1 (er.ext e1) it (PostS.shift e1 P))⟩
def qbf (c:XT) (b:XS):Nat→XS
 | 0,_,_=>.bad
 | n+1,ρ,s=>(c ρ s).so fun t s1=>if t=true then (match b ρ s1 with
  | .nx ρ' s'=>qbf c b n ρ' s'
  | .ct ρ' s'=>qbf c b n ρ' s'
  | .bk ρ' s'=>.nx ρ' s'
  | o=>o) else .nx ρ s1
open Classical in
noncomputable def qhq (c:XT) (b:XS) (ρ:En) (s:Sto):SO:=if h:∃ n,qbf c b n ρ s≠.bad then (qbf c b h.choose ρ s).noex else .bad
theorem qkz {c:Expr} (hc:DT X.nox CB E0 c t) (hb:DSs X.nox CB E0 sts u):DS X CB E (.While c sts [] pos) (qhq t u) :=
 ⟨PS.nox ((qoa (X:=X.nox) PassesOwn.never hc.pt hb.pss).mono fun D σ H ⟨ρ,s,m,er,S,P⟩=>by
  unfold qhq at P
  split at P
  ·rename_i h
   have P:=PostS.noex P
   refine ⟨fun n σ' H'=>∃ ρ' s' m',ER X.K H' m' s' σ' ρ'∧SR X.K CB H' m' s'∧PostS X.K CB E0 (qbf t u n ρ' s') H' m' s' D,⟨_,ρ,s,m,er,S,P⟩,?_⟩
   rintro n σ' H' ⟨ρ',s',m',er',S',P'⟩
   cases n with
   | zero=>exact P'.elim
   | succ n =>
    refine ⟨ρ',s',m',er',S',Post.so P' fun b s1 b' H1 m1 e1 S1 r1 P1=>?_⟩
    cases r1
    refine ite2 (fun cb=>?_) fun cb=>?_
    ·rw [if_pos cb] at P1
     refine ⟨fun σ2 H2=>∃ ρ2 s2 m2,ER X.K H2 m2 s2 σ2 ρ2∧SR X.K CB H2 m2 s2∧PostS X.K CB E0 (qbf t u n ρ2 s2) H2 m2 s2 D,fun σ2 H2 q=>⟨n,Nat.lt_succ_self _,q⟩,ρ',s1,m1,er'.ext e1,S1,?_⟩
     cases cu:u ρ' s1 with
     | nx ρ3 s3=>rw [cu] at P1;exact fun σ3 H3 m3 e3 S3 er3=>⟨ρ3,s3,m3,er3,S3,PostS.shift e3 P1⟩
     | ct ρ3 s3=>rw [cu] at P1;exact fun σ3 H3 m3 e3 S3 er3=>⟨ρ3,s3,m3,er3,S3,PostS.shift e3 P1⟩
     | bk ρ3 s3=>rw [cu] at P1;exact P1
     | rt v3 s3=>rw [cu] at P1;exact P1
     | ex c3 s3=>rw [cu] at P1;exact P1
     | bad=>rw [cu] at P1;exact P1
    ·rw [if_neg cb] at P1
     exact P1.next S1 (er'.ext e1)
  ·exact P.elim)⟩
theorem qfc {c:XT}{b:XS}:∀ {n:Nat}{ρ:En}{s:Sto},qbf c b n ρ s≠.bad→qbf c b (n+1) ρ s=qbf c b n ρ s
 | 0,_,_,h=>absurd rfl h
 | n+1,ρ,s,h=>by
  unfold qbf at h ⊢
  cases hc:c ρ s with
  | ok t s1 =>
   rw [hc] at h
   simp only [Out.so] at h ⊢
   by_cases ht:t=true
   ·rw [if_pos ht] at h ⊢
    rw [if_pos ht]
    cases hb:b ρ s1 with
    | nx ρ' s'=>rw [hb] at h;exact qfc h
    | ct ρ' s'=>rw [hb] at h;exact qfc h
    | _=>rfl
   ·rw [if_neg ht,if_neg ht]
  | ex=>rfl
  | bad=>rfl
theorem qle {c:XT}{b:XS}{n k:Nat}{ρ:En}{s:Sto} (h:qbf c b n ρ s≠.bad):qbf c b (n+k) ρ s=qbf c b n ρ s:=by
 induction k with
 | zero=>rfl
 | succ k ih=>rw [← Nat.add_assoc,qfc (by rw [ih];exact h),ih]
theorem qhp {c:XT}{b:XS}{n:Nat}{ρ:En}{s:Sto}{o:SO} (h:qbf c b n ρ s=o) (ho:o≠.bad):qhq c b ρ s=o.noex:=by
 have hx:∃ n,qbf c b n ρ s≠.bad:=⟨n,by rw [h];exact ho⟩
 unfold qhq
 rw [dif_pos hx]
 have h1:=qle (k:=n) hx.choose_spec
 have h2:=qle (k:=hx.choose) (show qbf c b n ρ s≠.bad by rw [h];exact ho)
 rw [Nat.add_comm] at h2
 rw [← h1,h2,h]
end
end L2
namespace L2
open PySem PySem.Spec PyProof.Rows
def qcw (c:XT) (e:XE) (cap:En):List PV→Sto→Out (List PV)
 | [],s=>.ok [] s
 | q::l,s=>match c (some q::cap) s with
  | .ok true s1=>match e (some q::cap) s1 with
   | .ok v s2=>match qcw c e cap l s2 with
    | .ok vs s3=>.ok (v::vs) s3
    | _=>.bad
   | _=>.bad
  | .ok false s1=>qcw c e cap l s1
  | _=>.bad
theorem qd2 {c:XT}{e:XE}{cap:En}{q:PV}{l:List PV}{s:Sto}:qcw c e cap (q::l) s=match c (some q::cap) s with
  | .ok true s1=>match e (some q::cap) s1 with
   | .ok v s2=>match qcw c e cap l s2 with
    | .ok vs s3=>.ok (v::vs) s3
    | _=>.bad
   | _=>.bad
  | .ok false s1=>qcw c e cap l s1
  | _=>.bad:=rfl
theorem qhk {c:XT}{e:XE}{cap:En}:∀ {l:List PV}{s s':Sto}{k:Addr},qcw c e cap l s≠.ex k s'
 | [],_,_,_,h=>by cases h
 | q::l,s,s',k,h=>by
  unfold qcw at h
  split at h
  ·split at h
   ·split at h <;> cases h
   ·cases h
  ·exact qhk h
  ·cases h
def xYes (_:En) (s:Sto):Out Bool:=.ok true s
def qfb (fi:XA) (ix:List Nat) (c:XT) (e:XE) (ρ:En) (s:Sto):Out PV:=(fi ρ s).bind fun l s1=>if l.length≤100000 then (qcw c e (qck ix ρ) l s1).bind fun vs s2=>.ok (.lst vs) s2 else .bad
structure DIfs (X:Cx) (CB:Addr) (ifs:List Expr) (t:XT):Prop where
 pifs:PIfs X ifs (TDT X.K CB E0 t)
section
variable {X:Cx}{CB:Addr}{E:XK}{a b c e elt iter tg:Expr}{es ifs:List Expr}{f g h:XE}{fa fi:XA}{t:XT}{p px pos pos' apos cpos:Pos}{x:Str}{st:Stmt}{rest sts sts':List Stmt}{u v:XS}{scope:Scope}{fr:List Str}{ix:List Nat}
theorem difs_nil:DIfs X CB [] xYes:=⟨fun pins s σ H Q I ⟨ρ,s',m,er,S,P⟩=>qkj pins s σ H Q I (P.here S rfl)⟩
theorem qe0 (h:DT X CB E0 c t):DIfs X CB [c] t:=⟨pifs_one h.pt⟩
def Mp.hide (m:Mp) (d:Addr):Mp:=⟨m.ad,m.fp,d::m.hid⟩
def Mp.bare (m:Mp) (l:List Addr):Mp:=⟨m.ad,m.fp,l⟩
theorem Ext0.hide {H:Hp}{m:Mp}{s:Sto}{d:Addr}{o:HO} (hd:H d=none):Ext0 H m s (upd H d o) (m.hide d) s :=
 ⟨⟨Nat.le_refl _,fun _ _=>rfl,fun a u h p=>⟨h.same (My.qew hd),fun z=>(List.mem_cons.mp z).elim (h.ne hd) p.1,p.2⟩,fun a u h _ _=>My.qew hd _ _ h⟩,fun j l _ h=>⟨h,fun o ho=>My.qew hd _ _ ho⟩⟩
theorem SR.hide {K:PySem.W.Frag}{H:Hp}{m:Mp}{s:Sto}{d:Addr}{xs:List V} (S:SR K CB H m s) (hd:H d=none):SR K CB (upd H d (.lst xs)) (m.hide d) s:=by
 have k:=My.qew (o:=.lst xs) hd
 have S1:=S.same k
 have e0:Ext0 H m s (upd H d (.lst xs)) (m.hide d) s:=Ext0.hide hd
 have hne:∀ n∈s.cs.map (·.1),∀ a∈m.fp n,a≠d:=fun n hn a ha z=>by
  obtain ⟨q,hq,rfl⟩:=List.mem_map.mp hn
  obtain ⟨o,e,_⟩:=(S.ok q hq).kind ha
  rw [z,hd] at e;cases e
 refine ⟨S.nd,S.lt,fun q hq=>?_,S.dj,fun n hn a ha hb=>(List.mem_cons.mp hb).elim (hne n hn a ha) (S.hx n hn a ha),fun a ha=>?_,fun P q t=>⟨List.mem_cons_of_mem _ (S1.tb P q t).1,(S1.tb P q t).2⟩⟩
 ·have:=S.ok q hq
  cases c:q.2 with
  | lst l=>rw [c] at this;obtain ⟨a1,vs,a2,a3⟩:=this;exact ⟨a1,vs,k _ _ a2,a3.ext0 e0.toExtR⟩
  | dct l=>rw [c] at this;obtain ⟨a1,vs,a2,a3⟩:=this;exact ⟨a1,vs,k _ _ a2,a3.ext0 e0.toExtR⟩
  | dfz l=>rw [c] at this;obtain ⟨a1,ob,vs,a2,a3⟩:=this;exact ⟨a1,ob,vs,k _ _ a2,a3.ext0 e0.toExtR⟩
  | obj C fs=>rw [c] at this;obtain ⟨a1,dx,vs,a2,a3,a4⟩:=this;exact ⟨a1,dx,vs,k _ _ a2,a3,a4.ext0 e0.toExtR⟩
  | book pp L =>
   have:=S1.ok q hq
   rw [c] at this
   exact this
 ·rcases List.mem_cons.mp ha with rfl | ha
  ·rw [qae];exact ⟨by simp,fun _ _=>⟨by simp,by simp,by simp,by simp⟩⟩
  ·exact S1.hs a ha
theorem Ext0.redo {K:PySem.W.Frag}{H:Hp}{m:Mp}{s:Sto}{d:Addr}{o u0:HO} (S:SR K CB H m s) (hd:d∈m.hid) (hu:H d=some u0) (hno:¬ Odd u0):Ext0 H m s (upd H d o) m s:=by
 have ne:∀ a,Pur m s a→a≠d:=fun a p z=>p.1 (z ▸ hd)
 refine ⟨⟨Nat.le_refl _,fun _ _=>rfl,fun a u h p=>⟨?_,p⟩,fun a u h _ p=>by rw [qad (ne a p)];exact h⟩,fun j l _ h=>⟨h,fun o ho=>?_⟩⟩
 rotate_left
 ·obtain ⟨e1,_⟩:=S.ok _ (qbc h)
  rw [qad (show m.ad j≠d from fun z=>S.hx j (List.mem_map.mpr ⟨_,qbc h,rfl⟩) (m.ad j) (by rw [e1];simp) (by rw [z];exact hd))];exact ho
 exact h.elim (fun h=>.inl (by rw [qad (ne a p)];exact h)) fun ⟨o,h⟩=>.inr ⟨o,by rw [qad (ne a p)];exact h⟩
theorem SR.redo {K:PySem.W.Frag}{H:Hp}{m:Mp}{s:Sto}{d:Addr}{xs ys:List V} (S:SR K CB H m s) (hd:d∈m.hid) (hl:H d=some (.lst xs)):SR K CB (upd H d (.lst ys)) m s:=by
 have e0:Ext0 H m s (upd H d (.lst ys)) m s:=Ext0.redo S hd hl ql9
 have nt:∀ (t:Addr) (us:List V),SqT K H t us→SqT K (upd H d (.lst ys)) t us:=fun t us h=>by
  rcases h with h | h
  ·refine .inl (e0.pu _ _ h ?_).1
   exact h.elim (fun h=>S.pure_tup h) fun ⟨_,h⟩=>S.pure_frz (.inl h)
  ·exact .inr h
 refine ⟨S.nd,S.lt,fun q hq=>?_,S.dj,S.hx,fun a ha=>?_,S.tbk (.upd hl ql9)⟩
 ·have hn:q.1∈s.cs.map (·.1):=List.mem_map.mpr ⟨q,hq,rfl⟩
  have kp:∀ a∈m.fp q.1,∀ o,H a=some o→upd H d (.lst ys) a=some o:=fun a ha o h=>by
   rw [qad (show a≠d from fun z=>S.hx _ hn a ha (by rw [z];exact hd))];exact h
  have:=S.ok q hq
  cases c:q.2 with
  | lst l=>rw [c] at this;obtain ⟨a1,vs,a2,a3⟩:=this;exact ⟨a1,vs,kp _ (by rw [a1];simp) _ a2,a3.ext0 e0.toExtR⟩
  | dct l=>rw [c] at this;obtain ⟨a1,vs,a2,a3⟩:=this;exact ⟨a1,vs,kp _ (by rw [a1];simp) _ a2,a3.ext0 e0.toExtR⟩
  | dfz l=>rw [c] at this;obtain ⟨a1,ob,vs,a2,a3⟩:=this;exact ⟨a1,ob,vs,kp _ (by rw [a1];simp) _ a2,a3.ext0 e0.toExtR⟩
  | obj C fs=>rw [c] at this;obtain ⟨a1,dx,vs,a2,a3,a4⟩:=this;exact ⟨a1,dx,vs,kp _ (by rw [a1];simp) _ a2,a3,a4.ext0 e0.toExtR⟩
  | book pp L =>
   rw [c] at this
   obtain ⟨z,L',B,e1,e2⟩:=this
   rw [e2] at kp
   have kb:∀ a∈My.BFp (m.ad q.1) z L',∀ o,H a=some o→upd H d (.lst ys) a=some o:=kp
   refine ⟨z,L',⟨kb _ (by simp [My.BFp]) _ B.ob,kb _ (by simp [My.BFp]) _ B.pp,kb _ (by simp [My.BFp]) _ B.tt,kb _ (by simp [My.BFp]) _ B.mm,kb _ (by simp [My.BFp]) _ B.ll,kb _ (by simp [My.BFp]) _ B.hh,fun q' hq'=>?_,B.nd,B.p6,B.h8⟩,e1,e2⟩
   obtain ⟨ts,h1,h2,h3⟩:=B.he q' hq'
   refine ⟨ts,h1,kb _ ?_ _ h2,fun y hy=>nt _ _ (h3 y hy)⟩
   unfold My.BFp
   simp only [List.mem_cons]
   right;right;right;right;right;right
   exact List.mem_map.mpr ⟨q',hq',rfl⟩
 ·by_cases e:a=d
  ·subst e;rw [qae];exact ⟨by simp,fun _ _=>⟨by simp,by simp,by simp,by simp⟩⟩
  ·rw [qad e];exact S.hs a ha
theorem Ext0.show {H:Hp}{m:Mp}{s:Sto}{d:Addr}{l:List Addr} (hm:m.hid=d::l):Ext0 H m s H (m.bare l) s :=
 ⟨⟨Nat.le_refl _,fun _ _=>rfl,fun a u h p=>⟨h,fun z=>p.1 (by rw [hm];exact List.mem_cons_of_mem _ z),p.2⟩,fun a u h _ _=>h⟩,fun j l _ h=>⟨h,fun o h=>h⟩⟩
theorem SR.show {K:PySem.W.Frag}{H:Hp}{m:Mp}{s:Sto}{d:Addr}{l:List Addr}{u0:HO} (S:SR K CB H m s) (hm:m.hid=d::l) (hu:H d=some u0) (hno:¬ Odd u0):SR K CB H (m.bare l) s:=by
 have e0:Ext0 H m s H (m.bare l) s:=Ext0.show hm
 refine ⟨S.nd,S.lt,fun q hq=>?_,S.dj,fun n hn a ha hb=>S.hx n hn a ha (by rw [hm];exact List.mem_cons_of_mem _ hb),fun a ha=>S.hs a (by rw [hm];exact List.mem_cons_of_mem _ ha),fun P q t=>⟨?_,(S.tb P q t).2⟩⟩
 rotate_left
 ·obtain ⟨h1,ps,h2,_⟩:=S.tb P q t
  rw [hm] at h1
  rcases List.mem_cons.mp h1 with z | z
  ·rw [z,hu] at h2;cases h2;exact absurd (.inl ⟨_,rfl⟩) hno
  ·exact z
 have:=S.ok q hq
 cases c:q.2 with
 | lst l=>rw [c] at this;obtain ⟨a1,vs,a2,a3⟩:=this;exact ⟨a1,vs,a2,a3.ext0 e0.toExtR⟩
 | dct l=>rw [c] at this;obtain ⟨a1,vs,a2,a3⟩:=this;exact ⟨a1,vs,a2,a3.ext0 e0.toExtR⟩
 | dfz l=>rw [c] at this;obtain ⟨a1,ob,vs,a2,a3⟩:=this;exact ⟨a1,ob,vs,a2,a3.ext0 e0.toExtR⟩
 | obj C fs=>rw [c] at this;obtain ⟨a1,dx,vs,a2,a3,a4⟩:=this;exact ⟨a1,dx,vs,a2,a3,a4.ext0 e0.toExtR⟩
 | book pp L=>rw [c] at this;exact this
theorem ER.ext0 {K:PySem.W.Frag}{H H':Hp}{m m':Mp}{s s':Sto}{σ:St}{ρ:En} (h:ER K H m s σ ρ) (e:ExtR H m s H' m' s'):ER K H' m' s' σ ρ :=
 ⟨h.len,fun i p q=>let ⟨u,a,b⟩:=h.at_ i p q;⟨u,a,b.ext0 e⟩⟩
structure Cmp (K:PySem.W.Frag) (CB:Addr) (D:Addr) (H1:Hp) (m1:Mp) (s1:Sto) (cap:St) (ρ:En) (ys:List V) (done:List PV) (H2:Hp) (m2:Mp) (s2:Sto):Prop where
 hid:m2.hid=D::m1.hid
 at_:H2 D=some (.lst ys)
 sr:SR K CB H2 m2 s2
 er:ER K H2 m2 s2 cap ρ
 rs:Reps K H2 m2 s2 ys done
 ex:Ext H1 m1 s1 H2 (m2.bare m1.hid) s2
 e0:Ext0 H1 m1 s1 H2 m2 s2
theorem Cmp.start {K:PySem.W.Frag}{D:Addr}{H1:Hp}{m1:Mp}{s1:Sto}{cap:St}{ρ:En} (S:SR K CB H1 m1 s1) (er:ER K H1 m1 s1 cap ρ) (hD:H1 D=none):Cmp K CB D H1 m1 s1 cap ρ [] [] (upd H1 D (.lst [])) (m1.hide D) s1 :=
 ⟨rfl,qae,S.hide hD,er.ext0 (Ext0.hide hD).toExtR,.nil,Ext.same (My.qew hD),Ext0.hide hD⟩
theorem Ext.into {K:PySem.W.Frag}{D:Addr}{H1 H2 H5:Hp}{m1 m2 m5:Mp}{s1 s2 s5:Sto} (hid:m2.hid=D::m1.hid) (S2:SR K CB H2 m2 s2) (hD:H1 D=none) (a:Ext H1 m1 s1 H2 (m2.bare m1.hid) s2) (b:Ext H2 m2 s2 H5 m5 s5):Ext H1 m1 s1 H5 (m5.bare m1.hid) s5:=by
 have pr:∀ c u,Rd H1 c u→Pur m1 s1 c→Rd H2 c u∧Pur m2 s2 c:=fun c u h p=>by
  obtain ⟨h1,p1⟩:=a.pu c u h p
  refine ⟨h1,fun z=>?_,p1.2⟩
  rw [hid] at z
  exact (List.mem_cons.mp z).elim (h.ne hD) p.1
 refine ⟨⟨⟨Nat.le_trans a.nx b.nx,fun n h=>(b.ad n (Nat.lt_of_lt_of_le h a.nx)).trans (a.ad n h),fun c u h p=>?_,fun c u h n p=>?_⟩,fun j l hj h=>?_⟩,rfl,fun c hc o h n=>?_⟩
 ·obtain ⟨h1,p1⟩:=pr c u h p
  obtain ⟨h2,p2⟩:=b.pu c u h1 p1
  exact ⟨h2,p.1,p2.2⟩
 ·obtain ⟨_,p1⟩:=pr c _ (.inl h) p
  exact b.el c u (a.el c u h n p) n p1
 ·obtain ⟨h1,k1⟩:=a.df j l hj h
  obtain ⟨h2,k2⟩:=b.df j l (Nat.lt_of_lt_of_le hj a.nx) h1
  have e:m2.ad j=m1.ad j:=a.ad j hj
  rw [e] at k2
  exact ⟨h2,fun o h=>k2 o (k1 o h)⟩
 ·exact b.hk c (by rw [hid];exact List.mem_cons_of_mem _ hc) o (a.hk c hc o h n) n
theorem Cmp.step {K:PySem.W.Frag}{D:Addr}{H1 H2 H5:Hp}{m1 m2 m5:Mp}{s1 s2 s5:Sto}{cap:St}{ρ:En}{ys:List V}{done:List PV} (C:Cmp K CB D H1 m1 s1 cap ρ ys done H2 m2 s2) (hD:H1 D=none) (b:Ext H2 m2 s2 H5 m5 s5) (S5:SR K CB H5 m5 s5):Cmp K CB D H1 m1 s1 cap ρ ys done H5 m5 s5 :=
 ⟨b.hd.trans C.hid,b.hk D (by rw [C.hid];exact List.mem_cons_self) _ C.at_ (by intro _ z;cases z),S5,C.er.ext b,C.rs.ext b,Ext.into C.hid C.sr hD C.ex b,C.e0.trans b.toExt0⟩
theorem Cmp.push {K:PySem.W.Frag}{D:Addr}{H1 H2:Hp}{m1 m2:Mp}{s1 s2:Sto}{cap:St}{ρ:En}{ys:List V}{done:List PV}{v:V}{q:PV} (C:Cmp K CB D H1 m1 s1 cap ρ ys done H2 m2 s2) (hD:H1 D=none) (r:Rep K H2 m2 s2 v q):Cmp K CB D H1 m1 s1 cap ρ (ys++[v]) (done++[q]) (upd H2 D (.lst (ys++[v]))) m2 s2:=by
 have hm:D∈m2.hid:=by rw [C.hid];exact List.mem_cons_self
 have e0:Ext0 H2 m2 s2 (upd H2 D (.lst (ys++[v]))) m2 s2:=Ext0.redo C.sr hm C.at_ ql9
 refine ⟨C.hid,qae,C.sr.redo hm C.at_,C.er.ext0 e0.toExtR,(C.rs.append (.cons r .nil)).ext0 e0.toExtR,⟨⟨⟨C.ex.nx,C.ex.ad,fun c u h p=>?_,fun c u h n p=>?_⟩,fun j l hj h=>⟨(C.ex.df j l hj h).1,fun o ho=>?_⟩⟩,rfl,fun c hc o h n=>?_⟩,C.e0.trans e0⟩
 ·obtain ⟨h1,p1⟩:=C.ex.pu c u h p
  have ne:=h.ne hD
  exact ⟨h1.elim (fun h=>.inl (by rw [qad ne];exact h)) fun ⟨o,h⟩=>.inr ⟨o,by rw [qad ne];exact h⟩,p1⟩
 ·rw [qad (qak h hD)];exact C.ex.el c u h n p
 ·rw [qad (qak ho hD)];exact (C.ex.df j l hj h).2 o ho
 ·rw [qad (qak h hD)];exact C.ex.hk c hc o h n
theorem Cmp.done {K:PySem.W.Frag}{D:Addr}{H1 H2:Hp}{m1 m2:Mp}{s1 s2:Sto}{cap:St}{ρ:En}{ys:List V}{done:List PV} (C:Cmp K CB D H1 m1 s1 cap ρ ys done H2 m2 s2):SR K CB H2 (m2.bare m1.hid) s2∧(D∉m1.hid→Rep K H2 (m2.bare m1.hid) s2 (.ref D) (.lst done)):=by
 refine ⟨C.sr.show C.hid C.at_ ql9,fun hn=>.lst C.at_ ⟨hn,fun n hh z=>C.sr.hx n hh D z (by rw [C.hid];exact List.mem_cons_self)⟩ (C.rs.ext0 (Ext0.show C.hid).toExtR)⟩
theorem qo3 {σ:St}{H1:Hp}{m1:Mp}{s1:Sto}{ρ:En}{J:It}{l:List PV}{D:Addr}{Q:VK}{t:XT} (S1:SR X.K CB H1 m1 s1) (er:ER X.K H1 m1 s1 σ ρ) (it:qet X.K CB J l H1 m1 s1) (hD:H1 D=none) (hlen:l.length≤100000)
  (P:Post X.K CB (Rep X.K) E ((qcw t f (qck ix ρ) l s1).bind fun vs s2=>.ok (.lst vs) s2) H1 m1 s1 Q):CompB J (TDT X.K CB E0 t) (TDE X.K CB E0 f) (capt ix σ) D H1 Q:=by
 refine ⟨fun i k ys H2=>∃ done m2 s2,Cmp X.K CB D H1 m1 s1 (capt ix σ) (qck ix ρ) ys done H2 m2 s2∧i≤l.length∧ys.length≤i∧k=l.length - i∧(qcw t f (qck ix ρ) l s1).bind (fun vs s2=>.ok (PV.lst vs) s2)=(qcw t f (qck ix ρ) (l.drop i) s2).bind fun vs s2=>.ok (.lst (done++vs)) s2,⟨l.length,[],m1.hide D,s1,Cmp.start S1 (er.capt ix) hD,Nat.zero_le _,Nat.zero_le _,rfl,?_⟩,?_⟩
 ·simp
 rintro i k ys H2 ⟨done,m2,s2,C,hi,hy,rfl,eq⟩
 obtain ⟨it1,it2⟩:=it i H2 m2 s2 C.e0 C.sr
 by_cases hlt:i < l.length
 ·right
  have hq:l[i]?=some l[i]:=List.getElem?_eq_getElem hlt
  obtain ⟨go,yl⟩:=it1 _ hq
  refine ⟨go,fun x H3 hyl=>?_⟩
  obtain ⟨e3,S3,r3⟩:=yl x H3 hyl
  have C3:=C.step hD e3 S3
  rw [List.drop_eq_getElem_cons hlt] at eq
  rw [eq] at P
  rw [qd2] at P eq
  refine ⟨some l[i]::qck ix ρ,s2,m2,C3.er.cons r3,S3,?_⟩
  cases ct:t (some l[i]::qck ix ρ) s2 with
  | bad=>rw [ct] at P;exact P.elim
  | ex c3 s3=>rw [ct] at P;exact P.elim
  | ok bt s3 =>
   rw [ct] at P eq
   intro b4 H4 m4 e4 S4 hb
   subst hb
   have C4:=C3.step hD e4 S4
   cases b4 with
   | false =>
    exact iteF ⟨l.length - (i+1),by omega,done,m4,s3,C4,hlt,by omega,rfl,eq⟩
   | true =>
    refine iteT ⟨some l[i]::qck ix ρ,s3,m4,C4.er.cons (r3.ext e4),S4,?_⟩
    dsimp only at P eq
    cases cf:f (some l[i]::qck ix ρ) s3 with
    | bad=>rw [cf] at P;exact P.elim
    | ex c5 s5=>rw [cf] at P;exact P.elim
    | ok v s5 =>
     rw [cf] at eq
     intro w H5 m5 e5 S5 r5
     have C5:=C4.step hD e5 S5
     refine ⟨C5.at_,Nat.lt_of_le_of_lt (Nat.le_trans hy (Nat.le_trans hi hlen)) (by decide),l.length - (i+1),by omega,done++[v],m5,s5,C5.push hD r5,hlt,by simp;omega,rfl,?_⟩
     rw [eq]
     dsimp only
     cases hh:qcw t f (qck ix ρ) (l.drop (i+1)) s5 with
     | ok vs s6=>simp [Out.bind]
     | ex c6 s6=>exact absurd hh qhk
     | bad=>rfl
 ·left
  have hle:l.length≤i:=Nat.le_of_not_lt hlt
  rw [List.drop_eq_nil_of_le hle] at eq
  rw [eq] at P
  unfold qcw at P
  obtain ⟨S2',rd⟩:=C.done
  refine ⟨it2 hle,C.at_,P (.ref D) H2 (m2.bare m1.hid) C.ex S2' ?_⟩
  rw [List.append_nil]
  exact rd fun z=>(S1.hs D z).1 hD
theorem qjv {σ:St}{H:Hp}{Q:VK}{t:XT} (q:TDE X.K CB E (qfb fi ix t f) σ H Q):tComp (TDI X.K CB E fi) ix (TDT X.K CB E0 t) (TDE X.K CB E0 f) σ H Q:=by
 obtain ⟨ρ,s,m,er,S,P⟩:=q
 refine ⟨ρ,s,m,er,S,?_⟩
 unfold qfb at P
 cases c:fi ρ s with
 | bad=>rw [c] at P;exact P
 | ex c' s'=>rw [c] at P;exact P
 | ok l s1 =>
  rw [c] at P
  dsimp only [Out.bind] at P
  split at P
  ·rename_i hlen
   intro J H1 m1 e1 S1 it D hD
   exact qo3 S1 (er.ext e1) it hD hlen (Post.shift e1 P)
  ·exact P.elim
theorem qnt (hc:X.calm=true) (S:CompOk X.N X.env.scope scope x fr ix) (hi:DI X CB E (.Name x px) iter fi)
  (ht:∀ cl C s₃ H₃ fp,DIfs (blk X scope cl C (x::fr) s₃ H₃ fp) CB ifs t) (he:∀ cl C s₃ H₃ fp,DE (blk X scope cl C (x::fr) s₃ H₃ fp) CB E0 elt f)
  (hs:∀ v,foldedSetIterable iter X.env v=pure v:=by intro _;rfl):DE X CB E (.ListComp elt [⟨.Name x px,iter,ifs,0⟩] scope pos) (qfb fi ix t f) :=
 ⟨(qkm hc S hi.pi (fun cl C s₃ H₃ fp=>(ht cl C s₃ H₃ fp).pifs) (fun cl C s₃ H₃ fp=>(he cl C s₃ H₃ fp).pe) hs).mono fun σ H Q q=>qjv q⟩
theorem qjs {i:Nat}{y:Str}{py spos:Pos} (hN:X.N.Nodup) (hiy:X.N[i]?=some y) (hly:X.env.scope.names.lookup y=some .local) (hc:X.calm=true) (S:CompOk X.N X.env.scope scope x fr ix) (hi:DI X CB E (.Name x px) iter fi)
  (ht:∀ cl C s₃ H₃ fp,DIfs (blk X scope cl C (x::fr) s₃ H₃ fp) CB ifs t) (he:∀ cl C s₃ H₃ fp,DE (blk X scope cl C (x::fr) s₃ H₃ fp) CB E0 elt f)
  (hsw:swapsWith (.ListComp elt [⟨.Name x px,iter,ifs,0⟩] scope pos) (some (.Name y py)) spos.line X.env=pure true:=by rfl)
  (hs:∀ v,foldedSetIterable iter X.env v=pure v:=by intro _;rfl):DS X CB E (.Assign [.Name y py] (.ListComp elt [⟨.Name x px,iter,ifs,0⟩] scope pos) spos) (xSet i (qfb fi ix t f)) :=
 ⟨(qjd hN hiy hly hc S hi.pi (fun cl C s₃ H₃ fp=>(ht cl C s₃ H₃ fp).pifs) (fun cl C s₃ H₃ fp=>(he cl C s₃ H₃ fp).pe) hsw hs).mono fun D σ H ⟨ρ,s,m,er,S,P⟩ =>
  qjv ⟨ρ,s,m,er,S,Post.so P fun v s1 u H1 m1 e1 S1 r1 P1=>P1.next S1 ((er.ext e1).set i r1)⟩⟩
end
end L2
namespace L2
open PySem PySem.Spec PyProof.Rows
abbrev XF:=List PV→Sto→Out PV
def spD (K:PySem.W.Frag) (CB:Addr) (n:Nat) (D:XF):Sp:=fun vs H Q E=>vs.length=n∧∃ ps s m,Reps K H m s vs ps∧SR K CB H m s∧Post K CB (Rep K) E (D ps s) H m s Q
def xCall (n:Nat) (D:XF) (fa:XA) (ρ:En) (s:Sto):Out PV:=(fa ρ s).bind fun vs s1=>if vs.length=n then D vs s1 else .bad
def fnD (N:Nat) (g:XS) (vs:List PV) (s:Sto):Out PV:=match g (vs.map some++List.replicate (N - vs.length) none) s with
 | .nx _ s'=>.ok .non s'
 | .rt v s'=>.ok v s'
 | .ex c s'=>.ex c s'
 | _=>.bad
section
variable {X:Cx}{CB:Addr}{E:XK}{a b c e elt iter tg:Expr}{es ifs:List Expr}{f g h:XE}{fa fi:XA}{t:XT}{p px py pos pos' apos cpos:Pos}{x y:Str}{st:Stmt}{rest sts sts':List Stmt}{u v:XS}{scope:Scope}{fr:List Str}{ix:List Nat}{n k:Nat}{D:XF}{ps:List Str}
theorem qbj (F:Fn X.prog X.w X.K X.mg X.base x k ps (spD X.K CB n D)) (hr:Room k X.A) (hg:Gl X x) (hx:qc7 (CXo X.prog X.w) X E) (ha:DA X CB E (e::es) fa) (hdb:(x == ("__debug__":Str))=false:=by decide)
  (he:starEach (e::es) X.env=(false,eval e X.env)::starEach es X.env:=by rfl) (hpl:(backTo pos (starEach es X.env)).any (·.1)=false:=by rfl):DE X CB E (.Call (.Name x p) (e::es) [] pos) (xCall n D fa) :=
 ⟨(qiy F hr hg hx ha.pa hdb he hpl).mono fun σ H Q ⟨ρ,s,m,er,S,P⟩=>⟨ρ,s,m,er,S,P.bind fun v s1 u H1 m1 e1 S1 r1 P1=>by
  split at P1
  ·rename_i hl
   rw [List.append_nil]
   exact ⟨by rw [r1.length];exact hl,v,s1,m1,r1,S1,P1⟩
  ·exact P1.elim⟩⟩
def xBM (n:Nat) (D:XF) (f:XE) (fa:XA) (ρ:En) (s:Sto):Out PV:=(f ρ s).bind fun o s1=>match o with
 | .ref k=>match s1.get k with
  | some (.book _ _)=>(fa ρ s1).bind fun vs s2=>if vs.length+1=n then D (.ref k::vs) s2 else .bad
  | _=>.bad
 | _=>.bad
theorem de_bm {pl:Sem Bool}{m:Str} (ho:DE X CB E a f) (M:Mt X.prog X.w X.K X.mg X.base CB m k ps (spD X.K CB n D)) (hno:∀ z,(My.bf z).lookup m=none) (hr:Room k X.A) (hx:qc7 (CXo X.prog X.w) X E) (ha:DA X CB E (e::es) fa)
  (hst:starEach (e::es) X.env=(false,eval e X.env)::starEach es X.env:=by rfl) (hpl:(backTo pos (starEach es X.env)).any (·.1)=false:=by rfl)
  (ht:eval (.Call (.Attribute a m apos) (e::es) [] pos) X.env=(do
   let ov ← eval a X.env
   standAt apos.atName
   let (f,first) ← holding [ov] (getMethod ov m pl)
   callWith pos f first (backTo pos (starEach (e::es) X.env)) (backToKw pos (keywordEach [] X.env))):=by rfl):DE X CB E (.Call (.Attribute a m apos) (e::es) [] pos) (xBM n D f fa) :=
 ⟨(qg8 (pl:=pl) ho.pe M hr hx ha.pa hst hpl ht).mono fun σ H Q ⟨ρ,s,m,er,S,P⟩=>⟨ρ,s,m,er,S,P.bind fun v s1 u H1 m1 e1 S1 r1 P1=>by
  split at P1
  ·split at P1
   ·rename_i hg
    obtain ⟨z,L',B,_,_⟩:=S1.get hg
    cases r1 with
    | ref hn =>
    refine ⟨_,_,_,rfl,B.ob,hno z,ρ,s1,m1,er.ext e1,S1,P1.bind fun vs s2 us H2 m2 e2 S2 r2 P2=>?_⟩
    split at P2
    ·rename_i hl
     rw [List.append_nil]
     refine ⟨by rw [List.length_cons,r2.length];exact hl,_,s2,m2,.cons ?_ r2,S2,P2⟩
     exact (Rep.ref hn).ext e2
    ·exact P2.elim
   ·exact P1.elim
  ·exact P1.elim⟩⟩
theorem de_bm0 {pl:Sem Bool}{m:Str} (ho:DE X CB E a f) (M:Mt X.prog X.w X.K X.mg X.base CB m k ps (spD X.K CB n D)) (hno:∀ z,(My.bf z).lookup m=none) (hr:Room k X.A) (hx:qc7 (CXo X.prog X.w) X E)
  (ht:eval (.Call (.Attribute a m apos) [] [] pos) X.env=(do
   let ov ← eval a X.env
   standAt apos.atName
   let (f,first) ← holding [ov] (getMethod ov m pl)
   callWith pos f first (backTo pos (starEach [] X.env)) (backToKw pos (keywordEach [] X.env))):=by rfl):DE X CB E (.Call (.Attribute a m apos) [] [] pos) (xBM n D f xNil) :=
 ⟨(pe_mt0 (pl:=pl) ho.pe M hr hx ht).mono fun σ H Q ⟨ρ,s,m,er,S,P⟩=>⟨ρ,s,m,er,S,P.bind fun v s1 u H1 m1 e1 S1 r1 P1=>by
  split at P1
  ·split at P1
   ·rename_i hg
    obtain ⟨z,L',B,_,_⟩:=S1.get hg
    cases r1 with
    | ref hn =>
    refine ⟨_,_,_,rfl,B.ob,hno z,?_⟩
    simp only [xNil,Out.bind] at P1
    split at P1
    ·rename_i hl
     exact ⟨hl,_,s1,m1,.cons (.ref hn) .nil,S1,P1⟩
    ·exact P1.elim
   ·exact P1.elim
  ·exact P1.elim⟩⟩
def xBook (_:En) (s:Sto):Out PV:=.ok (.ref s.nx) (s.add (.book [] []))
def spInit (K:PySem.W.Frag) (C:Addr):Sp:=fun vs H Q _=>∃ (p dx:Addr),vs=[.ref p]∧H p=some (.ins C dx [])∧∀ z H',(∀ c∈[z.dp,z.dt,z.dm,z.dl,z.dh],H c=none)→My.BookAt K C H' p z [] []→(∀ c o,H c=some o→c≠p→H' c=some o)→Q .non H'
theorem de_book (M:MkB X.prog X.w X.K X.mg X.base x CB k ps (spInit X.K CB)) (hr:Room (k+1) X.A) (hg:Gl X x) (hx:qc7 (CXo X.prog X.w) X E) (hdb:(x == ("__debug__":Str))=false:=by decide):DE X CB E (.Call (.Name x p) [] [] pos) xBook :=
 ⟨(pe_mk0 M hr hg hx hdb).mono fun σ H Q ⟨ρ,s,m,er,S,P⟩ b dx hb hdx hne=>by
  refine ⟨b,dx,rfl,qae,fun z H' hz B kp=>⟨rfl,?_⟩⟩
  have hk:Same H H':=fun c o h=>by
   have h1:c≠b:=qak h hb
   have h2:c≠dx:=qak h hdx
   exact kp c o (by rw [qad h1,qad h2];exact h) h1
  have hzn:∀ c∈[z.dp,z.dt,z.dm,z.dl,z.dh],H c=none:=fun c hc=>by
   have h:=hz c hc
   have n1:c≠b:=fun e=>by rw [e,qae] at h;cases h
   have n2:c≠dx:=fun e=>by rw [qad n1,e,qae] at h;cases h
   rw [qad n1,qad n2] at h;exact h
  obtain ⟨S2,e2⟩:=S.add (c:=.book [] []) H' b (My.BFp b z []) hk (fun a ha=>by
   unfold My.BFp at ha
   rcases List.mem_cons.mp ha with rfl | ha
   ·exact hb
   ·exact hzn a (by simpa using ha)) fun ex=>by
    refine ⟨z,[],?_,rfl,?_⟩
    ·rw [Mp.add_ad];exact B
    ·rw [Mp.add_ad];show (if s.nx=s.nx then _ else _)=_;rw [if_pos rfl]
  exact P _ _ _ e2 S2 .new⟩
theorem qer {P:Program}{w:World}{K:PySem.W.Frag}{mg:Str→Option Value}{base:Heap}{qual:Str}{fa:Addr}{fd:FuncData}{N:List Str} (F:Fun K x qual st fa fd) (S:FnScope N ps (qac st)) (hps:ps.length=n)
  (hb:∀ (cdv:Value) (A:Around) (outer:List Env) (s:Shared) (H:Hp) (E:XK),Room k (A.deeper (envOfC qual (qac st) s.heap.objs.size fa cdv))→DSs (cxOf (CXo P w) P w K mg base N qual (qac st) fa cdv A outer s H E) CB E (qal st) u) :
  FnOk P w K mg base (CXo P w) (k+1) fa fd ps (spD K CB n (fnD N.length u)):=by
 refine F.okX S (fun vs H Q E h=>by rw [hps];exact h.1) (fun cdv A outer s H vs Q E hr h=>?_)
 obtain ⟨hl,ps',s',m,r,S',P'⟩:=h
 refine ⟨_,(hb cdv A outer s H E hr).pss,ps'.map some++List.replicate (N.length - ps'.length) none,s',m,?_,S',?_⟩
 ·unfold start
  rw [r.length]
  exact ER.start r _
 ·unfold fnD at P'
  cases cc:u (ps'.map some++List.replicate (N.length - ps'.length) none) s' with
  | nx ρ1 s1=>rw [cc] at P';exact fun σ' H' m' x S1 er=>P' .non H' m' x S1 .non
  | rt v1 s1=>rw [cc] at P';exact fun u' H' m' x S1 r1=>P' u' H' m' x S1 r1
  | ex c1 s1=>rw [cc] at P';exact P'
  | bk=>rw [cc] at P';exact P'.elim
  | ct=>rw [cc] at P';exact P'.elim
  | bad=>rw [cc] at P';exact P'.elim
open Classical in
def Sto.only (s:Sto) (n:Nat):Sto:=⟨s.nx,s.cs.filter fun q=>decide (q.1 < n)⟩
def xOnly (f:XE) (ρ:En) (s:Sto):Out PV:=(f ρ s).bind fun v s1=>.ok v (s1.only s.nx)
def frz1 (v:PV) (s:Sto):Out PV:=match v with
 | .ref n=>match s.get n with
  | some (.lst l)=>.ok (.lst l) (s.del n)
  | some (.dct l)=>.ok (.dct l) (s.del n)
  | _=>.bad
 | _=>.bad
def xFrz (f:XE) (ρ:En) (s:Sto):Out PV:=(f ρ s).bind frz1
theorem SR.frz {K:PySem.W.Frag}{H:Hp}{m:Mp}{s s':Sto}{x:V}{v w:PV} (S:SR K CB H m s) (r:Rep K H m s x v) (e:frz1 v s=.ok w s'):SR K CB H m s'∧Ext H m s H m s'∧Rep K H m s' x w:=by
 unfold frz1 at e
 split at e
 ·rename_i n
  have pu:∀ c,s.get n=some c→m.fp n=[m.ad n]→Pur m (s.del n) (m.ad n):=fun c hg e1=>by
   have hin:n∈s.cs.map (·.1):=List.mem_map.mpr ⟨_,qbc hg,rfl⟩
   refine ⟨S.hx n hin _ (by rw [e1];simp),fun j hj z=>?_⟩
   obtain ⟨q,hq,rfl⟩:=List.mem_map.mp hj
   have hne:=delC_no S.nd hq
   exact S.dj n hin q.1 (List.mem_map.mpr ⟨q,qgb hq,rfl⟩) (fun z=>hne z.symm) _ (by rw [e1];simp) z
  split at e
  ·rename_i l hg
   cases e
   cases r
   obtain ⟨e1,vs,h1,h2⟩:=S.get hg
   have hnd:∀ l,s.get n≠some (.dfz l):=fun l z=>by rw [hg] at z;cases z
   exact ⟨(S.del n hnd).1,(S.del n hnd).2,.lst h1 (pu _ hg e1) (h2.ext (S.del n hnd).2)⟩
  ·rename_i l hg
   cases e
   cases r
   obtain ⟨e1,vs,h1,h2⟩:=S.get hg
   have hnd:∀ l,s.get n≠some (.dfz l):=fun l z=>by rw [hg] at z;cases z
   exact ⟨(S.del n hnd).1,(S.del n hnd).2,.dct (.inl h1) (pu _ hg e1) (h2.ext (S.del n hnd).2)⟩
  ·cases e
 ·cases e
theorem de_frz (h:DE X CB E e f):DE X CB E e (xFrz f):=⟨h.pe.mono fun σ H Q ⟨ρ,s,m,er,S,P⟩=>⟨ρ,s,m,er,S,P.bind fun v s1 u H1 m1 e1 S1 r1 P1=>by
 cases cc:frz1 v s1 with
 | ok w s2 =>
  rw [cc] at P1
  obtain ⟨S2,e2,r2⟩:=S1.frz r1 cc
  exact P1 u H1 m1 e2 S2 r2
 | ex c' s' =>
  exfalso
  unfold frz1 at cc
  split at cc
  ·split at cc <;> cases cc
  ·cases cc
 | bad=>rw [cc] at P1;exact P1.elim⟩⟩
theorem pe_thaw {tt:TE} (h:PE X e tt):PE X e (fun σ H Q=>∃ d kvs0,H d=some (.dK kvs0)∧tt σ H (fun v H'=>∃ ob kvs,H' d=some (.frz ob (.dK kvs))∧Q v (upd H' d (.dK kvs)))):=by
 intro pins s σ H Q I ⟨d,kvs0,hd,q⟩
 have n3:∀ o v,X.H₀ d≠some (.frz o v):=fun o v z=>by rw [I.base.frzs d o v z] at hd;cases hd
 refine thn (h pins s σ H _ I q) fun u s1 ⟨v,H1,I1,r1,ob,kvs,e1,q1⟩=>?_
 exact ⟨v,_,I1.thaw e1 n3,r1,q1⟩
theorem SR.freezeC {K:PySem.W.Frag}{H:Hp}{m:Mp}{s:Sto}{n:Nat}{l:List (Key×PV)} (S:SR K CB H m s) (hg:s.get n=some (.dct l)):∃ vs,H (m.ad n)=some (.dK vs)∧∀ ob,∃ m',m'.ad=m.ad∧SR K CB (upd H (m.ad n) (.frz ob (.dK vs))) m' (s.set n (.dfz l))∧Ext H m s (upd H (m.ad n) (.frz ob (.dK vs))) m' (s.set n (.dfz l))∧RepKs K (upd H (m.ad n) (.frz ob (.dK vs))) m' (s.set n (.dfz l)) vs l:=by
 obtain ⟨e1,vs,h1,r1⟩:=S.get hg
 refine ⟨vs,h1,fun ob=>⟨m.fput n [m.ad n],rfl,?_⟩⟩
 have:=S.put (c':=.dfz l) hg (by intro _ z;cases z) (upd H (m.ad n) (.frz ob (.dK vs))) [m.ad n] (fun a o h ha=>by
  rw [e1,List.mem_singleton] at ha
  rw [qad ha];exact h) (fun a ha=>.inl (by rw [e1];exact ha)) fun ex=>⟨by show (if n=n then [m.ad n] else m.fp n)=_;rw [if_pos rfl];rfl,ob,vs,qae,r1.ext0 ex⟩
 exact ⟨this.1,this.2,r1.ext this.2⟩
theorem ExtR.trans {H H1 H2:Hp}{m m1 m2:Mp}{s s1 s2:Sto} (a:ExtR H m s H1 m1 s1) (b:ExtR H1 m1 s1 H2 m2 s2):ExtR H m s H2 m2 s2 :=
 ⟨Nat.le_trans a.nx b.nx,fun n h=>(b.ad n (Nat.lt_of_lt_of_le h a.nx)).trans (a.ad n h),fun c u h p=>let ⟨h1,p1⟩:=a.pu c u h p;b.pu c u h1 p1,fun c x h n p=>b.el c x (a.el c x h n p) n (a.pu c _ (.inl h) p).2⟩
theorem SR.thawC {K:PySem.W.Frag}{H H1:Hp}{m m1:Mp}{s s1:Sto}{n:Nat}{l:List (Key×PV)} (h0:∀ l,s.get n≠some (.dfz l)) (hn:n < s.nx) (e:Ext H m s H1 m1 s1) (S:SR K CB H1 m1 s1) (hg:s1.get n=some (.dfz l)) :
  ∃ ob vs,H1 (m.ad n)=some (.frz ob (.dK vs))∧∃ m2,SR K CB (upd H1 (m.ad n) (.dK vs)) m2 (s1.set n (.dct l))∧Ext H m s (upd H1 (m.ad n) (.dK vs)) m2 (s1.set n (.dct l))∧ExtR H1 m1 s1 (upd H1 (m.ad n) (.dK vs)) m2 (s1.set n (.dct l)):=by
 have ea:m1.ad n=m.ad n:=e.ad n hn
 have hin:n∈s1.cs.map (·.1):=List.mem_map.mpr ⟨_,qbc hg,rfl⟩
 obtain ⟨e1,ob,vs,h1,r1⟩:=S.get hg
 rw [ea] at e1 h1
 refine ⟨ob,vs,h1,m1.fput n [m.ad n],?_⟩
 obtain ⟨S2,x2,_⟩:=S.put' (c':=.dct l) hg (upd H1 (m.ad n) (.dK vs)) [m.ad n] (fun a o h ha=>by
  rw [e1,List.mem_singleton] at ha
  rw [qad ha];exact h) (fun a ha=>.inl (by rw [e1];exact ha)) fun ex=>⟨by show (if n=n then [m.ad n] else m1.fp n)=[m1.ad n];rw [if_pos rfl,ea],vs,by show upd H1 (m.ad n) (.dK vs) (m1.ad n)=_;rw [ea];exact qae,r1.ext0 ex⟩
 refine ⟨S2,⟨⟨e.toExtR.trans x2,fun j l' hj h=>?_⟩,e.hd,fun a ha o h n0=>?_⟩,x2⟩
 ·have hjn:j≠n:=fun z=>h0 l' (by rw [← z];exact h)
  obtain ⟨g1,g2⟩:=e.df j l' hj h
  refine ⟨(qcb hjn).trans g1,fun o ho=>?_⟩
  obtain ⟨e3,_⟩:=S.ok _ (qbc g1)
  have hne:m.ad j≠m.ad n:=fun z=>S.dj j (List.mem_map.mpr ⟨_,qbc g1,rfl⟩) n hin hjn (m1.ad j) (by rw [e3];simp) (by rw [e1,e.ad j hj,z];simp)
  rw [qad hne];exact g2 o ho
 ·have ha':a∈m1.hid:=by rw [e.hd];exact ha
  have hne:a≠m.ad n:=fun z=>S.hx n hin a (by rw [e1,z];simp) ha'
  rw [qad hne];exact e.hk a ha o h n0
def thw (n:Nat) (s:Sto):Option Sto:=match s.get n with
 | some (.dfz l)=>some (s.set n (.dct l))
 | _=>none
def qld (j:Nat) (ix:List Nat) (c:XT) (e:XE) (ρ:En) (s:Sto):Out PV:=match ρ[j]? with
 | some (some (.ref n))=>match s.get n with
  | some (.dct l)=>if l.length≤100000 then (qcw c e (qck ix ρ) (l.map fun kv=>keyP kv.1) (s.set n (.dfz l))).bind fun vs s2=>match thw n s2 with
    | some s3=>.ok (.lst vs) s3
    | none=>.bad
   else .bad
  | _=>.bad
 | _=>.bad
theorem qkb {s:Sto}{n:Nat}{c c':Cell} (h:s.get n=some c):(s.set n c').get n=some c':=by
 have:∀ {l:List (Nat×Cell)},getC l n=some c→getC (setC n c' l) n=some c':=by
  intro l
  induction l with
  | nil=>intro h;cases h
  | cons q r ih =>
   intro h
   obtain ⟨k,d⟩:=q
   unfold setC
   split
   ·unfold getC;rw [if_pos rfl]
   ·rename_i hk
    unfold getC at h ⊢
    rw [if_neg hk] at h ⊢
    exact ih h
 exact this h
theorem iterC {K:PySem.W.Frag}{H1:Hp}{m1:Mp}{s1:Sto}{n:Nat}{ob:Obj}{vs:List (Key×V)}{l:List (Key×PV)} (S1:SR K CB H1 m1 s1) (hg:s1.get n=some (.dfz l)) {d:Addr} (ea:m1.ad n=d) (h1:H1 d=some (.frz ob (.dK vs))) (r:RepKs K H1 m1 s1 vs l):qet K CB (Itd d ob vs) (l.map fun kv=>keyP kv.1) H1 m1 s1 :=
 iterD (fun H m s ex S=>by
  have:=(ex.df n l (S1.getlt hg) hg).2
  rw [ea] at this
  exact this _ h1) r
theorem de_compD (j:Nat) (hc:X.calm=true) (hN:X.N[j]?=some y) (hv:Vis X.env.scope y) (S:CompOk X.N X.env.scope scope x fr ix)
  (ht:∀ cl C s₃ H₃ fp,DIfs (blk X scope cl C (x::fr) s₃ H₃ fp) CB ifs t) (he:∀ cl C s₃ H₃ fp,DE (blk X scope cl C (x::fr) s₃ H₃ fp) CB E0 elt f)
  (hs:∀ v,foldedSetIterable (.Name y py) X.env v=pure v:=by intro _;rfl) (hd:(y == ("__debug__":Str))=false:=by decide) (hcd:(y == ("__classdict__":Str))=false:=by decide):DE X CB E (.ListComp elt [⟨.Name x px,.Name y py,ifs,0⟩] scope pos) (qld j ix t f) :=
 ⟨(pe_thaw (qkm hc S (pi_dict (qoc hN hv hd hcd)) (fun cl C s₃ H₃ fp=>(ht cl C s₃ H₃ fp).pifs) (fun cl C s₃ H₃ fp=>(he cl C s₃ H₃ fp).pe) hs)).mono fun σ H Q ⟨ρ,s,m,er,S,P⟩=>by
  unfold qld at P
  split at P
  ·rename_i n hρ
   split at P
   ·rename_i l hg
    split at P
    ·rename_i hlen
     obtain ⟨u,hu,ru⟩:=er.at_ j _ hρ
     cases ru with
     | ref hn =>
     obtain ⟨vs,h1,hf⟩:=S.freezeC hg
     refine ⟨m.ad n,vs,h1,_,hu,m.ad n,vs,rfl,.inl ⟨h1,fun ob D hD=>?_⟩⟩
     obtain ⟨m1,ea,S1,e1,r1⟩:=hf ob
     have hg1:(s.set n (.dfz l)).get n=some (.dfz l):=qkb hg
     have ea':m1.ad n=m.ad n:=by rw [ea]
     refine qo3 (E:=E0) (t:=t) (f:=f) S1 (er.ext e1) (iterC S1 hg1 ea' qae r1) hD (by simpa using hlen) ?_
     cases cc:qcw t f (qck ix ρ) (l.map fun kv=>keyP kv.1) (s.set n (.dfz l)) with
     | bad=>rw [cc] at P;exact P.elim
     | ex c' s'=>exact absurd cc qhk
     | ok vs2 s2 =>
      rw [cc] at P
      intro u2 H2 m2 e2 S2 r2
      simp only [Out.bind] at P
      unfold thw at P
      split at P
      ·rename_i s3 h3
       split at h3 <;> cases h3
       rename_i l2 hg2
       obtain ⟨ob',vs',q1,m3,S3,e3,x3⟩:=SR.thawC (fun l' z=>by rw [hg] at z;cases z) hn (e1.trans e2) S2 hg2
       exact ⟨ob',vs',q1,P u2 _ m3 e3 S3 (r2.ext0 x3)⟩
      ·exact P.elim
    ·exact P.elim
   ·exact P.elim
  ·exact P.elim⟩
end
end L2
namespace L2
open PySem PySem.Spec PyProof.Rows
def erH (H:Hp) (d:Addr):Hp:=fun b=>if b=d then none else H b
theorem qf8 {H:Hp}{a d:Addr} (h:a≠d):erH H d a=H a:=by unfold erH;rw [if_neg h]
theorem qov {H:Hp}{d:Addr}:erH H d d=none:=by unfold erH;rw [if_pos rfl]
section
variable {X:Cx}{CB:Addr}{E:XK}{a b c e elt iter tg:Expr}{es ifs:List Expr}{f g h:XE}{fa fi:XA}{t:XT}{p px py pos pos' apos cpos:Pos}{x y:Str}{st:Stmt}{rest sts sts':List Stmt}{u v:XS}{n k:Nat}{D:XF}{ps:List Str}
theorem SR.hideD {K:PySem.W.Frag}{H:Hp}{m:Mp}{s:Sto}{d:Addr}{xs:List (Key×V)} (S:SR K CB H m s) (hd:H d=none):SR K CB (upd H d (.dK xs)) (m.hide d) s:=by
 have k:=My.qew (o:=.dK xs) hd
 have S1:=S.same k
 have e0:Ext0 H m s (upd H d (.dK xs)) (m.hide d) s:=Ext0.hide hd
 have hne:∀ n∈s.cs.map (·.1),∀ a∈m.fp n,a≠d:=fun n hn a ha z=>by
  obtain ⟨q,hq,rfl⟩:=List.mem_map.mp hn
  obtain ⟨o,e,_⟩:=(S.ok q hq).kind ha
  rw [z,hd] at e;cases e
 refine ⟨S.nd,S.lt,fun q hq=>(S.ok q hq).keep S e0.toExtR (fun a _ o h=>k a o h) rfl rfl,S.dj,fun n hn a ha hb=>(List.mem_cons.mp hb).elim (hne n hn a ha) (S.hx n hn a ha),fun a ha=>?_,fun P q t=>⟨List.mem_cons_of_mem _ (S1.tb P q t).1,(S1.tb P q t).2⟩⟩
 rcases List.mem_cons.mp ha with rfl | ha
 ·rw [qae];exact ⟨by simp,fun _ _=>⟨by simp,by simp,by simp,by simp⟩⟩
 ·exact S1.hs a ha
theorem hid_out {K:PySem.W.Frag}{H H2:Hp}{m m2:Mp}{s s2:Sto}{d:Addr}{xs:List (Key×V)} (S:SR K CB H m s) (hd:H d=none) (e:Ext (upd H d (.dK xs)) (m.hide d) s H2 m2 s2) (S2:SR K CB H2 m2 s2) :
  SR K CB (erH H2 d) (m2.bare m.hid) s2∧Ext H m s (erH H2 d) (m2.bare m.hid) s2∧ExtR H2 m2 s2 (erH H2 d) (m2.bare m.hid) s2∧H2 d=some (.dK xs):=by
 have hh:m2.hid=d::m.hid:=e.hd
 have hin:d∈m2.hid:=by rw [hh];exact List.mem_cons_self
 have hD:H2 d=some (.dK xs):=e.hk d List.mem_cons_self _ qae (by intro _ z;cases z)
 have tbE:TbS H2 (erH H2 d):=.of fun a o h od=>by
  rw [qf8 (show a≠d from fun z=>by rw [z,hD] at h;cases h;exact no_dK od)];exact h
 have x2:ExtR H2 m2 s2 (erH H2 d) (m2.bare m.hid) s2:=by
  have ne:∀ a,Pur m2 s2 a→a≠d:=fun a p z=>p.1 (by rw [z];exact hin)
  refine ⟨Nat.le_refl _,fun _ _=>rfl,fun a u h p=>⟨?_,fun z=>p.1 (by rw [hh];exact List.mem_cons_of_mem _ z),p.2⟩,fun a u h _ p=>by rw [qf8 (ne a p)];exact h⟩
  exact h.elim (fun h=>.inl (by rw [qf8 (ne a p)];exact h)) fun ⟨o,h⟩=>.inr ⟨o,by rw [qf8 (ne a p)];exact h⟩
 have fne:∀ n∈s2.cs.map (·.1),∀ a∈m2.fp n,a≠d:=fun n hn a ha z=>S2.hx n hn a ha (by rw [z];exact hin)
 have dn:d∉m.hid:=fun z=>(S.hs d z).1 hd
 have h2:∀ a∈m.hid,a≠d:=fun a ha z=>dn (by rw [← z];exact ha)
 refine ⟨⟨S2.nd,S2.lt,fun q hq=>(S2.ok q hq).keep S2 x2 (fun a ha o h=>by rw [qf8 (fne q.1 (List.mem_map.mpr ⟨q,hq,rfl⟩) a ha)];exact h) rfl rfl,S2.dj,fun n hn a ha hb=>S2.hx n hn a ha (by rw [hh];exact List.mem_cons_of_mem _ hb),fun a ha=>?_,fun P q t=>⟨?_,tbE.2 P q (S2.tb P q t).2⟩⟩,?_,x2,hD⟩
 ·rw [qf8 (h2 a ha)];exact S2.hs a (by rw [hh];exact List.mem_cons_of_mem _ ha)
 ·obtain ⟨h1,ps,h3,_⟩:=S2.tb P q t
  rw [hh] at h1
  rcases List.mem_cons.mp h1 with z | z
  ·rw [z,hD] at h3;cases h3
  ·exact z
 ·have e1:=(Ext0.hide (m:=m) (s:=s) (o:=.dK xs) hd).trans e.toExt0
  refine ⟨⟨e1.toExtR.trans x2,fun j l hj h=>⟨(e1.df j l hj h).1,fun o ho=>?_⟩⟩,rfl,fun a ha o h n0=>?_⟩
  ·rw [qf8 (qak ho hd)];exact (e1.df j l hj h).2 o ho
  ·rw [qf8 (h2 a ha)];exact e.hk a (List.mem_cons_of_mem _ ha) o (My.qew hd _ _ h) n0
def xDisp (f g:XE) (ρ:En) (s:Sto):Out PV:=match f ρ s with
 | .ok v s1=>match g ρ s1 with
  | .ok w s2=>match kyOf v with
   | some k=>.ok (.ref s2.nx) (s2.add (.dct [(k,w)]))
   | none=>.bad
  | _=>.bad
 | _=>.bad
theorem de_disp (hk:DE X CB E a f) (hv:DE X CB E b g):DE X CB E (.Dict [some a] [b] pos) (xDisp f g) :=
 ⟨(pe_disp (qob hk.pe hv.pe pps_nil) rfl rfl (by simp) (by simp)).mono fun σ H Q ⟨ρ,s,m,er,S,P⟩ p0 hp=>by
  have e0:Ext0 H m s (upd H p0 (.dK [])) (m.hide p0) s:=Ext0.hide hp
  have hm:SR X.K CB (upd H p0 (.dK [])) (m.hide p0) s:=S.hideD hp
  refine ⟨ρ,s,m.hide p0,er.ext0 e0.toExtR,hm,?_⟩
  unfold xDisp at P
  cases c1:f ρ s with
  | bad=>rw [c1] at P;exact P.elim
  | ex c' s'=>rw [c1] at P;exact P.elim
  | ok v s1 =>
   rw [c1] at P
   intro u1 H1 m1 e1 S1 r1
   refine ⟨ρ,s1,m1,(er.ext0 e0.toExtR).ext e1,S1,?_⟩
   dsimp only at P
   cases c2:g ρ s1 with
   | bad=>rw [c2] at P;exact P.elim
   | ex c' s'=>rw [c2] at P;exact P.elim
   | ok w s2 =>
    rw [c2] at P
    intro u2 H2 m2 e2 S2 r2
    dsimp only at P
    split at P
    ·rename_i k hk
     obtain ⟨S3,e3,x3,hD⟩:=hid_out S hp (e1.trans e2) S2
     have ek:u1=kV k:=qf2 r1 hk
     refine ⟨hD,[(k,u2)],by rw [ek];rfl,by simp,?_⟩
     have hk':Same (erH H2 p0) (upd H2 p0 (.dK [(k,u2)])):=fun c o h=>by
      have hne:c≠p0:=fun z=>by rw [z,qov] at h;cases h
      rw [qad hne];rw [qf8 hne] at h;exact h
     obtain ⟨S4,e4⟩:=S3.newD (l:=[(k,w)]) qov hk' qae (.cons (r2.ext0 x3) .nil)
     exact P _ _ _ (e3.trans e4) S4 .new
    ·exact P.elim⟩
def xIfe (t:XT) (f g:XE) (ρ:En) (s:Sto):Out PV:=(t ρ s).bind fun b s1=>if b=true then f ρ s1 else g ρ s1
inductive Ty5 where
 | int | bool | str | tuple | list
def Ty5.nm:Ty5→String
 | .int=>"int" | .bool=>"bool" | .str=>"str" | .tuple=>"tuple" | .list=>"list"
inductive Ty7 where
 | int | bool | str | tuple | list | non | dict
def Ty7.nm:Ty7→String
 | .int=>"int" | .bool=>"bool" | .str=>"str" | .tuple=>"tuple" | .list=>"list" | .non=>"NoneType" | .dict=>"dict"
def kitT:Ty7→Ty5→Bool
 | .int,.int=>true | .bool,.bool=>true | .bool,.int=>true | .str,.str=>true | .tuple,.tuple=>true | .list,.list=>true
 | _,_=>false
theorem kit_tab (K:PySem.W.Frag):∀ (t:Ty7) (u:Ty5),PySem.W.kitOne K (.type t.nm) (.type u.nm)=some (kitT t u)
 | .int,.int=>by kernel_rfl
 | .int,.bool=>by kernel_rfl
 | .int,.str=>by kernel_rfl
 | .int,.tuple=>by kernel_rfl
 | .int,.list=>by kernel_rfl
 | .bool,.int=>by kernel_rfl
 | .bool,.bool=>by kernel_rfl
 | .bool,.str=>by kernel_rfl
 | .bool,.tuple=>by kernel_rfl
 | .bool,.list=>by kernel_rfl
 | .str,.int=>by kernel_rfl
 | .str,.bool=>by kernel_rfl
 | .str,.str=>by kernel_rfl
 | .str,.tuple=>by kernel_rfl
 | .str,.list=>by kernel_rfl
 | .tuple,.int=>by kernel_rfl
 | .tuple,.bool=>by kernel_rfl
 | .tuple,.str=>by kernel_rfl
 | .tuple,.tuple=>by kernel_rfl
 | .tuple,.list=>by kernel_rfl
 | .list,.int=>by kernel_rfl
 | .list,.bool=>by kernel_rfl
 | .list,.str=>by kernel_rfl
 | .list,.tuple=>by kernel_rfl
 | .list,.list=>by kernel_rfl
 | .non,.int=>by kernel_rfl
 | .non,.bool=>by kernel_rfl
 | .non,.str=>by kernel_rfl
 | .non,.tuple=>by kernel_rfl
 | .non,.list=>by kernel_rfl
 | .dict,.int=>by kernel_rfl
 | .dict,.bool=>by kernel_rfl
 | .dict,.str=>by kernel_rfl
 | .dict,.tuple=>by kernel_rfl
 | .dict,.list=>by kernel_rfl
def tyOf (s:Sto):PV→Option Ty7
 | .int _=>some .int
 | .bl _=>some .bool
 | .str _=>some .str
 | .non=>some .non
 | .tup _=>some .tuple
 | v=>match lsOf s v with
  | some _=>some .list
  | none=>none
def xIsiT (T:Ty5) (f:XE) (ρ:En) (s:Sto):Out PV:=(f ρ s).bind fun v s1=>match tyOf s1 v with
 | some k=>.ok (.bl (kitT k T)) s1
 | none=>.bad
theorem qdv (T:Ty5) (hx:x=(T.nm:String)) (hgi:Gl X "isinstance") (hmi:X.mg "isinstance"=none) (ha:DE X CB E a f) (hg:Gl X x) (hm:X.mg x=none) (hv:bootBuiltins x=some (.type T.nm)) (hn:x≠"__name__") (hd:(x == ("__debug__":Str))=false)
  (hs:starEach [a,.Name x px] X.env=(false,eval a X.env)::starEach [.Name x px] X.env:=by rfl) (hpl:(backTo pos (starEach [.Name x px] X.env)).any (·.1)=false:=by rfl):DE X CB E (.Call (.Name "isinstance" p) [a,.Name x px] [] pos) (xIsiT T f) :=
 ⟨(qdp call_isi hgi hmi qk7 (qam ha.pe (qam (pe_bltn (v:=.ty T.nm) hg hm hv rfl hn hd) pa_nil) hs) (by decide) (by decide) hs hpl).mono fun σ H Q ⟨ρ,s,m,er,S,P⟩=>⟨ρ,s,m,er,S,P.bind fun v s1 u H1 m1 e1 S1 r1 P1=>by
  split at P1
  ·rename_i k hk
   refine ⟨u,.ty T.nm,.type k.nm,kitT k T,rfl,.inr ⟨_,rfl⟩,?_,kit_tab _ k T,P1.here S1 .bl⟩
   cases r1 with
   | non=>cases hk;exact .inl .non
   | bl=>cases hk;exact .inl (.bl _)
   | int=>cases hk;exact .inl (.int _)
   | str=>cases hk;exact .inl (.str _)
   | tup h1 h2=>cases hk;exact .inr (.inr (.inr ⟨_,_,rfl,rfl,h1.elim (fun z=>.inl z.1) .inr⟩))
   | lst h1 h2 h3=>cases hk;exact .inr (.inr (.inl ⟨_,_,rfl,rfl,SqL.of h1⟩))
   | seq h1 h3=>cases hk;exact .inr (.inr (.inl ⟨_,_,rfl,rfl,h1.elim (fun z=>.inl (.inr z.1)) .inr⟩))
   | dct h1 h2 h3=>cases hk
   | exc h1 h2=>cases hk
   | clo h1=>cases hk
   | ref h1 =>
    rename_i n
    have hk:(match lsOf s1 (.ref n) with | some _=>some Ty7.list | none=>none)=some k:=hk
    split at hk <;> cases hk
    rename_i l hl
    obtain ⟨b,vs,eb,q,_⟩:=(Rep.ref h1).ls S1 hl
    cases eb
    exact .inr (.inr (.inl ⟨_,vs,rfl,rfl,q⟩))
  ·exact P1.elim⟩⟩
end
end L2
namespace L2
open PySem PySem.Spec PyProof.Rows
def qfp:List (Key×PV)→Sto→Option (List (Key×PV)×Sto)
 | [],s=>some ([],s)
 | (k,v)::r,s=>match frz1 v s with
  | .ok w s1=>match qfp r s1 with
   | some (r',s2)=>some ((k,w)::r',s2)
   | none=>none
  | _=>none
def frz2 (v:PV) (s:Sto):Out PV:=match frz1 v s with
 | .ok (.dct l) s1=>match qfp l s1 with
  | some (l',s2)=>.ok (.dct l') s2
  | none=>.bad
 | _=>.bad
def xFrz2 (f:XE) (ρ:En) (s:Sto):Out PV:=(f ρ s).bind frz2
section
variable {X:Cx}{CB:Addr}{E:XK}{e:Expr}{f:XE}
theorem qor {K:PySem.W.Frag}{H:Hp}{m:Mp}:∀ {l l':List (Key×PV)}{vs:List (Key×V)}{s s':Sto},SR K CB H m s→RepKs K H m s vs l→qfp l s=some (l',s')→SR K CB H m s'∧Ext H m s H m s'∧RepKs K H m s' vs l'
 | [],_,_,_,_,S,r,e=>by cases e;cases r;exact ⟨S,.refl,.nil⟩
 | (k,v)::l,l',_,s,s',S,.cons r1 r2,e=>by
  unfold qfp at e
  split at e
  ·rename_i w s1 h1
   split at e
   ·rename_i r' s2 h2
    cases e
    obtain ⟨S1,x1,q1⟩:=S.frz r1 h1
    obtain ⟨S2,x2,q2⟩:=qor S1 (r2.ext x1) h2
    exact ⟨S2,x1.trans x2,.cons (q1.ext x2) q2⟩
   ·cases e
  ·cases e
theorem de_frz2 (h:DE X CB E e f):DE X CB E e (xFrz2 f):=⟨h.pe.mono fun σ H Q ⟨ρ,s,m,er,S,P⟩=>⟨ρ,s,m,er,S,P.bind fun v s1 u H1 m1 e1 S1 r1 P1=>by
 unfold frz2 at P1
 split at P1
 ·rename_i l s2 h2
  obtain ⟨S2,x2,r2⟩:=S1.frz r1 h2
  split at P1
  ·rename_i l' s3 h3
   cases r2 with
   | dct g1 g2 g3 =>
    obtain ⟨S3,x3,r3⟩:=qor S2 g3 h3
    exact P1 _ H1 m1 (x2.trans x3) S3 (.dct g1 (x3.pu _ _ g1 g2).2 r3)
  ·exact P1.elim
 ·exact P1.elim⟩⟩
end
end L2
namespace L2
open PySem PySem.Spec PyProof.Rows
section
variable {prog:Program}{w:World}{A:Around}{R:Result→Shared→Prop}{I:Addr}{fp wr:List Addr}{G:Array GenState→Array GenState→Prop}{n:Nat}{P:Nat→Value→Prop}{St:Nat→Shared→Prop}
end
section
variable {prog:Program}{w:World}{A:Around}{E:Value→Shared→Prop}{s:Shared}
end
end L2
namespace L2
open PySem PySem.Spec PyProof.Rows
section
variable {X:Cx}{x y:Str}{p q pos pos2:Pos}{e:Expr}{te:TE}
end
section
variable {X:Cx}{e st:Expr}{te:TE}{ts:TO}{pos p2:Pos}
end
end L2
namespace L2
open PySem PySem.Spec PyProof.Rows
section
variable {X:Cx}{CB:Addr}{E:XK}{a b c e st:Expr}{es:List Expr}{f g h:XE}{fa:XA}{t:XT}{p q p2 pos pos2:Pos}{x y:Str}
end
end L2
namespace L2
open PySem PySem.Spec PyProof.Rows
section
variable {prog:Program}{w:World}{A:Around}{R:Result→Shared→Prop}{s:Shared}
end
structure CompOkG (N:List Str) (esc:Scope) (scope:Scope) (xs fr:List Str) (ix:List Nat):Prop where
 kind:scope.kind=.function
 cell:∀ y∈scope.names,y.2≠.cell
 nm:∀ y∈scope.names,y.2=.local→scope.names.lookup y.1=some .local
 free:∀ y∈scope.names,y.2=.free→esc.names.lookup y.1=some .cell
 nd:(xs++fr).Nodup
 idx:∀ p∈fr.zip ix,N[p.2]?=some p.1
 frs:∀ y∈fr,scope.names.lookup y=some .free∧esc.names.lookup y=some .cell
 len:ix.length=fr.length
section
variable {X:Cx}{elt iter tg:Expr}{ifs:List Expr}{pos:Pos}{scope:Scope}{wi:TI}{tc:TT}{te:TE}{gt:TG}{xs fr:List Str}{ix:List Nat}
end
end L2
namespace L2
open PySem PySem.Spec PyProof.Rows
section
variable {X:Cx}{CB:Addr}{E:XK}{elt iter tg:Expr}{ifs:List Expr}{f:XE}{fi:XA}{t:XT}{pos:Pos}{scope:Scope}{xs fr:List Str}{ix:List Nat}
variable {x1' x2':Str}{q1 q2 q3:Pos}{kt:Nat}
def fMax (vs:List PV) (s:Sto):Out PV:=match vs with
 | [.int i,.int j]=>.ok (.int (if j > i then j else i)) s
 | _=>.bad
theorem b_max (hc:X.calm=true):BltR X CB E (.builtin "max") fMax:=⟨_,call_max2 hc,by
 intro H m s v x Q S rx P
 unfold fMax at P
 split at P
 ·cases rx with
  | cons r n=>cases n with
   | cons r2 n2=>cases n2;cases r;cases r2;exact ⟨_,_,rfl,P.here S .int⟩
 ·exact P.elim⟩
end
end L2
namespace L2
open PySem PySem.Spec PyProof.Rows
def NOw (u:HO):Prop:=∀ o x,u≠.frz o (.own x)
section
variable {K:PySem.W.Frag}{CB:Addr}{H H':Hp}{m:Mp}{s:Sto}
mutual
theorem Rep.now (k:∀ a u,H a=some u→NOw u→H' a=some u):∀ {v:V}{p:PV},Rep K H m s v p→Rep K H' m s v p
 | _,_,.non=>.non
 | _,_,.bl=>.bl
 | _,_,.int=>.int
 | _,_,.str=>.str
 | _,_,.tup h r=>.tup (h.imp (fun z=>⟨z.1.imp (fun h=>k _ _ h (by intro _ _ z;cases z)) fun ⟨o,h⟩=>⟨o,k _ _ h (by intro _ _ z;cases z)⟩,z.2⟩) fun z=>z) (Reps.now k r)
 | _,_,.lst h p r=>.lst (k _ _ h (by intro _ _ z;cases z)) p (Reps.now k r)
 | _,_,.seq h r=>.seq (h.imp (fun ⟨⟨o,z⟩,p⟩=>⟨⟨o,k _ _ z (by intro _ _ z;cases z)⟩,p⟩) fun z=>z) (Reps.now k r)
 | _,_,.dct h p r=>.dct (h.imp (fun h=>k _ _ h (by intro _ _ z;cases z)) fun ⟨o,h⟩=>⟨o,k _ _ h (by intro _ _ z;cases z)⟩) p (RepKs.now k r)
 | _,_,.ref h=>.ref h
 | _,_,.exc h p=>.exc (k _ _ h (by intro _ _ z;cases z)) p
 | _,_,.clo r=>.clo (Reps.now k r)
theorem Reps.now (k:∀ a u,H a=some u→NOw u→H' a=some u):∀ {v:List V}{p:List PV},Reps K H m s v p→Reps K H' m s v p
 | _,_,.nil=>.nil
 | _,_,.cons a b=>.cons (Rep.now k a) (Reps.now k b)
theorem RepKs.now (k:∀ a u,H a=some u→NOw u→H' a=some u):∀ {v:List (Key×V)}{p:List (Key×PV)},RepKs K H m s v p→RepKs K H' m s v p
 | _,_,.nil=>.nil
 | _,_,.cons a b=>.cons (Rep.now k a) (RepKs.now k b)
end
theorem CellOk.now {n:Nat}{c:Cell} (k:∀ a u,H a=some u→NOw u→H' a=some u) (h:CellOk K CB H m s n c):CellOk K CB H' m s n c:=by
 cases c with
 | lst l=>obtain ⟨e1,vs,h,r⟩:=h;exact ⟨e1,vs,k _ _ h (by intro _ _ z;cases z),r.now k⟩
 | dct l=>obtain ⟨e1,vs,h,r⟩:=h;exact ⟨e1,vs,k _ _ h (by intro _ _ z;cases z),r.now k⟩
 | dfz l=>obtain ⟨e1,ob,vs,h,r⟩:=h;exact ⟨e1,ob,vs,k _ _ h (by intro _ _ z;cases z),r.now k⟩
 | obj C fs=>obtain ⟨e1,dx,vs,h,r1,r2⟩:=h;exact ⟨e1,dx,vs,k _ _ h (by intro _ _ z;cases z),r1,r2.now k⟩
 | book pp L =>
  obtain ⟨z,L',B,e1,e2⟩:=h
  have kd:∀ {a:Addr}{kvs:List (Key×V)},H a=some (.dK kvs)→H' a=some (.dK kvs):=fun h=>k _ _ h (by intro _ _ z;cases z)
  refine ⟨z,L',⟨k _ _ B.ob (by intro _ _ z;cases z),kd B.pp,kd B.tt,kd B.mm,kd B.ll,kd B.hh,fun q hq=>?_,B.nd,B.p6,B.h8⟩,e1,e2⟩
  obtain ⟨ts,h1,h2,h3⟩:=B.he q hq
  refine ⟨ts,h1,kd h2,fun y hy=>?_⟩
  rcases h3 y hy with h | h
  ·exact .inl (h.imp (fun h=>k _ _ h (by intro _ _ z;cases z)) fun ⟨o,h⟩=>⟨o,k _ _ h (by intro _ _ z;cases z)⟩)
  ·exact .inr h
variable {cs:List (Addr×Obj)}
theorem qfd (f:Fzd H cs):∀ a u,H a=some u→NOw u→ufz H cs a=some u:=fun a u h n=>by
 rw [qa8 (f.out h fun o z=>n o 0 z)];exact h
theorem SR.ufz (S:SR K CB H m s) (f:Fzd H cs) (hc:∀ c o,cs.lookup c=some o→∃ u,o.data=.cell u):SR K CB (ufz H cs) m s:=by
 refine ⟨S.nd,S.lt,fun q hq=>(S.ok q hq).now (qfd f),S.dj,S.hx,fun a ha=>?_,fun P q t=>⟨(S.tb P q t).1,?_⟩⟩
 ·obtain ⟨h1,h2⟩:=S.hs a ha
  rw [qa8 (show cs.lookup a=none from by
   cases q:cs.lookup a with
   | none=>rfl
   | some o=>exact absurd (f a o q) ((h2 [] o).2.2.2 0))]
  exact ⟨h1,h2⟩
 ·obtain ⟨ps,e1,e2,e3⟩:=(S.tb P q t).2
  refine ⟨ps,qfd f _ _ e1 (by intro _ _ z;cases z),e2,fun p c e=>?_⟩
  obtain ⟨c',oc,a1,a2,vs,tq,a3,a4⟩:=e3 p c e
  refine ⟨c',oc,a1,?_,vs,tq,a3,a4⟩
  rw [qa8 (show cs.lookup c'=none from by
   cases q:cs.lookup c' with
   | none=>rfl
   | some o =>
    obtain ⟨u,hu⟩:=hc c' o q
    have:=f c' o q
    rw [a2] at this
    cases this
    rw [a3] at hu;cases hu)]
  exact a2
theorem Ext.fzd {H2:Hp}{m2:Mp}{s2:Sto} (S:SR K CB H m s) (f:Fzd H cs) (e:Ext (L2.ufz H cs) m s H2 m2 s2) (S2:SR K CB H2 m2 s2) (h0:∀ c o,cs.lookup c=some o→H2 c=none):SR K CB (fz H2 cs) m2 s2∧Ext H m s (fz H2 cs) m2 s2∧Same H2 (fz H2 cs):=by
 have k:Same H2 (fz H2 cs):=fun a o h=>by
  rw [qb4 (show cs.lookup a=none from by
   cases q:cs.lookup a with
   | none=>rfl
   | some o'=>rw [h0 a o' q] at h;cases h)]
  exact h
 refine ⟨S2.same k,⟨⟨⟨e.nx,e.ad,fun a u h p=>?_,fun a u h n p=>?_⟩,fun n l hn h=>⟨(e.df n l hn h).1,fun o ho=>?_⟩⟩,e.hd,fun a ha o h n=>?_⟩,k⟩
 ·cases q:cs.lookup a with
  | none =>
   obtain ⟨h1,p1⟩:=e.pu a u (h.imp (fun h=>by rw [qa8 q];exact h) fun ⟨o,h⟩=>⟨o,by rw [qa8 q];exact h⟩) p
   exact ⟨h1.same k,p1⟩
  | some o =>
   refine ⟨?_,S2.pure_none (h0 a o q)⟩
   have:=f a o q
   rcases h with h | ⟨o',h⟩
   ·rw [this] at h;exact .inl (by rw [qkx q];exact h)
   ·rw [this] at h;exact .inr ⟨o',by rw [qkx q];exact h⟩
 ·cases q:cs.lookup a with
  | none=>exact k _ _ (e.el a u (by rw [qa8 q];exact h) n p)
  | some o=>rw [qkx q,← f a o q];exact h
 ·obtain ⟨_,ob,vs,hd,_⟩:=S.ok _ (qbc h)
  have hd':H (m.ad n)=some (.frz ob (.dK vs)):=hd
  exact k _ _ ((e.df n l hn h).2 o (qfd f _ _ ho (by intro o' x z;rw [z,hd'] at ho;cases ho)))
 ·exact k _ _ (e.hk a ha o (qfd f _ _ h (by intro o' x z;rw [z] at h;exact ((S.hs a ha).2 [] o').2.2.2 x h)) n)
end
def Fro (H H':Hp):Prop:=∀ a o u,H a=some (.frz o u)→H' a=some (.frz o u)
structure CloC (P:Program) (w:World) (K:PySem.W.Frag) (mg:Str→Option Value) (base:Heap) (k:Nat) (CB f:Addr) (vs:List V) (H:Hp) (dr:List PV→PV→Sto→Out PV):Prop where
 ex:∃ of fd0 fd ps sp,H f=some (fzO of)∧of.data=.func fd0∧FnOk P w K mg base (CXo P w) k f fd ps sp∧Binds K fd ps [] ∧
  ∀ H' m s v p l Q,Fro H H'→SR K CB H' m s→Reps K H' m s vs l→Rep K H' m s v p→Post K CB (Rep K) E0 (dr l p s) H' m s Q→sp [v] H' Q E0
def noX (o:Out PV):Out PV:=match o with
 | .ok v s=>.ok v s
 | _=>.bad
theorem Post.noX {K:PySem.W.Frag}{CB:Addr}{R:Hp→Mp→Sto→V→PV→Prop}{E E':XK}{o:Out PV}{H:Hp}{m:Mp}{s:Sto}{Q:V→Hp→Prop} (h:Post K CB R E (L2.noX o) H m s Q):Post K CB R E' o H m s Q:=by
 cases o with
 | ok v s'=>exact h
 | ex c s'=>exact False.elim h
 | bad=>exact h
open Classical in
noncomputable def qi7 (i:Nat) (f:Addr) (vs:List V) (dr:List PV→PV→Sto→Out PV) (g:XE) (ρ:En) (s:Sto):Out PV:=match ρ[i]? with
 | some (some (.clo a ws l))=>if a=f∧ws=vs then (g ρ s).bind fun p s1=>noX (dr l p s1) else .bad
 | _=>.bad
section
variable {X:Cx}{CB:Addr}{E:XK}{k i:Nat}{x:Str}{p pos:Pos}{e:Expr}{g:XE}{f:Addr}{vs:List V}{dr:List PV→PV→Sto→Out PV}
theorem de_callV (C:CloC X.prog X.w X.K X.mg X.base k CB f vs X.H₀ dr) (i:Nat) (hN:X.N[i]?=some x) (hv:Vis X.env.scope x) (hr:Room k X.A) (ha:DE X CB E e g) (hd:(x == ("__debug__":Str))=false:=by decide) (hcd:(x == ("__classdict__":Str))=false:=by decide)
  (hst:starEach [e] X.env=(false,eval e X.env)::starEach [] X.env:=by rfl) (hpl:(backTo pos (starEach [] X.env)).any (·.1)=false:=by rfl):DE X CB E (.Call (.Name x p) [e] [] pos) (qi7 i f vs dr g):=by
 refine ⟨fun pins s σ H Q I ⟨ρ,s',m,er,S,P⟩=>?_⟩
 unfold qi7 at P
 split at P
 case h_2=>exact P.elim
 rename_i a ws l ha'
 split at P
 case isFalse=>exact P.elim
 rename_i hf
 obtain ⟨hf,hw⟩:=hf
 subst hf hw
 obtain ⟨u,hu,ru⟩:=er.at_ i _ ha'
 cases ru
 rename_i rl
 obtain ⟨of,fd0,fd,ps,sp,h1,h2,F,hb,hsp⟩:=C.ex
 have fnAt:∀ {H2:Hp}{s2:Shared}{σ2:St},Inv X pins σ2 H2 s2→PySem.W.FnAt a s2.heap:=fun I2=>by
  have:=(I2.hok a _ (I2.base.frzs _ _ _ h1)).1
  obtain ⟨oc,od,od',sl⟩:=of
  simp only at h2
  subst h2
  exact ⟨_,_,_,_,this⟩
 refine wpAny_Call_Name_kw (thn (qoc hN hv hd hcd pins s σ H (fun v H1=>v=.ref a∧H1=H) I ⟨_,hu,rfl,rfl⟩) fun u s1 ⟨v,H1,I1,r1,e1,e2⟩=>?_)
 subst e1 e2
 obtain rfl:u=Value.ref a:=r1
 refine PySem.W.callWith_F (first:=[]) (fnAt I1) (thn (qam ha.pe pa_nil hst pos pins s1 σ H1 (fun vs H2=>∃ v,vs=[v]∧∃ m2 s2 p2,Ext H1 m s' H2 m2 s2∧SR X.K CB H2 m2 s2∧Rep X.K H2 m2 s2 v p2∧Post X.K CB (Rep X.K) E0 (dr l p2 s2) H2 m2 s2 Q) I1 ?_) fun us s2 ⟨vs,H2,I2,r,v,hvs,m2,s2',p2,x2,S2,r2,P2⟩=>⟨fnAt I2,?_⟩) hst hpl
 ·refine ⟨ρ,s',m,er,S,?_⟩
  exact P.bind fun p1 s1' u1 H1' m1 x1 S1 r1 P1=>⟨u1,rfl,m1,s1',p1,x1,S1,r1,P1.noX⟩
 ·subst hvs
  have q':sp ([v]++[]) H2 Q E0:=hsp H2 m2 s2' v p2 l Q (fun b o u z=>I2.base.frzs b o u z) S2 (rl.ext x2) r2 P2
  exact qn4 F hr hb .nil qa3 I2 r q'
end
def spRo (P:Program) (w:World) (K:PySem.W.Frag) (mg:Str→Option Value) (base:Heap) (k:Nat) (CB:Addr) (D:Addr→List V→(List PV→PV→Sto→Out PV)→XF):Sp:=fun vs H Q E =>
 ∃ f ws dr l s m,vs=[.ref f]∧CloC P w K mg base k CB f ws H dr∧Reps K H m s ws l∧SR K CB H m s∧Post K CB (Rep K) E (D f ws dr [.clo f ws l] s) H m s Q
theorem fn_mkV {P:Program}{w:World}{K:PySem.W.Frag}{mg:Str→Option Value}{base:Heap}{x qual y:Str}{st:Stmt}{fa CB:Addr}{fd:FuncData}{N:List Str}{k kc:Nat}{u:Addr→List V→(List PV→PV→Sto→Out PV)→XS} (F:Fun K x qual st fa fd) (S:FnScope N [y] (qac st))
  (hb:∀ (f:Addr) (ws:List V) (dr:List PV→PV→Sto→Out PV) (cdv:Value) (A:Around) (outer:List Env) (s:Shared) (H:Hp) (E:XK),CloC P w K mg base kc CB f ws H dr→Room k (A.deeper (envOfC qual (qac st) s.heap.objs.size fa cdv))→DSs (cxOf (CXo P w) P w K mg base N qual (qac st) fa cdv A outer s H E) CB E (qal st) (u f ws dr)) :
  FnOk P w K mg base (CXo P w) (k+1) fa fd [y] (spRo P w K mg base kc CB fun f ws dr=>fnD N.length (u f ws dr)):=by
 refine F.okX S (fun vs H Q E h=>by obtain ⟨f,ws,dr,l,s,m,rfl,_⟩:=h;rfl) (fun cdv A outer s H vs Q E hr h=>?_)
 obtain ⟨f,ws,dr,l,s',m,rfl,C,rl,S',P'⟩:=h
 have r:Reps K H m s' [V.ref f] [.clo f ws l]:=.cons (.clo rl) .nil
 refine ⟨_,(hb f ws dr cdv A outer s H E C hr).pss,[PV.clo f ws l].map some++List.replicate (N.length - 1) none,s',m,?_,S',?_⟩
 ·exact ER.start r _
 ·have P':Post K CB (Rep K) E (fnD N.length (u f ws dr) [.clo f ws l] s') H m s' Q:=P'
  unfold fnD at P'
  have hl:([PV.clo f ws l]:List PV).length=1:=rfl
  rw [hl] at P'
  cases cc:u f ws dr ([PV.clo f ws l].map some++List.replicate (N.length - 1) none) s' with
  | nx ρ1 s1=>rw [cc] at P';exact fun σ' H' m' x S1 er=>P' .non H' m' x S1 .non
  | rt v1 s1=>rw [cc] at P';exact fun u' H' m' x S1 r1=>P' u' H' m' x S1 r1
  | ex c1 s1=>rw [cc] at P';exact P'
  | bk=>rw [cc] at P';exact P'.elim
  | ct=>rw [cc] at P';exact P'.elim
  | bad=>rw [cc] at P';exact P'.elim
open Classical in
noncomputable def xAll (F:Addr→List V→Out PV):Out PV:=if h:∃ o,∀ f ws,F f ws=o then Classical.choose h else .bad
theorem xAll_eq {F:Addr→List V→Out PV}{o:Out PV} (h:∀ f ws,F f ws=o):xAll F=o:=by
 unfold xAll
 rw [dif_pos ⟨o,h⟩]
 have:=Classical.choose_spec (⟨o,h⟩:∃ o,∀ f ws,F f ws=o) 0 []
 rw [← this];exact h 0 []
theorem xAll_at {F:Addr→List V→Out PV} (h:xAll F≠.bad) (f:Addr) (ws:List V):F f ws=xAll F:=by
 unfold xAll at h ⊢
 split
 ·rename_i q;exact Classical.choose_spec q f ws
 ·rename_i q;rw [dif_neg q] at h;exact absurd rfl h
def capsL (ρ:En):List Nat→Option (List PV)
 | []=>some []
 | j::r=>match ρ[j]?,capsL ρ r with
  | some (some p),some l=>some (p::l)
  | _,_=>none
noncomputable def xLamR (ix:List Nat) (D:Addr→List V→(List PV→PV→Sto→Out PV)→XF) (g:XE) (ρ:En) (s:Sto):Out PV:=match capsL ρ ix with
 | some l=>noX (xAll fun f ws=>D f ws (fun l p s=>noX (g (some p::l.map some) s)) [.clo f ws l] s)
 | none=>.bad
theorem caps_of {K:PySem.W.Frag}{H:Hp}{m:Mp}{s:Sto}{σ:St}{ρ:En} (er:ER K H m s σ ρ):∀ {ix:List Nat}{l:List PV},capsL ρ ix=some l→∃ caps:List V,caps.length=ix.length∧Reps K H m s caps l∧∀ (i j:Nat) (v:V),ix[i]?=some j→caps[i]?=some v→σ[j]?=some (some v)
 | [],l,h=>by cases h;exact ⟨[],rfl,.nil,fun i j v e=>by cases e⟩
 | j::r,l,h=>by
  unfold capsL at h
  split at h
  ·rename_i p l' h1 h2
   cases h
   obtain ⟨u,hu,ru⟩:=er.at_ j p h1
   obtain ⟨caps,c1,c2,c3⟩:=caps_of er h2
   refine ⟨u::caps,by rw [List.length_cons,List.length_cons,c1],.cons ru c2,fun i j' v e1 e2=>?_⟩
   cases i with
   | zero=>cases e1;cases e2;exact hu
   | succ i=>exact c3 i j' v e1 e2
  ·cases h
theorem lk1 {F:Addr→Obj}{c:Addr}{o:Obj}:∀ {l:List (Str×Addr)},(l.map fun y=>(y.2,F y.2)).lookup c=some o→o=F c∧∃ y,(y,c)∈l
 | [],h=>by cases h
 | (y,d)::r,h=>by
  rw [List.map_cons,List.lookup_cons] at h
  by_cases e:c=d
  ·subst e
   simp at h
   exact ⟨h.symm,y,List.mem_cons_self⟩
  ·have e':(c == d)=false:=by simpa using e
   simp only [e'] at h
   obtain ⟨h1,y',h2⟩:=lk1 h
   exact ⟨h1,y',List.mem_cons_of_mem _ h2⟩
theorem lk2 {F:Addr→Obj}{c:Addr}{y:Str}:∀ {l:List (Str×Addr)},(y,c)∈l→(l.map fun y=>(y.2,F y.2)).lookup c=some (F c)
 | (z,d)::r,h=>by
  rw [List.map_cons,List.lookup_cons]
  by_cases e:c=d
  ·subst e;simp
  ·have e':(c == d)=false:=by simpa using e
   simp only [e']
   rcases List.mem_cons.mp h with q | q
   ·cases q;exact absurd rfl e
   ·exact lk2 q
theorem qmz {cells:List (Str×Addr)}{y:Str}{c:Addr}:∀ {names:List (Str×NameKind)}{cs:List (Str×Addr)},(y,c)∈qcx cells names cs→(y,c)∈cs∨((y,NameKind.free)∈names∧c=(cells.lookup y).getD 0)
 | [],cs,h=>.inl h
 | (n,k)::r,cs,h=>by
  unfold qcx at h
  rcases qmz h with h | ⟨h1,h2⟩
  ·by_cases hk:k=.free
   ·subst hk
    rw [if_pos ff] at h
    rcases List.mem_cons.mp h with q | q
    ·cases q;exact .inr ⟨List.mem_cons_self,rfl⟩
    ·exact .inl q
   ·have hb:(k == NameKind.free)=false:=by simpa using hk
    rw [hb,if_neg Bool.false_ne_true] at h
    exact .inl h
  ·exact .inr ⟨List.mem_cons_of_mem _ h1,h2⟩
theorem Tab.one {K:PySem.W.Frag}{P P':Addr}{q q':Str} (a:Tab K P q) (b:Tab K P' q'):P'=P∧q'=q:=by
 obtain ⟨x,hx,c,h1,h2⟩:=a
 obtain ⟨y,hy,d,h3,h4⟩:=b
 simp only [qlc,List.mem_singleton] at hx hy
 subst hx hy
 rw [h1] at h3
 cases h3
 exact ⟨rfl,h4.trans h2.symm⟩
theorem SR.lam {K:PySem.W.Frag}{CB:Addr}{H H1:Hp}{m:Mp}{s:Sto}{P:Addr}{q:Str} (S:SR K CB H m s) (t:Tab K P q) (T1:TbOk H1 P q) (k:∀ b u,H b=some u→b≠P→H1 b=some u):SR K CB H1 m s∧Ext H m s H1 m s:=by
 have hP:=(S.tb P q t).1
 have nf:∀ n∈s.cs.map (·.1),∀ a∈m.fp n,a≠P:=fun n hn a ha z=>S.hx n hn a ha (z ▸ hP)
 have np:∀ a,Pur m s a→a≠P:=fun a p z=>p.1 (z ▸ hP)
 have x:ExtR H m s H1 m s:=⟨Nat.le_refl _,fun _ _=>rfl,fun a u h p=>⟨h.imp (fun h=>k _ _ h (np a p)) fun ⟨o,h⟩=>⟨o,k _ _ h (np a p)⟩,p⟩,fun a u h _ p=>k _ _ h (np a p)⟩
 have hk:∀ a∈m.hid,∀ o,H a=some o→(∀ ps,o≠.tbl ps)→H1 a=some o:=fun a _ o h n=>k _ _ h fun z=>by
  obtain ⟨_,ps,h2,_⟩:=S.tb P q t
  rw [z,h2] at h;cases h;exact n _ rfl
 refine ⟨⟨S.nd,S.lt,fun r hr=>(S.ok r hr).keep S x (fun a ha o h=>k _ _ h (nf _ (List.mem_map.mpr ⟨r,hr,rfl⟩) a ha)) rfl rfl,S.dj,S.hx,fun a ha=>?_,fun P' q' t'=>?_⟩,⟨⟨x,fun n l hn h=>⟨h,fun o ho=>?_⟩⟩,rfl,hk⟩⟩
 ·by_cases z:a=P
  ·obtain ⟨ps,h2,_⟩:=T1
   rw [z,h2]
   exact ⟨by simp,fun _ _=>⟨by simp,by simp,by simp,by simp⟩⟩
  ·obtain ⟨h1,h2⟩:=S.hs a ha
   cases e:H a with
   | none=>exact absurd e h1
   | some o =>
    rw [k a o e z]
    rw [e] at h2
    exact ⟨by simp,h2⟩
 ·obtain ⟨rfl,rfl⟩:=t.one t'
  exact ⟨hP,T1⟩
 ·obtain ⟨e1,_⟩:=S.ok _ (qbc h)
  exact k _ _ ho (nf n (List.mem_map.mpr ⟨_,qbc h,rfl⟩) _ (by rw [e1];simp))
theorem Ext.unfz {H1 H2:Hp}{m m2:Mp}{s s2:Sto}{cs:List (Addr×Obj)} (h0:∀ c o,cs.lookup c=some o→H1 c=none) (x:Ext (fz H1 cs) m s H2 m2 s2):Ext H1 m s (L2.ufz H2 cs) m2 s2:=by
 have out:∀ {a:Addr}{u:HO},H1 a=some u→cs.lookup a=none:=fun {a u} h=>by
  cases q:cs.lookup a with
  | none=>rfl
  | some o=>rw [h0 a o q] at h;cases h
 have up:∀ {a:Addr}{u:HO},H1 a=some u→fz H1 cs a=some u:=fun {a u} h=>by rw [qb4 (out h)];exact h
 refine ⟨⟨⟨x.nx,x.ad,fun a u h p=>?_,fun a u h n p=>?_⟩,fun n l hn h=>⟨(x.df n l hn h).1,fun o ho=>?_⟩⟩,x.hd,fun a ha o h n=>?_⟩
 ·obtain ⟨h1,p1⟩:=x.pu a u (h.imp (fun h=>up h) fun ⟨o,h⟩=>⟨o,up h⟩) p
  have o':cs.lookup a=none:=h.elim (fun h=>out h) fun ⟨_,h⟩=>out h
  exact ⟨h1.imp (fun h=>by rw [qa8 o'];exact h) fun ⟨o,h⟩=>⟨o,by rw [qa8 o'];exact h⟩,p1⟩
 ·rw [qa8 (out h)];exact x.el a u (up h) n p
 ·rw [qa8 (out ho)];exact (x.df n l hn h).2 o (up ho)
 ·rw [qa8 (out h)];exact x.hk a ha o (up h) n
section
variable {X:Cx}{CB:Addr}{E:XK}{k kb:Nat}{fn y q:Str}{p pos lpos:Pos}{g:XE}{params:Arguments}{body:Expr}{scope:Scope}{fr:List Str}{ix:List Nat}{cd P:Addr}{D:Addr→List V→(List PV→PV→Sto→Out PV)→XF}{pn:Str}
theorem de_lamR (ix:List Nat) (F:Fn X.prog X.w X.K X.mg X.base fn k [pn] (spRo X.prog X.w X.K X.mg X.base (kb+1) CB D)) (hr:Room k X.A) (hg:Gl X fn) (T:LamTxt X.K X.mg X.base cd P) (hcode:X.env.code=.ref cd) (hq:X.env.qual++"<lambda>"=q) (hT:Tab X.K P q) (hdef:defaultsOf params X.env=([],[]))
  (hcells:∀ y∈scope.names,y.2=.free→X.env.scope.names.lookup y.1=some .cell) (hfn:∀ x,X.fn x=true) (S:LamOk scope y fr) (hlen:ix.length=fr.length) (hix:∀ (i j:Nat) (z:Str),fr[i]?=some z→ix[i]?=some j→X.N[j]?=some z)
  (hbind:∀ (cl:List (Str×Addr)) (pm c ctv:Value),Binds X.K (PySem.W.kla_fn "<lambda>" q params body scope cl pm c ctv) [y] [])
  (hbody:∀ (f:Addr) (c':Value) (cl:List (Str×Addr)) (A:Around) (outer:List Env) (s:Shared) (H:Hp),Room kb (A.deeper (envL q scope s.heap.objs.size f c' cl))→DE (cxL X.prog X.w X.K X.mg X.base (y::fr) q scope f c' cl A outer s H) CB E0 body g)
  (hdb:(fn == ("__debug__":Str))=false:=by decide)
  (he:starEach [.Lambda params body scope lpos] X.env=(false,eval (.Lambda params body scope lpos) X.env)::starEach [] X.env:=by rfl) (hpl:(backTo pos (starEach [] X.env)).any (·.1)=false:=by rfl) :
  DE X CB E (.Call (.Name fn p) [.Lambda params body scope lpos] [] pos) (xLamR ix D g):=by
 refine ⟨fun pins s σ H Q I ⟨ρ,s',m,er,SS,PP⟩=>?_⟩
 unfold xLamR at PP
 split at PP
 case h_2=>exact PP.elim
 rename_i l hl
 obtain ⟨caps,c1,c2,c3⟩:=caps_of er hl
 have PP:Post X.K CB (Rep X.K) E0 (xAll fun f ws=>D f ws (fun l p s=>noX (g (some p::l.map some) s)) [.clo f ws l] s') H m s' Q:=PP.noX
 have hnb:(xAll fun f ws=>D f ws (fun l p s=>noX (g (some p::l.map some) s)) [.clo f ws l] s')≠.bad:=fun z=>by rw [z] at PP;exact PP
 obtain ⟨fa,fd,F,hm,hk,hb⟩:=F
 refine wpAny_Call_Name_kw (qia I hg hm ?_ hdb)
 have hcells':∀ y∈scope.names,y.2=.free→X.env.scope.names.lookup y.1=some .cell∨X.env.scope.names.lookup y.1=some .free:=fun y hy hf=>.inl (hcells y hy hf)
 have hcx:∀ z∈scope.names,z.2=.free→∃ c,X.env.cells.lookup z.1=some c:=fun z hz hf=>I.ok.has z.1 (.inl (hcells z hz hf))
 refine PySem.W.callWith_K (h₀:=X.base) I.ok.mod.kin hk (thn (qam (pe_lam (pos:=lpos) (body:=body) T hcode hq hdef hcells') pa_nil he pos pins s σ H (fun vs H1=>∃ f c' oc pm ctv,vs=[.ref f]∧TbOk H1 P q∧H1 f=some (fzO (PySem.W.kla_obj "<lambda>" q params body scope (qcx X.env.cells scope.names []) pm c' ctv))∧H1 c'=some (fzO oc)∧(∃ vs tq,oc.data=.fields vs∧vs[1]?=some (.str q tq))∧∀ b u,H b=some u→b≠P→H1 b=some u) I
  ⟨(SS.tb P q hT).2,fun f c' oc pm ctv H1 a1 a2 a3 a4 a5 a6=>⟨f,c',oc,pm,ctv,rfl,a1,a2,a3,a4,a5⟩⟩) fun us s1 ⟨vs,H1,I1,r,f,c',oc,pm,ctv,hvs,a1,a2,a3,a4,a5⟩=>⟨I1.kIn,?_⟩) he hpl
 subst hvs
 obtain ⟨S1,x1⟩:=SS.lam hT a1 a5
 generalize hcl:qcx X.env.cells scope.names []=cl at a2
 have clC:∀ {z:Str}{c:Addr},(z,c)∈cl→X.env.cells.lookup z=some c:=fun {z c} h=>by
  rw [← hcl] at h
  rcases qmz h with h | ⟨h1,h2⟩
  ·cases h
  ·obtain ⟨c0,h0⟩:=hcx (z,.free) h1 rfl
   rw [h2,h0];rfl
 have clL:∀ {z:Str}{c:Addr},cl.lookup z=some c→(z,c)∈cl:=fun h=>PySem.mem_of_lookup h
 have hcell:∀ {z:Str}{c:Addr},X.env.cells.lookup z=some c→∃ o u,s1.heap.get? c=some o∧o.data=.cell u:=fun {z c} h=>by
  obtain ⟨v,o,h1,h2⟩:=I1.cell z c h
  exact ⟨o,v,h1,h2⟩
 let Fo:Addr→Obj:=fun c=>(s1.heap.get? c).getD default
 have hFo:∀ {c:Addr}{o:Obj},s1.heap.get? c=some o→Fo c=o:=fun {c o} h=>by show (s1.heap.get? c).getD default=o;rw [h];rfl
 generalize hcs:(cl.map fun z=>(z.2,Fo z.2))=cs
 have csO:∀ c o,cs.lookup c=some o→∃ z,(z,c)∈cl∧s1.heap.get? c=some o∧∃ u,o.data=.cell u:=fun c o h=>by
  rw [← hcs] at h
  obtain ⟨h1,z,h2⟩:=lk1 h
  obtain ⟨o',u,h3,h4⟩:=hcell (clC h2)
  rw [hFo h3] at h1
  subst h1
  exact ⟨z,h2,h3,u,h4⟩
 have csI:∀ {z:Str}{c:Addr},cl.lookup z=some c→∀ {o:Obj},s1.heap.get? c=some o→cs.lookup c=some o:=fun {z c} h {o} ho=>by
  rw [← hcs,lk2 (clL h),hFo ho]
 have csN:∀ c o,cs.lookup c=some o→H1 c=none:=fun c o h=>by
  obtain ⟨z,h1,_⟩:=csO c o h
  exact I1.freeC z c (clC h1)
 have same:Same H1 (fz H1 cs):=fun a o h=>by
  rw [qb4 (show cs.lookup a=none from by
   cases q:cs.lookup a with
   | none=>rfl
   | some o'=>rw [csN a o' q] at h;cases h)]
  exact h
 have clo:CloOk scope fr cl cs caps:=by
  refine ⟨fun z hz=>?_,fun z z' c h1 h2=>I.ok.inj z z' c (clC (clL h1)) (clC (clL h2)),fun z c h=>?_,fun i z v h1 h2=>?_,by rw [c1,hlen]⟩
  ·have:=qgd (cells:=X.env.cells) (y:=z) scope.names [] (PySem.mem_of_lookup hz)
   rw [hcl] at this
   exact Option.isSome_iff_exists.mp this
  ·obtain ⟨o,u,h3,h4⟩:=hcell (clC (clL h))
   exact ⟨o,u,csI h h3,h4⟩
  ·have hi:i < ix.length:=by rw [hlen];exact (List.getElem?_eq_some_iff.mp h1).1
   have hj:ix[i]?=some ix[i]:=List.getElem?_eq_getElem hi
   have hσ:=c3 i _ v hj h2
   have hfree:=S.frs z (List.mem_of_getElem? h1)
   have hsc:X.env.scope.names.lookup z=some .cell:=hcells (z,.free) (PySem.mem_of_lookup hfree) rfl
   obtain ⟨mL,_,hloc⟩:=I1.loc
   obtain ⟨u,ru,hu⟩:=hloc _ z v (hix i _ z h1 hj) hσ (.inr (.inl hsc))
   rcases hu with ⟨h3,_⟩ | ⟨_,c,h3,o,h4,h5⟩
   ·have h3:X.env.scope.names.lookup z=some .local:=h3
    rw [hsc] at h3;cases h3
   ·obtain ⟨c',hc'⟩:=Option.isSome_iff_exists.mp (by have:=qgd (cells:=X.env.cells) (y:=z) scope.names [] (PySem.mem_of_lookup hfree);rw [hcl] at this;exact this)
    have e:=clC (clL hc')
    rw [h3] at e
    cases e
    exact ⟨c,o,u,hc',csI hc' h4,h5,ru⟩
 have FC:=clo_of (P:=X.prog) (w:=X.w) (K:=X.K) (mg:=X.mg) (base:=X.base) (CX:=CXo X.prog X.w) (k:=kb) (f:=f) (c':=c') (params:=params) (pm:=pm) (ctv:=ctv) (t:=TDE X.K CB E0 g) S clo a4 fun A outer s H hr=>(hbody f (.ref c') cl A outer s H hr).pe
 have CC:CloC X.prog X.w X.K X.mg X.base (kb+1) CB f caps (fz H1 cs) (fun l p s=>noX (g (some p::l.map some) s)):=by
  refine ⟨_,_,_,_,_,same _ _ a2,rfl,FC,hbind cl pm (.ref c') ctv,fun H' m' s2 v p1 l1 Q' fro S' rl rp PQ=>?_⟩
  have fzd:Fzd H' cs:=fun c o h=>fro c o _ (qkx h)
  have hcd:∀ c o,cs.lookup c=some o→∃ u,o.data=.cell u:=fun c o h=>(csO c o h).elim fun z h=>h.2.2
  refine ⟨v,rfl,fro _ _ _ (same _ _ a2),fro _ _ _ (same _ _ a3),fzd,some p1::l1.map some,s2,m',⟨?_,?_⟩,S'.ufz fzd hcd,?_⟩
  ·rw [List.length_cons,List.length_cons,List.length_map,List.length_map,rl.length]
  ·intro i p2 e2
   cases i with
   | zero=>cases e2;exact ⟨v,rfl,rp.now (qfd fzd)⟩
   | succ i =>
    have e2:(l1.map some)[i]?=some (some p2):=e2
    rw [List.getElem?_map] at e2
    obtain ⟨p3,h3,h4⟩:=Option.map_eq_some_iff.mp e2
    cases h4
    obtain ⟨v3,h5,h6⟩:=(rl.now (qfd fzd)).get h3
    exact ⟨v3,by show (caps.map some)[i]?=_;rw [List.getElem?_map,h5];rfl,h6⟩
  ·cases o:g (some p1::l1.map some) s2 with
   | ok v2 s3 =>
    rw [o] at PQ
    intro u2 H2 m2 x2 S2 r2 h0
    obtain ⟨S3,x3,k3⟩:=Ext.fzd S' fzd x2 S2 h0
    exact PQ u2 _ m2 x3 S3 (r2.ext (Ext.same k3))
   | ex c s3=>rw [o] at PQ;exact False.elim PQ
   | bad=>rw [o] at PQ;exact PQ
 refine run_fz F hr hb (E:=E0) (cs:=cs) (fun H' e s2 h=>?_) I1 (fun c o h=>?_) r ⟨f,caps,_,l,s',m,rfl,CC,(c2.ext x1).ext (Ext.same same),S1.same same,?_⟩
 ·obtain ⟨_,_,_,_,_,_,_,_,_,_,_,_,_,z⟩:=h
  exact z.elim
 ·obtain ⟨z,h1,h2,u,h3⟩:=csO c o h
  refine ⟨h2,csN c o h,I.ok.cab z c (hfn z) (clC h1),fun e=>?_⟩
  obtain ⟨mL,⟨oL,es,ep,hL,hd,_⟩,_⟩:=I1.loc
  rw [e,hL] at h2
  cases h2
  rw [hd] at h3;cases h3
 ·rw [xAll_at hnb f caps]
  cases o:(xAll fun f ws=>D f ws (fun l p s=>noX (g (some p::l.map some) s)) [.clo f ws l] s') with
  | bad=>exact absurd o hnb
  | ex c s3=>rw [o] at PP;exact fun H2 m2 x2 S2=>False.elim (PP H2 m2 ((x1.trans (Ext.same same)).trans x2) S2)
  | ok v2 s3 =>
   rw [o] at PP
   intro u2 H2 m2 x2 S2 r2
   have fzd:Fzd H2 cs:=fun c o h=>x2.el c _ (qkx h) (by intro _ z;cases z) (S1.pure_none (csN c o h))
   exact PP u2 _ m2 (x1.trans (Ext.unfz csN x2)) (S2.ufz fzd fun c o h=>(csO c o h).elim fun z h=>h.2.2) (r2.now (qfd fzd))
end
theorem fn_mkT {P:Program}{w:World}{K:PySem.W.Frag}{mg:Str→Option Value}{base:Heap}{x qual:Str}{st:Stmt}{fa CB cd PT:Addr}{fd:FuncData}{N ps:List Str}{n k:Nat}{u:XS} (F:Fun K x qual st fa fd) (hns:PySem.W.nsIn K mainGlobals x=some (some (.ref fa))) (ht:PySem.W.tabIn K x=some (cd,PT)) (S:FnScope N ps (qac st)) (hps:ps.length=n)
  (hb:∀ (A:Around) (outer:List Env) (s:Shared) (H:Hp) (E:XK),Room k (A.deeper (envOfC qual (qac st) s.heap.objs.size fa (.ref cd)))→DSs (cxOf (CXo P w) P w K mg base N qual (qac st) fa (.ref cd) A outer s H E) CB E (qal st) u) :
  FnOk P w K mg base (CXo P w) (k+1) fa fd ps (spD K CB n (fnD N.length u)):=by
 obtain ⟨oc,od,kV,doc,pm,an,cdv,ct,osl,rfl,lk,hcd⟩:=F.ex
 have hc:cdv=.ref cd:=by
  unfold PySem.W.tabIn at ht
  rw [hns] at ht
  simp only [lk] at ht
  split at ht
  ·split at ht
   ·split at ht
    ·cases ht;rfl
    ·cases ht
   ·cases ht
  ·cases ht
 subst hc
 refine fn_of lk hcd S (fun vs H Q E h=>by rw [hps];exact h.1) fun A outer s H vs Q E hr h=>?_
 obtain ⟨hl,ps',s',m,r,S',P'⟩:=h
 refine ⟨_,(hb A outer s H E hr).pss,ps'.map some++List.replicate (N.length - ps'.length) none,s',m,?_,S',?_⟩
 ·unfold start
  rw [r.length]
  exact ER.start r _
 ·unfold fnD at P'
  cases cc:u (ps'.map some++List.replicate (N.length - ps'.length) none) s' with
  | nx ρ1 s1=>rw [cc] at P';exact fun σ' H' m' x S1 er=>P' .non H' m' x S1 .non
  | rt v1 s1=>rw [cc] at P';exact fun u' H' m' x S1 r1=>P' u' H' m' x S1 r1
  | ex c1 s1=>rw [cc] at P';exact P'
  | bk=>rw [cc] at P';exact P'.elim
  | ct=>rw [cc] at P';exact P'.elim
  | bad=>rw [cc] at P';exact P'.elim
def qny (mg:Str→Option Value) (base:Heap) (P:Addr):Prop:=∃ bm o,mg "__builtins__"=some (.ref bm)∧bm≠builtinsNs∧bm≠mainGlobals∧bm≠P∧base.get? bm=some o∧o.cls=.type "module"∧o.dict=some builtinsNs∧o.data=.plain
theorem lamTxt_mk {K:PySem.W.Frag}{mg:Str→Option Value}{base:Heap}{cd P:Addr} (h1:PySem.W.codeHdIn K cd P=true) (h2:P≠mainGlobals) (h3:qny mg base P):LamTxt K mg base cd P:=⟨fun h X=>PySem.W.codeHd_of_K X h1,h2,h3⟩
end L2
namespace L2
open PySem PySem.Spec PyProof.Rows
def qi6 (fi:XA) (ix:List Nat) (c:XT) (e:XE) (ρ:En) (s:Sto):Out PV:=(fi ρ s).bind fun l s1=>if l.length≤100000 then (qcw c e (qck ix ρ) l s1).bind fun vs s2=>.ok (.ref s2.nx) (s2.add (.lst vs)) else .bad
section
variable {X:Cx}{CB:Addr}{E:XK}{a b c e elt iter tg:Expr}{es ifs:List Expr}{f g h:XE}{fa fi:XA}{t:XT}{p px pos pos' apos cpos:Pos}{x:Str}{st:Stmt}{rest sts sts':List Stmt}{u v:XS}{scope:Scope}{fr:List Str}{ix:List Nat}
theorem Cmp.cell {K:PySem.W.Frag}{D:Addr}{H1 H2:Hp}{m1 m2:Mp}{s1 s2:Sto}{cap:St}{ρ:En}{ys:List V}{done:List PV} (C:Cmp K CB D H1 m1 s1 cap ρ ys done H2 m2 s2) (hD:H1 D=none) (hn:D∉m1.hid) :
  SR K CB H2 ((m2.bare m1.hid).add s2.nx D [D]) (s2.add (.lst done))∧Ext H1 m1 s1 H2 ((m2.bare m1.hid).add s2.nx D [D]) (s2.add (.lst done)):=by
 have S:=C.sr
 have hin:D∈m2.hid:=by rw [C.hid];exact List.mem_cons_self
 have hlt:∀ j∈s2.cs.map (·.1),j≠s2.nx:=fun j hj=>Nat.ne_of_lt (S.lt j hj)
 have hfp:∀ j∈s2.cs.map (·.1),((m2.bare m1.hid).add s2.nx D [D]).fp j=m2.fp j:=fun j hj=>if_neg (hlt j hj)
 have hfn:((m2.bare m1.hid).add s2.nx D [D]).fp s2.nx=[D]:=if_pos rfl
 have had:((m2.bare m1.hid).add s2.nx D [D]).ad s2.nx=D:=if_pos rfl
 have nD:∀ j∈s2.cs.map (·.1),D∉m2.fp j:=fun j hj z=>S.hx j hj D z hin
 have hk:∀ {j:Nat},j∈(s2.add (.lst done)).cs.map (·.1)→j=s2.nx∨j∈s2.cs.map (·.1):=fun {j} hj=>List.mem_cons.mp (show j∈s2.nx::s2.cs.map (·.1) from hj)
 have hsub:∀ a,a∈m1.hid→a∈m2.hid:=fun a ha=>by rw [C.hid];exact List.mem_cons_of_mem _ ha
 have pur:∀ a,a≠D→a∉m1.hid→(∀ n∈s2.cs.map (·.1),a∉m2.fp n)→Pur ((m2.bare m1.hid).add s2.nx D [D]) (s2.add (.lst done)) a:=fun a h1 h2 h3=>⟨h2,fun j hj ha=>by
  rcases hk hj with rfl | hj
  ·rw [hfn,List.mem_singleton] at ha;exact h1 ha
  ·rw [hfp j hj] at ha;exact h3 j hj ha⟩
 have x:ExtR H2 m2 s2 H2 ((m2.bare m1.hid).add s2.nx D [D]) (s2.add (.lst done)):=⟨Nat.le_succ _,fun j hj=>if_neg (Nat.ne_of_lt hj),fun a u h p=>⟨h,pur a (fun z=>p.1 (z ▸ hin)) (fun z=>p.1 (hsub a z)) p.2⟩,fun a u h _ _=>h⟩
 have e1:s1.nx≤s2.nx:=C.ex.nx
 refine ⟨⟨?_,?_,fun q hq=>?_,fun j hj i hi hne a ha hb=>?_,fun j hj a ha hb=>?_,fun a ha=>S.hs a (hsub a ha),fun P q t=>⟨?_,(S.tb P q t).2⟩⟩,⟨⟨⟨Nat.le_succ_of_le e1,fun n hn=>?_,fun a u h p=>?_,C.ex.el⟩,fun n l hn h=>?_⟩,rfl,C.ex.hk⟩⟩
 ·exact List.nodup_cons.mpr ⟨fun z=>hlt _ z rfl,S.nd⟩
 ·intro j hj
  rcases hk hj with rfl | hj
  ·exact Nat.lt_succ_self _
  ·exact Nat.lt_succ_of_lt (S.lt j hj)
 ·rcases List.mem_cons.mp (show q∈(s2.nx,Cell.lst done)::s2.cs from hq) with rfl | hq
  ·exact ⟨by rw [hfn,had],ys,by rw [had];exact C.at_,C.rs.ext0 x⟩
  ·have hqm:q.1∈s2.cs.map (·.1):=List.mem_map.mpr ⟨q,hq,rfl⟩
   exact (S.ok q hq).keep S x (fun a _ o h=>h) (x.ad _ (S.lt _ hqm)) (hfp _ hqm)
 ·rcases hk hj with e | hj <;> rcases hk hi with e' | hi
  ·exact hne (e.trans e'.symm)
  ·rw [e,hfn,List.mem_singleton] at ha;rw [hfp i hi,ha] at hb;exact nD i hi hb
  ·rw [e',hfn,List.mem_singleton] at hb;rw [hfp j hj,hb] at ha;exact nD j hj ha
  ·rw [hfp j hj] at ha;rw [hfp i hi] at hb;exact S.dj j hj i hi hne a ha hb
 ·have hb:a∈m1.hid:=hb
  rcases hk hj with e | hj
  ·rw [e,hfn,List.mem_singleton] at ha;rw [ha] at hb;exact hn hb
  ·rw [hfp j hj] at ha;exact S.hx j hj a ha (hsub a hb)
 ·obtain ⟨h1,ps,h2,_⟩:=S.tb P q t
  rw [C.hid] at h1
  rcases List.mem_cons.mp h1 with z | z
  ·rw [z,C.at_] at h2;cases h2
  ·exact z
 ·have:n≠s2.nx:=Nat.ne_of_lt (Nat.lt_of_lt_of_le hn e1)
  exact (if_neg this).trans (C.ex.ad n hn)
 ·obtain ⟨h1,p1⟩:=C.ex.pu a u h p
  exact ⟨h1,pur a (h.ne hD) p1.1 p1.2⟩
 ·obtain ⟨h1,h2⟩:=C.ex.df n l hn h
  refine ⟨?_,h2⟩
  show getC ((s2.nx,Cell.lst done)::s2.cs) n=_
  unfold getC
  rw [if_neg (fun z=>Nat.ne_of_lt (Nat.lt_of_lt_of_le hn e1) z.symm)]
  exact h1
theorem compB_ofC {σ:St}{H1:Hp}{m1:Mp}{s1:Sto}{ρ:En}{J:It}{l:List PV}{D:Addr}{Q:VK}{t:XT} (S1:SR X.K CB H1 m1 s1) (er:ER X.K H1 m1 s1 σ ρ) (it:qet X.K CB J l H1 m1 s1) (hD:H1 D=none) (hlen:l.length≤100000)
  (P:Post X.K CB (Rep X.K) E ((qcw t f (qck ix ρ) l s1).bind fun vs s2=>.ok (.ref s2.nx) (s2.add (.lst vs))) H1 m1 s1 Q):CompB J (TDT X.K CB E0 t) (TDE X.K CB E0 f) (capt ix σ) D H1 Q:=by
 refine ⟨fun i k ys H2=>∃ done m2 s2,Cmp X.K CB D H1 m1 s1 (capt ix σ) (qck ix ρ) ys done H2 m2 s2∧i≤l.length∧ys.length≤i∧k=l.length - i∧(qcw t f (qck ix ρ) l s1).bind (fun vs s2=>.ok (PV.ref s2.nx) (s2.add (.lst vs)))=(qcw t f (qck ix ρ) (l.drop i) s2).bind fun vs s2=>.ok (.ref s2.nx) (s2.add (.lst (done++vs))),⟨l.length,[],m1.hide D,s1,Cmp.start S1 (er.capt ix) hD,Nat.zero_le _,Nat.zero_le _,rfl,?_⟩,?_⟩
 ·simp
 rintro i k ys H2 ⟨done,m2,s2,C,hi,hy,rfl,eq⟩
 obtain ⟨it1,it2⟩:=it i H2 m2 s2 C.e0 C.sr
 by_cases hlt:i < l.length
 ·right
  have hq:l[i]?=some l[i]:=List.getElem?_eq_getElem hlt
  obtain ⟨go,yl⟩:=it1 _ hq
  refine ⟨go,fun x H3 hyl=>?_⟩
  obtain ⟨e3,S3,r3⟩:=yl x H3 hyl
  have C3:=C.step hD e3 S3
  rw [List.drop_eq_getElem_cons hlt] at eq
  rw [eq] at P
  rw [qd2] at P eq
  refine ⟨some l[i]::qck ix ρ,s2,m2,C3.er.cons r3,S3,?_⟩
  cases ct:t (some l[i]::qck ix ρ) s2 with
  | bad=>rw [ct] at P;exact P.elim
  | ex c3 s3=>rw [ct] at P;exact P.elim
  | ok bt s3 =>
   rw [ct] at P eq
   intro b4 H4 m4 e4 S4 hb
   subst hb
   have C4:=C3.step hD e4 S4
   cases b4 with
   | false =>
    exact iteF ⟨l.length - (i+1),by omega,done,m4,s3,C4,hlt,by omega,rfl,eq⟩
   | true =>
    refine iteT ⟨some l[i]::qck ix ρ,s3,m4,C4.er.cons (r3.ext e4),S4,?_⟩
    dsimp only at P eq
    cases cf:f (some l[i]::qck ix ρ) s3 with
    | bad=>rw [cf] at P;exact P.elim
    | ex c5 s5=>rw [cf] at P;exact P.elim
    | ok v s5 =>
     rw [cf] at eq
     intro w H5 m5 e5 S5 r5
     have C5:=C4.step hD e5 S5
     refine ⟨C5.at_,Nat.lt_of_le_of_lt (Nat.le_trans hy (Nat.le_trans hi hlen)) (by decide),l.length - (i+1),by omega,done++[v],m5,s5,C5.push hD r5,hlt,by simp;omega,rfl,?_⟩
     rw [eq]
     dsimp only
     cases hh:qcw t f (qck ix ρ) (l.drop (i+1)) s5 with
     | ok vs s6=>simp [Out.bind]
     | ex c6 s6=>exact absurd hh qhk
     | bad=>rfl
 ·left
  have hle:l.length≤i:=Nat.le_of_not_lt hlt
  rw [List.drop_eq_nil_of_le hle] at eq
  rw [eq] at P
  unfold qcw at P
  obtain ⟨S2',x2'⟩:=C.cell hD fun z=>(S1.hs D z).1 hD
  have P:Post X.K CB (Rep X.K) E (.ok (.ref s2.nx) (s2.add (.lst (done++[])))) H1 m1 s1 Q:=P
  rw [List.append_nil] at P
  refine ⟨it2 hle,C.at_,?_⟩
  have P:=P (.ref D) H2 ((m2.bare m1.hid).add s2.nx D [D]) x2' S2'
  have e0:((m2.bare m1.hid).add s2.nx D [D]).ad s2.nx=D:=if_pos rfl
  refine P ?_
  have r:=Rep.ref (K:=X.K) (H:=H2) (m:=(m2.bare m1.hid).add s2.nx D [D]) (s:=s2.add (.lst done)) (n:=s2.nx) (Nat.lt_succ_self _)
  rw [e0] at r
  exact r
theorem qnu {σ:St}{H:Hp}{Q:VK}{t:XT} (q:TDE X.K CB E (qi6 fi ix t f) σ H Q):tComp (TDI X.K CB E fi) ix (TDT X.K CB E0 t) (TDE X.K CB E0 f) σ H Q:=by
 obtain ⟨ρ,s,m,er,S,P⟩:=q
 refine ⟨ρ,s,m,er,S,?_⟩
 unfold qi6 at P
 cases c:fi ρ s with
 | bad=>rw [c] at P;exact P
 | ex c' s'=>rw [c] at P;exact P
 | ok l s1 =>
  rw [c] at P
  dsimp only [Out.bind] at P
  split at P
  ·rename_i hlen
   intro J H1 m1 e1 S1 it D hD
   exact compB_ofC S1 (er.ext e1) it hD hlen (Post.shift e1 P)
  ·exact P.elim
theorem qnq {i:Nat}{y:Str}{py spos:Pos} (hN:X.N.Nodup) (hiy:X.N[i]?=some y) (hly:X.env.scope.names.lookup y=some .local) (hc:X.calm=true) (S:CompOk X.N X.env.scope scope x fr ix) (hi:DI X CB E (.Name x px) iter fi)
  (ht:∀ cl C s₃ H₃ fp,DIfs (blk X scope cl C (x::fr) s₃ H₃ fp) CB ifs t) (he:∀ cl C s₃ H₃ fp,DE (blk X scope cl C (x::fr) s₃ H₃ fp) CB E0 elt f)
  (hsw:swapsWith (.ListComp elt [⟨.Name x px,iter,ifs,0⟩] scope pos) (some (.Name y py)) spos.line X.env=pure true:=by rfl)
  (hs:∀ v,foldedSetIterable iter X.env v=pure v:=by intro _;rfl):DS X CB E (.Assign [.Name y py] (.ListComp elt [⟨.Name x px,iter,ifs,0⟩] scope pos) spos) (xSet i (qi6 fi ix t f)) :=
 ⟨(qjd hN hiy hly hc S hi.pi (fun cl C s₃ H₃ fp=>(ht cl C s₃ H₃ fp).pifs) (fun cl C s₃ H₃ fp=>(he cl C s₃ H₃ fp).pe) hsw hs).mono fun D σ H ⟨ρ,s,m,er,S,P⟩ =>
  qnu ⟨ρ,s,m,er,S,Post.so P fun v s1 u H1 m1 e1 S1 r1 P1=>P1.next S1 ((er.ext e1).set i r1)⟩⟩
def qi4 (body:PV→XS) (n:Nat):Nat→Nat→XS
 | 0,_,_,_=>.bad
 | k+1,i,ρ,s=>match s.get n with
  | some (.lst l)=>match l[i]? with
   | some q=>match body q ρ s with
    | .nx ρ' s'=>qi4 body n k (i+1) ρ' s'
    | .ct ρ' s'=>qi4 body n k (i+1) ρ' s'
    | .bk ρ' s'=>.nx ρ' s'
    | o=>o
   | none=>.nx ρ s
  | _=>.bad
def xForC (f:XE) (y:XG) (body:XS) (ρ:En) (s:Sto):SO:=SO.noex (match f ρ s with
 | .ok (.ref n) s1=>qi4 (qav y body) n 1000 0 ρ s1
 | _=>.bad)
theorem ds_forC {y:XG} (hc:X.calm=true) (he:DE X.nox CB E0 e f) (hg:DG X.nox CB tg y) (hb:DSs X.nox CB E0 sts u) (hs:∀ x,foldedSetIterable e X.env x=pure x:=by intro _;rfl):DS X CB E (.For tg e sts [] pos) (xForC f y u) :=
 ⟨PS.nox ((ps_for (X:=X.nox) PassesOwn.never hc (pi_lt he.pe) hg.pg hb.pss hs).mono fun D σ H ⟨ρ,s,m,er,S,P⟩=>by
  have P:=PostS.noex P
  refine ⟨ρ,s,m,er,S,?_⟩
  split at P
  case h_2=>exact P.elim
  rename_i n s1 hf
  rw [hf]
  intro a0 H1 m1 e1 S1 r1
  have P:=PostS.shift e1 P
  have hn:n < s1.nx:=by cases r1;assumption
  have ha:a0=.ref (m1.ad n):=by cases r1;rfl
  subst ha
  have hl:∃ xs,SqL X.K H1 (m1.ad n) xs:=by
   unfold qi4 at P
   split at P
   ·rename_i l hl
    obtain ⟨_,vs,h1,_⟩:=S1.get hl
    exact ⟨vs,SqL.of h1⟩
   ·exact P.elim
  refine .inl ⟨_,rfl,hl,fun i k σ' H'=>∃ ρ' s' m',ER X.K H' m' s' σ' ρ'∧SR X.K CB H' m' s'∧Ext H1 m1 s1 H' m' s'∧PostS X.K CB E0 (qi4 (qav y u) n k i ρ' s') H' m' s' D,⟨1000,ρ,s1,m1,er.ext e1,S1,.refl,P⟩,?_⟩
  rintro i k σ' H' ⟨ρ',s',m',er',S',ex',P'⟩
  cases k with
  | zero=>exact P'.elim
  | succ k =>
   unfold qi4 at P'
   split at P'
   case h_2=>exact P'.elim
   rename_i l hl
   obtain ⟨_,vs,h1,rs⟩:=S'.get hl
   rw [ex'.ad n hn] at h1
   split at P'
   ·rename_i q hq
    right
    obtain ⟨u0,hu,ru⟩:=rs.get hq
    refine ⟨⟨vs,u0,SqL.of h1,hu⟩,fun σ2 H2=>∃ ρ2 s2 m2,ER X.K H2 m2 s2 σ2 ρ2∧SR X.K CB H2 m2 s2∧Ext H1 m1 s1 H2 m2 s2∧PostS X.K CB E0 (qi4 (qav y u) n k (i+1) ρ2 s2) H2 m2 s2 D,fun σ2 H2 ⟨ρ2,s2,m2,a1,a2,a3,a4⟩=>⟨k,Nat.lt_succ_self _,ρ2,s2,m2,a1,a2,a3,a4⟩,fun x H2 ⟨hy1,hy2⟩=>?_⟩
    subst hy1
    have e3:=hy2 vs (SqL.of h1)
    rw [hu] at e3
    cases e3
    have hbo:qav y u q ρ' s'=match y q ρ' s' with | some ρ'=>u ρ' s' | none=>.bad:=rfl
    rw [hbo] at P'
    cases hyq:y q ρ' s' with
    | none=>rw [hyq] at P';exact P'.elim
    | some ρ2 =>
     rw [hyq] at P'
     dsimp only at P'
     refine ⟨ρ',s',m',q,ρ2,er',S',ru,hyq,fun σ2 er2=>⟨ρ2,s',m',er2,S',?_⟩⟩
     cases cb:u ρ2 s' with
     | nx ρ3 s3=>rw [cb] at P';exact fun σ3 H3 m3 e3 S3 er3=>⟨ρ3,s3,m3,er3,S3,ex'.trans e3,PostS.shift e3 P'⟩
     | ct ρ3 s3=>rw [cb] at P';exact fun σ3 H3 m3 e3 S3 er3=>⟨ρ3,s3,m3,er3,S3,ex'.trans e3,PostS.shift e3 P'⟩
     | bk ρ3 s3=>rw [cb] at P';exact P'
     | rt v3 s3=>rw [cb] at P';exact P'
     | ex c3 s3=>rw [cb] at P';exact P'
     | bad=>rw [cb] at P';exact P'
   ·rename_i hq
    left
    exact ⟨⟨vs,SqL.of h1,by rw [rs.length];exact List.getElem?_eq_none_iff.mp hq⟩,P'.next S' er'⟩)⟩
def xClear (f:XE) (ρ:En) (s:Sto):Out PV:=(f ρ s).bind fun v s1=>match v with
 | .ref n=>match s1.get n with
  | some (.lst _)=>.ok .non (s1.set n (.lst []))
  | _=>.bad
 | _=>.bad
theorem de_clear (ho:DE X CB E a f) (hbase:attributeBase a "clear" X.env (eval a X.env)=eval a X.env:=by rfl) (hline:(apos.endLine == cpos.line)=true:=by rfl):DE X CB E (.Call (.Attribute a "clear" apos) [] [] cpos) (xClear f) :=
 ⟨(pe_bm0 PySem.F.plainAttrs_list PySem.F.slot_list_clear PySem.F.type_list_clear mt_clear ho.pe hbase hline).mono fun σ H Q ⟨ρ,s,m,er,S,P⟩=>⟨ρ,s,m,er,S,P.bind fun v s1 u H1 m1 e1 S1 r1 P1=>by
  split at P1
  ·split at P1
   ·rename_i n _ _ hg
    obtain ⟨_,vs0,h0,_⟩:=S1.get hg
    cases r1 with
    | ref hn =>
    obtain ⟨S3,e3⟩:=S1.putL (l':=[]) (vs':=[]) hg .nil
    exact ⟨.inl ⟨rfl,vs0,SqL.of h0⟩,_,vs0,rfl,rfl,h0,P1 _ _ _ e3 S3 .non⟩
   ·exact P1.elim
  ·exact P1.elim⟩⟩
end
end L2
namespace L2
open PySem PySem.Spec PyProof.Rows
def OnlyT (PT:Addr) (H:Hp):Prop:=H PT=some (.tbl #[])∧∀ b,b≠PT→H b=none∨∃ o xs,H b=some (.frz o (.lst xs))
theorem bmain_hid {mg:Str→Option Value}{h:Heap}{H:Hp}{a PT:Addr}{vs:List Value} (ha:h.get? a=some { cls:=.type "list",data:=.seq vs.toArray }) (hPT:h.get? PT=some (PySem.W.tabObj #[])) (hns:h.Ns mainGlobals mg)
  (hbm:∃ bm ob,mg "__builtins__"=some (.ref bm)∧bm≠builtinsNs∧h.get? bm=some ob∧ob.cls=.type "module"∧ob.dict=some builtinsNs∧ob.data=.plain) (hA:∀ b,H b≠none→b=a∨b=PT):qny mg (hidT h H) PT:=by
 obtain ⟨bm,ob,h1,h2,h3,h4,h5,h6⟩:=hbm
 have nP:bm≠PT:=fun z=>by
  rw [z,hPT] at h3;cases h3;cases h4
 refine ⟨bm,ob,h1,h2,fun z=>?_,nP,qol h3 ?_,h4,h5,h6⟩
 ·obtain ⟨o,es,ep,e,d,_⟩:=hns
  rw [z,e] at h3
  cases h3
  rw [h6] at d;cases d
 ·cases q:H bm with
  | none=>rfl
  | some u =>
   rcases hA bm (by rw [q];simp) with e | e
   ·rw [e,ha] at h3;cases h3;cases h5
   ·exact absurd e nP
theorem law_callT {P:Program}{w:World}{K:PySem.W.Frag}{mg mb:Str→Option Value}{CX:CXT}{k:Nat}{fa a:Addr}{fd:FuncData}{x:Str}{sp:Sp}{s₁:Shared}{vs:List Value}{ns:List Int}
  (KX:K.In s₁.heap) (hns:s₁.heap.Ns mainGlobals mg) (hb:s₁.heap.Ns builtinsNs mb) (hbb:∀ x:Str,x≠"__name__"→mb x=bootBuiltins x) (hlim:s₁.heap.NoLimit) (hg:s₁.gens=#[])
  (ha:s₁.heap.get? a=some { cls:=.type "list",data:=.seq vs.toArray }) (hi:IntsAre vs ns) (hl:ns.length≤sizeLine) (hr:Room k callerA)
  (hbm:∃ bm ob,mg "__builtins__"=some (.ref bm)∧bm≠builtinsNs∧s₁.heap.get? bm=some ob∧ob.cls=.type "module"∧ob.dict=some builtinsNs∧ob.data=.plain) {PT:Addr} (F:∀ base:Heap,K.In base→base.Ns mainGlobals mg→qny mg base PT→FnOk P w K mg base CX k fa fd [x] sp) (hbind:∀ (s:Shared) (u:Value),BindsTo s fd ⟨[u],[]⟩ [(x,u)])
  (hPT:s₁.heap.get? PT=some (PySem.W.tabObj #[])) (hPK:K.lookup PT=none) (hct:isCodeTable s₁.heap PT) (hsp:∀ H:Hp,OnlyT PT H→SqL K H a (ns.map V.int)→sp [.ref a] H (fun v _=>v=.bl true) fun _ _ _=>False)
  (hCX:∀ H e s',CX [] H s₁ (fun _ _ _=>False) e s'→False) :
  codeAny (model P w) callerA (.call (.ref fa) ⟨[.ref a],[]⟩) (fun r s'=>r=.ok (.ret (.bool true))∧OldK s₁.heap s'.heap∧s'.os=s₁.os∧AllBare s'.gens) s₁:=by
 have rv:=qlg hi
 have lenV:=hi.length
 have core:∀ H:Hp,OnlyT PT H→SqL K H a (ns.map V.int)→HOk P w H s₁.heap→(∀ b,H b≠none→b=a∨b=PT)→(H a≠none→K.lookup a=none) →
   codeAny (model P w) callerA (.call (.ref fa) ⟨[.ref a],[]⟩) (fun r s'=>r=.ok (.ret (.bool true))∧OldK s₁.heap s'.heap∧s'.os=s₁.os∧AllBare s'.gens) s₁:=by
  intro H hO hS hok hA hK
  have base_of:∀ {b:Addr}{o:Obj},s₁.heap.get? b=some o→H b=none→(hidT s₁.heap H).get? b=some o:=fun e n=>qol e n
  have noA:∀ {b:Addr}{o:Obj}{es:Array DictEntry}{ep:Nat},s₁.heap.get? b=some o→o.data=.dict es ep→H b=none:=fun {b o es ep} e d=>by
   cases q:H b with
   | none=>rfl
   | some u =>
    rcases hA b (by rw [q];simp) with e' | e'
    ·subst e'
     rw [ha] at e;cases e
     have d':Data.seq vs.toArray _=Data.dict es ep:=d
     cases d'
    ·subst e'
     rw [hPT] at e;cases e
     have d':Data.fields #[]=Data.dict es ep:=d
     cases d'
  have nsK:∀ {b:Addr}{m:Str→Option Value},s₁.heap.Ns b m→(hidT s₁.heap H).Ns b m:=fun {b m} ⟨o,es,ep,e,d,r⟩=>⟨o,es,ep,base_of e (noA e d),d,r⟩
  have hKb:K.In (hidT s₁.heap H):=fun b o e=>base_of (KX b o e) (by
   cases q:H b with
   | none=>rfl
   | some u =>
    rcases hA b (by rw [q];simp) with e' | e'
    ·subst e'
     rw [hK (by rw [q];simp)] at e;cases e
    ·subst e'
     rw [hPK] at e;cases e)
  have hM:Mod K mg (hidT s₁.heap H):=⟨hKb,nsK hns,⟨mb,nsK hb,hbb⟩,let ⟨mc,h1,h2⟩:=hlim;⟨mc,nsK h1,h2⟩⟩
  have e0:Env0 P w K mg (hidT s₁.heap H) callerA [] s₁ H:=⟨rfl,hM,fun b o e=>of_hidT e,Nat.le_of_eq (hidT_size _ _),trivial,fun b hb=>absurd (show b∈([]:List Addr) from hb) (by simp),hok,.of_eq hg⟩
  have hBM:qny mg (hidT s₁.heap H) PT:=bmain_hid ha hPT hns hbm hA
  refine codeAny_mono ((F _ hKb (nsK hns) hBM).run callerA [] s₁ H ⟨[.ref a],[]⟩ [.ref a] [.ref a] _ _ hr e0 (hbind s₁ (.ref a)) (.cons rfl .nil) (hsp H hO hS)) fun r s' h=>?_
  cases r with
  | error e=>exact (hCX H e s' h).elim
  | ok fl =>
   cases fl with
   | next=>exact False.elim h
   | brk=>exact False.elim h
   | cont=>exact False.elim h
   | ret u =>
    obtain ⟨v,H',os,bare,un,hok',r',q⟩:=h
    have q':v=.bl true:=q
    subst q'
    obtain rfl:u=Value.bool true:=r'
    obtain ⟨more,hm⟩:=un.tbls PT _ hO.1
    have hm':s'.heap.get? PT=some { cls:=.none,data:=.fields (#[]++more) }:=hok' PT _ hm
    have keep:∀ b o,b≠PT→s₁.heap.get? b=some o→s'.heap.get? b=some o:=fun b o hb e=>by
     cases q:H b with
     | none=>exact un.keep b o e q (by intro z;exact absurd (show b∈([]:List Addr) from z) (by simp)) (by simp)
     | some u =>
      rcases hO.2 b hb with z | ⟨ob,xs,z⟩
      ·rw [q] at z;cases z
      ·have z2:=un.frzs b ob _ z
       obtain ⟨e1,_⟩:=hok b _ z
       obtain ⟨e2,_⟩:=hok' b _ z2
       rw [e] at e1;cases e1
       exact e2
    refine ⟨rfl,⟨fun b o e=>?_,fun b o e=>?_⟩,os,bare⟩
    ·by_cases hb:b=PT
     ·subst hb
      rw [hPT] at e;cases e
      exact .inr (.inl ⟨hct,rfl,#[],more,rfl,hm'⟩)
     ·exact .inl (keep b o hb e)
    ·by_cases hb:b=PT
     ·subst hb;exact ⟨_,hm'⟩
     ·exact ⟨o,keep b o hb e⟩
 have nPa:PT≠a:=fun z=>by rw [z,ha] at hPT;cases hPT
 cases hk:K.lookup a with
 | some o =>
  have e:=KX a o hk
  rw [ha] at e
  cases e
  have g1:(fun b=>if b=PT then some (HO.tbl #[]) else none:Hp) PT=some (.tbl #[]):=if_pos rfl
  have g2:∀ b,b≠PT→(fun b=>if b=PT then some (HO.tbl #[]) else none:Hp) b=none:=fun b h=>if_neg h
  generalize (fun b=>if b=PT then some (HO.tbl #[]) else none:Hp)=H at g1 g2
  refine core H ⟨g1,fun b hb=>.inl (g2 b hb)⟩ (.inr ⟨_,vs.toArray,_,hk,rfl,rfl,rfl,by rw [List.size_toArray,lenV];exact hl,by simpa using rv⟩) (fun b u z=>?_) (fun b z=>?_) fun z=>absurd (g2 a nPa.symm) z
  ·by_cases hb:b=PT
   ·subst hb;rw [g1] at z;cases z;exact hPT
   ·rw [g2 b hb] at z;cases z
  ·by_cases hb:b=PT
   ·exact .inr hb
   ·exact absurd (g2 b hb) z
 | none =>
  have g1:(fun b=>if b=PT then some (HO.tbl #[]) else if b=a then some (.frz { cls:=.type "list",data:=.seq vs.toArray } (.lst (ns.map V.int))) else none:Hp) PT=some (.tbl #[]):=if_pos rfl
  have g3:(fun b=>if b=PT then some (HO.tbl #[]) else if b=a then some (.frz { cls:=.type "list",data:=.seq vs.toArray } (.lst (ns.map V.int))) else none:Hp) a=some (.frz { cls:=.type "list",data:=.seq vs.toArray } (.lst (ns.map V.int))):=(if_neg nPa.symm).trans (if_pos rfl)
  have g2:∀ b,b≠PT→b≠a→(fun b=>if b=PT then some (HO.tbl #[]) else if b=a then some (.frz { cls:=.type "list",data:=.seq vs.toArray } (.lst (ns.map V.int))) else none:Hp) b=none:=fun b h h'=>(if_neg h).trans (if_neg h')
  generalize (fun b=>if b=PT then some (HO.tbl #[]) else if b=a then some (.frz { cls:=.type "list",data:=.seq vs.toArray } (.lst (ns.map V.int))) else none:Hp)=H at g1 g2 g3
  refine core H ⟨g1,fun b hb=>?_⟩ (.inl (.inr ⟨{ cls:=.type "list",data:=.seq vs.toArray },g3⟩)) (fun b u z=>?_) (fun b z=>?_) fun _=>hk
  ·by_cases h:b=a
   ·subst h;exact .inr ⟨_,_,g3⟩
   ·exact .inl (g2 b hb h)
  ·by_cases hb:b=PT
   ·subst hb;rw [g1] at z;cases z;exact hPT
   ·by_cases h:b=a
    ·subst h
     rw [g3] at z
     cases z
     exact ⟨ha,by rw [List.length_map];exact hl,vs,_,rv,ha⟩
    ·rw [g2 b hb h] at z;cases z
  ·by_cases hb:b=PT
   ·exact .inr hb
   ·by_cases h:b=a
    ·exact .inl h
    ·exact absurd (g2 b hb h) z
theorem walk_ofT {l:PySem.W.OpenLaw}{n k:Nat}{q:Program}{loose:List Str}{XP:(Str→Option Value)→Heap→Prop}{YP:World→Heap→Prop}{d d':DefRec}{K:Params→PySem.W.Frag}{CX:World→CXT}{sp:World→Sp}{x lam:Str}
  (hn:l.most=some n) (hn2:n≤sizeLine) (hdf:d.params.defaults=[]) (hr:Room k callerA) (hY:∀ (w:World) (h:Heap),YP w h→(K w.params).In h)
  (hrec:(recsOf q).find? (fun e=>e.name == lam)=some d')
  (F:∀ (w:World) (mg:Str→Option Value) (fa:Addr) (h:Heap),(K w.params).In h→h.Ns mainGlobals mg→mg d.name=some (.ref fa) →
   ∃ (fd:FuncData) (c P:Addr),PySem.W.tabIn (K w.params) lam=some (c,P)∧(K w.params).lookup P=none∧(∀ (s:Shared) (u:Value),BindsTo s fd ⟨[u],[]⟩ [(x,u)]) ∧
    ∀ base:Heap,(K w.params).In base→base.Ns mainGlobals mg→(∀ c P,PySem.W.tabIn (K w.params) lam=some (c,P)→qny mg base P)→FnOk l.prog w (K w.params) mg base (CX w) k fa fd [x] (sp w))
  (hsp:∀ (w:World) (H:Hp) (a:Addr) (ns:List Int) (c P:Addr),ns.length≤n→PySem.W.tabIn (K w.params) lam=some (c,P)→OnlyT P H→SqL (K w.params) H a (ns.map V.int)→sp w [.ref a] H (fun v _=>v=.bl true) fun _ _ _=>False)
  (hCX:∀ (w:World) (H:Hp) (s:Shared) (e:Value) (s':Shared),CX w [] H s (fun _ _ _=>False) e s'→False) :
  PySem.W.WalkO q loose XP YP l.row.toRowW d [] (fun f vs=>PySem.call f vs):=by
 refine Att.attach_call hn hdf fun w s₀ s₁ mg mb fa o pm cd doc a vs ns G Y ho hd hcd hmg hobj hints hlen hg=>?_
 have KX:=hY w _ Y
 obtain ⟨fd,c,P,ht,hPK,hb,hF⟩:=F w mg fa _ KX G.T.g hmg
 obtain ⟨hc,hP⟩:=PySem.W.tab_of G.T KX hrec ht
 exact law_callT KX G.T.g G.T.b G.T.builtins G.T.nolimit hg hobj hints (Nat.le_trans hlen hn2) hr G.T.bmain (fun base b1 b2 b3=>hF base b1 b2 fun c' P' t'=>by rw [ht] at t';cases t';exact b3) hb hP hPK (hc.tab hP).isCodeTable (fun H hO hS=>hsp w H a ns c P hlen ht hO hS) fun H e s'=>hCX w H s₁ e s'
def hdOk (vs:Array Value) (c P:Addr):Bool:=(match (vs[11]?:Option Value) with | some (.ref P')=>P' == P | _=>false) &&
 (match vs.getD 18 .none with | .str _ _=>true | _=>false) && (match vs.getD 7 .none with | .int _ _=>true | _=>false) &&
 (match vs.getD 9 .none with | .bool _=>true | _=>false) && (match vs.getD 10 .none with | .int _ _=>true | _=>false) && c != P
theorem codeHd_mk {K:PySem.W.Frag}{c P:Addr}{od:Option Addr}{vs:Array Value}{sl:Array (Option Value)} (h:K.lookup c=some ⟨.type "code",od,.fields vs,sl⟩) (e:hdOk vs c P=true):PySem.W.codeHdIn K c P=true:=by
 unfold PySem.W.codeHdIn
 rw [h]
 exact e
theorem tabIn_mk {K:PySem.W.Frag}{x:Str}{f c P:Addr}{oc:Value}{od od':Option Addr}{fd:FuncData}{sl sl':Array (Option Value)}{cl:Value}{vs:Array Value} (h1:PySem.W.nsIn K mainGlobals x=some (some (.ref f))) (h2:K.lookup f=some ⟨oc,od,.func fd,sl⟩) (h3:fd.code=.ref c) (h4:K.lookup c=some ⟨cl,od',.fields vs,sl'⟩) (h5:(vs[11]?:Option Value)=some (.ref P)):PySem.W.tabIn K x=some (c,P):=by
 unfold PySem.W.tabIn
 rw [h1]
 simp only [h2,h3,h4,h5]
end L2
namespace My
open PySem L2
def top (i:Nat):Stmt:=PySem.Challenge.pw_wholeowners_k31_rules.main.body.getD i (.Pass ⟨0,0,0,0⟩)
structure Adr where
 OwnError:Addr
 NoName:Addr
 Twice:Addr
 TooMany:Addr
 NoHolder:Addr
 NoHouse:Addr
 NoLoss:Addr
 NoShare:Addr
 NoText:Addr
 Whole:Addr
 Book:Addr
 ZERO:Addr
 ONE:Addr
 HALF:Addr
 t8:Tok
 t6:Tok
 u8:Tok
 kx:Addr→Addr→Bool
def Tup2 (K:PySem.W.Frag) (a:Addr) (i j:Int):Prop:=∃ (o:Obj) (its:Array Value) (n:Nat),K.lookup a=some o∧o.cls=.type "tuple"∧o.data=.seq its n∧its.size≤sizeLine∧Vals [.int i,.int j] its.toList
structure Txt (K:PySem.W.Frag) (mg:Str→Option Value) (a:Adr):Prop where
 b_len:mg "len"=none
 b_range:mg "range"=none
 b_all:mg "all"=none
 b_int:mg "int"=none
 b_abs:mg "abs"=none
 b_sorted:mg "sorted"=none
 b_tuple:mg "tuple"=none
 b_list:mg "list"=none
 b_str:mg "str"=none
 b_bool:mg "bool"=none
 b_isinstance:mg "isinstance"=none
 b_ValueError:mg "ValueError"=none
 b_any:mg "any"=none
 b_set:mg "set"=none
 b_max:mg "max"=none
 c_OwnError:mg "OwnError"=some (.ref a.OwnError)
 c_NoName:mg "NoName"=some (.ref a.NoName)
 c_Twice:mg "Twice"=some (.ref a.Twice)
 c_TooMany:mg "TooMany"=some (.ref a.TooMany)
 c_NoHolder:mg "NoHolder"=some (.ref a.NoHolder)
 c_NoHouse:mg "NoHouse"=some (.ref a.NoHouse)
 c_NoLoss:mg "NoLoss"=some (.ref a.NoLoss)
 c_NoShare:mg "NoShare"=some (.ref a.NoShare)
 x_OwnError:Exc K a.OwnError
 x_NoName:Exc K a.NoName
 x_Twice:Exc K a.Twice
 x_TooMany:Exc K a.TooMany
 x_NoHolder:Exc K a.NoHolder
 x_NoHouse:Exc K a.NoHouse
 x_NoLoss:Exc K a.NoLoss
 x_NoShare:Exc K a.NoShare
 g_LONGEST_NAME:mg "LONGEST_NAME"=some (.int 8 a.t8)
 g_MOST_PERSONS:mg "MOST_PERSONS"=some (.int 6 a.t6)
 g_MOST_HOUSES:mg "MOST_HOUSES"=some (.int 8 a.u8)
 g_ZERO:mg "ZERO"=some (.ref a.ZERO)
 g_ONE:mg "ONE"=some (.ref a.ONE)
 g_HALF:mg "HALF"=some (.ref a.HALF)
 zero:Tup2 K a.ZERO 0 1
 one:Tup2 K a.ONE 1 1
 half:Tup2 K a.HALF 1 2
 cl:Cls K a.Book
 nA_people:NoAttr K a.Book "people"
 nA_things_of:NoAttr K a.Book "things_of"
 nA_mark_of:NoAttr K a.Book "mark_of"
 nA_loss_of:NoAttr K a.Book "loss_of"
 nA_held_of:NoAttr K a.Book "held_of"
theorem Txt.r_LONGEST_NAME {K:PySem.W.Frag}{mg:Str→Option Value}{a:Adr} (T:Txt K mg a):RelV (.int 8) (.int 8 a.t8):=⟨_,rfl⟩
theorem Txt.r_MOST_PERSONS {K:PySem.W.Frag}{mg:Str→Option Value}{a:Adr} (T:Txt K mg a):RelV (.int 6) (.int 6 a.t6):=⟨_,rfl⟩
theorem Txt.r_MOST_HOUSES {K:PySem.W.Frag}{mg:Str→Option Value}{a:Adr} (T:Txt K mg a):RelV (.int 8) (.int 8 a.u8):=⟨_,rfl⟩
theorem Txt.r_ZERO {K:PySem.W.Frag}{mg:Str→Option Value}{a:Adr} (T:Txt K mg a):RelV (.ref a.ZERO) (.ref a.ZERO):=rfl
theorem Txt.r_ONE {K:PySem.W.Frag}{mg:Str→Option Value}{a:Adr} (T:Txt K mg a):RelV (.ref a.ONE) (.ref a.ONE):=rfl
theorem Txt.r_HALF {K:PySem.W.Frag}{mg:Str→Option Value}{a:Adr} (T:Txt K mg a):RelV (.ref a.HALF) (.ref a.HALF):=rfl
theorem qnz {K:PySem.W.Frag}{p:Addr}{i j:Int} (h:Tup2 K p i j) (H:Hp) (m:Mp) (s:Sto):Rep K H m s (.ref p) (.tup [.int i,.int j]):=.tup (.inr h) (.cons .int (.cons .int .nil))
def c_ZERO:PV:=.tup [.int 0,.int 1]
def c_HALF:PV:=.tup [.int 1,.int 2]
theorem Txt.p_ZERO {K:PySem.W.Frag}{mg:Str→Option Value}{a:Adr} (T:Txt K mg a) (H:Hp) (m:Mp) (s:Sto):Rep K H m s (.ref a.ZERO) c_ZERO:=qnz T.zero H m s
theorem Txt.p_HALF {K:PySem.W.Frag}{mg:Str→Option Value}{a:Adr} (T:Txt K mg a) (H:Hp) (m:Mp) (s:Sto):Rep K H m s (.ref a.HALF) c_HALF:=qnz T.half H m s
theorem hu12 {A:Around}{k:Nat} (hr:Room k A):A.units+12 < cLine:=Nat.lt_of_le_of_lt (Nat.add_le_add_left (by decide:12≤64) _) hr.units
theorem yesT {te:TE}{cap:St}{H:Hp}{Kt:VK}{Kf:Hp→Prop} (h:te cap H Kt):tYes cap H fun b H4=>if b=true then te cap H4 Kt else Kf H4:=by
 show if true=true then te cap H Kt else Kf H
 rw [if_pos rfl]
 exact h
theorem qlo (c:Nat):(!decide ((⟨#[c]⟩:Str).cps.toList < (Str.ofString "a").cps.toList))=decide (97≤c):=by
 show (!decide ([c] < [97]))=decide (97≤c)
 rw [Bool.eq_iff_iff]
 simp [List.cons_lt_cons_iff]
theorem sign_le_z (c:Nat):(!decide ((Str.ofString "z").cps.toList < (⟨#[c]⟩:Str).cps.toList))=decide (c≤122):=by
 show (!decide ([122] < [c]))=decide (c≤122)
 rw [Bool.eq_iff_iff]
 simp [List.cons_lt_cons_iff]
theorem qj5 {x:Str}{i c:Nat}{g:Nat→V} (hc:x.cps[i]?=some c):(x.cps.toList.take i).map g++[g c]=(x.cps.toList.take (i+1)).map g:=by
 have hc:x.cps.toList[i]?=some c:=by simpa using hc
 rw [List.take_add_one,hc,List.map_append]
 rfl
section
variable {P:Program}{w:World}{K:PySem.W.Frag}{mg:Str→Option Value}{base:Heap}{a:Adr}{f:Addr}{fd:FuncData}
abbrev qdc:Stmt:=top 28
theorem sc_is_name:FnScope ["text"] ["text"] (qac qdc):=⟨rfl,rfl,rfl,by decide +kernel,rfl,by decide +kernel,by decide +kernel⟩
def low (c:Nat):Bool:=decide (97≤c) && decide (c≤122)
def isNm (x:Str):Bool:=decide (1≤x.length) && decide (x.length≤8) && x.cps.toList.all low
def qgk:Sp:=fun vs H Q _=>∃ x,vs=[.str x]∧Nm x∧∀ H',Same H H'→Q (.bl (isNm x)) H'
theorem ok_is_name (F:Fun K "is_name" "is_name" qdc f fd) (T:Txt K mg a):FnOk P w K mg base (CXo P w) 1 f fd ["text"] qgk:=by
 refine F.okN sc_is_name (fun vs H Q E h=>?_) (fun cdv A outer s H vs Q E hr h=>?_)
 ·obtain ⟨x,rfl,_⟩:=h
  rfl
 ·obtain ⟨x,rfl,nm,k⟩:=h
  have hu:=qar hr
  refine ⟨_,(@qas _ _ _ (@qe6 _ _ _ _ (@pe_and _ _ _ _ _ _ _ (qoe op_le op_le pe_int (@qdp _ _ _ _ _ _ _ _ _ call_len_str rfl T.b_len qd3 (@qam _ _ _ _ _ (pv 0) pa_nil (by rfl)) (by decide) (by decide) (by rfl) (by rfl)) (qd8 rfl T.g_LONGEST_NAME T.r_LONGEST_NAME)) (@pe_one _ _ _ _ _ (@qdp _ _ _ _ _ _ _ _ _ qo6 rfl T.b_all bt_all (@qam _ _ _ _ _ (qkm (fr:=[]) (ix:=[]) rfl (by exact (show CompOk ["text"] (qac qdc) _ _ _ _ from ⟨rfl,by decide +kernel,rfl,by decide +kernel,by decide +kernel,by decide +kernel,by decide +kernel,by decide +kernel,rfl⟩)) (pi_str (pv 0)) (fun _ _ _ _ _=>qkj) (fun _ _ _ _ _=>(qoe ql3 ql3 pe_str (pv 0) pe_str))) pa_nil (by rfl)) (by decide) (by decide) (by rfl) (by rfl)))))),?_⟩
  have hlen:x.length≤sizeLine:=Nat.le_trans nm.1 (by decide)
  refine ⟨_,rfl,_,rfl,hlen,_,_,rfl,rfl,_,rfl,ite2 (fun h=>?_) (fun h=>?_)⟩
  ·have h1:(1:Int)≤(x.length:Int):=of_decide_eq_true h
   refine ⟨_,_,rfl,rfl,_,rfl,ite2 (fun h=>?_) (fun h=>?_)⟩
   ·have h2:(x.length:Int)≤8:=of_decide_eq_true h
    refine ⟨_,rfl,x,rfl,fun D hD=>?_⟩
    refine comp_by (J:=Its x) x.cps.size (fun i ys H'=>H'=upd H D (.lst ys)∧ys=(x.cps.toList.take i).map fun c=>V.bl (low c)) ⟨rfl,rfl⟩ hlen (fun i ys H' r=>by rw [r.1];exact qae) (fun i ys H' hi _=>hi) ?_ ?_
    ·rintro i ys H' v H'' hi ⟨rfl,rfl⟩ ⟨rfl,c,hc,rfl⟩ Kt Kf k1 k2
     have fin:∀ b,b=low c→Kt (V.bl b) (upd H D (.lst ((x.cps.toList.take i).map fun c=>V.bl (low c)))):=fun b hb=>by
      refine k1 _ _ qae ⟨by rw [upd_upd],?_⟩
      rw [hb,qj5 hc]
     refine yesT ⟨_,rfl,_,_,rfl,rfl,_,rfl,ite2 (fun h=>?_) (fun h=>?_)⟩
     ·refine ⟨_,_,rfl,rfl,fin _ ?_⟩
      rw [qlo] at h
      rw [sign_le_z]
      unfold low
      rw [h,Bool.true_and]
     ·refine fin _ ?_
      rw [qlo] at h
      unfold low
      rw [Bool.eq_false_iff.mpr h,Bool.false_and]
    ·rintro ys H' hl ⟨rfl,rfl⟩
     have e:List.take x.cps.size x.cps.toList=x.cps.toList:=List.take_of_length_le (by simp)
     rw [e]
     refine ⟨Nat.le_refl _,D,x.cps.toList.map low,rfl,SqL.of (by rw [qae,List.map_map];rfl),rfl,?_⟩
     have e2:(x.cps.toList.map low).all id=isNm x:=by
      have h1:1≤x.length:=by omega
      have h2:x.length≤8:=by omega
      unfold isNm
      rw [decide_eq_true h1,decide_eq_true h2,List.all_map,Bool.true_and,Bool.true_and]
      rfl
     rw [e2]
     exact k _ (qew hD)
   ·have h2:¬ x.length≤8:=fun z=>h (decide_eq_true (by omega))
    have e2:false=isNm x:=by unfold isNm;rw [decide_eq_false h2,Bool.and_false,Bool.false_and]
    show Q (.bl false) H
    rw [e2]
    exact k _ fun _ _ z=>z
  ·have h2:¬ 1≤x.length:=fun z=>h (decide_eq_true (by omega))
   have e2:false=isNm x:=by unfold isNm;rw [decide_eq_false h2,Bool.false_and,Bool.false_and]
   refine ⟨_,rfl,iteF ?_⟩
   show Q (.bl false) H
   rw [e2]
   exact k _ fun _ _ z=>z
abbrev qcq:Stmt:=top 29
theorem qlp:FnScope ["number"] ["number"] (qac qcq):=⟨rfl,rfl,rfl,by decide +kernel,rfl,by decide +kernel,by decide +kernel⟩
def qei (a:Adr):Sp:=fun vs H Q E=>∃ n,vs=[.int n]∧(n < 0→E (.ref a.NoLoss) none H)∧(0≤n→Q .non H)
theorem ql4 (F:Fun K "need_loss" "need_loss" qcq f fd) (T:Txt K mg a):FnOk P w K mg base (CXo P w) 1 f fd ["number"] (qei a):=by
 refine F.okX qlp (fun vs H Q E h=>?_) (fun cdv A outer s H vs Q E hr h=>?_)
 ·obtain ⟨x,rfl,_⟩:=h
  rfl
 ·obtain ⟨n,rfl,k1,k2⟩:=h
  have hu:=qar hr
  refine ⟨_,(@qas _ _ _ (@qix _ _ _ _ _ _ _ _ (@qgo _ _ _ _ _ _ _ _ op_lt (pv 0) pe_int (qci _)) (@qas _ _ _ (qdo T.x_NoLoss rfl T.c_NoLoss rfl pe_str qmf)) pss_nil)),?_⟩
  refine ⟨_,rfl,_,_,rfl,rfl,_,rfl,ite2 (fun h=>?_) (fun h=>?_)⟩
  ·exact k1 (of_decide_eq_true h)
  ·exact k2 (Int.not_lt.mp fun z=>h (decide_eq_true z))
end
end My
namespace My
open PySem L2
section
variable {P:Program}{w:World}{K:PySem.W.Frag}{mg:Str→Option Value}{base:Heap}{a:Adr}{f:Addr}{fd:FuncData}
abbrev qcv:Stmt:=qde (top 30) 0
theorem qls:FnScope ["self"] ["self"] (qac qcv):=⟨rfl,rfl,rfl,by decide +kernel,rfl,by decide +kernel,by decide +kernel⟩
theorem put_init (dp dt dm dl dh dx:Addr):putF "held_of" (.ref dh) (putF "loss_of" (.ref dl) (putF "mark_of" (.ref dm) (putF "things_of" (.ref dt) (putF "people" (.ref dp) []))))=bf ⟨dx,dp,dt,dm,dl,dh⟩:=by
 simp only [putF,if_neg (show ¬ ((Str.ofString "people")=Str.ofString "things_of") by decide +kernel),if_neg (show ¬ ((Str.ofString "people")=Str.ofString "mark_of") by decide +kernel),if_neg (show ¬ ((Str.ofString "people")=Str.ofString "loss_of") by decide +kernel),if_neg (show ¬ ((Str.ofString "people")=Str.ofString "held_of") by decide +kernel),if_neg (show ¬ ((Str.ofString "things_of")=Str.ofString "mark_of") by decide +kernel),if_neg (show ¬ ((Str.ofString "things_of")=Str.ofString "loss_of") by decide +kernel),if_neg (show ¬ ((Str.ofString "things_of")=Str.ofString "held_of") by decide +kernel),if_neg (show ¬ ((Str.ofString "mark_of")=Str.ofString "loss_of") by decide +kernel),if_neg (show ¬ ((Str.ofString "mark_of")=Str.ofString "held_of") by decide +kernel),if_neg (show ¬ ((Str.ofString "loss_of")=Str.ofString "held_of") by decide +kernel)]
 rfl
structure IniAt (C:Addr) (H0 H:Hp) (p dx:Addr) (fs:List (Str×V)) (ds:List Addr):Prop where
 ob:H p=some (.ins C dx fs)
 dd:∀ c∈ds,H c=some (.dK [])
 fr:∀ c∈ds,H0 c=none
 nd:(p::ds).Nodup
 kp:∀ c o,H0 c=some o→c≠p→H c=some o
 len:fs.length≤ds.length
theorem IniAt.at_ {C:Addr}{H0 H:Hp}{p dx d:Addr}{fs:List (Str×V)}{ds:List Addr} (I:IniAt C H0 H p dx fs ds) (h:H d=none):(upd H d (.dK [])) p=some (.ins C dx fs):=by
 rw [qad (qak I.ob h)]
 exact I.ob
theorem IniAt.step {C:Addr}{H0 H:Hp}{p dx d:Addr}{fs:List (Str×V)}{ds:List Addr}{f:Str} (I:IniAt C H0 H p dx fs ds) (h:H d=none) :
  IniAt C H0 (upd (upd H d (.dK [])) p (.ins C dx (putF f (.ref d) fs))) p dx (putF f (.ref d) fs) (ds++[d]):=by
 have n1:p≠d:=qak I.ob h
 obtain ⟨m1,m2⟩:=List.nodup_cons.mp I.nd
 have m3:d∉ds:=fun z=>by rw [I.dd d z] at h;cases h
 refine ⟨qae,fun c hc=>?_,fun c hc=>?_,?_,fun c o e hc=>?_,?_⟩
 ·rcases List.mem_append.mp hc with hc | hc
  ·have c1:c≠p:=fun z=>m1 (by rw [← z];exact hc)
   have c2:c≠d:=fun z=>m3 (by rw [← z];exact hc)
   rw [qad c1,qad c2]
   exact I.dd c hc
  ·rw [List.mem_singleton.mp hc,qad n1.symm,qae]
 ·rcases List.mem_append.mp hc with hc | hc
  ·exact I.fr c hc
  ·rw [List.mem_singleton.mp hc]
   cases q:H0 d with
   | none=>rfl
   | some o=>rw [I.kp d o q n1.symm] at h;cases h
 ·refine List.nodup_cons.mpr ⟨fun z=>?_,qkv m2 m3⟩
  rcases List.mem_append.mp z with z | z
  ·exact m1 z
  ·exact n1 (List.mem_singleton.mp z)
 ·rw [qad hc,qad (fun z=>by rw [z] at e;rw [I.kp d o e (z ▸ hc)] at h;cases h)]
  exact I.kp c o e hc
 ·rw [List.length_append]
  exact Nat.le_trans (qfl _ _ _) (Nat.add_le_add_right I.len 1)
def sp_init (K:PySem.W.Frag) (C:Addr):Sp:=fun vs H Q _=>∃ (p dx:Addr),vs=[.ref p]∧H p=some (.ins C dx [])∧∀ z H',(∀ c∈[z.dp,z.dt,z.dm,z.dl,z.dh],H c=none)→BookAt K C H' p z [] []→(∀ c o,H c=some o→c≠p→H' c=some o)→Q .non H'
theorem ok_init (F:Fun K "__init__" "Book.__init__" qcv f fd) (T:Txt K mg a):FnOk P w K mg base (CXo P w) 1 f fd ["self"] (sp_init K a.Book):=by
 refine F.okN qls (fun vs H Q E h=>?_) (fun cdv A outer s H vs Q E hr h=>?_)
 ·obtain ⟨p,dx,rfl,_⟩:=h
  rfl
 ·obtain ⟨p,dx,rfl,hp,k⟩:=h
  have hu:=qar hr
  refine ⟨_,(@qaq _ _ _ _ _ (qlw (pv 0) pe_dnewK rfl) (@qaq _ _ _ _ _ (qlw (pv 0) pe_dnewK rfl) (@qaq _ _ _ _ _ (qlw (pv 0) pe_dnewK rfl) (@qaq _ _ _ _ _ (qlw (pv 0) pe_dnewK rfl) (@qas _ _ _ (qlw (pv 0) pe_dnewK rfl)))))),?_⟩
  have I0:IniAt a.Book H H p dx [] []:=⟨hp,by simp,by simp,by simp,fun c o e _=>e,Nat.le_refl _⟩
  intro dp h1
  refine ⟨_,rfl,p,_,dx,_,rfl,I0.at_ h1,T.cl,T.nA_people,Nat.lt_of_le_of_lt I0.len (show 0 < 1000 by decide),?_⟩
  have I1:=I0.step (f:="people") h1
  intro dt h2
  refine ⟨_,rfl,p,_,dx,_,rfl,I1.at_ h2,T.cl,T.nA_things_of,Nat.lt_of_le_of_lt I1.len (show 1 < 1000 by decide),?_⟩
  have I2:=I1.step (f:="things_of") h2
  intro dm h3
  refine ⟨_,rfl,p,_,dx,_,rfl,I2.at_ h3,T.cl,T.nA_mark_of,Nat.lt_of_le_of_lt I2.len (show 2 < 1000 by decide),?_⟩
  have I3:=I2.step (f:="mark_of") h3
  intro dl h4
  refine ⟨_,rfl,p,_,dx,_,rfl,I3.at_ h4,T.cl,T.nA_loss_of,Nat.lt_of_le_of_lt I3.len (show 3 < 1000 by decide),?_⟩
  have I4:=I3.step (f:="loss_of") h4
  intro dh h5
  refine ⟨_,rfl,p,_,dx,_,rfl,I4.at_ h5,T.cl,T.nA_held_of,Nat.lt_of_le_of_lt I4.len (show 4 < 1000 by decide),?_⟩
  have I5:=I4.step (f:="held_of") h5
  refine k ⟨dx,dp,dt,dm,dl,dh⟩ _ (fun c hc=>I5.fr c (by simpa using hc)) ⟨?_,I5.dd dp (by simp),I5.dd dt (by simp),I5.dd dm (by simp),I5.dd dl (by simp),I5.dd dh (by simp),fun e he=>(by cases he),I5.nd,Nat.zero_le _,Nat.zero_le _⟩ I5.kp
  rw [← put_init]
  exact I5.ob
abbrev qbh:Stmt:=qde (top 30) 1
theorem qg7:FnScope ["self","name"] ["self","name"] (qac qbh):=⟨rfl,rfl,rfl,by decide +kernel,rfl,by decide +kernel,by decide +kernel⟩
def qda (K:PySem.W.Frag) (C:Addr):Sp:=fun vs H Q _=>∃ b z ppl L x,vs=[.ref b,.str x]∧BookAt K C H b z ppl L∧Q (.bl (hasH L x)) H
theorem qnh (F:Fun K "is_house" "Book.is_house" qbh f fd) (T:Txt K mg a):FnOk P w K mg base (CXo P w) 1 f fd ["self","name"] (qda K a.Book):=by
 refine F.okN qg7 (fun vs H Q E h=>?_) (fun cdv A outer s H vs Q E hr h=>?_)
 ·obtain ⟨b,z,ppl,L,x,rfl,_⟩:=h
  rfl
 ·obtain ⟨b,z,ppl,L,x,rfl,B,k⟩:=h
  have hu:=qar hr
  refine ⟨_,(@qas _ _ _ (@qe6 _ _ _ _ (pe_cmp (pc_din hu (pv 1) (qef (pv 0) rfl))))),?_⟩
  refine ⟨_,rfl,_,rfl,b,_,_,_,_,rfl,B.ob,T.cl,T.nA_held_of,qgv z,_,_,rfl,DGet.k (k:=Sum.inr x) B.hh,?_⟩
  rw [qeh,Option.isSome_map]
  exact k
abbrev qba:Stmt:=qde (top 30) 2
theorem qgl:FnScope ["self","name"] ["self","name"] (qac qba):=⟨rfl,rfl,rfl,by decide +kernel,rfl,by decide +kernel,by decide +kernel⟩
def qdn (K:PySem.W.Frag) (C:Addr):Sp:=fun vs H Q _=>∃ b z ppl L x,vs=[.ref b,.str x]∧BookAt K C H b z ppl L∧Q (.bl (hasP ppl x || hasH L x)) H
theorem ql5 (F:Fun K "is_holder" "Book.is_holder" qba f fd) (T:Txt K mg a) (M_is_house:Mt P w K mg base a.Book "is_house" 1 ["self","name"] (qda K a.Book)):FnOk P w K mg base (CXo P w) 2 f fd ["self","name"] (qdn K a.Book):=by
 refine F.okN qgl (fun vs H Q E h=>?_) (fun cdv A outer s H vs Q E hr h=>?_)
 ·obtain ⟨b,z,ppl,L,x,rfl,_⟩:=h
  rfl
 ·obtain ⟨b,z,ppl,L,x,rfl,B,k⟩:=h
  have hu:=qar hr
  refine ⟨_,(@qas _ _ _ (@qe6 _ _ _ _ (@pe_or _ _ _ _ _ _ _ (pe_cmp (pc_din hu (pv 1) (qef (pv 0) rfl))) (@pe_one _ _ _ _ _ (qg8 (pv 0) M_is_house (hr.mono (by first | decide | omega)) qa3 (@qam _ _ _ _ _ (pv 1) pa_nil (by rfl))))))),?_⟩
  refine ⟨_,rfl,_,rfl,b,_,_,_,_,rfl,B.ob,T.cl,T.nA_people,qiq z,_,_,rfl,DGet.k (k:=Sum.inr x) B.pp,_,rfl,ite2 (fun h=>?_) (fun h=>?_)⟩
  ·rw [qeh (key:=fun n=>n),Option.isSome_map] at h
   unfold hasP at k
   rw [h] at k
   exact k
  ·rw [qeh (key:=fun n=>n),Option.isSome_map] at h
   unfold hasP at k
   rw [Bool.eq_false_iff.mpr h] at k
   exact ⟨_,rfl,b,_,_,rfl,B.ob,qgu z (by decide +kernel) (by decide +kernel) (by decide +kernel) (by decide +kernel) (by decide +kernel),_,rfl,b,z,ppl,L,x,rfl,B,k⟩
abbrev qa5:Stmt:=qde (top 30) 3
theorem qfw:FnScope ["self","name"] ["self","name"] (qac qa5):=⟨rfl,rfl,rfl,by decide +kernel,rfl,by decide +kernel,by decide +kernel⟩
def qcl (K:PySem.W.Frag) (a:Adr):Sp:=fun vs H Q E=>∃ b z ppl L x,vs=[.ref b,.str x]∧BookAt K a.Book H b z ppl L∧Nm x∧(hasH L x=true→Q .non H)∧(hasH L x=false→E (.ref a.NoHouse) none H)
theorem qko (F:Fun K "need_house" "Book.need_house" qa5 f fd) (T:Txt K mg a) (M_is_house:Mt P w K mg base a.Book "is_house" 1 ["self","name"] (qda K a.Book)):FnOk P w K mg base (CXo P w) 2 f fd ["self","name"] (qcl K a):=by
 refine F.okX qfw (fun vs H Q E h=>?_) (fun cdv A outer s H vs Q E hr h=>?_)
 ·obtain ⟨b,z,ppl,L,x,rfl,_⟩:=h
  rfl
 ·obtain ⟨b,z,ppl,L,x,rfl,B,nm,k1,k2⟩:=h
  have hu:=qar hr
  refine ⟨_,(@qas _ _ _ (@qix _ _ _ _ _ _ _ _ (qlv (qh0 (qg8 (pv 0) M_is_house (hr.mono (by first | decide | omega)) qb0 (@qam _ _ _ _ _ (pv 1) pa_nil (by rfl))))) (@qas _ _ _ (qdo T.x_NoHouse rfl T.c_NoHouse rfl (pe_fs (qlx (qje (pv 1) qly))) qmf)) pss_nil)),?_⟩
  refine ⟨_,rfl,b,_,_,rfl,B.ob,qgu z (by decide +kernel) (by decide +kernel) (by decide +kernel) (by decide +kernel) (by decide +kernel),_,rfl,b,z,ppl,L,x,rfl,B,_,rfl,ite2 (fun h=>?_) (fun h=>?_)⟩
  ·exact ⟨_,rfl,⟨x,rfl,nm⟩,fun y=>k2 (nbT h)⟩
  ·exact k1 (nbF h)
abbrev qa2:Stmt:=qde (top 30) 4
theorem qfe:FnScope ["self","name"] ["self","name"] (qac qa2):=⟨rfl,rfl,rfl,by decide +kernel,rfl,by decide +kernel,by decide +kernel⟩
def qb2 (K:PySem.W.Frag) (a:Adr):Sp:=fun vs H Q E=>∃ b z ppl L x,vs=[.ref b,.str x]∧BookAt K a.Book H b z ppl L∧Nm x∧((hasP ppl x || hasH L x)=true→Q .non H)∧((hasP ppl x || hasH L x)=false→E (.ref a.NoHolder) none H)
theorem qiz (F:Fun K "need_holder" "Book.need_holder" qa2 f fd) (T:Txt K mg a) (M_is_holder:Mt P w K mg base a.Book "is_holder" 2 ["self","name"] (qdn K a.Book)):FnOk P w K mg base (CXo P w) 3 f fd ["self","name"] (qb2 K a):=by
 refine F.okX qfe (fun vs H Q E h=>?_) (fun cdv A outer s H vs Q E hr h=>?_)
 ·obtain ⟨b,z,ppl,L,x,rfl,_⟩:=h
  rfl
 ·obtain ⟨b,z,ppl,L,x,rfl,B,nm,k1,k2⟩:=h
  have hu:=qar hr
  refine ⟨_,(@qas _ _ _ (@qix _ _ _ _ _ _ _ _ (qlv (qh0 (qg8 (pv 0) M_is_holder (hr.mono (by first | decide | omega)) qb0 (@qam _ _ _ _ _ (pv 1) pa_nil (by rfl))))) (@qas _ _ _ (qdo T.x_NoHolder rfl T.c_NoHolder rfl (pe_fs (qlx (qje (pv 1) qly))) qmf)) pss_nil)),?_⟩
  refine ⟨_,rfl,b,_,_,rfl,B.ob,qgu z (by decide +kernel) (by decide +kernel) (by decide +kernel) (by decide +kernel) (by decide +kernel),_,rfl,b,z,ppl,L,x,rfl,B,_,rfl,ite2 (fun h=>?_) (fun h=>?_)⟩
  ·exact ⟨_,rfl,⟨x,rfl,nm⟩,fun y=>k2 (nbT h)⟩
  ·exact k1 (nbF h)
abbrev qat:Stmt:=qde (top 30) 5
theorem qej:FnScope ["self","name"] ["self","name"] (qac qat):=⟨rfl,rfl,rfl,by decide +kernel,rfl,by decide +kernel,by decide +kernel⟩
def qen (a:Adr) (ppl:List Str) (L:List (Ent×Addr)) (x:Str):Option Addr:=if isNm x=false then some a.NoName else if (hasP ppl x || hasH L x)=true then some a.Twice else none
def qd6 (K:PySem.W.Frag) (a:Adr):Sp:=fun vs H Q E=>∃ b z ppl L x,vs=[.ref b,.str x]∧BookAt K a.Book H b z ppl L∧Nm x∧(qen a ppl L x=none→∀ H',Same H H'→Q .non H')∧(∀ c,qen a ppl L x=some c→∀ H',Same H H'→E (.ref c) none H')
theorem qng (F:Fun K "need_new_name" "Book.need_new_name" qat f fd) (T:Txt K mg a) (F_is_name:Fn P w K mg base "is_name" 1 ["text"] qgk) (M_is_holder:Mt P w K mg base a.Book "is_holder" 2 ["self","name"] (qdn K a.Book)):FnOk P w K mg base (CXo P w) 3 f fd ["self","name"] (qd6 K a):=by
 refine F.okX qej (fun vs H Q E h=>?_) (fun cdv A outer s H vs Q E hr h=>?_)
 ·obtain ⟨b,z,ppl,L,x,rfl,_⟩:=h
  rfl
 ·obtain ⟨b,z,ppl,L,x,rfl,B,nm,k1,k2⟩:=h
  have hu:=qar hr
  refine ⟨_,(@qaq _ _ _ _ _ (@qix _ _ _ _ _ _ _ _ (qlv (qh0 (@qiy _ _ _ _ _ _ _ _ _ _ _ F_is_name (hr.mono (by first | decide | omega)) rfl qb0 (@qam _ _ _ _ _ (pv 1) pa_nil (by rfl)) (by decide) (by rfl) (by rfl)))) (@qas _ _ _ (qdo T.x_NoName rfl T.c_NoName rfl (pe_fs (qlx (qje (pv 1) qly))) qmf)) pss_nil) (@qas _ _ _ (@qix _ _ _ _ _ _ _ _ (qh0 (qg8 (pv 0) M_is_holder (hr.mono (by first | decide | omega)) qb0 (@qam _ _ _ _ _ (pv 1) pa_nil (by rfl)))) (@qas _ _ _ (qdo T.x_Twice rfl T.c_Twice rfl (pe_fs (qlx (qje (pv 1) qly))) qmf)) pss_nil))),?_⟩
  refine ⟨_,rfl,x,rfl,nm,fun H1 s1=>⟨_,rfl,ite2 (fun h=>?_) (fun h=>?_)⟩⟩
  ·refine ⟨_,rfl,⟨x,rfl,nm⟩,fun y=>k2 _ ?_ H1 s1⟩
   have h:isNm x=false:=nbT h
   unfold qen
   rw [if_pos h]
  ·have h:isNm x=true:=nbF h
   have B1:=B.same s1
   refine ⟨_,rfl,b,_,_,rfl,B1.ob,qgu z (by decide +kernel) (by decide +kernel) (by decide +kernel) (by decide +kernel) (by decide +kernel),_,rfl,b,z,ppl,L,x,rfl,B1,_,rfl,ite2 (fun h2=>?_) (fun h2=>?_)⟩
   ·refine ⟨_,rfl,⟨x,rfl,nm⟩,fun y=>k2 _ ?_ H1 s1⟩
    unfold qen
    rw [if_neg (by rw [h];decide),if_pos h2]
   ·refine k1 ?_ H1 s1
    unfold qen
    rw [if_neg (by rw [h];decide),if_neg h2]
end
end My
namespace My
open PySem L2
mutual
inductive D where
 | i (n:Int)
 | s (x:Str)
 | l (xs:DL)
 | t (xs:DL)
inductive DL where
 | nil
 | cons (x:D) (xs:DL)
end
mutual
def DAt (K:PySem.W.Frag) (H:Hp):D→V→Prop
 | .i n,v=>v=.int n
 | .s x,v=>v=.str x
 | .l xs,v=>∃ a vs,v=.ref a∧SqL K H a vs∧DLAt K H xs vs
 | .t xs,v=>∃ a vs,v=.ref a∧SqT K H a vs∧DLAt K H xs vs
def DLAt (K:PySem.W.Frag) (H:Hp):DL→List V→Prop
 | .nil,vs=>vs=[]
 | .cons x xs,vs=>∃ v r,vs=v::r∧DAt K H x v∧DLAt K H xs r
end
theorem same_sqL {K:PySem.W.Frag}{H H':Hp}{a:Addr}{xs:List V} (s:Same H H') (h:SqL K H a xs):SqL K H' a xs:=Same.seq s h
theorem qn2 {K:PySem.W.Frag}{H H':Hp}{a:Addr}{xs:List V} (s:Same H H') (h:SqT K H a xs):SqT K H' a xs:=qgi h fun c o e _=>s c o e
mutual
theorem DAt.same {K:PySem.W.Frag}{H H':Hp} (s:Same H H'):∀ (d:D) (v:V),DAt K H d v→DAt K H' d v
 | .i n,v,h=>h
 | .s x,v,h=>h
 | .l xs,v,h=>by
  obtain ⟨a,vs,e,q,r⟩:=h
  exact ⟨a,vs,e,same_sqL s q,DLAt.same s xs vs r⟩
 | .t xs,v,h=>by
  obtain ⟨a,vs,e,q,r⟩:=h
  exact ⟨a,vs,e,qn2 s q,DLAt.same s xs vs r⟩
theorem DLAt.same {K:PySem.W.Frag}{H H':Hp} (s:Same H H'):∀ (d:DL) (vs:List V),DLAt K H d vs→DLAt K H' d vs
 | .nil,vs,h=>h
 | .cons x xs,vs,h=>by
  obtain ⟨v,r,e,h1,h2⟩:=h
  exact ⟨v,r,e,DAt.same s x v h1,DLAt.same s xs r h2⟩
end
def qb3 (l:List (Str×Int×Int)) (n:Str):Str×Int×Int:=(l.find? fun q=>decide (q.1=n)).getD (n,0,1)
def qdm (L:List (Ent×Addr)) (n:Str):Option (Ent×Addr):=L.find? fun e=>decide (e.1.nm=n)
theorem qeo {L:List (Ent×Addr)}{n:Str}{e:Ent×Addr} (h:qdm L n=some e):e∈L:=List.mem_of_find?_eq_some h
section
variable {P:Program}{w:World}{K:PySem.W.Frag}{mg:Str→Option Value}{base:Heap}{a:Adr}{f:Addr}{fd:FuncData}
abbrev qby:Stmt:=qde (top 30) 6
theorem qiv:FnScope ["self","name"] ["self","name"] (qac qby):=⟨rfl,rfl,rfl,by decide +kernel,rfl,by decide +kernel,by decide +kernel⟩
def qgz (a:Adr) (ppl:List Str) (L:List (Ent×Addr)) (x:Str):Option Addr:=match qen a ppl L x with
 | some c=>some c
 | none=>if 6≤ppl.length then some a.TooMany else none
def qhy (K:PySem.W.Frag) (a:Adr):Sp:=fun vs H Q E=>∃ b z ppl L x,vs=[.ref b,.str x]∧BookAt K a.Book H b z ppl L∧Nm x ∧
 (qgz a ppl L x=none→∀ H',BookAt K a.Book H' b z (ppl++[x]) L→(∀ c o,H c=some o→c≠z.dp→H' c=some o)→Q .non H')∧(∀ c,qgz a ppl L x=some c→∀ H',Same H H'→E (.ref c) none H')
theorem qh3 {ppl:List Str}{L:List (Ent×Addr)}{x:Str} (h:qen a ppl L x=none):isNm x=true∧hasP ppl x=false∧hasH L x=false:=by
 unfold qen at h
 split at h
 ·cases h
 ·split at h
  ·cases h
  ·rename_i h1 h2
   have h2:¬ (hasP ppl x || hasH L x)=true:=h2
   refine ⟨by simpa using h1,?_,?_⟩
   ·cases q:hasP ppl x with
    | false=>rfl
    | true=>rw [q] at h2;exact absurd rfl h2
   ·cases q:hasH L x with
    | false=>rfl
    | true=>rw [q,Bool.or_true] at h2;exact absurd rfl h2
theorem ok_person (F:Fun K "person" "Book.person" qby f fd) (T:Txt K mg a) (M_need_new_name:Mt P w K mg base a.Book "need_new_name" 3 ["self","name"] (qd6 K a)):FnOk P w K mg base (CXo P w) 4 f fd ["self","name"] (qhy K a):=by
 refine F.okX qiv (fun vs H Q E h=>?_) (fun cdv A outer s H vs Q E hr h=>?_)
 ·obtain ⟨b,z,ppl,L,x,rfl,_⟩:=h
  rfl
 ·obtain ⟨b,z,ppl,L,x,rfl,B,nm,k1,k2⟩:=h
  have hu:=qar hr
  refine ⟨_,(@qaq _ _ _ _ _ (@qdt _ _ _ _ (qg8 (pv 0) M_need_new_name (hr.mono (by first | decide | omega)) qb0 (@qam _ _ _ _ _ (pv 1) pa_nil (by rfl))) (by rfl)) (@qaq _ _ _ _ _ (@qix _ _ _ _ _ _ _ _ (@qgo _ _ _ _ _ _ _ _ op_ge (@qdp _ _ _ _ _ _ _ _ _ qm1 rfl T.b_len qd3 (@qam _ _ _ _ _ (qef (pv 0) rfl) pa_nil (by rfl)) (by decide) (by decide) (by rfl) (by rfl)) (qd8 rfl T.g_MOST_PERSONS T.r_MOST_PERSONS) (qci _)) (@qas _ _ _ (qdo T.x_TooMany rfl T.c_TooMany rfl pe_str qmf)) pss_nil) (@qas _ _ _ (qfg hu (qef (pv 0) rfl) (pv 1) pe_bl rfl)))),?_⟩
  refine ⟨_,rfl,b,_,_,rfl,B.ob,qgu z (by decide +kernel) (by decide +kernel) (by decide +kernel) (by decide +kernel) (by decide +kernel),_,rfl,b,z,ppl,L,x,rfl,B,nm,fun hd H1 s1=>?_,fun c hc H1 s1=>?_⟩
  ·have B1:=B.same s1
   refine ⟨_,rfl,b,_,_,_,_,rfl,B1.ob,T.cl,T.nA_people,qiq z,_,_,rfl,B1.pp,_,_,rfl,rfl,_,rfl,ite2 (fun h=>?_) (fun h=>?_)⟩
   ·refine k2 _ ?_ H1 s1
    unfold qgz
    rw [hd]
    have h:(6:Int)≤((ppl.map fun n=>((Sum.inr n:Key),V.bl true)).length:Int):=of_decide_eq_true h
    rw [List.length_map] at h
    exact if_pos (by omega)
   ·have h:¬ (6:Int)≤((ppl.map fun n=>((Sum.inr n:Key),V.bl true)).length:Int):=fun z=>h (decide_eq_true z)
    rw [List.length_map] at h
    have hl:ppl.length < 6:=by omega
    have hno:valV (ppl.map fun n=>((Sum.inr n:Key),V.bl true)) (Sum.inr x)=none:=by
     rw [qeh (key:=fun n=>n)]
     have:=(qh3 hd).2.1
     unfold hasP at this
     rw [Option.map_eq_none_iff]
     exact Option.isSome_eq_false_iff.mp this |> Option.isNone_iff_eq_none.mp
    refine ⟨_,rfl,b,_,_,_,_,rfl,B1.ob,T.cl,T.nA_people,qiq z,_,rfl,_,_,rfl,DPut.k (k:=Sum.inr x) B1.pp (by rw [List.length_map];exact Nat.lt_of_lt_of_le hl (by decide)),?_⟩
    have hdue:qgz a ppl L x=none:=by
     unfold qgz
     rw [hd]
     exact if_neg (by omega)
    refine k1 hdue _ ?_ fun c o e hc=>by rw [qad hc];exact s1 c o e
    obtain ⟨hb,hr1⟩:=List.nodup_cons.mp B1.nd
    obtain ⟨hp,hr2⟩:=List.nodup_cons.mp hr1
    have ne:∀ c,c∈z.dt::z.dm::z.dl::z.dh::L.map (·.2)→c≠z.dp:=fun c hc e=>hp (e ▸ hc)
    refine ⟨?_,?_,?_,?_,?_,?_,fun e he=>?_,B1.nd,by rw [List.length_append];simp;omega,B1.h8⟩
    ·rw [qad (fun e=>hb (by rw [e];simp))];exact B1.ob
    ·rw [qae,qfx _ hno,List.map_append];rfl
    ·rw [qad (ne _ (by simp))];exact B1.tt
    ·rw [qad (ne _ (by simp))];exact B1.mm
    ·rw [qad (ne _ (by simp))];exact B1.ll
    ·rw [qad (ne _ (by simp))];exact B1.hh
    ·refine (B1.he e he).keep (fun o h=>?_) fun c o h x=>?_
     ·rw [qad (ne _ (by simp only [List.mem_cons];right;right;right;right;exact List.mem_map.mpr ⟨e,he,rfl⟩))];exact h
     ·rw [qad (ne_of h B1.pp (by rcases x with ⟨xs,rfl | ⟨ob,rfl⟩⟩ <;> intro z <;> cases z))];exact h
  ·refine k2 c ?_ H1 s1
   unfold qgz
   rw [hc]
abbrev qch:Stmt:=qde (top 30) 7
theorem qkf:FnScope ["self","name","owner","things","mark","loss"] ["self","name","owner","things","mark","loss"] (qac qch):=⟨rfl,rfl,rfl,by decide +kernel,rfl,by decide +kernel,by decide +kernel⟩
def qe7 (a:Adr) (ppl:List Str) (L:List (Ent×Addr)) (x o:Str) (l:Int):Option Addr:=match qen a ppl L x with
 | some c=>some c
 | none=>if (hasP ppl o || hasH L o)=false then some a.NoHolder else if l < 0 then some a.NoLoss else if 8≤L.length then some a.TooMany else none
def qj9 (K:PySem.W.Frag) (a:Adr):Sp:=fun vs H Q E=>∃ b z ppl L x o t m l,vs=[.ref b,.str x,.str o,.int t,.int m,.int l]∧BookAt K a.Book H b z ppl L∧Nm x∧Nm o ∧
 (qe7 a ppl L x o l=none→∀ p H',H p=none→BookAt K a.Book H' b z ppl (L++[(⟨x,t,m,l,[(o,1,1)]⟩,p)])→(∀ c u,H c=some u→c∉[z.dt,z.dm,z.dl,z.dh]→H' c=some u)→Q .non H')∧(∀ c,qe7 a ppl L x o l=some c→∀ H',Same H H'→E (.ref c) none H')
theorem qd9 {L:List (Ent×Addr)}{x:Str} (v:Ent×Addr→V) (h:hasH L x=false):valV (L.map fun e=>((Sum.inr e.1.nm:Key),v e)) (Sum.inr x)=none:=by
 rw [qeh (key:=fun e:Ent×Addr=>e.1.nm)]
 unfold hasH at h
 rw [Option.map_eq_none_iff]
 exact Option.isSome_eq_false_iff.mp h |> Option.isNone_iff_eq_none.mp
theorem ok_house (F:Fun K "house" "Book.house" qch f fd) (T:Txt K mg a) (M_need_new_name:Mt P w K mg base a.Book "need_new_name" 3 ["self","name"] (qd6 K a)) (M_need_holder:Mt P w K mg base a.Book "need_holder" 3 ["self","name"] (qb2 K a))
  (F_need_loss:Fn P w K mg base "need_loss" 1 ["number"] (qei a)):FnOk P w K mg base (CXo P w) 4 f fd ["self","name","owner","things","mark","loss"] (qj9 K a):=by
 refine F.okX qkf (fun vs H Q E h=>?_) (fun cdv A outer s H vs Q E hr h=>?_)
 ·obtain ⟨b,z,ppl,L,x,o,t,m,l,rfl,_⟩:=h
  rfl
 ·obtain ⟨b,z,ppl,L,x,o,t,m,l,rfl,B,nm,no,k1,k2⟩:=h
  have hu:=qar hr
  refine ⟨_,(@qaq _ _ _ _ _ (@qdt _ _ _ _ (qg8 (pv 0) M_need_new_name (hr.mono (by first | decide | omega)) qb0 (@qam _ _ _ _ _ (pv 1) pa_nil (by rfl))) (by rfl)) (@qaq _ _ _ _ _ (@qdt _ _ _ _ (qg8 (pv 0) M_need_holder (hr.mono (by first | decide | omega)) qb0 (@qam _ _ _ _ _ (pv 2) pa_nil (by rfl))) (by rfl)) (@qaq _ _ _ _ _ (@qdt _ _ _ _ (@qiy _ _ _ _ _ _ _ _ _ _ _ F_need_loss (hr.mono (by first | decide | omega)) rfl qb0 (@qam _ _ _ _ _ (pv 5) pa_nil (by rfl)) (by decide) (by rfl) (by rfl)) (by rfl)) (@qaq _ _ _ _ _ (@qix _ _ _ _ _ _ _ _ (@qgo _ _ _ _ _ _ _ _ op_ge (@qdp _ _ _ _ _ _ _ _ _ qm1 rfl T.b_len qd3 (@qam _ _ _ _ _ (qef (pv 0) rfl) pa_nil (by rfl)) (by decide) (by decide) (by rfl) (by rfl)) (qd8 rfl T.g_MOST_HOUSES T.r_MOST_HOUSES) (qci _)) (@qas _ _ _ (qdo T.x_TooMany rfl T.c_TooMany rfl pe_str qmf)) pss_nil) (@qaq _ _ _ _ _ (qfg hu (qef (pv 0) rfl) (pv 1) (pv 3) rfl) (@qaq _ _ _ _ _ (qfg hu (qef (pv 0) rfl) (pv 1) (pv 4) rfl) (@qaq _ _ _ _ _ (qfg hu (qef (pv 0) rfl) (pv 1) (pv 5) rfl) (@qas _ _ _ (qfg hu (qef (pv 0) rfl) (pv 1) (pe_disp (qob (pv 2) (qd8 rfl T.g_ONE T.r_ONE) pps_nil) rfl rfl (by decide) (by decide)) rfl))))))))),?_⟩
  refine ⟨_,rfl,b,_,_,rfl,B.ob,qgu z (by decide +kernel) (by decide +kernel) (by decide +kernel) (by decide +kernel) (by decide +kernel),_,rfl,b,z,ppl,L,x,rfl,B,nm,fun hd H1 s1=>?_,fun c hc H1 s1=>?_⟩
  ·have B1:=B.same s1
   refine ⟨_,rfl,b,_,_,rfl,B1.ob,qgu z (by decide +kernel) (by decide +kernel) (by decide +kernel) (by decide +kernel) (by decide +kernel),_,rfl,b,z,ppl,L,o,rfl,B1,no,fun ho=>?_,fun ho=>?_⟩
   ·refine ⟨_,rfl,l,rfl,fun hl=>?_,fun hl=>?_⟩
    ·refine k2 _ ?_ H1 s1
     unfold qe7
     rw [hd]
     show (if (hasP ppl o || hasH L o)=false then some a.NoHolder else _)=_
     rw [if_neg (by rw [ho];decide),if_pos hl]
    ·refine ⟨_,rfl,b,_,_,_,_,rfl,B1.ob,T.cl,T.nA_held_of,qgv z,_,_,rfl,B1.hh,_,_,rfl,rfl,_,rfl,ite2 (fun h=>?_) (fun h=>?_)⟩
     ·refine k2 _ ?_ H1 s1
      have h:(8:Int)≤((L.map fun e=>((Sum.inr e.1.nm:Key),V.ref e.2)).length:Int):=of_decide_eq_true h
      rw [List.length_map] at h
      unfold qe7
      rw [hd]
      show (if (hasP ppl o || hasH L o)=false then some a.NoHolder else _)=_
      rw [if_neg (by rw [ho];decide),if_neg (by omega),if_pos (by omega)]
     ·have h:¬ (8:Int)≤((L.map fun e=>((Sum.inr e.1.nm:Key),V.ref e.2)).length:Int):=fun z=>h (decide_eq_true z)
      rw [List.length_map] at h
      have hl8:L.length < 8:=by omega
      have hdue:qe7 a ppl L x o l=none:=by
       unfold qe7
       rw [hd]
       show (if (hasP ppl o || hasH L o)=false then some a.NoHolder else _)=_
       rw [if_neg (by rw [ho];decide),if_neg (by omega),if_neg (by omega)]
      have hx:=(qh3 hd).2.2
      have sz:∀ {v:Ent×Addr→V},(L.map fun e=>((Sum.inr e.1.nm:Key),v e)).length < sizeLine:=fun {v}=>by rw [List.length_map];exact Nat.lt_of_lt_of_le hl8 (by decide)
      obtain ⟨hb,r1⟩:=List.nodup_cons.mp B1.nd
      obtain ⟨hp,r2⟩:=List.nodup_cons.mp r1
      obtain ⟨ht,r3⟩:=List.nodup_cons.mp r2
      obtain ⟨hm,r4⟩:=List.nodup_cons.mp r3
      obtain ⟨hll,r5⟩:=List.nodup_cons.mp r4
      obtain ⟨hh,r6⟩:=List.nodup_cons.mp r5
      refine ⟨_,rfl,_,rfl,b,_,_,_,_,rfl,B1.ob,T.cl,T.nA_things_of,bf_things z,_,rfl,_,_,rfl,DPut.k (k:=Sum.inr x) B1.tt sz,?_⟩
      have b_t:b≠z.dt:=fun e=>hb (by rw [e];simp)
      have b_m:b≠z.dm:=fun e=>hb (by rw [e];simp)
      have b_l:b≠z.dl:=fun e=>hb (by rw [e];simp)
      have b_h:b≠z.dh:=fun e=>hb (by rw [e];simp)
      have p_t:z.dp≠z.dt:=fun e=>hp (by rw [e];simp)
      have p_m:z.dp≠z.dm:=fun e=>hp (by rw [e];simp)
      have p_l:z.dp≠z.dl:=fun e=>hp (by rw [e];simp)
      have p_h:z.dp≠z.dh:=fun e=>hp (by rw [e];simp)
      have t_m:z.dt≠z.dm:=fun e=>ht (by rw [e];simp)
      have t_l:z.dt≠z.dl:=fun e=>ht (by rw [e];simp)
      have t_h:z.dt≠z.dh:=fun e=>ht (by rw [e];simp)
      have m_l:z.dm≠z.dl:=fun e=>hm (by rw [e];simp)
      have m_h:z.dm≠z.dh:=fun e=>hm (by rw [e];simp)
      have l_h:z.dl≠z.dh:=fun e=>hll (by rw [e];simp)
      refine ⟨_,rfl,_,rfl,b,_,_,_,_,rfl,(by rw [qad b_t];exact B1.ob),T.cl,T.nA_mark_of,bf_mark z,_,rfl,_,_,rfl,DPut.k (k:=Sum.inr x) (by rw [qad t_m.symm];exact B1.mm) sz,?_⟩
      refine ⟨_,rfl,_,rfl,b,_,_,_,_,rfl,(by rw [qad b_m,qad b_t];exact B1.ob),T.cl,T.nA_loss_of,bf_loss z,_,rfl,_,_,rfl,DPut.k (k:=Sum.inr x) (by rw [qad m_l.symm,qad t_l.symm];exact B1.ll) sz,?_⟩
      intro p hpn
      have e0:∀ c,c≠z.dt→c≠z.dm→c≠z.dl→∀ A B C,(upd (upd (upd H1 z.dt A) z.dm B) z.dl C) c=H1 c:=fun c c1 c2 c3 A B C=>by rw [qad c3,qad c2,qad c1]
      have q_t:p≠z.dt:=fun e=>by rw [e,qad t_l,qad t_m,qae] at hpn;cases hpn
      have q_m:p≠z.dm:=fun e=>by rw [e,qad m_l,qae] at hpn;cases hpn
      have q_l:p≠z.dl:=fun e=>by rw [e,qae] at hpn;cases hpn
      have hp1:H1 p=none:=by rw [e0 p q_t q_m q_l] at hpn;exact hpn
      have hp0:H p=none:=s1.free hp1
      have q_h:p≠z.dh:=fun e=>by rw [e,B1.hh] at hp1;cases hp1
      have q_b:p≠b:=fun e=>by rw [e,B1.ob] at hp1;cases hp1
      have q_p:p≠z.dp:=fun e=>by rw [e,B1.pp] at hp1;cases hp1
      refine ⟨_,rfl,qae,[(Sum.inr o,.ref a.ONE)],rfl,(show 1≤15 by decide),_,rfl,b,_,_,_,_,rfl,(by rw [qad q_b.symm,qad q_b.symm,e0 b b_t b_m b_l];exact B1.ob),T.cl,T.nA_held_of,qgv z,_,rfl,_,_,rfl,DPut.k (k:=Sum.inr x) (by rw [qad q_h.symm,qad q_h.symm,e0 z.dh t_h.symm m_h.symm l_h.symm];exact B1.hh) sz,?_⟩
      have far:∀ c,c≠p→c≠z.dh→c≠z.dt→c≠z.dm→c≠z.dl→∀ A B C D E F,(upd (upd (upd (upd (upd (upd H1 z.dt A) z.dm B) z.dl C) p D) p E) z.dh F) c=H1 c:=fun c c1 c2 c3 c4 c5 A B C D E F=>by rw [qad c2,qad c1,qad c1,qad c5,qad c4,qad c3]
      refine k1 hdue p _ hp0 ?_ fun c u e hc=>?_
      ·refine ⟨?_,?_,?_,?_,?_,?_,fun e he=>?_,?_,B1.p6,by rw [List.length_append];exact hl8⟩
       ·rw [far b q_b.symm b_h b_t b_m b_l];exact B1.ob
       ·rw [far z.dp q_p.symm p_h p_t p_m p_l];exact B1.pp
       ·rw [qad t_h,qad q_t.symm,qad q_t.symm,qad t_l,qad t_m,qae,qfx _ (qd9 _ hx),List.map_append];rfl
       ·rw [qad m_h,qad q_m.symm,qad q_m.symm,qad m_l,qae,qfx _ (qd9 _ hx),List.map_append];rfl
       ·rw [qad l_h,qad q_l.symm,qad q_l.symm,qae,qfx _ (qd9 _ hx),List.map_append];rfl
       ·rw [qae,qfx _ (qd9 _ hx),List.map_append];rfl
       ·rcases List.mem_append.mp he with he | he
        ·have he2:e.2∈L.map (·.2):=List.mem_map.mpr ⟨e,he,rfl⟩
         have d1:e.2≠z.dh:=fun q=>hh (q ▸ he2)
         have d2:e.2≠z.dt:=fun q=>ht (by rw [← q];simp only [List.mem_cons];right;right;right;exact he2)
         have d3:e.2≠z.dm:=fun q=>hm (by rw [← q];simp only [List.mem_cons];right;right;exact he2)
         have d4:e.2≠z.dl:=fun q=>hll (by rw [← q];simp only [List.mem_cons];right;exact he2)
         have d5:e.2≠p:=fun q=>by
          obtain ⟨ts,_,q2,_⟩:=B1.he e he
          rw [q,hp1] at q2
          cases q2
         refine (B1.he e he).keep (fun u h=>?_) fun c u h y=>?_
         ·rw [far e.2 d5 d1 d2 d3 d4];exact h
         ·have nt:∀ {q:Addr}{kv:List (Key×V)},H1 q=some (.dK kv)→c≠q:=fun hq=>ne_of h hq (by rcases y with ⟨xs,rfl | ⟨ob,rfl⟩⟩ <;> intro z <;> cases z)
          rw [far c (qak h hp1) (nt B1.hh) (nt B1.tt) (nt B1.mm) (nt B1.ll)];exact h
        ·rw [List.mem_singleton.mp he]
         refine ⟨[a.ONE],rfl,?_,fun q hq=>?_⟩
         ·rw [qad q_h,qae];rfl
         ·rw [List.mem_singleton.mp hq]
          exact .inr T.one
       ·have hpL:p∉L.map (·.2):=fun hq=>by
         obtain ⟨e,he,rfl⟩:=List.mem_map.mp hq
         obtain ⟨ts,_,q2,_⟩:=B1.he e he
         rw [hp1] at q2
         cases q2
        have:=qkv (k:=p) B1.nd (by
         intro hq
         simp only [List.mem_cons] at hq
         rcases hq with e | e | e | e | e | e | e
         ·exact q_b e
         ·exact q_p e
         ·exact q_t e
         ·exact q_m e
         ·exact q_l e
         ·exact q_h e
         ·exact hpL e)
        rw [List.map_append]
        exact this
      ·have e1:=s1 c u e
       have c0:c≠p:=qak e1 hp1
       simp only [List.mem_cons,List.not_mem_nil,or_false,not_or] at hc
       rw [far c c0 hc.2.2.2 hc.1 hc.2.1 hc.2.2.1]
       exact e1
   ·refine k2 _ ?_ H1 s1
    unfold qe7
    rw [hd]
    exact if_pos ho
  ·refine k2 c ?_ H1 s1
   unfold qe7
   rw [hc]
end
end My
namespace My
open PySem L2
def PairAt (K:PySem.W.Frag) (H:Hp) (q:Str×Int×Int) (v:V):Prop:=∃ t u,v=.ref t∧SqT K H t [.str q.1,.ref u]∧SqT K H u [.int q.2.1,.int q.2.2]
theorem PairAt.keep {K:PySem.W.Frag}{H H':Hp}{q:Str×Int×Int}{v:V} (h:PairAt K H q v) (k:∀ c o,H c=some o→(∃ xs,o=.tup xs∨∃ ob,o=.frz ob (.tup xs))→H' c=some o):PairAt K H' q v:=by
 obtain ⟨t,u,e,h1,h2⟩:=h
 exact ⟨t,u,e,qgi h1 k,qgi h2 k⟩
theorem upd_tup {H:Hp}{p:Addr}{xs:List V}{o':HO} (hp:H p=some (.lst xs)):∀ c o,H c=some o→(∃ xs,o=.tup xs∨∃ ob,o=.frz ob (.tup xs))→(upd H p o') c=some o:=fun c o h x=>by
 rw [qad (ne_of h hp (by rcases x with ⟨xs,rfl | ⟨ob,rfl⟩⟩ <;> intro z <;> cases z))]
 exact h
theorem zip_find {l:List (Str×Int×Int)}{ts:List Addr} (hl:ts.length=l.length) {n:Str} (hn:n∈l.map (·.1)):∃ q,(l.zip ts).find? (fun q=>decide (q.1.1=n))=some q∧q∈l.zip ts∧q.1=qb3 l n∧(qb3 l n).1=n:=by
 have e:(l.zip ts).map (·.1)=l:=List.map_fst_zip (by omega)
 cases h:(l.zip ts).find? (fun q=>decide (q.1.1=n)) with
 | none =>
  exfalso
  rw [List.find?_eq_none] at h
  rw [← e,List.map_map] at hn
  obtain ⟨q,hq,e2⟩:=List.mem_map.mp hn
  exact h q hq (decide_eq_true e2)
 | some q =>
  have e2:l.find? (fun q=>decide (q.1=n))=some q.1:=by
   rw [← e,List.find?_map]
   show ((l.zip ts).find? (fun q=>decide (q.1.1=n))).map (·.1)=some q.1
   rw [h]
   rfl
  have e3:qb3 l n=q.1:=by unfold qb3;rw [e2];rfl
  exact ⟨q,rfl,List.mem_of_find?_eq_some h,e3.symm,by rw [e3];simpa using List.find?_some h⟩
section
variable {P:Program}{w:World}{K:PySem.W.Frag}{mg:Str→Option Value}{base:Heap}{a:Adr}{f:Addr}{fd:FuncData}
def qhz (K:PySem.W.Frag) (C:Addr):Sp:=fun vs H Q _=>∃ b z ppl L,vs=[.ref b]∧BookAt K C H b z ppl L∧∀ l,H l=none→Q (.ref l) (upd H l (.lst ((srt (L.map (·.1.nm))).map V.str)))
abbrev qbz:Stmt:=qde (top 30) 13
theorem qiw:FnScope ["self"] ["self"] (qac qbz):=⟨rfl,rfl,rfl,by decide +kernel,rfl,by decide +kernel,by decide +kernel⟩
theorem ok_houses (F:Fun K "houses" "Book.houses" qbz f fd) (T:Txt K mg a):FnOk P w K mg base (CXo P w) 1 f fd ["self"] (qhz K a.Book):=by
 refine F.okN qiw (fun vs H Q E h=>?_) (fun cdv A outer s H vs Q E hr h=>?_)
 ·obtain ⟨b,z,ppl,L,rfl,_⟩:=h
  rfl
 ·obtain ⟨b,z,ppl,L,rfl,B,k⟩:=h
  have hu:=qar hr
  refine ⟨_,(@qas _ _ _ (@qe6 _ _ _ _ (@qdp _ _ _ _ _ _ _ _ _ (qes rfl) rfl T.b_sorted qdj (@qam _ _ _ _ _ (qef (pv 0) rfl) pa_nil (by rfl)) (by decide) (by decide) (by rfl) (by rfl)))),?_⟩
  exact ⟨_,rfl,b,_,_,_,_,rfl,B.ob,T.cl,T.nA_held_of,qgv z,_,_,L.map (·.1.nm),rfl,.inl B.hh,by rw [List.map_map,List.map_map];rfl,by rw [List.length_map];exact Nat.lt_of_le_of_lt B.h8 (by decide),k⟩
theorem val_of {L:List (Ent×Addr)}{x:Str}{e:Ent×Addr} (v:Ent×Addr→V) (h:qdm L x=some e):valV (L.map fun e=>((Sum.inr e.1.nm:Key),v e)) (Sum.inr x)=some (v e):=by
 rw [qeh (key:=fun e:Ent×Addr=>e.1.nm)]
 unfold qdm at h
 rw [h]
 rfl
abbrev qbm:Stmt:=qde (top 30) 14
theorem sc_Book_shares:FnScope ["self","house","held"] ["self","house"] (qac qbm):=⟨rfl,rfl,rfl,by decide +kernel,rfl,by decide +kernel,by decide +kernel⟩
def qhx (K:PySem.W.Frag) (a:Adr):Sp:=fun vs H Q E=>∃ b z ppl L x,vs=[.ref b,.str x]∧BookAt K a.Book H b z ppl L∧Nm x ∧
 (∀ e,qdm L x=some e→e.1.held.length < 64∧∀ l ys H',H l=none→Same H H'→H' l=some (.lst ys)→Paired (PairAt K H') ((srt (e.1.held.map (·.1))).map (qb3 e.1.held)) ys→Q (.ref l) H')∧(qdm L x=none→E (.ref a.NoHouse) none H)
theorem ok_shares (F:Fun K "shares" "Book.shares" qbm f fd) (T:Txt K mg a) (M_need_house:Mt P w K mg base a.Book "need_house" 2 ["self","name"] (qcl K a)):FnOk P w K mg base (CXo P w) 3 f fd ["self","house"] (qhx K a):=by
 refine F.okX sc_Book_shares (fun vs H Q E h=>?_) (fun cdv A outer s H vs Q E hr h=>?_)
 ·obtain ⟨b,z,ppl,L,x,rfl,_⟩:=h
  rfl
 ·obtain ⟨b,z,ppl,L,x,rfl,B,nm,k1,k2⟩:=h
  have hu:=qar hr
  refine ⟨_,(@qaq _ _ _ _ _ (@qdt _ _ _ _ (qg8 (pv 0) M_need_house (hr.mono (by first | decide | omega)) qb0 (@qam _ _ _ _ _ (pv 1) pa_nil (by rfl))) (by rfl)) (@qaq _ _ _ _ _ (@qe5 _ _ (2) _ _ _ _ sc_Book_shares.nd rfl (Or.inr rfl) (@qkl _ _ _ _ _ _ hu (qef (pv 0) rfl) (pv 1) (fun _ _=>rfl)) (by rfl) (by first | exact .inl rfl | exact .inr rfl | assumption)) (@qas _ _ _ (@qe6 _ _ _ _ (qkm (fr:=["held"]) (ix:=[2]) rfl (by exact (show CompOk ["self","house","held"] (qac qbm) _ _ _ _ from ⟨rfl,by decide +kernel,rfl,by decide +kernel,by decide +kernel,by decide +kernel,by decide +kernel,by decide +kernel,rfl⟩)) (pi_list (@qdp _ _ _ _ _ _ _ _ _ (qes rfl) rfl T.b_sorted qdj (@qam _ _ _ _ _ (pv 2) pa_nil (by rfl)) (by decide) (by decide) (by rfl) (by rfl))) (fun _ _ _ _ _=>qkj) (fun _ _ _ _ _=>(qod (qam (pv 0) (qam (qkl hu (pv 1) (pv 0) (fun _ _=>rfl)) pa_nil))))))))),?_⟩
  refine ⟨_,rfl,b,_,_,rfl,B.ob,qgu z (by decide +kernel) (by decide +kernel) (by decide +kernel) (by decide +kernel) (by decide +kernel),_,rfl,b,z,ppl,L,x,rfl,B,nm,fun h=>?_,fun h=>k2 ?_⟩
  ·cases he:qdm L x with
   | none=>unfold hasH at h;unfold qdm at he;rw [he] at h;cases h
   | some e =>
    obtain ⟨h64,k1⟩:=k1 e he
    obtain ⟨ts,hl,hd,hts⟩:=B.he e (qeo he)
    have hkeys:(((e.1.held.zip ts).map fun q=>((Sum.inr q.1.1:Key),V.ref q.2)).map (·.1))=(e.1.held.map (·.1)).map Sum.inr:=by
     rw [List.map_map,List.map_map]
     have e1:(e.1.held.zip ts).map (·.1)=e.1.held:=List.map_fst_zip (by omega)
     conv=>rhs;rw [← e1,List.map_map]
     rfl
    refine ⟨_,rfl,b,_,_,_,_,rfl,B.ob,T.cl,T.nA_held_of,qgv z,_,rfl,_,.ref e.2,rfl,?_,_,rfl,e.2,_,e.1.held.map (·.1),rfl,.inl hd,hkeys,by rw [List.length_map];exact h64,fun l hl0=>?_⟩
    ·have:=DGet.k (k:=Sum.inr x) B.hh;rw [val_of _ he] at this;exact this
    ·refine ⟨l,rfl,⟨_,SqL.of qae⟩,fun D hD=>?_⟩
     have lD:l≠D:=qak qae hD
     have hD0:H D=none:=by rw [qad lD.symm] at hD;exact hD
     have hDp:e.2≠D:=qak hd hD0
     refine comp_by (J:=Itl K l) (srt (e.1.held.map (·.1))).length (fun i ys H'=>Same H H'∧H' D=some (.lst ys)∧H' l=some (.lst ((srt (e.1.held.map (·.1))).map V.str))∧Paired (PairAt K H') (((srt (e.1.held.map (·.1))).take i).map (qb3 e.1.held)) ys)
      ⟨?_,qae,?_,.nil⟩ ?_ (fun i ys H' r=>r.2.1) (fun i ys H' hi r=>⟨_,.str ((srt (e.1.held.map (·.1)))[i]),SqL.of r.2.2.1,by simp [hi]⟩) ?_ ?_
     ·exact (qew hl0).trans (qew hD)
     ·rw [qad lD,qae]
     ·rw [qaw,List.length_map];exact Nat.le_trans (Nat.le_of_lt h64) (by decide)
     ·rintro i ys Hx v H' hi ⟨s1,h1,h2,h3⟩ ⟨rfl,hy⟩ Kt Kf q1 q2
      have hv:=hy _ (SqL.of h2)
      have ev:v=.str ((srt (e.1.held.map (·.1)))[i]):=by
       rw [List.getElem?_map,List.getElem?_eq_getElem hi] at hv
       exact (Option.some.inj hv).symm
      subst ev
      have hmem:(srt (e.1.held.map (·.1)))[i]∈e.1.held.map (·.1):=(qbq _).mem_iff.mp (List.getElem_mem hi)
      obtain ⟨q,f1,f2,f3,f4⟩:=zip_find hl hmem
      have hval:valV ((e.1.held.zip ts).map fun q=>((Sum.inr q.1.1:Key),V.ref q.2)) (Sum.inr ((srt (e.1.held.map (·.1)))[i]))=some (.ref q.2):=by
       rw [qeh (key:=fun q:(Str×Int×Int)×Addr=>q.1.1),f1]
       rfl
      refine yesT ⟨_,rfl,_,rfl,_,rfl,e.2,.ref q.2,rfl,?_,(show 2≤sizeLine by decide),fun p hp=>?_⟩
      ·have:=DGet.k (k:=Sum.inr ((srt (e.1.held.map (·.1)))[i])) (s1 _ _ hd);rw [hval] at this;exact this
      ·have pD:D≠p:=qak h1 hp
       have pl:l≠p:=qak h2 hp
       refine q1 _ _ (by rw [qad pD];exact h1) ⟨?_,qae,?_,?_⟩
       ·intro c o hc
        rw [qad (fun z=>by rw [z] at hc;rw [hD0] at hc;cases hc),qad (qak (s1 c o hc) hp)]
        exact s1 c o hc
       ·rw [qad lD,qad pl];exact h2
       ·have kp:∀ c o,H' c=some o→(∃ xs,o=.tup xs∨∃ ob,o=.frz ob (.tup xs))→(upd (upd H' p (.tup [.str ((srt (e.1.held.map (·.1)))[i]),.ref q.2])) D (.lst (ys++[.ref p]))) c=some o:=fun c o hc x=>by
         rw [upd_tup (xs:=ys) (by rw [qad pD];exact h1) c o (by rw [qad (qak hc hp)];exact hc) x]
        have e5:((srt (e.1.held.map (·.1))).take (i+1)).map (qb3 e.1.held)=((srt (e.1.held.map (·.1))).take i).map (qb3 e.1.held)++[qb3 e.1.held ((srt (e.1.held.map (·.1)))[i])]:=by
         rw [List.take_add_one,List.getElem?_eq_getElem hi,List.map_append]
         rfl
        rw [e5]
        refine Paired.snoc (Paired.mapP h3 fun q v hq=>hq.keep kp) ⟨p,q.2,rfl,?_,?_⟩
        ·refine SqT.of ?_
         rw [qad pD.symm,qae,f4]
        ·rw [← f3]
         exact qgi (hts q f2) fun c o hc x=>kp c o (s1 c o hc) x
     ·rintro ys H' hy ⟨s1,h1,h2,h3⟩
      refine ⟨⟨_,SqL.of h2,by rw [List.length_map];exact Nat.le_refl _⟩,k1 D ys H' hD0 s1 h1 ?_⟩
      rw [List.take_length] at h3
      exact h3
  ·unfold hasH at h
   unfold qdm
   exact Option.isSome_eq_false_iff.mp h |> Option.isNone_iff_eq_none.mp
end
end My
namespace L2
open PySem PySem.Spec PyProof.Rows
section
variable {X:Cx}
def rEqT (K:PySem.W.Frag):R2:=fun x y H Q=>∃ p q xs ys,x=.ref p∧y=.ref q∧SqT K H p xs∧SqT K H q ys∧xs.length=ys.length∧xs.all qf7=true∧ys.all qf7=true∧Q (.bl (eqLs xs ys)) H
theorem op_eqT (hu:X.A.units < cLine):OpR X (compareOp .Eq) (rEqT X.K):=by
 intro pins s σ H x y v u Q I rx ry h
 obtain ⟨p,q,xs,ys,rfl,rfl,hp,hq,hl,fx,fy,k⟩:=h
 cases rx
 cases ry
 obtain ⟨its,r,pl,_⟩:=I.tuple hp
 obtain ⟨its2,r2,pl2,_⟩:=I.tuple hq
 have e1:=r.length
 have e2:=r2.length
 refine SeqAt.eq_tupleAt pl pl2 hu (items_eqAt r r2 hl fx fy) ⟨.bl _,H,I,rfl,?_⟩
 have e3:its.toArray.size=its2.toArray.size:=by simp;omega
 rw [e3,Nat.min_self,beq_self_eq_true,Bool.and_true,List.size_toArray,← e2,← hl,← qow hl]
 exact k
end
end L2
namespace My
open PySem L2 Fra
theorem qoo (x y:Int) (h:0 < y):Int.gcd y (x % y)=Int.gcd x y:=by
 have e:x % y=x - (x / y) * y:=by rw [Int.emod_def,Int.mul_comm]
 rw [e,Int.gcd_comm,Int.gcd_sub_mul_right_left]
theorem gcd_zero {x:Int} (h:0≤x):(Int.gcd x 0:Int)=x:=by rw [Int.gcd_zero_right];omega
structure Sz (q:Int×Int):Prop where
 low:Low q
 bt:Bt 8900 q.1
 bb:Bt 8900 q.2
def FrAt (K:PySem.W.Frag) (H:Hp) (p:Addr) (q:Int×Int):Prop:=SqT K H p [.int q.1,.int q.2]
theorem FrAt.same {K:PySem.W.Frag}{H H':Hp}{p:Addr}{q:Int×Int} (h:FrAt K H p q) (s:Same H H'):FrAt K H' p q:=qn2 s h
section
variable {P:Program}{w:World}{K:PySem.W.Frag}{mg:Str→Option Value}{base:Heap}{a:Adr}{f:Addr}{fd:FuncData}
abbrev qa9:Stmt:=top 5
theorem sc_common_divisor:FnScope ["number","other","rest"] ["number","other"] (qac qa9):=⟨rfl,rfl,rfl,by decide +kernel,rfl,by decide +kernel,by decide +kernel⟩
def sp_gcd:Sp:=fun vs H Q _=>∃ n m,vs=[.int n,.int m]∧0 < m∧Q (.int (Int.gcd n m)) H
theorem ok_gcd (F:Fun K "common_divisor" "common_divisor" qa9 f fd) (T:Txt K mg a):FnOk P w K mg base (CXo P w) 1 f fd ["number","other"] sp_gcd:=by
 refine F.okN sc_common_divisor (fun vs H Q E h=>?_) (fun cdv A outer s H vs Q E hr h=>?_)
 ·obtain ⟨n,m,rfl,_⟩:=h
  rfl
 ·obtain ⟨n,m,rfl,hm,k⟩:=h
  have hu:=qar hr
  refine ⟨_,(@qaq _ _ _ _ _ (qoa PassesOwn.never (@qgo _ _ _ _ _ _ _ _ op_ne (pv 1) pe_int (qci _)) (@qaq _ _ _ _ _ (@qe5 _ _ (2) _ _ _ _ sc_common_divisor.nd rfl (Or.inl rfl) (@qgq _ _ _ _ _ _ _ _ op_mod (pv 0) (pv 1)) (by rfl) (by first | exact .inl rfl | exact .inr rfl | assumption)) (@qaq _ _ _ _ _ (@qe5 _ _ (0) _ _ _ _ sc_common_divisor.nd rfl (Or.inl rfl) (pv 1) (by rfl) (by first | exact .inl rfl | exact .inr rfl | assumption)) (@qas _ _ _ (@qe5 _ _ (1) _ _ _ _ sc_common_divisor.nd rfl (Or.inl rfl) (pv 2) (by rfl) (by first | exact .inl rfl | exact .inr rfl | assumption)))))) (@qas _ _ _ (@qe6 _ _ _ _ (pv 0)))),?_⟩
  refine ⟨fun c σ H'=>H'=H∧∃ x y v,σ=[some (.int x),some (.int y),v]∧0≤y∧c=y.toNat∧Int.gcd x y=Int.gcd n m∧(y=0→0≤x),⟨_,rfl,n,m,_,rfl,by omega,rfl,rfl,by omega⟩,?_⟩
  rintro c σ H' ⟨rfl,x,y,v,rfl,hy,rfl,hg,hx⟩
  refine ⟨_,rfl,rfl,_,rfl,ite2 (fun h=>?_) (fun h=>?_)⟩
  ·have hy0:0 < y:=by
    have:¬ (V.int y=V.int 0):=of_decide_eq_false (nbT h)
    have:y≠0:=fun z=>this (by rw [z])
    omega
   refine ⟨fun σ' H''=>H''=H'∧∃ v',σ'=[some (.int y),some (.int (x % y)),v'],?_,?_⟩
   ·rintro σ' H'' ⟨rfl,v',rfl⟩
    have m0:=Int.emod_nonneg x (show y≠0 by omega)
    have m1:=Int.emod_lt_of_pos x hy0
    exact ⟨(x % y).toNat,by omega,rfl,_,_,_,rfl,m0,rfl,(qoo x y hy0).trans hg,fun _=>hy⟩
   ·exact ⟨_,rfl,_,rfl,_,_,rfl,rfl,hy0,_,rfl,_,rfl,rfl,_,rfl⟩
  ·have hy0:y=0:=V.int.inj (of_decide_eq_true (nbF h))
   subst hy0
   refine ⟨_,rfl,?_⟩
   rw [gcd_zero (hx rfl) |>.symm,hg]
   exact k
abbrev qjc:Stmt:=top 6
theorem sc_plus:FnScope ["first","second","common","top","shared"] ["first","second"] (qac qjc):=⟨rfl,rfl,rfl,by decide +kernel,rfl,by decide +kernel,by decide +kernel⟩
def qgj (K:PySem.W.Frag):Sp:=fun vs H Q _=>∃ p1 p2 q1 q2,vs=[.ref p1,.ref p2]∧FrAt K H p1 q1∧FrAt K H p2 q2∧Sz q1∧Sz q2∧∀ x,H x=none→Q (.ref x) (upd H x (.tup [.int (addR q1 q2).1,.int (addR q1 q2).2]))
theorem ok_plus (F:Fun K "plus" "plus" qjc f fd) (T:Txt K mg a) (F_common_divisor:Fn P w K mg base "common_divisor" 1 ["number","other"] sp_gcd):FnOk P w K mg base (CXo P w) 2 f fd ["first","second"] (qgj K):=by
 refine F.okN sc_plus (fun vs H Q E h=>?_) (fun cdv A outer s H vs Q E hr h=>?_)
 ·obtain ⟨p1,p2,q1,q2,rfl,_⟩:=h
  rfl
 ·obtain ⟨p1,p2,⟨t1,b1⟩,⟨t2,b2⟩,rfl,h1,h2,s1,s2,k⟩:=h
  have hu:=qar hr
  refine ⟨_,(@qaq _ _ _ _ _ (@qe5 _ _ (2) _ _ _ _ sc_plus.nd rfl (Or.inl rfl) (@qiy _ _ _ _ _ _ _ _ _ _ _ F_common_divisor (hr.mono (by first | decide | omega)) rfl qa3 (@qam _ _ _ _ _ (@qfh _ _ _ _ _ _ _ ix_tup (pv 0) pe_int (fun _ _=>rfl)) (@qam _ _ _ _ _ (@qfh _ _ _ _ _ _ _ ix_tup (pv 1) pe_int (fun _ _=>rfl)) pa_nil (by rfl)) (by rfl)) (by decide) (by rfl) (by rfl)) (by rfl) (by first | exact .inl rfl | exact .inr rfl | assumption)) (@qaq _ _ _ _ _ (@qe5 _ _ (3) _ _ _ _ sc_plus.nd rfl (Or.inl rfl) (@qgq _ _ _ _ _ _ _ _ op_add (@qgq _ _ _ _ _ _ _ _ op_mulB (@qfh _ _ _ _ _ _ _ ix_tup (pv 0) pe_int (fun _ _=>rfl)) (@qgq _ _ _ _ _ _ _ _ qex (@qfh _ _ _ _ _ _ _ ix_tup (pv 1) pe_int (fun _ _=>rfl)) (pv 2))) (@qgq _ _ _ _ _ _ _ _ op_mulB (@qfh _ _ _ _ _ _ _ ix_tup (pv 1) pe_int (fun _ _=>rfl)) (@qgq _ _ _ _ _ _ _ _ qex (@qfh _ _ _ _ _ _ _ ix_tup (pv 0) pe_int (fun _ _=>rfl)) (pv 2)))) (by rfl) (by first | exact .inl rfl | exact .inr rfl | assumption)) (@qaq _ _ _ _ _ (@qe5 _ _ (4) _ _ _ _ sc_plus.nd rfl (Or.inl rfl) (@qiy _ _ _ _ _ _ _ _ _ _ _ F_common_divisor (hr.mono (by first | decide | omega)) rfl qa3 (@qam _ _ _ _ _ (pv 3) (@qam _ _ _ _ _ (pv 2) pa_nil (by rfl)) (by rfl)) (by decide) (by rfl) (by rfl)) (by rfl) (by first | exact .inl rfl | exact .inr rfl | assumption)) (@qas _ _ _ (@qe6 _ _ _ _ (@qod _ _ _ _ _ (@qam _ _ _ _ _ (@qgq _ _ _ _ _ _ _ _ qex (pv 3) (pv 4)) (@qam _ _ _ _ _ (@qgq _ _ _ _ _ _ _ _ op_mulB (@qgq _ _ _ _ _ _ _ _ qex (@qfh _ _ _ _ _ _ _ ix_tup (pv 0) pe_int (fun _ _=>rfl)) (pv 2)) (@qgq _ _ _ _ _ _ _ _ qex (@qfh _ _ _ _ _ _ _ ix_tup (pv 1) pe_int (fun _ _=>rfl)) (pv 4))) pa_nil (by rfl)) (by rfl)))))))),?_⟩
  rw [← addK_eq s1.low s2.low] at k
  have b10:0 < b1:=s1.low.1
  have b20:0 < b2:=s2.low.1
  have hd:0 < Int.gcd b1 b2:=Int.gcd_pos_of_ne_zero_right _ (by omega)
  have hd0:(0:Int) < (Int.gcd b1 b2:Int):=by omega
  have bd:Bt 8900 (Int.gcd b1 b2:Int):=s1.bb.dvd (show b1≠0 by omega) (Int.gcd_dvd_left ..)
  have ld:=(bd.mono (by decide)).log hd0
  refine ⟨_,rfl,p1,_,1,_,rfl,rfl,h1,qbe (j:=1) rfl,_,rfl,p2,_,1,_,rfl,rfl,h2,qbe (j:=1) rfl,b1,b2,rfl,b20,?_⟩
  refine ⟨_,rfl,p1,_,0,_,rfl,rfl,h1,qbe (j:=0) rfl,_,rfl,p2,_,1,_,rfl,rfl,h2,qbe (j:=1) rfl,_,rfl,_,_,rfl,rfl,⟨hd0,ld⟩,_,_,rfl,rfl,⟨s1.bt.mono (by decide),(s2.bb.div).mono (by decide)⟩,?_⟩
  refine ⟨_,rfl,p2,_,0,_,rfl,rfl,h2,qbe (j:=0) rfl,_,rfl,p1,_,1,_,rfl,rfl,h1,qbe (j:=1) rfl,_,rfl,_,_,rfl,rfl,⟨hd0,ld⟩,_,_,rfl,rfl,⟨s2.bt.mono (by decide),(s1.bb.div).mono (by decide)⟩,_,_,rfl,rfl,?_⟩
  have he:0 < Int.gcd (t1 * (b2 / (Int.gcd b1 b2:Int))+t2 * (b1 / (Int.gcd b1 b2:Int))) (Int.gcd b1 b2:Int):=Int.gcd_pos_of_ne_zero_right _ (by omega)
  have he0:(0:Int) < (Int.gcd (t1 * (b2 / (Int.gcd b1 b2:Int))+t2 * (b1 / (Int.gcd b1 b2:Int))) (Int.gcd b1 b2:Int):Int):=by omega
  have be:Bt 8900 (Int.gcd (t1 * (b2 / (Int.gcd b1 b2:Int))+t2 * (b1 / (Int.gcd b1 b2:Int))) (Int.gcd b1 b2:Int):Int):=bd.dvd (by omega) (Int.gcd_dvd_right ..)
  have le:=(be.mono (by decide)).log he0
  refine ⟨_,rfl,_,rfl,_,_,rfl,hd0,?_⟩
  refine ⟨_,rfl,_,rfl,_,_,rfl,rfl,⟨he0,le⟩,_,rfl,p1,_,1,_,rfl,rfl,h1,qbe (j:=1) rfl,_,rfl,_,_,rfl,rfl,⟨hd0,ld⟩,_,rfl,p2,_,1,_,rfl,rfl,h2,qbe (j:=1) rfl,_,rfl,_,_,rfl,rfl,⟨he0,le⟩,_,_,rfl,rfl,⟨(s1.bb.div).mono (by decide),(s2.bb.div).mono (by decide)⟩,(show 2≤sizeLine by decide),fun x hx=>?_⟩
  exact k x hx
abbrev qgm:Stmt:=top 7
theorem sc_minus:FnScope ["first","second"] ["first","second"] (qac qgm):=⟨rfl,rfl,rfl,by decide +kernel,rfl,by decide +kernel,by decide +kernel⟩
def qj8 (K:PySem.W.Frag):Sp:=fun vs H Q _=>∃ p1 p2 q1 q2,vs=[.ref p1,.ref p2]∧FrAt K H p1 q1∧FrAt K H p2 q2∧Sz q1∧Sz q2∧∀ x H',H x=none→Same H H'→H' x=some (.tup [.int (addR q1 (-q2.1,q2.2)).1,.int (addR q1 (-q2.1,q2.2)).2])→Q (.ref x) H'
theorem Sz.neg {q:Int×Int} (h:Sz q):Sz (-q.1,q.2):=⟨⟨h.low.1,by have:=h.low.2;unfold Cop Int.gcd at *;simp only [Int.natAbs_neg];exact this⟩,h.bt.neg,h.bb⟩
theorem ok_minus (F:Fun K "minus" "minus" qgm f fd) (T:Txt K mg a) (F_plus:Fn P w K mg base "plus" 2 ["first","second"] (qgj K)):FnOk P w K mg base (CXo P w) 3 f fd ["first","second"] (qj8 K):=by
 refine F.okN sc_minus (fun vs H Q E h=>?_) (fun cdv A outer s H vs Q E hr h=>?_)
 ·obtain ⟨p1,p2,q1,q2,rfl,_⟩:=h
  rfl
 ·obtain ⟨p1,p2,⟨t1,b1⟩,⟨t2,b2⟩,rfl,h1,h2,s1,s2,k⟩:=h
  have hu:=qar hr
  refine ⟨_,(@qas _ _ _ (@qe6 _ _ _ _ (@qiy _ _ _ _ _ _ _ _ _ _ _ F_plus (hr.mono (by first | decide | omega)) rfl qa3 (@qam _ _ _ _ _ (pv 0) (@qam _ _ _ _ _ (@qod _ _ _ _ _ (@qam _ _ _ _ _ (@pe_un _ _ _ _ _ _ un_neg (@qfh _ _ _ _ _ _ _ ix_tup (pv 1) pe_int (fun _ _=>rfl))) (@qam _ _ _ _ _ (@qfh _ _ _ _ _ _ _ ix_tup (pv 1) pe_int (fun _ _=>rfl)) pa_nil (by rfl)) (by rfl))) pa_nil (by rfl)) (by rfl)) (by decide) (by rfl) (by rfl)))),?_⟩
  refine ⟨_,rfl,_,rfl,p2,_,0,_,rfl,rfl,h2,qbe (j:=0) rfl,_,rfl,_,rfl,p2,_,1,_,rfl,rfl,h2,qbe (j:=1) rfl,(show 2≤sizeLine by decide),fun y hy=>?_⟩
  have sy:=qew (o:=.tup [.int (-t2),.int b2]) hy
  refine ⟨p1,y,(t1,b1),(-t2,b2),rfl,h1.same sy,SqT.of qae,s1,s2.neg,fun x hx=>?_⟩
  refine k x _ (sy.free hx) (sy.trans (qew hx)) qae
abbrev qc9:Stmt:=top 8
theorem qnd:FnScope ["first","second"] ["first","second"] (qac qc9):=⟨rfl,rfl,rfl,by decide +kernel,rfl,by decide +kernel,by decide +kernel⟩
def qhe (K:PySem.W.Frag):Sp:=fun vs H Q _=>∃ p1 p2 q1 q2,vs=[.ref p1,.ref p2]∧FrAt K H p1 q1∧FrAt K H p2 q2∧Sz q1∧Sz q2∧Q (.bl (decide (q1.1 * q2.2 > q2.1 * q1.2))) H
theorem ok_above (F:Fun K "is_above" "is_above" qc9 f fd) (T:Txt K mg a):FnOk P w K mg base (CXo P w) 1 f fd ["first","second"] (qhe K):=by
 refine F.okN qnd (fun vs H Q E h=>?_) (fun cdv A outer s H vs Q E hr h=>?_)
 ·obtain ⟨p1,p2,q1,q2,rfl,_⟩:=h
  rfl
 ·obtain ⟨p1,p2,⟨t1,b1⟩,⟨t2,b2⟩,rfl,h1,h2,s1,s2,k⟩:=h
  have hu:=qar hr
  refine ⟨_,(@qas _ _ _ (@qe6 _ _ _ _ (@pe_cmpR _ _ _ _ _ _ _ _ op_gt (@qgq _ _ _ _ _ _ _ _ op_mulB (@qfh _ _ _ _ _ _ _ ix_tup (pv 0) pe_int (fun _ _=>rfl)) (@qfh _ _ _ _ _ _ _ ix_tup (pv 1) pe_int (fun _ _=>rfl))) (@qgq _ _ _ _ _ _ _ _ op_mulB (@qfh _ _ _ _ _ _ _ ix_tup (pv 1) pe_int (fun _ _=>rfl)) (@qfh _ _ _ _ _ _ _ ix_tup (pv 0) pe_int (fun _ _=>rfl))) (qci _)))),?_⟩
  refine ⟨_,rfl,p1,_,0,_,rfl,rfl,h1,qbe (j:=0) rfl,_,rfl,p2,_,1,_,rfl,rfl,h2,qbe (j:=1) rfl,_,_,rfl,rfl,⟨s1.bt.mono (by decide),s2.bb.mono (by decide)⟩,_,rfl,p2,_,0,_,rfl,rfl,h2,qbe (j:=0) rfl,_,rfl,p1,_,1,_,rfl,rfl,h1,qbe (j:=1) rfl,_,_,rfl,rfl,⟨s2.bt.mono (by decide),s1.bb.mono (by decide)⟩,_,_,rfl,rfl,?_⟩
  exact k
end
end My
namespace My
open PySem L2 Fra
structure Two (q1 q2:Int×Int):Prop where
 p1:0 < q1.2
 p2:0 < q2.2
 t1:Bt 9000 q1.1
 t2:Bt 9000 q2.1
 b1:Bt 9000 q1.2
 b2:Bt 9000 q2.2
 bb:Bt 9000 (q1.2 * q2.2)
abbrev Hl:=List (Str×Int×Int)
def getQ (l:Hl) (n:Str):Int×Int:=(qb3 l n).2
def putH (l:Hl) (n:Str) (q:Int×Int):Hl:=if (l.any fun x=>decide (x.1=n))=true then l.map (fun x=>if x.1=n then (n,q) else x) else l++[(n,q)]
def qij (l:Hl) (n:Str):Hl:=l.filter fun x=>decide (x.1≠n)
def HeldZ (K:PySem.W.Frag) (H:Hp) (p:Addr) (l:Hl) (z:List ((Str×Int×Int)×Addr)):Prop :=
 z.map (·.1)=l∧H p=some (.dK (z.map fun q=>(Sum.inr q.1.1,V.ref q.2)))∧∀ q∈z,FrAt K H q.2 q.1.2
theorem HeldAt.toZ {K:PySem.W.Frag}{H:Hp}{p:Addr}{l:Hl} (h:HeldAt K H p l):∃ z,HeldZ K H p l z:=by
 obtain ⟨ts,hl,hd,ht⟩:=h
 exact ⟨l.zip ts,List.map_fst_zip (by omega),hd,ht⟩
theorem qho {α β:Type}:∀ z:List (α×β),(z.map (·.1)).zip (z.map (·.2))=z
 | []=>rfl
 | x::r=>congrArg (x::·) (qho r)
theorem HeldZ.held {K:PySem.W.Frag}{H:Hp}{p:Addr}{l:Hl}{z:List ((Str×Int×Int)×Addr)} (h:HeldZ K H p l z):HeldAt K H p l:=by
 obtain ⟨rfl,hd,ht⟩:=h
 refine ⟨z.map (·.2),by rw [List.length_map,List.length_map],?_,?_⟩
 ·rw [qho];exact hd
 ·rw [qho];exact ht
theorem qos {K:PySem.W.Frag}{H:Hp}{p x:Addr}{q:Int×Int}{kvs:List (Key×V)}{o:HO} (hp:H p=some (.dK kvs)) (h:FrAt K H x q):FrAt K (upd H p o) x q :=
 qgi h fun c u e y=>by
  rw [qad (ne_of e hp (by rcases y with ⟨xs,rfl | ⟨ob,rfl⟩⟩ <;> intro z <;> cases z))]
  exact e
theorem HeldZ.val {K:PySem.W.Frag}{H:Hp}{p:Addr}{l:Hl}{z:List ((Str×Int×Int)×Addr)} (h:HeldZ K H p l z) (n:Str) :
  (n∉l.map (·.1)∧valV (z.map fun q=>((Sum.inr q.1.1:Key),V.ref q.2)) (Sum.inr n)=none∧getQ l n=(0,1))∨(n∈l.map (·.1)∧∃ x,valV (z.map fun q=>((Sum.inr q.1.1:Key),V.ref q.2)) (Sum.inr n)=some (.ref x)∧FrAt K H x (getQ l n)):=by
 obtain ⟨rfl,hd,ht⟩:=h
 rw [qeh (key:=fun q:(Str×Int×Int)×Addr=>q.1.1)]
 unfold getQ qb3
 rw [List.find?_map]
 have e:((fun q:Str×Int×Int=>decide (q.1=n)) ∘ fun x:(Str×Int×Int)×Addr=>x.1)=fun x=>decide (x.1.1=n):=rfl
 rw [e]
 cases hf:z.find? (fun x=>decide (x.1.1=n)) with
 | none =>
  left
  refine ⟨fun hn=>?_,rfl,rfl⟩
  rw [List.find?_eq_none] at hf
  rw [List.map_map] at hn
  obtain ⟨q,hq,e2⟩:=List.mem_map.mp hn
  exact hf q hq (decide_eq_true e2)
 | some q =>
  right
  have hq:=List.mem_of_find?_eq_some hf
  refine ⟨?_,q.2,rfl,ht q hq⟩
  rw [List.map_map]
  exact List.mem_map.mpr ⟨q,hq,by simpa using List.find?_some hf⟩
theorem HeldZ.put {K:PySem.W.Frag}{H:Hp}{p x:Addr}{l:Hl}{z:List ((Str×Int×Int)×Addr)}{n:Str}{q:Int×Int} (h:HeldZ K H p l z) (hx:FrAt K H x q) :
  ∃ z',HeldZ K (upd H p (.dK (putK (z.map fun q=>((Sum.inr q.1.1:Key),V.ref q.2)) (Sum.inr n) (.ref x)))) p (putH l n q) z':=by
 obtain ⟨rfl,hd,ht⟩:=h
 refine ⟨if (z.any fun y=>decide (y.1.1=n))=true then z.map (fun y=>if y.1.1=n then ((n,q),x) else y) else z++[((n,q),x)],?_,?_,?_⟩
 ·unfold putH
  rw [List.any_map]
  by_cases hb:(z.any fun y=>decide (y.1.1=n))=true
  ·rw [if_pos hb,if_pos (by exact hb),List.map_map,List.map_map]
   refine List.map_congr_left fun y _=>?_
   show (if y.1.1=n then ((n,q),x) else y).1=if y.1.1=n then (n,q) else y.1
   by_cases e:y.1.1=n
   ·rw [if_pos e,if_pos e]
   ·rw [if_neg e,if_neg e]
  ·rw [if_neg hb,if_neg (by exact hb),List.map_append]
   rfl
 ·rw [qae]
  unfold putK
  rw [List.any_map]
  have eb:((fun kv:Key×V=>decide (kv.1=Sum.inr n)) ∘ fun q:(Str×Int×Int)×Addr=>((Sum.inr q.1.1:Key),V.ref q.2))=fun y=>decide (y.1.1=n):=by
   funext y
   show decide ((Sum.inr y.1.1:Key)=Sum.inr n)=_
   rw [qmi]
  rw [eb]
  by_cases hb:(z.any fun y=>decide (y.1.1=n))=true
  ·rw [if_pos hb,if_pos hb,List.map_map,List.map_map]
   congr 2
   refine List.map_congr_left fun y _=>?_
   show (if (Sum.inr y.1.1:Key)=Sum.inr n then ((Sum.inr y.1.1:Key),V.ref x) else ((Sum.inr y.1.1:Key),V.ref y.2))=((Sum.inr (if y.1.1=n then ((n,q),x) else y).1.1:Key),V.ref (if y.1.1=n then ((n,q),x) else y).2)
   by_cases e:y.1.1=n
   ·rw [if_pos (by rw [e]),if_pos e,e]
   ·rw [if_neg (fun w=>e (Sum.inr.inj w)),if_neg e]
  ·rw [if_neg hb,if_neg hb,List.map_append]
   rfl
 ·intro y hy
  refine qos hd ?_
  by_cases hb:(z.any fun y=>decide (y.1.1=n))=true
  ·rw [if_pos hb] at hy
   obtain ⟨u,hu,rfl⟩:=List.mem_map.mp hy
   by_cases e:u.1.1=n
   ·rw [if_pos e];exact hx
   ·rw [if_neg e];exact ht u hu
  ·rw [if_neg hb] at hy
   rcases List.mem_append.mp hy with hy | hy
   ·exact ht y hy
   ·rw [List.mem_singleton.mp hy];exact hx
theorem HeldZ.drop {K:PySem.W.Frag}{H:Hp}{p:Addr}{l:Hl}{z:List ((Str×Int×Int)×Addr)}{n:Str} (h:HeldZ K H p l z) :
  ∃ z',HeldZ K (upd H p (.dK (qnr (z.map fun q=>((Sum.inr q.1.1:Key),V.ref q.2)) (Sum.inr n)))) p (qij l n) z':=by
 obtain ⟨rfl,hd,ht⟩:=h
 refine ⟨z.filter (fun y=>decide (y.1.1≠n)),?_,?_,fun y hy=>qos hd (ht y (List.mem_filter.mp hy).1)⟩
 ·unfold qij
  rw [List.filter_map]
  rfl
 ·rw [qae]
  unfold qnr
  rw [List.filter_map]
  have eb:((fun kv:Key×V=>decide (kv.1≠Sum.inr n)) ∘ fun q:(Str×Int×Int)×Addr=>((Sum.inr q.1.1:Key),V.ref q.2))=fun y=>decide (y.1.1≠n):=by
   funext y
   show decide ((Sum.inr y.1.1:Key)≠Sum.inr n)=_
   rw [Bool.eq_iff_iff,decide_eq_true_iff,decide_eq_true_iff]
   exact ⟨fun h w=>h (by rw [w]),fun h w=>h (Sum.inr.inj w)⟩
  rw [eb]
theorem qml (l:Hl) (n:Str):qb3 l n=(n,getQ l n):=by
 unfold getQ qb3
 cases h:l.find? fun q=>decide (q.1=n) with
 | none=>rfl
 | some q =>
  have:q.1=n:=by simpa using List.find?_some h
  show q=(n,q.2)
  rw [← this]
theorem qc8 (l:Hl) (n m:Str) (q:Int×Int):getQ (putH l n q) m=if m=n then q else getQ l m:=by
 unfold getQ qb3 putH
 by_cases hb:(l.any fun x=>decide (x.1=n))=true
 ·rw [if_pos hb]
  induction l with
  | nil=>cases hb
  | cons x r ih =>
   rw [List.map_cons,List.find?_cons,List.find?_cons]
   by_cases e:x.1=n
   ·rw [if_pos e]
    by_cases em:m=n
    ·subst em
     rw [if_pos rfl,decide_eq_true (show m=m from rfl)]
     rfl
    ·rw [if_neg em]
     have e1:decide ((n,q).1=m)=false:=decide_eq_false fun z=>em z.symm
     have e2:decide (x.1=m)=false:=decide_eq_false fun z=>em (z.symm.trans e)
     rw [e1,e2]
     by_cases hr:(r.any fun x=>decide (x.1=n))=true
     ·have:=ih hr
      rw [if_neg em] at this
      exact this
     ·have er:r.map (fun x=>if x.1=n then (n,q) else x)=r:=by
       conv=>rhs;rw [← List.map_id r]
       refine List.map_congr_left fun y hy=>if_neg fun z=>hr (List.any_eq_true.mpr ⟨y,hy,decide_eq_true z⟩)
      show (Option.getD ((r.map fun x=>if x.1=n then (n,q) else x).find? fun q=>decide (q.1=m)) (m,0,1)).2=_
      rw [er]
   ·rw [if_neg e]
    have hr:(r.any fun x=>decide (x.1=n))=true:=by
     rw [List.any_cons,decide_eq_false e,Bool.false_or] at hb
     exact hb
    by_cases em:x.1=m
    ·rw [decide_eq_true em]
     have:¬ m=n:=fun z=>e (em.trans z)
     rw [if_neg this]
    ·rw [decide_eq_false em]
     exact ih hr
 ·rw [if_neg hb,List.find?_append]
  by_cases em:m=n
  ·subst em
   rw [if_pos rfl]
   have:l.find? (fun q=>decide (q.1=m))=none:=by
    rw [List.find?_eq_none]
    intro x hx z
    exact hb (List.any_eq_true.mpr ⟨x,hx,z⟩)
   rw [this,Option.none_or,List.find?_cons,decide_eq_true (show (m,q).1=m from rfl)]
   rfl
  ·rw [if_neg em]
   have:[(n,q)].find? (fun q=>decide (q.1=m))=none:=by
    rw [List.find?_cons,decide_eq_false (show ¬ (n,q).1=m from fun z=>em z.symm)]
    rfl
   rw [this,Option.or_none]
theorem qmn (l:Hl) (n m:Str):getQ (qij l n) m=if m=n then (0,1) else getQ l m:=by
 unfold getQ qb3 qij
 rw [List.find?_filter]
 by_cases em:m=n
 ·subst em
  rw [if_pos rfl]
  have:l.find? (fun a=>decide (decide (a.1≠m)=true∧decide (a.1=m)=true))=none:=by
   rw [List.find?_eq_none]
   intro x hx z
   have z:=of_decide_eq_true z
   exact of_decide_eq_true z.1 (of_decide_eq_true z.2)
  rw [this]
  rfl
 ·rw [if_neg em]
  have:(fun a:Str×Int×Int=>decide (decide (a.1≠n)=true∧decide (a.1=m)=true))=fun a=>decide (a.1=m):=by
   funext x
   rw [Bool.eq_iff_iff]
   simp only [decide_eq_true_iff]
   exact ⟨fun h=>h.2,fun h=>⟨fun z=>em (h.symm.trans z),h⟩⟩
  rw [this]
theorem qbt (l:Hl) (n:Str) (q:Int×Int):(putH l n q).map (·.1)=if n∈l.map (·.1) then l.map (·.1) else l.map (·.1)++[n]:=by
 unfold putH
 by_cases hb:(l.any fun x=>decide (x.1=n))=true
 ·have:n∈l.map (·.1):=by
   obtain ⟨x,hx,e⟩:=List.any_eq_true.mp hb
   exact List.mem_map.mpr ⟨x,hx,of_decide_eq_true e⟩
  rw [if_pos hb,if_pos this,List.map_map]
  refine List.map_congr_left fun x _=>?_
  show (if x.1=n then (n,q) else x).1=x.1
  by_cases e:x.1=n
  ·rw [if_pos e,e]
  ·rw [if_neg e]
 ·have:¬ n∈l.map (·.1):=fun z=>by
   obtain ⟨x,hx,e⟩:=List.mem_map.mp z
   exact hb (List.any_eq_true.mpr ⟨x,hx,decide_eq_true e⟩)
  rw [if_neg hb,if_neg this,List.map_append]
  rfl
theorem qmb {l:Hl} (n:Str) (q:Int×Int) (h:(l.map (·.1)).Nodup):((putH l n q).map (·.1)).Nodup:=by
 rw [qbt]
 by_cases hn:n∈l.map (·.1)
 ·rw [if_pos hn];exact h
 ·rw [if_neg hn];exact qkv h hn
theorem qjj (l:Hl) (n:Str):(qij l n).map (·.1)=(l.map (·.1)).filter fun x=>decide (x≠n):=by
 unfold qij
 rw [List.filter_map]
 rfl
theorem nd_drop {l:Hl} (n:Str) (h:(l.map (·.1)).Nodup):((qij l n).map (·.1)).Nodup:=by
 rw [qjj]
 exact h.filter _
theorem qnm (l:Hl) (n:Str) (q:Int×Int):(putH l n q).length≤l.length+1:=by
 have:=congrArg List.length (qbt l n q)
 rw [List.length_map] at this
 rw [this]
 split
 ·rw [List.length_map];omega
 ·rw [List.length_append,List.length_map];exact Nat.le_refl _
theorem qoh (l:Hl) (n:Str):(qij l n).length≤l.length:=List.length_filter_le _ _
def sold (l:Hl) (o1 o2:Str) (q:Int×Int):Hl :=
 let r:=addR (getQ l o1) (-q.1,q.2)
 let l1:=if r=(0,1) then qij l o1 else putH l o1 r
 putH l1 o2 (addR (getQ l1 o2) q)
def qnl (l:Hl) (o1 o2:Str) (q:Int×Int):Hl :=
 let l1:=putH l o1 (addR (getQ l o1) (-q.1,q.2))
 putH l1 o2 (addR (getQ l1 o2) q)
end My
namespace My
open PySem L2 Fra
def setE {β:Type} (L:List (Ent×β)) (h:Str) (g:Ent→Ent):List (Ent×β):=L.map fun x=>if x.1.nm=h then (g x.1,x.2) else x
theorem qfu {β γ:Type}{L:List (Ent×β)}{h:Str}{g:Ent→Ent} (v:Ent×β→γ) (hv:∀ x,v (g x.1,x.2)=v x):(setE L h g).map v=L.map v:=by
 unfold setE
 rw [List.map_map]
 refine List.map_congr_left fun x _=>?_
 show v (if x.1.nm=h then (g x.1,x.2) else x)=v x
 by_cases e:x.1.nm=h
 ·rw [if_pos e,hv]
 ·rw [if_neg e]
theorem setE_mem {β:Type}{L:List (Ent×β)}{h:Str}{g:Ent→Ent}{y:Ent×β} (hy:y∈setE L h g):∃ x∈L,(x.1.nm=h∧y=(g x.1,x.2))∨(¬ x.1.nm=h∧y=x):=by
 unfold setE at hy
 obtain ⟨x,hx,rfl⟩:=List.mem_map.mp hy
 refine ⟨x,hx,?_⟩
 by_cases e:x.1.nm=h
 ·rw [if_pos e];exact .inl ⟨e,rfl⟩
 ·rw [if_neg e];exact .inr ⟨e,rfl⟩
theorem nd_key {α β:Type}{key:α→β}:∀ {l:List α}{x y:α},(l.map key).Nodup→x∈l→y∈l→key x=key y→x=y
 | [],_,_,_,hx,_,_=>by cases hx
 | z::r,x,y,h,hx,hy,e=>by
  obtain ⟨h1,h2⟩:=List.nodup_cons.mp h
  rcases List.mem_cons.mp hx with ex | hx'
  ·rcases List.mem_cons.mp hy with ey | hy'
   ·exact ex.trans ey.symm
   ·rw [ex] at e
    exact absurd (List.mem_map.mpr ⟨y,hy',e.symm⟩) h1
  ·rcases List.mem_cons.mp hy with ey | hy'
   ·rw [ey] at e
    exact absurd (List.mem_map.mpr ⟨x,hx',e⟩) h1
   ·exact nd_key h2 hx' hy' e
theorem qon {L:List (Ent×Addr)}{h:Str}{e:Ent×Addr} (he:qdm L h=some e):e.1.nm=h:=by
 unfold qdm at he
 simpa using List.find?_some he
theorem hFind_one {L:List (Ent×Addr)}{h:Str}{e x:Ent×Addr} (nd:(L.map (·.1.nm)).Nodup) (he:qdm L h=some e) (hx:x∈L) (hn:x.1.nm=h):x=e :=
 nd_key (key:=fun x:Ent×Addr=>x.1.nm) nd hx (qeo he) (hn.trans (qon he).symm)
theorem BookAt.reheld {K:PySem.W.Frag}{C:Addr}{H H':Hp}{b:Addr}{z:BA}{ppl:List Str}{L:List (Ent×Addr)}{h:Str}{e:Ent×Addr}{g:Ent→Ent} (B:BookAt K C H b z ppl L) (nd:(L.map (·.1.nm)).Nodup) (he:qdm L h=some e)
  (hg:∀ x,g x={ x with held:=(g x).held }) (hH:HeldAt K H' e.2 (g e.1).held) (kp:∀ c o,H c=some o→c≠e.2→H' c=some o):BookAt K C H' b z ppl (setE L h g):=by
 have hem:=qeo he
 have e2:e.2∈L.map (·.2):=List.mem_map.mpr ⟨e,hem,rfl⟩
 obtain ⟨n1,r1⟩:=List.nodup_cons.mp B.nd
 obtain ⟨n2,r2⟩:=List.nodup_cons.mp r1
 obtain ⟨n3,r3⟩:=List.nodup_cons.mp r2
 obtain ⟨n4,r4⟩:=List.nodup_cons.mp r3
 obtain ⟨n5,r5⟩:=List.nodup_cons.mp r4
 obtain ⟨n6,r6⟩:=List.nodup_cons.mp r5
 have g1:∀ x,(g x).nm=x.nm:=fun x=>by rw [hg x]
 have g2:∀ x,(g x).th=x.th:=fun x=>by rw [hg x]
 have g3:∀ x,(g x).mr=x.mr:=fun x=>by rw [hg x]
 have g4:∀ x,(g x).ls=x.ls:=fun x=>by rw [hg x]
 refine ⟨kp _ _ B.ob fun q=>n1 (q ▸ by simp only [List.mem_cons];right;right;right;right;right;exact e2),kp _ _ B.pp fun q=>n2 (q ▸ by simp only [List.mem_cons];right;right;right;right;exact e2),?_,?_,?_,?_,?_,?_,B.p6,by unfold setE;rw [List.length_map];exact B.h8⟩
 ·rw [qfu (v:=fun e=>((Sum.inr e.1.nm:Key),V.int e.1.th)) fun x=>by rw [g1,g2]]
  exact kp _ _ B.tt fun q=>n3 (q ▸ by simp only [List.mem_cons];right;right;right;exact e2)
 ·rw [qfu (v:=fun e=>((Sum.inr e.1.nm:Key),V.int e.1.mr)) fun x=>by rw [g1,g3]]
  exact kp _ _ B.mm fun q=>n4 (q ▸ by simp only [List.mem_cons];right;right;exact e2)
 ·rw [qfu (v:=fun e=>((Sum.inr e.1.nm:Key),V.int e.1.ls)) fun x=>by rw [g1,g4]]
  exact kp _ _ B.ll fun q=>n5 (q ▸ by simp only [List.mem_cons];right;exact e2)
 ·rw [qfu (v:=fun e=>((Sum.inr e.1.nm:Key),V.ref e.2)) fun x=>by rw [g1]]
  exact kp _ _ B.hh fun q=>n6 (q ▸ e2)
 ·intro y hy
  obtain ⟨x,hx,⟨hn,rfl⟩ | ⟨hn,rfl⟩⟩:=setE_mem hy
  ·rw [hFind_one nd he hx hn]
   exact hH
  ·have hy2:y.2≠e.2:=fun q=>hn (by rw [nd_key (key:=fun x:Ent×Addr=>x.2) r6 hx hem q];exact qon he)
   obtain ⟨kvs,hk⟩:∃ kvs,H e.2=some (.dK kvs):=by
    obtain ⟨ts,_,q,_⟩:=B.he e hem
    exact ⟨_,q⟩
   refine (B.he y hx).keep (fun o ho=>kp _ _ ho hy2) fun c o ho x=>kp c o ho fun q=>?_
   rw [q,hk] at ho
   cases ho
   rcases x with ⟨xs,z | ⟨ob,z⟩⟩ <;> cases z
 ·rw [qfu (v:=fun e=>e.2) fun x=>rfl]
  exact B.nd
section
variable {P:Program}{w:World}{K:PySem.W.Frag}{mg:Str→Option Value}{base:Heap}{a:Adr}{f:Addr}{fd:FuncData}
end
end My
namespace My
open PySem L2 Fra
theorem eqLs2 (i j:Int):eqLs [V.int i,V.int j] [V.int 0,V.int 1]=decide ((i,j)=((0:Int),(1:Int))):=by
 show (eqV (.int i) (.int 0) && (eqV (.int j) (.int 1) && true))=_
 have e1:∀ i j:Int,eqV (.int i) (.int j)=decide (i=j):=fun i j=>rfl
 rw [e1,e1,Bool.and_true,Bool.eq_iff_iff,Bool.and_eq_true,decide_eq_true_iff,decide_eq_true_iff,decide_eq_true_iff,Prod.mk.injEq]
theorem bt0 (k:Nat):Bt k 0:=Nat.two_pow_pos k
theorem bt1 {k:Nat} (h:k≠0):Bt k 1:=Nat.one_lt_two_pow h
theorem sz0:Sz (0,1):=⟨⟨by decide,(rfl:Int.gcd 0 1=1)⟩,bt0 _,bt1 (by decide)⟩
theorem HeldZ.same {K:PySem.W.Frag}{H H':Hp}{p:Addr}{l:Hl}{z:List ((Str×Int×Int)×Addr)} (h:HeldZ K H p l z) (s:Same H H'):HeldZ K H' p l z :=
 ⟨h.1,s _ _ h.2.1,fun q hq=>(h.2.2 q hq).same s⟩
theorem HeldZ.get {K:PySem.W.Frag}{H:Hp}{p:Addr}{l:Hl}{z:List ((Str×Int×Int)×Addr)} (h:HeldZ K H p l z) {o:Addr} (ho:FrAt K H o (0,1)) (n:Str) :
  ∃ x,(valV (z.map fun q=>((Sum.inr q.1.1:Key),V.ref q.2)) (Sum.inr n)).getD (.ref o)=.ref x∧FrAt K H x (getQ l n):=by
 rcases h.val n with ⟨_,hv,hg⟩ | ⟨_,x,hv,hx⟩
 ·exact ⟨o,by rw [hv];rfl,by rw [hg];exact ho⟩
 ·exact ⟨x,by rw [hv];rfl,hx⟩
def qds (l:Hl) (o:Str) (q:Int×Int):Prop:=¬ 0 < q.1∨q.1 * (getQ l o).2 > (getQ l o).1 * q.2
instance (l:Hl) (o:Str) (q:Int×Int):Decidable (qds l o q):=by unfold qds;infer_instance
section
variable {P:Program}{w:World}{K:PySem.W.Frag}{mg:Str→Option Value}{base:Heap}{a:Adr}{f:Addr}{fd:FuncData}
abbrev qcu:Stmt:=qde (top 30) 8
theorem sc_Book_sale:FnScope ["self","house","one","other","share","held","rest"] ["self","house","one","other","share"] (qac qcu):=⟨rfl,rfl,rfl,by decide +kernel,rfl,by decide +kernel,by decide +kernel⟩
structure SaleOk (l:Hl) (o1:Str) (q:Int×Int):Prop where
 len:l.length < 1000
 sz:∀ n,Sz (getQ l n)
 rs:¬ qds l o1 q→Sz (addR (getQ l o1) (-q.1,q.2))
def qm9 (K:PySem.W.Frag) (a:Adr):Sp:=fun vs H Q E=>∃ b z ppl L h o1 o2 sp q,vs=[.ref b,.str h,.str o1,.str o2,.ref sp]∧BookAt K a.Book H b z ppl L∧(L.map (·.1.nm)).Nodup∧Nm h∧Nm o1∧Nm o2∧FrAt K H sp q∧Sz q ∧
 (∀ e,qdm L h=some e→SaleOk e.1.held o1 q) ∧
 (hasH L h=false→E (.ref a.NoHouse) none H) ∧
 (hasH L h=true→(hasP ppl o1 || hasH L o1)=false→E (.ref a.NoHolder) none H) ∧
 (hasH L h=true→(hasP ppl o1 || hasH L o1)=true→(hasP ppl o2 || hasH L o2)=false→E (.ref a.NoHolder) none H) ∧
 (∀ e,qdm L h=some e→(hasP ppl o1 || hasH L o1)=true→(hasP ppl o2 || hasH L o2)=true→qds e.1.held o1 q→E (.ref a.NoShare) none H) ∧
 (∀ e,qdm L h=some e→(hasP ppl o1 || hasH L o1)=true→(hasP ppl o2 || hasH L o2)=true→¬ qds e.1.held o1 q→∀ H',BookAt K a.Book H' b z ppl (setE L h fun x=>{ x with held:=sold x.held o1 o2 q })→(∀ c o,H c=some o→c≠e.2→H' c=some o)→Q .non H')
theorem ok_sale (F:Fun K "sale" "Book.sale" qcu f fd) (T:Txt K mg a) (M_need_house:Mt P w K mg base a.Book "need_house" 2 ["self","name"] (qcl K a)) (M_need_holder:Mt P w K mg base a.Book "need_holder" 3 ["self","name"] (qb2 K a))
  (F_is_above:Fn P w K mg base "is_above" 1 ["first","second"] (qhe K)) (F_minus:Fn P w K mg base "minus" 3 ["first","second"] (qj8 K)) (F_plus:Fn P w K mg base "plus" 2 ["first","second"] (qgj K)) :
  FnOk P w K mg base (CXo P w) 4 f fd ["self","house","one","other","share"] (qm9 K a):=by
 refine F.okX sc_Book_sale (fun vs H Q E h=>?_) (fun cdv A outer s H vs Q E hr h=>?_)
 ·obtain ⟨b,z,ppl,L,h,o1,o2,sp,q,rfl,_⟩:=h
  rfl
 ·obtain ⟨b,z,ppl,L,h,o1,o2,sp,q,rfl,B,nd,nh,n1,n2,hq,sq,hok,k1,k2,k3,k4,k5⟩:=h
  have hu:=qar hr
  refine ⟨_,(@qaq _ _ _ _ _ (@qdt _ _ _ _ (qg8 (pv 0) M_need_house (hr.mono (by first | decide | omega)) qb0 (@qam _ _ _ _ _ (pv 1) pa_nil (by rfl))) (by rfl)) (@qaq _ _ _ _ _ (@qdt _ _ _ _ (qg8 (pv 0) M_need_holder (hr.mono (by first | decide | omega)) qb0 (@qam _ _ _ _ _ (pv 2) pa_nil (by rfl))) (by rfl)) (@qaq _ _ _ _ _ (@qdt _ _ _ _ (qg8 (pv 0) M_need_holder (hr.mono (by first | decide | omega)) qb0 (@qam _ _ _ _ _ (pv 3) pa_nil (by rfl))) (by rfl)) (@qaq _ _ _ _ _ (@qe5 _ _ (5) _ _ _ _ sc_Book_sale.nd rfl (Or.inl rfl) (@qkl _ _ _ _ _ _ hu (qef (pv 0) rfl) (pv 1) (fun _ _=>rfl)) (by rfl) (by first | exact .inl rfl | exact .inr rfl | assumption)) (@qaq _ _ _ _ _ (@qix _ _ _ _ _ _ _ _ (PW.pt (pw_or (qlv (qh0 (@qiy _ _ _ _ _ _ _ _ _ _ _ F_is_above (hr.mono (by first | decide | omega)) rfl qb0 (@qam _ _ _ _ _ (pv 4) (@qam _ _ _ _ _ (qd8 rfl T.g_ZERO T.r_ZERO) pa_nil (by rfl)) (by rfl)) (by decide) (by rfl) (by rfl)))) (pw_or1 (qh0 (@qiy _ _ _ _ _ _ _ _ _ _ _ F_is_above (hr.mono (by first | decide | omega)) rfl qb0 (@qam _ _ _ _ _ (pv 4) (@qam _ _ _ _ _ (@qkk _ _ _ _ _ _ _ _ _ hu (pv 5) (pv 2) (qd8 rfl T.g_ZERO T.r_ZERO) ⟨rfl,rfl,rfl,rfl⟩) pa_nil (by rfl)) (by rfl)) (by decide) (by rfl) (by rfl)))))) (@qas _ _ _ (qdo T.x_NoShare rfl T.c_NoShare rfl (pe_fs (qje (pv 2) (qlx (qje (pv 1) qly)))) qmf)) pss_nil) (@qaq _ _ _ _ _ (@qe5 _ _ (6) _ _ _ _ sc_Book_sale.nd rfl (Or.inl rfl) (@qiy _ _ _ _ _ _ _ _ _ _ _ F_minus (hr.mono (by first | decide | omega)) rfl qb0 (@qam _ _ _ _ _ (@qkl _ _ _ _ _ _ hu (pv 5) (pv 2) (fun _ _=>rfl)) (@qam _ _ _ _ _ (pv 4) pa_nil (by rfl)) (by rfl)) (by decide) (by rfl) (by rfl)) (by rfl) (by first | exact .inl rfl | exact .inr rfl | assumption)) (@qaq _ _ _ _ _ (@qix _ _ _ _ _ _ _ _ (@qgo _ _ _ _ _ _ _ _ (op_eqT (Nat.lt_of_succ_lt hu)) (pv 6) (qd8 rfl T.g_ZERO T.r_ZERO) (qci _)) (@qas _ _ _ (@qdt _ _ _ _ (pe_dpop1 (pv 5) (pv 2) ⟨rfl,rfl,rfl,rfl⟩) (by rfl))) (@qas _ _ _ (qfg hu (pv 5) (pv 2) (pv 6) rfl))) (@qas _ _ _ (qfg hu (pv 5) (pv 3) (@qiy _ _ _ _ _ _ _ _ _ _ _ F_plus (hr.mono (by first | decide | omega)) rfl qb0 (@qam _ _ _ _ _ (@qkk _ _ _ _ _ _ _ _ _ hu (pv 5) (pv 3) (qd8 rfl T.g_ZERO T.r_ZERO) ⟨rfl,rfl,rfl,rfl⟩) (@qam _ _ _ _ _ (pv 4) pa_nil (by rfl)) (by rfl)) (by decide) (by rfl) (by rfl)) rfl))))))))),?_⟩
  have bn:∀ {m:Str},¬ m="people"→¬ m="things_of"→¬ m="mark_of"→¬ m="loss_of"→¬ m="held_of"→(bf z).lookup m=none:=fun a b c d e=>qgu z a b c d e
  refine ⟨_,rfl,b,_,_,rfl,B.ob,qgu z (by decide +kernel) (by decide +kernel) (by decide +kernel) (by decide +kernel) (by decide +kernel),_,rfl,b,z,ppl,L,h,rfl,B,nh,fun hh=>?_,fun hh=>k1 hh⟩
  refine ⟨_,rfl,b,_,_,rfl,B.ob,qgu z (by decide +kernel) (by decide +kernel) (by decide +kernel) (by decide +kernel) (by decide +kernel),_,rfl,b,z,ppl,L,o1,rfl,B,n1,fun h1=>?_,fun h1=>k2 hh h1⟩
  refine ⟨_,rfl,b,_,_,rfl,B.ob,qgu z (by decide +kernel) (by decide +kernel) (by decide +kernel) (by decide +kernel) (by decide +kernel),_,rfl,b,z,ppl,L,o2,rfl,B,n2,fun h2=>?_,fun h2=>k3 hh h1 h2⟩
  cases he:qdm L h with
  | none=>unfold hasH at hh;unfold qdm at he;rw [he] at hh;cases hh
  | some e =>
  have hem:=qeo he
  have ok:=hok e he
  obtain ⟨zz,Z⟩:=(B.he e hem).toZ
  have hval:=DGet.k (k:=Sum.inr h) B.hh
  rw [val_of _ he] at hval
  have zeroFr:∀ H,FrAt K H a.ZERO (0,1):=fun H=>.inr T.zero
  refine ⟨_,rfl,b,_,_,_,_,rfl,B.ob,T.cl,T.nA_held_of,qgv z,_,rfl,_,_,rfl,hval,?_⟩
  refine ⟨_,rfl,sp,a.ZERO,q,(0,1),rfl,hq,zeroFr H,sq,sz0,_,rfl,ite2 (fun h3=>?_) (fun h3=>?_)⟩
  ·have h3:=of_decide_eq_false (nbT h3)
   exact iteT ⟨_,rfl,⟨o1,rfl,n1⟩,_,rfl,⟨h,rfl,nh⟩,fun y=>k4 e he h1 h2 (.inl (by simp only at h3;omega))⟩
  have q0:0 < q.1:=by have:=of_decide_eq_true (nbF h3);simp only at this;omega
  obtain ⟨x0,hx0,fx0⟩:=Z.get (zeroFr H) o1
  refine ⟨_,rfl,_,rfl,e.2,rfl,.inl ⟨_,.inl Z.2.1⟩,_,rfl,_,DGet.k (k:=Sum.inr o1) Z.2.1,?_⟩
  rw [hx0]
  refine ⟨sp,x0,q,_,rfl,hq,fx0,sq,ok.sz o1,_,rfl,ite2 (fun h4=>?_) (fun h4=>?_)⟩
  ·have h4:=of_decide_eq_true h4
   exact ⟨_,rfl,⟨o1,rfl,n1⟩,_,rfl,⟨h,rfl,nh⟩,fun y=>k4 e he h1 h2 (.inr h4)⟩
  have h4:¬ q.1 * (getQ e.1.held o1).2 > (getQ e.1.held o1).1 * q.2:=fun z=>h4 (decide_eq_true z)
  have ntm:¬ qds e.1.held o1 q:=fun z=>z.elim (fun y=>y q0) h4
  rcases Z.val o1 with ⟨_,_,hg⟩ | ⟨hn,x,hv,hx⟩
  ·exfalso
   rw [hg] at h4
   simp only at h4
   omega
  have hget:DGet H e.2 (.str o1) (some (.ref x)):=by
   have:=DGet.k (k:=Sum.inr o1) Z.2.1
   rw [hv] at this
   exact this
  refine ⟨_,rfl,_,rfl,e.2,_,rfl,hget,_,rfl,x,sp,_,_,rfl,hx,hq,ok.sz o1,sq,fun r H1 hr0 s1 hr1=>?_⟩
  have Z1:=Z.same s1
  have fin:∀ H2 l1 z2,HeldZ K H2 e.2 l1 z2→sold e.1.held o1 o2 q=putH l1 o2 (addR (getQ l1 o2) q)→(∀ c o,H c=some o→c≠e.2→H2 c=some o)→Sz (getQ l1 o2)→l1.length≤e.1.held.length→FrAt K H2 sp q →
    sDPut (tVar 5) (tVar 3) (tCall (qgj K) [] E (tCons (tDGet2 (tVar 5) (tVar 3) (tC (V.ref a.ZERO))) (tCons (tVar 4) tNil))) { nx:=fun x H'=>Q V.non H',rt:=Q } [some (V.ref b),some (V.str h),some (V.str o1),some (V.str o2),some (V.ref sp),some (V.ref e.2),some (V.ref r)] H2:=by
   intro H2 l1 z2 Z2 es kp szl len fq
   obtain ⟨y,hy,fy⟩:=Z2.get (zeroFr H2) o2
   refine ⟨_,rfl,e.2,rfl,.inl ⟨_,.inl Z2.2.1⟩,_,rfl,_,DGet.k (k:=Sum.inr o2) Z2.2.1,?_⟩
   rw [hy]
   refine ⟨_,rfl,y,sp,_,_,rfl,fy,fq,szl,sq,fun t ht=>?_⟩
   have st:=qew (o:=.tup [.int (addR (getQ l1 o2) q).1,.int (addR (getQ l1 o2) q).2]) ht
   have Z3:=Z2.same st
   refine ⟨_,rfl,_,rfl,e.2,_,rfl,DPut.k (k:=Sum.inr o2) Z3.2.1 ?_,?_⟩
   ·rw [List.length_map,← List.length_map (f:=(·.1)),Z2.1]
    exact Nat.lt_of_le_of_lt len (Nat.lt_trans ok.len (by decide))
   ·obtain ⟨z4,Z4⟩:=Z3.put (n:=o2) (x:=t) (q:=addR (getQ l1 o2) q) (SqT.of qae)
    have kp':∀ c o,H c=some o→c≠e.2→(upd (upd H2 t (.tup [.int (addR (getQ l1 o2) q).1,.int (addR (getQ l1 o2) q).2])) e.2 (.dK (putK (z2.map fun q=>((Sum.inr q.1.1:Key),V.ref q.2)) (Sum.inr o2) (.ref t)))) c=some o:=fun c o hc hn=>by
     rw [qad hn]
     exact st c o (kp c o hc hn)
    refine k5 e he h1 h2 ntm _ (B.reheld nd he (fun x=>rfl) ?_ kp') kp'
    show HeldAt K _ e.2 (sold e.1.held o1 o2 q)
    rw [es]
    exact Z4.held
  refine ⟨_,rfl,r,a.ZERO,_,_,rfl,rfl,SqT.of hr1,.inr T.zero,rfl,rfl,rfl,_,rfl,ite2 (fun h5=>?_) (fun h5=>?_)⟩
  ·rw [eqLs2] at h5
   have h5:addR (getQ e.1.held o1) (-q.1,q.2)=(0,1):=of_decide_eq_true h5
   refine ⟨_,rfl,e.2,rfl,.inl ⟨_,.inl Z1.2.1⟩,_,rfl,_,Sum.inr o1,.ref x,Z1.2.1,rfl,hv,?_⟩
   obtain ⟨z2,Z2⟩:=Z1.drop (n:=o1)
   refine fin _ _ z2 Z2 ?_ (fun c o hc hn=>by rw [qad hn];exact s1 c o hc) ?_ (qoh _ _) (qos Z1.2.1 (hq.same s1))
   ·unfold sold
    simp only [h5,if_true]
   ·rw [qmn]
    by_cases e2:o2=o1
    ·rw [if_pos e2];exact sz0
    ·rw [if_neg e2];exact ok.sz o2
  ·rw [eqLs2] at h5
   have h5:¬ addR (getQ e.1.held o1) (-q.1,q.2)=(0,1):=fun z=>h5 (decide_eq_true z)
   refine ⟨_,rfl,_,rfl,_,rfl,e.2,_,rfl,DPut.k (k:=Sum.inr o1) Z1.2.1 ?_,?_⟩
   ·rw [List.length_map,← List.length_map (f:=(·.1)),Z.1]
    exact Nat.lt_trans ok.len (by decide)
   ·obtain ⟨z2,Z2⟩:=Z1.put (n:=o1) (x:=r) (q:=addR (getQ e.1.held o1) (-q.1,q.2)) (SqT.of hr1)
    refine fin _ _ z2 Z2 ?_ (fun c o hc hn=>by rw [qad hn];exact s1 c o hc) ?_ ?_ (qos Z1.2.1 (hq.same s1))
    ·unfold sold
     simp only [h5,if_false]
    ·rw [qc8]
     by_cases e2:o2=o1
     ·rw [if_pos e2];exact ok.rs ntm
     ·rw [if_neg e2];exact ok.sz o2
    ·have:=congrArg List.length (qbt e.1.held o1 (addR (getQ e.1.held o1) (-q.1,q.2)))
     rw [if_pos hn,List.length_map,List.length_map] at this
     exact Nat.le_of_eq this
end
end My
namespace My
open PySem L2 Fra
def qeb (L:List Ent) (n:Str):Option Ent:=L.find? fun e=>decide (e.nm=n)
def qea (L:List Ent) (n:Str):Bool:=(qeb L n).isSome
def setEE (L:List Ent) (h:Str) (g:Ent→Ent):List Ent:=L.map fun x=>if x.nm=h then g x else x
theorem qmm (L:List (Ent×Addr)) (n:Str):(qdm L n).map (·.1)=qeb (L.map (·.1)) n:=by
 unfold qdm qeb
 rw [List.find?_map];rfl
theorem qc0 (L:List (Ent×Addr)) (n:Str):hasH L n=qea (L.map (·.1)) n:=by
 unfold qea;rw [← qmm];unfold hasH qdm;rw [Option.isSome_map]
theorem setE_fst (L:List (Ent×Addr)) (h:Str) (g:Ent→Ent):(setE L h g).map (·.1)=setEE (L.map (·.1)) h g:=by
 unfold setE setEE
 rw [List.map_map,List.map_map]
 refine List.map_congr_left fun x _=>?_
 show (if x.1.nm=h then (g x.1,x.2) else x).1=if x.1.nm=h then g x.1 else x.1
 split <;> rfl
def qem (a:Adr) (pp:List Str) (L:List Ent) (x:Str):Option Addr:=if isNm x=false then some a.NoName else if (hasP pp x || qea L x)=true then some a.Twice else none
def qgp (a:Adr) (pp:List Str) (L:List Ent) (x:Str):Option Addr:=match qem a pp L x with
 | some c=>some c
 | none=>if 6≤pp.length then some a.TooMany else none
def qgr (a:Adr) (pp:List Str) (L:List Ent) (x o:Str) (l:Int):Option Addr:=match qem a pp L x with
 | some c=>some c
 | none=>if (hasP pp o || qea L o)=false then some a.NoHolder else if l < 0 then some a.NoLoss else if 8≤L.length then some a.TooMany else none
theorem qji (a:Adr) (pp:List Str) (L:List (Ent×Addr)) (x:Str):qen a pp L x=qem a pp (L.map (·.1)) x:=by unfold qen qem;rw [qc0]
theorem qjf (a:Adr) (pp:List Str) (L:List (Ent×Addr)) (x:Str):qgz a pp L x=qgp a pp (L.map (·.1)) x:=by unfold qgz qgp;rw [qji];try (cases qem a pp (L.map (·.1)) x <;> rfl)
theorem qjn (a:Adr) (pp:List Str) (L:List (Ent×Addr)) (x o:Str) (l:Int):qe7 a pp L x o l=qgr a pp (L.map (·.1)) x o l:=by unfold qe7 qgr;rw [qji,qc0,List.length_map];try (cases qem a pp (L.map (·.1)) x <;> rfl)
noncomputable instance (x:Str):Decidable (Nm x):=Classical.propDecidable _
def qc5 (vs:List PV) (s:Sto) (k:Nat→List Str→List Ent→List PV→Out PV):Out PV:=match vs with
 | .ref n::r=>match s.get n with
  | some (.book pp L)=>k n pp L r
  | _=>.bad
 | _=>.bad
noncomputable def qe3 (a:Adr) (vs:List PV) (s:Sto):Out PV:=qc5 vs s fun n pp L r=>match r with
 | [.str x]=>if Nm x then (match qgp a pp L x with
  | none=>.ok .non (s.set n (.book (pp++[x]) L))
  | some c=>.ex c s) else .bad
 | _=>.bad
noncomputable def qgx (a:Adr) (vs:List PV) (s:Sto):Out PV:=qc5 vs s fun n pp L r=>match r with
 | [.str x,.str o,.int t,.int m,.int l]=>if Nm x∧Nm o then (match qgr a pp L x o l with
  | none=>.ok .non (s.set n (.book pp (L++[⟨x,t,m,l,[(o,1,1)]⟩])))
  | some c=>.ex c s) else .bad
 | _=>.bad
def qe4 (_:Adr) (vs:List PV) (s:Sto):Out PV:=qc5 vs s fun _ _ L r=>match r with
 | []=>.ok (.lst ((srt (L.map (·.nm))).map .str)) s
 | _=>.bad
def frP (q:Int×Int):PV:=.tup [.int q.1,.int q.2]
def pairP (q:Str×Int×Int):PV:=.tup [.str q.1,frP q.2]
def qna (l:List (Str×Int×Int)):PV:=.lst ((srt (l.map (·.1))).map fun n=>pairP (qb3 l n))
noncomputable def qee (a:Adr) (vs:List PV) (s:Sto):Out PV:=qc5 vs s fun _ _ L r=>match r with
 | [.str x]=>if Nm x then (match qeb L x with
  | none=>.ex a.NoHouse s
  | some e=>if e.held.length < 64 then .ok (qna e.held) s else .bad) else .bad
 | _=>.bad
def qj2 (_:Adr) (vs:List PV) (s:Sto):Out PV:=qc5 vs s fun _ _ L r=>match r with
 | [.str x]=>.ok (.bl (qea L x)) s
 | _=>.bad
noncomputable def qg4 (a:Adr) (vs:List PV) (s:Sto):Out PV:=qc5 vs s fun _ _ L r=>match r with
 | [.str x]=>if Nm x then (if qea L x=true then .ok .non s else .ex a.NoHouse s) else .bad
 | _=>.bad
noncomputable def qb1 (a:Adr) (vs:List PV) (s:Sto):Out PV:=qc5 vs s fun _ pp L r=>match r with
 | [.str x]=>if Nm x then (if (hasP pp x || qea L x)=true then .ok .non s else .ex a.NoHolder s) else .bad
 | _=>.bad
structure SaleE (L:List Ent) (h o1 o2:Str) (q:Int×Int):Prop where
 nd:(L.map (·.nm)).Nodup
 nm:Nm h∧Nm o1∧Nm o2
 sz:Sz q
 ok:∀ e,qeb L h=some e→SaleOk e.held o1 q
noncomputable instance (L:List Ent) (h o1 o2:Str) (q:Int×Int):Decidable (SaleE L h o1 o2 q):=Classical.propDecidable _
noncomputable def qj1 (a:Adr) (vs:List PV) (s:Sto):Out PV:=qc5 vs s fun n pp L r=>match r with
 | [.str h,.str o1,.str o2,.tup [.int t,.int b]]=>if SaleE L h o1 o2 (t,b) then (match qeb L h with
  | none=>.ex a.NoHouse s
  | some e=>if (hasP pp o1 || qea L o1)=false then .ex a.NoHolder s else if (hasP pp o2 || qea L o2)=false then .ex a.NoHolder s
   else if qds e.held o1 (t,b) then .ex a.NoShare s else .ok .non (s.set n (.book pp (setEE L h fun x=>{ x with held:=sold x.held o1 o2 (t,b) })))) else .bad
 | _=>.bad
section
variable {K:PySem.W.Frag}{H:Hp}{m:Mp}{s:Sto}{a:Adr}
theorem putB {CB:Addr} (S:SR K CB H m s) {n:Nat}{pp pp':List Str}{L:List Ent}{L' L2:List (Ent×Addr)}{z:BA}{H':Hp} (hg:s.get n=some (.book pp L)) (eF:m.fp n=BFp (m.ad n) z L') (B':BookAt K CB H' (m.ad n) z pp' L2)
  (k:∀ a o,H a=some o→a∉BFp (m.ad n) z L'→H' a=some o) (hnew:∀ a∈BFp (m.ad n) z L2,a∈BFp (m.ad n) z L'∨H a=none) :
  SR K CB H' (m.fput n (BFp (m.ad n) z L2)) (s.set n (.book pp' (L2.map (·.1))))∧Ext H m s H' (m.fput n (BFp (m.ad n) z L2)) (s.set n (.book pp' (L2.map (·.1)))) :=
 S.put hg (by intro _ z;cases z) H' _ (by rw [eF];exact k) (by rw [eF];exact hnew) fun _=>⟨z,L2,B',rfl,by show (if n=n then _ else _)=_;rw [if_pos rfl];rfl⟩
theorem onB {CB:Addr} (S:SR K CB H m s) {xs:List V}{vs:List PV}{k:Nat→List Str→List Ent→List PV→Out PV}{E:XK}{Q:VK} (r:Reps K H m s xs vs) (P:Post K CB (Rep K) E (qc5 vs s k) H m s Q) :
  ∃ n pp L z L' us ys,s.get n=some (.book pp L)∧BookAt K CB H (m.ad n) z pp L'∧L'.map (·.1)=L∧m.fp n=BFp (m.ad n) z L'∧xs=.ref (m.ad n)::us∧Reps K H m s us ys∧Post K CB (Rep K) E (k n pp L ys) H m s Q:=by
 unfold qc5 at P
 split at P
 ·rename_i n r'
  split at P
  ·rename_i pp L hg
   obtain ⟨z,L',B,e1,e2⟩:=S.get hg
   cases r with
   | cons r1 r2 =>
    cases r1
    exact ⟨n,pp,L,z,L',_,_,hg,B,e1,e2,rfl,r2,P⟩
  ·exact P.elim
 ·exact P.elim
theorem held_in {L:List (Ent×Addr)}{b:Addr}{z:BA}{e:Ent×Addr} (h:e∈L):e.2∈BFp b z L:=by
 unfold BFp
 simp only [List.mem_cons]
 right;right;right;right;right;right
 exact List.mem_map.mpr ⟨e,h,rfl⟩
theorem setE_snd (L:List (Ent×Addr)) (h:Str) (g:Ent→Ent):(setE L h g).map (·.2)=L.map (·.2):=by
 unfold setE
 rw [List.map_map]
 refine List.map_congr_left fun x _=>?_
 show (if x.1.nm=h then (g x.1,x.2) else x).2=x.2
 split <;> rfl
theorem setE_fp (b:Addr) (z:BA) (L:List (Ent×Addr)) (h:Str) (g:Ent→Ent):BFp b z (setE L h g)=BFp b z L:=by unfold BFp;rw [setE_snd]
theorem qh1 {us:List V}{x:Str} (r:Reps K H m s us [.str x]):us=[.str x]:=by
 cases r with
 | cons a b=>cases a;cases b;rfl
theorem spd_person (vs:List V) (H:Hp) (Q:VK) (E:XK) (h:spD K a.Book 2 (qe3 a) vs H Q E):qhy K a vs H Q E:=by
 obtain ⟨_,ps,s,m,r,S,P⟩:=h
 obtain ⟨n,pp,L,z,L',us,ys,hg,B,e1,e2,rfl,r',P⟩:=onB S r P
 split at P
 ·split at P
  ·rename_i x hx
   cases qh1 r'
   refine ⟨_,z,pp,L',x,rfl,B,hx,fun hd H' B' k=>?_,fun c hd H' k=>?_⟩
   ·rw [qjf,e1] at hd
    rw [hd] at P
    obtain ⟨S2,x2⟩:=putB S hg e2 B' (fun c o h hc=>k c o h fun z=>hc (by rw [z];simp [BFp])) (fun c hc=>.inl hc)
    rw [e1] at S2 x2
    exact P _ _ _ x2 S2 .non
   ·rw [qjf,e1] at hd
    rw [hd] at P
    exact P _ m (.same k) (S.same k)
  ·exact P.elim
 ·exact P.elim
theorem spd_house (vs:List V) (H:Hp) (Q:VK) (E:XK) (h:spD K a.Book 6 (qgx a) vs H Q E):qj9 K a vs H Q E:=by
 obtain ⟨_,ps,s,m,r,S,P⟩:=h
 obtain ⟨n,pp,L,z,L',us,ys,hg,B,e1,e2,rfl,r',P⟩:=onB S r P
 split at P
 ·split at P
  ·rename_i x o t mm l hx
   cases r' with
   | cons q1 r'=>cases r' with
    | cons q2 r'=>cases r' with
     | cons q3 r'=>cases r' with
      | cons q4 r'=>cases r' with
       | cons q5 r' =>
        cases r';cases q1;cases q2;cases q3;cases q4;cases q5
        refine ⟨_,z,pp,L',x,o,t,mm,l,rfl,B,hx.1,hx.2,fun hd p H' hp B' k=>?_,fun c hd H' k=>?_⟩
        ·rw [qjn,e1] at hd
         rw [hd] at P
         obtain ⟨S2,x2⟩:=putB S hg e2 B' (fun c o h hc=>k c o h fun z=>hc (by unfold BFp;simp only [List.mem_cons,List.not_mem_nil,or_false] at z ⊢;rcases z with z | z | z | z <;> simp [z])) (fun c hc=>by
          unfold BFp at hc ⊢
          rw [List.map_append] at hc
          simp only [List.mem_cons,List.mem_append,List.map_cons,List.map_nil,List.not_mem_nil,or_false] at hc ⊢
          rcases hc with h | h | h | h | h | h | h | h
          ·exact .inl (.inl h)
          ·exact .inl (.inr (.inl h))
          ·exact .inl (.inr (.inr (.inl h)))
          ·exact .inl (.inr (.inr (.inr (.inl h))))
          ·exact .inl (.inr (.inr (.inr (.inr (.inl h)))))
          ·exact .inl (.inr (.inr (.inr (.inr (.inr (.inl h))))))
          ·exact .inl (.inr (.inr (.inr (.inr (.inr (.inr h))))))
          ·rw [h];exact .inr hp)
         rw [List.map_append,e1] at S2 x2
         exact P _ _ _ x2 S2 .non
        ·rw [qjn,e1] at hd
         rw [hd] at P
         exact P _ m (.same k) (S.same k)
  ·exact P.elim
 ·exact P.elim
theorem spd_houses (vs:List V) (H:Hp) (Q:VK) (E:XK) (h:spD K a.Book 1 (qe4 a) vs H Q E):qhz K a.Book vs H Q E:=by
 obtain ⟨_,ps,s,m,r,S,P⟩:=h
 obtain ⟨n,pp,L,z,L',us,ys,hg,B,e1,e2,rfl,r',P⟩:=onB S r P
 split at P
 ·cases r'
  refine ⟨_,z,pp,L',rfl,B,fun l hl=>P.new S hl fun ex S'=>.lst qae (S.pure_none hl) ?_⟩
  rw [← e1,List.map_map]
  exact .ofStrs _
 ·exact P.elim
theorem qjr {L':List (Ent×Addr)}{L:List Ent}{x:Str} (e:L'.map (·.1)=L):(∀ q,qdm L' x=some q→qeb L x=some q.1)∧(qdm L' x=none→qeb L x=none):=by
 have:=qmm L' x
 rw [e] at this
 refine ⟨fun q h=>?_,fun h=>?_⟩ <;> (rw [h] at this;exact this.symm)
theorem ql1:∀ {l:List (Str×Int×Int)}{vs:List V}{m:Mp}{s:Sto}{CB:Addr}{H:Hp},SR K CB H m s→Paired (PairAt K H) l vs→Reps K H m s vs (l.map pairP)
 | _,_,_,_,_,_,_,.nil=>.nil
 | _,_,m,s,CB,H,S,.cons r t=>by
  obtain ⟨p,q,rfl,h1,h2⟩:=r
  have tp:∀ {c:Addr}{xs:List V},SqT K H c xs→(Rd H c (.tup xs)∧Pur m s c∨KT' K c xs):=fun h=>h.elim (fun z=>.inl ⟨z,z.elim (fun z=>S.pure_tup z) fun ⟨_,z⟩=>S.pure_frz (.inl z)⟩) .inr
  exact .cons (.tup (tp h1) (.cons .str (.cons (.tup (tp h2) (.cons .int (.cons .int .nil))) .nil))) (ql1 S t)
theorem spd_shares (vs:List V) (H:Hp) (Q:VK) (E:XK) (h:spD K a.Book 2 (qee a) vs H Q E):qhx K a vs H Q E:=by
 obtain ⟨_,ps,s,m,r,S,P⟩:=h
 obtain ⟨n,pp,L,z,L',us,ys,hg,B,e1,e2,rfl,r',P⟩:=onB S r P
 split at P
 ·split at P
  ·rename_i x hx
   cases qh1 r'
   obtain ⟨f1,f2⟩:=qjr (x:=x) e1
   refine ⟨_,z,pp,L',x,rfl,B,hx,fun e he=>?_,fun he=>?_⟩
   ·rw [f1 e he] at P
    dsimp only at P
    split at P
    ·rename_i h64
     refine ⟨h64,fun l ys' H' hl k h' pr=>?_⟩
     have S':=S.same k
     refine P _ H' m (.same k) S' (.lst h' ?_ ?_)
     ·have:=S.pure_none hl;exact this
     ·have:=ql1 (m:=m) (s:=s) S' pr
      rw [List.map_map] at this
      exact this
    ·exact P.elim
   ·rw [f2 he] at P
    exact P H m .refl S
  ·exact P.elim
 ·exact P.elim
theorem qlm (vs:List V) (H:Hp) (Q:VK) (E:XK) (h:spD K a.Book 2 (qj2 a) vs H Q E):qda K a.Book vs H Q E:=by
 obtain ⟨_,ps,s,m,r,S,P⟩:=h
 obtain ⟨n,pp,L,z,L',us,ys,hg,B,e1,e2,rfl,r',P⟩:=onB S r P
 split at P
 ·rename_i x
  cases qh1 r'
  refine ⟨_,z,pp,L',x,rfl,B,?_⟩
  rw [qc0,e1]
  exact P.here S .bl
 ·exact P.elim
theorem qit (vs:List V) (H:Hp) (Q:VK) (E:XK) (h:spD K a.Book 2 (qg4 a) vs H Q E):qcl K a vs H Q E:=by
 obtain ⟨_,ps,s,m,r,S,P⟩:=h
 obtain ⟨n,pp,L,z,L',us,ys,hg,B,e1,e2,rfl,r',P⟩:=onB S r P
 split at P
 ·split at P
  ·rename_i x hx
   cases qh1 r'
   refine ⟨_,z,pp,L',x,rfl,B,hx,fun h=>?_,fun h=>?_⟩
   ·rw [qc0,e1] at h;rw [if_pos h] at P;exact P.here S .non
   ·rw [qc0,e1] at h;rw [if_neg (by rw [h];decide)] at P;exact P H m .refl S
  ·exact P.elim
 ·exact P.elim
theorem qhw (vs:List V) (H:Hp) (Q:VK) (E:XK) (h:spD K a.Book 2 (qb1 a) vs H Q E):qb2 K a vs H Q E:=by
 obtain ⟨_,ps,s,m,r,S,P⟩:=h
 obtain ⟨n,pp,L,z,L',us,ys,hg,B,e1,e2,rfl,r',P⟩:=onB S r P
 split at P
 ·split at P
  ·rename_i x hx
   cases qh1 r'
   refine ⟨_,z,pp,L',x,rfl,B,hx,fun h=>?_,fun h=>?_⟩
   ·rw [qc0,e1] at h;rw [if_pos h] at P;exact P.here S .non
   ·rw [qc0,e1] at h;rw [if_neg (by rw [h];decide)] at P;exact P H m .refl S
  ·exact P.elim
 ·exact P.elim
theorem spd_sale (vs:List V) (H:Hp) (Q:VK) (E:XK) (h:spD K a.Book 5 (qj1 a) vs H Q E):qm9 K a vs H Q E:=by
 obtain ⟨_,ps,s,m,r,S,P⟩:=h
 obtain ⟨n,pp,L,z,L',us,ys,hg,B,e1,e2,rfl,r',P⟩:=onB S r P
 split at P
 ·split at P
  ·rename_i h o1 o2 t b hs
   cases r' with
   | cons q1 r'=>cases r' with
    | cons q2 r'=>cases r' with
     | cons q3 r'=>cases r' with
      | cons q4 r' =>
       cases r';cases q1;cases q2;cases q3
       obtain ⟨p,ws,rfl,ht,rw'⟩:=q4.tp
       cases rw' with
       | cons w1 w2=>cases w2 with
        | cons w2 w3 =>
         cases w3;cases w1;cases w2
         obtain ⟨f1,f2⟩:=qjr (x:=h) e1
         have hh:hasH L' h=(qeb L h).isSome:=by rw [qc0,e1];rfl
         have h1:(hasP pp o1 || hasH L' o1)=(hasP pp o1 || qea L o1):=by rw [qc0,e1]
         have h2:(hasP pp o2 || hasH L' o2)=(hasP pp o2 || qea L o2):=by rw [qc0,e1]
         refine ⟨_,z,pp,L',h,o1,o2,p,(t,b),rfl,B,by rw [show L'.map (fun x=>x.1.nm)=L.map (·.nm) by rw [← e1,List.map_map];rfl];exact hs.nd,hs.nm.1,hs.nm.2.1,hs.nm.2.2,ht,hs.sz,fun e he=>hs.ok _ (f1 e he),fun q=>?_,fun q g1=>?_,fun q g1 g2=>?_,fun e he g1 g2 g3=>?_,fun e he g1 g2 g3 H' B' k=>?_⟩
         ·rw [hh] at q
          cases c:qeb L h with
          | none=>rw [c] at P;exact P H m .refl S
          | some e=>rw [c] at q;cases q
         ·rw [hh] at q
          cases c:qeb L h with
          | none=>rw [c] at q;cases q
          | some e=>rw [c] at P;dsimp only at P;rw [if_pos (by rw [← h1];exact g1)] at P;exact P H m .refl S
         ·rw [hh] at q
          cases c:qeb L h with
          | none=>rw [c] at q;cases q
          | some e=>rw [c] at P;dsimp only at P;rw [if_neg (by rw [← h1,g1];decide),if_pos (by rw [← h2];exact g2)] at P;exact P H m .refl S
         ·rw [f1 e he] at P
          dsimp only at P
          rw [if_neg (by rw [← h1,g1];decide),if_neg (by rw [← h2,g2];decide),if_pos g3] at P
          exact P H m .refl S
         ·rw [f1 e he] at P
          dsimp only at P
          rw [if_neg (by rw [← h1,g1];decide),if_neg (by rw [← h2,g2];decide),if_neg g3] at P
          obtain ⟨S2,x2⟩:=putB S hg e2 B' (fun c o hc hn=>k c o hc fun z=>hn (by rw [z];exact held_in (qeo he))) (fun c hc=>.inl (by rw [setE_fp] at hc;exact hc))
          rw [setE_fst,e1] at S2 x2
          exact P _ _ _ x2 S2 .non
  ·exact P.elim
 ·exact P.elim
theorem Mt.imp {P:Program}{w:World}{mg:Str→Option Value}{base:Heap}{C:Addr}{mm:Str}{k:Nat}{ps:List Str}{sp sp':Sp} (M:Mt P w K mg base C mm k ps sp) (h:∀ vs H Q E,sp' vs H Q E→sp vs H Q E):Mt P w K mg base C mm k ps sp' :=
 let ⟨f,fd,F,b⟩:=M;⟨f,fd,F.imp h,b⟩
theorem Fn.imp {P:Program}{w:World}{mg:Str→Option Value}{base:Heap}{x:Str}{k:Nat}{ps:List Str}{sp sp':Sp} (M:Fn P w K mg base x k ps sp) (h:∀ vs H Q E,sp' vs H Q E→sp vs H Q E):Fn P w K mg base x k ps sp' :=
 let ⟨f,fd,F,b⟩:=M;⟨f,fd,F.imp h,b⟩
noncomputable instance (q:Int×Int):Decidable (Sz q):=Classical.propDecidable _
noncomputable def qis (_:Adr) (vs:List PV) (s:Sto):Out PV:=match vs with
 | [.tup [.int t,.int b],.tup [.int t',.int b']]=>if Sz (t,b)∧Sz (t',b') then .ok (frP (addR (t,b) (t',b'))) s else .bad
 | _=>.bad
noncomputable def qcz (_:Adr) (vs:List PV) (s:Sto):Out PV:=match vs with
 | [.tup [.int t,.int b],.tup [.int t',.int b']]=>if Sz (t,b)∧Sz (t',b') then .ok (.bl (decide (t * b' > t' * b))) s else .bad
 | _=>.bad
theorem fr_of {x:V}{t b:Int} (r:Rep K H m s x (.tup [.int t,.int b])):∃ p,x=.ref p∧FrAt K H p (t,b):=by
 obtain ⟨p,ws,rfl,ht,rw'⟩:=r.tp
 cases rw' with
 | cons w1 w2=>cases w2 with
  | cons w2 w3=>cases w3;cases w1;cases w2;exact ⟨p,rfl,ht⟩
theorem spd_plus (vs:List V) (H:Hp) (Q:VK) (E:XK) (h:spD K a.Book 2 (qis a) vs H Q E):qgj K vs H Q E:=by
 obtain ⟨_,ps,s,m,r,S,P⟩:=h
 unfold qis at P
 split at P
 ·split at P
  ·rename_i hz
   cases r with
   | cons r1 r=>cases r with
    | cons r2 r =>
     cases r
     obtain ⟨p1,rfl,h1⟩:=fr_of r1
     obtain ⟨p2,rfl,h2⟩:=fr_of r2
     exact ⟨p1,p2,_,_,rfl,h1,h2,hz.1,hz.2,fun x hx=>P.new S hx fun ex S'=>.tup (.inl ⟨.inl qae,S'.pure_tup qae⟩) (.cons .int (.cons .int .nil))⟩
  ·exact P.elim
 ·exact P.elim
theorem spd_above (vs:List V) (H:Hp) (Q:VK) (E:XK) (h:spD K a.Book 2 (qcz a) vs H Q E):qhe K vs H Q E:=by
 obtain ⟨_,ps,s,m,r,S,P⟩:=h
 unfold qcz at P
 split at P
 ·split at P
  ·rename_i hz
   cases r with
   | cons r1 r=>cases r with
    | cons r2 r =>
     cases r
     obtain ⟨p1,rfl,h1⟩:=fr_of r1
     obtain ⟨p2,rfl,h2⟩:=fr_of r2
     exact ⟨p1,p2,_,_,rfl,h1,h2,hz.1,hz.2,P.here S .bl⟩
  ·exact P.elim
 ·exact P.elim
theorem noF (m:Str) (h1:¬ m="people") (h2:¬ m="things_of") (h3:¬ m="mark_of") (h4:¬ m="loss_of") (h5:¬ m="held_of") (z:BA):(bf z).lookup m=none:=qgu z h1 h2 h3 h4 h5
theorem no_person (z:BA):(bf z).lookup ("person":Str)=none:=noF "person" (by decide +kernel) (by decide +kernel) (by decide +kernel) (by decide +kernel) (by decide +kernel) z
theorem no_house (z:BA):(bf z).lookup ("house":Str)=none:=noF "house" (by decide +kernel) (by decide +kernel) (by decide +kernel) (by decide +kernel) (by decide +kernel) z
theorem no_sale (z:BA):(bf z).lookup ("sale":Str)=none:=noF "sale" (by decide +kernel) (by decide +kernel) (by decide +kernel) (by decide +kernel) (by decide +kernel) z
theorem no_houses (z:BA):(bf z).lookup ("houses":Str)=none:=noF "houses" (by decide +kernel) (by decide +kernel) (by decide +kernel) (by decide +kernel) (by decide +kernel) z
theorem no_shares (z:BA):(bf z).lookup ("shares":Str)=none:=noF "shares" (by decide +kernel) (by decide +kernel) (by decide +kernel) (by decide +kernel) (by decide +kernel) z
theorem qi3 (z:BA):(bf z).lookup ("need_holder":Str)=none:=noF "need_holder" (by decide +kernel) (by decide +kernel) (by decide +kernel) (by decide +kernel) (by decide +kernel) z
end
end My
namespace My
open PySem L2 Fra
def Sm (x:Str):Prop:=x.length≤9∧∀ c∈x.cps.toList,c < 128
theorem Sm.nm {x:Str} (h:Sm x):Nm x:=⟨Nat.le_trans h.1 (by decide),fun c hc=>Nat.lt_trans (h.2 c hc) (by decide)⟩
theorem qhl (x y:Str):(x++y).cps.toList=x.cps.toList++y.cps.toList:=PyProof.Rows.cps_toList_append x y
theorem qoj:∀ (ys:List Str),(∀ y∈ys,y.length≤1∧∀ c∈y.cps.toList,(97≤c∧c≤122))→(Str.join (Str.ofString "") ys).length≤ys.length∧∀ c∈(Str.join (Str.ofString "") ys).cps.toList,(97≤c∧c≤122)
 | [],_=>⟨Nat.le_refl _,fun c hc=>by cases hc⟩
 | [x],h=>⟨(h x (by simp)).1,(h x (by simp)).2⟩
 | x::y::r,h=>by
  obtain ⟨i1,i2⟩:=qoj (y::r) fun z hz=>h z (List.mem_cons_of_mem _ hz)
  obtain ⟨j1,j2⟩:=h x List.mem_cons_self
  have e:Str.join (Str.ofString "") (x::y::r)=x++Str.ofString ""++Str.join (Str.ofString "") (y::r):=rfl
  rw [e]
  refine ⟨?_,fun c hc=>?_⟩
  ·rw [qfm,qfm]
   have:(Str.ofString "").length=0:=rfl
   rw [List.length_cons]
   omega
  ·rw [qhl,qhl] at hc
   rcases List.mem_append.mp hc with hc | hc
   ·rcases List.mem_append.mp hc with hc | hc
    ·exact j2 c hc
    ·cases hc
   ·exact i2 c hc
theorem glue_few {ys:List Str} (h:∀ y∈ys,y.length≤1∧∀ c∈y.cps.toList,(97≤c∧c≤122)):(Txt.join (Str.ofString "") ys).length≤ys.length∧∀ c∈(Txt.join (Str.ofString "") ys).cps.toList,(97≤c∧c≤122):=by
 have e:Txt.join (Str.ofString "") ys=Str.join (Str.ofString "") ys:=StrLaws.glued_eq_join _ _
 rw [e]
 exact qoj ys h
theorem letters:∀ j,j < 26→(Str.ofString "abcdefghijklmnopqrstuvwxyz").cps.toList[j]?=some (97+j):=by decide +kernel
theorem letter {i:Int} (h0:0≤i) (h1:i < 26):atI (Str.ofString "abcdefghijklmnopqrstuvwxyz").cps.toList i=some (97+i.toNat):=by
 have e:i=(i.toNat:Int):=by omega
 have:=qbe (letters i.toNat (by omega))
 rw [← e] at this
 exact this
theorem sum_ones {ys:List Str} (h:∀ y∈ys,y.length≤1):(ys.map (·.length)).sum≤ys.length:=by
 induction ys with
 | nil=>exact Nat.le_refl _
 | cons y r ih =>
  have:=ih fun z hz=>h z (List.mem_cons_of_mem _ hz)
  have:=h y List.mem_cons_self
  simp only [List.map_cons,List.sum_cons,List.length_cons]
  omega
def Wd (r:Int) (j:Nat) (w:Str):Prop:=Sm w∧isNm w=true∧w.cps.toList.head?=some (97+((r+7 * (0+(j:Int))) % 26).toNat)
structure FrB (k:Nat) (v:Int) (q:Int×Int):Prop where
 low:Low q
 nn:0≤q.1
 le:q.1≤v * q.2
 bb:Bt k q.2
theorem red_dvd {q:Int×Int} (h:0 < q.2):(red q).2 ∣ q.2:=by
 obtain ⟨v,hv⟩:(Int.gcd q.1 q.2:Int) ∣ q.2:=Int.gcd_dvd_right ..
 have hg:0 < Int.gcd q.1 q.2:=Int.gcd_pos_of_ne_zero_right _ (by omega)
 refine ⟨(Int.gcd q.1 q.2:Int),?_⟩
 unfold red
 simp only
 rw [Int.ediv_mul_cancel (Int.gcd_dvd_right ..)]
theorem qhm {p q:Int×Int} (hp:0 < p.2) (hq:0 < q.2):(addR p q).1 * (p.2 * q.2)=(p.1 * q.2+q.1 * p.2) * (addR p q).2:=(qgn (q:=(p.1 * q.2+q.1 * p.2,p.2 * q.2)) (Int.mul_pos hp hq)).2
theorem qnx {k l:Nat}{p q:Int×Int} (hp:0 < p.2) (hq:0 < q.2) (bp:Bt k p.2) (bq:Bt l q.2):Bt (k+l) (addR p q).2 :=
 (bp.mul bq).dvd (Int.ne_of_gt (Int.mul_pos hp hq)) (red_dvd (q:=(p.1 * q.2+q.1 * p.2,p.2 * q.2)) (Int.mul_pos hp hq))
theorem qf1 {a b d:Int} (hd:0 < d) (h:a * d≤b * d):a≤b:=Int.le_of_mul_le_mul_right h hd
theorem qm8 {k:Nat}{v:Int}{g q:Int×Int} (hg:FrB k v g) (hq:Low q) (q0:0 < q.1) (h:q.1 * g.2≤g.1 * q.2) (bq:Bt 94 q.2):FrB (k+94) v (addR g (-q.1,q.2)):=by
 have g0:=hg.low.1
 have p0:=hq.1
 have lq:Low (-q.1,q.2):=⟨hq.1,by have:=hq.2;unfold Cop Int.gcd at *;simp only [Int.natAbs_neg];exact this⟩
 have lo:=qhn hg.low lq
 have D0:0 < g.2 * q.2:=Int.mul_pos g0 p0
 have ev:=qhm (p:=g) (q:=(-q.1,q.2)) g0 p0
 simp only at ev
 generalize hr:addR g (-q.1,q.2)=r at *
 have r0:=lo.1
 refine ⟨lo,?_,?_,?_⟩
 ·refine qf1 D0 ?_
  rw [ev,Int.zero_mul]
  refine Int.mul_nonneg ?_ (Int.le_of_lt r0)
  rw [Int.neg_mul];omega
 ·refine qf1 D0 ?_
  rw [ev]
  have h1:g.1 * q.2+-q.1 * g.2≤v * g.2 * q.2:=by
   have a1:g.1 * q.2≤v * g.2 * q.2:=Int.mul_le_mul_of_nonneg_right hg.le (Int.le_of_lt p0)
   have a2:0≤q.1 * g.2:=Int.mul_nonneg (Int.le_of_lt q0) (Int.le_of_lt g0)
   rw [Int.neg_mul];omega
  have h2:=Int.mul_le_mul_of_nonneg_right h1 (Int.le_of_lt r0)
  have e:v * g.2 * q.2 * r.2=v * r.2 * (g.2 * q.2):=by simp only [Int.mul_assoc,Int.mul_left_comm,Int.mul_comm]
  rw [← e]
  exact h2
 ·rw [← hr]
  exact qnx g0 p0 hg.bb bq
theorem add_frb {k:Nat}{v:Int}{g q:Int×Int} (hg:FrB k v g) (hq:Low q) (q0:0 < q.1) (h:q.1≤v * q.2) (bq:Bt 94 q.2):FrB (k+94) (2 * v) (addR g q)∧0 < (addR g q).1:=by
 have g0:=hg.low.1
 have p0:=hq.1
 have lo:=qhn hg.low hq
 have D0:0 < g.2 * q.2:=Int.mul_pos g0 p0
 have ev:=qhm (p:=g) (q:=q) g0 p0
 have bt:=qnx (p:=g) (q:=q) g0 p0 hg.bb bq
 generalize hr:addR g q=r at *
 have r0:=lo.1
 have pos:0 < r.1:=by
  have a1:0≤g.1 * q.2:=Int.mul_nonneg hg.nn (Int.le_of_lt p0)
  have a2:0 < q.1 * g.2:=Int.mul_pos q0 g0
  have a3:0 < (g.1 * q.2+q.1 * g.2) * r.2:=Int.mul_pos (by omega) r0
  rw [← ev] at a3
  by_cases z:0 < r.1
  ·exact z
  ·have:=Int.mul_nonpos_of_nonpos_of_nonneg (show r.1≤0 by omega) (Int.le_of_lt D0)
   omega
 refine ⟨⟨lo,Int.le_of_lt pos,?_,bt⟩,pos⟩
 refine qf1 D0 ?_
 rw [ev]
 have h1:g.1 * q.2+q.1 * g.2≤2 * v * g.2 * q.2:=by
  have a1:g.1 * q.2≤v * g.2 * q.2:=Int.mul_le_mul_of_nonneg_right hg.le (Int.le_of_lt p0)
  have a2:q.1 * g.2≤v * q.2 * g.2:=Int.mul_le_mul_of_nonneg_right h (Int.le_of_lt g0)
  have e1:v * q.2 * g.2=v * g.2 * q.2:=Int.mul_right_comm ..
  have e2:2 * v * g.2 * q.2=2 * (v * g.2 * q.2):=by rw [Int.mul_assoc 2,Int.mul_assoc 2]
  rw [e2]
  omega
 have h2:=Int.mul_le_mul_of_nonneg_right h1 (Int.le_of_lt r0)
 have e:2 * v * g.2 * q.2 * r.2=2 * v * r.2 * (g.2 * q.2):=by simp only [Int.mul_assoc,Int.mul_left_comm,Int.mul_comm]
 rw [← e]
 exact h2
theorem part_le {k:Nat}{v:Int}{g q:Int×Int} (hg:FrB k v g) (hq:Low q) (h:q.1 * g.2≤g.1 * q.2):q.1≤v * q.2:=by
 refine qf1 hg.low.1 (Int.le_trans h ?_)
 have:=Int.mul_le_mul_of_nonneg_right hg.le (Int.le_of_lt hq.1)
 rw [Int.mul_right_comm]
 exact this
def FrC (c:Nat) (q:Int×Int):Prop:=FrB (192 * c+2) (2 ^ c:Nat) q
theorem FrC.top {c:Nat}{q:Int×Int} (h:FrC c q):Bt (193 * c+2) q.1:=by
 have h1:=h.le
 have h0:=h.nn
 have hb:Bt (c+1) ((2 ^ c:Nat):Int):=by
  unfold Bt
  rw [Int.natAbs_natCast,Nat.pow_succ]
  have:=Nat.two_pow_pos c
  omega
 have h2:q.1.natAbs≤(((2 ^ c:Nat):Int) * q.2).natAbs:=by omega
 unfold Bt
 refine Nat.lt_of_le_of_lt h2 ?_
 rw [Int.natAbs_mul,Int.natAbs_natCast]
 have hb2:q.2.natAbs < 2 ^ (192 * c+2):=h.bb
 have:2 ^ c * q.2.natAbs < 2 ^ c * 2 ^ (192 * c+2):=Nat.mul_lt_mul_of_pos_left hb2 (Nat.two_pow_pos c)
 rw [← Nat.pow_add] at this
 have e:c+(192 * c+2)=193 * c+2:=by omega
 rw [e] at this
 exact this
theorem FrC.sz {c:Nat}{q:Int×Int} (h:FrC c q) (hc:c≤45):Sz q:=⟨h.low,h.top.mono (by omega),h.bb.mono (by omega)⟩
theorem FrC.mono {c d:Nat}{q:Int×Int} (h:FrC c q) (hc:c≤d):FrC d q:=by
 refine ⟨h.low,h.nn,Int.le_trans h.le ?_,h.bb.mono (by omega)⟩
 refine Int.mul_le_mul_of_nonneg_right ?_ (Int.le_of_lt h.low.1)
 exact Int.ofNat_le.mpr (Nat.pow_le_pow_right (by decide) hc)
theorem frc0 (c:Nat):FrC c (0,1):=⟨⟨by decide,(rfl:Int.gcd 0 1=1)⟩,Int.le_refl _,by rw [Int.mul_one];exact Int.natCast_nonneg _,bt1 (by omega)⟩
theorem frc1 (c:Nat):FrC c (1,1):=⟨⟨by decide,(rfl:Int.gcd 1 1=1)⟩,by decide,by rw [Int.mul_one];exact Int.ofNat_le.mpr (Nat.two_pow_pos c),bt1 (by omega)⟩
structure ShOk (q:Int×Int):Prop where
 low:Low q
 bt:Bt 200 q.1
 bb:Bt 94 q.2
theorem ShOk.sz {q:Int×Int} (h:ShOk q):Sz q:=⟨h.low,h.bt.mono (by decide),h.bb.mono (by decide)⟩
theorem getQ_no {l:Hl}{n:Str} (h:n∉l.map (·.1)):getQ l n=(0,1):=by
 unfold getQ qb3
 have:l.find? (fun q=>decide (q.1=n))=none:=by
  rw [List.find?_eq_none]
  intro x hx z
  exact h (List.mem_map.mpr ⟨x,hx,of_decide_eq_true z⟩)
 rw [this]
 rfl
structure HR (c:Nat) (hl hm:Hl):Prop where
 q:∀ n,getQ hl n=getQ hm n
 nm:∀ n,n∈hl.map (·.1) ↔ 0 < (getQ hl n).1
 n1:(hl.map (·.1)).Nodup
 n2:(hm.map (·.1)).Nodup
 l1:hl.length≤c+1
 l2:hm.length≤c+1
 fr:∀ n,FrC c (getQ hl n)
 ex:∃ n,0 < (getQ hl n).1
 sm:∀ n∈hm.map (·.1),Sm n
theorem HR.mono {c d:Nat}{hl hm:Hl} (h:HR c hl hm) (hc:c≤d):HR d hl hm:=⟨h.q,h.nm,h.n1,h.n2,Nat.le_trans h.l1 (by omega),Nat.le_trans h.l2 (by omega),fun n=>(h.fr n).mono hc,h.ex,h.sm⟩
theorem hr_one (c:Nat) {o:Str} (ho:Sm o):HR c [(o,1,1)] [(o,1,1)]:=by
 have g:∀ n,getQ [(o,1,1)] n=if n=o then (1,1) else (0,1):=fun n=>by
  unfold getQ qb3
  rw [List.find?_cons]
  by_cases e:o=n
  ·rw [show decide ((o,((1:Int),(1:Int))).1=n)=true from decide_eq_true e,if_pos e.symm];rfl
  ·rw [show decide ((o,((1:Int),(1:Int))).1=n)=false from decide_eq_false e,if_neg fun z=>e z.symm];rfl
 refine ⟨fun _=>rfl,fun n=>?_,by simp,by simp,by simp,by simp,fun n=>?_,⟨o,by rw [g,if_pos rfl];decide⟩,fun n hn=>by rw [List.mem_singleton.mp hn];exact ho⟩
 ·rw [g]
  by_cases e:n=o
  ·rw [if_pos e];simp [e]
  ·rw [if_neg e];simp [e]
 ·rw [g]
  by_cases e:n=o
  ·rw [if_pos e];exact frc1 c
  ·rw [if_neg e];exact frc0 c
theorem HR.had {c:Nat}{hl hm:Hl} (h:HR c hl hm) {n:Str} (h0:0 < (getQ hm n).1):n∈hm.map (·.1):=by
 by_cases z:n∈hm.map (·.1)
 ·exact z
 ·rw [getQ_no z] at h0
  exact absurd h0 (by decide)
theorem low_zero {q:Int×Int} (h:Low q) (h0:q.1=0):q=(0,1):=by
 obtain ⟨t,b⟩:=q
 obtain ⟨h1,h2⟩:=h
 simp only at h0 h1 h2
 subst h0
 have e:b=1:=by
  have:Int.gcd 0 b=1:=h2
  rw [Int.gcd_zero_left] at this
  omega
 rw [e]
theorem HR.sale {c:Nat}{hl hm:Hl} (h:HR c hl hm) {o1 o2:Str}{q:Int×Int} (hq:ShOk q) (so:Sm o2) (nt:¬ qds hl o1 q):HR (c+1) (sold hl o1 o2 q) (qnl hm o1 o2 q):=by
 have q0:0 < q.1:=by by_cases z:0 < q.1;exact z;exact absurd (.inl z) nt
 have hle:q.1 * (getQ hl o1).2≤(getQ hl o1).1 * q.2:=by
  by_cases z:q.1 * (getQ hl o1).2 > (getQ hl o1).1 * q.2
  ·exact absurd (.inr z) nt
  ·omega
 have R:=qm8 (h.fr o1) hq.low q0 hle hq.bb
 have qv:=part_le (h.fr o1) hq.low hle
 have o1in:o1∈hl.map (·.1):=by
  rw [h.nm]
  by_cases z:0 < (getQ hl o1).1
  ·exact z
  ·have a1:(getQ hl o1).1 * q.2≤0:=Int.mul_nonpos_of_nonpos_of_nonneg (by omega) (Int.le_of_lt hq.low.1)
   have a2:0 < q.1 * (getQ hl o1).2:=Int.mul_pos q0 (h.fr o1).low.1
   omega
 have o1im:o1∈hm.map (·.1):=h.had (by rw [← h.q];exact (h.nm o1).mp o1in)
 generalize hr:addR (getQ hl o1) (-q.1,q.2)=r at *
 have key:∃ l1 m1:Hl,sold hl o1 o2 q=putH l1 o2 (addR (getQ l1 o2) q)∧qnl hm o1 o2 q=putH m1 o2 (addR (getQ m1 o2) q)∧(∀ n,getQ l1 n=getQ m1 n)∧(∀ n,n∈l1.map (·.1) ↔ 0 < (getQ l1 n).1)∧(l1.map (·.1)).Nodup∧(m1.map (·.1)).Nodup∧l1.length≤c+1∧m1.length≤c+1∧(∀ n,FrB (192 * c+2+94) (2 ^ c:Nat) (getQ l1 n))∧∀ n∈m1.map (·.1),Sm n:=by
  have gm:∀ n,getQ (putH hm o1 r) n=if n=o1 then r else getQ hl n:=fun n=>by rw [qc8,h.q]
  have lm:(putH hm o1 r).length≤c+1:=by
   have:=congrArg List.length (qbt hm o1 r)
   rw [if_pos o1im,List.length_map,List.length_map] at this
   rw [this];exact h.l2
  have fr1:∀ n,FrB (192 * c+2+94) (2 ^ c:Nat) (if n=o1 then r else getQ hl n):=fun n=>by
   by_cases e:n=o1
   ·rw [if_pos e];exact R
   ·rw [if_neg e];exact ⟨(h.fr n).low,(h.fr n).nn,(h.fr n).le,(h.fr n).bb.mono (by omega)⟩
  have em:qnl hm o1 o2 q=putH (putH hm o1 r) o2 (addR (getQ (putH hm o1 r) o2) q):=by
   unfold qnl
   simp only [← h.q o1,hr]
  have smm:∀ n∈(putH hm o1 r).map (·.1),Sm n:=fun n hn=>by
   rw [qbt,if_pos o1im] at hn
   exact h.sm n hn
  by_cases rz:r=(0,1)
  ·have gl:∀ n,getQ (qij hl o1) n=if n=o1 then r else getQ hl n:=fun n=>by rw [qmn,rz]
   refine ⟨qij hl o1,putH hm o1 r,?_,em,fun n=>by rw [gl,gm],fun n=>?_,nd_drop _ h.n1,qmb _ _ h.n2,Nat.le_trans (qoh _ _) h.l1,lm,fun n=>by rw [gl];exact fr1 n,smm⟩
   ·unfold sold
    simp only [hr,rz,if_true]
   ·rw [qjj,List.mem_filter,gl,h.nm,decide_eq_true_iff]
    by_cases e:n=o1
    ·rw [if_pos e,rz]
     exact ⟨fun z=>absurd e z.2,fun z=>absurd z (by decide)⟩
    ·rw [if_neg e]
     exact ⟨fun z=>z.1,fun z=>⟨z,e⟩⟩
  ·have gl:∀ n,getQ (putH hl o1 r) n=if n=o1 then r else getQ hl n:=fun n=>qc8 ..
   have rp:0 < r.1:=by
    have:=R.nn
    by_cases z:r.1=0
    ·exact absurd (low_zero R.low z) rz
    ·omega
   refine ⟨putH hl o1 r,putH hm o1 r,?_,em,fun n=>by rw [gl,gm],fun n=>?_,qmb _ _ h.n1,qmb _ _ h.n2,?_,lm,fun n=>by rw [gl];exact fr1 n,smm⟩
   ·unfold sold
    simp only [hr,rz,if_false]
   ·rw [qbt,if_pos o1in,gl,h.nm]
    by_cases e:n=o1
    ·rw [if_pos e]
     exact ⟨fun _=>rp,fun _=>by rw [e];exact (h.nm o1).mp o1in⟩
    ·rw [if_neg e]
   ·have:=congrArg List.length (qbt hl o1 r)
    rw [if_pos o1in,List.length_map,List.length_map] at this
    rw [this];exact h.l1
 obtain ⟨l1,m1,es,em,gq,nm1,nd1,nd2,len1,len2,fr1,sm1⟩:=key
 obtain ⟨U,up⟩:=add_frb (fr1 o2) hq.low q0 qv hq.bb
 have ev:(2 * ((2 ^ c:Nat):Int))=((2 ^ (c+1):Nat):Int):=by rw [Nat.pow_succ,Int.natCast_mul,Int.mul_comm];rfl
 rw [es,em]
 refine ⟨fun n=>?_,fun n=>?_,qmb _ _ nd1,qmb _ _ nd2,Nat.le_trans (qnm _ _ _) (by omega),Nat.le_trans (qnm _ _ _) (by omega),fun n=>?_,⟨o2,by rw [qc8,if_pos rfl];exact up⟩,fun n hn=>?_⟩
 ·rw [qc8,qc8,gq,gq]
 ·rw [qc8,qbt]
  by_cases e:n=o2
  ·rw [if_pos e]
   refine ⟨fun _=>up,fun _=>?_⟩
   rw [e]
   by_cases z:o2∈l1.map (·.1)
   ·rw [if_pos z];exact z
   ·rw [if_neg z];exact List.mem_append_right _ (List.mem_singleton.mpr rfl)
  ·rw [if_neg e,← nm1]
   by_cases z:o2∈l1.map (·.1)
   ·rw [if_pos z]
   ·rw [if_neg z,List.mem_append]
    exact ⟨fun y=>y.elim id fun y=>absurd (List.mem_singleton.mp y) e,fun y=>.inl y⟩
 ·rw [qc8]
  by_cases e:n=o2
  ·rw [if_pos e]
   unfold FrC
   rw [← ev]
   exact ⟨U.low,U.nn,U.le,U.bb.mono (by omega)⟩
  ·rw [if_neg e]
   have:=fr1 n
   refine ⟨this.low,this.nn,Int.le_trans this.le ?_,this.bb.mono (by omega)⟩
   exact Int.mul_le_mul_of_nonneg_right (Int.ofNat_le.mpr (Nat.pow_le_pow_right (by decide) (by omega))) (Int.le_of_lt this.low.1)
 ·rw [qbt] at hn
  by_cases z:o2∈m1.map (·.1)
  ·rw [if_pos z] at hn;exact sm1 n hn
  ·rw [if_neg z] at hn
   rcases List.mem_append.mp hn with y | y
   ·exact sm1 n y
   ·rw [List.mem_singleton.mp y];exact so
theorem HR.saleOk {c:Nat}{hl hm:Hl} (h:HR c hl hm) (hc:c≤44) {o1:Str}{q:Int×Int} (hq:ShOk q):SaleOk hl o1 q:=by
 refine ⟨Nat.lt_of_le_of_lt h.l1 (by omega),fun n=>(h.fr n).sz (by omega),fun nt=>?_⟩
 have q0:0 < q.1:=by by_cases z:0 < q.1;exact z;exact absurd (.inl z) nt
 have hle:q.1 * (getQ hl o1).2≤(getQ hl o1).1 * q.2:=by
  by_cases z:q.1 * (getQ hl o1).2 > (getQ hl o1).1 * q.2
  ·exact absurd (.inr z) nt
  ·omega
 have R:=qm8 (h.fr o1) hq.low q0 hle hq.bb
 refine FrC.sz (c:=c+1) ⟨R.low,R.nn,Int.le_trans R.le ?_,R.bb.mono (by omega)⟩ (by omega)
 exact Int.mul_le_mul_of_nonneg_right (Int.ofNat_le.mpr (Nat.pow_le_pow_right (by decide) (by omega))) (Int.le_of_lt R.low.1)
end My
namespace My
open PySem L2 Fra
section
variable {P:Program}{w:World}{K:PySem.W.Frag}{mg:Str→Option Value}{base:Heap}{a:Adr}{f:Addr}{fd:FuncData}
abbrev qcr:Stmt:=top 33
theorem sc__law_take:FnScope ["_law_purse_here","_law_many","_law_at","_law_found"] ["_law_purse_here","_law_many"] (qac qcr):=⟨rfl,rfl,rfl,by decide +kernel,rfl,by decide +kernel,by decide +kernel⟩
noncomputable def qfn (a:Adr):XS:=(xSeq (xSet 2 (xB (xCons (x2 (x2 (xVar 0) (xC (.int 0)) fIx) (xC (.int 0)) fEq) xNil) fInt)) (xSeq (xSet 3 (x2 (x2 (xVar 0) (xVar 2) fIx) (xVar 1) fMod)) (xSeq (xPut (xVar 0) (xVar 2) (x2 (x2 (xVar 0) (xVar 2) fIx) (xVar 1) fDiv)) (xRet (xVar 3)))))
noncomputable def qaj (a:Adr):XF:=(fnD 4 (qfn a))
theorem ql6 (F:Fun K "_law_take" "_law_take" qcr f fd) (T:Txt K mg a):FnOk P w K mg base (CXo P w) 1 f fd ["_law_purse_here","_law_many"] (spD K a.Book 2 (qaj a)) :=
 qer F sc__law_take rfl fun cdv A outer s H E hr=>(qaf (qau 2 sc__law_take.nd rfl (Or.inl rfl) (de_callTy b_int rfl T.b_int bt_int (qaa (de_cp (c_eq (hu12 hr)) (qbd (qar hr) (qab 0) qai (fun _ _=>rfl)) qai (qci _)) qag))) (qaf (qau 3 sc__law_take.nd rfl (Or.inl rfl) (qju (qbd (qar hr) (qab 0) (qab 2) (fun _ _=>rfl)) (qab 1))) (qaf (qoy (qar hr) (qab 0) (qab 2) (de_div (qbd (qar hr) (qab 0) (qab 2) (fun _ _=>rfl)) (qab 1))) (qan (qbk (qab 3))))))
abbrev qbo:Stmt:=top 34
theorem sc__law_divisor:FnScope ["_law_one","_law_other"] ["_law_one","_law_other"] (qac qbo):=⟨rfl,rfl,rfl,by decide +kernel,rfl,by decide +kernel,by decide +kernel⟩
noncomputable def qb8 (a:Adr) :XS:=(xPar 0 1 (xCons (xVar 1) (xCons (x2 (xVar 0) (xVar 1) fMod) xNil)))
noncomputable def qe8 (a:Adr):XS:=(xSeq (qhq (xTr (x2 (xVar 1) (xC (.int 0)) fNe)) (qb8 a)) (xRet (xB (xCons (xVar 0) xNil) fAbs)))
noncomputable def qbp (a:Adr):XF:=(fnD 2 (qe8 a))
theorem qh2 (F:Fun K "_law_divisor" "_law_divisor" qbo f fd) (T:Txt K mg a):FnOk P w K mg base (CXo P w) 1 f fd ["_law_one","_law_other"] (spD K a.Book 2 (qbp a)) :=
 qer F sc__law_divisor rfl fun cdv A outer s H E hr=>(qaf (qkz (qgt (c_ne (hu12 hr)) (qab 1) qai (qci _)) (qan (ds_par (i:=0) (j:=1) rfl sc__law_divisor.nd rfl rfl (by decide) rfl rfl (qaa (qab 1) (qaa (qju (qab 0) (qab 1)) qag)) rfl))) (qan (qbk (qbg b_abs rfl T.b_abs bt_abs (qaa (qab 0) qag)))))
abbrev qbw:Stmt:=top 35
theorem sc__law_lowest:FnScope ["_law_top","_law_bottom","_law_share"] ["_law_top","_law_bottom"] (qac qbw):=⟨rfl,rfl,rfl,by decide +kernel,rfl,by decide +kernel,by decide +kernel⟩
noncomputable def qf5 (a:Adr):XS:=(xSeq (xSet 2 (xCall 2 (qbp a) (xCons (xVar 0) (xCons (xVar 1) xNil)))) (xRet (xTup (xCons (x2 (xVar 0) (xVar 2) fDiv) (xCons (x2 (xVar 1) (xVar 2) fDiv) xNil)))))
noncomputable def qaz (a:Adr):XF:=(fnD 3 (qf5 a))
theorem qi1 (F:Fun K "_law_lowest" "_law_lowest" qbw f fd) (T:Txt K mg a) (F__law_divisor:Fn P w K mg base "_law_divisor" 1 ["_law_one","_law_other"] (spD K a.Book 2 (qbp a))):FnOk P w K mg base (CXo P w) 2 f fd ["_law_top","_law_bottom"] (spD K a.Book 2 (qaz a)) :=
 qer F sc__law_lowest rfl fun cdv A outer s H E hr=>(qaf (qau 2 sc__law_lowest.nd rfl (Or.inl rfl) (qbj F__law_divisor (hr.mono (by decide)) rfl qb0 (qaa (qab 0) (qaa (qab 1) qag)))) (qan (qbk (qjt (qaa (de_div (qab 0) (qab 2)) (qaa (de_div (qab 1) (qab 2)) qag))))))
abbrev qcs:Stmt:=top 36
theorem qlr:FnScope ["_law_one","_law_other"] ["_law_one","_law_other"] (qac qcs):=⟨rfl,rfl,rfl,by decide +kernel,rfl,by decide +kernel,by decide +kernel⟩
noncomputable def qfo (a:Adr):XS:=(xRet (xCall 2 (qaz a) (xCons (x2 (x2 (x2 (xVar 0) (xC (.int 0)) fIx) (x2 (xVar 1) (xC (.int 1)) fIx) fMul) (x2 (x2 (xVar 1) (xC (.int 0)) fIx) (x2 (xVar 0) (xC (.int 1)) fIx) fMul) fAdd) (xCons (x2 (x2 (xVar 0) (xC (.int 1)) fIx) (x2 (xVar 1) (xC (.int 1)) fIx) fMul) xNil))))
noncomputable def qa4 (a:Adr):XF:=(fnD 2 (qfo a))
theorem ql7 (F:Fun K "_law_plus" "_law_plus" qcs f fd) (T:Txt K mg a) (F__law_lowest:Fn P w K mg base "_law_lowest" 2 ["_law_top","_law_bottom"] (spD K a.Book 2 (qaz a))):FnOk P w K mg base (CXo P w) 3 f fd ["_law_one","_law_other"] (spD K a.Book 2 (qa4 a)) :=
 qer F qlr rfl fun cdv A outer s H E hr=>(qan (qbk (qbj F__law_lowest (hr.mono (by decide)) rfl qb0 (qaa (qcn (qeg (qbd (qar hr) (qab 0) qai (fun _ _=>rfl)) (qbd (qar hr) (qab 1) qai (fun _ _=>rfl))) (qeg (qbd (qar hr) (qab 1) qai (fun _ _=>rfl)) (qbd (qar hr) (qab 0) qai (fun _ _=>rfl)))) (qaa (qeg (qbd (qar hr) (qab 0) qai (fun _ _=>rfl)) (qbd (qar hr) (qab 1) qai (fun _ _=>rfl))) qag)))))
abbrev qcf:Stmt:=top 37
theorem qke:FnScope ["_law_one","_law_other"] ["_law_one","_law_other"] (qac qcf):=⟨rfl,rfl,rfl,by decide +kernel,rfl,by decide +kernel,by decide +kernel⟩
noncomputable def qg2 (a:Adr):XS:=(xRet (xCall 2 (qaz a) (xCons (x2 (x2 (xVar 0) (xC (.int 0)) fIx) (x2 (xVar 1) (xC (.int 0)) fIx) fMul) (xCons (x2 (x2 (xVar 0) (xC (.int 1)) fIx) (x2 (xVar 1) (xC (.int 1)) fIx) fMul) xNil))))
noncomputable def qbl (a:Adr):XF:=(fnD 2 (qg2 a))
theorem qkr (F:Fun K "_law_times" "_law_times" qcf f fd) (T:Txt K mg a) (F__law_lowest:Fn P w K mg base "_law_lowest" 2 ["_law_top","_law_bottom"] (spD K a.Book 2 (qaz a))):FnOk P w K mg base (CXo P w) 3 f fd ["_law_one","_law_other"] (spD K a.Book 2 (qbl a)) :=
 qer F qke rfl fun cdv A outer s H E hr=>(qan (qbk (qbj F__law_lowest (hr.mono (by decide)) rfl qb0 (qaa (qeg (qbd (qar hr) (qab 0) qai (fun _ _=>rfl)) (qbd (qar hr) (qab 1) qai (fun _ _=>rfl))) (qaa (qeg (qbd (qar hr) (qab 0) qai (fun _ _=>rfl)) (qbd (qar hr) (qab 1) qai (fun _ _=>rfl))) qag)))))
abbrev qbx:Stmt:=top 38
theorem qiu:FnScope ["_law_one","_law_other"] ["_law_one","_law_other"] (qac qbx):=⟨rfl,rfl,rfl,by decide +kernel,rfl,by decide +kernel,by decide +kernel⟩
noncomputable def qf6 (a:Adr):XS:=(xRet (x2 (x2 (x2 (xVar 0) (xC (.int 0)) fIx) (x2 (xVar 1) (xC (.int 1)) fIx) fMul) (x2 (x2 (xVar 1) (xC (.int 0)) fIx) (x2 (xVar 0) (xC (.int 1)) fIx) fMul) fLt))
noncomputable def qbn (a:Adr):XF:=(fnD 2 (qf6 a))
theorem qi2 (F:Fun K "_law_lesser" "_law_lesser" qbx f fd) (T:Txt K mg a):FnOk P w K mg base (CXo P w) 1 f fd ["_law_one","_law_other"] (spD K a.Book 2 (qbn a)) :=
 qer F qiu rfl fun cdv A outer s H E hr=>(qan (qbk (de_cp c_lt (qeg (qbd (qar hr) (qab 0) qai (fun _ _=>rfl)) (qbd (qar hr) (qab 1) qai (fun _ _=>rfl))) (qeg (qbd (qar hr) (qab 1) qai (fun _ _=>rfl)) (qbd (qar hr) (qab 0) qai (fun _ _=>rfl))) (qci _))))
abbrev qcg:Stmt:=top 32
theorem sc__law_purse:FnScope ["_law_script","_law_cells","_law_number","_law_found","_law_k","_law_cell"] ["_law_script"] (qac qcg):=⟨rfl,rfl,rfl,by decide +kernel,rfl,by decide +kernel,by decide +kernel⟩
noncomputable def qdw (a:Adr) :XS:=(xSeq (xSet 5 (x2 (xVar 1) (x2 (xVar 4) (xB (xCons (xVar 1) xNil) fLen) fMod) fIx)) (xSeq (xSet 2 (x2 (x2 (x2 (x2 (x2 (xVar 2) (xVar 2) fMul) (xVar 5) fAdd) (x2 (xC (.int 48271)) (xVar 4) fMul) fAdd) (xC (.int 7)) fAdd) (xC (.int 2147483629)) fMod)) (xSet 3 (x2 (x2 (xVar 3) (xC (.int 2147483587)) fMul) (x2 (x2 (xVar 2) (xVar 2) fMul) (xC (.int 2147483587)) fMod) fAdd))))
noncomputable def qep (a:Adr):XS:=(xSeq (xSet 1 (x2 (xSl (xVar 0) xNoP (xPart (xC (.int 63)))) (xLst (xCons (xC (.int 1)) xNil)) fAdd)) (xSeq (xSet 2 (xC (.int 5))) (xSeq (xSet 3 (xC (.int 1))) (xSeq (xFor (xRng1 (xCons (xC (.int 200)) xNil)) (yName 4) (qdw a)) (xSeq (xIf (xTr (x2 (x2 (xVar 1) (xC (.int 0)) fIx) (x2 (xC (.int 10)) (xC (.int 18)) fPow) fGe)) (xRet (xLstC (xCons (x2 (x2 (xVar 1) (xC (.int 0)) fIx) (x2 (xC (.int 10)) (xC (.int 18)) fPow) fSub) (xCons (xVar 3) xNil)))) xEnd) (xRet (xLstC (xCons (xC (.int 0)) (xCons (xVar 3) xNil)))))))))
noncomputable def qbv (a:Adr):XF:=(fnD 6 (qep a))
theorem qks (F:Fun K "_law_purse" "_law_purse" qcg f fd) (T:Txt K mg a):FnOk P w K mg base (CXo P w) 1 f fd ["_law_script"] (spD K a.Book 1 (qbv a)) :=
 qer F sc__law_purse rfl fun cdv A outer s H E hr=>(qaf (qau 1 sc__law_purse.nd rfl (Or.inl rfl) (qcn (de_sl (qab 0) qns (qik qai)) (qd0 (qaa qai qag)))) (qaf (qau 2 sc__law_purse.nd rfl (Or.inl rfl) qai) (qaf (qau 3 sc__law_purse.nd rfl (Or.inl rfl) qai) (qaf (qf9 rfl (qdz rfl T.b_range (qaa qai qag)) (qcm 4 sc__law_purse.nd rfl (Or.inl rfl)) (qaf (qau 5 sc__law_purse.nd rfl (Or.inl rfl) (qbd (qar hr) (qab 1) (qju (qab 4) (qbg b_len rfl T.b_len qd3 (qaa (qab 1) qag))) (fun _ _=>rfl))) (qaf (qau 2 sc__law_purse.nd rfl (Or.inl rfl) (qju (qcn (qcn (qcn (qeg (qab 2) (qab 2)) (qab 5)) (qeg qai (qab 4))) qai) qai)) (qan (qau 3 sc__law_purse.nd rfl (Or.inl rfl) (qcn (qeg (qab 3) qai) (qju (qeg (qab 2) (qab 2)) qai))))))) (qaf (qii (qgt c_ge (qbd (qar hr) (qab 1) qai (fun _ _=>rfl)) (qo1 qai qai) (qci _)) (qan (qbk (qim (qaa (de_sub (qbd (qar hr) (qab 1) qai (fun _ _=>rfl)) (qo1 qai qai)) (qaa (qab 3) qag))))) qdh) (qan (qbk (qim (qaa qai (qaa (qab 3) qag))))))))))
abbrev qbr:Stmt:=top 39
theorem sc__law_names:FnScope ["_law_purse_here","_law_letters","_law_first","_law_found","_law_k","_law_long","_law_tail"] ["_law_purse_here"] (qac qbr):=⟨rfl,rfl,rfl,by decide +kernel,rfl,by decide +kernel,by decide +kernel⟩
noncomputable def qb6 (a:Adr) :XS:=(xSeq (xSet 5 (xCall 2 (qaj a) (xCons (xVar 0) (xCons (xC (.int 8)) xNil)))) (xSeq (xSet 6 (xJoin (xC (.str "")) (xCons (qfb (xRng1 (xCons (xVar 5) xNil)) [1,0] xYes (x2 (xVar 1) (xCall 2 (qaj a) (xCons (xVar 2) (xCons (xC (.int 26)) xNil))) fIx)) xNil))) (xDo (xAppend (xVar 3) (xCons (x2 (x2 (xVar 1) (x2 (x2 (xVar 2) (x2 (xC (.int 7)) (xVar 4) fMul) fAdd) (xC (.int 26)) fMod) fIx) (xVar 6) fAdd) xNil)))))
noncomputable def qg3 (a:Adr):XS:=(xSeq (xSet 1 (xC (.str "abcdefghijklmnopqrstuvwxyz"))) (xSeq (xSet 2 (xCall 2 (qaj a) (xCons (xVar 0) (xCons (xC (.int 26)) xNil)))) (xSeq (xSet 3 (xLstC xNil)) (xSeq (xFor (xRng1 (xCons (xC (.int 14)) xNil)) (yName 4) (qb6 a)) (xRet (xFrz (xVar 3)))))))
noncomputable def qcj (a:Adr):XF:=(fnD 7 (qg3 a))
theorem qkt (F:Fun K "_law_names" "_law_names" qbr f fd) (T:Txt K mg a) (F__law_take:Fn P w K mg base "_law_take" 1 ["_law_purse_here","_law_many"] (spD K a.Book 2 (qaj a))):FnOk P w K mg base (CXo P w) 2 f fd ["_law_purse_here"] (spD K a.Book 1 (qcj a)) :=
 qer F sc__law_names rfl fun cdv A outer s H E hr=>(qaf (qau 1 sc__law_names.nd rfl (Or.inr rfl) de_str) (qaf (qau 2 sc__law_names.nd rfl (Or.inl rfl) (qbj F__law_take (hr.mono (by decide)) rfl qb0 (qaa (qab 0) (qaa qai qag)))) (qaf (qau 3 sc__law_names.nd rfl (Or.inl rfl) (qim qag)) (qaf (qf9 rfl (qdz rfl T.b_range (qaa qai qag)) (qcm 4 sc__law_names.nd rfl (Or.inl rfl)) (qaf (qau 5 sc__law_names.nd rfl (Or.inl rfl) (qbj F__law_take (hr.mono (by decide)) rfl qa3 (qaa (qab 0) (qaa qai qag)))) (qaf (qau 6 sc__law_names.nd rfl (Or.inl rfl) (de_join de_str (qaa (qnt (fr:=["_law_letters","_law_purse_here"]) (ix:=[1,0]) rfl (by exact (show CompOk ["_law_purse_here","_law_letters","_law_first","_law_found","_law_k","_law_long","_law_tail"] (qac qbr) _ _ _ _ from ⟨rfl,by decide +kernel,rfl,by decide +kernel,by decide +kernel,by decide +kernel,by decide +kernel,by decide +kernel,rfl⟩)) (qdz rfl T.b_range (qaa (qab 5) qag)) (fun _ _ _ _ _=>difs_nil) (fun _ _ _ _ _=>(qbd (qar hr) (qab 1) (qbj F__law_take (hr.mono (by decide)) rfl qa3 (qaa (qab 2) (qaa qai qag))) (fun _ _=>rfl)))) qag))) (qan (qk0 (qgc (qab 3) (qaa (qcn (qbd (qar hr) (qab 1) (qju (qcn (qab 2) (qeg qai (qab 4))) qai) (fun _ _=>rfl)) (qab 6)) qag))))))) (qan (qbk (de_frz (qab 3))))))))
abbrev qct:Stmt:=top 42
theorem sc__law_part:FnScope ["_law_purse_here","_law_bottom"] ["_law_purse_here"] (qac qct):=⟨rfl,rfl,rfl,by decide +kernel,rfl,by decide +kernel,by decide +kernel⟩
noncomputable def qih (a:Adr):XS:=(xSeq (xSet 1 (x2 (xLst (xCons (xC (.int 2)) (xCons (xC (.int 3)) (xCons (xC (.int 4)) (xCons (xC (.int 5)) (xCons (xC (.int 7)) (xCons (xC (.int 10)) (xCons (xC (.int 100)) (xCons (x2 (xC (.int 10)) (xC (.int 9)) fPow) xNil))))))))) (xCall 2 (qaj a) (xCons (xVar 0) (xCons (xC (.int 8)) xNil))) fIx)) (xRet (xCall 2 (qaz a) (xCons (x2 (xC (.int 1)) (xCall 2 (qaj a) (xCons (xVar 0) (xCons (xVar 1) xNil))) fAdd) (xCons (xVar 1) xNil)))))
noncomputable def qcc (a:Adr):XF:=(fnD 2 (qih a))
theorem ql8 (F:Fun K "_law_part" "_law_part" qct f fd) (T:Txt K mg a) (F__law_lowest:Fn P w K mg base "_law_lowest" 2 ["_law_top","_law_bottom"] (spD K a.Book 2 (qaz a))) (F__law_take:Fn P w K mg base "_law_take" 1 ["_law_purse_here","_law_many"] (spD K a.Book 2 (qaj a))):FnOk P w K mg base (CXo P w) 3 f fd ["_law_purse_here"] (spD K a.Book 1 (qcc a)) :=
 qer F sc__law_part rfl fun cdv A outer s H E hr=>(qaf (qau 1 sc__law_part.nd rfl (Or.inl rfl) (qbd (qar hr) (qd0 (qaa qai (qaa qai (qaa qai (qaa qai (qaa qai (qaa qai (qaa qai (qaa (qo1 qai qai) qag))))))))) (qbj F__law_take (hr.mono (by decide)) rfl qb0 (qaa (qab 0) (qaa qai qag))) (fun _ _=>rfl))) (qan (qbk (qbj F__law_lowest (hr.mono (by decide)) rfl qb0 (qaa (qcn qai (qbj F__law_take (hr.mono (by decide)) rfl qb0 (qaa (qab 0) (qaa (qab 1) qag)))) (qaa (qab 1) qag))))))
abbrev qbs:Stmt:=top 43
theorem sc__law_built:FnScope ["_law_purse_here","_law_words","_law_book","_law_people","_law_houses","_law_entries","_law_name","_law_k","_law_owner","_law_house","_law_held","_law_having","_law_one","_law_other","_law_share"] ["_law_purse_here"] (qac qbs):=⟨rfl,rfl,rfl,by decide +kernel,rfl,by decide +kernel,by decide +kernel⟩
noncomputable def qc3 (a:Adr) :XS:=(xDo (xBM 2 (qe3 a) (xVar 2) (xCons (xVar 6) xNil)))
noncomputable def qc2 (a:Adr) :XS:=(xSeq (xSet 8 (x2 (x2 (xVar 3) (xSl (xVar 4) xNoP (xPart (xVar 7))) fAdd) (xCall 2 (qaj a) (xCons (xVar 0) (xCons (x2 (xB (xCons (xVar 3) xNil) fLen) (xVar 7) fAdd) xNil))) fIx)) (xSeq (xDo (xBM 6 (qgx a) (xVar 2) (xCons (x2 (xVar 4) (xVar 7) fIx) (xCons (xVar 8) (xCons (x2 (xCall 2 (qaj a) (xCons (xVar 0) (xCons (xC (.int 100)) xNil))) (xC (.int 30)) fSub) (xCons (x2 (xCall 2 (qaj a) (xCons (xVar 0) (xCons (xC (.int 60)) xNil))) (xC (.int 10)) fSub) (xCons (xCall 2 (qaj a) (xCons (xVar 0) (xCons (xC (.int 40)) xNil))) xNil))))))) (xPut (xVar 5) (x2 (xVar 4) (xVar 7) fIx) (xDisp (xVar 8) (xTup (xCons (xC (.int 1)) (xCons (xC (.int 1)) xNil)))))))
noncomputable def qb7 (a:Adr) :XS:=(xSeq (xSet 11 (xB (xCons (qld 10 [10] (xTr (x2 (x2 (x2 (xVar 1) (xVar 0) fIx) (xC (.int 0)) fIx) (xC (.int 0)) fGt)) (xVar 0)) xNil) qah)) (xSeq (xSet 12 (x2 (xVar 11) (xCall 2 (qaj a) (xCons (xVar 0) (xCons (xB (xCons (xVar 11) xNil) fLen) xNil))) fIx)) (xSeq (xSet 13 (x2 (x2 (xVar 3) (xVar 4) fAdd) (xCall 2 (qaj a) (xCons (xVar 0) (xCons (x2 (xB (xCons (xVar 3) xNil) fLen) (xB (xCons (xVar 4) xNil) fLen) fAdd) xNil))) fIx)) (xSeq (xSet 14 (xCall 2 (qbl a) (xCons (x2 (xVar 10) (xVar 12) fIx) (xCons (xCall 1 (qcc a) (xCons (xVar 0) xNil)) xNil)))) (xIf (xTr (x2 (x2 (xVar 14) (xC (.int 1)) fIx) (x2 (xC (.int 10)) (xC (.int 28)) fPow) fLt)) (xSeq (xDo (xBM 5 (qj1 a) (xVar 2) (xCons (xVar 9) (xCons (xVar 12) (xCons (xVar 13) (xCons (xVar 14) xNil)))))) (xSeq (xPut (xVar 10) (xVar 12) (xCall 2 (qa4 a) (xCons (x2 (xVar 10) (xVar 12) fIx) (xCons (xTup (xCons (x1 (x2 (xVar 14) (xC (.int 0)) fIx) fNeg) (xCons (x2 (xVar 14) (xC (.int 1)) fIx) xNil))) xNil)))) (xPut (xVar 10) (xVar 13) (xCall 2 (qa4 a) (xCons (xGet (xVar 10) (xVar 13) (xTup (xCons (xC (.int 0)) (xCons (xC (.int 1)) xNil)))) (xCons (xVar 14) xNil)))))) xEnd)))))
noncomputable def qc1 (a:Adr) :XS:=(xSeq (xSet 10 (x2 (xVar 5) (xVar 9) fIx)) (xFor (xRng1 (xCons (xCall 2 (qaj a) (xCons (xVar 0) (xCons (xC (.int 6)) xNil))) xNil)) (yName 7) (qb7 a)))
noncomputable def qeq (a:Adr):XS:=(xSeq (xSet 1 (xCall 1 (qcj a) (xCons (xVar 0) xNil))) (xSeq (xSet 2 xBook) (xSeq (xSet 3 (xSl (xVar 1) xNoP (xPart (x2 (xLst (xCons (xC (.int 2)) (xCons (xC (.int 3)) (xCons (xC (.int 1)) (xCons (xC (.int 4)) (xCons (xC (.int 6)) (xCons (xC (.int 2)) (xCons (xC (.int 3)) (xCons (xC (.int 5)) xNil))))))))) (xCall 2 (qaj a) (xCons (xVar 0) (xCons (xC (.int 8)) xNil))) fIx)))) (xSeq (xSet 4 (xSl (xVar 1) (xPart (xC (.int 6))) (xPart (x2 (xC (.int 6)) (x2 (xLst (xCons (xC (.int 3)) (xCons (xC (.int 4)) (xCons (xC (.int 2)) (xCons (xC (.int 5)) (xCons (xC (.int 6)) (xCons (xC (.int 1)) (xCons (xC (.int 8)) (xCons (xC (.int 0)) xNil))))))))) (xCall 2 (qaj a) (xCons (xVar 0) (xCons (xC (.int 8)) xNil))) fIx) fAdd)))) (xSeq (xSet 5 xNewD) (xSeq (xFor (xIter (xVar 3)) (yName 6) (qc3 a)) (xSeq (xFor (xRng1 (xCons (xB (xCons (xVar 4) xNil) fLen) xNil)) (yName 7) (qc2 a)) (xSeq (xFor (xIter (xVar 4)) (yName 9) (qc1 a)) (xRet (xLst (xCons (xVar 2) (xCons (xB (xCons (xVar 3) xNil) qah) (xCons (xFrz2 (xVar 5)) xNil)))))))))))))
noncomputable def qc4 (a:Adr):XF:=(fnD 15 (qeq a))
theorem qku (F:Fun K "_law_built" "_law_built" qbs f fd) (T:Txt K mg a) (F__law_names:Fn P w K mg base "_law_names" 2 ["_law_purse_here"] (spD K a.Book 1 (qcj a))) (M_Book:MkB P w K mg base "Book" a.Book 1 ["self"] (spInit K a.Book)) (M_person:Mt P w K mg base a.Book "person" 4 ["self","name"] (spD K a.Book 2 (qe3 a))) (M_house:Mt P w K mg base a.Book "house" 4 ["self","name","owner","things","mark","loss"] (spD K a.Book 6 (qgx a))) (F__law_take:Fn P w K mg base "_law_take" 1 ["_law_purse_here","_law_many"] (spD K a.Book 2 (qaj a))) (F__law_times:Fn P w K mg base "_law_times" 3 ["_law_one","_law_other"] (spD K a.Book 2 (qbl a))) (F__law_part:Fn P w K mg base "_law_part" 3 ["_law_purse_here"] (spD K a.Book 1 (qcc a))) (M_sale:Mt P w K mg base a.Book "sale" 4 ["self","house","one","other","share"] (spD K a.Book 5 (qj1 a))) (F__law_plus:Fn P w K mg base "_law_plus" 3 ["_law_one","_law_other"] (spD K a.Book 2 (qa4 a))):FnOk P w K mg base (CXo P w) 5 f fd ["_law_purse_here"] (spD K a.Book 1 (qc4 a)) :=
 qer F sc__law_built rfl fun cdv A outer s H E hr=>(qaf (qau 1 sc__law_built.nd rfl (Or.inl rfl) (qbj F__law_names (hr.mono (by decide)) rfl qb0 (qaa (qab 0) qag))) (qaf (qau 2 sc__law_built.nd rfl (Or.inl rfl) (de_book M_Book (hr.mono (by decide)) rfl qb0)) (qaf (qau 3 sc__law_built.nd rfl (Or.inl rfl) (de_sl (qab 1) qns (qik (qbd (qar hr) (qd0 (qaa qai (qaa qai (qaa qai (qaa qai (qaa qai (qaa qai (qaa qai (qaa qai qag))))))))) (qbj F__law_take (hr.mono (by decide)) rfl qb0 (qaa (qab 0) (qaa qai qag))) (fun _ _=>rfl))))) (qaf (qau 4 sc__law_built.nd rfl (Or.inl rfl) (de_sl (qab 1) (qik qai) (qik (qcn qai (qbd (qar hr) (qd0 (qaa qai (qaa qai (qaa qai (qaa qai (qaa qai (qaa qai (qaa qai (qaa qai qag))))))))) (qbj F__law_take (hr.mono (by decide)) rfl qb0 (qaa (qab 0) (qaa qai qag))) (fun _ _=>rfl)))))) (qaf (qau 5 sc__law_built.nd rfl (Or.inl rfl) de_newD) (qaf (qf9 rfl (qmu (qab 3)) (qcm 6 sc__law_built.nd rfl (Or.inl rfl)) (qan (qk0 (de_bm (qab 2) M_person no_person (hr.mono (by decide)) qa3 (qaa (qab 6) qag))))) (qaf (qf9 rfl (qdz rfl T.b_range (qaa (qbg b_len rfl T.b_len qd3 (qaa (qab 4) qag)) qag)) (qcm 7 sc__law_built.nd rfl (Or.inl rfl)) (qaf (qau 8 sc__law_built.nd rfl (Or.inl rfl) (qbd (qar hr) (qcn (qab 3) (de_sl (qab 4) qns (qik (qab 7)))) (qbj F__law_take (hr.mono (by decide)) rfl qa3 (qaa (qab 0) (qaa (qcn (qbg b_len rfl T.b_len qd3 (qaa (qab 3) qag)) (qab 7)) qag))) (fun _ _=>rfl))) (qaf (qk0 (de_bm (qab 2) M_house no_house (hr.mono (by decide)) qa3 (qaa (qbd (qar hr) (qab 4) (qab 7) (fun _ _=>rfl)) (qaa (qab 8) (qaa (de_sub (qbj F__law_take (hr.mono (by decide)) rfl qa3 (qaa (qab 0) (qaa qai qag))) qai) (qaa (de_sub (qbj F__law_take (hr.mono (by decide)) rfl qa3 (qaa (qab 0) (qaa qai qag))) qai) (qaa (qbj F__law_take (hr.mono (by decide)) rfl qa3 (qaa (qab 0) (qaa qai qag))) qag))))))) (qan (qoy (qar hr) (qab 5) (qbd (qar hr) (qab 4) (qab 7) (fun _ _=>rfl)) (de_disp (qab 8) (qjt (qaa qai (qaa qai qag))))))))) (qaf (qf9 rfl (qmu (qab 4)) (qcm 9 sc__law_built.nd rfl (Or.inl rfl)) (qaf (qau 10 sc__law_built.nd rfl (Or.inr rfl) (qbd (qar hr) (qab 5) (qab 9) (fun _ _=>rfl))) (qan (qf9 rfl (qdz rfl T.b_range (qaa (qbj F__law_take (hr.mono (by decide)) rfl qa3 (qaa (qab 0) (qaa qai qag))) qag)) (qcm 7 sc__law_built.nd rfl (Or.inl rfl)) (qaf (qau 11 sc__law_built.nd rfl (Or.inl rfl) (qbg (b_sorted rfl) rfl T.b_sorted qdj (qaa (de_compD (fr:=["_law_held"]) (ix:=[10]) 10 rfl rfl (Or.inr (Or.inl rfl)) (by exact (show CompOk ["_law_purse_here","_law_words","_law_book","_law_people","_law_houses","_law_entries","_law_name","_law_k","_law_owner","_law_house","_law_held","_law_having","_law_one","_law_other","_law_share"] (qac qbs) _ _ _ _ from ⟨rfl,by decide +kernel,rfl,by decide +kernel,by decide +kernel,by decide +kernel,by decide +kernel,by decide +kernel,rfl⟩)) (fun _ _ _ _ _=>(qe0 (qgt c_gt (qbd (qar hr) (qbd (qar hr) (qab 1) (qab 0) (fun _ _=>rfl)) qai (fun _ _=>rfl)) qai (qci _)))) (fun _ _ _ _ _=>(qab 0))) qag))) (qaf (qau 12 sc__law_built.nd rfl (Or.inl rfl) (qbd (qar hr) (qab 11) (qbj F__law_take (hr.mono (by decide)) rfl qa3 (qaa (qab 0) (qaa (qbg b_len rfl T.b_len qd3 (qaa (qab 11) qag)) qag))) (fun _ _=>rfl))) (qaf (qau 13 sc__law_built.nd rfl (Or.inl rfl) (qbd (qar hr) (qcn (qab 3) (qab 4)) (qbj F__law_take (hr.mono (by decide)) rfl qa3 (qaa (qab 0) (qaa (qcn (qbg b_len rfl T.b_len qd3 (qaa (qab 3) qag)) (qbg b_len rfl T.b_len qd3 (qaa (qab 4) qag))) qag))) (fun _ _=>rfl))) (qaf (qau 14 sc__law_built.nd rfl (Or.inl rfl) (qbj F__law_times (hr.mono (by decide)) rfl qa3 (qaa (qbd (qar hr) (qab 10) (qab 12) (fun _ _=>rfl)) (qaa (qbj F__law_part (hr.mono (by decide)) rfl qa3 (qaa (qab 0) qag)) qag)))) (qan (qii (qgt c_lt (qbd (qar hr) (qab 14) qai (fun _ _=>rfl)) (qo1 qai qai) (qci _)) (qaf (qk0 (de_bm (qab 2) M_sale no_sale (hr.mono (by decide)) qa3 (qaa (qab 9) (qaa (qab 12) (qaa (qab 13) (qaa (qab 14) qag)))))) (qaf (qoy (qar hr) (qab 10) (qab 12) (qbj F__law_plus (hr.mono (by decide)) rfl qa3 (qaa (qbd (qar hr) (qab 10) (qab 12) (fun _ _=>rfl)) (qaa (qjt (qaa (de_neg (qbd (qar hr) (qab 14) qai (fun _ _=>rfl))) (qaa (qbd (qar hr) (qab 14) qai (fun _ _=>rfl)) qag))) qag)))) (qan (qoy (qar hr) (qab 10) (qab 13) (qbj F__law_plus (hr.mono (by decide)) rfl qa3 (qaa (de_get (qar hr) (qab 10) (qab 13) (qjt (qaa qai (qaa qai qag))) ⟨rfl,rfl,rfl,rfl⟩) (qaa (qab 14) qag))))))) qdh)))))))))) (qan (qbk (qd0 (qaa (qab 2) (qaa (qbg (b_sorted rfl) rfl T.b_sorted qdj (qaa (qab 3) qag)) (qaa (de_frz2 (qab 5)) qag))))))))))))))
abbrev qdx:Stmt:=top 12
theorem sc_outvote:FnScope ["book","voters","house","votes","holder","share"] ["book","voters","house"] (qac qdx):=⟨rfl,rfl,rfl,by decide +kernel,rfl,by decide +kernel,by decide +kernel⟩
noncomputable def qdk (a:Adr) :XS:=(xIf (xTr (x2 (xVar 4) (xVar 1) fIn)) (xSet 3 (xCall 2 (qis a) (xCons (xVar 3) (xCons (xVar 5) xNil)))) xEnd)
noncomputable def qmo (a:Adr):XS:=(xSeq (xSet 3 (xC c_ZERO)) (xSeq (xFor (xIter (xBM 2 (qee a) (xVar 0) (xCons (xVar 2) xNil))) (yTup 2 (yCons (yName 4) (yCons (yName 5) yNil))) (qdk a)) (xRet (xCall 2 (qcz a) (xCons (xVar 3) (xCons (xC c_HALF) xNil))))))
noncomputable def qdl (a:Adr):XF:=(fnD 6 (qmo a))
theorem ok_outvote (F:Fun K "outvote" "outvote" qdx f fd) (T:Txt K mg a) (M_shares:Mt P w K mg base a.Book "shares" 3 ["self","house"] (spD K a.Book 2 (qee a))) (F_is_above:Fn P w K mg base "is_above" 1 ["first","second"] (spD K a.Book 2 (qcz a))) (F_plus:Fn P w K mg base "plus" 2 ["first","second"] (spD K a.Book 2 (qis a))):FnOk P w K mg base (CXo P w) 4 f fd ["book","voters","house"] (spD K a.Book 3 (qdl a)) :=
 qer F sc_outvote rfl fun cdv A outer s H E hr=>(qaf (qau 3 sc_outvote.nd rfl (Or.inl rfl) (de_glob rfl T.g_ZERO T.r_ZERO T.p_ZERO)) (qaf (qf9 rfl (qmu (de_bm (qab 0) M_shares no_shares (hr.mono (by decide)) qa3 (qaa (qab 2) qag))) (dg_tup rfl (qga (qcm 4 sc_outvote.nd rfl (Or.inl rfl)) (qga (qcm 5 sc_outvote.nd rfl (Or.inl rfl)) dgs_nil))) (qan (qii (qgt (c_in (qar hr)) (qab 4) (qab 1) (by with_unfolding_all rfl)) (qan (qau 3 sc_outvote.nd rfl (Or.inl rfl) (qbj F_plus (hr.mono (by decide)) rfl qa3 (qaa (qab 3) (qaa (qab 5) qag))))) qdh))) (qan (qbk (qbj F_is_above (hr.mono (by decide)) rfl qb0 (qaa (qab 3) (qaa (de_glob rfl T.g_HALF T.r_HALF T.p_HALF) qag)))))))
abbrev qcp:Stmt:=top 13
theorem qnc:FnScope ["book","voters"] ["book","voters"] (qac qcp):=⟨rfl,rfl,rfl,by decide +kernel,rfl,by decide +kernel,by decide +kernel⟩
noncomputable def qjp (a:Adr):XS:=(xRet (qfb (xIter (xBM 1 (qe4 a) (xVar 0) xNil)) [0,1] (xTr (xCall 3 (qdl a) (xCons (xVar 1) (xCons (xVar 2) (xCons (xVar 0) xNil))))) (xVar 0)))
noncomputable def qcy (a:Adr):XF:=(fnD 2 (qjp a))
theorem qnf (F:Fun K "outvoted" "outvoted" qcp f fd) (T:Txt K mg a) (M_houses:Mt P w K mg base a.Book "houses" 1 ["self"] (spD K a.Book 1 (qe4 a))) (F_outvote:Fn P w K mg base "outvote" 4 ["book","voters","house"] (spD K a.Book 3 (qdl a))):FnOk P w K mg base (CXo P w) 5 f fd ["book","voters"] (spD K a.Book 2 (qcy a)) :=
 qer F qnc rfl fun cdv A outer s H E hr=>(qan (qbk (qnt (fr:=["book","voters"]) (ix:=[0,1]) rfl (by exact (show CompOk ["book","voters"] (qac qcp) _ _ _ _ from ⟨rfl,by decide +kernel,rfl,by decide +kernel,by decide +kernel,by decide +kernel,by decide +kernel,by decide +kernel,rfl⟩)) (qmu (de_bm0 (qab 0) M_houses no_houses (hr.mono (by decide)) qb0)) (fun _ _ _ _ _=>(qe0 (qfa (qbj F_outvote (hr.mono (by decide)) rfl qa3 (qaa (qab 1) (qaa (qab 2) (qaa (qab 0) qag))))))) (fun _ _ _ _ _=>(qab 0)))))
end
end My
namespace L2
open PySem
def sem:=And.intro @fnD.eq_1 <| And.intro @xSeq.eq_1 <| And.intro @xSet.eq_1 <| And.intro @xRet.eq_1 <| And.intro @xRetN.eq_1 <| And.intro @xDo.eq_1 <| And.intro @xIf.eq_1 <| And.intro @xEnd.eq_1 <| And.intro @xPut.eq_1 <| And.intro @xPar.eq_1 <| And.intro @xAsg.eq_1 <| And.intro @x1.eq_1 <| And.intro @x2.eq_1 <| And.intro @xVar.eq_1 <| And.intro @xC.eq_1 <| And.intro @xB.eq_1 <| And.intro @xCall.eq_1 <| And.intro @xBM.eq_1 <| And.intro @xCons.eq_1 <| And.intro @xNil.eq_1 <| And.intro @xTup.eq_1 <| And.intro @xLst.eq_1 <| And.intro @xLstC.eq_1 <| And.intro @xTr.eq_1 <| And.intro @xNot.eq_1 <| And.intro @xAnd.eq_1 <| And.intro @xOr.eq_1 <| And.intro @xAndV.eq_1 <| And.intro @xOrV.eq_1 <| And.intro @xNotV.eq_1 <| And.intro @xSl.eq_1 <| And.intro @xNoP.eq_1 <| And.intro @xPart.eq_1 <| And.intro @xIter.eq_1 <| And.intro @xRng1.eq_1 <| And.intro @xIterS.eq_1 <| And.intro @xIterD.eq_1 <| And.intro @xFor.eq_1 <| And.intro @xFrz.eq_1 <| And.intro @frz1.eq_1 <| And.intro @frz1.eq_2 <| And.intro @xAppend.eq_1 <| And.intro @xGet.eq_1 <| And.intro @xJoin.eq_1 <| And.intro @xNewD.eq_1 <| And.intro @xDisp.eq_1 <| And.intro @xIsiT.eq_1 <| And.intro @xIfe.eq_1 <| And.intro @xChain.eq_1 <| And.intro @xBook.eq_1 <| And.intro @Out.bind.eq_1 <| And.intro @Out.bind.eq_2 <| And.intro @Out.bind.eq_3 <| And.intro @Out.so.eq_1 <| And.intro @Out.so.eq_2 <| And.intro @Out.so.eq_3 <| And.intro @SO.noex.eq_1 <| And.intro @SO.noex.eq_2 <| And.intro @fAdd.eq_1 <| And.intro @fAdd.eq_2 <| And.intro @fAdd.eq_3 <| And.intro @fSub.eq_1 <| And.intro @fSub.eq_2 <| And.intro @fMul.eq_1 <| And.intro @fMul.eq_2 <| And.intro @fMul.eq_3 <| And.intro @fDiv.eq_1 <| And.intro @fDiv.eq_2 <| And.intro @fMod.eq_1 <| And.intro @fMod.eq_2 <| And.intro @fPow.eq_1 <| And.intro @fPow.eq_2 <| And.intro @fCmp.eq_1 <| And.intro @fCmp.eq_2 <| And.intro @fEqN.eq_1 <| And.intro @fIs.eq_1 <| And.intro @fIs.eq_2 <| And.intro @fIsnt.eq_1 <| And.intro @fIsnt.eq_2 <| And.intro @fIx.eq_1 <| And.intro @fIx.eq_2 <| And.intro @fIx.eq_3 <| And.intro @fIx.eq_4 <| And.intro @fIx.eq_5 <| And.intro @fNeg.eq_1 <| And.intro @fNeg.eq_2 <| And.intro @fSl.eq_1 <| And.intro @fSl.eq_2 <| And.intro @fLen.eq_1 <| And.intro @fLen.eq_2 <| And.intro @fLen.eq_3 <| And.intro @fLen.eq_4 <| And.intro @fAbs.eq_1 <| And.intro @fAbs.eq_2 <| And.intro @fInt.eq_1 <| And.intro @fInt.eq_2 <| And.intro @fInt.eq_3 <| And.intro @fTuple.eq_1 <| And.intro @fTuple.eq_2 <| And.intro @fList.eq_1 <| And.intro @fList.eq_2 <| And.intro @fList.eq_3 <| And.intro @fAll.eq_1 <| And.intro @fAll.eq_2 <| And.intro @lsOf.eq_1 <| And.intro @lsOf.eq_2 <| And.intro @lsOf.eq_3 <| And.intro @lsOf.eq_4 <| And.intro @dcOf.eq_1 <| And.intro @dcOf.eq_2 <| And.intro @dcOf.eq_3 <| And.intro @kyOf.eq_1 <| And.intro @kyOf.eq_2 <| And.intro @kyOf.eq_3 <| And.intro @toV.eq_1 <| And.intro @toV.eq_2 <| And.intro @toV.eq_3 <| And.intro @toV.eq_4 <| And.intro @toV.eq_5 <| And.intro @toVs.eq_1 <| And.intro @toVs.eq_2 <| And.intro @yName.eq_1 <| And.intro @yNil.eq_1 <| And.intro @yNil.eq_2 <| And.intro @yCons.eq_1 <| And.intro @yCons.eq_2 <| And.intro @yTup.eq_1 <| And.intro @yTup.eq_2 <| @xOnly.eq_1
end L2
namespace My
open PySem L2 Fra
theorem qh6 {body:PV→XS} (l:List PV) (I:Nat→En→Sto→Prop) (h:∀ k q ρ s,l[k]?=some q→I k ρ s→∃ ρ' s',body q ρ s=.nx ρ' s'∧I (k+1) ρ' s') {ρ:En}{s:Sto} (h0:I 0 ρ s):∃ ρ' s',loopL body l ρ s=.nx ρ' s'∧I l.length ρ' s':=by
 have main:∀ (r:List PV) (k:Nat) (ρ:En) (s:Sto),k≤l.length→l.drop k=r→I k ρ s→∃ ρ' s',loopL body r ρ s=.nx ρ' s'∧I l.length ρ' s':=by
  intro r
  induction r with
  | nil =>
   intro k ρ s hk e hI
   have:k=l.length:=Nat.le_antisymm hk (List.drop_eq_nil_iff.mp e)
   subst this
   exact ⟨ρ,s,rfl,hI⟩
  | cons q r ih =>
   intro k ρ s hk e hI
   have hq:l[k]?=some q:=by
    have:=congrArg List.head? e
    rw [List.head?_drop] at this
    simpa using this
   obtain ⟨ρ',s',h1,h2⟩:=h k q ρ s hq hI
   have e2:l.drop (k+1)=r:=by
    rw [← List.tail_drop,e];rfl
   obtain ⟨ρ2,s2,h3,h4⟩:=ih (k+1) ρ' s' ((List.getElem?_eq_some_iff.mp hq).1) e2 h2
   refine ⟨ρ2,s2,?_,h4⟩
   unfold loopL
   rw [h1]
   exact h3
 exact main l 0 ρ s (Nat.zero_le _) rfl h0
theorem qhf (n:Nat):(rngP 0 n).length=n:=by simp [rngP]
theorem qn7 {n k:Nat}{q:PV} (h:(rngP 0 n)[k]?=some q):k < n∧q=.int (k:Int):=by
 unfold rngP at h
 rw [List.getElem?_map] at h
 by_cases hk:k < n
 ·rw [List.getElem?_range hk] at h
  cases h
  exact ⟨hk,by simp⟩
 ·rw [List.getElem?_eq_none (by simpa using hk)] at h;cases h
theorem qhg {body:PV→XS} (n:Nat) (I:Nat→En→Sto→Prop) (h:∀ (k:Nat) ρ s,k < n→I k ρ s→∃ ρ' s',body (.int (k:Int)) ρ s=.nx ρ' s'∧I (k+1) ρ' s') {ρ:En}{s:Sto} (h0:I 0 ρ s):∃ ρ' s',loopL body (rngP 0 n) ρ s=.nx ρ' s'∧I n ρ' s':=by
 have:=qh6 (rngP 0 n) I (fun k q ρ s hq hI=>by obtain ⟨h1,h2⟩:=qn7 hq;rw [h2];exact h k ρ s h1 hI) h0
 rw [qhf] at this
 exact this
theorem qdq (s:Sto) (i:Int):PV.data s 12 (.int i)=some (.int i):=rfl
theorem qfq (i j:Int):PyData.eqv (.int i) (.int j)=(i == j):=by unfold PyData.eqv;rfl
def IsPurse (s:Sto) (p:Nat):Prop:=∃ x y,s.get p=some (.lst [.int x,.int y])
theorem qj6 (a:Adr) (s:Sto) (p:Nat) (n:Int) (h:IsPurse s p) (h0:0 < n) (h1:Bt 9000 n):∃ r x y,0≤r∧r < n∧qaj a [.ref p,.int n] s=.ok (.int r) (s.set p (.lst [.int x,.int y])):=by
 obtain ⟨x,y,h⟩:=h
 have hd:divOk n:=⟨h0,h1⟩
 by_cases hx:x=0
 ·refine ⟨y % n,x,y / n,Int.emod_nonneg _ (by omega),Int.emod_lt_of_pos _ h0,?_⟩
  subst hx
  simp [sem,fInN,qah,fPut,qaj,qfn,h,atI,ixN,qdq,qfq,hd,h0]
 ·refine ⟨x % n,x / n,y,Int.emod_nonneg _ (by omega),Int.emod_lt_of_pos _ h0,?_⟩
  simp [sem,fInN,qah,fPut,qaj,qfn,h,atI,ixN,qdq,qfq,hd,h0,hx]
theorem at_ints {l:List Int}{i:Int} (h0:0≤i) (h1:i < l.length):∃ x,atI (l.map PV.int) i=some (.int x):=by
 obtain ⟨j,rfl⟩:∃ j:Nat,i=j:=⟨i.toNat,by omega⟩
 have hj:j < l.length:=by omega
 exact ⟨l[j],qbe (by simp [hj])⟩
theorem cutP_int (l:List Int) (lo hi:Option Int):∃ k:List Int,cutP (l.map PV.int) lo hi=k.map PV.int∧k.length≤l.length:=by
 refine ⟨(l.drop (HT.sIx l.length 0 lo)).take (HT.sIx l.length l.length hi - HT.sIx l.length 0 lo),?_,?_⟩
 ·unfold cutP;simp [List.map_take,List.map_drop]
 ·rw [List.length_take,List.length_drop];omega
theorem purse_eq (a:Adr) (s:Sto) (l:List Int) (hl:l.length≤63):∃ x y,qbv a [.seq (l.map .int)] s=.ok (.ref s.nx) (s.add (.lst [.int x,.int y])):=by
 obtain ⟨c,hc,hlen⟩:=cutP_int l none (some 63)
 have hsz:c.length≤99999:=by omega
 have e1:c.map PV.int++[PV.int 1]=(c++[1]).map PV.int:=by simp
 have hpos:(0:Int) < (c.length:Int)+1:=by omega
 have h2:2≤sizeLine:=by decide
 obtain ⟨ρ',s',hloop,rfl,v,w,k,z,rfl,_⟩:=qhg (body:=qav (yName 4) (qdw a)) 200
  (fun _ ρ t=>t=s∧∃ v w k z,ρ=[some (.seq (l.map .int)),some (.lst ((c++[1]).map .int)),some (.int v),some (.int w),k,z]∧0≤v∧v < 2147483629)
  (fun k ρ t hk hI=>by
   obtain ⟨rfl,v,w,k',z,rfl,h0,h1⟩:=hI
   obtain ⟨x,hx⟩:=at_ints (l:=c++[1]) (i:=(k:Int) % ((c.length:Int)+1)) (Int.emod_nonneg _ (by omega)) (by have:=Int.emod_lt_of_pos (k:Int) hpos;simpa using this)
   have m1:qmc v v:=.inr (.inl ⟨by omega,by omega⟩)
   have m2:qmc 48271 (k:Int):=.inr (.inl ⟨by decide,by decide⟩)
   have m3:qmc w 2147483587:=.inr (.inr ⟨by decide,by decide⟩)
   have b0:=Int.emod_nonneg (v * v+x+48271 * (k:Int)+7) (show (2147483629:Int)≠0 by decide)
   have b1:=Int.emod_lt_of_pos (v * v+x+48271 * (k:Int)+7) (show (0:Int) < 2147483629 by decide)
   have m4:qmc ((v * v+x+48271 * (k:Int)+7) % 2147483629) ((v * v+x+48271 * (k:Int)+7) % 2147483629):=.inr (.inl ⟨by omega,by omega⟩)
   refine ⟨_,_,?_,rfl,(v * v+x+48271 * (k:Int)+7) % 2147483629,w * 2147483587+((v * v+x+48271 * (k:Int)+7) % 2147483629) * ((v * v+x+48271 * (k:Int)+7) % 2147483629) % 2147483587,some (.int k),some (.int x),rfl,b0,b1⟩
   simp only [List.map_append,List.map_cons,List.map_nil] at hx
   simp [sem,fInN,qah,fPut,qav,qdw,hx,m1,m2,m3,m4,hpos]) ⟨rfl,5,1,none,none,rfl,by decide,by decide⟩
 obtain ⟨x0,hx0⟩:=at_ints (l:=c++[1]) (i:=0) (by omega) (by simp)
 simp only [List.map_append,List.map_cons,List.map_nil] at hx0 hloop
 by_cases h18:(1000000000000000000:Int)≤x0
 ·refine ⟨x0 - 1000000000000000000,w,?_⟩
  simp [sem,fInN,qah,fPut,qbv,qep,hc,hsz,hloop,hx0,h18,h2]
 ·refine ⟨0,w,?_⟩
  simp [sem,fInN,qah,fPut,qbv,qep,hc,hsz,hloop,hx0,h18,h2]
theorem qmt (a:Adr) (s:Sto):∀ (k:Nat) (t b:Int),0≤b→b.toNat≤k→∃ n t',qbf (xTr (x2 (xVar 1) (xC (.int 0)) fNe)) (qb8 a) n [some (.int t),some (.int b)] s=.nx [some (.int t'),some (.int 0)] s∧t'.natAbs=Int.gcd t b:=by
 intro k
 induction k with
 | zero =>
  intro t b h0 hk
  have:b=0:=by omega
  subst this
  refine ⟨1,t,?_,by simp [Int.gcd]⟩
  unfold qbf
  simp [sem,fInN,qah,fPut,qdq,qfq]
 | succ k ih =>
  intro t b h0 hk
  by_cases hb:b=0
  ·subst hb
   refine ⟨1,t,?_,by simp [Int.gcd]⟩
   unfold qbf
   simp [sem,fInN,qah,fPut,qdq,qfq]
  ·have hp:0 < b:=by omega
   have m0:=Int.emod_nonneg t hb
   have m1:=Int.emod_lt_of_pos t hp
   obtain ⟨n,t',h1,h2⟩:=ih b (t % b) m0 (by omega)
   refine ⟨n+1,t',?_,by rw [h2];exact qoo t b hp⟩
   have hs:qb8 a [some (.int t),some (.int b)] s=.nx [some (.int b),some (.int (t % b))] s:=by simp [sem,fInN,qah,fPut,qb8,hp]
   unfold qbf
   simp [sem,fInN,qah,fPut,qdq,qfq,hb,hs,h1]
theorem divisor_eq (a:Adr) (s:Sto) (t b:Int) (hb:0≤b):qbp a [.int t,.int b] s=.ok (.int (Int.gcd t b)) s:=by
 obtain ⟨n,t',h1,h2⟩:=qmt a s b.toNat t b hb (Nat.le_refl _)
 have hw:=qhp h1 (by simp)
 simp [sem,fInN,qah,fPut,qbp,qe8,hw]
 rw [← h2]
 split <;> omega
theorem qfz (a:Adr) (s:Sto) (t b:Int) (hb:0 < b) (hB:Bt 9000 b):qaz a [.int t,.int b] s=.ok (frP (red (t,b))) s:=by
 have hg:0 < Int.gcd t b:=Int.gcd_pos_of_ne_zero_right _ (by omega)
 have hd:divOk (Int.gcd t b:Int):=⟨by omega,hB.dvd (by omega) (Int.gcd_dvd_right ..)⟩
 have e:=divisor_eq a s t b (by omega)
 simp [sem,fInN,qah,fPut,qaz,qf5,e,hd,frP,red]
theorem at0 (x y:PV):atI [x,y] 0=some x:=rfl
theorem at1 (x y:PV):atI [x,y] 1=some y:=rfl
structure Two' (p q:Int×Int):Prop where
 p0:0 < p.2
 q0:0 < q.2
 b:Bt 4400 p.2∧Bt 4400 q.2
 t:Bt 9000 p.1∧Bt 9000 q.1
theorem qdu {i j:Int} (h:Bt 9000 i) (g:Bt 9000 j):qmc i j:=.inl ⟨h.mono (by decide),g.mono (by decide)⟩
theorem qog (a:Adr) (s:Sto) (p q:Int×Int) (h:Two' p q):qa4 a [frP p,frP q] s=.ok (frP (addR p q)) s:=by
 have b1:Bt 9000 p.2:=h.b.1.mono (by decide)
 have b2:Bt 9000 q.2:=h.b.2.mono (by decide)
 have e:=qfz a s (p.1 * q.2+q.1 * p.2) (p.2 * q.2) (Int.mul_pos h.p0 h.q0) ((h.b.1.mul h.b.2).mono (by decide))
 simp [sem,fInN,qah,fPut,qa4,qfo,frP,at0,at1,qdu h.t.1 b2,qdu h.t.2 b1,qdu b1 b2,e,addR]
theorem ltimes_eq (a:Adr) (s:Sto) (p q:Int×Int) (h:Two' p q):qbl a [frP p,frP q] s=.ok (frP (red (p.1 * q.1,p.2 * q.2))) s:=by
 have b1:Bt 9000 p.2:=h.b.1.mono (by decide)
 have b2:Bt 9000 q.2:=h.b.2.mono (by decide)
 have e:=qfz a s (p.1 * q.1) (p.2 * q.2) (Int.mul_pos h.p0 h.q0) ((h.b.1.mul h.b.2).mono (by decide))
 simp [sem,fInN,qah,fPut,qbl,qg2,frP,at0,at1,qdu h.t.1 h.t.2,qdu b1 b2,e]
theorem lesser_eq (a:Adr) (s:Sto) (p q:Int×Int) (h:Bt 9000 p.1∧Bt 9000 p.2∧Bt 9000 q.1∧Bt 9000 q.2):qbn a [frP p,frP q] s=.ok (.bl (decide (p.1 * q.2 < q.1 * p.2))) s:=by
 simp [sem,fInN,qah,fPut,qbn,qf6,frP,at0,at1,qdu h.1 h.2.2.2,qdu h.2.2.1 h.2.1]
end My
namespace My
open PySem L2 Fra
theorem qgs (s:Sto) (c:Cell) (k:Nat):(s.add c).get k=if s.nx=k then some c else s.get k:=by
 show getC ((s.nx,c)::s.cs) k=_
 unfold getC;rfl
theorem qja (s:Sto) (c d:Cell) {p:Nat} (h:s.nx≠p):(s.add d).set p c=(s.set p c).add d:=by
 unfold Sto.set Sto.add
 simp [setC,h]
theorem qjb (s:Sto) (c d:Cell):(s.add d).set s.nx c=s.add c:=by
 unfold Sto.set Sto.add
 simp [setC]
theorem qnb (s:Sto) (n:Nat) (c d:Cell):(s.set n c).set n d=s.set n d:=by
 have:∀ l,setC n d (setC n c l)=setC n d l:=by
  intro l
  induction l with
  | nil=>rfl
  | cons q r ih =>
   obtain ⟨k,e⟩:=q
   by_cases h:k=n
   ·simp [setC,h]
   ·simp [setC,h,ih]
 unfold Sto.set
 simp [this]
def Sto.bump (s:Sto):Sto:=⟨s.nx+1,s.cs⟩
theorem del_add (s:Sto) (d:Cell):(s.add d).del s.nx=Sto.bump s:=by
 unfold Sto.del Sto.add Sto.bump
 simp [delC]
def pst (s:Sto) (p:Nat) (x y:Int):Sto:=s.set p (.lst [.int x,.int y])
theorem qn9 (s:Sto) (p:Nat) (x y:Int):(pst s p x y).nx=s.nx:=rfl
theorem IsPurse.pst {s:Sto}{p:Nat} (h:IsPurse s p) (x y:Int):IsPurse (pst s p x y) p:=let ⟨_,_,h⟩:=h;⟨x,y,qkb h⟩
theorem IsPurse.add {s:Sto}{p:Nat} (h:IsPurse s p) (c:Cell) (hp:p < s.nx):IsPurse (s.add c) p:=by
 obtain ⟨x,y,h⟩:=h
 exact ⟨x,y,by rw [qgs,if_neg (by omega)];exact h⟩
theorem pst_add (s:Sto) (p:Nat) (x y x' y':Int) (d:Cell) (hp:p < s.nx):((pst s p x y).add d).set p (.lst [.int x',.int y'])=(pst s p x' y').add d:=by
 rw [qja _ _ _ (by rw [qn9];omega)]
 unfold pst
 rw [qnb]
theorem comp_at {c:XT}{e:XE}{cap:En} (l:List PV) (I:Nat→List PV→Sto→Prop) (h:∀ k q vs s,l[k]?=some q→I k vs s→(∃ s1,c (some q::cap) s=.ok false s1∧I (k+1) vs s1)∨(∃ s1 v s2,c (some q::cap) s=.ok true s1∧e (some q::cap) s1=.ok v s2∧I (k+1) (vs++[v]) s2)) {s:Sto} (h0:I 0 [] s) :
  ∃ vs s',qcw c e cap l s=.ok vs s'∧I l.length vs s':=by
 have main:∀ (r:List PV) (k:Nat) (vs:List PV) (s:Sto),k≤l.length→l.drop k=r→I k vs s→∃ ws s',qcw c e cap r s=.ok ws s'∧I l.length (vs++ws) s':=by
  intro r
  induction r with
  | nil =>
   intro k vs s hk e hI
   have:k=l.length:=Nat.le_antisymm hk (List.drop_eq_nil_iff.mp e)
   subst this
   exact ⟨[],s,rfl,by simpa using hI⟩
  | cons q r ih =>
   intro k vs s hk e' hI
   have hq:l[k]?=some q:=by
    have:=congrArg List.head? e'
    rw [List.head?_drop] at this
    simpa using this
   have e2:l.drop (k+1)=r:=by rw [← List.tail_drop,e'];rfl
   have hk':k+1≤l.length:=(List.getElem?_eq_some_iff.mp hq).1
   rcases h k q vs s hq hI with ⟨s1,h1,h2⟩ | ⟨s1,v,s2,h1,h2,h3⟩
   ·obtain ⟨ws,s',h3,h4⟩:=ih (k+1) vs s1 hk' e2 h2
    exact ⟨ws,s',by rw [qd2,h1];exact h3,h4⟩
   ·obtain ⟨ws,s',h4,h5⟩:=ih (k+1) (vs++[v]) s2 hk' e2 h3
    refine ⟨v::ws,s',by rw [qd2,h1];simp [h2,h4],by simpa using h5⟩
 obtain ⟨ws,s',h1,h2⟩:=main l 0 [] s (Nat.zero_le _) rfl h0
 exact ⟨ws,s',h1,by simpa using h2⟩
theorem qdi {c:XT}{e:XE}{cap:En}{s:Sto} (p:PV→Bool) (f:PV→PV):∀ (l:List PV),(∀ q∈l,c (some q::cap) s=.ok (p q) s)→(∀ q∈l,p q=true→e (some q::cap) s=.ok (f q) s)→qcw c e cap l s=.ok ((l.filter p).map f) s
 | [],_,_=>rfl
 | q::l,h1,h2=>by
  rw [qd2,h1 q List.mem_cons_self]
  have ih:=qdi p f l (fun x hx=>h1 x (List.mem_cons_of_mem _ hx)) (fun x hx=>h2 x (List.mem_cons_of_mem _ hx))
  cases hp:p q with
  | false=>simp [ih,hp]
  | true=>simp [ih,hp,h2 q List.mem_cons_self hp]
theorem qgf {n:Int} (h0:0 < n) (h1:n < 2 ^ 64):Bt 9000 n:=by
 have:Bt 64 n:=by unfold Bt;omega
 exact this.mono (by decide)
theorem qh9:(Str.ofString "abcdefghijklmnopqrstuvwxyz").length≤100000:=by decide
theorem str1_len (c:Nat):(⟨#[c]⟩:Str).length=1:=rfl
theorem word_ok (r:Int) (k:Nat) (m0:0≤(r+7 * (k:Int)) % 26) (m1:(r+7 * (k:Int)) % 26 < 26) {t:Str} (g2:∀ c∈t.cps.toList,97≤c∧c≤122) (hl:t.length≤7):Wd r k (⟨#[97+((r+7 * (k:Int)) % 26).toNat]⟩++t):=by
 have l1:(⟨#[97+((r+7 * (k:Int)) % 26).toNat]⟩:Str).length=1:=rfl
 have lw:(⟨#[97+((r+7 * (k:Int)) % 26).toNat]⟩++t:Str).length=1+t.length:=by rw [qfm,l1]
 have cw:∀ c∈(⟨#[97+((r+7 * (k:Int)) % 26).toNat]⟩++t:Str).cps.toList,97≤c∧c≤122:=fun c hc=>by
  rw [qhl] at hc
  rcases List.mem_append.mp hc with hc | hc
  ·have:c=97+((r+7 * (k:Int)) % 26).toNat:=by simpa using hc
   omega
  ·exact g2 c hc
 refine ⟨⟨by omega,fun c hc=>by have:=cw c hc;omega⟩,?_,?_⟩
 ·unfold isNm
  rw [decide_eq_true (by omega),decide_eq_true (by omega),Bool.true_and,Bool.true_and]
  refine List.all_eq_true.mpr fun c hc=>?_
  have:=cw c hc
  unfold low
  rw [decide_eq_true this.1,decide_eq_true this.2]
  rfl
 ·rw [qhl]
  simp
theorem names_step (a:Adr) (s:Sto) (p:Nat) (hp:p < s.nx) (hP:IsPurse s p) (fst:Int) (hf0:0≤fst) (k:Nat) (hk:k < 14) (x y:Int) (ws:List Str) (hw:ws.length=k) (u v w:Option PV) :
  ∃ x' y' nw u' v' w',Wd fst k nw∧qav (yName 4) (qb6 a) (.int (k:Int)) [some (.ref p),some (.str "abcdefghijklmnopqrstuvwxyz"),some (.int fst),some (.ref s.nx),u,v,w] ((pst s p x y).add (.lst (ws.map .str))) =
   .nx [some (.ref p),some (.str "abcdefghijklmnopqrstuvwxyz"),some (.int fst),some (.ref s.nx),u',v',w'] ((pst s p x' y').add (.lst ((ws++[nw]).map .str))):=by
 have q1:∀ x y,IsPurse ((pst s p x y).add (.lst (ws.map .str))) p:=fun x y=>(hP.pst x y).add _ (by rw [qn9];exact hp)
 obtain ⟨r,xa,ya,r0,r1,e1⟩:=qj6 a _ p 8 (q1 x y) (by decide) (qgf (by decide) (by decide))
 rw [pst_add _ _ _ _ _ _ _ hp] at e1
 obtain ⟨vs,t2,hc,ys,xb,yb,rfl,rfl,hyl,hy⟩:=comp_at (c:=xYes) (e:=x2 (xVar 1) (xCall 2 (qaj a) (xCons (xVar 2) (xCons (xC (.int 26)) xNil))) fIx) (cap:=[some (.str "abcdefghijklmnopqrstuvwxyz"),some (.ref p)]) (rngP 0 r.toNat)
  (fun i vs t=>∃ ys x y,vs=ys.map PV.str∧t=(pst s p x y).add (.lst (ws.map .str))∧ys.length=i∧∀ z∈ys,z.length≤1∧∀ c∈z.cps.toList,97≤c∧c≤122)
  (fun i q vs t hq hI=>by
   obtain ⟨ys,x,y,rfl,rfl,hl,hy⟩:=hI
   obtain ⟨b,x',y',b0,b1,e⟩:=qj6 a _ p 26 (q1 x y) (by decide) (qgf (by decide) (by decide))
   rw [pst_add _ _ _ _ _ _ _ hp] at e
   refine .inr ⟨_,.str ⟨#[97+b.toNat]⟩,_,rfl,?_,ys++[⟨#[97+b.toNat]⟩],x',y',by simp,rfl,by simp [hl],fun z hz=>?_⟩
   ·simp [sem,fInN,qah,fPut,e,letter b0 b1,qh9]
   ·rcases List.mem_append.mp hz with hz | hz
    ·exact hy z hz
    ·rw [List.mem_singleton.mp hz]
     exact ⟨Nat.le_refl _,fun c hc=>by simp at hc;omega⟩) (s:=(pst s p xa ya).add (.lst (ws.map .str))) ⟨[],xa,ya,rfl,rfl,rfl,fun z hz=>by cases hz⟩
 rw [qhf] at hyl
 obtain ⟨g1,g2⟩:=glue_few hy
 have m0:=Int.emod_nonneg (fst+7 * (k:Int)) (show (26:Int)≠0 by decide)
 have m1:=Int.emod_lt_of_pos (fst+7 * (k:Int)) (show (0:Int) < 26 by decide)
 have hmul:qmc 7 (k:Int):=.inr (.inl ⟨by decide,by decide⟩)
 have hlen:(rngP 0 r.toNat).length≤100000:=by rw [qhf];omega
 have hsum:=sum_ones fun z hz=>(hy z hz).1
 have hj:(ys.map (·.length)).sum+ys.length * (Str.ofString "").length≤16777216:=by
  have:(Str.ofString "").length=0:=rfl
  rw [this];omega
 have hcat:(⟨#[97+((fst+7 * (k:Int)) % 26).toNat]⟩:Str).length+(Txt.join (Str.ofString "") ys).length≤100000:=by rw [str1_len];omega
 have hws:ws.length < 100000:=by omega
 have hr1:(-4611686018427387904:Int)≤r:=by omega
 have hr2:r < (4611686018427387904:Int):=by omega
 refine ⟨xb,yb,⟨#[97+((fst+7 * (k:Int)) % 26).toNat]⟩++Txt.join (Str.ofString "") ys,some (.int k),some (.int r),some (.str (Txt.join (Str.ofString "") ys)),?_,?_⟩
 ·exact word_ok fst k m0 m1 g2 (by omega)
 ·simp [sem,fInN,qah,fPut,qav,qb6,e1,qfb,qck,hlen,hc,qev,hj,hmul,letter m0 m1,qh9,hcat,qgs,qn9,hw,hr1,hr2,show k < 100000 by omega,show ∀ c,((pst s p xb yb).add (.lst (ws.map .str))).set s.nx c=(pst s p xb yb).add c from fun c=>qjb (pst s p xb yb) c _]
theorem names_eq (a:Adr) (s:Sto) (p:Nat) (hp:p < s.nx) (hP:IsPurse s p):∃ (x y:Int) (ws:List Str) (fst:Int),ws.length=14∧0≤fst∧(∀ j w,ws[j]?=some w→Wd fst j w)∧qcj a [.ref p] s=.ok (.lst (ws.map .str)) (Sto.bump (pst s p x y)):=by
 obtain ⟨fst,x0,y0,f0,f1,e0⟩:=qj6 a s p 26 hP (by decide) (qgf (by decide) (by decide))
 obtain ⟨ρ',s',hl,x,y,ws,u,v,w,rfl,rfl,hw,hWd⟩:=qhg (body:=qav (yName 4) (qb6 a)) 14
  (fun k ρ t=>∃ (x y:Int) (ws:List Str) (u v w:Option PV),ρ=[some (.ref p),some (.str "abcdefghijklmnopqrstuvwxyz"),some (.int fst),some (.ref s.nx),u,v,w]∧t=(pst s p x y).add (.lst (ws.map .str))∧ws.length=k∧∀ j w,ws[j]?=some w→Wd fst j w)
  (fun k ρ t hk hI=>by
   obtain ⟨x,y,ws,u,v,w,rfl,rfl,hw,hWd⟩:=hI
   obtain ⟨x',y',nw,u',v',w',h1,h2⟩:=names_step a s p hp hP fst f0 k hk x y ws hw u v w
   refine ⟨_,_,h2,x',y',ws++[nw],u',v',w',rfl,rfl,by simp [hw],fun j z hz=>?_⟩
   by_cases hj:j < ws.length
   ·rw [List.getElem?_append_left hj] at hz;exact hWd j z hz
   ·have ej:j=k:=by
     have:=(List.getElem?_eq_some_iff.mp hz).1
     simp at this
     omega
    subst ej
    rw [List.getElem?_append_right (by omega),hw,Nat.sub_self] at hz
    cases hz
    exact h1) (ρ:=[some (.ref p),some (.str "abcdefghijklmnopqrstuvwxyz"),some (.int fst),some (.ref s.nx),none,none,none]) (s:=(pst s p x0 y0).add (.lst (([]:List Str).map .str))) ⟨x0,y0,[],none,none,none,rfl,rfl,rfl,fun j w h=>by simp at h⟩
 refine ⟨x,y,ws,fst,hw,f0,hWd,?_⟩
 have e0':qaj a [.ref p,.int 26] s=.ok (.int fst) (pst s p x0 y0):=e0
 have hl':loopL (qav (yName 4) (qb6 a)) (rngP 0 14) [some (.ref p),some (.str "abcdefghijklmnopqrstuvwxyz"),some (.int fst),some (.ref s.nx),none,none,none] ((pst s p x0 y0).add (.lst []))=_:=hl
 have hd:((pst s p x y).add (.lst (ws.map .str))).del s.nx=Sto.bump (pst s p x y):=del_add (pst s p x y) _
 simp [sem,fInN,qah,fPut,qcj,qg3,e0',qn9,hl',qgs,hd]
end My
namespace My
open PySem L2 Fra
def stk (nx:Nat) (pre:List (Nat×Cell)) (s:Sto) (p:Nat) (x y:Int):Sto:=⟨nx,pre++(pst s p x y).cs⟩
theorem qa7 (k:Nat) (c:Cell) (r:List (Nat×Cell)) (n:Nat):getC ((k,c)::r) n=if k=n then some c else getC r n:=rfl
theorem qfv (k:Nat) (d:Cell) (r:List (Nat×Cell)) (n:Nat) (c:Cell):setC n c ((k,d)::r)=if k=n then (n,c)::r else (k,d)::setC n c r:=rfl
theorem qmv (k:Nat) (d:Cell) (r:List (Nat×Cell)) (n:Nat):delC n ((k,d)::r)=if k=n then r else (k,d)::delC n r:=rfl
theorem qhj {pre l:List (Nat×Cell)}{n:Nat} (h:∀ q∈pre,q.1≠n):getC (pre++l) n=getC l n:=by
 induction pre with
 | nil=>rfl
 | cons q r ih =>
  obtain ⟨k,c⟩:=q
  show getC ((k,c)::(r++l)) n=_
  rw [qa7,if_neg (h (k,c) List.mem_cons_self)]
  exact ih fun x hx=>h x (List.mem_cons_of_mem _ hx)
theorem qkc {pre l:List (Nat×Cell)}{n:Nat}{c:Cell} (h:∀ q∈pre,q.1≠n):setC n c (pre++l)=pre++setC n c l:=by
 induction pre with
 | nil=>rfl
 | cons q r ih =>
  obtain ⟨k,d⟩:=q
  show setC n c ((k,d)::(r++l))=_
  rw [qfv,if_neg (h (k,d) List.mem_cons_self),ih fun x hx=>h x (List.mem_cons_of_mem _ hx)]
  rfl
theorem qo0 {pre l:List (Nat×Cell)}{n:Nat} (h:∀ q∈pre,q.1≠n):delC n (pre++l)=pre++delC n l:=by
 induction pre with
 | nil=>rfl
 | cons q r ih =>
  obtain ⟨k,d⟩:=q
  show delC n ((k,d)::(r++l))=_
  rw [qmv,if_neg (h (k,d) List.mem_cons_self),ih fun x hx=>h x (List.mem_cons_of_mem _ hx)]
  rfl
theorem stk_purse {nx:Nat}{pre:List (Nat×Cell)}{s:Sto}{p:Nat} (hP:IsPurse s p) (h:∀ q∈pre,q.1≠p) (x y:Int):IsPurse (stk nx pre s p x y) p:=by
 obtain ⟨x',y',e⟩:=hP.pst x y
 exact ⟨x',y',by show getC (pre++_) p=_;rw [qhj h];exact e⟩
theorem stk_set (nx:Nat) (pre:List (Nat×Cell)) (s:Sto) (p:Nat) (x y x' y':Int) (h:∀ q∈pre,q.1≠p):(stk nx pre s p x y).set p (.lst [.int x',.int y'])=stk nx pre s p x' y':=by
 unfold stk Sto.set
 simp only
 rw [qkc h]
 have:=qnb s p (.lst [.int x,.int y]) (.lst [.int x',.int y'])
 unfold pst
 congr 1
 rw [← this]
 rfl
theorem qfs (a:Adr) {nx:Nat}{pre:List (Nat×Cell)}{s:Sto}{p:Nat} (hP:IsPurse s p) (h:∀ q∈pre,q.1≠p) (n:Int) (h0:0 < n) (h1:n < 2 ^ 64) (x y:Int):∃ r x' y',0≤r∧r < n∧qaj a [.ref p,.int n] (stk nx pre s p x y)=.ok (.int r) (stk nx pre s p x' y'):=by
 obtain ⟨r,x',y',r0,r1,e⟩:=qj6 a _ p n (stk_purse hP h x y) h0 (qgf h0 h1)
 rw [stk_set _ _ _ _ _ _ _ _ h] at e
 exact ⟨r,x',y',r0,r1,e⟩
theorem at8 (l:List Int) (hl:l.length=8) {r:Int} (h0:0≤r) (h1:r < 8):∃ v∈l,atI (l.map PV.int) r=some (.int v):=by
 obtain ⟨j,rfl⟩:∃ j:Nat,r=j:=⟨r.toNat,by omega⟩
 have hj:j < l.length:=by omega
 exact ⟨l[j],List.getElem_mem hj,qbe (by simp [hj])⟩
structure Part (q:Int×Int):Prop where
 low:Low q
 pos:0 < q.1
 le:q.1≤q.2
 bb:q.2≤1000000000
theorem red_part {t b:Int} (h0:0 < t) (h1:t≤b) (hb:b≤1000000000):Part (red (t,b)):=by
 have b0:0 < b:=by omega
 obtain ⟨lo,ev⟩:=qgn (q:=(t,b)) b0
 simp only at ev
 have dv:=red_dvd (q:=(t,b)) b0
 generalize red (t,b)=q at *
 have q0:=lo.1
 have p1:0 < q.1:=by
  by_cases z:0 < q.1
  ·exact z
  ·have a1:q.1 * b≤0:=Int.mul_nonpos_of_nonpos_of_nonneg (by omega) (by omega)
   have a2:0 < t * q.2:=Int.mul_pos h0 q0
   omega
 refine ⟨lo,p1,?_,Int.le_trans (Int.le_of_dvd b0 dv) hb⟩
 refine Int.le_of_mul_le_mul_right ?_ b0
 rw [ev]
 have:=Int.mul_le_mul_of_nonneg_right h1 (Int.le_of_lt q0)
 rw [Int.mul_comm q.2 b]
 exact this
theorem part_stk (a:Adr) {nx:Nat}{pre:List (Nat×Cell)}{s:Sto}{p:Nat} (hP:IsPurse s p) (h:∀ q∈pre,q.1≠p) (x y:Int):∃ q x' y',Part q∧qcc a [.ref p] (stk nx pre s p x y)=.ok (frP q) (stk nx pre s p x' y'):=by
 obtain ⟨r,xa,ya,r0,r1,e1⟩:=qfs a (nx:=nx) hP h 8 (by decide) (by decide) x y
 obtain ⟨b,hb,eb⟩:=at8 [2,3,4,5,7,10,100,1000000000] rfl r0 r1
 have hb':0 < b∧b≤1000000000:=by
  simp at hb
  rcases hb with h | h | h | h | h | h | h | h <;> omega
 obtain ⟨t,xb,yb,t0,t1,e2⟩:=qfs a (nx:=nx) hP h b hb'.1 (by omega) xa ya
 have e3:=qfz a (stk nx pre s p xb yb) (1+t) b hb'.1 (qgf hb'.1 (by omega))
 refine ⟨red (1+t,b),xb,yb,red_part (by omega) (by omega) hb'.2,?_⟩
 simp only [List.map_cons,List.map_nil] at eb
 simp [sem,fInN,qah,fPut,qcc,qih,e1,e2,e3,eb]
def hP (l:Hl):List (Key×PV):=l.map fun q=>(Sum.inr q.1,frP q.2)
def qc6 (n:Nat):List (Str×Hl)→List (Nat×Cell)
 | []=>[]
 | (_,l)::r=>(n+r.length,.dct (hP l))::qc6 n r
def qec (n:Nat):List (Str×Hl)→List (Key×PV)
 | []=>[]
 | (h,_)::r=>qec n r++[(Sum.inr h,.ref (n+r.length))]
def entP (M:List (Str×Hl)):List (Key×PV):=M.map fun m=>(Sum.inr m.1,.dct (hP m.2))
theorem qip {n:Nat}:∀ {R:List (Str×Hl)},∀ q∈qc6 n R,n≤q.1∧q.1 < n+R.length
 | [],q,h=>by cases h
 | (_,l)::r,q,h=>by
  rcases List.mem_cons.mp h with rfl | h
  ·simp
  ·have:=qip q h
   simp;omega
theorem qmq:∀ (A B:List (Key×PV)) (s:Sto),qfp (A++B) s=match qfp A s with
  | some (A',s1)=>match qfp B s1 with
   | some (B',s2)=>some (A'++B',s2)
   | none=>none
  | none=>none
 | [],B,s=>by
  simp only [List.nil_append,qfp]
  cases qfp B s with
  | none=>rfl
  | some q=>rfl
 | (k,v)::A,B,s=>by
  simp only [List.cons_append,qfp]
  cases h:frz1 v s with
  | ok w s1 =>
   simp only
   rw [qmq A B s1]
   cases qfp A s1 with
   | none=>rfl
   | some q =>
    obtain ⟨A',s2⟩:=q
    simp only
    cases qfp B s2 with
    | none=>rfl
    | some q=>rfl
  | ex=>rfl
  | bad=>rfl
theorem qoq (n nx:Nat):∀ (R:List (Str×Hl)) (pre tail:List (Nat×Cell)),(∀ q∈pre,n+R.length≤q.1)→qfp (qec n R) ⟨nx,pre++(qc6 n R++tail)⟩=some (entP R.reverse,⟨nx,pre++tail⟩)
 | [],pre,tail,_=>rfl
 | (h,l)::r,pre,tail,hp=>by
  have ih:=qoq n nx r (pre++[(n+r.length,.dct (hP l))]) tail (fun q hq=>by
   rcases List.mem_append.mp hq with hq | hq
   ·have:=hp q hq;simp at this;omega
   ·rw [List.mem_singleton.mp hq];exact Nat.le_refl _)
  have e1:pre++(qc6 n ((h,l)::r)++tail)=pre++[(n+r.length,Cell.dct (hP l))]++(qc6 n r++tail):=by simp [qc6]
  rw [e1]
  show qfp (qec n r++_) _=_
  rw [qmq,ih]
  have hne:∀ q∈pre,q.1≠n+r.length:=fun q hq=>by have:=hp q hq;simp at this;omega
  have hg:(⟨nx,pre++[(n+r.length,Cell.dct (hP l))]++tail⟩:Sto).get (n+r.length)=some (.dct (hP l)):=by
   show getC (pre++[_]++tail) _=_
   rw [List.append_assoc,qhj hne]
   simp [getC]
  have hd:(⟨nx,pre++[(n+r.length,Cell.dct (hP l))]++tail⟩:Sto).del (n+r.length)=⟨nx,pre++tail⟩:=by
   unfold Sto.del
   simp only
   rw [List.append_assoc,qo0 hne]
   simp [delC]
  simp only [qfp,frz1,hg,hd]
  simp [entP]
end My
namespace My
open PySem L2 Fra
def bpre (n:Nat) (R:List (Str×Hl)) (pp:List Str) (L:List Ent):List (Nat×Cell):=qc6 (n+3) R++[(n+2,.dct (qec (n+3) R)),(n+1,.book pp L)]
def bst (s:Sto) (p:Nat) (R:List (Str×Hl)) (pp:List Str) (L:List Ent) (x y:Int):Sto:=stk (s.nx+3+R.length) (bpre s.nx R pp L) s p x y
theorem bpre_ne {n p:Nat} (hp:p < n) (R:List (Str×Hl)) (pp:List Str) (L:List Ent):∀ q∈bpre n R pp L,q.1≠p:=fun q hq=>by
 unfold bpre at hq
 rcases List.mem_append.mp hq with hq | hq
 ·have:=qip q hq;omega
 ·simp at hq
  rcases hq with rfl | rfl <;> (simp;omega)
theorem qge {n k:Nat} (R:List (Str×Hl)) (h:k < n):∀ q∈qc6 n R,q.1≠k:=fun q hq=>by have:=qip q hq;omega
theorem qe1 (s:Sto) (p:Nat) (R:List (Str×Hl)) (pp:List Str) (L:List Ent) (x y:Int):(bst s p R pp L x y).get (s.nx+1)=some (.book pp L):=by
 show getC (bpre s.nx R pp L++_) (s.nx+1)=_
 unfold bpre
 rw [List.append_assoc,qhj (qge R (by omega))]
 simp [getC]
theorem qk9 (s:Sto) (p:Nat) (R:List (Str×Hl)) (pp:List Str) (L:List Ent) (x y:Int):(bst s p R pp L x y).get (s.nx+2)=some (.dct (qec (s.nx+3) R)):=by
 show getC (bpre s.nx R pp L++_) (s.nx+2)=_
 unfold bpre
 rw [List.append_assoc,qhj (qge R (by omega))]
 simp [getC]
theorem qk8 (s:Sto) (p:Nat) (R:List (Str×Hl)) (pp pp':List Str) (L L':List Ent) (x y:Int):(bst s p R pp L x y).set (s.nx+1) (.book pp' L')=bst s p R pp' L' x y:=by
 unfold bst stk Sto.set bpre
 simp only
 rw [List.append_assoc,qkc (qge R (by omega))]
 simp [setC]
theorem qll (n:Nat) (h:Str) (l:Hl) (pr:List (Str×Hl)) (tl:List (Nat×Cell)):∀ post:List (Str×Hl),getC (qc6 n (post++(h,l)::pr)++tl) (n+pr.length)=some (.dct (hP l))
 | []=>by
  show getC ((n+pr.length,Cell.dct (hP l))::_) _=_
  rw [qa7,if_pos rfl]
 | (g,m)::post=>by
  show getC ((n+(post++(h,l)::pr).length,Cell.dct (hP m))::(qc6 n (post++(h,l)::pr)++tl)) _=_
  rw [qa7,if_neg (by simp;omega)]
  exact qll n h l pr tl post
theorem qlk (n:Nat) (h:Str) (l l':Hl) (pr:List (Str×Hl)) (tl:List (Nat×Cell)):∀ post:List (Str×Hl),setC (n+pr.length) (.dct (hP l')) (qc6 n (post++(h,l)::pr)++tl)=qc6 n (post++(h,l')::pr)++tl
 | []=>by
  show setC _ _ ((n+pr.length,Cell.dct (hP l))::_)=_
  rw [qfv,if_pos rfl]
  rfl
 | (g,m)::post=>by
  show setC _ _ ((n+(post++(h,l)::pr).length,Cell.dct (hP m))::(qc6 n (post++(h,l)::pr)++tl))=(n+(post++(h,l')::pr).length,Cell.dct (hP m))::(qc6 n (post++(h,l')::pr)++tl)
  rw [qfv,if_neg (by simp;omega),qlk n h l l' pr tl post]
  simp
theorem qms (n:Nat) (h:Str) (l l':Hl) (pr:List (Str×Hl)):∀ post:List (Str×Hl),qec n (post++(h,l)::pr)=qec n (post++(h,l')::pr)
 | []=>rfl
 | (g,m)::post=>by
  show qec n (post++(h,l)::pr)++_=qec n (post++(h,l')::pr)++_
  rw [qms n h l l' pr post]
  simp
theorem qez (n:Nat):∀ R:List (Str×Hl),(qec n R).map (·.1)=R.reverse.map fun m=>Sum.inr m.1
 | []=>rfl
 | (h,l)::r=>by simp [qec,qez n r]
theorem qgg (s:Sto) (p:Nat) (h:Str) (l:Hl) (post pr:List (Str×Hl)) (pp:List Str) (L:List Ent) (x y:Int):(bst s p (post++(h,l)::pr) pp L x y).get (s.nx+3+pr.length)=some (.dct (hP l)):=by
 show getC (bpre s.nx _ pp L++_) _=_
 unfold bpre
 rw [List.append_assoc]
 exact qll (s.nx+3) h l pr _ post
theorem bst_setH (s:Sto) (p:Nat) (h:Str) (l l':Hl) (post pr:List (Str×Hl)) (pp:List Str) (L:List Ent) (x y:Int):(bst s p (post++(h,l)::pr) pp L x y).set (s.nx+3+pr.length) (.dct (hP l'))=bst s p (post++(h,l')::pr) pp L x y:=by
 unfold bst stk Sto.set bpre
 simp only
 rw [List.append_assoc,qlk (s.nx+3) h l l' pr _ post,qms (s.nx+3) h l l' pr post]
 simp
theorem valP_none {l:List (Key×PV)}{k:Key} (h:k∉l.map (·.1)):valP l k=none:=by
 unfold valP
 rw [Option.map_eq_none_iff,List.find?_eq_none]
 intro q hq z
 exact h (List.mem_map.mpr ⟨q,hq,of_decide_eq_true z⟩)
theorem putP_new {l:List (Key×PV)}{k:Key} (v:PV) (h:k∉l.map (·.1)):putP l k v=l++[(k,v)]:=by
 unfold putP
 rw [if_neg]
 intro z
 obtain ⟨q,hq,e⟩:=List.any_eq_true.mp z
 exact h (List.mem_map.mpr ⟨q,hq,of_decide_eq_true e⟩)
theorem valP_app {l k:List (Key×PV)}{q:Key} (h:q∉l.map (·.1)):valP (l++k) q=valP k q:=by
 unfold valP
 rw [List.find?_append]
 have:l.find? (fun kv=>decide (kv.1=q))=none:=by
  rw [List.find?_eq_none]
  intro z hz e
  exact h (List.mem_map.mpr ⟨z,hz,of_decide_eq_true e⟩)
 rw [this];rfl
theorem qox (n:Nat) (h:Str) (l:Hl) (pr:List (Str×Hl)) (hn:h∉pr.map (·.1)):∀ post:List (Str×Hl),valP (qec n (post++(h,l)::pr)) (Sum.inr h)=some (.ref (n+pr.length))
 | []=>by
  show valP (qec n pr++_) _=_
  rw [valP_app]
  ·simp [valP]
  ·rw [qez]
   intro z
   obtain ⟨m,hm,e⟩:=List.mem_map.mp z
   cases e
   exact hn (List.mem_map.mpr ⟨m,by simpa using hm,rfl⟩)
 | (g,m)::post=>by
  show valP (qec n (post++(h,l)::pr)++_) _=_
  have ih:=qox n h l pr hn post
  unfold valP at ih ⊢
  rw [List.find?_append]
  cases hf:(qec n (post++(h,l)::pr)).find? (fun kv=>decide (kv.1=Sum.inr h)) with
  | none=>rw [hf] at ih;cases ih
  | some q=>rw [hf] at ih;exact ih
theorem qom (l:Hl) (n:Str) (h:n∈l.map (·.1)):valP (hP l) (Sum.inr n)=some (frP (getQ l n)):=by
 unfold valP hP getQ qb3
 rw [List.find?_map,Option.map_map]
 have e:((fun kv:Key×PV=>decide (kv.1=Sum.inr n)) ∘ fun q:Str×Int×Int=>((Sum.inr q.1:Key),frP q.2))=fun q=>decide (q.1=n):=by
  funext q
  show decide ((Sum.inr q.1:Key)=Sum.inr n)=_
  rw [qmi]
 rw [e]
 cases hf:l.find? (fun q=>decide (q.1=n)) with
 | none =>
  exfalso
  rw [List.find?_eq_none] at hf
  obtain ⟨q,hq,e⟩:=List.mem_map.mp h
  exact hf q hq (decide_eq_true e)
 | some q=>rfl
theorem hP_keys (l:Hl):(hP l).map (·.1)=l.map fun q=>Sum.inr q.1:=by unfold hP;rw [List.map_map];rfl
theorem hP_get (l:Hl) (n:Str):(valP (hP l) (Sum.inr n)).getD (.tup [.int 0,.int 1])=frP (getQ l n):=by
 by_cases h:n∈l.map (·.1)
 ·rw [qom l n h];rfl
 ·rw [valP_none,getQ_no h]
  ·rfl
  ·rw [hP_keys]
   intro z
   obtain ⟨q,hq,e⟩:=List.mem_map.mp z
   cases e
   exact h (List.mem_map.mpr ⟨q,hq,rfl⟩)
theorem hP_put (l:Hl) (n:Str) (q:Int×Int):putP (hP l) (Sum.inr n) (frP q)=hP (putH l n q):=by
 unfold putP putH hP
 rw [List.any_map]
 have e:((fun kv:Key×PV=>decide (kv.1=Sum.inr n)) ∘ fun q:Str×Int×Int=>((Sum.inr q.1:Key),frP q.2))=fun q=>decide (q.1=n):=by
  funext q
  show decide ((Sum.inr q.1:Key)=Sum.inr n)=_
  rw [qmi]
 rw [e]
 split
 ·rw [List.map_map,List.map_map]
  refine List.map_congr_left fun z _=>?_
  show (if (Sum.inr z.1:Key)=Sum.inr n then ((Sum.inr z.1:Key),frP q) else (Sum.inr z.1,frP z.2))=_
  by_cases hz:z.1=n
  ·simp [hz]
  ·simp [hz]
 ·simp
theorem person_bst (a:Adr) (s:Sto) (p:Nat) (R:List (Str×Hl)) (pp:List Str) (L:List Ent) (x y:Int) (w:Str) (hn:Nm w) (hd:qgp a pp L w=none):qe3 a [.ref (s.nx+1),.str w] (bst s p R pp L x y)=.ok .non (bst s p R (pp++[w]) L x y):=by
 simp [qe3,qc5,qe1,hn,hd,qk8]
theorem house_bst (a:Adr) (s:Sto) (p:Nat) (R:List (Str×Hl)) (pp:List Str) (L:List Ent) (x y:Int) (w o:Str) (t m l:Int) (hn:Nm w∧Nm o) (hd:qgr a pp L w o l=none) :
  qgx a [.ref (s.nx+1),.str w,.str o,.int t,.int m,.int l] (bst s p R pp L x y)=.ok .non (bst s p R pp (L++[⟨w,t,m,l,[(o,1,1)]⟩]) x y):=by
 simp [qgx,qc5,qe1,hn,hd,qk8]
theorem put_bst (s:Sto) (p:Nat) (R:List (Str×Hl)) (pp:List Str) (L:List Ent) (x y:Int) (w o:Str) (hw:w∉R.map (·.1)) (hR:R.length≤8) :
  fPut (.ref (s.nx+2)) (.str w) (.ref (s.nx+3+R.length)) ((bst s p R pp L x y).add (.dct [(Sum.inr o,.tup [.int 1,.int 1])]))=some (bst s p ((w,[(o,1,1)])::R) pp L x y):=by
 have hnx:(bst s p R pp L x y).nx=s.nx+3+R.length:=rfl
 have hg:((bst s p R pp L x y).add (.dct [(Sum.inr o,.tup [.int 1,.int 1])])).get (s.nx+2)=some (.dct (qec (s.nx+3) R)):=by
  rw [qgs,if_neg (by rw [hnx];omega),qk9]
 have hk:(Sum.inr w:Key)∉(qec (s.nx+3) R).map (·.1):=by
  rw [qez]
  intro z
  obtain ⟨m,hm,e⟩:=List.mem_map.mp z
  cases e
  exact hw (List.mem_map.mpr ⟨m,by simpa using hm,rfl⟩)
 have hl:(qec (s.nx+3) R).length < 100000:=by
  have:=congrArg List.length (qez (s.nx+3) R)
  simp at this
  omega
 simp only [fPut,hg,kyOf,hl,if_true,putP_new _ hk]
 congr 1
 rw [qja _ _ _ (by rw [hnx];omega)]
 unfold bst stk Sto.set Sto.add bpre
 simp only
 rw [List.append_assoc,qkc (qge R (by omega))]
 simp [setC,qc6,qec,hP,frP]
 omega
end My
namespace My
open PySem L2 Fra
structure Words (pp hs:List Str):Prop where
 nd:(pp++hs).Nodup
 sm:∀ w∈pp++hs,Sm w
 nm:∀ w∈pp++hs,isNm w=true
 p1:1≤pp.length
 p6:pp.length≤6
 h8:hs.length≤8
theorem qhh (pp:List Str) (w:Str):hasP pp w=true ↔ w∈pp:=by
 unfold hasP
 rw [List.find?_isSome]
 constructor
 ·rintro ⟨x,hx,e⟩
  have:=of_decide_eq_true e
  subst this
  exact hx
 ·intro h
  exact ⟨w,h,decide_eq_true rfl⟩
theorem qf3 (L:List Ent) (w:Str):qea L w=true ↔ w∈L.map (·.nm):=by
 unfold qea qeb
 rw [List.find?_isSome]
 constructor
 ·rintro ⟨x,hx,e⟩
  exact List.mem_map.mpr ⟨x,hx,of_decide_eq_true e⟩
 ·intro h
  obtain ⟨x,hx,e⟩:=List.mem_map.mp h
  exact ⟨x,hx,decide_eq_true e⟩
theorem qma (a:Adr) {pp:List Str}{L:List Ent}{w:Str} (h1:isNm w=true) (h2:w∉pp) (h3:w∉L.map (·.nm)):qem a pp L w=none:=by
 unfold qem
 have e1:hasP pp w=false:=by rw [Bool.eq_false_iff];exact fun z=>h2 ((qhh _ _).mp z)
 have e2:qea L w=false:=by rw [Bool.eq_false_iff];exact fun z=>h3 ((qf3 _ _).mp z)
 rw [if_neg (by rw [h1];decide),e1,e2]
 rfl
theorem qlb {ws:List Str}{r:Int} (h0:0≤r) (h1:r < ws.length):∃ w∈ws,atI (ws.map PV.str) r=some (.str w):=by
 obtain ⟨j,rfl⟩:∃ j:Nat,r=j:=⟨r.toNat,by omega⟩
 have hj:j < ws.length:=by omega
 exact ⟨ws[j],List.getElem_mem hj,qbe (by simp [hj])⟩
def fr0 (p n:Nat) (wd:Option PV) (pp hs:List Str):En:=[some (.ref p),wd,some (.ref (n+1)),some (.lst (pp.map .str)),some (.lst (hs.map .str)),some (.ref (n+2))]
theorem ql0 (a:Adr) (s:Sto) (p:Nat) (x y:Int) {pp hs:List Str} (W:Words pp hs) (wd o6 o7 o8 o9 o10 o11 o12 o13 o14:Option PV) :
  ∃ o,loopL (qav (yName 6) (qc3 a)) (pp.map .str) (fr0 p s.nx wd pp hs++[o6,o7,o8,o9,o10,o11,o12,o13,o14]) (bst s p [] [] [] x y)=.nx (fr0 p s.nx wd pp hs++[o,o7,o8,o9,o10,o11,o12,o13,o14]) (bst s p [] pp [] x y):=by
 obtain ⟨e',s',h1,rfl,o,rfl⟩:=qh6 (body:=qav (yName 6) (qc3 a)) (pp.map .str) (fun k ρ t=>t=bst s p [] (pp.take k) [] x y∧∃ o,ρ=fr0 p s.nx wd pp hs++[o,o7,o8,o9,o10,o11,o12,o13,o14])
  (fun k q ρ t hq hI=>by
   obtain ⟨rfl,o,rfl⟩:=hI
   rw [List.getElem?_map] at hq
   cases hw:pp[k]? with
   | none=>rw [hw] at hq;cases hq
   | some w =>
    rw [hw] at hq
    cases hq
    have hk:k < pp.length:=(List.getElem?_eq_some_iff.mp hw).1
    have hmem:w∈pp:=List.mem_of_getElem? hw
    have e1:pp.take (k+1)=pp.take k++[w]:=by rw [List.take_add_one,hw];rfl
    have nd:pp.Nodup:=(List.nodup_append.mp W.nd).1
    have hnot:w∉pp.take k:=fun z=>by
     have:(pp.take (k+1)).Nodup:=nd.sublist (List.take_sublist _ _)
     rw [e1] at this
     exact (List.nodup_append.mp this).2.2 w z w List.mem_cons_self rfl
    have hd:qgp a (pp.take k) [] w=none:=by
     unfold qgp
     rw [qma a (W.nm w (List.mem_append_left _ hmem)) hnot (by simp)]
     simp only
     rw [if_neg]
     rw [List.length_take]
     have:=W.p6
     omega
    have hdo:=person_bst a s p [] (pp.take k) [] x y w (W.sm w (List.mem_append_left _ hmem)).nm hd
    refine ⟨_,_,?_,rfl,some (.str w),rfl⟩
    simp [sem,fInN,qah,fPut,qav,qc3,fr0,qe1,hdo,e1]) (ρ:=fr0 p s.nx wd pp hs++[o6,o7,o8,o9,o10,o11,o12,o13,o14]) (s:=bst s p [] [] [] x y) ⟨rfl,o6,rfl⟩
 rw [List.length_map,List.take_length] at h1
 exact ⟨o,h1⟩
inductive Pairs (N:List Str) (c:Nat):List Ent→List (Str×Hl)→Prop
 | nil:Pairs N c [] []
 | cons {e:Ent}{m:Str×Hl}{L:List Ent}{M:List (Str×Hl)}:e.nm=m.1→HR c e.held m.2→(∀ n∈m.2.map (·.1),n∈N)→0≤e.ls→Pairs N c L M→Pairs N c (e::L) (m::M)
theorem Pairs.names {N:List Str}{c:Nat}{L:List Ent}{M:List (Str×Hl)} (h:Pairs N c L M):L.map (·.nm)=M.map (·.1):=by
 induction h with
 | nil=>rfl
 | cons h1 _ _ _ _ ih=>rw [List.map_cons,List.map_cons,h1,ih]
theorem Pairs.app {N:List Str}{c:Nat}{L L':List Ent}{M M':List (Str×Hl)} (h:Pairs N c L M) (h':Pairs N c L' M'):Pairs N c (L++L') (M++M'):=by
 induction h with
 | nil=>exact h'
 | cons h1 h2 h3 h4 _ ih=>exact .cons h1 h2 h3 h4 ih
structure Half (pp hs:List Str) (k:Nat) (R:List (Str×Hl)) (L:List Ent):Prop where
 ln:L.map (·.nm)=hs.take k
 pr:Pairs (pp++hs) 0 L R.reverse
theorem Half.rn {pp hs:List Str}{k:Nat}{R:List (Str×Hl)}{L:List Ent} (h:Half pp hs k R L):R.reverse.map (·.1)=hs.take k:=by rw [← h.pr.names,h.ln]
theorem qo2 (ws:List PV) (k:Nat) (hk:k≤ws.length):cutP ws none (some (k:Int))=ws.take k:=by
 unfold cutP
 simp [HT.sIx]
 have:min k ws.length=k:=by omega
 split
 ·omega
 ·omega
theorem qd5 (a:Adr) (s:Sto) (p:Nat) (hp:p < s.nx) (hP:IsPurse s p) (R:List (Str×Hl)) (pp:List Str) (L:List Ent) (n:Int) (h0:0 < n) (h1:n < 2 ^ 64) (x y:Int):∃ r x' y',0≤r∧r < n∧qaj a [.ref p,.int n] (bst s p R pp L x y)=.ok (.int r) (bst s p R pp L x' y'):=qfs a hP (bpre_ne hp R pp L) n h0 h1 x y
theorem part_bst (a:Adr) (s:Sto) (p:Nat) (hp:p < s.nx) (hP:IsPurse s p) (R:List (Str×Hl)) (pp:List Str) (L:List Ent) (x y:Int):∃ q x' y',Part q∧qcc a [.ref p] (bst s p R pp L x y)=.ok (frP q) (bst s p R pp L x' y'):=part_stk a hP (bpre_ne hp R pp L) x y
theorem qno (a:Adr) (s:Sto) (p:Nat) (hp:p < s.nx) (hP:IsPurse s p) (x y:Int) {pp hs:List Str} (W:Words pp hs) (wd o6 o7 o8 o9 o10 o11 o12 o13 o14:Option PV) :
  ∃ x' y' R L o o',Half pp hs hs.length R L∧loopL (qav (yName 7) (qc2 a)) (rngP 0 hs.length) (fr0 p s.nx wd pp hs++[o6,o7,o8,o9,o10,o11,o12,o13,o14]) (bst s p [] pp [] x y)=.nx (fr0 p s.nx wd pp hs++[o6,o,o',o9,o10,o11,o12,o13,o14]) (bst s p R pp L x' y'):=by
 obtain ⟨e',s',h1,x',y',R,L,o,o',rfl,rfl,hH⟩:=qhg (body:=qav (yName 7) (qc2 a)) hs.length (fun k ρ t=>∃ x y R L o o',t=bst s p R pp L x y∧ρ=fr0 p s.nx wd pp hs++[o6,o,o',o9,o10,o11,o12,o13,o14]∧Half pp hs k R L)
  (fun k ρ t hk hI=>by
   obtain ⟨x,y,R,L,o,o',rfl,rfl,hH⟩:=hI
   have hlen:R.length=k:=by
    have:=congrArg List.length hH.rn
    simp at this
    omega
   have hLl:L.length=k:=by
    have:=congrArg List.length hH.ln
    simp at this
    omega
   obtain ⟨r,xa,ya,r0,r1,e1⟩:=qd5 a s p hp hP R pp L ((pp.length:Int)+(k:Int)) (by have:=W.p1;omega) (by have:=W.p6;have:=W.h8;omega) x y
   obtain ⟨ow,how,eow⟩:=qlb (ws:=pp++hs.take k) r0 (by rw [List.length_append,List.length_take];omega)
   obtain ⟨t1,xb,yb,t10,t11,e2⟩:=qd5 a s p hp hP R pp L 100 (by decide) (by decide) xa ya
   obtain ⟨t2,xc,yc,t20,t21,e3⟩:=qd5 a s p hp hP R pp L 60 (by decide) (by decide) xb yb
   obtain ⟨t3,xd,yd,t30,t31,e4⟩:=qd5 a s p hp hP R pp L 40 (by decide) (by decide) xc yc
   have hw:hs[k]?=some hs[k]:=List.getElem?_eq_getElem hk
   have eh:atI (hs.map PV.str) (k:Int)=some (.str hs[k]):=qbe (by simp [hk])
   have hmem:hs[k]∈hs:=List.getElem_mem hk
   have hin:hs[k]∈pp++hs:=List.mem_append_right _ hmem
   have ndh:hs.Nodup:=(List.nodup_append.mp W.nd).2.1
   have e5:hs.take (k+1)=hs.take k++[hs[k]]:=by rw [List.take_add_one,hw];rfl
   have hnot:hs[k]∉hs.take k:=fun z=>by
    have:(hs.take (k+1)).Nodup:=ndh.sublist (List.take_sublist _ _)
    rw [e5] at this
    exact (List.nodup_append.mp this).2.2 _ z _ List.mem_cons_self rfl
   have hnp:hs[k]∉pp:=fun z=>(List.nodup_append.mp W.nd).2.2 _ z _ hmem rfl
   have how':ow∈pp++hs:=by
    rcases List.mem_append.mp how with h | h
    ·exact List.mem_append_left _ h
    ·exact List.mem_append_right _ (List.mem_of_mem_take h)
   have hd:qgr a pp L hs[k] ow t3=none:=by
    unfold qgr
    rw [qma a (W.nm _ hin) hnp (by rw [hH.ln];exact hnot)]
    simp only
    have hh:(hasP pp ow || qea L ow)=true:=by
     rw [Bool.or_eq_true,qhh,qf3,hH.ln]
     exact List.mem_append.mp how
    rw [if_neg (by rw [hh];decide),if_neg (by omega),if_neg]
    have:=W.h8
    omega
   have hdo:=house_bst a s p R pp L xd yd hs[k] ow (t1 - 30) (t2 - 10) t3 ⟨(W.sm _ hin).nm,(W.sm _ how').nm⟩ hd
   have hput:=put_bst s p R pp (L++[⟨hs[k],t1 - 30,t2 - 10,t3,[(ow,1,1)]⟩]) xd yd hs[k] ow (by
    intro z
    obtain ⟨m,hm,e⟩:=List.mem_map.mp z
    refine hnot ?_
    rw [← hH.rn,← e]
    exact List.mem_map.mpr ⟨m,by simpa using hm,rfl⟩) (by have:=W.h8;omega)
   have ecut:cutP (hs.map PV.str) none (some (k:Int))=(hs.take k).map PV.str:=by
    rw [qo2 _ _ (by simp;omega),List.map_take]
   have eow':atI (pp.map PV.str++List.take k (hs.map PV.str)) r=some (.str ow):=by
    rw [← List.map_take,← List.map_append]
    exact eow
   have hnx:∀ L x y,(bst s p R pp L x y).nx=s.nx+3+R.length:=fun _ _ _=>rfl
   have ecat:pp.map PV.str++(hs.take k).map PV.str=(pp++hs.take k).map PV.str:=by simp
   have hsz:pp.length+min k hs.length≤100000:=by have:=W.p6;have:=W.h8;omega
   refine ⟨_,_,?_,xd,yd,(hs[k],[(ow,1,1)])::R,L++[⟨hs[k],t1 - 30,t2 - 10,t3,[(ow,1,1)]⟩],some (.int k),some (.str ow),rfl,rfl,?_⟩
   ·simp [sem,fInN,qah,qav,qc2,fr0,qe1,e1,e2,e3,e4,eow',eh,hdo,hput,ecut,hsz,hnx]
   ·refine ⟨?_,?_⟩
    ·rw [List.map_append,hH.ln,e5]
     rfl
    ·rw [List.reverse_cons]
     exact hH.pr.app (.cons rfl (hr_one 0 (W.sm _ how')) (fun n hn=>by cases List.mem_singleton.mp hn;exact how') t30 .nil)) (ρ:=fr0 p s.nx wd pp hs++[o6,o7,o8,o9,o10,o11,o12,o13,o14]) (s:=bst s p [] pp [] x y) ⟨x,y,[],[],o7,o8,rfl,rfl,⟨by simp,.nil⟩⟩
 exact ⟨x',y',R,L,o,o',hH,h1⟩
end My
namespace My
open PySem L2 Fra
def havN (l:Hl):List Str:=(l.map (·.1)).filter fun n=>decide (0 < (getQ l n).1)
theorem havN_srt {l:Hl}{n:Str}:n∈srt (havN l) ↔ n∈l.map (·.1)∧0 < (getQ l n).1:=by
 rw [(qbq _).mem_iff]
 unfold havN
 rw [List.mem_filter,decide_eq_true_iff]
theorem setC_same {n:Nat}{c:Cell}:∀ (l:List (Nat×Cell)),getC l n=some c→setC n c l=l:=by
 intro l
 induction l with
 | nil=>intro h;cases h
 | cons q r ih =>
  obtain ⟨k,d⟩:=q
  intro h
  rw [qa7] at h
  rw [qfv]
  by_cases e:k=n
  ·rw [if_pos e] at h ⊢
   cases h
   rw [e]
  ·rw [if_neg e] at h ⊢
   rw [ih h]
theorem set_same {t:Sto}{n:Nat}{c:Cell} (h:t.get n=some c):t.set n c=t:=by
 unfold Sto.set
 rw [setC_same _ h]
theorem having_eq {ρ:En}{t:Sto}{n:Nat}{l:Hl} (hρ:ρ[10]?=some (some (.ref n))) (hg:t.get n=some (.dct (hP l))) (hl:l.length≤100000) :
  qld 10 [10] (xTr (x2 (x2 (x2 (xVar 1) (xVar 0) fIx) (xC (.int 0)) fIx) (xC (.int 0)) fGt)) (xVar 0) ρ t=.ok (.lst ((havN l).map .str)) t:=by
 have hg1:(t.set n (.dfz (hP l))).get n=some (.dfz (hP l)):=qkb hg
 have hlen:(hP l).length≤100000:=by unfold hP;simpa using hl
 have ek:((hP l).map fun kv=>keyP kv.1)=(l.map (·.1)).map PV.str:=by unfold hP;simp [keyP]
 have hc:qcw (xTr (x2 (x2 (x2 (xVar 1) (xVar 0) fIx) (xC (.int 0)) fIx) (xC (.int 0)) fGt)) (xVar 0) (qck [10] ρ) ((l.map (·.1)).map PV.str) (t.set n (.dfz (hP l)))=.ok (((((l.map (·.1)).map PV.str).filter fun q=>match q with
   | .str w=>decide (0 < (getQ l w).1)
   | _=>false)).map id) (t.set n (.dfz (hP l))):=by
  refine qdi _ _ _ (fun q hq=>?_) (fun q hq _=>?_)
  ·obtain ⟨w,hw,rfl⟩:=List.mem_map.mp hq
   have hv:=qom l w hw
   simp [sem,fInN,qah,fPut,qck,hρ,hg1,hv,frP,at0,fGt]
  ·simp [xVar]
 unfold qld
 rw [hρ]
 simp only
 rw [hg]
 simp only
 rw [if_pos hlen,ek,hc]
 simp only [Out.bind,thw,hg1,qnb,set_same hg]
 congr 2
 unfold havN
 rw [List.map_id,List.filter_map]
 rfl
def shr (g q:Int×Int):Int×Int:=red (g.1 * q.1,g.2 * q.2)
theorem shr_ok {c:Nat} (hc:c≤5) {g q:Int×Int} (hg:FrC c g) (g0:0 < g.1) (hq:Part q) (hb:(shr g q).2 < 10 ^ 28):ShOk (shr g q)∧0 < (shr g q).1∧(shr g q).1 * g.2≤g.1 * (shr g q).2:=by
 have q2:0 < q.2:=hq.low.1
 have g2:0 < g.2:=hg.low.1
 obtain ⟨lo,ev⟩:=qgn (q:=(g.1 * q.1,g.2 * q.2)) (Int.mul_pos g2 q2)
 simp only at ev
 change Low (shr g q) at lo
 change (shr g q).1 * (g.2 * q.2)=g.1 * q.1 * (shr g q).2 at ev
 generalize shr g q=r at *
 have r2:0 < r.2:=lo.1
 have p1:0 < g.1 * q.1 * r.2:=Int.mul_pos (Int.mul_pos g0 hq.pos) r2
 have r1:0 < r.1:=by
  rcases Int.lt_trichotomy 0 r.1 with h | h | h
  ·exact h
  ·rw [← h,Int.zero_mul] at ev;omega
  ·have:=Int.mul_neg_of_neg_of_pos h (Int.mul_pos g2 q2);omega
 have le1:r.1 * g.2≤g.1 * r.2:=by
  refine Int.le_of_mul_le_mul_right (a:=q.2) ?_ q2
  have e1:r.1 * g.2 * q.2=g.1 * r.2 * q.1:=by
   rw [Int.mul_assoc,ev,Int.mul_assoc,Int.mul_assoc,Int.mul_comm q.1]
  rw [e1]
  exact Int.mul_le_mul_of_nonneg_left hq.le (Int.le_of_lt (Int.mul_pos g0 r2))
 have bb:Bt 94 r.2:=by unfold Bt;omega
 refine ⟨⟨lo,?_,bb⟩,r1,le1⟩
 have hv:=part_le hg lo le1
 have hp:((2 ^ c:Nat):Int)≤32:=by
  have:2 ^ c≤2 ^ 5:=Nat.pow_le_pow_right (by decide) hc
  omega
 have:r.1≤32 * r.2:=Int.le_trans hv (Int.mul_le_mul_of_nonneg_right hp (Int.le_of_lt r2))
 unfold Bt
 omega
theorem two_gq {c:Nat} (hc:c≤5) {g q:Int×Int} (hg:FrC c g) (hq:Part q):Two' g q:=by
 have q2:=hq.low.1
 have h1:=hq.bb
 have h2:=hq.le
 have h3:=hq.pos
 refine ⟨hg.low.1,q2,⟨hg.bb.mono (by omega),?_⟩,hg.top.mono (by omega),?_⟩
 ·have:Bt 30 q.2:=by unfold Bt;omega
  exact this.mono (by decide)
 ·have:Bt 30 q.1:=by unfold Bt;omega
  exact this.mono (by decide)
theorem FrB.top {c k:Nat} (hc:c≤5) (hk:k≤2000) {g:Int×Int} (hg:FrB k (2 ^ c:Nat) g):Bt 3000 g.1:=by
 have hp:((2 ^ c:Nat):Int)≤32:=by
  have:2 ^ c≤2 ^ 5:=Nat.pow_le_pow_right (by decide) hc
  omega
 have h2:=hg.low.1
 have:g.1≤32 * g.2:=Int.le_trans hg.le (Int.mul_le_mul_of_nonneg_right hp (Int.le_of_lt h2))
 have b:Bt (6+k) (32 * g.2):=Bt.mul (by unfold Bt;decide:Bt 6 32) hg.bb
 have b2:Bt 3000 (32 * g.2):=b.mono (by omega)
 have h0:=hg.nn
 unfold Bt at b2 ⊢
 omega
theorem two_sh {c k:Nat} (hc:c≤5) (hk:k≤2000) {g q:Int×Int} (hg:FrB k (2 ^ c:Nat) g) (hq:ShOk q):Two' g q :=
 ⟨hg.low.1,hq.low.1,⟨hg.bb.mono (by omega),hq.bb.mono (by omega)⟩,(hg.top hc hk).mono (by omega),hq.bt.mono (by omega)⟩
theorem two_neg {g q:Int×Int} (h:Two' g q):Two' g (-q.1,q.2):=⟨h.p0,h.q0,h.b,h.t.1,h.t.2.neg⟩
theorem qou {A B:List Ent}{e:Ent} (hn:e.nm∉A.map (·.nm)):qeb (A++e::B) e.nm=some e:=by
 unfold qeb
 rw [List.find?_append,List.find?_eq_none.mpr]
 ·simp
 ·intro x hx z
  exact hn (List.mem_map.mpr ⟨x,hx,of_decide_eq_true z⟩)
theorem setEE_mid {A B:List Ent}{e:Ent} (g:Ent→Ent) (h1:e.nm∉A.map (·.nm)) (h2:e.nm∉B.map (·.nm)):setEE (A++e::B) e.nm g=A++g e::B:=by
 have no:∀ {l:List Ent},e.nm∉l.map (·.nm)→l.map (fun x=>if x.nm=e.nm then g x else x)=l:=fun {l} h=>by
  conv=>rhs;rw [← List.map_id l]
  refine List.map_congr_left fun x hx=>?_
  rw [if_neg fun z=>h (List.mem_map.mpr ⟨x,hx,z⟩)]
  rfl
 unfold setEE
 rw [List.map_append,List.map_cons,if_pos rfl,no h1,no h2]
theorem qn8 (s:Sto) (p:Nat) (h:Str) (l:Hl) (post pr:List (Str×Hl)) (pp:List Str) (L:List Ent) (x y:Int) (o:Str) (q:Int×Int) (hl:l.length < 1000) :
  fPut (.ref (s.nx+3+pr.length)) (.str o) (frP q) (bst s p (post++(h,l)::pr) pp L x y)=some (bst s p (post++(h,putH l o q)::pr) pp L x y):=by
 have hlen:(hP l).length < 100000:=by unfold hP;rw [List.length_map];omega
 simp only [fPut,qgg,kyOf,hlen,if_true,hP_put,bst_setH]
theorem sale_bst (a:Adr) (s:Sto) (p:Nat) (R:List (Str×Hl)) (pp:List Str) (A B:List Ent) (e:Ent) (x y:Int) (o1 o2:Str) (q:Int×Int) (nd:((A++e::B).map (·.nm)).Nodup) (hn:Nm e.nm∧Nm o1∧Nm o2) (hz:Sz q) (ok:SaleOk e.held o1 q)
  (h1:(hasP pp o1 || qea (A++e::B) o1)=true) (h2:(hasP pp o2 || qea (A++e::B) o2)=true) (nt:¬ qds e.held o1 q) :
  qj1 a [.ref (s.nx+1),.str e.nm,.str o1,.str o2,frP q] (bst s p R pp (A++e::B) x y)=.ok .non (bst s p R pp (A++{ e with held:=sold e.held o1 o2 q }::B) x y):=by
 rw [List.map_append,List.map_cons] at nd
 have n1:e.nm∉A.map (·.nm):=fun z=>(List.nodup_append.mp nd).2.2 _ z _ List.mem_cons_self rfl
 have n2:e.nm∉B.map (·.nm):=(List.nodup_cons.mp (List.nodup_append.mp nd).2.1).1
 have hS:SaleE (A++e::B) e.nm o1 o2 q:=⟨by rw [List.map_append,List.map_cons];exact nd,hn,hz,fun e' he=>by rw [qou n1] at he;cases he;exact ok⟩
 obtain ⟨t,b⟩:=q
 simp [qj1,qc5,qe1,hS,qou n1,nt,frP,qk8,setEE_mid _ n1 n2]
 rw [Bool.or_eq_true] at h1 h2
 rw [if_neg (by intro z;rcases h1 with h | h <;> simp_all),if_neg (by intro z;rcases h2 with h | h <;> simp_all)]
theorem sale_step (a:Adr) (s:Sto) (p:Nat) (hp:p < s.nx) (hP:IsPurse s p) {pp hs:List Str} (W:Words pp hs) (post pr:List (Str×Hl)) (A B:List Ent) (e:Ent) (l:Hl) (x y:Int) {c:Nat} (hc:c≤4)
  (hln:(A++e::B).map (·.nm)=hs) (hr:HR c e.held l) (hN:∀ n∈l.map (·.1),n∈pp++hs) (wd o6 o7 o8 o11 o12 o13 o14:Option PV) :
  ∃ x' y' hl' l' u1 u2 u3 u4,qb7 a (fr0 p s.nx wd pp hs++[o6,o7,o8,some (.str e.nm),some (.ref (s.nx+3+pr.length)),o11,o12,o13,o14]) (bst s p (post++(e.nm,l)::pr) pp (A++e::B) x y)
  =.nx (fr0 p s.nx wd pp hs++[o6,o7,o8,some (.str e.nm),some (.ref (s.nx+3+pr.length)),u1,u2,u3,u4]) (bst s p (post++(e.nm,l')::pr) pp (A++{ e with held:=hl' }::B) x' y')∧HR (c+1) hl' l'∧∀ n∈l'.map (·.1),n∈pp++hs:=by
 have hav:=having_eq (ρ:=fr0 p s.nx wd pp hs++[o6,o7,o8,some (.str e.nm),some (.ref (s.nx+3+pr.length)),o11,o12,o13,o14]) rfl (qgg s p e.nm l post pr pp (A++e::B) x y) (by have:=hr.l2;omega)
 have hne:srt (havN l)≠[]:=by
  obtain ⟨n,hn⟩:=hr.ex
  rw [hr.q] at hn
  intro z
  have:n∈srt (havN l):=havN_srt.mpr ⟨hr.had hn,hn⟩
  rw [z] at this
  cases this
 have hlt:(havN l).length≤5:=by
  unfold havN
  refine Nat.le_trans (List.length_filter_le _ _) ?_
  rw [List.length_map]
  have:=hr.l2
  omega
 have hpos:0 < (havN l).length:=by
  rw [← qaw]
  exact List.length_pos_iff.mpr hne
 obtain ⟨r,xa,ya,r0,r1,e1⟩:=qd5 a s p hp hP (post++(e.nm,l)::pr) pp (A++e::B) ((havN l).length:Int) (by omega) (by omega) x y
 obtain ⟨w1,hw1,ew1⟩:=qlb (ws:=srt (havN l)) r0 (by rw [qaw];exact r1)
 obtain ⟨w1in,w1pos⟩:=havN_srt.mp hw1
 obtain ⟨r',xb,yb,r0',r1',e2⟩:=qd5 a s p hp hP (post++(e.nm,l)::pr) pp (A++e::B) ((pp.length:Int)+(hs.length:Int)) (by have:=W.p1;omega) (by have:=W.p6;have:=W.h8;omega) xa ya
 obtain ⟨w2,hw2,ew2⟩:=qlb (ws:=pp++hs) r0' (by rw [List.length_append];omega)
 obtain ⟨q,xc,yc,hq,e3⟩:=part_bst a s p hp hP (post++(e.nm,l)::pr) pp (A++e::B) xb yb
 have fr1:FrC c (getQ l w1):=by rw [← hr.q];exact hr.fr w1
 have e4:=ltimes_eq a (bst s p (post++(e.nm,l)::pr) pp (A++e::B) xc yc) (getQ l w1) q (two_gq (by omega) fr1 hq)
 have hv:=qom l w1 w1in
 have hg:=fun x y=>qgg s p e.nm l post pr pp (A++e::B) x y
 have sz1:pp.length+hs.length≤100000:=by have:=W.p6;have:=W.h8;omega
 have sz2:(havN l).length < 64:=by omega
 have ew2':atI (pp.map PV.str++hs.map PV.str) r'=some (.str w2):=by rw [← List.map_append];exact ew2
 have hcom:∀ k:Nat→Prop,True:=fun _=>trivial
 by_cases hb:(shr (getQ l w1) q).2 < 10 ^ 28
 ·obtain ⟨ok,sp,sl⟩:=shr_ok (by omega) fr1 w1pos hq hb
  have hb':(shr (getQ l w1) q).2 < 10000000000000000000000000000:=hb
  change qbl a [frP (getQ l w1),frP q] _=.ok (frP (shr (getQ l w1) q)) _ at e4
  generalize shr (getQ l w1) q=sh at *
  have nt:¬ qds e.held w1 sh:=by
   intro z
   rcases z with z | z
   ·exact z sp
   ·rw [hr.q] at z;omega
  have nde:((A++e::B).map (·.nm)).Nodup:=by rw [hln];exact (List.nodup_append.mp W.nd).2.1
  have hin:∀ n∈pp++hs,(hasP pp n || qea (A++e::B) n)=true:=fun n hn=>by
   rw [Bool.or_eq_true,qhh,qf3,hln]
   exact List.mem_append.mp hn
  have ein:e.nm∈pp++hs:=List.mem_append_right _ (by rw [← hln];simp)
  have e5:=sale_bst a s p (post++(e.nm,l)::pr) pp A B e xc yc w1 w2 sh nde ⟨(W.sm _ ein).nm,(W.sm _ (hN _ w1in)).nm,(W.sm _ hw2).nm⟩ ok.sz (hr.saleOk (by omega) ok) (hin _ (hN _ w1in)) (hin _ hw2) nt
  have R1:=qm8 fr1 ok.low sp sl ok.bb
  have e6:=qog a (bst s p (post++(e.nm,l)::pr) pp (A++{ e with held:=sold e.held w1 w2 sh }::B) xc yc) (getQ l w1) (-sh.1,sh.2) (two_neg (two_sh (c:=c) (by omega) (by omega) fr1 ok))
  have hp1:=qn8 s p e.nm l post pr pp (A++{ e with held:=sold e.held w1 w2 sh }::B) xc yc w1 (addR (getQ l w1) (-sh.1,sh.2)) (by have:=hr.l2;omega)
  generalize hl1:putH l w1 (addR (getQ l w1) (-sh.1,sh.2))=l1 at *
  have g1:FrB (192 * c+2+94) (2 ^ c:Nat) (getQ l1 w2):=by
   rw [← hl1,qc8]
   by_cases z:w2=w1
   ·rw [if_pos z];exact R1
   ·rw [if_neg z,← hr.q]
    have f2:=hr.fr w2
    exact ⟨f2.low,f2.nn,f2.le,f2.bb.mono (by omega)⟩
  have e7:=qog a (bst s p (post++(e.nm,l1)::pr) pp (A++{ e with held:=sold e.held w1 w2 sh }::B) xc yc) (getQ l1 w2) sh (two_sh (by omega) (by omega) g1 ok)
  have hl1n:l1.length < 1000:=by rw [← hl1];have:=qnm l w1 (addR (getQ l w1) (-sh.1,sh.2));have:=hr.l2;omega
  have hp2:=qn8 s p e.nm l1 post pr pp (A++{ e with held:=sold e.held w1 w2 sh }::B) xc yc w2 (addR (getQ l1 w2) sh) hl1n
  have hg2:=qgg s p e.nm l post pr pp (A++{ e with held:=sold e.held w1 w2 sh }::B) xc yc
  have hg3:=qgg s p e.nm l1 post pr pp (A++{ e with held:=sold e.held w1 w2 sh }::B) xc yc
  have hget:=hP_get l1 w2
  have hlw:qnl l w1 w2 sh=putH l1 w2 (addR (getQ l1 w2) sh):=by unfold qnl;simp only [hl1]
  refine ⟨xc,yc,sold e.held w1 w2 sh,qnl l w1 w2 sh,some (.lst ((srt (havN l)).map .str)),some (.str w1),some (.str w2),some (.tup [.int sh.1,.int sh.2]),?_,hr.sale ok (W.sm _ hw2) nt,?_⟩
  ·unfold qb7
   simp only [xSeq,xSet,xB,xCons,xNil,hav]
   simp only [frP] at e3 e4 hv e5 e6 hp1 e7 hp2 hget
   simp [sem,fInN,qah,fr0,qev,sz2,qaw,e1,ew1,sz1,e2,ew2',hg,hv,e3,e4,at0,at1,fLt,hb',qe1,e5,hg2,e6,hp1,hg3,hget,e7,hp2,hlw]
  ·intro n hn
   have h1:∀ n∈l1.map (·.1),n∈pp++hs:=fun n hn=>by
    rw [← hl1,qbt,if_pos w1in] at hn
    exact hN n hn
   rw [hlw,qbt] at hn
   split at hn
   ·exact h1 n hn
   ·rcases List.mem_append.mp hn with h | h
    ·exact h1 n h
    ·rw [List.mem_singleton.mp h];exact hw2
 ·refine ⟨xc,yc,e.held,l,some (.lst ((srt (havN l)).map .str)),some (.str w1),some (.str w2),some (.tup [.int (shr (getQ l w1) q).1,.int (shr (getQ l w1) q).2]),?_,hr.mono (by omega),hN⟩
  change qbl a [frP (getQ l w1),frP q] _=.ok (frP (shr (getQ l w1) q)) _ at e4
  have hb'':¬ (shr (getQ l w1) q).2 < 10000000000000000000000000000:=hb
  unfold qb7
  simp only [xSeq,xSet,xB,xCons,xNil,hav]
  simp only [frP] at e3 e4 hv
  simp [sem,fInN,qah,fPut,fr0,qev,sz2,qaw,e1,ew1,sz1,e2,ew2',hg,hv,e3,e4,at1,fLt,hb'']
theorem sales_here (a:Adr) (s:Sto) (p:Nat) (hp:p < s.nx) (hP:IsPurse s p) {pp hs:List Str} (W:Words pp hs) (post pr:List (Str×Hl)) (A B:List Ent) (e:Ent) (l:Hl) (x y:Int)
  (hln:(A++e::B).map (·.nm)=hs) (hnp:e.nm∉pr.map (·.1)) (hr:HR 0 e.held l) (hN:∀ n∈l.map (·.1),n∈pp++hs) (wd o6 o7 o8 o9 o10 o11 o12 o13 o14:Option PV) :
  ∃ x' y' hl' l' u7 u9 u10 u1 u2 u3 u4,qav (yName 9) (qc1 a) (.str e.nm) (fr0 p s.nx wd pp hs++[o6,o7,o8,o9,o10,o11,o12,o13,o14]) (bst s p (post++(e.nm,l)::pr) pp (A++e::B) x y)
  =.nx (fr0 p s.nx wd pp hs++[o6,u7,o8,u9,u10,u1,u2,u3,u4]) (bst s p (post++(e.nm,l')::pr) pp (A++{ e with held:=hl' }::B) x' y')∧HR 5 hl' l'∧∀ n∈l'.map (·.1),n∈pp++hs:=by
 have hv:=qox (s.nx+3) e.nm l pr hnp post
 have hg:=qk9 s p (post++(e.nm,l)::pr) pp (A++e::B) x y
 obtain ⟨r,xa,ya,r0,r1,e1⟩:=qd5 a s p hp hP (post++(e.nm,l)::pr) pp (A++e::B) 6 (by decide) (by decide) x y
 obtain ⟨j,rfl⟩:∃ j:Nat,r=j:=⟨r.toNat,by omega⟩
 obtain ⟨e',s',h1,x',y',hl',l',u7,u1,u2,u3,u4,rfl,rfl,hR,hN'⟩:=qhg (body:=qav (yName 7) (qb7 a)) j (fun k ρ t=>∃ x y hl l u7 u1 u2 u3 u4,t=bst s p (post++(e.nm,l)::pr) pp (A++{ e with held:=hl }::B) x y∧ρ=fr0 p s.nx wd pp hs++[o6,u7,o8,some (.str e.nm),some (.ref (s.nx+3+pr.length)),u1,u2,u3,u4]∧HR k hl l∧∀ n∈l.map (·.1),n∈pp++hs)
  (fun k ρ t hk hI=>by
   obtain ⟨x,y,hl,l,u7,u1,u2,u3,u4,rfl,rfl,hr,hN⟩:=hI
   obtain ⟨x',y',hl',l',v1,v2,v3,v4,h1,h2,h3⟩:=sale_step a s p hp hP W post pr A B { e with held:=hl } l x y (c:=k) (by omega) (by rw [← hln];simp) hr hN wd o6 (some (.int k)) o8 u1 u2 u3 u4
   refine ⟨_,_,?_,x',y',hl',l',some (.int k),v1,v2,v3,v4,rfl,rfl,h2,h3⟩
   rw [← h1]
   rfl) (ρ:=fr0 p s.nx wd pp hs++[o6,o7,o8,some (.str e.nm),some (.ref (s.nx+3+pr.length)),o11,o12,o13,o14]) (s:=bst s p (post++(e.nm,l)::pr) pp (A++e::B) xa ya) ⟨xa,ya,e.held,l,o7,o11,o12,o13,o14,rfl,rfl,hr,hN⟩
 refine ⟨x',y',hl',l',u7,some (.str e.nm),some (.ref (s.nx+3+pr.length)),u1,u2,u3,u4,?_,hR.mono (by omega),hN'⟩
 simp only [fr0,List.cons_append,List.nil_append] at h1
 have hj:(j:Int) < 4611686018427387904:=by omega
 simp [sem,fInN,qah,fPut,qav,qc1,fr0,hg,hv,e1,h1,hj]
theorem sales_from (a:Adr) (s:Sto) (p:Nat) (hp:p < s.nx) (hP:IsPurse s p) {pp hs:List Str} (W:Words pp hs) (wd o6 o8:Option PV):∀ (B:List Ent) (M:List (Str×Hl)),Pairs (pp++hs) 0 B M→∀ (A:List Ent) (pr:List (Str×Hl)) (x y:Int) (o7 o9 o10 o11 o12 o13 o14:Option PV),Pairs (pp++hs) 5 A pr.reverse→(A++B).map (·.nm)=hs →
  ∃ x' y' R L u7 u9 u10 u1 u2 u3 u4,loopL (qav (yName 9) (qc1 a)) ((B.map (·.nm)).map .str) (fr0 p s.nx wd pp hs++[o6,o7,o8,o9,o10,o11,o12,o13,o14]) (bst s p (M.reverse++pr) pp (A++B) x y)
  =.nx (fr0 p s.nx wd pp hs++[o6,u7,o8,u9,u10,u1,u2,u3,u4]) (bst s p R pp L x' y')∧Pairs (pp++hs) 5 L R.reverse∧L.map (·.nm)=hs:=by
 intro B M hB
 induction hB with
 | nil =>
  intro A pr x y o7 o9 o10 o11 o12 o13 o14 hA hn
  refine ⟨x,y,pr,A,o7,o9,o10,o11,o12,o13,o14,?_,hA,by simpa using hn⟩
  ·simp [loopL]
 | @cons e m B M h1 h2 h3 h4 _ ih =>
  intro A pr x y o7 o9 o10 o11 o12 o13 o14 hA hn
  obtain ⟨h,l⟩:=m
  simp only at h1 h2 h3
  subst h1
  have hnp:e.nm∉pr.map (·.1):=by
   intro z
   have z2:e.nm∈A.map (·.nm):=by
    rw [hA.names]
    obtain ⟨m,hm,e⟩:=List.mem_map.mp z
    exact List.mem_map.mpr ⟨m,by simpa using hm,e⟩
   have nd:((A++e::B).map (·.nm)).Nodup:=by rw [hn];exact (List.nodup_append.mp W.nd).2.1
   rw [List.map_append,List.map_cons] at nd
   exact (List.nodup_append.mp nd).2.2 _ z2 _ List.mem_cons_self rfl
  obtain ⟨xa,ya,hl',l',u7,u9,u10,u1,u2,u3,u4,g1,g2,g3⟩:=sales_here a s p hp hP W M.reverse pr A B e l x y hn hnp h2 h3 wd o6 o7 o8 o9 o10 o11 o12 o13 o14
  obtain ⟨xb,yb,R,L,v7,v9,v10,v1,v2,v3,v4,k1,k2,k3⟩:=ih (A++[{ e with held:=hl' }]) ((e.nm,l')::pr) xa ya u7 u9 u10 u1 u2 u3 u4 (by
   rw [List.reverse_cons]
   exact hA.app (.cons rfl g2 g3 h4 .nil)) (by rw [← hn];simp)
  refine ⟨xb,yb,R,L,v7,v9,v10,v1,v2,v3,v4,?_,k2,k3⟩
  have er:((e.nm,l)::M).reverse++pr=M.reverse++(e.nm,l)::pr:=by simp
  have ea:A++{ e with held:=hl' }::B=(A++[{ e with held:=hl' }])++B:=by simp
  rw [er,List.map_cons,List.map_cons]
  unfold loopL
  rw [g1]
  simp only
  rw [ea]
  exact k1
end My
namespace My
open PySem L2 Fra
theorem qa1 {f g:XS}{ρ ρ':En}{s s':Sto} (h:f ρ s=.nx ρ' s'):xSeq f g ρ s=g ρ' s':=by unfold xSeq;rw [h]
theorem qe9 {N:Nat}{g:XS}{vs:List PV}{s s':Sto}{v:PV} (h:g (vs.map some++List.replicate (N - vs.length) none) s=.rt v s'):fnD N g vs s=.ok v s':=by unfold fnD;rw [h]
theorem p62:(2:Int) ^ 62=4611686018427387904:=by decide
theorem lo62 (n:Nat):-(2 ^ 62)≤(n:Int):=by
 rw [p62]
 have:(-4611686018427387904:Int)≤n:=by omega
 exact this
theorem hi62 {n:Nat} (hn:n < 1000000):(n:Int) < 2 ^ 62:=by
 rw [p62]
 have:(n:Int) < 4611686018427387904:=by omega
 exact this
theorem bind_okG {α β:Type} (v:α) (s:Sto) (f:α→Sto→Out β):(Out.ok v s).bind f=f v s:=rfl
theorem rng1_eq {fa:XA}{ρ:En}{s s1:Sto}{j:Int} (h:fa ρ s=.ok [.int j] s1):xRng1 fa ρ s=if -(2 ^ 62)≤j∧j < 2 ^ 62 then Out.ok (rngP 0 j.toNat) s1 else Out.bad:=by
 unfold xRng1
 rw [h,bind_okG]
theorem rng1_ok {fa:XA}{ρ:En}{s s1:Sto}{n:Nat} (h:fa ρ s=.ok [.int n] s1) (hn:n < 1000000):xRng1 fa ρ s=.ok (rngP 0 n) s1:=by
 rw [rng1_eq h,if_pos ⟨lo62 n,hi62 hn⟩,Int.toNat_natCast]
theorem qjq {fi:XA}{y:XG}{body:XS}{ρ ρ':En}{s s1 s':Sto}{l:List PV} (h1:fi ρ s=.ok l s1) (h2:loopL (qav y body) l ρ s1=.nx ρ' s'):xFor fi y body ρ s=.nx ρ' s':=by
 unfold xFor
 rw [h1]
 simp only [Out.so]
 rw [h2]
 rfl
theorem qm6 {ws:List Str}{fst:Int} (hl:ws.length=14) (hW:∀ j w,ws[j]?=some w→Wd fst j w):ws.Nodup:=by
 rw [List.nodup_iff_pairwise_ne,List.pairwise_iff_getElem]
 intro i j hi hj hij e
 have h1:=(hW i _ (List.getElem?_eq_getElem hi)).2.2
 have h2:=(hW j _ (List.getElem?_eq_getElem hj)).2.2
 rw [e,h2] at h1
 have:=Option.some.inj h1
 omega
theorem words_of {ws:List Str}{fst:Int} (hl:ws.length=14) (hW:∀ j w,ws[j]?=some w→Wd fst j w) {P Q:Nat} (p1:1≤P) (p6:P≤6) (q8:Q≤8):Words (ws.take P) ((ws.drop 6).take Q):=by
 have sub:(ws.take P++(ws.drop 6).take Q).Sublist ws:=by
  conv=>rhs;rw [← List.take_append_drop 6 ws]
  refine List.Sublist.append ?_ (List.take_sublist _ _)
  have:ws.take P=(ws.take 6).take P:=by rw [List.take_take,Nat.min_eq_left p6]
  rw [this]
  exact List.take_sublist _ _
 have all:∀ w∈ws.take P++(ws.drop 6).take Q,Sm w∧isNm w=true:=fun w hw=>by
  obtain ⟨j,hj⟩:=List.getElem?_of_mem (sub.subset hw)
  exact ⟨(hW j w hj).1,(hW j w hj).2.1⟩
 refine ⟨(qm6 hl hW).sublist sub,fun w hw=>(all w hw).1,fun w hw=>(all w hw).2,?_,?_,?_⟩
 ·rw [List.length_take];omega
 ·rw [List.length_take];omega
 ·rw [List.length_take,List.length_drop];omega
theorem cut_mid (ws:List PV) (hl:ws.length=14) (k:Nat) (hk:k≤8):cutP ws (some 6) (some (6+(k:Int)))=(ws.drop 6).take k:=by
 unfold cutP
 simp [HT.sIx,hl]
 have h:¬ (6+(k:Int) < 0):=by omega
 rw [if_neg h]
 omega
def kst (s:Sto) (p n:Nat) (pp:List Str) (L:List Ent) (x y:Int):Sto:=stk n [(s.nx+1,.book pp L)] s p x y
theorem frz_bst (s:Sto) (p:Nat) (R:List (Str×Hl)) (pp:List Str) (L:List Ent) (x y:Int):frz2 (.ref (s.nx+2)) (bst s p R pp L x y)=.ok (.dct (entP R.reverse)) (kst s p (s.nx+3+R.length) pp L x y):=by
 have ed:(bst s p R pp L x y).del (s.nx+2)=⟨s.nx+3+R.length,[]++(qc6 (s.nx+3) R++([(s.nx+1,.book pp L)]++(pst s p x y).cs))⟩:=by
  unfold bst stk Sto.del bpre
  simp only [List.nil_append]
  rw [List.append_assoc,qo0 (qge R (by omega)),List.cons_append,qmv,if_pos rfl]
 unfold frz2 frz1
 simp only [qk9]
 rw [ed,qoq (s.nx+3) (s.nx+3+R.length) R [] _ (fun q hq=>by cases hq)]
 rfl
theorem built_eq (a:Adr) (s:Sto) (p:Nat) (hp:p < s.nx) (hP:IsPurse s p):∃ n pp hs L M x y,s.nx+1 < n∧Words pp hs∧Pairs (pp++hs) 5 L M∧L.map (·.nm)=hs ∧
  qc4 a [.ref p] s=.ok (.lst [.ref (s.nx+1),.lst ((srt pp).map .str),.dct (entP M)]) (kst s p n pp L x y):=by
 obtain ⟨x,y,ws,fst,hl,f0,hW,e0⟩:=names_eq a s p hp hP
 have hne:∀ q∈[(s.nx+1,Cell.book [] [])],q.1≠p:=fun q hq=>by cases List.mem_singleton.mp hq;exact fun z=>by simp only at z;omega
 obtain ⟨r1,xa,ya,r10,r11,e1⟩:=qfs a (nx:=s.nx+2) (pre:=[(s.nx+1,.book [] [])]) hP hne 8 (by decide) (by decide) x y
 obtain ⟨P,hPm,eP⟩:=at8 [2,3,1,4,6,2,3,5] rfl r10 r11
 obtain ⟨r2,xb,yb,r20,r21,e2⟩:=qfs a (nx:=s.nx+2) (pre:=[(s.nx+1,.book [] [])]) hP hne 8 (by decide) (by decide) xa ya
 obtain ⟨Q,hQm,eQ⟩:=at8 [3,4,2,5,6,1,8,0] rfl r20 r21
 obtain ⟨i,rfl⟩:∃ i:Nat,P=i:=⟨P.toNat,by simp at hPm;omega⟩
 obtain ⟨j,rfl⟩:∃ j:Nat,Q=j:=⟨Q.toNat,by simp at hQm;omega⟩
 have i1:1≤i∧i≤6:=by simp at hPm;omega
 have j1:j≤8:=by simp at hQm;omega
 have W:=words_of hl hW i1.1 i1.2 j1
 have c1:cutP (ws.map PV.str) none (some (i:Int))=(ws.take i).map PV.str:=by rw [qo2 _ _ (by simp;omega),List.map_take]
 have c2:cutP (ws.map PV.str) (some 6) (some (6+(j:Int)))=((ws.drop 6).take j).map PV.str:=by rw [cut_mid _ (by simp [hl]) _ j1,List.map_take,List.map_drop]
 generalize ws.take i=pp at *
 generalize (ws.drop 6).take j=hs at *
 have h0:∀ x y,(stk (s.nx+2) [(s.nx+1,.book [] [])] s p x y).add (.dct [])=bst s p [] [] [] x y:=fun _ _=>rfl
 have n1:∀ x y,(Sto.bump (pst s p x y)).nx=s.nx+1:=fun _ _=>rfl
 have n2:∀ x y,(stk (s.nx+2) [(s.nx+1,.book [] [])] s p x y).nx=s.nx+2:=fun _ _=>rfl
 have h00:∀ x y,(Sto.bump (pst s p x y)).add (.book [] [])=stk (s.nx+2) [(s.nx+1,.book [] [])] s p x y:=fun _ _=>rfl
 obtain ⟨o6,l1⟩:=ql0 a s p xb yb W (some (.lst (ws.map .str))) none none none none none none none none none
 obtain ⟨xc,yc,R,L,o7,o8,hH,l2⟩:=qno a s p hp hP xb yb W (some (.lst (ws.map .str))) o6 none none none none none none none none
 have hln:L.map (·.nm)=hs:=by have:=hH.ln;rwa [List.take_length] at this
 obtain ⟨xd,yd,R',L',u7,u9,u10,u1,u2,u3,u4,l3,hPr,hn⟩:=sales_from a s p hp hP W (some (.lst (ws.map .str))) o6 o8 L R.reverse hH.pr [] [] xc yc o7 none none none none none none .nil (by simpa using hln)
 rw [List.reverse_reverse,List.append_nil,List.nil_append,hln] at l3
 refine ⟨s.nx+3+R'.length,pp,hs,L',R'.reverse,xd,yd,by omega,W,hPr,hn,?_⟩
 have fz:=frz_bst s p R' pp L' xd yd
 simp only [fr0,List.cons_append,List.nil_append] at l1 l2 l3
 have hpl:pp.length < 64:=by have:=W.p6;omega
 simp at eP eQ
 have hgo:qeq a [some (.ref p),none,none,none,none,none,none,none,none,none,none,none,none,none,none] s=.rt (.lst [.ref (s.nx+1),.lst ((srt pp).map .str),.dct (entP R'.reverse)]) (kst s p (s.nx+3+R'.length) pp L' xd yd):=by
  unfold qeq
  rw [qa1 (ρ':=[some (.ref p),some (.lst (ws.map .str)),none,none,none,none,none,none,none,none,none,none,none,none,none]) (s':=Sto.bump (pst s p x y)) (by simp [sem,fInN,qah,fPut,e0])]
  rw [qa1 (ρ':=[some (.ref p),some (.lst (ws.map .str)),some (.ref (s.nx+1)),none,none,none,none,none,none,none,none,none,none,none,none]) (s':=stk (s.nx+2) [(s.nx+1,.book [] [])] s p x y) (by simp [sem,fInN,qah,fPut,n1,h00])]
  rw [qa1 (ρ':=[some (.ref p),some (.lst (ws.map .str)),some (.ref (s.nx+1)),some (.lst (pp.map .str)),none,none,none,none,none,none,none,none,none,none,none]) (s':=stk (s.nx+2) [(s.nx+1,.book [] [])] s p xa ya) (by simp [sem,fInN,qah,fPut,e1,eP,c1])]
  rw [qa1 (ρ':=[some (.ref p),some (.lst (ws.map .str)),some (.ref (s.nx+1)),some (.lst (pp.map .str)),some (.lst (hs.map .str)),none,none,none,none,none,none,none,none,none,none]) (s':=stk (s.nx+2) [(s.nx+1,.book [] [])] s p xb yb) (by simp [sem,fInN,qah,fPut,e2,eQ,c2])]
  rw [qa1 (ρ':=[some (.ref p),some (.lst (ws.map .str)),some (.ref (s.nx+1)),some (.lst (pp.map .str)),some (.lst (hs.map .str)),some (.ref (s.nx+2)),none,none,none,none,none,none,none,none,none]) (s':=bst s p [] [] [] xb yb) (by simp [sem,fInN,qah,fPut,n2,h0])]
  rw [qa1 (qjq (l:=pp.map .str) (s1:=bst s p [] [] [] xb yb) (by simp [sem,fInN,qah,fPut]) l1)]
  rw [qa1 (qjq (l:=rngP 0 hs.length) (s1:=bst s p [] pp [] xb yb) (rng1_ok (n:=hs.length) (by simp [sem,fInN,qah,fPut]) (by have:=W.h8;omega)) l2)]
  rw [qa1 (qjq (l:=hs.map .str) (s1:=bst s p R pp L xc yc) (by simp [sem,fInN,qah,fPut]) l3)]
  simp [sem,fInN,qah,fPut,qev,hpl,xFrz2,fz]
 exact qe9 hgo
end My
namespace My
open PySem L2 Fra
section
variable {P:Program}{w:World}{K:PySem.W.Frag}{mg:Str→Option Value}{base:Heap}{a:Adr}{f:Addr}{fd:FuncData}
abbrev qd7:Stmt:=top 10
theorem sc_rounds:FnScope ["drawn","told","earlier","further"] ["drawn"] (qac qd7):=⟨rfl,rfl,rfl,by decide +kernel,rfl,by decide +kernel,by decide +kernel⟩
noncomputable def qd4 (a:Adr) (lf:Addr) (lvs:List V) (dr:List PV→PV→Sto→Out PV) :XS:=(xSeq (xSet 3 (qi6 (xIter (qi7 0 lf lvs dr (xVar 2))) [2] (xTr (x2 (xVar 0) (xVar 1) qdy)) (xVar 0))) (xSeq (xIf (xTr (x2 (xVar 3) (xLst xNil) fEq)) (xRet (xVar 1)) xEnd) (xSeq (xDo (xAppend (xVar 1) (xCons (xVar 3) xNil))) (xSet 2 (x2 (xVar 2) (xVar 3) fAdd)))))
noncomputable def qop (a:Adr) (lf:Addr) (lvs:List V) (dr:List PV→PV→Sto→Out PV):XS:=(xSeq (xSet 1 (xLstC xNil)) (xSeq (xSet 2 (xLst xNil)) (qhq (xTr (xC (.bl true))) (qd4 a lf lvs dr))))
noncomputable def qe2 (a:Adr) (lf:Addr) (lvs:List V) (dr:List PV→PV→Sto→Out PV):XF:=fnD 4 (qop a lf lvs dr)
theorem ok_rounds (F:Fun K "rounds" "rounds" qd7 f fd) (T:Txt K mg a):FnOk P w K mg base (CXo P w) 7 f fd ["drawn"] (spRo P w K mg base 6 a.Book (qe2 a)) :=
 fn_mkV (kc:=6) F sc_rounds fun lf lvs dr cdv A outer s H E CV hr=>(qaf (qau 1 sc_rounds.nd rfl (Or.inl rfl) (qim qag)) (qaf (qau 2 sc_rounds.nd rfl (Or.inr rfl) (qd0 qag)) (qan (qkz (qfa de_bl) (qaf (qnq (fr:=["earlier"]) (ix:=[2]) (i:=3) sc_rounds.nd rfl rfl rfl (by exact (show CompOk ["drawn","told","earlier","further"] (qac qd7) _ _ _ _ from ⟨rfl,by decide +kernel,rfl,by decide +kernel,by decide +kernel,by decide +kernel,by decide +kernel,by decide +kernel,rfl⟩)) (qmu (de_callV CV 0 rfl (Or.inl rfl) (hr.mono (by decide)) (qab 2))) (fun _ _ _ _ _=>(qe0 (qgt (c_notin (qar hr)) (qab 0) (qab 1) (by with_unfolding_all rfl)))) (fun _ _ _ _ _=>(qab 0))) (qaf (qii (qgt (c_eq (hu12 hr)) (qab 3) (qd0 qag) (qci _)) (qan (qbk (qab 1))) qdh) (qaf (qk0 (qgc (qab 1) (qaa (qab 3) qag))) (qan (qau 2 sc_rounds.nd rfl (Or.inr rfl) (qcn (qab 2) (qab 3)))))))))))
abbrev qff:Stmt:=top 14
theorem sc_rules:FnScope ["book","holder"] ["book","holder"] (qac qff):=⟨rfl,rfl,rfl,by decide +kernel,rfl,by decide +kernel,by decide +kernel⟩
noncomputable def g_rules (a:Adr):XS:=(xSeq (xDo (xBM 2 (qb1 a) (xVar 0) (xCons (xVar 1) xNil))) (xRet (xLamR [0,1] (qe2 a) (xCall 2 (qcy a) (xCons (xVar 1) (xCons (x2 (xLst (xCons (xVar 2) xNil)) (xVar 0) fAdd) xNil))))))
noncomputable def qfr (a:Adr):XF:=fnD 2 (g_rules a)
theorem ok_rules (F:Fun K "rules" "rules" qff f fd) (T:Txt K mg a) (M_need_holder:Mt P w K mg base a.Book "need_holder" 3 ["self","name"] (spD K a.Book 2 (qb1 a))) (F_rounds:Fn P w K mg base "rounds" 7 ["drawn"] (spRo P w K mg base 6 a.Book (qe2 a))) (F_outvoted:Fn P w K mg base "outvoted" 5 ["book","voters"] (spD K a.Book 2 (qcy a))) {cd PT:Addr} (hns:PySem.W.nsIn K mainGlobals "rules"=some (some (.ref f))) (ht:PySem.W.tabIn K "rules"=some (cd,PT)) (TL:LamTxt K mg base cd PT):FnOk P w K mg base (CXo P w) 8 f fd ["book","holder"] (spD K a.Book 2 (qfr a)) :=
 have hTab:Tab K PT "rules.<locals>.<lambda>":=⟨"rules",by decide,cd,ht,rfl⟩
 fn_mkT F hns ht sc_rules rfl fun A outer s H E hr=>(qaf (qk0 (de_bm (qab 0) M_need_holder qi3 (hr.mono (by decide)) qb0 (qaa (qab 1) qag))) (qan (qbk (de_lamR (kb:=5) (fr:=["book","holder"]) [0,1] F_rounds (hr.mono (by decide)) rfl TL rfl rfl hTab rfl (by exact (show ∀ y∈(_:List (Str×NameKind)),y.2=NameKind.free→List.lookup y.1 (qac qff).names=some NameKind.cell from by decide +kernel)) (fun _=>rfl) (by exact (show LamOk _ "earlier" ["book","holder"] from ⟨rfl,rfl,rfl,by decide +kernel,rfl,by decide +kernel,by decide +kernel⟩)) rfl (by intro i j z h1 h2;match i,h1,h2 with | 0,h1,h2=>cases h1;cases h2;rfl | 1,h1,h2=>cases h1;cases h2;rfl | (n+2),h1,_=>cases h1) (fun _ _ _ _=>.all fun us hl=>match us,hl with | [_],_=>rfl) (fun _ _ _ _ _ _ _ hr=>(qbj F_outvoted (hr.mono (by decide)) rfl qa3 (qaa (qab 1) (qaa (qcn (qd0 (qaa (qab 2) qag)) (qab 0)) qag))))))))
abbrev qce:Stmt:=top 44
theorem sc__law_votes:FnScope ["_law_entries","_law_house","_law_voters","_law_found","_law_name"] ["_law_entries","_law_house","_law_voters"] (qac qce):=⟨rfl,rfl,rfl,by decide +kernel,rfl,by decide +kernel,by decide +kernel⟩
noncomputable def qb5 (a:Adr) :XS:=(xIf (xTr (x2 (xVar 4) (xVar 2) fIn)) (xSet 3 (xCall 2 (qa4 a) (xCons (xVar 3) (xCons (x2 (x2 (xVar 0) (xVar 1) fIx) (xVar 4) fIx) xNil)))) xEnd)
noncomputable def qg1 (a:Adr):XS:=(xSeq (xSet 3 (xTup (xCons (xC (.int 0)) (xCons (xC (.int 1)) xNil)))) (xSeq (xFor (xIterD (x2 (xVar 0) (xVar 1) fIx)) (yName 4) (qb5 a)) (xRet (xCall 2 (qbn a) (xCons (xTup (xCons (xC (.int 1)) (xCons (xC (.int 2)) xNil))) (xCons (xVar 3) xNil))))))
noncomputable def qa0 (a:Adr):XF:=(fnD 5 (qg1 a))
theorem qkq (F:Fun K "_law_votes" "_law_votes" qce f fd) (T:Txt K mg a) (F__law_lesser:Fn P w K mg base "_law_lesser" 1 ["_law_one","_law_other"] (spD K a.Book 2 (qbn a))) (F__law_plus:Fn P w K mg base "_law_plus" 3 ["_law_one","_law_other"] (spD K a.Book 2 (qa4 a))):FnOk P w K mg base (CXo P w) 4 f fd ["_law_entries","_law_house","_law_voters"] (spD K a.Book 3 (qa0 a)) :=
 qer F sc__law_votes rfl fun cdv A outer s H E hr=>(qaf (qau 3 sc__law_votes.nd rfl (Or.inl rfl) (qjt (qaa qai (qaa qai qag)))) (qaf (qf9 rfl (di_dict (qbd (qar hr) (qab 0) (qab 1) (fun _ _=>rfl))) (qcm 4 sc__law_votes.nd rfl (Or.inl rfl)) (qan (qii (qgt (c_in (qar hr)) (qab 4) (qab 2) (by with_unfolding_all rfl)) (qan (qau 3 sc__law_votes.nd rfl (Or.inl rfl) (qbj F__law_plus (hr.mono (by decide)) rfl qa3 (qaa (qab 3) (qaa (qbd (qar hr) (qbd (qar hr) (qab 0) (qab 1) (fun _ _=>rfl)) (qab 4) (fun _ _=>rfl)) qag))))) qdh))) (qan (qbk (qbj F__law_lesser (hr.mono (by decide)) rfl qb0 (qaa (qjt (qaa qai (qaa qai qag))) (qaa (qab 3) qag)))))))
abbrev qbb:Stmt:=top 45
theorem sc__law_rounds:FnScope ["_law_entries","_law_holder","_law_lot_here","_law_rounds_here","_law_more"] ["_law_entries","_law_holder"] (qac qbb):=⟨rfl,rfl,rfl,by decide +kernel,rfl,by decide +kernel,by decide +kernel⟩
noncomputable def qbu (a:Adr) :XS:=(xSeq (xDo (xAppend (xVar 3) (xCons (xVar 4) xNil))) (xSeq (xSet 2 (x2 (xVar 2) (xVar 4) fAdd)) (xSet 4 (qfb (xIter (xB (xCons (xVar 0) xNil) qah)) [2,0,1] (xAnd (xTr (x2 (xVar 0) (xVar 1) qdy)) (xTr (xCall 3 (qa0 a) (xCons (xVar 2) (xCons (xVar 0) (xCons (x2 (xLst (xCons (xVar 3) xNil)) (xVar 1) fAdd) xNil)))))) (xVar 0)))))
noncomputable def qf4 (a:Adr):XS:=(xSeq (xSet 2 (xLst xNil)) (xSeq (xSet 3 (xLstC xNil)) (xSeq (xSet 4 (qfb (xIter (xB (xCons (xVar 0) xNil) qah)) [0,1] (xTr (xCall 3 (qa0 a) (xCons (xVar 1) (xCons (xVar 0) (xCons (xLst (xCons (xVar 2) xNil)) xNil))))) (xVar 0))) (xSeq (qhq (xTr (x2 (xVar 4) (xLst xNil) fNe)) (qbu a)) (xRet (xFrz (xVar 3)))))))
noncomputable def qco (a:Adr):XF:=(fnD 5 (qf4 a))
theorem qi0 (F:Fun K "_law_rounds" "_law_rounds" qbb f fd) (T:Txt K mg a) (F__law_votes:Fn P w K mg base "_law_votes" 4 ["_law_entries","_law_house","_law_voters"] (spD K a.Book 3 (qa0 a))):FnOk P w K mg base (CXo P w) 5 f fd ["_law_entries","_law_holder"] (spD K a.Book 2 (qco a)) :=
 qer F sc__law_rounds rfl fun cdv A outer s H E hr=>(qaf (qau 2 sc__law_rounds.nd rfl (Or.inr rfl) (qd0 qag)) (qaf (qau 3 sc__law_rounds.nd rfl (Or.inl rfl) (qim qag)) (qaf (qjs (fr:=["_law_entries","_law_holder"]) (ix:=[0,1]) (i:=4) sc__law_rounds.nd rfl rfl rfl (by exact (show CompOk ["_law_entries","_law_holder","_law_lot_here","_law_rounds_here","_law_more"] (qac qbb) _ _ _ _ from ⟨rfl,by decide +kernel,rfl,by decide +kernel,by decide +kernel,by decide +kernel,by decide +kernel,by decide +kernel,rfl⟩)) (qmu (qbg (b_sorted rfl) rfl T.b_sorted qdj (qaa (qab 0) qag))) (fun _ _ _ _ _=>(qe0 (qfa (qbj F__law_votes (hr.mono (by decide)) rfl qa3 (qaa (qab 1) (qaa (qab 0) (qaa (qd0 (qaa (qab 2) qag)) qag))))))) (fun _ _ _ _ _=>(qab 0))) (qaf (qkz (qgt (c_ne (hu12 hr)) (qab 4) (qd0 qag) (qci _)) (qaf (qk0 (qgc (qab 3) (qaa (qab 4) qag))) (qaf (qau 2 sc__law_rounds.nd rfl (Or.inr rfl) (qcn (qab 2) (qab 4))) (qan (qjs (fr:=["_law_lot_here","_law_entries","_law_holder"]) (ix:=[2,0,1]) (i:=4) sc__law_rounds.nd rfl rfl rfl (by exact (show CompOk ["_law_entries","_law_holder","_law_lot_here","_law_rounds_here","_law_more"] (qac qbb) _ _ _ _ from ⟨rfl,by decide +kernel,rfl,by decide +kernel,by decide +kernel,by decide +kernel,by decide +kernel,by decide +kernel,rfl⟩)) (qmu (qbg (b_sorted rfl) rfl T.b_sorted qdj (qaa (qab 0) qag))) (fun _ _ _ _ _=>(qe0 (DW.dt (dw_and (qgt (c_notin (qar hr)) (qab 0) (qab 1) (by with_unfolding_all rfl)) (dw_and1 (qfa (qbj F__law_votes (hr.mono (by decide)) rfl qa3 (qaa (qab 2) (qaa (qab 0) (qaa (qcn (qd0 (qaa (qab 3) qag)) (qab 1)) qag)))))))))) (fun _ _ _ _ _=>(qab 0))))))) (qan (qbk (de_frz (qab 3))))))))
abbrev qcd:Stmt:=top 40
theorem qkd:FnScope ["_law_found"] ["_law_found"] (qac qcd):=⟨rfl,rfl,rfl,by decide +kernel,rfl,by decide +kernel,by decide +kernel⟩
noncomputable def qmp (a:Adr):XS:=(xRet (xAndV (xIsiT .int (xVar 0)) (xNotV (xIsiT .bool (xVar 0)))))
noncomputable def qdr (a:Adr):XF:=(fnD 1 (qmp a))
theorem qkp (F:Fun K "_law_whole" "_law_whole" qcd f fd) (T:Txt K mg a):FnOk P w K mg base (CXo P w) 1 f fd ["_law_found"] (spD K a.Book 1 (qdr a)) :=
 qer F qkd rfl fun cdv A outer s H E hr=>(qan (qbk (de_and (qdv .int rfl rfl T.b_isinstance (qab 0) rfl T.b_int bt_int (by decide) (by decide)) (de_one (de_not (qdv .bool rfl rfl T.b_isinstance (qab 0) rfl T.b_bool bt_bool (by decide) (by decide)))))))
abbrev qb9:Stmt:=top 41
theorem qlq:FnScope ["_law_found","_law_due"] ["_law_found","_law_due"] (qac qb9):=⟨rfl,rfl,rfl,by decide +kernel,rfl,by decide +kernel,by decide +kernel⟩
noncomputable def qdf (a:Adr) (self:XF):XS:=(xSeq (xIf (xOr (xTr (xIsiT .tuple (xVar 1))) (xTr (xIsiT .list (xVar 1)))) (xSeq (xIf (xOr (xTr (x2 (xIsiT .tuple (xVar 0)) (xIsiT .tuple (xVar 1)) fNe)) (xTr (x2 (xIsiT .list (xVar 0)) (xIsiT .list (xVar 1)) fNe))) (xRet (xC (.bl false))) xEnd) (xSeq (xIf (xTr (x2 (xB (xCons (xVar 0) xNil) fLen) (xB (xCons (xVar 1) xNil) fLen) fNe)) (xRet (xC (.bl false))) xEnd) (xRet (x2 (xB (xCons (qfb (xRng1 (xCons (xB (xCons (xVar 1) xNil) fLen) xNil)) [0,1] (xNot (xTr (xCall 2 self (xCons (x2 (xVar 1) (xVar 0) fIx) (xCons (x2 (xVar 2) (xVar 0) fIx) xNil))))) (xVar 0)) xNil) fLen) (xC (.int 0)) fEq)))) xEnd) (xSeq (xIf (xTr (xIsiT .str (xVar 1))) (xRet (xAndV (xIsiT .str (xVar 0)) (x2 (xVar 0) (xVar 1) fEq))) xEnd) (xRet (xAndV (xCall 1 (qdr a) (xCons (xVar 0) xNil)) (x2 (xVar 0) (xVar 1) fEq)))))
noncomputable def qap (a:Adr):Nat→XF
 | 0=>fun _ _=>.bad
 | k+1=>fnD 2 (qdf a (qap a k))
theorem qel (F:Fun K "_law_same" "_law_same" qb9 f fd) (T:Txt K mg a) (F__law_whole:Fn P w K mg base "_law_whole" 1 ["_law_found"] (spD K a.Book 1 (qdr a))) (j:Nat) (F__law_same:Fn P w K mg base "_law_same" (j+1) ["_law_found","_law_due"] (spD K a.Book 2 (qap a j))):FnOk P w K mg base (CXo P w) (j+1+1) f fd ["_law_found","_law_due"] (spD K a.Book 2 (qap a (j+1))) :=
 qer F qlq rfl fun cdv A outer s H E hr=>(qaf (qii (DW.dt (dw_or (qfa (qdv .tuple rfl rfl T.b_isinstance (qab 1) rfl T.b_tuple qk6 (by decide) (by decide))) (dw_or1 (qfa (qdv .list rfl rfl T.b_isinstance (qab 1) rfl T.b_list qnv (by decide) (by decide)))))) (qaf (qii (DW.dt (dw_or (qgt (c_ne (hu12 hr)) (qdv .tuple rfl rfl T.b_isinstance (qab 0) rfl T.b_tuple qk6 (by decide) (by decide)) (qdv .tuple rfl rfl T.b_isinstance (qab 1) rfl T.b_tuple qk6 (by decide) (by decide)) (qci _)) (dw_or1 (qgt (c_ne (hu12 hr)) (qdv .list rfl rfl T.b_isinstance (qab 0) rfl T.b_list qnv (by decide) (by decide)) (qdv .list rfl rfl T.b_isinstance (qab 1) rfl T.b_list qnv (by decide) (by decide)) (qci _))))) (qan (qbk de_bl)) qdh) (qaf (qii (qgt (c_ne (hu12 hr)) (qbg b_len rfl T.b_len qd3 (qaa (qab 0) qag)) (qbg b_len rfl T.b_len qd3 (qaa (qab 1) qag)) (qci _)) (qan (qbk de_bl)) qdh) (qan (qbk (de_cp (c_eq (hu12 hr)) (qbg b_len rfl T.b_len qd3 (qaa (qnt (fr:=["_law_found","_law_due"]) (ix:=[0,1]) rfl (by exact (show CompOk ["_law_found","_law_due"] (qac qb9) _ _ _ _ from ⟨rfl,by decide +kernel,rfl,by decide +kernel,by decide +kernel,by decide +kernel,by decide +kernel,by decide +kernel,rfl⟩)) (qdz rfl T.b_range (qaa (qbg b_len rfl T.b_len qd3 (qaa (qab 1) qag)) qag)) (fun _ _ _ _ _=>(qe0 (dt_not (qfa (qbj F__law_same (hr.mono (by omega)) rfl qa3 (qaa (qbd (qar hr) (qab 1) (qab 0) (fun _ _=>rfl)) (qaa (qbd (qar hr) (qab 2) (qab 0) (fun _ _=>rfl)) qag))))))) (fun _ _ _ _ _=>(qab 0))) qag)) qai (qci _)))))) qdh) (qaf (qii (qfa (qdv .str rfl rfl T.b_isinstance (qab 1) rfl T.b_str bt_str (by decide) (by decide))) (qan (qbk (de_and (qdv .str rfl rfl T.b_isinstance (qab 0) rfl T.b_str bt_str (by decide) (by decide)) (de_one (de_cp (c_eq (hu12 hr)) (qab 0) (qab 1) (qci _)))))) qdh) (qan (qbk (de_and (qbj F__law_whole (hr.mono (by omega)) rfl qb0 (qaa (qab 0) qag)) (de_one (de_cp (c_eq (hu12 hr)) (qab 0) (qab 1) (qci _))))))))
abbrev qkg:Stmt:=top 47
theorem sc_law:FnScope ["_law_script","_law_book","_law_people","_law_entries","_law_holder","_law_due","_law_found","_law_some"] ["_law_script"] (qac qkg):=⟨rfl,rfl,rfl,by decide +kernel,rfl,by decide +kernel,by decide +kernel⟩
noncomputable def qgw (a:Adr) :XS:=(xDo (xClear (xVar 7)))
noncomputable def qla (a:Adr) :XS:=(xSeq (xSet 5 (xCall 2 (qco a) (xCons (xVar 3) (xCons (xVar 4) xNil)))) (xSeq (xSet 6 (xCall 2 (qfr a) (xCons (xVar 1) (xCons (xVar 4) xNil)))) (xSeq (xIf (xNot (xTr (xCall 2 (qap a 3) (xCons (xVar 6) (xCons (xVar 5) xNil))))) (xRet (xC (.bl false))) xEnd) (xSeq (xForC (xVar 6) (yName 7) (qgw a)) (xSeq (xDo (xAppend (xVar 6) (xCons (xLst (xCons (xC (.str "x")) xNil)) xNil))) (xIf (xNot (xTr (xCall 2 (qap a 3) (xCons (xCall 2 (qfr a) (xCons (xVar 1) (xCons (xVar 4) xNil))) (xCons (xVar 5) xNil))))) (xRet (xC (.bl false))) xEnd))))))
noncomputable def g_law (a:Adr):XS:=(xSeq (xAsg (xCall 1 (qc4 a) (xCons (xCall 1 (qbv a) (xCons (xVar 0) xNil)) xNil)) (yTup 3 (yCons (yName 1) (yCons (yName 2) (yCons (yName 3) yNil))))) (xSeq (xFor (xIter (x2 (xVar 2) (xB (xCons (xVar 3) xNil) qah) fAdd)) (yName 4) (qla a)) (xRet (xC (.bl true)))))
noncomputable def D_law (a:Adr):XF:=(fnD 8 (g_law a))
theorem ok_law (F:Fun K "law" "law" qkg f fd) (T:Txt K mg a) (F__law_built:Fn P w K mg base "_law_built" 5 ["_law_purse_here"] (spD K a.Book 1 (qc4 a))) (F__law_purse:Fn P w K mg base "_law_purse" 1 ["_law_script"] (spD K a.Book 1 (qbv a))) (F__law_rounds:Fn P w K mg base "_law_rounds" 5 ["_law_entries","_law_holder"] (spD K a.Book 2 (qco a))) (F_rules:Fn P w K mg base "rules" 8 ["book","holder"] (spD K a.Book 2 (qfr a))) (F__law_same:Fn P w K mg base "_law_same" 4 ["_law_found","_law_due"] (spD K a.Book 2 (qap a 3))):FnOk P w K mg base (CXo P w) 9 f fd ["_law_script"] (spD K a.Book 1 (D_law a)) :=
 qer F sc_law rfl fun cdv A outer s H E hr=>(qaf (ds_asg (qbj F__law_built (hr.mono (by decide)) rfl qb0 (qaa (qbj F__law_purse (hr.mono (by decide)) rfl qb0 (qaa (qab 0) qag)) qag)) (dg_tup rfl (qga (qcm 1 sc_law.nd rfl (Or.inl rfl)) (qga (qcm 2 sc_law.nd rfl (Or.inl rfl)) (qga (qcm 3 sc_law.nd rfl (Or.inl rfl)) dgs_nil))))) (qaf (qf9 rfl (qmu (qcn (qab 2) (qbg (b_sorted rfl) rfl T.b_sorted qdj (qaa (qab 3) qag)))) (qcm 4 sc_law.nd rfl (Or.inl rfl)) (qaf (qau 5 sc_law.nd rfl (Or.inl rfl) (qbj F__law_rounds (hr.mono (by decide)) rfl qa3 (qaa (qab 3) (qaa (qab 4) qag)))) (qaf (qau 6 sc_law.nd rfl (Or.inl rfl) (qbj F_rules (hr.mono (by decide)) rfl qa3 (qaa (qab 1) (qaa (qab 4) qag)))) (qaf (qii (dt_not (qfa (qbj F__law_same (hr.mono (by decide)) rfl qa3 (qaa (qab 6) (qaa (qab 5) qag))))) (qan (qbk de_bl)) qdh) (qaf (ds_forC rfl (qab 6) (qcm 7 sc_law.nd rfl (Or.inl rfl)) (qan (qk0 (de_clear (qab 7))))) (qaf (qk0 (qgc (qab 6) (qaa (qd0 (qaa de_str qag)) qag))) (qan (qii (dt_not (qfa (qbj F__law_same (hr.mono (by decide)) rfl qa3 (qaa (qbj F_rules (hr.mono (by decide)) rfl qa3 (qaa (qab 1) (qaa (qab 4) qag))) (qaa (qab 5) qag))))) (qan (qbk de_bl)) qdh)))))))) (qan (qbk de_bl))))
end
end My
namespace My
open PySem L2 Fra
def rv (q:Int×Int):Rat:=Rat.divInt q.1 q.2
theorem rv_add {p q:Int×Int} (hp:0 < p.2) (hq:0 < q.2):rv (addR p q)=rv p+rv q:=by
 have h:=qhm hp hq
 have h2:0 < (addR p q).2:=(qgn (q:=(p.1 * q.2+q.1 * p.2,p.2 * q.2)) (Int.mul_pos hp hq)).1.1
 unfold rv
 rw [Rat.divInt_add_divInt _ _ (by omega) (by omega),Rat.divInt_eq_divInt_iff (by omega) (by have:=Int.mul_pos hp hq;omega)]
 exact h
theorem rv_inj {p q:Int×Int} (hp:Low p) (hq:Low q) (h:rv p=rv q):p=q:=by
 unfold rv at h
 rw [Rat.divInt_eq_divInt_iff (by have:=hp.1;omega) (by have:=hq.1;omega)] at h
 exact qjk hp hq h
def sumQ (l:List (Int×Int)):Int×Int:=l.foldl addR (0,1)
def sumV:List Rat→Rat
 | []=>0
 | x::l=>x+sumV l
theorem sumV_perm {l m:List Rat} (h:l.Perm m):sumV l=sumV m:=by
 induction h with
 | nil=>rfl
 | cons x _ ih=>unfold sumV;rw [ih]
 | swap x y l=>unfold sumV;unfold sumV;rw [← Rat.add_assoc,← Rat.add_assoc,Rat.add_comm y x]
 | trans _ _ h1 h2=>rw [h1,h2]
theorem qot:∀ (l:List (Int×Int)) (z:Int×Int),Low z→(∀ q∈l,Low q)→Low (l.foldl addR z)∧rv (l.foldl addR z)=rv z+sumV (l.map rv)
 | [],z,hz,_=>⟨hz,by show rv z=rv z+0;rw [Rat.add_zero]⟩
 | q::l,z,hz,h=>by
  have hq:=h q List.mem_cons_self
  obtain ⟨h1,h2⟩:=qot l (addR z q) (qhn hz hq) fun x hx=>h x (List.mem_cons_of_mem _ hx)
  refine ⟨h1,?_⟩
  rw [List.foldl_cons,h2,rv_add hz.1 hq.1,Rat.add_assoc]
  rfl
theorem low01:Low (0,1):=⟨by decide,(rfl:Int.gcd 0 1=1)⟩
theorem qhc {l:List (Int×Int)} (h:∀ q∈l,Low q):Low (sumQ l)∧rv (sumQ l)=sumV (l.map rv):=by
 obtain ⟨h1,h2⟩:=qot l (0,1) low01 h
 refine ⟨h1,?_⟩
 have h2':rv (sumQ l)=rv (0,1)+sumV (l.map rv):=h2
 rw [h2']
 have:rv (0,1)=0:=Rat.zero_divInt 1
 rw [this,Rat.zero_add]
theorem sumQ_perm {l m:List (Int×Int)} (p:l.Perm m) (h:∀ q∈l,Low q):sumQ l=sumQ m:=by
 obtain ⟨h1,h2⟩:=qhc h
 obtain ⟨h3,h4⟩:=qhc (l:=m) fun q hq=>h q (p.mem_iff.mpr hq)
 exact rv_inj h1 h3 (by rw [h2,h4];exact sumV_perm (p.map rv))
theorem sumQ_pos {l:List (Int×Int)} (h:∀ q∈l,Low q) (h0:∀ q∈l,0≤q.1):sumQ l=sumQ (l.filter fun q=>decide (0 < q.1)):=by
 obtain ⟨h1,h2⟩:=qhc h
 obtain ⟨h3,h4⟩:=qhc (l:=l.filter fun q=>decide (0 < q.1)) fun q hq=>h q (List.mem_filter.mp hq).1
 refine rv_inj h1 h3 ?_
 rw [h2,h4]
 clear h1 h2 h3 h4
 induction l with
 | nil=>rfl
 | cons q l ih =>
  have ih:=ih (fun x hx=>h x (List.mem_cons_of_mem _ hx)) fun x hx=>h0 x (List.mem_cons_of_mem _ hx)
  rw [List.filter_cons]
  by_cases c:0 < q.1
  ·rw [if_pos (decide_eq_true c),List.map_cons,List.map_cons]
   unfold sumV
   rw [ih]
  ·rw [if_neg (by simpa using c),List.map_cons]
   have e:q.1=0:=by have:=h0 q List.mem_cons_self;omega
   have:rv q=0:=by unfold rv;rw [e];exact Rat.zero_divInt _
   show rv q+sumV (l.map rv)=_
   rw [this,Rat.zero_add,ih]
def votQ (l:Hl) (ns:List Str) (V:List Str):Int×Int:=sumQ ((ns.filter fun n=>decide (n∈V)).map (getQ l))
theorem vot_eq {c:Nat}{hl hm:Hl} (h:HR c hl hm) (V:List Str):votQ hl (srt (hl.map (·.1))) V=votQ hm (hm.map (·.1)) V:=by
 have lw:∀ n,Low (getQ hl n):=fun n=>(h.fr n).low
 have e:getQ hm=getQ hl:=by funext n;exact (h.q n).symm
 unfold votQ
 rw [e]
 conv=>rhs;rw [sumQ_pos (fun q hq=>by obtain ⟨n,_,rfl⟩:=List.mem_map.mp hq;exact lw n) (fun q hq=>by obtain ⟨n,_,rfl⟩:=List.mem_map.mp hq;exact (h.fr n).nn)]
 rw [List.filter_map,List.filter_filter]
 refine sumQ_perm (List.Perm.map _ ?_) fun q hq=>by obtain ⟨n,_,rfl⟩:=List.mem_map.mp hq;exact lw n
 refine (List.perm_ext_iff_of_nodup ?_ ?_).mpr fun n=>?_
 ·exact ((qbq _).nodup_iff.mpr h.n1).filter _
 ·exact h.n2.filter _
 ·rw [List.mem_filter,List.mem_filter,(qbq _).mem_iff,h.nm]
  simp only [Function.comp,Bool.and_eq_true,decide_eq_true_eq]
  constructor
  ·rintro ⟨a1,a2⟩
   exact ⟨h.had (by rw [← h.q];exact a1),a1,a2⟩
  ·rintro ⟨_,a1,a2⟩
   exact ⟨a1,a2⟩
end My
namespace My
open PySem L2 Fra
theorem qht:∀ U:List Str,toVs (U.map PV.str)=some (U.map V.str)
 | []=>rfl
 | x::r=>by
  rw [List.map_cons]
  unfold toVs
  rw [qht r]
  rfl
theorem qok (n:Str) (U:List Str):inV (.str n) (U.map V.str)=decide (n∈U):=by
 unfold inV
 rw [List.any_map,Bool.eq_iff_iff,List.any_eq_true,decide_eq_true_iff]
 constructor
 ·rintro ⟨x,hx,e⟩
  have e:(x == n)=true:=e
  rw [← eq_of_beq e]
  exact hx
 ·intro h
  exact ⟨n,h,beq_self_eq_true n⟩
theorem in_strs (n:Str) (V:List Str) (s:Sto):fIn (.str n) (.lst (V.map .str)) s=.ok (.bl (decide (n∈V))) s:=by
 simp [fIn,fInN,dcOf,toV,lsOf,qht,xor',qok]
theorem qjh (n:Str) (V:List Str) (s:Sto):qdy (.str n) (.lst (V.map .str)) s=.ok (.bl (!decide (n∈V))) s:=by
 simp [qdy,fInN,dcOf,toV,lsOf,qht,xor',qok]
structure Acc (k:Nat) (r:Int×Int):Prop where
 low:Low r
 nn:0≤r.1
 le:r.1≤(32 * k:Nat) * r.2
 bb:Bt (1+962 * k) r.2
theorem acc0:Acc 0 (0,1):=⟨low01,by decide,by decide,bt1 (by omega)⟩
theorem Acc.step {k:Nat}{r q:Int×Int} (h:Acc k r) (g:FrC 5 q):Acc (k+1) (addR r q):=by
 have r2:=h.low.1
 have q2:=g.low.1
 have rq:=Int.mul_pos r2 q2
 have lo:=qhn h.low g.low
 have ev:=qhm (p:=r) (q:=q) r2 q2
 have bb:=qnx r2 q2 h.bb g.bb
 generalize addR r q=A at *
 have a2:=lo.1
 have n1:0≤r.1 * q.2:=Int.mul_nonneg h.nn (Int.le_of_lt q2)
 have n2:0≤q.1 * r.2:=Int.mul_nonneg g.nn (Int.le_of_lt r2)
 have l1:r.1 * q.2≤((32 * k:Nat):Int) * r.2 * q.2:=Int.mul_le_mul_of_nonneg_right h.le (Int.le_of_lt q2)
 have gl:q.1≤32 * q.2:=g.le
 have l2:q.1 * r.2≤32 * q.2 * r.2:=Int.mul_le_mul_of_nonneg_right gl (Int.le_of_lt r2)
 have e1:((32 * (k+1):Nat):Int) * (r.2 * q.2)=((32 * k:Nat):Int) * r.2 * q.2+32 * q.2 * r.2:=by
  have:((32 * (k+1):Nat):Int)=((32 * k:Nat):Int)+32:=by omega
  rw [this,Int.add_mul,Int.mul_assoc,Int.mul_assoc,Int.mul_comm q.2 r.2]
 have l3:r.1 * q.2+q.1 * r.2≤((32 * (k+1):Nat):Int) * (r.2 * q.2):=by rw [e1];omega
 refine ⟨lo,?_,?_,bb.mono (by omega)⟩
 ·have:0≤A.1 * (r.2 * q.2):=by rw [ev];exact Int.mul_nonneg (by omega) (Int.le_of_lt a2)
  rcases Int.lt_or_le A.1 0 with z | z
  ·have:=Int.mul_neg_of_neg_of_pos z rq
   omega
  ·exact z
 ·refine Int.le_of_mul_le_mul_right (a:=r.2 * q.2) ?_ rq
  rw [ev]
  have:=Int.mul_le_mul_of_nonneg_right l3 (Int.le_of_lt a2)
  rw [Int.mul_assoc] at this
  rw [Int.mul_assoc,Int.mul_comm A.2]
  exact this
theorem Acc.top {k:Nat}{r:Int×Int} (h:Acc k r) (hk:k≤6):Bt 7000 r.1:=by
 have r2:=h.low.1
 have hp:((32 * k:Nat):Int)≤192:=by omega
 have:r.1≤192 * r.2:=Int.le_trans h.le (Int.mul_le_mul_of_nonneg_right hp (Int.le_of_lt r2))
 have b:Bt (8+(1+962 * k)) (192 * r.2):=Bt.mul (by unfold Bt;decide:Bt 8 192) h.bb
 have b2:Bt 7000 (192 * r.2):=b.mono (by omega)
 have h0:=h.nn
 unfold Bt at b2 ⊢
 omega
theorem Acc.sz {k:Nat}{r:Int×Int} (h:Acc k r) (hk:k≤6):Sz r:=⟨h.low,(h.top hk).mono (by omega),h.bb.mono (by omega)⟩
theorem qhr (l:Hl) (ns V:List Str) (n:Str):votQ l (ns++[n]) V=if n∈V then addR (votQ l ns V) (getQ l n) else votQ l ns V:=by
 unfold votQ sumQ
 rw [List.filter_append,List.map_append,List.foldl_append]
 by_cases h:n∈V
 ·simp [h]
 ·simp [h]
theorem qg9 (l:Hl) (V:List Str) (hf:∀ n,FrC 5 (getQ l n)):∀ ns:List Str,∃ k,k≤ns.length∧Acc k (votQ l ns V):=by
 have:∀ r:List Str,∃ k,k≤r.reverse.length∧Acc k (votQ l r.reverse V):=by
  intro r
  induction r with
  | nil=>exact ⟨0,Nat.le_refl _,acc0⟩
  | cons n r ih =>
   obtain ⟨k,hk,h⟩:=ih
   rw [List.reverse_cons,qhr]
   by_cases z:n∈V
   ·rw [if_pos z]
    exact ⟨k+1,by simp at hk ⊢;omega,h.step (hf n)⟩
   ·rw [if_neg z]
    exact ⟨k,by simp at hk ⊢;omega,h⟩
 intro ns
 have:=this ns.reverse
 rwa [List.reverse_reverse] at this
end My
namespace My
open PySem L2 Fra
theorem lplus_gen (a:Adr) (s:Sto) (p q:Int×Int) (p0:0 < p.2) (q0:0 < q.2) (b1:Bt 9000 p.2) (b2:Bt 9000 q.2) (b:Bt 9000 (p.2 * q.2)) (t1:Bt 9000 p.1) (t2:Bt 9000 q.1):qa4 a [frP p,frP q] s=.ok (frP (addR p q)) s:=by
 have e:=qfz a s (p.1 * q.2+q.1 * p.2) (p.2 * q.2) (Int.mul_pos p0 q0) b
 simp [sem,fInN,qah,fPut,qa4,qfo,frP,at0,at1,qdu t1 b2,qdu t2 b1,qdu b1 b2,e,addR]
theorem lplus_acc (a:Adr) (s:Sto) {k:Nat}{r q:Int×Int} (h:Acc k r) (hk:k≤6) (g:FrC 5 q):qa4 a [frP r,frP q] s=.ok (frP (addR r q)) s :=
 lplus_gen a s r q h.low.1 g.low.1 (h.bb.mono (by omega)) (g.bb.mono (by omega)) ((h.bb.mul g.bb).mono (by omega)) ((h.top hk).mono (by omega)) (g.top.mono (by omega))
theorem plus_acc (a:Adr) (s:Sto) {k:Nat}{r q:Int×Int} (h:Acc k r) (hk:k≤6) (g:FrC 5 q):qis a [frP r,frP q] s=.ok (frP (addR r q)) s:=by
 have h1:=h.sz hk
 have h2:=g.sz (by omega)
 simp [qis,frP,h1,h2]
def above (q:Int×Int):Bool:=decide (q.2 < q.1 * 2)
theorem outvote_eq (a:Adr) {t:Sto}{nb:Nat}{pp:List Str}{L:List Ent}{e:Ent}{h:Str}{hm:Hl} (U:List Str) (hg:t.get nb=some (.book pp L)) (hf:qeb L h=some e) (hn:Nm h) (hr:HR 5 e.held hm) :
  qdl a [.ref nb,.lst (U.map .str),.str h] t=.ok (.bl (above (votQ e.held (srt (e.held.map (·.1))) U))) t:=by
 have hl6:e.held.length≤6:=hr.l1
 have hsh:qee a [.ref nb,.str h] t=.ok (qna e.held) t:=by simp [qee,qc5,hg,hf,hn];omega
 obtain ⟨ρ',s',hl,rfl,u1,u2,rfl⟩:=qh6 (body:=qav (yTup 2 (yCons (yName 4) (yCons (yName 5) yNil))) (qdk a)) ((srt (e.held.map (·.1))).map fun n=>pairP (qb3 e.held n))
  (fun k ρ s=>t=s∧∃ u1 u2,ρ=[some (.ref nb),some (.lst (U.map .str)),some (.str h),some (frP (votQ e.held ((srt (e.held.map (·.1))).take k) U)),u1,u2])
  (fun k q ρ s hq hI=>by
   obtain ⟨rfl,u1,u2,rfl⟩:=hI
   rw [List.getElem?_map] at hq
   cases hw:(srt (e.held.map (·.1)))[k]? with
   | none=>rw [hw] at hq;cases hq
   | some n =>
    rw [hw] at hq
    cases hq
    have hk:k < (srt (e.held.map (·.1))).length:=(List.getElem?_eq_some_iff.mp hw).1
    rw [qaw,List.length_map] at hk
    have et:(srt (e.held.map (·.1))).take (k+1)=(srt (e.held.map (·.1))).take k++[n]:=by rw [List.take_add_one,hw];rfl
    obtain ⟨j,hj,ac⟩:=qg9 e.held U hr.fr ((srt (e.held.map (·.1))).take k)
    rw [List.length_take] at hj
    have hp:=plus_acc a t ac (by omega) (hr.fr n)
    rw [et,qhr]
    generalize votQ e.held ((srt (e.held.map (·.1))).take k) U=v at *
    refine ⟨_,_,?_,rfl,some (.str n),some (frP (getQ e.held n)),rfl⟩
    have hi:=in_strs n U t
    by_cases z:n∈U
    ·simp only [z,if_true]
     simp only [fIn] at hi
     simp [sem,qah,fPut,qav,qdk,pairP,qml,hi,z,hp]
    ·simp only [z,if_false]
     simp only [fIn] at hi
     simp [sem,qah,fPut,qav,qdk,pairP,qml,hi,z]) (ρ:=[some (.ref nb),some (.lst (U.map .str)),some (.str h),some (.tup [.int 0,.int 1]),none,none]) (s:=t) ⟨rfl,none,none,rfl⟩
 rw [List.length_map,List.take_length] at hl
 obtain ⟨j,hj,ac⟩:=qg9 e.held U hr.fr (srt (e.held.map (·.1)))
 rw [qaw,List.length_map] at hj
 have z1:=ac.sz (by omega)
 generalize votQ e.held (srt (e.held.map (·.1))) U=v at *
 have z2:Sz (1,2):=⟨⟨by decide,(rfl:Int.gcd 1 2=1)⟩,bt1 (by omega),by unfold Bt;exact Nat.lt_of_lt_of_le (by decide:2 < 2 ^ 2) (Nat.pow_le_pow_right (by decide) (by decide))⟩
 have hab:qcz a [frP v,.tup [.int 1,.int 2]] t=.ok (.bl (above v)) t:=by simp [qcz,frP,z1,z2,above]
 have e1:xFor (xIter (xBM 2 (qee a) (xVar 0) (xCons (xVar 2) xNil))) (yTup 2 (yCons (yName 4) (yCons (yName 5) yNil))) (qdk a) [some (.ref nb),some (.lst (U.map .str)),some (.str h),some (.tup [.int 0,.int 1]),none,none] t=.nx [some (.ref nb),some (.lst (U.map .str)),some (.str h),some (frP v),u1,u2] t:=by
  refine qjq (l:=((srt (e.held.map (·.1))).map fun n=>pairP (qb3 e.held n))) (s1:=t) ?_ hl
  simp [sem,fInN,qah,fPut,hg,hsh,qna]
 refine qe9 (v:=.bl (above v)) (s':=t) ?_
 unfold qmo
 rw [qa1 (ρ':=[some (.ref nb),some (.lst (U.map .str)),some (.str h),some (.tup [.int 0,.int 1]),none,none]) (s':=t) (by simp [sem,fInN,qah,fPut,c_ZERO])]
 rw [qa1 e1]
 simp [sem,fInN,qah,fPut,c_HALF,hab]
theorem lvotes_eq (a:Adr) (t:Sto) {D:List (Key×PV)}{h:Str}{l:Hl} (U:List Str) (hd:valP D (Sum.inr h)=some (.dct (hP l))) (hf:∀ n,FrC 5 (getQ l n)) (hl6:l.length≤6) :
  qa0 a [.dct D,.str h,.lst (U.map .str)] t=.ok (.bl (above (votQ l (l.map (·.1)) U))) t:=by
 obtain ⟨ρ',s',hl,rfl,u1,rfl⟩:=qh6 (body:=qav (yName 4) (qb5 a)) ((l.map (·.1)).map PV.str)
  (fun k ρ s=>t=s∧∃ u1,ρ=[some (.dct D),some (.str h),some (.lst (U.map .str)),some (frP (votQ l ((l.map (·.1)).take k) U)),u1])
  (fun k q ρ s hq hI=>by
   obtain ⟨rfl,u1,rfl⟩:=hI
   rw [List.getElem?_map] at hq
   cases hw:(l.map (·.1))[k]? with
   | none=>rw [hw] at hq;cases hq
   | some n =>
    rw [hw] at hq
    cases hq
    have hk:k < (l.map (·.1)).length:=(List.getElem?_eq_some_iff.mp hw).1
    rw [List.length_map] at hk
    have et:(l.map (·.1)).take (k+1)=(l.map (·.1)).take k++[n]:=by rw [List.take_add_one,hw];rfl
    obtain ⟨j,hj,ac⟩:=qg9 l U hf ((l.map (·.1)).take k)
    rw [List.length_take] at hj
    have hp:=lplus_acc a t ac (by omega) (hf n)
    have hv:=qom l n (List.mem_of_getElem? hw)
    rw [et,qhr]
    generalize votQ l ((l.map (·.1)).take k) U=v at *
    refine ⟨_,_,?_,rfl,some (.str n),rfl⟩
    have hi:=in_strs n U t
    simp only [fIn] at hi
    by_cases z:n∈U
    ·simp only [z,if_true]
     simp [sem,qah,fPut,qav,qb5,hi,z,hd,hv,hp]
    ·simp only [z,if_false]
     simp [sem,qah,fPut,qav,qb5,hi,z]) (ρ:=[some (.dct D),some (.str h),some (.lst (U.map .str)),some (.tup [.int 0,.int 1]),none]) (s:=t) ⟨rfl,none,rfl⟩
 rw [List.length_map,List.take_length] at hl
 obtain ⟨j,hj,ac⟩:=qg9 l U hf (l.map (·.1))
 rw [List.length_map] at hj
 have t1:=ac.top (by omega)
 have t2:=ac.bb
 generalize votQ l (l.map (·.1)) U=v at *
 have b2:Bt 9000 2:=Bt.mono (k:=2) (by unfold Bt;decide) (by decide)
 have hle:qbn a [.tup [.int 1,.int 2],frP v] t=.ok (.bl (above v)) t:=by
  have:=lesser_eq a t (1,2) v ⟨bt1 (by omega),b2,t1.mono (by omega),t2.mono (by omega)⟩
  simp only [frP] at this ⊢
  rw [this]
  simp [above]
 have e1:xFor (xIterD (x2 (xVar 0) (xVar 1) fIx)) (yName 4) (qb5 a) [some (.dct D),some (.str h),some (.lst (U.map .str)),some (.tup [.int 0,.int 1]),none] t=.nx [some (.dct D),some (.str h),some (.lst (U.map .str)),some (frP v),u1] t:=by
  refine qjq (l:=(l.map (·.1)).map PV.str) (s1:=t) ?_ hl
  simp [sem,fInN,qah,fPut,hd,hP,keyP]
 refine qe9 (v:=.bl (above v)) (s':=t) ?_
 unfold qg1
 rw [qa1 (ρ':=[some (.dct D),some (.str h),some (.lst (U.map .str)),some (.tup [.int 0,.int 1]),none]) (s':=t) (by simp [sem,fInN,qah,fPut])]
 rw [qa1 e1]
 simp [sem,fInN,qah,fPut,hle]
end My
namespace My
open PySem L2 Fra
theorem qk3 {fi:XA}{ix:List Nat}{c:XT}{e:XE}{ρ:En}{s s1 s2:Sto}{l vs:List PV} (h1:fi ρ s=.ok l s1) (hl:l.length≤100000) (h2:qcw c e (qck ix ρ) l s1=.ok vs s2):qfb fi ix c e ρ s=.ok (.lst vs) s2:=by
 unfold qfb
 rw [h1]
 simp only [Out.bind,hl,if_true]
 rw [h2]
theorem qlu {f:XE}{ρ:En}{s s':Sto}{v:PV} (h:f ρ s=.ok v s'):xRet f ρ s=.rt v s':=by
 unfold xRet
 rw [h]
 rfl
theorem seq_rt {f g:XS}{ρ:En}{s s':Sto}{v:PV} (h:f ρ s=.rt v s'):xSeq f g ρ s=.rt v s':=by unfold xSeq;rw [h]
def lk (M:List (Str×Hl)) (h:Str):Hl:=((M.find? fun m=>decide (m.1=h)).map (·.2)).getD []
def win (M:List (Str×Hl)) (U:List Str) (h:Str):Bool:=above (votQ (lk M h) ((lk M h).map (·.1)) U)
theorem qjg {N:List Str}{c:Nat}{L:List Ent}{M:List (Str×Hl)} (P:Pairs N c L M) {h:Str} (hh:h∈M.map (·.1)):∃ e,qeb L h=some e∧HR c e.held (lk M h)∧valP (entP M) (Sum.inr h)=some (.dct (hP (lk M h))):=by
 induction P with
 | nil=>cases hh
 | @cons e m L M h1 h2 h3 h4 P ih =>
  by_cases z:m.1=h
  ·refine ⟨e,?_,?_,?_⟩
   ·unfold qeb
    rw [List.find?_cons,decide_eq_true (by rw [h1];exact z)]
   ·have:lk (m::M) h=m.2:=by unfold lk;rw [List.find?_cons,decide_eq_true z];rfl
    rw [this]
    exact h2
   ·have:lk (m::M) h=m.2:=by unfold lk;rw [List.find?_cons,decide_eq_true z];rfl
    rw [this]
    unfold entP
    simp [valP,z]
  ·have e1:lk (m::M) h=lk M h:=by unfold lk;rw [List.find?_cons,decide_eq_false z]
   rw [List.map_cons,List.mem_cons] at hh
   obtain ⟨e',g1,g2,g3⟩:=ih (hh.resolve_left fun y=>z y.symm)
   refine ⟨e',?_,?_,?_⟩
   ·unfold qeb
    rw [List.find?_cons,decide_eq_false (by rw [h1];exact z)]
    exact g1
   ·rw [e1];exact g2
   ·rw [e1,← g3]
    unfold entP
    simp [valP,z]
structure Wld (t:Sto) (nb:Nat) (pp hs:List Str) (L:List Ent) (M:List (Str×Hl)):Prop where
 w:Words pp hs
 p:Pairs (pp++hs) 5 L M
 n:L.map (·.nm)=hs
 g:t.get nb=some (.book pp L)
theorem Wld.names {t:Sto}{nb:Nat}{pp hs:List Str}{L:List Ent}{M:List (Str×Hl)} (W:Wld t nb pp hs L M):M.map (·.1)=hs:=by rw [← W.p.names,W.n]
section
variable {t:Sto}{nb:Nat}{pp hs:List Str}{L:List Ent}{M:List (Str×Hl)}
theorem Wld.outv (W:Wld t nb pp hs L M) (a:Adr) {h:Str} (hh:h∈hs) (U:List Str):qdl a [.ref nb,.lst (U.map .str),.str h] t=.ok (.bl (win M U h)) t:=by
 obtain ⟨e,h1,h2,h3⟩:=qjg W.p (h:=h) (by rw [W.names];exact hh)
 rw [outvote_eq a U W.g h1 (W.w.sm _ (List.mem_append_right _ hh)).nm h2,vot_eq h2]
 rfl
theorem Wld.lvot (W:Wld t nb pp hs L M) (a:Adr) {h:Str} (hh:h∈hs) (U:List Str) (t':Sto):qa0 a [.dct (entP M),.str h,.lst (U.map .str)] t'=.ok (.bl (win M U h)) t':=by
 obtain ⟨e,h1,h2,h3⟩:=qjg W.p (h:=h) (by rw [W.names];exact hh)
 rw [lvotes_eq a t' U h3 (fun n=>by rw [← h2.q];exact h2.fr n) h2.l2]
 rfl
theorem Wld.outvd (W:Wld t nb pp hs L M) (a:Adr) (U:List Str):qcy a [.ref nb,.lst (U.map .str)] t=.ok (.lst (((srt hs).filter (win M U)).map .str)) t:=by
 have hho:qe4 a [.ref nb] t=.ok (.lst ((srt hs).map .str)) t:=by simp [qe4,qc5,W.g,W.n]
 have hlen:(srt hs).length≤100000:=by rw [qaw];have:=W.w.h8;omega
 have hc:=qdi (s:=t) (cap:=[some (.ref nb),some (.lst (U.map .str))]) (c:=xTr (xCall 3 (qdl a) (xCons (xVar 1) (xCons (xVar 2) (xCons (xVar 0) xNil))))) (e:=xVar 0)
  (fun q=>match q with | .str h=>win M U h | _=>false) id ((srt hs).map .str) (fun q hq=>by
   obtain ⟨h,hh,rfl⟩:=List.mem_map.mp hq
   have:=W.outv a ((qbq hs).mem_iff.mp hh) U
   simp [sem,fInN,qah,fPut,this]) (fun q hq _=>by simp [xVar])
 have e1:((((srt hs).map PV.str).filter fun q=>match q with | .str h=>win M U h | _=>false).map id)=((srt hs).filter (win M U)).map .str:=by
  rw [List.map_id,List.filter_map]
  rfl
 rw [e1] at hc
 refine qe9 ?_
 unfold qjp
 refine qlu (qk3 (l:=(srt hs).map .str) (s1:=t) (by simp [sem,fInN,qah,fPut,W.g,hho]) (by simpa using hlen) hc)
end
end My
namespace My
open PySem L2 Fra
def again (U:List Str) (k:Nat):Bool:=decide (U.getD k (Str.ofString "")∈U.take k)
section
variable {t:Sto}{nb:Nat}{pp hs:List Str}{L:List Ent}{M:List (Str×Hl)}
end
end My
namespace My
open PySem L2 Fra
abbrev LS (U:List Str):PV:=.lst (U.map .str)
theorem qh4 (s:Sto) (k:Nat):∀ (U:List Str),(∀ x∈U,PyData.strOk x=true)→mapO (PV.data s (k+1)) (U.map PV.str)=some (U.map PyData.str)
 | [],_=>rfl
 | x::r,h=>by
  rw [List.map_cons]
  unfold mapO
  rw [qh4 s k r fun y hy=>h y (List.mem_cons_of_mem _ hy)]
  have e:PV.data s (k+1) (.str x)=some (.str x):=by unfold PV.data;rw [if_pos (h x List.mem_cons_self)]
  rw [e]
  rfl
theorem data_LS (s:Sto) (k:Nat) {U:List Str} (h:∀ x∈U,PyData.strOk x=true):PV.data s (k+2) (LS U)=some (.list (U.map PyData.str)):=by
 unfold PV.data
 rw [qh4 s k U h]
 rfl
theorem ne_nil (s:Sto) {U:List Str} (h:∀ x∈U,PyData.strOk x=true):fNe (LS U) (.lst []) s=.ok (.bl (decide (U≠[]))) s:=by
 have e2:PV.data s 12 (LS U)=some (.list (U.map PyData.str)):=data_LS s 10 h
 have e3:PV.data s 12 (.lst [])=some (.list []):=rfl
 unfold fNe fEqN
 rw [e2,e3]
 simp only [if_true]
 unfold PyData.eqv
 cases U with
 | nil=>simp [PyData.eqvAll]
 | cons x r=>simp [PyData.eqvAll]
theorem sm_ok {x:Str} (h:Sm x):PyData.strOk x=true:=by
 unfold PyData.strOk
 rw [← Array.all_toList,List.all_eq_true]
 intro c hc
 exact decide_eq_true (Nat.lt_trans (h.2 c hc) (by decide))
theorem qic:∀ M:List (Str×Hl),keysOf (entP M)=some (M.map (·.1))
 | []=>rfl
 | m::M=>by
  have:=qic M
  unfold entP at this ⊢
  rw [List.map_cons]
  unfold keysOf
  rw [this]
  rfl
def qay (M:List (Str×Hl)) (hs:List Str) (w:Str) (lot:List Str):List Str:=(srt hs).filter fun n=>!decide (n∈lot) && win M (w::lot) n
section
variable {t:Sto}{nb:Nat}{pp hs:List Str}{L:List Ent}{M:List (Str×Hl)}
theorem Wld.srtE (W:Wld t nb pp hs L M) (t':Sto):qah [.dct (entP M)] t'=.ok (LS (srt hs)) t':=by
 have h8:=W.w.h8
 have:hs.length < 64:=by omega
 simp [qah,lsOf,dcOf,qic,W.names,this]
theorem Wld.next0 (W:Wld t nb pp hs L M) (a:Adr) (w:Str) (t':Sto) (o2 o3 o4:Option PV):qfb (xIter (xB (xCons (xVar 0) xNil) qah)) [0,1] (xTr (xCall 3 (qa0 a) (xCons (xVar 1) (xCons (xVar 0) (xCons (xLst (xCons (xVar 2) xNil)) xNil))))) (xVar 0) [some (.dct (entP M)),some (.str w),o2,o3,o4] t'=.ok (LS (qay M hs w [])) t':=by
 have h8:=W.w.h8
 have hs1:=W.srtE t'
 have c:=qdi (s:=t') (cap:=[some (.dct (entP M)),some (.str w)]) (c:=xTr (xCall 3 (qa0 a) (xCons (xVar 1) (xCons (xVar 0) (xCons (xLst (xCons (xVar 2) xNil)) xNil))))) (e:=xVar 0) (fun q=>match q with | .str n=>win M [w] n | _=>false) id ((srt hs).map .str) (fun q hq=>by
  obtain ⟨n,hn,rfl⟩:=List.mem_map.mp hq
  have h2:=W.lvot a ((qbq hs).mem_iff.mp hn) [w] t'
  simp only [List.map_cons,List.map_nil] at h2
  simp [sem,fInN,qah,fPut,h2]) (fun q hq _=>by simp [xVar])
 have e1:(((((srt hs).map PV.str).filter fun q=>match q with | .str n=>win M [w] n | _=>false)).map id)=(qay M hs w []).map .str:=by
  rw [List.map_id,List.filter_map]
  unfold qay
  congr 2
 rw [e1] at c
 exact qk3 (l:=(srt hs).map .str) (s1:=t') (by simp only [xIter,xB,xCons,xNil,xVar,Out.bind,List.getElem?_cons_zero,hs1,lsOf]) (by rw [List.length_map,qaw];omega) c
theorem Wld.nextL (W:Wld t nb pp hs L M) (a:Adr) (w:Str) (lot:List Str) (hl:lot.length≤8) (t':Sto) (o3 o4:Option PV):qfb (xIter (xB (xCons (xVar 0) xNil) qah)) [2,0,1] (xAnd (xTr (x2 (xVar 0) (xVar 1) qdy)) (xTr (xCall 3 (qa0 a) (xCons (xVar 2) (xCons (xVar 0) (xCons (x2 (xLst (xCons (xVar 3) xNil)) (xVar 1) fAdd) xNil)))))) (xVar 0) [some (.dct (entP M)),some (.str w),some (LS lot),o3,o4] t'=.ok (LS (qay M hs w lot)) t':=by
 have h8:=W.w.h8
 have hs1:=W.srtE t'
 have c:=qdi (s:=t') (cap:=[some (LS lot),some (.dct (entP M)),some (.str w)]) (c:=xAnd (xTr (x2 (xVar 0) (xVar 1) qdy)) (xTr (xCall 3 (qa0 a) (xCons (xVar 2) (xCons (xVar 0) (xCons (x2 (xLst (xCons (xVar 3) xNil)) (xVar 1) fAdd) xNil)))))) (e:=xVar 0) (fun q=>match q with | .str n=>!decide (n∈lot) && win M (w::lot) n | _=>false) id ((srt hs).map .str) (fun q hq=>by
  obtain ⟨n,hn,rfl⟩:=List.mem_map.mp hq
  have h1:=qjh n lot t'
  have h2:=W.lvot a ((qbq hs).mem_iff.mp hn) (w::lot) t'
  have hcat:1+lot.length≤100000:=by omega
  rw [List.map_cons] at h2
  by_cases z:n∈lot
  ·simp [sem,qah,fPut,h1,z,qdy]
  ·simp [sem,qah,fPut,h1,z,h2,hcat,qdy]) (fun q hq _=>by simp [xVar])
 have e1:(((((srt hs).map PV.str).filter fun q=>match q with | .str n=>!decide (n∈lot) && win M (w::lot) n | _=>false)).map id)=(qay M hs w lot).map .str:=by
  rw [List.map_id,List.filter_map]
  rfl
 rw [e1] at c
 exact qk3 (l:=(srt hs).map .str) (s1:=t') (by simp only [xIter,xB,xCons,xNil,xVar,Out.bind,List.getElem?_cons_zero,hs1,lsOf]) (by rw [List.length_map,qaw];omega) c
theorem Wld.step (W:Wld t nb pp hs L M) (a:Adr) (w:Str) (lot more:List Str) (hl:lot.length+more.length≤8) (Rs:List (List Str)) (hR:Rs.length≤8) (t':Sto) :
  qbu a [some (.dct (entP M)),some (.str w),some (LS lot),some (.ref t'.nx),some (LS more)] (t'.add (.lst (Rs.map LS)))=.nx [some (.dct (entP M)),some (.str w),some (LS (lot++more)),some (.ref t'.nx),some (LS (qay M hs w (lot++more)))] (t'.add (.lst ((Rs++[more]).map LS))):=by
 have hn:=W.nextL a w (lot++more) (by rw [List.length_append];exact hl) (t'.add (.lst ((Rs++[more]).map LS))) (some (.ref t'.nx)) (some (LS more))
 have hcat:lot.length+more.length≤100000:=by omega
 unfold qbu
 rw [qa1 (ρ':=[some (.dct (entP M)),some (.str w),some (LS lot),some (.ref t'.nx),some (LS more)]) (s':=t'.add (.lst ((Rs++[more]).map LS))) (by simp [sem,fInN,qah,fPut,qgs,qjb,show Rs.length < 100000 by omega])]
 rw [qa1 (ρ':=[some (.dct (entP M)),some (.str w),some (LS (lot++more)),some (.ref t'.nx),some (LS more)]) (s':=t'.add (.lst ((Rs++[more]).map LS))) (by simp [sem,fInN,qah,fPut,hcat,LS])]
 simp only [xSet,hn,Out.so]
 rfl
theorem nodup_len {l m:List Str} (h1:l.Nodup) (h2:m.Nodup) (h:∀ n∈l,n∈m):l.length≤m.length:=by
 have:l.Perm (m.filter fun n=>decide (n∈l)):=(List.perm_ext_iff_of_nodup h1 (h2.filter _)).mpr fun n=>by
  rw [List.mem_filter,decide_eq_true_iff]
  exact ⟨fun z=>⟨h n z,z⟩,fun z=>z.2⟩
 rw [this.length_eq]
 exact List.length_filter_le _ _
theorem qfi (W:Wld t nb pp hs L M) (w:Str) {lot:List Str} (h1:lot.Nodup) (h2:∀ n∈lot,n∈hs):(lot++qay M hs w lot).Nodup∧(∀ n∈lot++qay M hs w lot,n∈hs)∧(lot++qay M hs w lot).length≤hs.length:=by
 have ndh:hs.Nodup:=(List.nodup_append.mp W.w.nd).2.1
 have a1:(lot++qay M hs w lot).Nodup:=by
  refine List.nodup_append.mpr ⟨h1,((qbq hs).nodup_iff.mpr ndh).filter _,fun x hx y hy e=>?_⟩
  have:=(List.mem_filter.mp hy).2
  rw [Bool.and_eq_true] at this
  rw [← e,decide_eq_true hx] at this
  exact absurd this.1 (by decide)
 have a2:∀ n∈lot++qay M hs w lot,n∈hs:=fun n hn=>by
  rcases List.mem_append.mp hn with h | h
  ·exact h2 n h
  ·exact (qbq hs).mem_iff.mp (List.mem_filter.mp h).1
 exact ⟨a1,a2,nodup_len a1 ndh a2⟩
end
end My
namespace My
open PySem L2 Fra
def rnd (M:List (Str×Hl)) (hs:List Str) (w:Str):Nat→List Str→List (List Str)
 | 0,_=>[]
 | k+1,lot=>if qay M hs w lot=[] then [] else qay M hs w lot::rnd M hs w k (lot++qay M hs w lot)
def rcs (n:Nat):List (List Str)→List (Nat×Cell)
 | []=>[]
 | r::R=>(n+R.length,.lst (r.map .str))::rcs n R
def refs (n k:Nat):List PV:=(List.range k).map fun i=>.ref (n+i)
theorem refs_succ (n k:Nat):refs n (k+1)=refs n k++[.ref (n+k)]:=by unfold refs;rw [List.range_succ,List.map_append];rfl
def rst (t:Sto) (R:List (List Str)) (x:List (Nat×Cell)) (k:Nat):Sto:=⟨t.nx+1+R.length+k,x++(rcs (t.nx+1) R++(t.nx,.lst (refs (t.nx+1) R.length))::t.cs)⟩
theorem qhi {n m:Nat} (h:m < n) (rest:List (Nat×Cell)):∀ R:List (List Str),getC (rcs n R++rest) m=getC rest m
 | []=>rfl
 | r::R=>by
  show getC ((n+R.length,_)::(rcs n R++rest)) m=_
  rw [qa7,if_neg (by omega),qhi h rest R]
theorem qn0 {n m:Nat} (h:m < n) (c:Cell) (rest:List (Nat×Cell)):∀ R:List (List Str),setC m c (rcs n R++rest)=rcs n R++setC m c rest
 | []=>rfl
 | r::R=>by
  show setC m c ((n+R.length,_)::(rcs n R++rest))=(n+R.length,_)::(rcs n R++setC m c rest)
  rw [← qn0 h c rest R]
  conv=>lhs;unfold setC
  rw [if_neg (by omega)]
section
variable {t:Sto}{nb:Nat}{pp hs:List Str}{L:List Ent}{M:List (Str×Hl)}
theorem rst_get (hnb:nb < t.nx) (R:List (List Str)):(rst t R [] 0).get nb=t.get nb:=by
 unfold rst Sto.get
 rw [List.nil_append,qhi (by omega),qa7,if_neg (by omega)]
theorem Wld.rst (W:Wld t nb pp hs L M) (hnb:nb < t.nx) (R:List (List Str)):Wld (My.rst t R [] 0) nb pp hs L M:=⟨W.w,W.p,W.n,(rst_get hnb R).trans W.g⟩
noncomputable def drL (a:Adr) (l:List PV) (p:PV) (s:Sto):Out PV:=noX ((xCall 2 (qcy a) (xCons (xVar 1) (xCons (x2 (xLst (xCons (xVar 2) xNil)) (xVar 0) fAdd) xNil))) (some p::l.map some) s)
theorem Wld.drL (W:Wld t nb pp hs L M) (a:Adr) (w:Str) (lot:List Str) (hl:lot.length≤8):My.drL a [.ref nb,.str w] (LS lot) t=.ok (LS ((srt hs).filter (win M (w::lot)))) t:=by
 have h:=W.outvd a (w::lot)
 have hcat:1+lot.length≤100000:=by omega
 rw [List.map_cons] at h
 unfold My.drL
 simp [sem,fInN,qah,fPut,h,hcat,noX]
theorem next_eq (w:Str) (lot:List Str):(((srt hs).filter (win M (w::lot))).filter fun n=>!decide (n∈lot))=qay M hs w lot:=by
 unfold qay
 rw [List.filter_filter]
theorem Wld.compR (W:Wld t nb pp hs L M) (hnb:nb < t.nx) (a:Adr) (f:Addr) (ws:List V) (w:Str) (lot:List Str) (hl:lot.length≤8) (R:List (List Str)) (o1 o3:Option PV) :
  qi6 (xIter (qi7 0 f ws (My.drL a) (xVar 2))) [2] (xTr (x2 (xVar 0) (xVar 1) qdy)) (xVar 0) [some (.clo f ws [.ref nb,.str w]),o1,some (LS lot),o3] (My.rst t R [] 0)=.ok (.ref (t.nx+1+R.length)) (My.rst t R [(t.nx+1+R.length,.lst ((qay M hs w lot).map .str))] 1):=by
 have h1:=(W.rst hnb R).drL a w lot hl
 have h8:=W.w.h8
 have c:=qdi (s:=My.rst t R [] 0) (cap:=[some (LS lot)]) (c:=xTr (x2 (xVar 0) (xVar 1) qdy)) (e:=xVar 0) (fun q=>match q with | .str n=>!decide (n∈lot) | _=>false) id (((srt hs).filter (win M (w::lot))).map .str) (fun q hq=>by
  obtain ⟨n,hn,rfl⟩:=List.mem_map.mp hq
  have h1:=qjh n lot (My.rst t R [] 0)
  simp [sem,qah,fPut,h1,qdy]) (fun q hq _=>by simp [xVar])
 have e1:((((((srt hs).filter (win M (w::lot))).map PV.str).filter fun q=>match q with | .str n=>!decide (n∈lot) | _=>false)).map id)=(qay M hs w lot).map .str:=by
  rw [List.map_id,List.filter_map,← next_eq]
  rfl
 rw [e1] at c
 have hlen:(((srt hs).filter (win M (w::lot))).map PV.str).length≤100000:=by
  rw [List.length_map]
  exact Nat.le_trans (List.length_filter_le _ _) (by rw [qaw];omega)
 have h2:xIter (qi7 0 f ws (My.drL a) (xVar 2)) [some (.clo f ws [.ref nb,.str w]),o1,some (LS lot),o3] (My.rst t R [] 0)=.ok (((srt hs).filter (win M (w::lot))).map .str) (My.rst t R [] 0):=by
  simp only [xIter,qi7,List.getElem?_cons_zero,List.getElem?_cons_succ,and_self,if_true,xVar,Out.bind,h1,noX,lsOf]
 unfold qi6
 rw [h2]
 simp only [Out.bind,if_pos hlen]
 have c':qcw (xTr (x2 (xVar 0) (xVar 1) qdy)) (xVar 0) (qck [2] [some (.clo f ws [.ref nb,.str w]),o1,some (LS lot),o3]) (((srt hs).filter (win M (w::lot))).map .str) (My.rst t R [] 0)=.ok ((qay M hs w lot).map .str) (My.rst t R [] 0):=c
 rw [c']
 rfl
end
end My
namespace My
open PySem L2 Fra
theorem eq_nilR (s:Sto) {n:Nat}{U:List Str} (hg:s.get n=some (.lst (U.map .str))) (h:∀ x∈U,PyData.strOk x=true):fEq (.ref n) (.lst []) s=.ok (.bl (decide (U=[]))) s:=by
 have e2:PV.data s 12 (.ref n)=some (.list (U.map PyData.str)):=by
  unfold PV.data
  rw [hg]
  simp only
  rw [qh4 s 10 U h]
  rfl
 have e3:PV.data s 12 (.lst [])=some (.list []):=rfl
 unfold fEq fEqN
 rw [e2,e3]
 unfold PyData.eqv
 cases U with
 | nil=>simp [PyData.eqvAll]
 | cons x r=>simp [PyData.eqvAll]
section
variable {t:Sto}{nb:Nat}{pp hs:List Str}{L:List Ent}{M:List (Str×Hl)}
theorem rst_id (t:Sto) (R:List (List Str)) (c:Cell):(rst t R [(t.nx+1+R.length,c)] 1).get (t.nx+1+R.length)=some c:=by
 show getC ((t.nx+1+R.length,c)::_) _=_
 rw [qa7,if_pos rfl]
theorem qn6 (t:Sto) (R:List (List Str)) (c:Cell):(rst t R [(t.nx+1+R.length,c)] 1).get t.nx=some (.lst (refs (t.nx+1) R.length)):=by
 show getC ((t.nx+1+R.length,c)::(rcs (t.nx+1) R++_)) _=_
 rw [qa7,if_neg (by omega),qhi (by omega),qa7,if_pos rfl]
theorem rst_put (t:Sto) (R:List (List Str)) (r:List Str):(rst t R [(t.nx+1+R.length,.lst (r.map .str))] 1).set t.nx (.lst (refs (t.nx+1) R.length++[.ref (t.nx+1+R.length)]))=rst t (r::R) [] 0:=by
 unfold rst Sto.set
 have e:setC t.nx (.lst (refs (t.nx+1) R.length++[.ref (t.nx+1+R.length)])) ([(t.nx+1+R.length,.lst (r.map .str))]++(rcs (t.nx+1) R++(t.nx,.lst (refs (t.nx+1) R.length))::t.cs))=(t.nx+1+R.length,.lst (r.map .str))::(rcs (t.nx+1) R++(t.nx,.lst (refs (t.nx+1) (R.length+1)))::t.cs):=by
  show setC t.nx _ ((t.nx+1+R.length,_)::(rcs (t.nx+1) R++(t.nx,Cell.lst (refs (t.nx+1) R.length))::t.cs))=_
  conv=>lhs;unfold setC
  rw [if_neg (by omega),qn0 (by omega),refs_succ]
  congr 2
  conv=>lhs;unfold setC
  rw [if_pos rfl]
 show Sto.mk _ (setC _ _ _)=_
 rw [e]
 rfl
theorem Wld.stepR (W:Wld t nb pp hs L M) (hnb:nb < t.nx) (a:Adr) (f:Addr) (ws:List V) (w:Str) (lot:List Str) (hl:lot.length≤8) (hl2:(lot++qay M hs w lot).length≤8) (hlh:∀ n∈qay M hs w lot,n∈hs) (R:List (List Str)) (hR:R.length≤8) (o3:Option PV) :
  qd4 a f ws (My.drL a) [some (.clo f ws [.ref nb,.str w]),some (.ref t.nx),some (LS lot),o3] (My.rst t R [] 0) =
   if qay M hs w lot=[] then .rt (.ref t.nx) (My.rst t R [(t.nx+1+R.length,.lst [])] 1) else .nx [some (.clo f ws [.ref nb,.str w]),some (.ref t.nx),some (LS (lot++qay M hs w lot)),some (.ref (t.nx+1+R.length))] (My.rst t (qay M hs w lot::R) [] 0):=by
 have h1:=W.compR hnb a f ws w lot hl R (some (.ref t.nx)) o3
 have smh:∀ n∈qay M hs w lot,PyData.strOk n=true:=fun n hn=>sm_ok (W.w.sm n (List.mem_append_right _ (hlh n hn)))
 generalize qay M hs w lot=nx at *
 have h2:=rst_id t R (.lst (nx.map .str))
 have h3:=qn6 t R (.lst (nx.map .str))
 have h4:=eq_nilR _ h2 smh
 have h5:=rst_put t R nx
 have hcat:lot.length+nx.length≤100000:=by rw [List.length_append] at hl2;omega
 have hrl:(refs (t.nx+1) R.length).length < 100000:=by unfold refs;rw [List.length_map,List.length_range];omega
 unfold qd4
 rw [qa1 (ρ':=[some (.clo f ws [.ref nb,.str w]),some (.ref t.nx),some (LS lot),some (.ref (t.nx+1+R.length))]) (s':=My.rst t R [(t.nx+1+R.length,.lst (nx.map .str))] 1) (by simp only [xSet,h1,Out.so];rfl)]
 by_cases e:nx=[]
 ·subst e
  rw [if_pos rfl]
  refine seq_rt ?_
  simp only [xIf,xTr,x2,xVar,xLst,xNil,Out.bind,List.getElem?_cons_zero,List.getElem?_cons_succ,List.length_nil,Nat.zero_le,if_true,h4,Out.so,xRet,decide_true]
  rfl
 ·rw [if_neg e]
  rw [qa1 (ρ':=[some (.clo f ws [.ref nb,.str w]),some (.ref t.nx),some (LS lot),some (.ref (t.nx+1+R.length))]) (s':=My.rst t R [(t.nx+1+R.length,.lst (nx.map .str))] 1) (by
   simp only [xIf,xTr,x2,xVar,xLst,xNil,Out.bind,List.getElem?_cons_zero,List.getElem?_cons_succ,List.length_nil,Nat.zero_le,if_true,h4,Out.so,e,decide_false,xEnd]
   rfl)]
  rw [qa1 (ρ':=[some (.clo f ws [.ref nb,.str w]),some (.ref t.nx),some (LS lot),some (.ref (t.nx+1+R.length))]) (s':=My.rst t (nx::R) [] 0) (by
   rw [← h5]
   simp only [xDo,xAppend,xVar,xCons,xNil,Out.bind,List.getElem?_cons_zero,List.getElem?_cons_succ,h3,hrl,if_true,Out.so])]
  have h6:(My.rst t (nx::R) [] 0).get (t.nx+1+R.length)=some (.lst (nx.map .str)):=by
   show getC ((t.nx+1+R.length,_)::_) _=_
   rw [qa7,if_pos rfl]
  simp [sem,fInN,qah,fPut,h6,hcat,LS]
end
end My
namespace My
open PySem L2 Fra
section
variable {t:Sto}{nb:Nat}{pp hs:List Str}{L:List Ent}{M:List (Str×Hl)}
theorem qne {w:Str}{lot:List Str} (h:qay M hs w lot=[]) (k:Nat):rnd M hs w k lot=[]:=by
 cases k with
 | zero=>rfl
 | succ k=>unfold rnd;rw [if_pos h]
theorem qkh {w:Str}{lot:List Str} (h:qay M hs w lot≠[]) (k:Nat):rnd M hs w (k+1) lot=qay M hs w lot::rnd M hs w k (lot++qay M hs w lot):=by
 conv=>lhs;unfold rnd
 rw [if_neg h]
theorem Wld.loopL (W:Wld t nb pp hs L M) (a:Adr) (w:Str) (t':Sto):∀ (k:Nat) (lot:List Str) (Rs:List (List Str)),lot.Nodup→(∀ n∈lot,n∈hs)→Rs.length≤lot.length→hs.length≤lot.length+k →
  ∃ (n:Nat) (lot':List Str) (o4:Option PV),qbf (xTr (x2 (xVar 4) (xLst xNil) fNe)) (qbu a) n [some (.dct (entP M)),some (.str w),some (LS lot),some (.ref t'.nx),some (LS (qay M hs w lot))] (t'.add (.lst (Rs.map LS)))
  =.nx [some (.dct (entP M)),some (.str w),some (LS lot'),some (.ref t'.nx),o4] (t'.add (.lst ((Rs++rnd M hs w k lot).map LS))):=by
 have h8:=W.w.h8
 have smh:∀ n∈hs,PyData.strOk n=true:=fun n hn=>sm_ok (W.w.sm n (List.mem_append_right _ hn))
 have stop:∀ (k:Nat) (lot:List Str) (Rs:List (List Str)),qay M hs w lot=[]→∃ (n:Nat) (lot':List Str) (o4:Option PV),qbf (xTr (x2 (xVar 4) (xLst xNil) fNe)) (qbu a) n [some (.dct (entP M)),some (.str w),some (LS lot),some (.ref t'.nx),some (LS (qay M hs w lot))] (t'.add (.lst (Rs.map LS)))
  =.nx [some (.dct (entP M)),some (.str w),some (LS lot'),some (.ref t'.nx),o4] (t'.add (.lst ((Rs++rnd M hs w k lot).map LS))):=fun k lot Rs e=>by
  rw [qne e,e,List.append_nil]
  refine ⟨1,lot,some (LS []),?_⟩
  have hne:=ne_nil (t'.add (.lst (Rs.map LS))) (U:=[]) (fun x hx=>by cases hx)
  unfold qbf
  simp only [xTr,x2,xVar,xLst,xNil,Out.bind,List.getElem?_cons_zero,List.getElem?_cons_succ,List.length_nil,Nat.zero_le,if_true,hne,Out.so]
  simp
 intro k
 induction k with
 | zero =>
  intro lot Rs h1 h2 h4 h5
  obtain ⟨a1,a2,a3⟩:=qfi W w h1 h2
  have e:qay M hs w lot=[]:=by
   rw [List.length_append] at a3
   exact List.eq_nil_of_length_eq_zero (by omega)
  exact stop 0 lot Rs e
 | succ k ih =>
  intro lot Rs h1 h2 h4 h5
  obtain ⟨a1,a2,a3⟩:=qfi W w h1 h2
  rw [List.length_append] at a3
  by_cases e:qay M hs w lot=[]
  ·exact stop (k+1) lot Rs e
  ·have hne:=ne_nil (t'.add (.lst (Rs.map LS))) (U:=qay M hs w lot) (fun x hx=>smh x (a2 x (List.mem_append_right _ hx)))
   have hpos:0 < (qay M hs w lot).length:=List.length_pos_iff.mpr e
   have hst:=W.step a w lot (qay M hs w lot) (by omega) Rs (by omega) t'
   obtain ⟨n,lot',o4,g5⟩:=ih (lot++qay M hs w lot) (Rs++[qay M hs w lot]) a1 a2 (by rw [List.length_append,List.length_append,List.length_singleton];omega) (by rw [List.length_append];omega)
   refine ⟨n+1,lot',o4,?_⟩
   rw [qkh e,show Rs++qay M hs w lot::rnd M hs w k (lot++qay M hs w lot)=(Rs++[qay M hs w lot])++rnd M hs w k (lot++qay M hs w lot) by simp]
   unfold qbf
   simp only [xTr,x2,xVar,xLst,xNil,Out.bind,List.getElem?_cons_zero,List.getElem?_cons_succ,List.length_nil,Nat.zero_le,if_true,hne,Out.so]
   simp only [e,ne_eq,not_false_eq_true,decide_true,if_true]
   rw [hst]
   exact g5
theorem Wld.lrounds (W:Wld t nb pp hs L M) (a:Adr) (w:Str) (t':Sto):qco a [.dct (entP M),.str w] t'=.ok (.lst ((rnd M hs w hs.length []).map LS)) (Sto.bump t'):=by
 obtain ⟨n,lot',o4,g5⟩:=W.loopL a w t' hs.length [] [] List.nodup_nil (fun n hn=>by cases hn) (Nat.le_refl _) (by simp)
 rw [List.nil_append] at g5
 have hw:=qhp g5 (by simp)
 have h0:=W.next0 a w (t'.add (.lst [])) (some (.lst [])) (some (.ref t'.nx)) none
 refine qe9 ?_
 unfold qf4
 rw [qa1 (ρ':=[some (.dct (entP M)),some (.str w),some (.lst []),none,none]) (s':=t') (by simp [sem,fInN,qah,fPut])]
 rw [qa1 (ρ':=[some (.dct (entP M)),some (.str w),some (.lst []),some (.ref t'.nx),none]) (s':=t'.add (.lst [])) (by simp [sem,fInN,qah,fPut])]
 rw [qa1 (ρ':=[some (.dct (entP M)),some (.str w),some (.lst []),some (.ref t'.nx),some (LS (qay M hs w []))]) (s':=t'.add (.lst [])) (by simp only [xSet,h0,Out.so];rfl)]
 refine (qa1 (ρ':=[some (.dct (entP M)),some (.str w),some (LS lot'),some (.ref t'.nx),o4]) (s':=t'.add (.lst ((rnd M hs w hs.length []).map LS))) hw).trans ?_
 refine qlu ?_
 simp [xFrz,xVar,frz1,Out.bind,qgs,del_add]
theorem Wld.loopR (W:Wld t nb pp hs L M) (hnb:nb < t.nx) (a:Adr) (f:Addr) (ws:List V) (w:Str):∀ (k:Nat) (lot:List Str) (R:List (List Str)) (o3:Option PV),lot.Nodup→(∀ n∈lot,n∈hs)→R.length≤lot.length→hs.length≤lot.length+k →
  ∃ n:Nat,qbf (xTr (xC (.bl true))) (qd4 a f ws (My.drL a)) n [some (.clo f ws [.ref nb,.str w]),some (.ref t.nx),some (LS lot),o3] (My.rst t R [] 0)
  =.rt (.ref t.nx) (My.rst t ((rnd M hs w k lot).reverse++R) [(t.nx+1+((rnd M hs w k lot).reverse++R).length,.lst [])] 1):=by
 have h8:=W.w.h8
 have stop:∀ (k:Nat) (lot:List Str) (R:List (List Str)) (o3:Option PV),lot.Nodup→(∀ n∈lot,n∈hs)→R.length≤lot.length→qay M hs w lot=[]→∃ n:Nat,qbf (xTr (xC (.bl true))) (qd4 a f ws (My.drL a)) n [some (.clo f ws [.ref nb,.str w]),some (.ref t.nx),some (LS lot),o3] (My.rst t R [] 0)
  =.rt (.ref t.nx) (My.rst t ((rnd M hs w k lot).reverse++R) [(t.nx+1+((rnd M hs w k lot).reverse++R).length,.lst [])] 1):=fun k lot R o3 h1 h2 h4 e=>by
  obtain ⟨a1,a2,a3⟩:=qfi W w h1 h2
  have hll:lot.length≤8:=by rw [e,List.append_nil] at a3;omega
  have hst:=W.stepR hnb a f ws w lot hll (by omega) (fun n hn=>a2 n (List.mem_append_right _ hn)) R (by omega) o3
  rw [if_pos e] at hst
  refine ⟨1,?_⟩
  rw [qne e]
  unfold qbf
  simp only [xTr,xC,Out.bind,Out.so,if_true]
  rw [hst]
  rfl
 intro k
 induction k with
 | zero =>
  intro lot R o3 h1 h2 h4 h5
  obtain ⟨a1,a2,a3⟩:=qfi W w h1 h2
  have e:qay M hs w lot=[]:=by
   rw [List.length_append] at a3
   exact List.eq_nil_of_length_eq_zero (by omega)
  exact stop 0 lot R o3 h1 h2 h4 e
 | succ k ih =>
  intro lot R o3 h1 h2 h4 h5
  obtain ⟨a1,a2,a3⟩:=qfi W w h1 h2
  by_cases e:qay M hs w lot=[]
  ·exact stop (k+1) lot R o3 h1 h2 h4 e
  ·have hpos:0 < (qay M hs w lot).length:=List.length_pos_iff.mpr e
   have hll:lot.length≤8:=by rw [List.length_append] at a3;omega
   have hst:=W.stepR hnb a f ws w lot hll (by omega) (fun n hn=>a2 n (List.mem_append_right _ hn)) R (by omega) o3
   rw [if_neg e] at hst
   obtain ⟨n,g5⟩:=ih (lot++qay M hs w lot) (qay M hs w lot::R) (some (.ref (t.nx+1+R.length))) a1 a2 (by rw [List.length_append,List.length_cons];omega) (by rw [List.length_append];omega)
   refine ⟨n+1,?_⟩
   rw [qkh e,List.reverse_cons,List.append_assoc,List.singleton_append]
   unfold qbf
   simp only [xTr,xC,Out.bind,Out.so,if_true]
   rw [hst]
   exact g5
def rul (t:Sto) (Rs:List (List Str)):Sto:=My.rst t Rs.reverse [(t.nx+1+Rs.reverse.length,.lst [])] 1
theorem Wld.roundsR (W:Wld t nb pp hs L M) (hnb:nb < t.nx) (a:Adr) (f:Addr) (ws:List V) (w:Str):qe2 a f ws (My.drL a) [.clo f ws [.ref nb,.str w]] t=.ok (.ref t.nx) (rul t (rnd M hs w hs.length [])):=by
 obtain ⟨n,g5⟩:=W.loopR hnb a f ws w hs.length [] [] none List.nodup_nil (fun n hn=>by cases hn) (Nat.le_refl _) (by simp)
 rw [List.append_nil] at g5
 have hw:=qhp g5 (by simp)
 refine qe9 ?_
 unfold qop
 rw [qa1 (ρ':=[some (.clo f ws [.ref nb,.str w]),some (.ref t.nx),none,none]) (s':=My.rst t [] [] 0) (by simp [sem,fInN,qah,fPut];rfl)]
 rw [qa1 (ρ':=[some (.clo f ws [.ref nb,.str w]),some (.ref t.nx),some (LS []),none]) (s':=My.rst t [] [] 0) (by simp [sem,fInN,qah,fPut])]
 rw [hw]
 rfl
theorem Wld.rules (W:Wld t nb pp hs L M) (hnb:nb < t.nx) (a:Adr) {w:Str} (hw:w∈pp++hs):qfr a [.ref nb,.str w] t=.ok (.ref t.nx) (rul t (rnd M hs w hs.length [])):=by
 have hne:qb1 a [.ref nb,.str w] t=.ok .non t:=by
  have h1:(hasP pp w || qea L w)=true:=by
   rw [Bool.or_eq_true,qhh,qf3,W.n]
   exact List.mem_append.mp hw
  simp [qb1,qc5,W.g,(W.w.sm _ hw).nm]
  intro z
  rw [z,Bool.false_or] at h1
  exact h1
 have hx:xAll (fun f ws=>qe2 a f ws (fun l p s=>noX ((xCall 2 (qcy a) (xCons (xVar 1) (xCons (x2 (xLst (xCons (xVar 2) xNil)) (xVar 0) fAdd) xNil))) (some p::l.map some) s)) [.clo f ws [.ref nb,.str w]] t)=.ok (.ref t.nx) (rul t (rnd M hs w hs.length [])):=xAll_eq fun f ws=>W.roundsR hnb a f ws w
 refine qe9 ?_
 unfold g_rules
 rw [qa1 (ρ':=[some (.ref nb),some (.str w)]) (s':=t) (by simp [sem,fInN,qah,fPut,hne,W.g])]
 refine qlu ?_
 unfold xLamR
 simp only [capsL,List.getElem?_cons_zero,List.getElem?_cons_succ,List.map_cons,List.map_nil,List.length_cons,List.length_nil,List.replicate,List.append_nil]
 rw [hx]
 rfl
end
end My
namespace My
open PySem L2 Fra
theorem eq_str (s:Sto) {x:Str} (h:PyData.strOk x=true):fEq (.str x) (.str x) s=.ok (.bl true) s:=by
 have e:PV.data s 12 (.str x)=some (.str x):=by unfold PV.data;rw [if_pos h]
 unfold fEq fEqN
 rw [e]
 unfold PyData.eqv
 simp
theorem same_str (a:Adr) (k:Nat) (s:Sto) {x:Str} (h:PyData.strOk x=true):qap a (k+1) [.str x,.str x] s=.ok (.bl true) s:=by
 have e:=eq_str s h
 refine qe9 (N:=2) (g:=qdf a (qap a k)) ?_
 unfold qdf
 rw [qa1 (ρ':=[some (.str x),some (.str x)]) (s':=s) (by simp only [xIf,xOr,xTr,xIsiT,xVar,tyOf,kitT,Out.bind,Out.so,List.getElem?_cons_zero,List.getElem?_cons_succ,List.map_cons,List.map_nil,List.cons_append,List.nil_append,List.length_cons,List.length_nil,List.replicate,Bool.false_eq_true,if_false,xEnd];rfl)]
 refine seq_rt ?_
 simp only [xIf,xTr,xIsiT,xVar,tyOf,kitT,Out.bind,Out.so,List.getElem?_cons_zero,List.getElem?_cons_succ,if_true,xRet,xAndV,x2,e]
theorem if_yes {t:XT}{A B:XS}{ρ:En}{s s1:Sto} (h:t ρ s=.ok true s1):xIf t A B ρ s=A ρ s1:=by unfold xIf;rw [h];rfl
theorem ne_blb (s:Sto) (b:Bool):fNe (.bl b) (.bl b) s=.ok (.bl false) s:=by cases b <;> rfl
theorem ne_int (s:Sto) (i:Int):fNe (.int i) (.int i) s=.ok (.bl false) s:=by
 unfold fNe fEqN
 rw [qdq]
 simp only [qfq,beq_self_eq_true]
 rfl
theorem same_part {s:Sto}{v:PV}{d:List PV} (C:XE) (ht:tyOf s v=some .list) (hv:fLen [v] s=.ok (.int d.length) s) (hcomp:C [some v,some (.lst d)] s=.ok (.lst []) s) :
  xIf (xOr (xTr (xIsiT .tuple (xVar 1))) (xTr (xIsiT .list (xVar 1)))) (xSeq (xIf (xOr (xTr (x2 (xIsiT .tuple (xVar 0)) (xIsiT .tuple (xVar 1)) fNe)) (xTr (x2 (xIsiT .list (xVar 0)) (xIsiT .list (xVar 1)) fNe))) (xRet (xC (.bl false))) xEnd) (xSeq (xIf (xTr (x2 (xB (xCons (xVar 0) xNil) fLen) (xB (xCons (xVar 1) xNil) fLen) fNe)) (xRet (xC (.bl false))) xEnd) (xRet (x2 (xB (xCons C xNil) fLen) (xC (.int 0)) fEq)))) xEnd [some v,some (.lst d)] s=.rt (.bl true) s:=by
 have hld:fLen [.lst d] s=.ok (.int d.length) s:=rfl
 have htd:tyOf s (.lst d)=some .list:=rfl
 have hn1:=ne_blb s false
 have hn2:=ne_blb s true
 have hn3:=ne_int s (d.length:Int)
 have e1:xIf (xOr (xTr (x2 (xIsiT .tuple (xVar 0)) (xIsiT .tuple (xVar 1)) fNe)) (xTr (x2 (xIsiT .list (xVar 0)) (xIsiT .list (xVar 1)) fNe))) (xRet (xC (.bl false))) xEnd [some v,some (.lst d)] s=.nx [some v,some (.lst d)] s:=by
  simp only [xIf,xOr,xTr,x2,xIsiT,xVar,Out.bind,Out.so,List.getElem?_cons_zero,List.getElem?_cons_succ,ht,htd,kitT,hn1,hn2,Bool.false_eq_true,if_false,xEnd]
 have e2:xIf (xTr (x2 (xB (xCons (xVar 0) xNil) fLen) (xB (xCons (xVar 1) xNil) fLen) fNe)) (xRet (xC (.bl false))) xEnd [some v,some (.lst d)] s=.nx [some v,some (.lst d)] s:=by
  simp only [xIf,xTr,x2,xB,xCons,xNil,xVar,Out.bind,Out.so,List.getElem?_cons_zero,List.getElem?_cons_succ,hv,hld,hn3,Bool.false_eq_true,if_false,xEnd]
 have e3:xRet (x2 (xB (xCons C xNil) fLen) (xC (.int 0)) fEq) [some v,some (.lst d)] s=.rt (.bl true) s:=by
  refine qlu ?_
  have h0:fEq (.int ((([]:List PV).length:Nat):Int)) (.int 0) s=.ok (.bl true) s:=by
   unfold fEq fEqN
   rw [qdq,qdq]
   simp [qfq]
  have h1:fLen [.lst ([]:List PV)] s=.ok (.int ((([]:List PV).length:Nat):Int)) s:=rfl
  simp only [x2,xB,xCons,xNil,hcomp,Out.bind,h1,xC,h0]
 have e4:(xOr (xTr (xIsiT .tuple (xVar 1))) (xTr (xIsiT .list (xVar 1)))) [some v,some (.lst d)] s=.ok true s:=by
  simp only [xOr,xTr,xIsiT,xVar,Out.bind,List.getElem?_cons_zero,List.getElem?_cons_succ,htd,kitT]
  rfl
 rw [if_yes e4,qa1 e1,qa1 e2,e3]
theorem qn3 (a:Adr) (k:Nat) (s:Sto) {v:PV}{l d:List PV} (ht:tyOf s v=some .list) (hv:fLen [v] s=.ok (.int l.length) s) (hix:∀ (i:Nat) (p:PV),l[i]?=some p→fIx v (.int i) s=.ok p s) (hlen:l.length=d.length) (hd:d.length < 1000)
  (hel:∀ (i:Nat) (p q:PV),l[i]?=some p→d[i]?=some q→qap a k [p,q] s=.ok (.bl true) s):qap a (k+1) [v,.lst d] s=.ok (.bl true) s:=by
 have hld:fLen [.lst d] s=.ok (.int d.length) s:=rfl
 have htd:tyOf s (.lst d)=some .list:=rfl
 have hc:=qdi (s:=s) (cap:=[some v,some (.lst d)]) (c:=xNot (xTr (xCall 2 (qap a k) (xCons (x2 (xVar 1) (xVar 0) fIx) (xCons (x2 (xVar 2) (xVar 0) fIx) xNil))))) (e:=xVar 0) (fun _=>false) id (rngP 0 d.length) (fun q hq=>by
  obtain ⟨i,hi⟩:=List.mem_iff_getElem?.mp hq
  obtain ⟨hi',rfl⟩:=qn7 hi
  have hl1:l[i]?=some l[i]:=List.getElem?_eq_getElem (by omega)
  have hd1:d[i]?=some d[i]:=List.getElem?_eq_getElem hi'
  have h1:=hix i _ hl1
  have h2:fIx (.lst d) (.int i) s=.ok d[i] s:=by
   have:=qbe hd1
   unfold fIx
   simp only [lsOf,this]
  have h3:=hel i _ _ hl1 hd1
  simp only [xNot,xTr,xCall,xCons,x2,xVar,xNil,Out.bind,List.getElem?_cons_zero,List.getElem?_cons_succ,h1,h2,List.length_cons,List.length_nil,if_true,h3]
  rfl) (fun q hq z=>by cases z)
 have e0:(((rngP 0 d.length).filter fun _=>false).map id)=[]:=by simp
 rw [e0] at hc
 have hr:xRng1 (xCons (xB (xCons (xVar 1) xNil) fLen) xNil) [some v,some (.lst d)] s=.ok (rngP 0 d.length) s:=rng1_ok (by simp only [xCons,xB,xVar,xNil,Out.bind,List.getElem?_cons_zero,List.getElem?_cons_succ,hld]) (by omega)
 have hcomp:=qk3 (ix:=[0,1]) (c:=xNot (xTr (xCall 2 (qap a k) (xCons (x2 (xVar 1) (xVar 0) fIx) (xCons (x2 (xVar 2) (xVar 0) fIx) xNil))))) (e:=xVar 0) hr (by rw [qhf];omega) hc
 rw [hlen] at hv
 refine qe9 (N:=2) (g:=qdf a (qap a k)) ?_
 unfold qdf
 generalize (qfb (xRng1 (xCons (xB (xCons (xVar 1) xNil) fLen) xNil)) [0,1] (xNot (xTr (xCall 2 (qap a k) (xCons (x2 (xVar 1) (xVar 0) fIx) (xCons (x2 (xVar 2) (xVar 0) fIx) xNil))))) (xVar 0))=C at hcomp ⊢
 refine seq_rt ?_
 exact same_part C ht hv hcomp
section
variable {t:Sto}{nb:Nat}{pp hs:List Str}{L:List Ent}{M:List (Str×Hl)}
structure TldAt (s:Sto) (k:Nat) (Rs:List (List Str)):Prop where
 told:s.get k=some (.lst (refs (k+1) Rs.length))
 el:∀ (i:Nat) (r:List Str),Rs[i]?=some r→s.get (k+1+i)=some (.lst (r.map .str))
theorem refs_get {n k i:Nat}{p:PV} (h:(refs n k)[i]?=some p):i < k∧p=.ref (n+i):=by
 unfold refs at h
 rw [List.getElem?_map] at h
 obtain ⟨j,h1,h2⟩:=Option.map_eq_some_iff.mp h
 obtain ⟨h3,h4⟩:=List.getElem?_eq_some_iff.mp h1
 rw [List.getElem_range] at h4
 rw [List.length_range] at h3
 exact ⟨h3,by rw [← h2,h4]⟩
theorem qki (n k:Nat):(refs n k).length=k:=by unfold refs;rw [List.length_map,List.length_range]
theorem qlt (a:Adr) {s:Sto}{k:Nat}{Rs:List (List Str)} (T:TldAt s k Rs) (h8:Rs.length≤8) (hr:∀ r∈Rs,r.length≤8∧∀ x∈r,PyData.strOk x=true):qap a 3 [.ref k,.lst (Rs.map LS)] s=.ok (.bl true) s:=by
 have one:∀ (n:Nat) (l:List PV),s.get n=some (.lst l)→tyOf s (.ref n)=some .list∧fLen [.ref n] s=.ok (.int l.length) s∧∀ (i:Nat) (p:PV),l[i]?=some p→fIx (.ref n) (.int i) s=.ok p s:=fun n l h=>by
  have e:lsOf s (.ref n)=some l:=by
   show (match s.get n with | some (.lst l)=>some l | _=>none)=some l
   rw [h]
  refine ⟨by unfold tyOf;simp only [e],by unfold fLen;simp only [e],fun i p hp=>?_⟩
  have:=qbe hp
  unfold fIx
  simp only [e,this]
 obtain ⟨a1,a2,a3⟩:=one k _ T.told
 refine qn3 a 2 s a1 a2 a3 (by rw [qki,List.length_map]) (by rw [List.length_map];omega) fun i p q h1 h2=>?_
 obtain ⟨hi,rfl⟩:=refs_get h1
 rw [List.getElem?_map] at h2
 obtain ⟨r,h3,rfl⟩:=Option.map_eq_some_iff.mp h2
 obtain ⟨b1,b2⟩:=hr r (List.mem_of_getElem? h3)
 obtain ⟨c1,c2,c3⟩:=one _ _ (T.el i r h3)
 refine qn3 a 1 s c1 c2 c3 rfl (by rw [List.length_map];omega) fun j p q h4 h5=>?_
 rw [h4] at h5
 cases h5
 rw [List.getElem?_map] at h4
 obtain ⟨x,h6,rfl⟩:=Option.map_eq_some_iff.mp h4
 exact same_str a 0 s (b2 x (List.mem_of_getElem? h6))
end
end My
namespace My
open PySem L2 Fra
section
variable {t:Sto}{nb:Nat}{pp hs:List Str}{L:List Ent}{M:List (Str×Hl)}
theorem rcs_get (n:Nat) (rest:List (Nat×Cell)):∀ (R:List (List Str)) (i:Nat) (r:List Str),R.reverse[i]?=some r→getC (rcs n R++rest) (n+i)=some (.lst (r.map .str))
 | [],i,r,h=>by cases h
 | r0::R,i,r,h=>by
  show getC ((n+R.length,_)::(rcs n R++rest)) _=_
  rw [qa7]
  rw [List.reverse_cons] at h
  by_cases e:i=R.length
  ·subst e
   rw [if_pos rfl]
   rw [List.getElem?_append_right (by simp),List.length_reverse,Nat.sub_self] at h
   cases h
   rfl
  ·rw [if_neg (by omega)]
   refine rcs_get n rest R i r ?_
   have hlt:i < R.length:=by
    have:=(List.getElem?_eq_some_iff.mp h).1
    rw [List.length_append,List.length_reverse,List.length_singleton] at this
    omega
   rw [List.getElem?_append_left (by simpa using hlt)] at h
   exact h
theorem qn5 (t:Sto) (Rs:List (List Str)):TldAt (rul t Rs) t.nx Rs:=by
 have hl:Rs.reverse.length=Rs.length:=List.length_reverse
 refine ⟨?_,fun i r h=>?_⟩
 ·have:=qn6 t Rs.reverse (.lst [])
  rw [hl] at this
  unfold rul
  rw [hl]
  exact this
 ·unfold rul rst Sto.get
  show getC ((t.nx+1+Rs.reverse.length,_)::(rcs (t.nx+1) Rs.reverse++_)) _=_
  have hi:=(List.getElem?_eq_some_iff.mp h).1
  rw [qa7,if_neg (by rw [hl];omega)]
  exact rcs_get _ _ Rs.reverse i r (by rw [List.reverse_reverse];exact h)
theorem rul_get (hnb:nb < t.nx) (Rs:List (List Str)):(rul t Rs).get nb=t.get nb:=by
 unfold rul rst Sto.get
 show getC ((t.nx+1+Rs.reverse.length,_)::(rcs (t.nx+1) Rs.reverse++_)) _=_
 rw [qa7,if_neg (by omega),qhi (by omega),qa7,if_neg (by omega)]
theorem rul_nx (t:Sto) (Rs:List (List Str)):t.nx < (rul t Rs).nx:=by
 show t.nx < t.nx+1+Rs.reverse.length+1
 omega
theorem rnd_ok (W:Wld t nb pp hs L M) (w:Str):∀ (k:Nat) (lot:List Str),lot.Nodup→(∀ n∈lot,n∈hs)→(rnd M hs w k lot).length+lot.length≤hs.length∧∀ r∈rnd M hs w k lot,r.length≤8∧∀ x∈r,PyData.strOk x=true
 | 0,lot,h1,h2=>by
  obtain ⟨a1,a2,a3⟩:=qfi W w h1 h2
  rw [List.length_append] at a3
  exact ⟨by show 0+lot.length≤_;omega,fun r hr=>by cases hr⟩
 | k+1,lot,h1,h2=>by
  obtain ⟨a1,a2,a3⟩:=qfi W w h1 h2
  have h8:=W.w.h8
  by_cases e:qay M hs w lot=[]
  ·rw [qne e]
   rw [List.length_append] at a3
   exact ⟨by show 0+lot.length≤_;omega,fun r hr=>by cases hr⟩
  ·obtain ⟨b1,b2⟩:=rnd_ok W w k (lot++qay M hs w lot) a1 a2
   have hpos:0 < (qay M hs w lot).length:=List.length_pos_iff.mpr e
   rw [qkh e]
   rw [List.length_append] at b1 a3
   refine ⟨by rw [List.length_cons];omega,fun r hr=>?_⟩
   rcases List.mem_cons.mp hr with rfl | hr
   ·exact ⟨by omega,fun x hx=>sm_ok (W.w.sm x (List.mem_append_right _ (a2 x (List.mem_append_right _ hx))))⟩
   ·exact b2 r hr
structure Clr (s0 s:Sto) (nb k m:Nat):Prop where
 nx:s.nx=s0.nx
 bk:s.get nb=s0.get nb
 told:s.get k=some (.lst (refs (k+1) m))
 el:∀ i,i < m→∃ l,s.get (k+1+i)=some (.lst l)
theorem qjx (a:Adr) {s0:Sto}{k m:Nat} (hk:nb < k) (hm:m≤8) (o0 o1 o2 o3 o4 o5 o6:Option PV):∀ (f i:Nat) (o7:Option PV) (s:Sto),i≤m→m - i < f→Clr s0 s nb k m→∃ o7' s',qi4 (qav (yName 7) (qgw a)) k f i [o0,o1,o2,o3,o4,o5,o6,o7] s=.nx [o0,o1,o2,o3,o4,o5,o6,o7'] s'∧Clr s0 s' nb k m
 | 0,i,o7,s,hi,hf,C=>by omega
 | f+1,i,o7,s,hi,hf,C=>by
  unfold qi4
  rw [C.told]
  simp only
  by_cases e:i < m
  ·have h1:(refs (k+1) m)[i]?=some (.ref (k+1+i)):=by
    unfold refs
    rw [List.getElem?_map,List.getElem?_range e]
    rfl
   rw [h1]
   obtain ⟨l,hl⟩:=C.el i e
   have C':Clr s0 (s.set (k+1+i) (.lst [])) nb k m:=by
    refine ⟨C.nx,?_,?_,fun j hj=>?_⟩
    ·exact (qcb (by omega)).trans C.bk
    ·exact (qcb (by omega)).trans C.told
    ·by_cases z:j=i
     ·subst z;exact ⟨[],qkb hl⟩
     ·obtain ⟨l',hl'⟩:=C.el j hj
      exact ⟨l',(qcb (by omega)).trans hl'⟩
   obtain ⟨o7',s',g1,g2⟩:=qjx a hk hm o0 o1 o2 o3 o4 o5 o6 f (i+1) (some (.ref (k+1+i))) _ e (by omega) C'
   refine ⟨o7',s',?_,g2⟩
   have hb:qav (yName 7) (qgw a) (.ref (k+1+i)) [o0,o1,o2,o3,o4,o5,o6,o7] s=.nx [o0,o1,o2,o3,o4,o5,o6,some (.ref (k+1+i))] (s.set (k+1+i) (.lst [])):=by
    have e0:qav (yName 7) (qgw a) (.ref (k+1+i)) [o0,o1,o2,o3,o4,o5,o6,o7] s=qgw a [o0,o1,o2,o3,o4,o5,o6,some (.ref (k+1+i))] s:=rfl
    rw [e0]
    unfold qgw
    simp only [xDo,xClear,xVar,Out.bind,Out.so,List.getElem?_cons_zero,List.getElem?_cons_succ,hl]
   simp only [hb]
   exact g1
  ·have h1:(refs (k+1) m)[i]?=none:=List.getElem?_eq_none_iff.mpr (by rw [qki];omega)
   rw [h1]
   exact ⟨o7,s,rfl,C⟩
end
end My
namespace My
open PySem L2 Fra
theorem forC_nx {f:XE}{y:XG}{body:XS}{ρ ρ':En}{s s1 s':Sto}{n:Nat} (h1:f ρ s=.ok (.ref n) s1) (h2:qi4 (qav y body) n 1000 0 ρ s1=.nx ρ' s'):xForC f y body ρ s=.nx ρ' s':=by
 unfold xForC
 rw [h1]
 simp only [h2]
 rfl
theorem if_no {t:XT}{A:XS}{ρ:En}{s s1:Sto} (h:t ρ s=.ok false s1):xIf t A xEnd ρ s=.nx ρ s1:=by unfold xIf;rw [h];rfl
theorem kst_get (s:Sto) (p n:Nat) (pp:List Str) (L:List Ent) (x y:Int):(kst s p n pp L x y).get (s.nx+1)=some (.book pp L):=by
 show getC ((s.nx+1,Cell.book pp L)::_) _=_
 rw [qa7,if_pos rfl]
section
variable {t:Sto}{nb:Nat}{pp hs:List Str}{L:List Ent}{M:List (Str×Hl)}
theorem Wld.at_ (W:Wld t nb pp hs L M) {t':Sto} (h:t'.get nb=t.get nb):Wld t' nb pp hs L M:=⟨W.w,W.p,W.n,h.trans W.g⟩
theorem Wld.holder (W:Wld t nb pp hs L M) (hnb:nb < t.nx) (a:Adr) {w:Str} (hw:w∈pp++hs) (o0 o2 o5 o6 o7:Option PV) :
  ∃ o5' o6' o7' t',qla a [o0,some (.ref nb),o2,some (.dct (entP M)),some (.str w),o5,o6,o7] t=.nx [o0,some (.ref nb),o2,some (.dct (entP M)),some (.str w),o5',o6',o7'] t'∧Wld t' nb pp hs L M∧nb < t'.nx:=by
 have hl:=W.lrounds a w t
 have hR:=rnd_ok W w hs.length [] List.nodup_nil (fun n hn=>by cases hn)
 have h8:=W.w.h8
 have W1:Wld (Sto.bump t) nb pp hs L M:=W.at_ rfl
 have n1:nb < (Sto.bump t).nx:=Nat.lt_succ_of_lt hnb
 generalize Sto.bump t=t1 at *
 have e1:=W1.rules n1 a hw
 have T1:=qn5 t1 (rnd M hs w hs.length [])
 have g2:=rul_get (t:=t1) n1 (rnd M hs w hs.length [])
 have x2:=rul_nx t1 (rnd M hs w hs.length [])
 have eR:∀ (s:Sto),Wld s nb pp hs L M→nb < s.nx→qfr a [.ref nb,.str w] s=.ok (.ref s.nx) (rul s (rnd M hs w hs.length [])):=fun s Ws ns=>Ws.rules ns a hw
 generalize rnd M hs w hs.length []=Rs at *
 have hRl:Rs.length≤8:=by have:=hR.1;rw [List.length_nil] at this;omega
 have s1:=qlt a T1 hRl hR.2
 obtain ⟨o7',s3,f1,C3⟩:=qjx (nb:=nb) a (s0:=rul t1 Rs) (k:=t1.nx) (m:=Rs.length) n1 hRl o0 (some (.ref nb)) o2 (some (.dct (entP M))) (some (.str w)) (some (.lst (Rs.map LS))) (some (.ref t1.nx)) 1000 0 o7 (rul t1 Rs) (Nat.zero_le _) (by omega) ⟨rfl,rfl,T1.told,fun i hi=>⟨_,T1.el i _ (List.getElem?_eq_getElem hi)⟩⟩
 have W4:Wld (s3.set t1.nx (.lst (refs (t1.nx+1) Rs.length++[.lst [.str "x"]]))) nb pp hs L M:=W1.at_ ((qcb (by omega)).trans (C3.bk.trans g2))
 have n4:nb < (s3.set t1.nx (.lst (refs (t1.nx+1) Rs.length++[.lst [.str "x"]]))).nx:=by
  show nb < s3.nx
  rw [C3.nx];omega
 have hrl:(refs (t1.nx+1) Rs.length).length < 100000:=by rw [qki];omega
 have c3:=C3.told
 have e5:=eR _ W4 n4
 have T5:=qn5 (s3.set t1.nx (.lst (refs (t1.nx+1) Rs.length++[.lst [.str "x"]]))) Rs
 have s5:=qlt a T5 hRl hR.2
 have g5:=rul_get n4 Rs
 have x5:=rul_nx (s3.set t1.nx (.lst (refs (t1.nx+1) Rs.length++[.lst [.str "x"]]))) Rs
 generalize hs4:s3.set t1.nx (.lst (refs (t1.nx+1) Rs.length++[.lst [.str "x"]]))=s4 at *
 refine ⟨some (.lst (Rs.map LS)),some (.ref t1.nx),o7',rul s4 Rs,?_,W4.at_ g5,Nat.lt_trans n4 x5⟩
 unfold qla
 rw [qa1 (ρ':=[o0,some (.ref nb),o2,some (.dct (entP M)),some (.str w),some (.lst (Rs.map LS)),o6,o7]) (s':=t1) (by simp only [xSet,xCall,xCons,xVar,xNil,Out.bind,Out.so,List.getElem?_cons_zero,List.getElem?_cons_succ,List.length_cons,List.length_nil,if_true,hl];rfl)]
 rw [qa1 (ρ':=[o0,some (.ref nb),o2,some (.dct (entP M)),some (.str w),some (.lst (Rs.map LS)),some (.ref t1.nx),o7]) (s':=rul t1 Rs) (by simp only [xSet,xCall,xCons,xVar,xNil,Out.bind,Out.so,List.getElem?_cons_zero,List.getElem?_cons_succ,List.length_cons,List.length_nil,if_true,e1];rfl)]
 rw [qa1 (if_no (s1:=rul t1 Rs) (by simp only [xNot,xTr,xCall,xCons,xVar,xNil,Out.bind,List.getElem?_cons_zero,List.getElem?_cons_succ,List.length_cons,List.length_nil,if_true,s1];rfl))]
 rw [qa1 (forC_nx (s1:=rul t1 Rs) (by simp only [xVar,List.getElem?_cons_zero,List.getElem?_cons_succ]) f1)]
 rw [qa1 (ρ':=[o0,some (.ref nb),o2,some (.dct (entP M)),some (.str w),some (.lst (Rs.map LS)),some (.ref t1.nx),o7']) (s':=s4) (by
  rw [← hs4]
  simp only [xDo,xAppend,xVar,xCons,xNil,xLst,xC,Out.bind,Out.so,List.getElem?_cons_zero,List.getElem?_cons_succ,List.length_cons,List.length_nil,c3,if_true]
  simp only [show (0+1:Nat)≤100000 by decide,if_true,c3,hrl])]
 refine if_no ?_
 simp only [xNot,xTr,xCall,xCons,xVar,xNil,Out.bind,List.getElem?_cons_zero,List.getElem?_cons_succ,List.length_cons,List.length_nil,if_true,e5,s5]
 rfl
theorem law_eq (a:Adr) (l:List Int) (hl:l.length≤63):∃ s',D_law a [.seq (l.map .int)] ⟨0,[]⟩=.ok (.bl true) s':=by
 obtain ⟨x0,y0,e0⟩:=purse_eq a ⟨0,[]⟩ l hl
 have hP:IsPurse ((⟨0,[]⟩:Sto).add (.lst [.int x0,.int y0])) 0:=⟨x0,y0,rfl⟩
 generalize hs1:(⟨0,[]⟩:Sto).add (.lst [.int x0,.int y0])=s1 at *
 have nx1:s1.nx=1:=by rw [← hs1];rfl
 obtain ⟨n,pp,hs,L,M,x,y,hn,Wd,Pr,Nm,e1⟩:=built_eq a s1 0 (by omega) hP
 have W:Wld (kst s1 0 n pp L x y) (s1.nx+1) pp hs L M:=⟨Wd,Pr,Nm,kst_get s1 0 n pp L x y⟩
 have hso:=W.srtE (kst s1 0 n pp L x y)
 have p6:=W.w.p6
 have h8:=W.w.h8
 have hcat:(srt pp).length+(srt hs).length≤100000:=by rw [qaw,qaw];omega
 have nbx:s1.nx+1 < (kst s1 0 n pp L x y).nx:=hn
 have hin:∀ z∈srt pp++srt hs,z∈pp++hs:=fun z hz=>by
  rcases List.mem_append.mp hz with h | h
  ·exact List.mem_append_left _ ((qbq pp).mem_iff.mp h)
  ·exact List.mem_append_right _ ((qbq hs).mem_iff.mp h)
 obtain ⟨ρ',s',hlo,o4,o5,o6,o7,rfl,W',n'⟩:=qh6 (body:=qav (yName 4) (qla a)) ((srt pp++srt hs).map .str)
  (fun k ρ t=>∃ o4 o5 o6 o7,ρ=[some (.seq (l.map .int)),some (.ref (s1.nx+1)),some (LS (srt pp)),some (.dct (entP M)),o4,o5,o6,o7]∧Wld t (s1.nx+1) pp hs L M∧s1.nx+1 < t.nx)
  (fun k q ρ t hq hI=>by
   obtain ⟨o4,o5,o6,o7,rfl,Wt,nt⟩:=hI
   rw [List.getElem?_map] at hq
   obtain ⟨w,hw,rfl⟩:=Option.map_eq_some_iff.mp hq
   obtain ⟨o5',o6',o7',t',g1,g2,g3⟩:=Wt.holder nt a (hin w (List.mem_of_getElem? hw)) (some (.seq (l.map .int))) (some (LS (srt pp))) o5 o6 o7
   exact ⟨_,_,g1,some (.str w),o5',o6',o7',rfl,g2,g3⟩) (ρ:=[some (.seq (l.map .int)),some (.ref (s1.nx+1)),some (LS (srt pp)),some (.dct (entP M)),none,none,none,none]) (s:=kst s1 0 n pp L x y) ⟨none,none,none,none,rfl,W,nbx⟩
 refine ⟨s',qe9 ?_⟩
 unfold g_law
 rw [qa1 (ρ':=[some (.seq (l.map .int)),some (.ref (s1.nx+1)),some (LS (srt pp)),some (.dct (entP M)),none,none,none,none]) (s':=kst s1 0 n pp L x y) (by simp [sem,fInN,qah,fPut,e0,e1])]
 rw [qa1 (qjq (l:=(srt pp++srt hs).map .str) (s1:=kst s1 0 n pp L x y) (by simp [sem,fInN,fPut,hso,hcat,LS]) hlo)]
 exact qlu rfl
theorem law_spT {K:PySem.W.Frag}{a:Adr}{H:Hp}{c cd PT:Addr}{ns:List Int}{Q:VK}{E:XK} (hl:ns.length≤63) (ht:PySem.W.tabIn K "rules"=some (cd,PT)) (hO:OnlyT PT H) (hS:SqL K H c (ns.map V.int)) (k:∀ v H',v=.bl true→Q v H'):spD K a.Book 1 (D_law a) [.ref c] H Q E:=by
 obtain ⟨s',e⟩:=law_eq a ns hl
 have S0:SR K a.Book H ⟨fun _=>c,fun _=>[],[PT]⟩ ⟨0,[]⟩:=by
  refine ⟨List.nodup_nil,(by intro n hn;cases hn),(by intro q hq;cases hq),(by intro n hn;cases hn),(by intro n hn;cases hn),fun z hz=>?_,fun P q t=>?_⟩
  ·obtain rfl:=List.mem_singleton.mp hz
   rw [hO.1]
   exact ⟨by simp,fun _ _=>⟨by simp,by simp,by simp,by simp⟩⟩
  ·obtain ⟨x,hx,c',h1,h2⟩:=t
   simp only [qlc,List.mem_singleton] at hx
   subst hx
   rw [ht] at h1
   cases h1
   exact ⟨List.mem_singleton.mpr rfl,#[],hO.1,trivial,fun p c e=>by cases e⟩
 have R0:∀ (l:List Int),Reps K H ⟨fun _=>c,fun _=>[],[PT]⟩ ⟨0,[]⟩ (l.map V.int) (l.map PV.int):=fun l=>by
  induction l with
  | nil=>exact .nil
  | cons x r ih=>exact .cons .int ih
 have hr:Rep K H ⟨fun _=>c,fun _=>[],[PT]⟩ ⟨0,[]⟩ (.ref c) (.seq (ns.map .int)):=by
  refine .seq ?_ (R0 ns)
  rcases hS with (h | h) | h
  ·by_cases z:c=PT
   ·rw [z,hO.1] at h;cases h
   ·rcases hO.2 c z with z | ⟨o,xs,z⟩
    ·rw [z] at h;cases h
    ·rw [z] at h;cases h
  ·obtain ⟨o,h⟩:=h
   refine .inl ⟨⟨o,h⟩,fun z=>?_,by intro n hn;cases hn⟩
   obtain rfl:=List.mem_singleton.mp z
   rw [hO.1] at h;cases h
  ·exact .inr h
 refine ⟨rfl,[.seq (ns.map .int)],⟨0,[]⟩,_,.cons hr .nil,S0,?_⟩
 rw [e]
 intro u H' m' _ _ r
 cases r
 exact k _ _ rfl
end
end My
namespace My
open PySem L2 PyProof.Rows
theorem fn_bad {P:Program}{w:World}{K:PySem.W.Frag}{mg:Str→Option Value}{base:Heap}{CX:CXT}{k:Nat}{f CB:Addr}{fd:FuncData}{ps:List Str}{n:Nat} (h:ps.length=n):FnOk P w K mg base CX k f fd ps (spD K CB n fun _ _=>.bad) :=
 ⟨fun vs H Q E z=>z.1.trans h.symm,fun A outer s H args us vs Q E hr e0 hb r z=>by obtain ⟨_,_,_,_,_,_,z⟩:=z;exact z.elim⟩
theorem all_mk {l:PySem.W.OpenLaw}{w:World}{K:PySem.W.Frag}{h:Heap}{mg:Str→Option Value}{fa:Addr} (X:K.In h) (G:h.Ns mainGlobals mg) (hfa:mg "law"=some (.ref fa))
  {X_OwnError X_NoName X_Twice X_TooMany X_NoHolder X_NoHouse X_NoLoss X_NoShare BK ZR ON CDR PTR HF f0 f1 f2 f3 f4 f5 f6 f7 f8 f9 f10 f11 f12 f13 f14 f15 f16 f17 f18 f19 f20 f21 f22 f23 f24 f25 f26 f27 f28 f29 f30 f31 f32 f33 f34 f35:Addr}{od0 an0 od1 an1 od2 an2 od3 an3 od4 an4 od5 an5 od6 an6 od7 an7 od8 an8 od9 an9 od10 an10 od11 an11 od12 an12 od13 an13 od14 an14 od15 an15 od16 an16 od17 an17 od18 an18 od19 an19 od20 an20 od21 an21 od22 an22 od23 an23 od24 an24 od25 an25 od26 an26 od27 an27 od28 an28 od29 an29 od30 an30 od31 an31 od32 an32 od33 an33 od34 an34 od35 an35 odr odz odo odh:Option Addr}{sl0 sl1 sl2 sl3 sl4 sl5 sl6 sl7 sl8 sl9 sl10 sl11 sl12 sl13 sl14 sl15 sl16 sl17 sl18 sl19 sl20 sl21 sl22 sl23 sl24 sl25 sl26 sl27 sl28 sl29 sl30 sl31 sl32 sl33 sl34 sl35 slr slz slo slh:Array (Option Value)}{oc0 kV0 dc0 pm0 cd0 ct0 oc1 kV1 dc1 pm1 cd1 ct1 oc2 kV2 dc2 pm2 cd2 ct2 oc3 kV3 dc3 pm3 cd3 ct3 oc4 kV4 dc4 pm4 cd4 ct4 oc5 kV5 dc5 pm5 cd5 ct5 oc6 kV6 dc6 pm6 cd6 ct6 oc7 kV7 dc7 pm7 cd7 ct7 oc8 kV8 dc8 pm8 cd8 ct8 oc9 kV9 dc9 pm9 cd9 ct9 oc10 kV10 dc10 pm10 cd10 ct10 oc11 kV11 dc11 pm11 cd11 ct11 oc12 kV12 dc12 pm12 cd12 ct12 oc13 kV13 dc13 pm13 cd13 ct13 oc14 kV14 dc14 pm14 cd14 ct14 oc15 kV15 dc15 pm15 cd15 ct15 oc16 kV16 dc16 pm16 cd16 ct16 oc17 kV17 dc17 pm17 cd17 ct17 oc18 kV18 dc18 pm18 cd18 ct18 oc19 kV19 dc19 pm19 cd19 ct19 oc20 kV20 dc20 pm20 cd20 ct20 oc21 kV21 dc21 pm21 cd21 ct21 oc22 kV22 dc22 pm22 cd22 ct22 oc23 kV23 dc23 pm23 cd23 ct23 oc24 kV24 dc24 pm24 cd24 ct24 oc25 kV25 dc25 pm25 cd25 ct25 oc26 kV26 dc26 pm26 cd26 ct26 oc27 kV27 dc27 pm27 cd27 ct27 oc28 kV28 dc28 pm28 cd28 ct28 oc29 kV29 dc29 pm29 cd29 ct29 oc30 kV30 dc30 pm30 ct30 oc31 kV31 dc31 pm31 cd31 ct31 oc32 kV32 dc32 pm32 cd32 ct32 oc33 kV33 dc33 pm33 cd33 ct33 oc34 kV34 dc34 pm34 cd34 ct34 oc35 kV35 dc35 pm35 cd35 ct35:Value}{tz0 tz1 to0 to1 th0 th1 tl tp th:Tok}{vsr:Array Value}{nz no nh:Nat}
  (n_OwnError:PySem.W.nsIn K mainGlobals "OwnError"=some (some (.ref X_OwnError)))
  (n_NoName:PySem.W.nsIn K mainGlobals "NoName"=some (some (.ref X_NoName)))
  (n_Twice:PySem.W.nsIn K mainGlobals "Twice"=some (some (.ref X_Twice)))
  (n_TooMany:PySem.W.nsIn K mainGlobals "TooMany"=some (some (.ref X_TooMany)))
  (n_NoHolder:PySem.W.nsIn K mainGlobals "NoHolder"=some (some (.ref X_NoHolder)))
  (n_NoHouse:PySem.W.nsIn K mainGlobals "NoHouse"=some (some (.ref X_NoHouse)))
  (n_NoLoss:PySem.W.nsIn K mainGlobals "NoLoss"=some (some (.ref X_NoLoss)))
  (n_NoShare:PySem.W.nsIn K mainGlobals "NoShare"=some (some (.ref X_NoShare)))
  (n_Book:PySem.W.nsIn K mainGlobals "Book"=some (some (.ref BK)))
  (n_ZERO:PySem.W.nsIn K mainGlobals "ZERO"=some (some (.ref ZR)))
  (n_ONE:PySem.W.nsIn K mainGlobals "ONE"=some (some (.ref ON)))
  (n_HALF:PySem.W.nsIn K mainGlobals "HALF"=some (some (.ref HF)))
  (v_ZERO:K.lookup ZR=some ⟨.type "tuple",odz,.seq #[.int 0 tz0,.int 1 tz1] nz,slz⟩)
  (v_ONE:K.lookup ON=some ⟨.type "tuple",odo,.seq #[.int 1 to0,.int 1 to1] no,slo⟩)
  (v_HALF:K.lookup HF=some ⟨.type "tuple",odh,.seq #[.int 1 th0,.int 2 th1] nh,slh⟩)
  (v_LN:PySem.W.nsIn K mainGlobals "LONGEST_NAME"=some (some (.int 8 tl)))
  (v_MP:PySem.W.nsIn K mainGlobals "MOST_PERSONS"=some (some (.int 6 tp)))
  (v_MH:PySem.W.nsIn K mainGlobals "MOST_HOUSES"=some (some (.int 8 th)))
  (z_len:PySem.W.nsIn K mainGlobals "len"=some none)
  (z_range:PySem.W.nsIn K mainGlobals "range"=some none)
  (z_all:PySem.W.nsIn K mainGlobals "all"=some none)
  (z_int:PySem.W.nsIn K mainGlobals "int"=some none)
  (z_abs:PySem.W.nsIn K mainGlobals "abs"=some none)
  (z_sorted:PySem.W.nsIn K mainGlobals "sorted"=some none)
  (z_tuple:PySem.W.nsIn K mainGlobals "tuple"=some none)
  (z_list:PySem.W.nsIn K mainGlobals "list"=some none)
  (z_str:PySem.W.nsIn K mainGlobals "str"=some none)
  (z_bool:PySem.W.nsIn K mainGlobals "bool"=some none)
  (z_isinstance:PySem.W.nsIn K mainGlobals "isinstance"=some none)
  (z_ValueError:PySem.W.nsIn K mainGlobals "ValueError"=some none)
  (z_any:PySem.W.nsIn K mainGlobals "any"=some none)
  (z_set:PySem.W.nsIn K mainGlobals "set"=some none)
  (z_max:PySem.W.nsIn K mainGlobals "max"=some none)
  (b_pg:PySem.W.plainGet K BK Str.empty=true)
  (b_hd:PySem.W.hasDictIn K BK=true)
  (b_po:PySem.W.plainOver K BK=true)
  (b_sa:PySem.W.findIn K (.ref BK) "__setattr__"=some (some (.builtin "object.__setattr__")))
  (b_mk:PySem.W.makesIn K BK=true)
  (b_kp:PySem.W.keepIn K (.ref BK)=true)
  (b_people:PySem.W.findIn K (.ref BK) "people"=some none)
  (b_things_of:PySem.W.findIn K (.ref BK) "things_of"=some none)
  (b_mark_of:PySem.W.findIn K (.ref BK) "mark_of"=some none)
  (b_loss_of:PySem.W.findIn K (.ref BK) "loss_of"=some none)
  (b_held_of:PySem.W.findIn K (.ref BK) "held_of"=some none)
  (x_hn:PySem.W.specialIn K (.builtin "object.__class__") "__get__"=some (some (.builtin "getset_descriptor.__get__")))
  (x_ht:PySem.W.takesIn K (.builtin "object.__class__")=some true)
  (x_ex_OwnError:PySem.W.excIn K X_OwnError bmV "ValueError.__new__"=true)
  (x_ga_OwnError:PySem.W.findIn K (.ref X_OwnError) "__getattribute__"=some (some (.builtin "BaseException.__getattribute__")))
  (x_gt_OwnError:PySem.W.findIn K (.ref X_OwnError) "__getattr__"=some none)
  (x_ha_OwnError:PySem.W.findIn K (.ref X_OwnError) "__class__"=some (some (.builtin "object.__class__")))
  (x_mo_OwnError:PySem.W.mroIn K X_OwnError (.type "object")=some true)
  (x_mb_OwnError:PySem.W.mroIn K X_OwnError (.type "BaseException")=some true)
  (x_ex_NoName:PySem.W.excIn K X_NoName bmV "ValueError.__new__"=true)
  (x_ga_NoName:PySem.W.findIn K (.ref X_NoName) "__getattribute__"=some (some (.builtin "BaseException.__getattribute__")))
  (x_gt_NoName:PySem.W.findIn K (.ref X_NoName) "__getattr__"=some none)
  (x_ha_NoName:PySem.W.findIn K (.ref X_NoName) "__class__"=some (some (.builtin "object.__class__")))
  (x_mo_NoName:PySem.W.mroIn K X_NoName (.type "object")=some true)
  (x_mb_NoName:PySem.W.mroIn K X_NoName (.type "BaseException")=some true)
  (x_ex_Twice:PySem.W.excIn K X_Twice bmV "ValueError.__new__"=true)
  (x_ga_Twice:PySem.W.findIn K (.ref X_Twice) "__getattribute__"=some (some (.builtin "BaseException.__getattribute__")))
  (x_gt_Twice:PySem.W.findIn K (.ref X_Twice) "__getattr__"=some none)
  (x_ha_Twice:PySem.W.findIn K (.ref X_Twice) "__class__"=some (some (.builtin "object.__class__")))
  (x_mo_Twice:PySem.W.mroIn K X_Twice (.type "object")=some true)
  (x_mb_Twice:PySem.W.mroIn K X_Twice (.type "BaseException")=some true)
  (x_ex_TooMany:PySem.W.excIn K X_TooMany bmV "ValueError.__new__"=true)
  (x_ga_TooMany:PySem.W.findIn K (.ref X_TooMany) "__getattribute__"=some (some (.builtin "BaseException.__getattribute__")))
  (x_gt_TooMany:PySem.W.findIn K (.ref X_TooMany) "__getattr__"=some none)
  (x_ha_TooMany:PySem.W.findIn K (.ref X_TooMany) "__class__"=some (some (.builtin "object.__class__")))
  (x_mo_TooMany:PySem.W.mroIn K X_TooMany (.type "object")=some true)
  (x_mb_TooMany:PySem.W.mroIn K X_TooMany (.type "BaseException")=some true)
  (x_ex_NoHolder:PySem.W.excIn K X_NoHolder bmV "ValueError.__new__"=true)
  (x_ga_NoHolder:PySem.W.findIn K (.ref X_NoHolder) "__getattribute__"=some (some (.builtin "BaseException.__getattribute__")))
  (x_gt_NoHolder:PySem.W.findIn K (.ref X_NoHolder) "__getattr__"=some none)
  (x_ha_NoHolder:PySem.W.findIn K (.ref X_NoHolder) "__class__"=some (some (.builtin "object.__class__")))
  (x_mo_NoHolder:PySem.W.mroIn K X_NoHolder (.type "object")=some true)
  (x_mb_NoHolder:PySem.W.mroIn K X_NoHolder (.type "BaseException")=some true)
  (x_ex_NoHouse:PySem.W.excIn K X_NoHouse bmV "ValueError.__new__"=true)
  (x_ga_NoHouse:PySem.W.findIn K (.ref X_NoHouse) "__getattribute__"=some (some (.builtin "BaseException.__getattribute__")))
  (x_gt_NoHouse:PySem.W.findIn K (.ref X_NoHouse) "__getattr__"=some none)
  (x_ha_NoHouse:PySem.W.findIn K (.ref X_NoHouse) "__class__"=some (some (.builtin "object.__class__")))
  (x_mo_NoHouse:PySem.W.mroIn K X_NoHouse (.type "object")=some true)
  (x_mb_NoHouse:PySem.W.mroIn K X_NoHouse (.type "BaseException")=some true)
  (x_ex_NoLoss:PySem.W.excIn K X_NoLoss bmV "ValueError.__new__"=true)
  (x_ga_NoLoss:PySem.W.findIn K (.ref X_NoLoss) "__getattribute__"=some (some (.builtin "BaseException.__getattribute__")))
  (x_gt_NoLoss:PySem.W.findIn K (.ref X_NoLoss) "__getattr__"=some none)
  (x_ha_NoLoss:PySem.W.findIn K (.ref X_NoLoss) "__class__"=some (some (.builtin "object.__class__")))
  (x_mo_NoLoss:PySem.W.mroIn K X_NoLoss (.type "object")=some true)
  (x_mb_NoLoss:PySem.W.mroIn K X_NoLoss (.type "BaseException")=some true)
  (x_ex_NoShare:PySem.W.excIn K X_NoShare bmV "ValueError.__new__"=true)
  (x_ga_NoShare:PySem.W.findIn K (.ref X_NoShare) "__getattribute__"=some (some (.builtin "BaseException.__getattribute__")))
  (x_gt_NoShare:PySem.W.findIn K (.ref X_NoShare) "__getattr__"=some none)
  (x_ha_NoShare:PySem.W.findIn K (.ref X_NoShare) "__class__"=some (some (.builtin "object.__class__")))
  (x_mo_NoShare:PySem.W.mroIn K X_NoShare (.type "object")=some true)
  (x_mb_NoShare:PySem.W.mroIn K X_NoShare (.type "BaseException")=some true)
  (a0:PySem.W.nsIn K mainGlobals "is_name"=some (some (.ref f0)))
  (l0:K.lookup f0=some ⟨oc0,od0,.func (PySem.W.fnOf "is_name" "is_name" (qao qdc) (qal qdc) (qac qdc) .none kV0 dc0 pm0 an0 cd0 ct0),sl0⟩)
  (c0:PySem.W.codeIn K cd0 "is_name"=true)
  (k0:PySem.W.keepIn K (.ref f0)=true)
  (a1:PySem.W.nsIn K mainGlobals "need_loss"=some (some (.ref f1)))
  (l1:K.lookup f1=some ⟨oc1,od1,.func (PySem.W.fnOf "need_loss" "need_loss" (qao qcq) (qal qcq) (qac qcq) .none kV1 dc1 pm1 an1 cd1 ct1),sl1⟩)
  (c1:PySem.W.codeIn K cd1 "need_loss"=true)
  (k1:PySem.W.keepIn K (.ref f1)=true)
  (a2:PySem.W.nsIn K mainGlobals "common_divisor"=some (some (.ref f2)))
  (l2:K.lookup f2=some ⟨oc2,od2,.func (PySem.W.fnOf "common_divisor" "common_divisor" (qao qa9) (qal qa9) (qac qa9) .none kV2 dc2 pm2 an2 cd2 ct2),sl2⟩)
  (c2:PySem.W.codeIn K cd2 "common_divisor"=true)
  (k2:PySem.W.keepIn K (.ref f2)=true)
  (a3:PySem.W.nsIn K mainGlobals "plus"=some (some (.ref f3)))
  (l3:K.lookup f3=some ⟨oc3,od3,.func (PySem.W.fnOf "plus" "plus" (qao qjc) (qal qjc) (qac qjc) .none kV3 dc3 pm3 an3 cd3 ct3),sl3⟩)
  (c3:PySem.W.codeIn K cd3 "plus"=true)
  (k3:PySem.W.keepIn K (.ref f3)=true)
  (a4:PySem.W.nsIn K mainGlobals "minus"=some (some (.ref f4)))
  (l4:K.lookup f4=some ⟨oc4,od4,.func (PySem.W.fnOf "minus" "minus" (qao qgm) (qal qgm) (qac qgm) .none kV4 dc4 pm4 an4 cd4 ct4),sl4⟩)
  (c4:PySem.W.codeIn K cd4 "minus"=true)
  (k4:PySem.W.keepIn K (.ref f4)=true)
  (a5:PySem.W.nsIn K mainGlobals "is_above"=some (some (.ref f5)))
  (l5:K.lookup f5=some ⟨oc5,od5,.func (PySem.W.fnOf "is_above" "is_above" (qao qc9) (qal qc9) (qac qc9) .none kV5 dc5 pm5 an5 cd5 ct5),sl5⟩)
  (c5:PySem.W.codeIn K cd5 "is_above"=true)
  (k5:PySem.W.keepIn K (.ref f5)=true)
  (a6:PySem.W.findIn K (.ref BK) "__init__"=some (some (.ref f6)))
  (i6:PySem.W.isFn K (.ref f6)=true)
  (l6:K.lookup f6=some ⟨oc6,od6,.func (PySem.W.fnOf "__init__" "Book.__init__" (qao qcv) (qal qcv) (qac qcv) .none kV6 dc6 pm6 an6 cd6 ct6),sl6⟩)
  (c6:PySem.W.codeIn K cd6 "Book.__init__"=true)
  (k6:PySem.W.keepIn K (.ref f6)=true)
  (a7:PySem.W.findIn K (.ref BK) "is_house"=some (some (.ref f7)))
  (i7:PySem.W.isFn K (.ref f7)=true)
  (l7:K.lookup f7=some ⟨oc7,od7,.func (PySem.W.fnOf "is_house" "Book.is_house" (qao qbh) (qal qbh) (qac qbh) .none kV7 dc7 pm7 an7 cd7 ct7),sl7⟩)
  (c7:PySem.W.codeIn K cd7 "Book.is_house"=true)
  (k7:PySem.W.keepIn K (.ref f7)=true)
  (a8:PySem.W.findIn K (.ref BK) "is_holder"=some (some (.ref f8)))
  (i8:PySem.W.isFn K (.ref f8)=true)
  (l8:K.lookup f8=some ⟨oc8,od8,.func (PySem.W.fnOf "is_holder" "Book.is_holder" (qao qba) (qal qba) (qac qba) .none kV8 dc8 pm8 an8 cd8 ct8),sl8⟩)
  (c8:PySem.W.codeIn K cd8 "Book.is_holder"=true)
  (k8:PySem.W.keepIn K (.ref f8)=true)
  (a9:PySem.W.findIn K (.ref BK) "need_house"=some (some (.ref f9)))
  (i9:PySem.W.isFn K (.ref f9)=true)
  (l9:K.lookup f9=some ⟨oc9,od9,.func (PySem.W.fnOf "need_house" "Book.need_house" (qao qa5) (qal qa5) (qac qa5) .none kV9 dc9 pm9 an9 cd9 ct9),sl9⟩)
  (c9:PySem.W.codeIn K cd9 "Book.need_house"=true)
  (k9:PySem.W.keepIn K (.ref f9)=true)
  (a10:PySem.W.findIn K (.ref BK) "need_holder"=some (some (.ref f10)))
  (i10:PySem.W.isFn K (.ref f10)=true)
  (l10:K.lookup f10=some ⟨oc10,od10,.func (PySem.W.fnOf "need_holder" "Book.need_holder" (qao qa2) (qal qa2) (qac qa2) .none kV10 dc10 pm10 an10 cd10 ct10),sl10⟩)
  (c10:PySem.W.codeIn K cd10 "Book.need_holder"=true)
  (k10:PySem.W.keepIn K (.ref f10)=true)
  (a11:PySem.W.findIn K (.ref BK) "need_new_name"=some (some (.ref f11)))
  (i11:PySem.W.isFn K (.ref f11)=true)
  (l11:K.lookup f11=some ⟨oc11,od11,.func (PySem.W.fnOf "need_new_name" "Book.need_new_name" (qao qat) (qal qat) (qac qat) .none kV11 dc11 pm11 an11 cd11 ct11),sl11⟩)
  (c11:PySem.W.codeIn K cd11 "Book.need_new_name"=true)
  (k11:PySem.W.keepIn K (.ref f11)=true)
  (a12:PySem.W.findIn K (.ref BK) "person"=some (some (.ref f12)))
  (i12:PySem.W.isFn K (.ref f12)=true)
  (l12:K.lookup f12=some ⟨oc12,od12,.func (PySem.W.fnOf "person" "Book.person" (qao qby) (qal qby) (qac qby) .none kV12 dc12 pm12 an12 cd12 ct12),sl12⟩)
  (c12:PySem.W.codeIn K cd12 "Book.person"=true)
  (k12:PySem.W.keepIn K (.ref f12)=true)
  (a13:PySem.W.findIn K (.ref BK) "house"=some (some (.ref f13)))
  (i13:PySem.W.isFn K (.ref f13)=true)
  (l13:K.lookup f13=some ⟨oc13,od13,.func (PySem.W.fnOf "house" "Book.house" (qao qch) (qal qch) (qac qch) .none kV13 dc13 pm13 an13 cd13 ct13),sl13⟩)
  (c13:PySem.W.codeIn K cd13 "Book.house"=true)
  (k13:PySem.W.keepIn K (.ref f13)=true)
  (a14:PySem.W.findIn K (.ref BK) "sale"=some (some (.ref f14)))
  (i14:PySem.W.isFn K (.ref f14)=true)
  (l14:K.lookup f14=some ⟨oc14,od14,.func (PySem.W.fnOf "sale" "Book.sale" (qao qcu) (qal qcu) (qac qcu) .none kV14 dc14 pm14 an14 cd14 ct14),sl14⟩)
  (c14:PySem.W.codeIn K cd14 "Book.sale"=true)
  (k14:PySem.W.keepIn K (.ref f14)=true)
  (a15:PySem.W.findIn K (.ref BK) "houses"=some (some (.ref f15)))
  (i15:PySem.W.isFn K (.ref f15)=true)
  (l15:K.lookup f15=some ⟨oc15,od15,.func (PySem.W.fnOf "houses" "Book.houses" (qao qbz) (qal qbz) (qac qbz) .none kV15 dc15 pm15 an15 cd15 ct15),sl15⟩)
  (c15:PySem.W.codeIn K cd15 "Book.houses"=true)
  (k15:PySem.W.keepIn K (.ref f15)=true)
  (a16:PySem.W.findIn K (.ref BK) "shares"=some (some (.ref f16)))
  (i16:PySem.W.isFn K (.ref f16)=true)
  (l16:K.lookup f16=some ⟨oc16,od16,.func (PySem.W.fnOf "shares" "Book.shares" (qao qbm) (qal qbm) (qac qbm) .none kV16 dc16 pm16 an16 cd16 ct16),sl16⟩)
  (c16:PySem.W.codeIn K cd16 "Book.shares"=true)
  (k16:PySem.W.keepIn K (.ref f16)=true)
  (a17:PySem.W.nsIn K mainGlobals "_law_take"=some (some (.ref f17)))
  (l17:K.lookup f17=some ⟨oc17,od17,.func (PySem.W.fnOf "_law_take" "_law_take" (qao qcr) (qal qcr) (qac qcr) .none kV17 dc17 pm17 an17 cd17 ct17),sl17⟩)
  (c17:PySem.W.codeIn K cd17 "_law_take"=true)
  (k17:PySem.W.keepIn K (.ref f17)=true)
  (a18:PySem.W.nsIn K mainGlobals "_law_divisor"=some (some (.ref f18)))
  (l18:K.lookup f18=some ⟨oc18,od18,.func (PySem.W.fnOf "_law_divisor" "_law_divisor" (qao qbo) (qal qbo) (qac qbo) .none kV18 dc18 pm18 an18 cd18 ct18),sl18⟩)
  (c18:PySem.W.codeIn K cd18 "_law_divisor"=true)
  (k18:PySem.W.keepIn K (.ref f18)=true)
  (a19:PySem.W.nsIn K mainGlobals "_law_lowest"=some (some (.ref f19)))
  (l19:K.lookup f19=some ⟨oc19,od19,.func (PySem.W.fnOf "_law_lowest" "_law_lowest" (qao qbw) (qal qbw) (qac qbw) .none kV19 dc19 pm19 an19 cd19 ct19),sl19⟩)
  (c19:PySem.W.codeIn K cd19 "_law_lowest"=true)
  (k19:PySem.W.keepIn K (.ref f19)=true)
  (a20:PySem.W.nsIn K mainGlobals "_law_plus"=some (some (.ref f20)))
  (l20:K.lookup f20=some ⟨oc20,od20,.func (PySem.W.fnOf "_law_plus" "_law_plus" (qao qcs) (qal qcs) (qac qcs) .none kV20 dc20 pm20 an20 cd20 ct20),sl20⟩)
  (c20:PySem.W.codeIn K cd20 "_law_plus"=true)
  (k20:PySem.W.keepIn K (.ref f20)=true)
  (a21:PySem.W.nsIn K mainGlobals "_law_times"=some (some (.ref f21)))
  (l21:K.lookup f21=some ⟨oc21,od21,.func (PySem.W.fnOf "_law_times" "_law_times" (qao qcf) (qal qcf) (qac qcf) .none kV21 dc21 pm21 an21 cd21 ct21),sl21⟩)
  (c21:PySem.W.codeIn K cd21 "_law_times"=true)
  (k21:PySem.W.keepIn K (.ref f21)=true)
  (a22:PySem.W.nsIn K mainGlobals "_law_lesser"=some (some (.ref f22)))
  (l22:K.lookup f22=some ⟨oc22,od22,.func (PySem.W.fnOf "_law_lesser" "_law_lesser" (qao qbx) (qal qbx) (qac qbx) .none kV22 dc22 pm22 an22 cd22 ct22),sl22⟩)
  (c22:PySem.W.codeIn K cd22 "_law_lesser"=true)
  (k22:PySem.W.keepIn K (.ref f22)=true)
  (a23:PySem.W.nsIn K mainGlobals "_law_purse"=some (some (.ref f23)))
  (l23:K.lookup f23=some ⟨oc23,od23,.func (PySem.W.fnOf "_law_purse" "_law_purse" (qao qcg) (qal qcg) (qac qcg) .none kV23 dc23 pm23 an23 cd23 ct23),sl23⟩)
  (c23:PySem.W.codeIn K cd23 "_law_purse"=true)
  (k23:PySem.W.keepIn K (.ref f23)=true)
  (a24:PySem.W.nsIn K mainGlobals "_law_names"=some (some (.ref f24)))
  (l24:K.lookup f24=some ⟨oc24,od24,.func (PySem.W.fnOf "_law_names" "_law_names" (qao qbr) (qal qbr) (qac qbr) .none kV24 dc24 pm24 an24 cd24 ct24),sl24⟩)
  (c24:PySem.W.codeIn K cd24 "_law_names"=true)
  (k24:PySem.W.keepIn K (.ref f24)=true)
  (a25:PySem.W.nsIn K mainGlobals "_law_part"=some (some (.ref f25)))
  (l25:K.lookup f25=some ⟨oc25,od25,.func (PySem.W.fnOf "_law_part" "_law_part" (qao qct) (qal qct) (qac qct) .none kV25 dc25 pm25 an25 cd25 ct25),sl25⟩)
  (c25:PySem.W.codeIn K cd25 "_law_part"=true)
  (k25:PySem.W.keepIn K (.ref f25)=true)
  (a26:PySem.W.nsIn K mainGlobals "_law_built"=some (some (.ref f26)))
  (l26:K.lookup f26=some ⟨oc26,od26,.func (PySem.W.fnOf "_law_built" "_law_built" (qao qbs) (qal qbs) (qac qbs) .none kV26 dc26 pm26 an26 cd26 ct26),sl26⟩)
  (c26:PySem.W.codeIn K cd26 "_law_built"=true)
  (k26:PySem.W.keepIn K (.ref f26)=true)
  (a27:PySem.W.nsIn K mainGlobals "outvote"=some (some (.ref f27)))
  (l27:K.lookup f27=some ⟨oc27,od27,.func (PySem.W.fnOf "outvote" "outvote" (qao qdx) (qal qdx) (qac qdx) .none kV27 dc27 pm27 an27 cd27 ct27),sl27⟩)
  (c27:PySem.W.codeIn K cd27 "outvote"=true)
  (k27:PySem.W.keepIn K (.ref f27)=true)
  (a28:PySem.W.nsIn K mainGlobals "outvoted"=some (some (.ref f28)))
  (l28:K.lookup f28=some ⟨oc28,od28,.func (PySem.W.fnOf "outvoted" "outvoted" (qao qcp) (qal qcp) (qac qcp) .none kV28 dc28 pm28 an28 cd28 ct28),sl28⟩)
  (c28:PySem.W.codeIn K cd28 "outvoted"=true)
  (k28:PySem.W.keepIn K (.ref f28)=true)
  (a29:PySem.W.nsIn K mainGlobals "rounds"=some (some (.ref f29)))
  (l29:K.lookup f29=some ⟨oc29,od29,.func (PySem.W.fnOf "rounds" "rounds" (qao qd7) (qal qd7) (qac qd7) .none kV29 dc29 pm29 an29 cd29 ct29),sl29⟩)
  (c29:PySem.W.codeIn K cd29 "rounds"=true)
  (k29:PySem.W.keepIn K (.ref f29)=true)
  (a30:PySem.W.nsIn K mainGlobals "rules"=some (some (.ref f30)))
  (l30:K.lookup f30=some ⟨oc30,od30,.func (PySem.W.fnOf "rules" "rules" (qao qff) (qal qff) (qac qff) .none kV30 dc30 pm30 an30 (.ref CDR) ct30),sl30⟩)
  (c30:PySem.W.codeIn K (.ref CDR) "rules"=true)
  (k30:PySem.W.keepIn K (.ref f30)=true)
  (a31:PySem.W.nsIn K mainGlobals "_law_votes"=some (some (.ref f31)))
  (l31:K.lookup f31=some ⟨oc31,od31,.func (PySem.W.fnOf "_law_votes" "_law_votes" (qao qce) (qal qce) (qac qce) .none kV31 dc31 pm31 an31 cd31 ct31),sl31⟩)
  (c31:PySem.W.codeIn K cd31 "_law_votes"=true)
  (k31:PySem.W.keepIn K (.ref f31)=true)
  (a32:PySem.W.nsIn K mainGlobals "_law_rounds"=some (some (.ref f32)))
  (l32:K.lookup f32=some ⟨oc32,od32,.func (PySem.W.fnOf "_law_rounds" "_law_rounds" (qao qbb) (qal qbb) (qac qbb) .none kV32 dc32 pm32 an32 cd32 ct32),sl32⟩)
  (c32:PySem.W.codeIn K cd32 "_law_rounds"=true)
  (k32:PySem.W.keepIn K (.ref f32)=true)
  (a33:PySem.W.nsIn K mainGlobals "_law_whole"=some (some (.ref f33)))
  (l33:K.lookup f33=some ⟨oc33,od33,.func (PySem.W.fnOf "_law_whole" "_law_whole" (qao qcd) (qal qcd) (qac qcd) .none kV33 dc33 pm33 an33 cd33 ct33),sl33⟩)
  (c33:PySem.W.codeIn K cd33 "_law_whole"=true)
  (k33:PySem.W.keepIn K (.ref f33)=true)
  (a34:PySem.W.nsIn K mainGlobals "_law_same"=some (some (.ref f34)))
  (l34:K.lookup f34=some ⟨oc34,od34,.func (PySem.W.fnOf "_law_same" "_law_same" (qao qb9) (qal qb9) (qac qb9) .none kV34 dc34 pm34 an34 cd34 ct34),sl34⟩)
  (c34:PySem.W.codeIn K cd34 "_law_same"=true)
  (k34:PySem.W.keepIn K (.ref f34)=true)
  (a35:PySem.W.nsIn K mainGlobals "law"=some (some (.ref f35)))
  (l35:K.lookup f35=some ⟨oc35,od35,.func (PySem.W.fnOf "law" "law" (qao qkg) (qal qkg) (qac qkg) .none kV35 dc35 pm35 an35 cd35 ct35),sl35⟩)
  (c35:PySem.W.codeIn K cd35 "law"=true)
  (k35:PySem.W.keepIn K (.ref f35)=true)
  (c_rules:K.lookup CDR=some ⟨.type "code",odr,.fields vsr,slr⟩)
  (v_rules:(vsr[11]?:Option Value)=some (.ref PTR))
  (h_rules:hdOk vsr CDR PTR=true)
  (m_rules:(PTR == mainGlobals)=false)
  (p_rules:K.lookup PTR=none)
   :∃ (a:Adr) (fd:FuncData) (c P:Addr),PySem.W.tabIn K "rules"=some (c,P)∧K.lookup P=none∧(∀ (s:Shared) (v:Value),BindsTo s fd ⟨[v],[]⟩ [("_law_script",v)])∧∀ base:Heap,K.In base→base.Ns mainGlobals mg→(∀ c P,PySem.W.tabIn K "rules"=some (c,P)→qny mg base P)→FnOk l.prog w K mg base (CXo l.prog w) 9 fa fd ["_law_script"] (spD K a.Book 1 (D_law a)):=by
 have e:=hfa.symm.trans (PySem.W.mg_of X G a35)
 cases e
 let a:Adr:=⟨X_OwnError,X_NoName,X_Twice,X_TooMany,X_NoHolder,X_NoHouse,X_NoLoss,X_NoShare,BK,BK,BK,ZR,ON,HF,tl,tp,th,fun _ _=>false⟩
 have E_OwnError:Exc K X_OwnError:=⟨x_ex_OwnError,x_ga_OwnError,x_gt_OwnError,x_ha_OwnError,x_hn,x_ht,x_mo_OwnError,x_mb_OwnError⟩
 have E_NoName:Exc K X_NoName:=⟨x_ex_NoName,x_ga_NoName,x_gt_NoName,x_ha_NoName,x_hn,x_ht,x_mo_NoName,x_mb_NoName⟩
 have E_Twice:Exc K X_Twice:=⟨x_ex_Twice,x_ga_Twice,x_gt_Twice,x_ha_Twice,x_hn,x_ht,x_mo_Twice,x_mb_Twice⟩
 have E_TooMany:Exc K X_TooMany:=⟨x_ex_TooMany,x_ga_TooMany,x_gt_TooMany,x_ha_TooMany,x_hn,x_ht,x_mo_TooMany,x_mb_TooMany⟩
 have E_NoHolder:Exc K X_NoHolder:=⟨x_ex_NoHolder,x_ga_NoHolder,x_gt_NoHolder,x_ha_NoHolder,x_hn,x_ht,x_mo_NoHolder,x_mb_NoHolder⟩
 have E_NoHouse:Exc K X_NoHouse:=⟨x_ex_NoHouse,x_ga_NoHouse,x_gt_NoHouse,x_ha_NoHouse,x_hn,x_ht,x_mo_NoHouse,x_mb_NoHouse⟩
 have E_NoLoss:Exc K X_NoLoss:=⟨x_ex_NoLoss,x_ga_NoLoss,x_gt_NoLoss,x_ha_NoLoss,x_hn,x_ht,x_mo_NoLoss,x_mb_NoLoss⟩
 have E_NoShare:Exc K X_NoShare:=⟨x_ex_NoShare,x_ga_NoShare,x_gt_NoShare,x_ha_NoShare,x_hn,x_ht,x_mo_NoShare,x_mb_NoShare⟩
 have T:Txt K mg a:=⟨PySem.W.mg_none_of X G z_len,PySem.W.mg_none_of X G z_range,PySem.W.mg_none_of X G z_all,PySem.W.mg_none_of X G z_int,PySem.W.mg_none_of X G z_abs,PySem.W.mg_none_of X G z_sorted,PySem.W.mg_none_of X G z_tuple,PySem.W.mg_none_of X G z_list,PySem.W.mg_none_of X G z_str,PySem.W.mg_none_of X G z_bool,PySem.W.mg_none_of X G z_isinstance,PySem.W.mg_none_of X G z_ValueError,PySem.W.mg_none_of X G z_any,PySem.W.mg_none_of X G z_set,PySem.W.mg_none_of X G z_max,PySem.W.mg_of X G n_OwnError,PySem.W.mg_of X G n_NoName,PySem.W.mg_of X G n_Twice,PySem.W.mg_of X G n_TooMany,PySem.W.mg_of X G n_NoHolder,PySem.W.mg_of X G n_NoHouse,PySem.W.mg_of X G n_NoLoss,PySem.W.mg_of X G n_NoShare,E_OwnError,E_NoName,E_Twice,E_TooMany,E_NoHolder,E_NoHouse,E_NoLoss,E_NoShare,PySem.W.mg_of X G v_LN,PySem.W.mg_of X G v_MP,PySem.W.mg_of X G v_MH,PySem.W.mg_of X G n_ZERO,PySem.W.mg_of X G n_ONE,PySem.W.mg_of X G n_HALF,
  ⟨_,_,_,v_ZERO,rfl,rfl,(show 2≤sizeLine by decide),.cons ⟨_,rfl⟩ (.cons ⟨_,rfl⟩ .nil)⟩,⟨_,_,_,v_ONE,rfl,rfl,(show 2≤sizeLine by decide),.cons ⟨_,rfl⟩ (.cons ⟨_,rfl⟩ .nil)⟩,⟨_,_,_,v_HALF,rfl,rfl,(show 2≤sizeLine by decide),.cons ⟨_,rfl⟩ (.cons ⟨_,rfl⟩ .nil)⟩,⟨b_pg,b_hd,b_po,b_sa⟩,b_people,b_things_of,b_mark_of,b_loss_of,b_held_of⟩
 have U0:=qax (st:=qdc) l0 c0 k0
 have B0:Binds K _ ["text"] []:=U0.binds (ps:=["text"]) fun _ _ _ _ _ _ us hl=>match us,hl with | [_],_=>rfl
 have U1:=qax (st:=qcq) l1 c1 k1
 have B1:Binds K _ ["number"] []:=U1.binds (ps:=["number"]) fun _ _ _ _ _ _ us hl=>match us,hl with | [_],_=>rfl
 have U2:=qax (st:=qa9) l2 c2 k2
 have B2:Binds K _ ["number","other"] []:=U2.binds (ps:=["number","other"]) fun _ _ _ _ _ _ us hl=>match us,hl with | [_,_],_=>rfl
 have U3:=qax (st:=qjc) l3 c3 k3
 have B3:Binds K _ ["first","second"] []:=U3.binds (ps:=["first","second"]) fun _ _ _ _ _ _ us hl=>match us,hl with | [_,_],_=>rfl
 have U4:=qax (st:=qgm) l4 c4 k4
 have B4:Binds K _ ["first","second"] []:=U4.binds (ps:=["first","second"]) fun _ _ _ _ _ _ us hl=>match us,hl with | [_,_],_=>rfl
 have U5:=qax (st:=qc9) l5 c5 k5
 have B5:Binds K _ ["first","second"] []:=U5.binds (ps:=["first","second"]) fun _ _ _ _ _ _ us hl=>match us,hl with | [_,_],_=>rfl
 have U6:=qax (st:=qcv) l6 c6 k6
 have B6:Binds K _ ["self"] []:=U6.binds (ps:=["self"]) fun _ _ _ _ _ _ us hl=>match us,hl with | [_],_=>rfl
 have U7:=qax (st:=qbh) l7 c7 k7
 have B7:Binds K _ ["self","name"] []:=U7.binds (ps:=["self","name"]) fun _ _ _ _ _ _ us hl=>match us,hl with | [_,_],_=>rfl
 have U8:=qax (st:=qba) l8 c8 k8
 have B8:Binds K _ ["self","name"] []:=U8.binds (ps:=["self","name"]) fun _ _ _ _ _ _ us hl=>match us,hl with | [_,_],_=>rfl
 have U9:=qax (st:=qa5) l9 c9 k9
 have B9:Binds K _ ["self","name"] []:=U9.binds (ps:=["self","name"]) fun _ _ _ _ _ _ us hl=>match us,hl with | [_,_],_=>rfl
 have U10:=qax (st:=qa2) l10 c10 k10
 have B10:Binds K _ ["self","name"] []:=U10.binds (ps:=["self","name"]) fun _ _ _ _ _ _ us hl=>match us,hl with | [_,_],_=>rfl
 have U11:=qax (st:=qat) l11 c11 k11
 have B11:Binds K _ ["self","name"] []:=U11.binds (ps:=["self","name"]) fun _ _ _ _ _ _ us hl=>match us,hl with | [_,_],_=>rfl
 have U12:=qax (st:=qby) l12 c12 k12
 have B12:Binds K _ ["self","name"] []:=U12.binds (ps:=["self","name"]) fun _ _ _ _ _ _ us hl=>match us,hl with | [_,_],_=>rfl
 have U13:=qax (st:=qch) l13 c13 k13
 have B13:Binds K _ ["self","name","owner","things","mark","loss"] []:=U13.binds (ps:=["self","name","owner","things","mark","loss"]) fun _ _ _ _ _ _ us hl=>match us,hl with | [_,_,_,_,_,_],_=>rfl
 have U14:=qax (st:=qcu) l14 c14 k14
 have B14:Binds K _ ["self","house","one","other","share"] []:=U14.binds (ps:=["self","house","one","other","share"]) fun _ _ _ _ _ _ us hl=>match us,hl with | [_,_,_,_,_],_=>rfl
 have U15:=qax (st:=qbz) l15 c15 k15
 have B15:Binds K _ ["self"] []:=U15.binds (ps:=["self"]) fun _ _ _ _ _ _ us hl=>match us,hl with | [_],_=>rfl
 have U16:=qax (st:=qbm) l16 c16 k16
 have B16:Binds K _ ["self","house"] []:=U16.binds (ps:=["self","house"]) fun _ _ _ _ _ _ us hl=>match us,hl with | [_,_],_=>rfl
 have U17:=qax (st:=qcr) l17 c17 k17
 have B17:Binds K _ ["_law_purse_here","_law_many"] []:=U17.binds (ps:=["_law_purse_here","_law_many"]) fun _ _ _ _ _ _ us hl=>match us,hl with | [_,_],_=>rfl
 have U18:=qax (st:=qbo) l18 c18 k18
 have B18:Binds K _ ["_law_one","_law_other"] []:=U18.binds (ps:=["_law_one","_law_other"]) fun _ _ _ _ _ _ us hl=>match us,hl with | [_,_],_=>rfl
 have U19:=qax (st:=qbw) l19 c19 k19
 have B19:Binds K _ ["_law_top","_law_bottom"] []:=U19.binds (ps:=["_law_top","_law_bottom"]) fun _ _ _ _ _ _ us hl=>match us,hl with | [_,_],_=>rfl
 have U20:=qax (st:=qcs) l20 c20 k20
 have B20:Binds K _ ["_law_one","_law_other"] []:=U20.binds (ps:=["_law_one","_law_other"]) fun _ _ _ _ _ _ us hl=>match us,hl with | [_,_],_=>rfl
 have U21:=qax (st:=qcf) l21 c21 k21
 have B21:Binds K _ ["_law_one","_law_other"] []:=U21.binds (ps:=["_law_one","_law_other"]) fun _ _ _ _ _ _ us hl=>match us,hl with | [_,_],_=>rfl
 have U22:=qax (st:=qbx) l22 c22 k22
 have B22:Binds K _ ["_law_one","_law_other"] []:=U22.binds (ps:=["_law_one","_law_other"]) fun _ _ _ _ _ _ us hl=>match us,hl with | [_,_],_=>rfl
 have U23:=qax (st:=qcg) l23 c23 k23
 have B23:Binds K _ ["_law_script"] []:=U23.binds (ps:=["_law_script"]) fun _ _ _ _ _ _ us hl=>match us,hl with | [_],_=>rfl
 have U24:=qax (st:=qbr) l24 c24 k24
 have B24:Binds K _ ["_law_purse_here"] []:=U24.binds (ps:=["_law_purse_here"]) fun _ _ _ _ _ _ us hl=>match us,hl with | [_],_=>rfl
 have U25:=qax (st:=qct) l25 c25 k25
 have B25:Binds K _ ["_law_purse_here"] []:=U25.binds (ps:=["_law_purse_here"]) fun _ _ _ _ _ _ us hl=>match us,hl with | [_],_=>rfl
 have U26:=qax (st:=qbs) l26 c26 k26
 have B26:Binds K _ ["_law_purse_here"] []:=U26.binds (ps:=["_law_purse_here"]) fun _ _ _ _ _ _ us hl=>match us,hl with | [_],_=>rfl
 have U27:=qax (st:=qdx) l27 c27 k27
 have B27:Binds K _ ["book","voters","house"] []:=U27.binds (ps:=["book","voters","house"]) fun _ _ _ _ _ _ us hl=>match us,hl with | [_,_,_],_=>rfl
 have U28:=qax (st:=qcp) l28 c28 k28
 have B28:Binds K _ ["book","voters"] []:=U28.binds (ps:=["book","voters"]) fun _ _ _ _ _ _ us hl=>match us,hl with | [_,_],_=>rfl
 have U29:=qax (st:=qd7) l29 c29 k29
 have B29:Binds K _ ["drawn"] []:=U29.binds (ps:=["drawn"]) fun _ _ _ _ _ _ us hl=>match us,hl with | [_],_=>rfl
 have U30:=qax (st:=qff) l30 c30 k30
 have B30:Binds K _ ["book","holder"] []:=U30.binds (ps:=["book","holder"]) fun _ _ _ _ _ _ us hl=>match us,hl with | [_,_],_=>rfl
 have U31:=qax (st:=qce) l31 c31 k31
 have B31:Binds K _ ["_law_entries","_law_house","_law_voters"] []:=U31.binds (ps:=["_law_entries","_law_house","_law_voters"]) fun _ _ _ _ _ _ us hl=>match us,hl with | [_,_,_],_=>rfl
 have U32:=qax (st:=qbb) l32 c32 k32
 have B32:Binds K _ ["_law_entries","_law_holder"] []:=U32.binds (ps:=["_law_entries","_law_holder"]) fun _ _ _ _ _ _ us hl=>match us,hl with | [_,_],_=>rfl
 have U33:=qax (st:=qcd) l33 c33 k33
 have B33:Binds K _ ["_law_found"] []:=U33.binds (ps:=["_law_found"]) fun _ _ _ _ _ _ us hl=>match us,hl with | [_],_=>rfl
 have U34:=qax (st:=qb9) l34 c34 k34
 have B34:Binds K _ ["_law_found","_law_due"] []:=U34.binds (ps:=["_law_found","_law_due"]) fun _ _ _ _ _ _ us hl=>match us,hl with | [_,_],_=>rfl
 have U35:=qax (st:=qkg) l35 c35 k35
 have B35:Binds K _ ["_law_script"] []:=U35.binds (ps:=["_law_script"]) fun _ _ _ _ _ _ us hl=>match us,hl with | [_],_=>rfl
 have t_rules:PySem.W.tabIn K "rules"=some (CDR,PTR):=tabIn_mk a30 l30 rfl c_rules v_rules
 refine ⟨a,PySem.W.fnOf "law" "law" (qao qkg) (qal qkg) (qac qkg) .none kV35 dc35 pm35 an35 cd35 ct35,CDR,PTR,t_rules,p_rules,fun s v=>.of_eq rfl,fun base _ _ BM=>?_⟩
 have TL:LamTxt K mg base CDR PTR:=lamTxt_mk (codeHd_mk c_rules h_rules) (fun z=>by rw [z] at m_rules;simp at m_rules) (BM _ _ t_rules)
 have RF_is_name:Fn l.prog w K mg base "is_name" 1 ["text"] qgk:=⟨_,_,ok_is_name U0 T ,PySem.W.mg_of X G a0,k0,B0⟩
 have RF_need_loss:Fn l.prog w K mg base "need_loss" 1 ["number"] (qei a):=⟨_,_,ql4 U1 T ,PySem.W.mg_of X G a1,k1,B1⟩
 have RF_common_divisor:Fn l.prog w K mg base "common_divisor" 1 ["number","other"] sp_gcd:=⟨_,_,ok_gcd U2 T ,PySem.W.mg_of X G a2,k2,B2⟩
 have RF_plus:Fn l.prog w K mg base "plus" 2 ["first","second"] (qgj K):=⟨_,_,ok_plus U3 T RF_common_divisor,PySem.W.mg_of X G a3,k3,B3⟩
 have F_plus:Fn l.prog w K mg base "plus" 2 ["first","second"] (spD K a.Book 2 (qis a)):=Fn.imp RF_plus spd_plus
 have RF_minus:Fn l.prog w K mg base "minus" 3 ["first","second"] (qj8 K):=⟨_,_,ok_minus U4 T RF_plus,PySem.W.mg_of X G a4,k4,B4⟩
 have RF_is_above:Fn l.prog w K mg base "is_above" 1 ["first","second"] (qhe K):=⟨_,_,ok_above U5 T ,PySem.W.mg_of X G a5,k5,B5⟩
 have F_is_above:Fn l.prog w K mg base "is_above" 1 ["first","second"] (spD K a.Book 2 (qcz a)):=Fn.imp RF_is_above spd_above
 have M_Book:MkB l.prog w K mg base "Book" a.Book 1 ["self"] (spInit K a.Book):=⟨_,_,ok_init U6 T ,PySem.W.mg_of X G n_Book,⟨b_mk,a6,i6,b_kp⟩,B6⟩
 have RM_is_house:Mt l.prog w K mg base a.Book "is_house" 1 ["self","name"] (qda K a.Book):=⟨_,_,qnh U7 T ,⟨a7,i7,k7⟩,T.cl,B7⟩
 have M_is_house:Mt l.prog w K mg base a.Book "is_house" 1 ["self","name"] (spD K a.Book 2 (qj2 a)):=Mt.imp RM_is_house qlm
 have RM_is_holder:Mt l.prog w K mg base a.Book "is_holder" 2 ["self","name"] (qdn K a.Book):=⟨_,_,ql5 U8 T RM_is_house,⟨a8,i8,k8⟩,T.cl,B8⟩
 have RM_need_house:Mt l.prog w K mg base a.Book "need_house" 2 ["self","name"] (qcl K a):=⟨_,_,qko U9 T RM_is_house,⟨a9,i9,k9⟩,T.cl,B9⟩
 have M_need_house:Mt l.prog w K mg base a.Book "need_house" 2 ["self","name"] (spD K a.Book 2 (qg4 a)):=Mt.imp RM_need_house qit
 have RM_need_holder:Mt l.prog w K mg base a.Book "need_holder" 3 ["self","name"] (qb2 K a):=⟨_,_,qiz U10 T RM_is_holder,⟨a10,i10,k10⟩,T.cl,B10⟩
 have M_need_holder:Mt l.prog w K mg base a.Book "need_holder" 3 ["self","name"] (spD K a.Book 2 (qb1 a)):=Mt.imp RM_need_holder qhw
 have RM_need_new_name:Mt l.prog w K mg base a.Book "need_new_name" 3 ["self","name"] (qd6 K a):=⟨_,_,qng U11 T RF_is_name RM_is_holder,⟨a11,i11,k11⟩,T.cl,B11⟩
 have RM_person:Mt l.prog w K mg base a.Book "person" 4 ["self","name"] (qhy K a):=⟨_,_,ok_person U12 T RM_need_new_name,⟨a12,i12,k12⟩,T.cl,B12⟩
 have M_person:Mt l.prog w K mg base a.Book "person" 4 ["self","name"] (spD K a.Book 2 (qe3 a)):=Mt.imp RM_person spd_person
 have RM_house:Mt l.prog w K mg base a.Book "house" 4 ["self","name","owner","things","mark","loss"] (qj9 K a):=⟨_,_,ok_house U13 T RM_need_new_name RM_need_holder RF_need_loss,⟨a13,i13,k13⟩,T.cl,B13⟩
 have M_house:Mt l.prog w K mg base a.Book "house" 4 ["self","name","owner","things","mark","loss"] (spD K a.Book 6 (qgx a)):=Mt.imp RM_house spd_house
 have RM_sale:Mt l.prog w K mg base a.Book "sale" 4 ["self","house","one","other","share"] (qm9 K a):=⟨_,_,ok_sale U14 T RM_need_house RM_need_holder RF_is_above RF_minus RF_plus,⟨a14,i14,k14⟩,T.cl,B14⟩
 have M_sale:Mt l.prog w K mg base a.Book "sale" 4 ["self","house","one","other","share"] (spD K a.Book 5 (qj1 a)):=Mt.imp RM_sale spd_sale
 have RM_houses:Mt l.prog w K mg base a.Book "houses" 1 ["self"] (qhz K a.Book):=⟨_,_,ok_houses U15 T ,⟨a15,i15,k15⟩,T.cl,B15⟩
 have M_houses:Mt l.prog w K mg base a.Book "houses" 1 ["self"] (spD K a.Book 1 (qe4 a)):=Mt.imp RM_houses spd_houses
 have RM_shares:Mt l.prog w K mg base a.Book "shares" 3 ["self","house"] (qhx K a):=⟨_,_,ok_shares U16 T RM_need_house,⟨a16,i16,k16⟩,T.cl,B16⟩
 have M_shares:Mt l.prog w K mg base a.Book "shares" 3 ["self","house"] (spD K a.Book 2 (qee a)):=Mt.imp RM_shares spd_shares
 have F__law_take:Fn l.prog w K mg base "_law_take" 1 ["_law_purse_here","_law_many"] (spD K a.Book 2 (qaj a)):=⟨_,_,ql6 U17 T ,PySem.W.mg_of X G a17,k17,B17⟩
 have F__law_divisor:Fn l.prog w K mg base "_law_divisor" 1 ["_law_one","_law_other"] (spD K a.Book 2 (qbp a)):=⟨_,_,qh2 U18 T ,PySem.W.mg_of X G a18,k18,B18⟩
 have F__law_lowest:Fn l.prog w K mg base "_law_lowest" 2 ["_law_top","_law_bottom"] (spD K a.Book 2 (qaz a)):=⟨_,_,qi1 U19 T F__law_divisor,PySem.W.mg_of X G a19,k19,B19⟩
 have F__law_plus:Fn l.prog w K mg base "_law_plus" 3 ["_law_one","_law_other"] (spD K a.Book 2 (qa4 a)):=⟨_,_,ql7 U20 T F__law_lowest,PySem.W.mg_of X G a20,k20,B20⟩
 have F__law_times:Fn l.prog w K mg base "_law_times" 3 ["_law_one","_law_other"] (spD K a.Book 2 (qbl a)):=⟨_,_,qkr U21 T F__law_lowest,PySem.W.mg_of X G a21,k21,B21⟩
 have F__law_lesser:Fn l.prog w K mg base "_law_lesser" 1 ["_law_one","_law_other"] (spD K a.Book 2 (qbn a)):=⟨_,_,qi2 U22 T ,PySem.W.mg_of X G a22,k22,B22⟩
 have F__law_purse:Fn l.prog w K mg base "_law_purse" 1 ["_law_script"] (spD K a.Book 1 (qbv a)):=⟨_,_,qks U23 T ,PySem.W.mg_of X G a23,k23,B23⟩
 have F__law_names:Fn l.prog w K mg base "_law_names" 2 ["_law_purse_here"] (spD K a.Book 1 (qcj a)):=⟨_,_,qkt U24 T F__law_take,PySem.W.mg_of X G a24,k24,B24⟩
 have F__law_part:Fn l.prog w K mg base "_law_part" 3 ["_law_purse_here"] (spD K a.Book 1 (qcc a)):=⟨_,_,ql8 U25 T F__law_lowest F__law_take,PySem.W.mg_of X G a25,k25,B25⟩
 have F__law_built:Fn l.prog w K mg base "_law_built" 5 ["_law_purse_here"] (spD K a.Book 1 (qc4 a)):=⟨_,_,qku U26 T F__law_names M_Book M_person M_house F__law_take F__law_times F__law_part M_sale F__law_plus,PySem.W.mg_of X G a26,k26,B26⟩
 have F_outvote:Fn l.prog w K mg base "outvote" 4 ["book","voters","house"] (spD K a.Book 3 (qdl a)):=⟨_,_,ok_outvote U27 T M_shares F_is_above F_plus,PySem.W.mg_of X G a27,k27,B27⟩
 have F_outvoted:Fn l.prog w K mg base "outvoted" 5 ["book","voters"] (spD K a.Book 2 (qcy a)):=⟨_,_,qnf U28 T M_houses F_outvote,PySem.W.mg_of X G a28,k28,B28⟩
 have F_rounds:Fn l.prog w K mg base "rounds" 7 ["drawn"] (spRo l.prog w K mg base 6 a.Book (qe2 a)):=⟨_,_,ok_rounds U29 T ,PySem.W.mg_of X G a29,k29,B29⟩
 have F_rules:Fn l.prog w K mg base "rules" 8 ["book","holder"] (spD K a.Book 2 (qfr a)):=⟨_,_,ok_rules U30 T M_need_holder F_rounds F_outvoted a30 t_rules TL,PySem.W.mg_of X G a30,k30,B30⟩
 have F__law_votes:Fn l.prog w K mg base "_law_votes" 4 ["_law_entries","_law_house","_law_voters"] (spD K a.Book 3 (qa0 a)):=⟨_,_,qkq U31 T F__law_lesser F__law_plus,PySem.W.mg_of X G a31,k31,B31⟩
 have F__law_rounds:Fn l.prog w K mg base "_law_rounds" 5 ["_law_entries","_law_holder"] (spD K a.Book 2 (qco a)):=⟨_,_,qi0 U32 T F__law_votes,PySem.W.mg_of X G a32,k32,B32⟩
 have F__law_whole:Fn l.prog w K mg base "_law_whole" 1 ["_law_found"] (spD K a.Book 1 (qdr a)):=⟨_,_,qkp U33 T ,PySem.W.mg_of X G a33,k33,B33⟩
 have S0:Fn l.prog w K mg base "_law_same" 1 ["_law_found","_law_due"] (spD K a.Book 2 (qap a 0)):=⟨_,_,fn_bad rfl,PySem.W.mg_of X G a34,k34,B34⟩
 have S1:Fn l.prog w K mg base "_law_same" 2 ["_law_found","_law_due"] (spD K a.Book 2 (qap a 1)):=⟨_,_,qel U34 T F__law_whole 0 S0,PySem.W.mg_of X G a34,k34,B34⟩
 have S2:Fn l.prog w K mg base "_law_same" 3 ["_law_found","_law_due"] (spD K a.Book 2 (qap a 2)):=⟨_,_,qel U34 T F__law_whole 1 S1,PySem.W.mg_of X G a34,k34,B34⟩
 have F__law_same:Fn l.prog w K mg base "_law_same" 4 ["_law_found","_law_due"] (spD K a.Book 2 (qap a 3)):=⟨_,_,qel U34 T F__law_whole 2 S2,PySem.W.mg_of X G a34,k34,B34⟩
 exact ok_law U35 T F__law_built F__law_purse F__law_rounds F_rules F__law_same
def sp_fin (K:PySem.W.Frag):Sp:=fun vs H Q E=>∃ (c:Addr) (ns:List Int) (cd PT:Addr),vs=[.ref c]∧ns.length≤63∧PySem.W.tabIn K "rules"=some (cd,PT)∧OnlyT PT H∧SqL K H c (ns.map V.int)∧(∀ v H',v=.bl true→Q v H')
theorem fin_of {K:PySem.W.Frag}{a:Adr} (vs:List V) (H:Hp) (Q:VK) (E:XK) (h:sp_fin K vs H Q E):spD K a.Book 1 (D_law a) vs H Q E:=by
 obtain ⟨c,ns,cd,PT,rfl,hl,ht,hO,hS,k⟩:=h
 exact law_spT hl ht hO hS k
theorem walk {l:PySem.W.OpenLaw}{q:Program}{loose:List Str}{XP:(Str→Option Value)→Heap→Prop}{YP:World→Heap→Prop}{d d':DefRec}{K:Params→PySem.W.Frag} (hn:l.most=some 63) (hdf:d.params.defaults=[])
  (hY:∀ (w:World) (h:Heap),YP w h→(K w.params).In h)
  (hrec:(recsOf q).find? (fun e=>e.name == ("rules":Str))=some d')
  (F:∀ (w:World) (mg:Str→Option Value) (fa:Addr) (h:Heap),(K w.params).In h→h.Ns mainGlobals mg→mg d.name=some (.ref fa) →
   ∃ (a:Adr) (fd:FuncData) (c P:Addr),PySem.W.tabIn (K w.params) "rules"=some (c,P)∧(K w.params).lookup P=none∧(∀ (s:Shared) (u:Value),BindsTo s fd ⟨[u],[]⟩ [("_law_script",u)])∧∀ base:Heap,(K w.params).In base→base.Ns mainGlobals mg→(∀ c P,PySem.W.tabIn (K w.params) "rules"=some (c,P)→qny mg base P)→FnOk l.prog w (K w.params) mg base (CXo l.prog w) 9 fa fd ["_law_script"] (spD (K w.params) a.Book 1 (D_law a))) :
  PySem.W.WalkO q loose XP YP l.row.toRowW d [] (fun f vs=>PySem.call f vs) :=
 L2.walk_ofT (n:=63) (k:=9) (x:="_law_script") (lam:="rules") (CX:=fun w=>CXo l.prog w) (sp:=fun w=>sp_fin (K w.params)) hn (by decide) hdf ⟨rfl,by decide,by decide⟩ hY hrec
  (fun w mg fa h X G hm=>let ⟨a,fd,c,P,t1,t2,h1,h2⟩:=F w mg fa h X G hm;⟨fd,c,P,t1,t2,h1,fun base b1 b2 b3=>(h2 base b1 b2 b3).imp fin_of⟩)
  (fun _ _ c ns cd PT hl ht hO hS=>⟨c,ns,cd,PT,rfl,hl,ht,hO,hS,fun _ _ e=>e⟩) fun _ _ _ _ _ z=>by
  obtain ⟨_,_,_,_,_,_,_,_,_,_,_,_,_,z⟩:=z
  exact z
end My
def PySem.W.Fast.tw9695057487498073285:Unit:=()
def PySem.W.Fast.tw18290880442597122916:Unit:=()
def PySem.W.Fast.tw2405083613534935041:Unit:=()
def PySem.W.Fast.tw16660720087098077363:Unit:=()
def PySem.W.Fast.tw16544521346912612681:Unit:=()
def PySem.W.Fast.tw7704067835703646924:Unit:=()
def PySem.W.Fast.tw1629155238475969888:Unit:=()
def PySem.W.Fast.tw2896090184319567600:Unit:=()
def PySem.W.Fast.tw875718527157031507:Unit:=()
def PySem.W.Fast.tw12464578876355988575:Unit:=()
def PySem.W.Fast.tw13390818747923999871:Unit:=()
def PySem.W.Fast.tw11939467653346843818:Unit:=()
def PySem.W.Fast.tw14400444815806532250:Unit:=()
def PySem.W.Fast.tw307254868705181107:Unit:=()
def PySem.W.Fast.tw1744030659545763947:Unit:=()
def PySem.W.Fast.tw1886219907453464343:Unit:=()
def PySem.W.Fast.tw695071158772371365:Unit:=()
def PySem.W.Fast.tw10733356740128015183:Unit:=()
def PySem.W.Fast.tw14206044226169022127:Unit:=()
def PySem.W.Fast.tw13186251483258141503:Unit:=()
def PySem.W.Fast.tw12229842780332907201:Unit:=()
def PySem.W.Fast.tw15206931990942650940:Unit:=()
def PySem.W.Fast.tw10301435569787961174:Unit:=()
open PySem PySem.W PyProof.Rows
set_option maxRecDepth 100000 in
set_option maxHeartbeats 0 in
theorem PySem.Challenge.cw_wholeowners_k31_rules_holds : PySem.Challenge.rw_wholeowners_k31_rules.Holds := by
 w_on;o_law;k_head;(case hw=>w_witness2)
 k_fill
 refine My.walk (l:=PySem.Challenge.rw_wholeowners_k31_rules) rfl rfl (fun w h Y=>PySem.W.km_in_of Y) rfl ?F
 case F =>
  intro w mg fa h KX G hmg
  refine' My.all_mk KX G hmg ?n_OwnError ?n_NoName ?n_Twice ?n_TooMany ?n_NoHolder ?n_NoHouse ?n_NoLoss ?n_NoShare ?n_Book ?n_ZERO ?n_ONE ?n_HALF ?v_ZERO ?v_ONE ?v_HALF ?v_LN ?v_MP ?v_MH ?z_len ?z_range ?z_all ?z_int ?z_abs ?z_sorted ?z_tuple ?z_list ?z_str ?z_bool ?z_isinstance ?z_ValueError ?z_any ?z_set ?z_max ?b_pg ?b_hd ?b_po ?b_sa ?b_mk ?b_kp ?b_people ?b_things_of ?b_mark_of ?b_loss_of ?b_held_of ?x_hn ?x_ht ?x_ex_OwnError ?x_ga_OwnError ?x_gt_OwnError ?x_ha_OwnError ?x_mo_OwnError ?x_mb_OwnError ?x_ex_NoName ?x_ga_NoName ?x_gt_NoName ?x_ha_NoName ?x_mo_NoName ?x_mb_NoName ?x_ex_Twice ?x_ga_Twice ?x_gt_Twice ?x_ha_Twice ?x_mo_Twice ?x_mb_Twice ?x_ex_TooMany ?x_ga_TooMany ?x_gt_TooMany ?x_ha_TooMany ?x_mo_TooMany ?x_mb_TooMany ?x_ex_NoHolder ?x_ga_NoHolder ?x_gt_NoHolder ?x_ha_NoHolder ?x_mo_NoHolder ?x_mb_NoHolder ?x_ex_NoHouse ?x_ga_NoHouse ?x_gt_NoHouse ?x_ha_NoHouse ?x_mo_NoHouse ?x_mb_NoHouse ?x_ex_NoLoss ?x_ga_NoLoss ?x_gt_NoLoss ?x_ha_NoLoss ?x_mo_NoLoss ?x_mb_NoLoss ?x_ex_NoShare ?x_ga_NoShare ?x_gt_NoShare ?x_ha_NoShare ?x_mo_NoShare ?x_mb_NoShare ?a0 ?l0 ?c0 ?k0 ?a1 ?l1 ?c1 ?k1 ?a2 ?l2 ?c2 ?k2 ?a3 ?l3 ?c3 ?k3 ?a4 ?l4 ?c4 ?k4 ?a5 ?l5 ?c5 ?k5 ?a6 ?i6 ?l6 ?c6 ?k6 ?a7 ?i7 ?l7 ?c7 ?k7 ?a8 ?i8 ?l8 ?c8 ?k8 ?a9 ?i9 ?l9 ?c9 ?k9 ?a10 ?i10 ?l10 ?c10 ?k10 ?a11 ?i11 ?l11 ?c11 ?k11 ?a12 ?i12 ?l12 ?c12 ?k12 ?a13 ?i13 ?l13 ?c13 ?k13 ?a14 ?i14 ?l14 ?c14 ?k14 ?a15 ?i15 ?l15 ?c15 ?k15 ?a16 ?i16 ?l16 ?c16 ?k16 ?a17 ?l17 ?c17 ?k17 ?a18 ?l18 ?c18 ?k18 ?a19 ?l19 ?c19 ?k19 ?a20 ?l20 ?c20 ?k20 ?a21 ?l21 ?c21 ?k21 ?a22 ?l22 ?c22 ?k22 ?a23 ?l23 ?c23 ?k23 ?a24 ?l24 ?c24 ?k24 ?a25 ?l25 ?c25 ?k25 ?a26 ?l26 ?c26 ?k26 ?a27 ?l27 ?c27 ?k27 ?a28 ?l28 ?c28 ?k28 ?a29 ?l29 ?c29 ?k29 ?a30 ?l30 ?c30 ?k30 ?a31 ?l31 ?c31 ?k31 ?a32 ?l32 ?c32 ?k32 ?a33 ?l33 ?c33 ?k33 ?a34 ?l34 ?c34 ?k34 ?a35 ?l35 ?c35 ?k35 ?c_rules ?v_rules ?h_rules ?m_rules ?p_rules
  (case n_OwnError=>k_is)
  (case n_NoName=>k_is)
  (case n_Twice=>k_is)
  (case n_TooMany=>k_is)
  (case n_NoHolder=>k_is)
  (case n_NoHouse=>k_is)
  (case n_NoLoss=>k_is)
  (case n_NoShare=>k_is)
  (case n_Book=>k_is)
  (case n_ZERO=>k_is)
  (case n_ONE=>k_is)
  (case n_HALF=>k_is)
  (case v_ZERO=>k_is)
  (case v_ONE=>k_is)
  (case v_HALF=>k_is)
  (case v_LN=>k_is)
  (case v_MP=>k_is)
  (case v_MH=>k_is)
  (case z_len=>k_is)
  (case z_range=>k_is)
  (case z_all=>k_is)
  (case z_int=>k_is)
  (case z_abs=>k_is)
  (case z_sorted=>k_is)
  (case z_tuple=>k_is)
  (case z_list=>k_is)
  (case z_str=>k_is)
  (case z_bool=>k_is)
  (case z_isinstance=>k_is)
  (case z_ValueError=>k_is)
  (case z_any=>k_is)
  (case z_set=>k_is)
  (case z_max=>k_is)
  (case b_pg=>k_is)
  (case b_hd=>k_is)
  (case b_po=>k_is)
  (case b_sa=>k_is)
  (case b_mk=>k_is)
  (case b_kp=>k_is)
  (case b_people=>k_is)
  (case b_things_of=>k_is)
  (case b_mark_of=>k_is)
  (case b_loss_of=>k_is)
  (case b_held_of=>k_is)
  (case x_hn=>k_is)
  (case x_ht=>k_is)
  (case x_ex_OwnError=>k_exc)
  (case x_ga_OwnError=>k_is)
  (case x_gt_OwnError=>k_is)
  (case x_ha_OwnError=>k_is)
  (case x_mo_OwnError=>k_is)
  (case x_mb_OwnError=>k_is)
  (case x_ex_NoName=>k_exc)
  (case x_ga_NoName=>k_is)
  (case x_gt_NoName=>k_is)
  (case x_ha_NoName=>k_is)
  (case x_mo_NoName=>k_is)
  (case x_mb_NoName=>k_is)
  (case x_ex_Twice=>k_exc)
  (case x_ga_Twice=>k_is)
  (case x_gt_Twice=>k_is)
  (case x_ha_Twice=>k_is)
  (case x_mo_Twice=>k_is)
  (case x_mb_Twice=>k_is)
  (case x_ex_TooMany=>k_exc)
  (case x_ga_TooMany=>k_is)
  (case x_gt_TooMany=>k_is)
  (case x_ha_TooMany=>k_is)
  (case x_mo_TooMany=>k_is)
  (case x_mb_TooMany=>k_is)
  (case x_ex_NoHolder=>k_exc)
  (case x_ga_NoHolder=>k_is)
  (case x_gt_NoHolder=>k_is)
  (case x_ha_NoHolder=>k_is)
  (case x_mo_NoHolder=>k_is)
  (case x_mb_NoHolder=>k_is)
  (case x_ex_NoHouse=>k_exc)
  (case x_ga_NoHouse=>k_is)
  (case x_gt_NoHouse=>k_is)
  (case x_ha_NoHouse=>k_is)
  (case x_mo_NoHouse=>k_is)
  (case x_mb_NoHouse=>k_is)
  (case x_ex_NoLoss=>k_exc)
  (case x_ga_NoLoss=>k_is)
  (case x_gt_NoLoss=>k_is)
  (case x_ha_NoLoss=>k_is)
  (case x_mo_NoLoss=>k_is)
  (case x_mb_NoLoss=>k_is)
  (case x_ex_NoShare=>k_exc)
  (case x_ga_NoShare=>k_is)
  (case x_gt_NoShare=>k_is)
  (case x_ha_NoShare=>k_is)
  (case x_mo_NoShare=>k_is)
  (case x_mb_NoShare=>k_is)
  (case a0=>k_is)
  (case l0=>k_is)
  (case c0=>k_is)
  (case k0=>k_is)
  (case a1=>k_is)
  (case l1=>k_is)
  (case c1=>k_is)
  (case k1=>k_is)
  (case a2=>k_is)
  (case l2=>k_is)
  (case c2=>k_is)
  (case k2=>k_is)
  (case a3=>k_is)
  (case l3=>k_is)
  (case c3=>k_is)
  (case k3=>k_is)
  (case a4=>k_is)
  (case l4=>k_is)
  (case c4=>k_is)
  (case k4=>k_is)
  (case a5=>k_is)
  (case l5=>k_is)
  (case c5=>k_is)
  (case k5=>k_is)
  (case a6=>k_is)
  (case i6=>k_is)
  (case l6=>k_is)
  (case c6=>k_is)
  (case k6=>k_is)
  (case a7=>k_is)
  (case i7=>k_is)
  (case l7=>k_is)
  (case c7=>k_is)
  (case k7=>k_is)
  (case a8=>k_is)
  (case i8=>k_is)
  (case l8=>k_is)
  (case c8=>k_is)
  (case k8=>k_is)
  (case a9=>k_is)
  (case i9=>k_is)
  (case l9=>k_is)
  (case c9=>k_is)
  (case k9=>k_is)
  (case a10=>k_is)
  (case i10=>k_is)
  (case l10=>k_is)
  (case c10=>k_is)
  (case k10=>k_is)
  (case a11=>k_is)
  (case i11=>k_is)
  (case l11=>k_is)
  (case c11=>k_is)
  (case k11=>k_is)
  (case a12=>k_is)
  (case i12=>k_is)
  (case l12=>k_is)
  (case c12=>k_is)
  (case k12=>k_is)
  (case a13=>k_is)
  (case i13=>k_is)
  (case l13=>k_is)
  (case c13=>k_is)
  (case k13=>k_is)
  (case a14=>k_is)
  (case i14=>k_is)
  (case l14=>k_is)
  (case c14=>k_is)
  (case k14=>k_is)
  (case a15=>k_is)
  (case i15=>k_is)
  (case l15=>k_is)
  (case c15=>k_is)
  (case k15=>k_is)
  (case a16=>k_is)
  (case i16=>k_is)
  (case l16=>k_is)
  (case c16=>k_is)
  (case k16=>k_is)
  (case a17=>k_is)
  (case l17=>k_is)
  (case c17=>k_is)
  (case k17=>k_is)
  (case a18=>k_is)
  (case l18=>k_is)
  (case c18=>k_is)
  (case k18=>k_is)
  (case a19=>k_is)
  (case l19=>k_is)
  (case c19=>k_is)
  (case k19=>k_is)
  (case a20=>k_is)
  (case l20=>k_is)
  (case c20=>k_is)
  (case k20=>k_is)
  (case a21=>k_is)
  (case l21=>k_is)
  (case c21=>k_is)
  (case k21=>k_is)
  (case a22=>k_is)
  (case l22=>k_is)
  (case c22=>k_is)
  (case k22=>k_is)
  (case a23=>k_is)
  (case l23=>k_is)
  (case c23=>k_is)
  (case k23=>k_is)
  (case a24=>k_is)
  (case l24=>k_is)
  (case c24=>k_is)
  (case k24=>k_is)
  (case a25=>k_is)
  (case l25=>k_is)
  (case c25=>k_is)
  (case k25=>k_is)
  (case a26=>k_is)
  (case l26=>k_is)
  (case c26=>k_is)
  (case k26=>k_is)
  (case a27=>k_is)
  (case l27=>k_is)
  (case c27=>k_is)
  (case k27=>k_is)
  (case a28=>k_is)
  (case l28=>k_is)
  (case c28=>k_is)
  (case k28=>k_is)
  (case a29=>k_is)
  (case l29=>k_is)
  (case c29=>k_is)
  (case k29=>k_is)
  (case a30=>k_is)
  (case l30=>k_is)
  (case c30=>k_is)
  (case k30=>k_is)
  (case a31=>k_is)
  (case l31=>k_is)
  (case c31=>k_is)
  (case k31=>k_is)
  (case a32=>k_is)
  (case l32=>k_is)
  (case c32=>k_is)
  (case k32=>k_is)
  (case a33=>k_is)
  (case l33=>k_is)
  (case c33=>k_is)
  (case k33=>k_is)
  (case a34=>k_is)
  (case l34=>k_is)
  (case c34=>k_is)
  (case k34=>k_is)
  (case a35=>k_is)
  (case l35=>k_is)
  (case c35=>k_is)
  (case k35=>k_is)
  (case c_rules=>k_is)
  (case v_rules=>rfl)
  (case h_rules=>rfl)
  (case m_rules=>rfl)
  (case p_rules=>first | kernel_rfl | rfl)
