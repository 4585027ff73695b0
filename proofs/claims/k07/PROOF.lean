import PyProof.Rows.All
import Wide.All
import OpenK.AllK
import Wide.FinOn
import Lean
import PyProof.EqAt
import PyProof.EqKinds
import PyProof.TupleCall
import PySem.Challenge.RW_wholeowners_k07_whole_shares_come_to_one
set_option Elab.async false
set_option linter.all false
set_option maxRecDepth 100000
namespace L2
open PySem PySem.Spec PyProof.Rows
abbrev Key:=Sum Int Str
def keyIs:Key→Value→Bool
 | .inl k,v=>Value.isInt k v
 | .inr x,v=>Value.isStrOf x v
def keyH (w:World):Key→Int
 | .inl k=>hashInt k
 | .inr x=>hashStr w x
theorem qbu:∀ {k:Key}{v:Value},keyIs k v=true→(∃ i t,k=Sum.inl i∧v=Value.int i t)∨(∃ x t,k=Sum.inr x∧v=Value.str x t)
 | .inl i,v,h=>by
  obtain ⟨t,e⟩:=Value.isInt_shape (k:=i) (v:=v) h
  exact .inl ⟨i,t,rfl,e⟩
 | .inr x,v,h=>by
  obtain ⟨t,e⟩:=Value.isStrOf_shape (x:=x) (v:=v) h
  exact .inr ⟨x,t,rfl,e⟩
theorem keyIs_int (i:Int) (t:Tok):keyIs (.inl i) (.int i t)=true:=by simp [keyIs,Value.isInt]
theorem keyIs_str (x:Str) (t:Tok):keyIs (.inr x) (.str x t)=true:=by simp [keyIs,Value.isStrOf]
theorem key_ll (a b:Int):decide ((Sum.inl a:Key)=Sum.inl b)=(a == b):=by
 by_cases e:a=b
 ·subst e;simp
 ·have h:¬ (Sum.inl a:Key)=Sum.inl b:=fun q=>e (Sum.inl.inj q)
  rw [decide_eq_false h]
  exact (beq_eq_false_iff_ne.mpr e).symm
theorem key_rr (a b:Str):decide ((Sum.inr a:Key)=Sum.inr b)=decide (a=b):=by
 by_cases e:a=b
 ·subst e;simp
 ·have h:¬ (Sum.inr a:Key)=Sum.inr b:=fun q=>e (Sum.inr.inj q)
  rw [decide_eq_false h,decide_eq_false e]
theorem key_lr (a:Int) (b:Str):decide ((Sum.inl a:Key)=Sum.inr b)=false:=decide_eq_false (fun q=>nomatch q)
theorem key_rl (a:Str) (b:Int):decide ((Sum.inr a:Key)=Sum.inl b)=false:=decide_eq_false (fun q=>nomatch q)
def qb2 (prog:Program) (w:World):PySem.KeyKind prog w Key where
 is:=keyIs
 hash:=keyH w
 inj:=fun v a b ha hb=>by
  rcases qbu ha with ⟨i,t,rfl,rfl⟩ | ⟨x,t,rfl,rfl⟩
  ·rcases qbu hb with ⟨j,u,rfl,e⟩ | ⟨y,u,rfl,e⟩
   ·injection e with e1 _;rw [e1]
   ·exact nomatch e
  ·rcases qbu hb with ⟨j,u,rfl,e⟩ | ⟨y,u,rfl,e⟩
   ·exact nomatch e
   ·injection e with e1 _;rw [e1]
 byValue:=fun k v h=>by
  rcases qbu h with ⟨i,t,rfl,rfl⟩ | ⟨x,t,rfl,rfl⟩ <;> rfl
 pyHash:=fun hv h=>by
  rcases qbu hv with ⟨i,t,rfl,rfl⟩ | ⟨x,t,rfl,rfl⟩
  ·exact wpAny_pyHash_int h
  ·exact wpAny_pyHash_str h
 eqBool:=fun hu hv h=>by
  rcases qbu hu with ⟨i,t,rfl,rfl⟩ | ⟨x,t,rfl,rfl⟩
  ·rcases qbu hv with ⟨j,u,rfl,rfl⟩ | ⟨y,u,rfl,rfl⟩
   ·rw [key_ll] at h;exact wpAny_eqBool_int h
   ·rw [key_lr] at h;exact SeqAt.EqAt.int_str i t y u _ _ _ _ h
  ·rcases qbu hv with ⟨j,u,rfl,rfl⟩ | ⟨y,u,rfl,rfl⟩
   ·rw [key_rl] at h;exact SeqAt.EqAt.str_int x t j u _ _ _ _ h
   ·rw [key_rr] at h;exact wpAny_eqBool_str h
 «strs»:=fun k x t v h=>by
  rcases qbu h with ⟨i,u,rfl,e⟩ | ⟨y,u,rfl,e⟩
  ·exact nomatch e
  ·injection e with e1 _
   subst e1
   cases v <;> rfl
theorem qlf (prog:Program) (w:World) (i:Int) (t:Tok):(qb2 prog w).is (.inl i) (.int i t)=true:=keyIs_int i t
theorem qle (prog:Program) (w:World) (x:Str) (t:Tok):(qb2 prog w).is (.inr x) (.str x t)=true:=keyIs_str x t
end L2
namespace L2
open PySem PySem.Spec PyProof.Rows
inductive V where
 | non | bl (b:Bool) | int (i:Int) | str (x:Str) | byt (b:Array UInt8) | flt (b:UInt64) | ref (a:Addr) | ty (n:String)
 deriving DecidableEq
def RelV:V→Value→Prop
 | .non,u=>u=Value.none
 | .bl b,u=>u=Value.bool b
 | .int i,u=>∃ t,u=Value.int i t
 | .str x,u=>∃ t,u=Value.str x t
 | .byt b,u=>∃ t,u=Value.bytes b t
 | .flt b,u=>∃ t,u=Value.float b t
 | .ref a,u=>u=Value.ref a
 | .ty n,u=>u=Value.type n
abbrev Vals:List V→List Value→Prop:=Paired RelV
theorem Vals.length {xs:List V}{us:List Value} (r:Vals xs us):xs.length=us.length:=Paired.length r
theorem Vals.get:∀ {xs:List V}{us:List Value}{i:Nat}{x:V},Vals xs us→xs[i]?=some x→∃ u,us[i]?=some u∧RelV x u
 | _,_,_,_,.nil,e=>by simp at e
 | _,_,0,_,.cons r _,e=>by simp at e;subst e;exact ⟨_,rfl,r⟩
 | _,_,i+1,x,.cons _ t,e=>by
  obtain ⟨u,h1,h2⟩:=Vals.get (i:=i) (x:=x) t (by simpa using e)
  exact ⟨u,by simpa using h1,h2⟩
theorem Vals.set {x:V}{u:Value} (r:RelV x u):∀ {xs:List V}{us:List Value} (i:Nat),Vals xs us→Vals (xs.set i x) (us.set i u)
 | _,_,_,.nil=>.nil
 | _,_,0,.cons _ t=>.cons r t
 | _,_,i+1,.cons q t=>.cons q (Vals.set r i t)
theorem Vals.append:∀ {xs ys:List V}{us ws:List Value},Vals xs us→Vals ys ws→Vals (xs++ys) (us++ws)
 | _,_,_,_,.nil,s=>s
 | _,_,_,_,.cons r t,s=>.cons r (Vals.append t s)
theorem Vals.take:∀ {xs:List V}{us:List Value} (n:Nat),Vals xs us→Vals (xs.take n) (us.take n)
 | _,_,0,_=>.nil
 | _,_,_+1,.nil=>.nil
 | _,_,n+1,.cons r t=>.cons r (Vals.take n t)
theorem Vals.drop:∀ {xs:List V}{us:List Value} (n:Nat),Vals xs us→Vals (xs.drop n) (us.drop n)
 | _,_,0,r=>r
 | _,_,_+1,.nil=>.nil
 | _,_,n+1,.cons _ t=>Vals.drop n t
def RelO:Option V→Option Value→Prop
 | some v,some u=>RelV v u
 | none,none=>True
 | _,_=>False
def KV {κ:Type}:List (κ×V)→List (κ×Value)→Prop:=Paired fun (p:κ×V) (q:κ×Value)=>p.1=q.1∧RelV p.2 q.2
def kV:Key→V
 | .inl i=>.int i
 | .inr x=>.str x
inductive HO where
 /-- a list -/
 | lst (xs:List V)
 /-- a tuple (never changes) -/
 | tup (xs:List V)
 /-- a dict whose keys are ints and texts;one whose keys are tuples of ints and texts (the empty one is both) -/
 | dK (kvs:List (Key×V)) | dT (kvs:List (List Key×V))
 /-- a set of ints: its members,its size -/
 | set (S:Int→Bool) (n:Nat)
 /-- an instance of the class at C,its dict at dx,its attributes -/
 | ins (C dx:Addr) (fs:List (Str×V))
 /-- the dict of the instance at x -/
 | own (x:Addr)
 /-- the dict of an exception -/
 | xd (fs:List (Str×V))
 /-- a bound method,f of x -/
 | met (f x:Addr)
 /-- a range object lo,lo+1,.. below hi -/
 | rng (lo hi:Int)
 /-- a thing that is known to the object (the script;a dict while a loop walks it): read,never written while it is so -/
 | frz (o:Obj) (u:HO)
 /-- a code object's table -/
 | tbl (ps:Array Value)
 /-- any other thing,by what is true of its one object (a def of one's own: SetO a S n:=HO.ext fun h=>..) -/
 | ext (φ:Heap→Prop)
abbrev Hp:=Addr→Option HO
def upd (H:Hp) (a:Addr) (o:HO):Hp:=fun b=>if b=a then some o else H b
theorem qab {H:Hp}{a:Addr}{o:HO}:upd H a o a=some o:=by unfold upd;rw [if_pos rfl]
theorem qag {H:Hp}{a b:Addr}{o:HO} (h:b≠a):upd H a o b=H b:=by unfold upd;rw [if_neg h]
theorem qiy {H:Hp}{a:Addr}{o u:HO}:upd (upd H a o) a u=upd H a u:=by
 funext b;unfold upd;split <;> rfl
theorem qki {H:Hp}{a b:Addr}{o u:HO} (h:H a=some o) (h':H b=some u) (d:o≠u):a≠b:=by
 intro e;subst e;rw [h] at h';exact d (Option.some.inj h')
theorem qae {H:Hp}{a b:Addr}{o:HO} (h:H a=some o) (h':H b=none):a≠b:=by
 intro e;subst e;rw [h] at h';cases h'
section
variable (P:Program) (w:World)
def ObjOk (H:Hp) (h:Heap) (a:Addr):HO→Prop
 | .lst xs=>xs.length≤sizeLine∧∃ (its:List Value) (n:Nat),Vals xs its∧h.get? a=some { cls:=.type "list",data:=.seq its.toArray n }
 | .tup xs=>xs.length≤sizeLine∧∃ its:List Value,Vals xs its∧IsTup h a its.toArray
 | .dK kvs=>kvs.length≤sizeLine∧(a == sysModules)=false∧∃ vs,KV kvs vs∧h.DictOf (qb2 P w) a vs
 | .dT kvs=>kvs.length≤sizeLine∧(a == sysModules)=false∧∃ xs:List (List Key×Addr×Value),
   Paired (fun (p:List Key×V) (q:List Key×Addr×Value)=>p.1=q.1∧H q.2.1=some (.tup (p.1.map kV))∧RelV p.2 q.2.2) kvs xs ∧
   ∃ o es ep,h.get? a=some o∧o.ExactDict∧o.data=.dict es ep∧es.toList=xs.map (entryOfKey (tupleKind (qb2 P w)))∧(xs.map (·.1)).Nodup
 | .set S n=>h.SetOf (intKind P w) a S n
 | .ins C dx fs=>H dx=some (.own a)∧fs.length≤1000∧dx≠a∧h.get? a=some (PySem.W.instObj C dx) ∧
   ∃ mA,h.Ns1 dx mA∧(∀ f,RelO (fs.lookup f) (mA f))∧PySem.Within mA (fs.map (·.1))
 | .own _=>∃ o,h.get? a=some o
 | .xd fs=>∃ mA,h.Ns1 a mA∧∀ f,RelO (fs.lookup f) (mA f)
 | .rng lo hi=>∃ t u v,h.get? a=some { cls:=.type "range",data:=.fields #[.int lo t,.int hi u,.int 1 v] }
 | .frz o u=>h.get? a=some o∧ObjOk H h a u
 | .tbl ps=>h.get? a=some { cls:=.none,data:=.fields ps }
 | .met f x=>h.get? a=some (PySem.W.methodObj (.ref f) (.ref x))
 | .ext φ=>φ h∧(∃ o,h.get? a=some o)∧∀ h1 h2:Heap,φ h1→(∀ o,h1.get? a=some o→h2.get? a=some o)→φ h2
def HOk (H:Hp) (h:Heap):Prop:=∀ a o,H a=some o→ObjOk P w H h a o
end
section
variable {P:Program}{w:World}{H H':Hp}{h h':Heap}{a:Addr}{o:HO}
theorem ObjOk.lt (x:ObjOk P w H h a o):a < h.objs.size:=by
 cases o with
 | lst xs=>obtain ⟨_,_,_,_,e⟩:=x;exact Heap.lt_size e
 | tup xs=>obtain ⟨_,_,_,p⟩:=x;exact p.lt
 | dK kvs=>obtain ⟨_,_,_,_,o,_,_,e,_⟩:=x;exact Heap.lt_size e
 | dT kvs=>obtain ⟨_,_,_,_,o,_,_,e,_⟩:=x;exact Heap.lt_size e
 | set S n=>obtain ⟨o,_,_,_,e,_⟩:=x;exact Heap.lt_size e
 | ins C dx fs=>obtain ⟨_,_,_,e,_⟩:=x;exact Heap.lt_size e
 | own y=>obtain ⟨_,e⟩:=x;exact Heap.lt_size e
 | xd fs=>obtain ⟨_,⟨_,_,_,e,_⟩,_⟩:=x;exact Heap.lt_size e
 | rng lo hi=>obtain ⟨_,_,_,e⟩:=x;exact Heap.lt_size e
 | frz ob u=>obtain ⟨e,_⟩:=x;exact Heap.lt_size e
 | tbl ps=>exact Heap.lt_size (show h.get? a=some _ from x)
 | met f y=>exact Heap.lt_size (show h.get? a=some _ from x)
 | ext φ=>obtain ⟨_,⟨_,e⟩,_⟩:=x;exact Heap.lt_size e
theorem Paired.mapP {α β:Type}{F G:α→β→Prop}:∀ {l₁:List α}{l₂:List β},Paired F l₁ l₂→(∀ a b,F a b→G a b)→Paired G l₁ l₂
 | _,_,.nil,_=>.nil
 | _,_,.cons r t,f=>.cons (f _ _ r) (Paired.mapP t f)
theorem ObjOk.stay (x:ObjOk P w H h a o) (k:∀ b u,(b=a∨H b=some (.own a))→h.get? b=some u→h'.get? b=some u)
  (ho:∀ b,H b=some (.own a)→H' b=some (.own a)) (ht:∀ b xs,H b=some (.tup xs)→H' b=some (.tup xs)):ObjOk P w H' h' a o:=by
 induction o with
 | lst xs=>obtain ⟨z,its,n,r,e⟩:=x;exact ⟨z,its,n,r,k _ _ (.inl rfl) e⟩
 | tup xs=>obtain ⟨z,its,r,ob,e,c⟩:=x;exact ⟨z,its,r,ob,k _ _ (.inl rfl) e,c⟩
 | dK kvs=>obtain ⟨z,y,vs,r,ob,es,ep,e,c⟩:=x;exact ⟨z,y,vs,r,ob,es,ep,k _ _ (.inl rfl) e,c⟩
 | dT kvs =>
  obtain ⟨z,y,xs,r,ob,es,ep,e,c⟩:=x
  exact ⟨z,y,xs,Paired.mapP r fun p q z=>⟨z.1,ht _ _ z.2.1,z.2.2⟩,ob,es,ep,k _ _ (.inl rfl) e,c⟩
 | set S n=>obtain ⟨ob,es,ep,t,e,c⟩:=x;exact ⟨ob,es,ep,t,k _ _ (.inl rfl) e,c⟩
 | ins C dx fs =>
  obtain ⟨d,z,ne,e,mA,⟨od,es,ep,e2,c⟩,r⟩:=x
  exact ⟨ho _ d,z,ne,k _ _ (.inl rfl) e,mA,⟨od,es,ep,k _ _ (.inr d) e2,c⟩,r⟩
 | own y=>obtain ⟨ob,e⟩:=x;exact ⟨ob,k _ _ (.inl rfl) e⟩
 | xd fs=>obtain ⟨mA,⟨od,es,ep,e,c⟩,r⟩:=x;exact ⟨mA,⟨od,es,ep,k _ _ (.inl rfl) e,c⟩,r⟩
 | rng lo hi=>obtain ⟨t,u,v,e⟩:=x;exact ⟨t,u,v,k _ _ (.inl rfl) e⟩
 | frz ob u ih=>obtain ⟨e,q⟩:=x;exact ⟨k _ _ (.inl rfl) e,ih q⟩
 | tbl ps =>
  have e:h.get? a=some { cls:=.none,data:=.fields ps }:=x
  show h'.get? a=some { cls:=.none,data:=.fields ps }
  exact k a _ (.inl rfl) e
 | met f y =>
  have e:h.get? a=some (PySem.W.methodObj (.ref f) (.ref y)):=x
  show h'.get? a=some (PySem.W.methodObj (.ref f) (.ref y))
  exact k a _ (.inl rfl) e
 | ext φ=>obtain ⟨p,⟨o,e⟩,st⟩:=x;exact ⟨st _ _ p fun o q=>k _ _ (.inl rfl) q,⟨o,k _ _ (.inl rfl) e⟩,st⟩
theorem HOk.lt (x:HOk P w H h) (e:H a=some o):a < h.objs.size:=(x a o e).lt
theorem HOk.fresh (x:HOk P w H h) (e:h.objs.size≤a):H a=none:=by
 cases q:H a with
 | none=>rfl
 | some u=>exact absurd (Nat.lt_of_lt_of_le (x.lt q) e) (Nat.lt_irrefl _)
theorem HOk.kept (x:HOk P w H h) (k:∀ b u,h.get? b=some u→h'.get? b=some u):HOk P w H h':=fun a o e =>
 (x a o e).stay (fun b u _ q=>k b u q) (fun _ q=>q) fun _ _ q=>q
theorem HOk.laid (x:HOk P w H h) (k:∀ b u,h.get? b=some u→h'.get? b=some u) (hp:h.objs.size≤a) (new:ObjOk P w (upd H a o) h' a o):HOk P w (upd H a o) h':=fun b u e=>by
 have hn:=x.fresh hp
 by_cases hb:b=a
 ·subst hb;rw [qab] at e;cases e;exact new
 ·rw [qag hb] at e
  exact (x b u e).stay (fun c v _ q=>k c v q) (fun c q=>by rw [qag (qae q hn)];exact q) fun c xs q=>by rw [qag (qae q hn)];exact q
end
def Rd (H:Hp) (a:Addr) (u:HO):Prop:=H a=some u∨∃ o,H a=some (.frz o u)
theorem Rd.ok {P:Program}{w:World}{H:Hp}{h:Heap}{a:Addr}{u:HO} (r:Rd H a u) (x:HOk P w H h):ObjOk P w H h a u:=by
 rcases r with r | ⟨o,r⟩
 ·exact x a u r
 ·obtain ⟨_,q⟩:=x a _ r
  exact q
def Mut:Option HO→Prop
 | some (.lst _)=>True
 | some (.dK _)=>True
 | some (.dT _)=>True
 | some (.set _ _)=>True
 | some (.ins _ _ _)=>True
 | some (.ext _)=>True
 | _=>False
section
variable {P:Program}{w:World}{H:Hp}{h h':Heap}{x e:Addr}{o':HO}
theorem HOk.write (ok:HOk P w H h) (mu:Mut (H x)) (he:e=x∨H e=some (.own x)) (k:∀ b u,b≠e→h.get? b=some u→h'.get? b=some u) (heo:∃ u,h'.get? e=some u)
  (new:ObjOk P w (upd H x o') h' x o'):HOk P w (upd H x o') h':=fun b u q=>by
 have nown:∀ c y,H c=some (.own y)→c≠x:=fun c y r z=>by subst z;rw [r] at mu;exact mu
 have ntup:∀ c xs,H c=some (.tup xs)→c≠x:=fun c xs r z=>by subst z;rw [r] at mu;exact mu
 by_cases hb:b=x
 ·subst hb;rw [qab] at q;cases q;exact new
 ·rw [qag hb] at q
  by_cases hbe:b=e
  ·have q':H b=some (.own x):=by
    rcases he with z | z
    ·exact absurd (hbe.trans z) hb
    ·rw [hbe];exact z
   rw [q] at q';cases q'
   obtain ⟨v,hv⟩:=heo
   exact ⟨v,by rw [hbe];exact hv⟩
  ·refine (ok b u q).stay (fun c v hc r=>k c v ?_ r) (fun c r=>by rw [qag (nown c b r)];exact r) fun c xs r=>by rw [qag (ntup c xs r)];exact r
   rcases hc with rfl | hc
   ·exact hbe
   ·rintro rfl
    rcases he with z | z
    ·exact nown c b hc z
    ·rw [hc] at z;cases z;exact hb rfl
end
structure Un (fs ex:List Addr) (H H':Hp) (h h':Heap):Prop where
 keep:∀ b o,h.get? b=some o→H b=none→b∉fs→b∉ex→h'.get? b=some o
 slot:∀ b o,h.get? b=some o→H b=none→b∈fs→b∉ex→∃ sl,h'.get? b=some { o with slots:=sl }
 free:∀ b o,h.get? b=some o→H b=none→b∉ex→H' b=none
 there:∀ b o,h.get? b=some o→b∉ex→∃ o',h'.get? b=some o'
 tups:∀ b xs,H b=some (.tup xs)→H' b=some (.tup xs)
 frzs:∀ b o u,H b=some (.frz o u)→H' b=some (.frz o u)
 tbls:∀ b ps,H b=some (.tbl ps)→∃ more,H' b=some (.tbl (ps++more))
section
variable {fs fs' ex ex':List Addr}{H H1 H2:Hp}{h h1 h2 h':Heap}{a x e:Addr}{o:HO}
theorem Un.any (u:Un fs ex H H1 h h1) {b:Addr}{ob:Obj} (q:h.get? b=some ob) (n:H b=none) (hx:b∉ex):∃ sl,h1.get? b=some { ob with slots:=sl }:=by
 by_cases hb:b∈fs
 ·exact u.slot b ob q n hb hx
 ·exact ⟨ob.slots,u.keep b ob q n hb hx⟩
theorem Un.kept (k:∀ b u,h.get? b=some u→h'.get? b=some u):Un fs ex H H h h' :=
 ⟨fun b ob q _ _ _=>k b ob q,fun b ob q _ _ _=>⟨ob.slots,k b ob q⟩,fun _ _ _ n _=>n,fun b ob q _=>⟨ob,k b ob q⟩,fun _ _ q=>q,fun _ _ _ q=>q,fun _ ps q=>⟨#[],by rw [q];simp⟩⟩
theorem Un.refl:Un fs ex H H h h:=Un.kept fun _ _ q=>q
theorem Un.laid (k:∀ b u,h.get? b=some u→h'.get? b=some u) (hp:h.objs.size≤a) (hn:H a=none):Un fs ex H (upd H a o) h h' where
 keep:=fun b u q _ _ _=>k b u q
 slot:=fun b u q _ _ _=>⟨u.slots,k b u q⟩
 free:=fun b u q n _=>by rw [qag (Nat.ne_of_lt (Nat.lt_of_lt_of_le (Heap.lt_size q) hp))];exact n
 there:=fun b u q _=>⟨u,k b u q⟩
 tups:=fun b xs q=>by rw [qag (qae q hn)];exact q
 frzs:=fun b u xs q=>by rw [qag (qae q hn)];exact q
 tbls:=fun b ps q=>⟨#[],by rw [qag (qae q hn),q];simp⟩
theorem Un.write (mu:Mut (H x)) (he:e=x∨H e=some (.own x)) (k:∀ b u,b≠e→h.get? b=some u→h'.get? b=some u) (heo:∃ u,h'.get? e=some u):Un fs ex H (upd H x o) h h':=by
 have hx:∀ b,H b=none→b≠x:=fun b n z=>by subst z;rw [n] at mu;exact mu
 have hb:∀ b,H b=none→b≠e:=fun b n z=>by
  subst z
  rcases he with r | r
  ·exact hx b n r
  ·rw [n] at r;cases r
 have hm:∀ b u,H b=some u→¬ Mut (some u)→b≠x:=fun b u q nm z=>by subst z;rw [q] at mu;exact nm mu
 refine ⟨fun b u q n _ _=>k b u (hb b n) q,fun b u q n _ _=>⟨u.slots,k b u (hb b n) q⟩,fun b u q n _=>by rw [qag (hx b n)];exact n,fun b u q _=>?_,
  fun b xs q=>by rw [qag (hm b _ q fun z=>z)];exact q,fun b u xs q=>by rw [qag (hm b _ q fun z=>z)];exact q,fun b ps q=>⟨#[],by rw [qag (hm b _ q fun z=>z),q];simp⟩⟩
 by_cases hbe:b=e
 ·subst hbe;exact heo
 ·exact ⟨u,k b u hbe q⟩
end
def trk (h:Heap) (H:Hp):List Addr:=(List.range h.objs.size).filter fun a=>(H a).isSome
def hidT (h:Heap) (H:Hp):Heap:=PySem.W.hideAll h (trk h H)
theorem hidT_size (h:Heap) (H:Hp):(hidT h H).objs.size=h.objs.size:=PySem.W.hideAll_size _ _
theorem hidT_get {h:Heap}{H:Hp}{b:Addr}{o:Obj} (e:h.get? b=some o) (n:H b=none):(hidT h H).get? b=some o :=
 PySem.W.hideAll_get _ e fun hm=>by
  have q:(H b).isSome=true:=(List.mem_filter.mp hm).2
  rw [n] at q;simp at q
theorem of_hidT {h:Heap}{H:Hp}{b:Addr}{o:Obj} (e:(hidT h H).get? b=some o):h.get? b=some o∧H b=none:=by
 have e':h.get? b=some o:=PySem.W.of_hideAll (trk h H) e
 refine ⟨e',?_⟩
 cases q:H b with
 | none=>rfl
 | some x =>
  have hm:b∈trk h H:=List.mem_filter.mpr ⟨List.mem_range.mpr (Heap.lt_size e'),by simp [q]⟩
  have z:(hidT h H).get? b=none:=PySem.W.hideAll_none (trk h H) hm
  rw [z] at e;cases e
def allNews (g h:Heap) (L:Addr):List (Addr×Obj):=(List.range h.objs.size).filterMap fun a=>if a=L∨(g.get? a).isSome=true then none else (h.get? a).map fun o=>(a,o)
def rest (g h:Heap) (L d:Addr):List (Addr×Obj):=(allNews g h L).filter fun p=>decide (p.1≠d)
end L2
namespace L2
open PySem PySem.Spec PyProof.Rows
structure Mod (K:PySem.W.Frag) (mg:Str→Option Value) (base:Heap):Prop where
 kin:K.In base
 glob:base.Ns mainGlobals mg
 blt:∃ mb,base.Ns builtinsNs mb∧∀ x:Str,x≠"__name__"→mb x=bootBuiltins x
 nolimit:base.NoLimit
structure Cx where
 prog:Program
 w:World
 K:PySem.W.Frag
 mg:Str→Option Value
 base:Heap
 A:Around
 N:List Str
 s₀:Shared
 H₀:Hp
 env:Env
 outer:List Env
 stack:List Env
 ex:List Addr
 fn:Str→Bool
 calm:Bool
 pn:List (Addr×Obj)
 xe:Value→Shared→Prop
def frs (l:List Env):List Addr:=l.filterMap (·.frame)
abbrev Cx.fs (X:Cx):List Addr:=frs X.outer
def Vis (sc:Scope) (x:Str):Prop:=sc.names.lookup x=some .local∨sc.names.lookup x=some .cell∨sc.names.lookup x=some .free
def Loc (sc:Scope) (x:Str):Prop:=sc.names.lookup x=some .local∨sc.names.lookup x=some .cell
def Look (env:Env) (h:Heap) (m:Str→Option Value) (x:Str) (u:Value):Prop :=
 (env.kindOf x=some .local∧m x=some u)∨((env.kindOf x=some .cell∨env.kindOf x=some .free)∧∃ c,env.cells.lookup x=some c∧h.IsCell c (some u))
structure Cx.Ok (X:Cx):Prop where
 mod:Mod X.K X.mg X.base
 kind:X.env.scope.kind=.function
 glob:X.env.globals=mainGlobals
 blt:X.env.builtins=builtinsNs
 above:X.s₀.heap.objs.size≤X.env.locals
 inj:∀ x y c,X.env.cells.lookup x=some c→X.env.cells.lookup y=some c→x=y
 has:∀ x,(X.env.kindOf x=some .cell∨X.env.kindOf x=some .free)→∃ c,X.env.cells.lookup x=some c
 cab:∀ x c,X.fn x=true→X.env.cells.lookup x=some c→X.s₀.heap.objs.size≤c
 hd:X.calm=true→X.A.handled=none
 frames:X.A.frames=some X.stack
 stk:X.stack=X.outer∨(X.stack=X.env::X.outer∧X.env.frame=some X.env.locals)
 exf:∀ b∈X.ex,b≠X.env.locals∧∀ x c,X.env.cells.lookup x=some c→c≠b
 bs:∀ b o,X.base.get? b=some o→X.s₀.heap.get? b=some o∧X.H₀ b=none
 bsz:X.base.objs.size≤X.s₀.heap.objs.size
 noex:∀ b o,X.base.get? b=some o→b∉X.ex
 exfs:∀ b∈X.ex,b∉X.fs
 funs:X.s₀.heap.FunFrames X.base X.outer
 frf:∀ b∈X.fs,X.H₀ b=none
structure Inv (X:Cx) (pins:List (Addr×Obj)) (σ:List (Option V)) (H:Hp) (s:Shared):Prop where
 ok:X.Ok
 os:s.os=X.s₀.os
 bare:AllBare s.gens
 base:Un X.fs X.ex X.H₀ H X.s₀.heap s.heap
 loc:∃ m,s.heap.Ns X.env.locals m∧∀ (i:Nat) (x:Str) (v:V),X.N[i]?=some x→σ[i]?=some (some v)→Vis X.env.scope x→∃ u,RelV v u∧Look X.env s.heap m x u
 cell:∀ x c,X.env.cells.lookup x=some c→∃ v,s.heap.IsCell c v
 free:H X.env.locals=none
 freeC:∀ x c,X.env.cells.lookup x=some c→H c=none
 pin:∀ p∈X.pn++pins,s.heap.get? p.1=some p.2∧H p.1=none∧p.1≠X.env.locals∧p.1∉X.fs∧∀ v,p.2.data≠.cell v
 hok:HOk X.prog X.w H s.heap
 len:σ.length=X.N.length
section
variable {X:Cx}{pins:List (Addr×Obj)}{σ:List (Option V)}{H H':Hp}{s:Shared}{h':Heap}
theorem Cx.Ok.nofr (ok:X.Ok) {b:Addr}{o:Obj} (e:X.base.get? b=some o):b∉X.fs:=fun hb=>by
 have:=(ok.funs.mem hb).1
 rw [e] at this;cases this
theorem Inv.bs (I:Inv X pins σ H s):∀ b o,X.base.get? b=some o→s.heap.get? b=some o∧H b=none:=fun b o e =>
 ⟨I.base.keep b o (I.ok.bs b o e).1 (I.ok.bs b o e).2 (I.ok.nofr e) (I.ok.noex b o e),I.base.free b o (I.ok.bs b o e).1 (I.ok.bs b o e).2 (I.ok.noex b o e)⟩
theorem Inv.bk (I:Inv X pins σ H s):∀ b o,X.base.get? b=some o→s.heap.get? b=some o:=fun b o e=>(I.bs b o e).1
theorem Inv.mod (I:Inv X pins σ H s):Mod X.K X.mg X.base:=I.ok.mod
theorem Inv.kIn (I:Inv X pins σ H s):X.K.In s.heap:=I.ok.mod.kin.keeps I.bk
theorem Inv.lt (I:Inv X pins σ H s):X.env.locals < s.heap.objs.size:=let ⟨_,hn,_⟩:=I.loc;hn.lt
theorem Inv.sz (I:Inv X pins σ H s):X.s₀.heap.objs.size≤s.heap.objs.size:=Nat.le_trans I.ok.above (Nat.le_of_lt I.lt)
theorem Inv.nofs (I:Inv X pins σ H s) {a:Addr} (h:s.heap.objs.size≤a):a∉X.fs:=fun hb=>by
 obtain ⟨_,o,ho,_⟩:=I.ok.funs.mem hb
 exact absurd (Nat.lt_of_lt_of_le (Heap.lt_size ho) (Nat.le_trans I.sz h)) (Nat.lt_irrefl _)
theorem Inv.cne (I:Inv X pins σ H s):∀ x c,X.env.cells.lookup x=some c→c≠X.env.locals:=fun x c e z=>by
 obtain ⟨v,o,ho,hd⟩:=I.cell x c e
 obtain ⟨m,⟨o',es,ep,ho',hd',_⟩,_⟩:=I.loc
 rw [z,ho'] at ho;cases ho;rw [hd'] at hd;cases hd
theorem Inv.funs (I:Inv X pins σ H s):s.heap.FunFrames X.base X.outer:=by
 have all:∀ (l:List Env),(∀ b∈frs l,b∈X.fs)→X.s₀.heap.FunFrames X.base l→s.heap.FunFrames X.base l:=by
  intro l
  induction l with
  | nil=>intro _ _;trivial
  | cons env r ih =>
   intro hs hl
   obtain ⟨hk,⟨L,o,hf,hn,ho,hd⟩,hr⟩:=hl
   have hL:L∈X.fs:=hs L (by unfold frs;rw [List.filterMap_cons,hf];exact List.mem_cons_self)
   obtain ⟨sl,e⟩:=I.base.slot L o ho (I.ok.frf L hL) hL fun z=>I.ok.exfs L z hL
   exact ⟨hk,⟨L,_,hf,hn,e,hd⟩,ih (fun b hb=>hs b (by unfold frs;rw [List.filterMap_cons,hf];exact List.mem_cons_of_mem _ hb)) hr⟩
 exact all X.outer (fun _ hb=>hb) I.ok.funs
theorem Inv.stack (I:Inv X pins σ H s):s.heap.FunFrames X.base X.stack:=by
 rcases I.ok.stk with e | ⟨e,hf⟩
 ·rw [e];exact I.funs
 ·rw [e]
  obtain ⟨m,hn,_⟩:=I.loc
  refine .cons (by rw [I.ok.kind];decide) hf hn ?_ I.funs
  exact Heap.get?_none_of_le (Nat.le_trans I.ok.bsz I.ok.above)
theorem Inv.stkSub (I:Inv X pins σ H s):∀ b∈frs X.stack,b∈X.env.locals::X.fs:=fun b hb=>by
 rcases I.ok.stk with e | ⟨e,hf⟩
 ·rw [e] at hb;exact List.mem_cons_of_mem _ hb
 ·rw [e] at hb
  unfold frs at hb
  rw [List.filterMap_cons,hf] at hb
  exact hb
theorem Inv.stkFree (I:Inv X pins σ H s):∀ b∈frs X.stack,H b=none:=fun b hb=>by
 rcases List.mem_cons.mp (I.stkSub b hb) with e | hb
 ·rw [e];exact I.free
 ·obtain ⟨_,o,ho,_⟩:=I.ok.funs.mem hb
  exact I.base.free b o ho (I.ok.frf b hb) fun z=>I.ok.exfs b z hb
theorem Inv.step {g':Array GenState}{t':Nat}{d':Drawn}{ch:List Addr} (I:Inv X pins σ H s)
  (hch:∀ b∈ch,(b∈X.ex∨X.s₀.heap.objs.size≤b)∧b≠X.env.locals∧(∀ x c,X.env.cells.lookup x=some c→c≠b)∧∀ p∈X.pn++pins,p.1≠b)
  (keep:∀ b o,b≠X.env.locals→b∉X.fs→b∉ch→s.heap.get? b=some o→H b=none→h'.get? b=some o)
  (slot:∀ b o,b≠X.env.locals→b∈X.fs→b∉ch→s.heap.get? b=some o→H b=none→∃ sl,h'.get? b=some { o with slots:=sl }) (free:∀ b o,b∉ch→s.heap.get? b=some o→H b=none→H' b=none)
  (there:∀ b o,b∉ch→s.heap.get? b=some o→∃ o',h'.get? b=some o')
  (tups:∀ b xs,H b=some (.tup xs)→H' b=some (.tup xs)) (frzs:∀ b o u,H b=some (.frz o u)→H' b=some (.frz o u)) (tbls:∀ b ps,H b=some (.tbl ps)→∃ more,H' b=some (.tbl (ps++more)))
  (ns:∀ m,s.heap.Ns X.env.locals m→h'.Ns X.env.locals m) (hok:HOk X.prog X.w H' h') (hg:AllBare g') :
  Inv X pins σ H' { s with heap:=h',gens:=g',drawn:=d',toks:=t' }:=by
 have neL:∀ b o,X.s₀.heap.get? b=some o→b≠X.env.locals:=fun b o e=>Nat.ne_of_lt (Nat.lt_of_lt_of_le (Heap.lt_size e) I.ok.above)
 have neC:∀ b o,X.s₀.heap.get? b=some o→b∉X.ex→b∉ch:=fun b o e hx hb=>by
  rcases (hch b hb).1 with z | z
  ·exact hx z
  ·exact absurd (Nat.lt_of_lt_of_le (Heap.lt_size e) z) (Nat.lt_irrefl _)
 have cellK:∀ x c,X.env.cells.lookup x=some c→∀ v,s.heap.IsCell c v→h'.IsCell c v:=fun x c e v ⟨o,ho,hd⟩=>by
  have nch:c∉ch:=fun z=>(hch c z).2.2.1 x c e rfl
  by_cases hc:c∈X.fs
  ·obtain ⟨sl,q⟩:=slot c o (I.cne x c e) hc nch ho (I.freeC x c e)
   exact ⟨_,q,hd⟩
  ·exact ⟨o,keep c o (I.cne x c e) hc nch ho (I.freeC x c e),hd⟩
 refine ⟨I.ok,I.os,hg,⟨fun b o e n hb hx=>?_,fun b o e n hb hx=>?_,fun b o e n hx=>?_,fun b o e hx=>?_,fun b xs e=>tups b xs (I.base.tups b xs e),fun b o xs e=>frzs b o xs (I.base.frzs b o xs e),fun b ps e=>?_⟩,?_,fun x c e=>?_,?_,fun x c e=>?_,fun p hp=>?_,hok,I.len⟩
 ·exact keep b o (neL b o e) hb (neC b o e hx) (I.base.keep b o e n hb hx) (I.base.free b o e n hx)
 ·obtain ⟨sl,e1⟩:=I.base.slot b o e n hb hx
  obtain ⟨sl',e2⟩:=slot b _ (neL b o e) hb (neC b o e hx) e1 (I.base.free b o e n hx)
  exact ⟨sl',e2⟩
 ·obtain ⟨o',e1⟩:=I.base.there b o e hx
  exact free b o' (neC b o e hx) e1 (I.base.free b o e n hx)
 ·obtain ⟨o',e1⟩:=I.base.there b o e hx
  exact there b o' (neC b o e hx) e1
 ·obtain ⟨m1,e1⟩:=I.base.tbls b ps e
  obtain ⟨m2,e2⟩:=tbls b _ e1
  exact ⟨m1++m2,by rw [e2,Array.append_assoc]⟩
 ·obtain ⟨m,hn,hl⟩:=I.loc
  refine ⟨m,ns m hn,fun i x v e1 e2 e3=>?_⟩
  obtain ⟨u,r,l⟩:=hl i x v e1 e2 e3
  refine ⟨u,r,?_⟩
  rcases l with l | ⟨k,c,e,z⟩
  ·exact .inl l
  ·exact .inr ⟨k,c,e,cellK x c e _ z⟩
 ·obtain ⟨v,z⟩:=I.cell x c e
  exact ⟨v,cellK x c e v z⟩
 ·obtain ⟨m,⟨o,_,_,ho,_⟩,_⟩:=I.loc
  exact free _ o (fun z=>(hch _ z).2.1 rfl) ho I.free
 ·obtain ⟨v,o,ho,hd⟩:=I.cell x c e
  exact free c o (fun z=>(hch c z).2.2.1 x c e rfl) ho (I.freeC x c e)
 ·obtain ⟨e,n,ne,nf,d⟩:=I.pin p hp
  have nch:p.1∉ch:=fun z=>(hch p.1 z).2.2.2 p hp rfl
  exact ⟨keep p.1 p.2 ne nf nch e n,free p.1 p.2 nch e n,ne,nf,d⟩
theorem Inv.un {t':Nat} (I:Inv X pins σ H s) (u:Un X.fs [] H H' s.heap h') (hok:HOk X.prog X.w H' h'):Inv X pins σ H' { s with heap:=h',toks:=t' }:=by
 obtain ⟨m,⟨o,es,ep,ho,r⟩,_⟩:=id I.loc
 obtain ⟨sl,hL⟩:=u.any ho I.free (by simp)
 exact I.step (g':=s.gens) (d':=s.drawn) (ch:=[]) (fun _ z=>nomatch z) (fun b o _ hb _ e n=>u.keep b o e n hb (by simp)) (fun b o _ hb _ e n=>u.slot b o e n hb (by simp)) (fun b o _ e n=>u.free b o e n (by simp)) (fun b o _ e=>u.there b o e (by simp)) u.tups u.frzs u.tbls (fun m' hm=>by
  obtain ⟨o',es',ep',ho',r'⟩:=hm
  rw [ho] at ho';cases ho'
  exact ⟨_,es',ep',hL,r'⟩) hok I.bare
theorem Inv.call {g':Array GenState}{t':Nat}{d':Drawn}{ch:List Addr} (I:Inv X pins σ H s) (u:Un (frs X.stack) ch H H' s.heap h') (hok:HOk X.prog X.w H' h') (hg:AllBare g')
  (hch:∀ b∈ch,(b∈X.ex∨X.s₀.heap.objs.size≤b)∧b≠X.env.locals∧(∀ x c,X.env.cells.lookup x=some c→c≠b)∧∀ p∈X.pn++pins,p.1≠b) :
  Inv X pins σ H' { s with heap:=h',gens:=g',drawn:=d',toks:=t' }:=by
 obtain ⟨m,⟨o,es,ep,ho,r⟩,_⟩:=id I.loc
 obtain ⟨sl,hL⟩:=u.any ho I.free fun z=>(hch _ z).2.1 rfl
 exact I.step (ch:=ch) hch (fun b o hL hb hc e n=>u.keep b o e n (fun z=>(List.mem_cons.mp (I.stkSub b z)).elim hL hb) hc) (fun b o _ _ hc e n=>u.any e n hc) (fun b o hc e n=>u.free b o e n hc) (fun b o hc e=>u.there b o e hc) u.tups u.frzs u.tbls (fun m' hm=>by
  obtain ⟨o',es',ep',ho',r'⟩:=hm
  rw [ho] at ho';cases ho'
  exact ⟨_,es',ep',hL,r'⟩) hok hg
theorem Inv.turned {t':Nat}{it:Addr} (I:Inv X pins σ H s) (k:∀ b o,b≠it→s.heap.get? b=some o→h'.get? b=some o) (hn:H it=none) (hL:it≠X.env.locals)
  (h1:it∈X.ex∨X.s₀.heap.objs.size≤it) (h2:∀ x c,X.env.cells.lookup x=some c→c≠it) (h3:∀ p∈X.pn++pins,p.1≠it):Inv X pins σ H { s with heap:=h',toks:=t' }:=by
 have nit:∀ b u,H b=some u→b≠it:=fun b u e z=>by rw [z,hn] at e;cases e
 refine I.step (g':=s.gens) (d':=s.drawn) (ch:=[it]) (fun b hb=>?_) (fun b o _ _ hc e _=>k b o (fun z=>hc (by simp [z])) e) (fun b o _ _ hc e _=>⟨o.slots,k b o (fun z=>hc (by simp [z])) e⟩) (fun _ _ _ _ n=>n)
  (fun b o hc e=>⟨o,k b o (fun z=>hc (by simp [z])) e⟩) (fun _ _ e=>e) (fun _ _ _ e=>e) (fun b ps e=>⟨#[],by rw [e];simp⟩) (fun m hm=>?_) (fun b u e=>?_) I.bare
 ·have e:b=it:=by simpa using hb
  subst e
  exact ⟨h1,hL,h2,h3⟩
 ·obtain ⟨o,es,ep,ho,r⟩:=hm
  exact ⟨o,es,ep,k _ o (Ne.symm hL) ho,r⟩
 ·refine (I.hok b u e).stay (fun c v hc q=>k c v ?_ q) (fun _ q=>q) fun _ _ q=>q
  rcases hc with z | z
  ·rw [z];exact nit b u e
  ·exact nit c _ z
theorem Inv.tok (I:Inv X pins σ H s) (t:Nat):Inv X pins σ H { s with toks:=t }:=I.un (h':=s.heap) (t':=t) Un.refl I.hok
theorem Inv.kept {t':Nat} (I:Inv X pins σ H s) (k:∀ b u,s.heap.get? b=some u→h'.get? b=some u):Inv X pins σ H { s with heap:=h',toks:=t' }:=I.un (Un.kept k) (I.hok.kept k)
theorem Inv.laid {a:Addr}{o:HO}{t':Nat} (I:Inv X pins σ H s) (k:∀ b u,s.heap.get? b=some u→h'.get? b=some u) (hp:s.heap.objs.size≤a) (new:ObjOk X.prog X.w (upd H a o) h' a o) :
  Inv X pins σ (upd H a o) { s with heap:=h',toks:=t' }:=I.un (Un.laid k hp (I.hok.fresh hp)) (I.hok.laid k hp new)
theorem Inv.write {x e:Addr}{o:HO}{t':Nat} (I:Inv X pins σ H s) (mu:Mut (H x)) (he:e=x∨H e=some (.own x)) (k:∀ b u,b≠e→s.heap.get? b=some u→h'.get? b=some u) (heo:∃ u,h'.get? e=some u)
  (new:ObjOk X.prog X.w (upd H x o) h' x o):Inv X pins σ (upd H x o) { s with heap:=h',toks:=t' }:=I.un (Un.write mu he k heo) (I.hok.write mu he k heo new)
theorem Inv.pins_of {pins':List (Addr×Obj)} (I:Inv X pins σ H s) (h:∀ p∈pins',s.heap.get? p.1=some p.2∧H p.1=none∧p.1≠X.env.locals∧p.1∉X.fs∧∀ v,p.2.data≠.cell v):Inv X pins' σ H s :=
 ⟨I.ok,I.os,I.bare,I.base,I.loc,I.cell,I.free,I.freeC,fun p hp=>(List.mem_append.mp hp).elim (fun z=>I.pin p (List.mem_append_left _ z)) (h p),I.hok,I.len⟩
theorem qjk {N:List Str} (hN:N.Nodup) {i j:Nat}{x:Str} (a:N[i]?=some x) (b:N[j]?=some x):i=j:=by
 obtain ⟨h1,e1⟩:=List.getElem?_eq_some_iff.mp a
 obtain ⟨h2,e2⟩:=List.getElem?_eq_some_iff.mp b
 exact (List.getElem_inj hN).mp (e1.trans e2.symm)
theorem qhb {M:Model}{A:Around}{E:Value→Shared→Prop}{i:Nat}{x:Str}{v:V}{u:Value}{Q:Unit→Shared→Prop} (I:Inv X pins σ H s) (hN:X.N.Nodup) (hi:X.N[i]?=some x) (hx:Loc X.env.scope x) (r:RelV v u)
  (h:∀ s',Inv X pins (σ.set i (some v)) H s'→(∃ a,Heap.SameBut a s.heap s'.heap∧(a=X.env.locals∨X.env.cells.lookup x=some a))→Q () s') (hf:X.fn x=true∨X.env.scope.names.lookup x=some .local:=by first | exact .inl rfl | exact .inr rfl | assumption):wpAny M A (storeName X.env x u) Q E s:=by
 obtain ⟨m,hn,hl⟩:=id I.loc
 have hcls:(X.env.scope.kind == .class || (X.env.scope.kind == .module && X.env.locals != X.env.globals))=false:=by rw [I.ok.kind];rfl
 have hiσ:i < σ.length:=by rw [I.len];exact (List.getElem?_eq_some_iff.mp hi).1
 have cne:=I.cne
 have tracked:∀ {a:Addr}{h':Heap},(∃ o,s.heap.get? a=some o∧H a=none)→Heap.SameBut a s.heap h'→HOk X.prog X.w H h':=fun {a h'} ha hs b ob e=>by
  obtain ⟨_,_,hfree⟩:=ha
  refine (I.hok b ob e).stay (fun c w' hc q=>(hs.2 c ?_).trans q) (fun _ q=>q) fun _ _ q=>q
  rintro rfl
  rcases hc with rfl | hc
  ·rw [hfree] at e;cases e
  ·rw [hfree] at hc;cases hc
 rcases hx with hk | hk
 ·refine wpAny_storeName_local hk hn (fun h' hn' hs=>?_) hcls
  obtain ⟨oL,_,_,hoL,_⟩:=id hn
  refine h _ ⟨I.ok,I.os,I.bare,⟨fun b o e n hb hx=>?_,fun b o e n hb hx=>?_,I.base.free,fun b o e hx=>?_,I.base.tups,I.base.frzs,I.base.tbls⟩,⟨_,hn',fun j y v' e1 e2 e3=>?_⟩,fun y c e=>?_,I.free,I.freeC,fun p hp=>?_,tracked ⟨oL,hoL,I.free⟩ hs,by simpa using I.len⟩ ⟨_,hs,.inl rfl⟩
  ·exact (hs.2 b (Nat.ne_of_lt (Nat.lt_of_lt_of_le (Heap.lt_size e) I.ok.above))).trans (I.base.keep b o e n hb hx)
  ·obtain ⟨sl,e1⟩:=I.base.slot b o e n hb hx
   exact ⟨sl,(hs.2 b (Nat.ne_of_lt (Nat.lt_of_lt_of_le (Heap.lt_size e) I.ok.above))).trans e1⟩
  ·obtain ⟨o',e1⟩:=I.base.there b o e hx
   exact ⟨o',(hs.2 b (Nat.ne_of_lt (Nat.lt_of_lt_of_le (Heap.lt_size e) I.ok.above))).trans e1⟩
  ·by_cases hj:j=i
   ·subst hj
    rw [hi] at e1;cases e1
    rw [List.getElem?_set_self hiσ] at e2
    cases e2
    exact ⟨u,r,.inl ⟨hk,by simp⟩⟩
   ·rw [List.getElem?_set_ne (Ne.symm hj)] at e2
    obtain ⟨u',r',q⟩:=hl j y v' e1 e2 e3
    refine ⟨u',r',?_⟩
    rcases q with ⟨k,e⟩ | ⟨k,c,e,z⟩
    ·refine .inl ⟨k,?_⟩
     have:y≠x:=fun e=>hj (qjk hN e1 (e ▸ hi))
     simp [this,e]
    ·exact .inr ⟨k,c,e,z.sameBut hs (cne y c e)⟩
  ·obtain ⟨w',z⟩:=I.cell y c e
   exact ⟨w',z.sameBut hs (cne y c e)⟩
  ·obtain ⟨e,n,ne,nf,d⟩:=I.pin p hp
   exact ⟨(hs.2 p.1 ne).trans e,n,ne,nf,d⟩
 ·have hfn:X.fn x=true:=by
   rcases hf with z | z
   ·exact z
   ·rw [z] at hk;cases hk
  obtain ⟨c,hc⟩:=I.ok.has x (.inl hk)
  obtain ⟨w',z⟩:=I.cell x c hc
  refine wpAny_storeName_cell I.ok.kind hk hc z (fun h' hc' hs=>?_)
  obtain ⟨oc,hoc,hocd⟩:=id z
  refine h { s with heap:=h' } ⟨I.ok,I.os,I.bare,⟨fun b o e n hb hx=>?_,fun b o e n hb hx=>?_,I.base.free,fun b o e hx=>?_,I.base.tups,I.base.frzs,I.base.tbls⟩,⟨m,hn.sameBut hs (Ne.symm (cne x c hc)),fun j y v' e1 e2 e3=>?_⟩,fun y c' e=>?_,I.free,I.freeC,fun p hp=>?_,tracked ⟨oc,hoc,I.freeC x c hc⟩ hs,by simpa using I.len⟩ ⟨c,hs,.inr hc⟩
  ·exact (hs.2 b (Nat.ne_of_lt (Nat.lt_of_lt_of_le (Heap.lt_size e) (I.ok.cab x c hfn hc)))).trans (I.base.keep b o e n hb hx)
  ·obtain ⟨sl,e1⟩:=I.base.slot b o e n hb hx
   exact ⟨sl,(hs.2 b (Nat.ne_of_lt (Nat.lt_of_lt_of_le (Heap.lt_size e) (I.ok.cab x c hfn hc)))).trans e1⟩
  ·obtain ⟨o',e1⟩:=I.base.there b o e hx
   exact ⟨o',(hs.2 b (Nat.ne_of_lt (Nat.lt_of_lt_of_le (Heap.lt_size e) (I.ok.cab x c hfn hc)))).trans e1⟩
  ·by_cases hj:j=i
   ·subst hj
    rw [hi] at e1;cases e1
    rw [List.getElem?_set_self hiσ] at e2
    cases e2
    exact ⟨u,r,.inr ⟨.inl hk,c,hc,hc'⟩⟩
   ·rw [List.getElem?_set_ne (Ne.symm hj)] at e2
    obtain ⟨u',r',q⟩:=hl j y v' e1 e2 e3
    refine ⟨u',r',?_⟩
    rcases q with q | ⟨k,c',e,z'⟩
    ·exact .inl q
    ·refine .inr ⟨k,c',e,z'.sameBut hs ?_⟩
     rintro rfl
     exact hj (qjk hN e1 (I.ok.inj _ _ _ e hc ▸ hi))
  ·by_cases hcc:c'=c
   ·subst hcc;exact ⟨_,hc'⟩
   ·obtain ⟨w2,z2⟩:=I.cell y c' e
    exact ⟨w2,z2.sameBut hs hcc⟩
  ·obtain ⟨e,n,ne,nf,d⟩:=I.pin p hp
   refine ⟨(hs.2 p.1 ?_).trans e,n,ne,nf,d⟩
   intro q
   rw [q,hoc] at e
   have q':oc=p.2:=Option.some.inj e
   exact d w' (by rw [← q'];exact hocd)
theorem qfd {M:Model}{A:Around}{E:Value→Shared→Prop}{i:Nat}{x:Str}{v:V}{u:Value}{Q:Unit→Shared→Prop} (I:Inv X pins σ H s) (hN:X.N.Nodup) (hi:X.N[i]?=some x) (hx:Loc X.env.scope x) (r:RelV v u)
  (h:∀ s',Inv X pins (σ.set i (some v)) H s'→Q () s') (hf:X.fn x=true∨X.env.scope.names.lookup x=some .local:=by first | exact .inl rfl | exact .inr rfl | assumption):wpAny M A (storeName X.env x u) Q E s :=
 qhb I hN hi hx r (fun s' I' _=>h s' I') hf
theorem Inv.call' {s':Shared}{ch:List Addr} (I:Inv X pins σ H s) (ho:s'.os=s.os) (u:Un (frs X.stack) ch H H' s.heap s'.heap) (hok:HOk X.prog X.w H' s'.heap) (hg:AllBare s'.gens)
  (hch:∀ b∈ch,(b∈X.ex∨X.s₀.heap.objs.size≤b)∧b≠X.env.locals∧(∀ x c,X.env.cells.lookup x=some c→c≠b)∧∀ p∈X.pn++pins,p.1≠b):Inv X pins σ H' s':=by
 obtain ⟨h',g',d',t',o'⟩:=s'
 have e:o'=s.os:=ho
 subst e
 exact I.call (g':=g') (t':=t') (d':=d') u hok hg hch
end
abbrev XK:=Value→Option Addr→Hp→Prop
abbrev St:=List (Option V)
abbrev VK:=V→Hp→Prop
abbrev TE:=St→Hp→VK→Prop
abbrev TT:=St→Hp→(Bool→Hp→Prop)→Prop
abbrev TA:=St→Hp→(List V→Hp→Prop)→Prop
structure Ends where
 nx:St→Hp→Prop
 rt:VK
 bk:St→Hp→Prop:=fun _ _=>False
 ct:St→Hp→Prop:=fun _ _=>False
abbrev TS:=Ends→St→Hp→Prop
def EP (X:Cx) (pins:List (Addr×Obj)) (σ:St) (Q:VK) (u:Value) (s':Shared):Prop:=∃ v H',Inv X pins σ H' s'∧RelV v u∧Q v H'
def TP (X:Cx) (pins:List (Addr×Obj)) (σ:St) (Q:Bool→Hp→Prop) (b:Bool) (s':Shared):Prop:=∃ H',Inv X pins σ H' s'∧Q b H'
def AP (X:Cx) (pins:List (Addr×Obj)) (σ:St) (Q:List V→Hp→Prop) (us:List Value) (s':Shared):Prop:=∃ vs H',Inv X pins σ H' s'∧Vals vs us∧Q vs H'
def SP (X:Cx) (pins:List (Addr×Obj)) (D:Ends) (f:Flow) (s':Shared):Prop :=
 match f with
 | .next=>∃ σ' H',Inv X pins σ' H' s'∧D.nx σ' H'
 | .brk=>∃ σ' H',Inv X pins σ' H' s'∧D.bk σ' H'
 | .cont=>∃ σ' H',Inv X pins σ' H' s'∧D.ct σ' H'
 | .ret u=>∃ v σ' H',Inv X pins σ' H' s'∧RelV v u∧D.rt v H'
def PE (X:Cx) (e:Expr) (t:TE):Prop :=
 ∀ (pins:List (Addr×Obj)) (s:Shared) (σ:St) (H:Hp) (Q:VK),Inv X pins σ H s→t σ H Q→wpAny (model X.prog X.w) X.A (eval e X.env) (EP X pins σ Q) X.xe s
def PT (X:Cx) (e:Expr) (t:TT):Prop :=
 ∀ (pins:List (Addr×Obj)) (s:Shared) (σ:St) (H:Hp) (Q:Bool→Hp→Prop),Inv X pins σ H s→t σ H Q→wpAny (model X.prog X.w) X.A (isTrue e X.env (eval e X.env)) (TP X pins σ Q) X.xe s
def PW (X:Cx) (e:Expr) (t:TT):Prop :=
 ∀ (whole:Sem Value) (pins:List (Addr×Obj)) (s:Shared) (σ:St) (H:Hp) (Q:Bool→Hp→Prop),Inv X pins σ H s→t σ H Q→wpAny (model X.prog X.w) X.A (isTrue e X.env whole) (TP X pins σ Q) X.xe s
theorem PW.pt {X:Cx}{e:Expr}{t:TT} (h:PW X e t):PT X e t:=h _
def PA (X:Cx) (es:List Expr) (t:TA):Prop :=
 ∀ (pos:Pos) (pins:List (Addr×Obj)) (s:Shared) (σ:St) (H:Hp) (Q:List V→Hp→Prop),Inv X pins σ H s→t σ H Q→wpAny (model X.prog X.w) X.A (spliced (backTo pos (starEach es X.env))) (AP X pins σ Q) X.xe s
def PS (X:Cx) (st:Stmt) (t:TS):Prop :=
 ∀ (pins:List (Addr×Obj)) (s:Shared) (σ:St) (H:Hp) (D:Ends),Inv X pins σ H s→t D σ H→wpAny (model X.prog X.w) X.A (exec st X.env) (SP X pins D) X.xe s
def PSs (X:Cx) (st:List Stmt) (t:TS):Prop :=
 ∀ (pins:List (Addr×Obj)) (s:Shared) (σ:St) (H:Hp) (D:Ends),Inv X pins σ H s→t D σ H→wpAny (model X.prog X.w) X.A (execs st X.env) (SP X pins D) X.xe s
theorem thn {α:Type}{t:Sem α}{Q Q':α→Shared→Prop}{M:Model}{A:Around}{E:Value→Shared→Prop}{s:Shared} (h:wpAny M A t Q E s) (hQ:∀ a s,Q a s→Q' a s):wpAny M A t Q' E s:=wpAny_mono h hQ fun _ _ x=>x
end L2
namespace L2
open PySem PySem.Spec PyProof.Rows
section
variable {X:Cx}
def tVar (i:Nat):TE:=fun σ H Q=>∃ v,σ[i]?=some (some v)∧Q v H
def tC (v:V):TE:=fun _ H Q=>Q v H
theorem pe_var {i:Nat}{x:Str}{pos:Pos} (hN:X.N[i]?=some x) (hv:Vis X.env.scope x) (hd:(x == ("__debug__":Str))=false:=by decide) (hcd:(x == ("__classdict__":Str))=false:=by decide):PE X (.Name x pos) (tVar i):=by
 intro pins s σ H Q I h
 obtain ⟨v,e,h⟩:=h
 obtain ⟨m,hn,hl⟩:=I.loc
 obtain ⟨u,r,l⟩:=hl i x v hN e hv
 have fin:EP X pins σ Q u s:=⟨v,H,I,r,h⟩
 rcases l with ⟨hk,hm⟩ | ⟨hk,c,hc,hcell⟩
 ·exact wpAny_Name (wpAny_loadName_local I.ok.kind hk hn hm fin) hd
 ·rcases hk with hk | hk
  ·exact wpAny_Name (wpAny_loadName_cell I.ok.kind hk hc hcell fin) hd
  ·exact wpAny_Name (wpAny_loadName_free I.ok.kind hk hc hcell fin hcd) hd
theorem qac {i j pos}:PE X (.Constant (.int i) j pos) (tC (.int i)):=fun _ _ _ H _ I h=>wpAny_Constant_int ⟨.int i,H,I.tok _,⟨_,rfl⟩,h⟩
theorem qhl {b j pos}:PE X (.Constant (.bool b) j pos) (tC (.bl b)):=fun _ _ _ H _ I h=>Constant_bool ⟨.bl b,H,I,rfl,h⟩
theorem pe_non {j pos}:PE X (.Constant .none j pos) (tC .non):=fun _ _ _ H _ I h=>Constant_none ⟨.non,H,I,rfl,h⟩
theorem qa5 {x j pos}:PE X (.Constant (.str x) j pos) (tC (.str x)):=fun _ _ _ H _ I h=>Calls.Constant_str ⟨.str x,H,I.tok _,⟨_,rfl⟩,h⟩
def Gl (X:Cx) (x:Str):Prop:=X.env.kindOf x=some .globalImplicit
theorem qgo {E:Value→Shared→Prop}{pins:List (Addr×Obj)}{s:Shared}{σ:St}{H:Hp}{x:Str}{u:Value}{pos:Pos}{Q:Value→Shared→Prop} (I:Inv X pins σ H s) (hg:Gl X x) (hm:X.mg x=some u) (h:Q u s)
  (hd:(x == ("__debug__":Str))=false:=by decide):wpAny (model X.prog X.w) X.A (eval (.Name x pos) X.env) Q E s :=
 Calls.Name_function_global I.ok.kind hg (Calls.loadGlobal_global (by rw [I.ok.glob];exact I.mod.glob.keeps I.bk) hm h) hd
theorem qmb {E:Value→Shared→Prop}{pins:List (Addr×Obj)}{s:Shared}{σ:St}{H:Hp}{x:Str}{u:Value}{pos:Pos}{Q:Value→Shared→Prop} (I:Inv X pins σ H s) (hg:Gl X x) (hm:X.mg x=none) (hv:bootBuiltins x=some u) (h:Q u s)
  (hn:x≠"__name__":=by decide) (hd:(x == ("__debug__":Str))=false:=by decide):wpAny (model X.prog X.w) X.A (eval (.Name x pos) X.env) Q E s:=by
 obtain ⟨mb,h1,h2⟩:=I.mod.blt
 exact Calls.Name_function_global I.ok.kind hg (Calls.loadGlobal_builtin (by rw [I.ok.glob];exact I.mod.glob.keeps I.bk) hm (by rw [I.ok.blt];exact h1.keeps I.bk) ((h2 x hn).trans hv) h) hd
theorem qb6 {x:Str}{v:V}{u:Value}{pos:Pos} (hg:Gl X x) (hm:X.mg x=some u) (r:RelV v u) (hd:(x == ("__debug__":Str))=false:=by decide):PE X (.Name x pos) (tC v) :=
 fun _ _ _ H _ I h=>qgo I hg hm ⟨v,H,I,r,h⟩ hd
theorem pe_bltn {x:Str}{v:V}{u:Value}{pos:Pos} (hg:Gl X x) (hm:X.mg x=none) (hv:bootBuiltins x=some u) (r:RelV v u) (hn:x≠"__name__":=by decide) (hd:(x == ("__debug__":Str))=false:=by decide):PE X (.Name x pos) (tC v) :=
 fun _ _ _ H _ I h=>qmb I hg hm hv ⟨v,H,I,r,h⟩ hn hd
variable {a b:Expr}{ta tb:TE}{pos:Pos}
def PC (X:Cx) (op:CmpOp) (a b:Expr) (t:TE):Prop :=
 ∀ (pins:List (Addr×Obj)) (s:Shared) (σ:St) (H:Hp) (Q:VK),Inv X pins σ H s→t σ H Q →
  wpAny (model X.prog X.w) X.A (eval a X.env) (fun v s₁=>wpAny (model X.prog X.w) X.A (eval b X.env) (fun u s₂=>wpAny (model X.prog X.w) X.A (compareOp op v u) (EP X pins σ Q) X.xe s₂) X.xe s₁) X.xe s
theorem ql7 (b:Expr) {op:CmpOp} (h:op≠.In) (h2:op≠.NotIn):behindInMarks op b=false:=by
 have e1:(op == CmpOp.In)=false:=by cases op <;> first | rfl | exact absurd rfl h
 have e2:(op == CmpOp.NotIn)=false:=by cases op <;> first | rfl | exact absurd rfl h2
 cases b <;> simp [behindInMarks,e1,e2]
def tB (t:TE):TT:=fun σ H Q=>t σ H fun x H1=>∃ c,x=.bl c∧Q c H1
theorem pe_cmp {op:CmpOp}{t:TE} (h:PC X op a b t) (h1:behindInMarks op b=false:=by first | exact ql7 _ (by decide) (by decide) | rfl):PE X (.Compare a [op] [b] pos) t:=fun pins s σ H Q I hw=>wpAny_Compare1 (h pins s σ H Q I hw) h1
theorem qj9 {op:CmpOp}{t:TE} (h:PC X op a b t) (h1:behindInMarks op b=false:=by first | exact ql7 _ (by decide) (by decide) | rfl):PT X (.Compare a [op] [b] pos) (tB t):=by
 intro pins s σ H Q I hw
 refine wpAny_isTrue_Compare1 (thn (h pins s σ H _ I hw) fun v s1 h1=>thn h1 fun u s2 h2=>thn h2 fun c s3 ⟨x,H1,I1,r1,q1⟩=>?_) h1
 obtain ⟨d,rfl,q⟩:=q1
 cases r1
 exact wpAny_truthy_bool ⟨H1,I1,q⟩
theorem qc3 {e:Expr}{t:TE} (h:PE X e t) (he:∀ whole,isTrue e X.env whole=(do let v ← whole;standAt e.pos;holding [v] (truthy v)):=by intro _;rfl):PT X e (tB t):=by
 intro pins s σ H Q I hw
 refine isTrue_plain (thn (h pins s σ H _ I hw) fun v s1 ⟨x,H1,I1,r1,q1⟩=>?_) (he _)
 obtain ⟨d,rfl,q⟩:=q1
 cases r1
 exact wpAny_truthy_bool ⟨H1,I1,q⟩
variable {tA tB':TT}{rest:List Expr}
def tAnd (t u:TT):TT:=fun σ H Q=>t σ H fun c H1=>if c=true then u σ H1 Q else Q false H1
def tOr (t u:TT):TT:=fun σ H Q=>t σ H fun c H1=>if c=true then Q true H1 else u σ H1 Q
def tNot (t:TT):TT:=fun σ H Q=>t σ H fun c H1=>Q (!c) H1
theorem qgm (ha:PT X a tA):PW X (.BoolOp .And [a] pos) tA:=by
 intro wh pins s σ H Q I h
 refine isTrue_and (thn (ha pins s σ H Q I h) fun c s1 e=>?_)
 cases c with
 | true=>exact isTrue_and_nil e
 | false=>exact e
theorem qe2 (ha:PT X a tA):PW X (.BoolOp .Or [a] pos) tA:=by
 intro wh pins s σ H Q I h
 refine isTrue_or (thn (ha pins s σ H Q I h) fun c s1 e=>?_)
 cases c with
 | false=>exact isTrue_or_nil e
 | true=>exact e
theorem qig (ha:PT X a tA) (hb:PW X (.BoolOp .And (b::rest) pos) tB'):PW X (.BoolOp .And (a::b::rest) pos) (tAnd tA tB'):=by
 intro wh pins s σ H Q I h
 refine isTrue_and (thn (ha pins s σ H _ I h) fun c s1 ⟨H1,I1,q1⟩=>?_)
 cases c with
 | true=>exact hb wh pins s1 σ H1 Q I1 q1
 | false=>exact ⟨H1,I1,q1⟩
theorem qhi (ha:PT X a tA) (hb:PW X (.BoolOp .Or (b::rest) pos) tB'):PW X (.BoolOp .Or (a::b::rest) pos) (tOr tA tB'):=by
 intro wh pins s σ H Q I h
 refine isTrue_or (thn (ha pins s σ H _ I h) fun c s1 ⟨H1,I1,q1⟩=>?_)
 cases c with
 | true=>exact ⟨H1,I1,q1⟩
 | false=>exact hb wh pins s1 σ H1 Q I1 q1
theorem qd5 (ha:PT X a tA):PT X (.UnaryOp .Not a pos) (tNot tA):=by
 intro pins s σ H Q I h
 exact isTrue_not (ha pins s σ H (fun c H1=>Q (!c) H1) I h)
def tAndV (ta tb:TE):TE:=fun σ H Q=>ta σ H fun x H1=>∃ c,x=.bl c∧if c=true then tb σ H1 Q else Q (.bl false) H1
def tOrV (ta tb:TE):TE:=fun σ H Q=>ta σ H fun x H1=>∃ c,x=.bl c∧if c=true then Q (.bl true) H1 else tb σ H1 Q
theorem qij {op}{t:TE} (h:PE X a t):PE X (.BoolOp op [a] pos) t:=fun pins s σ H Q I hw=>BoolOp_one (h pins s σ H Q I hw)
theorem qkd (ha:PE X a ta) (hb:PE X (.BoolOp .And (b::rest) pos) tb):PE X (.BoolOp .And (a::b::rest) pos) (tAndV ta tb):=by
 intro pins s σ H Q I h
 refine BoolOp_and (thn (ha pins s σ H _ I h) fun v s1 ⟨x,H1,I1,r1,q1⟩=>?_)
 obtain ⟨c,rfl,q1⟩:=q1
 cases r1
 refine wpAny_truthy_bool ?_
 cases c with
 | true=>exact hb pins s1 σ H1 Q I1 q1
 | false=>exact ⟨.bl false,H1,I1,rfl,q1⟩
theorem pe_or (ha:PE X a ta) (hb:PE X (.BoolOp .Or (b::rest) pos) tb):PE X (.BoolOp .Or (a::b::rest) pos) (tOrV ta tb):=by
 intro pins s σ H Q I h
 refine BoolOp_or (thn (ha pins s σ H _ I h) fun v s1 ⟨x,H1,I1,r1,q1⟩=>?_)
 obtain ⟨c,rfl,q1⟩:=q1
 cases r1
 refine wpAny_truthy_bool ?_
 cases c with
 | false=>exact hb pins s1 σ H1 Q I1 q1
 | true=>exact ⟨.bl true,H1,I1,rfl,q1⟩
end
end L2
namespace L2
open PySem PySem.Spec PyProof.Rows
def SqL (K:PySem.W.Frag) (H:Hp) (a:Addr) (xs:List V):Prop :=
 Rd H a (.lst xs) ∨
  ∃ (o:Obj) (its:Array Value) (n:Nat),K.lookup a=some o∧o.cls=.type "list"∧o.dict=none∧o.data=.seq its n∧its.size≤sizeLine∧Vals xs its.toList
def SqT (K:PySem.W.Frag) (H:Hp) (a:Addr) (xs:List V):Prop :=
 Rd H a (.tup xs) ∨
  ∃ (o:Obj) (its:Array Value) (n:Nat),K.lookup a=some o∧o.cls=.type "tuple"∧o.data=.seq its n∧its.size≤sizeLine∧Vals xs its.toList
def absV:Value→Option V
 | .none=>some .non
 | .bool b=>some (.bl b)
 | .int i _=>some (.int i)
 | .str x _=>some (.str x)
 | .bytes b _=>some (.byt b)
 | .float b _=>some (.flt b)
 | .ref a=>some (.ref a)
 | .type n=>some (.ty n)
 | _=>none
theorem RelV.abs {x:V}{u:Value} (r:RelV x u):absV u=some x:=by
 cases x with
 | non=>cases r;rfl
 | bl _=>cases r;rfl
 | int _=>obtain ⟨t,rfl⟩:=r;rfl
 | str _=>obtain ⟨t,rfl⟩:=r;rfl
 | byt _=>obtain ⟨t,rfl⟩:=r;rfl
 | flt _=>obtain ⟨t,rfl⟩:=r;rfl
 | ref _=>cases r;rfl
 | ty _=>cases r;rfl
theorem RelV.inj {x y:V}{u:Value} (r:RelV x u) (q:RelV y u):x=y:=Option.some.inj (r.abs.symm.trans q.abs)
theorem Vals.inj:∀ {xs ys:List V}{us:List Value},Vals xs us→Vals ys us→xs=ys
 | _,_,_,.nil,.nil=>rfl
 | _,_,_,.cons r t,.cons r' t'=>by rw [r.inj r',Vals.inj t t']
section
variable {X:Cx}{pins:List (Addr×Obj)}{σ:St}{H:Hp}{s:Shared}{a:Addr}{xs ys:List V}
theorem SqL.of {K:PySem.W.Frag} (h:H a=some (.lst xs)):SqL K H a xs:=.inl (.inl h)
theorem SqT.of {K:PySem.W.Frag} (h:H a=some (.tup xs)):SqT K H a xs:=.inl (.inl h)
theorem Inv.list (I:Inv X pins σ H s) (h:SqL X.K H a xs):∃ its:List Value,Vals xs its∧PlainL s.heap a its.toArray∧xs.length≤sizeLine:=by
 rcases h with h | ⟨o,its,n,hk,hc,hd,hs,hz,r⟩
 ·obtain ⟨z,its,n,r,e⟩:=h.ok I.hok
  exact ⟨its,r,⟨_,n,e,rfl,rfl,rfl⟩,z⟩
 ·refine ⟨its.toList,r,⟨o,n,I.kIn a o hk,hc,hd,by simpa using hs⟩,?_⟩
  have e:=r.length
  simp only [Array.length_toList] at e
  omega
theorem Inv.tuple (I:Inv X pins σ H s) (h:SqT X.K H a xs):∃ its:List Value,Vals xs its∧IsTup s.heap a its.toArray∧xs.length≤sizeLine:=by
 rcases h with h | ⟨o,its,n,hk,hc,hs,hz,r⟩
 ·obtain ⟨z,its,r,p⟩:=h.ok I.hok
  exact ⟨its,r,p,z⟩
 ·refine ⟨its.toList,r,⟨o,I.kIn a o hk,hc,n,by simpa using hs⟩,?_⟩
  have e:=r.length
  simp only [Array.length_toList] at e
  omega
theorem Inv.list_inj (I:Inv X pins σ H s) (h:SqL X.K H a xs) (h':SqL X.K H a ys):xs=ys:=by
 obtain ⟨its,r,⟨o,n,e,_,_,d⟩,_⟩:=I.list h
 obtain ⟨its',r',⟨o',n',e',_,_,d'⟩,_⟩:=I.list h'
 rw [e] at e';cases e'
 rw [d] at d'
 injection d' with d1 _
 have:its=its':=by simpa using congrArg Array.toList d1
 subst this
 exact r.inj r'
theorem Inv.tuple_inj (I:Inv X pins σ H s) (h:SqT X.K H a xs) (h':SqT X.K H a ys):xs=ys:=by
 obtain ⟨its,r,⟨o,e,_,n,d⟩,_⟩:=I.tuple h
 obtain ⟨its',r',⟨o',e',_,n',d'⟩,_⟩:=I.tuple h'
 rw [e] at e';cases e'
 rw [d] at d'
 injection d' with d1 _
 have:its=its':=by simpa using congrArg Array.toList d1
 subst this
 exact r.inj r'
end
abbrev Cx.wish (X:Cx) (E:Value→Shared→Prop):Cx:={ X with xe:=E }
abbrev Cx.nox (X:Cx):Cx:=X.wish fun _ _=>False
theorem Cx.Ok.wish {X:Cx} (ok:X.Ok) (E:Value→Shared→Prop):(X.wish E).Ok :=
 ⟨ok.mod,ok.kind,ok.glob,ok.blt,ok.above,ok.inj,ok.has,ok.cab,ok.hd,ok.frames,ok.stk,ok.exf,ok.bs,ok.bsz,ok.noex,ok.exfs,ok.funs,ok.frf⟩
theorem Cx.Ok.unwish {X:Cx}{E:Value→Shared→Prop} (ok:(X.wish E).Ok):X.Ok :=
 ⟨ok.mod,ok.kind,ok.glob,ok.blt,ok.above,ok.inj,ok.has,ok.cab,ok.hd,ok.frames,ok.stk,ok.exf,ok.bs,ok.bsz,ok.noex,ok.exfs,ok.funs,ok.frf⟩
section
variable {X:Cx}{pins:List (Addr×Obj)}{σ:St}{H:Hp}{s:Shared}{E:Value→Shared→Prop}
theorem Inv.wish (I:Inv X pins σ H s) (E:Value→Shared→Prop):Inv (X.wish E) pins σ H s:=⟨I.ok.wish E,I.os,I.bare,I.base,I.loc,I.cell,I.free,I.freeC,I.pin,I.hok,I.len⟩
theorem Inv.unwish (I:Inv (X.wish E) pins σ H s):Inv X pins σ H s:=⟨I.ok.unwish,I.os,I.bare,I.base,I.loc,I.cell,I.free,I.freeC,I.pin,I.hok,I.len⟩
theorem SP.unwish {D:Ends}{f:Flow}{s':Shared} (h:SP (X.wish E) pins D f s'):SP X pins D f s':=by
 cases f with
 | next=>obtain ⟨σ',H',I,q⟩:=h;exact ⟨σ',H',I.unwish,q⟩
 | brk=>obtain ⟨σ',H',I,q⟩:=h;exact ⟨σ',H',I.unwish,q⟩
 | cont=>obtain ⟨σ',H',I,q⟩:=h;exact ⟨σ',H',I.unwish,q⟩
 | ret u=>obtain ⟨v,σ',H',I,r,q⟩:=h;exact ⟨v,σ',H',I.unwish,r,q⟩
theorem PSs.nox {st:List Stmt}{t:TS} (h:PSs X.nox st t):PSs X st t:=fun pins s σ H D I hw =>
 wpAny_mono (h pins s σ H D (I.wish _) hw) (fun _ _ q=>q.unwish) fun _ _ z=>False.elim z
end
section
variable {X:Cx}{st:Stmt}{rest:List Stmt}{t u:TS}{e:Expr}{te:TE}{pos:Pos}
def tNext:TS:=fun D σ H=>D.nx σ H
def tSeq (t u:TS):TS:=fun D σ H=>t { D with nx:=u D } σ H
theorem qax:PSs X [] tNext:=fun _ _ σ H _ I h=>wpAny_execs_nil ⟨σ,H,I,h⟩
theorem qaf (h1:PS X st t) (h2:PSs X rest u):PSs X (st::rest) (tSeq t u):=by
 intro pins s σ H D I h
 refine wpAny_execs_cons (thn (h1 pins s σ H { D with nx:=u D } I h) fun f s1 q=>?_)
 cases f with
 | next =>
  obtain ⟨σ',H',I',q⟩:=q
  exact h2 pins s1 σ' H' D I' q
 | ret v=>exact q
 | brk=>exact q
 | cont=>exact q
theorem qak (h1:PS X st t):PSs X [st] t:=by
 intro pins s σ H D I h
 refine wpAny_execs_cons (thn (h1 pins s σ H D I h) fun f s1 q=>?_)
 cases f with
 | next=>exact wpAny_execs_nil q
 | ret v=>exact q
 | brk=>exact q
 | cont=>exact q
theorem Inv.quiet {pins:List (Addr×Obj)}{σ:St}{H:Hp}{s:Shared} (I:Inv X pins σ H s):interactive X.env=false:=by simp [interactive,I.ok.kind]
def tDrop (te:TE):TS:=fun D σ H=>te σ H fun _ H1=>D.nx σ H1
theorem qbw (he:PE X e te) (hs:swapsWith e none pos.line X.env=pure false:=by rfl):PS X (.Expr e pos) (tDrop te):=by
 intro pins s σ H D I h
 exact wpAny_Expr_any (thn (he pins s σ H _ I h) fun v s1 ⟨x,H1,I1,r1,q1⟩=>⟨σ,H1,I1,q1⟩) I.quiet hs
def tRet (te:TE):TS:=fun D σ H=>te σ H D.rt
theorem qav (he:PE X e te):PS X (.Return (some e) pos) (tRet te):=by
 intro pins s σ H D I h
 exact wpAny_Return_some (thn (he pins s σ H _ I h) fun v s1 ⟨x,H1,I1,r1,q1⟩=>⟨x,σ,H1,I1,r1,q1⟩)
def tIfS (c:TT) (t u:TS):TS:=fun D σ H=>c σ H fun b H1=>if b=true then t D σ H1 else u D σ H1
theorem qbi {c:Expr}{a b:List Stmt}{tc:TT} (hc:PT X c tc) (ha:PSs X a t) (hb:PSs X b u):PS X (.If c a b pos) (tIfS tc t u):=by
 intro pins s σ H D I h
 refine wpAny_If (thn (hc pins s σ H _ I h) fun d s1 ⟨H1,I1,q1⟩=>?_)
 cases d with
 | true=>exact ha pins s1 σ H1 D I1 q1
 | false=>exact hb pins s1 σ H1 D I1 q1
end
abbrev TG:=V→St→Hp→(St→Hp→Prop)→Prop
abbrev TGs:=List V→St→Hp→(St→Hp→Prop)→Prop
def PG (X:Cx) (target:Expr) (t:TG):Prop :=
 ∀ (pins:List (Addr×Obj)) (s:Shared) (σ:St) (H:Hp) (v:V) (u:Value) (Q:St→Hp→Prop),Inv X pins σ H s→RelV v u→t v σ H Q →
  wpAny (model X.prog X.w) X.A (assign target X.env u) (fun _ s'=>∃ σ' H',Inv X pins σ' H' s'∧Q σ' H') X.xe s
def PGs (X:Cx) (ts:List Expr) (t:TGs):Prop :=
 ∀ (pins:List (Addr×Obj)) (s:Shared) (σ:St) (H:Hp) (vs:List V) (us:List Value) (Q:St→Hp→Prop),Inv X pins σ H s→Vals vs us→t vs σ H Q →
  wpAny (model X.prog X.w) X.A (assignInOrder ((assignEach ts X.env).map (·.2)) us) (fun _ s'=>∃ σ' H',Inv X pins σ' H' s'∧Q σ' H') X.xe s
abbrev TSet:=V→V→V→Hp→(Hp→Prop)→Prop
def PSet (X:Cx) (t:TSet):Prop :=
 ∀ (pins:List (Addr×Obj)) (s:Shared) (σ:St) (H:Hp) (o i v:V) (ov iv u:Value) (Q:Hp→Prop),Inv X pins σ H s→RelV o ov→RelV i iv→RelV v u→t o i v H Q →
  wpAny (model X.prog X.w) X.A (setItem ov iv u) (fun _ s'=>∃ H',Inv X pins σ H' s'∧Q H') X.xe s
section
variable {X:Cx}{pos:Pos}
def qft (i:Nat):TG:=fun v σ H Q=>Q (σ.set i (some v)) H
theorem qbe {i:Nat}{x:Str} (hN:X.N.Nodup) (hi:X.N[i]?=some x) (hx:Loc X.env.scope x) (hf:X.fn x=true∨X.env.scope.names.lookup x=some .local:=by first | exact .inl rfl | exact .inr rfl | assumption):PG X (.Name x pos) (qft i):=by
 intro pins s σ H v u Q I r h
 exact wpAny_assign_Name (qfd I hN hi hx r (fun s' I'=>⟨_,H,I',h⟩) hf)
def gNil:TGs:=fun vs σ H Q=>vs=[]∧Q σ H
def gCons (t:TG) (u:TGs):TGs:=fun vs σ H Q=>∃ v r,vs=v::r∧t v σ H fun σ' H'=>u r σ' H' Q
theorem qeo:PGs X [] gNil:=by
 intro pins s σ H vs us Q I r h
 obtain ⟨e,h⟩:=h
 subst e
 cases r
 exact assignInOrder_nil ⟨σ,H,I,h⟩
theorem qbm {e:Expr}{es:List Expr}{t:TG}{u:TGs} (h1:PG X e t) (h2:PGs X es u)
  (hs:(assignEach (e::es) X.env).map (·.2)=assign e X.env::(assignEach es X.env).map (·.2):=by rfl):PGs X (e::es) (gCons t u):=by
 intro pins s σ H vs us Q I r h
 obtain ⟨v,vr,e1,h⟩:=h
 subst e1
 cases r with
 | cons r rr =>
  rw [hs]
  refine assignInOrder_cons (thn (h1 pins s σ H _ _ _ I r h) fun _ s1 ⟨σ1,H1,I1,q1⟩=>?_)
  exact h2 pins s1 σ1 H1 _ _ Q I1 rr q1
def gTup (K:PySem.W.Frag) (n:Nat) (t:TGs):TG:=fun v σ H Q=>∃ a xs,v=.ref a∧SqT K H a xs∧xs.length=n∧t xs σ H Q
theorem ql4 {es:List Expr}{k:Nat}{t:TGs}{n:Nat} (hc:X.calm=true) (h:PGs X es t)
  (hn:(assignEach es X.env).length=n:=by rfl) (hst:(assignEach es X.env).findIdx? (·.1)=none:=by rfl):PG X (.Tuple es k pos) (gTup X.K n t):=by
 intro pins s σ H v u Q I r hw
 obtain ⟨a,xs,e1,hq,hl,hw⟩:=hw
 subst e1
 cases r
 obtain ⟨its,rv,ht,hz⟩:=I.tuple hq
 refine assign_Tuple_tuple (I.ok.hd hc) ht (by simp [hn,← hl,rv.length]) hst fun h' hx=>?_
 have I1:Inv X pins σ H { s with heap:=h' }:=I.kept (t':=s.toks) fun b o e=>hx b o (Nat.ne_of_lt (Heap.lt_size e)) e
 exact h pins _ σ H xs _ Q I1 (by simpa using rv) hw
def gSub (to ti:TE) (t:TSet):TG:=fun v σ H Q=>to σ H fun o H1=>ti σ H1 fun i H2=>t o i v H2 fun H3=>Q σ H3
theorem pg_sub {o i:Expr}{to ti:TE}{t:TSet} (ho:PE X o to) (hi:PE X i ti) (hs:PSet X t)
  (ha:∀ v,assign (.Subscript o i pos) X.env v=(do
   let ov ← holding [v] (eval o X.env)
   let iv ← holding [v,ov] (eval i X.env)
   standAt pos
   holding [v,ov,iv] (setItem ov iv v)
   release [v,ov,iv] []):=by intro _;rfl):PG X (.Subscript o i pos) (gSub to ti t):=by
 intro pins s σ H v u Q I r h
 rw [ha]
 refine wpAny_bind (wpAny_holding (thn (ho pins s σ H _ I h) fun ov s1 ⟨x,H1,I1,r1,q1⟩=>?_))
 refine wpAny_bind (wpAny_holding (thn (hi pins s1 σ H1 _ I1 q1) fun iv s2 ⟨y,H2,I2,r2,q2⟩=>?_))
 refine wpAny_bind (wpAny_standAt (wpAny_bind (wpAny_holding (thn (hs pins s2 σ H2 x y v ov iv u _ I2 r1 r2 r q2) fun _ s3 ⟨H3,I3,q3⟩=>?_))))
 exact wpAny_release ⟨σ,H3,I3,q3⟩
def tAsg (te:TE) (g:TG):TS:=fun D σ H=>te σ H fun x H1=>g x σ H1 D.nx
theorem qgr {tg e:Expr}{te:TE}{g:TG} (he:PE X e te) (hg:PG X tg g) (hs:swapsWithSole [tg] e pos.line X.env=pure false:=by rfl) (hw:swappedStores [tg] e X.env=pure none:=by rfl)
  (h1:(assignEach [tg] X.env).map (·.2)=[assign tg X.env]:=by rfl):PS X (.Assign [tg] e pos) (tAsg te g):=by
 intro pins s σ H D I h
 refine wpAny_Assign_stores (thn (he pins s σ H _ I h) fun v s1 ⟨x,H1,I1,r1,q1⟩=>?_) hs hw
 rw [h1]
 exact thn (hg pins s1 σ H1 x v _ I1 r1 q1) fun _ s2 q=>q
theorem qaq {i:Nat}{x:Str}{e:Expr}{te:TE}{pos':Pos} (hN:X.N.Nodup) (hi:X.N[i]?=some x) (hx:Loc X.env.scope x) (he:PE X e te) (hs:swapsWith e (some (.Name x pos')) pos.line X.env=pure false:=by rfl) (hf:X.fn x=true∨X.env.scope.names.lookup x=some .local:=by first | exact .inl rfl | exact .inr rfl | assumption) :
  PS X (.Assign [.Name x pos'] e pos) (tAsg te (qft i)):=by
 intro pins s σ H D I h
 refine wpAny_Assign_Name (thn (he pins s σ H _ I h) fun v s1 ⟨y,H1,I1,r1,q1⟩=>?_) hs
 exact qfd I1 hN hi hx r1 (fun s2 I2=>⟨_,H1,I2,q1⟩) hf
def tPar (i j:Nat) (ta:TA):TS:=fun D σ H=>ta σ H fun vs H1=>∃ v w,vs=[v,w]∧D.nx ((σ.set i (some v)).set j (some w)) H1
theorem ps_par {i j:Nat}{x y:Str}{a b:Expr}{ta:TA}{px py pt:Pos}{kt k2 pt2} (hc:X.calm=true) (hN:X.N.Nodup) (hi:X.N[i]?=some x) (hj:X.N[j]?=some y) (hij:i≠j)
  (hx:X.env.scope.names.lookup x=some .local) (hy:X.env.scope.names.lookup y=some .local) (ha:PA X [a,b] ta)
  (hw:swappedStores [.Tuple [.Name x px,.Name y py] kt pt] (.Tuple [a,b] k2 pt2) X.env=pure (some [x,y]))
  (hs:swapsWithSole [.Tuple [.Name x px,.Name y py] kt pt] (.Tuple [a,b] k2 pt2) pos.line X.env=pure false:=by rfl) :
  PS X (.Assign [.Tuple [.Name x px,.Name y py] kt pt] (.Tuple [a,b] k2 pt2) pos) (tPar i j ta):=by
 intro pins s σ H D I h
 rw [exec_Assign_arm]
 refine wpAny_bind (wpAny_standAt ?_)
 rw [hs]
 refine wpAny_bind (wpAny_pure ?_)
 rw [if_neg (by decide)]
 refine wpAny_bind (Tuple_ (thn (ha _ pins s σ H _ I h) fun us s1 ⟨vs,H1,I1,r1,q1⟩=>?_))
 obtain ⟨v,w,e1,q1⟩:=q1
 subst e1
 obtain ⟨u1,u2,rfl,rv,rw'⟩:∃ u1 u2,us=[u1,u2]∧RelV v u1∧RelV w u2:=by
  cases r1 with
  | cons p q =>
   cases q with
   | cons p' q' =>
    cases q'
    exact ⟨_,_,rfl,p,p'⟩
 refine wpAny_newObj_type ?_ (by show 2≤sizeLine;decide)
 have I2:Inv X pins σ H1 { s1 with heap:=s1.heap.push { cls:=.type "tuple",data:=.seq [u1,u2].toArray } }:=I1.kept (t':=s1.toks) fun b o e=>Heap.get?_push_of_some _ e
 rw [hw]
 refine wpAny_bind (wpAny_pure ?_)
 show wpAny (model X.prog X.w) X.A (do rule "assign.swapped-stores";let items ← unpackItems (.ref s1.heap.objs.size) 2 none;assignInOrder [fun v=>bindName X.env y v,fun v=>bindName X.env x v] items.reverse;pure Flow.next) _ _ _
 refine wpAny_bind (wpAny_rule (wpAny_bind (unpackItems_tuple (items:=#[u1,u2]) (I.ok.hd hc) (IsTup.new s1.heap _) fun h' hx'=>?_)))
 have I3:=I2.kept (h':=h') (t':=s1.toks) fun b o e=>hx' b o (Nat.ne_of_lt (Heap.lt_size e)) e
 show wpAny _ _ (assignInOrder [fun v=>bindName X.env y v,fun v=>bindName X.env x v] [u2,u1] >>= fun _=>pure Flow.next) _ _ _
 refine wpAny_bind (assignInOrder_cons (wpAny_bindName (qfd I3 hN hj (.inl hy) rw' (fun s2 I4=>?_) (.inr hy))))
 refine assignInOrder_cons (wpAny_bindName (qfd I4 hN hi (.inl hx) rv (fun s3 I5=>assignInOrder_nil (wpAny_pure ?_)) (.inr hx)))
 rw [List.set_comm _ _ (Ne.symm hij)] at I5
 exact ⟨_,H1,I5,q1⟩
end
section
variable {X:Cx}{pos:Pos}
def tWhile (c:TT) (tb:TS):TS:=fun D σ H=>∃ W:Nat→St→Hp→Prop,(∃ m,W m σ H)∧∀ m σ H,W m σ H →
 c σ H fun b H1=>if b=true then ∃ N:St→Hp→Prop,(∀ σ' H',N σ' H'→∃ m',m' < m∧W m' σ' H')∧tb { D with nx:=N,ct:=N,bk:=D.nx } σ H1 else D.nx σ H1
theorem ql2 {c:Expr}{body:List Stmt}{tc:TT}{tb:TS} (hp:PassesOwn (model X.prog X.w) X.A X.env X.xe) (hc:PT X c tc) (hb:PSs X body tb):PS X (.While c body [] pos) (tWhile tc tb):=by
 intro pins s σ H D I h
 obtain ⟨W,⟨m0,w0⟩,turn⟩:=h
 refine wpAny_While (codeAny_whileLoop (fun n s'=>∃ σ' H',Inv X pins σ' H' s'∧W n σ' H') ?_ m0 ⟨σ,H,I,w0⟩)
 rintro n s1 ⟨σ1,H1,I1,w1⟩
 refine wpAny_passesOwn hp (thn (hc pins s1 σ1 H1 _ I1 (turn n σ1 H1 w1)) fun b s2 ⟨H2,I2,q2⟩=>?_)
 cases b with
 | true =>
  obtain ⟨N,hN,q2⟩:=q2
  rw [if_pos rfl]
  refine wpAny_passesOwn hp (thn (hb pins s2 σ1 H2 _ I2 q2) fun f s3 q3=>?_)
  cases f with
  | next =>
   obtain ⟨σ3,H3,I3,n3⟩:=q3
   obtain ⟨m',hm,w3⟩:=hN σ3 H3 n3
   exact ⟨m',hm,σ3,H3,I3,w3⟩
  | cont =>
   obtain ⟨σ3,H3,I3,n3⟩:=q3
   obtain ⟨m',hm,w3⟩:=hN σ3 H3 n3
   exact ⟨m',hm,σ3,H3,I3,w3⟩
  | brk=>exact q3
  | ret v=>exact q3
 | false =>
  rw [if_neg Bool.false_ne_true]
  exact wpAny_execs_nil ⟨σ1,H2,I2,q2⟩
end
structure It where
 go:Nat→Hp→Prop
 yld:Nat→Hp→V→Hp→Prop
 stop:Nat→Hp→Prop
def FpOk (X:Cx) (pins:List (Addr×Obj)) (H:Hp) (b:Addr):Prop :=
 H b=none∧b≠X.env.locals∧b∉X.fs∧(b∈X.ex∨X.s₀.heap.objs.size≤b)∧(∀ x c,X.env.cells.lookup x=some c→c≠b)∧∀ p∈X.pn++pins,p.1≠b
theorem Inv.fpOk {X:Cx}{pins:List (Addr×Obj)}{σ:St}{H H':Hp}{s:Shared}{b:Addr} (I:Inv X pins σ H s) (hb:s.heap.objs.size≤b) (hn:H' b=none):FpOk X pins H' b:=by
 refine ⟨hn,Nat.ne_of_gt (Nat.lt_of_lt_of_le I.lt hb),I.nofs hb,.inr (Nat.le_trans I.sz hb),fun x c e z=>?_,fun p hp z=>?_⟩
 ·obtain ⟨v,q⟩:=I.cell x c e
  exact absurd (Nat.lt_of_lt_of_le q.lt (by rw [z];exact hb)) (Nat.lt_irrefl _)
 ·exact absurd (Nat.lt_of_lt_of_le (Heap.lt_size (I.pin p hp).1) (by rw [z];exact hb)) (Nat.lt_irrefl _)
structure Turn (P:Program) (w:World) (K:PySem.W.Frag) (tg:Expr) (J:It) (fp:List Addr) (it:Addr) (tn:Nat→Heap→Prop):Prop where
 mem:it∈fp
 obj:∀ i h,tn i h→∀ b∈fp,∃ o,h.get? b=some o∧∀ v,o.data≠.cell v
 keep:∀ i h h',tn i h→(∀ b∈fp,∀ o,h.get? b=some o→h'.get? b=some o)→tn i h'
 item:∀ (X:Cx),X.prog=P→X.w=w→X.K=K→X.calm=true→∀ (i:Nat) (pins:List (Addr×Obj)) (s:Shared) (σ:St) (H:Hp) (E:Value→Shared→Prop),Inv X pins σ H s→(∀ b∈fp,FpOk X pins H b)→tn i s.heap→J.go i H →
  wpAny (model P w) X.A (pyNext (.ref it)) (fun r s1=>∃ u,r=some u ∧
   wpAny (model P w) X.A (letOwnedTupleGo tg (.ref it) u) (fun _ s2=>∃ x H',Inv X pins σ H' s2∧RelV x u∧J.yld i H x H'∧tn (i+1) s2.heap∧∀ b∈fp,H' b=none) E s1) E s
 done:∀ (X:Cx),X.prog=P→X.w=w→X.K=K→X.calm=true→∀ (i:Nat) (pins:List (Addr×Obj)) (s:Shared) (σ:St) (H:Hp) (E:Value→Shared→Prop),Inv X pins σ H s→(∀ b∈fp,FpOk X pins H b)→tn i s.heap→J.stop i H →
  wpAny (model P w) X.A (pyNext (.ref it)) (fun r s1=>r=none∧Inv X pins σ H s1) E s
 self:∀ (A:Around) (i:Nat) (s:Shared) (Q:Value→Shared→Prop) (E:Value→Shared→Prop),tn i s.heap→Q (.ref it) s→wpAny (model P w) A (pyIter (.ref it)) Q E s
abbrev TI:=St→Hp→(It→Hp→Prop)→Prop
def PIE (X:Cx) (pins:List (Addr×Obj)) (σ:St) (tg:Expr) (R:It→Hp→Prop) (itv:Value) (s2:Shared):Prop :=
 ∃ (it:Addr) (fp:List Addr) (tn:Nat→Heap→Prop) (J:It) (H':Hp),itv=.ref it∧Inv X pins σ H' s2∧Turn X.prog X.w X.K tg J fp it tn∧tn 0 s2.heap∧(∀ b∈fp,FpOk X pins H' b)∧R J H'
def PI (X:Cx) (tg iter:Expr) (wi:TI):Prop :=
 ∀ (pins:List (Addr×Obj)) (s:Shared) (σ:St) (H:Hp) (R:It→Hp→Prop),Inv X pins σ H s→wi σ H R →
  wpAny (model X.prog X.w) X.A (eval iter X.env) (fun v s1=>wpAny (model X.prog X.w) X.A (pyIter v) (PIE X pins σ tg R) X.xe s1) X.xe s
theorem go_of {M:Model}{A:Around}{E:Value→Shared→Prop}{s:Shared}{tg:Expr}{it:Addr}{u:Value}{o:Obj}{n:String}{vs:Array Value}{Q:Unit→Shared→Prop} (ho:s.heap.get? it=some o) (hc:o.cls=.type n) (hd:o.data=.fields vs)
  (hn:["enumerate","zip","dict_itemiterator","dict_reverseitemiterator","odict_iterator","itertools.zip_longest","itertools.pairwise"].contains n=false) (hQ:Q () s):wpAny M A (letOwnedTupleGo tg (.ref it) u) Q E s:=by
 unfold letOwnedTupleGo
 cases tg <;> first
  | exact wpAny_pure hQ
  | (cases u <;> first
    | exact wpAny_pure hQ
    | (refine wpAny_bind (wpAny_load ho ?_)
       rw [hc,hd]
       show wpAny M A (if (["enumerate","zip","dict_itemiterator","dict_reverseitemiterator","odict_iterator","itertools.zip_longest","itertools.pairwise"].contains n && vs[0]? == some (rawInt _))=true then _ else _) Q E s
       rw [if_neg (by intro h;rw [hn,Bool.false_and] at h;cases h)]
       exact wpAny_pure hQ))
def Itl (K:PySem.W.Frag) (a:Addr):It :=
 ⟨fun i H=>∃ xs x,SqL K H a xs∧xs[i]?=some x,fun i H x H'=>H'=H∧∀ xs,SqL K H a xs→xs[i]?=some x,fun i H=>∃ xs,SqL K H a xs∧xs.length≤i⟩
def Itt (K:PySem.W.Frag) (a:Addr):It :=
 ⟨fun i H=>∃ xs x,SqT K H a xs∧xs[i]?=some x,fun i H x H'=>H'=H∧∀ xs,SqT K H a xs→xs[i]?=some x,fun i H=>∃ xs,SqT K H a xs∧xs.length≤i⟩
def Itr (lo:Int) (n:Nat):It:=⟨fun i _=>i < n,fun i H x H'=>H'=H∧x=.int (lo+i),fun i _=>n≤i⟩
theorem turn_list {P:Program}{w:World}{K:PySem.W.Frag}{tg:Expr} (a it:Addr):Turn P w K tg (Itl K a) [it] it (fun i h=>h.IsListIter it a i) where
 mem:=by simp
 obj:=fun i h st b hb=>by
  have e:b=it:=by simpa using hb
  subst e
  obtain ⟨o,e,c,d⟩:=st
  exact ⟨o,e,fun v z=>by rw [d] at z;cases z⟩
 keep:=fun i h h' st k=>st.at fun o e=>k it (by simp) o e
 item:=by
  intro X hP hw hK hc i pins s σ H E I hf st hg
  subst hP hw hK
  obtain ⟨xs,x,hq,hx⟩:=hg
  obtain ⟨its,rv,p,hz⟩:=I.list hq
  obtain ⟨u,hu,ru⟩:=rv.get hx
  obtain ⟨f0,f1,f2,f3,f4,f5⟩:=hf it (by simp)
  refine wpAny_pyNext_list_item st p.isList (x:=u) (by simpa using hu) fun h' st' sb=>?_
  have I1:Inv X pins σ H { s with heap:=h' }:=I.turned (t':=s.toks) (fun b o hb e=>(sb.2 b hb).trans e) f0 f1 f3 f4 f5
  obtain ⟨o,e,c,d⟩:=id st'
  exact ⟨u,rfl,go_of (s:={ s with heap:=h' }) e c d (by decide) ⟨x,H,I1,ru,⟨rfl,fun ys hy=>by rw [I.list_inj hy hq];exact hx⟩,st',fun b hb=>(hf b hb).1⟩⟩
 done:=by
  intro X hP hw hK hc i pins s σ H E I hf st hg
  subst hP hw hK
  obtain ⟨xs,hq,hx⟩:=hg
  obtain ⟨its,rv,p,hz⟩:=I.list hq
  obtain ⟨f0,f1,f2,f3,f4,f5⟩:=hf it (by simp)
  have hl:=rv.length
  exact wpAny_pyNext_list_end (I.ok.hd hc) st p.isList (by simp;omega) fun h' eb=>⟨rfl,I.turned (t':=s.toks) (fun b o hb e=>eb b o hb e) f0 f1 f3 f4 f5⟩
 self:=fun _ _ _ _ _ st h=>wpAny_pyIter_listiter st h
theorem turn_tuple {P:Program}{w:World}{K:PySem.W.Frag}{tg:Expr} (a it:Addr):Turn P w K tg (Itt K a) [it] it (fun i h=>h.IsTupleIter it a i) where
 mem:=by simp
 obj:=fun i h st b hb=>by
  have e:b=it:=by simpa using hb
  subst e
  obtain ⟨o,e,c,d⟩:=st
  exact ⟨o,e,fun v z=>by rw [d] at z;cases z⟩
 keep:=fun i h h' st k=>st.at fun o e=>k it (by simp) o e
 item:=by
  intro X hP hw hK hc i pins s σ H E I hf st hg
  subst hP hw hK
  obtain ⟨xs,x,hq,hx⟩:=hg
  obtain ⟨its,rv,p,hz⟩:=I.tuple hq
  obtain ⟨u,hu,ru⟩:=rv.get hx
  obtain ⟨f0,f1,f2,f3,f4,f5⟩:=hf it (by simp)
  refine wpAny_pyNext_tuple_item st (show s.heap.IsTuple a its.toArray from p) (x:=u) (by simpa using hu) fun h' st' sb=>?_
  have I1:Inv X pins σ H { s with heap:=h' }:=I.turned (t':=s.toks) (fun b o hb e=>(sb.2 b hb).trans e) f0 f1 f3 f4 f5
  obtain ⟨o,e,c,d⟩:=id st'
  exact ⟨u,rfl,go_of (s:={ s with heap:=h' }) e c d (by decide) ⟨x,H,I1,ru,⟨rfl,fun ys hy=>by rw [I.tuple_inj hy hq];exact hx⟩,st',fun b hb=>(hf b hb).1⟩⟩
 done:=by
  intro X hP hw hK hc i pins s σ H E I hf st hg
  subst hP hw hK
  obtain ⟨xs,hq,hx⟩:=hg
  obtain ⟨its,rv,p,hz⟩:=I.tuple hq
  obtain ⟨f0,f1,f2,f3,f4,f5⟩:=hf it (by simp)
  have hl:=rv.length
  exact wpAny_pyNext_tuple_end (I.ok.hd hc) st (show s.heap.IsTuple a its.toArray from p) (by simp;omega) fun h' eb=>⟨rfl,I.turned (t':=s.toks) (fun b o hb e=>eb b o hb e) f0 f1 f3 f4 f5⟩
 self:=fun _ _ _ _ _ st h=>wpAny_pyIter_tupleiter st h
theorem turn_range {P:Program}{w:World}{K:PySem.W.Frag}{tg:Expr} (it:Addr) (lo:Int) (n:Nat):Turn P w K tg (Itr lo n) [it] it (fun i h=>IsRangeIter h it (lo+(i:Nat) * 1) ((n:Int) - (i:Nat)) 1) where
 mem:=by simp
 obj:=fun i h st b hb=>by
  have e:b=it:=by simpa using hb
  subst e
  exact ⟨_,st,fun v z=>by
   have z':Data.fields _=Data.cell v:=z
   cases z'⟩
 keep:=fun i h h' st k=>k it (by simp) _ st
 item:=by
  intro X hP hw hK hc i pins s σ H E I hf st hg
  subst hP hw hK
  obtain ⟨f0,f1,f2,f3,f4,f5⟩:=hf it (by simp)
  have W:=Walks.range (prog:=X.prog) (w:=X.w) (I.ok.hd hc) it lo 1 n
  refine W.item i s _ _ hg st fun v h' tk hv st' kk=>?_
  obtain ⟨t,rfl⟩:=hv
  have I1:Inv X pins σ H { s with heap:=h',toks:=tk }:=I.turned (fun b o hb e=>kk b o (by simpa using hb) e) f0 f1 f3 f4 f5
  refine ⟨_,rfl,go_of (s:={ s with heap:=h',toks:=tk }) (n:="range_iterator") st' rfl rfl (by decide) ⟨.int (lo+i),H,I1,⟨t,?_⟩,⟨rfl,rfl⟩,st',fun b hb=>(hf b hb).1⟩⟩
  rw [Int.mul_one]
 done:=by
  intro X hP hw hK hc i pins s σ H E I hf st hg
  subst hP hw hK
  obtain ⟨f0,f1,f2,f3,f4,f5⟩:=hf it (by simp)
  exact wpAny_pyNext_range_end (I.ok.hd hc) st (by have:n≤i:=hg;omega) fun h' eb=>⟨rfl,I.turned (t':=s.toks) (fun b o hb e=>eb b o hb e) f0 f1 f3 f4 f5⟩
 self:=fun _ _ _ _ _ st h=>wpAny_pyIter_rangeiter st h
end L2
namespace L2
open PySem PySem.Spec PyProof.Rows
section
variable {X:Cx}{tg:Expr}
def iList (K:PySem.W.Frag) (tl:TE):TI:=fun σ H R=>tl σ H fun x H1=>∃ a,x=.ref a∧(∃ xs,SqL K H1 a xs)∧R (Itl K a) H1
def iTup (K:PySem.W.Frag) (tl:TE):TI:=fun σ H R=>tl σ H fun x H1=>∃ a,x=.ref a∧(∃ xs,SqT K H1 a xs)∧R (Itt K a) H1
theorem qd9 {l:Expr}{tl:TE} (hl:PE X l tl):PI X tg l (iList X.K tl):=by
 intro pins s σ H R I h
 refine thn (hl pins s σ H _ I h) fun v s1 ⟨x,H1,I1,r1,q1⟩=>?_
 obtain ⟨a,e,⟨xs,hq⟩,q⟩:=q1
 subst e
 cases r1
 obtain ⟨its,rv,p,hz⟩:=I1.list hq
 refine wpAny_pyIter_list p.isList ?_
 refine ⟨s1.heap.objs.size,[s1.heap.objs.size],_,_,H1,rfl,I1.kept (t':=s1.toks) fun b o e=>Heap.get?_push_of_some _ e,turn_list a _,⟨_,Heap.get?_push_size _ rfl,rfl,rfl⟩,fun b hb=>?_,q⟩
 have e:b=s1.heap.objs.size:=by simpa using hb
 subst e
 exact I1.fpOk (Nat.le_refl _) (I1.hok.fresh (Nat.le_refl _))
theorem pi_tup {l:Expr}{tl:TE} (hl:PE X l tl):PI X tg l (iTup X.K tl):=by
 intro pins s σ H R I h
 refine thn (hl pins s σ H _ I h) fun v s1 ⟨x,H1,I1,r1,q1⟩=>?_
 obtain ⟨a,e,⟨xs,hq⟩,q⟩:=q1
 subst e
 cases r1
 obtain ⟨its,rv,p,hz⟩:=I1.tuple hq
 refine wpAny_pyIter_tuple (show s1.heap.IsTuple a its.toArray from p) ?_
 refine ⟨s1.heap.objs.size,[s1.heap.objs.size],_,_,H1,rfl,I1.kept (t':=s1.toks) fun b o e=>Heap.get?_push_of_some _ e,turn_tuple a _,⟨_,Heap.get?_push_size _ rfl,rfl,rfl⟩,fun b hb=>?_,q⟩
 have e:b=s1.heap.objs.size:=by simpa using hb
 subst e
 exact I1.fpOk (Nat.le_refl _) (I1.hok.fresh (Nat.le_refl _))
theorem range_it {pins:List (Addr×Obj)}{σ:St}{H:Hp}{s:Shared}{R:It→Hp→Prop}{E:Value→Shared→Prop}{lo hi:Int}{t u v:Tok}{tk:Nat} (I:Inv X pins σ H s) (h1:-(2 ^ 62)≤lo) (h2:lo < 2 ^ 62) (h3:-(2 ^ 62)≤hi) (h4:hi < 2 ^ 62)
  (q:R (Itr lo (hi - lo).toNat) H):wpAny (model X.prog X.w) X.A (pyIter (.ref s.heap.objs.size)) (PIE X pins σ tg R) E { s with heap:=s.heap.push { cls:=.type "range",data:=.fields #[.int lo t,.int hi u,.int 1 v] },toks:=tk }:=by
 refine wpAny_pyIter_range (IsRange.new ..) (small_one h1 h2 h3 h4) ?_
 have I1:Inv X pins σ H { s with heap:=s.heap.push { cls:=.type "range",data:=.fields #[.int lo t,.int hi u,.int 1 v] },toks:=tk }:=I.kept fun b o e=>Heap.get?_push_of_some _ e
 refine ⟨(s.heap.push { cls:=.type "range",data:=.fields #[.int lo t,.int hi u,.int 1 v] }).objs.size,[(s.heap.push { cls:=.type "range",data:=.fields #[.int lo t,.int hi u,.int 1 v] }).objs.size],_,_,H,rfl,
  I1.kept (t':=tk) fun b o e=>Heap.get?_push_of_some _ e,turn_range _ lo (hi - lo).toNat,?_,fun b hb=>?_,q⟩
 ·have e1:lo+((0:Nat):Int) * 1=lo:=by simp
  have e2:(((hi - lo).toNat:Nat):Int) - ((0:Nat):Int)=Builtin.Range.rangeSize lo hi 1:=by rw [rangeSize_one];split <;> omega
  show IsRangeIter _ _ (lo+((0:Nat):Int) * 1) ((((hi - lo).toNat:Nat):Int) - ((0:Nat):Int)) 1
  rw [e1,e2]
  exact Heap.get?_push_size _ rfl
 ·have e:b=(s.heap.push { cls:=.type "range",data:=.fields #[.int lo t,.int hi u,.int 1 v] }).objs.size:=by simpa using hb
  subst e
  exact I1.fpOk (Nat.le_refl _) (I1.hok.fresh (Nat.le_refl _))
def iRng1 (ta:TA):TI:=fun σ H R=>ta σ H fun vs H1=>∃ j:Int,vs=[.int j]∧-(2 ^ 62)≤j∧j < 2 ^ 62∧R (Itr 0 j.toNat) H1
theorem qf5 {a:Expr}{ta:TA}{p pos:Pos} (hg:Gl X "range") (hm:X.mg "range"=none) (ha:PA X [a] ta) (hs:starEach [a] X.env=[(false,eval a X.env)]:=by rfl):PI X tg (.Call (.Name "range" p) [a] [] pos) (iRng1 ta):=by
 intro pins s σ H R I h
 refine Call_ (qmb I hg hm boot_range (PyProof.Rows.callWith_type1 (thn (ha pos pins s σ H _ I h) fun us s1 ⟨vs,H1,I1,r1,q1⟩=>?_) hs rfl))
 obtain ⟨j,e,q1,q2,q⟩:=q1
 subst e
 cases r1 with
 | cons r rr =>
  cases rr
  obtain ⟨t,rfl⟩:=r
  exact call_range_1 (range_it I1 (by omega) (by omega) q1 q2 (by simpa using q))
def tFor (wi:TI) (g:TG) (tb:TS):TS:=fun D σ H=>wi σ H fun J H1=>∃ W:Nat→Nat→St→Hp→Prop,(∃ m,W 0 m σ H1)∧∀ i m σ H,W i m σ H →
 (J.stop i H∧D.nx σ H)∨(J.go i H∧∃ N:St→Hp→Prop,(∀ σ' H',N σ' H'→∃ m',m' < m∧W (i+1) m' σ' H')∧∀ x H',J.yld i H x H'→g x σ H' fun σ2 H2=>tb { D with nx:=N,ct:=N,bk:=D.nx } σ2 H2)
def qii (fp:List Addr) (h:Heap):List (Addr×Obj):=fp.filterMap fun b=>(h.get? b).map fun o=>(b,o)
theorem qdw {fp:List Addr}{h:Heap}{b:Addr}{o:Obj} (hb:b∈fp) (e:h.get? b=some o):(b,o)∈qii fp h:=List.mem_filterMap.mpr ⟨b,hb,by rw [e];rfl⟩
theorem of_pinsAt {fp:List Addr}{h:Heap}{p:Addr×Obj} (hp:p∈qii fp h):p.1∈fp∧h.get? p.1=some p.2:=by
 obtain ⟨b,hb,e⟩:=List.mem_filterMap.mp hp
 cases q:h.get? b with
 | none=>rw [q] at e;cases e
 | some o =>
  rw [q] at e
  have e':(b,o)=p:=Option.some.inj e
  subst e'
  exact ⟨hb,q⟩
theorem Inv.pinned {pins:List (Addr×Obj)}{σ:St}{H:Hp}{s:Shared}{fp:List Addr} (I:Inv X pins σ H s) (hf:∀ b∈fp,FpOk X pins H b) (ho:∀ b∈fp,∃ o,s.heap.get? b=some o∧∀ v,o.data≠.cell v):Inv X (pins++qii fp s.heap) σ H s :=
 I.pins_of fun p hp=>(List.mem_append.mp hp).elim (fun z=>I.pin p (List.mem_append_right _ z)) fun z=>by
  obtain ⟨hb,e⟩:=of_pinsAt z
  obtain ⟨f0,f1,f2,_⟩:=hf p.1 hb
  obtain ⟨o,e',d⟩:=ho p.1 hb
  rw [e] at e';cases e'
  exact ⟨e,f0,f1,f2,d⟩
theorem Inv.unpinned {pins pl:List (Addr×Obj)}{σ:St}{H:Hp}{s:Shared} (I:Inv X (pins++pl) σ H s):Inv X pins σ H s:=I.pins_of fun p hp=>I.pin p (List.mem_append_right _ (List.mem_append_left _ hp))
theorem qgq {iter:Expr}{body:List Stmt}{wi:TI}{g:TG}{tb:TS}{pos:Pos} (hp:PassesOwn (model X.prog X.w) X.A X.env X.xe) (hc:X.calm=true) (hi:PI X tg iter wi) (hg:PG X tg g) (hb:PSs X body tb)
  (hs:∀ x,foldedSetIterable iter X.env x=pure x:=by intro _;rfl):PS X (.For tg iter body [] pos) (tFor wi g tb):=by
 intro pins s σ H D I h
 refine wpAny_For (thn (hi pins s σ H _ I h) fun v s1 h1=>thn h1 fun itv s2 h2=>?_) hs
 obtain ⟨it,fp,tn,J,H2,e,I2,T,st2,f2,W,⟨m0,w0⟩,turn⟩:=h2
 subst e
 have stat:∀ {H':Hp},(∀ b∈fp,H' b=none)→∀ b∈fp,FpOk X pins H' b:=fun hn b hb=>⟨hn b hb,(f2 b hb).2⟩
 refine codeAny_forLoop_any (fun n s'=>∃ i σ' H',Inv X pins σ' H' s'∧tn i s'.heap∧(∀ b∈fp,H' b=none)∧W i n σ' H') ?_ m0 ⟨0,σ,H2,I2,st2,fun b hb=>(f2 b hb).1,w0⟩
 rintro n s3 ⟨i,σ3,H3,I3,st3,fr3,w3⟩
 rcases turn i n σ3 H3 w3 with ⟨stop,qn⟩ | ⟨go,N,hN,step⟩
 ·refine wpAny_passesOwn hp (thn (T.done X rfl rfl rfl hc i pins s3 σ3 H3 X.xe I3 (stat fr3) st3 stop) fun r s4 ⟨hr,I4⟩=>?_)
  subst hr
  exact wpAny_execs_nil ⟨σ3,H3,I4,qn⟩
 ·refine wpAny_passesOwn hp (thn (T.item X rfl rfl rfl hc i pins s3 σ3 H3 X.xe I3 (stat fr3) st3 go) fun r s4 ⟨u,hr,h4⟩=>?_)
  subst hr
  refine wpAny_passesOwn hp (thn h4 fun _ s5 ⟨x,H5,I5,r5,y5,st5,fr5⟩=>?_)
  have I5':=I5.pinned (stat fr5) (T.obj _ _ st5)
  refine wpAny_passesOwn hp (thn (hg _ s5 σ3 H5 x u _ I5' r5 (step x H5 y5)) fun _ s6 ⟨σ6,H6,I6,q6⟩=>?_)
  refine wpAny_passesOwn hp (thn (hb _ s6 σ6 H6 _ I6 q6) fun f s7 q7=>?_)
  have again:∀ {σ7:St}{H7:Hp},Inv X (pins++qii fp s5.heap) σ7 H7 s7→N σ7 H7→∃ m,m < n∧∃ i σ' H',Inv X pins σ' H' s7∧tn i s7.heap∧(∀ b∈fp,H' b=none)∧W i m σ' H':=fun {σ7 H7} I7 n7=>by
   obtain ⟨m',hm,w7⟩:=hN σ7 H7 n7
   refine ⟨m',hm,i+1,σ7,H7,I7.unpinned,T.keep _ _ _ st5 fun b hb o e=>(I7.pin (b,o) (List.mem_append_right _ (List.mem_append_right _ (qdw hb e)))).1,fun b hb=>?_,w7⟩
   obtain ⟨o,e,d⟩:=T.obj _ _ st5 b hb
   exact (I7.pin (b,o) (List.mem_append_right _ (List.mem_append_right _ (qdw hb e)))).2.1
  cases f with
  | next=>obtain ⟨σ7,H7,I7,n7⟩:=q7;exact again I7 n7
  | cont=>obtain ⟨σ7,H7,I7,n7⟩:=q7;exact again I7 n7
  | brk=>obtain ⟨σ7,H7,I7,q7⟩:=q7;exact ⟨σ7,H7,I7.unpinned,q7⟩
  | ret v=>obtain ⟨x7,σ7,H7,I7,r7,q7⟩:=q7;exact ⟨x7,σ7,H7,I7.unpinned,r7,q7⟩
end
theorem qfh {K:PySem.W.Frag}{a:Addr}{xs:List V}{g:TG}{tb:TS}{D:Ends}{σ:St}{H:Hp} (Pv:Nat→St→Hp→Prop) (h0:Pv 0 σ H) (hl:∀ i σ H,i≤xs.length→Pv i σ H→SqL K H a xs)
  (hs:∀ i x σ H,xs[i]?=some x→Pv i σ H→g x σ H fun σ2 H2=>tb { D with nx:=Pv (i+1),ct:=Pv (i+1),bk:=D.nx } σ2 H2) (hd:∀ σ H,Pv xs.length σ H→D.nx σ H) :
  ∃ W:Nat→Nat→St→Hp→Prop,(∃ m,W 0 m σ H)∧∀ i m σ H,W i m σ H →
   ((Itl K a).stop i H∧D.nx σ H)∨((Itl K a).go i H∧∃ N:St→Hp→Prop,(∀ σ' H',N σ' H'→∃ m',m' < m∧W (i+1) m' σ' H')∧∀ x H',(Itl K a).yld i H x H'→g x σ H' fun σ2 H2=>tb { D with nx:=N,ct:=N,bk:=D.nx } σ2 H2):=by
 refine ⟨fun i m σ H=>m=xs.length - i∧i≤xs.length∧Pv i σ H,⟨xs.length,by simp,Nat.zero_le _,h0⟩,?_⟩
 rintro i m σ H ⟨rfl,hi,p⟩
 have q:=hl i σ H hi p
 by_cases hlt:i < xs.length
 ·refine .inr ⟨⟨xs,xs[i],q,by simp [hlt]⟩,Pv (i+1),fun σ' H' p'=>⟨xs.length - (i+1),by omega,rfl,hlt,p'⟩,fun x H' y=>?_⟩
  obtain ⟨e,y⟩:=y
  subst e
  exact hs i x σ _ (y xs q) p
 ·have e:i=xs.length:=by omega
  subst e
  exact .inl ⟨⟨xs,q,Nat.le_refl _⟩,hd σ H p⟩
theorem qkr {lo:Int}{n:Nat}{g:TG}{tb:TS}{D:Ends}{σ:St}{H:Hp} (Pv:Nat→St→Hp→Prop) (h0:Pv 0 σ H)
  (hs:∀ i σ H,i < n→Pv i σ H→g (.int (lo+i)) σ H fun σ2 H2=>tb { D with nx:=Pv (i+1),ct:=Pv (i+1),bk:=D.nx } σ2 H2) (hd:∀ σ H,Pv n σ H→D.nx σ H) :
  ∃ W:Nat→Nat→St→Hp→Prop,(∃ m,W 0 m σ H)∧∀ i m σ H,W i m σ H →
   ((Itr lo n).stop i H∧D.nx σ H)∨((Itr lo n).go i H∧∃ N:St→Hp→Prop,(∀ σ' H',N σ' H'→∃ m',m' < m∧W (i+1) m' σ' H')∧∀ x H',(Itr lo n).yld i H x H'→g x σ H' fun σ2 H2=>tb { D with nx:=N,ct:=N,bk:=D.nx } σ2 H2):=by
 refine ⟨fun i m σ H=>m=n - i∧i≤n∧Pv i σ H,⟨n,by simp,Nat.zero_le _,h0⟩,?_⟩
 rintro i m σ H ⟨rfl,hi,p⟩
 by_cases hlt:i < n
 ·refine .inr ⟨hlt,Pv (i+1),fun σ' H' p'=>⟨n - (i+1),by omega,rfl,hlt,p'⟩,fun x H' y=>?_⟩
  obtain ⟨e,y⟩:=y
  subst e y
  exact hs i σ _ hlt p
 ·have e:i=n:=by omega
  subst e
  exact .inl ⟨Nat.le_refl _,hd σ H p⟩
end L2
namespace L2
open PySem PySem.Spec PyProof.Rows
abbrev R2:=V→V→Hp→VK→Prop
def OpR (X:Cx) (f:Value→Value→Sem Value) (r:R2):Prop :=
 ∀ (pins:List (Addr×Obj)) (s:Shared) (σ:St) (H:Hp) (x y:V) (v u:Value) (Q:VK),Inv X pins σ H s→RelV x v→RelV y u→r x y H Q →
  wpAny (model X.prog X.w) X.A (f v u) (EP X pins σ Q) X.xe s
def UnR (X:Cx) (f:Value→Sem Value) (r:V→Hp→VK→Prop):Prop :=
 ∀ (pins:List (Addr×Obj)) (s:Shared) (σ:St) (H:Hp) (x:V) (v:Value) (Q:VK),Inv X pins σ H s→RelV x v→r x H Q →
  wpAny (model X.prog X.w) X.A (f v) (EP X pins σ Q) X.xe s
def qgy (X:Cx) (f:Value) (r:List V→Hp→VK→Prop):Prop :=
 ∀ (pins:List (Addr×Obj)) (s:Shared) (σ:St) (H:Hp) (xs:List V) (us:List Value) (Q:VK),Inv X pins σ H s→Vals xs us→r xs H Q →
  wpAny (model X.prog X.w) X.A (call f us) (EP X pins σ Q) X.xe s
def tOp (r:R2) (ta tb:TE):TE:=fun σ H Q=>ta σ H fun x H1=>tb σ H1 fun y H2=>r x y H2 Q
def tUn (r:V→Hp→VK→Prop) (ta:TE):TE:=fun σ H Q=>ta σ H fun x H1=>r x H1 Q
def rI (C:Int→Int→Prop) (g:Int→Int→V):R2:=fun x y H Q=>∃ i j,x=.int i∧y=.int j∧C i j∧Q (g i j) H
def rI0 (g:Int→Int→V):R2:=fun x y H Q=>∃ i j,x=.int i∧y=.int j∧Q (g i j) H
def rU (g:Int→V):V→Hp→VK→Prop:=fun x H Q=>∃ i,x=.int i∧Q (g i) H
section
variable {X:Cx}{a b c:Expr}{ta tb tc:TE}{pos:Pos}
theorem binT (ha:PE X a ta) (hb:PE X b tb) {pins:List (Addr×Obj)}{s:Shared}{σ:St}{H:Hp}{R:V→V→Hp→Prop} (I:Inv X pins σ H s)
  (h:ta σ H fun x H1=>tb σ H1 fun y H2=>R x y H2) {Q:Value→Shared→Prop}{f:Value→Value→Sem Value}
  (hf:∀ v u s2 x y H2,Inv X pins σ H2 s2→RelV x v→RelV y u→R x y H2→wpAny (model X.prog X.w) X.A (f v u) Q X.xe s2) :
  wpAny (model X.prog X.w) X.A (eval a X.env) (fun v s₁=>wpAny (model X.prog X.w) X.A (eval b X.env) (fun u s₂=>wpAny (model X.prog X.w) X.A (f v u) Q X.xe s₂) X.xe s₁) X.xe s:=by
 refine thn (ha pins s σ H _ I h) fun v s1 ⟨x,H1,I1,r1,q1⟩=>?_
 refine thn (hb pins s1 σ H1 _ I1 q1) fun u s2 ⟨y,H2,I2,r2,q2⟩=>?_
 exact hf v u s2 x y H2 I2 r1 r2 q2
theorem qaw {op:Operator}{r:R2} (ho:OpR X (binaryOp op) r) (ha:PE X a ta) (hb:PE X b tb):PE X (.BinOp a op b pos) (tOp r ta tb):=by
 intro pins s σ H Q I h
 exact wpAny_BinOp (binT ha hb I h fun v u s2 x y H2 I2 rx ry q=>ho pins s2 σ H2 x y v u Q I2 rx ry q)
theorem pe_un {op:UnaryOp}{r:V→Hp→VK→Prop} (ho:UnR X (unaryOp op) r) (ha:PE X a ta):PE X (.UnaryOp op a pos) (tUn r ta):=by
 intro pins s σ H Q I h
 exact UnaryOp_ (thn (ha pins s σ H _ I h) fun v s1 ⟨x,H1,I1,r1,q1⟩=>ho pins s1 σ H1 x v Q I1 r1 q1)
theorem opI {f:Value→Value→Sem Value}{C:Int→Int→Prop}{g:Int→Int→Int}
  (rule:∀ (i j:Int) (t u:Tok) (s:Shared) (Q:Value→Shared→Prop) (E:Value→Shared→Prop),C i j→Q (.int (g i j) s.toks) { s with toks:=s.toks+1 }→wpAny (model X.prog X.w) X.A (f (.int i t) (.int j u)) Q E s) :
  OpR X f (rI C fun i j=>.int (g i j)):=by
 intro pins s σ H x y v u Q I rx ry h
 obtain ⟨i,j,rfl,rfl,hc,q⟩:=h
 obtain ⟨t,rfl⟩:=rx
 obtain ⟨t',rfl⟩:=ry
 exact rule i j t t' s _ _ hc ⟨.int (g i j),H,I.tok _,⟨_,rfl⟩,q⟩
theorem opI0 {f:Value→Value→Sem Value}{g:Int→Int→Int}
  (rule:∀ (i j:Int) (t u:Tok) (s:Shared) (Q:Value→Shared→Prop) (E:Value→Shared→Prop),Q (.int (g i j) s.toks) { s with toks:=s.toks+1 }→wpAny (model X.prog X.w) X.A (f (.int i t) (.int j u)) Q E s) :
  OpR X f (rI0 fun i j=>.int (g i j)):=by
 intro pins s σ H x y v u Q I rx ry h
 obtain ⟨i,j,rfl,rfl,q⟩:=h
 obtain ⟨t,rfl⟩:=rx
 obtain ⟨t',rfl⟩:=ry
 exact rule i j t t' s _ _ ⟨.int (g i j),H,I.tok _,⟨_,rfl⟩,q⟩
theorem opB0 {f:Value→Value→Sem Value}{g:Int→Int→Bool}
  (rule:∀ (i j:Int) (t u:Tok) (s:Shared) (Q:Value→Shared→Prop) (E:Value→Shared→Prop),Q (.bool (g i j)) s→wpAny (model X.prog X.w) X.A (f (.int i t) (.int j u)) Q E s) :
  OpR X f (rI0 fun i j=>.bl (g i j)):=by
 intro pins s σ H x y v u Q I rx ry h
 obtain ⟨i,j,rfl,rfl,q⟩:=h
 obtain ⟨t,rfl⟩:=rx
 obtain ⟨t',rfl⟩:=ry
 exact rule i j t t' s _ _ ⟨.bl (g i j),H,I,rfl,q⟩
def CPow (i j:Int):Prop:=0≤j∧j≤1000000∧i.natAbs < 2 ^ 64
def CMul (i j:Int):Prop:=(-(2 ^ 64) < i∧i < 2 ^ 64)∨(-(2 ^ 64) < j∧j < 2 ^ 64)
theorem CMul.ok {i j:Int} (h:CMul i j):IntMulOk i j:=by
 rcases h with ⟨h1,h2⟩ | ⟨h1,h2⟩
 ·exact .of_left (intBits_le_64 h1 h2)
 ·exact .of_right (intBits_le_64 h1 h2)
theorem qee:OpR X (binaryOp .Add) (rI0 fun i j=>.int (i+j)):=opI0 fun _ _ _ _ _ _ _ q=>add_int q
theorem qil:OpR X (binaryOp .Sub) (rI0 fun i j=>.int (i - j)):=opI0 fun _ _ _ _ _ _ _ q=>sub_int q
theorem qfk:OpR X (binaryOp .Mult) (rI CMul fun i j=>.int (i * j)):=opI fun _ _ _ _ _ _ _ hc q=>mul_int q hc.ok
theorem qgs:OpR X (binaryOp .Mod) (rI (fun _ j=>0 < j) fun i j=>.int (i % j)):=opI fun i j _ _ _ _ _ hc q=>by
 have h1:(0:Int) < j:=hc
 exact mod_int' (by omega) (by rw [Int.fmod_eq_emod_of_nonneg i (by omega)];exact q)
theorem qfj:OpR X (binaryOp .Pow) (rI CPow fun i j=>.int (i ^ j.toNat)):=opI fun _ _ _ _ _ _ _ hc q=>pow_int_small hc.1 hc.2.1 hc.2.2 q
theorem unI {f:Value→Sem Value}{g:Int→Int}
  (rule:∀ (i:Int) (t:Tok) (s:Shared) (Q:Value→Shared→Prop) (E:Value→Shared→Prop),Q (.int (g i) s.toks) { s with toks:=s.toks+1 }→wpAny (model X.prog X.w) X.A (f (.int i t)) Q E s) :
  UnR X f (rU fun i=>.int (g i)):=by
 intro pins s σ H x v Q I rx h
 obtain ⟨i,rfl,q⟩:=h
 obtain ⟨t,rfl⟩:=rx
 exact rule i t s _ _ ⟨.int (g i),H,I.tok _,⟨_,rfl⟩,q⟩
theorem qjy:UnR X (unaryOp .USub) (rU fun i=>.int (-i)):=unI fun _ _ _ _ _ q=>neg_int q
end
def scal:V→V→Bool
 | .non,.non=>true | .non,.int _=>true | .int _,.non=>true | .non,.bl _=>true | .bl _,.non=>true | .non,.str _=>true | .str _,.non=>true
 | .int _,.int _=>true | .bl _,.bl _=>true | .str _,.str _=>true | .byt _,.byt _=>true
 | .int _,.str _=>true | .str _,.int _=>true | .bl _,.str _=>true | .str _,.bl _=>true
 | _,_=>false
def rEq:R2:=fun x y H Q=>scal x y=true∧Q (.bl (decide (x=y))) H
def rNe:R2:=fun x y H Q=>scal x y=true∧Q (.bl (!decide (x=y))) H
theorem dec_int {i j:Int}:decide (V.int i=V.int j)=(i == j):=by
 rw [Bool.eq_iff_iff]
 simp
theorem dec_bl {i j:Bool}:decide (V.bl i=V.bl j)=(i == j):=by
 rw [Bool.eq_iff_iff]
 simp
theorem dec_str {i j:Str}:decide (V.str i=V.str j)=(i == j):=by
 rw [Bool.eq_iff_iff]
 simp
theorem dec_byt {i j:Array UInt8}:decide (V.byt i=V.byt j)=(i.toList == j.toList):=by
 rw [Bool.eq_iff_iff]
 cases i
 cases j
 simp
section
variable {X:Cx}{a b c:Expr}{ta tb tc:TE}{pos:Pos}
theorem qbl {pins:List (Addr×Obj)}{σ:St}{H:Hp}{s:Shared}{Q:VK}{k k':Bool} (I:Inv X pins σ H s) (q:Q (.bl k) H) (e:k=k'):EP X pins σ Q (.bool k') s:=by
 subst e
 exact ⟨.bl k,H,I,rfl,q⟩
theorem qea:OpR X (compareOp .Eq) rEq:=by
 intro pins s σ H x y v u Q I rx ry h
 obtain ⟨hs,q⟩:=h
 cases x with
 | non =>
  cases rx
  cases y with
  | non=>cases ry;exact PySem.EqNone.eq_none_none (qbl I q (by simp))
  | bl j=>cases ry;exact PySem.EqNone.eq_none_bool (qbl I q (by simp))
  | int j=>obtain ⟨t',rfl⟩:=ry;exact PySem.EqNone.eq_none_int (qbl I q (by simp))
  | str j=>obtain ⟨t',rfl⟩:=ry;exact PySem.EqNone.eq_none_str (qbl I q (by simp))
  | _=>exact absurd (show false=true from hs) Bool.false_ne_true
 | bl i =>
  cases rx
  cases y with
  | non=>cases ry;exact PySem.EqNone.eq_bool_none (qbl I q (by simp))
  | bl j=>cases ry;exact eq_bool (qbl I q dec_bl)
  | str j=>obtain ⟨t',rfl⟩:=ry;exact PySem.EqMixed.eq_bool_str (qbl I q (by simp))
  | _=>exact absurd (show false=true from hs) Bool.false_ne_true
 | int i =>
  obtain ⟨t,rfl⟩:=rx
  cases y with
  | non=>cases ry;exact PySem.EqNone.eq_int_none (qbl I q (by simp))
  | int j=>obtain ⟨t',rfl⟩:=ry;exact eq_int (qbl I q dec_int)
  | str j=>obtain ⟨t',rfl⟩:=ry;exact PySem.EqMixed.eq_int_str (qbl I q (by simp))
  | _=>exact absurd (show false=true from hs) Bool.false_ne_true
 | str i =>
  obtain ⟨t,rfl⟩:=rx
  cases y with
  | non=>cases ry;exact PySem.EqNone.eq_str_none (qbl I q (by simp))
  | bl j=>cases ry;exact PySem.EqMixed.eq_str_bool (qbl I q (by simp))
  | int j=>obtain ⟨t',rfl⟩:=ry;exact PySem.EqMixed.eq_str_int (qbl I q (by simp))
  | str j=>obtain ⟨t',rfl⟩:=ry;exact eq_str (qbl I q dec_str)
  | _=>exact absurd (show false=true from hs) Bool.false_ne_true
 | byt i =>
  obtain ⟨t,rfl⟩:=rx
  cases y with
  | byt j=>obtain ⟨t',rfl⟩:=ry;exact PySem.W.eq_bytes (qbl I q dec_byt)
  | _=>exact absurd (show false=true from hs) Bool.false_ne_true
 | _=>cases y <;> exact absurd (show false=true from hs) Bool.false_ne_true
theorem op_ne:OpR X (compareOp .NotEq) rNe:=by
 intro pins s σ H x y v u Q I rx ry h
 obtain ⟨hs,q⟩:=h
 cases x with
 | non =>
  cases rx
  cases y with
  | non=>cases ry;exact PySem.EqNone.ne_none_none (qbl I q (by simp))
  | bl j=>cases ry;exact PySem.EqNone.ne_none_bool (qbl I q (by simp))
  | int j=>obtain ⟨t',rfl⟩:=ry;exact PySem.EqNone.ne_none_int (qbl I q (by simp))
  | str j=>obtain ⟨t',rfl⟩:=ry;exact PySem.EqNone.ne_none_str (qbl I q (by simp))
  | _=>exact absurd (show false=true from hs) Bool.false_ne_true
 | bl i =>
  cases rx
  cases y with
  | non=>cases ry;exact PySem.EqNone.ne_bool_none (qbl I q (by simp))
  | bl j=>cases ry;exact ne_bool (qbl I q (congrArg not dec_bl))
  | str j=>obtain ⟨t',rfl⟩:=ry;exact PySem.EqMixed.ne_bool_str (qbl I q (by simp))
  | _=>exact absurd (show false=true from hs) Bool.false_ne_true
 | int i =>
  obtain ⟨t,rfl⟩:=rx
  cases y with
  | non=>cases ry;exact PySem.EqNone.ne_int_none (qbl I q (by simp))
  | int j=>obtain ⟨t',rfl⟩:=ry;exact ne_int (qbl I q (congrArg not dec_int))
  | str j=>obtain ⟨t',rfl⟩:=ry;exact PySem.EqMixed.ne_int_str (qbl I q (by simp))
  | _=>exact absurd (show false=true from hs) Bool.false_ne_true
 | str i =>
  obtain ⟨t,rfl⟩:=rx
  cases y with
  | non=>cases ry;exact PySem.EqNone.ne_str_none (qbl I q (by simp))
  | bl j=>cases ry;exact PySem.EqMixed.ne_str_bool (qbl I q (by simp))
  | int j=>obtain ⟨t',rfl⟩:=ry;exact PySem.EqMixed.ne_str_int (qbl I q (by simp))
  | str j=>obtain ⟨t',rfl⟩:=ry;exact ne_str (qbl I q (congrArg not dec_str))
  | _=>exact absurd (show false=true from hs) Bool.false_ne_true
 | byt i =>
  obtain ⟨t,rfl⟩:=rx
  cases y with
  | byt j=>obtain ⟨t',rfl⟩:=ry;exact PySem.W.ne_bytes (qbl I q (congrArg not dec_byt))
  | _=>exact absurd (show false=true from hs) Bool.false_ne_true
 | _=>cases y <;> exact absurd (show false=true from hs) Bool.false_ne_true
theorem qji:OpR X (compareOp .Lt) (rI0 fun i j=>.bl (decide (i < j))):=opB0 fun _ _ _ _ _ _ _ q=>lt_int q
theorem op_le:OpR X (compareOp .LtE) (rI0 fun i j=>.bl (decide (i≤j))):=opB0 fun _ _ _ _ _ _ _ q=>le_int q
theorem op_gt:OpR X (compareOp .Gt) (rI0 fun i j=>.bl (decide (j < i))):=opB0 fun _ _ _ _ _ _ _ q=>gt_int q
theorem op_ge:OpR X (compareOp .GtE) (rI0 fun i j=>.bl (decide (j≤i))):=opB0 fun _ _ _ _ _ _ _ q=>ge_int q
theorem op_isN:OpR X (compareOp .Is) (fun x y H Q=>y=.non∧Q (.bl (decide (x=.non))) H):=by
 intro pins s σ H x y v u Q I rx ry h
 obtain ⟨rfl,q⟩:=h
 cases ry
 refine is_none_gen (qbl I q ?_)
 cases x <;> first
  | (cases rx;rfl)
  | (obtain ⟨t,rfl⟩:=rx;rfl)
theorem qay (b:Expr) {op:CmpOp} (h:op≠.In:=by decide) (h2:op≠.NotIn:=by decide):behindInMarks op b=false:=by
 have e1:(op == CmpOp.In)=false:=by cases op <;> first | rfl | exact absurd rfl h
 have e2:(op == CmpOp.NotIn)=false:=by cases op <;> first | rfl | exact absurd rfl h2
 cases b <;> simp [behindInMarks,e1,e2]
theorem qcn {op:CmpOp}{r:R2} (ho:OpR X (compareOp op) r) (ha:PE X a ta) (hb:PE X b tb) (hm:behindInMarks op b=false):PE X (.Compare a [op] [b] pos) (tOp r ta tb):=by
 intro pins s σ H Q I h
 exact wpAny_Compare1 (binT ha hb I h fun v u s2 x y H2 I2 rx ry q=>ho pins s2 σ H2 x y v u Q I2 rx ry q) hm
def tTest (t:TE):TT:=fun σ H Q=>t σ H fun x H'=>∃ k,x=.bl k∧Q k H'
theorem qau {op:CmpOp}{r:R2} (ho:OpR X (compareOp op) r) (ha:PE X a ta) (hb:PE X b tb) (hm:behindInMarks op b=false):PT X (.Compare a [op] [b] pos) (tTest (tOp r ta tb)):=by
 intro pins s σ H Q I h
 refine wpAny_isTrue_Compare1 (thn (ha pins s σ H _ I h) fun v s1 ⟨x,H1,I1,r1,q1⟩=>thn (hb pins s1 σ H1 _ I1 q1) fun u s2 ⟨y,H2,I2,r2,q2⟩ =>
  thn (ho pins s2 σ H2 x y v u _ I2 r1 r2 q2) fun c s3 ⟨z,H3,I3,r3,k,e,q3⟩=>?_) hm
 subst e
 cases r3
 exact wpAny_truthy_bool ⟨H3,I3,q3⟩
def tChain (r r':R2) (ta tb tc:TE):TE:=fun σ H Q=>ta σ H fun x H1=>tb σ H1 fun y H2=>r x y H2 fun z H3=>∃ k,z=.bl k ∧
 (if k=true then tc σ H3 fun w' H4=>r' y w' H4 Q else Q (.bl false) H3)
theorem ql5 {op op':CmpOp}{r r':R2} (ho:OpR X (compareOp op) r) (ho':OpR X (compareOp op') r') (ha:PE X a ta) (hb:PE X b tb) (hc:PE X c tc)
  (hm:lastMarks [op,op'] [b,c]=false:=by with_unfolding_all rfl):PE X (.Compare a [op,op'] [b,c] pos) (tChain r r' ta tb tc):=by
 intro pins s σ H Q I h
 refine Compare_chain (thn (ha pins s σ H _ I h) fun v s1 ⟨x,H1,I1,r1,q1⟩=>chain_link (thn (hb pins s1 σ H1 _ I1 q1) fun u s2 ⟨y,H2,I2,r2,q2⟩ =>
  thn (ho pins s2 σ H2 x y v u _ I2 r1 r2 q2) fun d s3 ⟨z,H3,I3,r3,k,e,q3⟩=>?_)) hm
 subst e
 cases r3
 refine wpAny_truthy_bool ?_
 cases k with
 | false=>exact ite_ff ⟨.bl false,H3,I3,rfl,q3⟩
 | true=>exact ite_tt (chain_last (thn (hc pins s3 σ H3 _ I3 q3) fun w' s4 ⟨z',H4,I4,r4,q4⟩=>ho' pins s4 σ H4 y z' u w' Q I4 r2 r4 q4))
theorem qip:(sizeLine:Nat) < 2 ^ 63:=by rw [sizeLine_eq];decide
theorem op_add_str:OpR X (binaryOp .Add) (fun x y H Q=>∃ i j,x=.str i∧y=.str j∧i.length+j.length≤sizeLine∧Q (.str (i++j)) H):=by
 intro pins s σ H x y v u Q I rx ry h
 obtain ⟨i,j,rfl,rfl,hz,q⟩:=h
 obtain ⟨t,rfl⟩:=rx
 obtain ⟨t',rfl⟩:=ry
 exact add_str (fun t' tk=>⟨.str (i++j),H,I.tok _,⟨_,rfl⟩,q⟩) hz
theorem qh5 {x:V}{us:List Value} (r:Vals [x] us):∃ u,us=[u]∧RelV x u:=by
 cases r with
 | cons r1 r2=>cases r2;exact ⟨_,rfl,r1⟩
theorem vals2 {x y:V}{us:List Value} (r:Vals [x,y] us):∃ u w',us=[u,w']∧RelV x u∧RelV y w':=by
 cases r with
 | cons r1 r2 =>
  cases r2 with
  | cons r3 r4=>cases r4;exact ⟨_,_,rfl,r1,r3⟩
theorem qjs:qgy X (.builtin "abs") (fun xs H Q=>∃ i,xs=[.int i]∧Q (.int (if i < 0 then -i else i)) H):=by
 intro pins s σ H xs us Q I r h
 obtain ⟨i,rfl,q⟩:=h
 obtain ⟨u,rfl,t,rfl⟩:=qh5 r
 exact call_abs_int fun u tk=>⟨.int (if i < 0 then -i else i),H,I.tok _,⟨_,rfl⟩,q⟩
theorem qc2:qgy X (.type "int") (fun xs H Q=>(∃ i,xs=[.int i]∧Q (.int i) H)∨∃ k,xs=[.bl k]∧Q (.int (if k then 1 else 0)) H):=by
 intro pins s σ H xs us Q I r h
 rcases h with ⟨i,rfl,q⟩ | ⟨k,rfl,q⟩
 ·obtain ⟨u,rfl,t,rfl⟩:=qh5 r
  exact call_int_int ⟨.int i,H,I,⟨_,rfl⟩,q⟩
 ·obtain ⟨u,rfl,r1⟩:=qh5 r
  cases r1
  exact call_int_bool ⟨.int (if k then 1 else 0),H,I.tok _,⟨_,rfl⟩,q⟩
end
end L2
namespace L2
open PySem PySem.Spec PyProof.Rows
structure ObjM (h:Heap) (x dx C:Addr) (mA:Str→Option Value):Prop where
 obj:h.get? x=some (PySem.W.instObj C dx)
 ns:h.Ns1 dx mA
 ne:dx≠x
theorem lookIn_ns {h:Heap}{dx:Addr}{mA:Str→Option Value} (n:h.Ns1 dx mA):∃ od,h.get? dx=some od∧∀ name,PySem.W.lookIn name od=some (mA name):=by
 obtain ⟨o,es,ep,ho,hd,hk,_,hm⟩:=n
 refine ⟨o,ho,fun name=>?_⟩
 have e:=hm name
 unfold nsFind findBy at e
 rw [← Array.find?_toList] at e
 unfold PySem.W.lookIn
 rw [hd]
 dsimp only
 split
 ·rename_i y q
  rw [q] at e
  exact congrArg some e
 ·rename_i q
  rw [q] at e
  have a:es.toList.any (·.refKey)=false:=by
   rw [List.any_eq_false]
   intro y hy
   obtain ⟨z,t,hkey⟩:=hk y (Array.mem_toList_iff.mp hy)
   simp [DictEntry.refKey,hkey]
  have a':¬ es.toList.any (·.refKey)=true:=by rw [a];exact Bool.false_ne_true
  rw [if_neg a']
  exact congrArg some e
theorem ObjM.look {h:Heap}{x dx C:Addr}{mA:Str→Option Value} (I:ObjM h x dx C mA):∃ od,PySem.W.InstAt h x (PySem.W.instObj C dx) C (some od)∧∀ name,PySem.W.lookIn name od=some (mA name) :=
 let ⟨od,ho,hl⟩:=lookIn_ns I.ns
 ⟨od,⟨I.obj,rfl,rfl,ho⟩,hl⟩
section
variable {prog:Program}{w:World}{A:Around}{E:Value→Shared→Prop}{s:Shared}{K:PySem.W.Frag}{x dx C f:Addr}{mA:Str→Option Value}{name:Str}{v:Value}
theorem get_map {expr:Bool}{Q:Value→Shared→Prop} (X:K.In s.heap) (I:ObjM s.heap x dx C mA) (hg:PySem.W.plainGet K C name=true) (hh:PySem.W.hasDictIn K C=true)
  (ha:PySem.W.findIn K (.ref C) name=some none) (hv:mA name=some v) (hv':PySem.W.handedIn v=true) (h:Q v { s with toks:=s.toks+1 }) :
  wpAny (model prog w) A (getAttr (.ref x) name expr) Q E s:=by
 obtain ⟨od,J,hl⟩:=I.look
 exact PySem.W.get_value X J (PySem.W.plainGet_of hg).1 (PySem.W.findObj_own hh ha rfl (by rw [hl,hv])) hv' h
theorem get_meth {pl:Sem Bool}{Q:Value×List Value→Shared→Prop} (X:K.In s.heap) (I:ObjM s.heap x dx C mA) (hg:PySem.W.plainGet K C name=true)
  (hf:PySem.W.findIn K (.ref C) name=some (some (.ref f))) (ht:PySem.W.isFn K (.ref f)=true) (hv:mA name=none) (h:Q (.ref f,[.ref x]) s) :
  wpAny (model prog w) A (getMethod (.ref x) name pl) Q E s:=by
 obtain ⟨od,J,hl⟩:=I.look
 exact PySem.W.method_fn X J (PySem.W.plainGet_of hg).1 (PySem.W.plainGet_of hg).2 hf (beq_iff_eq.mp ht) (by show (PySem.W.lookIn name od).map (·.isSome)=some false;rw [hl,hv];rfl) h
theorem set_map {ns:List Str}{Q:Unit→Shared→Prop} (X:K.In s.heap) (I:ObjM s.heap x dx C mA)
  (hs:PySem.W.findIn K (.ref C) "__setattr__"=some (some (.builtin "object.__setattr__"))) (hp:PySem.W.plainOver K C=true) (ht:PySem.W.takerIn K C name=some none) (hh:PySem.W.hasDictIn K C=true)
  (hw:PySem.Within mA ns) (hsz:ns.length≤sizeLine)
  (h:∀ h',ObjM h' x dx C (fun y=>if y=name then some v else mA y)→Heap.SameBut dx s.heap h'→Q () { s with heap:=h',toks:=s.toks+2 }) :
  wpAny (model prog w) A (setAttr (.ref x) name v) Q E s:=by
 obtain ⟨od,J,hl⟩:=I.look
 refine PySem.W.set_plain X J hs (PySem.W.osa_open (s:={ s with toks:=s.toks+1 }) (r:=none) X J hp ht fun b=>?_)
 obtain ⟨cd,hc,hd'⟩:=PySem.W.any_some hh
 have hx:s.heap.get? x=some ⟨.ref C,some dx,.plain,#[]⟩:=I.obj
 refine wpAny_bind (wpAny_pure (wpAny_bind (wpAny_bind (wpAny_loadPart hx (wpAny_bind (PySem.W.Looks.here (s:={ s with toks:=s.toks+1 }) (PySem.W.looks_clsIn X hc) ?_))))))
 rw [hd']
 refine wpAny_pure (a:=some dx) (wpAny_bind (wpAny_pure (wpAny_bind ?_)))
 refine wpAny_nsSet1 (s:={ s with toks:=s.toks+1 }) I.ns fun h' hn2 hs2=>?_
 obtain ⟨oD,esD,epD,hoD,hdD,hcD⟩:=hn2.count (PySem.Within.cons name v hw)
 refine wpAny_bind (wpAny_lookBehind hoD (by rw [hdD];exact pastItsLine_dict (Nat.le_trans hcD (by rw [List.length_cons];omega))) ?_)
 exact wpAny_pure (h _ ⟨(hs2.2 _ (Ne.symm I.ne)).trans I.obj,hn2,I.ne⟩ hs2)
theorem make_map {R:Result→Shared→Prop}{vs:List Value}{kw:List (Str×Value)} (X:K.In s.heap) (hm:PySem.W.makesIn K C=true)
  (hi:PySem.W.findIn K (.ref C) "__init__"=some (some (.ref f))) (hf:PySem.W.typeIn K (.ref f)=some (.type "function"))
  (h:codeAny (model prog w) (A.under (.builtin "type.__call__" ⟨.ref C::vs,kw⟩)) (.call (.ref f) ⟨.ref (s.heap.objs.size+1)::vs,kw⟩) (PySem.W.InitBack (s.heap.objs.size+1) R)
   {s with heap:=(s.heap.push PySem.W.emptyDict).push (PySem.W.instObj C s.heap.objs.size) }) :
  codeAny (model prog w) A (.call (.ref C) ⟨vs,kw⟩) R s:=by
 obtain ⟨hh,g,d,t,os⟩:=s
 exact PySem.W.make_core (PySem.W.makes_of X hm) (PySem.W.looks_findIn X hi) (fun self=>PySem.W.bind_fn X self hf) (.inl rfl) h
end
def putF (f:Str) (v:V):List (Str×V)→List (Str×V)
 | []=>[(f,v)]
 | (g,x)::r=>if g=f then (g,v)::r else (g,x)::putF f v r
theorem qhq (f g:Str) (v:V):∀ fs:List (Str×V),(putF f v fs).lookup g=if g=f then some v else fs.lookup g
 | []=>by
  show List.lookup g [(f,v)]=_
  by_cases h:g=f
  ·have hb:(g == f)=true:=beq_iff_eq.mpr h
   simp only [List.lookup,hb,if_pos h]
  ·have hb:(g == f)=false:=beq_eq_false_iff_ne.mpr h
   simp only [List.lookup,hb,if_neg h]
 | (k,x)::r=>by
  have ih:=qhq f g v r
  rw [show putF f v ((k,x)::r)=(if k=f then (k,v)::r else (k,x)::putF f v r) from rfl]
  by_cases hk:k=f
  ·rw [if_pos hk]
   by_cases h:g=k
   ·have hb:(g == k)=true:=beq_iff_eq.mpr h
    simp only [List.lookup,hb,if_pos (h.trans hk)]
   ·have hb:(g == k)=false:=beq_eq_false_iff_ne.mpr h
    simp only [List.lookup,hb,if_neg (fun e:g=f=>h (e.trans hk.symm))]
  ·rw [if_neg hk]
   by_cases h:g=k
   ·have hb:(g == k)=true:=beq_iff_eq.mpr h
    simp only [List.lookup,hb,if_neg (fun e:g=f=>hk (h.symm.trans e))]
   ·have hb:(g == k)=false:=beq_eq_false_iff_ne.mpr h
    simp only [List.lookup,hb]
    exact ih
theorem qhs (f:Str) (v:V):∀ fs:List (Str×V),f∈(putF f v fs).map (·.1)∧∀ g,g∈fs.map (·.1)→g∈(putF f v fs).map (·.1)
 | []=>⟨by simp [putF],fun g h=>by simp at h⟩
 | (k,x)::r=>by
  obtain ⟨i1,i2⟩:=qhs f v r
  rw [show putF f v ((k,x)::r)=(if k=f then (k,v)::r else (k,x)::putF f v r) from rfl]
  by_cases hk:k=f
  ·rw [if_pos hk]
   subst hk
   exact ⟨by simp,fun g h=>by simpa using h⟩
  ·rw [if_neg hk]
   refine ⟨?_,fun g h=>?_⟩
   ·rw [List.map_cons]
    exact List.mem_cons_of_mem _ i1
   ·rw [List.map_cons] at h ⊢
    rcases List.mem_cons.mp h with e | e
    ·exact List.mem_cons.mpr (.inl e)
    ·exact List.mem_cons_of_mem _ (i2 g e)
theorem qfs (f:Str) (v:V):∀ fs:List (Str×V),(putF f v fs).length≤fs.length+1
 | []=>by simp [putF]
 | (k,x)::r=>by
  have ih:=qfs f v r
  rw [show putF f v ((k,x)::r)=(if k=f then (k,v)::r else (k,x)::putF f v r) from rfl]
  by_cases hk:k=f
  ·rw [if_pos hk,List.length_cons,List.length_cons];omega
  ·rw [if_neg hk,List.length_cons,List.length_cons];omega
theorem RelO.some_of {v:V}{o:Option Value} (r:RelO (some v) o):∃ u,o=some u∧RelV v u:=by
 cases o with
 | none=>exact (show False from r).elim
 | some u=>exact ⟨u,rfl,r⟩
theorem RelO.none_of {o:Option Value} (r:RelO none o):o=none:=by
 cases o with
 | none=>rfl
 | some u=>exact (show False from r).elim
theorem handed_of {v:V}{u:Value} (r:RelV v u):PySem.W.handedIn u=true:=by
 cases v with
 | non=>cases (show u=Value.none from r);rfl
 | bl b=>cases (show u=Value.bool b from r);rfl
 | int i=>obtain ⟨t,e⟩:=(show ∃ t,u=Value.int i t from r);cases e;rfl
 | str x=>obtain ⟨t,e⟩:=(show ∃ t,u=Value.str x t from r);cases e;rfl
 | byt b=>obtain ⟨t,e⟩:=(show ∃ t,u=Value.bytes b t from r);cases e;rfl
 | flt b=>obtain ⟨t,e⟩:=(show ∃ t,u=Value.float b t from r);cases e;rfl
 | ref a=>cases (show u=Value.ref a from r);rfl
 | ty n=>cases (show u=Value.type n from r);rfl
section
variable {P:Program}{w:World}{H H':Hp}{h h':Heap}{a C dx:Addr}{fs fs':List (Str×V)}
theorem qjl (hok:HOk P w H h) (e:H a=some (.ins C dx fs)):∃ mA,ObjM h a dx C mA∧(∀ f,RelO (fs.lookup f) (mA f))∧PySem.Within mA (fs.map (·.1))∧fs.length≤1000∧H dx=some (.own a):=by
 obtain ⟨d,z,ne,ob,mA,n,r,q⟩:=(show ObjOk P w H h a (.ins C dx fs) from hok a _ e)
 exact ⟨mA,⟨ob,n,ne⟩,r,q,z,d⟩
end
structure Cls (K:PySem.W.Frag) (C:Addr):Prop where
 pg:PySem.W.plainGet K C Str.empty=true
 hd:PySem.W.hasDictIn K C=true
 po:PySem.W.plainOver K C=true
 sa:PySem.W.findIn K (.ref C) "__setattr__"=some (some (.builtin "object.__setattr__"))
theorem Cls.get {K:PySem.W.Frag}{C:Addr} (c:Cls K C) (f:Str):PySem.W.plainGet K C f=true:=c.pg
def NoAttr (K:PySem.W.Frag) (C:Addr) (f:Str):Prop:=PySem.W.findIn K (.ref C) f=some none
theorem NoAttr.taker {K:PySem.W.Frag}{C:Addr}{f:Str} (n:NoAttr K C f):PySem.W.takerIn K C f=some none:=by
 unfold PySem.W.takerIn
 rw [show PySem.W.findIn K (.ref C) f=some none from n]
 rfl
structure Con (K:PySem.W.Frag) (C:Addr) (f:Str) (v:V) (u:Value):Prop where
 at_:PySem.W.findIn K (.ref C) f=some (some u)
 rel:RelV v u
 get:PySem.W.specialIn K u "__get__"=some none
 cp:PySem.W.copiedNames.contains f=false
structure Meth (K:PySem.W.Frag) (C:Addr) (m:Str) (f:Addr):Prop where
 at_:PySem.W.findIn K (.ref C) m=some (some (.ref f))
 fn:PySem.W.isFn K (.ref f)=true
 kp:PySem.W.keepIn K (.ref f)=true
section
variable {X:Cx}{pins:List (Addr×Obj)}{σ:St}{H:Hp}{s:Shared}{a C dx:Addr}{fs:List (Str×V)}{f:Str}{v:V}{A:Around}{E:Value→Shared→Prop}
theorem getattr_ok {b:Bool}{Q:Value→Shared→Prop} (I:Inv X pins σ H s) (e:H a=some (.ins C dx fs)) (c:Cls X.K C) (n:NoAttr X.K C f) (l:fs.lookup f=some v)
  (h:∀ u s',Inv X pins σ H s'→RelV v u→Q u s'):wpAny (model X.prog X.w) A (getAttr (.ref a) f b) Q E s:=by
 obtain ⟨mA,O,r,_,_,_⟩:=qjl I.hok e
 obtain ⟨u,hu,ru⟩:=RelO.some_of (v:=v) (o:=mA f) (by rw [← l];exact r f)
 exact get_map I.kIn O (c.get f) c.hd n hu (handed_of ru) (h u _ (I.tok _) ru)
theorem qir {m:Str}{g:Addr}{pl:Sem Bool}{Q:Value×List Value→Shared→Prop} (I:Inv X pins σ H s) (e:H a=some (.ins C dx fs)) (c:Cls X.K C) (k:Meth X.K C m g) (l:fs.lookup m=none)
  (h:Q (.ref g,[.ref a]) s):wpAny (model X.prog X.w) A (getMethod (.ref a) m pl) Q E s:=by
 obtain ⟨mA,O,r,_,_,_⟩:=qjl I.hok e
 have hn:mA m=none:=RelO.none_of (by rw [← l];exact r m)
 exact get_meth I.kIn O (c.get m) k.at_ k.fn hn h
theorem setattr_ok {y:V}{u:Value}{Q:Unit→Shared→Prop} (I:Inv X pins σ H s) (e:H a=some (.ins C dx fs)) (c:Cls X.K C) (n:NoAttr X.K C f) (hl:fs.length < 1000) (ry:RelV y u)
  (h:∀ s',Inv X pins σ (upd H a (.ins C dx (putF f y fs))) s'→Q () s'):wpAny (model X.prog X.w) A (setAttr (.ref a) f u) Q E s:=by
 obtain ⟨mA,O,r,wi,_,ho⟩:=qjl I.hok e
 have hz:(fs.map (·.1)).length≤sizeLine:=by rw [List.length_map,sizeLine_eq];omega
 refine set_map I.kIn O c.sa c.po n.taker c.hd wi hz fun h' O' sb=>h _ ?_
 have hd:∃ o,h'.get? dx=some o:=let ⟨o,_,_,e',_⟩:=O'.ns;⟨o,e'⟩
 refine I.write (x:=a) (e:=dx) (by rw [e];exact True.intro) (.inr ho) (fun b q hb z=>(sb.2 b hb).trans z) hd ?_
 refine ⟨by rw [qag O.ne];exact ho,?_,O.ne,O'.obj,_,O'.ns,fun g=>?_,fun g hg=>?_⟩
 ·have:=qfs f y fs;omega
 ·show RelO ((putF f y fs).lookup g) (if g=f then some u else mA g)
  rw [qhq]
  by_cases q:g=f
  ·rw [if_pos q,if_pos q];exact ry
  ·rw [if_neg q,if_neg q];exact r g
 ·by_cases q:g=f
  ·rw [q];exact (qhs f y fs).1
  ·refine (qhs f y fs).2 g (wi g fun z=>hg ?_)
   show (if g=f then some u else mA g)=none
   rw [if_neg q];exact z
theorem Inv.made (I:Inv X pins σ H s):Inv X pins σ (upd (upd H s.heap.objs.size (.own (s.heap.objs.size+1))) (s.heap.objs.size+1) (.ins C s.heap.objs.size []))
  {s with heap:=(s.heap.push PySem.W.emptyDict).push (PySem.W.instObj C s.heap.objs.size) }:=by
 have e1:(s.heap.push PySem.W.emptyDict).get? s.heap.objs.size=some PySem.W.emptyDict:=Heap.get?_push_size s.heap rfl
 have e2:((s.heap.push PySem.W.emptyDict).push (PySem.W.instObj C s.heap.objs.size)).get? (s.heap.objs.size+1)=some (PySem.W.instObj C s.heap.objs.size):=by
  have:=Heap.get?_push_size (s.heap.push PySem.W.emptyDict) (o:=PySem.W.instObj C s.heap.objs.size) rfl
  rwa [Heap.size_push] at this
 have e3:(s.heap.push PySem.W.emptyDict).Ns s.heap.objs.size (fun _=>none):=⟨PySem.W.emptyDict,#[],_,e1,rfl,(fun e he=>absurd he (by simp)),fun _=>rfl⟩
 have I1:=I.laid (a:=s.heap.objs.size) (o:=.own (s.heap.objs.size+1)) (h':=s.heap.push PySem.W.emptyDict) (t':=s.toks) (fun b u q=>Heap.get?_push_of_some _ q) (Nat.le_refl _) ⟨_,e1⟩
 refine I1.laid (a:=s.heap.objs.size+1) (o:=.ins C s.heap.objs.size []) (t':=s.toks) (fun b u q=>Heap.get?_push_of_some _ q) (Nat.le_of_eq (Heap.size_push _ _)) ?_
 have ne:s.heap.objs.size≠s.heap.objs.size+1:=Nat.ne_of_lt (Nat.lt_succ_self _)
 refine ⟨by rw [qag ne,qab],Nat.zero_le _,ne,e2,fun _=>none,(Heap.Ns1.of_empty e3).at fun o q=>Heap.get?_push_of_some _ q,fun _=>True.intro,fun y hy=>absurd rfl hy⟩
theorem attr_of {prog:Program}{w:World}{env:Env}{e:Expr}{f:Str}{pos:Pos}{s:Shared}{Q:Value→Shared→Prop} (hb:attributeBase e f env (eval e env)=eval e env)
  (h:wpAny (model prog w) A (eval e env) (fun o s₁=>wpAny (model prog w) A (getAttr o f true) Q E s₁) E s):wpAny (model prog w) A (eval (.Attribute e f pos) env) Q E s :=
 Attribute_any_ h (by rw [arm_eval_Attribute,hb])
end
def tFld (K:PySem.W.Frag) (ta:TE) (f:Str):TE:=fun σ H Q=>ta σ H fun x H1=>∃ a C dx fs v,x=.ref a∧H1 a=some (.ins C dx fs)∧Cls K C∧NoAttr K C f∧fs.lookup f=some v∧Q v H1
def sFld (K:PySem.W.Frag) (ta tv:TE) (f:Str):TS:=fun D σ H=>tv σ H fun y H1=>ta σ H1 fun x H2=>∃ a C dx fs,x=.ref a∧H2 a=some (.ins C dx fs)∧Cls K C∧NoAttr K C f∧fs.length < 1000 ∧
 D.nx σ (upd H2 a (.ins C dx (putF f y fs)))
section
variable {X:Cx}{o e value:Expr}{f:Str}{pos pos' tpos:Pos}{ta tv:TE}
theorem qch (he:PE X e ta) (hb:attributeBase e f X.env (eval e X.env)=eval e X.env):PE X (.Attribute e f pos) (tFld X.K ta f):=by
 intro pins s σ H Q I h
 refine attr_of hb (thn (he pins s σ H _ I h) fun u s1 ⟨x,H1,I1,rx,a,C,dx,fs,v,ex,ea,c,n,l,q⟩=>?_)
 subst ex
 obtain rfl:u=Value.ref a:=rx
 exact getattr_ok I1 ea c n l fun u' s2 I2 ru=>⟨v,H1,I2,ru,q⟩
theorem qf3 (ha:PE X o ta) (hv:PE X value tv) (hs:swapsWith value (some (.Attribute o f pos')) pos.line X.env=pure false):PS X (.Assign [.Attribute o f pos'] value pos) (sFld X.K ta tv f):=by
 intro pins s σ H D I h
 refine plainObj_wpAny_Assign_Attribute (thn (hv pins s σ H _ I h) fun u s1 ⟨y,H1,I1,ry,q⟩=>thn (ha pins s1 σ H1 _ I1 q) fun ov s2 ⟨x,H2,I2,rx,a,C,dx,fs,ex,ea,c,n,l,q2⟩=>?_) hs
 subst ex
 obtain rfl:ov=Value.ref a:=rx
 exact setattr_ok I2 ea c n l ry fun s3 I3=>⟨σ,_,I3,q2⟩
end
section
variable {X:Cx}{pins:List (Addr×Obj)}{σ:St}{H:Hp}{s:Shared}{A:Around}{E:Value→Shared→Prop}{Q:Value→Shared→Prop}{c:Value}{b:Bool}
inductive TyOf (K:PySem.W.Frag) (H:Hp):V→Value→Prop where
 | non:TyOf K H .non (.type "NoneType")
 | bl (x:Bool):TyOf K H (.bl x) (.type "bool")
 | int (i:Int):TyOf K H (.int i) (.type "int")
 | str (x:Str):TyOf K H (.str x) (.type "str")
 | flt (x:UInt64):TyOf K H (.flt x) (.type "float")
 | lst {a:Addr}{xs:List V} (e:H a=some (.lst xs)):TyOf K H (.ref a) (.type "list")
 | frz {a:Addr}{o:Obj}{xs:List V} (e:H a=some (.frz o (.lst xs))):TyOf K H (.ref a) (.type "list")
 | tup {a:Addr}{xs:List V} (e:H a=some (.tup xs)):TyOf K H (.ref a) (.type "tuple")
 | dK {a:Addr}{kvs:List (Key×V)} (e:H a=some (.dK kvs)):TyOf K H (.ref a) (.type "dict")
 | dT {a:Addr}{kvs:List (List Key×V)} (e:H a=some (.dT kvs)):TyOf K H (.ref a) (.type "dict")
 | ins {a C dx:Addr}{fs:List (Str×V)} (e:H a=some (.ins C dx fs)) (cl:Cls K C) (ha:PySem.W.findIn K (.ref C) "__class__"=some (some (.builtin "object.__class__")))
   (hn:PySem.W.specialIn K (.builtin "object.__class__") "__get__"=some (some (.builtin "getset_descriptor.__get__"))) (htk:PySem.W.takesIn K (.builtin "object.__class__")=some true)
   (hm:PySem.W.mroIn K C (.type "object")=some true):TyOf K H (.ref a) (.ref C)
theorem isinst_ok {x:V}{u t:Value} (I:Inv X pins σ H s) (rx:RelV x u) (ty:TyOf X.K H x t) (e:PySem.W.kitOne X.K t c=some b) (h:∀ tk,Q (.bool b) { s with toks:=tk }) :
  wpAny (model X.prog X.w) A (call (.builtin "isinstance") [u,c]) Q E s:=by
 cases ty with
 | non=>cases (show u=Value.none from rx);exact PySem.W.kia_one PySem.W.kitx_none I.kIn True.intro e (fun z=>nomatch z) h
 | bl y=>cases (show u=Value.bool y from rx);exact PySem.W.kia_one PySem.W.kitx_bool I.kIn True.intro e (fun z=>nomatch z) h
 | int i=>obtain ⟨t,q⟩:=(show ∃ t,u=Value.int i t from rx);cases q;exact PySem.W.kia_one PySem.W.kitx_int I.kIn True.intro e (fun z=>nomatch z) h
 | str y=>obtain ⟨t,q⟩:=(show ∃ t,u=Value.str y t from rx);cases q;exact PySem.W.kia_one PySem.W.kitx_str I.kIn True.intro e (fun z=>nomatch z) h
 | flt y=>obtain ⟨t,q⟩:=(show ∃ t,u=Value.float y t from rx);cases q;exact PySem.W.kia_one PySem.W.kitx_float I.kIn True.intro e (fun z=>nomatch z) h
 | @lst a xs ea =>
  cases (show u=Value.ref a from rx)
  obtain ⟨_,_,n,_,h1⟩:=(show ObjOk X.prog X.w H s.heap a (.lst xs) from I.hok a _ ea)
  exact PySem.W.kia_one PySem.W.kitx_list I.kIn ⟨_,h1,rfl⟩ e (fun z=>nomatch z) h
 | @frz a ob xs ea =>
  cases (show u=Value.ref a from rx)
  obtain ⟨_,_,_,n,_,h1⟩:=(show ObjOk X.prog X.w H s.heap a (.frz ob (.lst xs)) from I.hok a _ ea)
  exact PySem.W.kia_one PySem.W.kitx_list I.kIn ⟨_,h1,rfl⟩ e (fun z=>nomatch z) h
 | @tup a xs ea =>
  cases (show u=Value.ref a from rx)
  obtain ⟨_,_,_,p⟩:=(show ObjOk X.prog X.w H s.heap a (.tup xs) from I.hok a _ ea)
  obtain ⟨o,h1,h2,_⟩:=p
  exact PySem.W.kia_one PySem.W.kitx_tuple I.kIn ⟨o,h1,h2⟩ e (fun z=>nomatch z) h
 | @dK a kvs ea =>
  cases (show u=Value.ref a from rx)
  obtain ⟨_,_,vs,_,p⟩:=(show ObjOk X.prog X.w H s.heap a (.dK kvs) from I.hok a _ ea)
  obtain ⟨o,es,ep,h1,h2,_⟩:=p
  exact PySem.W.kia_one PySem.W.kitx_dict I.kIn ⟨o,h1,h2.1⟩ e (fun z=>nomatch z) h
 | @dT a kvs ea =>
  cases (show u=Value.ref a from rx)
  obtain ⟨_,_,xs,_,o,es,ep,h1,h2,_⟩:=(show ObjOk X.prog X.w H s.heap a (.dT kvs) from I.hok a _ ea)
  exact PySem.W.kia_one PySem.W.kitx_dict I.kIn ⟨o,h1,h2.1⟩ e (fun z=>nomatch z) h
 | @ins a C dx fs ea cl ha hn htk hm =>
  cases (show u=Value.ref a from rx)
  obtain ⟨mA,O,_⟩:=qjl I.hok ea
  obtain ⟨od,J,_⟩:=O.look
  exact PySem.W.kia_one (PySem.W.kitx_own (cl.get _) cl.hd ha hn htk hm) I.kIn J e (fun z=>nomatch z) h
end
end L2
namespace L2
open PySem PySem.Spec PyProof.Rows
structure Room (k:Nat) (A:Around):Prop where
 hd:A.handled=none
 dp:A.depth+3 * k+5 < recursionLimit
 un:A.units+16 * k+200 < cLine
theorem Room.mono {j k:Nat}{A:Around} (r:Room k A) (h:j≤k):Room j A:=⟨r.hd,by have:=r.dp;omega,by have:=r.un;omega⟩
theorem Room.deeper {k:Nat}{A:Around} (r:Room (k+1) A) (env:Env):Room k (A.deeper env) :=
 ⟨r.hd,by have:=r.dp;show A.depth+1+3 * k+5 < _;omega,by have:=r.un;show A.units+3+16 * k+200 < _;omega⟩
theorem make_depth {A:Around}{C:Addr}{us:List Value}{kw:List (Str×Value)}:(A.under (.builtin "type.__call__" ⟨.ref C::us,kw⟩)).depth=A.depth+1:=by
 first | rfl | simp [Around.under,Code.weight,Code.isCreation,Code.isGuard,Code.isCaller,Code.frames,Code.isFrame,guardIds]
theorem make_units {A:Around}{C:Addr}{us:List Value}{kw:List (Str×Value)}:(A.under (.builtin "type.__call__" ⟨.ref C::us,kw⟩)).units=A.units+1:=by
 first | rfl | simp [Around.under,Code.cUnits,Code.frames,Code.isFrame]
theorem Room.make {k:Nat}{A:Around} (r:Room (k+1) A) (C:Addr) (us:List Value) (kw:List (Str×Value)):Room k (A.under (.builtin "type.__call__" ⟨.ref C::us,kw⟩)) :=
 ⟨r.hd,by have:=r.dp;rw [make_depth];omega,by have:=r.un;rw [make_units];omega⟩
theorem Room.depth {k:Nat}{A:Around} (r:Room k A):A.depth < recursionLimit:=by have:=r.dp;omega
theorem Room.units {k:Nat}{A:Around} (r:Room k A):A.units+64 < cLine:=by have:=r.un;omega
def tNil:TA:=fun _ H Q=>Q [] H
def qas (ta:TE) (tr:TA):TA:=fun σ H Q=>ta σ H fun x H1=>tr σ H1 fun xs H2=>Q (x::xs) H2
section
variable {X:Cx}{e:Expr}{es:List Expr}{te:TE}{t:TA}{pos:Pos}
theorem qah:PA X [] tNil:=fun _ _ _ _ H Q I h=>Calls.spliced_nil ⟨[],H,I,.nil,h⟩
theorem qaa (ha:PE X e te) (hr:PA X es t) (hs:starEach (e::es) X.env=(false,eval e X.env)::starEach es X.env:=by rfl):PA X (e::es) (qas te t):=by
 intro pos pins s σ H Q I h
 rw [hs]
 show wpAny _ _ (spliced ((false,eval e X.env)::backTo pos (starEach es X.env))) _ _ s
 refine Calls.spliced_cons (thn (ha pins s σ H _ I h) fun u s1 ⟨x,H1,I1,r1,q1⟩=>?_)
 exact thn (hr pos pins s1 σ H1 _ I1 q1) fun us s2 ⟨xs,H2,I2,r2,q2⟩=>⟨x::xs,H2,I2,.cons r1 r2,q2⟩
def tTup (t:TA):TE:=fun σ H Q=>t σ H fun xs H1=>xs.length≤sizeLine∧∀ p,H1 p=none→Q (.ref p) (upd H1 p (.tup xs))
def tLst (t:TA):TE:=fun σ H Q=>t σ H fun xs H1=>xs.length≤sizeLine∧∀ p,H1 p=none→Q (.ref p) (upd H1 p (.lst xs))
theorem qbn {x1} (h:PA X es t):PE X (.Tuple es x1 pos) (tTup t):=by
 intro pins s σ H Q I hq
 refine wpAny_Tuple_spliced (thn (h pos pins s σ H _ I hq) fun us s1 ⟨xs,H1,I1,r,z,q⟩=>⟨by rw [← r.length];exact z,?_⟩)
 have hf:H1 s1.heap.objs.size=none:=I1.hok.fresh (Nat.le_refl _)
 refine ⟨.ref s1.heap.objs.size,upd H1 s1.heap.objs.size (.tup xs),I1.laid (t':=s1.toks) (fun b u e=>Heap.get?_push_of_some _ e) (Nat.le_refl _) ?_,rfl,q _ hf⟩
 exact ⟨z,us,r,⟨_,Heap.get?_push_size _ rfl,rfl,_,rfl⟩⟩
theorem qbj (h:PA X es t):PE X (.List es pos) (tLst t):=by
 intro pins s σ H Q I hq
 refine wpAny_List_spliced (thn (h pos pins s σ H _ I hq) fun us s1 ⟨xs,H1,I1,r,z,q⟩=>⟨by rw [← r.length];exact z,?_⟩)
 have hf:H1 s1.heap.objs.size=none:=I1.hok.fresh (Nat.le_refl _)
 refine ⟨.ref s1.heap.objs.size,upd H1 s1.heap.objs.size (.lst xs),I1.laid (t':=s1.toks) (fun b u e=>Heap.get?_push_of_some _ e) (Nat.le_refl _) ?_,rfl,q _ hf⟩
 exact ⟨z,us,0,r,Heap.get?_push_size _ rfl⟩
end
abbrev Sp:=List V→Hp→VK→XK→Prop
abbrev CXT:=List Env→Hp→Shared→XK→Value→Shared→Prop
structure Env0 (P:Program) (w:World) (K:PySem.W.Frag) (mg:Str→Option Value) (base:Heap) (A:Around) (outer:List Env) (s:Shared) (H:Hp):Prop where
 frames:A.frames=some outer
 mod:Mod K mg base
 bs:∀ b o,base.get? b=some o→s.heap.get? b=some o∧H b=none
 bsz:base.objs.size≤s.heap.objs.size
 funs:s.heap.FunFrames base outer
 frf:∀ b∈frs outer,H b=none
 hok:HOk P w H s.heap
 bare:AllBare s.gens
def CE (outer:List Env) (P:Program) (w:World) (H:Hp) (s:Shared) (Q:VK) (u:Value) (s':Shared):Prop :=
 ∃ v H',s'.os=s.os∧AllBare s'.gens∧Un (frs outer) [] H H' s.heap s'.heap∧HOk P w H' s'.heap∧RelV v u∧Q v H'
def CR (CX:CXT) (outer:List Env) (P:Program) (w:World) (H:Hp) (s:Shared) (Q:VK) (E:XK) (r:Result) (s':Shared):Prop :=
 match r with
 | .ok (.ret u)=>CE outer P w H s Q u s'
 | .ok _=>False
 | .error e=>CX outer H s E e s'
structure FnOk (P:Program) (w:World) (K:PySem.W.Frag) (mg:Str→Option Value) (base:Heap) (CX:CXT) (k:Nat) (f:Addr) (fd:FuncData) (ps:List Str) (sp:Sp):Prop where
 len:∀ vs H Q E,sp vs H Q E→vs.length=ps.length
 run:∀ (A:Around) (outer:List Env) (s:Shared) (H:Hp) (args:Args) (us:List Value) (vs:List V) (Q:VK) (E:XK),Room k A→Env0 P w K mg base A outer s H→BindsTo s fd args (ps.zip us)→Vals vs us→sp vs H Q E →
  codeAny (model P w) A (.call (.ref f) args) (CR CX outer P w H s Q E) s
theorem Env0.make {P:Program}{w:World}{K:PySem.W.Frag}{mg:Str→Option Value}{base:Heap}{A:Around}{outer:List Env}{s:Shared}{H:Hp} (e:Env0 P w K mg base A outer s H) (C:Addr) (us:List Value) (kw:List (Str×Value)) :
  Env0 P w K mg base (A.under (.builtin "type.__call__" ⟨.ref C::us,kw⟩)) outer s H:=⟨by first | exact e.frames | (simpa [Around.under,Code.envs,Code.isFrame,pushEnvs] using e.frames),e.mod,e.bs,e.bsz,e.funs,e.frf,e.hok,e.bare⟩
section
variable {X:Cx}{pins:List (Addr×Obj)}{σ:St}{H:Hp}{s s':Shared}
theorem Inv.env0 (I:Inv X pins σ H s):Env0 X.prog X.w X.K X.mg X.base X.A X.stack s H :=
 ⟨I.ok.frames,I.ok.mod,I.bs,Nat.le_trans I.ok.bsz I.sz,I.stack,I.stkFree,I.hok,I.bare⟩
theorem Inv.after {Q:VK}{u:Value} (I:Inv X pins σ H s) (h:CE X.stack X.prog X.w H s Q u s'):EP X pins σ Q u s':=by
 obtain ⟨v,H',os,bare,un,hok,r,q⟩:=h
 obtain ⟨hh,g,d,t,os'⟩:=s'
 obtain rfl:os'=s.os:=os
 exact ⟨v,H',I.call (h':=hh) (g':=g) (d':=d) (t':=t) (ch:=[]) un hok bare (fun b z=>absurd z (by simp)),r,q⟩
end
def qej (sp:Sp) (dvs:List V) (E:XK) (t:TA):TE:=fun σ H Q=>t σ H fun vs H1=>sp (vs++dvs) H1 Q E
def tMeth (C:Addr) (m:Str) (sp:Sp) (dvs:List V) (E:XK) (ta:TE) (t:TA):TE:=fun σ H Q=>ta σ H fun x H1=>∃ a dx fs,x=.ref a∧H1 a=some (.ins C dx fs)∧fs.lookup m=none ∧
 t σ H1 fun vs H2=>sp (x::(vs++dvs)) H2 Q E
def tMake (C:Addr) (sp:Sp) (dvs:List V) (E:XK) (t:TA):TE:=fun σ H Q=>t σ H fun vs H1=>∀ x dx,H1 x=none→H1 dx=none→dx≠x →
 sp (.ref x::(vs++dvs)) (upd (upd H1 dx (.own x)) x (.ins C dx [])) (fun v H2=>v=.non∧Q (.ref x) H2) E
def Binds (K:PySem.W.Frag) (fd:FuncData) (ps:List Str) (ds:List Value):Prop :=
 ∀ (s:Shared) (us:List Value),K.In s.heap→(us++ds).length=ps.length→BindsTo s fd ⟨us,[]⟩ (ps.zip (us++ds))
theorem Binds.all {K:PySem.W.Frag}{fd:FuncData}{ps:List Str} (h:∀ us:List Value,us.length=ps.length→bindArgs fd ⟨us,[]⟩=pure (ps.zip us)):Binds K fd ps []:=fun s us _ hl=>by
 rw [List.append_nil] at hl ⊢
 exact .of_eq (h us hl)
def qew (CX:CXT) (X:Cx) (E:XK):Prop:=∀ (pins:List (Addr×Obj)) (σ:St) (H:Hp) (s:Shared) (e:Value) (s':Shared),Inv X pins σ H s→CX X.stack H s E e s'→X.xe e s'
section
variable {X:Cx}{CX:CXT}{k:Nat}{f C:Addr}{fd:FuncData}{ps:List Str}{sp:Sp}{dvs:List V}{ds:List Value}{E:XK}{x m:Str}{p pos apos:Pos}{e o:Expr}{es:List Expr}{ta:TE}{t:TA}
theorem run_fn {pins:List (Addr×Obj)}{σ:St}{H:Hp}{s:Shared}{Q:VK}{us:List Value}{vs:List V} (F:FnOk X.prog X.w X.K X.mg X.base CX k f fd ps sp) (hr:Room k X.A) (hb:Binds X.K fd ps ds) (hd:Vals dvs ds) (hx:qew CX X E)
  (I:Inv X pins σ H s) (r:Vals vs us) (h:sp (vs++dvs) H Q E):wpAny (model X.prog X.w) X.A (call (.ref f) us) (EP X pins σ Q) X.xe s:=by
 have r2:Vals (vs++dvs) (us++ds):=r.append hd
 have hl:(us++ds).length=ps.length:=by rw [← r2.length];exact F.len _ _ _ _ h
 refine wpAny_call (codeAny_mono (F.run X.A X.stack s H ⟨us,[]⟩ (us++ds) (vs++dvs) Q E hr I.env0 (hb s us I.kIn hl) r2 h) fun r s' hq=>?_)
 cases r with
 | error e=>exact hx pins σ H s e s' I hq
 | ok fl =>
  cases fl with
  | ret u=>exact I.after hq
  | next=>exact False.elim hq
  | brk=>exact False.elim hq
  | cont=>exact False.elim hq
theorem pe_call (F:FnOk X.prog X.w X.K X.mg X.base CX k f fd ps sp) (hr:Room k X.A) (hg:Gl X x) (hm:X.mg x=some (.ref f)) (hk:PySem.W.keepIn X.K (.ref f)=true) (hb:Binds X.K fd ps ds) (hd:Vals dvs ds) (hx:qew CX X E)
  (ha:PA X (e::es) t) (hdb:(x == ("__debug__":Str))=false:=by decide) (he:starEach (e::es) X.env=(false,eval e X.env)::starEach es X.env:=by rfl) (hpl:(backTo pos (starEach es X.env)).any (·.1)=false:=by rfl) :
  PE X (.Call (.Name x p) (e::es) [] pos) (qej sp dvs E t):=by
 intro pins s σ H Q I h
 refine wpAny_Call_Name_kw (qgo I hg hm ?_ hdb)
 refine PySem.W.callWith_K (h₀:=X.base) I.ok.mod.kin hk (thn (ha pos pins s σ H _ I h) fun us s1 ⟨vs,H1,I1,r,q⟩=>⟨I1.kIn,?_⟩) he hpl
 exact run_fn F hr hb hd hx I1 r q
theorem pe_meth {pl:Sem Bool} (he:PE X o ta) (c:Cls X.K C) (hm:Meth X.K C m f) (F:FnOk X.prog X.w X.K X.mg X.base CX k f fd ps sp) (hr:Room k X.A) (hb:Binds X.K fd ps ds) (hd:Vals dvs ds) (hx:qew CX X E) (ha:PA X (e::es) t)
  (hst:starEach (e::es) X.env=(false,eval e X.env)::starEach es X.env:=by rfl) (hpl:(backTo pos (starEach es X.env)).any (·.1)=false:=by rfl)
  (ht:eval (.Call (.Attribute o m apos) (e::es) [] pos) X.env=(do
   let ov ← eval o X.env
   standAt apos.atName
   let (f,first) ← holding [ov] (getMethod ov m pl)
   callWith pos f first (backTo pos (starEach (e::es) X.env)) (backToKw pos (keywordEach [] X.env))):=by rfl) :
  PE X (.Call (.Attribute o m apos) (e::es) [] pos) (tMeth C m sp dvs E ta t):=by
 intro pins s σ H Q I h
 refine PySem.W.methodCall_KW (pl:=pl) (thn (he pins s σ H _ I h) fun u s1 ⟨x,H1,I1,rx,a,dx,fs,ex,ea,l,q⟩=>?_) ht
 subst ex
 obtain rfl:u=Value.ref a:=rx
 refine qir I1 ea c hm l ?_
 refine PySem.W.callWith_K (first:=[.ref a]) (h₀:=X.base) I.ok.mod.kin hm.kp (thn (ha pos pins s1 σ H1 _ I1 q) fun us s2 ⟨vs,H2,I2,r,q2⟩=>⟨I2.kIn,?_⟩) hst hpl
 exact run_fn (us:=.ref a::us) (vs:=.ref a::vs) F hr hb hd hx I2 (.cons rfl r) q2
theorem pe_meth0 {pl:Sem Bool} (he:PE X o ta) (c:Cls X.K C) (hm:Meth X.K C m f) (F:FnOk X.prog X.w X.K X.mg X.base CX k f fd ps sp) (hr:Room k X.A) (hb:Binds X.K fd ps ds) (hd:Vals dvs ds) (hx:qew CX X E)
  (ht:eval (.Call (.Attribute o m apos) [] [] pos) X.env=(do
   let ov ← eval o X.env
   standAt apos.atName
   let (f,first) ← holding [ov] (getMethod ov m pl)
   callWith pos f first (backTo pos (starEach [] X.env)) (backToKw pos (keywordEach [] X.env))):=by rfl) :
  PE X (.Call (.Attribute o m apos) [] [] pos) (tMeth C m sp dvs E ta tNil):=by
 intro pins s σ H Q I h
 refine PySem.W.methodCall_KW (pl:=pl) (thn (he pins s σ H _ I h) fun u s1 ⟨x,H1,I1,rx,a,dx,fs,ex,ea,l,q⟩=>?_) ht
 subst ex
 obtain rfl:u=Value.ref a:=rx
 refine qir I1 ea c hm l ?_
 exact PySem.W.callWith_K0 (first:=[.ref a]) I1.kIn hm.kp (run_fn (us:=[.ref a]) (vs:=[.ref a]) F hr hb hd hx I1 (.cons rfl .nil) q)
structure Mk (K:PySem.W.Frag) (C f:Addr):Prop where
 makes:PySem.W.makesIn K C=true
 init:PySem.W.findIn K (.ref C) "__init__"=some (some (.ref f))
 fn:PySem.W.isFn K (.ref f)=true
 kp:PySem.W.keepIn K (.ref C)=true
theorem run_make {pins:List (Addr×Obj)}{σ:St}{H:Hp}{s:Shared}{Q:VK}{us:List Value}{vs:List V} (M:Mk X.K C f) (F:FnOk X.prog X.w X.K X.mg X.base CX k f fd ps sp) (hr:Room (k+1) X.A) (hb:Binds X.K fd ps ds) (hd:Vals dvs ds)
  (hx:qew CX X E) (I:Inv X pins σ H s) (r:Vals vs us)
  (h:∀ x dx,H x=none→H dx=none→dx≠x→sp (.ref x::(vs++dvs)) (upd (upd H dx (.own x)) x (.ins C dx [])) (fun v H2=>v=.non∧Q (.ref x) H2) E) :
  wpAny (model X.prog X.w) X.A (call (.ref C) us) (EP X pins σ Q) X.xe s:=by
 have hq:=h (s.heap.objs.size+1) s.heap.objs.size (I.hok.fresh (Nat.le_succ _)) (I.hok.fresh (Nat.le_refl _)) (Nat.ne_of_lt (Nat.lt_succ_self _))
 have I2:=Inv.made (C:=C) I
 have r2:Vals (V.ref (s.heap.objs.size+1)::(vs++dvs)) (Value.ref (s.heap.objs.size+1)::(us++ds)):=.cons rfl (r.append hd)
 have hl:(Value.ref (s.heap.objs.size+1)::us++ds).length=ps.length:=by
  have e:=r2.length
  rw [F.len _ _ _ _ hq] at e
  exact e.symm
 refine wpAny_call (make_map (f:=f) I.kIn M.makes M.init (beq_iff_eq.mp M.fn) (codeAny_mono (F.run _ X.stack _ _ ⟨Value.ref (s.heap.objs.size+1)::us,[]⟩ (Value.ref (s.heap.objs.size+1)::(us++ds)) _ _ E (hr.make C us [])
  (I2.env0.make C us []) (hb _ (Value.ref (s.heap.objs.size+1)::us) I2.kIn hl) r2 hq) fun r s' hq'=>?_))
 cases r with
 | error e=>exact hx pins σ _ _ e s' I2 hq'
 | ok fl =>
  cases fl with
  | ret u =>
   obtain ⟨v,H',I3,rv,ev,q3⟩:=I2.after hq'
   subst ev
   exact ⟨rv,⟨V.ref (s.heap.objs.size+1),H',I3,rfl,q3⟩⟩
  | next=>exact False.elim hq'
  | brk=>exact False.elim hq'
  | cont=>exact False.elim hq'
theorem pe_make0 (M:Mk X.K C f) (F:FnOk X.prog X.w X.K X.mg X.base CX k f fd ps sp) (hr:Room (k+1) X.A) (hg:Gl X x) (hm:X.mg x=some (.ref C)) (hb:Binds X.K fd ps ds) (hd:Vals dvs ds) (hx:qew CX X E)
  (hdb:(x == ("__debug__":Str))=false:=by decide):PE X (.Call (.Name x p) [] [] pos) (tMake C sp dvs E tNil):=by
 intro pins s σ H Q I h
 refine wpAny_Call_Name_kw (qgo I hg hm ?_ hdb)
 exact PySem.W.callWith_K0 I.kIn M.kp (run_make (us:=[]) M F hr hb hd hx I .nil h)
end
section
variable {X:Cx}{CX:CXT}{k:Nat}{f C:Addr}{fd:FuncData}{ps ks:List Str}{sp:Sp}{E:XK}{x m:Str}{p pos apos kpos:Pos}{e o:Expr}{es:List Expr}{kws:List Keyword}{te ta:TE}{t tk:TA}{nm:Option Str}
structure KBinds (K:PySem.W.Frag) (fd:FuncData) (ps ks:List Str) (g:List Value→List Value→List Value) (gV:List V→List V→List V):Prop where
 to:∀ (s:Shared) (us ws:List Value),K.In s.heap→(g us ws).length=ps.length→BindsTo s fd ⟨us,ks.zip ws⟩ (ps.zip (g us ws))
 rel:∀ {vs:List V}{us:List Value}{zs:List V}{ws:List Value},Vals vs us→Vals zs ws→Vals (gV vs zs) (g us ws)
variable {g:List Value→List Value→List Value}{gV:List V→List V→List V}
end
structure FnScope (N P:List Str) (sc:Scope):Prop where
 kind:sc.kind=.function
 co:sc.isCoroutine=false
 gen:sc.isGenerator=false
 nd:N.Nodup
 pre:N.take P.length=P
 par:∀ x∈P,sc.names.lookup x=some .local∨sc.names.lookup x=some .cell
 nofree:∀ y∈sc.names,y.2≠.free
theorem qkv {kindOf:Str→Option NameKind}{x:Str}:∀ {binds:List (Str×Value)}{m:Str→Option Value},(∀ v,(x,v)∉binds)→bindL kindOf binds m x=m x
 | [],_,_=>rfl
 | (n,v)::r,m,h=>by
  unfold bindL
  rw [qkv fun w hw=>h w (List.mem_cons_of_mem _ hw)]
  split
  ·have:x≠n:=by rintro rfl;exact h v List.mem_cons_self
   simp [this]
  ·rfl
theorem qkx {kindOf:Str→Option NameKind}{x:Str}:∀ {binds:List (Str×Value)}{m:Str→Option Value},(∀ v,(x,v)∉binds)→bindC kindOf binds m x=m x
 | [],_,_=>rfl
 | (n,v)::r,m,h=>by
  unfold bindC
  rw [qkx fun w hw=>h w (List.mem_cons_of_mem _ hw)]
  split
  ·rfl
  ·have:x≠n:=by rintro rfl;exact h v List.mem_cons_self
   simp [this]
theorem qkw {kindOf:Str→Option NameKind}{x:Str}{v:Value}:∀ {P:List Str}{vs:List Value}{i:Nat}{m:Str→Option Value},P.Nodup→P[i]?=some x→vs[i]?=some v→kindOf x=some .local →
  bindL kindOf (P.zip vs) m x=some v
 | [],_,_,_,_,h,_,_=>by simp at h
 | _::_,[],_,_,_,_,h,_=>by simp at h
 | p::P,w::vs,0,m,nd,h1,h2,hk=>by
  simp at h1 h2;subst h1;subst h2
  show bindL kindOf ((p,w)::P.zip vs) m p=_
  unfold bindL
  rw [qkv fun v hv=>(List.nodup_cons.mp nd).1 (List.of_mem_zip hv).1,if_pos hk]
  simp
 | p::P,w::vs,i+1,m,nd,h1,h2,hk=>by
  show bindL kindOf ((p,w)::P.zip vs) m x=_
  unfold bindL
  exact qkw (i:=i) (List.nodup_cons.mp nd).2 (by simpa using h1) (by simpa using h2) hk
theorem qky {kindOf:Str→Option NameKind}{x:Str}{v:Value}:∀ {P:List Str}{vs:List Value}{i:Nat}{m:Str→Option Value},P.Nodup→P[i]?=some x→vs[i]?=some v→kindOf x≠some .local →
  bindC kindOf (P.zip vs) m x=some v
 | [],_,_,_,_,h,_,_=>by simp at h
 | _::_,[],_,_,_,_,h,_=>by simp at h
 | p::P,w::vs,0,m,nd,h1,h2,hk=>by
  simp at h1 h2;subst h1;subst h2
  show bindC kindOf ((p,w)::P.zip vs) m p=_
  unfold bindC
  rw [qkx fun v hv=>(List.nodup_cons.mp nd).1 (List.of_mem_zip hv).1,if_neg hk]
  simp
 | p::P,w::vs,i+1,m,nd,h1,h2,hk=>by
  show bindC kindOf ((p,w)::P.zip vs) m x=_
  unfold bindC
  exact qky (i:=i) (List.nodup_cons.mp nd).2 (by simpa using h1) (by simpa using h2) hk
def start (N:List Str) (vs:List V):St:=vs.map some++List.replicate (N.length - vs.length) none
def cxOf (CX:CXT) (P:Program) (w:World) (K:PySem.W.Frag) (mg:Str→Option Value) (base:Heap) (N:List Str) (qual:Str) (scope:Scope) (f:Addr) (cd:Value) (A:Around) (outer:List Env) (s:Shared) (H:Hp) (E:XK):Cx where
 prog:=P
 w:=w
 K:=K
 mg:=mg
 base:=base
 A:=A.deeper (envOfC qual scope s.heap.objs.size f cd)
 N:=N
 s₀:=s
 H₀:=H
 env:=envOfC qual scope s.heap.objs.size f cd
 outer:=outer
 stack:=envOfC qual scope s.heap.objs.size f cd::outer
 ex:=[]
 calm:=true
 fn:=fun _=>true
 pn:=[]
 xe:=fun e s'=>wpAny (model P w) (A.deeper (envOfC qual scope s.heap.objs.size f cd)) (leaving (envOfC qual scope s.heap.objs.size f cd) e) (fun _ s''=>CX outer H s E e s'') (fun e' s''=>CX outer H s E e' s'') s'
theorem qmp {sc:Scope}{n:Nat}{x:Str} (h:sc.names.lookup x=some .cell):∃ c,(cellsFrom n sc.names []).lookup x=some c:=by
 have q:=PySem.W.cellsFrom_some sc.names n [] (.inl h)
 exact Option.isSome_iff_exists.mp q
theorem inv_start {CX:CXT}{P:Program}{w:World}{K:PySem.W.Frag}{mg:Str→Option Value}{base:Heap}{N ps:List Str}{qual:Str}{scope:Scope}{f:Addr}{cd:Value}{A:Around}{outer:List Env}{s s1:Shared}{H:Hp}{E:XK}{us:List Value}{vs:List V}
  (S:FnScope N ps scope) (hd:A.handled=none) (e0:Env0 P w K mg base A outer s H) (hl:vs.length=ps.length) (r:Vals vs us)
  (x:InCallC s s.heap.objs.size (bindL (envOfC qual scope s.heap.objs.size f cd).kindOf (ps.zip us) fun _=>none) (cellsFrom (s.heap.objs.size+1) scope.names []) (bindC (envOfC qual scope s.heap.objs.size f cd).kindOf (ps.zip us) fun _=>none) s1) :
  Inv (cxOf CX P w K mg base N qual scope f cd A outer s H E) [] (start N vs) H s1:=by
 have hpl:ps.length≤N.length:=by have:=congrArg List.length S.pre;rw [List.length_take] at this;omega
 obtain ⟨h1,tk,rfl,hk⟩:=x.done
 have noA:∀ b:Addr,b∉(cxOf CX P w K mg base N qual scope f cd A outer s H E).ex:=fun b z=>absurd (show b∈([]:List Addr) from z) (by simp)
 refine ⟨⟨e0.mod,S.kind,rfl,rfl,Nat.le_refl _,fun y z c h1 h2=>?_,fun y hy=>?_,fun y c _ h=>?_,fun _=>hd,Around.frames_deeper e0.frames,.inr ⟨rfl,rfl⟩,fun b z=>absurd z (noA b),e0.bs,e0.bsz,fun b _ _=>noA b,fun b z=>absurd z (noA b),e0.funs,e0.frf⟩,
  rfl,e0.bare,Un.kept hk,⟨_,x.toInCall.ns,fun i y v h1 h2 h3=>?_⟩,fun y c h=>⟨_,x.cell y c h⟩,e0.hok.fresh (Nat.le_refl _),fun y c h=>?_,fun p hp=>absurd (show p∈([]:List (Addr×Obj)) from hp) (by simp),e0.hok.kept hk,?_⟩
 ·exact name_of_addr x.apart (PySem.mem_of_lookup h1) (PySem.mem_of_lookup h2)
 ·have hy:scope.names.lookup y=some .cell∨scope.names.lookup y=some .free:=hy
  rcases hy with hy | hy
  ·exact qmp hy
  ·exact absurd rfl (S.nofree _ (PySem.mem_of_lookup hy))
 ·exact Nat.le_of_lt (x.above y c (PySem.mem_of_lookup h))
 ·have hi:i < vs.length:=by
   unfold start at h2
   by_cases hi:i < vs.length
   ·exact hi
   ·rw [List.getElem?_append_right (by simpa using hi)] at h2
    rw [List.getElem?_replicate] at h2
    split at h2 <;> cases h2
  have ha:vs[i]?=some v:=by
   unfold start at h2
   rw [List.getElem?_append_left (by simpa using hi),List.getElem?_map] at h2
   cases e:vs[i]? with
   | none=>rw [e] at h2;cases h2
   | some a=>rw [e] at h2;cases h2;rfl
  obtain ⟨u,hu,rv⟩:=r.get ha
  have hp:ps[i]?=some y:=by
   rw [← S.pre,List.getElem?_take_of_lt (by omega)];exact h1
  have ndP:ps.Nodup:=by rw [← S.pre];exact S.nd.sublist (List.take_sublist _ _)
  refine ⟨u,rv,?_⟩
  rcases S.par y (List.mem_of_getElem? hp) with k | k
  ·exact .inl ⟨k,qkw ndP hp hu k⟩
  ·obtain ⟨c,e⟩:=qmp (n:=s.heap.objs.size+1) k
   refine .inr ⟨.inl k,c,e,?_⟩
   have q:=x.cell y c e
   rw [qky ndP hp hu (by show scope.names.lookup y≠_;rw [k];decide)] at q
   exact q
 ·exact e0.hok.fresh (Nat.le_of_lt (x.above y c (PySem.mem_of_lookup h)))
 ·unfold start
  show _=N.length
  rw [List.length_append,List.length_map,List.length_replicate]
  omega
theorem fn_of {CX:CXT}{P:Program}{w:World}{K:PySem.W.Frag}{mg:Str→Option Value}{base:Heap}{k:Nat}{f:Addr}{name qual:Str}{params:Arguments}{body:List Stmt}{scope:Scope}{dV kV doc pm cdv ct oc:Value}{an od:Option Addr}
  {osl:Array (Option Value)}{N ps:List Str}{sp:Sp} (lk:K.lookup f=some ⟨oc,od,.func (PySem.W.fnOf name qual params body scope dV kV doc pm an cdv ct),osl⟩) (hcd:PySem.W.codeIn K cdv qual=true) (S:FnScope N ps scope)
  (len:∀ vs H Q E,sp vs H Q E→vs.length=ps.length)
  (hbody:∀ (A:Around) (outer:List Env) (s:Shared) (H:Hp) (vs:List V) (Q:VK) (E:XK),Room k (A.deeper (envOfC qual scope s.heap.objs.size f cdv))→sp vs H Q E →
   ∃ t,PSs (cxOf CX P w K mg base N qual scope f cdv A outer s H E) body t∧t { nx:=fun _ H'=>Q .non H',rt:=Q } (start N vs) H) :
  FnOk P w K mg base CX (k+1) f (PySem.W.fnOf name qual params body scope dV kV doc pm an cdv ct) ps sp:=by
 refine ⟨len,fun A outer s H args us vs Q E hr e0 hb r hsp=>?_⟩
 have hl:=len _ _ _ _ hsp
 have KX:K.In s.heap:=e0.mod.kin.keeps fun b o e=>(e0.bs b o e).1
 have lim:s.heap.NoLimit:=e0.mod.nolimit.keeps fun b o e=>(e0.bs b o e).1
 have hkind:∀ y∈ps.zip us,scope.names.lookup y.1=some .local∨(scope.names.lookup y.1=some .cell∧((cellsFrom (s.heap.objs.size+1) scope.names []).lookup y.1).isSome=true):=fun ⟨n,v⟩ hy=>by
  rcases S.par n (List.of_mem_zip hy).1 with q | q
  ·exact .inl q
  ·exact .inr ⟨q,PySem.W.cellsFrom_some _ _ _ (.inl q)⟩
 refine codeAny_call_function hr.depth (KX _ _ lk) rfl S.co S.gen rfl (PySem.W.codeRec_of KX hcd) (hb _ _ _ _ ?_)
 refine wpAny_newFunctionEnv_cells S.kind hkind fun env he s1 x=>?_
 subst he
 refine ⟨lim.keeps x.toInCall.keep,codeAny_func ?_⟩
 obtain ⟨t,ht,hq⟩:=hbody A outer s H vs Q E (hr.deeper _) hsp
 have I:Inv (cxOf CX P w K mg base N qual scope f cdv A outer s H E) [] (start N vs) H s1:=inv_start S hr.hd e0 hl r x
 refine wpAny_mono (ht [] s1 (start N vs) H _ I hq) (fun fl s' hs=>?_) fun e s' hs=>hs
 have fin:∀ {σ':St}{H':Hp}{v:V}{u:Value},Inv (cxOf CX P w K mg base N qual scope f cdv A outer s H E) [] σ' H' s'→RelV v u→Q v H'→CE outer P w H s Q u s' :=
  fun {σ' H' v u} J rv q=>⟨v,H',J.os,J.bare,J.base,J.hok,rv,q⟩
 cases fl with
 | ret u =>
  obtain ⟨v,σ',H',J,rv,q⟩:=hs
  exact fin J rv q
 | next =>
  obtain ⟨σ',H',J,q⟩:=hs
  exact fin (v:=V.non) (u:=Value.none) J rfl q
 | brk =>
  obtain ⟨_,_,_,q⟩:=hs
  exact False.elim q
 | cont =>
  obtain ⟨_,_,_,q⟩:=hs
  exact False.elim q
end L2
namespace L2
open PySem PySem.Spec PyProof.Rows
section
variable {X:Cx}{x:Str}{p pos:Pos}{e:Expr}{es:List Expr}{t:TA}{id T:String}{r:List V→Hp→VK→Prop}
def tCB (r:List V→Hp→VK→Prop) (t:TA):TE:=fun σ H Q=>t σ H fun vs H1=>r vs H1 Q
theorem qap (hc:qgy X (.builtin id) r) (hg:Gl X x) (hm:X.mg x=none) (hv:bootBuiltins x=some (.builtin id)) (ha:PA X (e::es) t) (hn:x≠"__name__":=by decide) (hdb:(x == ("__debug__":Str))=false:=by decide)
  (he:starEach (e::es) X.env=(false,eval e X.env)::starEach es X.env:=by rfl) (hpl:(backTo pos (starEach es X.env)).any (·.1)=false:=by rfl):PE X (.Call (.Name x p) (e::es) [] pos) (tCB r t):=by
 intro pins s σ H Q I h
 refine wpAny_Call_Name_kw (qmb I hg hm hv ?_ hn hdb)
 exact PyProof.Rows.callWith_builtin1 (thn (ha pos pins s σ H _ I h) fun us s1 ⟨vs,H1,I1,r1,q1⟩=>hc pins s1 σ H1 vs us Q I1 r1 q1) he hpl
theorem qbq (hc:qgy X (.type T) r) (hg:Gl X x) (hm:X.mg x=none) (hv:bootBuiltins x=some (.type T)) (ha:PA X (e::es) t) (hn:x≠"__name__":=by decide) (hdb:(x == ("__debug__":Str))=false:=by decide)
  (he:starEach (e::es) X.env=(false,eval e X.env)::starEach es X.env:=by rfl) (hpl:(backTo pos (starEach es X.env)).any (·.1)=false:=by rfl):PE X (.Call (.Name x p) (e::es) [] pos) (tCB r t):=by
 intro pins s σ H Q I h
 refine wpAny_Call_Name_kw (qmb I hg hm hv ?_ hn hdb)
 exact PyProof.Rows.callWith_type1 (thn (ha pos pins s σ H _ I h) fun us s1 ⟨vs,H1,I1,r1,q1⟩=>hc pins s1 σ H1 vs us Q I1 r1 q1) he hpl
end
end L2
namespace HT
open PySem PyProof.Rows
section
open PySem.SeqAt
open PySem.AutoSeq1 (wpAny_loadPart')
open PySem.MeetsSeq PySem.MeetsSeq2 PySem.MeetsSeq3
end
section
variable {prog:Program}{w:World}{A:Around}{E:Value→Shared→Prop}{s:Shared}
def sIx (n d:Nat):Option Int→Nat
 | none=>d
 | some v=>if v < 0 then (v+(n:Int)).toNat else min v.toNat n
theorem sIx_nat (n d k:Nat):sIx n d (some (k:Int))=min k n:=by
 show (if (k:Int) < 0 then ((k:Int)+(n:Int)).toNat else min (k:Int).toNat n)=min k n
 rw [if_neg (by omega),Int.toNat_natCast]
theorem sIx_le (n d:Nat) (hd:d≤n) (o:Option Int):sIx n d o≤n:=by
 cases o with
 | none=>exact hd
 | some v =>
  show (if v < 0 then (v+(n:Int)).toNat else min v.toNat n)≤n
  by_cases hv:v < 0
  ·rw [if_pos hv];omega
  ·rw [if_neg hv];exact Nat.min_le_right _ _
theorem clip_eq (v:Int) (n d:Nat):(if v < 0 then max (v+(n:Int)) 0 else min v (n:Int))=((sIx n d (some v):Nat):Int):=by
 show (if v < 0 then max (v+(n:Int)) 0 else min v (n:Int))=(((if v < 0 then (v+(n:Int)).toNat else min v.toNat n):Nat):Int)
 by_cases hv:v < 0
 ·simp only [if_pos hv];omega
 ·simp only [if_neg hv];omega
theorem adjust_gen (lo hi:Option Int) (n:Nat):Builtin.Slice.sliceAdjust lo hi 1 (n:Int)=(((sIx n 0 lo:Nat):Int),((sIx n n hi:Nat):Int)):=by
 have h1:¬ ((1:Int) < 0):=by omega
 unfold Builtin.Slice.sliceAdjust
 simp only [h1,if_false]
 refine Prod.ext ?_ ?_
 ·cases lo with
  | none=>rfl
  | some v=>exact clip_eq v n 0
 ·cases hi with
  | none=>rfl
  | some v=>exact clip_eq v n n
theorem places_gen (i j:Nat):Builtin.Slice.slicePlaces (i:Int) (j:Int) 1=j - i:=by
 unfold Builtin.Slice.slicePlaces
 have h1:(1:Int) > 0:=by omega
 simp only [h1,if_true,Int.ediv_one]
 split <;> omega
theorem qie {v:Value}{o:Option Int}{Q:Option Int→Shared→Prop} (p:IsPart v o) (h:Q o s):wpAny (model prog w) A (Builtin.Slice.slicePartIndex v) Q E s:=by
 cases p with
 | none=>exact slicePart_none h
 | int i t=>exact slicePart_int h
theorem qgw {sl:Addr}{vl vu:Value}{lo hi:Option Int}{n:Nat}{Q:Int×Int×Nat→Shared→Prop} (hs:s.heap.IsSliceOf sl vl vu .none) (pl:IsPart vl lo) (pu:IsPart vu hi)
  (h:Q (((sIx n 0 lo:Nat):Int),1,sIx n n hi - sIx n 0 lo) s):wpAny (model prog w) A (Builtin.Slice.sliceApplied (.ref sl) (pure (n:Int))) Q E s:=by
 obtain ⟨os,hos,hcs,hds⟩:=id hs
 unfold Builtin.Slice.sliceApplied Builtin.Slice.sliceFields
 refine wpAny_bind (wpAny_bind (wpAny_field hos hds (x:=vl) rfl (wpAny_bind (wpAny_field hos hds (x:=vu) rfl (wpAny_bind (wpAny_field hos hds (x:=.none) rfl (wpAny_pure ?_)))))))
 refine wpAny_bind (slicePart_none ?_)
 show wpAny _ _ (if ((1:Int) == 0)=true then _ else _) _ _ s
 rw [if_neg (by decide)]
 refine wpAny_bind (qie pl (wpAny_bind (qie pu (wpAny_bind (wpAny_pure ?_)))))
 show wpAny _ _ (match Builtin.Slice.sliceAdjust lo hi 1 (n:Int) with | (lo,hi)=>pure (lo,(1:Int),Builtin.Slice.slicePlaces lo hi 1)) _ _ s
 rw [adjust_gen lo hi n]
 show wpAny _ _ (pure (((sIx n 0 lo:Nat):Int),(1:Int),Builtin.Slice.slicePlaces ((sIx n 0 lo:Nat):Int) ((sIx n n hi:Nat):Int) 1)) _ _ s
 rw [places_gen]
 exact wpAny_pure h
theorem pick_gen (xs:Array Value) (i k:Nat):((List.range k).filterMap fun (m:Nat)=>xs[((i:Int)+(m:Int) * 1).toNat]?).toArray=((xs.toList.drop i).take k).toArray:=by
 have e:(fun (m:Nat)=>xs[((i:Int)+(m:Int) * 1).toNat]?)=fun m=>xs[i+m]?:=by
  funext m
  have:((i:Int)+(m:Int) * 1).toNat=i+m:=by omega
  rw [this]
 rw [e]
 have:=pick_run xs i k
 rw [List.filterMap_map] at this
 have e2:((fun x=>xs[x]?) ∘ fun x=>i+x)=fun m=>xs[i+m]?:=rfl
 rw [e2] at this
 rw [this]
theorem getItem_tuple_cut {t sl:Addr}{items:Array Value}{vl vu:Value}{lo hi:Option Int}{Q:Value→Shared→Prop} (ht:IsTup s.heap t items) (hs:s.heap.IsSliceOf sl vl vu .none) (pl:IsPart vl lo) (pu:IsPart vu hi)
  (hw:¬ (sIx items.size 0 lo=0∧sIx items.size items.size hi=items.size))
  (h:Q (.ref s.heap.objs.size) { s with heap:=s.heap.push { cls:=.type "tuple",data:=.seq ((items.toList.drop (sIx items.size 0 lo)).take (sIx items.size items.size hi - sIx items.size 0 lo)).toArray } })
  (hsz:items.size≤sizeLine):wpAny (model prog w) A (getItem (.ref t) (.ref sl)) Q E s:=by
 have htake:sizeOk (.seq ((items.toList.drop (sIx items.size 0 lo)).take (sIx items.size items.size hi - sIx items.size 0 lo)).toArray):=by
  show ((items.toList.drop (sIx items.size 0 lo)).take (sIx items.size items.size hi - sIx items.size 0 lo)).toArray.size≤sizeLine
  rw [List.size_toArray,List.length_take,List.length_drop,Array.length_toList]
  omega
 have hj:sIx items.size items.size hi≤items.size:=sIx_le _ _ (Nat.le_refl _) hi
 obtain ⟨os,hos,hcs,hds⟩:=id hs
 have hTs:s.TypeIs (.ref sl) "slice":=⟨os,hos,hcs⟩
 unfold getItem
 try with_reducible refine wpAny_holding ?_
 first | refine wpAny_bind (wpAny_pure ?_) | skip
 refine wpAny_bind (wpAny_sequenceKey ht.typeIs (by decide) ?_)
 refine wpAny_bind (wpAny_callSpecial?_slot (name:=Str.ofString "__getitem__") ht.typeIs PyProof.Rows.slot_tuple_getitem
  (wpAny_call_entry PyProof.Rows.slot_tuple_getitem ht.typeIs entry_tuple_getitem ?_ (args_tuple_getitem _ _)))
 show wpAny _ _ (Builtin.Tuple.tupleItemsOf (.ref t) >>= _) _ _ s
 refine wpAny_bind (tupleItemsOf_ ht ?_)
 refine wpAny_bind (wpAny_typeOf hTs ?_)
 rw [if_pos (by decide)]
 refine wpAny_bind (qgw hs pl pu ?_)
 have hno:¬ ((((sIx items.size 0 lo:Nat):Int) == 0 && (1:Int) == 1 && (sIx items.size items.size hi - sIx items.size 0 lo) == items.size)=true):=by
  intro q
  rw [Bool.and_eq_true,Bool.and_eq_true] at q
  have q1:((sIx items.size 0 lo:Nat):Int)=0:=eq_of_beq q.1.1
  have q2:sIx items.size items.size hi - sIx items.size 0 lo=items.size:=eq_of_beq q.2
  exact hw ⟨by omega,by omega⟩
 show wpAny _ _ (if (((sIx items.size 0 lo:Nat):Int) == 0 && (1:Int) == 1 && (sIx items.size items.size hi - sIx items.size 0 lo) == items.size)=true then _ else _) _ _ s
 rw [if_neg hno,pick_gen]
 first
  | exact wpAny_bind (m:=Builtin.Tuple.tupleExact _) (wpAny_newObj_type (wpAny_pure ⟨_,rfl,wpAny_pure h⟩) htake)
  | exact wpAny_bind (m:=Builtin.Tuple.tupleExact _) (wpAny_newObj_type (wpAny_bind (wpAny_pure (wpAny_pure ⟨_,rfl,wpAny_pure h⟩))) htake)
  | exact wpAny_bind (wpAny_bind (m:=Builtin.Tuple.tupleExact _) (wpAny_newObj_type (wpAny_pure (wpAny_pure ⟨_,rfl,wpAny_pure h⟩)) htake))
  | exact wpAny_bind (wpAny_bind (m:=Builtin.Tuple.tupleExact _) (wpAny_newObj_type (wpAny_pure ⟨_,rfl,wpAny_pure h⟩) htake))
end
end HT
namespace L2
open PySem PySem.Spec PyProof.Rows
abbrev TO:=St→Hp→(Option Int→Hp→Prop)→Prop
def PO (X:Cx) (e:Option Expr) (t:TO):Prop :=
 ∀ (pins:List (Addr×Obj)) (s:Shared) (σ:St) (H:Hp) (Q:Option Int→Hp→Prop),Inv X pins σ H s→t σ H Q →
  wpAny (model X.prog X.w) X.A (evalPart e X.env) (fun u s'=>∃ o H',Inv X pins σ H' s'∧IsPart u o∧Q o H') X.xe s
def qge:TO:=fun _ H Q=>Q none H
def tPart (t:TE):TO:=fun σ H Q=>t σ H fun x H1=>∃ i,x=.int i∧Q (some i) H1
section
variable {X:Cx}{e:Expr}{te:TE}{lo hi:Option Expr}{tl th:TO}{pos p2:Pos}
theorem qhj:PO X none qge:=by
 intro pins s σ H Q I h
 rw [evalPart_none]
 exact wpAny_pure ⟨none,H,I,.none,h⟩
theorem qfo (h:PE X e te):PO X (some e) (tPart te):=by
 intro pins s σ H Q I hw
 rw [evalPart_some]
 refine thn (h pins s σ H _ I hw) fun u s1 ⟨x,H1,I1,r1,q1⟩=>?_
 obtain ⟨i,rfl,q⟩:=q1
 obtain ⟨t,rfl⟩:=r1
 exact ⟨some i,H1,I1,.int i t,q⟩
def SlR (X:Cx) (r:V→Option Int→Option Int→Hp→VK→Prop):Prop :=
 ∀ (pins:List (Addr×Obj)) (s:Shared) (σ:St) (H:Hp) (x:V) (v vl vu:Value) (lo hi:Option Int) (sl:Addr) (Q:VK),Inv X pins σ H s→RelV x v→s.heap.IsSliceOf sl vl vu .none→IsPart vl lo→IsPart vu hi→r x lo hi H Q →
  ∃ T id,typeLookup (.type T) "__getitem__"=pure (some (.builtin id))∧s.TypeIs v T∧wpAny (model X.prog X.w) X.A (getItem v (.ref sl)) (EP X pins σ Q) X.xe s
def tSl (r:V→Option Int→Option Int→Hp→VK→Prop) (te:TE) (tl th:TO):TE:=fun σ H Q=>te σ H fun x H1=>tl σ H1 fun l H2=>th σ H2 fun u H3=>r x l u H3 Q
theorem qff {r:V→Option Int→Option Int→Hp→VK→Prop} (hr:SlR X r) (he:PE X e te) (hl:PO X lo tl) (hu:PO X hi th):PE X (.Subscript e (.Slice lo hi none p2) pos) (tSl r te tl th):=by
 intro pins s σ H Q I h
 refine Subscript_ (thn (he pins s σ H _ I h) fun v s1 ⟨x,H1,I1,r1,q1⟩=>?_)
 refine wpAny_Slice (thn (hl pins s1 σ H1 _ I1 q1) fun vl s2 ⟨l,H2,I2,pl,q2⟩=>thn (hu pins s2 σ H2 _ I2 q2) fun vu s3 ⟨u,H3,I3,pu,q3⟩=>?_)
 rw [evalPart_none]
 refine wpAny_pure ?_
 have I4:Inv X pins σ H3 { s3 with heap:=s3.heap.push { cls:=.type "slice",data:=.fields #[vl,vu,.none] } }:=I3.kept (t':=s3.toks) fun b ob q=>Heap.get?_push_of_some _ q
 obtain ⟨T,id,hT,ht,hg⟩:=hr pins { s3 with heap:=s3.heap.push { cls:=.type "slice",data:=.fields #[vl,vu,.none] } } σ H3 x v vl vu l u s3.heap.objs.size Q I4 r1 (Heap.IsSliceOf.new ..) pl pu q3
 show wpAny (model X.prog X.w) X.A (subscriptTail e (.Slice lo hi none p2) v (.ref s3.heap.objs.size)) (EP X pins σ Q) X.xe { s3 with heap:=s3.heap.push { cls:=.type "slice",data:=.fields #[vl,vu,.none] } }
 exact tail_any (ops:=[.ref s3.heap.objs.size,v]) ht hT hg (by with_unfolding_all rfl)
def cutV (xs:List V) (lo hi:Option Int):List V:=(xs.drop (HT.sIx xs.length 0 lo)).take (HT.sIx xs.length xs.length hi - HT.sIx xs.length 0 lo)
theorem qhy (xs:List V) (lo hi:Option Int):(cutV xs lo hi).length≤xs.length:=by
 unfold cutV
 rw [List.length_take,List.length_drop]
 omega
def rSlT (K:PySem.W.Frag):V→Option Int→Option Int→Hp→VK→Prop:=fun x lo hi H Q=>∃ a xs,x=.ref a∧SqT K H a xs ∧
 ¬ (HT.sIx xs.length 0 lo=0∧HT.sIx xs.length xs.length hi=xs.length)∧∀ p,H p=none→Q (.ref p) (upd H p (.tup (cutV xs lo hi)))
theorem sl_tup:SlR X (rSlT X.K):=by
 intro pins s σ H x v vl vu lo hi sl Q I rx hs pl pu h
 obtain ⟨a,xs,rfl,hx,hw,q⟩:=h
 cases rx
 obtain ⟨its,r,ht,hz⟩:=I.tuple hx
 have hlen:its.toArray.size=xs.length:=by rw [List.size_toArray];exact r.length.symm
 refine ⟨"tuple",_,PyProof.Rows.slot_tuple_getitem.lookup,ht.typeIs,?_⟩
 refine HT.getItem_tuple_cut ht hs pl pu (by rw [hlen];exact hw) ?_ (by rw [hlen];exact hz)
 rw [hlen]
 refine ⟨.ref s.heap.objs.size,_,I.laid (t':=s.toks) (o:=.tup (cutV xs lo hi)) (fun b ob q=>Heap.get?_push_of_some _ q) (Nat.le_refl _) ?_,rfl,q _ (I.hok.fresh (Nat.le_refl _))⟩
 exact ⟨Nat.le_trans (qhy xs lo hi) hz,_,(r.drop (HT.sIx xs.length 0 lo)).take (HT.sIx xs.length xs.length hi - HT.sIx xs.length 0 lo),IsTup.new _ _⟩
end
end L2
namespace L2
open PySem PySem.Spec PyProof.Rows
def ixN (n:Nat) (i:Int):Option Nat:=if 0≤i then (if i < n then some i.toNat else none) else if -(n:Int)≤i then some (i+n).toNat else none
def atI {α:Type} (xs:List α) (i:Int):Option α:=(ixN xs.length i).bind fun j=>xs[j]?
theorem ixN_seq {n:Nat}{i:Int}{j:Nat} (h:ixN n i=some j):seqIndex? i n=some j∧j < n∧-(n:Int)≤i∧i < n:=by
 unfold ixN at h
 by_cases h0:0≤i
 ·rw [if_pos h0] at h
  by_cases h1:i < n
  ·rw [if_pos h1] at h
   have e:i.toNat=j:=Option.some.inj h
   exact ⟨by rw [seqIndex_of h0 h1,e],by omega,by omega,h1⟩
  ·rw [if_neg h1] at h;cases h
 ·rw [if_neg h0] at h
  by_cases h1:-(n:Int)≤i
  ·rw [if_pos h1] at h
   have e:(i+n).toNat=j:=Option.some.inj h
   exact ⟨by rw [seqIndex_neg (by omega) h1,e],by omega,h1,by omega⟩
  ·rw [if_neg h1] at h;cases h
theorem qlv {α:Type}{xs:List α}{i:Int}{v:α} (h:atI xs i=some v):∃ j,seqIndex? i xs.length=some j∧xs[j]?=some v∧j < xs.length∧-(xs.length:Int)≤i∧i < xs.length:=by
 unfold atI at h
 cases e:ixN xs.length i with
 | none=>rw [e] at h;cases h
 | some j =>
  rw [e] at h
  obtain ⟨h1,h2,h3,h4⟩:=ixN_seq e
  exact ⟨j,h1,h,h2,h3,h4⟩
theorem qai {α:Type}{xs:List α}{j:Nat}{v:α} (h:xs[j]?=some v):atI xs (j:Int)=some v:=by
 have hj:j < xs.length:=(List.getElem?_eq_some_iff.mp h).1
 have e:ixN xs.length (j:Int)=some j:=by
  unfold ixN
  rw [if_pos (by omega),if_pos (by omega)];simp
 unfold atI;rw [e];exact h
def PlainIx (b:Expr):Prop:=∀ o i,subscripted b false o i=operate [o,i] (getItem o i)
def IxR (X:Cx) (r:R2):Prop :=
 ∀ (value slice:Expr) (pins:List (Addr×Obj)) (s:Shared) (σ:St) (H:Hp) (x y:V) (v u:Value) (Q:VK),Inv X pins σ H s→RelV x v→RelV y u→r x y H Q →
  subscripted slice false v u=operate [v,u] (getItem v u)→wpAny (model X.prog X.w) X.A (subscriptTail value slice v u) (EP X pins σ Q) X.xe s
def MtR (X:Cx) (id:String) (r:V→List V→Hp→VK→Prop):Prop :=
 ∀ (pins:List (Addr×Obj)) (s:Shared) (σ:St) (H:Hp) (x:V) (xs:List V) (v:Value) (us:List Value) (Q:VK),Inv X pins σ H s→RelV x v→Vals xs us→r x xs H Q →
  wpAny (model X.prog X.w) X.A (call (.builtin id) (v::us)) (EP X pins σ Q) X.xe s
section
variable {X:Cx}{a b:Expr}{ta tb:TE}{pos:Pos}
theorem qam {r:R2} (hr:IxR X r) (ha:PE X a ta) (hb:PE X b tb) (hs:PlainIx b):PE X (.Subscript a b pos) (tOp r ta tb):=by
 intro pins s σ H Q I h
 exact Subscript_ (binT ha hb I h fun v u s2 x y H2 I2 rx ry q=>hr a b pins s2 σ H2 x y v u Q I2 rx ry q (hs _ _))
def rIxL (K:PySem.W.Frag):R2:=fun x y H Q=>∃ p xs i v,x=.ref p∧y=.int i∧SqL K H p xs∧atI xs i=some v∧Q v H
def rIxT (K:PySem.W.Frag):R2:=fun x y H Q=>∃ p xs i v,x=.ref p∧y=.int i∧SqT K H p xs∧atI xs i=some v∧Q v H
def rIxS:R2:=fun x y H Q=>∃ z i c,x=.str z∧y=.int i∧z.length≤sizeLine∧atI z.cps.toList i=some c∧Q (.str ⟨#[c]⟩) H
theorem qa0:IxR X (rIxL X.K):=by
 intro value slice pins s σ H x y v u Q I rx ry h hs
 obtain ⟨p,xs,i,z,rfl,rfl,hq,he,q⟩:=h
 cases rx
 obtain ⟨t,rfl⟩:=ry
 obtain ⟨its,r,pl,hz⟩:=I.list hq
 obtain ⟨j,h1,h2,h3,h4,h5⟩:=qlv he
 obtain ⟨w,ew,rw'⟩:=r.get h2
 have hl:=r.length
 have hn:=qip
 have fin:EP X pins σ Q w s:=⟨z,H,I,rw',q⟩
 by_cases h0:0≤i
 ·have hj:i.toNat=j:=by
   rw [seqIndex_of h0 h5] at h1
   exact Option.some.inj h1
  exact item_listR pl.isList h0 (by omega) (by rw [hj];simpa using ew) fin hs
 ·have hj:(i+(its.toArray.size:Int)).toNat=j:=by
   rw [seqIndex_neg (by omega) h4] at h1
   rw [List.size_toArray,← hl]
   exact Option.some.inj h1
  exact subscriptTail_builtinR (x:=w) pl.isList.typeIs slot_list_getitem.lookup
   (wpAny_getItem_list_neg (Q:=fun r s'=>r=w∧EP X pins σ Q r s') pl.isList (by omega) (by rw [List.size_toArray] <;> omega) (by omega) (by rw [hj];simpa using ew) ⟨rfl,fin⟩) hs
theorem qal:IxR X (rIxT X.K):=by
 intro value slice pins s σ H x y v u Q I rx ry h hs
 obtain ⟨p,xs,i,z,rfl,rfl,hq,he,q⟩:=h
 cases rx
 obtain ⟨t,rfl⟩:=ry
 obtain ⟨its,r,pl,hz⟩:=I.tuple hq
 obtain ⟨j,h1,h2,h3,h4,h5⟩:=qlv he
 obtain ⟨w,ew,rw'⟩:=r.get h2
 have hl:=r.length
 have hn:=qip
 have fin:EP X pins σ Q w s:=⟨z,H,I,rw',q⟩
 exact subscriptTail_builtinR (x:=w) pl.typeIs slot_tuple_getitem.lookup
  (getItem_tuple (j:=j) (Q:=fun r s'=>r=w∧EP X pins σ Q r s') pl (by omega) (by omega) (by rw [List.size_toArray,← hl];exact h1) (by simpa using ew) ⟨rfl,fin⟩) hs
theorem ix_str:IxR X rIxS:=by
 intro value slice pins s σ H x y v u Q I rx ry h hs
 obtain ⟨z,i,c,rfl,rfl,hz,he,q⟩:=h
 obtain ⟨t,rfl⟩:=rx
 obtain ⟨t',rfl⟩:=ry
 obtain ⟨j,h1,h2,h3,h4,h5⟩:=qlv he
 have hl:z.cps.toList.length=z.length:=by simp [Str.length]
 rw [hl] at h1 h4 h5
 have hn:=qip
 exact tail_any (typeIs_str s z t) slot_str_getitem.lookup (getItem_str (c:=c) (by
  have e1:decide (i < -(2 ^ 63:Int))=false:=decide_eq_false (by omega)
  have e2:decide (i ≥ 2 ^ 63)=false:=decide_eq_false (by omega)
  rw [e1,e2,Bool.or_false]) (by rw [h1];simpa using h2) ⟨.str ⟨#[c]⟩,H,I.tok _,⟨_,rfl⟩,q⟩) hs
theorem mapSeq_set (its:List Value) (n j:Nat) (u:Value):Obj.mapSeq (·.setIfInBounds j u) { cls:=.type "list",data:=.seq its.toArray n }={ cls:=.type "list",data:=.seq (its.set j u).toArray n }:=by
 simp [Obj.mapSeq]
theorem Inv.lst {pins:List (Addr×Obj)}{σ:St}{H:Hp}{s:Shared}{p:Addr}{xs:List V} (I:Inv X pins σ H s) (h:H p=some (.lst xs)) :
  ∃ (its:List Value) (n:Nat),Vals xs its∧s.heap.get? p=some { cls:=.type "list",data:=.seq its.toArray n }∧xs.length≤sizeLine:=by
 obtain ⟨z,its,n,r,e⟩:=I.hok p _ h
 exact ⟨its,n,r,e,z⟩
theorem Inv.lstUpd {pins:List (Addr×Obj)}{σ:St}{H:Hp}{s:Shared}{p:Addr}{xs ys:List V}{its its':List Value}{n n':Nat}{f:Obj→Obj} (I:Inv X pins σ H s) (h:H p=some (.lst xs))
  (ho:s.heap.get? p=some { cls:=.type "list",data:=.seq its.toArray n }) (hf:f { cls:=.type "list",data:=.seq its.toArray n }={ cls:=.type "list",data:=.seq its'.toArray n' }) (r:Vals ys its') (hz:ys.length≤sizeLine) (t:Nat) :
  Inv X pins σ (upd H p (.lst ys)) { s with heap:=s.heap.update p f,toks:=t }:=by
 have e:(s.heap.update p f).get? p=some { cls:=.type "list",data:=.seq its'.toArray n' }:=by
  rw [Heap.get?_update_self f ho (by rw [hf] <;> rfl),hf]
 refine I.write (x:=p) (e:=p) (by rw [h];trivial) (.inl rfl) (fun b u hb q=>(Heap.get?_update_other _ _ (Ne.symm hb)).trans q) ⟨_,e⟩ ?_
 exact ⟨hz,its',n',r,e⟩
def rSetL:V→V→V→Hp→(Hp→Prop)→Prop:=fun o i v H Q=>∃ p xs k j,o=.ref p∧i=.int k∧H p=some (.lst xs)∧ixN xs.length k=some j∧Q (upd H p (.lst (xs.set j v)))
theorem ql0:PSet X rSetL:=by
 intro pins s σ H o i v ov iv u Q I ro ri rv h
 obtain ⟨p,xs,k,j,rfl,rfl,hp,hj,q⟩:=h
 cases ro
 obtain ⟨t,rfl⟩:=ri
 obtain ⟨its,n,r,ho,hz⟩:=I.lst hp
 obtain ⟨h1,h2,h3,h4⟩:=ixN_seq hj
 have hl:=r.length
 have hn:=qip
 have I':Inv X pins σ (upd H p (.lst (xs.set j v))) { s with heap:=s.heap.update p (Obj.mapSeq (·.setIfInBounds j u)) } :=
  I.lstUpd hp ho (mapSeq_set its n j u) (r.set rv j) (by rw [List.length_set];exact hz) s.toks
 by_cases h0:0≤k
 ·have hk:k.toNat=j:=by
   rw [seqIndex_of h0 h4] at h1
   exact Option.some.inj h1
  exact PySem.W.ki_setAt ho h0 (by omega) (by rw [List.size_toArray,← hl];exact h4) (by rw [hk];exact ⟨_,I',q⟩)
 ·have hk:(k+(its.toArray.size:Int)).toNat=j:=by
   rw [seqIndex_neg (by omega) h3] at h1
   rw [List.size_toArray,← hl]
   exact Option.some.inj h1
  exact PySem.W.ki_setBack ho (by omega) (by rw [List.size_toArray,← hl];exact h3) (by omega) (by rw [hk];exact ⟨_,I',q⟩)
theorem qj1 (lo hi:Option Int) (n:Nat):(sliceBounds lo hi none n).1=((HT.sIx n 0 lo:Nat):Int)∧(sliceBounds lo hi none n).2.1=((HT.sIx n n hi:Nat):Int)∧(sliceBounds lo hi none n).2.2=1:=by
 refine ⟨?_,?_,rfl⟩
 ·cases lo with
  | none=>simp [sliceBounds,HT.sIx]
  | some i =>
   simp only [sliceBounds,HT.sIx,Option.getD_none,show (1:Int) > 0 by decide,if_true]
   by_cases h:i < 0
   ·simp only [h,if_true] <;> omega
   ·simp only [h,if_false] <;> omega
 ·cases hi with
  | none=>simp [sliceBounds,HT.sIx]
  | some i =>
   simp only [sliceBounds,HT.sIx,Option.getD_none,show (1:Int) > 0 by decide,if_true]
   by_cases h:i < 0
   ·simp only [h,if_true] <;> omega
   ·simp only [h,if_false] <;> omega
theorem qjd (its:List Value) (lo hi:Option Int):slicePick its.toArray lo hi none=((its.drop (HT.sIx its.length 0 lo)).take (HT.sIx its.length its.length hi - HT.sIx its.length 0 lo)).toArray:=by
 obtain ⟨h1,h2,h3⟩:=qj1 lo hi its.toArray.size
 unfold slicePick
 rw [h1,h2,h3]
 simp only [sliceRange_one,pick_run,List.size_toArray] <;> rfl
def rSlL (K:PySem.W.Frag):V→Option Int→Option Int→Hp→VK→Prop:=fun x lo hi H Q=>∃ a xs,x=.ref a∧SqL K H a xs∧∀ p,H p=none→Q (.ref p) (upd H p (.lst (cutV xs lo hi)))
theorem qhg:SlR X (rSlL X.K):=by
 intro pins s σ H x v vl vu lo hi sl Q I rx hs pl pu h
 obtain ⟨a,xs,rfl,hx,q⟩:=h
 cases rx
 obtain ⟨its,r,ht,hz⟩:=I.list hx
 have hlen:=r.length
 refine ⟨"list",_,slot_list_getitem.lookup,ht.isList.typeIs,?_⟩
 refine wpAny_getItem_list_slice ht.isList hs pl pu .none (by simp) ?_ (by rw [List.size_toArray] <;> omega)
 rw [qjd,← hlen]
 refine ⟨.ref s.heap.objs.size,_,I.laid (t':=s.toks) (o:=.lst (cutV xs lo hi)) (fun b ob q=>Heap.get?_push_of_some _ q) (Nat.le_refl _) ?_,rfl,q _ (I.hok.fresh (Nat.le_refl _))⟩
 exact ⟨Nat.le_trans (qhy xs lo hi) hz,_,0,(r.drop (HT.sIx xs.length 0 lo)).take (HT.sIx xs.length xs.length hi - HT.sIx xs.length 0 lo),Heap.get?_push_size _ rfl⟩
def qe7:V→Bool
 | .non=>true
 | .bl _=>true
 | .int _=>true
 | .str _=>true
 | _=>false
def eqV:V→V→Bool
 | .non,.non=>true
 | .bl a,.bl b=>a == b
 | .bl a,.int b=>(if a then 1 else 0) == b
 | .int a,.bl b=>a == (if b then 1 else 0)
 | .int a,.int b=>a == b
 | .str a,.str b=>a == b
 | _,_=>false
theorem eqAt_V {A:Around}{s:Shared}{y x:V}{u v:Value} (ry:RelV y u) (rx:RelV x v) (fy:qe7 y=true) (fx:qe7 x=true):SeqAt.EqAt A s u v (eqV y x):=by
 cases y with
 | non =>
  cases ry
  cases x with
  | non=>cases rx;exact SeqAt.EqAt.same _
  | bl b=>cases rx;exact SeqAt.EqAt.none_bool b
  | int b=>obtain ⟨t,rfl⟩:=rx;exact SeqAt.EqAt.none_int b t
  | str b=>obtain ⟨t,rfl⟩:=rx;exact SeqAt.EqAt.none_str b t
  | _=>exact absurd (show false=true from fx) Bool.false_ne_true
 | bl a =>
  cases ry
  cases x with
  | non=>cases rx;exact SeqAt.EqAt.bool_none a
  | bl b=>cases rx;exact SeqAt.EqAt.bool_bool a b
  | int b=>obtain ⟨t,rfl⟩:=rx;exact SeqAt.EqAt.bool_int a b t
  | str b=>obtain ⟨t,rfl⟩:=rx;exact SeqAt.EqAt.bool_str a b t
  | _=>exact absurd (show false=true from fx) Bool.false_ne_true
 | int a =>
  obtain ⟨t',rfl⟩:=ry
  cases x with
  | non=>cases rx;exact SeqAt.EqAt.int_none a t'
  | bl b=>cases rx;exact SeqAt.EqAt.int_bool a t' b
  | int b=>obtain ⟨t,rfl⟩:=rx;exact SeqAt.EqAt.int_int a t' b t
  | str b=>obtain ⟨t,rfl⟩:=rx;exact SeqAt.EqAt.int_str a t' b t
  | _=>exact absurd (show false=true from fx) Bool.false_ne_true
 | str a =>
  obtain ⟨t',rfl⟩:=ry
  cases x with
  | non=>cases rx;exact SeqAt.EqAt.str_none a t'
  | bl b=>cases rx;exact SeqAt.EqAt.str_bool a t' b
  | int b=>obtain ⟨t,rfl⟩:=rx;exact SeqAt.EqAt.str_int a t' b t
  | str b=>obtain ⟨t,rfl⟩:=rx;exact SeqAt.EqAt.str_str a t' b t
  | _=>exact absurd (show false=true from fx) Bool.false_ne_true
 | _=>exact absurd (show false=true from fy) Bool.false_ne_true
def eqU (x:V) (u:Value):Bool:=match u with
 | .none=>eqV .non x
 | .bool b=>eqV (.bl b) x
 | .int i _=>eqV (.int i) x
 | .str z _=>eqV (.str z) x
 | _=>false
theorem eqU_of {x y:V}{u:Value} (r:RelV y u) (f:qe7 y=true):eqU x u=eqV y x:=by
 cases y with
 | non=>cases r;rfl
 | bl b=>cases r;rfl
 | int i=>obtain ⟨t,rfl⟩:=r;rfl
 | str z=>obtain ⟨t,rfl⟩:=r;rfl
 | _=>exact absurd (show false=true from f) Bool.false_ne_true
theorem qh4 {x:V}:∀ {xs:List V}{us:List Value},Vals xs us→xs.all qe7=true→us.any (eqU x)=xs.any fun y=>eqV y x
 | _,_,.nil,_=>rfl
 | y::xs,u::us,.cons r t,f=>by
  rw [List.all_cons,Bool.and_eq_true] at f
  rw [List.any_cons,List.any_cons,eqU_of r f.1,qh4 t f.2]
theorem qf9 {A:Around}{s:Shared}{x:V}{v:Value} (rx:RelV x v) (fx:qe7 x=true):∀ {xs:List V}{us:List Value},Vals xs us→xs.all qe7=true→∀ u∈us,SeqAt.EqAt A s u v (eqU x u)
 | _,_,.nil,_=>fun u hu=>by cases hu
 | y::xs,u::us,.cons r t,f=>fun u' hu=>by
  rw [List.all_cons,Bool.and_eq_true] at f
  rcases List.mem_cons.mp hu with rfl | hu
  ·rw [eqU_of r f.1];exact eqAt_V r rx f.1 fx
  ·exact qf9 rx fx t f.2 u' hu
def inV (x:V) (xs:List V):Bool:=xs.any fun y=>eqV y x
def rIn (K:PySem.W.Frag) (neg:Bool):R2:=fun x y H Q=>∃ p xs,y=.ref p∧(SqL K H p xs∨SqT K H p xs)∧qe7 x=true∧xs.all qe7=true∧Q (.bl (if neg then !inV x xs else inV x xs)) H
theorem op_in_seq:OpR X (compareOp .In) (rIn X.K false):=by
 intro pins s σ H x y v u Q I rx ry h
 obtain ⟨p,xs,rfl,hq,fx,fs,q⟩:=h
 cases ry
 rcases hq with hq | hq
 ·obtain ⟨its,r,pl,hz⟩:=I.list hq
  refine SeqAt.in_listAt (eqU x) pl.isList (fun w hw=>qf9 rx fx r fs w (by simpa using hw)) ⟨.bl _,H,I,rfl,?_⟩
  rw [show its.toArray.any (eqU x)=its.any (eqU x) by simp,qh4 r fs]
  exact q
 ·obtain ⟨its,r,pl,hz⟩:=I.tuple hq
  refine SeqAt.in_tupleAt (eqU x) pl (fun w hw=>qf9 rx fx r fs w (by simpa using hw)) ⟨.bl _,H,I,rfl,?_⟩
  rw [show its.toArray.any (eqU x)=its.any (eqU x) by simp,qh4 r fs]
  exact q
theorem qd7:OpR X (compareOp .NotIn) (rIn X.K true):=by
 intro pins s σ H x y v u Q I rx ry h
 obtain ⟨p,xs,rfl,hq,fx,fs,q⟩:=h
 cases ry
 rcases hq with hq | hq
 ·obtain ⟨its,r,pl,hz⟩:=I.list hq
  refine SeqAt.notIn_listAt (eqU x) pl.isList (fun w hw=>qf9 rx fx r fs w (by simpa using hw)) ⟨.bl _,H,I,rfl,?_⟩
  rw [show its.toArray.any (eqU x)=its.any (eqU x) by simp,qh4 r fs]
  exact q
 ·obtain ⟨its,r,pl,hz⟩:=I.tuple hq
  refine SeqAt.notIn_tupleAt (eqU x) pl (fun w hw=>qf9 rx fx r fs w (by simpa using hw)) ⟨.bl _,H,I,rfl,?_⟩
  rw [show its.toArray.any (eqU x)=its.any (eqU x) by simp,qh4 r fs]
  exact q
theorem qke:OpR X (compareOp .NotIn) (fun x y H Q=>∃ i j,x=.str i∧y=.str j∧Q (.bl (!(!(Builtin.Str.occurrences j i 0 j.length 1).isEmpty))) H):=by
 intro pins s σ H x y v u Q I rx ry h
 obtain ⟨i,j,rfl,rfl,q⟩:=h
 obtain ⟨t,rfl⟩:=rx
 obtain ⟨t',rfl⟩:=ry
 exact notIn_str ⟨.bl _,H,I,rfl,q⟩
theorem qcu:qgy X (.builtin "len") (fun xs H Q=>∃ p ys,xs=[.ref p]∧(SqL X.K H p ys∨SqT X.K H p ys)∧Q (.int ys.length) H):=by
 intro pins s σ H xs us Q I r h
 obtain ⟨p,ys,rfl,hq,q⟩:=h
 obtain ⟨u,rfl,rx⟩:=qh5 r
 cases rx
 have hn:=qip
 rcases hq with hq | hq
 ·obtain ⟨its,r',pl,hz⟩:=I.list hq
  have hlen:=r'.length
  exact Calls.call_len_list pl.isList (by simp only [List.size_toArray] <;> omega) ⟨.int ys.length,H,I.tok _,⟨s.toks+1,by rw [List.size_toArray,hlen]⟩,q⟩
 ·obtain ⟨its,r',pl,hz⟩:=I.tuple hq
  have hlen:=r'.length
  exact len_tuple pl (by simp only [List.size_toArray] <;> omega) ⟨.int ys.length,H,I.tok _,⟨s.toks+1,by rw [List.size_toArray,hlen]⟩,q⟩
theorem qgu:qgy X (.builtin "len") (fun xs H Q=>∃ z,xs=[.str z]∧z.length≤sizeLine∧Q (.int z.length) H):=by
 intro pins s σ H xs us Q I r h
 obtain ⟨z,rfl,hz,q⟩:=h
 obtain ⟨u,rfl,t,rfl⟩:=qh5 r
 have hn:=qip
 exact len_str (by omega) ⟨.int z.length,H,I.tok _,⟨_,rfl⟩,q⟩
def tyV (K:PySem.W.Frag) (T:String) (x:V) (H:Hp):Prop:=match x with
 | .str _=>T="str"
 | .int _=>T="int"
 | .ref p=>(T="list"∧∃ xs,SqL K H p xs)∨(T="tuple"∧∃ o,K.lookup p=some o∧o.cls=.type "tuple"∧o.dict=none) ∨
   (T="dict"∧((∃ kvs,H p=some (.dK kvs))∨∃ kvs,H p=some (.dT kvs)))∨(T="set"∧∃ S n,H p=some (.set S n))
 | _=>False
theorem tyV_is {pins:List (Addr×Obj)}{σ:St}{H:Hp}{s:Shared}{T:String}{x:V}{v:Value} (I:Inv X pins σ H s) (r:RelV x v) (ty:tyV X.K T x H) :
  s.TypeIs v T∧∀ a,v=.ref a→∃ ob,s.heap.get? a=some ob∧ob.dict=none:=by
 cases x with
 | str z =>
  obtain ⟨t,rfl⟩:=r
  cases (show T="str" from ty)
  exact ⟨typeIs_str s z t,fun _ e=>nomatch e⟩
 | int i =>
  obtain ⟨t,rfl⟩:=r
  cases (show T="int" from ty)
  exact ⟨typeIs_int s i t,fun _ e=>nomatch e⟩
 | ref p =>
  cases r
  rcases ty with ⟨rfl,xs,hq⟩ | ⟨rfl,o,hk,hc,hd⟩ | ⟨rfl,hk⟩ | ⟨rfl,S,n,hk⟩
  ·obtain ⟨its,_,pl,_⟩:=I.list hq
   refine ⟨pl.isList.typeIs,fun a e=>?_⟩
   cases e
   obtain ⟨o,n,e,c,hd,_⟩:=pl
   exact ⟨o,e,hd⟩
  ·refine ⟨⟨o,I.kIn p o hk,hc⟩,fun a e=>?_⟩
   cases e
   exact ⟨o,I.kIn _ o hk,hd⟩
  ·have z:∃ o,s.heap.get? p=some o∧o.ExactDict:=by
    rcases hk with ⟨kvs,hk⟩ | ⟨kvs,hk⟩
    ·obtain ⟨_,_,_,_,o,_,_,e,ex,_⟩:=I.hok p _ hk
     exact ⟨o,e,ex⟩
    ·obtain ⟨_,_,_,_,o,_,_,e,ex,_⟩:=I.hok p _ hk
     exact ⟨o,e,ex⟩
   obtain ⟨o,e,ex⟩:=z
   refine ⟨⟨o,e,ex.1⟩,fun a e2=>?_⟩
   cases e2
   exact ⟨o,e,ex.2.1⟩
  ·obtain ⟨o,_,_,_,e,ex,_⟩:=I.hok p _ hk
   refine ⟨⟨o,e,ex.1⟩,fun a e2=>?_⟩
   cases e2
   exact ⟨o,e,ex.2.1⟩
 | _=>exact False.elim ty
def tBM (K:PySem.W.Frag) (T:String) (r:V→List V→Hp→VK→Prop) (to:TE) (t:TA):TE:=fun σ H Q=>to σ H fun x H1=>tyV K T x H1∧t σ H1 fun xs H2=>r x xs H2 Q
variable {o e:Expr}{es:List Expr}{to:TE}{t:TA}{name:Str}{apos cpos:Pos}{T id:String}{r:V→List V→Hp→VK→Prop}
theorem pe_bm (pa:PlainAttrs T) (slot:Slot T name id) (hty:typeOf (.builtin id)=pure (.type "method_descriptor")) (hm:MtR X id r) (ho:PE X o to) (ha:PA X (e::es) t)
  (hbase:attributeBase o name X.env (eval o X.env)=eval o X.env:=by rfl)
  (hfew:((backTo cpos (starEach (e::es) X.env)).all (fun x=>!x.1) && (backToKw cpos (keywordEach [] X.env)).all (fun x=>x.1.isSome)
   && decide ((e::es).length+([]:List Keyword).length+(if ([]:List Keyword).isEmpty then 0 else 1) < 30))=true:=by rfl)
  (hline:(apos.endLine == cpos.line)=true:=by rfl) (hs:starEach (e::es) X.env=(false,eval e X.env)::starEach es X.env:=by rfl) (hplain:(backTo cpos (starEach es X.env)).any (·.1)=false:=by rfl) :
  PE X (.Call (.Attribute o name apos) (e::es) [] cpos) (tBM X.K T r to t):=by
 intro pins s σ H Q I h
 refine wpAny_Call_method_late hbase hfew hline rfl (thn (ho pins s σ H _ I h) fun v s1 ⟨x,H1,I1,r1,ty,q1⟩=>?_)
 obtain ⟨h1,h2⟩:=tyV_is I1 r1 ty
 refine ⟨T,id,pa,slot,hty,h1,h2,?_⟩
 have hA:=ha cpos pins s1 σ H1 _ I1 q1
 rw [hs] at hA ⊢
 refine Calls.callWith_builtin (by show (false || (backTo cpos (starEach es X.env)).any (·.1))=false;rw [hplain] <;> rfl) (Calls.evalArgs_plain ?_)
 exact thn hA fun us s2 ⟨vs,H2,I2,r2,q2⟩=>hm pins s2 σ H2 x vs v us Q I2 r1 r2 q2
end
end L2
namespace L2
open PySem PySem.Spec PyProof.Rows
def MtM (X:Cx) (id:String) (r:V→List V→Hp→VK→Prop):Prop :=
 ∀ (pins:List (Addr×Obj)) (s:Shared) (σ:St) (H:Hp) (x:V) (xs:List V) (v:Value) (us:List Value) (Q:VK),Inv X pins σ H s→RelV x v→Vals xs us→r x xs H Q →
  wpAny (model X.prog X.w) X.A (call (.builtin id) (v::us)) (EP X pins σ Q) X.xe s
theorem Vals.one:∀ {x:V}{us:List Value},Vals [x] us→∃ u,us=[u]∧RelV x u
 | _,_,.cons r .nil=>⟨_,rfl,r⟩
theorem Vals.rep {xs:List V}{us:List Value} (h:Vals xs us):∀ k:Nat,Vals (List.replicate k xs).flatten (List.replicate k us).flatten
 | 0=>.nil
 | k+1=>by
  rw [List.replicate_succ,List.replicate_succ,List.flatten_cons,List.flatten_cons]
  exact Vals.append h (Vals.rep h k)
theorem qks (its:List Value):∀ (k:Nat) (acc:List Value),
  List.foldl (fun x1 x2=>x1++x2) acc.toArray (List.replicate k its.toArray)=(acc++(List.replicate k its).flatten).toArray
 | 0,acc=>by simp
 | k+1,acc=>by
  have e:acc.toArray++its.toArray=(acc++its).toArray:=by simp
  have e2:(acc++its)++(List.replicate k its).flatten=acc++(List.replicate (k+1) its).flatten:=by
   rw [List.replicate_succ,List.flatten_cons,List.append_assoc]
  rw [← e2,← qks its k (acc++its),← e,List.replicate_succ,List.foldl_cons]
section
variable {X:Cx}{pins:List (Addr×Obj)}{σ:St}{H:Hp}{s:Shared}{l b:Addr}{xs ys zs:List V}
theorem Inv.lset {its its':List Value}{n:Nat}{f:Array Value→Array Value}{t':Nat} (I:Inv X pins σ H s) (hH:H l=some (.lst xs))
  (e:s.heap.get? l=some { cls:=.type "list",data:=.seq its.toArray n }) (hf:f its.toArray=its'.toArray) (hv:Vals ys its') (hz:ys.length≤sizeLine) :
  Inv X pins σ (upd H l (.lst ys)) { s with heap:=s.heap.update l (Obj.mapSeq f),toks:=t' }:=by
 have q:=PySem.IsL.update e f
 rw [hf] at q
 refine I.write (x:=l) (e:=l) (by rw [hH];exact trivial) (.inl rfl) (fun b' u hb hu=>(Heap.get?_update_other s.heap (Obj.mapSeq f) (Ne.symm hb)).trans hu) ⟨_,q⟩ ?_
 exact ⟨hz,its',_,hv,q⟩
theorem Inv.lnew {its:List Value}{t':Nat} (I:Inv X pins σ H s) (hv:Vals ys its) (hz:ys.length≤sizeLine) :
  Inv X pins σ (upd H s.heap.objs.size (.lst ys)) { s with heap:=s.heap.push { cls:=.type "list",data:=.seq its.toArray },toks:=t' } :=
 I.laid (fun _ _ q=>Heap.get?_push_of_some _ q) (Nat.le_refl _) ⟨hz,its,0,hv,Heap.get?_push_size _ rfl⟩
theorem Inv.fresh (I:Inv X pins σ H s):H s.heap.objs.size=none:=I.hok.fresh (Nat.le_refl _)
theorem Inv.lstM (I:Inv X pins σ H s) (hH:H l=some (.lst xs)):xs.length≤sizeLine∧∃ (its:List Value) (n:Nat),Vals xs its∧xs.length=its.length∧s.heap.get? l=some { cls:=.type "list",data:=.seq its.toArray n }:=by
 obtain ⟨z,its,n,r,e⟩:=I.hok l _ hH
 exact ⟨z,its,n,r,r.length,e⟩
theorem notLongL {n:Nat} (h:n≤sizeLine):Builtin.List.listTooLong n=false:=by
 unfold Builtin.List.listTooLong
 exact decide_eq_false (by omega)
end
section
variable {X:Cx}
def rAppend:V→List V→Hp→VK→Prop:=fun x vs H Q=>∃ l xs y,x=.ref l∧vs=[y]∧H l=some (.lst xs)∧xs.length < sizeLine∧Q .non (upd H l (.lst (xs++[y])))
theorem qf8:MtM X "list.append" rAppend:=by
 intro pins s σ H x vs v us Q I rx rv h
 obtain ⟨l,xs,y,rfl,rfl,hH,hz,q⟩:=h
 cases rx
 obtain ⟨u,rfl,ru⟩:=rv.one
 obtain ⟨z,its,n,r,hl,e⟩:=I.lstM hH
 refine call_meets F.slot_list_append ⟨_,e,rfl⟩ F.entry_list_append (F.args_list_append_2 _ _) (PySem.list_append l its.toArray n u (by rw [List.size_toArray];omega)) ⟨e,?_⟩
 refine ⟨.non,_,I.lset (its':=its++[u]) hH e (by simp) (r.append (.cons ru .nil)) ?_,rfl,q⟩
 rw [List.length_append,List.length_singleton]
 omega
def rRep:R2:=fun x y H Q=>∃ l k xs,x=.ref l∧y=.int k∧H l=some (.lst xs)∧-(2 ^ 63)≤k∧k < 2 ^ 63∧xs.length * k.toNat≤sizeLine ∧
 ∀ p,H p=none→Q (.ref p) (upd H p (.lst (List.replicate k.toNat xs).flatten))
theorem qlk {α:Type} (xs:List α) (k:Nat):(List.replicate k xs).flatten.length=k * xs.length:=by
 induction k with
 | zero=>simp
 | succ k ih=>rw [List.replicate_succ,List.flatten_cons,List.length_append,ih,Nat.succ_mul,Nat.add_comm]
theorem qev:OpR X (binaryOp .Mult) rRep:=by
 intro pins s σ H x y v u Q I rx ry h
 obtain ⟨l,k,xs,rfl,rfl,hH,h1,h2,hz,q⟩:=h
 cases rx
 obtain ⟨t,rfl⟩:=ry
 obtain ⟨z,its,n,r,hl,e⟩:=I.lstM hH
 have hlen:its.toArray.size * k.toNat≤sizeLine:=by rw [List.size_toArray,← hl];exact hz
 have hcap:¬ its.toArray.size * k.toNat > (2 ^ 63 - 1) / 8:=by
  have:(sizeLine:Nat)≤(2 ^ 63 - 1) / 8:=by decide
  omega
 have hfit:¬ (!Builtin.List.listFitsIndex k)=true:=by
  rw [fitsIndex_both h1 h2]
  exact Bool.false_ne_true
 have hlong:¬ Builtin.List.listTooLong (its.toArray.size * k.toNat)=true:=by
  rw [notLongL hlen]
  exact Bool.false_ne_true
 have hnew:List.foldl (fun x1 x2=>x1++x2) #[] (List.replicate (if its.toArray.isEmpty=true then 0 else k.toNat) its.toArray)=(List.replicate k.toNat its).flatten.toArray:=by
  have f0:∀ m:Nat,List.foldl (fun x1 x2=>x1++x2) #[] (List.replicate m its.toArray)=(List.replicate m its).flatten.toArray:=fun m=>by
   have:=qks its m []
   rw [List.nil_append] at this
   exact this
  rw [f0]
  cases its with
  | nil=>simp
  | cons a r'=>rw [if_neg (by simp)]
 refine wpAny_binaryOp_repeat_ref (T:="list") (U:="int") (by decide) ⟨_,e,rfl⟩ (fun s'=>typeIs_int s' k t) noFill_list_mul F.fills_int_mul F.slot_int_rmul repeat_list F.slot_int_index.lookup
  (call_meets F.slot_int_rmul (typeIs_int s k t) F.entry_int_rmul (F.args_int_rmul_2 _ _) (int___rmul___int_list k t l its.toArray n)
   ⟨e,rfl,⟨_,e,rfl⟩,call_meets F.slot_list_mul ⟨_,e,rfl⟩ F.entry_list_mul (F.args_list_mul_2 _ _) (AutoListH.list___mul___list_int_3 l its.toArray n k t hfit hcap hlong) ⟨e,?_⟩⟩)
 rw [hnew]
 exact ⟨.ref _,_,I.lnew (t':=s.toks) (r.rep k.toNat) (by rw [qlk,Nat.mul_comm];exact hz),rfl,q _ I.fresh⟩
end
section
variable {prog:Program}{w:World}{A:Around}{E:Value→Shared→Prop}{s:Shared}
set_option maxRecDepth 100000 in
end
section
variable {X:Cx}
end
end L2
namespace L2
open PySem PySem.Spec PyProof.Rows
section
variable {κ:Type} [DecidableEq κ]
def valV (kvs:List (κ×V)) (k:κ):Option V:=(kvs.find? fun kv=>decide (kv.1=k)).map (·.2)
def putK (kvs:List (κ×V)) (k:κ) (v:V):List (κ×V) :=
 if (kvs.any fun kv=>decide (kv.1=k))=true then kvs.map (fun kv=>if kv.1=k then (kv.1,v) else kv) else kvs++[(k,v)]
def qlq (kvs:List (κ×V)) (k:κ):List (κ×V):=kvs.filter fun kv=>decide (kv.1≠k)
theorem qiw {p:κ×V}{r:List (κ×V)}{k:κ} (e:p.1=k):valV (p::r) k=some p.2:=by simp [valV,List.find?_cons,e]
theorem qix {p:κ×V}{r:List (κ×V)}{k:κ} (e:¬ p.1=k):valV (p::r) k=valV r k:=by simp [valV,List.find?_cons,e]
theorem qgz (k:κ):∀ kvs:List (κ×V),(kvs.any fun kv=>decide (kv.1=k))=(valV kvs k).isSome
 | []=>rfl
 | p::r=>by
  rw [List.any_cons]
  by_cases e:p.1=k
  ·simp only [qiw e,decide_eq_true e,Bool.true_or,Option.isSome_some]
  ·rw [qix e,decide_eq_false e,Bool.false_or];exact qgz k r
theorem qfr (kvs:List (κ×V)) (k:κ) (v:V):(putK kvs k v).length≤kvs.length+1:=by
 unfold putK
 split
 ·rw [List.length_map];omega
 ·rw [List.length_append,List.length_cons,List.length_nil];omega
theorem qen {kvs:List (κ×V)}{k:κ} (v:V) (h:valV kvs k=none):putK kvs k v=kvs++[(k,v)]:=by
 unfold putK
 rw [qgz,h]
 exact if_neg (by decide)
theorem RelO.isSome_eq {o:Option V}{u:Option Value} (r:RelO o u):o.isSome=u.isSome:=by
 cases o with
 | none=>cases u with
  | none=>rfl
  | some _=>exact (show False from r).elim
 | some _=>cases u with
  | none=>exact (show False from r).elim
  | some _=>rfl
theorem RelO.getD {o:Option V}{u:Option Value}{d:V}{d':Value} (r:RelO o u) (rd:RelV d d'):RelV (o.getD d) (u.getD d'):=by
 cases o with
 | none=>cases u with
  | none=>exact rd
  | some _=>exact (show False from r).elim
 | some _=>cases u with
  | none=>exact (show False from r).elim
  | some _=>exact r
theorem KV.val {kvs:List (κ×V)}{vs:List (κ×Value)} (r:KV kvs vs) (k:κ):RelO (valV kvs k) (valueAt vs k):=by
 unfold KV at r
 induction r with
 | nil=>exact True.intro
 | @cons p q ps qs h t ih =>
  obtain ⟨h1,h2⟩:=h
  by_cases e:p.1=k
  ·have e':q.1=k:=h1.symm.trans e
   have b:valueAt (q::qs) k=some q.2:=by simp [valueAt,List.find?_cons,e']
   rw [qiw e,b];exact h2
  ·have e':¬ q.1=k:=fun z=>e (h1.trans z)
   have b:valueAt (q::qs) k=valueAt qs k:=by simp [valueAt,List.find?_cons,e']
   rw [qix e,b];exact ih
theorem KV.any {kvs:List (κ×V)}{vs:List (κ×Value)} (r:KV kvs vs) (k:κ):(kvs.any fun kv=>decide (kv.1=k))=vs.any fun kv=>decide (kv.1=k):=by
 unfold KV at r
 induction r with
 | nil=>rfl
 | cons h t ih=>rw [List.any_cons,List.any_cons,ih,h.1]
theorem KV.repl {kvs:List (κ×V)}{vs:List (κ×Value)} (r:KV kvs vs) (k:κ) {y:V}{u:Value} (ry:RelV y u) :
  KV (kvs.map fun kv=>if kv.1=k then (kv.1,y) else kv) (vs.map fun kv=>if kv.1=k then (kv.1,u) else kv):=by
 unfold KV at r ⊢
 induction r with
 | nil=>exact .nil
 | @cons p q ps qs h t ih =>
  rw [List.map_cons,List.map_cons]
  refine .cons ?_ ih
  obtain ⟨h1,h2⟩:=h
  by_cases e:p.1=k
  ·rw [if_pos e,if_pos (h1.symm.trans e)];exact ⟨h1,ry⟩
  ·rw [if_neg e,if_neg (fun z=>e (h1.trans z))];exact ⟨h1,h2⟩
theorem KV.put {kvs:List (κ×V)}{vs:List (κ×Value)} (r:KV kvs vs) (k:κ) {y:V}{u:Value} (ry:RelV y u):KV (putK kvs k y) (stored vs k u):=by
 unfold putK stored
 rw [r.any k]
 by_cases e:(vs.any fun kv=>decide (kv.1=k))=true
 ·rw [if_pos e,if_pos e];exact r.repl k ry
 ·rw [if_neg e,if_neg e];exact Paired.snoc r ⟨rfl,ry⟩
theorem KV.drop {kvs:List (κ×V)}{vs:List (κ×Value)} (r:KV kvs vs) (k:κ):KV (qlq kvs k) (without vs k):=by
 unfold KV at r ⊢
 unfold qlq without
 induction r with
 | nil=>exact .nil
 | @cons p q ps qs h t ih =>
  obtain ⟨h1,h2⟩:=h
  rw [List.filter_cons,List.filter_cons]
  by_cases e:p.1=k
  ·have a:¬ decide (p.1≠k)=true:=by simp [e]
   have b:¬ decide (q.1≠k)=true:=by simp [h1.symm.trans e]
   rw [if_neg a,if_neg b];exact ih
  ·have e':¬ q.1=k:=fun z=>e (h1.trans z)
   have a:decide (p.1≠k)=true:=by simp [e]
   have b:decide (q.1≠k)=true:=by simp [e']
   rw [if_pos a,if_pos b];exact .cons ⟨h1,h2⟩ ih
theorem KV.keys {kvs:List (κ×V)}{vs:List (κ×Value)} (r:KV kvs vs):kvs.map (·.1)=vs.map (·.1):=by
 unfold KV at r
 induction r with
 | nil=>rfl
 | cons h t ih=>rw [List.map_cons,List.map_cons,ih,h.1]
theorem KV.length {kvs:List (κ×V)}{vs:List (κ×Value)} (r:KV kvs vs):kvs.length=vs.length:=Paired.length r
theorem dropK_le (kvs:List (κ×V)) (k:κ):(qlq kvs k).length≤kvs.length:=List.length_filter_le _ _
end
theorem qko {P:Program}{w:World}{k:Key}{u:Value} (r:RelV (kV k) u):(qb2 P w).is k u=true:=by
 cases k with
 | inl i=>obtain ⟨t,e⟩:=(show ∃ t,u=Value.int i t from r);subst e;exact qlf P w i t
 | inr x=>obtain ⟨t,e⟩:=(show ∃ t,u=Value.str x t from r);subst e;exact qle P w x t
theorem qkp {P:Program}{w:World}:∀ {ks:List Key}{us:List Value},Vals (ks.map kV) us→ItemsAre (qb2 P w) ks us
 | [],_,r=>by rw [List.map_nil] at r;cases r;exact .nil
 | k::ks,_,r=>by
  rw [List.map_cons] at r
  cases r with
  | cons h t=>exact .cons (qko h) (qkp t)
abbrev KT (H:Hp):List (List Key×V)→List (List Key×Addr×Value)→Prop:=Paired fun p q=>p.1=q.1∧H q.2.1=some (.tup (p.1.map kV))∧RelV p.2 q.2.2
theorem KT.val {H:Hp}{kvs:List (List Key×V)}{xs:List (List Key×Addr×Value)} (r:KT H kvs xs) (k:List Key):RelO (valV kvs k) ((atKey xs k).map (·.2)):=by
 induction r with
 | nil=>exact True.intro
 | @cons p q ps qs h t ih =>
  obtain ⟨h1,_,h2⟩:=h
  by_cases e:p.1=k
  ·have e':q.1=k:=h1.symm.trans e
   have b:atKey (q::qs) k=some q.2:=by simp [atKey,List.find?_cons,e']
   rw [qiw e,b];exact h2
  ·have e':¬ q.1=k:=fun z=>e (h1.trans z)
   have b:atKey (q::qs) k=atKey qs k:=by simp [atKey,List.find?_cons,e']
   rw [qix e,b];exact ih
theorem KT.repl {H:Hp}{kvs:List (List Key×V)}{xs:List (List Key×Addr×Value)} (r:KT H kvs xs) (k:List Key) {y:V}{u:Value} (ry:RelV y u) :
  KT H (kvs.map fun kv=>if kv.1=k then (kv.1,y) else kv) (xs.map (putAt k u)):=by
 induction r with
 | nil=>exact .nil
 | @cons p q ps qs h t ih =>
  rw [List.map_cons,List.map_cons]
  refine .cons ?_ ih
  obtain ⟨h1,h2,h3⟩:=h
  unfold putAt
  by_cases e:p.1=k
  ·rw [if_pos e,if_pos (h1.symm.trans e)];exact ⟨h1,h2,ry⟩
  ·rw [if_neg e,if_neg (fun z=>e (h1.trans z))];exact ⟨h1,h2,h3⟩
theorem KT.put {H:Hp}{kvs:List (List Key×V)}{xs:List (List Key×Addr×Value)} (r:KT H kvs xs) (k:List Key) {b:Addr}{y:V}{u:Value} (hb:H b=some (.tup (k.map kV))) (ry:RelV y u) :
  KT H (putK kvs k y) (storedH xs k b u):=by
 have e:(kvs.any fun kv=>decide (kv.1=k))=(atKey xs k).isSome:=by
  rw [qgz,(r.val k).isSome_eq,Option.isSome_map]
 unfold putK storedH
 rw [e]
 by_cases q:(atKey xs k).isSome=true
 ·rw [if_pos q,if_pos q];exact r.repl k ry
 ·rw [if_neg q,if_neg q];exact Paired.snoc r ⟨rfl,hb,ry⟩
theorem KT.keeps {H H':Hp}{kvs:List (List Key×V)}{xs:List (List Key×Addr×Value)} (r:KT H kvs xs) (ht:∀ b ys,H b=some (.tup ys)→H' b=some (.tup ys)):KT H' kvs xs :=
 Paired.mapP r fun _ _ z=>⟨z.1,ht _ _ z.2.1,z.2.2⟩
section
variable {P:Program}{w:World}{H:Hp}{h:Heap}{a:Addr}
theorem rd_of {u:HO} (ok:HOk P w H h) (e:Rd H a u):ObjOk P w H h a u:=e.ok ok
theorem qic {kvs:List (Key×V)} (ok:HOk P w H h) (e:Rd H a (.dK kvs)):kvs.length≤sizeLine∧(a == sysModules)=false∧∃ vs,KV kvs vs∧h.DictOf (qb2 P w) a vs :=
 show ObjOk P w H h a (.dK kvs) from rd_of ok e
theorem dk_of {kvs:List (Key×V)} (ok:HOk P w H h) (e:H a=some (.dK kvs)):kvs.length≤sizeLine∧(a == sysModules)=false∧∃ vs,KV kvs vs∧h.DictOf (qb2 P w) a vs:=qic ok (.inl e)
theorem qiq {ks:List Key} (ok:HOk P w H h) (e:H a=some (.tup (ks.map kV))):(tupleKind (qb2 P w)).is h ks a:=by
 obtain ⟨_,its,r,o,h1,h2,n,h3⟩:=(show ObjOk P w H h a (.tup (ks.map kV)) from ok a _ e)
 exact ⟨o,its.toArray,n,h1,h2,h3,by simpa using qkp r⟩
theorem qlp {kvs:List (List Key×V)} (ok:HOk P w H h) (e:Rd H a (.dT kvs)):kvs.length≤sizeLine∧(a == sysModules)=false ∧
  ∃ xs,KT H kvs xs∧h.DictOfH (tupleKind (qb2 P w)) a xs:=by
 obtain ⟨z,y,xs,r,o,es,ep,h1,h2,h3,h4,h5⟩:=(show ObjOk P w H h a (.dT kvs) from rd_of ok e)
 refine ⟨z,y,xs,r,o,es,ep,h1,h2,h3,h4,fun x hx=>?_,h5⟩
 have all:∀ {l:List (List Key×V)}{m:List (List Key×Addr×Value)},KT H l m→∀ x∈m,(tupleKind (qb2 P w)).is h x.1 x.2.1:=by
  intro l m q
  induction q with
  | nil=>intro x hx;exact nomatch hx
  | @cons p q ps qs hq t ih =>
   intro x hx
   rcases List.mem_cons.mp hx with e | hx
   ·subst e
    exact qiq ok (by rw [← hq.1];exact hq.2.1)
   ·exact ih x hx
 exact all r x hx
theorem dt_of {kvs:List (List Key×V)} (ok:HOk P w H h) (e:H a=some (.dT kvs)):kvs.length≤sizeLine∧(a == sysModules)=false ∧
  ∃ xs,KT H kvs xs∧h.DictOfH (tupleKind (qb2 P w)) a xs:=qlp ok (.inl e)
end
def DGet (H:Hp) (a:Addr) (y:V) (r:Option V):Prop :=
 (∃ kvs k,Rd H a (.dK kvs)∧y=kV k∧r=valV kvs k)∨∃ kvs k b,Rd H a (.dT kvs)∧y=.ref b∧H b=some (.tup (k.map kV))∧r=valV kvs k
def DPut (H:Hp) (a:Addr) (y v:V) (H':Hp):Prop :=
 (∃ kvs k,H a=some (.dK kvs)∧y=kV k∧kvs.length < sizeLine∧H'=upd H a (.dK (putK kvs k v))) ∨
 ∃ kvs k b,H a=some (.dT kvs)∧y=.ref b∧H b=some (.tup (k.map kV))∧kvs.length < sizeLine∧H'=upd H a (.dT (putK kvs k v))
theorem DGet.k {H:Hp}{a:Addr}{kvs:List (Key×V)}{k:Key} (e:H a=some (.dK kvs)):DGet H a (kV k) (valV kvs k):=.inl ⟨kvs,k,.inl e,rfl,rfl⟩
theorem DPut.k {H:Hp}{a:Addr}{kvs:List (Key×V)}{k:Key}{v:V} (e:H a=some (.dK kvs)) (hl:kvs.length < sizeLine):DPut H a (kV k) v (upd H a (.dK (putK kvs k v))):=.inl ⟨kvs,k,e,rfl,hl,rfl⟩
section
variable {X:Cx}{pins:List (Addr×Obj)}{σ:St}{H:Hp}{s:Shared}{a:Addr}{y v:V}{u r:Value}{o:Option V}{A:Around}{E:Value→Shared→Prop}
theorem Inv.big (I:Inv X pins σ H s):sysModules < s.heap.objs.size:=by
 have h:mainGlobals < s.heap.objs.size:=(I.mod.glob.keeps I.bk).lt
 exact Nat.lt_trans (by decide) h
theorem d_getItem {Q:Value→Shared→Prop} (hu:A.units+1 < cLine) (I:Inv X pins σ H s) (g:DGet H a y (some v)) (ry:RelV y u) (h:∀ w' s',Inv X pins σ H s'→RelV v w'→Q w' s') :
  wpAny (model X.prog X.w) A (getItem (.ref a) u) Q E s:=by
 rcases g with ⟨kvs,k,e,ey,l⟩ | ⟨kvs,k,b,e,ey,eb,l⟩
 ·subst ey
  obtain ⟨z,hd,vs,rel,dd⟩:=qic I.hok e
  obtain ⟨w',hw,rw'⟩:=RelO.some_of (v:=v) (o:=valueAt vs k) (by rw [l];exact rel.val k)
  exact wpAny_getItem_of (qko ry) dd.mapOf hw (h w' _ (I.tok _) rw')
 ·subst ey
  cases (show u=Value.ref b from ry)
  obtain ⟨z,hd,xs,rel,dd⟩:=qlp I.hok e
  obtain ⟨w',hw,rw'⟩:=RelO.some_of (v:=v) (o:=(atKey xs k).map (·.2)) (by rw [l];exact rel.val k)
  obtain ⟨p,hp,hp2⟩:=Option.map_eq_some_iff.mp hw
  refine wpAny_getItem_heap (tupleKind_room_in1 hu) (qiq I.hok eb) dd hp ?_
  rw [hp2]
  exact h w' _ (I.tok _) rw'
theorem d_in {Q:Value→Shared→Prop} (hu:A.units+1 < cLine) (I:Inv X pins σ H s) (g:DGet H a y o) (ry:RelV y u) (h:∀ s',Inv X pins σ H s'→Q (.bool o.isSome) s') :
  wpAny (model X.prog X.w) A (compareOp .In u (.ref a)) Q E s:=by
 rcases g with ⟨kvs,k,e,ey,l⟩ | ⟨kvs,k,b,e,ey,eb,l⟩
 ·subst ey
  obtain ⟨z,hd,vs,rel,dd⟩:=qic I.hok e
  refine wpAny_in_of (qko ry) hd dd.mapOf ?_
  rw [← (rel.val k).isSome_eq,← l]
  exact h _ (I.tok _)
 ·subst ey
  cases (show u=Value.ref b from ry)
  obtain ⟨z,hd,xs,rel,dd⟩:=qlp I.hok e
  refine wpAny_in_heap (tupleKind_room_in1 hu) (qiq I.hok eb) hd dd ?_
  have q:=(rel.val k).isSome_eq
  rw [Option.isSome_map] at q
  rw [← q,← l]
  exact h _ (I.tok _)
theorem d_notIn {Q:Value→Shared→Prop} (hu:A.units+1 < cLine) (I:Inv X pins σ H s) (g:DGet H a y o) (ry:RelV y u) (h:∀ s',Inv X pins σ H s'→Q (.bool (!o.isSome)) s') :
  wpAny (model X.prog X.w) A (compareOp .NotIn u (.ref a)) Q E s:=by
 rcases g with ⟨kvs,k,e,ey,l⟩ | ⟨kvs,k,b,e,ey,eb,l⟩
 ·subst ey
  obtain ⟨z,hd,vs,rel,dd⟩:=qic I.hok e
  refine wpAny_notIn_of (qko ry) hd dd.mapOf ?_
  rw [← (rel.val k).isSome_eq,← l]
  exact h _ (I.tok _)
 ·subst ey
  cases (show u=Value.ref b from ry)
  obtain ⟨z,hd,xs,rel,dd⟩:=qlp I.hok e
  refine wpAny_notIn_heap (tupleKind_room_in1 hu) (qiq I.hok eb) hd dd ?_
  have q:=(rel.val k).isSome_eq
  rw [Option.isSome_map] at q
  rw [← q,← l]
  exact h _ (I.tok _)
theorem qjp {h':Heap}{t':Nat}{ob:HO} (I:Inv X pins σ H s) (mu:Mut (H a)) (hs:Heap.SameBut a s.heap h') (he:∃ q,h'.get? a=some q) (new:ObjOk X.prog X.w (upd H a ob) h' a ob) :
  Inv X pins σ (upd H a ob) { s with heap:=h',toks:=t' } :=
 I.write (x:=a) (e:=a) mu (.inl rfl) (fun b q hb z=>(hs.2 b hb).trans z) he new
theorem qml {P:Program}{w:World}{H':Hp}{h':Heap}{kvs:List (Key×V)}{vs:List (Key×Value)} (z:kvs.length≤sizeLine) (hd:(a == sysModules)=false) (rel:KV kvs vs) (dd:h'.DictOf (qb2 P w) a vs) :
  ObjOk P w H' h' a (.dK kvs):=⟨z,hd,vs,rel,dd⟩
theorem d_setItem {H':Hp}{Q:Unit→Shared→Prop} (hu:A.units+1 < cLine) (I:Inv X pins σ H s) (g:DPut H a y v H') (ry:RelV y u) (rv:RelV v r) (h:∀ s',Inv X pins σ H' s'→Q () s') :
  wpAny (model X.prog X.w) A (setItem (.ref a) u r) Q E s:=by
 rcases g with ⟨kvs,k,e,ey,l,eH⟩ | ⟨kvs,k,b,e,ey,eb,l,eH⟩
 ·subst ey eH
  obtain ⟨z,hd,vs,rel,dd⟩:=dk_of I.hok e
  have hz:vs.length≤sizeLine:=by rw [← rel.length];exact z
  have hl:(putK kvs k v).length≤sizeLine:=by have:=qfr kvs k v;omega
  refine wpAny_setItem_pairs (hsz:=hz) (qko ry) dd fun h' dd' hs=>h _ ?_
  have he:∃ q,h'.get? a=some q:=let ⟨q,_,_,hq,_⟩:=dd';⟨q,hq⟩
  exact qjp I (by rw [e];exact True.intro) hs he (qml hl hd (rel.put k rv) dd')
 ·subst ey eH
  cases (show u=Value.ref b from ry)
  obtain ⟨z,hd,xs,rel,dd⟩:=dt_of I.hok e
  have hz:xs.length≤sizeLine:=by rw [← Paired.length rel];exact z
  have hl:(putK kvs k v).length≤sizeLine:=by have:=qfr kvs k v;omega
  refine wpAny_setItem_heap (hsz:=hz) (tupleKind_room_in1 hu) (qiq I.hok eb) dd fun h' dd' hs=>h _ ?_
  obtain ⟨q,es,ep,hq,h2,h3,h4,_,h5⟩:=dd'
  refine qjp I (by rw [e];exact True.intro) hs ⟨q,hq⟩ ⟨hl,hd,_,(rel.put k eb rv).keeps fun c ys ec=>?_,q,es,ep,hq,h2,h3,h4,h5⟩
  rw [qag (qki ec e (fun z=>nomatch z))]
  exact ec
end
section
variable {X:Cx}{pins:List (Addr×Obj)}{σ:St}{H:Hp}{s:Shared}{a:Addr}{kvs:List (Key×V)}{k:Key}{u:Value}{A:Around}{E:Value→Shared→Prop}
theorem d_pop {v:V}{more:List Value}{Q:Value→Shared→Prop} (I:Inv X pins σ H s) (e:H a=some (.dK kvs)) (ry:RelV (kV k) u) (l:valV kvs k=some v) (hm:more=[]∨∃ x,more=[x])
  (h:∀ w' s',Inv X pins σ (upd H a (.dK (qlq kvs k))) s'→RelV v w'→Q w' s'):wpAny (model X.prog X.w) A (call (.builtin "dict.pop") (.ref a::u::more)) Q E s:=by
 obtain ⟨z,hd,vs,rel,dd⟩:=dk_of I.hok e
 obtain ⟨w',hw,rw'⟩:=RelO.some_of (v:=v) (o:=valueAt vs k) (by rw [← l];exact rel.val k)
 have hp:(keyPart u).isSome=true:=by
  cases k with
  | inl i=>obtain ⟨t,q⟩:=(show ∃ t,u=Value.int i t from ry);subst q;rfl
  | inr x=>obtain ⟨t,q⟩:=(show ∃ t,u=Value.str x t from ry);subst q;rfl
 have ha:argsOk "dict.pop" ⟨.ref a::u::more,[]⟩:=by
  rcases hm with q | ⟨x,q⟩
  ·subst q;exact PySem.F.args_dict_pop_2 _ _
  ·subst q;exact PySem.F.args_dict_pop_3 _ _ _
 refine call_meetsIn PySem.F.slot_dict_pop dd.typeIs PySem.F.entry_dict_pop ha (meets_dict_pop_there (qb2 X.prog X.w) a (qko ry) more hm hp)
  ⟨vs,w',dd,by rw [← rel.length];exact z,hw,fun h' dd' hs=>h w' _ ?_ rw'⟩
 have he:∃ q,h'.get? a=some q:=let ⟨q,_,_,hq,_⟩:=dd';⟨q,hq⟩
 exact qjp I (by rw [e];exact True.intro) hs he (qml (Nat.le_trans (dropK_le kvs k) z) hd (rel.drop k) dd')
theorem d_len {Q:Value→Shared→Prop} (I:Inv X pins σ H s) (e:Rd H a (.dK kvs)) (h:∀ t s',Inv X pins σ H s'→Q (.int kvs.length t) s'):wpAny (model X.prog X.w) A (call (.builtin "len") [.ref a]) Q E s:=by
 obtain ⟨z,hd,vs,rel,dd⟩:=qic I.hok e
 refine call_len_dict hd dd (by rw [← rel.length];rw [sizeLine_eq] at z;omega) ?_
 rw [← rel.length]
 exact h _ _ (I.tok _)
end
def NoSl (i:Expr):Prop:=∀ ov iv,subscripted i false ov iv=operate [ov,iv] (getItem ov iv)
theorem subD_of {prog:Program}{w:World}{A:Around}{E:Value→Shared→Prop}{s:Shared}{env:Env}{value slice:Expr}{pos:Pos}{T id:String}{Q:Value→Shared→Prop}
  (hl:typeLookup (.type T) "__getitem__"=pure (some (.builtin id))) (hs:NoSl slice)
  (h:wpAny (model prog w) A (eval value env) (fun o s₁=>wpAny (model prog w) A (eval slice env) (fun i s₂=>s₂.TypeIs o T∧wpAny (model prog w) A (getItem o i) Q E s₂) E s₁) E s) :
  wpAny (model prog w) A (eval (.Subscript value slice pos) env) Q E s:=by
 refine Subscript_ (wpAny_mono h (fun o s₁ h₁=>wpAny_mono h₁ (fun i s₂ h₂=>?_) fun _ _ x=>x) fun _ _ x=>x)
 obtain ⟨hT,h₂⟩:=h₂
 unfold subscriptTail
 refine wpAny_bind ?_
 rw [getitemInPython_of_ne hT.not_modules]
 refine wpAny_bind (wpAny_specialOf hT hl ?_)
 have fin:wpAny (model prog w) A (subscripted slice false o i) (fun r s₃=>wpAny (model prog w) A (letTemporaryGo value o r >>= fun _=>pure r) Q E s₃) E s₂:=by
  rw [hs o i]
  exact wpAny_operating (wpAny_mono h₂ (fun r s₃ h₃=>wpAny_bind (wpAny_letTemporaryGo (wpAny_pure h₃))) fun _ _ x=>x)
 first
  | exact wpAny_pure (wpAny_bind fin)
  | exact wpAny_bind (wpAny_pure (wpAny_bind fin))
  | exact wpAny_bind fin
theorem qlr {X:Cx}{pins:List (Addr×Obj)}{σ:St}{H:Hp}{s:Shared}{a:Addr}{y:V}{o:Option V} (I:Inv X pins σ H s) (g:DGet H a y o):s.TypeIs (.ref a) "dict":=by
 rcases g with ⟨kvs,k,e,_,_⟩ | ⟨kvs,k,b,e,_,_,_⟩
 ·obtain ⟨_,_,vs,_,dd⟩:=qic I.hok e
  exact dd.typeIs
 ·obtain ⟨_,_,xs,_,dd⟩:=qlp I.hok e
  exact dd.typeIs
def tDGet (td ty:TE):TE:=fun σ H Q=>td σ H fun x H1=>ty σ H1 fun y H2=>∃ a v,x=.ref a∧DGet H2 a y (some v)∧Q v H2
def tDIn (ty td:TE):TE:=fun σ H Q=>ty σ H fun y H1=>td σ H1 fun x H2=>∃ a o,x=.ref a∧DGet H2 a y o∧Q (.bl o.isSome) H2
def tDNotIn (ty td:TE):TE:=fun σ H Q=>ty σ H fun y H1=>td σ H1 fun x H2=>∃ a o,x=.ref a∧DGet H2 a y o∧Q (.bl (!o.isSome)) H2
def sDPut (td ty tv:TE):TS:=fun D σ H=>tv σ H fun v H1=>td σ H1 fun x H2=>ty σ H2 fun y H3=>∃ a H4,x=.ref a∧DPut H3 a y v H4∧D.nx σ H4
section
variable {X:Cx}{o i e value:Expr}{pos pos' tpos:Pos}{td ty tv:TE}
theorem qdi (hu:X.A.units+1 < cLine) (ho:PE X o td) (hi:PE X i ty) (hs:NoSl i):PE X (.Subscript o i pos) (tDGet td ty):=by
 intro pins s σ H Q I h
 refine subD_of PySem.F.slot_dict_getitem.lookup hs (thn (ho pins s σ H _ I h) fun u s1 ⟨x,H1,I1,rx,q1⟩=>thn (hi pins s1 σ H1 _ I1 q1) fun iv s2 ⟨y,H2,I2,ry,a,v,ex,g,q2⟩=>?_)
 subst ex
 obtain rfl:u=Value.ref a:=rx
 exact ⟨qlr I2 g,d_getItem hu I2 g ry fun w' s3 I3 rw'=>⟨v,H2,I3,rw',q2⟩⟩
theorem ql6 (hu:X.A.units+1 < cLine) (hi:PE X i ty) (ho:PE X o td):PC X .In i o (tDIn ty td):=by
 intro pins s σ H Q I h
 refine thn (hi pins s σ H _ I h) fun iv s1 ⟨y,H1,I1,ry,q1⟩=>thn (ho pins s1 σ H1 _ I1 q1) fun u s2 ⟨x,H2,I2,rx,a,ov,ex,g,q2⟩=>?_
 subst ex
 obtain rfl:u=Value.ref a:=rx
 exact d_in hu I2 g ry fun s3 I3=>⟨.bl ov.isSome,H2,I3,rfl,q2⟩
theorem qhm (hu:X.A.units+1 < cLine) (hi:PE X i ty) (ho:PE X o td):PC X .NotIn i o (tDNotIn ty td):=by
 intro pins s σ H Q I h
 refine thn (hi pins s σ H _ I h) fun iv s1 ⟨y,H1,I1,ry,q1⟩=>thn (ho pins s1 σ H1 _ I1 q1) fun u s2 ⟨x,H2,I2,rx,a,ov,ex,g,q2⟩=>?_
 subst ex
 obtain rfl:u=Value.ref a:=rx
 exact d_notIn hu I2 g ry fun s3 I3=>⟨.bl (!ov.isSome),H2,I3,rfl,q2⟩
theorem qcx (hu:X.A.units+1 < cLine) (ho:PE X o td) (hi:PE X i ty) (hv:PE X value tv) (hs:swapsWith value (some (.Subscript o i pos')) pos.line X.env=pure false) :
  PS X (.Assign [.Subscript o i pos'] value pos) (sDPut td ty tv):=by
 intro pins s σ H D I h
 refine wpAny_Assign_Subscript (thn (hv pins s σ H _ I h) fun r s1 ⟨v,H1,I1,rv,q1⟩=>thn (ho pins s1 σ H1 _ I1 q1) fun u s2 ⟨x,H2,I2,rx,q2⟩=>thn (hi pins s2 σ H2 _ I2 q2) fun iv s3 ⟨y,H3,I3,ry,a,H4,ex,g,q3⟩=>?_) hs
 subst ex
 obtain rfl:u=Value.ref a:=rx
 exact d_setItem hu I3 g ry rv fun s4 I4=>⟨σ,H4,I4,q3⟩
end
theorem qmm {P:Program}{w:World}{H:Hp} (h:Heap) (hb:sysModules < h.objs.size):ObjOk P w H (h.push { cls:=.type "dict",data:=.dict #[] }) h.objs.size (.dK []) :=
 ⟨Nat.zero_le _,beq_eq_false_iff_ne.mpr (Ne.symm (Nat.ne_of_lt hb)),[],.nil,Heap.DictOf.new h⟩
def tDNewK:TE:=fun _ H Q=>∀ p,H p=none→Q (.ref p) (upd H p (.dK []))
section
variable {X:Cx}{pos:Pos}
theorem qfg:PE X (.Dict [] [] pos) tDNewK:=fun pins s σ H Q I h =>
 wpAny_Dict_empty ⟨.ref s.heap.objs.size,_,I.laid (a:=s.heap.objs.size) (o:=.dK []) (t':=s.toks) (fun _ _ q=>Heap.get?_push_of_some _ q) (Nat.le_refl _) (qmm s.heap I.big),rfl,h _ (I.hok.fresh (Nat.le_refl _))⟩
end
def tPairs:List (TE×TE)→St→Hp→(List (V×V)→Hp→Prop)→Prop
 | [],_,H,Q=>Q [] H
 | (tk,tv)::r,σ,H,Q=>tk σ H fun x H1=>tv σ H1 fun y H2=>tPairs r σ H2 fun ps H3=>Q ((x,y)::ps) H3
abbrev VV:List (V×V)→List (Value×Value)→Prop:=Paired fun p q=>RelV p.1 q.1∧RelV p.2 q.2
def PPs (X:Cx) (pos:Pos) (keys:List (Option Expr)) (values:List Expr) (trs:List (TE×TE)):Prop :=
 ∀ (pins:List (Addr×Obj)) (s:Shared) (σ:St) (H:Hp) (Q:List (V×V)→Hp→Prop),Inv X pins σ H s→tPairs trs σ H Q →
  wpAny (model X.prog X.w) X.A (evalPairs (pairTrees keys values X.env pos)) (fun vs s'=>∃ ps H',Inv X pins σ H' s'∧VV ps vs∧Q ps H') X.xe s
theorem pps_nil {X:Cx}{pos:Pos}:PPs X pos [] [] []:=fun pins s σ H Q I h=>pairTrees_nil_walk ⟨[],H,I,.nil,h⟩
theorem ql3 {X:Cx}{pos:Pos}{k v:Expr}{ks:List (Option Expr)}{vs:List Expr}{tk tv:TE}{trs:List (TE×TE)} (hk:PE X k tk) (hv:PE X v tv) (hr:PPs X pos ks vs trs) :
  PPs X pos (some k::ks) (v::vs) ((tk,tv)::trs):=fun pins s σ H Q I h =>
 pairTrees_cons_walk (thn (hk pins s σ H _ I h) fun u s1 ⟨x,H1,I1,rx,q1⟩=>thn (hv pins s1 σ H1 _ I1 q1) fun w2 s2 ⟨y,H2,I2,ry,q2⟩ =>
  thn (hr pins s2 σ H2 _ I2 q2) fun ws s3 ⟨ps,H3,I3,rel,q3⟩=>⟨(x,y)::ps,H3,I3,.cons ⟨rx,ry⟩ rel,q3⟩)
def qin (kvs more:List (Key×V)):List (Key×V):=more.foldl (fun acc kv=>putK acc kv.1 kv.2) kvs
theorem KV.merge:∀ {more:List (Key×V)}{rs:List (Key×Value)}{kvs:List (Key×V)}{vs:List (Key×Value)},KV more rs→KV kvs vs→KV (qin kvs more) (merged vs rs):=by
 intro more rs kvs vs r
 unfold KV at r
 induction r generalizing kvs vs with
 | nil=>intro q;exact q
 | @cons p q ps qs h t ih =>
  intro r0
  have e:KV (putK kvs p.1 p.2) (stored vs q.1 q.2):=by
   have:=r0.put p.1 h.2
   rw [← h.1];exact this
  exact ih e
theorem qga:∀ (more kvs:List (Key×V)),(qin kvs more).length≤kvs.length+more.length
 | [],kvs=>by show kvs.length≤kvs.length+0;omega
 | p::r,kvs=>by
  have h1:=qga r (putK kvs p.1 p.2)
  have h2:=qfr kvs p.1 p.2
  show (qin (putK kvs p.1 p.2) r).length≤_
  rw [List.length_cons];omega
theorem qit {P:Program}{w:World}:∀ {kvs:List (Key×V)}{ws:List (Value×Value)},VV (kvs.map fun kv=>(kV kv.1,kv.2)) ws→∃ rs,Carries (qb2 P w) ws rs∧KV kvs rs
 | [],_,r=>by rw [List.map_nil] at r;cases r;exact ⟨[],True.intro,.nil⟩
 | p::kvs,_,r=>by
  rw [List.map_cons] at r
  cases r with
  | @cons a b as bs h t =>
   obtain ⟨rs,c,q⟩:=qit (P:=P) (w:=w) t
   obtain ⟨b1,b2⟩:=b
   exact ⟨(p.1,b2)::rs,⟨qko h.1,rfl,c⟩,.cons ⟨rfl,h.2⟩ q⟩
def tDisp (trs:List (TE×TE)):TE:=fun σ H Q=>∀ p,H p=none→tPairs trs σ (upd H p (.dK [])) fun ps H2=>H2 p=some (.dK [])∧∃ kvs:List (Key×V),ps=kvs.map (fun kv=>(kV kv.1,kv.2))∧kvs.length≤15∧Q (.ref p) (upd H2 p (.dK (qin [] kvs)))
theorem pe_disp {X:Cx}{pos:Pos}{keys:List (Option Expr)}{values:List Expr}{trs:List (TE×TE)} (h:PPs X pos keys values trs) (hall:keys.all (·.isSome)=true) (hl:keys.length=values.length) (h0:keys≠[])
  (h15:keys.length≤15):PE X (.Dict keys values pos) (tDisp trs):=by
 intro pins s σ H Q I q
 have hn:=I.hok.fresh (Nat.le_refl s.heap.objs.size)
 have I1:=I.laid (a:=s.heap.objs.size) (o:=.dK []) (h':=s.heap.push { cls:=.type "dict",data:=.dict #[] }) (t':=s.toks) (fun _ _ q=>Heap.get?_push_of_some _ q) (Nat.le_refl _) (qmm s.heap I.big)
 refine wpAny_Dict_walk (knd:=qb2 X.prog X.w) hall hl h0 h15 (thn (h pins _ σ _ _ I1 (q _ hn)) fun ws s2 ⟨ps,H2,I2,rel,e,kvs,ep,lk,q2⟩=>?_)
 subst ep
 obtain ⟨rs,c,rk⟩:=qit (P:=X.prog) (w:=X.w) rel
 obtain ⟨z,hd,vs0,r0,dd⟩:=dk_of I2.hok e
 cases r0
 refine ⟨rs,c,dd,fun h' dd' hs=>⟨.ref s.heap.objs.size,_,?_,rfl,q2⟩⟩
 have hz:(qin [] kvs).length≤sizeLine:=by
  have h1:=qga kvs []
  rw [List.length_nil] at h1
  rw [sizeLine_eq];omega
 have he:∃ q,h'.get? s.heap.objs.size=some q:=let ⟨q,_,_,hq,_⟩:=dd';⟨q,hq⟩
 exact qjp I2 (by rw [e];exact True.intro) hs he (qml hz hd (rk.merge .nil) dd')
structure M1 (X:Cx) (o:Expr) (m:Str) (apos:Pos) (e:Expr) (cpos:Pos):Prop where
 base:attributeBase o m X.env (eval o X.env)=eval o X.env
 few:((backTo cpos (starEach [e] X.env)).all (fun x=>!x.1) && (backToKw cpos (keywordEach [] X.env)).all (fun x=>x.1.isSome)
  && decide (([e]:List Expr).length+([]:List Keyword).length+(if ([]:List Keyword).isEmpty then 0 else 1) < 30))=true
 line:(apos.endLine == cpos.line)=true
 trees:backTo cpos (starEach [e] X.env)=[(false,eval e X.env)]
structure M2 (X:Cx) (o:Expr) (m:Str) (apos:Pos) (e f:Expr) (cpos:Pos):Prop where
 base:attributeBase o m X.env (eval o X.env)=eval o X.env
 few:((backTo cpos (starEach [e,f] X.env)).all (fun x=>!x.1) && (backToKw cpos (keywordEach [] X.env)).all (fun x=>x.1.isSome)
  && decide (([e,f]:List Expr).length+([]:List Keyword).length+(if ([]:List Keyword).isEmpty then 0 else 1) < 30))=true
 line:(apos.endLine == cpos.line)=true
 trees:backTo cpos (starEach [e,f] X.env)=[(false,eval e X.env),(false,eval f X.env)]
def IsD (H:Hp) (a:Addr):Prop:=(∃ kvs,Rd H a (.dK kvs))∨∃ kvs,Rd H a (.dT kvs)
theorem isD_at {X:Cx}{pins:List (Addr×Obj)}{σ:St}{H:Hp}{s:Shared}{a:Addr} (I:Inv X pins σ H s) (d:IsD H a) :
  s.TypeIs (.ref a) "dict"∧(∀ b,Value.ref a=.ref b→∃ ob,s.heap.get? b=some ob∧ob.dict=none)∧(a == sysModules)=false:=by
 rcases d with ⟨kvs,e⟩ | ⟨kvs,e⟩
 ·obtain ⟨_,hd,vs,_,dd⟩:=qic I.hok e
  refine ⟨dd.typeIs,fun b q=>?_,hd⟩
  cases q
  obtain ⟨ob,_,_,h1,h2,_⟩:=dd
  exact ⟨ob,h1,h2.2.1⟩
 ·obtain ⟨_,hd,xs,_,dd⟩:=qlp I.hok e
  refine ⟨dd.typeIs,fun b q=>?_,hd⟩
  cases q
  obtain ⟨ob,_,_,h1,h2,_⟩:=dd
  exact ⟨ob,h1,h2.2.1⟩
section
variable {X:Cx}{pins:List (Addr×Obj)}{σ:St}{H:Hp}{s:Shared}{a:Addr}{y d:V}{u r:Value}{o:Option V}{A:Around}{E:Value→Shared→Prop}
theorem d_get2 {Q:Value→Shared→Prop} (hu:A.units+1 < cLine) (I:Inv X pins σ H s) (g:DGet H a y o) (ry:RelV y u) (rd:RelV d r) (h:∀ w' s',Inv X pins σ H s'→RelV (o.getD d) w'→Q w' s') :
  wpAny (model X.prog X.w) A (call (.builtin "dict.get") [.ref a,u,r]) Q E s:=by
 rcases g with ⟨kvs,k,e,ey,l⟩ | ⟨kvs,k,b,e,ey,eb,l⟩
 ·subst ey
  obtain ⟨z,hd,vs,rel,dd⟩:=qic I.hok e
  refine call_meetsIn PySem.F.slot_dict_get dd.typeIs PySem.F.entry_dict_get (PySem.F.args_dict_get_3 _ _ _) (meets_dict_get_default (qb2 X.prog X.w) a (qko ry) hd r) ⟨_,dd.mapOf,h _ _ (I.tok _) ?_⟩
  rw [l]
  exact (rel.val k).getD rd
 ·subst ey
  cases (show u=Value.ref b from ry)
  obtain ⟨z,hd,xs,rel,dd⟩:=qlp I.hok e
  refine call_meetsIn PySem.F.slot_dict_get dd.typeIs PySem.F.entry_dict_get (PySem.F.args_dict_get_3 _ _ _) (meetsH_dict_get_default (tupleKind (qb2 X.prog X.w)) a b hd r) ⟨tupleKind_room_in1 hu,k,xs,qiq I.hok eb,dd,h _ _ (I.tok _) ?_⟩
  rw [l]
  exact (rel.val k).getD rd
end
def tDGet2 (td ty tx:TE):TE:=fun σ H Q=>td σ H fun x H1=>∃ a,x=.ref a∧IsD H1 a∧ty σ H1 fun y H2=>tx σ H2 fun z H3=>∃ o,DGet H3 a y o∧Q (o.getD z) H3
def tDPop1 (td ty:TE):TE:=fun σ H Q=>td σ H fun x H1=>∃ a,x=.ref a∧IsD H1 a∧ty σ H1 fun y H2=>∃ kvs k v,H2 a=some (.dK kvs)∧y=kV k∧valV kvs k=some v∧Q v (upd H2 a (.dK (qlq kvs k)))
section
variable {X:Cx}{o e f:Expr}{apos cpos:Pos}{td ty tx:TE}
theorem qf7 (hu:X.A.units+1 < cLine) (ho:PE X o td) (he:PE X e ty) (hf:PE X f tx) (m:M2 X o "get" apos e f cpos):PE X (.Call (.Attribute o "get" apos) [e,f] [] cpos) (tDGet2 td ty tx):=by
 intro pins s σ H Q I h
 refine wpAny_Call_method m.base m.few m.line PySem.F.plainAttrs_dict PySem.F.slot_dict_get PySem.F.type_dict_get (thn (ho pins s σ H _ I h) fun u s1 ⟨x,H1,I1,rx,a,ex,d,q1⟩=>?_)
 subst ex
 obtain rfl:u=Value.ref a:=rx
 obtain ⟨t1,t2,_⟩:=isD_at I1 d
 refine ⟨t1,t2,?_⟩
 rw [m.trees]
 refine Calls.callWith_builtin rfl (Calls.evalArgs_plain (Calls.spliced_cons (thn (he pins s1 σ H1 _ I1 q1) fun iv s2 ⟨y,H2,I2,ry,q2⟩ =>
  Calls.spliced_cons (thn (hf pins s2 σ H2 _ I2 q2) fun fv s3 ⟨z,H3,I3,rz,ov,g,q3⟩=>Calls.spliced_nil ?_))))
 exact d_get2 hu I3 g ry rz fun w' s4 I4 rw'=>⟨_,H3,I4,rw',q3⟩
theorem pe_dpop1 (ho:PE X o td) (he:PE X e ty) (m:M1 X o "pop" apos e cpos):PE X (.Call (.Attribute o "pop" apos) [e] [] cpos) (tDPop1 td ty):=by
 intro pins s σ H Q I h
 refine wpAny_Call_method m.base m.few m.line PySem.F.plainAttrs_dict PySem.F.slot_dict_pop PySem.F.type_dict_pop (thn (ho pins s σ H _ I h) fun u s1 ⟨x,H1,I1,rx,a,ex,d,q1⟩=>?_)
 subst ex
 obtain rfl:u=Value.ref a:=rx
 obtain ⟨t1,t2,_⟩:=isD_at I1 d
 refine ⟨t1,t2,?_⟩
 rw [m.trees]
 refine Calls.callWith_builtin rfl (Calls.evalArgs_plain (Calls.spliced_cons (thn (he pins s1 σ H1 _ I1 q1) fun iv s2 ⟨y,H2,I2,ry,kvs,k,v,ea,ey,l,q2⟩=>Calls.spliced_nil ?_)))
 subst ey
 exact d_pop I2 ea ry l (.inl rfl) fun w' s3 I3 rw'=>⟨v,_,I3,rw',q2⟩
end
section
variable {X:Cx}{pins:List (Addr×Obj)}{σ:St}{H:Hp}{s:Shared}{a:Addr}{kvs:List (Key×V)}{A:Around}{E:Value→Shared→Prop}
theorem d_copyOf {Q:Value→Shared→Prop} (I:Inv X pins σ H s) (e:Rd H a (.dK kvs)) (h:∀ p s',H p=none→Inv X pins σ (upd H p (.dK kvs)) s'→Q (.ref p) s'):wpAny (model X.prog X.w) A (call (.type "dict") [.ref a]) Q E s:=by
 obtain ⟨z,hd,vs,rel,dd⟩:=qic I.hok e
 refine kt_call_dict hd dd (by rw [← rel.length];exact z) fun h' dd' hs=>?_
 refine h _ _ (I.hok.fresh (Nat.le_refl _)) (I.laid (a:=s.heap.objs.size) (o:=.dK kvs) (t':=s.toks) (fun b q hq=>?_) (Nat.le_refl _) (qml z (beq_eq_false_iff_ne.mpr (Ne.symm (Nat.ne_of_lt I.big))) rel dd'))
 exact (hs.2 b (Nat.ne_of_lt (Heap.lt_size hq))).trans (Heap.get?_push_of_some _ hq)
end
section
variable {X:Cx}{pins:List (Addr×Obj)}{σ:St}{H:Hp}{s:Shared}{a:Addr}{y:V}{u:Value}{A:Around}{E:Value→Shared→Prop}
end
end L2
namespace Att
open PySem PySem.W PySem.Calls PyProof.Rows
theorem qht {P:Params}{h:Heap}:∀ (ns:List Int) (vs:List Value),WellAll P h vs (ns.map WData.int)→IntsAre vs ns:=by
 intro ns
 induction ns with
 | nil =>
  intro vs w
  rw [List.map_nil] at w
  cases w
  exact .nil
 | cons n ns ih =>
  intro vs w
  rw [List.map_cons] at w
  cases w with
  | cons a b =>
   cases a
   exact .cons _ _ (ih _ b)
theorem script_of {l:OpenLaw}{n:Nat} (hn:l.most=some n) {P:Params}{h:Heap}{args:List WData}{vals:List Value}
  (hpre:l.row.toRowW.claim.pre args=true) (hwl:WellAll P h vals args) :
  ∃ a vs ns,vals=[Value.ref a]∧args=[WData.list (ns.map WData.int)]∧h.get? a=some { cls:=.type "list",data:=.seq vs.toArray }∧IntsAre vs ns∧ns.length≤n:=by
 have hsh:WShape.hasAll [] args [.list .int]=true:=(pre_splitW hpre).1
 have hc:l.pre.holds [] { args:=args }=true:=(pre_splitW hpre).2
 obtain ⟨d,r,rfl,h1,h2⟩:=hasAllW_cons hsh
 obtain rfl:=hasAllW_nil h2
 obtain ⟨xs,rfl,h3⟩:=hasW_list h1
 obtain ⟨ns,rfl⟩:=items_int h3
 have hlen:ns.length≤n:=by
  unfold OpenLaw.pre at hc
  have h4:(WTm.not (.lt (.lit (.int (n:Int))) (.len (.arg 0)))).holds [] { args:=[.list (ns.map .int)] }=true:=by
   have h4:=(holds_andW hc).1
   rw [hn] at h4
   exact h4
  have h5:=condW_of h4 (w_not (w_lt w_lit (w_len_list (w_arg rfl))))
  rw [List.length_map] at h5
  refine Nat.le_of_not_lt fun q=>?_
  have q':(n:Int) < ((ns.length:Nat):Int):=by omega
  first
   | (rw [decide_eq_true q'] at h5;exact absurd h5 (by decide))
   | (simp at h5;omega)
 cases hwl with
 | cons w1 w2 =>
  cases w2
  cases w1 with
  | list ho hall=>exact ⟨_,_,ns,rfl,rfl,ho,qht ns _ hall,hlen⟩
theorem post_true (l:OpenLaw) (args:List WData):l.row.toRowW.claim.post args (.bool true) args=true :=
 postW_of (r:=l.row.toRowW) (X:=(true == true))
  (show WShape.has [] (.bool true) .bool=true by first | rfl | decide | simp [WShape.has,WShape.arms,WShape.armsAll])
  (show (WTm.eq .res (.lit (.bool true))).value [] { args:=args,res:=some (.bool true),after:=args }=some (.bool (true == true)) from w_eq_bool (w_res rfl) w_lit) rfl
theorem attach_call {l:OpenLaw}{n:Nat}{q:Program}{loose:List Str}{XP:(Str→Option Value)→Heap→Prop}{YP:World→Heap→Prop}{d:DefRec}
  (hn:l.most=some n) (hdf:d.params.defaults=[])
  (call:∀ (w:World) (s₀ s₁:Shared) (mg mb:Str→Option Value) (fa:Addr) (o:Obj) (pm cd doc:Value) (a:Addr) (vs:List Value) (ns:List Int),
   Ground q loose [] XP w s₀ mg mb s₁.heap→YP w s₁.heap →
   s₁.heap.get? fa=some o→o.data=.func (docDef d.name d.params d.body d.scope pm cd doc)→s₁.heap.CodeRec cd d.name→mg d.name=some (.ref fa) →
   s₁.heap.get? a=some { cls:=.type "list",data:=.seq vs.toArray }→IntsAre vs ns→ns.length≤n→s₁.gens=#[] →
   codeAny (model l.prog w) callerA (.call (.ref fa) ⟨[.ref a],[]⟩) (fun r s'=>r=.ok (.ret (.bool true))∧OldK s₁.heap s'.heap∧s'.os=s₁.os∧AllBare s'.gens) s₁) :
  WalkO q loose XP YP l.row.toRowW d [] (fun f vs=>PySem.call f vs):=by
 intro w s₀ s₁ mg mb G Y fa o pm cd doc dV kV ho hd hcd hD hmg hg args vals as hpre hlay hrd hwl hlo
 obtain rfl:dV=.none:=Dflts.none hD hdf
 obtain rfl:kV=.none:=Dflts.noKw hD
 obtain ⟨a,vs,ns,rfl,rfl,hobj,hints,hlen⟩:=script_of hn hpre hwl
 refine enter_call (codeAny_mono (call w s₀ s₁ mg mb fa o pm cd doc a vs ns G Y ho (fd_plain hd) hcd hmg hobj hints hlen hg) fun r s' hq=>?_)
 obtain ⟨rfl,h2,h3,h4⟩:=hq
 exact ⟨.inl ⟨.bool true,.bool true,[],rfl,fun _=>rfl,.bool true,post_true l _,fun _=>⟨List.Pairwise.nil,fun _ hm=>(nomatch hm)⟩⟩,h2,h3,h4⟩
section
variable {prog:Program}{w:World}{A:Around}{E:Value→Shared→Prop}{s:Shared}{K:Frag}
end
end Att
namespace L2
open PySem PySem.Spec PyProof.Rows
theorem qjx:∀ {vs:List Value}{ns:List Int},IntsAre vs ns→Vals (ns.map V.int) vs
 | _,_,.nil=>.nil
 | _,_,.cons n t h=>.cons ⟨t,rfl⟩ (qjx h)
def Only (H:Hp):Prop:=∀ b,H b=none∨∃ o xs,H b=some (.frz o (.lst xs))
theorem law_call {P:Program}{w:World}{K:PySem.W.Frag}{mg mb:Str→Option Value}{CX:CXT}{k:Nat}{fa a:Addr}{fd:FuncData}{x:Str}{sp:Sp}{s₁:Shared}{vs:List Value}{ns:List Int}
  (KX:K.In s₁.heap) (hns:s₁.heap.Ns mainGlobals mg) (hb:s₁.heap.Ns builtinsNs mb) (hbb:∀ x:Str,x≠"__name__"→mb x=bootBuiltins x) (hlim:s₁.heap.NoLimit) (hg:s₁.gens=#[])
  (ha:s₁.heap.get? a=some { cls:=.type "list",data:=.seq vs.toArray }) (hi:IntsAre vs ns) (hl:ns.length≤sizeLine) (hr:Room k callerA)
  (F:∀ base:Heap,K.In base→base.Ns mainGlobals mg→FnOk P w K mg base CX k fa fd [x] sp) (hbind:∀ (s:Shared) (u:Value),BindsTo s fd ⟨[u],[]⟩ [(x,u)])
  (hsp:∀ H:Hp,Only H→SqL K H a (ns.map V.int)→sp [.ref a] H (fun v _=>v=.bl true) fun _ _ _=>False)
  (hCX:∀ H e s',CX [] H s₁ (fun _ _ _=>False) e s'→False) :
  codeAny (model P w) callerA (.call (.ref fa) ⟨[.ref a],[]⟩) (fun r s'=>r=.ok (.ret (.bool true))∧OldK s₁.heap s'.heap∧s'.os=s₁.os∧AllBare s'.gens) s₁:=by
 have rv:=qjx hi
 have lenV:=hi.length
 have core:∀ H:Hp,Only H→SqL K H a (ns.map V.int)→HOk P w H s₁.heap→(∀ b,H b≠none→b=a)→(H a≠none→K.lookup a=none) →
   codeAny (model P w) callerA (.call (.ref fa) ⟨[.ref a],[]⟩) (fun r s'=>r=.ok (.ret (.bool true))∧OldK s₁.heap s'.heap∧s'.os=s₁.os∧AllBare s'.gens) s₁:=by
  intro H hO hS hok hA hK
  have base_of:∀ {b:Addr}{o:Obj},s₁.heap.get? b=some o→H b=none→(hidT s₁.heap H).get? b=some o:=fun e n=>hidT_get e n
  have noA:∀ {b:Addr}{o:Obj}{es:Array DictEntry}{ep:Nat},s₁.heap.get? b=some o→o.data=.dict es ep→H b=none:=fun {b o es ep} e d=>by
   cases q:H b with
   | none=>rfl
   | some u =>
    have e':b=a:=hA b (by rw [q];simp)
    subst e'
    rw [ha] at e;cases e
    have d':Data.seq vs.toArray _=Data.dict es ep:=d
    cases d'
  have nsK:∀ {b:Addr}{m:Str→Option Value},s₁.heap.Ns b m→(hidT s₁.heap H).Ns b m:=fun {b m} ⟨o,es,ep,e,d,r⟩=>⟨o,es,ep,base_of e (noA e d),d,r⟩
  have hKb:K.In (hidT s₁.heap H):=fun b o e=>base_of (KX b o e) (by
   cases q:H b with
   | none=>rfl
   | some u =>
    have e':b=a:=hA b (by rw [q];simp)
    subst e'
    rw [hK (by rw [q];simp)] at e;cases e)
  have hM:Mod K mg (hidT s₁.heap H):=⟨hKb,nsK hns,⟨mb,nsK hb,hbb⟩,let ⟨mc,h1,h2⟩:=hlim;⟨mc,nsK h1,h2⟩⟩
  have e0:Env0 P w K mg (hidT s₁.heap H) callerA [] s₁ H:=⟨rfl,hM,fun b o e=>of_hidT e,Nat.le_of_eq (hidT_size _ _),trivial,fun b hb=>absurd (show b∈([]:List Addr) from hb) (by simp),hok,.of_eq hg⟩
  refine codeAny_mono ((F _ hKb (nsK hns)).run callerA [] s₁ H ⟨[.ref a],[]⟩ [.ref a] [.ref a] _ _ hr e0 (hbind s₁ (.ref a)) (.cons rfl .nil) (hsp H hO hS)) fun r s' h=>?_
  cases r with
  | error e=>exact (hCX H e s' h).elim
  | ok fl =>
   cases fl with
   | next=>exact False.elim h
   | brk=>exact False.elim h
   | cont=>exact False.elim h
   | ret u =>
    obtain ⟨v,H',os,bare,un,hok',r',q⟩:=h
    have q':v=.bl true:=q
    subst q'
    obtain rfl:u=Value.bool true:=r'
    refine ⟨rfl,OldK.of_keep fun b o e=>?_,os,bare⟩
    cases q:H b with
    | none=>exact un.keep b o e q (by intro z;exact absurd (show b∈([]:List Addr) from z) (by simp)) (by simp)
    | some u =>
     rcases hO b with z | ⟨ob,xs,z⟩
     ·rw [q] at z;cases z
     ·have z2:=un.frzs b ob _ z
      obtain ⟨e1,_⟩:=hok b _ z
      obtain ⟨e2,_⟩:=hok' b _ z2
      rw [e] at e1;cases e1
      exact e2
 cases hk:K.lookup a with
 | some o =>
  have e:=KX a o hk
  rw [ha] at e
  cases e
  refine core (fun _=>none) (fun _=>.inl rfl) (.inr ⟨_,vs.toArray,_,hk,rfl,rfl,rfl,by rw [List.size_toArray,lenV];exact hl,by simpa using rv⟩) (fun b u z=>by have z':(none:Option HO)=some u:=z;cases z') (fun b z=>absurd rfl z) fun z=>absurd rfl z
 | none =>
  refine core (fun b=>if b=a then some (.frz { cls:=.type "list",data:=.seq vs.toArray } (.lst (ns.map V.int))) else none) (fun b=>?_) (.inl (.inr ⟨{ cls:=.type "list",data:=.seq vs.toArray },if_pos rfl⟩)) (fun b u z=>?_) (fun b z=>?_) fun _=>hk
  ·by_cases hb:b=a
   ·exact .inr ⟨_,_,if_pos hb⟩
   ·exact .inl (if_neg hb)
  ·by_cases hb:b=a
   ·have z':=(if_pos hb).symm.trans z
    cases z'
    subst hb
    exact ⟨ha,by rw [List.length_map];exact hl,vs,_,rv,ha⟩
   ·have z':=(if_neg hb).symm.trans z
    cases z'
  ·by_cases hb:b=a
   ·exact hb
   ·exact absurd (if_neg hb) z
end L2
namespace L2
open PySem PySem.Spec PyProof.Rows
theorem walk_of {l:PySem.W.OpenLaw}{n k:Nat}{q:Program}{loose:List Str}{XP:(Str→Option Value)→Heap→Prop}{YP:World→Heap→Prop}{d:DefRec}{K:Params→PySem.W.Frag}{CX:World→CXT}{sp:World→Sp}{x:Str}
  (hn:l.most=some n) (hn2:n≤sizeLine) (hdf:d.params.defaults=[]) (hr:Room k callerA)
  (hY:∀ (w:World) (h:Heap),YP w h→(K w.params).In h)
  (F:∀ (w:World) (mg:Str→Option Value) (fa:Addr) (h:Heap),(K w.params).In h→h.Ns mainGlobals mg→mg d.name=some (.ref fa) →
   ∃ fd:FuncData,(∀ (s:Shared) (u:Value),BindsTo s fd ⟨[u],[]⟩ [(x,u)]) ∧
    ∀ base:Heap,(K w.params).In base→base.Ns mainGlobals mg→FnOk l.prog w (K w.params) mg base (CX w) k fa fd [x] (sp w))
  (hsp:∀ (w:World) (H:Hp) (a:Addr) (ns:List Int),ns.length≤n→Only H→SqL (K w.params) H a (ns.map V.int)→sp w [.ref a] H (fun v _=>v=.bl true) fun _ _ _=>False)
  (hCX:∀ (w:World) (H:Hp) (s:Shared) (e:Value) (s':Shared),CX w [] H s (fun _ _ _=>False) e s'→False) :
  PySem.W.WalkO q loose XP YP l.row.toRowW d [] (fun f vs=>PySem.call f vs):=by
 refine Att.attach_call hn hdf fun w s₀ s₁ mg mb fa o pm cd doc a vs ns G Y ho hd hcd hmg hobj hints hlen hg=>?_
 have KX:=hY w _ Y
 obtain ⟨fd,hb,hF⟩:=F w mg fa _ KX G.T.g hmg
 exact law_call KX G.T.g G.T.b G.T.builtins G.T.nolimit hg hobj hints (Nat.le_trans hlen hn2) hr hF hb (fun H hO hS=>hsp w H a ns hlen hO hS) fun H e s'=>hCX w H s₁ e s'
end L2
namespace L2
open PySem PySem.Spec PyProof.Rows
def qcj (s:Stmt) (j:Nat):Stmt:=match s with
 | .ClassDef _ _ _ body _ _ _ _ _ _ _=>body.getD j (.Pass ⟨0,0,0,0⟩)
 | _=>.Pass ⟨0,0,0,0⟩
def qar (s:Stmt):Arguments:=match s with
 | .FunctionDef _ a _ _ _ _ _ _ _ _=>a
 | _=>{ posonlyargs:=[],args:=[],vararg:=none,kwonlyargs:=[],kw_defaults:=[],kwarg:=none,defaults:=[] }
def qao (s:Stmt):List Stmt:=match s with
 | .FunctionDef _ _ b _ _ _ _ _ _ _=>b
 | _=>[]
def qaj (s:Stmt):Scope:=match s with
 | .FunctionDef _ _ _ _ _ _ sc _ _ _=>sc
 | _=>{ kind:=.function,names:=[],isGenerator:=false,isCoroutine:=false }
abbrev E0:XK:=fun _ _ _=>False
structure Fun (K:PySem.W.Frag) (x qual:Str) (st:Stmt) (f:Addr) (fd:FuncData):Prop where
 ex:∃ (oc:Value) (od:Option Addr) (kV doc pm:Value) (an:Option Addr) (cdv ct:Value) (osl:Array (Option Value)),
  fd=PySem.W.fnOf x qual (qar st) (qao st) (qaj st) .none kV doc pm an cdv ct∧K.lookup f=some ⟨oc,od,.func fd,osl⟩∧PySem.W.codeIn K cdv qual=true
 kp:PySem.W.keepIn K (.ref f)=true
section
variable {P:Program}{w:World}{K:PySem.W.Frag}{mg:Str→Option Value}{base:Heap}
theorem Fun.binds {x qual:Str}{st:Stmt}{f:Addr}{fd:FuncData}{ps:List Str} (F:Fun K x qual st f fd)
  (h:∀ (kV doc pm:Value) (an:Option Addr) (cdv ct:Value) (us:List Value),us.length=ps.length→bindArgs (PySem.W.fnOf x qual (qar st) (qao st) (qaj st) .none kV doc pm an cdv ct) ⟨us,[]⟩=pure (ps.zip us)):Binds K fd ps []:=by
 obtain ⟨oc,od,kV,doc,pm,an,cdv,ct,osl,rfl,lk,hcd⟩:=F.ex
 exact .all (h kV doc pm an cdv ct)
theorem qa2 {x qual:Str}{st:Stmt}{f:Addr}{oc:Value}{od an:Option Addr}{osl:Array (Option Value)}{kV doc pm cdv ct:Value} (l:K.lookup f=some ⟨oc,od,.func (PySem.W.fnOf x qual (qar st) (qao st) (qaj st) .none kV doc pm an cdv ct),osl⟩)
  (c:PySem.W.codeIn K cdv qual=true) (k:PySem.W.keepIn K (.ref f)=true):Fun K x qual st f (PySem.W.fnOf x qual (qar st) (qao st) (qaj st) .none kV doc pm an cdv ct):=⟨⟨oc,od,kV,doc,pm,an,cdv,ct,osl,rfl,l,c⟩,k⟩
end
theorem qbk {A:Around}{k:Nat} (hr:Room k A):A.units+1 < cLine:=Nat.lt_of_le_of_lt (Nat.add_le_add_left (by decide:1≤64) _) hr.units
section
variable {X:Cx}
theorem pv (i:Nat) {x:Str}{pos:Pos} (hN:X.N[i]?=some x:=by rfl) (hv:Vis X.env.scope x:=by first | exact Or.inl rfl | exact Or.inr (Or.inl rfl) | exact Or.inr (Or.inr rfl)) (hd:(x == ("__debug__":Str))=false:=by decide)
  (hcd:(x == ("__classdict__":Str))=false:=by decide):PE X (.Name x pos) (tVar i):=pe_var hN hv hd hcd
theorem qe9:qgy X (.builtin "len") (fun xs H Q=>∃ a kvs,xs=[V.ref a]∧H a=some (.dK kvs)∧Q (.int kvs.length) H):=by
 intro pins s σ H xs us Q I r h
 obtain ⟨a,kvs,rfl,ha,q⟩:=h
 obtain ⟨u,rfl,ru⟩:=qh5 r
 cases ru
 exact d_len I (.inl ha) fun t s' I'=>⟨.int kvs.length,H,I',⟨t,rfl⟩,q⟩
end
theorem iteF {A B:Prop} (h:B):if false=true then A else B:=by
 rw [if_neg Bool.false_ne_true]
 exact h
theorem iteT {A B:Prop} (h:A):if true=true then A else B:=by
 rw [if_pos rfl]
 exact h
theorem ite2 {c A B:Prop} [Decidable c] (h1:c→A) (h2:¬ c→B):if c then A else B:=by
 by_cases h:c
 ·rw [if_pos h]
  exact h1 h
 ·rw [if_neg h]
  exact h2 h
def Same (H H':Hp):Prop:=∀ b o,H b=some o→H' b=some o
theorem Same.trans {H H1 H2:Hp} (a:Same H H1) (b:Same H1 H2):Same H H2:=fun c o h=>b c o (a c o h)
theorem Same.free {H H':Hp} (e:Same H H') {l:Addr} (h:H' l=Option.none):H l=Option.none:=by
 cases q:H l with
 | none=>rfl
 | some o =>
  rw [e l o q] at h
  cases h
theorem Same.seq {K:PySem.W.Frag}{H H':Hp}{a:Addr}{xs:List V} (e:Same H H') (h:SqL K H a xs):SqL K H' a xs:=by
 rcases h with (h | ⟨o,h⟩) | h
 ·exact .inl (.inl (e _ _ h))
 ·exact .inl (.inr ⟨o,e _ _ h⟩)
 ·exact .inr h
section
variable {κ:Type} [DecidableEq κ]
theorem qer:∀ {l:List κ}{k:κ},l.Nodup→¬ k∈l→(l++[k]).Nodup
 | [],k,_,_=>by simp
 | a::r,k,h,hk=>by
  obtain ⟨h1,h2⟩:=List.nodup_cons.mp h
  show (a::(r++[k])).Nodup
  refine List.nodup_cons.mpr ⟨fun m=>?_,qer h2 fun m=>hk (List.mem_cons.mpr (Or.inr m))⟩
  rcases List.mem_append.mp m with q | q
  ·exact h1 q
  ·exact hk (List.mem_cons.mpr (Or.inl (List.mem_singleton.mp q).symm))
end
end L2
namespace L2
open PySem PySem.Spec PyProof.Rows
theorem ff:(NameKind.free == NameKind.free)=true:=rfl
def qeh (cells:List (Str×Addr)):List (Str×NameKind)→List (Str×Addr)→List (Str×Addr)
 | [],cs=>cs
 | (n,k)::r,cs=>qeh cells r (if k == .free then (n,(cells.lookup n).getD 0)::cs else cs)
theorem qhz (env:Env):∀ (names:List (Str×NameKind)) (cs:List (Str×Addr)),(∀ y∈names,y.2=.free→∃ c,env.cells.lookup y.1=some c) →
  (forIn names cs fun (x:Str×NameKind) (r:List (Str×Addr))=>match x with
   | (name,kind)=>if (kind == .free)=true then (do let c ← cellOf env name;pure (ForInStep.yield ((name,c)::r))) else pure (ForInStep.yield r):Sem (List (Str×Addr)))=pure (qeh env.cells names cs)
 | [],cs,_=>rfl
 | (n,k)::r,cs,h=>by
  rw [List.forIn_cons]
  by_cases hk:k=.free
  ·subst hk
   obtain ⟨c,hc⟩:=h (n,.free) List.mem_cons_self rfl
   have hc:env.cells.lookup n=some c:=hc
   have ih:=qhz env r ((n,c)::cs) fun y hy=>h y (List.mem_cons_of_mem _ hy)
   have e1:qeh env.cells ((n,NameKind.free)::r) cs=qeh env.cells r ((n,c)::cs):=by
    show qeh env.cells r (if (NameKind.free == NameKind.free)=true then (n,(env.cells.lookup n).getD 0)::cs else cs)=_
    rw [if_pos ff,hc]
    all_goals rfl
   rw [e1,← ih]
   have e2:cellOf env n=pure c:=by
    unfold cellOf
    rw [hc]
   simp only [beq_self_eq_true,if_true,e2]
   rfl
  ·have hb:(k == NameKind.free)=false:=by simpa using hk
   have ih:=qhz env r cs fun y hy=>h y (List.mem_cons_of_mem _ hy)
   have e1:qeh env.cells ((n,k)::r) cs=qeh env.cells r cs:=by
    show qeh env.cells r (if (k == NameKind.free)=true then (n,(env.cells.lookup n).getD 0)::cs else cs)=_
    rw [hb,if_neg Bool.false_ne_true]
   rw [e1,← ih]
   simp only [hb]
   rfl
theorem qeu {scope:Scope}{env:Env} (h:∀ y∈scope.names,y.2=.free→∃ c,env.cells.lookup y.1=some c):closureFor scope env=pure (qeh env.cells scope.names []):=by
 have e:=qhz env scope.names [] h
 unfold closureFor
 refine Eq.trans ?_ (congrArg (fun m:Sem (List (Str×Addr))=>m >>= pure) e)
 rfl
theorem qjr {cells:List (Str×Addr)}{y:Str}{c:Addr}:∀ (names:List (Str×NameKind)) (cs:List (Str×Addr)),(∀ z∈names,z.2=.free→∃ c,cells.lookup z.1=some c)→(∀ z d,cs.lookup z=some d→cells.lookup z=some d) →
  (qeh cells names cs).lookup y=some c→cells.lookup y=some c
 | [],cs,_,hcs,h=>hcs y c h
 | (n,k)::r,cs,hf,hcs,h=>by
  refine qjr r _ (fun z hz=>hf z (List.mem_cons_of_mem _ hz)) ?_ h
  by_cases hk:k=.free
  ·subst hk
   obtain ⟨d,hd⟩:=hf (n,.free) List.mem_cons_self rfl
   have hd:cells.lookup n=some d:=hd
   intro z d' hz
   rw [if_pos ff,hd] at hz
   by_cases e:z=n
   ·subst e
    rw [List.lookup_cons] at hz
    simp only [beq_self_eq_true] at hz
    rw [hd]
    exact hz
   ·have hb:(z == n)=false:=by simpa using e
    rw [List.lookup_cons] at hz
    simp only [hb] at hz
    exact hcs z d' hz
  ·have hb:(k == NameKind.free)=false:=by simpa using hk
   rw [hb,if_neg Bool.false_ne_true]
   exact hcs
theorem qis {cells:List (Str×Addr)}{y:Str}:∀ (names:List (Str×NameKind)) (cs:List (Str×Addr)),(cs.lookup y).isSome=true→((qeh cells names cs).lookup y).isSome=true
 | [],cs,h=>h
 | (n,k)::r,cs,h=>by
  refine qis r _ ?_
  by_cases hk:(k == NameKind.free)=true
  ·rw [if_pos hk,List.lookup_cons]
   cases z:(y == n)
   ·exact h
   ·rfl
  ·rw [if_neg hk]
   exact h
theorem qh0 {cells:List (Str×Addr)}{y:Str}:∀ (names:List (Str×NameKind)) (cs:List (Str×Addr)),(y,NameKind.free)∈names→((qeh cells names cs).lookup y).isSome=true
 | (n,k)::r,cs,h=>by
  rcases List.mem_cons.mp h with e | e
  ·cases e
   refine qis r _ ?_
   rw [if_pos ff,List.lookup_cons]
   simp
  ·exact qh0 r _ e
def blk (X:Cx) (scope:Scope) (cl:List (Str×Addr)) (C:Addr) (Nb:List Str) (s₃:Shared) (H₃:Hp) (fp:List Addr):Cx where
 prog:=X.prog
 w:=X.w
 K:=X.K
 mg:=X.mg
 base:=X.base
 A:=X.A
 N:=Nb
 s₀:=s₃
 H₀:=H₃
 env:=compEnvC scope cl C X.env
 outer:=X.stack
 stack:=X.stack
 ex:=fp
 fn:=fun _=>false
 calm:=true
 pn:=[]
 xe:=fun _ _=>False
structure CompOk (N:List Str) (esc:Scope) (scope:Scope) (x:Str) (fr:List Str) (ix:List Nat):Prop where
 kind:scope.kind=.function
 cell:∀ y∈scope.names,y.2≠.cell
 loc:scope.names.lookup x=some .local
 nm:∀ y∈scope.names,y.2=.local→scope.names.lookup y.1=some .local
 free:∀ y∈scope.names,y.2=.free→esc.names.lookup y.1=some .cell
 nd:(x::fr).Nodup
 idx:∀ p∈fr.zip ix,N[p.2]?=some p.1
 frs:∀ y∈fr,scope.names.lookup y=some .free∧esc.names.lookup y=some .cell
 len:ix.length=fr.length
def capt (ix:List Nat) (σ:St):St:=ix.map fun i=>(σ[i]?).getD none
def PIfs (X:Cx) (ifs:List Expr) (t:TT):Prop :=
 ∀ (pins:List (Addr×Obj)) (s:Shared) (σ:St) (H:Hp) (Q:Bool→Hp→Prop),Inv X pins σ H s→t σ H Q →
  wpAny (model X.prog X.w) X.A (forIn ifs true fun c r=>if r=true then do let ok ← isTrue c X.env (eval c X.env);pure (ForInStep.yield ok) else pure (ForInStep.yield r)) (TP X pins σ Q) X.xe s
def tYes:TT:=fun _ H Q=>Q true H
theorem qf4 {X:Cx}:PIfs X [] tYes:=fun pins s σ H Q I h=>wpAny_pure ⟨H,I,h⟩
theorem qg3 {X:Cx}{c:Expr}{t:TT} (h:PT X c t):PIfs X [c] t:=by
 intro pins s σ H Q I hq
 rw [List.forIn_cons]
 refine wpAny_bind ?_
 rw [if_pos rfl]
 refine wpAny_bind (thn (h pins s σ H Q I hq) fun b s1 h1=>wpAny_pure ?_)
 show wpAny _ _ (forIn [] b _) _ _ _
 rw [List.forIn_nil]
 exact wpAny_pure h1
def CompB (J:It) (tc:TT) (te:TE) (cap:St) (D:Addr) (H1:Hp) (Q:VK):Prop :=
 ∃ Pv:Nat→Nat→List V→Hp→Prop,(∃ m,Pv 0 m [] (upd H1 D (.lst [])))∧∀ i m ys H2,Pv i m ys H2 →
  (J.stop i H2∧H2 D=some (.lst ys)∧Q (.ref D) H2)∨(J.go i H2∧∀ x H3,J.yld i H2 x H3→tc (some x::cap) H3 fun b H4=>if b=true then
   te (some x::cap) H4 fun v H5=>H5 D=some (.lst ys)∧ys.length < sizeLine∧∃ m',m' < m∧Pv (i+1) m' (ys++[v]) (upd H5 D (.lst (ys++[v])))
   else ∃ m',m' < m∧Pv (i+1) m' ys H4)
def tComp (wi:TI) (ix:List Nat) (tc:TT) (te:TE):TE:=fun σ H Q=>wi σ H fun J H1=>∀ D,H1 D=none→CompB J tc te (capt ix σ) D H1 Q
section
variable {X:Cx}{elt iter:Expr}{ifs:List Expr}{x:Str}{px pos:Pos}{scope:Scope}{wi:TI}{tc:TT}{te:TE}{fr:List Str}{ix:List Nat}
theorem qco {env:Env} (hk:env.scope.kind=.function):∀ {names:List (Str×NameKind)}{y:Str},names.lookup y=some .free→env.scope.names.lookup y=some .cell →
  (names.map fun (n,k)=>if (k == NameKind.free && env.scope.kind == .function && env.kindOf n == some .cell) then (n,NameKind.cell) else (n,k)).lookup y=some .cell
 | [],_,h,_=>by simp at h
 | (n,k)::r,y,h,hc=>by
  have ih:=@qco env hk r y
  show List.lookup y ((if (k == NameKind.free && env.scope.kind == .function && env.kindOf n == some .cell)=true then (n,NameKind.cell) else (n,k))::_)=_
  cases hx:y == n with
  | true =>
   simp only [List.lookup_cons,hx] at h
   cases h
   have e:y=n:=by simpa using hx
   subst e
   have e2:env.kindOf y=some .cell:=hc
   rw [if_pos (by rw [hk,e2];rfl),List.lookup_cons]
   simp
  | false =>
   simp only [List.lookup_cons,hx] at h
   split
   ·simp only [List.lookup_cons,hx];exact ih h hc
   ·simp only [List.lookup_cons,hx];exact ih h hc
theorem qmq {ix:List Nat}{σ:St}{k:Nat}{v:V} (h:(capt ix σ)[k]?=some (some v)):∃ i,ix[k]?=some i∧σ[i]?=some (some v):=by
 unfold capt at h
 rw [List.getElem?_map] at h
 cases e:ix[k]? with
 | none=>rw [e] at h;cases h
 | some i =>
  rw [e] at h
  refine ⟨i,rfl,?_⟩
  have h2:(σ[i]?).getD none=some v:=Option.some.inj h
  cases q:σ[i]? with
  | none=>rw [q] at h2;cases h2
  | some o=>rw [q] at h2;exact congrArg some h2
def BlkAt (X:Cx) (pins:List (Addr×Obj)) (C:Addr):Prop:=C≠X.env.locals∧X.s₀.heap.objs.size≤C∧(∀ y c,X.env.cells.lookup y=some c→c≠C)∧∀ p∈X.pn++pins,p.1≠C
theorem qku {PR:Value→Addr→Result→Shared→Prop}{pins:List (Addr×Obj)}{σ:St}{H2:Hp}{s2:Shared}{it:Addr}{fp:List Addr}{tn:Nat→Heap→Prop}{J:It}{Q:VK} (hc:X.calm=true) (S:CompOk X.N X.env.scope scope x fr ix)
  (ht:∀ cl C s₃ H₃ fp,PIfs (blk X scope cl C (x::fr) s₃ H₃ fp) ifs tc) (he:∀ cl C s₃ H₃ fp,PE (blk X scope cl C (x::fr) s₃ H₃ fp) elt te)
  (hcells:∀ y∈scope.names,y.2=.free→∃ c,X.env.cells.lookup y.1=some c)
  (I2:Inv X pins σ H2 s2) (T:Turn X.prog X.w X.K (.Name x px) J fp it tn) (st2:tn 0 s2.heap) (f2:∀ b∈fp,FpOk X pins H2 b) (q2:∀ D,H2 D=none→CompB J tc te (capt ix σ) D H2 Q)
  (hfin:∀ D C H' s',Inv X pins σ H' s'→H' C=none→BlkAt X pins C→(∃ m,s'.heap.Ns C m)→Q (.ref D) H'→PR (.ref D) C (.ok .next) s') :
  wpAny (model X.prog X.w) X.A (newList []) (fun acc s₃=>wpAny (model X.prog X.w) X.A (newFunctionEnv scope X.env.globals (qeh X.env.cells scope.names []) [] X.env.qual none .none (some X.env)) (fun cenv s₄ =>
   codeAny (model X.prog X.w) X.A (.compStart (.ListComp elt [⟨.Name x px,iter,ifs,0⟩] scope pos) 0 (.ref it) acc { cenv with scope:=relabel scope X.env }) (PR acc cenv.locals) s₄) X.xe s₃) X.xe s2:=by
 refine wpAny_newObj_type ?_
 have hD:H2 s2.heap.objs.size=none:=I2.hok.fresh (Nat.le_refl _)
 have I3:Inv X pins σ (upd H2 s2.heap.objs.size (.lst [])) { s2 with heap:=s2.heap.push { cls:=.type "list",dict:=none,data:=.seq ([]:List Value).toArray } } :=
  I2.lnew (its:=[]) (t':=s2.toks) (.nil) (Nat.zero_le _)
 obtain ⟨Pv,⟨m0,p0⟩,turn⟩:=q2 s2.heap.objs.size hD
 generalize hD':s2.heap.objs.size=D at *
 generalize hs3:({ s2 with heap:=s2.heap.push { cls:=.type "list",dict:=none,data:=.seq ([]:List Value).toArray } }:Shared)=s3 at *
 have hk23:∀ b o,s2.heap.get? b=some o→s3.heap.get? b=some o:=fun b o e=>by rw [← hs3];exact Heap.get?_push_of_some _ e
 have hH3:∀ b,b≠D→(upd H2 D (.lst [])) b=H2 b:=fun b hb=>qag hb
 have f3:∀ b∈fp,FpOk X pins (upd H2 D (.lst [])) b∧b < s3.heap.objs.size:=fun b hb=>by
  obtain ⟨o,e,_⟩:=T.obj _ _ st2 b hb
  have hlt:=Heap.lt_size e
  refine ⟨⟨?_,(f2 b hb).2⟩,Heap.lt_size (hk23 b o e)⟩
  rw [hH3 b (by rw [← hD'];exact Nat.ne_of_lt hlt)]
  exact (f2 b hb).1
 have st3:tn 0 s3.heap:=T.keep _ _ _ st2 fun b hb o e=>hk23 b o e
 refine wpAny_newFunctionEnv S.cell (by intro y hy;simp at hy) (fun h4 hns4 hsb4=>?_) S.kind
 generalize hC:s3.heap.objs.size=C at *
 let X':Cx:=blk X scope (qeh X.env.cells scope.names []) C (x::fr) s3 (upd H2 D (.lst [])) fp
 have clof:∀ y c,(qeh X.env.cells scope.names []).lookup y=some c→X.env.cells.lookup y=some c:=fun y c e=>qjr scope.names [] hcells (fun z d hz=>by simp at hz) e
 have clhas:∀ y,(y,NameKind.free)∈scope.names→∃ c,(qeh X.env.cells scope.names []).lookup y=some c:=fun y hy=>Option.isSome_iff_exists.mp (qh0 scope.names [] hy)
 have k34:∀ b o,s3.heap.get? b=some o→h4.get? b=some o:=fun b o e=>hsb4.extBut b o (by rw [← hC];exact Nat.ne_of_lt (Heap.lt_size e)) (Heap.get?_push_of_some _ e)
 have relfree:∀ (l:List (Str×NameKind)) y k,(l.map fun (n,k)=>if (k == NameKind.free && X.env.scope.kind == .function && X.env.kindOf n == some .cell) then (n,NameKind.cell) else (n,k)).lookup y=some k→(k=.cell∨k=.free) →
   (∀ z∈l,z.2≠.cell)→(y,NameKind.free)∈l:=by
  intro l
  induction l with
  | nil=>intro y k e _ _;simp at e
  | cons z r ih =>
   intro y k e hk hn
   obtain ⟨n,kz⟩:=z
   rw [List.map_cons] at e
   by_cases hy:y=n
   ·subst hy
    have:kz=.free:=by
     by_cases hkz:kz=.free
     ·exact hkz
     ·exfalso
      have hb:(kz == NameKind.free)=false:=by simpa using hkz
      simp only [hb,Bool.false_and,Bool.false_eq_true,if_false,List.lookup_cons,beq_self_eq_true] at e
      have e':kz=k:=Option.some.inj e
      rcases hk with z | z
      ·exact hn (y,kz) List.mem_cons_self (e'.trans z)
      ·exact hkz (e'.trans z)
    rw [this]
    exact List.mem_cons_self
   ·have hb:(y == n)=false:=by simpa using hy
    refine List.mem_cons_of_mem _ (ih y k ?_ hk fun z hz=>hn z (List.mem_cons_of_mem _ hz))
    have e:List.lookup y ((if (kz == NameKind.free && X.env.scope.kind == .function && X.env.kindOf n == some .cell)=true then (n,NameKind.cell) else (n,kz))::_)=some k:=e
    by_cases hq:(kz == NameKind.free && X.env.scope.kind == .function && X.env.kindOf n == some .cell)=true
    ·rw [if_pos hq,List.lookup_cons] at e
     simp only [hb] at e
     exact e
    ·rw [if_neg hq,List.lookup_cons] at e
     simp only [hb] at e
     exact e
 have ok':X'.Ok:=by
  refine ⟨I3.ok.mod,S.kind,I3.ok.glob,I3.ok.blt,?_,fun y z c e1 e2=>I3.ok.inj y z c (clof y c e1) (clof z c e2),fun y hy=>?_,fun y c e _=>(by cases e),fun _=>I3.ok.hd hc,I3.ok.frames,.inl rfl,fun b hb=>⟨?_,fun y c e=>(f3 b hb).1.2.2.2.2.1 y c (clof y c e)⟩,I3.bs,Nat.le_trans I3.ok.bsz I3.sz,fun b o e hb=>?_,fun b hb z=>?_,I3.stack,I3.stkFree⟩
  ·show s3.heap.objs.size≤C
   rw [hC]
   exact Nat.le_refl _
  ·rcases hy with hy | hy
   ·exact clhas y (relfree scope.names y _ hy (.inl rfl) S.cell)
   ·exact clhas y (relfree scope.names y _ hy (.inr rfl) S.cell)
  ·exact Nat.ne_of_lt (f3 b hb).2
  ·rcases (f3 b hb).1.2.2.2.1 with z | z
   ·exact I3.ok.noex b o e z
   ·exact absurd (Nat.lt_of_lt_of_le (Heap.lt_size e) (Nat.le_trans I3.ok.bsz z)) (Nat.lt_irrefl _)
  ·rcases List.mem_cons.mp (I3.stkSub b z) with z | z
   ·exact (f3 b hb).1.2.1 z
   ·exact (f3 b hb).1.2.2.1 z
 have capture:∀ {h':Heap}{m:Str→Option Value},(∀ b o,s3.heap.get? b=some o→(∃ v,o.data=.cell v)→h'.get? b=some o)→∀ (k:Nat) (y:Str) (v:V),fr[k]?=some y→(capt ix σ)[k]?=some (some v)→∃ u,RelV v u∧Look X'.env h' m y u:=by
  intro h' m hkc k y v hy hv
  obtain ⟨i,hix,hσ⟩:=qmq hv
  have hzip:(y,i)∈fr.zip ix:=by
   refine List.mem_of_getElem? (i:=k) ?_
   rw [List.getElem?_zip_eq_some]
   exact ⟨hy,hix⟩
  have hN:X.N[i]?=some y:=S.idx (y,i) hzip
  obtain ⟨hfr,hcell⟩:=S.frs y (List.mem_of_getElem? hy)
  obtain ⟨m3,hn3,hl3⟩:=I3.loc
  obtain ⟨u,ru,l⟩:=hl3 i y v hN hσ (.inr (.inl hcell))
  refine ⟨u,ru,?_⟩
  rcases l with ⟨kd,_⟩ | ⟨_,c,ec,ic⟩
  ·have kd:X.env.scope.names.lookup y=some .local:=kd
   rw [hcell] at kd
   cases kd
  ·refine .inr ⟨.inl (qco I3.ok.kind hfr hcell),c,?_,?_⟩
   ·obtain ⟨c',e'⟩:=clhas y (PySem.mem_of_lookup hfr)
    have:=clof y c' e'
    rw [ec] at this
    cases this
    exact e'
   ·obtain ⟨o,ho,hd⟩:=ic
    exact ⟨o,hkc c o ho ⟨_,hd⟩,hd⟩
 have hNd:X'.N.Nodup:=S.nd
 have hx0:X'.env.scope.names.lookup x=some .local:=lookup_relabel_local S.loc
 have lenb:∀ o:Option V,(o::capt ix σ).length=X'.N.length:=fun o=>by
  show (capt ix σ).length+1=fr.length+1
  unfold capt
  rw [List.length_map,S.len]
 have I4:Inv X' [] (none::capt ix σ) (upd H2 D (.lst [])) { s3 with heap:=h4,toks:=s3.toks+([]:List (Str×Value)).length }:=by
  refine ⟨ok',rfl,I3.bare,Un.kept k34,⟨_,hns4,fun k y v e1 e2 e3=>?_⟩,fun y c e=>?_,?_,fun y c e=>I3.freeC y c (clof y c e),fun p hp=>?_,I3.hok.kept k34,lenb none⟩
  ·cases k with
   | zero=>cases e2
   | succ k=>exact capture (fun b o e _=>k34 b o e) k y v (by have e1:(x::fr)[k+1]?=some y:=e1;simpa using e1) (by simpa using e2)
  ·obtain ⟨v,o,ho,hd⟩:=I3.cell y c (clof y c e)
   exact ⟨v,o,k34 c o ho,hd⟩
  ·exact I3.hok.fresh (by show s3.heap.objs.size≤C;rw [hC];exact Nat.le_refl _)
  ·exact absurd (show p∈([]:List (Addr×Obj)) from hp) (by simp)
 have stat:∀ {H':Hp}{b:Addr},b∈fp→H' b=none→FpOk X' [] H' b:=fun {H' b} hb hn=>by
  refine ⟨hn,?_,?_,.inl hb,fun y c e=>(f3 b hb).1.2.2.2.2.1 y c (clof y c e),fun p hp=>absurd (show p∈([]:List (Addr×Obj)) from hp) (by simp)⟩
  ·exact Nat.ne_of_lt (f3 b hb).2
  ·intro z
   rcases List.mem_cons.mp (I3.stkSub b z) with z | z
   ·exact (f3 b hb).1.2.1 z
   ·exact (f3 b hb).1.2.2.1 z
 have hch:∀ b∈fp,(b∈X.ex∨X.s₀.heap.objs.size≤b)∧b≠X.env.locals∧(∀ y c,X.env.cells.lookup y=some c→c≠b)∧∀ p∈X.pn++pins,p.1≠b:=fun b hb =>
  ⟨(f3 b hb).1.2.2.2.1,(f3 b hb).1.2.1,(f3 b hb).1.2.2.2.2.1,(f3 b hb).1.2.2.2.2.2⟩
 have fin:∀ {σ':St}{H':Hp}{s':Shared},Inv X' [] σ' H' s'→Q (.ref D) H'→PR (.ref D) C (.ok .next) s':=fun {σ' H' s'} I' q'=>by
  obtain ⟨m',hn',_⟩:=I'.loc
  have J:=I3.call' (s':=s') (ch:=fp) I'.os I'.base I'.hok I'.bare hch
  refine hfin D C H' s' J I'.free ⟨?_,?_,fun y c e=>?_,fun p hp=>?_⟩ ⟨m',hn'⟩ q'
  ·rw [← hC];exact Nat.ne_of_gt I3.lt
  ·rw [← hC];exact I3.sz
  ·obtain ⟨v,z⟩:=I3.cell y c e
   rw [← hC];exact Nat.ne_of_lt z.lt
  ·rw [← hC];exact Nat.ne_of_lt (Heap.lt_size (I3.pin p hp).1)
 have loop:codeAny (model X.prog X.w) X.A (.compLoop (.ListComp elt [⟨.Name x px,iter,ifs,0⟩] scope pos) 0 (.ref it) (.ref D) X'.env) (PR (.ref D) C) { s3 with heap:=h4,toks:=s3.toks+([]:List (Str×Value)).length }:=by
  refine codeAny_compLoop_tests (fun n s'=>∃ i ys o H',Inv X' [] (o::capt ix σ) H' s'∧tn i s'.heap∧(∀ b∈fp,H' b=none)∧Pv i n ys H') ?_ m0 ⟨0,[],none,_,I4,T.keep _ _ _ st3 fun b hb o e=>k34 b o e,fun b hb=>(f3 b hb).1.1,p0⟩
  rintro n s5 ⟨i,ys,o,H5,I5,st5,fr5,p5⟩
  rcases turn i n ys H5 p5 with ⟨stop,hd5,qn⟩ | ⟨go,step⟩
  ·refine wpAny_mono (T.done X' rfl rfl rfl rfl i [] s5 _ H5 (fun _ _=>False) I5 (fun b hb=>stat hb (fr5 b hb)) st5 stop) (fun r s6 ⟨hr,I6⟩=>?_) fun _ _ z=>False.elim z
   subst hr
   exact fin I6 qn
  ·refine wpAny_mono (T.item X' rfl rfl rfl rfl i [] s5 _ H5 (fun _ _=>False) I5 (fun b hb=>stat hb (fr5 b hb)) st5 go) (fun r s6 ⟨u,hr,h6⟩=>?_) fun _ _ z=>False.elim z
   subst hr
   dsimp only
   intro Γ p hΓ
   obtain ⟨xv,H6,I6,r6,y6,st6,fr6⟩:∃ xv H',Inv X' [] (o::capt ix σ) H' s6∧RelV xv u∧J.yld i H5 xv H'∧tn (i+1) s6.heap∧∀ b∈fp,H' b=none:=h6 Γ p hΓ
   refine (?_:wpAny (model X.prog X.w) X.A (assign (.Name x px) X'.env u) _ _ s6) Γ p hΓ
   have I6':=I6.pinned (fun b hb=>stat hb (fr6 b hb)) (T.obj _ _ st6)
   refine wpAny_mono (qbe (i:=0) (X:=X') (pos:=px) hNd rfl (.inl hx0) (.inr hx0) _ s6 _ H6 xv u (fun σ' H'=>σ'=some xv::capt ix σ∧H'=H6) I6' r6 ⟨rfl,rfl⟩) (fun _ s7 h7=>?_) fun _ _ z=>False.elim z
   obtain ⟨σ7,H7,I7,rfl,rfl⟩:=h7
   refine wpAny_mono (ht _ _ _ _ _ _ s7 _ H7 _ I7 (step xv H7 y6)) (fun b s8 ⟨H8,I8,q8⟩=>?_) fun _ _ z=>False.elim z
   have back:∀ {σ9:St}{H9:Hp}{s9:Shared}{ys':List V},Inv X' ([]++qii fp s6.heap) (some xv::capt ix σ) H9 s9→(∃ m',m' < n∧Pv (i+1) m' ys' H9) →
     ∃ m,m < n∧∃ i ys o H',Inv X' [] (o::capt ix σ) H' s9∧tn i s9.heap∧(∀ b∈fp,H' b=none)∧Pv i m ys H':=fun {σ9 H9 s9 ys'} I9 h9=>by
    obtain ⟨m',hm,p9⟩:=h9
    refine ⟨m',hm,i+1,ys',_,H9,I9.unpinned,T.keep _ _ _ st6 fun b hb o e=>(I9.pin (b,o) (List.mem_append_right _ (List.mem_append_right _ (qdw hb e)))).1,fun b hb=>?_,p9⟩
    obtain ⟨o,e,d⟩:=T.obj _ _ st6 b hb
    exact (I9.pin (b,o) (List.mem_append_right _ (List.mem_append_right _ (qdw hb e)))).2.1
   cases b with
   | false =>
    rw [if_neg Bool.false_ne_true] at q8 ⊢
    exact back (σ9:=[]) I8 q8
   | true =>
    rw [if_pos rfl] at q8 ⊢
    refine wpAny_mono (he _ _ _ _ _ _ s8 _ H8 _ I8 q8) (fun w9 s9 ⟨v9,H9,I9,r9,hd9,hz9,q9⟩=>?_) fun _ _ z=>False.elim z
    refine wpAny_mono (qf8 (X:=X') _ s9 _ H9 (.ref D) [v9] (.ref D) [w9] (fun _ H'=>H'=upd H9 D (.lst (ys++[v9]))) I9 rfl (.cons r9 .nil) ⟨D,ys,v9,rfl,rfl,hd9,hz9,rfl⟩) (fun _ s10 h10=>?_) fun _ _ z=>False.elim z
    obtain ⟨_,H10,I10,_,rfl⟩:=h10
    exact back (σ9:=[]) I10 q9
 exact codeAny_compStart_list loop (T.self _ 0 _ _ _ (T.keep _ _ _ st3 fun b hb o e=>k34 b o e) loop)
theorem qfp (hc:X.calm=true) (S:CompOk X.N X.env.scope scope x fr ix) (hi:PI X (.Name x px) iter wi)
  (ht:∀ cl C s₃ H₃ fp,PIfs (blk X scope cl C (x::fr) s₃ H₃ fp) ifs tc) (he:∀ cl C s₃ H₃ fp,PE (blk X scope cl C (x::fr) s₃ H₃ fp) elt te)
  (hs:∀ v,foldedSetIterable iter X.env v=pure v:=by intro _;rfl):PE X (.ListComp elt [⟨.Name x px,iter,ifs,0⟩] scope pos) (tComp wi ix tc te):=by
 intro pins s σ H Q I h
 have hcells:∀ y∈scope.names,y.2=.free→∃ c,X.env.cells.lookup y.1=some c:=fun y hy hf=>I.ok.has y.1 (.inl (S.free y hy hf))
 rw [eval_ListComp]
 refine wpAny_comprehension_free (use:=none) rfl hs (qeu hcells) S.kind S.nm (thn (hi pins s σ H _ I h) fun v s1 h1=>thn h1 fun itv s2 h2=>?_)
 obtain ⟨it,fp,tn,J,H2,e,I2,T,st2,f2,q2⟩:=h2
 subst e
 refine qku (PR:=fun acc C r s'=>compPost (model X.prog X.w) X.A X.xe none (EP X pins σ Q) acc C r s') hc S ht he hcells I2 T st2 f2 q2 fun D C H' s' I' hCn ⟨b1,b2,b3,b4⟩ hns q'=>?_
 obtain ⟨m',hn'⟩:=hns
 refine ⟨m',hn',fun h' hs'=>⟨.ref D,H',?_,rfl,q'⟩⟩
 exact I'.turned (t':=s'.toks) (it:=C) (fun b o hb e=>hs'.extBut b o hb e) hCn b1 (.inr b2) b3 b4
theorem ps_setcomp {i:Nat}{y:Str}{py spos:Pos} (hN:X.N.Nodup) (hiy:X.N[i]?=some y) (hly:X.env.scope.names.lookup y=some .local) (hc:X.calm=true) (S:CompOk X.N X.env.scope scope x fr ix) (hi:PI X (.Name x px) iter wi)
  (ht:∀ cl C s₃ H₃ fp,PIfs (blk X scope cl C (x::fr) s₃ H₃ fp) ifs tc) (he:∀ cl C s₃ H₃ fp,PE (blk X scope cl C (x::fr) s₃ H₃ fp) elt te)
  (hsw:swapsWith (.ListComp elt [⟨.Name x px,iter,ifs,0⟩] scope pos) (some (.Name y py)) spos.line X.env=pure true:=by rfl)
  (hs:∀ v,foldedSetIterable iter X.env v=pure v:=by intro _;rfl):PS X (.Assign [.Name y py] (.ListComp elt [⟨.Name x px,iter,ifs,0⟩] scope pos) spos) (tAsg (tComp wi ix tc te) (qft i)):=by
 intro pins s σ H D0 I h
 have hcells:∀ y∈scope.names,y.2=.free→∃ c,X.env.cells.lookup y.1=some c:=fun y hy hf=>I.ok.has y.1 (.inl (S.free y hy hf))
 rw [exec_Assign_Name_used _ _ _ _ hsw]
 refine wpAny_bind (wpAny_standAt (wpAny_bind ?_))
 show wpAny _ X.A (do let _ ← comprehension (.ListComp elt [⟨.Name x px,iter,ifs,0⟩] scope pos) scope X.env _ (newList []) false (eval iter X.env) (some (assign (.Name y py) X.env))) _ _ s
 refine wpAny_bind (wpAny_mono (wpAny_comprehension_free (use:=some (assign (.Name y py) X.env)) (Q:=fun _ s'=>SP X pins D0 .next s') rfl hs (qeu hcells) S.kind S.nm
  (thn (hi pins s σ H _ I h) fun v s1 h1=>thn h1 fun itv s2 h2=>?_)) (fun _ s' hq=>wpAny_pure (wpAny_pure hq)) fun _ _ e=>e)
 obtain ⟨it,fp,tn,J,H2,e,I2,T,st2,f2,q2⟩:=h2
 subst e
 refine qku (PR:=fun acc C r s'=>compPost (model X.prog X.w) X.A X.xe (some (assign (.Name y py) X.env)) (fun _ s'=>SP X pins D0 .next s') acc C r s') hc S ht he hcells I2 T st2 f2 q2 fun D C H' s' I' hCn ⟨b1,b2,b3,b4⟩ hns q'=>?_
 obtain ⟨m',hn'⟩:=hns
 refine wpAny_assign_Name (qhb (v:=.ref D) I' hN hiy (.inl hly) rfl (fun s5 I5 sb=>?_) (.inr hly))
 obtain ⟨a5,sb,ha5⟩:=sb
 have hCa:C≠a5:=by
  rcases ha5 with z | z
  ·rw [z];exact b1
  ·exact (b3 _ _ z).symm
 refine ⟨m',hn'.sameBut sb hCa,fun h' hs'=>⟨_,H',?_,q'⟩⟩
 exact I5.turned (t':=s5.toks) (it:=C) (fun b o hb e=>hs'.extBut b o hb e) hCn b1 (.inr b2) b3 b4
end
end L2
namespace L2
open PySem PySem.Spec PyProof.Rows
abbrev bmV:List Value:=[.type "ValueError",.type "Exception",.type "BaseException",.type "object"]
structure Exc (K:PySem.W.Frag) (C:Addr):Prop where
 ex:PySem.W.excIn K C bmV "ValueError.__new__"=true
 ga:PySem.W.findIn K (.ref C) "__getattribute__"=some (some (.builtin "BaseException.__getattribute__"))
 gt:PySem.W.findIn K (.ref C) "__getattr__"=some none
 ha:PySem.W.findIn K (.ref C) "__class__"=some (some (.builtin "object.__class__"))
 hn:PySem.W.specialIn K (.builtin "object.__class__") "__get__"=some (some (.builtin "getset_descriptor.__get__"))
 ht:PySem.W.takesIn K (.builtin "object.__class__")=some true
 mo:PySem.W.mroIn K C (.type "object")=some true
 mb:PySem.W.mroIn K C (.type "BaseException")=some true
theorem Exc.obj {K:PySem.W.Frag}{C:Addr}{h:Heap} (Z:Exc K C) (X:K.In h):∃ bm N nm q bs hdct sn sub ab col dd k0 k1 k2 k3 k5 mN,
  h.get? C=some (excClassObj nm q C N bs bm hdct sn sub ab col dd k0 k1 k2 k3 k5 "ValueError.__new__")∧h.Ns N mN∧mN "__init__"=none∧OwnTail h bmV bm:=by
 have z:=Z.ex
 unfold PySem.W.excIn at z
 split at z
 case h_2=>cases z
 case h_1 ddv cdv slv lk =>
  split at z
  case h_2=>cases z
  case h_1 D bm a0 a1 a2 a3 nw a5 em es =>
   have z':((((D=C∧nw="ValueError.__new__")∧cdv.hasDel=false)∧PySem.W.tailIn K bmV bm=true)∧PySem.W.nsOkIn K cdv.ns=true)∧PySem.W.nsIn K cdv.ns "__init__"=some none:=by
    simpa only [Bool.and_eq_true,beq_iff_eq,Bool.not_eq_true'] using z
   obtain ⟨⟨⟨⟨⟨eD,eN⟩,hdl⟩,tl⟩,okn⟩,ini⟩:=z'
   rcases cdv with ⟨c1,c2,c3,c4,c5,c6,c7,c8,c9,c10,c11⟩
   have em:c3=.ref D::bm:=em
   have hdl:c11=false:=hdl
   have okn:PySem.W.nsOkIn K c4=true:=okn
   have ini:PySem.W.nsIn K c4 "__init__"=some none:=ini
   subst em hdl eD eN
   have esl:slv=#[a0,a1,a2,a3,some (.builtin "ValueError.__new__"),a5]:=by
    rcases slv with ⟨l⟩
    have es:l=_:=es
    rw [es]
   subst esl
   refine ⟨bm,c4,c1,c5,c2,c6,c7,c8,c9,c10,ddv,a0,a1,a2,a3,a5,h.nsMap c4,X _ _ lk,?_,?_,PySem.W.tail_of_in X tl⟩
   ·exact .of_isNs (PySem.W.isNs_of_in X okn)
   ·exact PySem.W.nsMap_none_of_in X okn ini
def ExcAt (h:Heap) (a C:Addr):Prop:=∃ ox vs,h.get? a=some ox∧ox.cls=.ref C∧ox.data=.fields vs
def excO (C a:Addr):HO:=.ext fun h=>ExcAt h a C
theorem excO_ok {P:Program}{w:World}{H:Hp}{h:Heap}{C a:Addr} (I:ExcAt h a C):ObjOk P w H h a (excO C a):=by
 refine ⟨I,?_,fun h1 h2 p k=>?_⟩
 ·obtain ⟨ox,_,e,_⟩:=I
  exact ⟨ox,e⟩
 ·obtain ⟨ox,vs,e,c,d⟩:=p
  exact ⟨ox,vs,k _ e,c,d⟩
section
variable {prog:Program}{w:World}{A:Around}{E:Value→Shared→Prop}{s:Shared}{K:PySem.W.Frag}{x C:Addr}{ox:Obj}
open PySem.W Builtin Builtin.ObjectAttr Builtin.Getset_descriptor in
theorem exc_class {Q:Option Value→Shared→Prop} (Z:Exc K C) (X:K.In s.heap) (I:ExcAt s.heap x C) (h:Q (some (.ref C)) { s with toks:=s.toks+1 }) :
  wpAny (model prog w) A (getAttr? (.ref x) "__class__") Q E s:=by
 obtain ⟨hh,g,d,t,os⟩:=s
 have L0:Looks (model prog w) hh (typeOf (.ref x)) (.ref C):=by
  obtain ⟨ox,vs,hat,hcl,hdt⟩:=I
  have hat:hh.get? x=some ox:=hat
  exact hcl ▸ (Looks.ld hat).andThen .now
 have L1:=looks_findIn (M:=model prog w) X Z.ga
 have L2:=looks_findIn (M:=model prog w) X Z.gt
 have L3:Looks (model prog w) hh (Builtin.ObjectAttr.find (.ref x) (.ref C) "__class__") (.bind (.builtin "getset_descriptor.__get__") (.builtin "object.__class__")):=by
  have M1:=looks_findIn (M:=model prog w) X Z.ha
  have M2:Looks (model prog w) hh (Builtin.ObjectAttr.getOf (some (.builtin "object.__class__"))) (some (.builtin "getset_descriptor.__get__")):=looks_specialIn X Z.hn
  have M3:=looks_takesIn (M:=model prog w) X Z.ht
  refine M1.andThen (M2.andThen ?_)
  refine Looks.andThen (a:=some (.builtin "getset_descriptor.__get__",.builtin "object.__class__")) ?_ (Looks.tag .now)
  exact M3.andThen .now
 have LO:=looks_mroIn (M:=model prog w) X Z.mo
 have cget:∀ {A:Around}{tk:Nat}{R:Result→Shared→Prop},R (.ok (.ret (.ref C))) ⟨hh,g,d,tk,os⟩→codeAny (model prog w) A (.call (.builtin "getset_descriptor.__get__") ⟨[.builtin "object.__class__",.ref x,.ref C],[]⟩) R ⟨hh,g,d,tk,os⟩:=by
  intro A tk R hq
  obtain ⟨ox,vs,hat,hcl,hdt⟩:=I
  have hat:hh.get? x=some ox:=hat
  refine codeAny_call_builtin KF.slot_gs.plain KF.entry_gs (KF.slot_gs.check _ _ _ _ _ _ _ _ KF.type_class (KF.args_gs _ _ _) ?_)
  unfold Builtin.«getset_descriptor.__get__» descrGet
  rw [dga_obj]
  refine wpAny_bind (wpAny_pure ?_)
  unfold descrGetter descrCheckInstance descrNameAndClass isInstance
  simp only [KF.owner_class]
  repeat lk
  refine ⟨Code.quiet_builtin _ (by decide +kernel),codeAny_builtin KF.entry_class ?_⟩
  unfold Builtin.«object.__class__» shownTypeOf
  repeat lk
  exact hq
 have LB:Looks (model prog w) hh (isInstance (.ref x) (.type "BaseException")) true:=L0.andThen (looks_mroIn X Z.mb)
 have f3:=PySem.F.slot_gs_get
 have hx2:(Value.builtin "BaseException.__getattribute__" == Value.builtin "object.__getattribute__")=false:=by decide +kernel
 have cls:∀ {tk:Tok}{R:Result→Shared→Prop},R (.ok (.ret (.ref C))) ⟨hh,g,d,t+1,os⟩→codeAny (model prog w) A (.call (.builtin "BaseException.__getattribute__") ⟨[.ref x,.str "__class__" tk],[]⟩) R ⟨hh,g,d,t+1,os⟩:=by
  intro tk R hq
  have hk:builtinKind "BaseException.__getattribute__"=some .slot:=by decide +kernel
  have hsplit:splitId "BaseException.__getattribute__"=some ("BaseException","__getattribute__"):=by decide +kernel
  have ha:=F.args_bexc_ga (.ref x) (.str "__class__" tk)
  refine codeAny_call_builtin (by decide +kernel) F.entry_bexc_ga ?_
  simp only [checkBuiltinCall,hk,hsplit]
  refine wpAny_bind (LB.at ?_)
  repeat (any_goals (first | assumption | wp_step))
  obtain ⟨ox,vs,hat,hcl,hdt⟩:=id I
  have hat:hh.get? x=some ox:=hat
  refine wpAny_loadPart_at hat (wpAny_pure ?_)
  rw [hcl]
  clear hat hcl hdt
  refine wpAny_bind (L3.at ?_)
  repeat (any_goals (first | assumption | wp_step))
  refine cget ?_
  repeat (any_goals (first | assumption | wp_step))
 have f4:=PySem.F.excAttr_ValueError.ga.bind (.ref x)
 unfold getAttr? getAttrBy? getAttrBy
 refine wpAny_bind (wpAny_mkText (wpAny_bind (wpAny_attempt (wpAny_holding (wpAny_bind (L0.at (wpAny_bind (L1.at ?_))))))))
 show wpAny _ _ (getAttrByItsOwn _ _ _ _ _ _) _ _ _
 unfold getAttrByItsOwn
 refine wpAny_bind (L2.at ?_)
 repeat (any_goals (first | assumption | wp_step))
 refine cls ?_
 repeat (any_goals (first | assumption | wp_step))
end
end L2
namespace L2
open PySem PySem.Spec PyProof.Rows
section
variable {K:PySem.W.Frag}{C a:Addr}
open PySem.W in
theorem kitx_exc (Z:Exc K C):KitX K (.ref a) (.ref C) (fun h=>ExcAt h a C) where
 ty:=fun _ _ _ ⟨_,_,e,c,_⟩=>c ▸ (Looks.ld e).andThen .now
 it:=fun _ h X _=>by
  obtain ⟨bm,N,nm,q,bs,hdct,sn,sub,ab,col,dd,k0,k1,k2,k3,k5,mN,hC,_⟩:=Z.obj X
  intro A' Q' E' s' k z
  unfold isType loadHead
  exact wpAny_bind (wpAny_loadPart (k _ _ hC) (wpAny_pure z))
 ne:=fun h tp dd its n sl X htp=>by
  obtain ⟨bm,N,nm,q,bs,hdct,sn,sub,ab,col,dd,k0,k1,k2,k3,k5,mN,hC,_⟩:=Z.obj X
  refine Bool.eq_false_iff.mpr fun z=>?_
  have e:C=tp:=Value.ref.inj (beq_iff_eq.mp z)
  subst e
  rw [hC] at htp
  injection (Option.some.inj htp) with _ _ z3 _
  exact nomatch z3
 ca:=fun X I k=>exc_class Z X I k
end
def clsV:V→Value
 | .ref a=>.ref a
 | .ty n=>.type n
 | _=>.none
theorem clsV_rel {c:V}{u:Value} (r:RelV c u) (h:(∃ a,c=.ref a)∨∃ n,c=.ty n):u=clsV c:=by
 rcases h with ⟨a,rfl⟩ | ⟨n,rfl⟩ <;> exact r
section
variable {X:Cx}
def rIsi (K:PySem.W.Frag):List V→Hp→VK→Prop:=fun xs H Q=>∃ x c t b,xs=[x,c]∧((∃ a,c=.ref a)∨∃ n,c=.ty n)∧(TyOf K H x t∨(∃ a C,x=.ref a∧t=.ref C∧H a=some (excO C a)∧Exc K C)∨(∃ a ys,x=.ref a∧t=.type "list"∧SqL K H a ys)∨∃ a ys,x=.ref a∧t=.type "tuple"∧SqT K H a ys)∧PySem.W.kitOne K t (clsV c)=some b∧Q (.bl b) H
theorem qc1:qgy X (.builtin "isinstance") (rIsi X.K):=by
 intro pins s σ H xs us Q I r h
 obtain ⟨x,c,t,b,rfl,hc,ty,e,q⟩:=h
 obtain ⟨u,v,rfl,ru,rv⟩:=vals2 r
 rw [clsV_rel rv hc]
 have fin:∀ tk,EP X pins σ Q (.bool b) { s with toks:=tk }:=fun tk=>⟨.bl b,H,I.tok tk,rfl,q⟩
 rcases ty with ty | ⟨a,C,rfl,rfl,ha,Z⟩ | ⟨a,ys,rfl,rfl,hq⟩ | ⟨a,ys,rfl,rfl,hq⟩
 ·exact isinst_ok I ru ty e fin
 ·cases (show u=Value.ref a from ru)
  obtain ⟨p,_⟩:=I.hok a _ ha
  exact PySem.W.kia_one (kitx_exc Z) I.kIn p e (fun z=>nomatch z) fin
 ·cases (show u=Value.ref a from ru)
  obtain ⟨its,r',pl,_⟩:=I.list hq
  obtain ⟨o,h1,h2,_⟩:=pl.isList
  exact PySem.W.kia_one PySem.W.kitx_list I.kIn ⟨o,h1,h2⟩ e (fun z=>nomatch z) fin
 ·cases (show u=Value.ref a from ru)
  obtain ⟨its,r',pl,_⟩:=I.tuple hq
  obtain ⟨o,h1,h2,_⟩:=pl
  exact PySem.W.kia_one PySem.W.kitx_tuple I.kIn ⟨o,h1,h2⟩ e (fun z=>nomatch z) fin
end
theorem ObjOk.there {P:Program}{w:World}{H:Hp}{h:Heap}{a:Addr}{o:HO} (x:ObjOk P w H h a o):∃ ob,h.get? a=some ob:=by
 cases o with
 | lst xs=>obtain ⟨_,_,_,_,e⟩:=x;exact ⟨_,e⟩
 | tup xs=>obtain ⟨_,_,_,ob,e,_⟩:=x;exact ⟨ob,e⟩
 | dK kvs=>obtain ⟨_,_,_,_,ob,_,_,e,_⟩:=x;exact ⟨ob,e⟩
 | dT kvs=>obtain ⟨_,_,_,_,ob,_,_,e,_⟩:=x;exact ⟨ob,e⟩
 | set S n=>obtain ⟨ob,_,_,_,e,_⟩:=x;exact ⟨ob,e⟩
 | ins C dx fs=>obtain ⟨_,_,_,e,_⟩:=x;exact ⟨_,e⟩
 | own y=>exact x
 | xd fs=>obtain ⟨_,⟨ob,_,_,e,_⟩,_⟩:=x;exact ⟨ob,e⟩
 | rng lo hi=>obtain ⟨_,_,_,e⟩:=x;exact ⟨_,e⟩
 | frz ob u=>obtain ⟨e,_⟩:=x;exact ⟨ob,e⟩
 | tbl ps=>exact ⟨_,show h.get? a=some _ from x⟩
 | met f y=>exact ⟨_,show h.get? a=some _ from x⟩
 | ext φ=>exact x.2.1
def CXo (P:Program) (w:World):CXT:=fun outer H s E e s'=>∃ (a C:Addr) (t:Value) (B:Heap) (H':Hp),e=.ref a∧s'.os=s.os∧AllBare s'.gens∧Un (frs outer) [] H H' s.heap s'.heap∧HOk P w H' s'.heap ∧
 Heap.FlyingW B outer a (.ref C) t s'.heap∧(∀ b u o,H' b=some u→s'.heap.get? b=some o→B.get? b=some o) ∧
 (∀ b o,s.heap.get? b=some o→b∉frs outer→∃ o',s'.heap.get? b=some o'∧B.get? b=some o')∧E (.ref C) none H'
theorem qan {P:Program}{w:World}{X:Cx}:qew (CXo P w) X E0:=fun _ _ _ _ _ _ _ h=>by
 obtain ⟨_,_,_,_,_,_,_,_,_,_,_,_,_,z⟩:=h
 exact z.elim
theorem mem_frs {env:Env}{outer:List Env}{L b:Addr} (hf:env.frame=some L) (h:b∈frs (env::outer)):b=L∨b∈frs outer:=by
 unfold frs at h ⊢
 rw [List.filterMap_cons,hf] at h
 exact List.mem_cons.mp h
theorem qjn {env:Env}{outer:List Env}{L b:Addr} (hf:env.frame=some L) (h:b∈frs outer):b∈frs (env::outer):=by
 unfold frs at h ⊢
 rw [List.filterMap_cons,hf]
 exact List.mem_cons_of_mem _ h
section
variable {P:Program}{w:World}{K:PySem.W.Frag}{mg:Str→Option Value}{base:Heap}{N:List Str}{qual:Str}{scope:Scope}{f:Addr}{cd:Value}{A:Around}{outer:List Env}{s₀:Shared}{H₀:Hp}{E:XK}
theorem qdl:qew (CXo P w) (cxOf (CXo P w) P w K mg base N qual scope f cd A outer s₀ H₀ E) E:=by
 intro pins σ H s e s' I h
 obtain ⟨a,C,t,B,H',rfl,hos,hbare,un,hok,fl,inB,oldB,hE⟩:=h
 have hlow:∀ b o,s₀.heap.get? b=some o→b≠s₀.heap.objs.size:=fun b o e=>Nat.ne_of_lt (Heap.lt_size e)
 refine wpAny_leaves_onW (L:=s₀.heap.objs.size) (by exact I.ok.frames) rfl fl fun h' fl' up=>?_
 have eq1:frs (envOfC qual scope s₀.heap.objs.size f cd::outer)=s₀.heap.objs.size::frs outer:=rfl
 have notin:∀ b o,s₀.heap.get? b=some o→b∉frs outer→b∉frs (envOfC qual scope s₀.heap.objs.size f cd::outer):=fun b o e n z=>by
  rw [eq1] at z
  rcases List.mem_cons.mp z with z | z
  ·exact hlow b o e z
  ·exact n z
 have ub:Un (frs outer) [] H₀ H s₀.heap s.heap:=I.base
 have old:∀ b o,s₀.heap.get? b=some o→b∉frs outer→∃ o',h'.get? b=some o'∧B.get? b=some o':=fun b o e n=>by
  obtain ⟨o1,e1⟩:=ub.there b o e (by simp)
  obtain ⟨o2,e2,e3⟩:=oldB b o1 e1 (notin b o e n)
  exact ⟨o2,fl'.1 b o2 e3,e3⟩
 refine ⟨a,C,t,B,H',rfl,hos.trans I.os,hbare,⟨fun b o e n hb _=>?_,fun b o e n hb _=>?_,fun b o e n _=>?_,fun b o e _=>?_,fun b xs e=>un.tups b xs (ub.tups b xs e),fun b o u e=>un.frzs b o u (ub.frzs b o u e),fun b ps e=>?_⟩,?_,fl',?_,old,hE⟩
 ·have e1:=ub.keep b o e n hb (by simp)
  have n1:=ub.free b o e n (by simp)
  have e2:=un.keep b o e1 n1 (notin b o e hb) (by simp)
  obtain ⟨o2,e3,e4⟩:=oldB b o e1 (notin b o e hb)
  rw [e2] at e3
  cases e3
  exact fl'.1 b o e4
 ·obtain ⟨sl,e1⟩:=ub.slot b o e n hb (by simp)
  have n1:=ub.free b o e n (by simp)
  obtain ⟨sl2,e2⟩:=un.slot b _ e1 n1 (qjn rfl hb) (by simp)
  obtain ⟨_,o3,e3,hnf⟩:=fl.2.2.1.mem (show b∈(envOfC qual scope s₀.heap.objs.size f cd::outer).filterMap (·.frame) from qjn rfl hb)
  obtain ⟨sl3,e4⟩:=up b _ e3 hnf
  rw [e2] at e3
  cases e3
  exact ⟨sl3,e4⟩
 ·obtain ⟨o1,e1⟩:=ub.there b o e (by simp)
  exact un.free b o1 e1 (ub.free b o e n (by simp)) (by simp)
 ·by_cases hb:b∈frs outer
  ·obtain ⟨_,o3,e3,hnf⟩:=fl.2.2.1.mem (show b∈(envOfC qual scope s₀.heap.objs.size f cd::outer).filterMap (·.frame) from qjn rfl hb)
   obtain ⟨sl3,e4⟩:=up b _ e3 hnf
   exact ⟨_,e4⟩
  ·obtain ⟨o',e1,_⟩:=old b o e hb
   exact ⟨o',e1⟩
 ·obtain ⟨m1,e1⟩:=ub.tbls b ps e
  obtain ⟨m2,e2⟩:=un.tbls b _ e1
  exact ⟨m1++m2,by rw [e2,Array.append_assoc]⟩
 ·intro b u e
  refine (hok b u e).stay (fun c v hc q=>?_) (fun _ q=>q) fun _ _ q=>q
  rcases hc with z | z
  ·subst z
   exact fl'.1 _ _ (inB _ u v e q)
  ·exact fl'.1 _ _ (inB c _ v z q)
 ·intro b u o e q
  obtain ⟨o1,q1⟩:∃ o1,s'.heap.get? b=some o1:=by
   exact (hok b u e).there
  have z:=inB b u o1 e q1
  have z2:=fl'.1 b o1 z
  rw [z2] at q
  cases q
  exact z
end
end L2
namespace L2
open PySem PySem.Spec PyProof.Rows
def qiu (X:Cx) (E:XK):Prop:=∀ (pins:List (Addr×Obj)) (σ:St) (H:Hp) (s:Shared) (a C:Addr) (vs:List Value) (h':Heap),Inv X pins σ H s→Heap.MadeExcOf s.heap h' a (.ref C) vs→E (.ref C) none H→X.xe (.ref a) { s with heap:=h' }
section
variable {P:Program}{w:World}{K:PySem.W.Frag}{mg:Str→Option Value}{base:Heap}{N:List Str}{qual:Str}{scope:Scope}{f:Addr}{cd:Value}{A:Around}{outer:List Env}{s₀:Shared}{H₀:Hp}{E:XK}
theorem qkk:qiu (cxOf (CXo P w) P w K mg base N qual scope f cd A outer s₀ H₀ E) E:=by
 intro pins σ H s a C vs h₁ I mk hE
 have stk:s.heap.FunFrames base (envOfC qual scope s₀.heap.objs.size f cd::outer):=I.stack
 let l:List Addr:=frs (envOfC qual scope s₀.heap.objs.size f cd::outer)
 have hin:∀ env∈(envOfC qual scope s₀.heap.objs.size f cd::outer),∀ b,env.frame=some b→b∈l:=fun env he b hb=>List.mem_filterMap.mpr ⟨env,he,hb⟩
 have toB:∀ b o,s.heap.get? b=some o→b∉l→(PySem.W.hideAll s.heap l).get? b=some o:=fun b o e n=>PySem.W.hideAll_get l e n
 have ub:Un (frs outer) [] H₀ H s₀.heap s.heap:=I.base
 have notin:∀ b o,s₀.heap.get? b=some o→b∉frs outer→b∉l:=fun b o e n z=>by
  rcases mem_frs (L:=s₀.heap.objs.size) rfl z with z | z
  ·exact Nat.ne_of_lt (Heap.lt_size e) z
  ·exact n z
 have trkN:∀ b u,H b=some u→b∉l:=fun b u e z=>by
  rw [I.stkFree b z] at e
  cases e
 refine wpAny_leaves_madeW (L:=s₀.heap.objs.size) (base:=PySem.W.hideAll s.heap l) (h:=s.heap) (by exact I.ok.frames) rfl (fun b o e=>PySem.W.of_hideAll l e) (PySem.W.funFrames_hide stk hin) mk fun h' t fl tup nt up=>?_
 have keepB:∀ b o,s.heap.get? b=some o→b∉l→h'.get? b=some o:=fun b o e n=>fl.1 b o (toB b o e n)
 have frame:∀ b o,s.heap.get? b=some o→b∈l→∃ sl,h'.get? b=some { o with slots:=sl }:=fun b o e hb=>by
  obtain ⟨_,o3,e3,hnf⟩:=stk.mem hb
  rw [e] at e3
  cases e3
  exact up b o (mk.keeps b o e) hnf
 refine ⟨a,C,.ref t,PySem.W.hideAll s.heap l,H,rfl,I.os,I.bare,⟨fun b o e n hb _=>?_,fun b o e n hb _=>?_,fun b o e n _=>ub.free b o e n (by simp),fun b o e _=>?_,ub.tups,ub.frzs,ub.tbls⟩,fun b u e=>?_,fl,fun b u o e q=>?_,fun b o e n=>?_,hE⟩
 ·exact keepB b o (ub.keep b o e n hb (by simp)) (notin b o e hb)
 ·obtain ⟨sl,e1⟩:=ub.slot b o e n hb (by simp)
  obtain ⟨sl2,e2⟩:=frame b _ e1 (qjn rfl hb)
  exact ⟨sl2,e2⟩
 ·obtain ⟨o1,e1⟩:=ub.there b o e (by simp)
  by_cases hb:b∈l
  ·obtain ⟨sl2,e2⟩:=frame b _ e1 hb
   exact ⟨_,e2⟩
  ·exact ⟨o1,keepB b o1 e1 hb⟩
 ·refine (I.hok b u e).stay (fun c v hc q=>?_) (fun _ q=>q) fun _ _ q=>q
  rcases hc with z | z
  ·subst z
   exact keepB _ v q (trkN _ u e)
  ·exact keepB c v q (trkN c _ z)
 ·obtain ⟨o1,q1⟩:=(I.hok b u e).there
  have z2:=keepB b o1 q1 (trkN b u e)
  have q:h'.get? b=some o:=q
  rw [z2] at q
  cases q
  exact toB b _ q1 (trkN b u e)
 ·obtain ⟨o1,e1⟩:=ub.there b o e (by simp)
  exact ⟨o1,keepB b o1 e1 (notin b o e n),toB b o1 e1 (notin b o e n)⟩
end
section
variable {X:Cx}{C:Addr}{x:Str}{np cpos pos:Pos}{e:Expr}{te:TE}{E:XK}
def tRaise (C:Addr) (E:XK) (te:TE):TS:=fun _ σ H=>te σ H fun _ H1=>E (.ref C) none H1
theorem qd6 (Z:Exc X.K C) (hg:Gl X x) (hm:X.mg x=some (.ref C)) (hc:X.calm=true) (ha:PE X e te) (hp:qiu X E)
  (hd:(x == ("__debug__":Str))=false:=by decide) (he:starEach [e] X.env=[(false,eval e X.env)]:=by rfl):PS X (.Raise (some (.Call (.Name x np) [e] [] cpos)) none pos) (tRaise C E te):=by
 intro pins s σ H D I h
 obtain ⟨bm,N,nm,q,bs,hdct,sn,sub,ab,col,dd,k0,k1,k2,k3,k5,mN,hC,hN,hni,T⟩:=Z.obj I.mod.kin
 refine wpAny_Raise_call_subT (C:=C) (nm:=nm) (q:=q) (N:=N) (bs:=bs) (bm:=bm) (hdct:=hdct) (sn:=sn) (sub:=sub) (ab:=ab) (col:=col) (dd:=dd) (k0:=k0) (k1:=k1) (k2:=k2) (k3:=k3) (k5:=k5)
  PySem.F.excBase_ValueError (mN:=mN) (T.hasType PySem.F.excBase_ValueError.hasBase) (I.ok.hd hc) (by rw [he];rfl) hni (qgo I hg hm ⟨rfl,?_⟩ hd)
 rw [he]
 refine Calls.evalArgs_plain ?_
 show wpAny _ _ (spliced ((false,eval e X.env)::[])) _ _ s
 refine Calls.spliced_cons (thn (ha pins s σ H _ I h) fun u s₂ ⟨v,H2,I2,r2,q2⟩=>?_)
 refine Calls.spliced_nil ⟨rfl,?_,I2.bk _ _ hC,hN.keeps I2.bk,T.keeps I2.bk,fun h' a mk=>hp pins σ H2 s₂ a C _ h' I2 mk q2⟩
 show 1≤sizeLine
 decide
end
end L2
namespace L2
open PySem PySem.Spec PyProof.Rows
section
variable {M:Model}{A:Around}{E:Value→Shared→Prop}{K:PySem.W.Frag}{C D e:Addr}{oe:Obj}
theorem qlo {h:Heap}{g:Array GenState}{d:Drawn}{t:Nat}{os:OsState}{Q:Bool→Shared→Prop} (ZC:Exc K C) (ZD:Exc K D) (X:K.In h) (sub:PySem.W.mroIn K C (.ref D)=some true)
  (he:h.get? e=some oe) (hcls:oe.cls=.ref C) (hq:Q true ⟨h,g,d,t,os⟩):wpAny M A (excMatches (.ref e) (.ref D)) Q E ⟨h,g,d,t,os⟩:=by
 have L0:PySem.W.Looks M h (typeOf (.ref e)) (.ref C):=hcls ▸ (PySem.W.Looks.ld he).andThen .now
 have L1:PySem.W.Looks M h (isSubtype (.ref C) (.ref D)) true:=PySem.W.looks_mroIn X sub
 obtain ⟨bm,N,nm,q,bs,hdct,sn,sb,ab,col,dd,k0,k1,k2,k3,k5,mN,hD,hN,hni,T⟩:=ZD.obj X
 have hcB:(Value.ref D::bm).contains (.type "BaseException")=true:=by rw [List.contains_cons,T.hasType PySem.F.excBase_ValueError.hasBase,Bool.or_true]
 have f:=tc_notTuple
 unfold excMatches
 repeat (first | with_reducible refine wpAny_loadPart_at hD ?_ | (with_reducible refine wpAny_isSubtype_exc hD ?_;rw [hcB]) | with_reducible refine L0.at ?_ | with_reducible refine L1.at ?_ | wp_step)
 first
  | exact hq
  | (rw [hcls]
     refine L1.at ?_
     repeat wp_step
     exact hq)
end
def XO (X:Cx) (pins:List (Addr×Obj)) (σ:St) (E:XK):Value→Shared→Prop:=fun e s'=>∃ H1 s1,Inv X pins σ H1 s1∧CXo X.prog X.w X.stack H1 s1 E e s'
def PEx (X:Cx) (e:Expr) (t:XK→TE):Prop:=∀ (pins:List (Addr×Obj)) (s:Shared) (σ:St) (H:Hp) (Q:VK) (E:XK),Inv X pins σ H s→t E σ H Q→wpAny (model X.prog X.w) X.A (eval e X.env) (EP X pins σ Q) (XO X pins σ E) s
def PSx (X:Cx) (st:Stmt) (t:XK→TS):Prop:=∀ (pins:List (Addr×Obj)) (s:Shared) (σ:St) (H:Hp) (D:Ends) (E:XK),Inv X pins σ H s→t E D σ H→wpAny (model X.prog X.w) X.A (exec st X.env) (SP X pins D) (XO X pins σ E) s
def PSxs (X:Cx) (st:List Stmt) (t:XK→TS):Prop:=∀ (pins:List (Addr×Obj)) (s:Shared) (σ:St) (H:Hp) (D:Ends) (E:XK),Inv X pins σ H s→t E D σ H→wpAny (model X.prog X.w) X.A (execs st X.env) (SP X pins D) (XO X pins σ E) s
section
variable {X:Cx}{k:Nat}{f C:Addr}{fd:FuncData}{ps:List Str}{sp:Sp}{dvs:List V}{ds:List Value}{x m:Str}{p pos apos:Pos}{e o:Expr}{es:List Expr}{ta:TE}{t:TA}
theorem run_fnx {pins:List (Addr×Obj)}{σ:St}{H:Hp}{s:Shared}{Q:VK}{E:XK}{us:List Value}{vs:List V} (F:FnOk X.prog X.w X.K X.mg X.base (CXo X.prog X.w) k f fd ps sp) (hr:Room k X.A) (hb:Binds X.K fd ps ds) (hd:Vals dvs ds)
  (I:Inv X pins σ H s) (r:Vals vs us) (h:sp (vs++dvs) H Q E):wpAny (model X.prog X.w) X.A (call (.ref f) us) (EP X pins σ Q) (XO X pins σ E) s:=by
 have r2:Vals (vs++dvs) (us++ds):=r.append hd
 have hl:(us++ds).length=ps.length:=by rw [← r2.length];exact F.len _ _ _ _ h
 refine wpAny_call (codeAny_mono (F.run X.A X.stack s H ⟨us,[]⟩ (us++ds) (vs++dvs) Q E hr I.env0 (hb s us I.kIn hl) r2 h) fun r s' hq=>?_)
 cases r with
 | error e=>exact ⟨H,s,I,hq⟩
 | ok fl =>
  cases fl with
  | ret u=>exact I.after hq
  | next=>exact False.elim hq
  | brk=>exact False.elim hq
  | cont=>exact False.elim hq
theorem pex_call (F:FnOk X.prog X.w X.K X.mg X.base (CXo X.prog X.w) k f fd ps sp) (hr:Room k X.A) (hg:Gl X x) (hm:X.mg x=some (.ref f)) (hk:PySem.W.keepIn X.K (.ref f)=true) (hb:Binds X.K fd ps ds) (hd:Vals dvs ds)
  (ha:PA X.nox (e::es) t) (hdb:(x == ("__debug__":Str))=false:=by decide) (he:starEach (e::es) X.env=(false,eval e X.env)::starEach es X.env:=by rfl) (hpl:(backTo pos (starEach es X.env)).any (·.1)=false:=by rfl) :
  PEx X (.Call (.Name x p) (e::es) [] pos) (fun E=>qej sp dvs E t):=by
 intro pins s σ H Q E I h
 refine wpAny_Call_Name_kw (qgo I hg hm ?_ hdb)
 refine PySem.W.callWith_K (h₀:=X.base) I.ok.mod.kin hk (wpAny_mono (ha pos pins s σ H _ (I.wish _) h) (fun us s1 ⟨vs,H1,I1,r,q⟩=>⟨I1.unwish.kIn,?_⟩) fun _ _ z=>False.elim z) he hpl
 exact run_fnx F hr hb hd I1.unwish r q
end
section
variable {X:Cx}{e:Expr}{te:XK→TE}{pos:Pos}
theorem psx_set {i:Nat}{x:Str}{pos':Pos} (hN:X.N.Nodup) (hi:X.N[i]?=some x) (hx:Loc X.env.scope x) (he:PEx X e te) (hs:swapsWith e (some (.Name x pos')) pos.line X.env=pure false:=by rfl) (hf:X.fn x=true∨X.env.scope.names.lookup x=some .local:=by first | exact .inl rfl | exact .inr rfl | assumption) :
  PSx X (.Assign [.Name x pos'] e pos) (fun E=>tAsg (te E) (qft i)):=by
 intro pins s σ H D E I h
 refine wpAny_Assign_Name (thn (he pins s σ H _ E I h) fun v s1 ⟨y,H1,I1,r1,q1⟩=>?_) hs
 exact qfd I1 hN hi hx r1 (fun s2 I2=>⟨_,H1,I2,q1⟩) hf
end
def hnd (X:Cx) (a:Addr):Cx:={ X with A:=X.A.mark (some (.ref a)),calm:=false,xe:=fun _ _=>False }
def tTry (K:PySem.W.Frag) (D:Addr) (i:Nat) (tb:XK→TS) (th:TS):TS:=fun Dn σ H=>tb (fun cls _ H'=>∃ C,cls=.ref C∧Exc K C∧PySem.W.mroIn K C (.ref D)=some true ∧
  ∀ a,H' a=none→th { nx:=fun σ' H''=>Dn.nx (σ'.set i none) H'',rt:=Dn.rt,bk:=fun σ' H''=>Dn.bk (σ'.set i none) H'',ct:=fun σ' H''=>Dn.ct (σ'.set i none) H'' } (σ.set i (some (.ref a))) (upd H' a (excO C a))) Dn σ H
section
variable {X:Cx}
theorem Inv.hnd {pins:List (Addr×Obj)}{σ:St}{H:Hp}{s:Shared}{a:Addr} (I:Inv X pins σ H s):Inv (L2.hnd X a) pins σ H s :=
 ⟨⟨I.ok.mod,I.ok.kind,I.ok.glob,I.ok.blt,I.ok.above,I.ok.inj,I.ok.has,I.ok.cab,fun z=>Bool.noConfusion (show false=true from z),I.ok.frames,I.ok.stk,I.ok.exf,I.ok.bs,I.ok.bsz,I.ok.noex,I.ok.exfs,I.ok.funs,I.ok.frf⟩,I.os,I.bare,I.base,I.loc,I.cell,I.free,I.freeC,I.pin,I.hok,I.len⟩
theorem Inv.unhnd {pins:List (Addr×Obj)}{σ:St}{H:Hp}{s:Shared}{a:Addr} (ok:X.Ok) (I:Inv (L2.hnd X a) pins σ H s):Inv X pins σ H s :=
 ⟨ok,I.os,I.bare,I.base,I.loc,I.cell,I.free,I.freeC,I.pin,I.hok,I.len⟩
theorem qjm {M:Model}{A:Around}{E:Value→Shared→Prop}{i:Nat}{n:Str}{pos:Pos}{pins:List (Addr×Obj)}{σ:St}{H:Hp}{s:Shared}{Q:Unit→Shared→Prop} (I:Inv X pins σ H s) (hN:X.N.Nodup) (hi:X.N[i]?=some n) (hl:X.env.scope.names.lookup n=some .local)
  (h:∀ s',Inv X pins (σ.set i none) H s'→Q () s'):wpAny M A (do bindName X.env n .none;unbindBehindTheSuite X.env n pos) Q E s:=by
 obtain ⟨m,hn,hm⟩:=id I.loc
 refine wpAny_nameGoes_keeps hl hn (by rw [I.ok.kind];rfl) fun h' v hn' hs=>h _ ?_
 obtain ⟨oL,_,_,hoL,_⟩:=id hn
 have hk:∀ b o,b≠X.env.locals→s.heap.get? b=some o→h'.get? b=some o:=fun b o hb e=>(hs.2 b hb).trans e
 have low:∀ b o,X.s₀.heap.get? b=some o→b≠X.env.locals:=fun b o e=>Nat.ne_of_lt (Nat.lt_of_lt_of_le (Heap.lt_size e) I.ok.above)
 refine ⟨I.ok,I.os,I.bare,⟨fun b o e z hb hx=>hk b o (low b o e) (I.base.keep b o e z hb hx),fun b o e z hb hx=>?_,I.base.free,fun b o e hx=>?_,I.base.tups,I.base.frzs,I.base.tbls⟩,⟨_,hn',fun j y v' e1 e2 e3=>?_⟩,fun y c e=>?_,I.free,I.freeC,fun p hp=>?_,fun b u e=>?_,by simpa using I.len⟩
 ·obtain ⟨sl,e1⟩:=I.base.slot b o e z hb hx
  exact ⟨sl,hk b _ (low b o e) e1⟩
 ·obtain ⟨o',e1⟩:=I.base.there b o e hx
  exact ⟨o',hk b o' (low b o e) e1⟩
 ·have hj:j≠i:=fun z=>by
   subst z
   rw [List.getElem?_set] at e2
   simp only [if_true] at e2
   split at e2 <;> cases e2
  rw [List.getElem?_set_ne (Ne.symm hj)] at e2
  obtain ⟨u,r,l⟩:=hm j y v' e1 e2 e3
  refine ⟨u,r,?_⟩
  rcases l with ⟨kd,e⟩ | ⟨kd,c,e,z⟩
  ·refine .inl ⟨kd,?_⟩
   have hy:y≠n:=fun z=>hj (qjk hN e1 (z ▸ hi))
   simp only [if_neg hy]
   exact e
  ·exact .inr ⟨kd,c,e,z.sameBut hs (I.cne y c e)⟩
 ·obtain ⟨w',z⟩:=I.cell y c e
  exact ⟨w',z.sameBut hs (I.cne y c e)⟩
 ·obtain ⟨e,z,ne,nf,d⟩:=I.pin p hp
  exact ⟨hk _ _ ne e,z,ne,nf,d⟩
 ·refine (I.hok b u e).stay (fun c v hc q=>hk c v ?_ q) (fun _ q=>q) fun _ _ q=>q
  rintro rfl
  rcases hc with hc | hc
  ·rw [← hc,I.free] at e;cases e
  ·rw [I.free] at hc;cases hc
end
end L2
namespace L2
open PySem PySem.Spec PyProof.Rows
theorem flown {P:Program}{w:World}{stk:List Env}{H H':Hp}{h0 h1 h2 B:Heap}{a C:Addr}{t:Value} (un:Un (frs stk) [] H H' h0 h1) (hok:HOk P w H' h1) (fl:Heap.FlyingW B stk a (.ref C) t h1)
  (inB:∀ b u o,H' b=some u→h1.get? b=some o→B.get? b=some o) (oldB:∀ b o,h0.get? b=some o→b∉frs stk→∃ o',h1.get? b=some o'∧B.get? b=some o') (st:B.StaysIn h2) (up:h1.UpToSlots h2) :
  Un (frs stk) [] H H' h0 h2∧HOk P w H' h2:=by
 have frame:∀ b o,h1.get? b=some o→b∈frs stk→∃ sl,h2.get? b=some { o with slots:=sl }:=fun b o e hb=>by
  obtain ⟨_,o3,e3,hnf⟩:=fl.2.2.1.mem (show b∈stk.filterMap (·.frame) from hb)
  rw [e] at e3
  cases e3
  exact up b o e hnf
 refine ⟨⟨fun b o e n hb hx=>?_,fun b o e n hb hx=>?_,un.free,fun b o e hx=>?_,un.tups,un.frzs,un.tbls⟩,fun b u e=>?_⟩
 ·have e2:=un.keep b o e n hb hx
  obtain ⟨o2,e3,e4⟩:=oldB b o e hb
  rw [e2] at e3
  cases e3
  exact st b _ e4
 ·obtain ⟨sl,e1⟩:=un.slot b o e n hb hx
  obtain ⟨sl2,e2⟩:=frame b _ e1 hb
  exact ⟨sl2,e2⟩
 ·by_cases hb:b∈frs stk
  ·obtain ⟨o1,e1⟩:=un.there b o e hx
   obtain ⟨sl2,e2⟩:=frame b _ e1 hb
   exact ⟨_,e2⟩
  ·obtain ⟨o2,e3,e4⟩:=oldB b o e hb
   exact ⟨o2,st b _ e4⟩
 ·refine (hok b u e).stay (fun c v hc q=>?_) (fun _ q=>q) fun _ _ q=>q
  rcases hc with z | z
  ·subst z
   exact st _ _ (inB _ u v e q)
  ·exact st _ _ (inB c _ v z q)
section
variable {X:Cx}{body:List Stmt}{x n:Str}{np hp pos:Pos}{b₀:Stmt}{bs:List Stmt}{tb:XK→TS}{th:TS}{D:Addr}{i:Nat}
theorem ps_try (hc:X.calm=true) (hst:X.stack=X.env::X.outer) (hf:X.env.frame=some X.env.locals) (hex:X.ex=[]) (hb:PSxs X body tb) (hg:Gl X x) (hm:X.mg x=some (.ref D)) (ZD:Exc X.K D)
  (hN:X.N.Nodup) (hi:X.N[i]?=some n) (hl:X.env.scope.names.lookup n=some .local) (hh:∀ a,PSs (hnd X a) (b₀::bs) th) (hd:(x == ("__debug__":Str))=false:=by decide) :
  PS X (.Try body [.ExceptHandler (some (.Name x np)) (some n) (b₀::bs) hp] [] [] pos) (tTry X.K D i tb th):=by
 intro pins s σ H Dn I h
 refine wpAny_Try_except (wpAny_mono (hb pins s σ H Dn _ I h) (fun fl s1 q1=>?_) fun e s1 q1=>?_)
 ·cases fl with
  | next=>exact wpAny_execs_nil q1
  | brk=>exact q1
  | cont=>exact q1
  | ret v=>exact q1
 ·obtain ⟨H1,s2,J,a,C,t,B,H',rfl,hos,hbare,un,hok,fl,inB,oldB,C',eC,ZC,sub,hth⟩:=q1
  cases eC
  have hfrm:X.A.frames=some (X.env::X.outer):=by rw [← hst];exact J.ok.frames
  have ha:s2.heap.get? a=none:=by
   cases q:s2.heap.get? a with
   | none=>rfl
   | some o =>
    exfalso
    by_cases hb:a∈frs X.stack
    ·obtain ⟨_,o3,e3,hnf⟩:=fl.2.2.1.mem (show a∈X.stack.filterMap (·.frame) from hb)
     obtain ⟨oe,vs,e4,_,e5,_⟩:=fl.first
     rw [e4] at e3
     cases e3
     exact hnf vs e5
    ·obtain ⟨o',_,e⟩:=oldB a o q hb
     rw [fl.2.1] at e
     cases e
  have inv:∀ {h2:Heap}{tk:Nat},B.StaysIn h2→s1.heap.UpToSlots h2→Inv X pins σ H' { s1 with heap:=h2,toks:=tk }:=fun {h2 tk} st up=>by
   obtain ⟨u2,ok2⟩:=flown un hok fl inB oldB st up
   exact J.call' (s':={ s1 with heap:=h2,toks:=tk }) (ch:=[]) hos u2 ok2 hbare (fun b z=>absurd z (by simp))
  have haH:H' a=none:=by
   cases q:H' a with
   | none=>rfl
   | some u =>
    exfalso
    obtain ⟨oe,e4,_⟩:=fl.there
    have:=inB a u oe q e4
    rw [fl.2.1] at this
    cases this
  have fl1:Heap.FlyingW B (X.env::X.outer) a (.ref C) t s1.heap:=by rw [← hst];exact fl
  refine wpAny_looks_onW hfrm hf fl1 fun h4 held4 up4=>?_
  refine wpAny_landsW held4 fun h5 fl5 up5=>?_
  have I5:Inv X pins σ H' { s1 with heap:=h5 }:=inv (tk:=s1.toks) fl5.1 (up4.trans up5)
  have I5h:Inv (hnd X a) pins σ H' { s1 with heap:=h5 }:=I5.hnd
  refine wpAny_handleBy_cons (codeAny_handlers_test (qgo (X:=hnd X a) I5h hg hm ?_ hd)) (by intro z;cases z)
  obtain ⟨oe,e4,ecls⟩:=fl5.there
  refine qlo ZC ZD I5.kIn sub e4 ecls (codeAny_handlers_suite_as ?_)
  refine lands_againW fl5 fun h6 fl6 up6=>?_
  have I6:Inv X pins σ H' { s1 with heap:=h6 }:=inv (tk:=s1.toks) fl6.1 ((up4.trans up5).trans up6)
  have nea:∀ b o,s2.heap.get? b=some o→b≠a:=fun b o e z=>by rw [z,ha] at e;cases e
  have I7:Inv X pins σ (upd H' a (excO C a)) { s1 with heap:=h6 }:=by
   refine ⟨I6.ok,I6.os,I6.bare,⟨I6.base.keep,I6.base.slot,fun b o e z hx=>?_,I6.base.there,fun b xs e=>?_,fun b o u e=>?_,fun b ps e=>?_⟩,I6.loc,I6.cell,?_,fun y c e=>?_,fun p hp=>?_,fun b u e=>?_,I6.len⟩
   ·obtain ⟨o',e'⟩:=J.base.there b o e hx
    rw [qag (nea b o' e')]
    exact I6.base.free b o e z hx
   ·rw [qag (qae (I6.base.tups b xs e) haH)]
    exact I6.base.tups b xs e
   ·rw [qag (qae (I6.base.frzs b o u e) haH)]
    exact I6.base.frzs b o u e
   ·obtain ⟨m1,e1⟩:=I6.base.tbls b ps e
    exact ⟨m1,by rw [qag (qae e1 haH)];exact e1⟩
   ·obtain ⟨m,⟨o,_,_,ho,_⟩,_⟩:=J.loc
    rw [qag (nea _ o ho)]
    exact I6.free
   ·obtain ⟨v,o,ho,_⟩:=J.cell y c e
    rw [qag (nea _ o ho)]
    exact I6.freeC y c e
   ·obtain ⟨e1,z1,r1⟩:=I6.pin p hp
    refine ⟨e1,?_,r1⟩
    rw [qag (nea _ _ (J.pin p hp).1)]
    exact z1
   ·by_cases hb:b=a
    ·subst hb
     rw [qab] at e
     cases e
     obtain ⟨oe,vs,e7,c7,d7,_⟩:=fl6.first
     exact excO_ok ⟨oe,vs,e7,c7,d7⟩
    ·rw [qag hb] at e
     exact (I6.hok b u e).stay (fun c v _ q=>q) (fun c q=>by rw [qag (qae q haH)];exact q) fun c xs q=>by rw [qag (qae q haH)];exact q
  refine qfd (v:=.ref a) I7 hN hi (.inl hl) rfl (fun s8 I8=>?_) (.inr hl)
  refine wpAny_mono (hh a pins s8 _ _ _ I8.hnd (hth a haH)) (fun fl9 s9 q9=>?_) fun _ _ z=>False.elim z
  have ok:=I8.ok
  cases fl9 with
  | next =>
   obtain ⟨σ9,H9,I9,q9⟩:=q9
   exact qjm (I9.unhnd ok) hN hi hl fun s10 I10=>⟨_,H9,I10,q9⟩
  | brk =>
   obtain ⟨σ9,H9,I9,q9⟩:=q9
   exact qjm (I9.unhnd ok) hN hi hl fun s10 I10=>⟨_,H9,I10,q9⟩
  | cont =>
   obtain ⟨σ9,H9,I9,q9⟩:=q9
   exact qjm (I9.unhnd ok) hN hi hl fun s10 I10=>⟨_,H9,I10,q9⟩
  | ret v =>
   obtain ⟨y,σ9,H9,I9,r9,q9⟩:=q9
   exact qjm (I9.unhnd ok) hN hi hl fun s10 I10=>⟨y,_,H9,I10,r9,q9⟩
theorem psxs_one {st:Stmt}{t:XK→TS} (h:PSx X st t):PSxs X [st] t:=by
 intro pins s σ H Dn E I hq
 refine PySem.wpAny_execs_cons (thn (h pins s σ H Dn E I hq) fun f s1 q=>?_)
 cases f with
 | next=>exact wpAny_execs_nil q
 | brk=>exact q
 | cont=>exact q
 | ret v=>exact q
end
end L2
namespace L2
open PySem PySem.Spec PyProof.Rows
def leS (a b:Str):Bool:=!ltCps b.cps.toList a.cps.toList
theorem qgt:∀ a:List Nat,ltCps a a=false
 | []=>rfl
 | a::r=>by
  show (decide (a < a) || (a == a && ltCps r r))=false
  rw [qgt r]
  simp
theorem qfq:∀ {a b c:List Nat},ltCps a b=true→ltCps b c=true→ltCps a c=true
 | [],_,[],h1,h2=>by
  cases ‹List Nat› with
  | nil=>exact h1
  | cons x r=>exact absurd (show ltCps (x::r) []=true from h2) (by intro z;cases z)
 | [],_,_::_,_,_=>rfl
 | a::r,[],_,h1,_=>by cases h1
 | a::r,b::t,[],_,h2=>by cases h2
 | a::r,b::t,c::u,h1,h2=>by
  have h1:(decide (a < b) || (a == b && ltCps r t))=true:=h1
  have h2:(decide (b < c) || (b == c && ltCps t u))=true:=h2
  show (decide (a < c) || (a == c && ltCps r u))=true
  simp only [Bool.or_eq_true,decide_eq_true_eq,Bool.and_eq_true,beq_iff_eq] at h1 h2 ⊢
  rcases h1 with h1 | ⟨e1,g1⟩
  ·rcases h2 with h2 | ⟨e2,g2⟩
   ·exact .inl (by omega)
   ·exact .inl (by omega)
  ·rcases h2 with h2 | ⟨e2,g2⟩
   ·exact .inl (by omega)
   ·exact .inr ⟨e1.trans e2,qfq g1 g2⟩
theorem qhp:∀ a b:List Nat,ltCps a b=false→ltCps b a=false→a=b
 | [],[],_,_=>rfl
 | [],_::_,h,_=>by cases h
 | _::_,[],_,h=>by cases h
 | a::r,b::t,h1,h2=>by
  have h1:(decide (a < b) || (a == b && ltCps r t))=false:=h1
  have h2:(decide (b < a) || (b == a && ltCps t r))=false:=h2
  simp only [Bool.or_eq_false_iff,decide_eq_false_iff_not,Bool.and_eq_false_iff,beq_eq_false_iff_ne] at h1 h2
  have e:a=b:=by omega
  subst e
  rw [qhp r t (h1.2.resolve_left fun z=>z rfl) (h2.2.resolve_left fun z=>z rfl)]
theorem leS_total (a b:Str):leS a b=true∨leS b a=true:=by
 unfold leS
 cases h:ltCps b.cps.toList a.cps.toList with
 | false=>exact .inl rfl
 | true =>
  right
  cases h2:ltCps a.cps.toList b.cps.toList with
  | false=>rfl
  | true =>
   have:=qfq h h2
   rw [qgt] at this
   cases this
theorem leS_anti {a b:Str} (h1:leS a b=true) (h2:leS b a=true):a=b:=by
 unfold leS at h1 h2
 have e:=qhp b.cps.toList a.cps.toList (by simpa using h1) (by simpa using h2)
 obtain ⟨⟨x⟩⟩:=a
 obtain ⟨⟨y⟩⟩:=b
 have e:y=x:=e
 rw [e]
theorem qkn {a b c:Str} (h1:leS a b=true) (h2:leS b c=true):leS a c=true:=by
 unfold leS at *
 cases h:ltCps c.cps.toList a.cps.toList with
 | false=>rfl
 | true =>
  exfalso
  have h1:ltCps b.cps.toList a.cps.toList=false:=by simpa using h1
  have h2:ltCps c.cps.toList b.cps.toList=false:=by simpa using h2
  cases h3:ltCps b.cps.toList c.cps.toList with
  | true =>
   have:=qfq h3 h
   rw [h1] at this
   cases this
  | false =>
   have e:=qhp _ _ h3 h2
   rw [e,h] at h1
   cases h1
def insS (x:Str):List Str→List Str
 | []=>[x]
 | y::r=>if leS x y then x::y::r else y::insS x r
def srt:List Str→List Str
 | []=>[]
 | x::r=>insS x (srt r)
theorem qhv (x:Str):∀ l,(insS x l).Perm (x::l)
 | []=>.refl _
 | y::r=>by
  unfold insS
  split
  ·exact .refl _
  ·exact ((qhv x r).cons y).trans (.swap x y r)
theorem qaz:∀ l,(srt l).Perm l
 | []=>.refl _
 | x::r=>(qhv x (srt r)).trans ((qaz r).cons x)
theorem qhu (x:Str):∀ l,l.Pairwise (fun a b=>leS a b=true)→(insS x l).Pairwise (fun a b=>leS a b=true)
 | [],_=>by simp [insS]
 | y::r,h=>by
  obtain ⟨h1,h2⟩:=List.pairwise_cons.mp h
  unfold insS
  split
  ·rename_i hxy
   refine List.pairwise_cons.mpr ⟨fun z hz=>?_,h⟩
   rcases List.mem_cons.mp hz with rfl | hz
   ·exact hxy
   ·exact qkn hxy (h1 z hz)
  ·rename_i hxy
   refine List.pairwise_cons.mpr ⟨fun z hz=>?_,qhu x r h2⟩
   rcases List.mem_cons.mp ((qhv x r).mem_iff.mp hz) with rfl | hz
   ·exact (leS_total z y).resolve_left hxy
   ·exact h1 z hz
theorem qdr:∀ l,(srt l).Pairwise (fun a b=>leS a b=true)
 | []=>.nil
 | x::r=>qhu x _ (qdr r)
theorem qdp:∀ {l m:List Str},l.Perm m→l.Pairwise (fun a b=>leS a b=true)→m.Pairwise (fun a b=>leS a b=true)→l=m
 | [],m,p,_,_=>(List.nil_perm.mp p).symm
 | a::l,[],p,_,_=>absurd (List.perm_nil.mp p) (by simp)
 | a::l,b::m,p,h1,h2=>by
  obtain ⟨a1,a2⟩:=List.pairwise_cons.mp h1
  obtain ⟨b1,b2⟩:=List.pairwise_cons.mp h2
  have e:a=b:=by
   have ha:a∈b::m:=p.mem_iff.mp List.mem_cons_self
   have hb:b∈a::l:=p.mem_iff.mpr List.mem_cons_self
   rcases List.mem_cons.mp ha with e | ha
   ·exact e
   ·rcases List.mem_cons.mp hb with e | hb
    ·exact e.symm
    ·exact leS_anti (a1 b hb) (b1 a ha)
  subst e
  rw [qdp (List.Perm.cons_inv p) a2 b2]
theorem qfm {l m:List Str} (p:l.Perm m):srt l=srt m:=qdp ((qaz l).trans (p.trans (qaz m).symm)) (qdr l) (qdr m)
theorem qat (l:List Str):(srt l).length=l.length:=(qaz l).length_eq
theorem qe0:∀ (p:Str) (l:List Str),risingS p l=true→(p::l).Pairwise (fun a b=>leS a b=true)
 | p,[],_=>List.pairwise_singleton _ _
 | p,x::r,h=>by
  have h:(!ltCps x.cps.toList p.cps.toList && risingS x r)=true:=h
  rw [Bool.and_eq_true] at h
  have ih:=qe0 x r h.2
  refine List.pairwise_cons.mpr ⟨fun z hz=>?_,ih⟩
  rcases List.mem_cons.mp hz with rfl | hz
  ·exact h.1
  ·exact qkn (show leS p x=true from h.1) ((List.pairwise_cons.mp ih).1 z hz)
theorem qgv:∀ (l:List Str),sortedS l=true→l.Pairwise (fun a b=>leS a b=true)
 | [],_=>.nil
 | x::r,h=>qe0 x r h
theorem is_srt {l m:List Str} (p:l.Perm m) (h:sortedS l=true):l=srt m:=qdp (p.trans (qaz m).symm) (qgv l h) (qdr m)
theorem qi0:∀ {ss:List Str}{us:List Value},Vals (ss.map V.str) us→StrsAre us ss
 | [],_,.nil=>.nil
 | x::ss,_,.cons ⟨t,e⟩ r=>by subst e;exact .cons x t (qi0 r)
theorem qld:∀ {ss:List Str}{us:List Value},StrsAre us ss→Vals (ss.map V.str) us
 | _,_,.nil=>.nil
 | _,_,.cons x t r=>.cons ⟨t,rfl⟩ (qld r)
theorem vals_of:∀ (xs:List V) (us:List Value),xs.length=us.length→(∀ (j:Nat) x u,xs[j]?=some x→us[j]?=some u→RelV x u)→Vals xs us
 | [],[],_,_=>.nil
 | [],_::_,e,_=>by cases e
 | _::_,[],e,_=>by cases e
 | x::xs,u::us,e,h=>.cons (h 0 x u rfl rfl) (vals_of xs us (Nat.succ.inj e) fun j y v e1 e2=>h (j+1) y v (by simpa using e1) (by simpa using e2))
section
variable {X:Cx}
theorem qd8:qgy X (.builtin "sorted") (fun xs H Q=>∃ p ss,xs=[.ref p]∧SqL X.K H p (ss.map V.str)∧ss.length < 64∧∀ l,H l=none→Q (.ref l) (upd H l (.lst ((srt ss).map V.str)))):=by
 intro pins s σ H xs us Q I r h
 obtain ⟨p,ss,rfl,hq,hz,q⟩:=h
 obtain ⟨u,rfl,ru⟩:=qh5 r
 cases ru
 obtain ⟨its,rv,pl,hz2⟩:=I.list hq
 have hS:=qi0 rv
 have hl:its.length=ss.length:=by have:=rv.length;rw [List.length_map] at this;exact this.symm
 refine sorted_strs pl.isList hS (by omega) fun out ss' h1 h2 h3=>?_
 have e:=is_srt h2 h3
 subst e
 obtain ⟨ep,hat⟩:=sortedAll_at s.heap its out
 have hf:H (s.heap.objs.size+1)=none:=I.hok.fresh (Nat.le_succ _)
 refine ⟨.ref _,_,I.laid (t':=s.toks) (fun b o e=>sortedAll_old e) (Nat.le_succ _) (o:=.lst ((srt ss).map V.str)) ?_,rfl,q _ hf⟩
 refine ⟨?_,out.toList,ep,qld h1,?_⟩
 ·rw [List.length_map,qat]
  exact Nat.le_trans (Nat.le_of_lt hz) (by decide)
 ·rw [hat]
theorem qbg (hc:X.calm=true):qgy X (.builtin "sorted") (fun xs H Q=>∃ p kvs ss,xs=[.ref p]∧Rd H p (.dK kvs)∧kvs.map (·.1)=ss.map Sum.inr∧ss.length < 64∧∀ l,H l=none→Q (.ref l) (upd H l (.lst ((srt ss).map V.str)))):=by
 intro pins s σ H xs us Q I r h
 obtain ⟨p,kvs,ss,rfl,hq,hk,hz,q⟩:=h
 obtain ⟨u,rfl,ru⟩:=qh5 r
 cases ru
 obtain ⟨z,hsys,vs,rel,dd⟩:=qic I.hok hq
 obtain ⟨ep,hat⟩:=dd.dictAt
 have hlen:vs.length=ss.length:=by
  have e1:=rel.length
  have e2:=congrArg List.length hk
  rw [List.length_map,List.length_map] at e2
  omega
 refine Calls.call_function_entry kind_sorted plain_sorted entry_sorted (args_sorted1 _) ?_
 unfold Builtin.«sorted»
 refine wpAny_bind (m:=checkCount "sorted" 1 1 _) (wpAny_pure ?_)
 refine wpAny_bind (PySem.W.kdu_collect (A:=X.A.in1) (PySem.W.kdl_dict (knd:=qb2 X.prog X.w) (kvs:=vs) (ep:=ep) hsys) (I.ok.hd hc) hat (Nat.le_trans (by omega) (show 64≤sizeLine by decide)) fun h' tk acc hkp hacc=>?_)
 have hl:acc.toList.length=vs.length:=by rw [Array.length_toList];exact hacc.1
 have hS:StrsAre acc.toList ss:=by
  refine qi0 (vals_of _ _ (by rw [List.length_map,hl,hlen]) fun j x u e1 e2=>?_)
  obtain ⟨k,y,e3,e4⟩:=hacc.2 j u (by rw [← Array.getElem?_toList];exact e2)
  have e5:(vs.map (·.1))[j]?=some k:=by rw [List.getElem?_map,e3];rfl
  rw [← rel.keys,hk,List.getElem?_map] at e5
  rw [List.getElem?_map] at e1
  cases e6:ss[j]? with
  | none=>rw [e6] at e1;cases e1
  | some z =>
   rw [e6] at e1 e5
   have e1:V.str z=x:=Option.some.inj e1
   have e5:Sum.inr z=k:=Option.some.inj e5
   subst e1 e5
   rcases qbu (k:=Sum.inr z) (v:=u) e4 with ⟨i,t,q1,_⟩ | ⟨y',t,q1,q2⟩
   ·cases q1
   ·cases q1
    exact ⟨t,q2⟩
 refine wpAny_bind (wpAny_newList ?_ (by rw [hl];exact Nat.le_trans (by omega) (show 64≤sizeLine by decide)))
 have hoL:(h'.push (seqObj "list" acc.toList.toArray 0)).get? h'.objs.size=some (seqObj "list" acc.toList.toArray 0):=Heap.get?_push_size _ rfl
 refine wpAny_bind (wpAny_holding (wpAny_call_entry slot_list_sort ⟨_,hoL,rfl⟩ entry_list_sort (list_sort_treeK strKind_oneLt hoL hS.keysOf (fun v₁ v₂ rest e=>keyKind_strs (by rw [← e];exact hS)) (by omega) fun st' a1 a2=>⟨_,rfl,?_⟩) (args_list_sort _)))
 refine wpAny_pure ⟨_,rfl,?_⟩
 obtain ⟨ss',h1,h2,h3⟩:=sorted_out_str hS a1 a2
 have e:=is_srt h2 h3
 subst e
 have I1:Inv X pins σ H { s with heap:=h',toks:=tk }:=I.kept hkp
 obtain ⟨e',hat'⟩:=sortedHeap_at (out:=(arrOf st').map (·.2)) hoL
 have hf:H h'.objs.size=none:=I1.hok.fresh (Nat.le_refl _)
 refine ⟨.ref _,_,I1.laid (t':=tk) (fun b o e=>?_) (Nat.le_refl _) (o:=.lst ((srt ss).map V.str)) ?_,rfl,q _ hf⟩
 ·have hlt:b < h'.objs.size:=Heap.lt_size e
  refine (sortedHeap_old (Nat.ne_of_lt hlt) (by rw [size_push'];exact Nat.lt_succ_of_lt hlt)).trans ?_
  exact Heap.get?_push_of_some _ e
 ·refine ⟨?_,((arrOf st').map (·.2)).toList,e',qld h1,?_⟩
  ·rw [List.length_map,qat]
   exact Nat.le_trans (Nat.le_of_lt hz) (by decide)
  ·exact hat'
end
end L2
namespace L2
open PySem PySem.Spec PyProof.Rows
def Its (x:Str):It:=⟨fun i _=>i < x.cps.size,fun i H v H'=>H'=H∧∃ c,x.cps[i]?=some c∧v=.str ⟨#[c]⟩,fun i _=>x.cps.size≤i⟩
theorem qjw {P:Program}{w:World}{A:Around} (hh:A.handled=none) (it:Addr) (x:Str) (t:Tok):Walks P w A it [it] [it] x.cps.size (SignAt x) (fun i h=>h.IsStrIter it (strIterType x) x t i):=by
 unfold strIterType
 split
 ·exact Walks.strAscii hh it x t
 ·exact Walks.strWide hh it x t
theorem turn_str {P:Program}{w:World}{K:PySem.W.Frag}{tg:Expr} (it:Addr) (x:Str) (t:Tok):Turn P w K tg (Its x) [it] it (fun i h=>i≤x.cps.size∧h.IsStrIter it (strIterType x) x t i) where
 mem:=by simp
 obj:=fun i h st b hb=>by
  have e:b=it:=by simpa using hb
  subst e
  obtain ⟨_,o,e,c,d⟩:=st
  exact ⟨o,e,fun v z=>by rw [d] at z;cases z⟩
 keep:=fun i h h' st k=>by
  obtain ⟨z,o,e,c,d⟩:=st
  exact ⟨z,o,k it (by simp) o e,c,d⟩
 item:=by
  intro X hP hw hK hc i pins s σ H E I hf st hg
  subst hP hw hK
  obtain ⟨f0,f1,f2,f3,f4,f5⟩:=hf it (by simp)
  refine (qjw (I.ok.hd hc) it x t).item i s _ _ hg st.2 fun v h' tk hv st' kk=>?_
  obtain ⟨c,u,e1,e2⟩:=hv
  subst e2
  have I1:Inv X pins σ H { s with heap:=h',toks:=tk }:=I.turned (fun b o hb e=>kk b o (by simpa using hb) e) f0 f1 f3 f4 f5
  obtain ⟨o,e,cl,d⟩:=id st'
  refine ⟨_,rfl,go_of (s:={ s with heap:=h',toks:=tk }) e cl d ?_ ⟨.str ⟨#[c]⟩,H,I1,⟨u,rfl⟩,⟨rfl,c,e1,rfl⟩,⟨hg,st'⟩,fun b hb=>(hf b hb).1⟩⟩
  unfold strIterType
  split <;> decide
 done:=by
  intro X hP hw hK hc i pins s σ H E I hf st hg
  subst hP hw hK
  obtain ⟨f0,f1,f2,f3,f4,f5⟩:=hf it (by simp)
  have e:i=x.cps.size:=Nat.le_antisymm st.1 hg
  subst e
  exact (qjw (I.ok.hd hc) it x t).done s _ _ st.2 fun h' tk kk=>⟨rfl,I.turned (fun b o hb e=>kk b o (by simpa using hb) e) f0 f1 f3 f4 f5⟩
 self:=fun A i s Q E st h=>by
  obtain ⟨_,st⟩:=st
  unfold strIterType at st
  split at st
  ·exact wpAny_pyIter_striter_ascii st h
  ·exact wpAny_pyIter_striter_wide st h
section
variable {X:Cx}{tg:Expr}
def iStr (tl:TE):TI:=fun σ H R=>tl σ H fun v H1=>∃ x,v=.str x∧R (Its x) H1
theorem pi_str {l:Expr}{tl:TE} (hl:PE X l tl):PI X tg l (iStr tl):=by
 intro pins s σ H R I h
 refine thn (hl pins s σ H _ I h) fun v s1 ⟨y,H1,I1,r1,q1⟩=>?_
 obtain ⟨x,e,q⟩:=q1
 subst e
 obtain ⟨t,rfl⟩:=r1
 refine wpAny_pyIter_strU ?_
 refine ⟨s1.heap.objs.size,[s1.heap.objs.size],_,_,H1,rfl,I1.kept (t':=s1.toks) fun b o e=>Heap.get?_push_of_some _ e,turn_str _ x t,⟨Nat.zero_le _,_,Heap.get?_push_size _ rfl,rfl,rfl⟩,fun b hb=>?_,q⟩
 have e:b=s1.heap.objs.size:=by simpa using hb
 subst e
 exact I1.fpOk (Nat.le_refl _) (I1.hok.fresh (Nat.le_refl _))
end
section
variable {X:Cx}{pins:List (Addr×Obj)}{σ:St}{H:Hp}{s:Shared}{d:Addr}{kvs:List (Key×V)}{ob:Obj}
end
section
variable {X:Cx}{tg:Expr}
end
end L2
namespace L2
open PySem PySem.Spec PyProof.Rows
def Nm (x:Str):Prop:=x.length≤100∧∀ c∈x.cps.toList,c < 16 ^ 8
section
variable {X:Cx}
theorem qkf:OpR X (compareOp .LtE) (fun x y H Q=>∃ i j,x=.str i∧y=.str j∧Q (.bl (!decide (j.cps.toList < i.cps.toList))) H):=by
 intro pins s σ H x y v u Q I rx ry h
 obtain ⟨i,j,rfl,rfl,q⟩:=h
 obtain ⟨t,rfl⟩:=rx
 obtain ⟨t',rfl⟩:=ry
 exact PySem.P.le_str ⟨.bl _,H,I,rfl,q⟩
theorem mt_join:MtR X "str.join" (fun x vs H Q=>∃ (z:Str) (p:Addr) (ys:List Str),x=.str z∧vs=[.ref p]∧SqL X.K H p (ys.map V.str)∧(ys.map (·.length)).sum+ys.length * z.length≤16777216∧Q (.str (Txt.join z ys)) H):=by
 intro pins s σ H x vs v us Q I rx rv h
 obtain ⟨z,p,ys,rfl,rfl,hq,hz,q⟩:=h
 obtain ⟨t,rfl⟩:=rx
 obtain ⟨u,rfl,ru⟩:=rv.one
 cases ru
 obtain ⟨its,r,pl,hz2⟩:=I.list hq
 exact join_list pl.isList (by simpa using qi0 r) hz fun t' k=>⟨.str _,H,I.tok k,⟨t',rfl⟩,q⟩
theorem call_all:qgy X (.builtin "all") (fun xs H Q=>∃ (p:Addr) (bs:List Bool),xs=[.ref p]∧SqL X.K H p (bs.map V.bl)∧X.calm=true∧Q (.bl (bs.all id)) H):=by
 intro pins s σ H xs us Q I r h
 obtain ⟨p,bs,rfl,hq,hc,q⟩:=h
 obtain ⟨u,rfl,ru⟩:=qh5 r
 cases ru
 obtain ⟨its,rv,pl,hz2⟩:=I.list hq
 have hl:its.length=bs.length:=by have:=rv.length;rw [List.length_map] at this;exact this.symm
 have hne:p≠s.heap.objs.size:=by obtain ⟨o,ho,_⟩:=pl.isList;exact Nat.ne_of_lt (Heap.lt_size ho)
 refine call_all_walk (wpAny_pyIter_list pl.isList ?_)
 refine ⟨s.heap.objs.size,_,_,its.toArray.size,_,_,fun i=>(bs[i]?).getD true,rfl,Walks.list (show X.A.in1.handled=none from I.ok.hd hc) _ p hne its.toArray,⟨⟨_,Heap.get?_push_size _ rfl,rfl,rfl⟩,pl.isList.push _⟩,?_,fun h' tk hk=>?_⟩
 ·intro i v s' Q' E' hP hQ
  have hP:its.toArray[i]?=some v:=hP
  have hv:its[i]?=some v:=by simpa using hP
  have hi:i < its.length:=(List.getElem?_eq_some_iff.mp hv).1
  obtain ⟨u',hu',ru'⟩:=rv.get (i:=i) (x:=.bl bs[i]) (by simp [← hl,hi])
  rw [hv] at hu'
  cases hu'
  cases ru'
  refine wpAny_truthy_bool ?_
  have e:(bs[i]?).getD true=bs[i]:=by simp [← hl,hi]
  rw [← e]
  exact hQ
 ·have I1:Inv X pins σ H { s with heap:=h',toks:=tk }:=I.kept fun b o e=>hk b o (fun z=>by
   have e1:b=s.heap.objs.size:=by simpa using z
   exact absurd (Heap.lt_size e) (by rw [e1];exact Nat.lt_irrefl _)) (Heap.get?_push_of_some _ e)
  refine ⟨.bl _,H,I1,rfl,?_⟩
  have e:(List.range its.toArray.size).all (fun i=>(bs[i]?).getD true)=bs.all id:=by
   rw [List.size_toArray,hl,Bool.eq_iff_iff,List.all_eq_true,List.all_eq_true]
   constructor
   ·intro z b hb
    obtain ⟨i,hi,rfl⟩:=List.mem_iff_getElem.mp hb
    have:=z i (List.mem_range.mpr hi)
    simpa [hi] using this
   ·intro z i hi
    have hi:=List.mem_range.mp hi
    simpa [hi] using z bs[i] (List.getElem_mem hi)
  rw [e]
  exact q
def eqLs:List V→List V→Bool
 | [],[]=>true
 | x::xs,y::ys=>eqV x y && eqLs xs ys
 | _,_=>false
theorem qjo:∀ {xs ys:List V},eqLs xs ys=true→xs.length=ys.length
 | [],[],_=>rfl
 | [],_::_,h=>by cases h
 | _::_,[],h=>by cases h
 | x::xs,y::ys,h=>by
  have h:(eqV x y && eqLs xs ys)=true:=h
  rw [Bool.and_eq_true] at h
  rw [List.length_cons,List.length_cons,qjo h.2]
theorem qg6:∀ {xs ys:List V},xs.length=ys.length→eqLs xs ys=(List.range xs.length).all fun i=>eqV ((xs[i]?).getD .non) ((ys[i]?).getD .non)
 | [],[],_=>rfl
 | [],_::_,h=>by cases h
 | _::_,[],h=>by cases h
 | x::xs,y::ys,h=>by
  show (eqV x y && eqLs xs ys)=_
  rw [qg6 (Nat.succ.inj h),List.length_cons,List.range_succ_eq_map,List.all_cons,List.all_map]
  rfl
def rEqL (K:PySem.W.Frag) (neg:Bool):R2:=fun x y H Q=>∃ p q xs ys,x=.ref p∧y=.ref q∧SqL K H p xs∧SqL K H q ys∧xs.all qe7=true∧ys.all qe7=true∧Q (.bl (if neg then !eqLs xs ys else eqLs xs ys)) H
theorem qgp {A:Around}{s:Shared}{xs ys:List V}{us ws:List Value} (rx:Vals xs us) (ry:Vals ys ws) (hl:xs.length=ys.length) (fx:xs.all qe7=true) (fy:ys.all qe7=true) :
  ∀ j (h1:j < us.toArray.size) (h2:j < ws.toArray.size),SeqAt.EqAt A s us.toArray[j] ws.toArray[j] (eqV ((xs[j]?).getD .non) ((ys[j]?).getD .non)):=by
 intro j h1 h2
 have e1:=rx.length
 have e2:=ry.length
 have h1':j < xs.length:=by rw [e1];simpa using h1
 have h2':j < ys.length:=by rw [e2];simpa using h2
 obtain ⟨u,hu,ru⟩:=rx.get (i:=j) (x:=xs[j]) (by simp [h1'])
 obtain ⟨w,hw,rw'⟩:=ry.get (i:=j) (x:=ys[j]) (by simp [h2'])
 have e3:us.toArray[j]=u:=by
  have:us[j]?=some us.toArray[j]:=by simp [show j < us.length by simpa using h1]
  rw [hu] at this
  exact (Option.some.inj this).symm
 have e4:ws.toArray[j]=w:=by
  have:ws[j]?=some ws.toArray[j]:=by simp [show j < ws.length by simpa using h2]
  rw [hw] at this
  exact (Option.some.inj this).symm
 rw [e3,e4]
 have e5:(xs[j]?).getD .non=xs[j]:=by simp [h1']
 have e6:(ys[j]?).getD .non=ys[j]:=by simp [h2']
 rw [e5,e6]
 exact eqAt_V ru rw' (List.all_eq_true.mp fx _ (List.getElem_mem h1')) (List.all_eq_true.mp fy _ (List.getElem_mem h2'))
theorem op_eqL (hu:X.A.units < cLine):OpR X (compareOp .Eq) (rEqL X.K false):=by
 intro pins s σ H x y v u Q I rx ry h
 obtain ⟨p,q,xs,ys,rfl,rfl,hp,hq,fx,fy,k⟩:=h
 cases rx
 cases ry
 obtain ⟨its,r,pl,_⟩:=I.list hp
 obtain ⟨its2,r2,pl2,_⟩:=I.list hq
 have e1:=r.length
 have e2:=r2.length
 by_cases hl:xs.length=ys.length
 ·refine SeqAt.eq_listAt pl.isList pl2.isList (by simp;omega) hu (qgp r r2 hl fx fy) ⟨.bl _,H,I,rfl,?_⟩
  rw [List.size_toArray,← e1,← qg6 hl]
  exact k
 ·refine SeqAt.eq_list_lengthsAt pl.isList pl2.isList (by simp;omega) hu ⟨.bl false,H,I,rfl,?_⟩
  have:eqLs xs ys=false:=Bool.eq_false_iff.mpr fun z=>hl (qjo z)
  rw [this] at k
  exact k
theorem op_neL (hu:X.A.units < cLine):OpR X (compareOp .NotEq) (rEqL X.K true):=by
 intro pins s σ H x y v u Q I rx ry h
 obtain ⟨p,q,xs,ys,rfl,rfl,hp,hq,fx,fy,k⟩:=h
 cases rx
 cases ry
 obtain ⟨its,r,pl,_⟩:=I.list hp
 obtain ⟨its2,r2,pl2,_⟩:=I.list hq
 have e1:=r.length
 have e2:=r2.length
 by_cases hl:xs.length=ys.length
 ·refine SeqAt.RcNeAt.lists pl.isList pl2.isList (by simp;omega) hu (qgp r r2 hl fx fy) _ _ _ _ ⟨.bl _,H,I,rfl,?_⟩
  rw [List.size_toArray,← e1,← qg6 hl]
  exact k
 ·refine SeqAt.RcNeAt.lists_lengths pl.isList pl2.isList (by simp;omega) hu _ _ _ _ ⟨.bl true,H,I,rfl,?_⟩
  have:eqLs xs ys=false:=Bool.eq_false_iff.mpr fun z=>hl (qjo z)
  rw [this] at k
  exact k
def gLst (K:PySem.W.Frag) (n:Nat) (t:TGs):TG:=fun v σ H Q=>∃ a xs,v=.ref a∧SqL K H a xs∧xs.length=n∧t xs σ H Q
theorem qkc {es:List Expr}{k:Nat}{t:TGs}{n:Nat}{pos:Pos} (hc:X.calm=true) (h:PGs X es t)
  (hn:(assignEach es X.env).length=n:=by rfl) (hst:(assignEach es X.env).findIdx? (·.1)=none:=by rfl):PG X (.Tuple es k pos) (gLst X.K n t):=by
 intro pins s σ H v u Q I r hw
 obtain ⟨a,xs,e1,hq,hl,hw⟩:=hw
 subst e1
 cases r
 obtain ⟨its,rv,ht,hz⟩:=I.list hq
 rw [assign_Tuple]
 refine wpAny_bind (wpAny_standAt ?_)
 unfold unpack
 have hsz:(assignEach es X.env).length=its.toArray.size:=by simp [hn,← hl,rv.length]
 rw [hsz,hst]
 refine wpAny_bind (wpAny_holding (PySem.W.kun_itemsOf (I.ok.hd hc) ht.isList fun h' hx=>?_))
 have I1:Inv X pins σ H { s with heap:=h' }:=I.kept (t':=s.toks) fun b o e=>hx b o (Nat.ne_of_lt (Heap.lt_size e)) e
 exact h pins _ σ H xs _ Q I1 (by simpa using rv) hw
def PJ (X:Cx) (es:List Expr) (t:St→Hp→(Hp→Prop)→Prop):Prop:=∀ (pins:List (Addr×Obj)) (s:Shared) (σ:St) (H:Hp) (acc:Str) (n:Nat) (Q:Hp→Prop),Inv X pins σ H s→acc.length≤2000 * n→n+es.length≤100→t σ H Q →
 Joins (model X.prog X.w) X.A X.xe (evalEach es X.env) acc (fun out s1=>out.length≤sizeLine∧∃ H',Inv X pins σ H' s1∧Q H') s
def jNil:St→Hp→(Hp→Prop)→Prop:=fun _ H Q=>Q H
def jRep (te:TE) (t:St→Hp→(Hp→Prop)→Prop):St→Hp→(Hp→Prop)→Prop:=fun σ H Q=>te σ H fun v H1=>(∃ x,v=.str x∧Nm x)∧t σ H1 Q
theorem qkb:PJ X [] jNil:=fun pins s σ H acc n Q I h1 h2 h=>⟨Nat.le_trans h1 (Nat.le_trans (Nat.mul_le_mul_left 2000 (show n≤100 by simpa using h2)) (by decide)),H,I,h⟩
theorem qe4 (a b:Str):(a++b).length=a.length+b.length:=strLen_append a b
theorem qka {c:Str}{j pos}{es:List Expr}{t:St→Hp→(Hp→Prop)→Prop} (hr:PJ X es t) (hl:c.length≤2000:=by decide):PJ X (.Constant (.str c) j pos::es) t:=by
 intro pins s σ H acc n Q I h1 h2 h
 have h2:n+(es.length+1)≤100:=h2
 refine Calls.Constant_str ⟨c,s.toks,rfl,?_,hr pins _ σ H (acc++c) (n+1) Q (I.tok _) ?_ (by omega) h⟩
 ·rw [qe4]
  exact Nat.le_trans (show acc.length+c.length≤2000 * 101 by omega) (by decide)
 ·rw [qe4]
  omega
theorem qih {e:Expr}{pos:Pos}{es:List Expr}{te:TE}{t:St→Hp→(Hp→Prop)→Prop} (he:PE X e te) (hr:PJ X es t):PJ X (.FormattedValue e 114 none pos::es) (jRep te t):=by
 intro pins s σ H acc n Q I h1 h2 h
 have h2:n+(es.length+1)≤100:=h2
 refine wpAny_FormattedValue_repr (thn (he pins s σ H _ I h) fun v s1 ⟨y,H1,I1,r1,⟨x,e1,nm⟩,q1⟩=>?_)
 subst e1
 obtain ⟨tk,rfl⟩:=r1
 have hlen:(PySem.reprText x).length≤1002:=Nat.le_trans (PySem.StrLaws.reprText_len x nm.2) (by have:=nm.1;omega)
 have hsz:(PySem.reprText x).length≤sizeLine:=Nat.le_trans hlen (by decide)
 have fin:∀ tk s2,Inv X pins σ H1 s2→∃ y t',Value.str (PySem.reprText x) tk=.str y t'∧(acc++y).length≤sizeLine∧Joins (model X.prog X.w) X.A X.xe (evalEach es X.env) (acc++y) (fun out s1=>out.length≤sizeLine∧∃ H',Inv X pins σ H' s1∧Q H') s2:=fun tk s2 I2=>by
  refine ⟨_,tk,rfl,?_,hr pins s2 σ H1 _ (n+1) Q I2 ?_ (by omega) q1⟩
  ·rw [qe4]
   exact Nat.le_trans (show acc.length+(PySem.reprText x).length≤2000 * 101 by omega) (by decide)
  ·rw [qe4]
   omega
 refine wpAny_pyReprObj_str ?_ hsz
 exact wpAny_formatField_str (fin _ _ (I1.tok _)) (fin _ _ ((I1.tok _).tok _)) hsz
def tFs (t:St→Hp→(Hp→Prop)→Prop):TE:=fun σ H Q=>t σ H fun H1=>∀ x,Q (.str x) H1
theorem pe_fs {v₁ v₂:Expr}{rest:List Expr}{pos:Pos}{t:St→Hp→(Hp→Prop)→Prop} (h:PJ X (v₁::v₂::rest) t) (hl:(v₁::v₂::rest).length≤100:=by decide):PE X (.JoinedStr (v₁::v₂::rest) pos) (tFs t):=by
 intro pins s σ H Q I hq
 refine wpAny_JoinedStr ?_
 have:=h pins s σ H Str.empty 0 (fun H1=>∀ x,Q (.str x) H1) I (Nat.zero_le _) (by omega) hq
 revert this
 generalize evalEach (v₁::v₂::rest) X.env=parts
 generalize Str.empty=acc
 intro this
 clear h hl hq I
 induction parts generalizing acc s with
 | nil =>
  obtain ⟨z,H',I',q⟩:=this
  exact ⟨z,.str acc,H',I'.tok _,⟨_,rfl⟩,q acc⟩
 | cons p ps ih =>
  refine wpAny_mono this (fun v s1 ⟨y,t,e,z,k⟩=>⟨y,t,e,z,ih _ _ k⟩) fun _ _ z=>z
end
end L2
namespace L2
open PySem PySem.Spec PyProof.Rows
def Fn (P:Program) (w:World) (K:PySem.W.Frag) (mg:Str→Option Value) (base:Heap) (x:Str) (k:Nat) (ps:List Str) (sp:Sp):Prop :=
 ∃ f fd,FnOk P w K mg base (CXo P w) k f fd ps sp∧mg x=some (.ref f)∧PySem.W.keepIn K (.ref f)=true∧Binds K fd ps []
def Mt (P:Program) (w:World) (K:PySem.W.Frag) (mg:Str→Option Value) (base:Heap) (C:Addr) (m:Str) (k:Nat) (ps:List Str) (sp:Sp):Prop :=
 ∃ f fd,FnOk P w K mg base (CXo P w) k f fd ps sp∧Meth K C m f∧Cls K C∧Binds K fd ps []
def MkB (P:Program) (w:World) (K:PySem.W.Frag) (mg:Str→Option Value) (base:Heap) (x:Str) (C:Addr) (k:Nat) (ps:List Str) (sp:Sp):Prop :=
 ∃ f fd,FnOk P w K mg base (CXo P w) k f fd ps sp∧mg x=some (.ref C)∧Mk K C f∧Binds K fd ps []
section
variable {X:Cx}{k:Nat}{C:Addr}{ps:List Str}{sp:Sp}{E:XK}{x m:Str}{p pos apos:Pos}{e o:Expr}{es:List Expr}{ta:TE}{t:TA}
theorem qa1 (F:Fn X.prog X.w X.K X.mg X.base x k ps sp) (hr:Room k X.A) (hg:Gl X x) (hx:qew (CXo X.prog X.w) X E) (ha:PA X (e::es) t) (hdb:(x == ("__debug__":Str))=false:=by decide)
  (he:starEach (e::es) X.env=(false,eval e X.env)::starEach es X.env:=by rfl) (hpl:(backTo pos (starEach es X.env)).any (·.1)=false:=by rfl):PE X (.Call (.Name x p) (e::es) [] pos) (qej sp [] E t):=by
 obtain ⟨f,fd,F,hm,hk,hb⟩:=F
 exact pe_call F hr hg hm hk hb .nil hx ha hdb he hpl
theorem pex_fn (F:Fn X.prog X.w X.K X.mg X.base x k ps sp) (hr:Room k X.A) (hg:Gl X x) (ha:PA X.nox (e::es) t) (hdb:(x == ("__debug__":Str))=false:=by decide)
  (he:starEach (e::es) X.env=(false,eval e X.env)::starEach es X.env:=by rfl) (hpl:(backTo pos (starEach es X.env)).any (·.1)=false:=by rfl):PEx X (.Call (.Name x p) (e::es) [] pos) (fun E=>qej sp [] E t):=by
 obtain ⟨f,fd,F,hm,hk,hb⟩:=F
 exact pex_call F hr hg hm hk hb .nil ha hdb he hpl
theorem qdh {pl:Sem Bool} (he:PE X o ta) (M:Mt X.prog X.w X.K X.mg X.base C m k ps sp) (hr:Room k X.A) (hx:qew (CXo X.prog X.w) X E) (ha:PA X (e::es) t)
  (hst:starEach (e::es) X.env=(false,eval e X.env)::starEach es X.env:=by rfl) (hpl:(backTo pos (starEach es X.env)).any (·.1)=false:=by rfl)
  (ht:eval (.Call (.Attribute o m apos) (e::es) [] pos) X.env=(do
   let ov ← eval o X.env
   standAt apos.atName
   let (f,first) ← holding [ov] (getMethod ov m pl)
   callWith pos f first (backTo pos (starEach (e::es) X.env)) (backToKw pos (keywordEach [] X.env))):=by rfl):PE X (.Call (.Attribute o m apos) (e::es) [] pos) (tMeth C m sp [] E ta t):=by
 obtain ⟨f,fd,F,hm,c,hb⟩:=M
 exact pe_meth (pl:=pl) he c hm F hr hb .nil hx ha hst hpl ht
theorem qhk {pl:Sem Bool} (he:PE X o ta) (M:Mt X.prog X.w X.K X.mg X.base C m k ps sp) (hr:Room k X.A) (hx:qew (CXo X.prog X.w) X E)
  (ht:eval (.Call (.Attribute o m apos) [] [] pos) X.env=(do
   let ov ← eval o X.env
   standAt apos.atName
   let (f,first) ← holding [ov] (getMethod ov m pl)
   callWith pos f first (backTo pos (starEach [] X.env)) (backToKw pos (keywordEach [] X.env))):=by rfl):PE X (.Call (.Attribute o m apos) [] [] pos) (tMeth C m sp [] E ta tNil):=by
 obtain ⟨f,fd,F,hm,c,hb⟩:=M
 exact pe_meth0 (pl:=pl) he c hm F hr hb .nil hx ht
theorem pe_mk0 (M:MkB X.prog X.w X.K X.mg X.base x C k ps sp) (hr:Room (k+1) X.A) (hg:Gl X x) (hx:qew (CXo X.prog X.w) X E) (hdb:(x == ("__debug__":Str))=false:=by decide):PE X (.Call (.Name x p) [] [] pos) (tMake C sp [] E tNil):=by
 obtain ⟨f,fd,F,hm,mk,hb⟩:=M
 exact pe_make0 mk F hr hg hm hb .nil hx hdb
def rCatR:R2:=fun x y H Q=>∃ l b xs zs,x=.ref l∧y=.ref b∧Rd H l (.lst xs)∧Rd H b (.lst zs)∧xs.length+zs.length≤sizeLine∧∀ p,H p=none→Q (.ref p) (upd H p (.lst (xs++zs)))
theorem qep:OpR X (binaryOp .Add) rCatR:=by
 intro pins s σ H x y v u Q I rx ry h
 obtain ⟨l,b,xs,zs,rfl,rfl,hH,hB,hz,q⟩:=h
 cases rx
 cases ry
 obtain ⟨z,its,n,r,e⟩:=hH.ok I.hok
 obtain ⟨z2,its2,n2,r2,e2⟩:=hB.ok I.hok
 have l1:=r.length
 have l2:=r2.length
 refine PySem.P.add_list e e2 ?_ (by rw [List.size_toArray,List.size_toArray];omega)
 have ea:its.toArray++its2.toArray=(its++its2).toArray:=by simp
 rw [ea]
 exact ⟨.ref _,_,I.lnew (t':=s.toks) (r.append r2) (by rw [List.length_append];omega),rfl,q _ I.fresh⟩
theorem qdq:OpR X (binaryOp .FloorDiv) (rI (fun _ j=>0 < j∧j.natAbs.log2 < 9000) fun i j=>.int (i / j)):=opI fun i j _ _ _ _ _ hc q=>by
 have h1:(0:Int) < j:=hc.1
 exact floordiv_int (by omega) (by rw [Int.fdiv_eq_ediv_of_nonneg i (by omega)];exact q) (.inl (PyProof.noPylong_of_log2 hc.2))
end
section
variable {P:Program}{w:World}{K:PySem.W.Frag}{mg:Str→Option Value}{base:Heap}
theorem Fun.okN {x qual:Str}{st:Stmt}{f:Addr}{fd:FuncData}{N ps:List Str}{k:Nat}{sp:Sp} (F:Fun K x qual st f fd) (S:FnScope N ps (qaj st)) (len:∀ vs H Q E,sp vs H Q E→vs.length=ps.length)
  (hbody:∀ (cdv:Value) (A:Around) (outer:List Env) (s:Shared) (H:Hp) (vs:List V) (Q:VK) (E:XK),Room k (A.deeper (envOfC qual (qaj st) s.heap.objs.size f cdv))→sp vs H Q E →
   ∃ t,PSs (cxOf (CXo P w) P w K mg base N qual (qaj st) f cdv A outer s H E).nox (qao st) t∧t { nx:=fun _ H'=>Q .non H',rt:=Q } (start N vs) H):FnOk P w K mg base (CXo P w) (k+1) f fd ps sp:=by
 obtain ⟨oc,od,kV,doc,pm,an,cdv,ct,osl,rfl,lk,hcd⟩:=F.ex
 refine fn_of lk hcd S len fun A outer s H vs Q E hr hsp=>?_
 obtain ⟨t,h,q⟩:=hbody cdv A outer s H vs Q E hr hsp
 exact ⟨t,h.nox,q⟩
theorem Fun.okX {x qual:Str}{st:Stmt}{f:Addr}{fd:FuncData}{N ps:List Str}{k:Nat}{sp:Sp} (F:Fun K x qual st f fd) (S:FnScope N ps (qaj st)) (len:∀ vs H Q E,sp vs H Q E→vs.length=ps.length)
  (hbody:∀ (cdv:Value) (A:Around) (outer:List Env) (s:Shared) (H:Hp) (vs:List V) (Q:VK) (E:XK),Room k (A.deeper (envOfC qual (qaj st) s.heap.objs.size f cdv))→sp vs H Q E →
   ∃ t,PSs (cxOf (CXo P w) P w K mg base N qual (qaj st) f cdv A outer s H E) (qao st) t∧t { nx:=fun _ H'=>Q .non H',rt:=Q } (start N vs) H):FnOk P w K mg base (CXo P w) (k+1) f fd ps sp:=by
 obtain ⟨oc,od,kV,doc,pm,an,cdv,ct,osl,rfl,lk,hcd⟩:=F.ex
 exact fn_of lk hcd S len fun A outer s H vs Q E hr hsp=>hbody cdv A outer s H vs Q E hr hsp
end
theorem qe8 {J:It}{tc:TT}{te:TE}{cap:St}{D:Addr}{Q:VK}{H1:Hp} (n:Nat) (R:Nat→List V→Hp→Prop) (h0:R 0 [] (upd H1 D (.lst []))) (hn:n≤sizeLine) (hD:∀ i ys H,R i ys H→H D=some (.lst ys))
  (hgo:∀ i ys H,i < n→R i ys H→J.go i H)
  (hstep:∀ i ys H x H',i < n→R i ys H→J.yld i H x H'→∀ (Kt:VK) (Kf:Hp→Prop),(∀ v H5,H5 D=some (.lst ys)→R (i+1) (ys++[v]) (upd H5 D (.lst (ys++[v])))→Kt v H5)→(∀ H4,R (i+1) ys H4→Kf H4) →
   tc (some x::cap) H' fun b H4=>if b=true then te (some x::cap) H4 Kt else Kf H4)
  (hend:∀ ys H,ys.length≤n→R n ys H→J.stop n H∧Q (.ref D) H) :
  CompB J tc te cap D H1 Q:=by
 refine ⟨fun i m ys H=>i≤n∧m=n - i∧ys.length≤i∧R i ys H,⟨n,Nat.zero_le _,by simp,Nat.zero_le _,h0⟩,?_⟩
 rintro i m ys H2 ⟨hi,rfl,hl,r⟩
 by_cases hlt:i < n
 ·refine .inr ⟨hgo i ys H2 hlt r,fun x H3 y=>hstep i ys H2 x H3 hlt r y _ _ (fun v H5 e r'=>⟨e,by omega,n - (i+1),by omega,hlt,rfl,by rw [List.length_append];simp;omega,r'⟩) fun H4 r'=>⟨n - (i+1),by omega,hlt,rfl,by omega,r'⟩⟩
 ·have e:i=n:=by omega
  subst e
  obtain ⟨h1,h2⟩:=hend ys H2 hl r
  exact .inl ⟨h1,hD i ys H2 r,h2⟩
theorem qei:bootBuiltins "len"=some (.builtin "len"):=by decide +kernel
theorem qa8:bootBuiltins "isinstance"=some (.builtin "isinstance"):=by decide +kernel
theorem qbr:bootBuiltins "sorted"=some (.builtin "sorted"):=by decide +kernel
theorem bt_abs:bootBuiltins "abs"=some (.builtin "abs"):=by decide +kernel
theorem bt_all:bootBuiltins "all"=some (.builtin "all"):=by decide +kernel
theorem qgd:bootBuiltins "int"=some (.type "int"):=by decide +kernel
theorem qjt:bootBuiltins "ValueError"=some (.type "ValueError"):=by decide +kernel
end L2
namespace L2
open PySem PySem.Spec PyProof.Rows
section
variable {prog:Program}{w:World}{A:Around}{R:Result→Shared→Prop}{s:Shared}
theorem comp_tests {elt target iter:Expr}{ifs:List Expr}{scope:Scope}{pos:Pos}{it acc:Value}{env:Env} (I:Nat→Shared→Prop)
  (turn:∀ n s,I n s→wpAny (model prog w) A (pyNext it) (fun r s₁=>match r with
   | none=>R (.ok .next) s₁
   | some v=>wpAny (model prog w) A (letOwnedTupleGo target it v) (fun _ s₀=>wpAny (model prog w) A (assign target env v) (fun _ s₂ =>
     wpAny (model prog w) A (forIn ifs true fun c r=>if r=true then do let ok ← isTrue c env (eval c env);pure (ForInStep.yield ok) else pure (ForInStep.yield r)) (fun ok s₃ =>
      if ok=true then wpAny (model prog w) A (eval elt env) (fun x s₄ =>
       wpAny (model prog w) A (call (.builtin "list.append") [acc,x]) (fun _ s₅=>∃ m,m < n∧I m s₅) (notedBy (model prog w) A env fun e s'=>R (.error e) s') s₄) (notedBy (model prog w) A env fun e s'=>R (.error e) s') s₃
      else ∃ m,m < n∧I m s₃) (notedBy (model prog w) A env fun e s'=>R (.error e) s') s₂) (notedBy (model prog w) A env fun e s'=>R (.error e) s') s₀) (notedBy (model prog w) A env fun e s'=>R (.error e) s') s₁) (notedBy (model prog w) A env fun e s'=>R (.error e) s') s)
  (n:Nat) (h:I n s) :
  codeAny (model prog w) A (.compLoop (.ListComp elt [⟨target,iter,ifs,0⟩] scope pos) 0 it acc env) R s:=by
 refine codeAny_loop rfl I (fun n s hI=>?_) n h
 show wpAny _ A ((compTurn (.ListComp elt [⟨target,iter,ifs,0⟩] scope pos) 0 it acc env).onRaise (fun x=>do noteFrame x env;theTreesLotGoes x)) _ _ s
 refine wpAny_noted ?_
 rw [compTurn_list]
 refine wpAny_bind (wpAny_standAt (wpAny_bind (wpAny_mono (turn n s hI) (fun r s₁ h₁=>?_) fun _ _ h'=>h')))
 cases r with
 | none=>exact wpAny_pure h₁
 | some v =>
  refine wpAny_bind (wpAny_mono h₁ (fun _ s₀ h₀=>?_) fun _ _ h'=>h')
  refine wpAny_bind (wpAny_mono h₀ (fun _ s₂ h₂=>wpAny_bind (wpAny_mono h₂ (fun ok s₃ h₃=>?_) fun _ _ h'=>h')) fun _ _ h'=>h')
  cases ok with
  | false=>exact wpAny_pure ⟨rfl,h₃⟩
  | true =>
   exact wpAny_bind (wpAny_bind (wpAny_mono h₃ (fun x s₄ h₄=>wpAny_bind (wpAny_mono h₄ (fun _ s₅ h₅=>wpAny_pure (wpAny_pure ⟨rfl,h₅⟩)) fun _ _ h'=>h')) fun _ _ h'=>h'))
end
structure CompOkG (N:List Str) (esc:Scope) (scope:Scope) (xs fr:List Str) (ix:List Nat):Prop where
 kind:scope.kind=.function
 cell:∀ y∈scope.names,y.2≠.cell
 nm:∀ y∈scope.names,y.2=.local→scope.names.lookup y.1=some .local
 free:∀ y∈scope.names,y.2=.free→esc.names.lookup y.1=some .cell
 nd:(xs++fr).Nodup
 idx:∀ p∈fr.zip ix,N[p.2]?=some p.1
 frs:∀ y∈fr,scope.names.lookup y=some .free∧esc.names.lookup y=some .cell
 len:ix.length=fr.length
def CompBG (J:It) (gt:TG) (k:Nat) (tc:TT) (te:TE) (cap:St) (D:Addr) (H1:Hp) (Q:VK):Prop :=
 ∃ Pv:Nat→Nat→List V→St→Hp→Prop,(∃ m,Pv 0 m [] (List.replicate k none++cap) (upd H1 D (.lst [])))∧∀ i m ys σ2 H2,Pv i m ys σ2 H2 →
  (J.stop i H2∧H2 D=some (.lst ys)∧Q (.ref D) H2)∨(J.go i H2∧∀ x H3,J.yld i H2 x H3→gt x σ2 H3 fun σ3 H3'=>tc σ3 H3' fun b H4=>if b=true then
   te σ3 H4 fun v H5=>H5 D=some (.lst ys)∧ys.length < sizeLine∧∃ m',m' < m∧Pv (i+1) m' (ys++[v]) σ3 (upd H5 D (.lst (ys++[v])))
   else ∃ m',m' < m∧Pv (i+1) m' ys σ3 H4)
def tCompG (wi:TI) (ix:List Nat) (gt:TG) (k:Nat) (tc:TT) (te:TE):TE:=fun σ H Q=>wi σ H fun J H1=>∀ D,H1 D=none→CompBG J gt k tc te (capt ix σ) D H1 Q
section
variable {X:Cx}{elt iter tg:Expr}{ifs:List Expr}{pos:Pos}{scope:Scope}{wi:TI}{tc:TT}{te:TE}{gt:TG}{xs fr:List Str}{ix:List Nat}
theorem comp_coreG {PR:Value→Addr→Result→Shared→Prop}{pins:List (Addr×Obj)}{σ:St}{H2:Hp}{s2:Shared}{it:Addr}{fp:List Addr}{tn:Nat→Heap→Prop}{J:It}{Q:VK} (hc:X.calm=true) (S:CompOkG X.N X.env.scope scope xs fr ix)
  (hg:∀ cl C s₃ H₃ fp,PG (blk X scope cl C (xs++fr) s₃ H₃ fp) tg gt) (ht:∀ cl C s₃ H₃ fp,PIfs (blk X scope cl C (xs++fr) s₃ H₃ fp) ifs tc) (he:∀ cl C s₃ H₃ fp,PE (blk X scope cl C (xs++fr) s₃ H₃ fp) elt te)
  (hcells:∀ y∈scope.names,y.2=.free→∃ c,X.env.cells.lookup y.1=some c)
  (I2:Inv X pins σ H2 s2) (T:Turn X.prog X.w X.K tg J fp it tn) (st2:tn 0 s2.heap) (f2:∀ b∈fp,FpOk X pins H2 b) (q2:∀ D,H2 D=none→CompBG J gt xs.length tc te (capt ix σ) D H2 Q)
  (hfin:∀ D C H' s',Inv X pins σ H' s'→H' C=none→BlkAt X pins C→(∃ m,s'.heap.Ns C m)→Q (.ref D) H'→PR (.ref D) C (.ok .next) s') :
  wpAny (model X.prog X.w) X.A (newList []) (fun acc s₃=>wpAny (model X.prog X.w) X.A (newFunctionEnv scope X.env.globals (qeh X.env.cells scope.names []) [] X.env.qual none .none (some X.env)) (fun cenv s₄ =>
   codeAny (model X.prog X.w) X.A (.compStart (.ListComp elt [⟨tg,iter,ifs,0⟩] scope pos) 0 (.ref it) acc { cenv with scope:=relabel scope X.env }) (PR acc cenv.locals) s₄) X.xe s₃) X.xe s2:=by
 refine wpAny_newObj_type ?_
 have hD:H2 s2.heap.objs.size=none:=I2.hok.fresh (Nat.le_refl _)
 have I3:Inv X pins σ (upd H2 s2.heap.objs.size (.lst [])) { s2 with heap:=s2.heap.push { cls:=.type "list",dict:=none,data:=.seq ([]:List Value).toArray } } :=
  I2.lnew (its:=[]) (t':=s2.toks) (.nil) (Nat.zero_le _)
 obtain ⟨Pv,⟨m0,p0⟩,turn⟩:=q2 s2.heap.objs.size hD
 generalize hD':s2.heap.objs.size=D at *
 generalize hs3:({ s2 with heap:=s2.heap.push { cls:=.type "list",dict:=none,data:=.seq ([]:List Value).toArray } }:Shared)=s3 at *
 have hk23:∀ b o,s2.heap.get? b=some o→s3.heap.get? b=some o:=fun b o e=>by rw [← hs3];exact Heap.get?_push_of_some _ e
 have hH3:∀ b,b≠D→(upd H2 D (.lst [])) b=H2 b:=fun b hb=>qag hb
 have f3:∀ b∈fp,FpOk X pins (upd H2 D (.lst [])) b∧b < s3.heap.objs.size:=fun b hb=>by
  obtain ⟨o,e,_⟩:=T.obj _ _ st2 b hb
  have hlt:=Heap.lt_size e
  refine ⟨⟨?_,(f2 b hb).2⟩,Heap.lt_size (hk23 b o e)⟩
  rw [hH3 b (by rw [← hD'];exact Nat.ne_of_lt hlt)]
  exact (f2 b hb).1
 have st3:tn 0 s3.heap:=T.keep _ _ _ st2 fun b hb o e=>hk23 b o e
 refine wpAny_newFunctionEnv S.cell (by intro y hy;simp at hy) (fun h4 hns4 hsb4=>?_) S.kind
 generalize hC:s3.heap.objs.size=C at *
 let X':Cx:=blk X scope (qeh X.env.cells scope.names []) C (xs++fr) s3 (upd H2 D (.lst [])) fp
 have clof:∀ y c,(qeh X.env.cells scope.names []).lookup y=some c→X.env.cells.lookup y=some c:=fun y c e=>qjr scope.names [] hcells (fun z d hz=>by simp at hz) e
 have clhas:∀ y,(y,NameKind.free)∈scope.names→∃ c,(qeh X.env.cells scope.names []).lookup y=some c:=fun y hy=>Option.isSome_iff_exists.mp (qh0 scope.names [] hy)
 have k34:∀ b o,s3.heap.get? b=some o→h4.get? b=some o:=fun b o e=>hsb4.extBut b o (by rw [← hC];exact Nat.ne_of_lt (Heap.lt_size e)) (Heap.get?_push_of_some _ e)
 have relfree:∀ (l:List (Str×NameKind)) y k,(l.map fun (n,k)=>if (k == NameKind.free && X.env.scope.kind == .function && X.env.kindOf n == some .cell) then (n,NameKind.cell) else (n,k)).lookup y=some k→(k=.cell∨k=.free) →
   (∀ z∈l,z.2≠.cell)→(y,NameKind.free)∈l:=by
  intro l
  induction l with
  | nil=>intro y k e _ _;simp at e
  | cons z r ih =>
   intro y k e hk hn
   obtain ⟨n,kz⟩:=z
   rw [List.map_cons] at e
   by_cases hy:y=n
   ·subst hy
    have:kz=.free:=by
     by_cases hkz:kz=.free
     ·exact hkz
     ·exfalso
      have hb:(kz == NameKind.free)=false:=by simpa using hkz
      simp only [hb,Bool.false_and,Bool.false_eq_true,if_false,List.lookup_cons,beq_self_eq_true] at e
      have e':kz=k:=Option.some.inj e
      rcases hk with z | z
      ·exact hn (y,kz) List.mem_cons_self (e'.trans z)
      ·exact hkz (e'.trans z)
    rw [this]
    exact List.mem_cons_self
   ·have hb:(y == n)=false:=by simpa using hy
    refine List.mem_cons_of_mem _ (ih y k ?_ hk fun z hz=>hn z (List.mem_cons_of_mem _ hz))
    have e:List.lookup y ((if (kz == NameKind.free && X.env.scope.kind == .function && X.env.kindOf n == some .cell)=true then (n,NameKind.cell) else (n,kz))::_)=some k:=e
    by_cases hq:(kz == NameKind.free && X.env.scope.kind == .function && X.env.kindOf n == some .cell)=true
    ·rw [if_pos hq,List.lookup_cons] at e
     simp only [hb] at e
     exact e
    ·rw [if_neg hq,List.lookup_cons] at e
     simp only [hb] at e
     exact e
 have ok':X'.Ok:=by
  refine ⟨I3.ok.mod,S.kind,I3.ok.glob,I3.ok.blt,?_,fun y z c e1 e2=>I3.ok.inj y z c (clof y c e1) (clof z c e2),fun y hy=>?_,fun y c e _=>(by cases e),fun _=>I3.ok.hd hc,I3.ok.frames,.inl rfl,fun b hb=>⟨?_,fun y c e=>(f3 b hb).1.2.2.2.2.1 y c (clof y c e)⟩,I3.bs,Nat.le_trans I3.ok.bsz I3.sz,fun b o e hb=>?_,fun b hb z=>?_,I3.stack,I3.stkFree⟩
  ·show s3.heap.objs.size≤C
   rw [hC]
   exact Nat.le_refl _
  ·rcases hy with hy | hy
   ·exact clhas y (relfree scope.names y _ hy (.inl rfl) S.cell)
   ·exact clhas y (relfree scope.names y _ hy (.inr rfl) S.cell)
  ·exact Nat.ne_of_lt (f3 b hb).2
  ·rcases (f3 b hb).1.2.2.2.1 with z | z
   ·exact I3.ok.noex b o e z
   ·exact absurd (Nat.lt_of_lt_of_le (Heap.lt_size e) (Nat.le_trans I3.ok.bsz z)) (Nat.lt_irrefl _)
  ·rcases List.mem_cons.mp (I3.stkSub b z) with z | z
   ·exact (f3 b hb).1.2.1 z
   ·exact (f3 b hb).1.2.2.1 z
 have capture:∀ {h':Heap}{m:Str→Option Value},(∀ b o,s3.heap.get? b=some o→(∃ v,o.data=.cell v)→h'.get? b=some o)→∀ (k:Nat) (y:Str) (v:V),fr[k]?=some y→(capt ix σ)[k]?=some (some v)→∃ u,RelV v u∧Look X'.env h' m y u:=by
  intro h' m hkc k y v hy hv
  obtain ⟨i,hix,hσ⟩:=qmq hv
  have hzip:(y,i)∈fr.zip ix:=by
   refine List.mem_of_getElem? (i:=k) ?_
   rw [List.getElem?_zip_eq_some]
   exact ⟨hy,hix⟩
  have hN:X.N[i]?=some y:=S.idx (y,i) hzip
  obtain ⟨hfr,hcell⟩:=S.frs y (List.mem_of_getElem? hy)
  obtain ⟨m3,hn3,hl3⟩:=I3.loc
  obtain ⟨u,ru,l⟩:=hl3 i y v hN hσ (.inr (.inl hcell))
  refine ⟨u,ru,?_⟩
  rcases l with ⟨kd,_⟩ | ⟨_,c,ec,ic⟩
  ·have kd:X.env.scope.names.lookup y=some .local:=kd
   rw [hcell] at kd
   cases kd
  ·refine .inr ⟨.inl (qco I3.ok.kind hfr hcell),c,?_,?_⟩
   ·obtain ⟨c',e'⟩:=clhas y (PySem.mem_of_lookup hfr)
    have:=clof y c' e'
    rw [ec] at this
    cases this
    exact e'
   ·obtain ⟨o,ho,hd⟩:=ic
    exact ⟨o,hkc c o ho ⟨_,hd⟩,hd⟩
 have hNd:X'.N.Nodup:=S.nd
 have lenb:(List.replicate xs.length none++capt ix σ).length=X'.N.length:=by
  show _=(xs++fr).length
  unfold capt
  rw [List.length_append,List.length_append,List.length_replicate,List.length_map,S.len]
 have I4:Inv X' [] (List.replicate xs.length none++capt ix σ) (upd H2 D (.lst [])) { s3 with heap:=h4,toks:=s3.toks+([]:List (Str×Value)).length }:=by
  refine ⟨ok',rfl,I3.bare,Un.kept k34,⟨_,hns4,fun k y v e1 e2 e3=>?_⟩,fun y c e=>?_,?_,fun y c e=>I3.freeC y c (clof y c e),fun p hp=>?_,I3.hok.kept k34,lenb⟩
  ·have e1:(xs++fr)[k]?=some y:=e1
   by_cases hk:k < xs.length
   ·rw [List.getElem?_append_left (by rw [List.length_replicate];exact hk),List.getElem?_replicate,if_pos hk] at e2
    cases e2
   ·have hk:xs.length≤k:=Nat.le_of_not_lt hk
    rw [List.getElem?_append_right hk] at e1
    rw [List.getElem?_append_right (by rw [List.length_replicate];exact hk),List.length_replicate] at e2
    exact capture (fun b o e _=>k34 b o e) (k - xs.length) y v e1 e2
  ·obtain ⟨v,o,ho,hd⟩:=I3.cell y c (clof y c e)
   exact ⟨v,o,k34 c o ho,hd⟩
  ·exact I3.hok.fresh (by show s3.heap.objs.size≤C;rw [hC];exact Nat.le_refl _)
  ·exact absurd (show p∈([]:List (Addr×Obj)) from hp) (by simp)
 have stat:∀ {H':Hp}{b:Addr},b∈fp→H' b=none→FpOk X' [] H' b:=fun {H' b} hb hn=>by
  refine ⟨hn,?_,?_,.inl hb,fun y c e=>(f3 b hb).1.2.2.2.2.1 y c (clof y c e),fun p hp=>absurd (show p∈([]:List (Addr×Obj)) from hp) (by simp)⟩
  ·exact Nat.ne_of_lt (f3 b hb).2
  ·intro z
   rcases List.mem_cons.mp (I3.stkSub b z) with z | z
   ·exact (f3 b hb).1.2.1 z
   ·exact (f3 b hb).1.2.2.1 z
 have hch:∀ b∈fp,(b∈X.ex∨X.s₀.heap.objs.size≤b)∧b≠X.env.locals∧(∀ y c,X.env.cells.lookup y=some c→c≠b)∧∀ p∈X.pn++pins,p.1≠b:=fun b hb =>
  ⟨(f3 b hb).1.2.2.2.1,(f3 b hb).1.2.1,(f3 b hb).1.2.2.2.2.1,(f3 b hb).1.2.2.2.2.2⟩
 have fin:∀ {σ':St}{H':Hp}{s':Shared},Inv X' [] σ' H' s'→Q (.ref D) H'→PR (.ref D) C (.ok .next) s':=fun {σ' H' s'} I' q'=>by
  obtain ⟨m',hn',_⟩:=I'.loc
  have J:=I3.call' (s':=s') (ch:=fp) I'.os I'.base I'.hok I'.bare hch
  refine hfin D C H' s' J I'.free ⟨?_,?_,fun y c e=>?_,fun p hp=>?_⟩ ⟨m',hn'⟩ q'
  ·rw [← hC];exact Nat.ne_of_gt I3.lt
  ·rw [← hC];exact I3.sz
  ·obtain ⟨v,z⟩:=I3.cell y c e
   rw [← hC];exact Nat.ne_of_lt z.lt
  ·rw [← hC];exact Nat.ne_of_lt (Heap.lt_size (I3.pin p hp).1)
 have loop:codeAny (model X.prog X.w) X.A (.compLoop (.ListComp elt [⟨tg,iter,ifs,0⟩] scope pos) 0 (.ref it) (.ref D) X'.env) (PR (.ref D) C) { s3 with heap:=h4,toks:=s3.toks+([]:List (Str×Value)).length }:=by
  refine comp_tests (fun n s'=>∃ i ys σ5 H',Inv X' [] σ5 H' s'∧tn i s'.heap∧(∀ b∈fp,H' b=none)∧Pv i n ys σ5 H') ?_ m0 ⟨0,[],_,_,I4,T.keep _ _ _ st3 fun b hb o e=>k34 b o e,fun b hb=>(f3 b hb).1.1,p0⟩
  rintro n s5 ⟨i,ys,σ5,H5,I5,st5,fr5,p5⟩
  rcases turn i n ys σ5 H5 p5 with ⟨stop,hd5,qn⟩ | ⟨go,step⟩
  ·refine wpAny_mono (T.done X' rfl rfl rfl rfl i [] s5 _ H5 (fun _ _=>False) I5 (fun b hb=>stat hb (fr5 b hb)) st5 stop) (fun r s6 ⟨hr,I6⟩=>?_) fun _ _ z=>False.elim z
   subst hr
   exact fin I6 qn
  ·refine wpAny_mono (T.item X' rfl rfl rfl rfl i [] s5 _ H5 (fun _ _=>False) I5 (fun b hb=>stat hb (fr5 b hb)) st5 go) (fun r s6 ⟨u,hr,h6⟩=>?_) fun _ _ z=>False.elim z
   subst hr
   dsimp only
   refine wpAny_mono h6 (fun _ s6' h6'=>?_) fun _ _ z=>False.elim z
   obtain ⟨xv,H6,I6,r6,y6,st6,fr6⟩:=h6'
   have I6':=I6.pinned (fun b hb=>stat hb (fr6 b hb)) (T.obj _ _ st6)
   refine wpAny_mono (hg _ _ _ _ _ _ s6' _ H6 xv u _ I6' r6 (step xv H6 y6)) (fun _ s7 h7=>?_) fun _ _ z=>False.elim z
   obtain ⟨σ7,H7,I7,q7⟩:=h7
   refine wpAny_mono (ht _ _ _ _ _ _ s7 _ H7 _ I7 q7) (fun b s8 ⟨H8,I8,q8⟩=>?_) fun _ _ z=>False.elim z
   have back:∀ {H9:Hp}{s9:Shared}{ys':List V},Inv X' ([]++qii fp s6'.heap) σ7 H9 s9→(∃ m',m' < n∧Pv (i+1) m' ys' σ7 H9) →
     ∃ m,m < n∧∃ i ys σ5 H',Inv X' [] σ5 H' s9∧tn i s9.heap∧(∀ b∈fp,H' b=none)∧Pv i m ys σ5 H':=fun {H9 s9 ys'} I9 h9=>by
    obtain ⟨m',hm,p9⟩:=h9
    refine ⟨m',hm,i+1,ys',_,H9,I9.unpinned,T.keep _ _ _ st6 fun b hb o e=>(I9.pin (b,o) (List.mem_append_right _ (List.mem_append_right _ (qdw hb e)))).1,fun b hb=>?_,p9⟩
    obtain ⟨o,e,d⟩:=T.obj _ _ st6 b hb
    exact (I9.pin (b,o) (List.mem_append_right _ (List.mem_append_right _ (qdw hb e)))).2.1
   cases b with
   | false =>
    rw [if_neg Bool.false_ne_true] at q8 ⊢
    exact back I8 q8
   | true =>
    rw [if_pos rfl] at q8 ⊢
    refine wpAny_mono (he _ _ _ _ _ _ s8 _ H8 _ I8 q8) (fun w9 s9 ⟨v9,H9,I9,r9,hd9,hz9,q9⟩=>?_) fun _ _ z=>False.elim z
    refine wpAny_mono (qf8 (X:=X') _ s9 _ H9 (.ref D) [v9] (.ref D) [w9] (fun _ H'=>H'=upd H9 D (.lst (ys++[v9]))) I9 rfl (.cons r9 .nil) ⟨D,ys,v9,rfl,rfl,hd9,hz9,rfl⟩) (fun _ s10 h10=>?_) fun _ _ z=>False.elim z
    obtain ⟨_,H10,I10,_,rfl⟩:=h10
    exact back I10 q9
 exact codeAny_compStart_list loop (T.self _ 0 _ _ _ (T.keep _ _ _ st3 fun b hb o e=>k34 b o e) loop)
theorem qk8 {i:Nat}{y:Str}{py spos:Pos} (hN:X.N.Nodup) (hiy:X.N[i]?=some y) (hly:X.env.scope.names.lookup y=some .local) (hc:X.calm=true) (S:CompOkG X.N X.env.scope scope xs fr ix) (hi:PI X tg iter wi)
  (hg:∀ cl C s₃ H₃ fp,PG (blk X scope cl C (xs++fr) s₃ H₃ fp) tg gt) (ht:∀ cl C s₃ H₃ fp,PIfs (blk X scope cl C (xs++fr) s₃ H₃ fp) ifs tc) (he:∀ cl C s₃ H₃ fp,PE (blk X scope cl C (xs++fr) s₃ H₃ fp) elt te)
  (hsw:swapsWith (.ListComp elt [⟨tg,iter,ifs,0⟩] scope pos) (some (.Name y py)) spos.line X.env=pure true:=by rfl)
  (hs:∀ v,foldedSetIterable iter X.env v=pure v:=by intro _;rfl):PS X (.Assign [.Name y py] (.ListComp elt [⟨tg,iter,ifs,0⟩] scope pos) spos) (tAsg (tCompG wi ix gt xs.length tc te) (qft i)):=by
 intro pins s σ H D0 I h
 have hcells:∀ y∈scope.names,y.2=.free→∃ c,X.env.cells.lookup y.1=some c:=fun y hy hf=>I.ok.has y.1 (.inl (S.free y hy hf))
 rw [exec_Assign_Name_used _ _ _ _ hsw]
 refine wpAny_bind (wpAny_standAt (wpAny_bind ?_))
 show wpAny _ X.A (do let _ ← comprehension (.ListComp elt [⟨tg,iter,ifs,0⟩] scope pos) scope X.env _ (newList []) false (eval iter X.env) (some (assign (.Name y py) X.env))) _ _ s
 refine wpAny_bind (wpAny_mono (wpAny_comprehension_free (use:=some (assign (.Name y py) X.env)) (Q:=fun _ s'=>SP X pins D0 .next s') rfl hs (qeu hcells) S.kind S.nm
  (thn (hi pins s σ H _ I h) fun v s1 h1=>thn h1 fun itv s2 h2=>?_)) (fun _ s' hq=>wpAny_pure (wpAny_pure hq)) fun _ _ e=>e)
 obtain ⟨it,fp,tn,J,H2,e,I2,T,st2,f2,q2⟩:=h2
 subst e
 refine comp_coreG (PR:=fun acc C r s'=>compPost (model X.prog X.w) X.A X.xe (some (assign (.Name y py) X.env)) (fun _ s'=>SP X pins D0 .next s') acc C r s') hc S hg ht he hcells I2 T st2 f2 q2 fun D C H' s' I' hCn ⟨b1,b2,b3,b4⟩ hns q'=>?_
 obtain ⟨m',hn'⟩:=hns
 refine wpAny_assign_Name (qhb (v:=.ref D) I' hN hiy (.inl hly) rfl (fun s5 I5 sb=>?_) (.inr hly))
 obtain ⟨a5,sb,ha5⟩:=sb
 have hCa:C≠a5:=by
  rcases ha5 with z | z
  ·rw [z];exact b1
  ·exact (b3 _ _ z).symm
 refine ⟨m',hn'.sameBut sb hCa,fun h' hs'=>⟨_,H',?_,q'⟩⟩
 exact I5.turned (t':=s5.toks) (it:=C) (fun b o hb e=>hs'.extBut b o hb e) hCn b1 (.inr b2) b3 b4
end
end L2
namespace L2
open PySem PySem.Spec PyProof.Rows
mutual
/-- the lists on the way are those that W allows -/
inductive Dat (K:PySem.W.Frag) (W:Addr→List V→Prop) (H:Hp):Nat→V→PyData→Prop where
 | int {k:Nat}{i:Int}:Dat K W H k (.int i) (.int i)
 | str {k:Nat}{x:Str} (h:PyData.strOk x=true):Dat K W H k (.str x) (.str x)
 | tup {k:Nat}{p:Addr}{xs:List V}{ds:List PyData} (h:SqT K H p xs) (q:Dats K W H k xs ds):Dat K W H (k+1) (.ref p) (.tuple ds)
 | lst {k:Nat}{p:Addr}{xs:List V}{ds:List PyData} (h:H p=some (.lst xs)) (w:W p xs) (q:Dats K W H k xs ds):Dat K W H (k+1) (.ref p) (.list ds)
inductive Dats (K:PySem.W.Frag) (W:Addr→List V→Prop) (H:Hp):Nat→List V→List PyData→Prop where
 | nil {k:Nat}:Dats K W H k [] []
 | cons {k:Nat}{x:V}{xs:List V}{d:PyData}{ds:List PyData} (h:Dat K W H k x d) (q:Dats K W H k xs ds):Dats K W H k (x::xs) (d::ds)
end
section
variable {K:PySem.W.Frag}{W W':Addr→List V→Prop}{H H':Hp}
mutual
theorem Dat.keep {k:Nat}{v:V}{d:PyData} (s:∀ c xs,H c=some (.lst xs)→W c xs→H' c=some (.lst xs)∧W' c xs) (t:∀ c xs,SqT K H c xs→SqT K H' c xs):Dat K W H k v d→Dat K W' H' k v d
 | .int=>.int
 | .str h=>.str h
 | .tup h q=>.tup (t _ _ h) (q.keep s t)
 | .lst h w q=>.lst (s _ _ h w).1 (s _ _ h w).2 (q.keep s t)
theorem Dats.keep {k:Nat}{v:List V}{d:List PyData} (s:∀ c xs,H c=some (.lst xs)→W c xs→H' c=some (.lst xs)∧W' c xs) (t:∀ c xs,SqT K H c xs→SqT K H' c xs):Dats K W H k v d→Dats K W' H' k v d
 | .nil=>.nil
 | .cons h q=>.cons (h.keep s t) (q.keep s t)
end
mutual
theorem Dat.refl {k:Nat}{v:V}{d:PyData}:Dat K W H k v d→PyData.eqv d d=true
 | .int=>by unfold PyData.eqv;simp
 | .str h=>by unfold PyData.eqv;simp
 | .tup h q=>by unfold PyData.eqv;exact q.refl
 | .lst h w q=>by unfold PyData.eqv;exact q.refl
theorem Dats.refl {k:Nat}{v:List V}{d:List PyData}:Dats K W H k v d→PyData.eqvAll d d=true
 | .nil=>by unfold PyData.eqvAll;rfl
 | .cons h q=>by unfold PyData.eqvAll;rw [h.refl,q.refl];rfl
end
end
section
variable {X:Cx}{W:Addr→List V→Prop}{pins:List (Addr×Obj)}{σ:St}{H:Hp}{sh:Shared}
mutual
theorem Dat.reads (I:Inv X pins σ H sh) {k:Nat}{v:V}{d:PyData}{u:Value}:Dat X.K W H k v d→RelV v u→(∃ as,Reads sh.heap u d as)∧d.canLay0=true∧d.depth≤k
 | .int,ru=>by obtain ⟨t,rfl⟩:=ru;exact ⟨⟨_,.int _ _⟩,rfl,Nat.zero_le _⟩
 | .str h,ru=>by obtain ⟨t,rfl⟩:=ru;exact ⟨⟨_,.str _ _⟩,h,Nat.zero_le _⟩
 | .tup h q,ru=>by
  cases ru
  obtain ⟨its,rv,⟨o,g1,g2,n,g3⟩,_⟩:=I.tuple h
  obtain ⟨⟨as,r1⟩,r2,r3⟩:=Dats.reads I q rv
  exact ⟨⟨_,.tuple g1 g2 g3 r1⟩,by unfold PyData.canLay0;exact r2,by unfold PyData.depth;omega⟩
 | .lst h _ q,ru=>by
  cases ru
  obtain ⟨its,rv,⟨o,n,g1,g2,_,g3⟩,_⟩:=I.list (SqL.of h)
  obtain ⟨⟨as,r1⟩,r2,r3⟩:=Dats.reads I q rv
  exact ⟨⟨_,.list g1 g2 g3 r1⟩,by unfold PyData.canLay0;exact r2,by unfold PyData.depth;omega⟩
theorem Dats.reads (I:Inv X pins σ H sh) {k:Nat}{v:List V}{d:List PyData}{u:List Value}:Dats X.K W H k v d→Vals v u→(∃ as,ReadsAll sh.heap u.toArray.toList d as)∧PyData.canLayAll0 d=true∧PyData.depthAll d≤k
 | .nil,.nil=>⟨⟨_,.nil⟩,rfl,Nat.zero_le _⟩
 | .cons a b,.cons r rs=>by
  obtain ⟨⟨as,r1⟩,r2,r3⟩:=Dat.reads I a r
  obtain ⟨⟨bs,q1⟩,q2,q3⟩:=Dats.reads I b rs
  refine ⟨⟨_,.cons r1 (by simpa using q1)⟩,by unfold PyData.canLayAll0;rw [r2,q2];rfl,?_⟩
  unfold PyData.depthAll
  omega
end
def rNeS (K:PySem.W.Frag):R2:=fun x y H Q=>∃ (W:Addr→List V→Prop) (d:PyData),Dat K W H 5 x d∧Dat K W H 5 y d∧Q (.bl false) H
theorem op_neS (hu:X.A.units+5 < cLine):OpR X (compareOp .NotEq) (rNeS X.K):=by
 intro pins s σ H x y v u Q I rx ry h
 obtain ⟨W,d,r1,r2,k⟩:=h
 obtain ⟨⟨as,a1⟩,a2,a3⟩:=r1.reads I rx
 obtain ⟨⟨bs,b1⟩,b2,b3⟩:=r2.reads I ry
 refine SeqAt.rcNeAt_reads a1 b1 a2 b2 (by omega) _ _ _ _ ⟨.bl _,H,I,rfl,?_⟩
 rw [r1.refl]
 exact k
end
end L2
namespace L2
open PySem PySem.Spec PyProof.Rows
section
variable {X:Cx}
def rDC:List V→Hp→VK→Prop:=fun xs H Q=>∃ a kvs,xs=[.ref a]∧Rd H a (.dK kvs)∧∀ p,H p=none→Q (.ref p) (upd H p (.dK kvs))
theorem qh1:qgy X (.type "dict") rDC:=by
 intro pins s σ H xs us Q I r h
 obtain ⟨a,kvs,rfl,ha,q⟩:=h
 obtain ⟨u,rfl,rx⟩:=qh5 r
 cases rx
 exact d_copyOf I ha fun p s' hp I'=>⟨.ref p,_,I',rfl,q p hp⟩
theorem qh2:bootBuiltins "dict"=some (.type "dict"):=by decide +kernel
end
end L2
namespace L2
open PySem PySem.Spec PyProof.Rows
section
variable {X:Cx}
def rEqS (K:PySem.W.Frag):R2:=fun x y H Q=>∃ (W:Addr→List V→Prop) (d:PyData),Dat K W H 5 x d∧Dat K W H 5 y d∧Q (.bl true) H
theorem op_eqS (hu:X.A.units+5 < cLine):OpR X (compareOp .Eq) (rEqS X.K):=by
 intro pins s σ H x y v u Q I rx ry h
 obtain ⟨W,d,r1,r2,k⟩:=h
 obtain ⟨⟨as,a1⟩,a2,a3⟩:=r1.reads I rx
 obtain ⟨⟨bs,b1⟩,b2,b3⟩:=r2.reads I ry
 refine SeqAt.rcAt_reads a1 b1 a2 b2 (by omega) _ _ _ _ ⟨.bl _,H,I,rfl,?_⟩
 rw [r1.refl]
 exact k
end
section
variable {X:Cx}{elt iter:Expr}{ifs:List Expr}{pos q1 q2 q3:Pos}{kt:Nat}{scope:Scope}{wi:TI}{tc:TT}{te:TE}{fr:List Str}{ix:List Nat}{x1' x2':Str}
def gPair (K:PySem.W.Frag):TG:=gTup K 2 (gCons (qft 0) (gCons (qft 1) gNil))
theorem pg_pair {cl:List (Str×Addr)}{C:Addr}{s₃:Shared}{H₃:Hp}{fp:List Addr} (hN:([x1',x2']++fr).Nodup) (h1:scope.names.lookup x1'=some .local) (h2:scope.names.lookup x2'=some .local):PG (blk X scope cl C ([x1',x2']++fr) s₃ H₃ fp) (.Tuple [.Name x1' q1,.Name x2' q2] kt q3) (gPair X.K) :=
 ql4 rfl (qbm (qbe hN rfl (.inl (lookup_relabel_local h1)) (.inr (lookup_relabel_local h1))) (qbm (qbe hN rfl (.inl (lookup_relabel_local h2)) (.inr (lookup_relabel_local h2))) qeo))
theorem qk9 {i:Nat}{y:Str}{py spos:Pos} (hN:X.N.Nodup) (hiy:X.N[i]?=some y) (hly:X.env.scope.names.lookup y=some .local) (hc:X.calm=true) (S:CompOkG X.N X.env.scope scope [x1',x2'] fr ix) (h1:scope.names.lookup x1'=some .local) (h2:scope.names.lookup x2'=some .local) (hi:PI X (.Tuple [.Name x1' q1,.Name x2' q2] kt q3) iter wi)
  (ht:∀ cl C s₃ H₃ fp,PIfs (blk X scope cl C ([x1',x2']++fr) s₃ H₃ fp) ifs tc) (he:∀ cl C s₃ H₃ fp,PE (blk X scope cl C ([x1',x2']++fr) s₃ H₃ fp) elt te)
  (hsw:swapsWith (.ListComp elt [⟨.Tuple [.Name x1' q1,.Name x2' q2] kt q3,iter,ifs,0⟩] scope pos) (some (.Name y py)) spos.line X.env=pure true:=by rfl)
  (hs:∀ v,foldedSetIterable iter X.env v=pure v:=by intro _;rfl):PS X (.Assign [.Name y py] (.ListComp elt [⟨.Tuple [.Name x1' q1,.Name x2' q2] kt q3,iter,ifs,0⟩] scope pos) spos) (tAsg (tCompG wi ix (gPair X.K) 2 tc te) (qft i)) :=
 qk8 hN hiy hly hc S hi (fun cl C s₃ H₃ fp=>pg_pair S.nd h1 h2) ht he hsw hs
end
theorem compG_by {J:It}{gt:TG}{k:Nat}{tc:TT}{te:TE}{cap:St}{D:Addr}{Q:VK}{H1:Hp} (n:Nat) (R:Nat→List V→St→Hp→Prop) (h0:R 0 [] (List.replicate k none++cap) (upd H1 D (.lst []))) (hn:n≤sizeLine) (hD:∀ i ys σ H,R i ys σ H→H D=some (.lst ys))
  (hgo:∀ i ys σ H,i < n→R i ys σ H→J.go i H)
  (hstep:∀ i ys σ H x H',i < n→R i ys σ H→J.yld i H x H'→∀ (Kt:St→VK) (Kf:St→Hp→Prop),(∀ σ3 v H5,H5 D=some (.lst ys)→R (i+1) (ys++[v]) σ3 (upd H5 D (.lst (ys++[v])))→Kt σ3 v H5)→(∀ σ3 H4,R (i+1) ys σ3 H4→Kf σ3 H4) →
   gt x σ H' fun σ3 H3'=>tc σ3 H3' fun b H4=>if b=true then te σ3 H4 (Kt σ3) else Kf σ3 H4)
  (hend:∀ ys σ H,ys.length≤n→R n ys σ H→J.stop n H∧Q (.ref D) H) :
  CompBG J gt k tc te cap D H1 Q:=by
 refine ⟨fun i m ys σ H=>i≤n∧m=n - i∧ys.length≤i∧R i ys σ H,⟨n,Nat.zero_le _,by simp,Nat.zero_le _,h0⟩,?_⟩
 rintro i m ys σ2 H2 ⟨hi,rfl,hl,r⟩
 by_cases hlt:i < n
 ·refine .inr ⟨hgo i ys σ2 H2 hlt r,fun x H3 y=>hstep i ys σ2 H2 x H3 hlt r y (fun σ3 v H5=>H5 D=some (.lst ys)∧ys.length < sizeLine∧∃ m',m' < n - i∧(i+1≤n∧m'=n - (i+1)∧(ys++[v]).length≤i+1∧R (i+1) (ys++[v]) σ3 (upd H5 D (.lst (ys++[v]))))) (fun σ3 H4=>∃ m',m' < n - i∧(i+1≤n∧m'=n - (i+1)∧ys.length≤i+1∧R (i+1) ys σ3 H4)) (fun σ3 v H5 e r'=>⟨e,by omega,n - (i+1),by omega,hlt,rfl,by rw [List.length_append];simp;omega,r'⟩) fun σ3 H4 r'=>⟨n - (i+1),by omega,hlt,rfl,by omega,r'⟩⟩
 ·have e:i=n:=by omega
  subst e
  obtain ⟨h1,h2⟩:=hend ys σ2 H2 hl r
  exact .inl ⟨h1,hD i ys σ2 H2 r,h2⟩
end L2
namespace Fra
def Cop (a b:Int):Prop:=Int.gcd a b=1
def Low (q:Int×Int):Prop:=0 < q.2∧Cop q.1 q.2
def red (q:Int×Int):Int×Int:=(q.1 / (Int.gcd q.1 q.2:Int),q.2 / (Int.gcd q.1 q.2:Int))
theorem Cop.symm {a b:Int} (h:Cop a b):Cop b a:=by unfold Cop at *;rw [Int.gcd_comm];exact h
theorem qeg {a a' b:Int} (d:a ∣ a') (h:Cop a' b):Cop a b:=Nat.Coprime.coprime_dvd_left (Int.natAbs_dvd_natAbs.mpr d) h
theorem qjq {a b c:Int} (h1:Cop a c) (h2:Cop b c):Cop (a * b) c:=by
 unfold Cop Int.gcd at *
 rw [Int.natAbs_mul]
 exact Nat.Coprime.mul_left h1 h2
theorem qls {a b c:Int} (h:Cop a b) (d:a ∣ b * c):a ∣ c:=by
 have d':=Int.natAbs_dvd_natAbs.mpr d
 rw [Int.natAbs_mul] at d'
 exact Int.natAbs_dvd_natAbs.mp (Nat.Coprime.dvd_of_dvd_mul_left h d')
theorem cop_add {a b k:Int} (h:Cop a b):Cop (a+k * b) b:=by
 unfold Cop at *
 have g1:(Int.gcd (a+k * b) b:Int) ∣ a+k * b:=Int.gcd_dvd_left ..
 have g2:(Int.gcd (a+k * b) b:Int) ∣ b:=Int.gcd_dvd_right ..
 have g3:(Int.gcd (a+k * b) b:Int) ∣ a:=by
  have:=Int.dvd_sub g1 (Int.dvd_trans g2 (Int.dvd_mul_left k b))
  have e:a+k * b - k * b=a:=by omega
  rw [e] at this
  exact this
 have g4:=Int.dvd_gcd g3 g2
 rw [h] at g4
 exact Nat.dvd_one.mp g4
theorem qio {p q:Int×Int} (hp:Low p) (hq:Low q) (h:p.1 * q.2=q.1 * p.2):p=q:=by
 obtain ⟨a,b⟩:=p
 obtain ⟨c,d⟩:=q
 obtain ⟨h1,h2⟩:=hp
 obtain ⟨h3,h4⟩:=hq
 simp only at h h1 h2 h3 h4
 have d1:b ∣ d:=qls h2.symm ⟨c,by rw [h];exact Int.mul_comm _ _⟩
 have d2:d ∣ b:=qls h4.symm ⟨a,by rw [← h];exact Int.mul_comm _ _⟩
 have e:b=d:=Int.dvd_antisymm (by omega) (by omega) d1 d2
 subst e
 have:a=c:=Int.eq_of_mul_eq_mul_right (by omega) h
 rw [this]
theorem qe1 {q:Int×Int} (h:0 < q.2):Low (red q)∧(red q).1 * q.2=q.1 * (red q).2:=by
 obtain ⟨a,b⟩:=q
 simp only at h
 have hg:0 < Int.gcd a b:=Int.gcd_pos_of_ne_zero_right _ (by omega)
 obtain ⟨u,hu⟩:(Int.gcd a b:Int) ∣ a:=Int.gcd_dvd_left ..
 obtain ⟨v,hv⟩:(Int.gcd a b:Int) ∣ b:=Int.gcd_dvd_right ..
 have eu:a / (Int.gcd a b:Int)=u:=Int.ediv_eq_of_eq_mul_right (by omega) hu
 have ev:b / (Int.gcd a b:Int)=v:=Int.ediv_eq_of_eq_mul_right (by omega) hv
 have hc:Cop u v:=by
  have e:Int.gcd ((Int.gcd a b:Int) * u) ((Int.gcd a b:Int) * v)=Int.gcd a b * Int.gcd u v:=by rw [Int.gcd_mul_left];rfl
  rw [← hu,← hv] at e
  unfold Cop
  have:Int.gcd a b * Int.gcd u v=Int.gcd a b * 1:=by omega
  exact Nat.eq_of_mul_eq_mul_left hg this
 have hv0:0 < v:=by
  by_cases z:0 < v
  ·exact z
  ·have:(Int.gcd a b:Int) * v≤0:=Int.mul_nonpos_of_nonneg_of_nonpos (by omega) (by omega)
   omega
 unfold red
 simp only
 rw [eu,ev]
 refine ⟨⟨hv0,hc⟩,?_⟩
 show u * b=a * v
 have e1:u * b=u * ((Int.gcd a b:Int) * v):=by rw [← hv]
 have e2:a * v=(Int.gcd a b:Int) * u * v:=by rw [← hu]
 rw [e1,e2,Int.mul_comm (Int.gcd a b:Int) u,Int.mul_assoc]
theorem red_eq {p q:Int×Int} (hp:Low p) (hq:0 < q.2) (h:p.1 * q.2=q.1 * p.2):p=red q:=by
 obtain ⟨r1,r2⟩:=qe1 hq
 refine qio hp r1 ?_
 have e:p.1 * (red q).2 * q.2=(red q).1 * p.2 * q.2:=by
  rw [Int.mul_right_comm,h,Int.mul_right_comm q.1,← r2,Int.mul_right_comm]
 exact Int.eq_of_mul_eq_mul_right (by omega) e
def addK (p q:Int×Int):Int×Int :=
 let d:Int:=Int.gcd p.2 q.2
 let t:=p.1 * (q.2 / d)+q.1 * (p.2 / d)
 let e:Int:=Int.gcd t d
 (t / e,p.2 / d * (q.2 / e))
def addR (p q:Int×Int):Int×Int:=red (p.1 * q.2+q.1 * p.2,p.2 * q.2)
theorem addK_eq {p q:Int×Int} (hp:Low p) (hq:Low q):addK p q=addR p q:=by
 obtain ⟨n1,b1⟩:=p
 obtain ⟨n2,b2⟩:=q
 obtain ⟨h1,h2⟩:=hp
 obtain ⟨h3,h4⟩:=hq
 simp only at h1 h2 h3 h4
 unfold addK addR
 simp only
 have hd:0 < Int.gcd b1 b2:=Int.gcd_pos_of_ne_zero_right _ (by omega)
 obtain ⟨u,hu⟩:(Int.gcd b1 b2:Int) ∣ b1:=Int.gcd_dvd_left ..
 obtain ⟨v,hv⟩:(Int.gcd b1 b2:Int) ∣ b2:=Int.gcd_dvd_right ..
 have huv:Cop u v:=by
  have e:Int.gcd ((Int.gcd b1 b2:Int) * u) ((Int.gcd b1 b2:Int) * v)=Int.gcd b1 b2 * Int.gcd u v:=by rw [Int.gcd_mul_left];rfl
  rw [← hu,← hv] at e
  have:Int.gcd b1 b2 * Int.gcd u v=Int.gcd b1 b2 * 1:=by omega
  exact Nat.eq_of_mul_eq_mul_left hd this
 generalize hD:(Int.gcd b1 b2:Int)=d at *
 have d0:0 < d:=by omega
 subst hu
 subst hv
 rw [Int.mul_ediv_cancel_left _ (by omega:d≠0),Int.mul_ediv_cancel_left _ (by omega:d≠0)]
 have pos:∀ {x:Int},0 < d * x→0 < x:=fun {x} hx=>by
  by_cases z:0 < x
  ·exact z
  ·have:d * x≤0:=Int.mul_nonpos_of_nonneg_of_nonpos (by omega) (by omega)
   omega
 have u0:=pos h1
 have v0:=pos h3
 have ct_u:Cop (n1 * v+n2 * u) u:=cop_add (qjq (qeg (Int.dvd_refl _) (qeg ⟨d,Int.mul_comm _ _⟩ h2.symm).symm) huv.symm)
 have ct_v:Cop (n1 * v+n2 * u) v:=by
  rw [Int.add_comm]
  exact cop_add (qjq (qeg ⟨d,Int.mul_comm _ _⟩ h4.symm).symm huv)
 generalize hT:n1 * v+n2 * u=t at *
 have he:0 < Int.gcd t d:=Int.gcd_pos_of_ne_zero_right _ (by omega)
 obtain ⟨t',ht⟩:(Int.gcd t d:Int) ∣ t:=Int.gcd_dvd_left ..
 obtain ⟨e',hE⟩:(Int.gcd t d:Int) ∣ d:=Int.gcd_dvd_right ..
 have cte:Cop t' e':=by
  have e:Int.gcd ((Int.gcd t d:Int) * t') ((Int.gcd t d:Int) * e')=Int.gcd t d * Int.gcd t' e':=by rw [Int.gcd_mul_left];rfl
  rw [← ht,← hE] at e
  have:Int.gcd t d * Int.gcd t' e'=Int.gcd t d * 1:=by omega
  exact Nat.eq_of_mul_eq_mul_left he this
 generalize hG:(Int.gcd t d:Int)=g at *
 have g0:0 < g:=by omega
 have e0:0 < e':=by
  by_cases z:0 < e'
  ·exact z
  ·have:g * e'≤0:=Int.mul_nonpos_of_nonneg_of_nonpos (by omega) (by omega)
   omega
 have q1:t / g=t':=by rw [ht];exact Int.mul_ediv_cancel_left _ (by omega)
 have q2:d * v / g=e' * v:=by
  rw [hE,Int.mul_assoc]
  exact Int.mul_ediv_cancel_left _ (by omega)
 rw [q1,q2]
 refine red_eq ⟨Int.mul_pos u0 (Int.mul_pos e0 v0),?_⟩ (Int.mul_pos h1 h3) ?_
 ·have d1:t' ∣ t:=⟨g,by rw [ht];exact Int.mul_comm _ _⟩
  exact (qjq (qeg d1 ct_u).symm (qjq cte.symm (qeg d1 ct_v).symm)).symm
 ·show t' * (d * u * (d * v))=(n1 * (d * v)+n2 * (d * u)) * (u * (e' * v))
  have e1:n1 * (d * v)+n2 * (d * u)=d * t:=by
   rw [← hT,Int.mul_add,Int.mul_left_comm,Int.mul_left_comm n2]
  rw [e1]
  have e2:d * t * (u * (e' * v))=d * (g * t') * (u * (e' * v)):=by rw [← ht]
  have e3:t' * (d * u * (d * v))=t' * (d * u * (g * e' * v)):=by rw [← hE]
  rw [e2,e3]
  simp only [Int.mul_assoc,Int.mul_left_comm,Int.mul_comm]
theorem qms {p q:Int×Int} (hp:Low p) (hq:Low q):Low (addR p q):=(qe1 (Int.mul_pos hp.1 hq.1)).1
end Fra
namespace L2
open PySem PySem.Spec PyProof.Rows
section
variable {X:Cx}{es:List Expr}{t:TA}{te:TE}{pos:Pos}
def qcv (X:Cx) (e:Expr):Prop:=∀ es,starEach (e::es) X.env=(false,eval e X.env)::starEach es X.env
structure PEI (X:Cx) (e:Expr) (t:TE):Prop where
 get:PE X e t
theorem pe_l3 {e1 e2 e3:Expr}{t1 t2 t3:TE} (h1:PE X e1 t1) (h2:PE X e2 t2) (h3:PE X e3 t3) (n1:qcv X e1:=by intro _;rfl) (n2:qcv X e2:=by intro _;rfl) (n3:qcv X e3:=by intro _;rfl):PEI X (.List [e1,e2,e3] pos) (tLst (qas t1 (qas t2 (qas t3 tNil)))):=⟨qbj (qaa h1 (qaa h2 (qaa h3 qah (n3 _)) (n2 _)) (n1 _))⟩
theorem pe_l4 {e1 e2 e3 e4:Expr}{t1 t2 t3 t4:TE} (h1:PE X e1 t1) (h2:PE X e2 t2) (h3:PE X e3 t3) (h4:PE X e4 t4) (n1:qcv X e1:=by intro _;rfl) (n2:qcv X e2:=by intro _;rfl) (n3:qcv X e3:=by intro _;rfl) (n4:qcv X e4:=by intro _;rfl):PEI X (.List [e1,e2,e3,e4] pos) (tLst (qas t1 (qas t2 (qas t3 (qas t4 tNil))))):=⟨qbj (qaa h1 (qaa h2 (qaa h3 (qaa h4 qah (n4 _)) (n3 _)) (n2 _)) (n1 _))⟩
theorem pe_l5 {e1 e2 e3 e4 e5:Expr}{t1 t2 t3 t4 t5:TE} (h1:PE X e1 t1) (h2:PE X e2 t2) (h3:PE X e3 t3) (h4:PE X e4 t4) (h5:PE X e5 t5) (n1:qcv X e1:=by intro _;rfl) (n2:qcv X e2:=by intro _;rfl) (n3:qcv X e3:=by intro _;rfl) (n4:qcv X e4:=by intro _;rfl) (n5:qcv X e5:=by intro _;rfl):PEI X (.List [e1,e2,e3,e4,e5] pos) (tLst (qas t1 (qas t2 (qas t3 (qas t4 (qas t5 tNil)))))):=⟨qbj (qaa h1 (qaa h2 (qaa h3 (qaa h4 (qaa h5 qah (n5 _)) (n4 _)) (n3 _)) (n2 _)) (n1 _))⟩
theorem pe_l8 {e1 e2 e3 e4 e5 e6 e7 e8:Expr}{t1 t2 t3 t4 t5 t6 t7 t8:TE} (h1:PE X e1 t1) (h2:PE X e2 t2) (h3:PE X e3 t3) (h4:PE X e4 t4) (h5:PE X e5 t5) (h6:PE X e6 t6) (h7:PE X e7 t7) (h8:PE X e8 t8) (n1:qcv X e1:=by intro _;rfl) (n2:qcv X e2:=by intro _;rfl) (n3:qcv X e3:=by intro _;rfl) (n4:qcv X e4:=by intro _;rfl) (n5:qcv X e5:=by intro _;rfl) (n6:qcv X e6:=by intro _;rfl) (n7:qcv X e7:=by intro _;rfl) (n8:qcv X e8:=by intro _;rfl):PEI X (.List [e1,e2,e3,e4,e5,e6,e7,e8] pos) (tLst (qas t1 (qas t2 (qas t3 (qas t4 (qas t5 (qas t6 (qas t7 (qas t8 tNil))))))))):=⟨qbj (qaa h1 (qaa h2 (qaa h3 (qaa h4 (qaa h5 (qaa h6 (qaa h7 (qaa h8 qah (n8 _)) (n7 _)) (n6 _)) (n5 _)) (n4 _)) (n3 _)) (n2 _)) (n1 _))⟩
end
end L2
set_option maxHeartbeats 4000000
namespace My
open PySem L2
def top (i:Nat):Stmt:=PySem.Challenge.pw_wholeowners_k07_whole_shares_come_to_one.main.body.getD i (.Pass ⟨0,0,0,0⟩)
structure Adr where
 OwnError:Addr
 NoName:Addr
 Twice:Addr
 TooMany:Addr
 NoHolder:Addr
 NoHouse:Addr
 NoLoss:Addr
 NoShare:Addr
 NoText:Addr
 Whole:Addr
 Book:Addr
 ZERO:Addr
 ONE:Addr
 t8:Tok
 t6:Tok
 u8:Tok
def Tup2 (K:PySem.W.Frag) (a:Addr) (i j:Int):Prop:=∃ (o:Obj) (its:Array Value) (n:Nat),K.lookup a=some o∧o.cls=.type "tuple"∧o.data=.seq its n∧its.size≤sizeLine∧Vals [.int i,.int j] its.toList
structure Txt (K:PySem.W.Frag) (mg:Str→Option Value) (a:Adr):Prop where
 b_len:mg "len"=none
 b_range:mg "range"=none
 b_all:mg "all"=none
 b_int:mg "int"=none
 b_abs:mg "abs"=none
 b_sorted:mg "sorted"=none
 b_tuple:mg "tuple"=none
 b_list:mg "list"=none
 b_str:mg "str"=none
 b_bool:mg "bool"=none
 b_isinstance:mg "isinstance"=none
 b_ValueError:mg "ValueError"=none
 c_OwnError:mg "OwnError"=some (.ref a.OwnError)
 c_NoName:mg "NoName"=some (.ref a.NoName)
 c_Twice:mg "Twice"=some (.ref a.Twice)
 c_TooMany:mg "TooMany"=some (.ref a.TooMany)
 c_NoHolder:mg "NoHolder"=some (.ref a.NoHolder)
 c_NoHouse:mg "NoHouse"=some (.ref a.NoHouse)
 c_NoLoss:mg "NoLoss"=some (.ref a.NoLoss)
 c_NoShare:mg "NoShare"=some (.ref a.NoShare)
 c_NoText:mg "NoText"=some (.ref a.NoText)
 c_Whole:mg "Whole"=some (.ref a.Whole)
 x_OwnError:Exc K a.OwnError
 x_NoName:Exc K a.NoName
 x_Twice:Exc K a.Twice
 x_TooMany:Exc K a.TooMany
 x_NoHolder:Exc K a.NoHolder
 x_NoHouse:Exc K a.NoHouse
 x_NoLoss:Exc K a.NoLoss
 x_NoShare:Exc K a.NoShare
 g_LONGEST_NAME:mg "LONGEST_NAME"=some (.int 8 a.t8)
 g_MOST_PERSONS:mg "MOST_PERSONS"=some (.int 6 a.t6)
 g_MOST_HOUSES:mg "MOST_HOUSES"=some (.int 8 a.u8)
 g_ZERO:mg "ZERO"=some (.ref a.ZERO)
 g_ONE:mg "ONE"=some (.ref a.ONE)
 zero:Tup2 K a.ZERO 0 1
 one:Tup2 K a.ONE 1 1
 cl:Cls K a.Book
 nA_people:NoAttr K a.Book "people"
 nA_things_of:NoAttr K a.Book "things_of"
 nA_mark_of:NoAttr K a.Book "mark_of"
 nA_loss_of:NoAttr K a.Book "loss_of"
 nA_held_of:NoAttr K a.Book "held_of"
theorem Txt.r_LONGEST_NAME {K:PySem.W.Frag}{mg:Str→Option Value}{a:Adr} (T:Txt K mg a):RelV (.int 8) (.int 8 a.t8):=⟨_,rfl⟩
theorem Txt.r_MOST_PERSONS {K:PySem.W.Frag}{mg:Str→Option Value}{a:Adr} (T:Txt K mg a):RelV (.int 6) (.int 6 a.t6):=⟨_,rfl⟩
theorem Txt.r_MOST_HOUSES {K:PySem.W.Frag}{mg:Str→Option Value}{a:Adr} (T:Txt K mg a):RelV (.int 8) (.int 8 a.u8):=⟨_,rfl⟩
theorem Txt.r_ZERO {K:PySem.W.Frag}{mg:Str→Option Value}{a:Adr} (T:Txt K mg a):RelV (.ref a.ZERO) (.ref a.ZERO):=rfl
theorem Txt.r_ONE {K:PySem.W.Frag}{mg:Str→Option Value}{a:Adr} (T:Txt K mg a):RelV (.ref a.ONE) (.ref a.ONE):=rfl
abbrev Same:=L2.Same
theorem qad {H:Hp}{p:Addr}{o:HO} (h:H p=none):Same H (upd H p o):=fun b u e=>by rw [qag (qae e h)];exact e
theorem yesT {te:TE}{cap:St}{H:Hp}{Kt:VK}{Kf:Hp→Prop} (h:te cap H Kt):tYes cap H fun b H4=>if b=true then te cap H4 Kt else Kf H4:=by
 show if true=true then te cap H Kt else Kf H
 rw [if_pos rfl]
 exact h
theorem qj2 (c:Nat):(!decide ((⟨#[c]⟩:Str).cps.toList < (Str.ofString "a").cps.toList))=decide (97≤c):=by
 show (!decide ([c] < [97]))=decide (97≤c)
 rw [Bool.eq_iff_iff]
 simp [List.cons_lt_cons_iff]
theorem sign_le_z (c:Nat):(!decide ((Str.ofString "z").cps.toList < (⟨#[c]⟩:Str).cps.toList))=decide (c≤122):=by
 show (!decide ([122] < [c]))=decide (c≤122)
 rw [Bool.eq_iff_iff]
 simp [List.cons_lt_cons_iff]
theorem qiz {x:Str}{i c:Nat}{g:Nat→V} (hc:x.cps[i]?=some c):(x.cps.toList.take i).map g++[g c]=(x.cps.toList.take (i+1)).map g:=by
 have hc:x.cps.toList[i]?=some c:=by simpa using hc
 rw [List.take_add_one,hc,List.map_append]
 rfl
section
variable {P:Program}{w:World}{K:PySem.W.Frag}{mg:Str→Option Value}{base:Heap}{a:Adr}{f:Addr}{fd:FuncData}
abbrev qdz:Stmt:=top 22
theorem sc_is_name:FnScope ["text"] ["text"] (qaj qdz):=⟨rfl,rfl,rfl,by decide +kernel,rfl,by decide +kernel,by decide +kernel⟩
def low (c:Nat):Bool:=decide (97≤c) && decide (c≤122)
def isNm (x:Str):Bool:=decide (1≤x.length) && decide (x.length≤8) && x.cps.toList.all low
def qds:Sp:=fun vs H Q _=>∃ x,vs=[.str x]∧Nm x∧∀ H',Same H H'→Q (.bl (isNm x)) H'
theorem ok_is_name (F:Fun K "is_name" "is_name" qdz f fd) (T:Txt K mg a):FnOk P w K mg base (CXo P w) 1 f fd ["text"] qds:=by
 refine F.okN sc_is_name (fun vs H Q E h=>?_) (fun cdv A outer s H vs Q E hr h=>?_)
 ·obtain ⟨x,rfl,_⟩:=h
  rfl
 ·obtain ⟨x,rfl,nm,k⟩:=h
  have hu:=qbk hr
  refine ⟨_,(qak (qav (qkd (ql5 op_le op_le qac (qap qgu rfl T.b_len qei (qaa (pv 0) qah)) (qb6 rfl T.g_LONGEST_NAME T.r_LONGEST_NAME)) (qij (qap call_all rfl T.b_all bt_all (qaa (qfp (fr:=[]) (ix:=[]) rfl (by exact (show CompOk ["text"] (qaj qdz) _ _ _ _ from ⟨rfl,by decide +kernel,rfl,by decide +kernel,by decide +kernel,by decide +kernel,by decide +kernel,by decide +kernel,rfl⟩)) (pi_str (pv 0)) (fun _ _ _ _ _=>qf4) (fun _ _ _ _ _=>(ql5 qkf qkf qa5 (pv 0) qa5))) qah)))))),?_⟩
  have hlen:x.length≤sizeLine:=Nat.le_trans nm.1 (by decide)
  refine ⟨_,rfl,_,rfl,hlen,_,_,rfl,rfl,_,rfl,ite2 (fun h=>?_) (fun h=>?_)⟩
  ·have h1:(1:Int)≤(x.length:Int):=of_decide_eq_true h
   refine ⟨_,_,rfl,rfl,_,rfl,ite2 (fun h=>?_) (fun h=>?_)⟩
   ·have h2:(x.length:Int)≤8:=of_decide_eq_true h
    refine ⟨_,rfl,x,rfl,fun D hD=>?_⟩
    refine qe8 (J:=Its x) x.cps.size (fun i ys H'=>H'=upd H D (.lst ys)∧ys=(x.cps.toList.take i).map fun c=>V.bl (low c)) ⟨rfl,rfl⟩ hlen (fun i ys H' r=>by rw [r.1];exact qab) (fun i ys H' hi _=>hi) ?_ ?_
    ·rintro i ys H' v H'' hi ⟨rfl,rfl⟩ ⟨rfl,c,hc,rfl⟩ Kt Kf k1 k2
     have fin:∀ b,b=low c→Kt (V.bl b) (upd H D (.lst ((x.cps.toList.take i).map fun c=>V.bl (low c)))):=fun b hb=>by
      refine k1 _ _ qab ⟨by rw [qiy],?_⟩
      rw [hb,qiz hc]
     refine yesT ⟨_,rfl,_,_,rfl,rfl,_,rfl,ite2 (fun h=>?_) (fun h=>?_)⟩
     ·refine ⟨_,_,rfl,rfl,fin _ ?_⟩
      rw [qj2] at h
      rw [sign_le_z]
      unfold low
      rw [h,Bool.true_and]
     ·refine fin _ ?_
      rw [qj2] at h
      unfold low
      rw [Bool.eq_false_iff.mpr h,Bool.false_and]
    ·rintro ys H' hl ⟨rfl,rfl⟩
     have e:List.take x.cps.size x.cps.toList=x.cps.toList:=List.take_of_length_le (by simp)
     rw [e]
     refine ⟨Nat.le_refl _,D,x.cps.toList.map low,rfl,SqL.of (by rw [qab,List.map_map];rfl),rfl,?_⟩
     have e2:(x.cps.toList.map low).all id=isNm x:=by
      have h1:1≤x.length:=by omega
      have h2:x.length≤8:=by omega
      unfold isNm
      rw [decide_eq_true h1,decide_eq_true h2,List.all_map,Bool.true_and,Bool.true_and]
      rfl
     rw [e2]
     exact k _ (qad hD)
   ·have h2:¬ x.length≤8:=fun z=>h (decide_eq_true (by omega))
    have e2:false=isNm x:=by unfold isNm;rw [decide_eq_false h2,Bool.and_false,Bool.false_and]
    show Q (.bl false) H
    rw [e2]
    exact k _ fun _ _ z=>z
  ·have h2:¬ 1≤x.length:=fun z=>h (decide_eq_true (by omega))
   have e2:false=isNm x:=by unfold isNm;rw [decide_eq_false h2,Bool.false_and,Bool.false_and]
   refine ⟨_,rfl,iteF ?_⟩
   show Q (.bl false) H
   rw [e2]
   exact k _ fun _ _ z=>z
abbrev qc5:Stmt:=top 23
theorem qj3:FnScope ["number"] ["number"] (qaj qc5):=⟨rfl,rfl,rfl,by decide +kernel,rfl,by decide +kernel,by decide +kernel⟩
def qd2 (a:Adr):Sp:=fun vs H Q E=>∃ n,vs=[.int n]∧(n < 0→E (.ref a.NoLoss) none H)∧(0≤n→Q .non H)
theorem qkg (F:Fun K "need_loss" "need_loss" qc5 f fd) (T:Txt K mg a):FnOk P w K mg base (CXo P w) 1 f fd ["number"] (qd2 a):=by
 refine F.okX qj3 (fun vs H Q E h=>?_) (fun cdv A outer s H vs Q E hr h=>?_)
 ·obtain ⟨x,rfl,_⟩:=h
  rfl
 ·obtain ⟨n,rfl,k1,k2⟩:=h
  have hu:=qbk hr
  refine ⟨_,(qak (qbi (qau qji (pv 0) qac (qay _)) (qak (qd6 T.x_NoLoss rfl T.c_NoLoss rfl qa5 qkk)) qax)),?_⟩
  refine ⟨_,rfl,_,_,rfl,rfl,_,rfl,ite2 (fun h=>?_) (fun h=>?_)⟩
  ·exact k1 (of_decide_eq_true h)
  ·exact k2 (Int.not_lt.mp fun z=>h (decide_eq_true z))
abbrev qc6:Stmt:=top 27
theorem sc__law_take:FnScope ["_law_purse_here","_law_many","_law_at","_law_found"] ["_law_purse_here","_law_many"] (qaj qc6):=⟨rfl,rfl,rfl,by decide +kernel,rfl,by decide +kernel,by decide +kernel⟩
def qdy:Sp:=fun vs H Q _=>∃ p x y n,vs=[.ref p,.int n]∧H p=some (.lst [.int x,.int y])∧0 < n∧n < 2 ^ 200∧∀ r x' y',0≤r→r < n→Q (.int r) (upd H p (.lst [.int x',.int y']))
theorem qkm {n:Int} (h0:0 < n) (h:n < 2 ^ 200):n.natAbs.log2 < 9000:=by
 have e:n.natAbs < 2 ^ 200:=by omega
 have:=(Nat.log2_lt (by omega)).mpr e
 omega
theorem ok_take (F:Fun K "_law_take" "_law_take" qc6 f fd) (T:Txt K mg a):FnOk P w K mg base (CXo P w) 1 f fd ["_law_purse_here","_law_many"] qdy:=by
 refine F.okN sc__law_take (fun vs H Q E h=>?_) (fun cdv A outer s H vs Q E hr h=>?_)
 ·obtain ⟨p,x,y,n,rfl,_⟩:=h
  rfl
 ·obtain ⟨p,x,y,n,rfl,hp,h0,h1,k⟩:=h
  have hu:=qbk hr
  refine ⟨_,(qaf (qaq (i:=2) sc__law_take.nd rfl (Or.inl rfl) (qbq qc2 rfl T.b_int qgd (qaa (qcn qea (qam qa0 (pv 0) qac (fun _ _=>rfl)) qac (qay _)) qah))) (qaf (qaq (i:=3) sc__law_take.nd rfl (Or.inl rfl) (qaw qgs (qam qa0 (pv 0) (pv 2) (fun _ _=>rfl)) (pv 1))) (qaf (qgr (qaw qdq (qam qa0 (pv 0) (pv 2) (fun _ _=>rfl)) (pv 1)) (pg_sub (pv 0) (pv 2) ql0 (fun _=>rfl))) (qak (qav (pv 3)))))),?_⟩
  have hS:∀ K,SqL K H p [.int x,.int y]:=fun K=>SqL.of hp
  refine ⟨_,rfl,p,_,0,_,rfl,rfl,hS _,qai (j:=0) rfl,rfl,.inr ⟨_,rfl,?_⟩⟩
  by_cases hx:x=0
  ·rw [decide_eq_true (congrArg V.int hx)]
   refine ⟨_,rfl,_,rfl,p,_,1,_,rfl,rfl,hS _,qai (j:=1) rfl,_,rfl,_,_,rfl,rfl,h0,?_⟩
   refine ⟨_,rfl,_,rfl,p,_,1,_,rfl,rfl,hS _,qai (j:=1) rfl,_,rfl,_,_,rfl,rfl,⟨h0,qkm h0 h1⟩,_,rfl,_,rfl,p,_,_,1,rfl,rfl,hp,rfl,_,rfl,?_⟩
   exact k (y % n) x (y / n) (Int.emod_nonneg _ (by omega)) (Int.emod_lt_of_pos _ h0)
  ·rw [decide_eq_false (fun z=>hx (V.int.inj z))]
   refine ⟨_,rfl,_,rfl,p,_,0,_,rfl,rfl,hS _,qai (j:=0) rfl,_,rfl,_,_,rfl,rfl,h0,?_⟩
   refine ⟨_,rfl,_,rfl,p,_,0,_,rfl,rfl,hS _,qai (j:=0) rfl,_,rfl,_,_,rfl,rfl,⟨h0,qkm h0 h1⟩,_,rfl,_,rfl,p,_,_,0,rfl,rfl,hp,rfl,_,rfl,?_⟩
   exact k (x % n) (x / n) y (Int.emod_nonneg _ (by omega)) (Int.emod_lt_of_pos _ h0)
abbrev qcr:Stmt:=top 26
theorem sc__law_purse:FnScope ["_law_cell","_law_number_here","_law_found","_law_k"] ["_law_cell"] (qaj qcr):=⟨rfl,rfl,rfl,by decide +kernel,rfl,by decide +kernel,by decide +kernel⟩
def qi3:Sp:=fun vs H Q _=>∃ n,vs=[.int n]∧∀ p x y,H p=none→Q (.ref p) (upd H p (.lst [.int x,.int y]))
theorem ok_purse (F:Fun K "_law_purse" "_law_purse" qcr f fd) (T:Txt K mg a):FnOk P w K mg base (CXo P w) 1 f fd ["_law_cell"] qi3:=by
 refine F.okN sc__law_purse (fun vs H Q E h=>?_) (fun cdv A outer s H vs Q E hr h=>?_)
 ·obtain ⟨n,rfl,_⟩:=h
  rfl
 ·obtain ⟨n,rfl,k⟩:=h
  have hu:=qbk hr
  refine ⟨_,(qaf (qaq (i:=1) sc__law_purse.nd rfl (Or.inl rfl) (qaw qgs (pv 0) qac)) (qaf (qaq (i:=2) sc__law_purse.nd rfl (Or.inl rfl) qac) (qaf (qgq PassesOwn.never rfl (qf5 rfl T.b_range (qaa qac qah)) (qbe (i:=3) sc__law_purse.nd rfl (Or.inl rfl)) (qaf (qaq (i:=1) sc__law_purse.nd rfl (Or.inl rfl) (qaw qgs (qaw qee (qaw qee (qaw qee (qaw qfk (pv 1) (pv 1)) (qaw qfk (qaw qfk qac (pv 3)) (pv 3))) (pv 3)) qac) qac)) (qak (qaq (i:=2) sc__law_purse.nd rfl (Or.inl rfl) (qaw qee (qaw qfk (pv 2) qac) (qaw qgs (qaw qfk (pv 1) (pv 1)) qac)))))) (qaf (qbi (qau op_ge (pv 0) (qaw qfj qac qac) (qay _)) (qak (qav (qbj (qaa (qaw qil (pv 0) (qaw qfj qac qac)) (qaa (pv 2) qah))))) qax) (qak (qav (qbj (qaa qac (qaa (pv 2) qah))))))))),?_⟩
  refine ⟨_,rfl,_,_,rfl,rfl,(show (0:Int) < 2147483647 by decide),24,rfl,by decide,by decide,qkr (n:=24) (fun i σ H'=>H'=H∧∃ x y v,σ=[some (.int n),some (.int x),some (.int y),v]∧0≤x∧x < 2147483647) ⟨rfl,_,_,_,rfl,Int.emod_nonneg _ (by decide),Int.emod_lt_of_pos _ (by decide)⟩ ?_ ?_⟩
  ·rintro i σ H' hi ⟨rfl,x,y,v,rfl,hx0,hx1⟩
   have hk:(0:Int)+(i:Int) < 24:=by omega
   refine ⟨_,rfl,_,rfl,_,_,rfl,rfl,.inl ⟨by omega,by omega⟩,_,rfl,_,_,rfl,rfl,.inl ⟨by decide,by decide⟩,_,rfl,_,_,rfl,rfl,.inr ⟨by omega,by omega⟩,_,_,rfl,rfl,_,rfl,_,_,rfl,rfl,_,_,rfl,rfl,_,_,rfl,rfl,(show (0:Int) < 2147483629 by decide),?_⟩
   have hm0:=Int.emod_nonneg (x * x+48271 * (0+(i:Int)) * (0+(i:Int))+(0+(i:Int))+3) (show (2147483629:Int)≠0 by decide)
   have hm1:=Int.emod_lt_of_pos (x * x+48271 * (0+(i:Int)) * (0+(i:Int))+(0+(i:Int))+3) (show (0:Int) < 2147483629 by decide)
   refine ⟨_,rfl,_,_,rfl,rfl,.inr ⟨by decide,by decide⟩,_,rfl,_,rfl,_,_,rfl,rfl,.inl ⟨by omega,by omega⟩,_,_,rfl,rfl,(show (0:Int) < 2147483587 by decide),_,_,rfl,rfl,?_⟩
   exact ⟨rfl,_,_,_,rfl,hm0,by omega⟩
  ·rintro σ H' ⟨rfl,x,y,v,rfl,_,_⟩
   refine ⟨_,rfl,_,_,rfl,rfl,⟨by decide,by decide,by decide⟩,_,_,rfl,rfl,_,rfl,ite2 (fun h=>?_) (fun h=>?_)⟩
   ·refine ⟨_,rfl,_,_,rfl,rfl,⟨by decide,by decide,by decide⟩,_,_,rfl,rfl,_,rfl,(show 2≤sizeLine by decide),fun p hp=>?_⟩
    exact k p _ _ hp
   ·refine ⟨_,rfl,(show 2≤sizeLine by decide),fun p hp=>?_⟩
    exact k p _ _ hp
end
end My
namespace My
open PySem L2
theorem nbT {b:Bool} (h:(!b)=true):b=false:=by cases b <;> first | rfl | cases h
theorem nbF {b:Bool} (h:¬ (!b)=true):b=true:=by cases b <;> first | rfl | exact absurd rfl h
structure Ent where
 nm:Str
 th:Int
 mr:Int
 ls:Int
 held:List (Str×Int×Int)
structure BA where
 dx:Addr
 dp:Addr
 dt:Addr
 dm:Addr
 dl:Addr
 dh:Addr
def bf (z:BA):List (Str×V):=[(("people":Str),V.ref z.dp),("things_of",.ref z.dt),("mark_of",.ref z.dm),("loss_of",.ref z.dl),("held_of",.ref z.dh)]
theorem qcp {g f:Str}{v:V}{r:List (Str×V)} (h:¬ f=g):List.lookup f ((g,v)::r)=List.lookup f r:=by
 rw [List.lookup_cons]
 have:(f == g)=false:=by simpa using h
 rw [this]
theorem qhr {f:Str}{v:V}{r:List (Str×V)}:List.lookup f ((f,v)::r)=some v:=by
 rw [List.lookup_cons]
 simp
theorem qfa (z:BA):(bf z).lookup ("people":Str)=some (V.ref z.dp):=qhr
theorem qh3 (z:BA):(bf z).lookup ("things_of":Str)=some (V.ref z.dt):=by
 unfold bf
 rw [qcp (by decide +kernel)]
 exact qhr
theorem qlt (z:BA):(bf z).lookup ("mark_of":Str)=some (V.ref z.dm):=by
 unfold bf
 rw [qcp (by decide +kernel),qcp (by decide +kernel)]
 exact qhr
theorem qlu (z:BA):(bf z).lookup ("loss_of":Str)=some (V.ref z.dl):=by
 unfold bf
 rw [qcp (by decide +kernel),qcp (by decide +kernel),qcp (by decide +kernel)]
 exact qhr
theorem qfb (z:BA):(bf z).lookup ("held_of":Str)=some (V.ref z.dh):=by
 unfold bf
 rw [qcp (by decide +kernel),qcp (by decide +kernel),qcp (by decide +kernel),qcp (by decide +kernel)]
 exact qhr
theorem qec (z:BA) {m:Str} (h1:¬ m="people") (h2:¬ m="things_of") (h3:¬ m="mark_of") (h4:¬ m="loss_of") (h5:¬ m="held_of"):(bf z).lookup m=none:=by
 unfold bf
 rw [qcp h1,qcp h2,qcp h3,qcp h4,qcp h5]
 rfl
def HeldAt (K:PySem.W.Frag) (H:Hp) (p:Addr) (l:List (Str×Int×Int)):Prop :=
 ∃ ts:List Addr,ts.length=l.length∧H p=some (.dK ((l.zip ts).map fun q=>(Sum.inr q.1.1,V.ref q.2)))∧∀ q∈l.zip ts,SqT K H q.2 [.int q.1.2.1,.int q.1.2.2]
def PmAt (H:Hp) (d:Addr) (S:List (Key×V)):Prop:=∃ T:List (Key×V),H d=some (.dK T)∧T.Perm S∧(S.map (·.1)).Nodup
theorem qiv {k:Key}{v:V}:∀ {l:List (Key×V)},(l.map (·.1)).Nodup→(valV l k=some v ↔ (k,v)∈l)
 | [],_=>⟨fun h=>(by cases h),fun h=>(by cases h)⟩
 | x::r,h=>by
  obtain ⟨h1,h2⟩:=List.nodup_cons.mp h
  have ih:=qiv (k:=k) (v:=v) h2
  unfold valV at ih ⊢
  rw [List.find?_cons]
  by_cases e:x.1=k
  ·rw [decide_eq_true e]
   constructor
   ·intro q
    have q:x.2=v:=Option.some.inj q
    rw [← q,← e]
    exact List.mem_cons_self
   ·intro q
    rcases List.mem_cons.mp q with q | q
    ·rw [← q];rfl
    ·exact absurd (List.mem_map.mpr ⟨(k,v),q,rfl⟩) (by rw [← e];exact h1)
  ·rw [decide_eq_false e]
   refine ih.trans ⟨fun q=>List.mem_cons_of_mem _ q,fun q=>?_⟩
   rcases List.mem_cons.mp q with q | q
   ·exact absurd (by rw [← q]) e
   ·exact q
theorem qlx {T S:List (Key×V)} (p:T.Perm S) (nd:(S.map (·.1)).Nodup) (k:Key):valV T k=valV S k:=by
 apply Option.ext
 intro v
 rw [qiv ((p.map (·.1)).nodup_iff.mpr nd),qiv nd,p.mem_iff]
theorem PmAt.keep {H H':Hp}{d:Addr}{S:List (Key×V)} (h:PmAt H d S) (k:∀ o,H d=some o→H' d=some o):PmAt H' d S:=by
 obtain ⟨T,e,p,n⟩:=h
 exact ⟨T,k _ e,p,n⟩
theorem PmAt.dget {H:Hp}{d:Addr}{S:List (Key×V)} (h:PmAt H d S) (x:Str):DGet H d (kV (Sum.inr x)) (valV S (Sum.inr x)):=by
 obtain ⟨T,e,p,n⟩:=h
 rw [← qlx p n]
 exact DGet.k e
theorem PmAt.keys {H:Hp}{d:Addr}{α:Type}{L:List α}{key:α→Str}{v:α→V} (h:PmAt H d (L.map fun e=>((Sum.inr (key e):Key),v e))):∃ (T:List (Key×V)) (ss:List Str),H d=some (.dK T)∧T.map (·.1)=ss.map Sum.inr∧ss.Perm (L.map key):=by
 obtain ⟨T,e,p,n⟩:=h
 have q:=p.map (·.1)
 rw [List.map_map] at q
 refine ⟨T,(T.map (·.1)).map fun k=>match k with | .inr s=>s | .inl _=>Str.empty,e,?_,?_⟩
 ·rw [List.map_map]
  refine ((List.map_id _).symm.trans (List.map_congr_left fun k hk=>?_))
  have:=q.mem_iff.mp hk
  obtain ⟨x,_,rfl⟩:=List.mem_map.mp this
  rfl
 ·have:=q.map fun k:Key=>match k with | .inr s=>s | .inl _=>Str.empty
  have e2:(L.map ((fun x=>x.1) ∘ fun e=>((Sum.inr (key e):Key),v e))).map (fun k:Key=>match k with | .inr s=>s | .inl _=>Str.empty)=L.map key:=by rw [List.map_map];rfl
  rw [e2] at this
  exact this
structure BookAt (K:PySem.W.Frag) (C:Addr) (H:Hp) (b:Addr) (z:BA) (ppl:List Str) (L:List (Ent×Addr)):Prop where
 ob:H b=some (.ins C z.dx (bf z))
 pp:H z.dp=some (.dK (ppl.map fun n=>(Sum.inr n,.bl true)))
 tt:H z.dt=some (.dK (L.map fun e=>(Sum.inr e.1.nm,.int e.1.th)))
 mm:H z.dm=some (.dK (L.map fun e=>(Sum.inr e.1.nm,.int e.1.mr)))
 ll:H z.dl=some (.dK (L.map fun e=>(Sum.inr e.1.nm,.int e.1.ls)))
 hh:PmAt H z.dh (L.map fun e=>(Sum.inr e.1.nm,.ref e.2))
 he:∀ e∈L,HeldAt K H e.2 e.1.held
 nd:(b::z.dp::z.dt::z.dm::z.dl::z.dh::L.map (·.2)).Nodup
 p6:ppl.length≤6
 h8:L.length≤8
def BFp (b:Addr) (z:BA) (L:List (Ent×Addr)):List Addr:=b::z.dp::z.dt::z.dm::z.dl::z.dh::L.map (·.2)
theorem qbd {K:PySem.W.Frag}{H H':Hp}{t:Addr}{xs:List V} (h:SqT K H t xs) (k:∀ c o,H c=some o→(∃ xs,o=.tup xs∨∃ ob,o=.frz ob (.tup xs))→H' c=some o):SqT K H' t xs:=by
 rcases h with (h | ⟨ob,h⟩) | h
 ·exact .inl (.inl (k _ _ h ⟨xs,.inl rfl⟩))
 ·exact .inl (.inr ⟨ob,k _ _ h ⟨xs,.inr ⟨ob,rfl⟩⟩⟩)
 ·exact .inr h
theorem HeldAt.keep {K:PySem.W.Frag}{H H':Hp}{p:Addr}{l:List (Str×Int×Int)} (h:HeldAt K H p l) (hp:∀ o,H p=some o→H' p=some o) (k:∀ c o,H c=some o→(∃ xs,o=.tup xs∨∃ ob,o=.frz ob (.tup xs))→H' c=some o):HeldAt K H' p l:=by
 obtain ⟨ts,e1,e2,e3⟩:=h
 exact ⟨ts,e1,hp _ e2,fun q hq=>qbd (e3 q hq) k⟩
theorem BookAt.keep {K:PySem.W.Frag}{C:Addr}{H H':Hp}{b:Addr}{z:BA}{ppl:List Str}{L:List (Ent×Addr)} (B:BookAt K C H b z ppl L) (k:∀ c o,H c=some o→(c∈BFp b z L∨∃ xs,o=.tup xs∨∃ ob,o=.frz ob (.tup xs))→H' c=some o):BookAt K C H' b z ppl L:=by
 refine ⟨k _ _ B.ob (.inl (by simp [BFp])),k _ _ B.pp (.inl (by simp [BFp])),k _ _ B.tt (.inl (by simp [BFp])),k _ _ B.mm (.inl (by simp [BFp])),k _ _ B.ll (.inl (by simp [BFp])),B.hh.keep (fun o h=>k _ _ h (.inl (by simp [BFp]))),fun e he=>?_,B.nd,B.p6,B.h8⟩
 refine (B.he e he).keep (fun o h=>k _ _ h (.inl ?_)) fun c o h x=>k c o h (.inr x)
 unfold BFp
 simp only [List.mem_cons]
 right;right;right;right;right;right
 exact List.mem_map.mpr ⟨e,he,rfl⟩
theorem BookAt.same {K:PySem.W.Frag}{C:Addr}{H H':Hp}{b:Addr}{z:BA}{ppl:List Str}{L:List (Ent×Addr)} (B:BookAt K C H b z ppl L) (s:Same H H'):BookAt K C H' b z ppl L:=B.keep fun c o h _=>s c o h
def hasH (L:List (Ent×Addr)) (n:Str):Bool:=(L.find? fun e=>decide (e.1.nm=n)).isSome
def hasP (ppl:List Str) (n:Str):Bool:=(ppl.find? fun m=>decide (m=n)).isSome
theorem qc4 {α:Type} (l:List α) (key:α→Str) (v:α→V) (n:Str):valV (l.map fun e=>((Sum.inr (key e):Key),v e)) (Sum.inr n)=(l.find? fun e=>decide (key e=n)).map v:=by
 unfold valV
 rw [List.find?_map,Option.map_map]
 have e:((fun kv:Key×V=>decide (kv.1=Sum.inr n)) ∘ fun e=>((Sum.inr (key e):Key),v e))=fun e=>decide (key e=n):=by
  funext x
  show decide ((Sum.inr (key x):Key)=Sum.inr n)=decide (key x=n)
  rw [key_rr]
 rw [e]
 rfl
section
variable {P:Program}{w:World}{K:PySem.W.Frag}{mg:Str→Option Value}{base:Heap}{a:Adr}{f:Addr}{fd:FuncData}
abbrev qdg:Stmt:=qcj (top 24) 0
theorem qj8:FnScope ["self"] ["self"] (qaj qdg):=⟨rfl,rfl,rfl,by decide +kernel,rfl,by decide +kernel,by decide +kernel⟩
theorem put_init (dp dt dm dl dh dx:Addr):putF "held_of" (.ref dh) (putF "loss_of" (.ref dl) (putF "mark_of" (.ref dm) (putF "things_of" (.ref dt) (putF "people" (.ref dp) []))))=bf ⟨dx,dp,dt,dm,dl,dh⟩:=by
 simp only [putF,if_neg (show ¬ ((Str.ofString "people")=Str.ofString "things_of") by decide +kernel),if_neg (show ¬ ((Str.ofString "people")=Str.ofString "mark_of") by decide +kernel),if_neg (show ¬ ((Str.ofString "people")=Str.ofString "loss_of") by decide +kernel),if_neg (show ¬ ((Str.ofString "people")=Str.ofString "held_of") by decide +kernel),if_neg (show ¬ ((Str.ofString "things_of")=Str.ofString "mark_of") by decide +kernel),if_neg (show ¬ ((Str.ofString "things_of")=Str.ofString "loss_of") by decide +kernel),if_neg (show ¬ ((Str.ofString "things_of")=Str.ofString "held_of") by decide +kernel),if_neg (show ¬ ((Str.ofString "mark_of")=Str.ofString "loss_of") by decide +kernel),if_neg (show ¬ ((Str.ofString "mark_of")=Str.ofString "held_of") by decide +kernel),if_neg (show ¬ ((Str.ofString "loss_of")=Str.ofString "held_of") by decide +kernel)]
 rfl
structure IniAt (C:Addr) (H0 H:Hp) (p dx:Addr) (fs:List (Str×V)) (ds:List Addr):Prop where
 ob:H p=some (.ins C dx fs)
 dd:∀ c∈ds,H c=some (.dK [])
 fr:∀ c∈ds,H0 c=none
 nd:(p::ds).Nodup
 kp:∀ c o,H0 c=some o→c≠p→H c=some o
 len:fs.length≤ds.length
theorem IniAt.at_ {C:Addr}{H0 H:Hp}{p dx d:Addr}{fs:List (Str×V)}{ds:List Addr} (I:IniAt C H0 H p dx fs ds) (h:H d=none):(upd H d (.dK [])) p=some (.ins C dx fs):=by
 rw [qag (qae I.ob h)]
 exact I.ob
theorem IniAt.step {C:Addr}{H0 H:Hp}{p dx d:Addr}{fs:List (Str×V)}{ds:List Addr}{f:Str} (I:IniAt C H0 H p dx fs ds) (h:H d=none) :
  IniAt C H0 (upd (upd H d (.dK [])) p (.ins C dx (putF f (.ref d) fs))) p dx (putF f (.ref d) fs) (ds++[d]):=by
 have n1:p≠d:=qae I.ob h
 obtain ⟨m1,m2⟩:=List.nodup_cons.mp I.nd
 have m3:d∉ds:=fun z=>by rw [I.dd d z] at h;cases h
 refine ⟨qab,fun c hc=>?_,fun c hc=>?_,?_,fun c o e hc=>?_,?_⟩
 ·rcases List.mem_append.mp hc with hc | hc
  ·have c1:c≠p:=fun z=>m1 (by rw [← z];exact hc)
   have c2:c≠d:=fun z=>m3 (by rw [← z];exact hc)
   rw [qag c1,qag c2]
   exact I.dd c hc
  ·rw [List.mem_singleton.mp hc,qag n1.symm,qab]
 ·rcases List.mem_append.mp hc with hc | hc
  ·exact I.fr c hc
  ·rw [List.mem_singleton.mp hc]
   cases q:H0 d with
   | none=>rfl
   | some o=>rw [I.kp d o q n1.symm] at h;cases h
 ·refine List.nodup_cons.mpr ⟨fun z=>?_,qer m2 m3⟩
  rcases List.mem_append.mp z with z | z
  ·exact m1 z
  ·exact n1 (List.mem_singleton.mp z)
 ·rw [qag hc,qag (fun z=>by rw [z] at e;rw [I.kp d o e (z ▸ hc)] at h;cases h)]
  exact I.kp c o e hc
 ·rw [List.length_append]
  exact Nat.le_trans (qfs _ _ _) (Nat.add_le_add_right I.len 1)
def qi7 (K:PySem.W.Frag) (C:Addr):Sp:=fun vs H Q _=>∃ (p dx:Addr),vs=[.ref p]∧H p=some (.ins C dx [])∧∀ z H',(∀ c∈[z.dp,z.dt,z.dm,z.dl,z.dh],H c=none)→BookAt K C H' p z [] []→(∀ c o,H c=some o→c≠p→H' c=some o)→Q .non H'
theorem ok_init (F:Fun K "__init__" "Book.__init__" qdg f fd) (T:Txt K mg a):FnOk P w K mg base (CXo P w) 1 f fd ["self"] (qi7 K a.Book):=by
 refine F.okN qj8 (fun vs H Q E h=>?_) (fun cdv A outer s H vs Q E hr h=>?_)
 ·obtain ⟨p,dx,rfl,_⟩:=h
  rfl
 ·obtain ⟨p,dx,rfl,hp,k⟩:=h
  have hu:=qbk hr
  refine ⟨_,(qaf (qf3 (pv 0) qfg rfl) (qaf (qf3 (pv 0) qfg rfl) (qaf (qf3 (pv 0) qfg rfl) (qaf (qf3 (pv 0) qfg rfl) (qak (qf3 (pv 0) qfg rfl)))))),?_⟩
  have I0:IniAt a.Book H H p dx [] []:=⟨hp,by simp,by simp,by simp,fun c o e _=>e,Nat.le_refl _⟩
  intro dp h1
  refine ⟨_,rfl,p,_,dx,_,rfl,I0.at_ h1,T.cl,T.nA_people,Nat.lt_of_le_of_lt I0.len (show 0 < 1000 by decide),?_⟩
  have I1:=I0.step (f:="people") h1
  intro dt h2
  refine ⟨_,rfl,p,_,dx,_,rfl,I1.at_ h2,T.cl,T.nA_things_of,Nat.lt_of_le_of_lt I1.len (show 1 < 1000 by decide),?_⟩
  have I2:=I1.step (f:="things_of") h2
  intro dm h3
  refine ⟨_,rfl,p,_,dx,_,rfl,I2.at_ h3,T.cl,T.nA_mark_of,Nat.lt_of_le_of_lt I2.len (show 2 < 1000 by decide),?_⟩
  have I3:=I2.step (f:="mark_of") h3
  intro dl h4
  refine ⟨_,rfl,p,_,dx,_,rfl,I3.at_ h4,T.cl,T.nA_loss_of,Nat.lt_of_le_of_lt I3.len (show 3 < 1000 by decide),?_⟩
  have I4:=I3.step (f:="loss_of") h4
  intro dh h5
  refine ⟨_,rfl,p,_,dx,_,rfl,I4.at_ h5,T.cl,T.nA_held_of,Nat.lt_of_le_of_lt I4.len (show 4 < 1000 by decide),?_⟩
  have I5:=I4.step (f:="held_of") h5
  refine k ⟨dx,dp,dt,dm,dl,dh⟩ _ (fun c hc=>I5.fr c (by simpa using hc)) ⟨?_,I5.dd dp (by simp),I5.dd dt (by simp),I5.dd dm (by simp),I5.dd dl (by simp),⟨[],I5.dd dh (by simp),.nil,List.nodup_nil⟩,fun e he=>(by cases he),I5.nd,Nat.zero_le _,Nat.zero_le _⟩ I5.kp
  rw [← put_init]
  exact I5.ob
abbrev qbv:Stmt:=qcj (top 24) 1
theorem qgx:FnScope ["self","name"] ["self","name"] (qaj qbv):=⟨rfl,rfl,rfl,by decide +kernel,rfl,by decide +kernel,by decide +kernel⟩
def qem (K:PySem.W.Frag) (C:Addr):Sp:=fun vs H Q _=>∃ b z ppl L x,vs=[.ref b,.str x]∧BookAt K C H b z ppl L∧Q (.bl (hasH L x)) H
theorem qlc (F:Fun K "is_house" "Book.is_house" qbv f fd) (T:Txt K mg a):FnOk P w K mg base (CXo P w) 1 f fd ["self","name"] (qem K a.Book):=by
 refine F.okN qgx (fun vs H Q E h=>?_) (fun cdv A outer s H vs Q E hr h=>?_)
 ·obtain ⟨b,z,ppl,L,x,rfl,_⟩:=h
  rfl
 ·obtain ⟨b,z,ppl,L,x,rfl,B,k⟩:=h
  have hu:=qbk hr
  refine ⟨_,(qak (qav (pe_cmp (ql6 hu (pv 1) (qch (pv 0) rfl))))),?_⟩
  refine ⟨_,rfl,_,rfl,b,_,_,_,_,rfl,B.ob,T.cl,T.nA_held_of,qfb z,_,_,rfl,B.hh.dget x,?_⟩
  rw [qc4,Option.isSome_map]
  exact k
abbrev qbp:Stmt:=qcj (top 24) 2
theorem qgk:FnScope ["self","name"] ["self","name"] (qaj qbp):=⟨rfl,rfl,rfl,by decide +kernel,rfl,by decide +kernel,by decide +kernel⟩
def qd3 (K:PySem.W.Frag) (C:Addr):Sp:=fun vs H Q _=>∃ b z ppl L x,vs=[.ref b,.str x]∧BookAt K C H b z ppl L∧Q (.bl (hasP ppl x || hasH L x)) H
theorem qkh (F:Fun K "is_holder" "Book.is_holder" qbp f fd) (T:Txt K mg a) (M_is_house:Mt P w K mg base a.Book "is_house" 1 ["self","name"] (qem K a.Book)):FnOk P w K mg base (CXo P w) 2 f fd ["self","name"] (qd3 K a.Book):=by
 refine F.okN qgk (fun vs H Q E h=>?_) (fun cdv A outer s H vs Q E hr h=>?_)
 ·obtain ⟨b,z,ppl,L,x,rfl,_⟩:=h
  rfl
 ·obtain ⟨b,z,ppl,L,x,rfl,B,k⟩:=h
  have hu:=qbk hr
  refine ⟨_,(qak (qav (pe_or (pe_cmp (ql6 hu (pv 1) (qch (pv 0) rfl))) (qij (qdh (pv 0) M_is_house (hr.mono (by first | decide | omega)) qan (qaa (pv 1) qah)))))),?_⟩
  refine ⟨_,rfl,_,rfl,b,_,_,_,_,rfl,B.ob,T.cl,T.nA_people,qfa z,_,_,rfl,DGet.k (k:=Sum.inr x) B.pp,_,rfl,ite2 (fun h=>?_) (fun h=>?_)⟩
  ·rw [qc4 (key:=fun n=>n),Option.isSome_map] at h
   unfold hasP at k
   rw [h] at k
   exact k
  ·rw [qc4 (key:=fun n=>n),Option.isSome_map] at h
   unfold hasP at k
   rw [Bool.eq_false_iff.mpr h] at k
   exact ⟨_,rfl,b,_,_,rfl,B.ob,qec z (by decide +kernel) (by decide +kernel) (by decide +kernel) (by decide +kernel) (by decide +kernel),_,rfl,b,z,ppl,L,x,rfl,B,k⟩
abbrev qbh:Stmt:=qcj (top 24) 3
theorem qf2:FnScope ["self","name"] ["self","name"] (qaj qbh):=⟨rfl,rfl,rfl,by decide +kernel,rfl,by decide +kernel,by decide +kernel⟩
def qby (K:PySem.W.Frag) (a:Adr):Sp:=fun vs H Q E=>∃ b z ppl L x,vs=[.ref b,.str x]∧BookAt K a.Book H b z ppl L∧Nm x∧(hasH L x=true→Q .non H)∧(hasH L x=false→E (.ref a.NoHouse) none H)
theorem qjj (F:Fun K "need_house" "Book.need_house" qbh f fd) (T:Txt K mg a) (M_is_house:Mt P w K mg base a.Book "is_house" 1 ["self","name"] (qem K a.Book)):FnOk P w K mg base (CXo P w) 2 f fd ["self","name"] (qby K a):=by
 refine F.okX qf2 (fun vs H Q E h=>?_) (fun cdv A outer s H vs Q E hr h=>?_)
 ·obtain ⟨b,z,ppl,L,x,rfl,_⟩:=h
  rfl
 ·obtain ⟨b,z,ppl,L,x,rfl,B,nm,k1,k2⟩:=h
  have hu:=qbk hr
  refine ⟨_,(qak (qbi (qd5 (qc3 (qdh (pv 0) M_is_house (hr.mono (by first | decide | omega)) qdl (qaa (pv 1) qah)))) (qak (qd6 T.x_NoHouse rfl T.c_NoHouse rfl (pe_fs (qka (qih (pv 1) qkb))) qkk)) qax)),?_⟩
  refine ⟨_,rfl,b,_,_,rfl,B.ob,qec z (by decide +kernel) (by decide +kernel) (by decide +kernel) (by decide +kernel) (by decide +kernel),_,rfl,b,z,ppl,L,x,rfl,B,_,rfl,ite2 (fun h=>?_) (fun h=>?_)⟩
  ·exact ⟨_,rfl,⟨x,rfl,nm⟩,fun y=>k2 (nbT h)⟩
  ·exact k1 (nbF h)
abbrev qbc:Stmt:=qcj (top 24) 4
theorem qfn:FnScope ["self","name"] ["self","name"] (qaj qbc):=⟨rfl,rfl,rfl,by decide +kernel,rfl,by decide +kernel,by decide +kernel⟩
def qdj (K:PySem.W.Frag) (a:Adr):Sp:=fun vs H Q E=>∃ b z ppl L x,vs=[.ref b,.str x]∧BookAt K a.Book H b z ppl L∧Nm x∧((hasP ppl x || hasH L x)=true→Q .non H)∧((hasP ppl x || hasH L x)=false→E (.ref a.NoHolder) none H)
theorem qia (F:Fun K "need_holder" "Book.need_holder" qbc f fd) (T:Txt K mg a) (M_is_holder:Mt P w K mg base a.Book "is_holder" 2 ["self","name"] (qd3 K a.Book)):FnOk P w K mg base (CXo P w) 3 f fd ["self","name"] (qdj K a):=by
 refine F.okX qfn (fun vs H Q E h=>?_) (fun cdv A outer s H vs Q E hr h=>?_)
 ·obtain ⟨b,z,ppl,L,x,rfl,_⟩:=h
  rfl
 ·obtain ⟨b,z,ppl,L,x,rfl,B,nm,k1,k2⟩:=h
  have hu:=qbk hr
  refine ⟨_,(qak (qbi (qd5 (qc3 (qdh (pv 0) M_is_holder (hr.mono (by first | decide | omega)) qdl (qaa (pv 1) qah)))) (qak (qd6 T.x_NoHolder rfl T.c_NoHolder rfl (pe_fs (qka (qih (pv 1) qkb))) qkk)) qax)),?_⟩
  refine ⟨_,rfl,b,_,_,rfl,B.ob,qec z (by decide +kernel) (by decide +kernel) (by decide +kernel) (by decide +kernel) (by decide +kernel),_,rfl,b,z,ppl,L,x,rfl,B,_,rfl,ite2 (fun h=>?_) (fun h=>?_)⟩
  ·exact ⟨_,rfl,⟨x,rfl,nm⟩,fun y=>k2 (nbT h)⟩
  ·exact k1 (nbF h)
abbrev qa9:Stmt:=qcj (top 24) 5
theorem qez:FnScope ["self","name"] ["self","name"] (qaj qa9):=⟨rfl,rfl,rfl,by decide +kernel,rfl,by decide +kernel,by decide +kernel⟩
def qe3 (a:Adr) (ppl:List Str) (L:List (Ent×Addr)) (x:Str):Option Addr:=if isNm x=false then some a.NoName else if (hasP ppl x || hasH L x)=true then some a.Twice else none
def qel (K:PySem.W.Frag) (a:Adr):Sp:=fun vs H Q E=>∃ b z ppl L x,vs=[.ref b,.str x]∧BookAt K a.Book H b z ppl L∧Nm x∧(qe3 a ppl L x=none→∀ H',Same H H'→Q .non H')∧(∀ c,qe3 a ppl L x=some c→∀ H',Same H H'→E (.ref c) none H')
theorem qlb (F:Fun K "need_new_name" "Book.need_new_name" qa9 f fd) (T:Txt K mg a) (F_is_name:Fn P w K mg base "is_name" 1 ["text"] qds) (M_is_holder:Mt P w K mg base a.Book "is_holder" 2 ["self","name"] (qd3 K a.Book)):FnOk P w K mg base (CXo P w) 3 f fd ["self","name"] (qel K a):=by
 refine F.okX qez (fun vs H Q E h=>?_) (fun cdv A outer s H vs Q E hr h=>?_)
 ·obtain ⟨b,z,ppl,L,x,rfl,_⟩:=h
  rfl
 ·obtain ⟨b,z,ppl,L,x,rfl,B,nm,k1,k2⟩:=h
  have hu:=qbk hr
  refine ⟨_,(qaf (qbi (qd5 (qc3 (qa1 F_is_name (hr.mono (by first | decide | omega)) rfl qdl (qaa (pv 1) qah)))) (qak (qd6 T.x_NoName rfl T.c_NoName rfl (pe_fs (qka (qih (pv 1) qkb))) qkk)) qax) (qak (qbi (qc3 (qdh (pv 0) M_is_holder (hr.mono (by first | decide | omega)) qdl (qaa (pv 1) qah))) (qak (qd6 T.x_Twice rfl T.c_Twice rfl (pe_fs (qka (qih (pv 1) qkb))) qkk)) qax))),?_⟩
  refine ⟨_,rfl,x,rfl,nm,fun H1 s1=>⟨_,rfl,ite2 (fun h=>?_) (fun h=>?_)⟩⟩
  ·refine ⟨_,rfl,⟨x,rfl,nm⟩,fun y=>k2 _ ?_ H1 s1⟩
   have h:isNm x=false:=nbT h
   unfold qe3
   rw [if_pos h]
  ·have h:isNm x=true:=nbF h
   have B1:=B.same s1
   refine ⟨_,rfl,b,_,_,rfl,B1.ob,qec z (by decide +kernel) (by decide +kernel) (by decide +kernel) (by decide +kernel) (by decide +kernel),_,rfl,b,z,ppl,L,x,rfl,B1,_,rfl,ite2 (fun h2=>?_) (fun h2=>?_)⟩
   ·refine ⟨_,rfl,⟨x,rfl,nm⟩,fun y=>k2 _ ?_ H1 s1⟩
    unfold qe3
    rw [if_neg (by rw [h];decide),if_pos h2]
   ·refine k1 ?_ H1 s1
    unfold qe3
    rw [if_neg (by rw [h];decide),if_neg h2]
end
end My
namespace My
open PySem L2
mutual
inductive D where
 | i (n:Int)
 | s (x:Str)
 | l (xs:DL)
 | t (xs:DL)
inductive DL where
 | nil
 | cons (x:D) (xs:DL)
end
mutual
def DAt (K:PySem.W.Frag) (H:Hp):D→V→Prop
 | .i n,v=>v=.int n
 | .s x,v=>v=.str x
 | .l xs,v=>∃ a vs,v=.ref a∧SqL K H a vs∧DLAt K H xs vs
 | .t xs,v=>∃ a vs,v=.ref a∧SqT K H a vs∧DLAt K H xs vs
def DLAt (K:PySem.W.Frag) (H:Hp):DL→List V→Prop
 | .nil,vs=>vs=[]
 | .cons x xs,vs=>∃ v r,vs=v::r∧DAt K H x v∧DLAt K H xs r
end
theorem same_sqL {K:PySem.W.Frag}{H H':Hp}{a:Addr}{xs:List V} (s:Same H H') (h:SqL K H a xs):SqL K H' a xs:=Same.seq s h
theorem qa6 {K:PySem.W.Frag}{H H':Hp}{a:Addr}{xs:List V} (s:Same H H') (h:SqT K H a xs):SqT K H' a xs:=qbd h fun c o e _=>s c o e
mutual
theorem DAt.same {K:PySem.W.Frag}{H H':Hp} (s:Same H H'):∀ (d:D) (v:V),DAt K H d v→DAt K H' d v
 | .i n,v,h=>h
 | .s x,v,h=>h
 | .l xs,v,h=>by
  obtain ⟨a,vs,e,q,r⟩:=h
  exact ⟨a,vs,e,same_sqL s q,DLAt.same s xs vs r⟩
 | .t xs,v,h=>by
  obtain ⟨a,vs,e,q,r⟩:=h
  exact ⟨a,vs,e,qa6 s q,DLAt.same s xs vs r⟩
theorem DLAt.same {K:PySem.W.Frag}{H H':Hp} (s:Same H H'):∀ (d:DL) (vs:List V),DLAt K H d vs→DLAt K H' d vs
 | .nil,vs,h=>h
 | .cons x xs,vs,h=>by
  obtain ⟨v,r,e,h1,h2⟩:=h
  exact ⟨v,r,e,DAt.same s x v h1,DLAt.same s xs r h2⟩
end
def qba (l:List (Str×Int×Int)) (n:Str):Str×Int×Int:=(l.find? fun q=>decide (q.1=n)).getD (n,0,1)
def qbf (L:List (Ent×Addr)) (n:Str):Option (Ent×Addr):=L.find? fun e=>decide (e.1.nm=n)
theorem qkq {L:List (Ent×Addr)}{n:Str}{e:Ent×Addr} (h:qbf L n=some e):hasH L n=true:=by unfold hasH;unfold qbf at h;rw [h];rfl
theorem qa7 {L:List (Ent×Addr)}{n:Str}{e:Ent×Addr} (h:qbf L n=some e):e∈L:=List.mem_of_find?_eq_some h
section
variable {P:Program}{w:World}{K:PySem.W.Frag}{mg:Str→Option Value}{base:Heap}{a:Adr}{f:Addr}{fd:FuncData}
abbrev qcf:Stmt:=qcj (top 24) 6
theorem qh8:FnScope ["self","name"] ["self","name"] (qaj qcf):=⟨rfl,rfl,rfl,by decide +kernel,rfl,by decide +kernel,by decide +kernel⟩
def qfi (a:Adr) (ppl:List Str) (L:List (Ent×Addr)) (x:Str):Option Addr:=match qe3 a ppl L x with
 | some c=>some c
 | none=>if 6≤ppl.length then some a.TooMany else none
def qhd (K:PySem.W.Frag) (a:Adr):Sp:=fun vs H Q E=>∃ b z ppl L x,vs=[.ref b,.str x]∧BookAt K a.Book H b z ppl L∧Nm x ∧
 (qfi a ppl L x=none→∀ H',BookAt K a.Book H' b z (ppl++[x]) L→(∀ c o,H c=some o→c≠z.dp→H' c=some o)→Q .non H')∧(∀ c,qfi a ppl L x=some c→∀ H',Same H H'→E (.ref c) none H')
theorem qho {ppl:List Str}{L:List (Ent×Addr)}{x:Str} (h:qe3 a ppl L x=none):isNm x=true∧hasP ppl x=false∧hasH L x=false:=by
 unfold qe3 at h
 split at h
 ·cases h
 ·split at h
  ·cases h
  ·rename_i h1 h2
   have h2:¬ (hasP ppl x || hasH L x)=true:=h2
   refine ⟨by simpa using h1,?_,?_⟩
   ·cases q:hasP ppl x with
    | false=>rfl
    | true=>rw [q] at h2;exact absurd rfl h2
   ·cases q:hasH L x with
    | false=>rfl
    | true=>rw [q,Bool.or_true] at h2;exact absurd rfl h2
theorem ok_person (F:Fun K "person" "Book.person" qcf f fd) (T:Txt K mg a) (M_need_new_name:Mt P w K mg base a.Book "need_new_name" 3 ["self","name"] (qel K a)):FnOk P w K mg base (CXo P w) 4 f fd ["self","name"] (qhd K a):=by
 refine F.okX qh8 (fun vs H Q E h=>?_) (fun cdv A outer s H vs Q E hr h=>?_)
 ·obtain ⟨b,z,ppl,L,x,rfl,_⟩:=h
  rfl
 ·obtain ⟨b,z,ppl,L,x,rfl,B,nm,k1,k2⟩:=h
  have hu:=qbk hr
  refine ⟨_,(qaf (qbw (qdh (pv 0) M_need_new_name (hr.mono (by first | decide | omega)) qdl (qaa (pv 1) qah))) (qaf (qbi (qau op_ge (qap qe9 rfl T.b_len qei (qaa (qch (pv 0) rfl) qah)) (qb6 rfl T.g_MOST_PERSONS T.r_MOST_PERSONS) (qay _)) (qak (qd6 T.x_TooMany rfl T.c_TooMany rfl qa5 qkk)) qax) (qak (qcx hu (qch (pv 0) rfl) (pv 1) qhl rfl)))),?_⟩
  refine ⟨_,rfl,b,_,_,rfl,B.ob,qec z (by decide +kernel) (by decide +kernel) (by decide +kernel) (by decide +kernel) (by decide +kernel),_,rfl,b,z,ppl,L,x,rfl,B,nm,fun hd H1 s1=>?_,fun c hc H1 s1=>?_⟩
  ·have B1:=B.same s1
   refine ⟨_,rfl,b,_,_,_,_,rfl,B1.ob,T.cl,T.nA_people,qfa z,_,_,rfl,B1.pp,_,_,rfl,rfl,_,rfl,ite2 (fun h=>?_) (fun h=>?_)⟩
   ·refine k2 _ ?_ H1 s1
    unfold qfi
    rw [hd]
    have h:(6:Int)≤((ppl.map fun n=>((Sum.inr n:Key),V.bl true)).length:Int):=of_decide_eq_true h
    rw [List.length_map] at h
    exact if_pos (by omega)
   ·have h:¬ (6:Int)≤((ppl.map fun n=>((Sum.inr n:Key),V.bl true)).length:Int):=fun z=>h (decide_eq_true z)
    rw [List.length_map] at h
    have hl:ppl.length < 6:=by omega
    have hno:valV (ppl.map fun n=>((Sum.inr n:Key),V.bl true)) (Sum.inr x)=none:=by
     rw [qc4 (key:=fun n=>n)]
     have:=(qho hd).2.1
     unfold hasP at this
     rw [Option.map_eq_none_iff]
     exact Option.isSome_eq_false_iff.mp this |> Option.isNone_iff_eq_none.mp
    refine ⟨_,rfl,b,_,_,_,_,rfl,B1.ob,T.cl,T.nA_people,qfa z,_,rfl,_,_,rfl,DPut.k (k:=Sum.inr x) B1.pp (by rw [List.length_map];exact Nat.lt_of_lt_of_le hl (by decide)),?_⟩
    have hdue:qfi a ppl L x=none:=by
     unfold qfi
     rw [hd]
     exact if_neg (by omega)
    refine k1 hdue _ ?_ fun c o e hc=>by rw [qag hc];exact s1 c o e
    obtain ⟨hb,hr1⟩:=List.nodup_cons.mp B1.nd
    obtain ⟨hp,hr2⟩:=List.nodup_cons.mp hr1
    have ne:∀ c,c∈z.dt::z.dm::z.dl::z.dh::L.map (·.2)→c≠z.dp:=fun c hc e=>hp (e ▸ hc)
    refine ⟨?_,?_,?_,?_,?_,?_,fun e he=>?_,B1.nd,by rw [List.length_append];simp;omega,B1.h8⟩
    ·rw [qag (fun e=>hb (by rw [e];simp))];exact B1.ob
    ·rw [qab,qen _ hno,List.map_append];rfl
    ·rw [qag (ne _ (by simp))];exact B1.tt
    ·rw [qag (ne _ (by simp))];exact B1.mm
    ·rw [qag (ne _ (by simp))];exact B1.ll
    ·exact B1.hh.keep fun o h=>by rw [qag (ne _ (by simp))];exact h
    ·refine (B1.he e he).keep (fun o h=>?_) fun c o h x=>?_
     ·rw [qag (ne _ (by simp only [List.mem_cons];right;right;right;right;exact List.mem_map.mpr ⟨e,he,rfl⟩))];exact h
     ·rw [qag (qki h B1.pp (by rcases x with ⟨xs,rfl | ⟨ob,rfl⟩⟩ <;> intro z <;> cases z))];exact h
  ·refine k2 c ?_ H1 s1
   unfold qfi
   rw [hc]
abbrev qct:Stmt:=qcj (top 24) 7
theorem qjf:FnScope ["self","name","owner","things","mark","loss"] ["self","name","owner","things","mark","loss"] (qaj qct):=⟨rfl,rfl,rfl,by decide +kernel,rfl,by decide +kernel,by decide +kernel⟩
def qe5 (a:Adr) (ppl:List Str) (L:List (Ent×Addr)) (x o:Str) (l:Int):Option Addr:=match qe3 a ppl L x with
 | some c=>some c
 | none=>if (hasP ppl o || hasH L o)=false then some a.NoHolder else if l < 0 then some a.NoLoss else if 8≤L.length then some a.TooMany else none
def qi8 (K:PySem.W.Frag) (a:Adr):Sp:=fun vs H Q E=>∃ b z ppl L x o t m l,vs=[.ref b,.str x,.str o,.int t,.int m,.int l]∧BookAt K a.Book H b z ppl L∧Nm x∧Nm o ∧
 (qe5 a ppl L x o l=none→∀ p H',H p=none→BookAt K a.Book H' b z ppl (L++[(⟨x,t,m,l,[(o,1,1)]⟩,p)])→(∀ c u,H c=some u→c∉[z.dt,z.dm,z.dl,z.dh]→H' c=some u)→Q .non H')∧(∀ c,qe5 a ppl L x o l=some c→∀ H',Same H H'→E (.ref c) none H')
theorem qd0 {L:List (Ent×Addr)}{x:Str} (v:Ent×Addr→V) (h:hasH L x=false):valV (L.map fun e=>((Sum.inr e.1.nm:Key),v e)) (Sum.inr x)=none:=by
 rw [qc4 (key:=fun e:Ent×Addr=>e.1.nm)]
 unfold hasH at h
 rw [Option.map_eq_none_iff]
 exact Option.isSome_eq_false_iff.mp h |> Option.isNone_iff_eq_none.mp
theorem ok_house (F:Fun K "house" "Book.house" qct f fd) (T:Txt K mg a) (M_need_new_name:Mt P w K mg base a.Book "need_new_name" 3 ["self","name"] (qel K a)) (M_need_holder:Mt P w K mg base a.Book "need_holder" 3 ["self","name"] (qdj K a))
  (F_need_loss:Fn P w K mg base "need_loss" 1 ["number"] (qd2 a)):FnOk P w K mg base (CXo P w) 4 f fd ["self","name","owner","things","mark","loss"] (qi8 K a):=by
 refine F.okX qjf (fun vs H Q E h=>?_) (fun cdv A outer s H vs Q E hr h=>?_)
 ·obtain ⟨b,z,ppl,L,x,o,t,m,l,rfl,_⟩:=h
  rfl
 ·obtain ⟨b,z,ppl,L,x,o,t,m,l,rfl,B,nm,no,k1,k2⟩:=h
  have hu:=qbk hr
  refine ⟨_,(qaf (qbw (qdh (pv 0) M_need_new_name (hr.mono (by first | decide | omega)) qdl (qaa (pv 1) qah))) (qaf (qbw (qdh (pv 0) M_need_holder (hr.mono (by first | decide | omega)) qdl (qaa (pv 2) qah))) (qaf (qbw (qa1 F_need_loss (hr.mono (by first | decide | omega)) rfl qdl (qaa (pv 5) qah))) (qaf (qbi (qau op_ge (qap qe9 rfl T.b_len qei (qaa (qch (pv 0) rfl) qah)) (qb6 rfl T.g_MOST_HOUSES T.r_MOST_HOUSES) (qay _)) (qak (qd6 T.x_TooMany rfl T.c_TooMany rfl qa5 qkk)) qax) (qaf (qcx hu (qch (pv 0) rfl) (pv 1) (pv 3) rfl) (qaf (qcx hu (qch (pv 0) rfl) (pv 1) (pv 4) rfl) (qaf (qcx hu (qch (pv 0) rfl) (pv 1) (pv 5) rfl) (qak (qcx hu (qch (pv 0) rfl) (pv 1) (pe_disp (ql3 (pv 2) (qb6 rfl T.g_ONE T.r_ONE) pps_nil) rfl rfl (by decide) (by decide)) rfl))))))))),?_⟩
  refine ⟨_,rfl,b,_,_,rfl,B.ob,qec z (by decide +kernel) (by decide +kernel) (by decide +kernel) (by decide +kernel) (by decide +kernel),_,rfl,b,z,ppl,L,x,rfl,B,nm,fun hd H1 s1=>?_,fun c hc H1 s1=>?_⟩
  ·have B1:=B.same s1
   refine ⟨_,rfl,b,_,_,rfl,B1.ob,qec z (by decide +kernel) (by decide +kernel) (by decide +kernel) (by decide +kernel) (by decide +kernel),_,rfl,b,z,ppl,L,o,rfl,B1,no,fun ho=>?_,fun ho=>?_⟩
   ·refine ⟨_,rfl,l,rfl,fun hl=>?_,fun hl=>?_⟩
    ·refine k2 _ ?_ H1 s1
     unfold qe5
     rw [hd]
     show (if (hasP ppl o || hasH L o)=false then some a.NoHolder else _)=_
     rw [if_neg (by rw [ho];decide),if_pos hl]
    ·obtain ⟨Th,eh,ph,nh⟩:=B1.hh
     have lTh:Th.length=L.length:=by rw [ph.length_eq,List.length_map]
     refine ⟨_,rfl,b,_,_,_,_,rfl,B1.ob,T.cl,T.nA_held_of,qfb z,_,_,rfl,eh,_,_,rfl,rfl,_,rfl,ite2 (fun h=>?_) (fun h=>?_)⟩
     ·refine k2 _ ?_ H1 s1
      have h:(8:Int)≤(Th.length:Int):=of_decide_eq_true h
      rw [lTh] at h
      unfold qe5
      rw [hd]
      show (if (hasP ppl o || hasH L o)=false then some a.NoHolder else _)=_
      rw [if_neg (by rw [ho];decide),if_neg (by omega),if_pos (by omega)]
     ·have h:¬ (8:Int)≤(Th.length:Int):=fun z=>h (decide_eq_true z)
      rw [lTh] at h
      have hl8:L.length < 8:=by omega
      have hdue:qe5 a ppl L x o l=none:=by
       unfold qe5
       rw [hd]
       show (if (hasP ppl o || hasH L o)=false then some a.NoHolder else _)=_
       rw [if_neg (by rw [ho];decide),if_neg (by omega),if_neg (by omega)]
      have hx:=(qho hd).2.2
      have sz:∀ {v:Ent×Addr→V},(L.map fun e=>((Sum.inr e.1.nm:Key),v e)).length < sizeLine:=fun {v}=>by rw [List.length_map];exact Nat.lt_of_lt_of_le hl8 (by decide)
      obtain ⟨hb,r1⟩:=List.nodup_cons.mp B1.nd
      obtain ⟨hp,r2⟩:=List.nodup_cons.mp r1
      obtain ⟨ht,r3⟩:=List.nodup_cons.mp r2
      obtain ⟨hm,r4⟩:=List.nodup_cons.mp r3
      obtain ⟨hll,r5⟩:=List.nodup_cons.mp r4
      obtain ⟨hh,r6⟩:=List.nodup_cons.mp r5
      refine ⟨_,rfl,_,rfl,b,_,_,_,_,rfl,B1.ob,T.cl,T.nA_things_of,qh3 z,_,rfl,_,_,rfl,DPut.k (k:=Sum.inr x) B1.tt sz,?_⟩
      have b_t:b≠z.dt:=fun e=>hb (by rw [e];simp)
      have b_m:b≠z.dm:=fun e=>hb (by rw [e];simp)
      have b_l:b≠z.dl:=fun e=>hb (by rw [e];simp)
      have b_h:b≠z.dh:=fun e=>hb (by rw [e];simp)
      have p_t:z.dp≠z.dt:=fun e=>hp (by rw [e];simp)
      have p_m:z.dp≠z.dm:=fun e=>hp (by rw [e];simp)
      have p_l:z.dp≠z.dl:=fun e=>hp (by rw [e];simp)
      have p_h:z.dp≠z.dh:=fun e=>hp (by rw [e];simp)
      have t_m:z.dt≠z.dm:=fun e=>ht (by rw [e];simp)
      have t_l:z.dt≠z.dl:=fun e=>ht (by rw [e];simp)
      have t_h:z.dt≠z.dh:=fun e=>ht (by rw [e];simp)
      have m_l:z.dm≠z.dl:=fun e=>hm (by rw [e];simp)
      have m_h:z.dm≠z.dh:=fun e=>hm (by rw [e];simp)
      have l_h:z.dl≠z.dh:=fun e=>hll (by rw [e];simp)
      refine ⟨_,rfl,_,rfl,b,_,_,_,_,rfl,(by rw [qag b_t];exact B1.ob),T.cl,T.nA_mark_of,qlt z,_,rfl,_,_,rfl,DPut.k (k:=Sum.inr x) (by rw [qag t_m.symm];exact B1.mm) sz,?_⟩
      refine ⟨_,rfl,_,rfl,b,_,_,_,_,rfl,(by rw [qag b_m,qag b_t];exact B1.ob),T.cl,T.nA_loss_of,qlu z,_,rfl,_,_,rfl,DPut.k (k:=Sum.inr x) (by rw [qag m_l.symm,qag t_l.symm];exact B1.ll) sz,?_⟩
      intro p hpn
      have e0:∀ c,c≠z.dt→c≠z.dm→c≠z.dl→∀ A B C,(upd (upd (upd H1 z.dt A) z.dm B) z.dl C) c=H1 c:=fun c c1 c2 c3 A B C=>by rw [qag c3,qag c2,qag c1]
      have q_t:p≠z.dt:=fun e=>by rw [e,qag t_l,qag t_m,qab] at hpn;cases hpn
      have q_m:p≠z.dm:=fun e=>by rw [e,qag m_l,qab] at hpn;cases hpn
      have q_l:p≠z.dl:=fun e=>by rw [e,qab] at hpn;cases hpn
      have hp1:H1 p=none:=by rw [e0 p q_t q_m q_l] at hpn;exact hpn
      have hp0:H p=none:=s1.free hp1
      have q_h:p≠z.dh:=fun e=>by rw [e,eh] at hp1;cases hp1
      have q_b:p≠b:=fun e=>by rw [e,B1.ob] at hp1;cases hp1
      have q_p:p≠z.dp:=fun e=>by rw [e,B1.pp] at hp1;cases hp1
      refine ⟨_,rfl,qab,[(Sum.inr o,.ref a.ONE)],rfl,(show 1≤15 by decide),_,rfl,b,_,_,_,_,rfl,(by rw [qag q_b.symm,qag q_b.symm,e0 b b_t b_m b_l];exact B1.ob),T.cl,T.nA_held_of,qfb z,_,rfl,_,_,rfl,DPut.k (k:=Sum.inr x) (by rw [qag q_h.symm,qag q_h.symm,e0 z.dh t_h.symm m_h.symm l_h.symm];exact eh) (by rw [lTh];exact Nat.lt_of_lt_of_le hl8 (by decide)),?_⟩
      have far:∀ c,c≠p→c≠z.dh→c≠z.dt→c≠z.dm→c≠z.dl→∀ A B C D E F,(upd (upd (upd (upd (upd (upd H1 z.dt A) z.dm B) z.dl C) p D) p E) z.dh F) c=H1 c:=fun c c1 c2 c3 c4 c5 A B C D E F=>by rw [qag c2,qag c1,qag c1,qag c5,qag c4,qag c3]
      refine k1 hdue p _ hp0 ?_ fun c u e hc=>?_
      ·refine ⟨?_,?_,?_,?_,?_,?_,fun e he=>?_,?_,B1.p6,by rw [List.length_append];exact hl8⟩
       ·rw [far b q_b.symm b_h b_t b_m b_l];exact B1.ob
       ·rw [far z.dp q_p.symm p_h p_t p_m p_l];exact B1.pp
       ·rw [qag t_h,qag q_t.symm,qag q_t.symm,qag t_l,qag t_m,qab,qen _ (qd0 _ hx),List.map_append];rfl
       ·rw [qag m_h,qag q_m.symm,qag q_m.symm,qag m_l,qab,qen _ (qd0 _ hx),List.map_append];rfl
       ·rw [qag l_h,qag q_l.symm,qag q_l.symm,qab,qen _ (qd0 _ hx),List.map_append];rfl
       ·have hv:valV Th (Sum.inr x)=none:=by rw [qlx ph nh];exact qd0 _ hx
        refine ⟨_,qab,?_,?_⟩
        ·rw [qen _ hv,List.map_append]
         exact ph.append_right _
        ·rw [List.map_append,List.map_append,List.map_cons,List.map_nil]
         refine qer nh fun hq=>?_
         obtain ⟨kv,hkv,ekv⟩:=List.mem_map.mp hq
         have e1:=(qiv (k:=kv.1) (v:=kv.2) nh).mpr hkv
         rw [ekv,qd0 _ hx] at e1
         cases e1
       ·rcases List.mem_append.mp he with he | he
        ·have he2:e.2∈L.map (·.2):=List.mem_map.mpr ⟨e,he,rfl⟩
         have d1:e.2≠z.dh:=fun q=>hh (q ▸ he2)
         have d2:e.2≠z.dt:=fun q=>ht (by rw [← q];simp only [List.mem_cons];right;right;right;exact he2)
         have d3:e.2≠z.dm:=fun q=>hm (by rw [← q];simp only [List.mem_cons];right;right;exact he2)
         have d4:e.2≠z.dl:=fun q=>hll (by rw [← q];simp only [List.mem_cons];right;exact he2)
         have d5:e.2≠p:=fun q=>by
          obtain ⟨ts,_,q2,_⟩:=B1.he e he
          rw [q,hp1] at q2
          cases q2
         refine (B1.he e he).keep (fun u h=>?_) fun c u h y=>?_
         ·rw [far e.2 d5 d1 d2 d3 d4];exact h
         ·have nt:∀ {q:Addr}{kv:List (Key×V)},H1 q=some (.dK kv)→c≠q:=fun hq=>qki h hq (by rcases y with ⟨xs,rfl | ⟨ob,rfl⟩⟩ <;> intro z <;> cases z)
          rw [far c (qae h hp1) (nt eh) (nt B1.tt) (nt B1.mm) (nt B1.ll)];exact h
        ·rw [List.mem_singleton.mp he]
         refine ⟨[a.ONE],rfl,?_,fun q hq=>?_⟩
         ·rw [qag q_h,qab];rfl
         ·rw [List.mem_singleton.mp hq]
          exact .inr T.one
       ·have hpL:p∉L.map (·.2):=fun hq=>by
         obtain ⟨e,he,rfl⟩:=List.mem_map.mp hq
         obtain ⟨ts,_,q2,_⟩:=B1.he e he
         rw [hp1] at q2
         cases q2
        have:=qer (k:=p) B1.nd (by
         intro hq
         simp only [List.mem_cons] at hq
         rcases hq with e | e | e | e | e | e | e
         ·exact q_b e
         ·exact q_p e
         ·exact q_t e
         ·exact q_m e
         ·exact q_l e
         ·exact q_h e
         ·exact hpL e)
        rw [List.map_append]
        exact this
      ·have e1:=s1 c u e
       have c0:c≠p:=qae e1 hp1
       simp only [List.mem_cons,List.not_mem_nil,or_false,not_or] at hc
       rw [far c c0 hc.2.2.2 hc.1 hc.2.1 hc.2.2.1]
       exact e1
   ·refine k2 _ ?_ H1 s1
    unfold qe5
    rw [hd]
    exact if_pos ho
  ·refine k2 c ?_ H1 s1
   unfold qe5
   rw [hc]
end
end My
namespace My
open PySem L2
def PairAt (K:PySem.W.Frag) (H:Hp) (q:Str×Int×Int) (v:V):Prop:=∃ t u,v=.ref t∧SqT K H t [.str q.1,.ref u]∧SqT K H u [.int q.2.1,.int q.2.2]
theorem PairAt.keep {K:PySem.W.Frag}{H H':Hp}{q:Str×Int×Int}{v:V} (h:PairAt K H q v) (k:∀ c o,H c=some o→(∃ xs,o=.tup xs∨∃ ob,o=.frz ob (.tup xs))→H' c=some o):PairAt K H' q v:=by
 obtain ⟨t,u,e,h1,h2⟩:=h
 exact ⟨t,u,e,qbd h1 k,qbd h2 k⟩
theorem qfl {H:Hp}{p:Addr}{xs:List V}{o':HO} (hp:H p=some (.lst xs)):∀ c o,H c=some o→(∃ xs,o=.tup xs∨∃ ob,o=.frz ob (.tup xs))→(upd H p o') c=some o:=fun c o h x=>by
 rw [qag (qki h hp (by rcases x with ⟨xs,rfl | ⟨ob,rfl⟩⟩ <;> intro z <;> cases z))]
 exact h
theorem qlw {l:List (Str×Int×Int)}{ts:List Addr} (hl:ts.length=l.length) {n:Str} (hn:n∈l.map (·.1)):∃ q,(l.zip ts).find? (fun q=>decide (q.1.1=n))=some q∧q∈l.zip ts∧q.1=qba l n∧(qba l n).1=n:=by
 have e:(l.zip ts).map (·.1)=l:=List.map_fst_zip (by omega)
 cases h:(l.zip ts).find? (fun q=>decide (q.1.1=n)) with
 | none =>
  exfalso
  rw [List.find?_eq_none] at h
  rw [← e,List.map_map] at hn
  obtain ⟨q,hq,e2⟩:=List.mem_map.mp hn
  exact h q hq (decide_eq_true e2)
 | some q =>
  have e2:l.find? (fun q=>decide (q.1=n))=some q.1:=by
   rw [← e,List.find?_map]
   show ((l.zip ts).find? (fun q=>decide (q.1.1=n))).map (·.1)=some q.1
   rw [h]
   rfl
  have e3:qba l n=q.1:=by unfold qba;rw [e2];rfl
  exact ⟨q,rfl,List.mem_of_find?_eq_some h,e3.symm,by rw [e3];simpa using List.find?_some h⟩
section
variable {P:Program}{w:World}{K:PySem.W.Frag}{mg:Str→Option Value}{base:Heap}{a:Adr}{f:Addr}{fd:FuncData}
abbrev qb5:Stmt:=qcj (top 24) 12
theorem qhh:FnScope ["self"] ["self"] (qaj qb5):=⟨rfl,rfl,rfl,by decide +kernel,rfl,by decide +kernel,by decide +kernel⟩
def qgg (K:PySem.W.Frag) (C:Addr):Sp:=fun vs H Q _=>∃ b z ppl L,vs=[.ref b]∧BookAt K C H b z ppl L∧∀ l,H l=none→Q (.ref l) (upd H l (.lst ((srt ppl).map V.str)))
theorem ok_persons (F:Fun K "persons" "Book.persons" qb5 f fd) (T:Txt K mg a):FnOk P w K mg base (CXo P w) 1 f fd ["self"] (qgg K a.Book):=by
 refine F.okN qhh (fun vs H Q E h=>?_) (fun cdv A outer s H vs Q E hr h=>?_)
 ·obtain ⟨b,z,ppl,L,rfl,_⟩:=h
  rfl
 ·obtain ⟨b,z,ppl,L,rfl,B,k⟩:=h
  have hu:=qbk hr
  refine ⟨_,(qak (qav (qap (qbg rfl) rfl T.b_sorted qbr (qaa (qch (pv 0) rfl) qah)))),?_⟩
  exact ⟨_,rfl,b,_,_,_,_,rfl,B.ob,T.cl,T.nA_people,qfa z,_,_,ppl,rfl,.inl B.pp,by rw [List.map_map];rfl,Nat.lt_of_le_of_lt B.p6 (by decide),k⟩
abbrev qcg:Stmt:=qcj (top 24) 13
theorem qh9:FnScope ["self"] ["self"] (qaj qcg):=⟨rfl,rfl,rfl,by decide +kernel,rfl,by decide +kernel,by decide +kernel⟩
def qey (K:PySem.W.Frag) (C:Addr):Sp:=fun vs H Q _=>∃ b z ppl L,vs=[.ref b]∧BookAt K C H b z ppl L∧∀ l,H l=none→Q (.ref l) (upd H l (.lst ((srt (L.map (·.1.nm))).map V.str)))
theorem ok_houses (F:Fun K "houses" "Book.houses" qcg f fd) (T:Txt K mg a):FnOk P w K mg base (CXo P w) 1 f fd ["self"] (qey K a.Book):=by
 refine F.okN qh9 (fun vs H Q E h=>?_) (fun cdv A outer s H vs Q E hr h=>?_)
 ·obtain ⟨b,z,ppl,L,rfl,_⟩:=h
  rfl
 ·obtain ⟨b,z,ppl,L,rfl,B,k⟩:=h
  have hu:=qbk hr
  refine ⟨_,(qak (qav (qap (qbg rfl) rfl T.b_sorted qbr (qaa (qch (pv 0) rfl) qah)))),?_⟩
  obtain ⟨Th,ss,eh,ek,ps⟩:=B.hh.keys
  rw [← qfm ps] at k
  exact ⟨_,rfl,b,_,_,_,_,rfl,B.ob,T.cl,T.nA_held_of,qfb z,_,_,ss,rfl,.inl eh,ek,by rw [ps.length_eq,List.length_map];exact Nat.lt_of_le_of_lt B.h8 (by decide),k⟩
theorem val_of {L:List (Ent×Addr)}{x:Str}{e:Ent×Addr} (v:Ent×Addr→V) (h:qbf L x=some e):valV (L.map fun e=>((Sum.inr e.1.nm:Key),v e)) (Sum.inr x)=some (v e):=by
 rw [qc4 (key:=fun e:Ent×Addr=>e.1.nm)]
 unfold qbf at h
 rw [h]
 rfl
abbrev qb1:Stmt:=qcj (top 24) 14
theorem sc_Book_shares:FnScope ["self","house","held"] ["self","house"] (qaj qb1):=⟨rfl,rfl,rfl,by decide +kernel,rfl,by decide +kernel,by decide +kernel⟩
def qex (K:PySem.W.Frag) (a:Adr):Sp:=fun vs H Q E=>∃ b z ppl L x,vs=[.ref b,.str x]∧BookAt K a.Book H b z ppl L∧Nm x ∧
 (∀ e,qbf L x=some e→e.1.held.length < 64∧∀ l ys H',H l=none→Same H H'→H' l=some (.lst ys)→Paired (PairAt K H') ((srt (e.1.held.map (·.1))).map (qba e.1.held)) ys→Q (.ref l) H')∧(qbf L x=none→E (.ref a.NoHouse) none H)
theorem ok_shares (F:Fun K "shares" "Book.shares" qb1 f fd) (T:Txt K mg a) (M_need_house:Mt P w K mg base a.Book "need_house" 2 ["self","name"] (qby K a)):FnOk P w K mg base (CXo P w) 3 f fd ["self","house"] (qex K a):=by
 refine F.okX sc_Book_shares (fun vs H Q E h=>?_) (fun cdv A outer s H vs Q E hr h=>?_)
 ·obtain ⟨b,z,ppl,L,x,rfl,_⟩:=h
  rfl
 ·obtain ⟨b,z,ppl,L,x,rfl,B,nm,k1,k2⟩:=h
  have hu:=qbk hr
  refine ⟨_,(qaf (qbw (qdh (pv 0) M_need_house (hr.mono (by first | decide | omega)) qdl (qaa (pv 1) qah))) (qaf (qaq (i:=2) sc_Book_shares.nd rfl (Or.inr rfl) (qdi hu (qch (pv 0) rfl) (pv 1) (fun _ _=>rfl))) (qak (qav (qfp (fr:=["held"]) (ix:=[2]) rfl (by exact (show CompOk ["self","house","held"] (qaj qb1) _ _ _ _ from ⟨rfl,by decide +kernel,rfl,by decide +kernel,by decide +kernel,by decide +kernel,by decide +kernel,by decide +kernel,rfl⟩)) (qd9 (qap (qbg rfl) rfl T.b_sorted qbr (qaa (pv 2) qah))) (fun _ _ _ _ _=>qf4) (fun _ _ _ _ _=>(qbn (qaa (pv 0) (qaa (qdi hu (pv 1) (pv 0) (fun _ _=>rfl)) qah))))))))),?_⟩
  refine ⟨_,rfl,b,_,_,rfl,B.ob,qec z (by decide +kernel) (by decide +kernel) (by decide +kernel) (by decide +kernel) (by decide +kernel),_,rfl,b,z,ppl,L,x,rfl,B,nm,fun h=>?_,fun h=>k2 ?_⟩
  ·cases he:qbf L x with
   | none=>unfold hasH at h;unfold qbf at he;rw [he] at h;cases h
   | some e =>
    obtain ⟨h64,k1⟩:=k1 e he
    obtain ⟨ts,hl,hd,hts⟩:=B.he e (qa7 he)
    have hkeys:(((e.1.held.zip ts).map fun q=>((Sum.inr q.1.1:Key),V.ref q.2)).map (·.1))=(e.1.held.map (·.1)).map Sum.inr:=by
     rw [List.map_map,List.map_map]
     have e1:(e.1.held.zip ts).map (·.1)=e.1.held:=List.map_fst_zip (by omega)
     conv=>rhs;rw [← e1,List.map_map]
     rfl
    refine ⟨_,rfl,b,_,_,_,_,rfl,B.ob,T.cl,T.nA_held_of,qfb z,_,rfl,_,.ref e.2,rfl,?_,_,rfl,e.2,_,e.1.held.map (·.1),rfl,.inl hd,hkeys,by rw [List.length_map];exact h64,fun l hl0=>?_⟩
    ·have:=B.hh.dget x;rw [val_of _ he] at this;exact this
    ·refine ⟨l,rfl,⟨_,SqL.of qab⟩,fun D hD=>?_⟩
     have lD:l≠D:=qae qab hD
     have hD0:H D=none:=by rw [qag lD.symm] at hD;exact hD
     have hDp:e.2≠D:=qae hd hD0
     refine qe8 (J:=Itl K l) (srt (e.1.held.map (·.1))).length (fun i ys H'=>Same H H'∧H' D=some (.lst ys)∧H' l=some (.lst ((srt (e.1.held.map (·.1))).map V.str))∧Paired (PairAt K H') (((srt (e.1.held.map (·.1))).take i).map (qba e.1.held)) ys)
      ⟨?_,qab,?_,.nil⟩ ?_ (fun i ys H' r=>r.2.1) (fun i ys H' hi r=>⟨_,.str ((srt (e.1.held.map (·.1)))[i]),SqL.of r.2.2.1,by simp [hi]⟩) ?_ ?_
     ·exact (qad hl0).trans (qad hD)
     ·rw [qag lD,qab]
     ·rw [qat,List.length_map];exact Nat.le_trans (Nat.le_of_lt h64) (by decide)
     ·rintro i ys Hx v H' hi ⟨s1,h1,h2,h3⟩ ⟨rfl,hy⟩ Kt Kf q1 q2
      have hv:=hy _ (SqL.of h2)
      have ev:v=.str ((srt (e.1.held.map (·.1)))[i]):=by
       rw [List.getElem?_map,List.getElem?_eq_getElem hi] at hv
       exact (Option.some.inj hv).symm
      subst ev
      have hmem:(srt (e.1.held.map (·.1)))[i]∈e.1.held.map (·.1):=(qaz _).mem_iff.mp (List.getElem_mem hi)
      obtain ⟨q,f1,f2,f3,f4⟩:=qlw hl hmem
      have hval:valV ((e.1.held.zip ts).map fun q=>((Sum.inr q.1.1:Key),V.ref q.2)) (Sum.inr ((srt (e.1.held.map (·.1)))[i]))=some (.ref q.2):=by
       rw [qc4 (key:=fun q:(Str×Int×Int)×Addr=>q.1.1),f1]
       rfl
      refine yesT ⟨_,rfl,_,rfl,_,rfl,e.2,.ref q.2,rfl,?_,(show 2≤sizeLine by decide),fun p hp=>?_⟩
      ·have:=DGet.k (k:=Sum.inr ((srt (e.1.held.map (·.1)))[i])) (s1 _ _ hd);rw [hval] at this;exact this
      ·have pD:D≠p:=qae h1 hp
       have pl:l≠p:=qae h2 hp
       refine q1 _ _ (by rw [qag pD];exact h1) ⟨?_,qab,?_,?_⟩
       ·intro c o hc
        rw [qag (fun z=>by rw [z] at hc;rw [hD0] at hc;cases hc),qag (qae (s1 c o hc) hp)]
        exact s1 c o hc
       ·rw [qag lD,qag pl];exact h2
       ·have kp:∀ c o,H' c=some o→(∃ xs,o=.tup xs∨∃ ob,o=.frz ob (.tup xs))→(upd (upd H' p (.tup [.str ((srt (e.1.held.map (·.1)))[i]),.ref q.2])) D (.lst (ys++[.ref p]))) c=some o:=fun c o hc x=>by
         rw [qfl (xs:=ys) (by rw [qag pD];exact h1) c o (by rw [qag (qae hc hp)];exact hc) x]
        have e5:((srt (e.1.held.map (·.1))).take (i+1)).map (qba e.1.held)=((srt (e.1.held.map (·.1))).take i).map (qba e.1.held)++[qba e.1.held ((srt (e.1.held.map (·.1)))[i])]:=by
         rw [List.take_add_one,List.getElem?_eq_getElem hi,List.map_append]
         rfl
        rw [e5]
        refine Paired.snoc (Paired.mapP h3 fun q v hq=>hq.keep kp) ⟨p,q.2,rfl,?_,?_⟩
        ·refine SqT.of ?_
         rw [qag pD.symm,qab,f4]
        ·rw [← f3]
         exact qbd (hts q f2) fun c o hc x=>kp c o (s1 c o hc) x
     ·rintro ys H' hy ⟨s1,h1,h2,h3⟩
      refine ⟨⟨_,SqL.of h2,by rw [List.length_map];exact Nat.le_refl _⟩,k1 D ys H' hD0 s1 h1 ?_⟩
      rw [List.take_length] at h3
      exact h3
  ·unfold hasH at h
   unfold qbf
   exact Option.isSome_eq_false_iff.mp h |> Option.isNone_iff_eq_none.mp
end
end My
namespace My
open PySem L2
def qbx (H:Hp) (p:Addr):Prop:=∃ x y,H p=some (.lst [.int x,.int y])
def Sm (x:Str):Prop:=x.length≤9∧∀ c∈x.cps.toList,c < 128
theorem Sm.nm {x:Str} (h:Sm x):Nm x:=⟨Nat.le_trans h.1 (by decide),fun c hc=>Nat.lt_trans (h.2 c hc) (by decide)⟩
theorem qg7 (x y:Str):(x++y).cps.toList=x.cps.toList++y.cps.toList:=PyProof.Rows.cps_toList_append x y
theorem qmc:∀ (ys:List Str),(∀ y∈ys,y.length≤1∧∀ c∈y.cps.toList,(97≤c∧c≤122))→(Str.join (Str.ofString "") ys).length≤ys.length∧∀ c∈(Str.join (Str.ofString "") ys).cps.toList,(97≤c∧c≤122)
 | [],_=>⟨Nat.le_refl _,fun c hc=>by cases hc⟩
 | [x],h=>⟨(h x (by simp)).1,(h x (by simp)).2⟩
 | x::y::r,h=>by
  obtain ⟨i1,i2⟩:=qmc (y::r) fun z hz=>h z (List.mem_cons_of_mem _ hz)
  obtain ⟨j1,j2⟩:=h x List.mem_cons_self
  have e:Str.join (Str.ofString "") (x::y::r)=x++Str.ofString ""++Str.join (Str.ofString "") (y::r):=rfl
  rw [e]
  refine ⟨?_,fun c hc=>?_⟩
  ·rw [qe4,qe4]
   have:(Str.ofString "").length=0:=rfl
   rw [List.length_cons]
   omega
  ·rw [qg7,qg7] at hc
   rcases List.mem_append.mp hc with hc | hc
   ·rcases List.mem_append.mp hc with hc | hc
    ·exact j2 c hc
    ·cases hc
   ·exact i2 c hc
theorem glue_few {ys:List Str} (h:∀ y∈ys,y.length≤1∧∀ c∈y.cps.toList,(97≤c∧c≤122)):(Txt.join (Str.ofString "") ys).length≤ys.length∧∀ c∈(Txt.join (Str.ofString "") ys).cps.toList,(97≤c∧c≤122):=by
 have e:Txt.join (Str.ofString "") ys=Str.join (Str.ofString "") ys:=StrLaws.glued_eq_join _ _
 rw [e]
 exact qmc ys h
theorem letters:∀ j,j < 26→(Str.ofString "abcdefghijklmnopqrstuvwxyz").cps.toList[j]?=some (97+j):=by decide +kernel
theorem letter {i:Int} (h0:0≤i) (h1:i < 26):atI (Str.ofString "abcdefghijklmnopqrstuvwxyz").cps.toList i=some (97+i.toNat):=by
 have e:i=(i.toNat:Int):=by omega
 have:=qai (letters i.toNat (by omega))
 rw [← e] at this
 exact this
theorem sum_ones {ys:List Str} (h:∀ y∈ys,y.length≤1):(ys.map (·.length)).sum≤ys.length:=by
 induction ys with
 | nil=>exact Nat.le_refl _
 | cons y r ih =>
  have:=ih fun z hz=>h z (List.mem_cons_of_mem _ hz)
  have:=h y List.mem_cons_self
  simp only [List.map_cons,List.sum_cons,List.length_cons]
  omega
section
variable {P:Program}{w:World}{K:PySem.W.Frag}{mg:Str→Option Value}{base:Heap}{a:Adr}{f:Addr}{fd:FuncData}
abbrev qb9:Stmt:=top 33
theorem sc__law_names:FnScope ["_law_purse_here","_law_letters","_law_first","_law_found","_law_k","_law_long","_law_tail"] ["_law_purse_here"] (qaj qb9):=⟨rfl,rfl,rfl,by decide +kernel,rfl,by decide +kernel,by decide +kernel⟩
def Wd (r:Int) (j:Nat) (w:Str):Prop:=Sm w∧isNm w=true∧w.cps.toList.head?=some (97+((r+7 * (0+(j:Int))) % 26).toNat)
def qi4:Sp:=fun vs H Q _=>∃ p,vs=[.ref p]∧qbx H p∧∀ (l:Addr) (ws:List Str) H',H l=none→H' l=some (.lst (ws.map V.str))→ws.length=14→(∀ w∈ws,Sm w)→(∃ r:Int,∀ j w,ws[j]?=some w→Wd r j w)→(∀ c o,H c=some o→c≠p→H' c=some o)→Q (.ref l) H'
theorem ok_names (F:Fun K "_law_names" "_law_names" qb9 f fd) (T:Txt K mg a) (F__law_take:Fn P w K mg base "_law_take" 1 ["_law_purse_here","_law_many"] qdy):FnOk P w K mg base (CXo P w) 2 f fd ["_law_purse_here"] qi4:=by
 refine F.okN sc__law_names (fun vs H Q E h=>?_) (fun cdv A outer s H vs Q E hr h=>?_)
 ·obtain ⟨p,rfl,_⟩:=h
  rfl
 ·obtain ⟨p,rfl,⟨x,y,hp⟩,k⟩:=h
  have hu:=qbk hr
  refine ⟨_,(qaf (qaq (i:=1) sc__law_names.nd rfl (Or.inr rfl) qa5) (qaf (qaq (i:=2) sc__law_names.nd rfl (Or.inl rfl) (qa1 F__law_take (hr.mono (by first | decide | omega)) rfl qan (qaa (pv 0) (qaa qac qah)))) (qaf (qaq (i:=3) sc__law_names.nd rfl (Or.inl rfl) (qbj qah)) (qaf (qgq PassesOwn.never rfl (qf5 rfl T.b_range (qaa qac qah)) (qbe (i:=4) sc__law_names.nd rfl (Or.inl rfl)) (qaf (qaq (i:=5) sc__law_names.nd rfl (Or.inl rfl) (qa1 F__law_take (hr.mono (by first | decide | omega)) rfl qan (qaa (pv 0) (qaa qac qah)))) (qaf (qaq (i:=6) sc__law_names.nd rfl (Or.inl rfl) (pe_bm PySem.F.plainAttrs_str PySem.F.slot_str_join PySem.F.type_str_join mt_join qa5 (qaa (qfp (fr:=["_law_letters","_law_purse_here"]) (ix:=[1,0]) rfl (by exact (show CompOk ["_law_purse_here","_law_letters","_law_first","_law_found","_law_k","_law_long","_law_tail"] (qaj qb9) _ _ _ _ from ⟨rfl,by decide +kernel,rfl,by decide +kernel,by decide +kernel,by decide +kernel,by decide +kernel,by decide +kernel,rfl⟩)) (qf5 rfl T.b_range (qaa (pv 5) qah)) (fun _ _ _ _ _=>qf4) (fun _ _ _ _ _=>(qam ix_str (pv 1) (qa1 F__law_take (hr.mono (by first | decide | omega)) rfl qan (qaa (pv 2) (qaa qac qah))) (fun _ _=>rfl)))) qah))) (qak (qbw (pe_bm PySem.F.plainAttrs_list PySem.F.slot_list_append PySem.F.type_list_append qf8 (pv 3) (qaa (qaw op_add_str (qam ix_str (pv 1) (qaw qgs (qaw qee (pv 2) (qaw qfk qac (pv 4))) qac) (fun _ _=>rfl)) (pv 6)) qah))))))) (qak (qav (pv 3))))))),?_⟩
  refine ⟨_,rfl,p,x,y,26,rfl,hp,by decide,by decide,fun r x1 y1 r0 r1=>?_⟩
  refine ⟨(show 0≤sizeLine by decide),fun l hl=>?_⟩
  have lp:p≠l:=qae qab hl
  have hl0:H l=none:=by rw [qag lp.symm] at hl;exact hl
  refine ⟨14,rfl,by decide,by decide,qkr (n:=14) (fun i σ H'=>∃ (ws:List Str) (v4 v5 v6:Option V),σ=[some (.ref p),some (.str (Str.ofString "abcdefghijklmnopqrstuvwxyz")),some (.int r),some (.ref l),v4,v5,v6]∧H' l=some (.lst (ws.map V.str))∧ws.length=i∧(∀ j w,ws[j]?=some w→Wd r j w)∧qbx H' p∧∀ c o,H c=some o→c≠p→H' c=some o)
   ⟨[],none,none,none,rfl,qab,rfl,by simp,⟨x1,y1,by rw [qag lp,qab]⟩,fun c o e hc=>by rw [qag (qae e hl0),qag hc];exact e⟩ ?_ ?_⟩
  ·rintro i σ H1 hi ⟨ws,v4,v5,v6,rfl,h1,h2,h3,⟨x2,y2,h4⟩,h5⟩
   refine ⟨_,rfl,p,x2,y2,8,rfl,h4,by decide,by decide,fun n x3 y3 n0 n1=>?_⟩
   have hb1:H1 l≠none:=by rw [h1];simp
   refine ⟨rfl,_,rfl,n,rfl,by omega,by omega,fun D hD=>?_⟩
   have pD:p≠D:=qae qab hD
   have hD1:H1 D=none:=by rw [qag pD.symm] at hD;exact hD
   have lD:l≠D:=qae h1 hD1
   refine qe8 (J:=Itr 0 n.toNat) n.toNat (fun j ys H'=>H' D=some (.lst ys)∧H' l=some (.lst (ws.map V.str))∧qbx H' p∧(∀ c o,H c=some o→c≠p→H' c=some o)∧∃ ss:List Str,ys=ss.map V.str∧ss.length=j∧∀ y∈ss,y.length≤1∧∀ c∈y.cps.toList,(97≤c∧c≤122))
    ⟨qab,by rw [qag lD,qag lp.symm];exact h1,⟨x3,y3,by rw [qag pD,qab]⟩,fun c o e hc=>by rw [qag (qae (h5 c o e hc) hD1),qag hc];exact h5 c o e hc,[],rfl,rfl,by simp⟩
    (Nat.le_trans (show n.toNat≤8 by omega) (by decide)) (fun j ys H' r=>r.1) (fun j ys H' hj r=>hj) ?_ ?_
   ·rintro j ys Hx v H' hj ⟨g1,g2,⟨x4,y4,g3⟩,g4,ss,rfl,g5,g6⟩ ⟨rfl,rfl⟩ Kt Kf q1 q2
    refine yesT ⟨_,rfl,_,rfl,p,x4,y4,26,rfl,g3,by decide,by decide,fun r' x5 y5 r0' r1'=>?_⟩
    have lp2:l≠p:=lp.symm
    refine ⟨_,_,97+r'.toNat,rfl,rfl,(by decide),letter r0' r1',?_⟩
    refine q1 _ _ (by rw [qag pD.symm];exact g1) ⟨qab,by rw [qag lD,qag lp2];exact g2,⟨x5,y5,by rw [qag pD,qab]⟩,fun c o e hc=>by rw [qag (fun z=>by rw [z] at e;have:=g4 D o e pD.symm;rw [g1] at this;cases this;rw [h5 D _ e pD.symm] at hD1;cases hD1),qag hc];exact g4 c o e hc,ss++[⟨#[97+r'.toNat]⟩],by rw [List.map_append];rfl,by rw [List.length_append,g5];rfl,?_⟩
    intro y hy
    rcases List.mem_append.mp hy with hy | hy
    ·exact g6 y hy
    ·rw [List.mem_singleton.mp hy]
     refine ⟨Nat.le_refl 1,fun c hc=>?_⟩
     have:c=97+r'.toNat:=by simpa using hc
     omega
   ·rintro ys H' hy ⟨g1,g2,⟨x4,y4,g3⟩,g4,ss,rfl,g5,g6⟩
    refine ⟨Nat.le_refl _,_,D,ss,rfl,rfl,SqL.of g1,?_,?_⟩
    ·have:=sum_ones fun y hy=>(g6 y hy).1
     have e0:(Str.ofString "").length=0:=rfl
     rw [e0]
     omega
    ·obtain ⟨j1,j2⟩:=glue_few g6
     have hm0:=Int.emod_nonneg (r+7 * (0+(i:Int))) (show (26:Int)≠0 by decide)
     have hm1:=Int.emod_lt_of_pos (r+7 * (0+(i:Int))) (show (0:Int) < 26 by decide)
     refine ⟨_,rfl,.inl ⟨rfl,_,SqL.of g2⟩,_,rfl,_,rfl,_,rfl,_,_,rfl,rfl,.inl ⟨by decide,by decide⟩,_,_,rfl,rfl,_,_,rfl,rfl,(show (0:Int) < 26 by decide),_,_,_,rfl,rfl,(by decide),letter hm0 hm1,_,rfl,_,_,rfl,rfl,?_,l,_,_,rfl,rfl,g2,?_,?_⟩
     ·exact Nat.le_trans (show 1+(Txt.join (Str.ofString "") ss).length≤9 by omega) (by decide)
     ·rw [List.length_map,h2];exact Nat.lt_of_lt_of_le hi (by decide)
     ·refine ⟨ws++[⟨#[97+((r+7 * (0+(i:Int))) % 26).toNat]⟩++Txt.join (Str.ofString "") ss],_,_,_,rfl,?_,by rw [List.length_append,h2];rfl,fun jj w hw=>?_,⟨x4,y4,by rw [qag lp];exact g3⟩,fun c o e hc=>by rw [qag (fun z=>by rw [z] at e;rw [hl0] at e;cases e)];exact g4 c o e hc⟩
      ·rw [qab,List.map_append];rfl
      ·by_cases hjj:jj < ws.length
       ·rw [List.getElem?_append_left hjj] at hw
        exact h3 jj w hw
       ·have ej:jj=i:=by
         have:=(List.getElem?_eq_some_iff.mp hw).1
         rw [List.length_append] at this
         simp at this
         omega
        subst ej
        rw [List.getElem?_append_right (by omega),h2,Nat.sub_self] at hw
        have hw:_=w:=Option.some.inj hw
        subst hw
        have l1:(⟨#[97+((r+7 * (0+(jj:Int))) % 26).toNat]⟩:Str).length=1:=rfl
        have lw:(⟨#[97+((r+7 * (0+(jj:Int))) % 26).toNat]⟩++Txt.join (Str.ofString "") ss:Str).length≤8:=by
         rw [qe4]
         omega
        have lw1:1≤(⟨#[97+((r+7 * (0+(jj:Int))) % 26).toNat]⟩++Txt.join (Str.ofString "") ss:Str).length:=by
         rw [qe4]
         omega
        have cw:∀ c∈(⟨#[97+((r+7 * (0+(jj:Int))) % 26).toNat]⟩++Txt.join (Str.ofString "") ss:Str).cps.toList,97≤c∧c≤122:=fun c hc=>by
         rw [qg7] at hc
         rcases List.mem_append.mp hc with hc | hc
         ·have:c=97+((r+7 * (0+(jj:Int))) % 26).toNat:=by simpa using hc
          omega
         ·exact j2 c hc
        refine ⟨⟨by omega,fun c hc=>by have:=cw c hc;omega⟩,?_,?_⟩
        ·unfold isNm
         rw [decide_eq_true lw1,decide_eq_true lw,Bool.true_and,Bool.true_and]
         refine List.all_eq_true.mpr fun c hc=>?_
         have:=cw c hc
         unfold low
         rw [decide_eq_true this.1,decide_eq_true this.2]
         rfl
        ·rw [qg7]
         rfl
  ·rintro σ H1 ⟨ws,v4,v5,v6,rfl,h1,h2,h3,h4,h5⟩
   exact ⟨_,rfl,k l ws H1 hl0 h1 h2 (fun w hw=>by obtain ⟨j,hj⟩:=List.getElem?_of_mem hw;exact (h3 j w hj).1) ⟨r,h3⟩ h5⟩
end
end My
namespace My
open PySem L2
theorem qlj:(Str.ofString "abcdefghijklmnopqrstuvwxyz").cps.toList=List.range' 97 26:=by decide +kernel
theorem in_letters (c:Nat):(!(!(Builtin.Str.occurrences (Str.ofString "abcdefghijklmnopqrstuvwxyz") ⟨#[c]⟩ 0 (Str.ofString "abcdefghijklmnopqrstuvwxyz").length 1).isEmpty))=!low c:=by
 rw [StrLaws.found_one,qlj]
 congr 1
 unfold low
 rw [Bool.eq_iff_iff,decide_eq_true_eq,List.mem_range'_1,Bool.and_eq_true,decide_eq_true_eq,decide_eq_true_eq]
 omega
theorem filter_all (l:List Nat):(l.filter fun c=>!low c)=[] ↔ l.all low=true:=by
 rw [List.filter_eq_nil_iff,List.all_eq_true]
 constructor
 ·intro h c hc
  have:=h c hc
  cases q:low c with
  | true=>rfl
  | false=>rw [q] at this;exact absurd rfl this
 ·intro h c hc
  rw [h c hc]
  decide
theorem qmk (ys:List V):eqLs ys []=decide (ys=[]):=by
 cases ys with
 | nil=>rfl
 | cons y r=>rfl
theorem qj0 (x:Str):(V.str x=V.str (Str.ofString "")) ↔ x.length=0:=by
 constructor
 ·intro h
  rw [V.str.inj h]
  rfl
 ·intro h
  obtain ⟨⟨l⟩⟩:=x
  have h:l.length=0:=h
  rw [List.eq_nil_of_length_eq_zero h]
  rfl
section
variable {P:Program}{w:World}{K:PySem.W.Frag}{mg:Str→Option Value}{base:Heap}{a:Adr}{f:Addr}{fd:FuncData}
abbrev qbt:Stmt:=top 34
theorem sc__law_is_name:FnScope ["_law_text","_law_strange"] ["_law_text"] (qaj qbt):=⟨rfl,rfl,rfl,by decide +kernel,rfl,by decide +kernel,by decide +kernel⟩
theorem qib (F:Fun K "_law_is_name" "_law_is_name" qbt f fd) (T:Txt K mg a):FnOk P w K mg base (CXo P w) 1 f fd ["_law_text"] qds:=by
 refine F.okN sc__law_is_name (fun vs H Q E h=>?_) (fun cdv A outer s H vs Q E hr h=>?_)
 ·obtain ⟨x,rfl,_⟩:=h
  rfl
 ·obtain ⟨x,rfl,nm,k⟩:=h
  have hu:=qbk hr
  refine ⟨_,(@qaf _ _ _ _ _ (ps_setcomp (i:=1) (fr:=[]) (ix:=[]) sc__law_is_name.nd rfl rfl rfl (by exact (show CompOk ["_law_text","_law_strange"] (qaj qbt) _ _ _ _ from ⟨rfl,by decide +kernel,rfl,by decide +kernel,by decide +kernel,by decide +kernel,by decide +kernel,by decide +kernel,rfl⟩)) (pi_str (pv 0)) (fun _ _ _ _ _=>(qg3 (qau qke (pv 0) qa5 (by with_unfolding_all rfl)))) (fun _ _ _ _ _=>(pv 0))) (@qak _ _ _ (@qav _ _ _ _ (@qkd _ _ _ _ _ _ _ (@qcn _ _ _ _ _ _ _ _ op_ne (pv 0) qa5 (qay _)) (@qkd _ _ _ _ _ _ _ (@qcn _ _ _ _ _ _ _ _ qji (@qap _ _ _ _ _ _ _ _ _ qgu rfl T.b_len qei (@qaa _ _ _ _ _ (pv 0) qah (by rfl)) (by decide) (by decide) (by rfl) (by rfl)) qac (qay _)) (@qij _ _ _ _ _ (@qcn _ _ _ _ _ _ _ _ (op_eqL (Nat.lt_of_succ_lt hu)) (pv 1) (@qbj _ _ _ _ qah) (qay _)))))))),?_⟩
  have hlen:x.length≤sizeLine:=Nat.le_trans nm.1 (by decide)
  refine ⟨_,rfl,x,rfl,fun D hD=>?_⟩
  refine qe8 (J:=Its x) x.cps.size (fun i ys H'=>H'=upd H D (.lst ys)∧ys=((x.cps.toList.take i).filter fun c=>!low c).map fun c=>V.str ⟨#[c]⟩) ⟨rfl,rfl⟩ hlen (fun i ys H' r=>by rw [r.1];exact qab) (fun i ys H' hi _=>hi) ?_ ?_
  ·rintro i ys H' v H'' hi ⟨rfl,rfl⟩ ⟨rfl,c,hc,rfl⟩ Kt Kf k1 k2
   have hc:x.cps.toList[i]?=some c:=by simpa using hc
   refine ⟨_,rfl,_,_,rfl,rfl,_,rfl,?_⟩
   rw [in_letters]
   refine ite2 (fun h=>?_) (fun h=>?_)
   ·refine ⟨_,rfl,k1 _ _ qab ⟨by rw [qiy],?_⟩⟩
    rw [List.take_add_one,hc,List.filter_append,List.map_append]
    show _=_++List.map _ (List.filter _ [c])
    rw [List.filter_cons,if_pos h]
    rfl
   ·refine k2 _ ⟨rfl,?_⟩
    rw [List.take_add_one,hc,List.filter_append]
    show _=List.map _ (_++List.filter _ [c])
    rw [List.filter_cons,if_neg h]
    simp
  ·rintro ys H' hl ⟨rfl,rfl⟩
   have e:List.take x.cps.size x.cps.toList=x.cps.toList:=List.take_of_length_le (by simp)
   rw [e]
   refine ⟨Nat.le_refl _,_,rfl,rfl,_,rfl,ite2 (fun h=>?_) (fun h=>?_)⟩
   ·have h0:¬ x.length=0:=fun z=>by rw [decide_eq_true ((qj0 x).mpr z)] at h;cases h
    refine ⟨_,rfl,x,rfl,hlen,_,_,rfl,rfl,_,rfl,ite2 (fun h=>?_) (fun h=>?_)⟩
    ·have h1:(x.length:Int) < 9:=of_decide_eq_true h
     refine ⟨_,rfl,(show 0≤sizeLine by decide),fun q hq=>?_⟩
     have qD:D≠q:=qae qab hq
     refine ⟨D,q,_,[],rfl,rfl,SqL.of (by rw [qag qD,qab]),SqL.of qab,by rw [List.all_map];simp [qe7],rfl,?_⟩
     have e2:eqLs ((x.cps.toList.filter fun c=>!low c).map fun c=>V.str ⟨#[c]⟩) []=isNm x:=by
      rw [qmk]
      unfold isNm
      rw [decide_eq_true (show 1≤x.length by omega),decide_eq_true (show x.length≤8 by omega),Bool.true_and,Bool.true_and,Bool.eq_iff_iff,decide_eq_true_eq,List.map_eq_nil_iff]
      exact filter_all _
     show Q (.bl (eqLs _ [])) _
     rw [e2]
     exact k _ ((qad hD).trans (qad hq))
    ·have h1:¬ (x.length:Int) < 9:=fun z=>h (decide_eq_true z)
     have e2:false=isNm x:=by unfold isNm;rw [decide_eq_false (show ¬ x.length≤8 by omega),Bool.and_false,Bool.false_and]
     show Q (.bl false) _
     rw [e2]
     exact k _ (qad hD)
   ·have h0:x.length=0:=(qj0 x).mp (of_decide_eq_true (nbF h))
    have e2:false=isNm x:=by unfold isNm;rw [decide_eq_false (show ¬ 1≤x.length by omega),Bool.false_and,Bool.false_and]
    show Q (.bl false) _
    rw [e2]
    exact k _ (qad hD)
abbrev qdu:Stmt:=top 45
theorem qk4:FnScope ["_law_purse_here","_law_words","_law_odd"] ["_law_purse_here","_law_words","_law_odd"] (qaj qdu):=⟨rfl,rfl,rfl,by decide +kernel,rfl,by decide +kernel,by decide +kernel⟩
def qfy:Sp:=fun vs H Q _=>∃ (p wl:Addr) (ws:List Str) (b:Bool),vs=[.ref p,.ref wl,.bl b]∧qbx H p∧H wl=some (.lst (ws.map V.str))∧wl≠p∧0 < ws.length∧ws.length < 1000∧(∀ w∈ws,Sm w) ∧
 ∀ x H',Sm x→qbx H' p→(∀ c o,H c=some o→c≠p→H' c=some o)→Q (.str x) H'
theorem odd_words:∀ w∈[Str.ofString "",Str.ofString "A",Str.ofString "ninefolds",Str.ofString "a b",Str.ofString "a1",Str.ofString "aB",Str.ofString "-",Str.ofString "zzzzzzzz"],Sm w:=by
 intro w hw
 simp only [List.mem_cons,List.not_mem_nil,or_false] at hw
 rcases hw with rfl | rfl | rfl | rfl | rfl | rfl | rfl | rfl <;> exact ⟨by decide +kernel,by decide +kernel⟩
theorem at_strs {ws:List Str}{r:Int} (h0:0≤r) (h1:r < ws.length):∃ w∈ws,atI (ws.map V.str) r=some (.str w):=by
 have hl:r.toNat < ws.length:=by omega
 refine ⟨ws[r.toNat],List.getElem_mem hl,?_⟩
 have e:r=(r.toNat:Int):=by omega
 have:=qai (xs:=ws.map V.str) (j:=r.toNat) (v:=.str ws[r.toNat]) (by simp [hl])
 rw [← e] at this
 exact this
theorem ok_one (F:Fun K "_law_one" "_law_one" qdu f fd) (T:Txt K mg a) (F__law_take:Fn P w K mg base "_law_take" 1 ["_law_purse_here","_law_many"] qdy):FnOk P w K mg base (CXo P w) 2 f fd ["_law_purse_here","_law_words","_law_odd"] qfy:=by
 refine F.okN qk4 (fun vs H Q E h=>?_) (fun cdv A outer s H vs Q E hr h=>?_)
 ·obtain ⟨p,wl,ws,b,rfl,_⟩:=h
  rfl
 ·obtain ⟨p,wl,ws,b,rfl,⟨x,y,hp⟩,hw,hwp,w0,w1,hs,k⟩:=h
  have hu:=qbk hr
  refine ⟨_,(@qaf _ _ _ _ _ (@qbi _ _ _ _ _ _ _ _ (PW.pt (qig (qc3 (pv 2)) (qgm (@qau _ _ _ _ _ _ _ _ qea (@qa1 _ _ _ _ _ _ _ _ _ _ _ F__law_take (hr.mono (by first | decide | omega)) rfl qan (@qaa _ _ _ _ _ (pv 0) (@qaa _ _ _ _ _ qac qah (by rfl)) (by rfl)) (by decide) (by rfl) (by rfl)) qac (qay _))))) (@qak _ _ _ (@qav _ _ _ _ (@qam _ _ _ _ _ _ _ qa0 (@PEI.get _ _ _ (pe_l8 qa5 qa5 qa5 qa5 qa5 qa5 qa5 qa5)) (@qa1 _ _ _ _ _ _ _ _ _ _ _ F__law_take (hr.mono (by first | decide | omega)) rfl qan (@qaa _ _ _ _ _ (pv 0) (@qaa _ _ _ _ _ qac qah (by rfl)) (by rfl)) (by decide) (by rfl) (by rfl)) (fun _ _=>rfl)))) qax) (@qak _ _ _ (@qav _ _ _ _ (@qam _ _ _ _ _ _ _ qa0 (pv 1) (@qa1 _ _ _ _ _ _ _ _ _ _ _ F__law_take (hr.mono (by first | decide | omega)) rfl qan (@qaa _ _ _ _ _ (pv 0) (@qaa _ _ _ _ _ (@qap _ _ _ _ _ _ _ _ _ qcu rfl T.b_len qei (@qaa _ _ _ _ _ (pv 1) qah (by rfl)) (by decide) (by decide) (by rfl) (by rfl)) qah (by rfl)) (by rfl)) (by decide) (by rfl) (by rfl)) (fun _ _=>rfl))))),?_⟩
  have last:∀ H1,qbx H1 p→(∀ c o,H c=some o→c≠p→H1 c=some o)→qej qdy [] E0 (qas (tVar 0) (qas (tCB (fun xs H Q=>∃ p ys,xs=[.ref p]∧(SqL K H p ys∨SqT K H p ys)∧Q (.int ys.length) H) (qas (tVar 1) tNil)) tNil)) [some (.ref p),some (.ref wl),some (.bl b)] H1 (fun y H2=>rIxL K (.ref wl) y H2 Q):=by
   rintro H1 ⟨x1,y1,hp1⟩ fr
   have hw1:=fr _ _ hw hwp
   refine ⟨_,rfl,_,rfl,wl,_,rfl,.inl (SqL.of hw1),p,x1,y1,_,rfl,hp1,?_,?_,fun r x2 y2 r0 r1=>?_⟩
   ·rw [List.length_map];omega
   ·rw [List.length_map]
    have:(ws.length:Int) < 1000:=by omega
    exact Int.lt_trans this (by decide)
   ·rw [List.length_map] at r1
    obtain ⟨z,hz,e⟩:=at_strs r0 r1
    refine ⟨wl,_,r,_,rfl,rfl,SqL.of (by rw [qag hwp];exact hw1),e,?_⟩
    exact k z _ (hs z hz) ⟨x2,y2,qab⟩ fun c o hc hcp=>by rw [qag hcp];exact fr c o hc hcp
  refine ⟨_,rfl,_,rfl,ite2 (fun h=>?_) (fun h=>?_)⟩
  ·refine ⟨_,rfl,p,x,y,8,rfl,hp,by decide,by decide,fun r x1 y1 r0 r1=>?_⟩
   refine ⟨rfl,_,rfl,ite2 (fun h=>?_) (fun h=>?_)⟩
   ·refine ⟨(show 8≤sizeLine by decide),fun l hl=>?_⟩
    have lp:p≠l:=qae qab hl
    have hl0:H l=none:=by rw [qag lp.symm] at hl;exact hl
    refine ⟨_,rfl,p,x1,y1,8,rfl,(by rw [qag lp,qab]),by decide,by decide,fun r' x2 y2 r0' r1'=>?_⟩
    obtain ⟨z,hz,e⟩:=at_strs (ws:=[Str.ofString "",Str.ofString "A",Str.ofString "ninefolds",Str.ofString "a b",Str.ofString "a1",Str.ofString "aB",Str.ofString "-",Str.ofString "zzzzzzzz"]) r0' (by simpa using r1')
    refine ⟨l,_,r',_,rfl,rfl,SqL.of (by rw [qag lp.symm,qab];rfl),e,?_⟩
    exact k z _ (odd_words z hz) ⟨x2,y2,qab⟩ fun c o hc hcp=>by rw [qag hcp,qag (qae hc hl0),qag hcp];exact hc
   ·exact ⟨_,rfl,last _ ⟨x1,y1,qab⟩ fun c o hc hcp=>by rw [qag hcp];exact hc⟩
  ·exact ⟨_,rfl,last _ ⟨x,y,hp⟩ fun c o hc hcp=>hc⟩
end
end My
namespace My
open PySem L2
def pick4 (a b c d r:Int):Int:=if r=0 then a else if r=1 then b else if r=2 then c else d
theorem at4 {a b c d r:Int} (h0:0≤r) (h1:r < 4):atI [V.int a,V.int b,V.int c,V.int d] r=some (.int (pick4 a b c d r)):=by
 have c4:r=0∨r=1∨r=2∨r=3:=by omega
 rcases c4 with rfl | rfl | rfl | rfl
 ·exact qai (j:=0) rfl
 ·exact qai (j:=1) rfl
 ·exact qai (j:=2) rfl
 ·exact qai (j:=3) rfl
theorem pick4_pos {a b c d r:Int} (h0:0≤r) (h1:r < 4) (ha:0 < a) (hb:0 < b) (hc:0 < c) (hd:0 < d):0 < pick4 a b c d r:=by
 unfold pick4
 split
 ·exact ha
 ·split
  ·exact hb
  ·split
   ·exact hc
   ·exact hd
theorem pick4_lt {a b c d r m:Int} (ha:a < m) (hb:b < m) (hc:c < m) (hd:d < m):pick4 a b c d r < m:=by
 unfold pick4
 split
 ·exact ha
 ·split
  ·exact hb
  ·split
   ·exact hc
   ·exact hd
section
variable {P:Program}{w:World}{K:PySem.W.Frag}{mg:Str→Option Value}{base:Heap}{a:Adr}{f:Addr}{fd:FuncData}
abbrev qcb:Stmt:=top 46
theorem sc__law_number:FnScope ["_law_purse_here","_law_sort"] ["_law_purse_here"] (qaj qcb):=⟨rfl,rfl,rfl,by decide +kernel,rfl,by decide +kernel,by decide +kernel⟩
def qdk:Sp:=fun vs H Q _=>∃ p,vs=[.ref p]∧qbx H p∧∀ n H',qbx H' p→(∀ c o,H c=some o→c≠p→H' c=some o)→Q (.int n) H'
theorem ok_number (F:Fun K "_law_number" "_law_number" qcb f fd) (T:Txt K mg a) (F__law_take:Fn P w K mg base "_law_take" 1 ["_law_purse_here","_law_many"] qdy):FnOk P w K mg base (CXo P w) 2 f fd ["_law_purse_here"] qdk:=by
 refine F.okN sc__law_number (fun vs H Q E h=>?_) (fun cdv A outer s H vs Q E hr h=>?_)
 ·obtain ⟨p,rfl,_⟩:=h
  rfl
 ·obtain ⟨p,rfl,⟨x,y,hp⟩,k⟩:=h
  have hu:=qbk hr
  refine ⟨_,(@qaf _ _ _ _ _ (@qaq _ _ (1) _ _ _ _ sc__law_number.nd rfl (Or.inl rfl) (@qa1 _ _ _ _ _ _ _ _ _ _ _ F__law_take (hr.mono (by first | decide | omega)) rfl qan (@qaa _ _ _ _ _ (pv 0) (@qaa _ _ _ _ _ qac qah (by rfl)) (by rfl)) (by decide) (by rfl) (by rfl)) (by rfl) (by first | exact .inl rfl | exact .inr rfl | assumption)) (@qak _ _ _ (@qav _ _ _ _ (@qaw _ _ _ _ _ _ _ _ qil (@qa1 _ _ _ _ _ _ _ _ _ _ _ F__law_take (hr.mono (by first | decide | omega)) rfl qan (@qaa _ _ _ _ _ (pv 0) (@qaa _ _ _ _ _ (@qam _ _ _ _ _ _ _ qa0 (@PEI.get _ _ _ (pe_l4 qac qac (@qaw _ _ _ _ _ _ _ _ qee (@qaw _ _ _ _ _ _ _ _ qfk qac (@qaw _ _ _ _ _ _ _ _ qfj qac qac)) qac) (@qaw _ _ _ _ _ _ _ _ qil (@qaw _ _ _ _ _ _ _ _ qfk qac (@qaw _ _ _ _ _ _ _ _ qfj qac qac)) qac))) (pv 1) (fun _ _=>rfl)) qah (by rfl)) (by rfl)) (by decide) (by rfl) (by rfl)) (@qam _ _ _ _ _ _ _ qa0 (@PEI.get _ _ _ (pe_l4 qac qac (@qaw _ _ _ _ _ _ _ _ qfj qac qac) (@qaw _ _ _ _ _ _ _ _ qil (@qaw _ _ _ _ _ _ _ _ qfj qac qac) qac))) (pv 1) (fun _ _=>rfl)))))),?_⟩
  refine ⟨_,rfl,p,x,y,4,rfl,hp,by decide,by decide,fun r x1 y1 r0 r1=>?_⟩
  refine ⟨_,rfl,_,_,rfl,rfl,⟨by decide,by decide,by decide⟩,_,_,rfl,rfl,.inl ⟨by decide,by decide⟩,_,_,rfl,rfl,_,_,rfl,rfl,⟨by decide,by decide,by decide⟩,_,_,rfl,rfl,.inl ⟨by decide,by decide⟩,_,_,rfl,rfl,(show 4≤sizeLine by decide),fun l hl=>?_⟩
  have lp:p≠l:=qae qab hl
  have hl0:H l=none:=by rw [qag lp.symm] at hl;exact hl
  refine ⟨_,rfl,l,_,r,_,rfl,rfl,SqL.of qab,at4 r0 r1,p,x1,y1,_,rfl,(by rw [qag lp,qab]),pick4_pos r0 r1 (by decide) (by decide) (by decide) (by decide),pick4_lt (by decide) (by decide) (by decide) (by decide),fun r' x2 y2 r0' r1'=>?_⟩
  refine ⟨_,_,rfl,rfl,⟨by decide,by decide,by decide⟩,_,_,rfl,rfl,⟨by decide,by decide,by decide⟩,_,_,rfl,rfl,(show 4≤sizeLine by decide),fun l2 hl2=>?_⟩
  have l2p:p≠l2:=qae qab hl2
  have hl20:=hl2
  rw [qag l2p.symm] at hl20
  have l2l:l≠l2:=qae qab hl20
  have hl2H:H l2=none:=by rw [qag l2l.symm,qag l2p.symm] at hl20;exact hl20
  refine ⟨_,rfl,l2,_,r,_,rfl,rfl,SqL.of qab,at4 r0 r1,_,_,rfl,rfl,?_⟩
  exact k _ _ ⟨x2,y2,by rw [qag l2p,qab]⟩ fun c o hc hcp=>by rw [qag (qae hc hl2H),qag hcp,qag (qae hc hl0),qag hcp];exact hc
end
end My
namespace My
open PySem L2
section
variable {P:Program}{w:World}{K:PySem.W.Frag}{mg:Str→Option Value}{base:Heap}{a:Adr}{f:Addr}{fd:FuncData}
end
end My
namespace My
open PySem L2
structure WhichAt (K:PySem.W.Frag) (a:Adr) (C:Addr) (j:Nat):Prop where
 lt:j < 9
 k0:PySem.W.kitOne K (.ref C) (.ref a.NoName)=some (j == 0)
 k1:PySem.W.kitOne K (.ref C) (.ref a.Twice)=some (j == 1)
 k2:PySem.W.kitOne K (.ref C) (.ref a.TooMany)=some (j == 2)
 k3:PySem.W.kitOne K (.ref C) (.ref a.NoHolder)=some (j == 3)
 k4:PySem.W.kitOne K (.ref C) (.ref a.NoHouse)=some (j == 4)
 k5:PySem.W.kitOne K (.ref C) (.ref a.NoLoss)=some (j == 5)
 k6:PySem.W.kitOne K (.ref C) (.ref a.NoShare)=some (j == 6)
 k7:PySem.W.kitOne K (.ref C) (.ref a.NoText)=some (j == 7)
 k8:PySem.W.kitOne K (.ref C) (.ref a.Whole)=some (j == 8)
 kv:PySem.W.kitOne K (.ref C) (.type "ValueError")=some true
 ko:PySem.W.kitOne K (.ref C) (.ref a.OwnError)=some true
section
variable {P:Program}{w:World}{K:PySem.W.Frag}{mg:Str→Option Value}{base:Heap}{a:Adr}{f:Addr}{fd:FuncData}
abbrev qb8:Stmt:=top 39
theorem sc__law_which:FnScope ["_law_e","_law_found"] ["_law_e"] (qaj qb8):=⟨rfl,rfl,rfl,by decide +kernel,rfl,by decide +kernel,by decide +kernel⟩
def qi1 (K:PySem.W.Frag) (a:Adr):Sp:=fun vs H Q _=>∃ p C j,vs=[.ref p]∧H p=some (excO C p)∧Exc K C∧WhichAt K a C j∧∀ l H',H l=none→Same H H'→H' l=some (.lst [.int j])→Q (.ref l) H'
theorem ok_which (F:Fun K "_law_which" "_law_which" qb8 f fd) (T:Txt K mg a):FnOk P w K mg base (CXo P w) 1 f fd ["_law_e"] (qi1 K a):=by
 refine F.okN sc__law_which (fun vs H Q E h=>?_) (fun cdv A outer s H vs Q E hr h=>?_)
 ·obtain ⟨p,C,j,rfl,_⟩:=h
  rfl
 ·obtain ⟨p,C,j,rfl,hp,Z,W,k⟩:=h
  have hu:=qbk hr
  refine ⟨_,(qaf (qaq (i:=1) sc__law_which.nd rfl (Or.inr rfl) (qbj (qaa (qap qc1 rfl T.b_isinstance qa8 (qaa (pv 0) (qaa (qb6 (v:=.ref a.NoName) rfl T.c_NoName rfl) qah))) (qaa (qap qc1 rfl T.b_isinstance qa8 (qaa (pv 0) (qaa (qb6 (v:=.ref a.Twice) rfl T.c_Twice rfl) qah))) (qaa (qap qc1 rfl T.b_isinstance qa8 (qaa (pv 0) (qaa (qb6 (v:=.ref a.TooMany) rfl T.c_TooMany rfl) qah))) (qaa (qap qc1 rfl T.b_isinstance qa8 (qaa (pv 0) (qaa (qb6 (v:=.ref a.NoHolder) rfl T.c_NoHolder rfl) qah))) qah)))))) (qaf (qaq (i:=1) sc__law_which.nd rfl (Or.inr rfl) (qaw qep (pv 1) (qbj (qaa (qap qc1 rfl T.b_isinstance qa8 (qaa (pv 0) (qaa (qb6 (v:=.ref a.NoHouse) rfl T.c_NoHouse rfl) qah))) (qaa (qap qc1 rfl T.b_isinstance qa8 (qaa (pv 0) (qaa (qb6 (v:=.ref a.NoLoss) rfl T.c_NoLoss rfl) qah))) (qaa (qap qc1 rfl T.b_isinstance qa8 (qaa (pv 0) (qaa (qb6 (v:=.ref a.NoShare) rfl T.c_NoShare rfl) qah))) qah)))))) (qaf (qaq (i:=1) sc__law_which.nd rfl (Or.inr rfl) (qaw qep (pv 1) (qbj (qaa (qap qc1 rfl T.b_isinstance qa8 (qaa (pv 0) (qaa (qb6 (v:=.ref a.NoText) rfl T.c_NoText rfl) qah))) (qaa (qap qc1 rfl T.b_isinstance qa8 (qaa (pv 0) (qaa (qb6 (v:=.ref a.Whole) rfl T.c_Whole rfl) qah))) qah))))) (qaf (qbi (PW.pt (qhi (qd5 (qc3 (qap qc1 rfl T.b_isinstance qa8 (qaa (pv 0) (qaa (pe_bltn (v:=.ty "ValueError") rfl T.b_ValueError qjt rfl) qah))))) (qe2 (qd5 (qc3 (qap qc1 rfl T.b_isinstance qa8 (qaa (pv 0) (qaa (qb6 (v:=.ref a.OwnError) rfl T.c_OwnError rfl) qah)))))))) (qak (qav (qbj qah))) qax) (qak (qav (qfp (fr:=["_law_found"]) (ix:=[1]) rfl (by exact (show CompOk ["_law_e","_law_found"] (qaj qb8) _ _ _ _ from ⟨rfl,by decide +kernel,rfl,by decide +kernel,by decide +kernel,by decide +kernel,by decide +kernel,by decide +kernel,rfl⟩)) (qf5 rfl T.b_range (qaa qac qah)) (fun _ _ _ _ _=>(qg3 (qc3 (qam (show IxR _ (rIxL K) from qa0) (pv 1) (pv 0) (fun _ _=>rfl))))) (fun _ _ _ _ _=>(pv 0))))))))),?_⟩
  have ty:∀ {H':Hp},H' p=some (excO C p)→(TyOf K H' (.ref p) (.ref C)∨(∃ a C',V.ref p=.ref a∧Value.ref C=.ref C'∧H' a=some (excO C' a)∧Exc K C')∨(∃ a ys,V.ref p=.ref a∧Value.ref C=.type "list"∧SqL K H' a ys)∨∃ a ys,V.ref p=.ref a∧Value.ref C=.type "tuple"∧SqT K H' a ys):=fun h=>.inr (.inl ⟨p,C,rfl,rfl,h,Z⟩)
  refine ⟨_,rfl,_,_,_,_,rfl,.inl ⟨_,rfl⟩,ty hp,W.k0,_,rfl,_,_,_,_,rfl,.inl ⟨_,rfl⟩,ty hp,W.k1,_,rfl,_,_,_,_,rfl,.inl ⟨_,rfl⟩,ty hp,W.k2,_,rfl,_,_,_,_,rfl,.inl ⟨_,rfl⟩,ty hp,W.k3,(show 4≤sizeLine by decide),fun l1 h1=>?_⟩
  have hp1:(upd H l1 (.lst [.bl (j == 0),.bl (j == 1),.bl (j == 2),.bl (j == 3)])) p=some (excO C p):=by rw [qag (qae hp h1)];exact hp
  refine ⟨_,rfl,_,rfl,_,_,_,_,rfl,.inl ⟨_,rfl⟩,ty hp1,W.k4,_,rfl,_,_,_,_,rfl,.inl ⟨_,rfl⟩,ty hp1,W.k5,_,rfl,_,_,_,_,rfl,.inl ⟨_,rfl⟩,ty hp1,W.k6,(show 3≤sizeLine by decide),fun l2 h2=>?_⟩
  have n12:l1≠l2:=qae qab h2
  refine ⟨l1,l2,[.bl (j == 0),.bl (j == 1),.bl (j == 2),.bl (j == 3)],[.bl (j == 4),.bl (j == 5),.bl (j == 6)],rfl,rfl,.inl (by rw [qag n12,qab]),.inl qab,(show 7≤sizeLine by decide),fun l3 h3=>?_⟩
  have s3:=((qad (o:=.lst [.bl (j == 0),.bl (j == 1),.bl (j == 2),.bl (j == 3)]) h1).trans (qad (o:=.lst [.bl (j == 4),.bl (j == 5),.bl (j == 6)]) h2)).trans (qad (o:=.lst ([.bl (j == 0),.bl (j == 1),.bl (j == 2),.bl (j == 3)]++[.bl (j == 4),.bl (j == 5),.bl (j == 6)])) h3)
  have hp3:=s3 _ _ hp
  refine ⟨_,rfl,_,rfl,_,_,_,_,rfl,.inl ⟨_,rfl⟩,ty hp3,W.k7,_,rfl,_,_,_,_,rfl,.inl ⟨_,rfl⟩,ty hp3,W.k8,(show 2≤sizeLine by decide),fun l4 h4=>?_⟩
  have n34:l3≠l4:=qae qab h4
  refine ⟨l3,l4,[V.bl (j == 0),V.bl (j == 1),V.bl (j == 2),V.bl (j == 3),V.bl (j == 4),V.bl (j == 5),V.bl (j == 6)],[V.bl (j == 7),V.bl (j == 8)],rfl,rfl,.inl (by rw [qag n34,qab];rfl),.inl qab,(show 9≤sizeLine by decide),fun l5 h5=>?_⟩
  have hp5:∀ (o:HO),(upd _ l5 o) p=some (excO C p):=fun o=>(s3.trans ((qad h4).trans (qad h5))) _ _ hp
  refine ⟨_,rfl,_,_,_,_,rfl,.inr ⟨_,rfl⟩,ty (hp5 _),W.kv,_,rfl,iteF ?_⟩
  refine ⟨_,rfl,_,_,_,_,rfl,.inl ⟨_,rfl⟩,ty (hp5 _),W.ko,_,rfl,iteF ?_⟩
  refine ⟨9,rfl,by decide,by decide,?_⟩
  generalize hH5:(upd _ l5 _:Hp)=H5
  have s5:Same H H5:=by rw [← hH5];exact s3.trans ((qad h4).trans (qad h5))
  have hl5:H5 l5=some (.lst ((List.range 9).map fun i=>V.bl (j == i))):=by rw [← hH5];exact qab
  intro D hD
  have lD:l5≠D:=qae hl5 hD
  have hD0:H D=none:=s5.free hD
  refine qe8 (J:=Itr 0 9) 9 (fun i ys H'=>H'=upd H5 D (.lst ys)∧ys=if j < i then [V.int j] else []) ⟨rfl,rfl⟩ (by decide) (fun i ys H' r=>by rw [r.1];exact qab) (fun i ys H' hi _=>hi) ?_ ?_
  ·rintro i ys Hx v H' hi ⟨rfl,rfl⟩ ⟨rfl,rfl⟩ Kt Kf q1 q2
   have ei:(0:Int)+(i:Int)=(i:Int):=by omega
   refine ⟨_,rfl,_,rfl,l5,_,_,.bl (j == i),rfl,rfl,SqL.of (by rw [qag lD];exact hl5),by rw [ei];exact qai (by rw [List.getElem?_map,List.getElem?_range hi];rfl),_,rfl,ite2 (fun h=>?_) (fun h=>?_)⟩
   ·have h:j=i:=by simpa using h
    refine ⟨_,rfl,q1 _ _ qab ⟨by rw [qiy],?_⟩⟩
    subst h
    rw [if_neg (Nat.lt_irrefl _),if_pos (Nat.lt_succ_self _),ei]
    rfl
   ·have h:j≠i:=fun z=>h (by simpa using z)
    refine q2 _ ⟨rfl,?_⟩
    by_cases hji:j < i
    ·rw [if_pos hji,if_pos (Nat.lt_succ_of_lt hji)]
    ·rw [if_neg hji,if_neg (by omega)]
  ·rintro ys H' hl ⟨rfl,rfl⟩
   refine ⟨Nat.le_refl _,k D _ hD0 (s5.trans (qad hD)) ?_⟩
   rw [qab,if_pos W.lt]
end
end My
namespace My
open PySem L2
structure ModAt (K:PySem.W.Frag) (H:Hp) (m pl ed:Addr) (ppl:List Str) (M:List (Ent×Addr×Addr)):Prop where
 ob:H m=some (.lst [.ref pl,.ref ed])
 pp:H pl=some (.lst (ppl.map V.str))
 en:Rd H ed (.dK (M.map fun e=>(Sum.inr e.1.nm,.ref e.2.1)))
 el:∀ e∈M,H e.2.1=some (.lst [.int e.1.th,.int e.1.mr,.int e.1.ls,.ref e.2.2])
 he:∀ e∈M,HeldAt K H e.2.2 e.1.held
 nd:(m::pl::ed::(M.map (·.2.1)++M.map (·.2.2))).Nodup
def MFp (m pl ed:Addr) (M:List (Ent×Addr×Addr)):List Addr:=m::pl::ed::(M.map (·.2.1)++M.map (·.2.2))
theorem ModAt.keep {K:PySem.W.Frag}{H H':Hp}{m pl ed:Addr}{ppl:List Str}{M:List (Ent×Addr×Addr)} (B:ModAt K H m pl ed ppl M) (hed:Rd H' ed (.dK (M.map fun e=>(Sum.inr e.1.nm,.ref e.2.1))))
  (k:∀ c o,H c=some o→c≠ed→(c∈MFp m pl ed M∨∃ xs,o=.tup xs∨∃ ob,o=.frz ob (.tup xs))→H' c=some o):ModAt K H' m pl ed ppl M:=by
 obtain ⟨n1,r1⟩:=List.nodup_cons.mp B.nd
 obtain ⟨n2,r2⟩:=List.nodup_cons.mp r1
 obtain ⟨n3,r3⟩:=List.nodup_cons.mp r2
 have e1:∀ e∈M,e.2.1∈M.map (·.2.1)++M.map (·.2.2):=fun e he=>List.mem_append_left _ (List.mem_map.mpr ⟨e,he,rfl⟩)
 have e2:∀ e∈M,e.2.2∈M.map (·.2.1)++M.map (·.2.2):=fun e he=>List.mem_append_right _ (List.mem_map.mpr ⟨e,he,rfl⟩)
 refine ⟨k _ _ B.ob (fun z=>n1 (by rw [z];simp)) (.inl (by simp [MFp])),k _ _ B.pp (fun z=>n2 (by rw [z];simp)) (.inl (by simp [MFp])),hed,fun e he=>k _ _ (B.el e he) (fun z=>n3 (z ▸ e1 e he)) (.inl ?_),fun e he=>?_,B.nd⟩
 ·unfold MFp;simp only [List.mem_cons];right;right;right;exact e1 e he
 ·refine (B.he e he).keep (fun o h=>k _ _ h (fun z=>n3 (z ▸ e2 e he)) (.inl ?_)) fun c o h x=>k c o h (fun z=>?_) (.inr x)
  ·unfold MFp;simp only [List.mem_cons];right;right;right;exact e2 e he
  ·subst z
   rcases B.en with q | ⟨ob,q⟩
   ·rw [q] at h;cases h;rcases x with ⟨xs,z | ⟨ob,z⟩⟩ <;> cases z
   ·rw [q] at h;cases h;rcases x with ⟨xs,z | ⟨ob',z⟩⟩ <;> cases z
theorem Rd.same {H H':Hp}{a:Addr}{u:HO} (h:Rd H a u) (s:Same H H'):Rd H' a u:=by
 rcases h with h | ⟨o,h⟩
 ·exact .inl (s _ _ h)
 ·exact .inr ⟨o,s _ _ h⟩
theorem ModAt.same {K:PySem.W.Frag}{H H':Hp}{m pl ed:Addr}{ppl:List Str}{M:List (Ent×Addr×Addr)} (B:ModAt K H m pl ed ppl M) (s:Same H H'):ModAt K H' m pl ed ppl M:=B.keep (Rd.same B.en s) fun c o h _ _=>s c o h
def qef (M:List (Ent×Addr×Addr)) (n:Str):Option (Ent×Addr×Addr):=M.find? fun e=>decide (e.1.nm=n)
theorem ModAt.get {K:PySem.W.Frag}{H:Hp}{m pl ed:Addr}{ppl:List Str}{M:List (Ent×Addr×Addr)} (B:ModAt K H m pl ed ppl M) {x:Str}{e:Ent×Addr×Addr} (h:qef M x=some e):DGet H ed (.str x) (some (.ref e.2.1)):=by
 refine .inl ⟨_,Sum.inr x,B.en,rfl,?_⟩
 rw [qc4 (key:=fun e:Ent×Addr×Addr=>e.1.nm)]
 unfold qef at h
 rw [h]
 rfl
def shown (l:List (Str×Int×Int)):List (Str×Int×Int):=((srt (l.map (·.1))).map (qba l)).filter fun q=>decide (0 < q.2.1)
section
variable {P:Program}{w:World}{K:PySem.W.Frag}{mg:Str→Option Value}{base:Heap}{a:Adr}{f:Addr}{fd:FuncData}
abbrev qbz:Stmt:=top 41
theorem sc__law_shares:FnScope ["_law_model","_law_house","_law_held"] ["_law_model","_law_house"] (qaj qbz):=⟨rfl,rfl,rfl,by decide +kernel,rfl,by decide +kernel,by decide +kernel⟩
def qgi (K:PySem.W.Frag):Sp:=fun vs H Q _=>∃ m pl ed ppl M x e,vs=[.ref m,.str x]∧ModAt K H m pl ed ppl M∧qef M x=some e∧e.1.held.length < 64∧∀ l ys H',H l=none→Same H H'→H' l=some (.lst ys)→Paired (PairAt K H') (shown e.1.held) ys→Q (.ref l) H'
theorem ok_lshares (F:Fun K "_law_shares" "_law_shares" qbz f fd) (T:Txt K mg a):FnOk P w K mg base (CXo P w) 1 f fd ["_law_model","_law_house"] (qgi K):=by
 refine F.okN sc__law_shares (fun vs H Q E h=>?_) (fun cdv A outer s H vs Q E hr h=>?_)
 ·obtain ⟨m,pl,ed,ppl,M,x,e,rfl,_⟩:=h
  rfl
 ·obtain ⟨m,pl,ed,ppl,M,x,e,rfl,B,he,h64,k⟩:=h
  have hu:=qbk hr
  refine ⟨_,(qaf (qaq (i:=2) sc__law_shares.nd rfl (Or.inr rfl) (qam qa0 (qdi hu (qam qa0 (pv 0) qac (fun _ _=>rfl)) (pv 1) (fun _ _=>rfl)) qac (fun _ _=>rfl))) (qak (qav (qfp (fr:=["_law_held"]) (ix:=[2]) rfl (by exact (show CompOk ["_law_model","_law_house","_law_held"] (qaj qbz) _ _ _ _ from ⟨rfl,by decide +kernel,rfl,by decide +kernel,by decide +kernel,by decide +kernel,by decide +kernel,by decide +kernel,rfl⟩)) (qd9 (qap (qbg rfl) rfl T.b_sorted qbr (qaa (pv 2) qah))) (fun _ _ _ _ _=>(qg3 (qau op_gt (qam (show IxR _ (rIxT K) from qal) (qdi hu (pv 1) (pv 0) (fun _ _=>rfl)) qac (fun _ _=>rfl)) qac (qay _)))) (fun _ _ _ _ _=>(qbn (qaa (pv 0) (qaa (qdi hu (pv 1) (pv 0) (fun _ _=>rfl)) qah)))))))),?_⟩
  have hm:=List.mem_of_find?_eq_some he
  obtain ⟨ts,hl,hd,hts⟩:=B.he e hm
  have hkeys:(((e.1.held.zip ts).map fun q=>((Sum.inr q.1.1:Key),V.ref q.2)).map (·.1))=(e.1.held.map (·.1)).map Sum.inr:=by
   rw [List.map_map,List.map_map]
   have e1:(e.1.held.zip ts).map (·.1)=e.1.held:=List.map_fst_zip (by omega)
   conv=>rhs;rw [← e1,List.map_map]
   rfl
  refine ⟨_,rfl,m,_,1,_,rfl,rfl,SqL.of B.ob,qai (j:=1) rfl,_,rfl,ed,_,rfl,B.get he,e.2.1,_,3,_,rfl,rfl,SqL.of (B.el e hm),qai (j:=3) rfl,_,rfl,e.2.2,_,e.1.held.map (·.1),rfl,.inl hd,hkeys,by rw [List.length_map];exact h64,fun l hl0=>?_⟩
  refine ⟨l,rfl,⟨_,SqL.of qab⟩,fun D hD=>?_⟩
  have lD:l≠D:=qae qab hD
  have hD0:H D=none:=by rw [qag lD.symm] at hD;exact hD
  refine qe8 (J:=Itl K l) (srt (e.1.held.map (·.1))).length (fun i ys H'=>Same H H'∧H' D=some (.lst ys)∧H' l=some (.lst ((srt (e.1.held.map (·.1))).map V.str))∧Paired (PairAt K H') ((((srt (e.1.held.map (·.1))).take i).map (qba e.1.held)).filter fun q=>decide (0 < q.2.1)) ys)
   ⟨?_,qab,?_,.nil⟩ ?_ (fun i ys H' r=>r.2.1) (fun i ys H' hi r=>⟨_,.str ((srt (e.1.held.map (·.1)))[i]),SqL.of r.2.2.1,by simp [hi]⟩) ?_ ?_
  ·exact (qad hl0).trans (qad hD)
  ·rw [qag lD,qab]
  ·rw [qat,List.length_map];exact Nat.le_trans (Nat.le_of_lt h64) (by decide)
  ·rintro i ys Hx v H' hi ⟨s1,h1,h2,h3⟩ ⟨rfl,hy⟩ Kt Kf q1 q2
   have hv:=hy _ (SqL.of h2)
   have ev:v=.str ((srt (e.1.held.map (·.1)))[i]):=by
    rw [List.getElem?_map,List.getElem?_eq_getElem hi] at hv
    exact (Option.some.inj hv).symm
   subst ev
   have hmem:(srt (e.1.held.map (·.1)))[i]∈e.1.held.map (·.1):=(qaz _).mem_iff.mp (List.getElem_mem hi)
   obtain ⟨q,f1,f2,f3,f4⟩:=qlw hl hmem
   have hval:valV ((e.1.held.zip ts).map fun q=>((Sum.inr q.1.1:Key),V.ref q.2)) (Sum.inr ((srt (e.1.held.map (·.1)))[i]))=some (.ref q.2):=by
    rw [qc4 (key:=fun q:(Str×Int×Int)×Addr=>q.1.1),f1]
    rfl
   have hget:DGet H' e.2.2 (.str ((srt (e.1.held.map (·.1)))[i])) (some (.ref q.2)):=by
    have:=DGet.k (k:=Sum.inr ((srt (e.1.held.map (·.1)))[i])) (s1 _ _ hd);rw [hval] at this;exact this
   have e5:(((srt (e.1.held.map (·.1))).take (i+1)).map (qba e.1.held)).filter (fun q=>decide (0 < q.2.1))=(((srt (e.1.held.map (·.1))).take i).map (qba e.1.held)).filter (fun q=>decide (0 < q.2.1))++(if 0 < q.1.2.1 then [qba e.1.held ((srt (e.1.held.map (·.1)))[i])] else []):=by
    rw [List.take_add_one,List.getElem?_eq_getElem hi,List.map_append,List.filter_append]
    show _++List.filter _ [qba e.1.held ((srt (e.1.held.map (·.1)))[i])]=_
    rw [List.filter_cons,← f3]
    by_cases hq:0 < q.1.2.1
    ·rw [if_pos (by simpa using hq),if_pos hq];rfl
    ·rw [if_neg (by simpa using hq),if_neg hq];rfl
   refine ⟨_,rfl,_,rfl,e.2.2,_,rfl,hget,q.2,_,0,_,rfl,rfl,qa6 s1 (hts q f2),qai (j:=0) rfl,_,_,rfl,rfl,_,rfl,ite2 (fun h=>?_) (fun h=>?_)⟩
   ·have h:0 < q.1.2.1:=of_decide_eq_true h
    refine ⟨_,rfl,_,rfl,_,rfl,e.2.2,.ref q.2,rfl,hget,(show 2≤sizeLine by decide),fun p hp=>?_⟩
    have pD:D≠p:=qae h1 hp
    have pl:l≠p:=qae h2 hp
    refine q1 _ _ (by rw [qag pD];exact h1) ⟨?_,qab,?_,?_⟩
    ·intro c o hc
     rw [qag (fun z=>by rw [z] at hc;rw [hD0] at hc;cases hc),qag (qae (s1 c o hc) hp)]
     exact s1 c o hc
    ·rw [qag lD,qag pl];exact h2
    ·have kp:∀ c o,H' c=some o→(∃ xs,o=.tup xs∨∃ ob,o=.frz ob (.tup xs))→(upd (upd H' p (.tup [.str ((srt (e.1.held.map (·.1)))[i]),.ref q.2])) D (.lst (ys++[.ref p]))) c=some o:=fun c o hc x=>by
      rw [qfl (xs:=ys) (by rw [qag pD];exact h1) c o (by rw [qag (qae hc hp)];exact hc) x]
     rw [e5,if_pos h]
     refine Paired.snoc (Paired.mapP h3 fun q v hq=>hq.keep kp) ⟨p,q.2,rfl,?_,?_⟩
     ·refine SqT.of ?_
      rw [qag pD.symm,qab,f4]
     ·rw [← f3]
      exact qbd (hts q f2) fun c o hc x=>kp c o (s1 c o hc) x
   ·have h:¬ 0 < q.1.2.1:=fun z=>h (decide_eq_true z)
    refine q2 _ ⟨s1,h1,h2,?_⟩
    rw [e5,if_neg h,List.append_nil]
    exact h3
  ·rintro ys H' hy ⟨s1,h1,h2,h3⟩
   refine ⟨⟨_,SqL.of h2,by rw [List.length_map];exact Nat.le_refl _⟩,k D ys H' hD0 s1 h1 ?_⟩
   rw [List.take_length] at h3
   exact h3
end
end My
namespace L2
open PySem PySem.Spec PyProof.Rows
def Bt (k:Nat) (n:Int):Prop:=n.natAbs < 2 ^ k
theorem Bt.mono {k l:Nat}{n:Int} (h:Bt k n) (hl:k≤l):Bt l n:=Nat.lt_of_lt_of_le h (Nat.pow_le_pow_right (by decide) hl)
theorem Bt.mul {k l:Nat}{n m:Int} (h:Bt k n) (g:Bt l m):Bt (k+l) (n * m):=by
 unfold Bt at *
 rw [Int.natAbs_mul,Nat.pow_add]
 by_cases z:m.natAbs=0
 ·rw [z,Nat.mul_zero];exact Nat.mul_pos (Nat.two_pow_pos k) (Nat.two_pow_pos l)
 ·exact Nat.lt_of_lt_of_le (Nat.mul_lt_mul_of_pos_right h (Nat.pos_of_ne_zero z)) (Nat.mul_le_mul_left _ (Nat.le_of_lt g))
theorem Bt.neg {k:Nat}{n:Int} (h:Bt k n):Bt k (-n):=by unfold Bt at *;rw [Int.natAbs_neg];exact h
theorem Bt.div {k:Nat}{n d:Int} (h:Bt k n):Bt k (n / d):=Nat.lt_of_le_of_lt (Int.natAbs_ediv_le_natAbs n d) h
theorem Bt.dvd {k:Nat}{n d:Int} (h:Bt k n) (hn:n≠0) (hd:d ∣ n):Bt k d:=Nat.lt_of_le_of_lt (Nat.le_of_dvd (by omega) (Int.natAbs_dvd_natAbs.mpr hd)) h
theorem Bt.log {n:Int} (h:Bt 9000 n) (h0:0 < n):n.natAbs.log2 < 9000:=(Nat.log2_lt (by omega)).mpr h
section
variable {X:Cx}
theorem qmr {i:Int} (h:Bt 20000 i):Builtin.Int.intBits i≤2 ^ 20:=by
 unfold Builtin.Int.intBits
 split
 ·exact Nat.zero_le _
 ·rename_i z
  have z:i≠0:=by simpa using z
  have:=(Nat.log2_lt (by omega:i.natAbs≠0)).mpr h
  omega
theorem qdo:OpR X (binaryOp .Mult) (rI (fun i j=>Bt 20000 i∧Bt 20000 j) fun i j=>.int (i * j)):=opI fun _ _ _ _ _ _ _ hc q=>mul_int q (.of_bits (qmr hc.1) (qmr hc.2))
def rEqT (K:PySem.W.Frag):R2:=fun x y H Q=>∃ p q xs ys,x=.ref p∧y=.ref q∧SqT K H p xs∧SqT K H q ys∧xs.length=ys.length∧xs.all qe7=true∧ys.all qe7=true∧Q (.bl (eqLs xs ys)) H
theorem op_eqT (hu:X.A.units < cLine):OpR X (compareOp .Eq) (rEqT X.K):=by
 intro pins s σ H x y v u Q I rx ry h
 obtain ⟨p,q,xs,ys,rfl,rfl,hp,hq,hl,fx,fy,k⟩:=h
 cases rx
 cases ry
 obtain ⟨its,r,pl,_⟩:=I.tuple hp
 obtain ⟨its2,r2,pl2,_⟩:=I.tuple hq
 have e1:=r.length
 have e2:=r2.length
 refine SeqAt.eq_tupleAt pl pl2 hu (qgp r r2 hl fx fy) ⟨.bl _,H,I,rfl,?_⟩
 have e3:its.toArray.size=its2.toArray.size:=by simp;omega
 rw [e3,Nat.min_self,beq_self_eq_true,Bool.and_true,List.size_toArray,← e2,← hl,← qg6 hl]
 exact k
end
end L2
namespace My
open PySem L2 Fra
theorem qmh (x y:Int) (h:0 < y):Int.gcd y (x % y)=Int.gcd x y:=by
 have e:x % y=x - (x / y) * y:=by rw [Int.emod_def,Int.mul_comm]
 rw [e,Int.gcd_comm,Int.gcd_sub_mul_right_left]
theorem qmg {x:Int} (h:0≤x):(Int.gcd x 0:Int)=x:=by rw [Int.gcd_zero_right];omega
structure Sz (q:Int×Int):Prop where
 low:Low q
 bt:Bt 8900 q.1
 bb:Bt 8900 q.2
def FrAt (K:PySem.W.Frag) (H:Hp) (p:Addr) (q:Int×Int):Prop:=SqT K H p [.int q.1,.int q.2]
theorem FrAt.same {K:PySem.W.Frag}{H H':Hp}{p:Addr}{q:Int×Int} (h:FrAt K H p q) (s:Same H H'):FrAt K H' p q:=qa6 s h
section
variable {P:Program}{w:World}{K:PySem.W.Frag}{mg:Str→Option Value}{base:Heap}{a:Adr}{f:Addr}{fd:FuncData}
abbrev qbo:Stmt:=top 14
theorem sc_common_divisor:FnScope ["number","other","rest"] ["number","other"] (qaj qbo):=⟨rfl,rfl,rfl,by decide +kernel,rfl,by decide +kernel,by decide +kernel⟩
def sp_gcd:Sp:=fun vs H Q _=>∃ n m,vs=[.int n,.int m]∧0 < m∧Q (.int (Int.gcd n m)) H
theorem ok_gcd (F:Fun K "common_divisor" "common_divisor" qbo f fd) (T:Txt K mg a):FnOk P w K mg base (CXo P w) 1 f fd ["number","other"] sp_gcd:=by
 refine F.okN sc_common_divisor (fun vs H Q E h=>?_) (fun cdv A outer s H vs Q E hr h=>?_)
 ·obtain ⟨n,m,rfl,_⟩:=h
  rfl
 ·obtain ⟨n,m,rfl,hm,k⟩:=h
  have hu:=qbk hr
  refine ⟨_,(qaf (ql2 PassesOwn.never (qau op_ne (pv 1) qac (qay _)) (qaf (qaq (i:=2) sc_common_divisor.nd rfl (Or.inl rfl) (qaw qgs (pv 0) (pv 1))) (qaf (qaq (i:=0) sc_common_divisor.nd rfl (Or.inl rfl) (pv 1)) (qak (qaq (i:=1) sc_common_divisor.nd rfl (Or.inl rfl) (pv 2)))))) (qak (qav (pv 0)))),?_⟩
  refine ⟨fun c σ H'=>H'=H∧∃ x y v,σ=[some (.int x),some (.int y),v]∧0≤y∧c=y.toNat∧Int.gcd x y=Int.gcd n m∧(y=0→0≤x),⟨_,rfl,n,m,_,rfl,by omega,rfl,rfl,by omega⟩,?_⟩
  rintro c σ H' ⟨rfl,x,y,v,rfl,hy,rfl,hg,hx⟩
  refine ⟨_,rfl,rfl,_,rfl,ite2 (fun h=>?_) (fun h=>?_)⟩
  ·have hy0:0 < y:=by
    have:¬ (V.int y=V.int 0):=of_decide_eq_false (nbT h)
    have:y≠0:=fun z=>this (by rw [z])
    omega
   refine ⟨fun σ' H''=>H''=H'∧∃ v',σ'=[some (.int y),some (.int (x % y)),v'],?_,?_⟩
   ·rintro σ' H'' ⟨rfl,v',rfl⟩
    have m0:=Int.emod_nonneg x (show y≠0 by omega)
    have m1:=Int.emod_lt_of_pos x hy0
    exact ⟨(x % y).toNat,by omega,rfl,_,_,_,rfl,m0,rfl,(qmh x y hy0).trans hg,fun _=>hy⟩
   ·exact ⟨_,rfl,_,rfl,_,_,rfl,rfl,hy0,_,rfl,_,rfl,rfl,_,rfl⟩
  ·have hy0:y=0:=V.int.inj (of_decide_eq_true (nbF h))
   subst hy0
   refine ⟨_,rfl,?_⟩
   rw [qmg (hx rfl) |>.symm,hg]
   exact k
abbrev qif:Stmt:=top 15
theorem sc_plus:FnScope ["first","second","common","top","shared"] ["first","second"] (qaj qif):=⟨rfl,rfl,rfl,by decide +kernel,rfl,by decide +kernel,by decide +kernel⟩
def qhc (K:PySem.W.Frag):Sp:=fun vs H Q _=>∃ p1 p2 q1 q2,vs=[.ref p1,.ref p2]∧FrAt K H p1 q1∧FrAt K H p2 q2∧Sz q1∧Sz q2∧∀ x,H x=none→Q (.ref x) (upd H x (.tup [.int (addR q1 q2).1,.int (addR q1 q2).2]))
theorem ok_plus (F:Fun K "plus" "plus" qif f fd) (T:Txt K mg a) (F_common_divisor:Fn P w K mg base "common_divisor" 1 ["number","other"] sp_gcd):FnOk P w K mg base (CXo P w) 2 f fd ["first","second"] (qhc K):=by
 refine F.okN sc_plus (fun vs H Q E h=>?_) (fun cdv A outer s H vs Q E hr h=>?_)
 ·obtain ⟨p1,p2,q1,q2,rfl,_⟩:=h
  rfl
 ·obtain ⟨p1,p2,⟨t1,b1⟩,⟨t2,b2⟩,rfl,h1,h2,s1,s2,k⟩:=h
  have hu:=qbk hr
  refine ⟨_,(qaf (qaq (i:=2) sc_plus.nd rfl (Or.inl rfl) (qa1 F_common_divisor (hr.mono (by first | decide | omega)) rfl qan (qaa (qam qal (pv 0) qac (fun _ _=>rfl)) (qaa (qam qal (pv 1) qac (fun _ _=>rfl)) qah)))) (qaf (qaq (i:=3) sc_plus.nd rfl (Or.inl rfl) (qaw qee (qaw qdo (qam qal (pv 0) qac (fun _ _=>rfl)) (qaw qdq (qam qal (pv 1) qac (fun _ _=>rfl)) (pv 2))) (qaw qdo (qam qal (pv 1) qac (fun _ _=>rfl)) (qaw qdq (qam qal (pv 0) qac (fun _ _=>rfl)) (pv 2))))) (qaf (qaq (i:=4) sc_plus.nd rfl (Or.inl rfl) (qa1 F_common_divisor (hr.mono (by first | decide | omega)) rfl qan (qaa (pv 3) (qaa (pv 2) qah)))) (qak (qav (qbn (qaa (qaw qdq (pv 3) (pv 4)) (qaa (qaw qdo (qaw qdq (qam qal (pv 0) qac (fun _ _=>rfl)) (pv 2)) (qaw qdq (qam qal (pv 1) qac (fun _ _=>rfl)) (pv 4))) qah)))))))),?_⟩
  rw [← addK_eq s1.low s2.low] at k
  have b10:0 < b1:=s1.low.1
  have b20:0 < b2:=s2.low.1
  have hd:0 < Int.gcd b1 b2:=Int.gcd_pos_of_ne_zero_right _ (by omega)
  have hd0:(0:Int) < (Int.gcd b1 b2:Int):=by omega
  have bd:Bt 8900 (Int.gcd b1 b2:Int):=s1.bb.dvd (show b1≠0 by omega) (Int.gcd_dvd_left ..)
  have ld:=(bd.mono (by decide)).log hd0
  refine ⟨_,rfl,p1,_,1,_,rfl,rfl,h1,qai (j:=1) rfl,_,rfl,p2,_,1,_,rfl,rfl,h2,qai (j:=1) rfl,b1,b2,rfl,b20,?_⟩
  refine ⟨_,rfl,p1,_,0,_,rfl,rfl,h1,qai (j:=0) rfl,_,rfl,p2,_,1,_,rfl,rfl,h2,qai (j:=1) rfl,_,rfl,_,_,rfl,rfl,⟨hd0,ld⟩,_,_,rfl,rfl,⟨s1.bt.mono (by decide),(s2.bb.div).mono (by decide)⟩,?_⟩
  refine ⟨_,rfl,p2,_,0,_,rfl,rfl,h2,qai (j:=0) rfl,_,rfl,p1,_,1,_,rfl,rfl,h1,qai (j:=1) rfl,_,rfl,_,_,rfl,rfl,⟨hd0,ld⟩,_,_,rfl,rfl,⟨s2.bt.mono (by decide),(s1.bb.div).mono (by decide)⟩,_,_,rfl,rfl,?_⟩
  have he:0 < Int.gcd (t1 * (b2 / (Int.gcd b1 b2:Int))+t2 * (b1 / (Int.gcd b1 b2:Int))) (Int.gcd b1 b2:Int):=Int.gcd_pos_of_ne_zero_right _ (by omega)
  have he0:(0:Int) < (Int.gcd (t1 * (b2 / (Int.gcd b1 b2:Int))+t2 * (b1 / (Int.gcd b1 b2:Int))) (Int.gcd b1 b2:Int):Int):=by omega
  have be:Bt 8900 (Int.gcd (t1 * (b2 / (Int.gcd b1 b2:Int))+t2 * (b1 / (Int.gcd b1 b2:Int))) (Int.gcd b1 b2:Int):Int):=bd.dvd (by omega) (Int.gcd_dvd_right ..)
  have le:=(be.mono (by decide)).log he0
  refine ⟨_,rfl,_,rfl,_,_,rfl,hd0,?_⟩
  refine ⟨_,rfl,_,rfl,_,_,rfl,rfl,⟨he0,le⟩,_,rfl,p1,_,1,_,rfl,rfl,h1,qai (j:=1) rfl,_,rfl,_,_,rfl,rfl,⟨hd0,ld⟩,_,rfl,p2,_,1,_,rfl,rfl,h2,qai (j:=1) rfl,_,rfl,_,_,rfl,rfl,⟨he0,le⟩,_,_,rfl,rfl,⟨(s1.bb.div).mono (by decide),(s2.bb.div).mono (by decide)⟩,(show 2≤sizeLine by decide),fun x hx=>?_⟩
  exact k x hx
abbrev qgl:Stmt:=top 16
theorem sc_minus:FnScope ["first","second"] ["first","second"] (qaj qgl):=⟨rfl,rfl,rfl,by decide +kernel,rfl,by decide +kernel,by decide +kernel⟩
def qi5 (K:PySem.W.Frag):Sp:=fun vs H Q _=>∃ p1 p2 q1 q2,vs=[.ref p1,.ref p2]∧FrAt K H p1 q1∧FrAt K H p2 q2∧Sz q1∧Sz q2∧∀ x H',H x=none→Same H H'→H' x=some (.tup [.int (addR q1 (-q2.1,q2.2)).1,.int (addR q1 (-q2.1,q2.2)).2])→Q (.ref x) H'
theorem Sz.neg {q:Int×Int} (h:Sz q):Sz (-q.1,q.2):=⟨⟨h.low.1,by have:=h.low.2;unfold Cop Int.gcd at *;simp only [Int.natAbs_neg];exact this⟩,h.bt.neg,h.bb⟩
theorem ok_minus (F:Fun K "minus" "minus" qgl f fd) (T:Txt K mg a) (F_plus:Fn P w K mg base "plus" 2 ["first","second"] (qhc K)):FnOk P w K mg base (CXo P w) 3 f fd ["first","second"] (qi5 K):=by
 refine F.okN sc_minus (fun vs H Q E h=>?_) (fun cdv A outer s H vs Q E hr h=>?_)
 ·obtain ⟨p1,p2,q1,q2,rfl,_⟩:=h
  rfl
 ·obtain ⟨p1,p2,⟨t1,b1⟩,⟨t2,b2⟩,rfl,h1,h2,s1,s2,k⟩:=h
  have hu:=qbk hr
  refine ⟨_,(qak (qav (qa1 F_plus (hr.mono (by first | decide | omega)) rfl qan (qaa (pv 0) (qaa (qbn (qaa (pe_un qjy (qam qal (pv 1) qac (fun _ _=>rfl))) (qaa (qam qal (pv 1) qac (fun _ _=>rfl)) qah))) qah))))),?_⟩
  refine ⟨_,rfl,_,rfl,p2,_,0,_,rfl,rfl,h2,qai (j:=0) rfl,_,rfl,_,rfl,p2,_,1,_,rfl,rfl,h2,qai (j:=1) rfl,(show 2≤sizeLine by decide),fun y hy=>?_⟩
  have sy:=qad (o:=.tup [.int (-t2),.int b2]) hy
  refine ⟨p1,y,(t1,b1),(-t2,b2),rfl,h1.same sy,SqT.of qab,s1,s2.neg,fun x hx=>?_⟩
  refine k x _ (sy.free hx) (sy.trans (qad hx)) qab
abbrev qdt:Stmt:=top 17
theorem qk3:FnScope ["first","second"] ["first","second"] (qaj qdt):=⟨rfl,rfl,rfl,by decide +kernel,rfl,by decide +kernel,by decide +kernel⟩
def qjc (K:PySem.W.Frag):Sp:=fun vs H Q _=>∃ p1 p2 q1 q2,vs=[.ref p1,.ref p2]∧FrAt K H p1 q1∧FrAt K H p2 q2∧Sz q1∧Sz q2∧Q (.bl (decide (q1.1 * q2.2 > q2.1 * q1.2))) H
theorem ok_above (F:Fun K "is_above" "is_above" qdt f fd) (T:Txt K mg a):FnOk P w K mg base (CXo P w) 1 f fd ["first","second"] (qjc K):=by
 refine F.okN qk3 (fun vs H Q E h=>?_) (fun cdv A outer s H vs Q E hr h=>?_)
 ·obtain ⟨p1,p2,q1,q2,rfl,_⟩:=h
  rfl
 ·obtain ⟨p1,p2,⟨t1,b1⟩,⟨t2,b2⟩,rfl,h1,h2,s1,s2,k⟩:=h
  have hu:=qbk hr
  refine ⟨_,(qak (qav (qcn op_gt (qaw qdo (qam qal (pv 0) qac (fun _ _=>rfl)) (qam qal (pv 1) qac (fun _ _=>rfl))) (qaw qdo (qam qal (pv 1) qac (fun _ _=>rfl)) (qam qal (pv 0) qac (fun _ _=>rfl))) (qay _)))),?_⟩
  refine ⟨_,rfl,p1,_,0,_,rfl,rfl,h1,qai (j:=0) rfl,_,rfl,p2,_,1,_,rfl,rfl,h2,qai (j:=1) rfl,_,_,rfl,rfl,⟨s1.bt.mono (by decide),s2.bb.mono (by decide)⟩,_,rfl,p2,_,0,_,rfl,rfl,h2,qai (j:=0) rfl,_,rfl,p1,_,1,_,rfl,rfl,h1,qai (j:=1) rfl,_,_,rfl,rfl,⟨s2.bt.mono (by decide),s1.bb.mono (by decide)⟩,_,_,rfl,rfl,?_⟩
  exact k
abbrev qb3:Stmt:=top 28
theorem sc__law_divisor:FnScope ["_law_one_here","_law_other"] ["_law_one_here","_law_other"] (qaj qb3):=⟨rfl,rfl,rfl,by decide +kernel,rfl,by decide +kernel,by decide +kernel⟩
def sp_div:Sp:=fun vs H Q _=>∃ n m,vs=[.int n,.int m]∧0 < m∧Q (.int (Int.gcd n m)) H
theorem ok_div (F:Fun K "_law_divisor" "_law_divisor" qb3 f fd) (T:Txt K mg a):FnOk P w K mg base (CXo P w) 1 f fd ["_law_one_here","_law_other"] sp_div:=by
 refine F.okN sc__law_divisor (fun vs H Q E h=>?_) (fun cdv A outer s H vs Q E hr h=>?_)
 ·obtain ⟨n,m,rfl,_⟩:=h
  rfl
 ·obtain ⟨n,m,rfl,hm,k⟩:=h
  have hu:=qbk hr
  refine ⟨_,(qaf (ql2 PassesOwn.never (qau op_ne (pv 1) qac (qay _)) (qak (ps_par (i:=0) (j:=1) rfl sc__law_divisor.nd rfl rfl (by decide) rfl rfl (qaa (pv 1) (qaa (qaw qgs (pv 0) (pv 1)) qah)) rfl))) (qak (qav (qap qjs rfl T.b_abs bt_abs (qaa (pv 0) qah))))),?_⟩
  refine ⟨fun c σ H'=>H'=H∧∃ x y,σ=[some (.int x),some (.int y)]∧0≤y∧c=y.toNat∧Int.gcd x y=Int.gcd n m∧(y=0→0≤x),⟨_,rfl,n,m,rfl,by omega,rfl,rfl,by omega⟩,?_⟩
  rintro c σ H' ⟨rfl,x,y,rfl,hy,rfl,hg,hx⟩
  refine ⟨_,rfl,rfl,_,rfl,ite2 (fun h=>?_) (fun h=>?_)⟩
  ·have hy0:0 < y:=by
    have:¬ (V.int y=V.int 0):=of_decide_eq_false (nbT h)
    have:y≠0:=fun z=>this (by rw [z])
    omega
   refine ⟨fun σ' H''=>H''=H'∧σ'=[some (.int y),some (.int (x % y))],?_,?_⟩
   ·rintro σ' H'' ⟨rfl,rfl⟩
    have m0:=Int.emod_nonneg x (show y≠0 by omega)
    have m1:=Int.emod_lt_of_pos x hy0
    exact ⟨(x % y).toNat,by omega,rfl,_,_,rfl,m0,rfl,(qmh x y hy0).trans hg,fun _=>hy⟩
   ·exact ⟨_,rfl,_,rfl,_,rfl,_,_,rfl,rfl,hy0,_,_,rfl,rfl,rfl⟩
  ·have hy0:y=0:=V.int.inj (of_decide_eq_true (nbF h))
   subst hy0
   refine ⟨_,rfl,_,rfl,?_⟩
   have hx:=hx rfl
   rw [if_neg (by omega),qmg hx |>.symm,hg]
   exact k
end
end My
namespace My
open PySem L2 Fra
section
variable {P:Program}{w:World}{K:PySem.W.Frag}{mg:Str→Option Value}{base:Heap}{a:Adr}{f:Addr}{fd:FuncData}
abbrev qcc:Stmt:=top 29
theorem sc__law_lowest:FnScope ["_law_top","_law_bottom","_law_share"] ["_law_top","_law_bottom"] (qaj qcc):=⟨rfl,rfl,rfl,by decide +kernel,rfl,by decide +kernel,by decide +kernel⟩
def qed:Sp:=fun vs H Q _=>∃ t b,vs=[.int t,.int b]∧0 < b∧Bt 9000 b∧∀ x,H x=none→Q (.ref x) (upd H x (.tup [.int (red (t,b)).1,.int (red (t,b)).2]))
theorem ok_lowest (F:Fun K "_law_lowest" "_law_lowest" qcc f fd) (T:Txt K mg a) (F__law_divisor:Fn P w K mg base "_law_divisor" 1 ["_law_one_here","_law_other"] sp_div):FnOk P w K mg base (CXo P w) 2 f fd ["_law_top","_law_bottom"] qed:=by
 refine F.okN sc__law_lowest (fun vs H Q E h=>?_) (fun cdv A outer s H vs Q E hr h=>?_)
 ·obtain ⟨t,b,rfl,_⟩:=h
  rfl
 ·obtain ⟨t,b,rfl,h0,hb,k⟩:=h
  have hu:=qbk hr
  refine ⟨_,(qaf (qaq (i:=2) sc__law_lowest.nd rfl (Or.inl rfl) (qa1 F__law_divisor (hr.mono (by first | decide | omega)) rfl qan (qaa (pv 0) (qaa (pv 1) qah)))) (qak (qav (qbn (qaa (qaw qdq (pv 0) (pv 2)) (qaa (qaw qdq (pv 1) (pv 2)) qah)))))),?_⟩
  have hd:0 < Int.gcd t b:=Int.gcd_pos_of_ne_zero_right _ (by omega)
  have hd0:(0:Int) < (Int.gcd t b:Int):=by omega
  have ld:=(hb.dvd (show b≠0 by omega) (Int.gcd_dvd_right (a:=t) ..)).log hd0
  exact ⟨_,rfl,_,rfl,t,b,rfl,h0,_,rfl,_,rfl,_,_,rfl,rfl,⟨hd0,ld⟩,_,rfl,_,rfl,_,_,rfl,rfl,⟨hd0,ld⟩,(show 2≤sizeLine by decide),fun x hx=>k x hx⟩
structure Two (q1 q2:Int×Int):Prop where
 p1:0 < q1.2
 p2:0 < q2.2
 t1:Bt 9000 q1.1
 t2:Bt 9000 q2.1
 b1:Bt 9000 q1.2
 b2:Bt 9000 q2.2
 bb:Bt 9000 (q1.2 * q2.2)
abbrev qc8:Stmt:=top 30
theorem qj4:FnScope ["_law_one_here","_law_other"] ["_law_one_here","_law_other"] (qaj qc8):=⟨rfl,rfl,rfl,by decide +kernel,rfl,by decide +kernel,by decide +kernel⟩
def qfe (K:PySem.W.Frag):Sp:=fun vs H Q _=>∃ p1 p2 q1 q2,vs=[.ref p1,.ref p2]∧FrAt K H p1 q1∧FrAt K H p2 q2∧Two q1 q2∧∀ x,H x=none→Q (.ref x) (upd H x (.tup [.int (addR q1 q2).1,.int (addR q1 q2).2]))
theorem ok_lplus (F:Fun K "_law_plus" "_law_plus" qc8 f fd) (T:Txt K mg a) (F__law_lowest:Fn P w K mg base "_law_lowest" 2 ["_law_top","_law_bottom"] qed):FnOk P w K mg base (CXo P w) 3 f fd ["_law_one_here","_law_other"] (qfe K):=by
 refine F.okN qj4 (fun vs H Q E h=>?_) (fun cdv A outer s H vs Q E hr h=>?_)
 ·obtain ⟨p1,p2,q1,q2,rfl,_⟩:=h
  rfl
 ·obtain ⟨p1,p2,⟨t1,b1⟩,⟨t2,b2⟩,rfl,h1,h2,W,k⟩:=h
  have hu:=qbk hr
  refine ⟨_,(qak (qav (qa1 F__law_lowest (hr.mono (by first | decide | omega)) rfl qan (qaa (qaw qee (qaw qdo (qam qal (pv 0) qac (fun _ _=>rfl)) (qam qal (pv 1) qac (fun _ _=>rfl))) (qaw qdo (qam qal (pv 1) qac (fun _ _=>rfl)) (qam qal (pv 0) qac (fun _ _=>rfl)))) (qaa (qaw qdo (qam qal (pv 0) qac (fun _ _=>rfl)) (qam qal (pv 1) qac (fun _ _=>rfl))) qah))))),?_⟩
  refine ⟨_,rfl,p1,_,0,_,rfl,rfl,h1,qai (j:=0) rfl,_,rfl,p2,_,1,_,rfl,rfl,h2,qai (j:=1) rfl,_,_,rfl,rfl,⟨W.t1.mono (by decide),W.b2.mono (by decide)⟩,_,rfl,p2,_,0,_,rfl,rfl,h2,qai (j:=0) rfl,_,rfl,p1,_,1,_,rfl,rfl,h1,qai (j:=1) rfl,_,_,rfl,rfl,⟨W.t2.mono (by decide),W.b1.mono (by decide)⟩,_,_,rfl,rfl,?_⟩
  exact ⟨_,rfl,p1,_,1,_,rfl,rfl,h1,qai (j:=1) rfl,_,rfl,p2,_,1,_,rfl,rfl,h2,qai (j:=1) rfl,_,_,rfl,rfl,⟨W.b1.mono (by decide),W.b2.mono (by decide)⟩,_,_,rfl,Int.mul_pos W.p1 W.p2,W.bb,k⟩
abbrev qcq:Stmt:=top 31
theorem qje:FnScope ["_law_one_here","_law_other"] ["_law_one_here","_law_other"] (qaj qcq):=⟨rfl,rfl,rfl,by decide +kernel,rfl,by decide +kernel,by decide +kernel⟩
def qf0 (K:PySem.W.Frag):Sp:=fun vs H Q _=>∃ p1 p2 q1 q2,vs=[.ref p1,.ref p2]∧FrAt K H p1 q1∧FrAt K H p2 q2∧Two q1 q2∧∀ x,H x=none→Q (.ref x) (upd H x (.tup [.int (red (q1.1 * q2.1,q1.2 * q2.2)).1,.int (red (q1.1 * q2.1,q1.2 * q2.2)).2]))
theorem ok_ltimes (F:Fun K "_law_times" "_law_times" qcq f fd) (T:Txt K mg a) (F__law_lowest:Fn P w K mg base "_law_lowest" 2 ["_law_top","_law_bottom"] qed):FnOk P w K mg base (CXo P w) 3 f fd ["_law_one_here","_law_other"] (qf0 K):=by
 refine F.okN qje (fun vs H Q E h=>?_) (fun cdv A outer s H vs Q E hr h=>?_)
 ·obtain ⟨p1,p2,q1,q2,rfl,_⟩:=h
  rfl
 ·obtain ⟨p1,p2,⟨t1,b1⟩,⟨t2,b2⟩,rfl,h1,h2,W,k⟩:=h
  have hu:=qbk hr
  refine ⟨_,(qak (qav (qa1 F__law_lowest (hr.mono (by first | decide | omega)) rfl qan (qaa (qaw qdo (qam qal (pv 0) qac (fun _ _=>rfl)) (qam qal (pv 1) qac (fun _ _=>rfl))) (qaa (qaw qdo (qam qal (pv 0) qac (fun _ _=>rfl)) (qam qal (pv 1) qac (fun _ _=>rfl))) qah))))),?_⟩
  refine ⟨_,rfl,p1,_,0,_,rfl,rfl,h1,qai (j:=0) rfl,_,rfl,p2,_,0,_,rfl,rfl,h2,qai (j:=0) rfl,_,_,rfl,rfl,⟨W.t1.mono (by decide),W.t2.mono (by decide)⟩,?_⟩
  exact ⟨_,rfl,p1,_,1,_,rfl,rfl,h1,qai (j:=1) rfl,_,rfl,p2,_,1,_,rfl,rfl,h2,qai (j:=1) rfl,_,_,rfl,rfl,⟨W.b1.mono (by decide),W.b2.mono (by decide)⟩,_,_,rfl,Int.mul_pos W.p1 W.p2,W.bb,k⟩
abbrev qcd:Stmt:=top 32
theorem qh6:FnScope ["_law_one_here","_law_other"] ["_law_one_here","_law_other"] (qaj qcd):=⟨rfl,rfl,rfl,by decide +kernel,rfl,by decide +kernel,by decide +kernel⟩
def qhf (K:PySem.W.Frag):Sp:=fun vs H Q _=>∃ p1 p2 q1 q2,vs=[.ref p1,.ref p2]∧FrAt K H p1 q1∧FrAt K H p2 q2∧Two q1 q2∧Q (.bl (decide (q1.1 * q2.2 < q2.1 * q1.2))) H
theorem ok_lesser (F:Fun K "_law_lesser" "_law_lesser" qcd f fd) (T:Txt K mg a):FnOk P w K mg base (CXo P w) 1 f fd ["_law_one_here","_law_other"] (qhf K):=by
 refine F.okN qh6 (fun vs H Q E h=>?_) (fun cdv A outer s H vs Q E hr h=>?_)
 ·obtain ⟨p1,p2,q1,q2,rfl,_⟩:=h
  rfl
 ·obtain ⟨p1,p2,⟨t1,b1⟩,⟨t2,b2⟩,rfl,h1,h2,W,k⟩:=h
  have hu:=qbk hr
  refine ⟨_,(qak (qav (qcn qji (qaw qdo (qam qal (pv 0) qac (fun _ _=>rfl)) (qam qal (pv 1) qac (fun _ _=>rfl))) (qaw qdo (qam qal (pv 1) qac (fun _ _=>rfl)) (qam qal (pv 0) qac (fun _ _=>rfl))) (qay _)))),?_⟩
  exact ⟨_,rfl,p1,_,0,_,rfl,rfl,h1,qai (j:=0) rfl,_,rfl,p2,_,1,_,rfl,rfl,h2,qai (j:=1) rfl,_,_,rfl,rfl,⟨W.t1.mono (by decide),W.b2.mono (by decide)⟩,_,rfl,p2,_,0,_,rfl,rfl,h2,qai (j:=0) rfl,_,rfl,p1,_,1,_,rfl,rfl,h1,qai (j:=1) rfl,_,_,rfl,rfl,⟨W.t2.mono (by decide),W.b1.mono (by decide)⟩,_,_,rfl,rfl,k⟩
end
abbrev Hl:=List (Str×Int×Int)
def getQ (l:Hl) (n:Str):Int×Int:=(qba l n).2
def putH (l:Hl) (n:Str) (q:Int×Int):Hl:=if (l.any fun x=>decide (x.1=n))=true then l.map (fun x=>if x.1=n then (n,q) else x) else l++[(n,q)]
def qgc (l:Hl) (n:Str):Hl:=l.filter fun x=>decide (x.1≠n)
def HeldZ (K:PySem.W.Frag) (H:Hp) (p:Addr) (l:Hl) (z:List ((Str×Int×Int)×Addr)):Prop :=
 z.map (·.1)=l∧H p=some (.dK (z.map fun q=>(Sum.inr q.1.1,V.ref q.2)))∧∀ q∈z,FrAt K H q.2 q.1.2
theorem HeldAt.toZ {K:PySem.W.Frag}{H:Hp}{p:Addr}{l:Hl} (h:HeldAt K H p l):∃ z,HeldZ K H p l z:=by
 obtain ⟨ts,hl,hd,ht⟩:=h
 exact ⟨l.zip ts,List.map_fst_zip (by omega),hd,ht⟩
theorem qg8 {α β:Type}:∀ z:List (α×β),(z.map (·.1)).zip (z.map (·.2))=z
 | []=>rfl
 | x::r=>congrArg (x::·) (qg8 r)
theorem HeldZ.held {K:PySem.W.Frag}{H:Hp}{p:Addr}{l:Hl}{z:List ((Str×Int×Int)×Addr)} (h:HeldZ K H p l z):HeldAt K H p l:=by
 obtain ⟨rfl,hd,ht⟩:=h
 refine ⟨z.map (·.2),by rw [List.length_map,List.length_map],?_,?_⟩
 ·rw [qg8];exact hd
 ·rw [qg8];exact ht
theorem qmi {K:PySem.W.Frag}{H:Hp}{p x:Addr}{q:Int×Int}{kvs:List (Key×V)}{o:HO} (hp:H p=some (.dK kvs)) (h:FrAt K H x q):FrAt K (upd H p o) x q :=
 qbd h fun c u e y=>by
  rw [qag (qki e hp (by rcases y with ⟨xs,rfl | ⟨ob,rfl⟩⟩ <;> intro z <;> cases z))]
  exact e
theorem HeldZ.val {K:PySem.W.Frag}{H:Hp}{p:Addr}{l:Hl}{z:List ((Str×Int×Int)×Addr)} (h:HeldZ K H p l z) (n:Str) :
  (n∉l.map (·.1)∧valV (z.map fun q=>((Sum.inr q.1.1:Key),V.ref q.2)) (Sum.inr n)=none∧getQ l n=(0,1))∨(n∈l.map (·.1)∧∃ x,valV (z.map fun q=>((Sum.inr q.1.1:Key),V.ref q.2)) (Sum.inr n)=some (.ref x)∧FrAt K H x (getQ l n)):=by
 obtain ⟨rfl,hd,ht⟩:=h
 rw [qc4 (key:=fun q:(Str×Int×Int)×Addr=>q.1.1)]
 unfold getQ qba
 rw [List.find?_map]
 have e:((fun q:Str×Int×Int=>decide (q.1=n)) ∘ fun x:(Str×Int×Int)×Addr=>x.1)=fun x=>decide (x.1.1=n):=rfl
 rw [e]
 cases hf:z.find? (fun x=>decide (x.1.1=n)) with
 | none =>
  left
  refine ⟨fun hn=>?_,rfl,rfl⟩
  rw [List.find?_eq_none] at hf
  rw [List.map_map] at hn
  obtain ⟨q,hq,e2⟩:=List.mem_map.mp hn
  exact hf q hq (decide_eq_true e2)
 | some q =>
  right
  have hq:=List.mem_of_find?_eq_some hf
  refine ⟨?_,q.2,rfl,ht q hq⟩
  rw [List.map_map]
  exact List.mem_map.mpr ⟨q,hq,by simpa using List.find?_some hf⟩
theorem HeldZ.put {K:PySem.W.Frag}{H:Hp}{p x:Addr}{l:Hl}{z:List ((Str×Int×Int)×Addr)}{n:Str}{q:Int×Int} (h:HeldZ K H p l z) (hx:FrAt K H x q) :
  ∃ z',HeldZ K (upd H p (.dK (putK (z.map fun q=>((Sum.inr q.1.1:Key),V.ref q.2)) (Sum.inr n) (.ref x)))) p (putH l n q) z':=by
 obtain ⟨rfl,hd,ht⟩:=h
 refine ⟨if (z.any fun y=>decide (y.1.1=n))=true then z.map (fun y=>if y.1.1=n then ((n,q),x) else y) else z++[((n,q),x)],?_,?_,?_⟩
 ·unfold putH
  rw [List.any_map]
  by_cases hb:(z.any fun y=>decide (y.1.1=n))=true
  ·rw [if_pos hb,if_pos (by exact hb),List.map_map,List.map_map]
   refine List.map_congr_left fun y _=>?_
   show (if y.1.1=n then ((n,q),x) else y).1=if y.1.1=n then (n,q) else y.1
   by_cases e:y.1.1=n
   ·rw [if_pos e,if_pos e]
   ·rw [if_neg e,if_neg e]
  ·rw [if_neg hb,if_neg (by exact hb),List.map_append]
   rfl
 ·rw [qab]
  unfold putK
  rw [List.any_map]
  have eb:((fun kv:Key×V=>decide (kv.1=Sum.inr n)) ∘ fun q:(Str×Int×Int)×Addr=>((Sum.inr q.1.1:Key),V.ref q.2))=fun y=>decide (y.1.1=n):=by
   funext y
   show decide ((Sum.inr y.1.1:Key)=Sum.inr n)=_
   rw [key_rr]
  rw [eb]
  by_cases hb:(z.any fun y=>decide (y.1.1=n))=true
  ·rw [if_pos hb,if_pos hb,List.map_map,List.map_map]
   congr 2
   refine List.map_congr_left fun y _=>?_
   show (if (Sum.inr y.1.1:Key)=Sum.inr n then ((Sum.inr y.1.1:Key),V.ref x) else ((Sum.inr y.1.1:Key),V.ref y.2))=((Sum.inr (if y.1.1=n then ((n,q),x) else y).1.1:Key),V.ref (if y.1.1=n then ((n,q),x) else y).2)
   by_cases e:y.1.1=n
   ·rw [if_pos (by rw [e]),if_pos e,e]
   ·rw [if_neg (fun w=>e (Sum.inr.inj w)),if_neg e]
  ·rw [if_neg hb,if_neg hb,List.map_append]
   rfl
 ·intro y hy
  refine qmi hd ?_
  by_cases hb:(z.any fun y=>decide (y.1.1=n))=true
  ·rw [if_pos hb] at hy
   obtain ⟨u,hu,rfl⟩:=List.mem_map.mp hy
   by_cases e:u.1.1=n
   ·rw [if_pos e];exact hx
   ·rw [if_neg e];exact ht u hu
  ·rw [if_neg hb] at hy
   rcases List.mem_append.mp hy with hy | hy
   ·exact ht y hy
   ·rw [List.mem_singleton.mp hy];exact hx
theorem HeldZ.drop {K:PySem.W.Frag}{H:Hp}{p:Addr}{l:Hl}{z:List ((Str×Int×Int)×Addr)}{n:Str} (h:HeldZ K H p l z) :
  ∃ z',HeldZ K (upd H p (.dK (qlq (z.map fun q=>((Sum.inr q.1.1:Key),V.ref q.2)) (Sum.inr n)))) p (qgc l n) z':=by
 obtain ⟨rfl,hd,ht⟩:=h
 refine ⟨z.filter (fun y=>decide (y.1.1≠n)),?_,?_,fun y hy=>qmi hd (ht y (List.mem_filter.mp hy).1)⟩
 ·unfold qgc
  rw [List.filter_map]
  rfl
 ·rw [qab]
  unfold qlq
  rw [List.filter_map]
  have eb:((fun kv:Key×V=>decide (kv.1≠Sum.inr n)) ∘ fun q:(Str×Int×Int)×Addr=>((Sum.inr q.1.1:Key),V.ref q.2))=fun y=>decide (y.1.1≠n):=by
   funext y
   show decide ((Sum.inr y.1.1:Key)≠Sum.inr n)=_
   rw [Bool.eq_iff_iff,decide_eq_true_iff,decide_eq_true_iff]
   exact ⟨fun h w=>h (by rw [w]),fun h w=>h (Sum.inr.inj w)⟩
  rw [eb]
theorem qdn (l:Hl) (n:Str):qba l n=(n,getQ l n):=by
 unfold getQ qba
 cases h:l.find? fun q=>decide (q.1=n) with
 | none=>rfl
 | some q =>
  have:q.1=n:=by simpa using List.find?_some h
  show q=(n,q.2)
  rw [← this]
theorem qc0 (l:Hl) (n m:Str) (q:Int×Int):getQ (putH l n q) m=if m=n then q else getQ l m:=by
 unfold getQ qba putH
 by_cases hb:(l.any fun x=>decide (x.1=n))=true
 ·rw [if_pos hb]
  induction l with
  | nil=>cases hb
  | cons x r ih =>
   rw [List.map_cons,List.find?_cons,List.find?_cons]
   by_cases e:x.1=n
   ·rw [if_pos e]
    by_cases em:m=n
    ·subst em
     rw [if_pos rfl,decide_eq_true (show m=m from rfl)]
     rfl
    ·rw [if_neg em]
     have e1:decide ((n,q).1=m)=false:=decide_eq_false fun z=>em z.symm
     have e2:decide (x.1=m)=false:=decide_eq_false fun z=>em (z.symm.trans e)
     rw [e1,e2]
     by_cases hr:(r.any fun x=>decide (x.1=n))=true
     ·have:=ih hr
      rw [if_neg em] at this
      exact this
     ·have er:r.map (fun x=>if x.1=n then (n,q) else x)=r:=by
       conv=>rhs;rw [← List.map_id r]
       refine List.map_congr_left fun y hy=>if_neg fun z=>hr (List.any_eq_true.mpr ⟨y,hy,decide_eq_true z⟩)
      show (Option.getD ((r.map fun x=>if x.1=n then (n,q) else x).find? fun q=>decide (q.1=m)) (m,0,1)).2=_
      rw [er]
   ·rw [if_neg e]
    have hr:(r.any fun x=>decide (x.1=n))=true:=by
     rw [List.any_cons,decide_eq_false e,Bool.false_or] at hb
     exact hb
    by_cases em:x.1=m
    ·rw [decide_eq_true em]
     have:¬ m=n:=fun z=>e (em.trans z)
     rw [if_neg this]
    ·rw [decide_eq_false em]
     exact ih hr
 ·rw [if_neg hb,List.find?_append]
  by_cases em:m=n
  ·subst em
   rw [if_pos rfl]
   have:l.find? (fun q=>decide (q.1=m))=none:=by
    rw [List.find?_eq_none]
    intro x hx z
    exact hb (List.any_eq_true.mpr ⟨x,hx,z⟩)
   rw [this,Option.none_or,List.find?_cons,decide_eq_true (show (m,q).1=m from rfl)]
   rfl
  ·rw [if_neg em]
   have:[(n,q)].find? (fun q=>decide (q.1=m))=none:=by
    rw [List.find?_cons,decide_eq_false (show ¬ (n,q).1=m from fun z=>em z.symm)]
    rfl
   rw [this,Option.or_none]
theorem qhw (l:Hl) (n m:Str):getQ (qgc l n) m=if m=n then (0,1) else getQ l m:=by
 unfold getQ qba qgc
 rw [List.find?_filter]
 by_cases em:m=n
 ·subst em
  rw [if_pos rfl]
  have:l.find? (fun a=>decide (decide (a.1≠m)=true∧decide (a.1=m)=true))=none:=by
   rw [List.find?_eq_none]
   intro x hx z
   have z:=of_decide_eq_true z
   exact of_decide_eq_true z.1 (of_decide_eq_true z.2)
  rw [this]
  rfl
 ·rw [if_neg em]
  have:(fun a:Str×Int×Int=>decide (decide (a.1≠n)=true∧decide (a.1=m)=true))=fun a=>decide (a.1=m):=by
   funext x
   rw [Bool.eq_iff_iff]
   simp only [decide_eq_true_iff]
   exact ⟨fun h=>h.2,fun h=>⟨fun z=>em (h.symm.trans z),h⟩⟩
  rw [this]
theorem qca (l:Hl) (n:Str) (q:Int×Int):(putH l n q).map (·.1)=if n∈l.map (·.1) then l.map (·.1) else l.map (·.1)++[n]:=by
 unfold putH
 by_cases hb:(l.any fun x=>decide (x.1=n))=true
 ·have:n∈l.map (·.1):=by
   obtain ⟨x,hx,e⟩:=List.any_eq_true.mp hb
   exact List.mem_map.mpr ⟨x,hx,of_decide_eq_true e⟩
  rw [if_pos hb,if_pos this,List.map_map]
  refine List.map_congr_left fun x _=>?_
  show (if x.1=n then (n,q) else x).1=x.1
  by_cases e:x.1=n
  ·rw [if_pos e,e]
  ·rw [if_neg e]
 ·have:¬ n∈l.map (·.1):=fun z=>by
   obtain ⟨x,hx,e⟩:=List.mem_map.mp z
   exact hb (List.any_eq_true.mpr ⟨x,hx,decide_eq_true e⟩)
  rw [if_neg hb,if_neg this,List.map_append]
  rfl
theorem qkj {l:Hl} (n:Str) (q:Int×Int) (h:(l.map (·.1)).Nodup):((putH l n q).map (·.1)).Nodup:=by
 rw [qca]
 by_cases hn:n∈l.map (·.1)
 ·rw [if_pos hn];exact h
 ·rw [if_neg hn];exact qer h hn
theorem qgn (l:Hl) (n:Str):(qgc l n).map (·.1)=(l.map (·.1)).filter fun x=>decide (x≠n):=by
 unfold qgc
 rw [List.filter_map]
 rfl
theorem nd_drop {l:Hl} (n:Str) (h:(l.map (·.1)).Nodup):((qgc l n).map (·.1)).Nodup:=by
 rw [qgn]
 exact h.filter _
theorem qll (l:Hl) (n:Str) (q:Int×Int):(putH l n q).length≤l.length+1:=by
 have:=congrArg List.length (qca l n q)
 rw [List.length_map] at this
 rw [this]
 split
 ·rw [List.length_map];omega
 ·rw [List.length_append,List.length_map];exact Nat.le_refl _
theorem qma (l:Hl) (n:Str):(qgc l n).length≤l.length:=List.length_filter_le _ _
def sold (l:Hl) (o1 o2:Str) (q:Int×Int):Hl :=
 let r:=addR (getQ l o1) (-q.1,q.2)
 let l1:=if r=(0,1) then qgc l o1 else putH l o1 r
 putH l1 o2 (addR (getQ l1 o2) q)
def qli (l:Hl) (o1 o2:Str) (q:Int×Int):Hl :=
 let l1:=putH l o1 (addR (getQ l o1) (-q.1,q.2))
 putH l1 o2 (addR (getQ l1 o2) q)
end My
namespace My
open PySem L2 Fra
def setE {β:Type} (L:List (Ent×β)) (h:Str) (g:Ent→Ent):List (Ent×β):=L.map fun x=>if x.1.nm=h then (g x.1,x.2) else x
theorem qa3 {β γ:Type}{L:List (Ent×β)}{h:Str}{g:Ent→Ent} (v:Ent×β→γ) (hv:∀ x,v (g x.1,x.2)=v x):(setE L h g).map v=L.map v:=by
 unfold setE
 rw [List.map_map]
 refine List.map_congr_left fun x _=>?_
 show v (if x.1.nm=h then (g x.1,x.2) else x)=v x
 by_cases e:x.1.nm=h
 ·rw [if_pos e,hv]
 ·rw [if_neg e]
theorem qb7 {β:Type}{L:List (Ent×β)}{h:Str}{g:Ent→Ent}{y:Ent×β} (hy:y∈setE L h g):∃ x∈L,(x.1.nm=h∧y=(g x.1,x.2))∨(¬ x.1.nm=h∧y=x):=by
 unfold setE at hy
 obtain ⟨x,hx,rfl⟩:=List.mem_map.mp hy
 refine ⟨x,hx,?_⟩
 by_cases e:x.1.nm=h
 ·rw [if_pos e];exact .inl ⟨e,rfl⟩
 ·rw [if_neg e];exact .inr ⟨e,rfl⟩
theorem qim {α β:Type}{key:α→β}:∀ {l:List α}{x y:α},(l.map key).Nodup→x∈l→y∈l→key x=key y→x=y
 | [],_,_,_,hx,_,_=>by cases hx
 | z::r,x,y,h,hx,hy,e=>by
  obtain ⟨h1,h2⟩:=List.nodup_cons.mp h
  rcases List.mem_cons.mp hx with ex | hx'
  ·rcases List.mem_cons.mp hy with ey | hy'
   ·exact ex.trans ey.symm
   ·rw [ex] at e
    exact absurd (List.mem_map.mpr ⟨y,hy',e.symm⟩) h1
  ·rcases List.mem_cons.mp hy with ey | hy'
   ·rw [ey] at e
    exact absurd (List.mem_map.mpr ⟨x,hx',e⟩) h1
   ·exact qim h2 hx' hy' e
theorem qes {L:List (Ent×Addr)}{h:Str}{e:Ent×Addr} (he:qbf L h=some e):e.1.nm=h:=by
 unfold qbf at he
 simpa using List.find?_some he
theorem qd1 {L:List (Ent×Addr)}{h:Str}{e x:Ent×Addr} (nd:(L.map (·.1.nm)).Nodup) (he:qbf L h=some e) (hx:x∈L) (hn:x.1.nm=h):x=e :=
 qim (key:=fun x:Ent×Addr=>x.1.nm) nd hx (qa7 he) (hn.trans (qes he).symm)
theorem BookAt.reheld {K:PySem.W.Frag}{C:Addr}{H H':Hp}{b:Addr}{z:BA}{ppl:List Str}{L:List (Ent×Addr)}{h:Str}{e:Ent×Addr}{g:Ent→Ent} (B:BookAt K C H b z ppl L) (nd:(L.map (·.1.nm)).Nodup) (he:qbf L h=some e)
  (hg:∀ x,g x={ x with held:=(g x).held }) (hH:HeldAt K H' e.2 (g e.1).held) (kp:∀ c o,H c=some o→c≠e.2→H' c=some o):BookAt K C H' b z ppl (setE L h g):=by
 have hem:=qa7 he
 have e2:e.2∈L.map (·.2):=List.mem_map.mpr ⟨e,hem,rfl⟩
 obtain ⟨n1,r1⟩:=List.nodup_cons.mp B.nd
 obtain ⟨n2,r2⟩:=List.nodup_cons.mp r1
 obtain ⟨n3,r3⟩:=List.nodup_cons.mp r2
 obtain ⟨n4,r4⟩:=List.nodup_cons.mp r3
 obtain ⟨n5,r5⟩:=List.nodup_cons.mp r4
 obtain ⟨n6,r6⟩:=List.nodup_cons.mp r5
 have g1:∀ x,(g x).nm=x.nm:=fun x=>by rw [hg x]
 have g2:∀ x,(g x).th=x.th:=fun x=>by rw [hg x]
 have g3:∀ x,(g x).mr=x.mr:=fun x=>by rw [hg x]
 have g4:∀ x,(g x).ls=x.ls:=fun x=>by rw [hg x]
 refine ⟨kp _ _ B.ob fun q=>n1 (q ▸ by simp only [List.mem_cons];right;right;right;right;right;exact e2),kp _ _ B.pp fun q=>n2 (q ▸ by simp only [List.mem_cons];right;right;right;right;exact e2),?_,?_,?_,?_,?_,?_,B.p6,by unfold setE;rw [List.length_map];exact B.h8⟩
 ·rw [qa3 (v:=fun e=>((Sum.inr e.1.nm:Key),V.int e.1.th)) fun x=>by rw [g1,g2]]
  exact kp _ _ B.tt fun q=>n3 (q ▸ by simp only [List.mem_cons];right;right;right;exact e2)
 ·rw [qa3 (v:=fun e=>((Sum.inr e.1.nm:Key),V.int e.1.mr)) fun x=>by rw [g1,g3]]
  exact kp _ _ B.mm fun q=>n4 (q ▸ by simp only [List.mem_cons];right;right;exact e2)
 ·rw [qa3 (v:=fun e=>((Sum.inr e.1.nm:Key),V.int e.1.ls)) fun x=>by rw [g1,g4]]
  exact kp _ _ B.ll fun q=>n5 (q ▸ by simp only [List.mem_cons];right;exact e2)
 ·rw [qa3 (v:=fun e=>((Sum.inr e.1.nm:Key),V.ref e.2)) fun x=>by rw [g1]]
  exact B.hh.keep fun o h=>kp _ _ h fun q=>n6 (q ▸ e2)
 ·intro y hy
  obtain ⟨x,hx,⟨hn,rfl⟩ | ⟨hn,rfl⟩⟩:=qb7 hy
  ·rw [qd1 nd he hx hn]
   exact hH
  ·have hy2:y.2≠e.2:=fun q=>hn (by rw [qim (key:=fun x:Ent×Addr=>x.2) r6 hx hem q];exact qes he)
   obtain ⟨kvs,hk⟩:∃ kvs,H e.2=some (.dK kvs):=by
    obtain ⟨ts,_,q,_⟩:=B.he e hem
    exact ⟨_,q⟩
   refine (B.he y hx).keep (fun o ho=>kp _ _ ho hy2) fun c o ho x=>kp c o ho fun q=>?_
   rw [q,hk] at ho
   cases ho
   rcases x with ⟨xs,z | ⟨ob,z⟩⟩ <;> cases z
 ·rw [qa3 (v:=fun e=>e.2) fun x=>rfl]
  exact B.nd
theorem BookAt.renum {K:PySem.W.Frag}{C:Addr}{H H':Hp}{b:Addr}{z:BA}{ppl:List Str}{L:List (Ent×Addr)}{h:Str}{g:Ent→Ent}{d:Addr} (B:BookAt K C H b z ppl L) (hd:d=z.dt∨d=z.dm∨d=z.dl)
  (g1:∀ x,(g x).nm=x.nm) (g2:∀ x,(g x).held=x.held)
  (tt:H' z.dt=some (.dK ((setE L h g).map fun e=>(Sum.inr e.1.nm,.int e.1.th)))) (mm:H' z.dm=some (.dK ((setE L h g).map fun e=>(Sum.inr e.1.nm,.int e.1.mr)))) (ll:H' z.dl=some (.dK ((setE L h g).map fun e=>(Sum.inr e.1.nm,.int e.1.ls))))
  (kp:∀ c o,H c=some o→c≠d→H' c=some o):BookAt K C H' b z ppl (setE L h g):=by
 obtain ⟨n1,r1⟩:=List.nodup_cons.mp B.nd
 obtain ⟨n2,r2⟩:=List.nodup_cons.mp r1
 obtain ⟨n3,r3⟩:=List.nodup_cons.mp r2
 obtain ⟨n4,r4⟩:=List.nodup_cons.mp r3
 obtain ⟨n5,r5⟩:=List.nodup_cons.mp r4
 obtain ⟨n6,r6⟩:=List.nodup_cons.mp r5
 obtain ⟨kvs,hk⟩:∃ kvs,H d=some (.dK kvs):=by
  rcases hd with rfl | rfl | rfl
  ·exact ⟨_,B.tt⟩
  ·exact ⟨_,B.mm⟩
  ·exact ⟨_,B.ll⟩
 refine ⟨kp _ _ B.ob fun q=>n1 ?_,kp _ _ B.pp fun q=>n2 ?_,tt,mm,ll,?_,?_,?_,B.p6,by unfold setE;rw [List.length_map];exact B.h8⟩
 ·rcases hd with e | e | e <;> (rw [q,e];simp)
 ·rcases hd with e | e | e <;> (rw [q,e];simp)
 ·rw [qa3 (v:=fun e=>((Sum.inr e.1.nm:Key),V.ref e.2)) fun x=>by rw [g1]]
  refine B.hh.keep fun o h=>kp _ _ h fun q=>?_
  rcases hd with e | e | e
  ·exact n3 (by rw [← e,← q];simp)
  ·exact n4 (by rw [← e,← q];simp)
  ·exact n5 (by rw [← e,← q];simp)
 ·intro y hy
  have:∃ x∈L,x.2=y.2∧x.1.held=y.1.held:=by
   obtain ⟨x,hx,⟨hn,rfl⟩ | ⟨hn,rfl⟩⟩:=qb7 hy
   ·exact ⟨x,hx,rfl,(g2 _).symm⟩
   ·exact ⟨y,hx,rfl,rfl⟩
  obtain ⟨x,hx,e1,e2⟩:=this
  rw [← e1,← e2]
  have hx2:x.2∈L.map (·.2):=List.mem_map.mpr ⟨x,hx,rfl⟩
  refine (B.he x hx).keep (fun o ho=>kp _ _ ho fun q=>?_) fun c o ho w=>kp c o ho fun q=>?_
  ·rcases hd with e | e | e
   ·exact n3 (by rw [← e,← q];simp only [List.mem_cons];right;right;right;exact hx2)
   ·exact n4 (by rw [← e,← q];simp only [List.mem_cons];right;right;exact hx2)
   ·exact n5 (by rw [← e,← q];simp only [List.mem_cons];right;exact hx2)
  ·rw [q,hk] at ho
   cases ho
   rcases w with ⟨xs,z | ⟨ob,z⟩⟩ <;> cases z
 ·rw [qa3 (v:=fun e=>e.2) fun x=>rfl]
  exact B.nd
theorem BookAt.ne {K:PySem.W.Frag}{C:Addr}{H:Hp}{b:Addr}{z:BA}{ppl:List Str}{L:List (Ent×Addr)} (B:BookAt K C H b z ppl L):z.dt≠z.dm∧z.dt≠z.dl∧z.dm≠z.dl:=by
 obtain ⟨n1,r1⟩:=List.nodup_cons.mp B.nd
 obtain ⟨n2,r2⟩:=List.nodup_cons.mp r1
 obtain ⟨n3,r3⟩:=List.nodup_cons.mp r2
 obtain ⟨n4,r4⟩:=List.nodup_cons.mp r3
 exact ⟨fun q=>n3 (by rw [q];simp),fun q=>n3 (by rw [q];simp),fun q=>n4 (by rw [q];simp)⟩
theorem qk5 {L:List (Ent×Addr)}{h:Str}{g:Ent→Ent}{n:Int} (v:Ent→Int) (hh:hasH L h=true) (g1:∀ x,(g x).nm=x.nm) (hv:∀ x,v (g x)=n) :
  putK (L.map fun e=>((Sum.inr e.1.nm:Key),V.int (v e.1))) (Sum.inr h) (.int n)=(setE L h g).map fun e=>((Sum.inr e.1.nm:Key),V.int (v e.1)):=by
 have hs:(valV (L.map fun e=>((Sum.inr e.1.nm:Key),V.int (v e.1))) (Sum.inr h)).isSome=true:=by
  rw [qc4 (key:=fun e:Ent×Addr=>e.1.nm),Option.isSome_map]
  exact hh
 unfold putK
 rw [qgz,if_pos hs]
 unfold setE
 rw [List.map_map,List.map_map]
 refine List.map_congr_left fun x _=>?_
 show (if (Sum.inr x.1.nm:Key)=Sum.inr h then ((Sum.inr x.1.nm:Key),V.int n) else ((Sum.inr x.1.nm:Key),V.int (v x.1)))=((Sum.inr (if x.1.nm=h then (g x.1,x.2) else x).1.nm:Key),V.int (v (if x.1.nm=h then (g x.1,x.2) else x).1))
 by_cases e:x.1.nm=h
 ·rw [if_pos (by rw [e]),if_pos e,g1,hv]
 ·rw [if_neg (fun w=>e (Sum.inr.inj w)),if_neg e]
section
variable {P:Program}{w:World}{K:PySem.W.Frag}{mg:Str→Option Value}{base:Heap}{a:Adr}{f:Addr}{fd:FuncData}
def qfz (K:PySem.W.Frag) (a:Adr) (ad:BA→Addr) (g:Int→Ent→Ent) (neg:Bool):Sp:=fun vs H Q E=>∃ b z ppl L h n,vs=[.ref b,.str h,.int n]∧BookAt K a.Book H b z ppl L∧Nm h ∧
 (hasH L h=false→E (.ref a.NoHouse) none H)∧(hasH L h=true→neg=true→n < 0→E (.ref a.NoLoss) none H) ∧
 (hasH L h=true→(neg=true→0≤n)→∀ H',BookAt K a.Book H' b z ppl (setE L h (g n))→(∀ c o,H c=some o→c≠ad z→H' c=some o)→Q .non H')
abbrev qce:Stmt:=qcj (top 24) 9
theorem qh7:FnScope ["self","house","number"] ["self","house","number"] (qaj qce):=⟨rfl,rfl,rfl,by decide +kernel,rfl,by decide +kernel,by decide +kernel⟩
theorem ok_things (F:Fun K "things" "Book.things" qce f fd) (T:Txt K mg a) (M_need_house:Mt P w K mg base a.Book "need_house" 2 ["self","name"] (qby K a)):FnOk P w K mg base (CXo P w) 3 f fd ["self","house","number"] (qfz K a (·.dt) (fun n x=>{ x with th:=n }) false):=by
 refine F.okX qh7 (fun vs H Q E h=>?_) (fun cdv A outer s H vs Q E hr h=>?_)
 ·obtain ⟨b,z,ppl,L,h,n,rfl,_⟩:=h
  rfl
 ·obtain ⟨b,z,ppl,L,h,n,rfl,B,nm,k1,k2,k3⟩:=h
  have hu:=qbk hr
  refine ⟨_,(qaf (qbw (qdh (pv 0) M_need_house (hr.mono (by first | decide | omega)) qdl (qaa (pv 1) qah))) (qak (qcx hu (qch (pv 0) rfl) (pv 1) (pv 2) rfl))),?_⟩
  refine ⟨_,rfl,b,_,_,rfl,B.ob,qec z (by decide +kernel) (by decide +kernel) (by decide +kernel) (by decide +kernel) (by decide +kernel),_,rfl,b,z,ppl,L,h,rfl,B,nm,fun hh=>?_,fun hh=>k1 hh⟩
  refine ⟨_,rfl,_,rfl,b,_,_,_,_,rfl,B.ob,T.cl,T.nA_things_of,qh3 z,_,rfl,z.dt,_,rfl,DPut.k (k:=Sum.inr h) B.tt ?_,?_⟩
  ·rw [List.length_map];exact Nat.lt_of_le_of_lt B.h8 (by decide)
  ·have hb:=B.renum (h:=h) (g:=fun x=>{ x with th:=n }) (H':=upd H z.dt (.dK (putK (L.map fun e=>((Sum.inr e.1.nm:Key),V.int e.1.th)) (Sum.inr h) (.int n)))) (.inl rfl) (fun _=>rfl) (fun _=>rfl) ?_ ?_ ?_ (fun c o hc hn=>by rw [qag hn];exact hc)
   ·exact k3 hh (fun z=>by cases z) _ hb fun c o hc hn=>by rw [qag hn];exact hc
   ·rw [qab,qk5 (g:=fun x=>{ x with th:=n }) (fun x=>x.th) hh (fun _=>rfl) (fun _=>rfl)]
   ·rw [qag (B.ne.1.symm),qa3 (v:=fun e=>((Sum.inr e.1.nm:Key),V.int e.1.mr)) fun x=>rfl]
    exact B.mm
   ·rw [qag (B.ne.2.1.symm),qa3 (v:=fun e=>((Sum.inr e.1.nm:Key),V.int e.1.ls)) fun x=>rfl]
    exact B.ll
abbrev qde:Stmt:=qcj (top 24) 10
theorem qj6:FnScope ["self","house","number"] ["self","house","number"] (qaj qde):=⟨rfl,rfl,rfl,by decide +kernel,rfl,by decide +kernel,by decide +kernel⟩
theorem ok_mark (F:Fun K "mark" "Book.mark" qde f fd) (T:Txt K mg a) (M_need_house:Mt P w K mg base a.Book "need_house" 2 ["self","name"] (qby K a)):FnOk P w K mg base (CXo P w) 3 f fd ["self","house","number"] (qfz K a (·.dm) (fun n x=>{ x with mr:=n }) false):=by
 refine F.okX qj6 (fun vs H Q E h=>?_) (fun cdv A outer s H vs Q E hr h=>?_)
 ·obtain ⟨b,z,ppl,L,h,n,rfl,_⟩:=h
  rfl
 ·obtain ⟨b,z,ppl,L,h,n,rfl,B,nm,k1,k2,k3⟩:=h
  have hu:=qbk hr
  refine ⟨_,(qaf (qbw (qdh (pv 0) M_need_house (hr.mono (by first | decide | omega)) qdl (qaa (pv 1) qah))) (qak (qcx hu (qch (pv 0) rfl) (pv 1) (pv 2) rfl))),?_⟩
  refine ⟨_,rfl,b,_,_,rfl,B.ob,qec z (by decide +kernel) (by decide +kernel) (by decide +kernel) (by decide +kernel) (by decide +kernel),_,rfl,b,z,ppl,L,h,rfl,B,nm,fun hh=>?_,fun hh=>k1 hh⟩
  refine ⟨_,rfl,_,rfl,b,_,_,_,_,rfl,B.ob,T.cl,T.nA_mark_of,qlt z,_,rfl,z.dm,_,rfl,DPut.k (k:=Sum.inr h) B.mm ?_,?_⟩
  ·rw [List.length_map];exact Nat.lt_of_le_of_lt B.h8 (by decide)
  ·have hb:=B.renum (h:=h) (g:=fun x=>{ x with mr:=n }) (H':=upd H z.dm (.dK (putK (L.map fun e=>((Sum.inr e.1.nm:Key),V.int e.1.mr)) (Sum.inr h) (.int n)))) (.inr (.inl rfl)) (fun _=>rfl) (fun _=>rfl) ?_ ?_ ?_ (fun c o hc hn=>by rw [qag hn];exact hc)
   ·exact k3 hh (fun z=>by cases z) _ hb fun c o hc hn=>by rw [qag hn];exact hc
   ·rw [qag (B.ne.1),qa3 (v:=fun e=>((Sum.inr e.1.nm:Key),V.int e.1.th)) fun x=>rfl]
    exact B.tt
   ·rw [qab,qk5 (g:=fun x=>{ x with mr:=n }) (fun x=>x.mr) hh (fun _=>rfl) (fun _=>rfl)]
   ·rw [qag (B.ne.2.2.symm),qa3 (v:=fun e=>((Sum.inr e.1.nm:Key),V.int e.1.ls)) fun x=>rfl]
    exact B.ll
abbrev qdf:Stmt:=qcj (top 24) 11
theorem qj7:FnScope ["self","house","number"] ["self","house","number"] (qaj qdf):=⟨rfl,rfl,rfl,by decide +kernel,rfl,by decide +kernel,by decide +kernel⟩
theorem ok_loss (F:Fun K "loss" "Book.loss" qdf f fd) (T:Txt K mg a) (M_need_house:Mt P w K mg base a.Book "need_house" 2 ["self","name"] (qby K a)) (F_need_loss:Fn P w K mg base "need_loss" 1 ["number"] (qd2 a)):FnOk P w K mg base (CXo P w) 3 f fd ["self","house","number"] (qfz K a (·.dl) (fun n x=>{ x with ls:=n }) true):=by
 refine F.okX qj7 (fun vs H Q E h=>?_) (fun cdv A outer s H vs Q E hr h=>?_)
 ·obtain ⟨b,z,ppl,L,h,n,rfl,_⟩:=h
  rfl
 ·obtain ⟨b,z,ppl,L,h,n,rfl,B,nm,k1,k2,k3⟩:=h
  have hu:=qbk hr
  refine ⟨_,(qaf (qbw (qdh (pv 0) M_need_house (hr.mono (by first | decide | omega)) qdl (qaa (pv 1) qah))) (qaf (qbw (qa1 F_need_loss (hr.mono (by first | decide | omega)) rfl qdl (qaa (pv 2) qah))) (qak (qcx hu (qch (pv 0) rfl) (pv 1) (pv 2) rfl)))),?_⟩
  refine ⟨_,rfl,b,_,_,rfl,B.ob,qec z (by decide +kernel) (by decide +kernel) (by decide +kernel) (by decide +kernel) (by decide +kernel),_,rfl,b,z,ppl,L,h,rfl,B,nm,fun hh=>?_,fun hh=>k1 hh⟩
  refine ⟨_,rfl,n,rfl,fun hl=>k2 hh rfl hl,fun hn0=>?_⟩
  refine ⟨_,rfl,_,rfl,b,_,_,_,_,rfl,B.ob,T.cl,T.nA_loss_of,qlu z,_,rfl,z.dl,_,rfl,DPut.k (k:=Sum.inr h) B.ll ?_,?_⟩
  ·rw [List.length_map];exact Nat.lt_of_le_of_lt B.h8 (by decide)
  ·have hb:=B.renum (h:=h) (g:=fun x=>{ x with ls:=n }) (H':=upd H z.dl (.dK (putK (L.map fun e=>((Sum.inr e.1.nm:Key),V.int e.1.ls)) (Sum.inr h) (.int n)))) (.inr (.inr rfl)) (fun _=>rfl) (fun _=>rfl) ?_ ?_ ?_ (fun c o hc hn=>by rw [qag hn];exact hc)
   ·exact k3 hh (fun _=>hn0) _ hb fun c o hc hn=>by rw [qag hn];exact hc
   ·rw [qag (B.ne.2.1),qa3 (v:=fun e=>((Sum.inr e.1.nm:Key),V.int e.1.th)) fun x=>rfl]
    exact B.tt
   ·rw [qag (B.ne.2.2),qa3 (v:=fun e=>((Sum.inr e.1.nm:Key),V.int e.1.mr)) fun x=>rfl]
    exact B.mm
   ·rw [qab,qk5 (g:=fun x=>{ x with ls:=n }) (fun x=>x.ls) hh (fun _=>rfl) (fun _=>rfl)]
end
end My
namespace My
open PySem L2 Fra
theorem eqLs2 (i j:Int):eqLs [V.int i,V.int j] [V.int 0,V.int 1]=decide ((i,j)=((0:Int),(1:Int))):=by
 show (eqV (.int i) (.int 0) && (eqV (.int j) (.int 1) && true))=_
 have e1:∀ i j:Int,eqV (.int i) (.int j)=decide (i=j):=fun i j=>rfl
 rw [e1,e1,Bool.and_true,Bool.eq_iff_iff,Bool.and_eq_true,decide_eq_true_iff,decide_eq_true_iff,decide_eq_true_iff,Prod.mk.injEq]
theorem bt0 (k:Nat):Bt k 0:=Nat.two_pow_pos k
theorem bt1 {k:Nat} (h:k≠0):Bt k 1:=Nat.one_lt_two_pow h
theorem sz0:Sz (0,1):=⟨⟨by decide,(rfl:Int.gcd 0 1=1)⟩,bt0 _,bt1 (by decide)⟩
theorem HeldZ.same {K:PySem.W.Frag}{H H':Hp}{p:Addr}{l:Hl}{z:List ((Str×Int×Int)×Addr)} (h:HeldZ K H p l z) (s:Same H H'):HeldZ K H' p l z :=
 ⟨h.1,s _ _ h.2.1,fun q hq=>(h.2.2 q hq).same s⟩
theorem HeldZ.get {K:PySem.W.Frag}{H:Hp}{p:Addr}{l:Hl}{z:List ((Str×Int×Int)×Addr)} (h:HeldZ K H p l z) {o:Addr} (ho:FrAt K H o (0,1)) (n:Str) :
  ∃ x,(valV (z.map fun q=>((Sum.inr q.1.1:Key),V.ref q.2)) (Sum.inr n)).getD (.ref o)=.ref x∧FrAt K H x (getQ l n):=by
 rcases h.val n with ⟨_,hv,hg⟩ | ⟨_,x,hv,hx⟩
 ·exact ⟨o,by rw [hv];rfl,by rw [hg];exact ho⟩
 ·exact ⟨x,by rw [hv];rfl,hx⟩
def qcm (l:Hl) (o:Str) (q:Int×Int):Prop:=¬ 0 < q.1∨q.1 * (getQ l o).2 > (getQ l o).1 * q.2
instance (l:Hl) (o:Str) (q:Int×Int):Decidable (qcm l o q):=by unfold qcm;infer_instance
section
variable {P:Program}{w:World}{K:PySem.W.Frag}{mg:Str→Option Value}{base:Heap}{a:Adr}{f:Addr}{fd:FuncData}
abbrev qdd:Stmt:=qcj (top 24) 8
theorem sc_Book_sale:FnScope ["self","house","one","other","share","held","rest"] ["self","house","one","other","share"] (qaj qdd):=⟨rfl,rfl,rfl,by decide +kernel,rfl,by decide +kernel,by decide +kernel⟩
structure SaleOk (l:Hl) (o1:Str) (q:Int×Int):Prop where
 len:l.length < 1000
 sz:∀ n,Sz (getQ l n)
 rs:¬ qcm l o1 q→Sz (addR (getQ l o1) (-q.1,q.2))
def qi2 (K:PySem.W.Frag) (a:Adr):Sp:=fun vs H Q E=>∃ b z ppl L h o1 o2 sp q,vs=[.ref b,.str h,.str o1,.str o2,.ref sp]∧BookAt K a.Book H b z ppl L∧(L.map (·.1.nm)).Nodup∧Nm h∧Nm o1∧Nm o2∧FrAt K H sp q∧Sz q ∧
 (∀ e,qbf L h=some e→SaleOk e.1.held o1 q) ∧
 (hasH L h=false→E (.ref a.NoHouse) none H) ∧
 (hasH L h=true→(hasP ppl o1 || hasH L o1)=false→E (.ref a.NoHolder) none H) ∧
 (hasH L h=true→(hasP ppl o1 || hasH L o1)=true→(hasP ppl o2 || hasH L o2)=false→E (.ref a.NoHolder) none H) ∧
 (∀ e,qbf L h=some e→(hasP ppl o1 || hasH L o1)=true→(hasP ppl o2 || hasH L o2)=true→qcm e.1.held o1 q→E (.ref a.NoShare) none H) ∧
 (∀ e,qbf L h=some e→(hasP ppl o1 || hasH L o1)=true→(hasP ppl o2 || hasH L o2)=true→¬ qcm e.1.held o1 q→∀ H',BookAt K a.Book H' b z ppl (setE L h fun x=>{ x with held:=sold x.held o1 o2 q })→(∀ c o,H c=some o→c≠e.2→H' c=some o)→Q .non H')
theorem ok_sale (F:Fun K "sale" "Book.sale" qdd f fd) (T:Txt K mg a) (M_need_house:Mt P w K mg base a.Book "need_house" 2 ["self","name"] (qby K a)) (M_need_holder:Mt P w K mg base a.Book "need_holder" 3 ["self","name"] (qdj K a))
  (F_is_above:Fn P w K mg base "is_above" 1 ["first","second"] (qjc K)) (F_minus:Fn P w K mg base "minus" 3 ["first","second"] (qi5 K)) (F_plus:Fn P w K mg base "plus" 2 ["first","second"] (qhc K)) :
  FnOk P w K mg base (CXo P w) 4 f fd ["self","house","one","other","share"] (qi2 K a):=by
 refine F.okX sc_Book_sale (fun vs H Q E h=>?_) (fun cdv A outer s H vs Q E hr h=>?_)
 ·obtain ⟨b,z,ppl,L,h,o1,o2,sp,q,rfl,_⟩:=h
  rfl
 ·obtain ⟨b,z,ppl,L,h,o1,o2,sp,q,rfl,B,nd,nh,n1,n2,hq,sq,hok,k1,k2,k3,k4,k5⟩:=h
  have hu:=qbk hr
  refine ⟨_,(qaf (qbw (qdh (pv 0) M_need_house (hr.mono (by first | decide | omega)) qdl (qaa (pv 1) qah))) (qaf (qbw (qdh (pv 0) M_need_holder (hr.mono (by first | decide | omega)) qdl (qaa (pv 2) qah))) (qaf (qbw (qdh (pv 0) M_need_holder (hr.mono (by first | decide | omega)) qdl (qaa (pv 3) qah))) (qaf (qaq (i:=5) sc_Book_sale.nd rfl (Or.inl rfl) (qdi hu (qch (pv 0) rfl) (pv 1) (fun _ _=>rfl))) (qaf (qbi (PW.pt (qhi (qd5 (qc3 (qa1 F_is_above (hr.mono (by first | decide | omega)) rfl qdl (qaa (pv 4) (qaa (qb6 rfl T.g_ZERO T.r_ZERO) qah))))) (qe2 (qc3 (qa1 F_is_above (hr.mono (by first | decide | omega)) rfl qdl (qaa (pv 4) (qaa (qf7 hu (pv 5) (pv 2) (qb6 rfl T.g_ZERO T.r_ZERO) ⟨rfl,rfl,rfl,rfl⟩) qah))))))) (qak (qd6 T.x_NoShare rfl T.c_NoShare rfl (pe_fs (qih (pv 2) (qka (qih (pv 1) qkb)))) qkk)) qax) (qaf (qaq (i:=6) sc_Book_sale.nd rfl (Or.inl rfl) (qa1 F_minus (hr.mono (by first | decide | omega)) rfl qdl (qaa (qdi hu (pv 5) (pv 2) (fun _ _=>rfl)) (qaa (pv 4) qah)))) (qaf (qbi (qau (op_eqT (Nat.lt_of_succ_lt hu)) (pv 6) (qb6 rfl T.g_ZERO T.r_ZERO) (qay _)) (qak (qbw (pe_dpop1 (pv 5) (pv 2) ⟨rfl,rfl,rfl,rfl⟩))) (qak (qcx hu (pv 5) (pv 2) (pv 6) rfl))) (qak (qcx hu (pv 5) (pv 3) (qa1 F_plus (hr.mono (by first | decide | omega)) rfl qdl (qaa (qf7 hu (pv 5) (pv 3) (qb6 rfl T.g_ZERO T.r_ZERO) ⟨rfl,rfl,rfl,rfl⟩) (qaa (pv 4) qah))) rfl))))))))),?_⟩
  have bn:∀ {m:Str},¬ m="people"→¬ m="things_of"→¬ m="mark_of"→¬ m="loss_of"→¬ m="held_of"→(bf z).lookup m=none:=fun a b c d e=>qec z a b c d e
  refine ⟨_,rfl,b,_,_,rfl,B.ob,qec z (by decide +kernel) (by decide +kernel) (by decide +kernel) (by decide +kernel) (by decide +kernel),_,rfl,b,z,ppl,L,h,rfl,B,nh,fun hh=>?_,fun hh=>k1 hh⟩
  refine ⟨_,rfl,b,_,_,rfl,B.ob,qec z (by decide +kernel) (by decide +kernel) (by decide +kernel) (by decide +kernel) (by decide +kernel),_,rfl,b,z,ppl,L,o1,rfl,B,n1,fun h1=>?_,fun h1=>k2 hh h1⟩
  refine ⟨_,rfl,b,_,_,rfl,B.ob,qec z (by decide +kernel) (by decide +kernel) (by decide +kernel) (by decide +kernel) (by decide +kernel),_,rfl,b,z,ppl,L,o2,rfl,B,n2,fun h2=>?_,fun h2=>k3 hh h1 h2⟩
  cases he:qbf L h with
  | none=>unfold hasH at hh;unfold qbf at he;rw [he] at hh;cases hh
  | some e =>
  have hem:=qa7 he
  have ok:=hok e he
  obtain ⟨zz,Z⟩:=(B.he e hem).toZ
  have hval:=B.hh.dget h
  rw [val_of _ he] at hval
  have zeroFr:∀ H,FrAt K H a.ZERO (0,1):=fun H=>.inr T.zero
  refine ⟨_,rfl,b,_,_,_,_,rfl,B.ob,T.cl,T.nA_held_of,qfb z,_,rfl,_,_,rfl,hval,?_⟩
  refine ⟨_,rfl,sp,a.ZERO,q,(0,1),rfl,hq,zeroFr H,sq,sz0,_,rfl,ite2 (fun h3=>?_) (fun h3=>?_)⟩
  ·have h3:=of_decide_eq_false (nbT h3)
   exact iteT ⟨_,rfl,⟨o1,rfl,n1⟩,_,rfl,⟨h,rfl,nh⟩,fun y=>k4 e he h1 h2 (.inl (by simp only at h3;omega))⟩
  have q0:0 < q.1:=by have:=of_decide_eq_true (nbF h3);simp only at this;omega
  obtain ⟨x0,hx0,fx0⟩:=Z.get (zeroFr H) o1
  refine ⟨_,rfl,_,rfl,e.2,rfl,.inl ⟨_,.inl Z.2.1⟩,_,rfl,_,DGet.k (k:=Sum.inr o1) Z.2.1,?_⟩
  rw [hx0]
  refine ⟨sp,x0,q,_,rfl,hq,fx0,sq,ok.sz o1,_,rfl,ite2 (fun h4=>?_) (fun h4=>?_)⟩
  ·have h4:=of_decide_eq_true h4
   exact ⟨_,rfl,⟨o1,rfl,n1⟩,_,rfl,⟨h,rfl,nh⟩,fun y=>k4 e he h1 h2 (.inr h4)⟩
  have h4:¬ q.1 * (getQ e.1.held o1).2 > (getQ e.1.held o1).1 * q.2:=fun z=>h4 (decide_eq_true z)
  have ntm:¬ qcm e.1.held o1 q:=fun z=>z.elim (fun y=>y q0) h4
  rcases Z.val o1 with ⟨_,_,hg⟩ | ⟨hn,x,hv,hx⟩
  ·exfalso
   rw [hg] at h4
   simp only at h4
   omega
  have hget:DGet H e.2 (.str o1) (some (.ref x)):=by
   have:=DGet.k (k:=Sum.inr o1) Z.2.1
   rw [hv] at this
   exact this
  refine ⟨_,rfl,_,rfl,e.2,_,rfl,hget,_,rfl,x,sp,_,_,rfl,hx,hq,ok.sz o1,sq,fun r H1 hr0 s1 hr1=>?_⟩
  have Z1:=Z.same s1
  have fin:∀ H2 l1 z2,HeldZ K H2 e.2 l1 z2→sold e.1.held o1 o2 q=putH l1 o2 (addR (getQ l1 o2) q)→(∀ c o,H c=some o→c≠e.2→H2 c=some o)→Sz (getQ l1 o2)→l1.length≤e.1.held.length→FrAt K H2 sp q →
    sDPut (tVar 5) (tVar 3) (qej (qhc K) [] E (qas (tDGet2 (tVar 5) (tVar 3) (tC (V.ref a.ZERO))) (qas (tVar 4) tNil))) { nx:=fun x H'=>Q V.non H',rt:=Q } [some (V.ref b),some (V.str h),some (V.str o1),some (V.str o2),some (V.ref sp),some (V.ref e.2),some (V.ref r)] H2:=by
   intro H2 l1 z2 Z2 es kp szl len fq
   obtain ⟨y,hy,fy⟩:=Z2.get (zeroFr H2) o2
   refine ⟨_,rfl,e.2,rfl,.inl ⟨_,.inl Z2.2.1⟩,_,rfl,_,DGet.k (k:=Sum.inr o2) Z2.2.1,?_⟩
   rw [hy]
   refine ⟨_,rfl,y,sp,_,_,rfl,fy,fq,szl,sq,fun t ht=>?_⟩
   have st:=qad (o:=.tup [.int (addR (getQ l1 o2) q).1,.int (addR (getQ l1 o2) q).2]) ht
   have Z3:=Z2.same st
   refine ⟨_,rfl,_,rfl,e.2,_,rfl,DPut.k (k:=Sum.inr o2) Z3.2.1 ?_,?_⟩
   ·rw [List.length_map,← List.length_map (f:=(·.1)),Z2.1]
    exact Nat.lt_of_le_of_lt len (Nat.lt_trans ok.len (by decide))
   ·obtain ⟨z4,Z4⟩:=Z3.put (n:=o2) (x:=t) (q:=addR (getQ l1 o2) q) (SqT.of qab)
    have kp':∀ c o,H c=some o→c≠e.2→(upd (upd H2 t (.tup [.int (addR (getQ l1 o2) q).1,.int (addR (getQ l1 o2) q).2])) e.2 (.dK (putK (z2.map fun q=>((Sum.inr q.1.1:Key),V.ref q.2)) (Sum.inr o2) (.ref t)))) c=some o:=fun c o hc hn=>by
     rw [qag hn]
     exact st c o (kp c o hc hn)
    refine k5 e he h1 h2 ntm _ (B.reheld nd he (fun x=>rfl) ?_ kp') kp'
    show HeldAt K _ e.2 (sold e.1.held o1 o2 q)
    rw [es]
    exact Z4.held
  refine ⟨_,rfl,r,a.ZERO,_,_,rfl,rfl,SqT.of hr1,.inr T.zero,rfl,rfl,rfl,_,rfl,ite2 (fun h5=>?_) (fun h5=>?_)⟩
  ·rw [eqLs2] at h5
   have h5:addR (getQ e.1.held o1) (-q.1,q.2)=(0,1):=of_decide_eq_true h5
   refine ⟨_,rfl,e.2,rfl,.inl ⟨_,.inl Z1.2.1⟩,_,rfl,_,Sum.inr o1,.ref x,Z1.2.1,rfl,hv,?_⟩
   obtain ⟨z2,Z2⟩:=Z1.drop (n:=o1)
   refine fin _ _ z2 Z2 ?_ (fun c o hc hn=>by rw [qag hn];exact s1 c o hc) ?_ (qma _ _) (qmi Z1.2.1 (hq.same s1))
   ·unfold sold
    simp only [h5,if_true]
   ·rw [qhw]
    by_cases e2:o2=o1
    ·rw [if_pos e2];exact sz0
    ·rw [if_neg e2];exact ok.sz o2
  ·rw [eqLs2] at h5
   have h5:¬ addR (getQ e.1.held o1) (-q.1,q.2)=(0,1):=fun z=>h5 (decide_eq_true z)
   refine ⟨_,rfl,_,rfl,_,rfl,e.2,_,rfl,DPut.k (k:=Sum.inr o1) Z1.2.1 ?_,?_⟩
   ·rw [List.length_map,← List.length_map (f:=(·.1)),Z.1]
    exact Nat.lt_trans ok.len (by decide)
   ·obtain ⟨z2,Z2⟩:=Z1.put (n:=o1) (x:=r) (q:=addR (getQ e.1.held o1) (-q.1,q.2)) (SqT.of hr1)
    refine fin _ _ z2 Z2 ?_ (fun c o hc hn=>by rw [qag hn];exact s1 c o hc) ?_ ?_ (qmi Z1.2.1 (hq.same s1))
    ·unfold sold
     simp only [h5,if_false]
    ·rw [qc0]
     by_cases e2:o2=o1
     ·rw [if_pos e2];exact ok.rs ntm
     ·rw [if_neg e2];exact ok.sz o2
    ·have:=congrArg List.length (qca e.1.held o1 (addR (getQ e.1.held o1) (-q.1,q.2)))
     rw [if_pos hn,List.length_map,List.length_map] at this
     exact Nat.le_of_eq this
end
end My
namespace My
open PySem L2 Fra
structure FrB (k:Nat) (v:Int) (q:Int×Int):Prop where
 low:Low q
 nn:0≤q.1
 le:q.1≤v * q.2
 bb:Bt k q.2
theorem red_dvd {q:Int×Int} (h:0 < q.2):(red q).2 ∣ q.2:=by
 obtain ⟨v,hv⟩:(Int.gcd q.1 q.2:Int) ∣ q.2:=Int.gcd_dvd_right ..
 have hg:0 < Int.gcd q.1 q.2:=Int.gcd_pos_of_ne_zero_right _ (by omega)
 refine ⟨(Int.gcd q.1 q.2:Int),?_⟩
 unfold red
 simp only
 rw [Int.ediv_mul_cancel (Int.gcd_dvd_right ..)]
theorem qjv {p q:Int×Int} (hp:0 < p.2) (hq:0 < q.2):(addR p q).1 * (p.2 * q.2)=(p.1 * q.2+q.1 * p.2) * (addR p q).2:=(qe1 (q:=(p.1 * q.2+q.1 * p.2,p.2 * q.2)) (Int.mul_pos hp hq)).2
theorem addR_bt {k l:Nat}{p q:Int×Int} (hp:0 < p.2) (hq:0 < q.2) (bp:Bt k p.2) (bq:Bt l q.2):Bt (k+l) (addR p q).2 :=
 (bp.mul bq).dvd (Int.ne_of_gt (Int.mul_pos hp hq)) (red_dvd (q:=(p.1 * q.2+q.1 * p.2,p.2 * q.2)) (Int.mul_pos hp hq))
theorem qdm {a b d:Int} (hd:0 < d) (h:a * d≤b * d):a≤b:=Int.le_of_mul_le_mul_right h hd
theorem qkz {k:Nat}{v:Int}{g q:Int×Int} (hg:FrB k v g) (hq:Low q) (q0:0 < q.1) (h:q.1 * g.2≤g.1 * q.2) (bq:Bt 97 q.2):FrB (k+97) v (addR g (-q.1,q.2)):=by
 have g0:=hg.low.1
 have p0:=hq.1
 have lq:Low (-q.1,q.2):=⟨hq.1,by have:=hq.2;unfold Cop Int.gcd at *;simp only [Int.natAbs_neg];exact this⟩
 have lo:=qms hg.low lq
 have D0:0 < g.2 * q.2:=Int.mul_pos g0 p0
 have ev:=qjv (p:=g) (q:=(-q.1,q.2)) g0 p0
 simp only at ev
 generalize hr:addR g (-q.1,q.2)=r at *
 have r0:=lo.1
 refine ⟨lo,?_,?_,?_⟩
 ·refine qdm D0 ?_
  rw [ev,Int.zero_mul]
  refine Int.mul_nonneg ?_ (Int.le_of_lt r0)
  rw [Int.neg_mul];omega
 ·refine qdm D0 ?_
  rw [ev]
  have h1:g.1 * q.2+-q.1 * g.2≤v * g.2 * q.2:=by
   have a1:g.1 * q.2≤v * g.2 * q.2:=Int.mul_le_mul_of_nonneg_right hg.le (Int.le_of_lt p0)
   have a2:0≤q.1 * g.2:=Int.mul_nonneg (Int.le_of_lt q0) (Int.le_of_lt g0)
   rw [Int.neg_mul];omega
  have h2:=Int.mul_le_mul_of_nonneg_right h1 (Int.le_of_lt r0)
  have e:v * g.2 * q.2 * r.2=v * r.2 * (g.2 * q.2):=by simp only [Int.mul_assoc,Int.mul_left_comm,Int.mul_comm]
  rw [← e]
  exact h2
 ·rw [← hr]
  exact addR_bt g0 p0 hg.bb bq
theorem add_frb {k:Nat}{v:Int}{g q:Int×Int} (hg:FrB k v g) (hq:Low q) (q0:0 < q.1) (h:q.1≤v * q.2) (bq:Bt 97 q.2):FrB (k+97) (2 * v) (addR g q)∧0 < (addR g q).1:=by
 have g0:=hg.low.1
 have p0:=hq.1
 have lo:=qms hg.low hq
 have D0:0 < g.2 * q.2:=Int.mul_pos g0 p0
 have ev:=qjv (p:=g) (q:=q) g0 p0
 have bt:=addR_bt (p:=g) (q:=q) g0 p0 hg.bb bq
 generalize hr:addR g q=r at *
 have r0:=lo.1
 have pos:0 < r.1:=by
  have a1:0≤g.1 * q.2:=Int.mul_nonneg hg.nn (Int.le_of_lt p0)
  have a2:0 < q.1 * g.2:=Int.mul_pos q0 g0
  have a3:0 < (g.1 * q.2+q.1 * g.2) * r.2:=Int.mul_pos (by omega) r0
  rw [← ev] at a3
  by_cases z:0 < r.1
  ·exact z
  ·have:=Int.mul_nonpos_of_nonpos_of_nonneg (show r.1≤0 by omega) (Int.le_of_lt D0)
   omega
 refine ⟨⟨lo,Int.le_of_lt pos,?_,bt⟩,pos⟩
 refine qdm D0 ?_
 rw [ev]
 have h1:g.1 * q.2+q.1 * g.2≤2 * v * g.2 * q.2:=by
  have a1:g.1 * q.2≤v * g.2 * q.2:=Int.mul_le_mul_of_nonneg_right hg.le (Int.le_of_lt p0)
  have a2:q.1 * g.2≤v * q.2 * g.2:=Int.mul_le_mul_of_nonneg_right h (Int.le_of_lt g0)
  have e1:v * q.2 * g.2=v * g.2 * q.2:=Int.mul_right_comm ..
  have e2:2 * v * g.2 * q.2=2 * (v * g.2 * q.2):=by rw [Int.mul_assoc 2,Int.mul_assoc 2]
  rw [e2]
  omega
 have h2:=Int.mul_le_mul_of_nonneg_right h1 (Int.le_of_lt r0)
 have e:2 * v * g.2 * q.2 * r.2=2 * v * r.2 * (g.2 * q.2):=by simp only [Int.mul_assoc,Int.mul_left_comm,Int.mul_comm]
 rw [← e]
 exact h2
theorem part_le {k:Nat}{v:Int}{g q:Int×Int} (hg:FrB k v g) (hq:Low q) (h:q.1 * g.2≤g.1 * q.2):q.1≤v * q.2:=by
 refine qdm hg.low.1 (Int.le_trans h ?_)
 have:=Int.mul_le_mul_of_nonneg_right hg.le (Int.le_of_lt hq.1)
 rw [Int.mul_right_comm]
 exact this
def FrC (c:Nat) (q:Int×Int):Prop:=FrB (194 * c+2) (2 ^ c:Nat) q
theorem FrC.top {c:Nat}{q:Int×Int} (h:FrC c q):Bt (195 * c+2) q.1:=by
 have h1:=h.le
 have h0:=h.nn
 have hb:Bt (c+1) ((2 ^ c:Nat):Int):=by
  unfold Bt
  rw [Int.natAbs_natCast,Nat.pow_succ]
  have:=Nat.two_pow_pos c
  omega
 have h2:q.1.natAbs≤(((2 ^ c:Nat):Int) * q.2).natAbs:=by omega
 unfold Bt
 refine Nat.lt_of_le_of_lt h2 ?_
 rw [Int.natAbs_mul,Int.natAbs_natCast]
 have hb2:q.2.natAbs < 2 ^ (194 * c+2):=h.bb
 have:2 ^ c * q.2.natAbs < 2 ^ c * 2 ^ (194 * c+2):=Nat.mul_lt_mul_of_pos_left hb2 (Nat.two_pow_pos c)
 rw [← Nat.pow_add] at this
 have e:c+(194 * c+2)=195 * c+2:=by omega
 rw [e] at this
 exact this
theorem FrC.sz {c:Nat}{q:Int×Int} (h:FrC c q) (hc:c≤45):Sz q:=⟨h.low,h.top.mono (by omega),h.bb.mono (by omega)⟩
theorem FrC.mono {c d:Nat}{q:Int×Int} (h:FrC c q) (hc:c≤d):FrC d q:=by
 refine ⟨h.low,h.nn,Int.le_trans h.le ?_,h.bb.mono (by omega)⟩
 refine Int.mul_le_mul_of_nonneg_right ?_ (Int.le_of_lt h.low.1)
 exact Int.ofNat_le.mpr (Nat.pow_le_pow_right (by decide) hc)
theorem frc0 (c:Nat):FrC c (0,1):=⟨⟨by decide,(rfl:Int.gcd 0 1=1)⟩,Int.le_refl _,by rw [Int.mul_one];exact Int.natCast_nonneg _,bt1 (by omega)⟩
theorem frc1 (c:Nat):FrC c (1,1):=⟨⟨by decide,(rfl:Int.gcd 1 1=1)⟩,by decide,by rw [Int.mul_one];exact Int.ofNat_le.mpr (Nat.two_pow_pos c),bt1 (by omega)⟩
structure ShOk (q:Int×Int):Prop where
 low:Low q
 bt:Bt 200 q.1
 bb:Bt 97 q.2
theorem ShOk.sz {q:Int×Int} (h:ShOk q):Sz q:=⟨h.low,h.bt.mono (by decide),h.bb.mono (by decide)⟩
theorem qlm {l:Hl}{n:Str} (h:n∉l.map (·.1)):getQ l n=(0,1):=by
 unfold getQ qba
 have:l.find? (fun q=>decide (q.1=n))=none:=by
  rw [List.find?_eq_none]
  intro x hx z
  exact h (List.mem_map.mpr ⟨x,hx,of_decide_eq_true z⟩)
 rw [this]
 rfl
structure HR (c:Nat) (hl hm:Hl):Prop where
 q:∀ n,getQ hl n=getQ hm n
 nm:∀ n,n∈hl.map (·.1) ↔ 0 < (getQ hl n).1
 n1:(hl.map (·.1)).Nodup
 n2:(hm.map (·.1)).Nodup
 l1:hl.length≤c+1
 l2:hm.length≤c+1
 fr:∀ n,FrC c (getQ hl n)
 ex:∃ n,0 < (getQ hl n).1
 sm:∀ n∈hm.map (·.1),Sm n
theorem HR.mono {c d:Nat}{hl hm:Hl} (h:HR c hl hm) (hc:c≤d):HR d hl hm:=⟨h.q,h.nm,h.n1,h.n2,Nat.le_trans h.l1 (by omega),Nat.le_trans h.l2 (by omega),fun n=>(h.fr n).mono hc,h.ex,h.sm⟩
theorem hr_one (c:Nat) {o:Str} (ho:Sm o):HR c [(o,1,1)] [(o,1,1)]:=by
 have g:∀ n,getQ [(o,1,1)] n=if n=o then (1,1) else (0,1):=fun n=>by
  unfold getQ qba
  rw [List.find?_cons]
  by_cases e:o=n
  ·rw [show decide ((o,((1:Int),(1:Int))).1=n)=true from decide_eq_true e,if_pos e.symm];rfl
  ·rw [show decide ((o,((1:Int),(1:Int))).1=n)=false from decide_eq_false e,if_neg fun z=>e z.symm];rfl
 refine ⟨fun _=>rfl,fun n=>?_,by simp,by simp,by simp,by simp,fun n=>?_,⟨o,by rw [g,if_pos rfl];decide⟩,fun n hn=>by rw [List.mem_singleton.mp hn];exact ho⟩
 ·rw [g]
  by_cases e:n=o
  ·rw [if_pos e];simp [e]
  ·rw [if_neg e];simp [e]
 ·rw [g]
  by_cases e:n=o
  ·rw [if_pos e];exact frc1 c
  ·rw [if_neg e];exact frc0 c
theorem HR.had {c:Nat}{hl hm:Hl} (h:HR c hl hm) {n:Str} (h0:0 < (getQ hm n).1):n∈hm.map (·.1):=by
 by_cases z:n∈hm.map (·.1)
 ·exact z
 ·rw [qlm z] at h0
  exact absurd h0 (by decide)
theorem HR.shown {c:Nat}{hl hm:Hl} (h:HR c hl hm):shown hm=(srt (hl.map (·.1))).map (qba hl):=by
 unfold My.shown
 have e1:(fun n=>qba hm n)=fun n=>(n,getQ hm n):=funext fun n=>qdn hm n
 have e2:(fun n=>qba hl n)=fun n=>(n,getQ hm n):=funext fun n=>by rw [qdn hl n,h.q]
 show (List.map (fun n=>qba hm n) _).filter _=List.map (fun n=>qba hl n) _
 rw [e1,e2,List.filter_map]
 congr 1
 refine qdp ?_ ((qdr _).filter _) (qdr _)
 refine (List.perm_ext_iff_of_nodup (((qaz _).nodup_iff.mpr h.n2).filter _) ((qaz _).nodup_iff.mpr h.n1)).mpr fun n=>?_
 rw [List.mem_filter,(qaz _).mem_iff,(qaz _).mem_iff,h.nm,h.q]
 show (n∈_∧decide (0 < (getQ hm n).1)=true) ↔ _
 rw [decide_eq_true_iff]
 exact ⟨fun z=>z.2,fun z=>⟨h.had z,z⟩⟩
theorem low_zero {q:Int×Int} (h:Low q) (h0:q.1=0):q=(0,1):=by
 obtain ⟨t,b⟩:=q
 obtain ⟨h1,h2⟩:=h
 simp only at h0 h1 h2
 subst h0
 have e:b=1:=by
  have:Int.gcd 0 b=1:=h2
  rw [Int.gcd_zero_left] at this
  omega
 rw [e]
theorem HR.sale {c:Nat}{hl hm:Hl} (h:HR c hl hm) {o1 o2:Str}{q:Int×Int} (hq:ShOk q) (so:Sm o2) (nt:¬ qcm hl o1 q):HR (c+1) (sold hl o1 o2 q) (qli hm o1 o2 q):=by
 have q0:0 < q.1:=by by_cases z:0 < q.1;exact z;exact absurd (.inl z) nt
 have hle:q.1 * (getQ hl o1).2≤(getQ hl o1).1 * q.2:=by
  by_cases z:q.1 * (getQ hl o1).2 > (getQ hl o1).1 * q.2
  ·exact absurd (.inr z) nt
  ·omega
 have R:=qkz (h.fr o1) hq.low q0 hle hq.bb
 have qv:=part_le (h.fr o1) hq.low hle
 have o1in:o1∈hl.map (·.1):=by
  rw [h.nm]
  by_cases z:0 < (getQ hl o1).1
  ·exact z
  ·have a1:(getQ hl o1).1 * q.2≤0:=Int.mul_nonpos_of_nonpos_of_nonneg (by omega) (Int.le_of_lt hq.low.1)
   have a2:0 < q.1 * (getQ hl o1).2:=Int.mul_pos q0 (h.fr o1).low.1
   omega
 have o1im:o1∈hm.map (·.1):=h.had (by rw [← h.q];exact (h.nm o1).mp o1in)
 generalize hr:addR (getQ hl o1) (-q.1,q.2)=r at *
 have key:∃ l1 m1:Hl,sold hl o1 o2 q=putH l1 o2 (addR (getQ l1 o2) q)∧qli hm o1 o2 q=putH m1 o2 (addR (getQ m1 o2) q)∧(∀ n,getQ l1 n=getQ m1 n)∧(∀ n,n∈l1.map (·.1) ↔ 0 < (getQ l1 n).1)∧(l1.map (·.1)).Nodup∧(m1.map (·.1)).Nodup∧l1.length≤c+1∧m1.length≤c+1∧(∀ n,FrB (194 * c+2+97) (2 ^ c:Nat) (getQ l1 n))∧∀ n∈m1.map (·.1),Sm n:=by
  have gm:∀ n,getQ (putH hm o1 r) n=if n=o1 then r else getQ hl n:=fun n=>by rw [qc0,h.q]
  have lm:(putH hm o1 r).length≤c+1:=by
   have:=congrArg List.length (qca hm o1 r)
   rw [if_pos o1im,List.length_map,List.length_map] at this
   rw [this];exact h.l2
  have fr1:∀ n,FrB (194 * c+2+97) (2 ^ c:Nat) (if n=o1 then r else getQ hl n):=fun n=>by
   by_cases e:n=o1
   ·rw [if_pos e];exact R
   ·rw [if_neg e];exact ⟨(h.fr n).low,(h.fr n).nn,(h.fr n).le,(h.fr n).bb.mono (by omega)⟩
  have em:qli hm o1 o2 q=putH (putH hm o1 r) o2 (addR (getQ (putH hm o1 r) o2) q):=by
   unfold qli
   simp only [← h.q o1,hr]
  have smm:∀ n∈(putH hm o1 r).map (·.1),Sm n:=fun n hn=>by
   rw [qca,if_pos o1im] at hn
   exact h.sm n hn
  by_cases rz:r=(0,1)
  ·have gl:∀ n,getQ (qgc hl o1) n=if n=o1 then r else getQ hl n:=fun n=>by rw [qhw,rz]
   refine ⟨qgc hl o1,putH hm o1 r,?_,em,fun n=>by rw [gl,gm],fun n=>?_,nd_drop _ h.n1,qkj _ _ h.n2,Nat.le_trans (qma _ _) h.l1,lm,fun n=>by rw [gl];exact fr1 n,smm⟩
   ·unfold sold
    simp only [hr,rz,if_true]
   ·rw [qgn,List.mem_filter,gl,h.nm,decide_eq_true_iff]
    by_cases e:n=o1
    ·rw [if_pos e,rz]
     exact ⟨fun z=>absurd e z.2,fun z=>absurd z (by decide)⟩
    ·rw [if_neg e]
     exact ⟨fun z=>z.1,fun z=>⟨z,e⟩⟩
  ·have gl:∀ n,getQ (putH hl o1 r) n=if n=o1 then r else getQ hl n:=fun n=>qc0 ..
   have rp:0 < r.1:=by
    have:=R.nn
    by_cases z:r.1=0
    ·exact absurd (low_zero R.low z) rz
    ·omega
   refine ⟨putH hl o1 r,putH hm o1 r,?_,em,fun n=>by rw [gl,gm],fun n=>?_,qkj _ _ h.n1,qkj _ _ h.n2,?_,lm,fun n=>by rw [gl];exact fr1 n,smm⟩
   ·unfold sold
    simp only [hr,rz,if_false]
   ·rw [qca,if_pos o1in,gl,h.nm]
    by_cases e:n=o1
    ·rw [if_pos e]
     exact ⟨fun _=>rp,fun _=>by rw [e];exact (h.nm o1).mp o1in⟩
    ·rw [if_neg e]
   ·have:=congrArg List.length (qca hl o1 r)
    rw [if_pos o1in,List.length_map,List.length_map] at this
    rw [this];exact h.l1
 obtain ⟨l1,m1,es,em,gq,nm1,nd1,nd2,len1,len2,fr1,sm1⟩:=key
 obtain ⟨U,up⟩:=add_frb (fr1 o2) hq.low q0 qv hq.bb
 have ev:(2 * ((2 ^ c:Nat):Int))=((2 ^ (c+1):Nat):Int):=by rw [Nat.pow_succ,Int.natCast_mul,Int.mul_comm];rfl
 rw [es,em]
 refine ⟨fun n=>?_,fun n=>?_,qkj _ _ nd1,qkj _ _ nd2,Nat.le_trans (qll _ _ _) (by omega),Nat.le_trans (qll _ _ _) (by omega),fun n=>?_,⟨o2,by rw [qc0,if_pos rfl];exact up⟩,fun n hn=>?_⟩
 ·rw [qc0,qc0,gq,gq]
 ·rw [qc0,qca]
  by_cases e:n=o2
  ·rw [if_pos e]
   refine ⟨fun _=>up,fun _=>?_⟩
   rw [e]
   by_cases z:o2∈l1.map (·.1)
   ·rw [if_pos z];exact z
   ·rw [if_neg z];exact List.mem_append_right _ (List.mem_singleton.mpr rfl)
  ·rw [if_neg e,← nm1]
   by_cases z:o2∈l1.map (·.1)
   ·rw [if_pos z]
   ·rw [if_neg z,List.mem_append]
    exact ⟨fun y=>y.elim id fun y=>absurd (List.mem_singleton.mp y) e,fun y=>.inl y⟩
 ·rw [qc0]
  by_cases e:n=o2
  ·rw [if_pos e]
   unfold FrC
   rw [← ev]
   exact ⟨U.low,U.nn,U.le,U.bb.mono (by omega)⟩
  ·rw [if_neg e]
   have:=fr1 n
   refine ⟨this.low,this.nn,Int.le_trans this.le ?_,this.bb.mono (by omega)⟩
   exact Int.mul_le_mul_of_nonneg_right (Int.ofNat_le.mpr (Nat.pow_le_pow_right (by decide) (by omega))) (Int.le_of_lt this.low.1)
 ·rw [qca] at hn
  by_cases z:o2∈m1.map (·.1)
  ·rw [if_pos z] at hn;exact sm1 n hn
  ·rw [if_neg z] at hn
   rcases List.mem_append.mp hn with y | y
   ·exact sm1 n y
   ·rw [List.mem_singleton.mp y];exact so
theorem HR.saleOk {c:Nat}{hl hm:Hl} (h:HR c hl hm) (hc:c≤44) {o1:Str}{q:Int×Int} (hq:ShOk q):SaleOk hl o1 q:=by
 refine ⟨Nat.lt_of_le_of_lt h.l1 (by omega),fun n=>(h.fr n).sz (by omega),fun nt=>?_⟩
 have q0:0 < q.1:=by by_cases z:0 < q.1;exact z;exact absurd (.inl z) nt
 have hle:q.1 * (getQ hl o1).2≤(getQ hl o1).1 * q.2:=by
  by_cases z:q.1 * (getQ hl o1).2 > (getQ hl o1).1 * q.2
  ·exact absurd (.inr z) nt
  ·omega
 have R:=qkz (h.fr o1) hq.low q0 hle hq.bb
 refine FrC.sz (c:=c+1) ⟨R.low,R.nn,Int.le_trans R.le ?_,R.bb.mono (by omega)⟩ (by omega)
 exact Int.mul_le_mul_of_nonneg_right (Int.ofNat_le.mpr (Nat.pow_le_pow_right (by decide) (by omega))) (Int.le_of_lt R.low.1)
end My
namespace My
open PySem L2 Fra
def key4 (e:Ent):Str×Int×Int×Int:=(e.nm,e.th,e.mr,e.ls)
structure Both (K:PySem.W.Frag) (C:Addr) (c:Nat) (H:Hp) (b:Addr) (z:BA) (m pl ed:Addr) (ppl:List Str) (L:List (Ent×Addr)) (M:List (Ent×Addr×Addr)):Prop where
 bk:BookAt K C H b z ppl L
 md:ModAt K H m pl ed ppl M
 eq:L.map (fun e=>key4 e.1)=M.map (fun e=>key4 e.1)
 hr:∀ (i:Nat) (e:Ent×Addr) (y:Ent×Addr×Addr),L[i]?=some e→M[i]?=some y→HR c e.1.held y.1.held
 nd:(L.map (·.1.nm)).Nodup
 nm:∀ e∈L,Nm e.1.nm
 ap:∀ c∈BFp b z L,c∉MFp m pl ed M
 c45:c≤45
theorem Both.nms {K:PySem.W.Frag}{C:Addr}{c:Nat}{H:Hp}{b:Addr}{z:BA}{m pl ed:Addr}{ppl:List Str}{L:List (Ent×Addr)}{M:List (Ent×Addr×Addr)} (B:Both K C c H b z m pl ed ppl L M):L.map (·.1.nm)=M.map (·.1.nm):=by
 have:=congrArg (List.map fun x:Str×Int×Int×Int=>x.1) B.eq
 rw [List.map_map,List.map_map] at this
 exact this
theorem Both.at_ {K:PySem.W.Frag}{C:Addr}{c:Nat}{H:Hp}{b:Addr}{z:BA}{m pl ed:Addr}{ppl:List Str}{L:List (Ent×Addr)}{M:List (Ent×Addr×Addr)} (B:Both K C c H b z m pl ed ppl L M) {i:Nat}{y:Ent×Addr×Addr} (hy:M[i]?=some y) :
  ∃ e,L[i]?=some e∧key4 e.1=key4 y.1∧HR c e.1.held y.1.held:=by
 have:=congrArg (fun l=>l[i]?) B.eq
 simp only [List.getElem?_map,hy] at this
 cases q:L[i]? with
 | none=>rw [q] at this;cases this
 | some e=>rw [q] at this;exact ⟨e,rfl,Option.some.inj this,B.hr i e y q hy⟩
section
variable {P:Program}{w:World}{K:PySem.W.Frag}{mg:Str→Option Value}{base:Heap}{a:Adr}{f:Addr}{fd:FuncData}
end
end My
namespace My
open PySem L2 Fra
inductive NK where
 | th
 | mr
 | ls
deriving DecidableEq
def NK.word:NK→Str
 | .th=>Str.ofString "things"
 | .mr=>Str.ofString "mark"
 | .ls=>Str.ofString "loss"
inductive Deed where
 | per (n:Str)
 | hou (n o:Str) (t m l:Int)
 | sal (h o1 o2:Str) (q:Int×Int)
 | num (k:NK) (h:Str) (n:Int)
def DeedAt (K:PySem.W.Frag) (H:Hp) (d:Addr):Deed→Prop
 | .per n=>SqT K H d [.str (Str.ofString "person"),.str n]
 | .hou n o t m l=>SqT K H d [.str (Str.ofString "house"),.str n,.str o,.int t,.int m,.int l]
 | .sal h o1 o2 q=>∃ sp,SqT K H d [.str (Str.ofString "sale"),.str h,.str o1,.str o2,.ref sp]∧FrAt K H sp q
 | .num k h n=>SqT K H d [.str k.word,.str h,.int n]
def Deed.ok:Deed→Prop
 | .per n=>Sm n
 | .hou n o _ _ _=>Sm n∧Sm o
 | .sal h o1 o2 q=>Sm h∧Sm o1∧Sm o2∧ShOk q
 | .num _ h _=>Sm h
theorem DeedAt.same {K:PySem.W.Frag}{H H':Hp}{d:Addr}{D:Deed} (h:DeedAt K H d D) (s:Same H H'):DeedAt K H' d D:=by
 cases D with
 | per n=>exact qa6 s h
 | hou n o t m l=>exact qa6 s h
 | sal h' o1 o2 q =>
  obtain ⟨sp,h1,h2⟩:=h
  exact ⟨sp,qa6 s h1,h2.same s⟩
 | num k h' n=>exact qa6 s h
theorem btrue {b:Bool} (h:¬ b=false):b=true:=by cases b <;> first | rfl | exact absurd rfl h
def more (g q:Int×Int):Prop:=¬ 0 < q.1∨q.1 * g.2 > g.1 * q.2
instance (g q:Int×Int):Decidable (more g q):=by unfold more;infer_instance
def qck (ppl hs:List Str) (has:Str→Str→Int×Int):Deed→Option Nat
 | .per n=>if isNm n=false then some 0 else if (hasP ppl n || hasP hs n)=true then some 1 else if 6≤ppl.length then some 2 else none
 | .hou n o _ _ l=>if isNm n=false then some 0 else if (hasP ppl n || hasP hs n)=true then some 1 else if (hasP ppl o || hasP hs o)=false then some 3 else if l < 0 then some 5 else if 8≤hs.length then some 2 else none
 | .sal h o1 o2 q=>if hasP hs h=false then some 4 else if (hasP ppl o1 || hasP hs o1)=false then some 3 else if (hasP ppl o2 || hasP hs o2)=false then some 3 else if more (has h o1) q then some 6 else none
 | .num k h n=>if hasP hs h=false then some 4 else if k=.ls∧n < 0 then some 5 else none
def hasM (M:List (Ent×Addr×Addr)) (h o:Str):Int×Int:=match qef M h with
 | some e=>getQ e.1.held o
 | none=>(0,1)
theorem qfu {ppl hs:List Str}{has:Str→Str→Int×Int}{n:Str}:qck ppl hs has (.per n)=if isNm n=false then some 0 else if (hasP ppl n || hasP hs n)=true then some 1 else if 6≤ppl.length then some 2 else none:=rfl
theorem qfw {ppl hs:List Str}{has:Str→Str→Int×Int}{n o:Str}{t m l:Int}:qck ppl hs has (.hou n o t m l)=if isNm n=false then some 0 else if (hasP ppl n || hasP hs n)=true then some 1 else if (hasP ppl o || hasP hs o)=false then some 3 else if l < 0 then some 5 else if 8≤hs.length then some 2 else none:=rfl
theorem qet {ppl hs:List Str}{has:Str→Str→Int×Int}{h o1 o2:Str}{q:Int×Int}:qck ppl hs has (.sal h o1 o2 q)=if hasP hs h=false then some 4 else if (hasP ppl o1 || hasP hs o1)=false then some 3 else if (hasP ppl o2 || hasP hs o2)=false then some 3 else if more (has h o1) q then some 6 else none:=rfl
theorem qfv {ppl hs:List Str}{has:Str→Str→Int×Int}{k:NK}{h:Str}{n:Int}:qck ppl hs has (.num k h n)=if hasP hs h=false then some 4 else if k=.ls∧n < 0 then some 5 else none:=rfl
theorem ne_str {x y:Str} (h:¬ x=y):decide (V.str x=V.str y)=false:=decide_eq_false fun z=>h (V.str.inj z)
def dueL:Option Nat→List V
 | none=>[]
 | some j=>[.int j]
theorem qeb (l:List Str) (x:Str):inV (.str x) (l.map V.str)=hasP l x:=by
 unfold hasP inV
 induction l with
 | nil=>rfl
 | cons m r ih =>
  rw [List.map_cons,List.any_cons,ih,List.find?_cons]
  show ((m == x) || _)=_
  by_cases h:m=x
  ·have e:(m == x)=true:=by simpa using h
   rw [decide_eq_true h,e]
   rfl
  ·have e:(m == x)=false:=by simpa using h
   rw [decide_eq_false h,e]
   rfl
theorem qdx (l:List Str):(l.map V.str).all qe7=true:=by
 rw [List.all_map]
 exact List.all_eq_true.mpr fun _ _=>rfl
theorem qe6 {α:Type} (l:List α) (key:α→Str) (x:Str):hasP (l.map key) x=(l.find? fun e=>decide (key e=x)).isSome:=by
 unfold hasP
 induction l with
 | nil=>rfl
 | cons m r ih =>
  rw [List.map_cons,List.find?_cons,List.find?_cons]
  by_cases h:key m=x
  ·rw [decide_eq_true h];rfl
  ·rw [decide_eq_false h];exact ih
theorem qcz {α:Type} (l:List α) (key:α→Str) (v:α→V) (x:Str):(valV (l.map fun e=>((Sum.inr (key e):Key),v e)) (Sum.inr x)).isSome=hasP (l.map key) x:=by
 rw [qc4,qe6,Option.isSome_map]
theorem qf6:(decide (V.str (Str.ofString "house")=V.str (Str.ofString "person")))=false:=decide_eq_false fun z=>absurd (V.str.inj z) (by decide +kernel)
theorem qcl (x:Str):(decide (V.str x=V.str x))=true:=decide_eq_true rfl
section
variable {P:Program}{w:World}{K:PySem.W.Frag}{mg:Str→Option Value}{base:Heap}{a:Adr}{f:Addr}{fd:FuncData}
abbrev qbs:Stmt:=top 35
theorem sc__law_refusal:FnScope ["_law_model","_law_deed_here","_law_people","_law_entries","_law_has"] ["_law_model","_law_deed_here"] (qaj qbs):=⟨rfl,rfl,rfl,by decide +kernel,rfl,by decide +kernel,by decide +kernel⟩
def qgf (K:PySem.W.Frag):Sp:=fun vs H Q _=>∃ m pl ed ppl M d D,vs=[.ref m,.ref d]∧ModAt K H m pl ed ppl M∧(∃ kvs,H ed=some (.dK kvs))∧DeedAt K H d D∧D.ok∧ppl.length≤6∧M.length≤8∧(∀ h o1 o2 q,D=.sal h o1 o2 q→∀ e,qef M h=some e→Two (getQ e.1.held o1) q) ∧
 ∀ l H',H l=none→Same H H'→H' l=some (.lst (dueL (qck ppl (M.map (·.1.nm)) (hasM M) D)))→Q (.ref l) H'
theorem ok_refusal (F:Fun K "_law_refusal" "_law_refusal" qbs f fd) (T:Txt K mg a) (F__law_is_name:Fn P w K mg base "_law_is_name" 1 ["_law_text"] qds) (F__law_lesser:Fn P w K mg base "_law_lesser" 1 ["_law_one_here","_law_other"] (qhf K)):FnOk P w K mg base (CXo P w) 2 f fd ["_law_model","_law_deed_here"] (qgf K):=by
 refine F.okN sc__law_refusal (fun vs H Q E h=>?_) (fun cdv A outer s H vs Q E hr h=>?_)
 ·obtain ⟨m,pl,ed,ppl,M,d,D,rfl,_⟩:=h
  rfl
 ·obtain ⟨m,pl,ed,ppl,M,d,D,rfl,B,⟨kvs,hed⟩,hd,dk,h6,h8,hw,k⟩:=h
  have hu:=qbk hr
  refine ⟨_,(qaf (qgr (pv 0) (qkc rfl (qbm (qbe (i:=2) sc__law_refusal.nd rfl (Or.inr rfl)) (qbm (qbe (i:=3) sc__law_refusal.nd rfl (Or.inr rfl)) qeo)))) (qaf (qbi (PW.pt (qhi (qau qea (qam qal (pv 1) qac (fun _ _=>rfl)) qa5 (qay _)) (qe2 (qau qea (qam qal (pv 1) qac (fun _ _=>rfl)) qa5 (qay _))))) (qaf (qbi (qd5 (qc3 (qa1 F__law_is_name (hr.mono (by first | decide | omega)) rfl qan (qaa (qam qal (pv 1) qac (fun _ _=>rfl)) qah)))) (qak (qav (qbj (qaa qac qah)))) qax) (qaf (qbi (PW.pt (qhi (qau op_in_seq (qam qal (pv 1) qac (fun _ _=>rfl)) (pv 2) (by with_unfolding_all rfl)) (qe2 (qj9 (ql6 hu (qam qal (pv 1) qac (fun _ _=>rfl)) (pv 3)))))) (qak (qav (qbj (qaa qac qah)))) qax) (qaf (qbi (qau qea (qam qal (pv 1) qac (fun _ _=>rfl)) qa5 (qay _)) (qak (qav (qaw qev (qbj (qaa qac qah)) (qbq qc2 rfl T.b_int qgd (qaa (qcn qea (qap qcu rfl T.b_len qei (qaa (pv 2) qah)) qac (qay _)) qah))))) qax) (qaf (qbi (PW.pt (qig (qau qd7 (qam qal (pv 1) qac (fun _ _=>rfl)) (pv 2) (by with_unfolding_all rfl)) (qgm (qj9 (qhm hu (qam qal (pv 1) qac (fun _ _=>rfl)) (pv 3)))))) (qak (qav (qbj (qaa qac qah)))) qax) (qaf (qbi (qau qji (qam qal (pv 1) qac (fun _ _=>rfl)) qac (qay _)) (qak (qav (qbj (qaa qac qah)))) qax) (qak (qav (qaw qev (qbj (qaa qac qah)) (qbq qc2 rfl T.b_int qgd (qaa (qcn qea (qap qe9 rfl T.b_len qei (qaa (pv 3) qah)) qac (qay _)) qah)))))))))) qax) (qaf (qbi (qj9 (qhm hu (qam qal (pv 1) qac (fun _ _=>rfl)) (pv 3))) (qak (qav (qbj (qaa qac qah)))) qax) (qaf (qbi (qau qea (qam qal (pv 1) qac (fun _ _=>rfl)) qa5 (qay _)) (qaf (qbi (qau op_gt (qap qcu rfl T.b_len qei (qaa (qfp (fr:=["_law_people","_law_entries"]) (ix:=[2,3]) rfl (by exact (show CompOk ["_law_model","_law_deed_here","_law_people","_law_entries","_law_has"] (qaj qbs) _ _ _ _ from ⟨rfl,by decide +kernel,rfl,by decide +kernel,by decide +kernel,by decide +kernel,by decide +kernel,by decide +kernel,rfl⟩)) (pi_tup (qff sl_tup (pv 1) (qfo qac) (qfo qac))) (fun _ _ _ _ _=>(qg3 (PW.pt (qig (qau (show OpR _ (compareOp .NotIn) (rIn K true) from qd7) (pv 0) (pv 1) (by with_unfolding_all rfl)) (qgm (qj9 (qhm hu (pv 0) (pv 2)))))))) (fun _ _ _ _ _=>(pv 0))) qah)) qac (qay _)) (qak (qav (qbj (qaa qac qah)))) qax) (qaf (qaq (i:=4) sc__law_refusal.nd rfl (Or.inl rfl) (qf7 hu (qam qa0 (qdi hu (pv 3) (qam qal (pv 1) qac (fun _ _=>rfl)) (fun _ _=>rfl)) qac (fun _ _=>rfl)) (qam qal (pv 1) qac (fun _ _=>rfl)) (qbn (qaa qac (qaa qac qah))) ⟨rfl,rfl,rfl,rfl⟩)) (qak (qav (qaw qev (qbj (qaa qac qah)) (qbq qc2 rfl T.b_int qgd (qaa (pe_or (qcn op_le (qam qal (qam qal (pv 1) qac (fun _ _=>rfl)) qac (fun _ _=>rfl)) qac (qay _)) (qij (qa1 F__law_lesser (hr.mono (by first | decide | omega)) rfl qan (qaa (pv 4) (qaa (qam qal (pv 1) qac (fun _ _=>rfl)) qah))))) qah))))))) qax) (qak (qav (qaw qev (qbj (qaa qac qah)) (qbq qc2 rfl T.b_int qgd (qaa (qkd (qcn qea (qam qal (pv 1) qac (fun _ _=>rfl)) qa5 (qay _)) (qij (qcn qji (qam qal (pv 1) qac (fun _ _=>rfl)) qac (qay _)))) qah))))))))),?_⟩
  have ekv:kvs=M.map fun e=>((Sum.inr e.1.nm:Key),V.ref e.2.1):=by
   rcases B.en with q | ⟨ob,q⟩
   ·rw [hed] at q;cases q;rfl
   ·rw [hed] at q;cases q
  subst ekv
  refine ⟨_,rfl,m,_,rfl,SqL.of B.ob,rfl,_,_,rfl,_,_,rfl,rfl,?_⟩
  cases D with
  | per n =>
   have nm:Nm n:=Sm.nm dk
   refine ⟨_,rfl,d,_,0,_,rfl,rfl,hd,qai (j:=0) rfl,rfl,?_⟩
   rw [qcl]
   refine ⟨_,rfl,iteT (iteT ?_)⟩
   refine ⟨_,rfl,d,_,1,_,rfl,rfl,hd,qai (j:=1) rfl,n,rfl,nm,fun H1 s1=>⟨_,rfl,ite2 (fun h=>?_) (fun h=>?_)⟩⟩
   ·have h:=nbT h
    refine ⟨(show 1≤sizeLine by decide),fun x hx=>k x _ (s1.free hx) (s1.trans (qad hx)) ?_⟩
    rw [qab]
    rw [qfu]
    rw [if_pos h]
    rfl
   have h0:=nbF h
   have e0:¬ isNm n=false:=by rw [h0];decide
   have B1:=B.same s1
   have hd1:=hd.same s1
   have hed1:=s1 _ _ hed
   have tw:(hasP ppl n || hasP (M.map (·.1.nm)) n)=true→∀ x,H1 x=none→Q (.ref x) (upd H1 x (.lst [.int 1])):=fun h x hx=>by
    refine k x _ (s1.free hx) (s1.trans (qad hx)) ?_
    rw [qab]
    rw [qfu]
    rw [if_neg e0,if_pos h]
    rfl
   refine ⟨_,rfl,d,_,1,_,rfl,rfl,hd1,qai (j:=1) rfl,_,rfl,pl,_,rfl,.inl (SqL.of B1.pp),rfl,qdx _,_,rfl,ite2 (fun h=>?_) (fun h=>?_)⟩
   ·have h:inV (.str n) (ppl.map V.str)=true:=h
    rw [qeb] at h
    exact iteT ⟨(show 1≤sizeLine by decide),fun x hx=>tw (by rw [h];rfl) x hx⟩
   have h:¬ inV (.str n) (ppl.map V.str)=true:=h
   rw [qeb] at h
   have hp0:hasP ppl n=false:=by simpa using h
   refine ⟨_,rfl,d,_,1,_,rfl,rfl,hd1,qai (j:=1) rfl,_,rfl,ed,_,rfl,.inl ⟨_,Sum.inr n,B1.en,rfl,rfl⟩,_,rfl,ite2 (fun h=>?_) (fun h=>?_)⟩
   ·rw [qcz (key:=fun e:Ent×Addr×Addr=>e.1.nm)] at h
    exact ⟨(show 1≤sizeLine by decide),fun x hx=>tw (by rw [h,Bool.or_true]) x hx⟩
   rw [qcz (key:=fun e:Ent×Addr×Addr=>e.1.nm)] at h
   have e1:¬ (hasP ppl n || hasP (M.map (·.1.nm)) n)=true:=by rw [hp0,Bool.false_or];exact h
   refine ⟨_,rfl,d,_,0,_,rfl,rfl,hd1,qai (j:=0) rfl,rfl,?_⟩
   rw [qcl]
   refine ⟨_,rfl,iteT ⟨(show 1≤sizeLine by decide),fun x hx=>⟨_,rfl,pl,_,rfl,.inl (SqL.of (by rw [qag (qae B1.pp hx)];exact B1.pp)),rfl,.inr ⟨_,rfl,x,_,_,rfl,rfl,qab,?_⟩⟩⟩⟩
   have dd:decide (V.int ((ppl.map V.str).length:Int)=V.int 6)=decide (6≤ppl.length):=by
    rw [List.length_map]
    refine decide_eq_decide.mpr ⟨fun z=>?_,fun z=>?_⟩
    ·have:=V.int.inj z;omega
    ·exact congrArg V.int (by omega)
   rw [dd]
   have fin:∀ y (zs:List V),(upd H1 x (.lst [.int 2])) y=none→zs=dueL (qck ppl (M.map (·.1.nm)) (hasM M) (.per n))→Q (.ref y) (upd (upd H1 x (.lst [.int 2])) y (.lst zs)):=fun y zs hy hz=>by
    refine k y _ (s1.free ((qad hx).free hy)) (s1.trans ((qad hx).trans (qad hy))) ?_
    rw [qab,hz]
   have due:qck ppl (M.map (·.1.nm)) (hasM M) (.per n)=if 6≤ppl.length then some 2 else none:=by
    rw [qfu]
    rw [if_neg e0,if_neg e1]
   by_cases hl:6≤ppl.length
   ·rw [decide_eq_true hl]
    refine ⟨by decide,by decide,(show 1≤sizeLine by decide),fun y hy=>fin y _ hy ?_⟩
    rw [due,if_pos hl]
    rfl
   ·rw [decide_eq_false hl]
    refine ⟨by decide,by decide,(show 0≤sizeLine by decide),fun y hy=>fin y _ hy ?_⟩
    rw [due,if_neg hl]
    rfl
  | hou n o t m' l =>
   have nm:Nm n:=Sm.nm dk.1
   refine ⟨_,rfl,d,_,0,_,rfl,rfl,hd,qai (j:=0) rfl,rfl,?_⟩
   rw [qf6]
   refine ⟨_,rfl,iteF ⟨_,rfl,d,_,0,_,rfl,rfl,hd,qai (j:=0) rfl,rfl,?_⟩⟩
   rw [qcl]
   refine ⟨_,rfl,iteT ?_⟩
   refine ⟨_,rfl,d,_,1,_,rfl,rfl,hd,qai (j:=1) rfl,n,rfl,nm,fun H1 s1=>⟨_,rfl,ite2 (fun h=>?_) (fun h=>?_)⟩⟩
   ·have h:=nbT h
    refine ⟨(show 1≤sizeLine by decide),fun x hx=>k x _ (s1.free hx) (s1.trans (qad hx)) ?_⟩
    rw [qab]
    rw [qfw]
    rw [if_pos h]
    rfl
   have h0:=nbF h
   have e0:¬ isNm n=false:=by rw [h0];decide
   have B1:=B.same s1
   have hd1:=hd.same s1
   have hed1:=s1 _ _ hed
   have tw:(hasP ppl n || hasP (M.map (·.1.nm)) n)=true→∀ x,H1 x=none→Q (.ref x) (upd H1 x (.lst [.int 1])):=fun h x hx=>by
    refine k x _ (s1.free hx) (s1.trans (qad hx)) ?_
    rw [qab]
    rw [qfw]
    rw [if_neg e0,if_pos h]
    rfl
   refine ⟨_,rfl,d,_,1,_,rfl,rfl,hd1,qai (j:=1) rfl,_,rfl,pl,_,rfl,.inl (SqL.of B1.pp),rfl,qdx _,_,rfl,ite2 (fun h=>?_) (fun h=>?_)⟩
   ·have h:inV (.str n) (ppl.map V.str)=true:=h
    rw [qeb] at h
    exact iteT ⟨(show 1≤sizeLine by decide),fun x hx=>tw (by rw [h];rfl) x hx⟩
   have h:¬ inV (.str n) (ppl.map V.str)=true:=h
   rw [qeb] at h
   have hp0:hasP ppl n=false:=by simpa using h
   refine ⟨_,rfl,d,_,1,_,rfl,rfl,hd1,qai (j:=1) rfl,_,rfl,ed,_,rfl,.inl ⟨_,Sum.inr n,B1.en,rfl,rfl⟩,_,rfl,ite2 (fun h=>?_) (fun h=>?_)⟩
   ·rw [qcz (key:=fun e:Ent×Addr×Addr=>e.1.nm)] at h
    exact ⟨(show 1≤sizeLine by decide),fun x hx=>tw (by rw [h,Bool.or_true]) x hx⟩
   rw [qcz (key:=fun e:Ent×Addr×Addr=>e.1.nm)] at h
   have e1:¬ (hasP ppl n || hasP (M.map (·.1.nm)) n)=true:=by rw [hp0,Bool.false_or];exact h
   refine ⟨_,rfl,d,_,0,_,rfl,rfl,hd1,qai (j:=0) rfl,rfl,?_⟩
   rw [qf6]
   refine ⟨_,rfl,iteF ?_⟩
   have due:qck ppl (M.map (·.1.nm)) (hasM M) (.hou n o t m' l)=if (hasP ppl o || hasP (M.map (·.1.nm)) o)=false then some 3 else if l < 0 then some 5 else if 8≤(M.map (·.1.nm)).length then some 2 else none:=by
    rw [qfw,if_neg e0,if_neg e1]
   have fin:∀ x (zs:List V),H1 x=none→zs=dueL (qck ppl (M.map (·.1.nm)) (hasM M) (.hou n o t m' l))→Q (.ref x) (upd H1 x (.lst zs)):=fun x zs hx hz=>by
    refine k x _ (s1.free hx) (s1.trans (qad hx)) ?_
    rw [qab,hz]
   refine ⟨_,rfl,d,_,2,_,rfl,rfl,hd1,qai (j:=2) rfl,_,rfl,pl,_,rfl,.inl (SqL.of B1.pp),rfl,qdx _,_,rfl,ite2 (fun h=>?_) (fun h=>iteF ?_)⟩
   ·have h:(!inV (.str o) (ppl.map V.str))=true:=h
    rw [qeb] at h
    have ho:=nbT h
    refine ⟨_,rfl,d,_,2,_,rfl,rfl,hd1,qai (j:=2) rfl,_,rfl,ed,_,rfl,.inl ⟨_,Sum.inr o,B1.en,rfl,rfl⟩,_,rfl,ite2 (fun h=>?_) (fun h=>?_)⟩
    ·rw [qcz (key:=fun e:Ent×Addr×Addr=>e.1.nm)] at h
     have hm:=nbT h
     exact ⟨(show 1≤sizeLine by decide),fun x hx=>fin x _ hx (by rw [due,if_pos (by rw [ho,hm];rfl)];rfl)⟩
    rw [qcz (key:=fun e:Ent×Addr×Addr=>e.1.nm)] at h
    have hm:=nbF h
    have own:¬ (hasP ppl o || hasP (M.map (·.1.nm)) o)=false:=by rw [hm,Bool.or_true];decide
    ·refine ⟨_,rfl,d,_,5,_,rfl,rfl,hd1,qai (j:=5) rfl,_,_,rfl,rfl,_,rfl,ite2 (fun h=>?_) (fun h=>?_)⟩
     ·have h:l < 0:=of_decide_eq_true h
      exact ⟨(show 1≤sizeLine by decide),fun x hx=>fin x _ hx (by rw [due,if_neg own,if_pos h];rfl)⟩
     ·have h5:¬ l < 0:=fun z=>h (decide_eq_true z)
      refine ⟨(show 1≤sizeLine by decide),fun x hx=>⟨_,rfl,ed,_,rfl,(by rw [qag (qae hed1 hx)];exact hed1),rfl,.inr ⟨_,rfl,x,_,_,rfl,rfl,qab,?_⟩⟩⟩
      have dd:decide (V.int (((M.map fun e=>((Sum.inr e.1.nm:Key),V.ref e.2.1)).length:Nat):Int)=V.int 8)=decide (8≤(M.map (·.1.nm)).length):=by
       rw [List.length_map,List.length_map]
       refine decide_eq_decide.mpr ⟨fun z=>?_,fun z=>?_⟩
       ·have:=V.int.inj z;omega
       ·exact congrArg V.int (by omega)
      rw [dd]
      have fin2:∀ y (zs:List V),(upd H1 x (.lst [.int 2])) y=none→zs=dueL (qck ppl (M.map (·.1.nm)) (hasM M) (.hou n o t m' l))→Q (.ref y) (upd (upd H1 x (.lst [.int 2])) y (.lst zs)):=fun y zs hy hz=>by
       refine k y _ (s1.free ((qad hx).free hy)) (s1.trans ((qad hx).trans (qad hy))) ?_
       rw [qab,hz]
      by_cases hl:8≤(M.map (·.1.nm)).length
      ·rw [decide_eq_true hl]
       refine ⟨by decide,by decide,(show 1≤sizeLine by decide),fun y hy=>fin2 y _ hy ?_⟩
       rw [due,if_neg own,if_neg h5,if_pos hl]
       rfl
      ·rw [decide_eq_false hl]
       refine ⟨by decide,by decide,(show 0≤sizeLine by decide),fun y hy=>fin2 y _ hy ?_⟩
       rw [due,if_neg own,if_neg h5,if_neg hl]
       rfl
   ·have h:¬ (!inV (.str o) (ppl.map V.str))=true:=h
    rw [qeb] at h
    have ho:=nbF h
    have own:¬ (hasP ppl o || hasP (M.map (·.1.nm)) o)=false:=by rw [ho,Bool.true_or];decide
    ·refine ⟨_,rfl,d,_,5,_,rfl,rfl,hd1,qai (j:=5) rfl,_,_,rfl,rfl,_,rfl,ite2 (fun h=>?_) (fun h=>?_)⟩
     ·have h:l < 0:=of_decide_eq_true h
      exact ⟨(show 1≤sizeLine by decide),fun x hx=>fin x _ hx (by rw [due,if_neg own,if_pos h];rfl)⟩
     ·have h5:¬ l < 0:=fun z=>h (decide_eq_true z)
      refine ⟨(show 1≤sizeLine by decide),fun x hx=>⟨_,rfl,ed,_,rfl,(by rw [qag (qae hed1 hx)];exact hed1),rfl,.inr ⟨_,rfl,x,_,_,rfl,rfl,qab,?_⟩⟩⟩
      have dd:decide (V.int (((M.map fun e=>((Sum.inr e.1.nm:Key),V.ref e.2.1)).length:Nat):Int)=V.int 8)=decide (8≤(M.map (·.1.nm)).length):=by
       rw [List.length_map,List.length_map]
       refine decide_eq_decide.mpr ⟨fun z=>?_,fun z=>?_⟩
       ·have:=V.int.inj z;omega
       ·exact congrArg V.int (by omega)
      rw [dd]
      have fin2:∀ y (zs:List V),(upd H1 x (.lst [.int 2])) y=none→zs=dueL (qck ppl (M.map (·.1.nm)) (hasM M) (.hou n o t m' l))→Q (.ref y) (upd (upd H1 x (.lst [.int 2])) y (.lst zs)):=fun y zs hy hz=>by
       refine k y _ (s1.free ((qad hx).free hy)) (s1.trans ((qad hx).trans (qad hy))) ?_
       rw [qab,hz]
      by_cases hl:8≤(M.map (·.1.nm)).length
      ·rw [decide_eq_true hl]
       refine ⟨by decide,by decide,(show 1≤sizeLine by decide),fun y hy=>fin2 y _ hy ?_⟩
       rw [due,if_neg own,if_neg h5,if_pos hl]
       rfl
      ·rw [decide_eq_false hl]
       refine ⟨by decide,by decide,(show 0≤sizeLine by decide),fun y hy=>fin2 y _ hy ?_⟩
       rw [due,if_neg own,if_neg h5,if_neg hl]
       rfl
  | sal h o1 o2 q =>
   obtain ⟨sp,hd,hq⟩:=hd
   refine ⟨_,rfl,d,_,0,_,rfl,rfl,hd,qai (j:=0) rfl,rfl,?_⟩
   rw [ne_str (by decide +kernel)]
   refine ⟨_,rfl,iteF ⟨_,rfl,d,_,0,_,rfl,rfl,hd,qai (j:=0) rfl,rfl,?_⟩⟩
   rw [ne_str (by decide +kernel)]
   refine ⟨_,rfl,iteF ?_⟩
   refine ⟨_,rfl,d,_,1,_,rfl,rfl,hd,qai (j:=1) rfl,_,rfl,ed,_,rfl,.inl ⟨_,Sum.inr h,B.en,rfl,rfl⟩,_,rfl,ite2 (fun h0=>?_) (fun h0=>?_)⟩
   ·rw [qcz (key:=fun e:Ent×Addr×Addr=>e.1.nm)] at h0
    have h0:=nbT h0
    refine ⟨(show 1≤sizeLine by decide),fun x hx=>k x _ hx (qad hx) ?_⟩
    rw [qab,qet,if_pos h0]
    rfl
   rw [qcz (key:=fun e:Ent×Addr×Addr=>e.1.nm)] at h0
   have h0:=nbF h0
   have hh:¬ hasP (M.map (·.1.nm)) h=false:=by rw [h0];decide
   refine ⟨_,rfl,d,_,0,_,rfl,rfl,hd,qai (j:=0) rfl,rfl,?_⟩
   rw [qcl]
   refine ⟨_,rfl,iteT ?_⟩
   obtain ⟨em,hem⟩:∃ em,qef M h=some em:=by
    rw [qe6] at h0
    exact Option.isSome_iff_exists.mp h0
   have hemM:=List.mem_of_find?_eq_some hem
   have hasE:hasM M h o1=getQ em.1.held o1:=by unfold hasM;rw [hem]
   have W:=hw h o1 o2 q rfl em hem
   have fin:∀ Hx y (zs:List V),Same H Hx→Hx y=none→zs=dueL (qck ppl (M.map (·.1.nm)) (hasM M) (.sal h o1 o2 q))→Q (.ref y) (upd Hx y (.lst zs)):=fun Hx y zs sx hy hz=>by
    refine k y _ (sx.free hy) (sx.trans (qad hy)) ?_
    rw [qab,hz]
   let bad:Str→Bool:=fun n=>!(hasP ppl n || hasP (M.map (·.1.nm)) n)
   refine ⟨_,rfl,2,rfl,4,rfl,d,_,rfl,hd,fun z=>absurd (show (2:Nat)=0 from z.1) (by decide),fun p hp=>⟨p,rfl,⟨_,SqT.of qab⟩,fun D hD=>?_⟩⟩
   have sp1:Same H _:=qad (o:=.tup [.str o1,.str o2]) hp
   have B1:=B.same sp1
   have hDp:p≠D:=qae qab hD
   refine qe8 (J:=Itt K p) 2 (fun i ys H'=>H'=upd (upd H p (.tup [.str o1,.str o2])) D (.lst ys)∧ys=(([o1,o2].take i).filter bad).map V.str) ⟨rfl,rfl⟩ (by decide) (fun i ys H' r=>by rw [r.1];exact qab) (fun i ys H' hi r=>⟨[.str o1,.str o2],?_,?_,?_⟩) ?_ ?_
   ·exact [V.str o1,V.str o2][i]'hi
   ·rw [r.1];exact SqT.of (by rw [qag hDp,qab])
   ·exact List.getElem?_eq_getElem hi
   ·rintro i ys H' v H'' hi ⟨rfl,rfl⟩ ⟨rfl,hy⟩ Kt Kf q1 q2
    have hv:=hy [.str o1,.str o2] (SqT.of (by rw [qag hDp,qab]))
    obtain ⟨n,hn,ev⟩:∃ n,[o1,o2][i]?=some n∧v=.str n:=by
     have:[V.str o1,V.str o2]=[o1,o2].map V.str:=rfl
     rw [this,List.getElem?_map] at hv
     cases w:[o1,o2][i]? with
     | none=>rw [w] at hv;cases hv
     | some n=>rw [w] at hv;exact ⟨n,rfl,(Option.some.inj hv).symm⟩
    subst ev
    have et:[o1,o2].take (i+1)=[o1,o2].take i++[n]:=by rw [List.take_add_one,hn];rfl
    have sD:=qad (o:=.lst ((([o1,o2].take i).filter bad).map V.str)) hD
    have B2:=B1.same sD
    have no:bad n=false→Kf (upd (upd H p (.tup [.str o1,.str o2])) D (.lst ((([o1,o2].take i).filter bad).map V.str))):=fun hb=>q2 _ ⟨rfl,by rw [et,List.filter_append,List.filter_cons,hb];simp⟩
    refine ⟨_,rfl,_,rfl,pl,_,rfl,.inl (SqL.of B2.pp),rfl,qdx _,_,rfl,ite2 (fun h3=>?_) (fun h3=>?_)⟩
    ·have h3:(!inV (.str n) (ppl.map V.str))=true:=h3
     rw [qeb] at h3
     have h3:=nbT h3
     refine ⟨_,rfl,_,rfl,ed,_,rfl,.inl ⟨_,Sum.inr n,B2.en,rfl,rfl⟩,_,rfl,ite2 (fun h4=>?_) (fun h4=>?_)⟩
     ·rw [qcz (key:=fun e:Ent×Addr×Addr=>e.1.nm)] at h4
      have h4:=nbT h4
      have hb:bad n=true:=by show (!(hasP ppl n || hasP (M.map (·.1.nm)) n))=true;rw [h3,h4];rfl
      refine ⟨_,rfl,q1 _ _ qab ⟨by rw [qiy],?_⟩⟩
      rw [et,List.filter_append,List.map_append,List.filter_cons,if_pos hb]
      rfl
     ·rw [qcz (key:=fun e:Ent×Addr×Addr=>e.1.nm)] at h4
      have h4:=nbF h4
      exact no (by show (!(hasP ppl n || hasP (M.map (·.1.nm)) n))=false;rw [h4,Bool.or_true];rfl)
    ·have h3:¬ (!inV (.str n) (ppl.map V.str))=true:=h3
     rw [qeb] at h3
     have h3:=nbF h3
     exact iteF (no (by show (!(hasP ppl n || hasP (M.map (·.1.nm)) n))=false;rw [h3,Bool.true_or];rfl))
   rintro ys H' hl ⟨rfl,rfl⟩
   have S3:Same H _:=sp1.trans (qad (o:=.lst ((([o1,o2].take 2).filter bad).map V.str)) hD)
   refine ⟨⟨_,SqT.of (by rw [qag hDp,qab]),Nat.le_refl _⟩,D,_,rfl,.inl (SqL.of qab),_,_,rfl,rfl,_,rfl,ite2 (fun h3=>?_) (fun h3=>?_)⟩
   ·have h3:(((([o1,o2].take 2).filter bad).map V.str).length:Int) > 0:=of_decide_eq_true h3
    rw [List.length_map] at h3
    refine ⟨(show 1≤sizeLine by decide),fun x hx=>fin _ x _ S3 hx ?_⟩
    rw [qet,if_neg hh]
    by_cases b1:(hasP ppl o1 || hasP (M.map (·.1.nm)) o1)=false
    ·rw [if_pos b1];rfl
    ·rw [if_neg b1]
     by_cases b2:(hasP ppl o2 || hasP (M.map (·.1.nm)) o2)=false
     ·rw [if_pos b2];rfl
     ·exfalso
      have e1:bad o1=false:=by show (!(hasP ppl o1 || hasP (M.map (·.1.nm)) o1))=false;rw [btrue b1];rfl
      have e2:bad o2=false:=by show (!(hasP ppl o2 || hasP (M.map (·.1.nm)) o2))=false;rw [btrue b2];rfl
      have:([o1,o2].take 2).filter bad=[]:=by show [o1,o2].filter bad=[];rw [List.filter_cons,e1,List.filter_cons,e2];rfl
      rw [this] at h3
      exact absurd h3 (by decide)
   have h3:¬ (((([o1,o2].take 2).filter bad).map V.str).length:Int) > 0:=fun z=>h3 (decide_eq_true z)
   rw [List.length_map] at h3
   have hf:[o1,o2].filter bad=[]:=List.length_eq_zero_iff.mp (by have:(([o1,o2].filter bad).length:Int)≤0:=Int.not_lt.mp h3;omega)
   rw [List.filter_eq_nil_iff] at hf
   have g1:¬ (hasP ppl o1 || hasP (M.map (·.1.nm)) o1)=false:=fun z=>hf o1 (by simp) (by show (!(hasP ppl o1 || hasP (M.map (·.1.nm)) o1))=true;rw [z];rfl)
   have g2:¬ (hasP ppl o2 || hasP (M.map (·.1.nm)) o2)=false:=fun z=>hf o2 (by simp) (by show (!(hasP ppl o2 || hasP (M.map (·.1.nm)) o2))=true;rw [z];rfl)
   have B3:=B.same S3
   have hd3:=qa6 S3 hd
   obtain ⟨zz,Z⟩:=(B3.he em hemM).toZ
   refine ⟨_,rfl,_,rfl,d,_,1,_,rfl,rfl,hd3,qai (j:=1) rfl,ed,_,rfl,B3.get hem,em.2.1,_,3,_,rfl,rfl,SqL.of (B3.el em hemM),qai (j:=3) rfl,em.2.2,rfl,.inl ⟨_,.inl Z.2.1⟩,_,rfl,d,_,2,_,rfl,rfl,hd3,qai (j:=2) rfl,(show 2≤sizeLine by decide),fun t ht=>?_⟩
   have S4:=S3.trans (qad (o:=.tup [.int 0,.int 1]) ht)
   have Z4:=Z.same (qad (o:=.tup [.int 0,.int 1]) ht)
   obtain ⟨y0,hy0,fy0⟩:=Z4.get (o:=t) (SqT.of qab) o1
   refine ⟨_,DGet.k (k:=Sum.inr o1) Z4.2.1,?_⟩
   rw [hy0]
   have hd4:=qa6 S4 hd
   have hq4:=hq.same S4
   refine ⟨(show 1≤sizeLine by decide),fun x hx=>?_⟩
   have sx:=qad (o:=.lst [.int 6]) hx
   have S5:=S4.trans sx
   have hd5:=qa6 S5 hd
   have hq5:=hq.same S5
   refine ⟨_,rfl,d,_,4,_,rfl,rfl,hd5,qai (j:=4) rfl,sp,_,0,_,rfl,rfl,hq5,qai (j:=0) rfl,_,_,rfl,rfl,_,rfl,ite2 (fun h5=>?_) (fun h5=>?_)⟩
   ·have h5:q.1≤0:=of_decide_eq_true h5
    refine .inr ⟨_,rfl,x,_,_,rfl,rfl,qab,by decide,by decide,(show 1≤sizeLine by decide),fun y hy=>fin _ y _ S5 hy ?_⟩
    rw [qet,if_neg hh,if_neg g1,if_neg g2,if_pos (show more _ q from .inl (by omega))]
    rfl
   have h5:¬ q.1≤0:=fun z=>h5 (decide_eq_true z)
   refine ⟨_,rfl,_,rfl,d,_,4,_,rfl,rfl,hd5,qai (j:=4) rfl,y0,sp,_,q,rfl,fy0.same sx,hq5,W,?_⟩
   refine .inr ⟨_,rfl,x,_,_,rfl,rfl,qab,?_⟩
   by_cases h6':(getQ em.1.held o1).1 * q.2 < q.1 * (getQ em.1.held o1).2
   ·rw [decide_eq_true h6']
    refine ⟨by decide,by decide,(show 1≤sizeLine by decide),fun y hy=>fin _ y _ S5 hy ?_⟩
    rw [qet,if_neg hh,if_neg g1,if_neg g2,hasE,if_pos (show more _ q from .inr h6')]
    rfl
   ·rw [decide_eq_false h6']
    refine ⟨by decide,by decide,(show 0≤sizeLine by decide),fun y hy=>fin _ y _ S5 hy ?_⟩
    rw [qet,if_neg hh,if_neg g1,if_neg g2,hasE,if_neg (show ¬ more _ q from fun z=>z.elim (fun y=>by omega) h6')]
    rfl
  | num kd h n =>
   have w1:¬ kd.word=Str.ofString "person":=by cases kd <;> decide +kernel
   have w2:¬ kd.word=Str.ofString "house":=by cases kd <;> decide +kernel
   have w3:¬ kd.word=Str.ofString "sale":=by cases kd <;> decide +kernel
   refine ⟨_,rfl,d,_,0,_,rfl,rfl,hd,qai (j:=0) rfl,rfl,?_⟩
   rw [ne_str w1]
   refine ⟨_,rfl,iteF ⟨_,rfl,d,_,0,_,rfl,rfl,hd,qai (j:=0) rfl,rfl,?_⟩⟩
   rw [ne_str w2]
   refine ⟨_,rfl,iteF ?_⟩
   refine ⟨_,rfl,d,_,1,_,rfl,rfl,hd,qai (j:=1) rfl,_,rfl,ed,_,rfl,.inl ⟨_,Sum.inr h,B.en,rfl,rfl⟩,_,rfl,ite2 (fun h0=>?_) (fun h0=>?_)⟩
   ·rw [qcz (key:=fun e:Ent×Addr×Addr=>e.1.nm)] at h0
    have h0:=nbT h0
    refine ⟨(show 1≤sizeLine by decide),fun x hx=>k x _ hx (qad hx) ?_⟩
    rw [qab,qfv,if_pos h0]
    rfl
   rw [qcz (key:=fun e:Ent×Addr×Addr=>e.1.nm)] at h0
   have h0:=nbF h0
   have hh:¬ hasP (M.map (·.1.nm)) h=false:=by rw [h0];decide
   refine ⟨_,rfl,d,_,0,_,rfl,rfl,hd,qai (j:=0) rfl,rfl,?_⟩
   rw [ne_str w3]
   refine ⟨_,rfl,iteF ⟨(show 1≤sizeLine by decide),fun x hx=>?_⟩⟩
   have sx:=qad (o:=.lst [.int 5]) hx
   have hd5:=qa6 sx hd
   have fin:∀ y (zs:List V),(upd H x (.lst [.int 5])) y=none→zs=dueL (qck ppl (M.map (·.1.nm)) (hasM M) (.num kd h n))→Q (.ref y) (upd (upd H x (.lst [.int 5])) y (.lst zs)):=fun y zs hy hz=>by
    refine k y _ (sx.free hy) (sx.trans (qad hy)) ?_
    rw [qab,hz]
   refine ⟨_,rfl,d,_,0,_,rfl,rfl,hd5,qai (j:=0) rfl,rfl,_,rfl,ite2 (fun h5=>?_) (fun h5=>?_)⟩
   ·have hk:kd=.ls:=by
     have h5:=V.str.inj (of_decide_eq_true h5)
     cases kd with
     | th=>exact absurd h5 (by decide +kernel)
     | mr=>exact absurd h5 (by decide +kernel)
     | ls=>rfl
    refine ⟨_,rfl,d,_,2,_,rfl,rfl,hd5,qai (j:=2) rfl,_,_,rfl,rfl,.inr ⟨_,rfl,x,_,_,rfl,rfl,qab,?_⟩⟩
    by_cases hn:n < 0
    ·rw [decide_eq_true hn]
     refine ⟨by decide,by decide,(show 1≤sizeLine by decide),fun y hy=>fin y _ hy ?_⟩
     rw [qfv,if_neg hh,if_pos (show kd=.ls∧n < 0 from ⟨hk,hn⟩)]
     rfl
    ·rw [decide_eq_false hn]
     refine ⟨by decide,by decide,(show 0≤sizeLine by decide),fun y hy=>fin y _ hy ?_⟩
     rw [qfv,if_neg hh,if_neg (show ¬ (kd=.ls∧n < 0) from fun z=>hn z.2)]
     rfl
   ·have hk:¬ kd=.ls:=fun z=>h5 (decide_eq_true (by rw [z];rfl))
    refine .inr ⟨_,rfl,x,_,_,rfl,rfl,qab,by decide,by decide,(show 0≤sizeLine by decide),fun y hy=>fin y _ hy ?_⟩
    rw [qfv,if_neg hh,if_neg (show ¬ (kd=.ls∧n < 0) from fun z=>hk z.1)]
    rfl
end
end My
namespace L2
open PySem PySem.Spec PyProof.Rows
section
variable {X:Cx}
def rIndex:V→List V→Hp→VK→Prop:=fun x vs H Q=>∃ (l:Addr) (ss:List Str) (y:Str) (j:Nat),x=.ref l∧vs=[.str y]∧H l=some (.lst (ss.map V.str))∧ss[j]?=some y∧(∀ m,m < j→ss[m]?≠some y)∧ss.length < 1000∧Q (.int (j:Nat)) H
theorem mt_index:MtM X "list.index" rIndex:=by
 intro pins s σ H x vs v us Q I rx rv h
 obtain ⟨l,ss,y,j,rfl,rfl,hH,hj,hno,hlen,q⟩:=h
 cases rx
 obtain ⟨u,rfl,ru⟩:=rv.one
 obtain ⟨t,rfl⟩:=ru
 obtain ⟨z,its,n,r,hl,e⟩:=I.lstM hH
 rw [List.length_map] at hl
 have itm:∀ m (hm:m < its.toArray.size),∃ z tz,its.toArray[m]=.str z tz∧ss[m]?=some z:=fun m hm=>by
  have hm':m < ss.length:=by rw [hl];simpa using hm
  obtain ⟨u,hu,ru⟩:=r.get (i:=m) (x:=.str ss[m]) (by simp [hm'])
  obtain ⟨tz,rfl⟩:=ru
  refine ⟨ss[m],tz,?_,by simp [hm']⟩
  have:its[m]?=some its.toArray[m]:=by simp [show m < its.length by simpa using hm]
  rw [hu] at this
  exact (Option.some.inj this).symm
 have jl:j < its.toArray.size:=by
  have:=(List.getElem?_eq_some_iff.mp hj).1
  rw [List.size_toArray]
  omega
 refine call_meets PySem.F.slot_list_index ⟨_,e,rfl⟩ PySem.F.entry_list_index (PySem.F.args_list_index_2 _ _)
  (SeqAt.list_indexAt l its.toArray n _ _ (.str y t) (fun v=>match v with | .str z _=>decide (z=y) | _=>false) j jl (by rw [List.size_toArray] at jl;omega) ?_ ?_) ⟨e,fun w hw=>?_,⟨.int j,H,I.tok _,⟨_,rfl⟩,q⟩⟩
 ·obtain ⟨z',tz,e1,e2⟩:=itm j jl
  rw [e1]
  rw [hj] at e2
  exact decide_eq_true (Option.some.inj e2).symm
 ·intro m hm hlt
  obtain ⟨z',tz,e1,e2⟩:=itm m hm
  rw [e1]
  exact decide_eq_false fun w=>hno m hlt (by rw [e2,w])
 ·obtain ⟨m,hm,rfl⟩:=Array.getElem_of_mem hw
  obtain ⟨z',tz,e1,e2⟩:=itm m hm
  rw [e1]
  exact eqAt_V (show RelV (.str z') (.str z' tz) from ⟨tz,rfl⟩) (show RelV (.str y) (.str y t) from ⟨t,rfl⟩) rfl rfl
end
end L2
namespace My
open PySem L2 Fra
theorem nd_two {X A B:List Addr}{p q:Addr} (h:(X++(A++B)).Nodup) (hp:p∉X++(A++B)) (hq:q∉X++(A++B)) (pq:p≠q):(X++((A++[p])++(B++[q]))).Nodup:=by
 have e:(X++((A++[p])++(B++[q]))).Perm (p::q::(X++(A++B))):=by
  have e1:X++((A++[p])++(B++[q]))=(X++A)++p::(B++[q]):=by simp
  have e2:(X++A)++(B++[q])=(X++(A++B))++[q]:=by simp
  rw [e1]
  refine List.perm_middle.trans (List.Perm.cons _ ?_)
  rw [e2]
  exact List.perm_append_singleton _ _
 refine e.nodup_iff.mpr (List.nodup_cons.mpr ⟨fun z=>?_,List.nodup_cons.mpr ⟨hq,h⟩⟩)
 rcases List.mem_cons.mp z with z | z
 ·exact pq z
 ·exact hp z
theorem ModAt.all {K:PySem.W.Frag}{H:Hp}{m pl ed:Addr}{ppl:List Str}{M:List (Ent×Addr×Addr)} (B:ModAt K H m pl ed ppl M):∀ c∈MFp m pl ed M,∃ o,H c=some o:=by
 intro c hc
 unfold MFp at hc
 simp only [List.mem_cons,List.mem_append] at hc
 rcases hc with rfl | rfl | rfl | hc | hc
 ·exact ⟨_,B.ob⟩
 ·exact ⟨_,B.pp⟩
 ·rcases B.en with q | ⟨ob,q⟩
  ·exact ⟨_,q⟩
  ·exact ⟨_,q⟩
 ·obtain ⟨e,he,rfl⟩:=List.mem_map.mp hc
  exact ⟨_,B.el e he⟩
 ·obtain ⟨e,he,rfl⟩:=List.mem_map.mp hc
  obtain ⟨ts,_,q,_⟩:=B.he e he
  exact ⟨_,q⟩
theorem ql9 {M:List (Ent×Addr×Addr)}{h:Str}{e:Ent×Addr×Addr} (he:qef M h=some e):e.1.nm=h:=by
 unfold qef at he
 simpa using List.find?_some he
theorem qcy {M:List (Ent×Addr×Addr)}{h:Str}{e:Ent×Addr×Addr} (he:qef M h=some e):e∈M:=List.mem_of_find?_eq_some he
theorem qkl {M:List (Ent×Addr×Addr)}{h:Str}{e x:Ent×Addr×Addr} (nd:(M.map (·.1.nm)).Nodup) (he:qef M h=some e) (hx:x∈M) (hn:x.1.nm=h):x=e :=
 qim (key:=fun x:Ent×Addr×Addr=>x.1.nm) nd hx (qcy he) (hn.trans (ql9 he).symm)
theorem ModAt.reent {K:PySem.W.Frag}{H H':Hp}{m pl ed d:Addr}{ppl:List Str}{M:List (Ent×Addr×Addr)}{h:Str}{e:Ent×Addr×Addr}{g:Ent→Ent} (B:ModAt K H m pl ed ppl M) (hed:∃ kvs,H ed=some (.dK kvs)) (nd:(M.map (·.1.nm)).Nodup) (he:qef M h=some e)
  (hd:d=e.2.1∨d=e.2.2) (hnt:∀ o,H d=some o→¬ ∃ xs,o=.tup xs∨∃ ob,o=.frz ob (.tup xs)) (g1:∀ x,(g x).nm=x.nm) (hl:H' e.2.1=some (.lst [.int (g e.1).th,.int (g e.1).mr,.int (g e.1).ls,.ref e.2.2])) (hH:HeldAt K H' e.2.2 (g e.1).held)
  (kp:∀ c o,H c=some o→c≠d→H' c=some o):ModAt K H' m pl ed ppl (setE M h g):=by
 have hem:=qcy he
 obtain ⟨n1,r1⟩:=List.nodup_cons.mp B.nd
 obtain ⟨n2,r2⟩:=List.nodup_cons.mp r1
 obtain ⟨n3,r3⟩:=List.nodup_cons.mp r2
 obtain ⟨kvs,hed⟩:=hed
 have dm:d∈M.map (·.2.1)++M.map (·.2.2):=by
  rcases hd with rfl | rfl
  ·exact List.mem_append_left _ (List.mem_map.mpr ⟨e,hem,rfl⟩)
  ·exact List.mem_append_right _ (List.mem_map.mpr ⟨e,hem,rfl⟩)
 have ds:=(List.nodup_append.mp r3).2.2
 have ra:=(List.nodup_append.mp r3).1
 have rb:=(List.nodup_append.mp r3).2.1
 have far:∀ x∈M,¬ x.1.nm=h→x.2.1≠d∧x.2.2≠d:=fun x hx hn=>by
  have xe:x≠e:=fun z=>hn (by rw [z];exact ql9 he)
  have m1:∀ y∈M,y.2.1∈M.map (·.2.1):=fun y hy=>List.mem_map.mpr ⟨y,hy,rfl⟩
  have m2:∀ y∈M,y.2.2∈M.map (·.2.2):=fun y hy=>List.mem_map.mpr ⟨y,hy,rfl⟩
  rcases hd with rfl | rfl
  ·exact ⟨fun z=>xe (qim (key:=fun x:Ent×Addr×Addr=>x.2.1) ra hx hem z),fun z=>ds _ (m1 e hem) _ (m2 x hx) z.symm⟩
  ·exact ⟨fun z=>ds _ (m1 x hx) _ (m2 e hem) z,fun z=>xe (qim (key:=fun x:Ent×Addr×Addr=>x.2.2) rb hx hem z)⟩
 refine ⟨kp _ _ B.ob fun z=>n1 (by rw [z];simp only [List.mem_cons];right;right;exact dm),kp _ _ B.pp fun z=>n2 (by rw [z];simp only [List.mem_cons];right;exact dm),?_,fun y hy=>?_,fun y hy=>?_,?_⟩
 ·rw [qa3 (v:=fun e:Ent×Addr×Addr=>((Sum.inr e.1.nm:Key),V.ref e.2.1)) fun x=>by rw [g1]]
  have e1:kvs=M.map fun e=>((Sum.inr e.1.nm:Key),V.ref e.2.1):=by
   rcases B.en with q | ⟨ob,q⟩
   ·rw [hed] at q;cases q;rfl
   ·rw [hed] at q;cases q
  rw [← e1]
  exact .inl (kp _ _ hed fun z=>n3 (by rw [z];exact dm))
 ·obtain ⟨x,hx,⟨hn,rfl⟩ | ⟨hn,rfl⟩⟩:=qb7 hy
  ·rw [qkl nd he hx hn];exact hl
  ·exact kp _ _ (B.el y hx) (far y hx hn).1
 ·obtain ⟨x,hx,⟨hn,rfl⟩ | ⟨hn,rfl⟩⟩:=qb7 hy
  ·rw [qkl nd he hx hn];exact hH
  ·exact (B.he y hx).keep (fun o ho=>kp _ _ ho (far y hx hn).2) fun c o ho w=>kp c o ho fun z=>hnt o (z ▸ ho) w
 ·rw [qa3 (v:=fun e:Ent×Addr×Addr=>e.2.1) fun x=>rfl,qa3 (v:=fun e:Ent×Addr×Addr=>e.2.2) fun x=>rfl]
  exact B.nd
def NK.put (k:NK) (n:Int) (x:Ent):Ent:=match k with
 | .th=>{ x with th:=n }
 | .mr=>{ x with mr:=n }
 | .ls=>{ x with ls:=n }
section
variable {P:Program}{w:World}{K:PySem.W.Frag}{mg:Str→Option Value}{base:Heap}{a:Adr}{f:Addr}{fd:FuncData}
abbrev qb4:Stmt:=top 36
theorem sc__law_changed:FnScope ["_law_model","_law_deed_here","_law_people","_law_entries","_law_held","_law_top","_law_bottom"] ["_law_model","_law_deed_here"] (qaj qb4):=⟨rfl,rfl,rfl,by decide +kernel,rfl,by decide +kernel,by decide +kernel⟩
def qgj (K:PySem.W.Frag):Sp:=fun vs H Q _=>∃ m pl ed ppl M d D,vs=[.ref m,.ref d]∧ModAt K H m pl ed ppl M∧(∃ kvs,H ed=some (.dK kvs))∧DeedAt K H d D∧ppl.length≤6∧M.length≤8 ∧
 match D with
 | .per n=>∀ H',ModAt K H' m pl ed (ppl++[n]) M→(∃ kvs,H' ed=some (.dK kvs))→(∀ c o,H c=some o→c≠pl→H' c=some o)→Q .non H'
 | .hou n o t m' l=>hasP (M.map (·.1.nm)) n=false∧∀ p q H',H p=none→H q=none→ModAt K H' m pl ed ppl (M++[(⟨n,t,m',l,[(o,1,1)]⟩,p,q)])→(∃ kvs,H' ed=some (.dK kvs))→(∀ c u,H c=some u→c≠ed→H' c=some u)→Q .non H'
 | .sal h o1 o2 q=>(M.map (·.1.nm)).Nodup∧∃ e,qef M h=some e∧o1∈e.1.held.map (·.1)∧e.1.held.length < 1000∧Two (getQ e.1.held o1) (-q.1,q.2)∧Two (getQ (putH e.1.held o1 (addR (getQ e.1.held o1) (-q.1,q.2))) o2) q ∧
  ∀ H',ModAt K H' m pl ed ppl (setE M h fun x=>{ x with held:=qli x.held o1 o2 q })→(∃ kvs,H' ed=some (.dK kvs))→(∀ c u,H c=some u→c≠e.2.2→H' c=some u)→Q .non H'
 | .num kd h n=>(M.map (·.1.nm)).Nodup∧∃ e,qef M h=some e ∧
  ∀ H',ModAt K H' m pl ed ppl (setE M h (kd.put n))→(∃ kvs,H' ed=some (.dK kvs))→(∀ c u,H c=some u→c≠e.2.1→H' c=some u)→Q .non H'
theorem ok_changed (F:Fun K "_law_changed" "_law_changed" qb4 f fd) (T:Txt K mg a) (F__law_plus:Fn P w K mg base "_law_plus" 3 ["_law_one_here","_law_other"] (qfe K)):FnOk P w K mg base (CXo P w) 4 f fd ["_law_model","_law_deed_here"] (qgj K):=by
 refine F.okN sc__law_changed (fun vs H Q E h=>?_) (fun cdv A outer s H vs Q E hr h=>?_)
 ·obtain ⟨m,pl,ed,ppl,M,d,D,rfl,_⟩:=h
  rfl
 ·obtain ⟨m,pl,ed,ppl,M,d,D,rfl,B,⟨kvs,hed⟩,hd,h6,h8,k⟩:=h
  have hu:=qbk hr
  refine ⟨_,(qaf (qgr (pv 0) (qkc rfl (qbm (qbe (i:=2) sc__law_changed.nd rfl (Or.inl rfl)) (qbm (qbe (i:=3) sc__law_changed.nd rfl (Or.inl rfl)) qeo)))) (qak (qbi (qau qea (qam qal (pv 1) qac (fun _ _=>rfl)) qa5 (qay _)) (qak (qbw (pe_bm PySem.F.plainAttrs_list PySem.F.slot_list_append PySem.F.type_list_append qf8 (pv 2) (qaa (qam qal (pv 1) qac (fun _ _=>rfl)) qah)))) (qak (qbi (qau qea (qam qal (pv 1) qac (fun _ _=>rfl)) qa5 (qay _)) (qak (qcx hu (pv 3) (qam qal (pv 1) qac (fun _ _=>rfl)) (qbj (qaa (qam qal (pv 1) qac (fun _ _=>rfl)) (qaa (qam qal (pv 1) qac (fun _ _=>rfl)) (qaa (qam qal (pv 1) qac (fun _ _=>rfl)) (qaa (pe_disp (ql3 (qam qal (pv 1) qac (fun _ _=>rfl)) (qbn (qaa qac (qaa qac qah))) pps_nil) rfl rfl (by decide) (by decide)) qah))))) rfl)) (qak (qbi (qau qea (qam qal (pv 1) qac (fun _ _=>rfl)) qa5 (qay _)) (qaf (qaq (i:=4) sc__law_changed.nd rfl (Or.inl rfl) (qam qa0 (qdi hu (pv 3) (qam qal (pv 1) qac (fun _ _=>rfl)) (fun _ _=>rfl)) qac (fun _ _=>rfl))) (qaf (qgr (qam qal (pv 1) qac (fun _ _=>rfl)) (ql4 rfl (qbm (qbe (i:=5) sc__law_changed.nd rfl (Or.inl rfl)) (qbm (qbe (i:=6) sc__law_changed.nd rfl (Or.inl rfl)) qeo)))) (qaf (qcx hu (pv 4) (qam qal (pv 1) qac (fun _ _=>rfl)) (qa1 F__law_plus (hr.mono (by first | decide | omega)) rfl qan (qaa (qdi hu (pv 4) (qam qal (pv 1) qac (fun _ _=>rfl)) (fun _ _=>rfl)) (qaa (qbn (qaa (pe_un qjy (pv 5)) (qaa (pv 6) qah))) qah))) rfl) (qak (qcx hu (pv 4) (qam qal (pv 1) qac (fun _ _=>rfl)) (qa1 F__law_plus (hr.mono (by first | decide | omega)) rfl qan (qaa (qf7 hu (pv 4) (qam qal (pv 1) qac (fun _ _=>rfl)) (qbn (qaa qac (qaa qac qah))) ⟨rfl,rfl,rfl,rfl⟩) (qaa (qam qal (pv 1) qac (fun _ _=>rfl)) qah))) rfl))))) (qak (qgr (qam qal (pv 1) qac (fun _ _=>rfl)) (pg_sub (qdi hu (pv 3) (qam qal (pv 1) qac (fun _ _=>rfl)) (fun _ _=>rfl)) (pe_bm PySem.F.plainAttrs_list PySem.F.slot_list_index PySem.F.type_list_index mt_index (qbj (qaa qa5 (qaa qa5 (qaa qa5 qah)))) (qaa (qam qal (pv 1) qac (fun _ _=>rfl)) qah)) ql0 (fun _=>rfl))))))))))),?_⟩
  have ekv:kvs=M.map fun e=>((Sum.inr e.1.nm:Key),V.ref e.2.1):=by
   rcases B.en with q | ⟨ob,q⟩
   ·rw [hed] at q;cases q;rfl
   ·rw [hed] at q;cases q
  subst ekv
  obtain ⟨n1,r1⟩:=List.nodup_cons.mp B.nd
  obtain ⟨n2,r2⟩:=List.nodup_cons.mp r1
  obtain ⟨n3,r3⟩:=List.nodup_cons.mp r2
  have e1:∀ e∈M,e.2.1∈M.map (·.2.1)++M.map (·.2.2):=fun e he=>List.mem_append_left _ (List.mem_map.mpr ⟨e,he,rfl⟩)
  have e2:∀ e∈M,e.2.2∈M.map (·.2.1)++M.map (·.2.2):=fun e he=>List.mem_append_right _ (List.mem_map.mpr ⟨e,he,rfl⟩)
  have m_p:m≠pl:=fun z=>n1 (by rw [z];simp)
  have m_e:m≠ed:=fun z=>n1 (by rw [z];simp)
  have p_e:pl≠ed:=fun z=>n2 (by rw [z];simp)
  refine ⟨_,rfl,m,_,rfl,SqL.of B.ob,rfl,_,_,rfl,_,_,rfl,rfl,?_⟩
  cases D with
  | per n =>
   refine ⟨_,rfl,d,_,0,_,rfl,rfl,hd,qai (j:=0) rfl,rfl,?_⟩
   rw [qcl]
   refine ⟨_,rfl,iteT ⟨_,rfl,.inl ⟨rfl,_,SqL.of B.pp⟩,_,rfl,d,_,1,_,rfl,rfl,hd,qai (j:=1) rfl,pl,_,_,rfl,rfl,B.pp,?_,?_⟩⟩
   ·rw [List.length_map];exact Nat.lt_of_le_of_lt h6 (by decide)
   ·refine k _ ⟨?_,?_,.inl ?_,fun e he=>?_,fun e he=>?_,B.nd⟩ ⟨_,by rw [qag p_e.symm];exact hed⟩ fun c o h hc=>by rw [qag hc];exact h
    ·rw [qag m_p];exact B.ob
    ·rw [qab,List.map_append];rfl
    ·rw [qag p_e.symm];exact hed
    ·rw [qag (fun z=>n2 (by rw [← z];exact List.mem_cons_of_mem _ (e1 e he)))];exact B.el e he
    ·refine (B.he e he).keep (fun o h=>?_) fun c o h x=>?_
     ·rw [qag (fun z=>n2 (by rw [← z];exact List.mem_cons_of_mem _ (e2 e he)))];exact h
     ·rw [qag (qki h B.pp (by rcases x with ⟨xs,rfl | ⟨ob,rfl⟩⟩ <;> intro z <;> cases z))];exact h
  | hou n o t m' l =>
   obtain ⟨hn,k⟩:=k
   refine ⟨_,rfl,d,_,0,_,rfl,rfl,hd,qai (j:=0) rfl,rfl,?_⟩
   rw [qf6]
   refine ⟨_,rfl,iteF ⟨_,rfl,d,_,0,_,rfl,rfl,hd,qai (j:=0) rfl,rfl,?_⟩⟩
   rw [qcl]
   refine ⟨_,rfl,iteT ⟨_,rfl,d,_,3,_,rfl,rfl,hd,qai (j:=3) rfl,_,rfl,d,_,4,_,rfl,rfl,hd,qai (j:=4) rfl,_,rfl,d,_,5,_,rfl,rfl,hd,qai (j:=5) rfl,fun q hq=>?_⟩⟩
   have sq:Same H (upd H q (.dK [])):=qad hq
   refine ⟨_,rfl,d,_,2,_,rfl,rfl,hd.same sq,qai (j:=2) rfl,(show 2≤sizeLine by decide),fun u hu'=>?_⟩
   have u_q:q≠u:=qae qab hu'
   have hu0:H u=none:=sq.free hu'
   refine ⟨by rw [qag u_q,qab],[(Sum.inr o,.ref u)],rfl,(show 1≤15 by decide),(show 4≤sizeLine by decide),fun p hp=>?_⟩
   generalize hH3:upd (upd (upd H q (.dK [])) u (.tup [.int 1,.int 1])) q (.dK (qin [] [(Sum.inr o,.ref u)]))=H3 at hp ⊢
   have S3:Same H H3:=fun c w e=>by
    rw [← hH3,qag (qae e hq),qag (qae e hu0),qag (qae e hq)];exact e
   have hq3:H3 q=some (.dK [(Sum.inr o,.ref u)]):=by rw [← hH3,qab];rfl
   have hu3:H3 u=some (.tup [.int 1,.int 1]):=by rw [← hH3,qag u_q.symm,qab]
   have hp0:H p=none:=S3.free hp
   have pq:p≠q:=fun z=>by rw [z,hq3] at hp;cases hp
   have p_ed:p≠ed:=fun z=>by rw [z,hed] at hp0;cases hp0
   have q_ed:q≠ed:=fun z=>by rw [z,hed] at hq;cases hq
   have u_ed:u≠ed:=fun z=>by rw [z,hed] at hu0;cases hu0
   have u_p:u≠p:=fun z=>by rw [← z,hu3] at hp;cases hp
   have S4:Same H (upd H3 p (.lst [.int t,.int m',.int l,.ref q])):=S3.trans (qad hp)
   have hed4:=S4 _ _ hed
   have hno:valV (M.map fun e=>((Sum.inr e.1.nm:Key),V.ref e.2.1)) (Sum.inr n)=none:=by
    have:=qcz M (fun e=>e.1.nm) (fun e=>V.ref e.2.1) n
    rw [hn] at this
    exact Option.isNone_iff_eq_none.mp (Option.isSome_eq_false_iff.mp this)
   have B4:=B.same S4
   refine ⟨_,rfl,_,rfl,d,_,1,_,rfl,rfl,hd.same S4,qai (j:=1) rfl,ed,_,rfl,DPut.k (k:=Sum.inr n) hed4 (by rw [List.length_map];exact Nat.lt_of_le_of_lt h8 (by decide)),?_⟩
   refine k p q _ hp0 hq ⟨?_,?_,.inl ?_,fun e he=>?_,fun e he=>?_,?_⟩ ⟨_,qab⟩ fun c w e hc=>by rw [qag hc];exact S4 c w e
   ·rw [qag m_e];exact B4.ob
   ·rw [qag p_e];exact B4.pp
   ·rw [qab,qen _ hno,List.map_append];rfl
   ·rcases List.mem_append.mp he with he | he
    ·rw [qag (fun z=>n3 (by rw [← z];exact e1 e he))];exact B4.el e he
    ·rw [List.mem_singleton.mp he,qag p_ed,qab]
   ·rcases List.mem_append.mp he with he | he
    ·refine (B4.he e he).keep (fun o h=>?_) fun c o h x=>?_
     ·rw [qag (fun z=>n3 (by rw [← z];exact e2 e he))];exact h
     ·rw [qag (qki h hed4 (by rcases x with ⟨xs,rfl | ⟨ob,rfl⟩⟩ <;> intro z <;> cases z))];exact h
    ·rw [List.mem_singleton.mp he]
     refine ⟨[u],rfl,?_,fun y hy=>?_⟩
     ·rw [qag q_ed,qag pq.symm,hq3];rfl
     ·rw [List.mem_singleton.mp hy]
      refine SqT.of ?_
      rw [qag u_ed,qag u_p,hu3]
   ·have al:=B.all
    have no:∀ c,H c=none→c∉[m,pl,ed]++((M.map fun e:Ent×Addr×Addr=>e.2.1)++M.map fun e:Ent×Addr×Addr=>e.2.2):=fun c hc z=>by
     obtain ⟨w,e⟩:=al c z
     rw [hc] at e
     cases e
    have:=nd_two (X:=[m,pl,ed]) (A:=M.map fun e:Ent×Addr×Addr=>e.2.1) (B:=M.map fun e:Ent×Addr×Addr=>e.2.2) B.nd (no p hp0) (no q hq) pq
    rw [List.map_append,List.map_append]
    exact this
  | sal h o1 o2 q =>
   obtain ⟨nd,e,he,ho1,hlen,W1,W2,k⟩:=k
   obtain ⟨sp,hd,hq⟩:=hd
   have hem:=qcy he
   obtain ⟨zz,Z⟩:=(B.he e hem).toZ
   refine ⟨_,rfl,d,_,0,_,rfl,rfl,hd,qai (j:=0) rfl,rfl,?_⟩
   rw [ne_str (by decide +kernel)]
   refine ⟨_,rfl,iteF ⟨_,rfl,d,_,0,_,rfl,rfl,hd,qai (j:=0) rfl,rfl,?_⟩⟩
   rw [ne_str (by decide +kernel)]
   refine ⟨_,rfl,iteF ⟨_,rfl,d,_,0,_,rfl,rfl,hd,qai (j:=0) rfl,rfl,?_⟩⟩
   rw [qcl]
   refine ⟨_,rfl,iteT ?_⟩
   refine ⟨_,rfl,_,rfl,d,_,1,_,rfl,rfl,hd,qai (j:=1) rfl,ed,_,rfl,B.get he,e.2.1,_,3,_,rfl,rfl,SqL.of (B.el e hem),qai (j:=3) rfl,?_⟩
   refine ⟨_,rfl,d,_,4,_,rfl,rfl,hd,qai (j:=4) rfl,sp,_,rfl,hq,rfl,_,_,rfl,_,_,rfl,rfl,?_⟩
   rcases Z.val o1 with ⟨z,_,_⟩ | ⟨_,x,hv,fx⟩
   ·exact absurd ho1 z
   have hget:DGet H e.2.2 (.str o1) (some (.ref x)):=by
    have:=DGet.k (k:=Sum.inr o1) Z.2.1
    rw [hv] at this
    exact this
   refine ⟨_,rfl,_,rfl,d,_,2,_,rfl,rfl,hd,qai (j:=2) rfl,e.2.2,_,rfl,hget,_,rfl,_,rfl,_,rfl,(show 2≤sizeLine by decide),fun y hy=>?_⟩
   have sy:Same H _:=qad (o:=.tup [.int (-q.1),.int q.2]) hy
   refine ⟨x,y,_,(-q.1,q.2),rfl,fx.same sy,SqT.of qab,W1,fun r hr1=>?_⟩
   have S2:Same H _:=sy.trans (qad (o:=.tup [.int (addR (getQ e.1.held o1) (-q.1,q.2)).1,.int (addR (getQ e.1.held o1) (-q.1,q.2)).2]) hr1)
   have Z2:=Z.same S2
   have hln:zz.length=e.1.held.length:=by rw [← Z.1,List.length_map]
   refine ⟨_,rfl,_,rfl,d,_,2,_,rfl,rfl,qa6 S2 hd,qai (j:=2) rfl,e.2.2,_,rfl,DPut.k (k:=Sum.inr o1) Z2.2.1 (by rw [List.length_map,hln];exact Nat.lt_trans hlen (by decide)),?_⟩
   obtain ⟨z3,Z3⟩:=Z2.put (n:=o1) (x:=r) (q:=addR (getQ e.1.held o1) (-q.1,q.2)) (SqT.of qab)
   have kd:∀ {H:Hp}{kvs:List (Key×V)}{o:HO},H e.2.2=some (.dK kvs)→∀ c u,H c=some u→(∃ xs,u=.tup xs∨∃ ob,u=.frz ob (.tup xs))→(upd H e.2.2 o) c=some u:=fun hk c u hc w=>by
    rw [qag (qki hc hk (by rcases w with ⟨xs,rfl | ⟨ob,rfl⟩⟩ <;> intro z <;> cases z))];exact hc
   have hd3:=qbd (qa6 S2 hd) (kd (o:=.dK (putK (zz.map fun q=>((Sum.inr q.1.1:Key),V.ref q.2)) (Sum.inr o1) (.ref r))) Z2.2.1)
   have hq3:FrAt K _ sp q:=qbd (hq.same S2) (kd (o:=.dK (putK (zz.map fun q=>((Sum.inr q.1.1:Key),V.ref q.2)) (Sum.inr o1) (.ref r))) Z2.2.1)
   have kp3:∀ c u,H c=some u→c≠e.2.2→(upd (upd (upd H y (.tup [.int (-q.1),.int q.2])) r (.tup [.int (addR (getQ e.1.held o1) (-q.1,q.2)).1,.int (addR (getQ e.1.held o1) (-q.1,q.2)).2])) e.2.2 (.dK (putK (zz.map fun q=>((Sum.inr q.1.1:Key),V.ref q.2)) (Sum.inr o1) (.ref r)))) c=some u:=fun c u hc hn=>by
    rw [qag hn];exact S2 c u hc
   generalize hH3:upd (upd (upd H y (.tup [.int (-q.1),.int q.2])) r (.tup [.int (addR (getQ e.1.held o1) (-q.1,q.2)).1,.int (addR (getQ e.1.held o1) (-q.1,q.2)).2])) e.2.2 (.dK (putK (zz.map fun q=>((Sum.inr q.1.1:Key),V.ref q.2)) (Sum.inr o1) (.ref r)))=H3 at *
   refine ⟨_,rfl,e.2.2,rfl,.inl ⟨_,.inl Z3.2.1⟩,_,rfl,d,_,3,_,rfl,rfl,hd3,qai (j:=3) rfl,(show 2≤sizeLine by decide),fun t ht=>?_⟩
   have st:Same H3 _:=qad (o:=.tup [.int 0,.int 1]) ht
   have Z4:=Z3.same st
   obtain ⟨y1,hy1,fy1⟩:=Z4.get (o:=t) (SqT.of qab) o2
   refine ⟨_,DGet.k (k:=Sum.inr o2) Z4.2.1,?_⟩
   rw [hy1]
   generalize hu2:addR (getQ (putH e.1.held o1 (addR (getQ e.1.held o1) (-q.1,q.2))) o2) q=u2
   refine ⟨_,rfl,d,_,4,_,rfl,rfl,qa6 st hd3,qai (j:=4) rfl,y1,sp,_,q,rfl,fy1,hq3.same st,W2,fun r2 hr2=>?_⟩
   rw [hu2]
   have S5:Same H3 _:=st.trans (qad (o:=.tup [.int u2.1,.int u2.2]) hr2)
   have Z5:=Z3.same S5
   have hl3:z3.length < sizeLine:=by
    have h1:z3.length=(putH e.1.held o1 (addR (getQ e.1.held o1) (-q.1,q.2))).length:=by rw [← Z3.1,List.length_map]
    have h2:=qll e.1.held o1 (addR (getQ e.1.held o1) (-q.1,q.2))
    have h3:1001 < sizeLine:=by decide
    omega
   refine ⟨_,rfl,_,rfl,d,_,3,_,rfl,rfl,qa6 S5 hd3,qai (j:=3) rfl,e.2.2,_,rfl,DPut.k (k:=Sum.inr o2) Z5.2.1 (by rw [List.length_map];exact hl3),?_⟩
   obtain ⟨z6,Z6⟩:=Z5.put (n:=o2) (x:=r2) (q:=u2) (SqT.of qab)
   have kp6:∀ c u,H c=some u→c≠e.2.2→(upd (upd (upd H3 t (.tup [.int 0,.int 1])) r2 (.tup [.int u2.1,.int u2.2])) e.2.2 (.dK (putK (z3.map fun q=>((Sum.inr q.1.1:Key),V.ref q.2)) (Sum.inr o2) (.ref r2)))) c=some u:=fun c u hc hn=>by
    rw [qag hn];exact S5 c u (kp3 c u hc hn)
   have ne12:e.2.1≠e.2.2:=fun z=>(List.nodup_append.mp r3).2.2 _ (List.mem_map.mpr ⟨e,hem,rfl⟩) _ (List.mem_map.mpr ⟨e,hem,rfl⟩) z
   refine k _ (B.reent ⟨_,hed⟩ nd he (.inr rfl) (fun o ho w=>?_) (fun _=>rfl) (kp6 _ _ (B.el e hem) ne12) ?_ kp6) ⟨_,kp6 _ _ hed fun z=>n3 (by rw [z];exact e2 e hem)⟩ kp6
   ·rw [Z.2.1] at ho
    cases ho
    rcases w with ⟨xs,z | ⟨ob,z⟩⟩ <;> cases z
   ·show HeldAt K _ e.2.2 (qli e.1.held o1 o2 q)
    unfold qli
    simp only [hu2]
    exact Z6.held
  | num kd h n =>
   obtain ⟨nd,e,he,k⟩:=k
   have hem:=qcy he
   have w1:¬ kd.word=Str.ofString "person":=by cases kd <;> decide +kernel
   have w2:¬ kd.word=Str.ofString "house":=by cases kd <;> decide +kernel
   have w3:¬ kd.word=Str.ofString "sale":=by cases kd <;> decide +kernel
   refine ⟨_,rfl,d,_,0,_,rfl,rfl,hd,qai (j:=0) rfl,rfl,?_⟩
   rw [ne_str w1]
   refine ⟨_,rfl,iteF ⟨_,rfl,d,_,0,_,rfl,rfl,hd,qai (j:=0) rfl,rfl,?_⟩⟩
   rw [ne_str w2]
   refine ⟨_,rfl,iteF ⟨_,rfl,d,_,0,_,rfl,rfl,hd,qai (j:=0) rfl,rfl,?_⟩⟩
   rw [ne_str w3]
   refine ⟨_,rfl,iteF ?_⟩
   have ne12:e.2.1≠e.2.2:=fun z=>(List.nodup_append.mp r3).2.2 _ (List.mem_map.mpr ⟨e,hem,rfl⟩) _ (List.mem_map.mpr ⟨e,hem,rfl⟩) z
   have fin:∀ H1,Same H H1→∀ xs,xs=[.int (kd.put n e.1).th,.int (kd.put n e.1).mr,.int (kd.put n e.1).ls,.ref e.2.2]→Q .non (upd H1 e.2.1 (.lst xs)):=fun H1 s1 xs hx=>by
    have kp:∀ c u,H c=some u→c≠e.2.1→(upd H1 e.2.1 (.lst xs)) c=some u:=fun c u hc hn=>by rw [qag hn];exact s1 c u hc
    refine k _ (B.reent ⟨_,hed⟩ nd he (.inl rfl) (fun o ho w=>?_) (fun x=>by cases kd <;> rfl) (by rw [qab,hx]) ?_ kp) ⟨_,kp _ _ hed fun z=>n3 (by rw [z];exact e1 e hem)⟩ kp
    ·rw [B.el e hem] at ho
     cases ho
     rcases w with ⟨xs,z | ⟨ob,z⟩⟩ <;> cases z
    ·have:(kd.put n e.1).held=e.1.held:=by cases kd <;> rfl
     rw [this]
     refine (B.he e hem).keep (fun o ho=>kp _ _ ho ne12.symm) fun c o ho w=>kp c o ho fun z=>?_
     rw [z,B.el e hem] at ho
     cases ho
     rcases w with ⟨xs,z | ⟨ob,z⟩⟩ <;> cases z
   refine ⟨_,rfl,d,_,2,_,rfl,rfl,hd,qai (j:=2) rfl,_,rfl,_,rfl,d,_,1,_,rfl,rfl,hd,qai (j:=1) rfl,ed,_,rfl,B.get he,(show 3≤sizeLine by decide),fun l hl=>?_⟩
   have sl:Same H _:=qad (o:=.lst [.str (Str.ofString "things"),.str (Str.ofString "mark"),.str (Str.ofString "loss")]) hl
   have hel:=sl _ _ (B.el e hem)
   refine ⟨.inl ⟨rfl,_,SqL.of qab⟩,_,rfl,d,_,0,_,rfl,rfl,qa6 sl hd,qai (j:=0) rfl,?_⟩
   cases kd with
   | th=>exact ⟨l,[Str.ofString "things",Str.ofString "mark",Str.ofString "loss"],_,0,rfl,rfl,qab,rfl,fun m hm=>absurd hm (Nat.not_lt_zero m),by decide,e.2.1,_,_,0,rfl,rfl,hel,rfl,fin _ sl _ rfl⟩
   | mr =>
    refine ⟨l,[Str.ofString "things",Str.ofString "mark",Str.ofString "loss"],_,1,rfl,rfl,qab,rfl,fun m hm=>?_,by decide,e.2.1,_,_,1,rfl,rfl,hel,rfl,fin _ sl _ rfl⟩
    have:m=0:=by omega
    subst this
    exact fun z=>absurd (Option.some.inj z) (by decide +kernel)
   | ls =>
    refine ⟨l,[Str.ofString "things",Str.ofString "mark",Str.ofString "loss"],_,2,rfl,rfl,qab,rfl,fun m hm=>?_,by decide,e.2.1,_,_,2,rfl,rfl,hel,rfl,fin _ sl _ rfl⟩
    have:m=0∨m=1:=by omega
    rcases this with rfl | rfl
    ·exact fun z=>absurd (Option.some.inj z) (by decide +kernel)
    ·exact fun z=>absurd (Option.some.inj z) (by decide +kernel)
end
end My
namespace My
open PySem L2 Fra
def clsOf (a:Adr) (j:Nat):Addr:=match j with
 | 0=>a.NoName
 | 1=>a.Twice
 | 2=>a.TooMany
 | 3=>a.NoHolder
 | 4=>a.NoHouse
 | 5=>a.NoLoss
 | _=>a.NoShare
def hasL (L:List (Ent×Addr)) (h o:Str):Int×Int:=match qbf L h with
 | some e=>getQ e.1.held o
 | none=>(0,1)
def dueA (a:Adr) (ppl:List Str) (L:List (Ent×Addr)):Deed→Option Addr
 | .per n=>qfi a ppl L n
 | .hou n o _ _ l=>qe5 a ppl L n o l
 | .sal h o1 o2 q=>(qck ppl (L.map (·.1.nm)) (hasL L) (.sal h o1 o2 q)).map (clsOf a)
 | .num k h n=>(qck ppl (L.map (·.1.nm)) (hasL L) (.num k h n)).map (clsOf a)
def AftB (H:Hp) (ppl:List Str) (L:List (Ent×Addr)) (ppl':List Str) (L':List (Ent×Addr)):Deed→Prop
 | .per n=>ppl'=ppl++[n]∧L'=L
 | .hou n o t m l=>ppl'=ppl∧∃ p,H p=none∧L'=L++[(⟨n,t,m,l,[(o,1,1)]⟩,p)]
 | .sal h o1 o2 q=>ppl'=ppl∧L'=setE L h fun x=>{ x with held:=sold x.held o1 o2 q }
 | .num k h n=>ppl'=ppl∧L'=setE L h (k.put n)
def DueK (K:PySem.W.Frag) (a:Adr) (c:Addr) (j:Nat):Prop:=Exc K c∧PySem.W.mroIn K c (.ref a.OwnError)=some true∧WhichAt K a c j
structure Five (K:PySem.W.Frag) (a:Adr):Prop where
 q0:DueK K a a.NoName 0
 q1:DueK K a a.Twice 1
 q2:DueK K a a.TooMany 2
 q3:DueK K a a.NoHolder 3
 q4:DueK K a a.NoHouse 4
 q5:DueK K a a.NoLoss 5
 q6:DueK K a a.NoShare 6
theorem due_link {K:PySem.W.Frag}{a:Adr} (R:Five K a) (ppl:List Str) (L:List (Ent×Addr)) (D:Deed) :
  (qck ppl (L.map (·.1.nm)) (hasL L) D=none→dueA a ppl L D=none)∧∀ j,qck ppl (L.map (·.1.nm)) (hasL L) D=some j→∃ c,dueA a ppl L D=some c∧DueK K a c j:=by
 have hh:∀ x,hasH L x=hasP (L.map (·.1.nm)) x:=fun x=>by rw [qe6];rfl
 cases D with
 | per n =>
  rw [qfu]
  show (_→qfi a ppl L n=none)∧_
  have ee:dueA a ppl L (.per n)=qfi a ppl L n:=rfl
  rw [ee]
  unfold qfi qe3
  rw [hh]
  by_cases h0:isNm n=false
  ·rw [if_pos h0,if_pos h0]
   exact ⟨fun z=>(by cases z),fun j e=>⟨_,rfl,by cases e;exact R.q0⟩⟩
  ·rw [if_neg h0,if_neg h0]
   by_cases h1:(hasP ppl n || hasP (L.map (·.1.nm)) n)=true
   ·rw [if_pos h1,if_pos h1]
    exact ⟨fun z=>(by cases z),fun j e=>⟨_,rfl,by cases e;exact R.q1⟩⟩
   ·rw [if_neg h1,if_neg h1]
    by_cases h2:6≤ppl.length
    ·rw [if_pos h2]
     simp only [if_pos h2]
     exact ⟨fun z=>(by cases z),fun j e=>⟨_,rfl,by cases e;exact R.q2⟩⟩
    ·rw [if_neg h2]
     simp only [if_neg h2]
     exact ⟨fun _=>trivial,fun j e=>(by cases e)⟩
 | hou n o t m l =>
  rw [qfw]
  have ee:dueA a ppl L (.hou n o t m l)=qe5 a ppl L n o l:=rfl
  rw [ee]
  unfold qe5 qe3
  rw [hh,hh,List.length_map]
  by_cases h0:isNm n=false
  ·rw [if_pos h0,if_pos h0]
   exact ⟨fun z=>(by cases z),fun j e=>⟨_,rfl,by cases e;exact R.q0⟩⟩
  ·rw [if_neg h0,if_neg h0]
   by_cases h1:(hasP ppl n || hasP (L.map (·.1.nm)) n)=true
   ·rw [if_pos h1,if_pos h1]
    exact ⟨fun z=>(by cases z),fun j e=>⟨_,rfl,by cases e;exact R.q1⟩⟩
   ·rw [if_neg h1,if_neg h1]
    by_cases h2:(hasP ppl o || hasP (L.map (·.1.nm)) o)=false
    ·rw [if_pos h2]
     simp only [if_pos h2]
     exact ⟨fun z=>(by cases z),fun j e=>⟨_,rfl,by cases e;exact R.q3⟩⟩
    ·rw [if_neg h2]
     simp only [if_neg h2]
     by_cases h3:l < 0
     ·rw [if_pos h3]
      simp only [if_pos h3]
      exact ⟨fun z=>(by cases z),fun j e=>⟨_,rfl,by cases e;exact R.q5⟩⟩
     ·rw [if_neg h3]
      simp only [if_neg h3]
      by_cases h4:8≤L.length
      ·rw [if_pos h4]
       simp only [if_pos h4]
       exact ⟨fun z=>(by cases z),fun j e=>⟨_,rfl,by cases e;exact R.q2⟩⟩
      ·rw [if_neg h4]
       simp only [if_neg h4]
       exact ⟨fun _=>trivial,fun j e=>(by cases e)⟩
 | sal h o1 o2 q =>
  have ee:dueA a ppl L (.sal h o1 o2 q)=(qck ppl (L.map (·.1.nm)) (hasL L) (.sal h o1 o2 q)).map (clsOf a):=rfl
  rw [ee,qet]
  by_cases h0:hasP (L.map (·.1.nm)) h=false
  ·rw [if_pos h0]
   exact ⟨fun z=>(by cases z),fun j e=>⟨_,rfl,by cases e;exact R.q4⟩⟩
  rw [if_neg h0]
  by_cases h1:(hasP ppl o1 || hasP (L.map (·.1.nm)) o1)=false
  ·rw [if_pos h1]
   exact ⟨fun z=>(by cases z),fun j e=>⟨_,rfl,by cases e;exact R.q3⟩⟩
  rw [if_neg h1]
  by_cases h2:(hasP ppl o2 || hasP (L.map (·.1.nm)) o2)=false
  ·rw [if_pos h2]
   exact ⟨fun z=>(by cases z),fun j e=>⟨_,rfl,by cases e;exact R.q3⟩⟩
  rw [if_neg h2]
  by_cases h3:more (hasL L h o1) q
  ·rw [if_pos h3]
   exact ⟨fun z=>(by cases z),fun j e=>⟨_,rfl,by cases e;exact R.q6⟩⟩
  rw [if_neg h3]
  exact ⟨fun _=>rfl,fun j e=>(by cases e)⟩
 | num k h n =>
  have ee:dueA a ppl L (.num k h n)=(qck ppl (L.map (·.1.nm)) (hasL L) (.num k h n)).map (clsOf a):=rfl
  rw [ee,qfv]
  by_cases h0:hasP (L.map (·.1.nm)) h=false
  ·rw [if_pos h0]
   exact ⟨fun z=>(by cases z),fun j e=>⟨_,rfl,by cases e;exact R.q4⟩⟩
  rw [if_neg h0]
  by_cases h3:k=.ls∧n < 0
  ·rw [if_pos h3]
   exact ⟨fun z=>(by cases z),fun j e=>⟨_,rfl,by cases e;exact R.q5⟩⟩
  rw [if_neg h3]
  exact ⟨fun _=>rfl,fun j e=>(by cases e)⟩
theorem qmf (L:List (Ent×Addr)) (x:Str):hasH L x=hasP (L.map (·.1.nm)) x:=by rw [qe6];rfl
def Deed.fits (L:List (Ent×Addr)):Deed→Prop
 | .sal h o1 _ q=>∀ e,qbf L h=some e→SaleOk e.1.held o1 q
 | _=>True
section
variable {P:Program}{w:World}{K:PySem.W.Frag}{mg:Str→Option Value}{base:Heap}{a:Adr}{f:Addr}{fd:FuncData}
abbrev qdb:Stmt:=top 37
theorem qj5:FnScope ["_law_book","_law_deed_here"] ["_law_book","_law_deed_here"] (qaj qdb):=⟨rfl,rfl,rfl,by decide +kernel,rfl,by decide +kernel,by decide +kernel⟩
def qk2 (K:PySem.W.Frag) (a:Adr):Sp:=fun vs H Q E=>∃ b z ppl L d D,vs=[.ref b,.ref d]∧BookAt K a.Book H b z ppl L∧DeedAt K H d D∧D.ok∧(L.map (·.1.nm)).Nodup∧D.fits L ∧
 (dueA a ppl L D=none→∀ ppl' L' H',AftB H ppl L ppl' L' D→BookAt K a.Book H' b z ppl' L'→(∀ c u,H c=some u→c∉BFp b z L→H' c=some u)→Q .non H')∧(∀ c,dueA a ppl L D=some c→∀ H',Same H H'→E (.ref c) none H')
theorem ok_deed (F:Fun K "_law_deed" "_law_deed" qdb f fd) (T:Txt K mg a) (M_person:Mt P w K mg base a.Book "person" 4 ["self","name"] (qhd K a)) (M_house:Mt P w K mg base a.Book "house" 4 ["self","name","owner","things","mark","loss"] (qi8 K a))
  (M_sale:Mt P w K mg base a.Book "sale" 4 ["self","house","one","other","share"] (qi2 K a)) (M_things:Mt P w K mg base a.Book "things" 3 ["self","house","number"] (qfz K a (·.dt) (fun n x=>{ x with th:=n }) false))
  (M_mark:Mt P w K mg base a.Book "mark" 3 ["self","house","number"] (qfz K a (·.dm) (fun n x=>{ x with mr:=n }) false)) (M_loss:Mt P w K mg base a.Book "loss" 3 ["self","house","number"] (qfz K a (·.dl) (fun n x=>{ x with ls:=n }) true)) :
  FnOk P w K mg base (CXo P w) 5 f fd ["_law_book","_law_deed_here"] (qk2 K a):=by
 refine F.okX qj5 (fun vs H Q E h=>?_) (fun cdv A outer s H vs Q E hr h=>?_)
 ·obtain ⟨b,z,ppl,L,d,D,rfl,_⟩:=h
  rfl
 ·obtain ⟨b,z,ppl,L,d,D,rfl,B,hd,dk,nd,ft,k1,k2⟩:=h
  have hu:=qbk hr
  refine ⟨_,(qaf (qbi (qau qea (qam qal (pv 1) qac (fun _ _=>rfl)) qa5 (qay _)) (qak (qav (qdh (pv 0) M_person (hr.mono (by first | decide | omega)) qdl (qaa (qam qal (pv 1) qac (fun _ _=>rfl)) qah)))) qax) (qaf (qbi (qau qea (qam qal (pv 1) qac (fun _ _=>rfl)) qa5 (qay _)) (qak (qav (qdh (pv 0) M_house (hr.mono (by first | decide | omega)) qdl (qaa (qam qal (pv 1) qac (fun _ _=>rfl)) (qaa (qam qal (pv 1) qac (fun _ _=>rfl)) (qaa (qam qal (pv 1) qac (fun _ _=>rfl)) (qaa (qam qal (pv 1) qac (fun _ _=>rfl)) (qaa (qam qal (pv 1) qac (fun _ _=>rfl)) qah)))))))) qax) (qaf (qbi (qau qea (qam qal (pv 1) qac (fun _ _=>rfl)) qa5 (qay _)) (qak (qav (qdh (pv 0) M_sale (hr.mono (by first | decide | omega)) qdl (qaa (qam qal (pv 1) qac (fun _ _=>rfl)) (qaa (qam qal (pv 1) qac (fun _ _=>rfl)) (qaa (qam qal (pv 1) qac (fun _ _=>rfl)) (qaa (qam qal (pv 1) qac (fun _ _=>rfl)) qah))))))) qax) (qaf (qbi (qau qea (qam qal (pv 1) qac (fun _ _=>rfl)) qa5 (qay _)) (qak (qav (qdh (pv 0) M_things (hr.mono (by first | decide | omega)) qdl (qaa (qam qal (pv 1) qac (fun _ _=>rfl)) (qaa (qam qal (pv 1) qac (fun _ _=>rfl)) qah))))) qax) (qaf (qbi (qau qea (qam qal (pv 1) qac (fun _ _=>rfl)) qa5 (qay _)) (qak (qav (qdh (pv 0) M_mark (hr.mono (by first | decide | omega)) qdl (qaa (qam qal (pv 1) qac (fun _ _=>rfl)) (qaa (qam qal (pv 1) qac (fun _ _=>rfl)) qah))))) qax) (qak (qav (qdh (pv 0) M_loss (hr.mono (by first | decide | omega)) qdl (qaa (qam qal (pv 1) qac (fun _ _=>rfl)) (qaa (qam qal (pv 1) qac (fun _ _=>rfl)) qah)))))))))),?_⟩
  have noM:∀ {x:Str},¬ x="people"→¬ x="things_of"→¬ x="mark_of"→¬ x="loss_of"→¬ x="held_of"→(bf z).lookup x=none:=fun h1 h2 h3 h4 h5=>qec z h1 h2 h3 h4 h5
  cases D with
  | per n =>
   refine ⟨_,rfl,d,_,0,_,rfl,rfl,hd,qai (j:=0) rfl,rfl,?_⟩
   rw [qcl]
   refine ⟨_,rfl,iteT ⟨_,rfl,b,_,_,rfl,B.ob,noM (by decide +kernel) (by decide +kernel) (by decide +kernel) (by decide +kernel) (by decide +kernel),_,rfl,d,_,1,_,rfl,rfl,hd,qai (j:=1) rfl,b,z,ppl,L,n,rfl,B,Sm.nm dk,fun hd' H' B' fr=>?_,fun c hc H' s'=>k2 c hc H' s'⟩⟩
   exact k1 hd' _ _ H' ⟨rfl,rfl⟩ B' fun c u e hc=>fr c u e fun q=>hc (by rw [q];simp [BFp])
  | hou n o t m l =>
   refine ⟨_,rfl,d,_,0,_,rfl,rfl,hd,qai (j:=0) rfl,rfl,?_⟩
   rw [qf6]
   refine ⟨_,rfl,iteF ⟨_,rfl,d,_,0,_,rfl,rfl,hd,qai (j:=0) rfl,rfl,?_⟩⟩
   rw [qcl]
   refine ⟨_,rfl,iteT ⟨_,rfl,b,_,_,rfl,B.ob,noM (by decide +kernel) (by decide +kernel) (by decide +kernel) (by decide +kernel) (by decide +kernel),_,rfl,d,_,1,_,rfl,rfl,hd,qai (j:=1) rfl,_,rfl,d,_,2,_,rfl,rfl,hd,qai (j:=2) rfl,_,rfl,d,_,3,_,rfl,rfl,hd,qai (j:=3) rfl,_,rfl,d,_,4,_,rfl,rfl,hd,qai (j:=4) rfl,_,rfl,d,_,5,_,rfl,rfl,hd,qai (j:=5) rfl,b,z,ppl,L,n,o,t,m,l,rfl,B,Sm.nm dk.1,Sm.nm dk.2,fun hd' p H' hp B' fr=>?_,fun c hc H' s'=>k2 c hc H' s'⟩⟩
   exact k1 hd' _ _ H' ⟨rfl,p,hp,rfl⟩ B' fun c u e hc=>fr c u e fun q=>hc (by simp only [List.mem_cons,List.not_mem_nil,or_false] at q;unfold BFp;rcases q with q | q | q | q <;> simp [q])
  | sal h o1 o2 q =>
   obtain ⟨sp,hd,hq⟩:=hd
   obtain ⟨nh,n1,n2,sq⟩:=dk
   refine ⟨_,rfl,d,_,0,_,rfl,rfl,hd,qai (j:=0) rfl,rfl,?_⟩
   rw [ne_str (by decide +kernel)]
   refine ⟨_,rfl,iteF ⟨_,rfl,d,_,0,_,rfl,rfl,hd,qai (j:=0) rfl,rfl,?_⟩⟩
   rw [ne_str (by decide +kernel)]
   refine ⟨_,rfl,iteF ⟨_,rfl,d,_,0,_,rfl,rfl,hd,qai (j:=0) rfl,rfl,?_⟩⟩
   rw [qcl]
   have ref:∀ c,dueA a ppl L (.sal h o1 o2 q)=some c→E (.ref c) none H:=fun c hc=>k2 c hc H fun _ _ z=>z
   have eA:dueA a ppl L (.sal h o1 o2 q)=(qck ppl (L.map (·.1.nm)) (hasL L) (.sal h o1 o2 q)).map (clsOf a):=rfl
   rw [qet,← qmf,← qmf,← qmf] at eA
   refine ⟨_,rfl,iteT ⟨_,rfl,b,_,_,rfl,B.ob,noM (by decide +kernel) (by decide +kernel) (by decide +kernel) (by decide +kernel) (by decide +kernel),_,rfl,d,_,1,_,rfl,rfl,hd,qai (j:=1) rfl,_,rfl,d,_,2,_,rfl,rfl,hd,qai (j:=2) rfl,_,rfl,d,_,3,_,rfl,rfl,hd,qai (j:=3) rfl,_,rfl,d,_,4,_,rfl,rfl,hd,qai (j:=4) rfl,
    b,z,ppl,L,h,o1,o2,sp,q,rfl,B,nd,Sm.nm nh,Sm.nm n1,Sm.nm n2,hq,sq.sz,ft,fun h0=>?_,fun h0 h1=>?_,fun h0 h1 h2=>?_,fun e he h1 h2 h3=>?_,fun e he h1 h2 h3 H' B' fr=>?_⟩⟩
   ·exact ref _ (by rw [eA,if_pos h0];rfl)
   ·exact ref _ (by rw [eA,if_neg (by rw [h0];decide),if_pos h1];rfl)
   ·exact ref _ (by rw [eA,if_neg (by rw [h0];decide),if_neg (by rw [h1];decide),if_pos h2];rfl)
   ·have eh:hasL L h o1=getQ e.1.held o1:=by unfold hasL;rw [he]
    exact ref _ (by rw [eA,if_neg (by rw [qkq he];decide),if_neg (by rw [h1];decide),if_neg (by rw [h2];decide),eh,if_pos (show more (getQ e.1.held o1) q from h3)];rfl)
   ·have eh:hasL L h o1=getQ e.1.held o1:=by unfold hasL;rw [he]
    exact k1 (by rw [eA,if_neg (by rw [qkq he];decide),if_neg (by rw [h1];decide),if_neg (by rw [h2];decide),eh,if_neg (show ¬ more (getQ e.1.held o1) q from h3)];rfl) _ _ H' ⟨rfl,rfl⟩ B' fun c u e' hc=>fr c u e' fun w=>hc (by rw [w];unfold BFp;simp only [List.mem_cons];right;right;right;right;right;right;exact List.mem_map.mpr ⟨e,qa7 he,rfl⟩)
  | num kd h n =>
   have w1:¬ kd.word=Str.ofString "person":=by cases kd <;> decide +kernel
   have w2:¬ kd.word=Str.ofString "house":=by cases kd <;> decide +kernel
   have w3:¬ kd.word=Str.ofString "sale":=by cases kd <;> decide +kernel
   have eA:dueA a ppl L (.num kd h n)=(qck ppl (L.map (·.1.nm)) (hasL L) (.num kd h n)).map (clsOf a):=rfl
   rw [qfv,← qmf] at eA
   have ref:∀ c,dueA a ppl L (.num kd h n)=some c→E (.ref c) none H:=fun c hc=>k2 c hc H fun _ _ z=>z
   have r4:hasH L h=false→E (.ref a.NoHouse) none H:=fun h0=>ref _ (by rw [eA,if_pos h0];rfl)
   have fin:hasH L h=true→¬ (kd=.ls∧n < 0)→∀ H',BookAt K a.Book H' b z ppl (setE L h (kd.put n))→∀ w,(w=z.dt∨w=z.dm∨w=z.dl)→(∀ c o,H c=some o→c≠w→H' c=some o)→Q .non H':=fun h0 h1 H' B' w hw fr =>
    k1 (by rw [eA,if_neg (by rw [h0];decide),if_neg h1];rfl) _ _ H' ⟨rfl,rfl⟩ B' fun c u e' hc=>fr c u e' fun x=>hc (by rw [x];unfold BFp;rcases hw with e | e | e <;> rw [e] <;> simp)
   refine ⟨_,rfl,d,_,0,_,rfl,rfl,hd,qai (j:=0) rfl,rfl,?_⟩
   rw [ne_str w1]
   refine ⟨_,rfl,iteF ⟨_,rfl,d,_,0,_,rfl,rfl,hd,qai (j:=0) rfl,rfl,?_⟩⟩
   rw [ne_str w2]
   refine ⟨_,rfl,iteF ⟨_,rfl,d,_,0,_,rfl,rfl,hd,qai (j:=0) rfl,rfl,?_⟩⟩
   rw [ne_str w3]
   refine ⟨_,rfl,iteF ⟨_,rfl,d,_,0,_,rfl,rfl,hd,qai (j:=0) rfl,rfl,?_⟩⟩
   cases kd with
   | th =>
    rw [show decide (V.str NK.th.word=V.str (Str.ofString "things"))=true from qcl _]
    exact ⟨_,rfl,iteT ⟨_,rfl,b,_,_,rfl,B.ob,noM (by decide +kernel) (by decide +kernel) (by decide +kernel) (by decide +kernel) (by decide +kernel),_,rfl,d,_,1,_,rfl,rfl,hd,qai (j:=1) rfl,_,rfl,d,_,2,_,rfl,rfl,hd,qai (j:=2) rfl,b,z,ppl,L,h,n,rfl,B,Sm.nm dk,r4,fun _ z=>(by cases z),fun h0 _ H' B' fr=>fin h0 (fun z=>absurd z.1 (by decide)) H' B' _ (.inl rfl) fr⟩⟩
   | mr =>
    rw [ne_str (by decide +kernel)]
    refine ⟨_,rfl,iteF ⟨_,rfl,d,_,0,_,rfl,rfl,hd,qai (j:=0) rfl,rfl,?_⟩⟩
    rw [show decide (V.str NK.mr.word=V.str (Str.ofString "mark"))=true from qcl _]
    exact ⟨_,rfl,iteT ⟨_,rfl,b,_,_,rfl,B.ob,noM (by decide +kernel) (by decide +kernel) (by decide +kernel) (by decide +kernel) (by decide +kernel),_,rfl,d,_,1,_,rfl,rfl,hd,qai (j:=1) rfl,_,rfl,d,_,2,_,rfl,rfl,hd,qai (j:=2) rfl,b,z,ppl,L,h,n,rfl,B,Sm.nm dk,r4,fun _ z=>(by cases z),fun h0 _ H' B' fr=>fin h0 (fun z=>absurd z.1 (by decide)) H' B' _ (.inr (.inl rfl)) fr⟩⟩
   | ls =>
    rw [ne_str (by decide +kernel)]
    refine ⟨_,rfl,iteF ⟨_,rfl,d,_,0,_,rfl,rfl,hd,qai (j:=0) rfl,rfl,?_⟩⟩
    rw [ne_str (by decide +kernel)]
    exact ⟨_,rfl,iteF ⟨_,rfl,b,_,_,rfl,B.ob,noM (by decide +kernel) (by decide +kernel) (by decide +kernel) (by decide +kernel) (by decide +kernel),_,rfl,d,_,1,_,rfl,rfl,hd,qai (j:=1) rfl,_,rfl,d,_,2,_,rfl,rfl,hd,qai (j:=2) rfl,b,z,ppl,L,h,n,rfl,B,Sm.nm dk,r4,fun h0 _ hn=>ref _ (by rw [eA,if_neg (by rw [h0];decide),if_pos ⟨rfl,hn⟩];rfl),fun h0 hn H' B' fr=>fin h0 (fun z=>absurd z.2 (by have:=hn rfl;omega)) H' B' _ (.inr (.inr rfl)) fr⟩⟩
abbrev qdv:Stmt:=top 38
theorem sc__law_did:FnScope ["_law_book","_law_deed_here","_law_told_here","_law_kept","_law_e"] ["_law_book","_law_deed_here"] (qaj qdv):=⟨rfl,rfl,rfl,by decide +kernel,rfl,by decide +kernel,by decide +kernel⟩
def sp_did (K:PySem.W.Frag) (a:Adr):Sp:=fun vs H Q _=>∃ b z ppl L d D,vs=[.ref b,.ref d]∧BookAt K a.Book H b z ppl L∧DeedAt K H d D∧D.ok∧(L.map (·.1.nm)).Nodup∧D.fits L ∧
 (dueA a ppl L D=none→∀ ppl' L' H' r,AftB H ppl L ppl' L' D→BookAt K a.Book H' b z ppl' L'→(∀ c u,H c=some u→c∉BFp b z L→H' c=some u)→H' r=some (.lst [.non,.non])→Q (.ref r) H') ∧
 (∀ c,dueA a ppl L D=some c→Exc K c∧PySem.W.mroIn K c (.ref a.OwnError)=some true∧∀ H' r p,Same H H'→H' r=some (.lst [.int 0,.ref p])→H' p=some (excO c p)→Q (.ref r) H')
theorem ok_did (F:Fun K "_law_did" "_law_did" qdv f fd) (T:Txt K mg a) (F__law_deed:Fn P w K mg base "_law_deed" 5 ["_law_book","_law_deed_here"] (qk2 K a)):FnOk P w K mg base (CXo P w) 6 f fd ["_law_book","_law_deed_here"] (sp_did K a):=by
 refine F.okN sc__law_did (fun vs H Q E h=>?_) (fun cdv A outer s H vs Q E hr h=>?_)
 ·obtain ⟨b,z,ppl,L,d,D,rfl,_⟩:=h
  rfl
 ·obtain ⟨b,z,ppl,L,d,D,rfl,B,hd,dk,nd,ft,k1,k2⟩:=h
  have hu:=qbk hr
  refine ⟨_,(qaf (qaq (i:=2) sc__law_did.nd rfl (Or.inl rfl) qac) (qaf (qaq (i:=3) sc__law_did.nd rfl (Or.inl rfl) pe_non) (qaf (ps_try (i:=4) rfl rfl rfl rfl (psxs_one (psx_set (i:=2) sc__law_did.nd rfl (Or.inl rfl) (pex_fn F__law_deed (hr.mono (by first | decide | omega)) rfl (qaa (pv 0) (qaa (pv 1) qah))))) rfl T.c_OwnError T.x_OwnError sc__law_did.nd rfl rfl (fun _=>(qak (qaq (i:=3) sc__law_did.nd rfl (Or.inl rfl) (pv 4))))) (qak (qav (qbj (qaa (pv 2) (qaa (pv 3) qah)))))))),?_⟩
  refine ⟨_,rfl,_,rfl,b,z,ppl,L,d,D,rfl,B,hd,dk,nd,ft,fun hd' ppl' L' H' af B' fr=>?_,fun c hc H' s'=>?_⟩
  ·refine ⟨_,rfl,_,rfl,(show 2≤sizeLine by decide),fun r hr'=>?_⟩
   refine k1 hd' ppl' L' _ r af (B'.same (qad hr')) (fun c u e hc=>?_) qab
   exact qad hr' _ _ (fr c u e hc)
  ·obtain ⟨x1,x2,k2⟩:=k2 c hc
   refine ⟨c,rfl,x1,x2,fun p hp=>⟨_,rfl,?_⟩⟩
   refine ⟨_,rfl,_,rfl,(show 2≤sizeLine by decide),fun r hr'=>?_⟩
   refine k2 _ r p ((s'.trans (qad hp)).trans (qad hr')) qab ?_
   exact qad hr' _ _ qab
end
end My
namespace My
open PySem L2 Fra
structure Good (K:PySem.W.Frag) (C:Addr) (c:Nat) (H:Hp) (b:Addr) (z:BA) (m pl ed:Addr) (ppl:List Str) (L:List (Ent×Addr)) (M:List (Ent×Addr×Addr)):Prop where
 bo:Both K C c H b z m pl ed ppl L M
 ed:∃ kvs,H ed=some (.dK kvs)
 sp:∀ n∈ppl,Sm n
 sm:∀ e∈M,Sm e.1.nm
theorem BookAt.all {K:PySem.W.Frag}{C:Addr}{H:Hp}{b:Addr}{z:BA}{ppl:List Str}{L:List (Ent×Addr)} (B:BookAt K C H b z ppl L):∀ c∈BFp b z L,∃ o,H c=some o∧(∀ xs,o≠.lst xs)∧¬ ∃ xs,o=.tup xs∨∃ ob,o=.frz ob (.tup xs):=by
 intro c hc
 unfold BFp at hc
 simp only [List.mem_cons] at hc
 have dk:∀ kvs,(∀ xs,HO.dK kvs≠.lst xs)∧¬ ∃ xs,HO.dK kvs=.tup xs∨∃ ob,HO.dK kvs=.frz ob (.tup xs):=fun kvs=>⟨fun _ z=>(by cases z),fun z=>(by rcases z with ⟨xs,z | ⟨ob,z⟩⟩ <;> cases z)⟩
 rcases hc with rfl | rfl | rfl | rfl | rfl | rfl | hc
 ·exact ⟨_,B.ob,fun _ z=>(by cases z),fun z=>(by rcases z with ⟨xs,z | ⟨ob,z⟩⟩ <;> cases z)⟩
 ·exact ⟨_,B.pp,dk _⟩
 ·exact ⟨_,B.tt,dk _⟩
 ·exact ⟨_,B.mm,dk _⟩
 ·exact ⟨_,B.ll,dk _⟩
 ·obtain ⟨Th,eh,_⟩:=B.hh
  exact ⟨_,eh,dk _⟩
 ·obtain ⟨e,he,rfl⟩:=List.mem_map.mp hc
  obtain ⟨ts,_,q,_⟩:=B.he e he
  exact ⟨_,q,dk _⟩
theorem qln {K:PySem.W.Frag}{C:Addr}{H:Hp}{b:Addr}{z:BA}{ppl:List Str}{L:List (Ent×Addr)} (B:BookAt K C H b z ppl L) {c:Addr}{o:HO} (h:H c=some o) (x:∃ xs,o=.tup xs∨∃ ob,o=.frz ob (.tup xs)):c∉BFp b z L:=fun hc=>by
 obtain ⟨o',e,_,n⟩:=B.all c hc
 rw [h] at e
 cases e
 exact n x
theorem DeedAt.keep {K:PySem.W.Frag}{H H':Hp}{d:Addr}{D:Deed} (h:DeedAt K H d D) (k:∀ c o,H c=some o→(∃ xs,o=.tup xs∨∃ ob,o=.frz ob (.tup xs))→H' c=some o):DeedAt K H' d D:=by
 cases D with
 | per n=>exact qbd h k
 | hou n o t m l=>exact qbd h k
 | sal h' o1 o2 q =>
  obtain ⟨sp,h1,h2⟩:=h
  exact ⟨sp,qbd h1 k,qbd h2 k⟩
 | num kd h' n=>exact qbd h k
theorem qme {l:List Str}{x:Str} (h:hasP l x=false):x∉l:=by
 intro hx
 unfold hasP at h
 have:=Option.isNone_iff_eq_none.mp (Option.isSome_eq_false_iff.mp h)
 rw [List.find?_eq_none] at this
 exact this x hx (decide_eq_true rfl)
theorem qju {b:Addr}{z:BA}{L:List (Ent×Addr)}{x:Ent×Addr}{c:Addr} (h:c∈BFp b z (L++[x])):c∈BFp b z L∨c=x.2:=by
 have e:BFp b z (L++[x])=BFp b z L++[x.2]:=by
  unfold BFp
  rw [List.map_append]
  rfl
 rw [e] at h
 rcases List.mem_append.mp h with h | h
 ·exact .inl h
 ·exact .inr (List.mem_singleton.mp h)
theorem ql8 {m pl ed:Addr}{M:List (Ent×Addr×Addr)}{x:Ent×Addr×Addr}{c:Addr} (h:c∈MFp m pl ed (M++[x])):c∈MFp m pl ed M∨c=x.2.1∨c=x.2.2:=by
 have h:c∈[m,pl,ed]++((M++[x]).map (·.2.1)++(M++[x]).map (·.2.2)):=h
 show c∈[m,pl,ed]++(M.map (·.2.1)++M.map (·.2.2))∨_
 rw [List.map_append,List.map_append] at h
 rcases List.mem_append.mp h with h | h
 ·exact .inl (List.mem_append_left _ h)
 ·rcases List.mem_append.mp h with h | h
  ·rcases List.mem_append.mp h with h | h
   ·exact .inl (List.mem_append_right _ (List.mem_append_left _ h))
   ·exact .inr (.inl (List.mem_singleton.mp h))
  ·rcases List.mem_append.mp h with h | h
   ·exact .inl (List.mem_append_right _ (List.mem_append_right _ h))
   ·exact .inr (.inr (List.mem_singleton.mp h))
theorem dueNone {ppl hs:List Str}{has:Str→Str→Int×Int}{D:Deed} (h:qck ppl hs has D=none):match D with
  | .per n=>isNm n=true∧hasP hs n=false∧ppl.length < 6
  | .hou n o t m l=>isNm n=true∧hasP hs n=false∧hs.length < 8
  | .sal h o1 o2 q=>hasP hs h=true∧¬ more (has h o1) q
  | .num kd h n=>hasP hs h=true:=by
 cases D with
 | per n =>
  rw [qfu] at h
  by_cases h0:isNm n=false
  ·rw [if_pos h0] at h;cases h
  ·rw [if_neg h0] at h
   by_cases h1:(hasP ppl n || hasP hs n)=true
   ·rw [if_pos h1] at h;cases h
   ·rw [if_neg h1] at h
    by_cases h2:6≤ppl.length
    ·rw [if_pos h2] at h;cases h
    ·refine ⟨by simpa using h0,?_,by omega⟩
     cases q:hasP hs n with
     | false=>rfl
     | true=>rw [q,Bool.or_true] at h1;exact absurd rfl h1
 | hou n o t m l =>
  rw [qfw] at h
  by_cases h0:isNm n=false
  ·rw [if_pos h0] at h;cases h
  ·rw [if_neg h0] at h
   by_cases h1:(hasP ppl n || hasP hs n)=true
   ·rw [if_pos h1] at h;cases h
   ·rw [if_neg h1] at h
    by_cases h2:(hasP ppl o || hasP hs o)=false
    ·rw [if_pos h2] at h;cases h
    ·rw [if_neg h2] at h
     by_cases h3:l < 0
     ·rw [if_pos h3] at h;cases h
     ·rw [if_neg h3] at h
      by_cases h4:8≤hs.length
      ·rw [if_pos h4] at h;cases h
      ·refine ⟨by simpa using h0,?_,by omega⟩
       cases q:hasP hs n with
       | false=>rfl
       | true=>rw [q,Bool.or_true] at h1;exact absurd rfl h1
 | sal h' o1 o2 q =>
  rw [qet] at h
  by_cases h0:hasP hs h'=false
  ·rw [if_pos h0] at h;cases h
  rw [if_neg h0] at h
  by_cases h1:(hasP ppl o1 || hasP hs o1)=false
  ·rw [if_pos h1] at h;cases h
  rw [if_neg h1] at h
  by_cases h2:(hasP ppl o2 || hasP hs o2)=false
  ·rw [if_pos h2] at h;cases h
  rw [if_neg h2] at h
  by_cases h3:more (has h' o1) q
  ·rw [if_pos h3] at h;cases h
  exact ⟨btrue h0,h3⟩
 | num kd h' n =>
  rw [qfv] at h
  by_cases h0:hasP hs h'=false
  ·rw [if_pos h0] at h;cases h
  exact btrue h0
theorem qg2 {β:Type}{L:List (Ent×β)}{h:Str}{g:Ent→Ent}{i:Nat}{y:Ent×β} (hy:(setE L h g)[i]?=some y):∃ x,L[i]?=some x∧((x.1.nm=h∧y=(g x.1,x.2))∨(¬ x.1.nm=h∧y=x)):=by
 unfold setE at hy
 rw [List.getElem?_map] at hy
 cases q:L[i]? with
 | none=>rw [q] at hy;cases hy
 | some x =>
  rw [q] at hy
  have hy:(if x.1.nm=h then (g x.1,x.2) else x)=y:=Option.some.inj hy
  refine ⟨x,rfl,?_⟩
  by_cases e:x.1.nm=h
  ·rw [if_pos e] at hy;exact .inl ⟨e,hy.symm⟩
  ·rw [if_neg e] at hy;exact .inr ⟨e,hy.symm⟩
theorem qd4 {b:Addr}{z:BA}{L:List (Ent×Addr)}{h:Str}{g:Ent→Ent}:BFp b z (setE L h g)=BFp b z L:=by
 unfold BFp
 rw [qa3 (v:=fun e:Ent×Addr=>e.2) fun x=>rfl]
theorem qg0 {m pl ed:Addr}{M:List (Ent×Addr×Addr)}{h:Str}{g:Ent→Ent}:MFp m pl ed (setE M h g)=MFp m pl ed M:=by
 unfold MFp
 rw [qa3 (v:=fun e:Ent×Addr×Addr=>e.2.1) fun x=>rfl,qa3 (v:=fun e:Ent×Addr×Addr=>e.2.2) fun x=>rfl]
theorem qg1 {β γ:Type}{L:List (Ent×β)}{M:List (Ent×γ)}{h:Str}{f g:Ent→Ent}{K:Str×Int×Int×Int→Str×Int×Int×Int} (eq:L.map (fun e=>key4 e.1)=M.map (fun e=>key4 e.1)) (hf:∀ x,key4 (f x)=K (key4 x)) (hg:∀ x,key4 (g x)=K (key4 x)) :
  (setE L h f).map (fun e=>key4 e.1)=(setE M h g).map (fun e=>key4 e.1):=by
 have e1:∀ {δ:Type} (L:List (Ent×δ)) (f:Ent→Ent),(∀ x,key4 (f x)=K (key4 x))→(setE L h f).map (fun e=>key4 e.1)=(L.map fun e=>key4 e.1).map fun k=>if k.1=h then K k else k:=fun L f hf=>by
  unfold setE
  rw [List.map_map,List.map_map]
  refine List.map_congr_left fun x _=>?_
  show key4 (if x.1.nm=h then (f x.1,x.2) else x).1=if (key4 x.1).1=h then K (key4 x.1) else key4 x.1
  by_cases e:x.1.nm=h
  ·rw [if_pos e,if_pos (show (key4 x.1).1=h from e),hf]
  ·rw [if_neg e,if_neg (show ¬ (key4 x.1).1=h from e)]
 rw [e1 L f hf,e1 M g hg,eq]
theorem qmj {α β:Type}{L:List α}{M:List β}{f:α→Str}{g:β→Str}{h:Str}:∀ (_:L.map f=M.map g),∀ {y:β},M.find? (fun e=>decide (g e=h))=some y→∃ (i:Nat) (e:α),L[i]?=some e∧M[i]?=some y∧L.find? (fun e=>decide (f e=h))=some e:=by
 induction L generalizing M with
 | nil =>
  intro eq y hy
  cases M with
  | nil=>cases hy
  | cons=>cases eq
 | cons x r ih =>
  intro eq y hy
  cases M with
  | nil=>cases eq
  | cons m s =>
   rw [List.map_cons,List.map_cons] at eq
   obtain ⟨e1,e2⟩:=List.cons.inj eq
   rw [List.find?_cons] at hy
   by_cases q:g m=h
   ·rw [decide_eq_true q] at hy
    refine ⟨0,x,rfl,hy,?_⟩
    rw [List.find?_cons,decide_eq_true (e1.trans q)]
   ·rw [decide_eq_false q] at hy
    obtain ⟨i,e,a1,a2,a3⟩:=ih e2 hy
    refine ⟨i+1,e,by simpa using a1,by simpa using a2,?_⟩
    rw [List.find?_cons,decide_eq_false fun z=>q (e1.symm.trans z)]
    exact a3
theorem Both.of_m {K:PySem.W.Frag}{C:Addr}{c:Nat}{H:Hp}{b:Addr}{z:BA}{m pl ed:Addr}{ppl:List Str}{L:List (Ent×Addr)}{M:List (Ent×Addr×Addr)} (B:Both K C c H b z m pl ed ppl L M) {h:Str}{y:Ent×Addr×Addr} (hy:qef M h=some y) :
  ∃ e,qbf L h=some e∧HR c e.1.held y.1.held:=by
 obtain ⟨i,e,a1,a2,a3⟩:=qmj (f:=fun e:Ent×Addr=>e.1.nm) (g:=fun e:Ent×Addr×Addr=>e.1.nm) B.nms hy
 exact ⟨e,a3,B.hr i e y a1 a2⟩
theorem Both.of_l {K:PySem.W.Frag}{C:Addr}{c:Nat}{H:Hp}{b:Addr}{z:BA}{m pl ed:Addr}{ppl:List Str}{L:List (Ent×Addr)}{M:List (Ent×Addr×Addr)} (B:Both K C c H b z m pl ed ppl L M) {h:Str}{e:Ent×Addr} (he:qbf L h=some e) :
  ∃ y,qef M h=some y∧HR c e.1.held y.1.held:=by
 obtain ⟨i,y,a1,a2,a3⟩:=qmj (f:=fun e:Ent×Addr×Addr=>e.1.nm) (g:=fun e:Ent×Addr=>e.1.nm) B.nms.symm he
 exact ⟨y,a3,B.hr i e y a2 a1⟩
theorem FrC.two {c:Nat}{g q:Int×Int} (h:FrC c g) (hc:c≤44) (hq:ShOk q):Two g q :=
 ⟨h.low.1,hq.low.1,h.top.mono (by omega),hq.bt.mono (by decide),h.bb.mono (by omega),hq.bb.mono (by decide),(h.bb.mul hq.bb).mono (by omega)⟩
theorem ShOk.neg {q:Int×Int} (h:ShOk q):ShOk (-q.1,q.2):=⟨⟨h.low.1,by have:=h.low.2;unfold Cop Int.gcd at *;simp only [Int.natAbs_neg];exact this⟩,h.bt.neg,h.bb⟩
theorem Both.has_eq {K:PySem.W.Frag}{C:Addr}{c:Nat}{H:Hp}{b:Addr}{z:BA}{m pl ed:Addr}{ppl:List Str}{L:List (Ent×Addr)}{M:List (Ent×Addr×Addr)} (B:Both K C c H b z m pl ed ppl L M):hasL L=hasM M:=by
 funext h o
 unfold hasL hasM
 cases q:qbf L h with
 | some e =>
  obtain ⟨y,hy,hr⟩:=B.of_l q
  rw [hy]
  exact hr.q o
 | none =>
  cases r:qef M h with
  | none=>rfl
  | some y =>
   obtain ⟨e,he,_⟩:=B.of_m r
   rw [q] at he
   cases he
section
variable {P:Program}{w:World}{K:PySem.W.Frag}{mg:Str→Option Value}{base:Heap}{a:Adr}{f:Addr}{fd:FuncData}
abbrev qda:Stmt:=top 40
theorem sc__law_done:FnScope ["_law_book","_law_model","_law_deed_here","_law_due","_law_told_here","_law_kept"] ["_law_book","_law_model","_law_deed_here"] (qaj qda):=⟨rfl,rfl,rfl,by decide +kernel,rfl,by decide +kernel,by decide +kernel⟩
def AftM (ppl:List Str) (M:List (Ent×Addr×Addr)) (ppl':List Str) (M':List (Ent×Addr×Addr)):Deed→Prop
 | .per n=>ppl'=ppl++[n]∧M'.map (·.1.nm)=M.map (·.1.nm)
 | .hou n _ _ _ _=>ppl'=ppl∧M'.map (·.1.nm)=M.map (·.1.nm)++[n]
 | _=>ppl'=ppl∧M'.map (·.1.nm)=M.map (·.1.nm)
def EffB (ppl:List Str) (L:List (Ent×Addr)) (ppl':List Str) (L':List (Ent×Addr)):Deed→Prop
 | .per n=>ppl'=ppl++[n]∧L'=L
 | .hou n o t m l=>ppl'=ppl∧∃ p,L'=L++[(⟨n,t,m,l,[(o,1,1)]⟩,p)]
 | .sal h o1 o2 q=>ppl'=ppl∧L'=setE L h fun x=>{ x with held:=sold x.held o1 o2 q }
 | .num k h n=>ppl'=ppl∧L'=setE L h (k.put n)
def qk1 (K:PySem.W.Frag) (a:Adr):Sp:=fun vs H Q _=>∃ c b z m pl ed ppl L M d D,vs=[.ref b,.ref m,.ref d]∧Good K a.Book c H b z m pl ed ppl L M∧c≤44∧DeedAt K H d D∧D.ok ∧
 ∀ ppl' L' M' H',Good K a.Book (c+1) H' b z m pl ed ppl' L' M'→(∀ c u,H c=some u→c∉BFp b z L→c∉MFp m pl ed M→H' c=some u)→(qck ppl (M.map (·.1.nm)) (hasM M) D=none→AftM ppl M ppl' M' D)→(M.length≤M'.length∧ppl.length≤ppl'.length∧(∀ c∈BFp b z L',c∈BFp b z L∨H c=none)∧(∀ c∈MFp m pl ed M',c∈MFp m pl ed M∨H c=none)∧((qck ppl (M.map (·.1.nm)) (hasM M) D=none∧EffB ppl L ppl' L' D)∨(ppl'=ppl∧L'=L)))→Q (.bl true) H'
theorem ok_done (F:Fun K "_law_done" "_law_done" qda f fd) (T:Txt K mg a) (R:Five K a) (F__law_refusal:Fn P w K mg base "_law_refusal" 2 ["_law_model","_law_deed_here"] (qgf K)) (F__law_did:Fn P w K mg base "_law_did" 6 ["_law_book","_law_deed_here"] (sp_did K a))
  (F__law_which:Fn P w K mg base "_law_which" 1 ["_law_e"] (qi1 K a)) (F__law_changed:Fn P w K mg base "_law_changed" 4 ["_law_model","_law_deed_here"] (qgj K)):FnOk P w K mg base (CXo P w) 7 f fd ["_law_book","_law_model","_law_deed_here"] (qk1 K a):=by
 refine F.okN sc__law_done (fun vs H Q E h=>?_) (fun cdv A outer s H vs Q E hr h=>?_)
 ·obtain ⟨c,b,z,m,pl,ed,ppl,L,M,d,D,rfl,_⟩:=h
  rfl
 ·obtain ⟨cc,b,z,m,pl,ed,ppl,L,M,d,D,rfl,G,c44,hd,dk,k⟩:=h
  have hu:=qbk hr
  refine ⟨_,(qaf (qaq (i:=3) sc__law_done.nd rfl (Or.inl rfl) (qa1 F__law_refusal (hr.mono (by first | decide | omega)) rfl qan (qaa (pv 1) (qaa (pv 2) qah)))) (qaf (qgr (qa1 F__law_did (hr.mono (by first | decide | omega)) rfl qan (qaa (pv 0) (qaa (pv 2) qah))) (qkc rfl (qbm (qbe (i:=4) sc__law_done.nd rfl (Or.inl rfl)) (qbm (qbe (i:=5) sc__law_done.nd rfl (Or.inl rfl)) qeo)))) (qaf (qbi (qau (op_neL (Nat.lt_of_succ_lt hu)) (pv 3) (qbj qah) (qay _)) (qak (qav (qcn (op_eqL (Nat.lt_of_succ_lt hu)) (qa1 F__law_which (hr.mono (by first | decide | omega)) rfl qan (qaa (pv 5) qah)) (pv 3) (qay _)))) qax) (qaf (qbw (qa1 F__law_changed (hr.mono (by first | decide | omega)) rfl qan (qaa (pv 1) (qaa (pv 2) qah)))) (qak (qav (qkd (qcn op_isN (pv 5) pe_non (qay _)) (qij (qcn op_isN (pv 4) pe_non (qay _)))))))))),?_⟩
  have hnm:L.map (·.1.nm)=M.map (·.1.nm):=G.bo.nms
  have hss:=G.bo.has_eq
  have hw:∀ h o1 o2 q,D=.sal h o1 o2 q→∀ e,qef M h=some e→Two (getQ e.1.held o1) q:=fun h o1 o2 q hD e he=>by
   subst hD
   obtain ⟨e',_,hr⟩:=G.bo.of_m he
   rw [← hr.q]
   exact (hr.fr o1).two c44 dk.2.2.2
  have ft:D.fits L:=by
   cases D with
   | sal h o1 o2 q =>
    intro e he
    obtain ⟨y,_,hr⟩:=G.bo.of_l he
    exact hr.saleOk c44 dk.2.2.2
   | _=>trivial
  have hlen:M.length=L.length:=by
   have:=congrArg List.length hnm
   rw [List.length_map,List.length_map] at this
   exact this.symm
  refine ⟨_,rfl,_,rfl,m,pl,ed,ppl,M,d,D,rfl,G.bo.md,G.ed,hd,dk,G.bo.bk.p6,by rw [hlen];exact G.bo.bk.h8,hw,fun l1 H1 hl1 s1 e1=>?_⟩
  have B1:=G.bo.bk.same s1
  have M1:=G.bo.md.same s1
  have hd1:=hd.same s1
  obtain ⟨k1,k2⟩:=due_link R ppl L D
  rw [hnm,hss] at k1 k2
  refine ⟨_,rfl,_,rfl,b,z,ppl,L,d,D,rfl,B1,hd1,dk,G.bo.nd,ft,fun hA ppl' L' H2 r af B2 fr hr2=>?_,fun c hA=>?_⟩
  ·-- it is done
   have due0:qck ppl (M.map (·.1.nm)) (hasM M) D=none:=by
    cases q:qck ppl (M.map (·.1.nm)) (hasM M) D with
    | none=>rfl
    | some j =>
     obtain ⟨c,h,_⟩:=k2 j q
     rw [hA] at h
     cases h
   rw [due0] at e1
   have fB:∀ c,c∈BFp b z L→c∈BFp b z L:=fun c hc=>hc
   have hl2:H2 l1=some (.lst []):=fr l1 _ e1 fun hc=>by
    obtain ⟨o,q,ne,_⟩:=B1.all _ (fB _ hc)
    rw [e1] at q
    exact ne [] (Option.some.inj q).symm
   refine ⟨r,_,rfl,SqL.of hr2,rfl,_,_,rfl,_,_,rfl,rfl,_,rfl,(show 0≤sizeLine by decide),fun x hx=>⟨l1,x,_,_,rfl,rfl,SqL.of (qad hx _ _ hl2),SqL.of qab,rfl,rfl,_,rfl,iteF ?_⟩⟩
   have M2:ModAt K H2 m pl ed ppl M:=by
    have frM:∀ c o,H1 c=some o→(c∈MFp m pl ed M∨∃ xs,o=.tup xs∨∃ ob,o=.frz ob (.tup xs))→H2 c=some o:=fun c o h x=>by
     refine fr c o h ?_
     rcases x with x | x
     ·exact fun q=>G.bo.ap c (fB c q) x
     ·exact qln B1 h x
    refine M1.keep ?_ fun c o h _ x=>frM c o h x
    rcases M1.en with q | ⟨ob,q⟩
    ·exact .inl (frM _ _ q (.inl (by simp [MFp])))
    ·exact .inr ⟨ob,frM _ _ q (.inl (by simp [MFp]))⟩
   obtain ⟨kvs,hed⟩:=G.ed
   have hed2:H2 ed=some (.dK kvs):=fr ed _ (s1 _ _ hed) fun q=>G.bo.ap ed (fB _ q) (by simp [MFp])
   have sx:Same H2 _:=qad (o:=.lst []) hx
   have hd3:DeedAt K (upd H2 x (.lst [])) d D:=(hd1.keep fun c o h y=>fr c o h (qln B1 h y)).same sx
   have M3:=M2.same sx
   have B3:=B2.same sx
   have facts:=dueNone due0
   have plnB:∀ c,c=pl∨c=ed→c∉BFp b z L:=fun c hc q=>G.bo.ap c q (by rcases hc with e | e <;> rw [e] <;> simp [MFp])
   refine ⟨_,rfl,_,rfl,m,pl,ed,ppl,M,d,D,rfl,M3,⟨kvs,sx _ _ hed2⟩,hd3,G.bo.bk.p6,by rw [hlen];exact G.bo.bk.h8,?_⟩
   cases D with
   | per n =>
    obtain ⟨f1,f2,f3⟩:=facts
    obtain ⟨rfl,rfl⟩:=af
    intro H4 M4 ed4 fr4
    refine ⟨_,rfl,rfl,_,rfl,iteT ⟨_,rfl,rfl,?_⟩⟩
    refine k _ _ _ H4 ⟨⟨?_,M4,G.bo.eq,fun i e y a1 a2=>(G.bo.hr i e y a1 a2).mono (by omega),G.bo.nd,G.bo.nm,G.bo.ap,by omega⟩,ed4,fun n' hn'=>?_,G.sm⟩ (fun c u e c1 c2=>?_) (fun _=>⟨rfl,rfl⟩) ⟨Nat.le_refl _,by rw [List.length_append];omega,fun _ h=>.inl h,fun _ h=>.inl h,.inl ⟨due0,rfl,rfl⟩⟩
    ·refine B3.keep fun c o h x=>fr4 c o h fun q=>?_
     rcases x with x | x
     ·exact plnB pl (.inl rfl) (q ▸ x)
     ·rw [q,M3.pp] at h;cases h;rcases x with ⟨xs,y | ⟨ob,y⟩⟩ <;> cases y
    ·rcases List.mem_append.mp hn' with q | q
     ·exact G.sp n' q
     ·rw [List.mem_singleton.mp q];exact dk
    ·refine fr4 c u (sx _ _ (fr c u (s1 c u e) fun q=>c1 (fB c q))) fun q=>c2 ?_
     rw [q];simp [MFp]
   | hou n o t m' l =>
    obtain ⟨f1,f2,f3⟩:=facts
    obtain ⟨rfl,pb,hpb,rfl⟩:=af
    have free:∀ c,(upd H2 x (.lst [])) c=none→H c=none:=fun c hc=>by
     cases q:H c with
     | none=>rfl
     | some u =>
      by_cases hb:c∈BFp b z L
      ·have e:BFp b z (L++[((⟨n,t,m',l,[(o,1,1)]⟩:Ent),pb)])=BFp b z L++[pb]:=by
        unfold BFp
        rw [List.map_append]
        rfl
       obtain ⟨w,e1,_⟩:=B2.all c (by rw [e];exact List.mem_append_left _ hb)
       rw [sx _ _ e1] at hc
       cases hc
      ·rw [sx _ _ (fr c u (s1 _ _ q) hb)] at hc
       cases hc
    refine ⟨f2,fun p q H4 hp hq M4 ed4 fr4=>?_⟩
    refine ⟨_,rfl,rfl,_,rfl,iteT ⟨_,rfl,rfl,?_⟩⟩
    have pbM:∀ c∈MFp m pl ed M,c≠pb:=fun c hc e=>by
     obtain ⟨o',e'⟩:=G.bo.md.all c hc
     have:=s1 _ _ e'
     rw [e,hpb] at this
     cases this
    have pbn:∀ c,c=pl∨c=ed→c∉BFp b z (L++[(⟨n,t,m',l,[(o,1,1)]⟩,pb)]):=fun c hc x=>by
     have x':c∈BFp b z L∨c=pb:=qju x
     rcases x' with x' | x'
     ·exact plnB c hc x'
     ·exact pbM c (by rcases hc with e | e <;> rw [e] <;> simp [MFp]) x'
    refine k _ (L++[(⟨n,t,m',l,[(o,1,1)]⟩,pb)]) _ H4 ⟨⟨?_,M4,?_,fun i e y a1 a2=>?_,?_,fun e he=>?_,?_,by omega⟩,ed4,G.sp,fun e he=>?_⟩ (fun c u e c1 c2=>?_) (fun _=>⟨rfl,by rw [List.map_append];rfl⟩) ⟨by rw [List.length_append];omega,Nat.le_refl _,fun c hc=>(qju hc).imp id fun e=>by rw [e];exact s1.free hpb,fun c hc=>(ql8 hc).imp id fun e=>by rcases e with e | e <;> rw [e] <;> first | exact free _ hp | exact free _ hq,.inl ⟨due0,rfl,pb,rfl⟩⟩
    ·refine B3.keep fun c o' h x=>fr4 c o' h fun q=>?_
     rcases x with x | x
     ·exact pbn ed (.inr rfl) (q ▸ x)
     ·rw [q,sx _ _ hed2] at h;cases h;rcases x with ⟨xs,y | ⟨ob,y⟩⟩ <;> cases y
    ·rw [List.map_append,List.map_append,G.bo.eq];rfl
    ·by_cases hi:i < L.length
     ·rw [List.getElem?_append_left hi] at a1
      rw [List.getElem?_append_left (by omega)] at a2
      exact (G.bo.hr i e y a1 a2).mono (by omega)
     ·rw [List.getElem?_append_right (by omega)] at a1
      rw [List.getElem?_append_right (by omega)] at a2
      have hi':i - L.length=0:=by
       have:=(List.getElem?_eq_some_iff.mp a1).1
       simp at this
       omega
      have hi2:i - M.length=0:=by omega
      rw [hi'] at a1
      rw [hi2] at a2
      cases a1
      cases a2
      exact hr_one _ dk.2
    ·rw [List.map_append]
     have nn:n∉L.map (·.1.nm):=by rw [hnm];exact qme f2
     exact qer G.bo.nd nn
    ·rcases List.mem_append.mp he with he | he
     ·exact G.bo.nm e he
     ·rw [List.mem_singleton.mp he];exact Sm.nm dk.1
    ·intro c hc hm
     have hc':(∃ w,H2 c=some w):=by
      obtain ⟨w,e,_,_⟩:=B2.all c hc
      exact ⟨w,e⟩
     have x':c∈BFp b z L∨c=pb:=qju hc
     have y':c∈MFp m pl ed M∨c=p∨c=q:=ql8 hm
     rcases y' with y' | y' | y'
     ·rcases x' with x' | x'
      ·exact G.bo.ap c x' y'
      ·exact pbM c y' x'
     ·obtain ⟨w,e⟩:=hc'
      have:=sx _ _ e
      rw [y',hp] at this
      cases this
     ·obtain ⟨w,e⟩:=hc'
      have:=sx _ _ e
      rw [y',hq] at this
      cases this
    ·rcases List.mem_append.mp he with he | he
     ·exact G.sm e he
     ·rw [List.mem_singleton.mp he];exact dk.1
    ·refine fr4 c u (sx _ _ (fr c u (s1 c u e) fun q=>c1 (fB c q))) fun q=>c2 ?_
     rw [q];simp [MFp]
   | sal h o1 o2 q =>
    obtain ⟨f1,f2⟩:=facts
    obtain ⟨rfl,rfl⟩:=af
    rw [qe6] at f1
    obtain ⟨y,hy⟩:=Option.isSome_iff_exists.mp f1
    have hy:qef M h=some y:=hy
    obtain ⟨e,he,hr⟩:=G.bo.of_m hy
    have eh:hasM M h o1=getQ e.1.held o1:=by unfold hasM;rw [hy];exact (hr.q o1).symm
    rw [eh] at f2
    have sq:=dk.2.2.2
    have q0:0 < q.1:=by by_cases z:0 < q.1;exact z;exact absurd (.inl z) f2
    have hle:q.1 * (getQ e.1.held o1).2≤(getQ e.1.held o1).1 * q.2:=by
     by_cases z:q.1 * (getQ e.1.held o1).2 > (getQ e.1.held o1).1 * q.2
     ·exact absurd (.inr z) f2
     ·omega
    have o1in:o1∈y.1.held.map (·.1):=hr.had (by
     rw [← hr.q]
     by_cases z:0 < (getQ e.1.held o1).1
     ·exact z
     ·have a1:(getQ e.1.held o1).1 * q.2≤0:=Int.mul_nonpos_of_nonpos_of_nonneg (by omega) (Int.le_of_lt sq.low.1)
      have a2:0 < q.1 * (getQ e.1.held o1).2:=Int.mul_pos q0 (hr.fr o1).low.1
      omega)
    have Rr:=qkz (hr.fr o1) sq.low q0 hle sq.bb
    have W2:Two (getQ (putH y.1.held o1 (addR (getQ y.1.held o1) (-q.1,q.2))) o2) q:=by
     rw [qc0,← hr.q,← hr.q]
     have:FrB (194 * cc+2+97) ((2 ^ cc:Nat):Int) (if o2=o1 then addR (getQ e.1.held o1) (-q.1,q.2) else getQ e.1.held o2):=by
      by_cases w:o2=o1
      ·rw [if_pos w];exact Rr
      ·rw [if_neg w];exact ⟨(hr.fr o2).low,(hr.fr o2).nn,(hr.fr o2).le,(hr.fr o2).bb.mono (by omega)⟩
     have tp:FrC (cc+1) (if o2=o1 then addR (getQ e.1.held o1) (-q.1,q.2) else getQ e.1.held o2):=⟨this.low,this.nn,Int.le_trans this.le (Int.mul_le_mul_of_nonneg_right (Int.ofNat_le.mpr (Nat.pow_le_pow_right (by decide) (by omega))) (Int.le_of_lt this.low.1)),this.bb.mono (by omega)⟩
     exact ⟨this.low.1,sq.low.1,tp.top.mono (by omega),sq.bt.mono (by decide),this.bb.mono (by omega),sq.bb.mono (by decide),(this.bb.mul sq.bb).mono (by omega)⟩
    have ndM:(M.map (·.1.nm)).Nodup:=by rw [← hnm];exact G.bo.nd
    refine ⟨ndM,y,hy,o1in,Nat.lt_of_le_of_lt hr.l2 (by omega),by rw [← hr.q];exact (hr.fr o1).two c44 sq.neg,W2,fun H4 M4 ed4 fr4=>?_⟩
    refine ⟨_,rfl,rfl,_,rfl,iteT ⟨_,rfl,rfl,?_⟩⟩
    have yM:y.2.2∈MFp m pl ed M:=by
     unfold MFp
     simp only [List.mem_cons]
     right;right;right
     exact List.mem_append_right _ (List.mem_map.mpr ⟨y,qcy hy,rfl⟩)
    have ytup:∀ o,(upd H2 x (.lst [])) y.2.2=some o→¬ ∃ xs,o=.tup xs∨∃ ob,o=.frz ob (.tup xs):=fun o ho w=>by
     obtain ⟨ts,_,q',_⟩:=M3.he y (qcy hy)
     rw [q'] at ho
     cases ho
     rcases w with ⟨xs,z | ⟨ob,z⟩⟩ <;> cases z
    refine k _ (setE L h fun x=>{ x with held:=sold x.held o1 o2 q }) _ H4 ⟨⟨?_,M4,?_,fun i e' y' a1 a2=>?_,?_,fun e' he'=>?_,?_,by omega⟩,ed4,G.sp,fun e' he'=>?_⟩ (fun c u e' c1 c2=>?_) (fun _=>⟨rfl,qa3 (v:=fun e:Ent×Addr×Addr=>e.1.nm) fun x=>rfl⟩) ⟨by unfold setE;rw [List.length_map];exact Nat.le_refl _,Nat.le_refl _,fun c hc=>.inl (by rw [qd4] at hc;exact hc),fun c hc=>.inl (by rw [qg0] at hc;exact hc),.inl ⟨due0,rfl,rfl⟩⟩
    ·refine B3.keep fun c o' h' x'=>fr4 c o' h' fun w=>?_
     rcases x' with x' | x'
     ·rw [qd4] at x'
      exact G.bo.ap c x' (w ▸ yM)
     ·exact ytup o' (w ▸ h') x'
    ·exact qg1 (K:=id) G.bo.eq (fun _=>rfl) (fun _=>rfl)
    ·obtain ⟨x1,b1,d1⟩:=qg2 a1
     obtain ⟨x2,b2,d2⟩:=qg2 a2
     have hR:=G.bo.hr i x1 x2 b1 b2
     have enm:x1.1.nm=x2.1.nm:=by
      have:=congrArg (fun l=>l[i]?) G.bo.nms
      simp only [List.getElem?_map,b1,b2,Option.map_some] at this
      exact Option.some.inj this
     rcases d1 with ⟨n1,rfl⟩ | ⟨n1,rfl⟩
     ·rcases d2 with ⟨n2,rfl⟩ | ⟨n2,rfl⟩
      ·have ex:x1=e:=qd1 G.bo.nd he (List.mem_of_getElem? b1) n1
       refine hR.sale sq dk.2.2.1 ?_
       rw [ex]
       exact f2
      ·exact absurd (enm.symm.trans n1) n2
     ·rcases d2 with ⟨n2,rfl⟩ | ⟨n2,rfl⟩
      ·exact absurd (enm.trans n2) n1
      ·exact hR.mono (by omega)
    ·rw [qa3 (v:=fun e:Ent×Addr=>e.1.nm) fun x=>rfl]
     exact G.bo.nd
    ·obtain ⟨x1,hx1,⟨_,rfl⟩ | ⟨_,rfl⟩⟩:=qb7 he'
     ·exact G.bo.nm x1 hx1
     ·exact G.bo.nm e' hx1
    ·rw [qd4,qg0]
     exact G.bo.ap
    ·obtain ⟨x1,hx1,⟨_,rfl⟩ | ⟨_,rfl⟩⟩:=qb7 he'
     ·exact G.sm x1 hx1
     ·exact G.sm e' hx1
    ·exact fr4 c u (sx _ _ (fr c u (s1 c u e') fun w=>c1 (fB c w))) fun w=>c2 (by rw [w];exact yM)
   | num kd h n =>
    obtain ⟨rfl,rfl⟩:=af
    have facts:hasP (M.map (·.1.nm)) h=true:=facts
    rw [qe6] at facts
    obtain ⟨y,hy⟩:=Option.isSome_iff_exists.mp facts
    have hy:qef M h=some y:=hy
    have ndM:(M.map (·.1.nm)).Nodup:=by rw [← hnm];exact G.bo.nd
    refine ⟨ndM,y,hy,fun H4 M4 ed4 fr4=>?_⟩
    refine ⟨_,rfl,rfl,_,rfl,iteT ⟨_,rfl,rfl,?_⟩⟩
    have yM:y.2.1∈MFp m pl ed M:=by
     unfold MFp
     simp only [List.mem_cons]
     right;right;right
     exact List.mem_append_left _ (List.mem_map.mpr ⟨y,qcy hy,rfl⟩)
    have ytup:∀ o,(upd H2 x (.lst [])) y.2.1=some o→¬ ∃ xs,o=.tup xs∨∃ ob,o=.frz ob (.tup xs):=fun o ho w=>by
     rw [M3.el y (qcy hy)] at ho
     cases ho
     rcases w with ⟨xs,z | ⟨ob,z⟩⟩ <;> cases z
    refine k _ (setE L h (kd.put n)) _ H4 ⟨⟨?_,M4,?_,fun i e' y' a1 a2=>?_,?_,fun e' he'=>?_,?_,by omega⟩,ed4,G.sp,fun e' he'=>?_⟩ (fun c u e' c1 c2=>?_) (fun _=>⟨rfl,qa3 (v:=fun e:Ent×Addr×Addr=>e.1.nm) fun x=>by cases kd <;> rfl⟩) ⟨by unfold setE;rw [List.length_map];exact Nat.le_refl _,Nat.le_refl _,fun c hc=>.inl (by rw [qd4] at hc;exact hc),fun c hc=>.inl (by rw [qg0] at hc;exact hc),.inl ⟨due0,rfl,rfl⟩⟩
    ·refine B3.keep fun c o' h' x'=>fr4 c o' h' fun w=>?_
     rcases x' with x' | x'
     ·rw [qd4] at x'
      exact G.bo.ap c x' (w ▸ yM)
     ·exact ytup o' (w ▸ h') x'
    ·cases kd with
     | th=>exact qg1 (K:=fun k=>(k.1,n,k.2.2)) G.bo.eq (fun _=>rfl) (fun _=>rfl)
     | mr=>exact qg1 (K:=fun k=>(k.1,k.2.1,n,k.2.2.2)) G.bo.eq (fun _=>rfl) (fun _=>rfl)
     | ls=>exact qg1 (K:=fun k=>(k.1,k.2.1,k.2.2.1,n)) G.bo.eq (fun _=>rfl) (fun _=>rfl)
    ·obtain ⟨x1,b1,d1⟩:=qg2 a1
     obtain ⟨x2,b2,d2⟩:=qg2 a2
     have hR:=G.bo.hr i x1 x2 b1 b2
     have h1:e'.1.held=x1.1.held:=by
      rcases d1 with ⟨_,rfl⟩ | ⟨_,rfl⟩
      ·cases kd <;> rfl
      ·rfl
     have h2:y'.1.held=x2.1.held:=by
      rcases d2 with ⟨_,rfl⟩ | ⟨_,rfl⟩
      ·cases kd <;> rfl
      ·rfl
     rw [h1,h2]
     exact hR.mono (by omega)
    ·rw [qa3 (v:=fun e:Ent×Addr=>e.1.nm) fun x=>by cases kd <;> rfl]
     exact G.bo.nd
    ·obtain ⟨x1,hx1,⟨_,rfl⟩ | ⟨_,rfl⟩⟩:=qb7 he'
     ·have:(kd.put n x1.1).nm=x1.1.nm:=by cases kd <;> rfl
      show Nm (kd.put n x1.1).nm
      rw [this]
      exact G.bo.nm x1 hx1
     ·exact G.bo.nm e' hx1
    ·rw [qd4,qg0]
     exact G.bo.ap
    ·obtain ⟨x1,hx1,⟨_,rfl⟩ | ⟨_,rfl⟩⟩:=qb7 he'
     ·have:(kd.put n x1.1).nm=x1.1.nm:=by cases kd <;> rfl
      show Sm (kd.put n x1.1).nm
      rw [this]
      exact G.sm x1 hx1
     ·exact G.sm e' hx1
    ·exact fr4 c u (sx _ _ (fr c u (s1 c u e') fun w=>c1 (fB c w))) fun w=>c2 (by rw [w];exact yM)
  ·-- it is refused
   obtain ⟨j,hj⟩:∃ j,qck ppl (M.map (·.1.nm)) (hasM M) D=some j:=by
    cases q:qck ppl (M.map (·.1.nm)) (hasM M) D with
    | none=>rw [k1 q] at hA;cases hA
    | some j=>exact ⟨j,rfl⟩
   obtain ⟨c',hA',x1,x2,x3⟩:=k2 j hj
   rw [hA] at hA'
   cases hA'
   rw [hj] at e1
   refine ⟨x1,x2,fun H2 r p s2 hr2 hp2=>?_⟩
   have hl2:=s2 _ _ e1
   refine ⟨r,_,rfl,SqL.of hr2,rfl,_,_,rfl,_,_,rfl,rfl,_,rfl,(show 0≤sizeLine by decide),fun x hx=>⟨l1,x,_,_,rfl,rfl,SqL.of (qad hx _ _ hl2),SqL.of qab,rfl,rfl,_,rfl,iteT ?_⟩⟩
   have sx:Same H2 _:=qad (o:=.lst []) hx
   refine ⟨_,rfl,p,c,j,rfl,sx _ _ hp2,x1,x3,fun l3 H3 hl3 s3 e3=>?_⟩
   refine ⟨_,rfl,l3,l1,_,_,rfl,rfl,SqL.of e3,SqL.of (s3 _ _ (sx _ _ hl2)),rfl,rfl,?_⟩
   have S3:Same H H3:=s1.trans (s2.trans (sx.trans s3))
   have eqj:(if false=true then !eqLs [V.int j] (dueL (some j)) else eqLs [V.int j] (dueL (some j)))=true:=by
    show eqLs [V.int j] [V.int j]=true
    simp [eqLs,eqV]
   rw [eqj]
   obtain ⟨kvs,hed⟩:=G.ed
   exact k ppl L M H3 ⟨⟨G.bo.bk.same S3,G.bo.md.same S3,G.bo.eq,fun i e y a1 a2=>(G.bo.hr i e y a1 a2).mono (by omega),G.bo.nd,G.bo.nm,G.bo.ap,by omega⟩,⟨kvs,S3 _ _ hed⟩,G.sp,G.sm⟩ (fun c u e _ _=>S3 c u e) (fun z=>by rw [hj] at z;cases z) ⟨Nat.le_refl _,Nat.le_refl _,fun _ h=>.inl h,fun _ h=>.inl h,.inr ⟨rfl,rfl⟩⟩
end
end My
namespace My
open PySem L2 Fra
structure Mid (q:Int×Int):Prop where
 low:Low q
 hi:q.1≤70368744177664 * q.2
 lo:-(70368744177664 * q.2)≤q.1
theorem Mid.sh {q:Int×Int} (h:Mid q) (hb:¬ q.2 > 10 ^ 28):ShOk q:=by
 have h0:=h.low.1
 have h1:=h.hi
 have h2:=h.lo
 have e28:(10:Int) ^ 28=10000000000000000000000000000:=by decide +kernel
 rw [e28] at hb
 have e97:(2:Nat) ^ 97=158456325028528675187087900672:=by decide
 have e200:(2:Nat) ^ 200=1606938044258990275541962092341162602522202993782792835301376:=by decide
 refine ⟨h.low,?_,?_⟩
 ·unfold Bt;rw [e200];omega
 ·unfold Bt;rw [e97];omega
theorem mid_c (t b:Int) (h0:0 < b) (hg:Int.gcd t b=1) (h1:t≤3) (h2:-3≤t):Mid (t,b):=⟨⟨h0,hg⟩,by show t≤70368744177664 * b;omega,by show -(70368744177664 * b)≤t;omega⟩
theorem qlg {t b:Int} (h0:0 < b) (h1:t≤70368744177664 * b) (h2:-(70368744177664 * b)≤t):Mid (red (t,b)):=by
 obtain ⟨lo,ev⟩:=qe1 (q:=(t,b)) h0
 simp only at ev
 generalize red (t,b)=r at *
 have r0:=lo.1
 refine ⟨lo,qdm h0 ?_,?_⟩
 ·rw [ev]
  have:=Int.mul_le_mul_of_nonneg_right h1 (Int.le_of_lt r0)
  rw [Int.mul_right_comm]
  exact this
 ·refine qdm h0 ?_
  rw [ev]
  have:=Int.mul_le_mul_of_nonneg_right h2 (Int.le_of_lt r0)
  have e:-(70368744177664 * r.2) * b=-(70368744177664 * b) * r.2:=by rw [Int.neg_mul,Int.neg_mul,Int.mul_right_comm]
  rw [e]
  exact this
theorem two_pow_c {c:Nat} (hc:c≤45):((2 ^ c:Nat):Int)≤35184372088832:=by
 have h:2 ^ c≤2 ^ 45:=Nat.pow_le_pow_right (by decide) hc
 have e:(2:Nat) ^ 45=35184372088832:=by decide
 rw [e] at h
 omega
theorem FrC.val {c:Nat}{g:Int×Int} (h:FrC c g) (hc:c≤45):g.1≤35184372088832 * g.2:=Int.le_trans h.le (Int.mul_le_mul_of_nonneg_right (two_pow_c hc) (Int.le_of_lt h.low.1))
theorem mid_plus {c:Nat}{g:Int×Int} (h:FrC c g) (hc:c≤45):Mid (addR g (1,1000000)):=by
 have h0:=h.low.1
 have h1:=h.val hc
 have h2:=h.nn
 refine qlg (Int.mul_pos h0 (by decide)) ?_ ?_
 ·show g.1 * 1000000+1 * g.2≤70368744177664 * (g.2 * 1000000)
  omega
 ·show -(70368744177664 * (g.2 * 1000000))≤g.1 * 1000000+1 * g.2
  omega
theorem mid_times {c:Nat}{g s:Int×Int} (h:FrC c g) (hc:c≤45) (s0:0 < s.2) (s1:0≤s.1) (s2:s.1≤s.2):Mid (red (s.1 * g.1,s.2 * g.2)):=by
 have h0:=h.low.1
 have h1:=h.val hc
 have h2:=h.nn
 have a1:s.1 * g.1≤s.2 * g.1:=Int.mul_le_mul_of_nonneg_right s2 h2
 have a2:s.2 * g.1≤s.2 * (35184372088832 * g.2):=Int.mul_le_mul_of_nonneg_left h1 (Int.le_of_lt s0)
 have a3:s.2 * (35184372088832 * g.2)=35184372088832 * (s.2 * g.2):=Int.mul_left_comm ..
 have a4:0≤s.1 * g.1:=Int.mul_nonneg s1 h2
 have a5:0 < s.2 * g.2:=Int.mul_pos s0 h0
 refine qlg a5 ?_ ?_
 ·omega
 ·omega
theorem sh_half:ShOk (1,2):=(mid_c 1 2 (by decide) rfl (by decide) (by decide)).sh (by decide +kernel)
def pick8 (z r:Int):Int:=if r=0 then 5 else if r=1 then 5 else if r=2 then 12 else if r=3 then 12 else if r=4 then 100 else if r=5 then 5 else if r=6 then 5 else z
theorem at8 {z r:Int} (h0:0≤r) (h1:r < 8):atI [V.int 5,V.int 5,V.int 12,V.int 12,V.int 100,V.int 5,V.int 5,V.int z] r=some (.int (pick8 z r)):=by
 have:r=0∨r=1∨r=2∨r=3∨r=4∨r=5∨r=6∨r=7:=by omega
 rcases this with rfl | rfl | rfl | rfl | rfl | rfl | rfl | rfl <;> rfl
theorem pick8_pos {z:Int} (r:Int) (hz:0 < z) (hz2:z≤1000000):0 < pick8 z r∧pick8 z r≤1000000:=by
 unfold pick8
 repeat' split
 all_goals omega
theorem at5 {v0 v1 v2 v3 v4:V}{r:Int} (h0:0≤r) (h1:r < 5) {R:V→Prop} (a0:R v0) (a1:R v1) (a2:R v2) (a3:R v3) (a4:R v4):∃ v,atI [v0,v1,v2,v3,v4] r=some v∧R v:=by
 have:r=0∨r=1∨r=2∨r=3∨r=4:=by omega
 rcases this with rfl | rfl | rfl | rfl | rfl
 ·exact ⟨v0,rfl,a0⟩
 ·exact ⟨v1,rfl,a1⟩
 ·exact ⟨v2,rfl,a2⟩
 ·exact ⟨v3,rfl,a3⟩
 ·exact ⟨v4,rfl,a4⟩
theorem bt30 {n:Int} (h0:0≤n) (h:n < 1073741824):Bt 30 n:=by
 unfold Bt
 have e:(2:Nat) ^ 30=1073741824:=by decide
 rw [e]
 omega
theorem six:(10:Int) ^ (6:Int).toNat=1000000:=by decide +kernel
section
variable {P:Program}{w:World}{K:PySem.W.Frag}{mg:Str→Option Value}{base:Heap}{a:Adr}{f:Addr}{fd:FuncData}
abbrev qc9:Stmt:=top 47
theorem sc__law_part:FnScope ["_law_purse_here","_law_has","_law_sort","_law_bottom","_law_some"] ["_law_purse_here","_law_has"] (qaj qc9):=⟨rfl,rfl,rfl,by decide +kernel,rfl,by decide +kernel,by decide +kernel⟩
def qgh (K:PySem.W.Frag):Sp:=fun vs H Q _=>∃ (c:Nat) (p hp:Addr) (g:Int×Int),vs=[.ref p,.ref hp]∧qbx H p∧FrAt K H hp g∧FrC c g∧c≤44 ∧
 ∀ x q H',FrAt K H' x q→ShOk q→qbx H' p→(∀ c o,H c=some o→c≠p→H' c=some o)→Q (.ref x) H'
theorem qg4 {K:PySem.W.Frag}{H:Hp}{p x:Addr}{q:Int×Int}{xs:List V}{o:HO} (hp:H p=some (.lst xs)) (h:FrAt K H x q):FrAt K (upd H p o) x q :=
 qbd h (qfl hp)
theorem ok_part (F:Fun K "_law_part" "_law_part" qc9 f fd) (T:Txt K mg a) (F__law_take:Fn P w K mg base "_law_take" 1 ["_law_purse_here","_law_many"] qdy) (F__law_lowest:Fn P w K mg base "_law_lowest" 2 ["_law_top","_law_bottom"] qed)
  (F__law_plus:Fn P w K mg base "_law_plus" 3 ["_law_one_here","_law_other"] (qfe K)) (F__law_times:Fn P w K mg base "_law_times" 3 ["_law_one_here","_law_other"] (qf0 K)):FnOk P w K mg base (CXo P w) 4 f fd ["_law_purse_here","_law_has"] (qgh K):=by
 refine F.okN sc__law_part (fun vs H Q E h=>?_) (fun cdv A outer s H vs Q E hr h=>?_)
 ·obtain ⟨c,p,hp,g,rfl,_⟩:=h
  rfl
 ·obtain ⟨c,p,hp,g,rfl,⟨px,py,hpu⟩,hg,fg,c44,k⟩:=h
  have hu:=qbk hr
  refine ⟨_,(@qaf _ _ _ _ _ (@qaq _ _ (2) _ _ _ _ sc__law_part.nd rfl (Or.inl rfl) (@qa1 _ _ _ _ _ _ _ _ _ _ _ F__law_take (hr.mono (by first | decide | omega)) rfl qan (@qaa _ _ _ _ _ (pv 0) (@qaa _ _ _ _ _ qac qah (by rfl)) (by rfl)) (by decide) (by rfl) (by rfl)) (by rfl) (by first | exact .inl rfl | exact .inr rfl | assumption)) (@qaf _ _ _ _ _ (@qaq _ _ (3) _ _ _ _ sc__law_part.nd rfl (Or.inl rfl) (@qaw _ _ _ _ _ _ _ _ qee qac (@qa1 _ _ _ _ _ _ _ _ _ _ _ F__law_take (hr.mono (by first | decide | omega)) rfl qan (@qaa _ _ _ _ _ (pv 0) (@qaa _ _ _ _ _ (@qam _ _ _ _ _ _ _ qa0 (@PEI.get _ _ _ (pe_l8 qac qac qac qac qac qac qac (@qaw _ _ _ _ _ _ _ _ qfj qac qac))) (pv 2) (fun _ _=>rfl)) qah (by rfl)) (by rfl)) (by decide) (by rfl) (by rfl))) (by rfl) (by first | exact .inl rfl | exact .inr rfl | assumption)) (@qaf _ _ _ _ _ (@qaq _ _ (4) _ _ _ _ sc__law_part.nd rfl (Or.inl rfl) (@qa1 _ _ _ _ _ _ _ _ _ _ _ F__law_lowest (hr.mono (by first | decide | omega)) rfl qan (@qaa _ _ _ _ _ (@qaw _ _ _ _ _ _ _ _ qee (@qa1 _ _ _ _ _ _ _ _ _ _ _ F__law_take (hr.mono (by first | decide | omega)) rfl qan (@qaa _ _ _ _ _ (pv 0) (@qaa _ _ _ _ _ (pv 3) qah (by rfl)) (by rfl)) (by decide) (by rfl) (by rfl)) qac) (@qaa _ _ _ _ _ (pv 3) qah (by rfl)) (by rfl)) (by decide) (by rfl) (by rfl)) (by rfl) (by first | exact .inl rfl | exact .inr rfl | assumption)) (@qaf _ _ _ _ _ (@qbi _ _ _ _ _ _ _ _ (@qau _ _ _ _ _ _ _ _ qea (pv 2) qac (qay _)) (@qak _ _ _ (@qaq _ _ (4) _ _ _ _ sc__law_part.nd rfl (Or.inl rfl) (@qam _ _ _ _ _ _ _ qa0 (@PEI.get _ _ _ (pe_l5 (@qbn _ _ _ _ _ (@qaa _ _ _ _ _ qac (@qaa _ _ _ _ _ qac qah (by rfl)) (by rfl))) (@qbn _ _ _ _ _ (@qaa _ _ _ _ _ (@pe_un _ _ _ _ _ _ qjy qac) (@qaa _ _ _ _ _ qac qah (by rfl)) (by rfl))) (@qbn _ _ _ _ _ (@qaa _ _ _ _ _ qac (@qaa _ _ _ _ _ qac qah (by rfl)) (by rfl))) (@qbn _ _ _ _ _ (@qaa _ _ _ _ _ qac (@qaa _ _ _ _ _ qac qah (by rfl)) (by rfl))) (@qa1 _ _ _ _ _ _ _ _ _ _ _ F__law_plus (hr.mono (by first | decide | omega)) rfl qan (@qaa _ _ _ _ _ (pv 1) (@qaa _ _ _ _ _ (@qbn _ _ _ _ _ (@qaa _ _ _ _ _ qac (@qaa _ _ _ _ _ (@qaw _ _ _ _ _ _ _ _ qfj qac qac) qah (by rfl)) (by rfl))) qah (by rfl)) (by rfl)) (by decide) (by rfl) (by rfl)))) (@qa1 _ _ _ _ _ _ _ _ _ _ _ F__law_take (hr.mono (by first | decide | omega)) rfl qan (@qaa _ _ _ _ _ (pv 0) (@qaa _ _ _ _ _ qac qah (by rfl)) (by rfl)) (by decide) (by rfl) (by rfl)) (fun _ _=>rfl)) (by rfl) (by first | exact .inl rfl | exact .inr rfl | assumption))) (@qak _ _ _ (@qbi _ _ _ _ _ _ _ _ (PW.pt (qig (@qau _ _ _ _ _ _ _ _ op_ne (pv 2) qac (qay _)) (qgm (@qau _ _ _ _ _ _ _ _ op_ne (pv 2) qac (qay _))))) (@qak _ _ _ (@qaq _ _ (4) _ _ _ _ sc__law_part.nd rfl (Or.inl rfl) (@qa1 _ _ _ _ _ _ _ _ _ _ _ F__law_times (hr.mono (by first | decide | omega)) rfl qan (@qaa _ _ _ _ _ (pv 4) (@qaa _ _ _ _ _ (pv 1) qah (by rfl)) (by rfl)) (by decide) (by rfl) (by rfl)) (by rfl) (by first | exact .inl rfl | exact .inr rfl | assumption))) qax))) (@qaf _ _ _ _ _ (@qbi _ _ _ _ _ _ _ _ (@qau _ _ _ _ _ _ _ _ op_gt (@qam _ _ _ _ _ _ _ qal (pv 4) qac (fun _ _=>rfl)) (@qaw _ _ _ _ _ _ _ _ qfj qac qac) (qay _)) (@qak _ _ _ (@qav _ _ _ _ (@qbn _ _ _ _ _ (@qaa _ _ _ _ _ qac (@qaa _ _ _ _ _ qac qah (by rfl)) (by rfl))))) qax) (@qak _ _ _ (@qav _ _ _ _ (pv 4)))))))),?_⟩
  refine ⟨_,rfl,p,px,py,8,rfl,hpu,by decide,by decide,fun r x1 y1 r0 r8=>?_⟩
  have hg1:=qg4 (o:=.lst [.int x1,.int y1]) hpu hg
  generalize hH1:upd H p (.lst [.int x1,.int y1])=H1 at hg1 ⊢
  have hp1:H1 p=some (.lst [.int x1,.int y1]):=by rw [← hH1,qab]
  have fr1:∀ c o,H c=some o→c≠p→H1 c=some o:=fun c o e hc=>by rw [← hH1,qag hc];exact e
  clear hH1
  refine ⟨_,rfl,_,_,rfl,rfl,⟨by decide,by decide,by decide⟩,(show 8≤sizeLine by decide),fun l hl=>?_⟩
  have pk:=pick8_pos (z:=(10:Int) ^ (6:Int).toNat) r (by rw [six];decide) (by rw [six];decide)
  have sl:Same H1 _:=qad (o:=.lst [.int 5,.int 5,.int 12,.int 12,.int 100,.int 5,.int 5,.int ((10:Int) ^ (6:Int).toNat)]) hl
  refine ⟨_,rfl,l,_,r,_,rfl,rfl,SqL.of qab,at8 r0 r8,p,x1,y1,_,rfl,sl _ _ hp1,pk.1,by omega,fun r2 x2 y2 r20 r2l=>?_⟩
  have hg2:=qg4 (o:=.lst [.int x2,.int y2]) (sl _ _ hp1) (hg1.same sl)
  generalize hH2:upd (upd H1 l (.lst [.int 5,.int 5,.int 12,.int 12,.int 100,.int 5,.int 5,.int ((10:Int) ^ (6:Int).toNat)])) p (.lst [.int x2,.int y2])=H2 at hg2 ⊢
  have hp2:H2 p=some (.lst [.int x2,.int y2]):=by rw [← hH2,qab]
  have fr2:∀ c o,H c=some o→c≠p→H2 c=some o:=fun c o e hc=>by rw [← hH2,qag hc];exact sl _ _ (fr1 c o e hc)
  clear hH2 hl sl
  refine ⟨_,_,rfl,rfl,?_⟩
  refine ⟨_,rfl,_,rfl,p,x2,y2,2+r2,rfl,hp2,by omega,by omega,fun r3 x3 y3 r30 r3l=>?_⟩
  have hg3:=qg4 (o:=.lst [.int x3,.int y3]) hp2 hg2
  generalize hH3:upd H2 p (.lst [.int x3,.int y3])=H3 at hg3 ⊢
  have hp3:H3 p=some (.lst [.int x3,.int y3]):=by rw [← hH3,qab]
  have fr3:∀ c o,H c=some o→c≠p→H3 c=some o:=fun c o e hc=>by rw [← hH3,qag hc];exact fr2 c o e hc
  clear hH3
  have b0:0 < 2+r2:=by omega
  have bt:Bt 9000 (2+r2):=Bt.mono (bt30 (by omega) (by omega)) (by decide)
  refine ⟨_,_,rfl,rfl,_,rfl,r3+1,2+r2,rfl,b0,bt,fun x hx=>?_⟩
  have M0:Mid (red (r3+1,2+r2)):=qlg b0 (by omega) (by omega)
  have fin:∀ x q Hx,FrAt K Hx x q→Mid q→qbx Hx p→(∀ c o,H c=some o→c≠p→Hx c=some o) →
    tSeq (tIfS (tTest (tOp (rI0 fun i j=>V.bl (decide (j < i))) (tOp (rIxT K) (tVar 4) (tC (V.int 1))) (tOp (rI CPow fun i j=>V.int (i ^ j.toNat)) (tC (V.int 10)) (tC (V.int 28))))) (tRet (tTup (qas (tC (V.int 1)) (qas (tC (V.int 2)) tNil)))) tNext) (tRet (tVar 4))
     {nx:=fun x H'=>Q V.non H',rt:=Q } [some (V.ref p),some (V.ref hp),some (V.int r),some (V.int (2+r2)),some (V.ref x)] Hx:=by
   intro x q Hx hq mq pu fr
   refine ⟨_,rfl,x,_,1,_,rfl,rfl,hq,qai (j:=1) rfl,_,_,rfl,rfl,⟨by decide,by decide,by decide⟩,_,_,rfl,rfl,_,rfl,ite2 (fun h=>?_) (fun h=>?_)⟩
   ·exact ⟨(show 2≤sizeLine by decide),fun y hy=>k y (1,2) _ (SqT.of qab) sh_half ⟨_,_,qad hy _ _ pu.choose_spec.choose_spec⟩ fun c o e hc=>qad hy _ _ (fr c o e hc)⟩
   ·exact ⟨_,rfl,k x q Hx hq (mq.sh fun z=>h (decide_eq_true z)) pu fr⟩
  have sx:Same H3 _:=qad (o:=.tup [.int (red (r3+1,2+r2)).1,.int (red (r3+1,2+r2)).2]) hx
  have hg4:=hg3.same sx
  have hp4:=sx _ _ hp3
  have fr4:∀ c o,H c=some o→c≠p→(upd H3 x (.tup [.int (red (r3+1,2+r2)).1,.int (red (r3+1,2+r2)).2])) c=some o:=fun c o e hc=>sx _ _ (fr3 c o e hc)
  have hx4:FrAt K (upd H3 x (.tup [.int (red (r3+1,2+r2)).1,.int (red (r3+1,2+r2)).2])) x (red (r3+1,2+r2)):=SqT.of qab
  generalize hH4:upd H3 x (.tup [.int (red (r3+1,2+r2)).1,.int (red (r3+1,2+r2)).2])=H4 at hg4 hp4 fr4 hx4 ⊢
  refine ⟨_,rfl,rfl,_,rfl,ite2 (fun h=>?_) (fun h=>?_)⟩
  ·-- one of five
   refine ⟨(show 2≤sizeLine by decide),fun a1 h1=>⟨_,rfl,(show 2≤sizeLine by decide),fun a2 h2=>⟨(show 2≤sizeLine by decide),fun a3 h3=>⟨(show 2≤sizeLine by decide),fun a4 h4=>?_⟩⟩⟩⟩
   have s1:Same H4 _:=qad (o:=.tup [.int 0,.int 1]) h1
   have s2:=s1.trans (qad (o:=.tup [.int (-1),.int 2]) h2)
   have s3:=s2.trans (qad (o:=.tup [.int 3,.int 2]) h3)
   have s4:=s3.trans (qad (o:=.tup [.int 1,.int 1]) h4)
   have f1:=qad (o:=.tup [.int (-1),.int 2]) h2 _ _ (show (upd H4 a1 (.tup [.int 0,.int 1])) a1=some (.tup [.int 0,.int 1]) from qab)
   have f1:=qad (o:=.tup [.int 3,.int 2]) h3 _ _ f1
   have f1:=qad (o:=.tup [.int 1,.int 1]) h4 _ _ f1
   have f2:=qad (o:=.tup [.int 3,.int 2]) h3 a2 (.tup [.int (-1),.int 2]) qab
   have f2:=qad (o:=.tup [.int 1,.int 1]) h4 _ _ f2
   have f3:=qad (o:=.tup [.int 1,.int 1]) h4 a3 (.tup [.int 3,.int 2]) qab
   refine ⟨_,rfl,_,_,rfl,rfl,⟨by decide,by decide,by decide⟩,(show 2≤sizeLine by decide),fun a5 h5=>?_⟩
   have t5:=qad (o:=.tup [.int 1,.int ((10:Int) ^ (6:Int).toNat)]) h5
   have s5:=s4.trans t5
   have W:Two g (1,(10:Int) ^ (6:Int).toNat):=by
    rw [six]
    have b20:Bt 20 1000000:=by unfold Bt;decide
    exact ⟨fg.low.1,(show (0:Int) < 1000000 by decide),fg.top.mono (by omega),bt1 (by decide),fg.bb.mono (by omega),b20.mono (by decide),(fg.bb.mul b20).mono (by omega)⟩
   refine ⟨hp,a5,g,_,rfl,hg4.same s5,SqT.of qab,W,fun a6 h6=>?_⟩
   have t6:=qad (o:=.tup [.int (addR g (1,(10:Int) ^ (6:Int).toNat)).1,.int (addR g (1,(10:Int) ^ (6:Int).toNat)).2]) h6
   have s6:=s5.trans t6
   refine ⟨(show 5≤sizeLine by decide),fun l2 hl2=>?_⟩
   have t7:=qad (o:=.lst [.ref a1,.ref a2,.ref a3,.ref a4,.ref a6]) hl2
   have s7:=s6.trans t7
   have m5:Mid (addR g (1,(10:Int) ^ (6:Int).toNat)):=by rw [six];exact mid_plus fg (by omega)
   generalize hu5:addR g (1,(10:Int) ^ (6:Int).toNat)=u5 at *
   refine ⟨_,rfl,p,x3,y3,5,rfl,s7 _ _ hp4,by decide,by decide,fun r4 x4 y4 r40 r45=>?_⟩
   have up:=fun {z:Addr}{q:Int×Int} (hz:FrAt K _ z q)=>qg4 (o:=.lst [.int x4,.int y4]) (s7 _ _ hp4) hz
   have l2p:l2≠p:=fun z=>by rw [z,s6 _ _ hp4] at hl2;cases hl2
   obtain ⟨v,hv,hR⟩:=at5 (v0:=.ref a1) (v1:=.ref a2) (v2:=.ref a3) (v3:=.ref a4) (v4:=.ref a6) r40 r45 (R:=fun v=>∃ z q,v=.ref z∧FrAt K (upd (upd (upd (upd (upd (upd (upd (upd H4 a1 (.tup [.int 0,.int 1])) a2 (.tup [.int (-1),.int 2])) a3 (.tup [.int 3,.int 2])) a4 (.tup [.int 1,.int 1])) a5 (.tup [.int 1,.int ((10:Int) ^ (6:Int).toNat)])) a6 (.tup [.int u5.1,.int u5.2])) l2 (.lst [.ref a1,.ref a2,.ref a3,.ref a4,.ref a6])) p (.lst [.int x4,.int y4])) z q∧Mid q)
    ⟨a1,(0,1),rfl,up (SqT.of (t7 _ _ (t6 _ _ (t5 _ _ f1)))),mid_c 0 1 (by decide) rfl (by decide) (by decide)⟩
    ⟨a2,(-1,2),rfl,up (SqT.of (t7 _ _ (t6 _ _ (t5 _ _ f2)))),mid_c (-1) 2 (by decide) rfl (by decide) (by decide)⟩
    ⟨a3,(3,2),rfl,up (SqT.of (t7 _ _ (t6 _ _ (t5 _ _ f3)))),mid_c 3 2 (by decide) rfl (by decide) (by decide)⟩
    ⟨a4,(1,1),rfl,up (SqT.of (t7 _ _ (t6 _ _ (t5 _ _ qab)))),mid_c 1 1 (by decide) rfl (by decide) (by decide)⟩
    ⟨a6,u5,rfl,up (SqT.of (t7 _ _ qab)),m5⟩
   obtain ⟨z,q,rfl,hz,mz⟩:=hR
   refine ⟨l2,_,r4,_,rfl,rfl,SqL.of (by rw [qag l2p,qab]),hv,?_⟩
   exact fin z q _ hz mz ⟨_,_,qab⟩ fun c o e hc=>by rw [qag hc];exact s7 _ _ (fr4 c o e hc)
  ·refine ⟨_,rfl,rfl,_,rfl,ite2 (fun h4=>?_) (fun h4=>iteF ?_)⟩
   ·refine ⟨_,rfl,rfl,_,rfl,ite2 (fun h7=>?_) (fun h7=>?_)⟩
    ·have bs:Bt 30 (red (r3+1,2+r2)).2:=Bt.dvd (n:=2+r2) (bt30 (by omega) (by omega)) (by omega) (red_dvd (q:=(r3+1,2+r2)) b0)
     obtain ⟨lo,ev⟩:=qe1 (q:=(r3+1,2+r2)) b0
     simp only at ev
     have sv:0≤(red (r3+1,2+r2)).1∧(red (r3+1,2+r2)).1≤(red (r3+1,2+r2)).2:=by
      generalize red (r3+1,2+r2)=s at *
      have s0:=lo.1
      refine ⟨qdm b0 ?_,qdm b0 ?_⟩
      ·rw [ev,Int.zero_mul]
       exact Int.mul_nonneg (by omega) (Int.le_of_lt s0)
      ·rw [ev,Int.mul_comm s.2]
       exact Int.mul_le_mul_of_nonneg_right (by omega) (Int.le_of_lt s0)
     have ts:Bt 30 (red (r3+1,2+r2)).1:=by
      have b':(red (r3+1,2+r2)).2.natAbs < 2 ^ 30:=bs
      show (red (r3+1,2+r2)).1.natAbs < 2 ^ 30
      have:=lo.1
      omega
     have W:Two (red (r3+1,2+r2)) g:=⟨lo.1,fg.low.1,ts.mono (by decide),fg.top.mono (by omega),bs.mono (by decide),fg.bb.mono (by omega),(bs.mul fg.bb).mono (by omega)⟩
     refine ⟨_,rfl,_,rfl,x,hp,_,g,rfl,hx4,hg4,W,fun y hy=>?_⟩
     exact fin y _ _ (SqT.of qab) (mid_times fg (by omega) lo.1 sv.1 sv.2) ⟨_,_,qad hy _ _ hp4⟩ fun c o e hc=>qad hy _ _ (fr4 c o e hc)
    ·exact fin x _ _ hx4 M0 ⟨_,_,hp4⟩ fr4
   ·exact fin x _ _ hx4 M0 ⟨_,_,hp4⟩ fr4
end
end My
namespace My
open PySem L2 Fra
theorem ql1 (k:Nat) (l:List Str):(List.replicate k (l.map V.str)).flatten=((List.replicate k l).flatten).map V.str:=by
 rw [List.map_flatten,List.map_replicate]
theorem mem_rep {k:Nat}{l:List Str}{x:Str} (h:x∈(List.replicate k l).flatten):x∈l:=by
 obtain ⟨y,hy,hx⟩:=List.mem_flatten.mp h
 rw [(List.mem_replicate.mp hy).2] at hx
 exact hx
theorem cut_strs (l:List Str) (lo hi:Option Int):∃ cs:List Str,cutV (l.map V.str) lo hi=cs.map V.str∧(∀ c∈cs,c∈l)∧cs.length≤l.length:=by
 refine ⟨(l.drop (HT.sIx (l.map V.str).length 0 lo)).take (HT.sIx (l.map V.str).length (l.map V.str).length hi - HT.sIx (l.map V.str).length 0 lo),?_,fun c hc=>List.mem_of_mem_drop (List.mem_of_mem_take hc),?_⟩
 ·unfold cutV
  rw [List.map_take,List.map_drop]
 ·rw [List.length_take,List.length_drop]
  omega
def rInt:List V→Hp→VK→Prop:=fun xs H Q=>(∃ i,xs=[V.int i]∧Q (V.int i) H)∨∃ k,xs=[V.bl k]∧Q (V.int (if k=true then 1 else 0)) H
theorem cat_w {K:PySem.W.Frag}{σ:St}{Hx:Hp}{Q:VK}{la wl:Addr}{hs ws:List Str}{kk j:Int}{odd:Bool} (s1:σ[1]?=some (some (.ref wl))) (s3:σ[3]?=some (some (.bl odd))) (h1:Hx la=some (.lst (hs.map V.str))) (hw:Hx wl=some (.lst (ws.map V.str))) (hl:hs.length≤14) (w14:ws.length=14) (hk0:0≤kk) (hk:kk≤4)
  (k:∀ (q:Addr) (xs:List Str) (H':Hp),Same Hx H'→H' q=some (.lst (xs.map V.str))→(∀ x∈xs,x∈hs∨x∈ws)→kk.toNat * hs.length≤xs.length→xs.length < 1000→Hx q=none→Q (.ref q) H') :
  rRep (.ref la) (.int kk) Hx (fun x1 H1=>tSl (rSlL K) (tVar 1) qge (tPart (tC (.int j))) σ H1 fun y H2=>tCB rInt (qas (tVar 3) tNil) σ H2 fun z H3=>rRep y z H3 fun y' H4=>rCatR x1 y' H4 Q):=by
 refine ⟨la,kk,_,rfl,rfl,h1,by omega,by omega,?_,fun q1 hq1=>?_⟩
 ·rw [List.length_map]
  have h4:kk.toNat≤4:=by omega
  exact Nat.le_trans (Nat.mul_le_mul hl h4) (by decide)
 rw [ql1]
 have t1:Same Hx _:=qad (o:=.lst (((List.replicate kk.toNat hs).flatten).map V.str)) hq1
 obtain ⟨cs,ecs,mcs,lcs⟩:=cut_strs ws none (some j)
 refine ⟨_,s1,j,rfl,wl,_,rfl,SqL.of (t1 _ _ hw),fun q2 hq2=>?_⟩
 rw [ecs]
 have t2:=t1.trans (qad (o:=.lst (cs.map V.str)) hq2)
 refine ⟨_,s3,.inr ⟨_,rfl,q2,_,_,rfl,rfl,qab,?_,?_,?_,fun q3 hq3=>?_⟩⟩
 ·cases odd <;> decide
 ·cases odd <;> decide
 ·rw [List.length_map]
  have:(if odd=true then (1:Int) else 0).toNat≤1:=by cases odd <;> decide
  exact Nat.le_trans (Nat.mul_le_mul lcs this) (by rw [w14];decide)
 rw [ql1]
 have n12:q1≠q2:=qae qab hq2
 have n13:q1≠q3:=qae (qad hq2 _ _ qab) hq3
 have t3:=t2.trans (qad (o:=.lst (((List.replicate (if odd=true then (1:Int) else 0).toNat cs).flatten).map V.str)) hq3)
 have l1:((List.replicate kk.toNat hs).flatten).length=kk.toNat * hs.length:=qlk hs _
 have l2:((List.replicate (if odd=true then (1:Int) else 0).toNat cs).flatten).length≤14:=by
  rw [qlk]
  have:(if odd=true then (1:Int) else 0).toNat≤1:=by cases odd <;> decide
  exact Nat.le_trans (Nat.mul_le_mul this lcs) (by omega)
 have l3:kk.toNat * hs.length≤56:=Nat.le_trans (Nat.mul_le_mul (show kk.toNat≤4 by omega) hl) (by decide)
 refine ⟨q1,q3,_,_,rfl,rfl,.inl (by rw [qag n13,qag n12,qab]),.inl qab,?_,fun q4 hq4=>?_⟩
 ·rw [List.length_map,List.length_map,l1]
  exact Nat.le_trans (Nat.add_le_add l3 l2) (by decide)
 refine k q4 ((List.replicate kk.toNat hs).flatten++(List.replicate (if odd=true then (1:Int) else 0).toNat cs).flatten) _ (t3.trans (qad hq4)) ?_ (fun x hx=>?_) ?_ ?_ (t3.free hq4)
 ·rw [qab,List.map_append]
 ·rcases List.mem_append.mp hx with q | q
  ·exact .inl (mem_rep q)
  ·exact .inr (mcs x (mem_rep q))
 ·rw [List.length_append,l1];omega
 ·rw [List.length_append,l1];omega
theorem qik {α β:Type}{R:α→β→Prop}:∀ {l:List α}{vs:List β}{i:Nat}{q:α},Paired R l vs→l[i]?=some q→∃ v,vs[i]?=some v∧R q v
 | _,_,_,_,.nil,h=>by cases h
 | _,_,0,q,.cons r _,h=>⟨_,rfl,by cases h;exact r⟩
 | _,_,i+1,q,.cons _ t,h=>by
  obtain ⟨v,hv,r⟩:=qik (i:=i) t (by simpa using h)
  exact ⟨v,by simpa using hv,r⟩
section
variable {P:Program}{w:World}{K:PySem.W.Frag}{mg:Str→Option Value}{base:Heap}{a:Adr}{f:Addr}{fd:FuncData}
structure Drw (K:PySem.W.Frag) (c:Nat) (H:Hp) (p wl m pl ed:Addr) (ppl:List Str) (M:List (Ent×Addr×Addr)) (ws:List Str):Prop where
 pu:qbx H p
 hw:H wl=some (.lst (ws.map V.str))
 wp:wl≠p
 w14:ws.length=14
 wsm:∀ w∈ws,Sm w
 md:ModAt K H m pl ed ppl M
 he:∃ kvs,H ed=some (.dK kvs)
 pM:p∉MFp m pl ed M
 h6:ppl.length≤6
 h8:M.length≤8
 sp:∀ n∈ppl,Sm n
 sm:∀ e∈M,Sm e.1.nm
 hr:∀ e∈M,∃ hl,HR c hl e.1.held
 nd:(M.map (·.1.nm)).Nodup
 c44:c≤44
theorem Drw.keep {c:Nat}{H H':Hp}{p wl m pl ed:Addr}{ppl:List Str}{M:List (Ent×Addr×Addr)}{ws:List Str} (D:Drw K c H p wl m pl ed ppl M ws) (pu:qbx H' p) (fr:∀ c o,H c=some o→c≠p→H' c=some o):Drw K c H' p wl m pl ed ppl M ws:=by
 obtain ⟨kvs,hed⟩:=D.he
 have edp:ed≠p:=fun z=>D.pM (by rw [← z];simp [MFp])
 have ekv:kvs=M.map fun e=>((Sum.inr e.1.nm:Key),V.ref e.2.1):=by
  rcases D.md.en with q | ⟨ob,q⟩
  ·rw [hed] at q;cases q;rfl
  ·rw [hed] at q;cases q
 refine ⟨pu,fr _ _ D.hw D.wp,D.wp,D.w14,D.wsm,D.md.keep (.inl (by rw [← ekv];exact fr _ _ hed edp)) (fun c o h _ x=>fr c o h fun z=>?_),⟨kvs,fr _ _ hed edp⟩,D.pM,D.h6,D.h8,D.sp,D.sm,D.hr,D.nd,D.c44⟩
 rcases x with x | x
 ·exact D.pM (z ▸ x)
 ·obtain ⟨a,b,e⟩:=D.pu
  rw [z,e] at h
  cases h
  rcases x with ⟨xs,y | ⟨ob,y⟩⟩ <;> cases y
abbrev qc7:Stmt:=top 48
theorem sc__law_sale:FnScope ["_law_purse_here","_law_words","_law_model","_law_odd","_law_people","_law_entries","_law_holders","_law_house","_law_one_here","_law_has","_law_having","_law_at"] ["_law_purse_here","_law_words","_law_model","_law_odd"] (qaj qc7):=⟨rfl,rfl,rfl,by decide +kernel,rfl,by decide +kernel,by decide +kernel⟩
def qi6 (K:PySem.W.Frag):Sp:=fun vs H Q _=>∃ (c:Nat) (p wl m pl ed:Addr) (ppl:List Str) (M:List (Ent×Addr×Addr)) (ws:List Str) (odd:Bool),vs=[.ref p,.ref wl,.ref m,.bl odd]∧Drw K c H p wl m pl ed ppl M ws∧0 < M.length ∧
 ∀ d h o1 o2 q H',DeedAt K H' d (.sal h o1 o2 q)→(Deed.sal h o1 o2 q).ok→qbx H' p→(∀ c o,H c=some o→c≠p→H' c=some o)→Q (.ref d) H'
theorem ok_lsale (F:Fun K "_law_sale" "_law_sale" qc7 f fd) (T:Txt K mg a) (F__law_take:Fn P w K mg base "_law_take" 1 ["_law_purse_here","_law_many"] qdy) (F__law_one:Fn P w K mg base "_law_one" 2 ["_law_purse_here","_law_words","_law_odd"] qfy)
  (F__law_shares:Fn P w K mg base "_law_shares" 1 ["_law_model","_law_house"] (qgi K)) (F__law_part:Fn P w K mg base "_law_part" 4 ["_law_purse_here","_law_has"] (qgh K)):FnOk P w K mg base (CXo P w) 5 f fd ["_law_purse_here","_law_words","_law_model","_law_odd"] (qi6 K):=by
 refine F.okN sc__law_sale (fun vs H Q E h=>?_) (fun cdv A outer s H vs Q E hr h=>?_)
 ·obtain ⟨c,p,wl,m,pl,ed,ppl,M,ws,odd,rfl,_⟩:=h
  rfl
 ·obtain ⟨c,p,wl,m,pl,ed,ppl,M,ws,odd,rfl,D0,hM,k⟩:=h
  have hu:=qbk hr
  refine ⟨_,(@qaf _ _ _ _ _ (@qgr _ _ _ _ _ _ (pv 2) (qkc rfl (qbm (qbe (i:=4) sc__law_sale.nd rfl (Or.inl rfl)) (qbm (qbe (i:=5) sc__law_sale.nd rfl (Or.inl rfl)) qeo))) (by rfl) (by rfl) (by rfl)) (@qaf _ _ _ _ _ (@qaq _ _ (6) _ _ _ _ sc__law_sale.nd rfl (Or.inl rfl) (@qaw _ _ _ _ _ _ _ _ qep (@qap _ _ _ _ _ _ _ _ _ qd8 rfl T.b_sorted qbr (@qaa _ _ _ _ _ (pv 4) qah (by rfl)) (by decide) (by decide) (by rfl) (by rfl)) (@qap _ _ _ _ _ _ _ _ _ (qbg rfl) rfl T.b_sorted qbr (@qaa _ _ _ _ _ (pv 5) qah (by rfl)) (by decide) (by decide) (by rfl) (by rfl))) (by rfl) (by first | exact .inl rfl | exact .inr rfl | assumption)) (@qaf _ _ _ _ _ (@qaq _ _ (7) _ _ _ _ sc__law_sale.nd rfl (Or.inl rfl) (@qa1 _ _ _ _ _ _ _ _ _ _ _ F__law_one (hr.mono (by first | decide | omega)) rfl qan (@qaa _ _ _ _ _ (pv 0) (@qaa _ _ _ _ _ (@qaw _ _ _ _ _ _ _ _ qep (@qaw _ _ _ _ _ _ _ _ qev (@qap _ _ _ _ _ _ _ _ _ (qbg rfl) rfl T.b_sorted qbr (@qaa _ _ _ _ _ (pv 5) qah (by rfl)) (by decide) (by decide) (by rfl) (by rfl)) qac) (@qaw _ _ _ _ _ _ _ _ qev (@qff _ _ _ _ _ _ _ _ _ _ qhg (pv 1) qhj (qfo qac)) (@qbq _ _ _ _ _ _ _ _ _ qc2 rfl T.b_int qgd (@qaa _ _ _ _ _ (pv 3) qah (by rfl)) (by decide) (by decide) (by rfl) (by rfl)))) (@qaa _ _ _ _ _ (pv 3) qah (by rfl)) (by rfl)) (by rfl)) (by decide) (by rfl) (by rfl)) (by rfl) (by first | exact .inl rfl | exact .inr rfl | assumption)) (@qaf _ _ _ _ _ (@qaq _ _ (8) _ _ _ _ sc__law_sale.nd rfl (Or.inl rfl) (@qa1 _ _ _ _ _ _ _ _ _ _ _ F__law_one (hr.mono (by first | decide | omega)) rfl qan (@qaa _ _ _ _ _ (pv 0) (@qaa _ _ _ _ _ (pv 6) (@qaa _ _ _ _ _ (pv 3) qah (by rfl)) (by rfl)) (by rfl)) (by decide) (by rfl) (by rfl)) (by rfl) (by first | exact .inl rfl | exact .inr rfl | assumption)) (@qaf _ _ _ _ _ (@qaq _ _ (9) _ _ _ _ sc__law_sale.nd rfl (Or.inl rfl) (@qbn _ _ _ _ _ (@qaa _ _ _ _ _ qac (@qaa _ _ _ _ _ qac qah (by rfl)) (by rfl))) (by rfl) (by first | exact .inl rfl | exact .inr rfl | assumption)) (@qaf _ _ _ _ _ (@qbi _ _ _ _ _ _ _ _ (qj9 (ql6 hu (pv 7) (pv 5))) (@qaf _ _ _ _ _ (@qaq _ _ (10) _ _ _ _ sc__law_sale.nd rfl (Or.inl rfl) (@qa1 _ _ _ _ _ _ _ _ _ _ _ F__law_shares (hr.mono (by first | decide | omega)) rfl qan (@qaa _ _ _ _ _ (pv 2) (@qaa _ _ _ _ _ (pv 7) qah (by rfl)) (by rfl)) (by decide) (by rfl) (by rfl)) (by rfl) (by first | exact .inl rfl | exact .inr rfl | assumption)) (@qaf _ _ _ _ _ (@qaq _ _ (11) _ _ _ _ sc__law_sale.nd rfl (Or.inl rfl) (@qa1 _ _ _ _ _ _ _ _ _ _ _ F__law_take (hr.mono (by first | decide | omega)) rfl qan (@qaa _ _ _ _ _ (pv 0) (@qaa _ _ _ _ _ (@qaw _ _ _ _ _ _ _ _ qfk qac (@qap _ _ _ _ _ _ _ _ _ qcu rfl T.b_len qei (@qaa _ _ _ _ _ (pv 10) qah (by rfl)) (by decide) (by decide) (by rfl) (by rfl))) qah (by rfl)) (by rfl)) (by decide) (by rfl) (by rfl)) (by rfl) (by first | exact .inl rfl | exact .inr rfl | assumption)) (@qaf _ _ _ _ _ (@qbi _ _ _ _ _ _ _ _ (@qau _ _ _ _ _ _ _ _ qji (pv 11) (@qaw _ _ _ _ _ _ _ _ qfk qac (@qap _ _ _ _ _ _ _ _ _ qcu rfl T.b_len qei (@qaa _ _ _ _ _ (pv 10) qah (by rfl)) (by decide) (by decide) (by rfl) (by rfl))) (qay _)) (@qak _ _ _ (@qaq _ _ (8) _ _ _ _ sc__law_sale.nd rfl (Or.inl rfl) (@qam _ _ _ _ _ _ _ qal (@qam _ _ _ _ _ _ _ qa0 (pv 10) (@qaw _ _ _ _ _ _ _ _ qdq (pv 11) qac) (fun _ _=>rfl)) qac (fun _ _=>rfl)) (by rfl) (by first | exact .inl rfl | exact .inr rfl | assumption))) qax) (@qak _ _ _ (@qaq _ _ (9) _ _ _ _ sc__law_sale.nd rfl (Or.inl rfl) (@qf7 _ _ _ _ _ _ _ _ _ hu (@qam _ _ _ _ _ _ _ qa0 (@qdi _ _ _ _ _ _ hu (pv 5) (pv 7) (fun _ _=>rfl)) qac (fun _ _=>rfl)) (pv 8) (@qbn _ _ _ _ _ (@qaa _ _ _ _ _ qac (@qaa _ _ _ _ _ qac qah (by rfl)) (by rfl))) ⟨rfl,rfl,rfl,rfl⟩) (by rfl) (by first | exact .inl rfl | exact .inr rfl | assumption)))))) qax) (@qaf _ _ _ _ _ (@qbi _ _ _ _ _ _ _ _ (@qau _ _ _ _ _ _ _ _ qea (@qam _ _ _ _ _ _ _ qal (pv 9) qac (fun _ _=>rfl)) qac (qay _)) (@qak _ _ _ (@qaq _ _ (9) _ _ _ _ sc__law_sale.nd rfl (Or.inl rfl) (@qbn _ _ _ _ _ (@qaa _ _ _ _ _ qac (@qaa _ _ _ _ _ qac qah (by rfl)) (by rfl))) (by rfl) (by first | exact .inl rfl | exact .inr rfl | assumption))) qax) (@qak _ _ _ (@qav _ _ _ _ (@qbn _ _ _ _ _ (@qaa _ _ _ _ _ qa5 (@qaa _ _ _ _ _ (pv 7) (@qaa _ _ _ _ _ (pv 8) (@qaa _ _ _ _ _ (@qa1 _ _ _ _ _ _ _ _ _ _ _ F__law_one (hr.mono (by first | decide | omega)) rfl qan (@qaa _ _ _ _ _ (pv 0) (@qaa _ _ _ _ _ (@qaw _ _ _ _ _ _ _ _ qep (@qaw _ _ _ _ _ _ _ _ qev (pv 6) qac) (@qaw _ _ _ _ _ _ _ _ qev (@qff _ _ _ _ _ _ _ _ _ _ qhg (pv 1) qhj (qfo qac)) (@qbq _ _ _ _ _ _ _ _ _ qc2 rfl T.b_int qgd (@qaa _ _ _ _ _ (pv 3) qah (by rfl)) (by decide) (by decide) (by rfl) (by rfl)))) (@qaa _ _ _ _ _ (pv 3) qah (by rfl)) (by rfl)) (by rfl)) (by decide) (by rfl) (by rfl)) (@qaa _ _ _ _ _ (@qa1 _ _ _ _ _ _ _ _ _ _ _ F__law_part (hr.mono (by first | decide | omega)) rfl qan (@qaa _ _ _ _ _ (pv 0) (@qaa _ _ _ _ _ (pv 9) qah (by rfl)) (by rfl)) (by decide) (by rfl) (by rfl)) qah (by rfl)) (by rfl)) (by rfl)) (by rfl)) (by rfl)))))))))))),?_⟩
  obtain ⟨kvs,hed⟩:=D0.he
  have ekv:kvs=M.map fun e=>((Sum.inr e.1.nm:Key),V.ref e.2.1):=by
   rcases D0.md.en with q | ⟨ob,q⟩
   ·rw [hed] at q;cases q;rfl
   ·rw [hed] at q;cases q
  subst ekv
  refine ⟨_,rfl,m,_,rfl,SqL.of D0.md.ob,rfl,_,_,rfl,_,_,rfl,rfl,?_⟩
  refine ⟨_,rfl,pl,ppl,rfl,SqL.of D0.md.pp,Nat.lt_of_le_of_lt D0.h6 (by decide),fun l1 hl1=>?_⟩
  have s1:Same H _:=qad (o:=.lst ((srt ppl).map V.str)) hl1
  refine ⟨_,rfl,ed,_,M.map (·.1.nm),rfl,.inl (s1 _ _ hed),by rw [List.map_map,List.map_map];rfl,by rw [List.length_map];exact Nat.lt_of_le_of_lt D0.h8 (by decide),fun l2 hl2=>?_⟩
  have l12:l1≠l2:=qae qab hl2
  refine ⟨l1,l2,_,_,rfl,rfl,.inl (by rw [qag l12,qab]),.inl qab,?_,fun hl hhl=>?_⟩
  ·rw [List.length_map,List.length_map,qat,qat,List.length_map]
   exact Nat.le_trans (Nat.add_le_add D0.h6 D0.h8) (by decide)
  have s2:=s1.trans (qad (o:=.lst ((srt (M.map (·.1.nm))).map V.str)) hl2)
  have s3:=s2.trans (qad (o:=.lst ((srt ppl).map V.str++(srt (M.map (·.1.nm))).map V.str)) hhl)
  generalize hH3:upd (upd (upd H l1 (.lst ((srt ppl).map V.str))) l2 (.lst ((srt (M.map (·.1.nm))).map V.str))) hl (.lst ((srt ppl).map V.str++(srt (M.map (·.1.nm))).map V.str))=H3 at s3 ⊢
  have hh3:H3 hl=some (.lst ((srt ppl++srt (M.map (·.1.nm))).map V.str)):=by rw [← hH3,qab,List.map_append]
  have hl_p:hl≠p:=fun z=>by
   obtain ⟨u,v,e⟩:=D0.pu
   have:=s2 _ _ e
   rw [← z,hhl] at this
   cases this
  have hsm:∀ n∈srt ppl++srt (M.map (·.1.nm)),Sm n:=fun n hn=>by
   rcases List.mem_append.mp hn with q | q
   ·exact D0.sp n ((qaz _).mem_iff.mp q)
   ·obtain ⟨e,he,rfl⟩:=List.mem_map.mp ((qaz _).mem_iff.mp q)
    exact D0.sm e he
  have hlen:(srt ppl++srt (M.map (·.1.nm))).length≤14:=by
   rw [List.length_append,qat,qat,List.length_map]
   exact Nat.add_le_add D0.h6 D0.h8
  have hpos:0 < (srt ppl++srt (M.map (·.1.nm))).length:=by
   rw [List.length_append,qat,qat,List.length_map]
   omega
  generalize hhs:srt ppl++srt (M.map (·.1.nm))=hs at hh3 hsm hlen hpos
  have D3:=D0.keep (H':=H3) ⟨_,_,s3 _ _ D0.pu.choose_spec.choose_spec⟩ fun c o e _=>s3 c o e
  have fr3:∀ c o,H c=some o→c≠p→H3 c=some o:=fun c o e _=>s3 c o e
  clear hH3 hhl hl1 hl2 l12
  have hed3:=s3 _ _ hed
  have fin:∀ (hn on:Str) (x9:Addr) (g:Int×Int) (v10 v11:Option V) H9,Sm hn→Sm on→FrAt K H9 x9 g→FrC c g→Drw K c H9 p wl m pl ed ppl M ws→H9 hl=some (.lst (hs.map V.str))→(∀ c o,H c=some o→c≠p→H9 c=some o) →
    tSeq (tIfS (tTest (tOp rEq (tOp (rIxT K) (tVar 9) (tC (V.int 0))) (tC (V.int 0)))) (tAsg (tTup (qas (tC (V.int 1)) (qas (tC (V.int 1)) tNil))) (qft 9)) tNext)
     (tRet (tTup (qas (tC (V.str (Str.ofString "sale"))) (qas (tVar 7) (qas (tVar 8) (qas (qej qfy [] E0 (qas (tVar 0) (qas (tOp rCatR (tOp rRep (tVar 6) (tC (V.int 3))) (tOp rRep (tSl (rSlL K) (tVar 1) qge (tPart (tC (V.int 2)))) (tCB rInt (qas (tVar 3) tNil)))) (qas (tVar 3) tNil)))) (qas (qej (qgh K) [] E0 (qas (tVar 0) (qas (tVar 9) tNil))) tNil)))))))
     {nx:=fun x H'=>Q V.non H',rt:=Q } [some (.ref p),some (.ref wl),some (.ref m),some (.bl odd),some (.ref pl),some (.ref ed),some (.ref hl),some (.str hn),some (.str on),some (.ref x9),v10,v11] H9:=by
   intro hn on x9 g v10 v11 H9 shn son fx fg D9 hh9 fr9
   have ret:∀ x9 g H9,FrAt K H9 x9 g→FrC c g→Drw K c H9 p wl m pl ed ppl M ws→H9 hl=some (.lst (hs.map V.str))→(∀ c o,H c=some o→c≠p→H9 c=some o) →
     tRet (tTup (qas (tC (V.str (Str.ofString "sale"))) (qas (tVar 7) (qas (tVar 8) (qas (qej qfy [] E0 (qas (tVar 0) (qas (tOp rCatR (tOp rRep (tVar 6) (tC (V.int 3))) (tOp rRep (tSl (rSlL K) (tVar 1) qge (tPart (tC (V.int 2)))) (tCB rInt (qas (tVar 3) tNil)))) (qas (tVar 3) tNil)))) (qas (qej (qgh K) [] E0 (qas (tVar 0) (qas (tVar 9) tNil))) tNil))))))
      {nx:=fun x H'=>Q V.non H',rt:=Q } [some (.ref p),some (.ref wl),some (.ref m),some (.bl odd),some (.ref pl),some (.ref ed),some (.ref hl),some (.str hn),some (.str on),some (.ref x9),v10,v11] H9:=by
    intro x9 g H9 fx fg D9 hh9 fr9
    refine ⟨_,rfl,_,rfl,_,rfl,_,rfl,cat_w rfl rfl hh9 D9.hw hlen D9.w14 (by decide) (by decide) fun q xs H10 s10 hq mem le1 le2 hq0=>?_⟩
    have qp:q≠p:=fun z=>by
     obtain ⟨u,v,e⟩:=D9.pu
     rw [← z,hq0] at e
     cases e
    refine ⟨_,rfl,p,q,xs,odd,rfl,⟨_,_,s10 _ _ D9.pu.choose_spec.choose_spec⟩,hq,qp,Nat.lt_of_lt_of_le (Nat.lt_of_lt_of_le hpos (Nat.le_mul_of_pos_left _ (by decide))) le1,le2,fun x hx=>(mem x hx).elim (hsm x) (D9.wsm x),fun o2 H11 so2 pu11 fr11=>?_⟩
    have fx11:FrAt K H11 x9 g:=qbd fx fun c o e y=>fr11 c o (s10 _ _ e) fun z=>by
     obtain ⟨u,v,e'⟩:=D9.pu
     rw [z,e'] at e
     cases e
     rcases y with ⟨xs,y | ⟨ob,y⟩⟩ <;> cases y
    refine ⟨_,rfl,_,rfl,c,p,x9,g,rfl,pu11,fx11,fg,D0.c44,fun x12 q12 H12 hx12 sh12 pu12 fr12=>?_⟩
    refine ⟨(show 5≤sizeLine by decide),fun d hd=>k d hn on o2 q12 _ ⟨x12,SqT.of qab,hx12.same (qad hd)⟩ ⟨shn,son,so2,sh12⟩ ⟨_,_,qad hd _ _ pu12.choose_spec.choose_spec⟩ fun c o e hc=>?_⟩
    exact qad hd _ _ (fr12 c o (fr11 c o (s10 _ _ (fr9 c o e hc)) hc) hc)
   refine ⟨_,rfl,x9,_,0,_,rfl,rfl,fx,qai (j:=0) rfl,rfl,_,rfl,ite2 (fun h=>?_) (fun h=>?_)⟩
   ·refine ⟨(show 2≤sizeLine by decide),fun t ht=>?_⟩
    have st:=qad (o:=.tup [.int 1,.int 1]) ht
    exact ret t (1,1) _ (SqT.of qab) (frc1 c) (D9.keep ⟨_,_,st _ _ D9.pu.choose_spec.choose_spec⟩ fun c o e _=>st c o e) (st _ _ hh9) fun c o e hc=>st _ _ (fr9 c o e hc)
   ·exact ret x9 g H9 fx fg D9 hh9 fr9
  refine ⟨_,rfl,_,rfl,ed,_,M.map (·.1.nm),rfl,.inl hed3,by rw [List.map_map,List.map_map];rfl,by rw [List.length_map];exact Nat.lt_of_le_of_lt D0.h8 (by decide),fun l3 hl3=>?_⟩
  have s4:=qad (o:=.lst ((srt (M.map (·.1.nm))).map V.str)) hl3
  refine cat_w (hs:=srt (M.map (·.1.nm))) rfl rfl qab (s4 _ _ D3.hw) (by rw [qat,List.length_map];exact Nat.le_trans D0.h8 (by decide)) D0.w14 (by decide) (by decide) fun q xs H5 s5 hq mem le1 le2 hq0=>?_
  have s5:Same H3 H5:=s4.trans s5
  have qp:q≠p:=fun z=>by
   obtain ⟨u,v,e⟩:=D3.pu
   have:=s4 _ _ e
   rw [← z,hq0] at this
   cases this
  refine ⟨_,rfl,p,q,xs,odd,rfl,⟨_,_,s5 _ _ D3.pu.choose_spec.choose_spec⟩,hq,qp,?_,le2,fun x hx=>?_,fun hn H6 shn pu6 fr6=>?_⟩
  ·rw [qat,List.length_map] at le1
   have:1 * M.length≤(4:Int).toNat * M.length:=Nat.mul_le_mul_right _ (by decide)
   omega
  ·rcases mem x hx with y | y
   ·obtain ⟨e,he,rfl⟩:=List.mem_map.mp ((qaz _).mem_iff.mp y)
    exact D0.sm e he
   ·exact D0.wsm x y
  have F6:∀ c o,H3 c=some o→c≠p→H6 c=some o:=fun c o e hc=>fr6 c o (s5 _ _ e) hc
  have D6:=D3.keep pu6 F6
  have hh6:=F6 _ _ hh3 hl_p
  refine ⟨_,rfl,_,rfl,_,rfl,p,hl,hs,odd,rfl,pu6,hh6,hl_p,hpos,by omega,hsm,fun on H7 son pu7 fr7=>?_⟩
  have D7:=D6.keep pu7 fr7
  have hh7:=fr7 _ _ hh6 hl_p
  refine ⟨(show 2≤sizeLine by decide),fun t1 ht1=>?_⟩
  have st1:=qad (o:=.tup [.int 1,.int 1]) ht1
  have D8:=D7.keep ⟨_,_,st1 _ _ D7.pu.choose_spec.choose_spec⟩ fun c o e _=>st1 c o e
  have hh8:=st1 _ _ hh7
  have fr8:∀ c o,H c=some o→c≠p→(upd H7 t1 (.tup [.int 1,.int 1])) c=some o:=fun c o e hc=>st1 _ _ (fr7 c o (F6 c o (s3 _ _ e) hc) hc)
  have ft1:FrAt K (upd H7 t1 (.tup [.int 1,.int 1])) t1 (1,1):=SqT.of qab
  generalize hH8:upd H7 t1 (.tup [.int 1,.int 1])=H8 at D8 hh8 fr8 ft1 ⊢
  clear hH8 st1 ht1
  refine ⟨_,rfl,_,rfl,ed,_,rfl,.inl ⟨_,Sum.inr hn,D8.md.en,rfl,rfl⟩,_,rfl,ite2 (fun h=>?_) (fun h=>?_)⟩
  ·rw [qcz (key:=fun e:Ent×Addr×Addr=>e.1.nm),qe6] at h
   obtain ⟨e,he⟩:=Option.isSome_iff_exists.mp h
   have he:qef M hn=some e:=he
   have hem:=qcy he
   obtain ⟨hlv,hR⟩:=D0.hr e hem
   refine ⟨_,rfl,_,rfl,m,pl,ed,ppl,M,hn,e,rfl,D8.md,he,Nat.lt_of_le_of_lt hR.l2 (by have:=D0.c44;omega),fun lv ys H9 hlv0 s9 e9 p9=>?_⟩
   have D9:=D8.keep ⟨_,_,s9 _ _ D8.pu.choose_spec.choose_spec⟩ fun c o e _=>s9 c o e
   have hh9:=s9 _ _ hh8
   have fr9:∀ c o,H c=some o→c≠p→H9 c=some o:=fun c o e hc=>s9 _ _ (fr8 c o e hc)
   have lenE:ys.length=(shown e.1.held).length:=(p9.length).symm
   have shE:=hR.shown
   have lenH:(shown e.1.held).length=hlv.length:=by rw [shE,List.length_map,qat,List.length_map]
   have ypos:0 < ys.length:=by
    obtain ⟨n,hn'⟩:=hR.ex
    have:=(hR.nm n).mpr hn'
    rw [lenE,lenH]
    cases hlv with
    | nil=>cases this
    | cons=>exact Nat.succ_pos _
   have yle:ys.length≤46:=by rw [lenE,lenH];have:=hR.l1;have:=D0.c44;omega
   obtain ⟨pu1,pu2,hpu9⟩:=D9.pu
   refine ⟨_,rfl,_,rfl,lv,ys,rfl,.inl (SqL.of e9),_,_,rfl,rfl,.inl ⟨by decide,by decide⟩,p,pu1,pu2,_,rfl,hpu9,by omega,by omega,fun at_ x10 y10 a0 a1=>?_⟩
   have lvp:lv≠p:=fun z=>by
    rw [z,hpu9] at e9
    obtain ⟨u,v,e'⟩:=D8.pu
    rw [z,e'] at hlv0
    cases hlv0
   have fr10:∀ c o,H9 c=some o→c≠p→(upd H9 p (.lst [.int x10,.int y10])) c=some o:=fun c o e hc=>by rw [qag hc];exact e
   have D10:=D9.keep ⟨_,_,qab⟩ fr10
   have hh10:=fr10 _ _ hh9 hl_p
   have e10:=fr10 _ _ e9 lvp
   have p10:Paired (PairAt K (upd H9 p (.lst [.int x10,.int y10]))) (shown e.1.held) ys:=Paired.mapP p9 fun q v hq=>hq.keep (qfl hpu9)
   have F10:∀ c o,H c=some o→c≠p→(upd H9 p (.lst [.int x10,.int y10])) c=some o:=fun c o e hc=>fr10 c o (fr9 c o e hc) hc
   generalize hH10:upd H9 p (.lst [.int x10,.int y10])=H10 at D10 hh10 e10 p10 F10 ⊢
   clear hH10 fr10
   obtain ⟨zz,Z⟩:=(D10.md.he e hem).toZ
   have rest:∀ on':Str,Sm on'→∀ v,v=on' →
     tAsg (tDGet2 (tOp (rIxL K) (tDGet (tVar 5) (tVar 7)) (tC (V.int 3))) (tVar 8) (tTup (qas (tC (V.int 0)) (qas (tC (V.int 1)) tNil)))) (qft 9)
      {nx:=tSeq (tIfS (tTest (tOp rEq (tOp (rIxT K) (tVar 9) (tC (V.int 0))) (tC (V.int 0)))) (tAsg (tTup (qas (tC (V.int 1)) (qas (tC (V.int 1)) tNil))) (qft 9)) tNext)
        (tRet (tTup (qas (tC (V.str (Str.ofString "sale"))) (qas (tVar 7) (qas (tVar 8) (qas (qej qfy [] E0 (qas (tVar 0) (qas (tOp rCatR (tOp rRep (tVar 6) (tC (V.int 3))) (tOp rRep (tSl (rSlL K) (tVar 1) qge (tPart (tC (V.int 2)))) (tCB rInt (qas (tVar 3) tNil)))) (qas (tVar 3) tNil)))) (qas (qej (qgh K) [] E0 (qas (tVar 0) (qas (tVar 9) tNil))) tNil)))))))
        {nx:=fun x H'=>Q V.non H',rt:=Q },rt:=Q }
      [some (.ref p),some (.ref wl),some (.ref m),some (.bl odd),some (.ref pl),some (.ref ed),some (.ref hl),some (.str hn),some (.str v),some (.ref t1),some (.ref lv),some (.int at_)] H10:=by
    intro on' son' v rfl
    refine ⟨_,rfl,_,rfl,ed,_,rfl,D10.md.get he,e.2.1,_,3,_,rfl,rfl,SqL.of (D10.md.el e hem),qai (j:=3) rfl,e.2.2,rfl,.inl ⟨_,.inl Z.2.1⟩,_,rfl,(show 2≤sizeLine by decide),fun t ht=>?_⟩
    have st:=qad (o:=.tup [.int 0,.int 1]) ht
    have Zt:=Z.same st
    obtain ⟨y0,hy0,fy0⟩:=Zt.get (o:=t) (SqT.of qab) v
    refine ⟨_,DGet.k (k:=Sum.inr v) Zt.2.1,?_⟩
    rw [hy0]
    refine fin hn v y0 _ _ _ _ shn son' fy0 (by rw [← hR.q];exact hR.fr v) (D10.keep ⟨_,_,st _ _ D10.pu.choose_spec.choose_spec⟩ fun c o e _=>st c o e) (st _ _ hh10) fun c o e hc=>st _ _ (F10 c o e hc)
   refine ⟨_,rfl,_,rfl,lv,ys,rfl,.inl (SqL.of e10),_,_,rfl,rfl,.inl ⟨by decide,by decide⟩,_,_,rfl,rfl,_,rfl,ite2 (fun h3=>?_) (fun h3=>?_)⟩
   ·have h3:at_ < 3 * (ys.length:Int):=of_decide_eq_true h3
    have hi:(at_ / 3).toNat < ys.length:=by omega
    obtain ⟨q,hq⟩:∃ q,(shown e.1.held)[(at_ / 3).toNat]?=some q:=⟨_,List.getElem?_eq_getElem (by rw [← lenE];exact hi)⟩
    obtain ⟨v,hv,t,u,rfl,ht,hu'⟩:=qik p10 hq
    have hvI:atI ys (at_ / 3)=some (.ref t):=by
     have e3:at_ / 3=(((at_ / 3).toNat:Nat):Int):=by omega
     rw [e3]
     exact qai hv
    refine ⟨_,rfl,_,rfl,_,_,rfl,rfl,⟨by decide,by decide⟩,lv,_,at_ / 3,_,rfl,rfl,SqL.of e10,hvI,t,_,0,_,rfl,rfl,ht,qai (j:=0) rfl,?_⟩
    refine rest q.1 ?_ _ rfl
    have qm:=List.mem_of_getElem? hq
    unfold My.shown at qm
    obtain ⟨n,hn',rfl⟩:=List.mem_map.mp (List.mem_filter.mp qm).1
    rw [qdn]
    exact hR.sm n ((qaz _).mem_iff.mp hn')
   ·exact rest on son _ rfl
  ·exact fin hn on t1 (1,1) _ _ H8 shn son ft1 (frc1 c) D8 hh8 fr8
end
end My
namespace My
open PySem L2 Fra
section
variable {P:Program}{w:World}{K:PySem.W.Frag}{mg:Str→Option Value}{base:Heap}{a:Adr}{f:Addr}{fd:FuncData}
theorem Drw.qp {c:Nat}{H:Hp}{p wl m pl ed q:Addr}{ppl:List Str}{M:List (Ent×Addr×Addr)}{ws:List Str} (D:Drw K c H p wl m pl ed ppl M ws) (h:H q=none):q≠p:=fun z=>by
 obtain ⟨u,v,e⟩:=D.pu
 rw [← z,h] at e
 cases e
theorem Drw.same {c:Nat}{H H':Hp}{p wl m pl ed:Addr}{ppl:List Str}{M:List (Ent×Addr×Addr)}{ws:List Str} (D:Drw K c H p wl m pl ed ppl M ws) (s:Same H H'):Drw K c H' p wl m pl ed ppl M ws :=
 D.keep ⟨_,_,s _ _ D.pu.choose_spec.choose_spec⟩ fun c o e _=>s c o e
theorem Drw.keys {c:Nat}{H:Hp}{p wl m pl ed:Addr}{ppl:List Str}{M:List (Ent×Addr×Addr)}{ws:List Str} (D:Drw K c H p wl m pl ed ppl M ws):H ed=some (.dK (M.map fun e=>((Sum.inr e.1.nm:Key),V.ref e.2.1))):=by
 obtain ⟨kvs,hed⟩:=D.he
 rcases D.md.en with q | ⟨ob,q⟩
 ·exact q
 ·rw [hed] at q;cases q
abbrev qcs:Stmt:=top 49
theorem sc__law_drawn:FnScope ["_law_purse_here","_law_words","_law_model","_law_odd","_law_most","_law_people","_law_entries","_law_sort","_law_holders","_law_name","_law_owner","_law_loss","_law_house","_law_number_here"] ["_law_purse_here","_law_words","_law_model","_law_odd","_law_most"] (qaj qcs):=⟨rfl,rfl,rfl,by decide +kernel,rfl,by decide +kernel,by decide +kernel⟩
def qi9 (K:PySem.W.Frag):Sp:=fun vs H Q _=>∃ (c:Nat) (p wl m pl ed:Addr) (ppl:List Str) (M:List (Ent×Addr×Addr)) (ws:List Str) (odd:Bool) (most:Int),vs=[.ref p,.ref wl,.ref m,.bl odd,.int most]∧Drw K c H p wl m pl ed ppl M ws∧0 < most∧most≤12 ∧
 ∀ d D H',DeedAt K H' d D→D.ok→qbx H' p→(∀ c o,H c=some o→c≠p→H' c=some o)→Q (.ref d) H'
theorem ok_drawn (F:Fun K "_law_drawn" "_law_drawn" qcs f fd) (T:Txt K mg a) (F__law_take:Fn P w K mg base "_law_take" 1 ["_law_purse_here","_law_many"] qdy) (F__law_one:Fn P w K mg base "_law_one" 2 ["_law_purse_here","_law_words","_law_odd"] qfy)
  (F__law_number:Fn P w K mg base "_law_number" 2 ["_law_purse_here"] qdk) (F__law_sale:Fn P w K mg base "_law_sale" 5 ["_law_purse_here","_law_words","_law_model","_law_odd"] (qi6 K)):FnOk P w K mg base (CXo P w) 6 f fd ["_law_purse_here","_law_words","_law_model","_law_odd","_law_most"] (qi9 K):=by
 refine F.okN sc__law_drawn (fun vs H Q E h=>?_) (fun cdv A outer s H vs Q E hr h=>?_)
 ·obtain ⟨c,p,wl,m,pl,ed,ppl,M,ws,odd,most,rfl,_⟩:=h
  rfl
 ·obtain ⟨c,p,wl,m,pl,ed,ppl,M,ws,odd,most,rfl,D0,mo0,mo1,k⟩:=h
  have hu:=qbk hr
  refine ⟨_,(@qaf _ _ _ _ _ (@qgr _ _ _ _ _ _ (pv 2) (qkc rfl (qbm (qbe (i:=5) sc__law_drawn.nd rfl (Or.inl rfl)) (qbm (qbe (i:=6) sc__law_drawn.nd rfl (Or.inl rfl)) qeo))) (by rfl) (by rfl) (by rfl)) (@qaf _ _ _ _ _ (@qaq _ _ (7) _ _ _ _ sc__law_drawn.nd rfl (Or.inl rfl) (@qa1 _ _ _ _ _ _ _ _ _ _ _ F__law_take (hr.mono (by first | decide | omega)) rfl qan (@qaa _ _ _ _ _ (pv 0) (@qaa _ _ _ _ _ (pv 4) qah (by rfl)) (by rfl)) (by decide) (by rfl) (by rfl)) (by rfl) (by first | exact .inl rfl | exact .inr rfl | assumption)) (@qaf _ _ _ _ _ (@qaq _ _ (8) _ _ _ _ sc__law_drawn.nd rfl (Or.inl rfl) (@qaw _ _ _ _ _ _ _ _ qep (@qap _ _ _ _ _ _ _ _ _ qd8 rfl T.b_sorted qbr (@qaa _ _ _ _ _ (pv 5) qah (by rfl)) (by decide) (by decide) (by rfl) (by rfl)) (@qap _ _ _ _ _ _ _ _ _ (qbg rfl) rfl T.b_sorted qbr (@qaa _ _ _ _ _ (pv 6) qah (by rfl)) (by decide) (by decide) (by rfl) (by rfl))) (by rfl) (by first | exact .inl rfl | exact .inr rfl | assumption)) (@qaf _ _ _ _ _ (@qbi _ _ _ _ _ _ _ _ (PW.pt (qhi (@qau _ _ _ _ _ _ _ _ qji (pv 7) qac (qay _)) (qe2 (@qau _ _ _ _ _ _ _ _ (op_eqL (Nat.lt_of_succ_lt hu)) (pv 8) (@qbj _ _ _ _ qah) (qay _))))) (@qak _ _ _ (@qav _ _ _ _ (@qbn _ _ _ _ _ (@qaa _ _ _ _ _ qa5 (@qaa _ _ _ _ _ (@qa1 _ _ _ _ _ _ _ _ _ _ _ F__law_one (hr.mono (by first | decide | omega)) rfl qan (@qaa _ _ _ _ _ (pv 0) (@qaa _ _ _ _ _ (pv 1) (@qaa _ _ _ _ _ (pv 3) qah (by rfl)) (by rfl)) (by rfl)) (by decide) (by rfl) (by rfl)) qah (by rfl)) (by rfl))))) qax) (@qaf _ _ _ _ _ (@qbi _ _ _ _ _ _ _ _ (PW.pt (qhi (@qau _ _ _ _ _ _ _ _ qji (pv 7) qac (qay _)) (qe2 (@qau _ _ _ _ _ _ _ _ qea (@qap _ _ _ _ _ _ _ _ _ qe9 rfl T.b_len qei (@qaa _ _ _ _ _ (pv 6) qah (by rfl)) (by decide) (by decide) (by rfl) (by rfl)) qac (qay _))))) (@qaf _ _ _ _ _ (@qaq _ _ (9) _ _ _ _ sc__law_drawn.nd rfl (Or.inl rfl) (@qa1 _ _ _ _ _ _ _ _ _ _ _ F__law_one (hr.mono (by first | decide | omega)) rfl qan (@qaa _ _ _ _ _ (pv 0) (@qaa _ _ _ _ _ (pv 1) (@qaa _ _ _ _ _ (pv 3) qah (by rfl)) (by rfl)) (by rfl)) (by decide) (by rfl) (by rfl)) (by rfl) (by first | exact .inl rfl | exact .inr rfl | assumption)) (@qaf _ _ _ _ _ (@qaq _ _ (10) _ _ _ _ sc__law_drawn.nd rfl (Or.inl rfl) (@qa1 _ _ _ _ _ _ _ _ _ _ _ F__law_one (hr.mono (by first | decide | omega)) rfl qan (@qaa _ _ _ _ _ (pv 0) (@qaa _ _ _ _ _ (@qaw _ _ _ _ _ _ _ _ qep (@qaw _ _ _ _ _ _ _ _ qev (pv 8) qac) (@qaw _ _ _ _ _ _ _ _ qev (@qff _ _ _ _ _ _ _ _ _ _ qhg (pv 1) qhj (qfo qac)) (@qbq _ _ _ _ _ _ _ _ _ qc2 rfl T.b_int qgd (@qaa _ _ _ _ _ (pv 3) qah (by rfl)) (by decide) (by decide) (by rfl) (by rfl)))) (@qaa _ _ _ _ _ (pv 3) qah (by rfl)) (by rfl)) (by rfl)) (by decide) (by rfl) (by rfl)) (by rfl) (by first | exact .inl rfl | exact .inr rfl | assumption)) (@qaf _ _ _ _ _ (@qaq _ _ (11) _ _ _ _ sc__law_drawn.nd rfl (Or.inl rfl) (@qa1 _ _ _ _ _ _ _ _ _ _ _ F__law_number (hr.mono (by first | decide | omega)) rfl qan (@qaa _ _ _ _ _ (pv 0) qah (by rfl)) (by decide) (by rfl) (by rfl)) (by rfl) (by first | exact .inl rfl | exact .inr rfl | assumption)) (@qaf _ _ _ _ _ (@qbi _ _ _ _ _ _ _ _ (PW.pt (qhi (qd5 (qc3 (pv 3))) (qe2 (@qau _ _ _ _ _ _ _ _ op_gt (@qaw _ _ _ _ _ _ _ _ qgs (pv 11) qac) qac (qay _))))) (@qak _ _ _ (@qaq _ _ (11) _ _ _ _ sc__law_drawn.nd rfl (Or.inl rfl) (@qap _ _ _ _ _ _ _ _ _ qjs rfl T.b_abs bt_abs (@qaa _ _ _ _ _ (pv 11) qah (by rfl)) (by decide) (by decide) (by rfl) (by rfl)) (by rfl) (by first | exact .inl rfl | exact .inr rfl | assumption))) qax) (@qak _ _ _ (@qav _ _ _ _ (@qbn _ _ _ _ _ (@qaa _ _ _ _ _ qa5 (@qaa _ _ _ _ _ (pv 9) (@qaa _ _ _ _ _ (pv 10) (@qaa _ _ _ _ _ (@qa1 _ _ _ _ _ _ _ _ _ _ _ F__law_number (hr.mono (by first | decide | omega)) rfl qan (@qaa _ _ _ _ _ (pv 0) qah (by rfl)) (by decide) (by rfl) (by rfl)) (@qaa _ _ _ _ _ (@qa1 _ _ _ _ _ _ _ _ _ _ _ F__law_number (hr.mono (by first | decide | omega)) rfl qan (@qaa _ _ _ _ _ (pv 0) qah (by rfl)) (by decide) (by rfl) (by rfl)) (@qaa _ _ _ _ _ (pv 11) qah (by rfl)) (by rfl)) (by rfl)) (by rfl)) (by rfl)) (by rfl))))))))) qax) (@qaf _ _ _ _ _ (@qbi _ _ _ _ _ _ _ _ (@qau _ _ _ _ _ _ _ _ qji (pv 7) qac (qay _)) (@qak _ _ _ (@qav _ _ _ _ (@qa1 _ _ _ _ _ _ _ _ _ _ _ F__law_sale (hr.mono (by first | decide | omega)) rfl qan (@qaa _ _ _ _ _ (pv 0) (@qaa _ _ _ _ _ (pv 1) (@qaa _ _ _ _ _ (pv 2) (@qaa _ _ _ _ _ (pv 3) qah (by rfl)) (by rfl)) (by rfl)) (by rfl)) (by decide) (by rfl) (by rfl)))) qax) (@qaf _ _ _ _ _ (@qaq _ _ (12) _ _ _ _ sc__law_drawn.nd rfl (Or.inl rfl) (@qa1 _ _ _ _ _ _ _ _ _ _ _ F__law_one (hr.mono (by first | decide | omega)) rfl qan (@qaa _ _ _ _ _ (pv 0) (@qaa _ _ _ _ _ (@qaw _ _ _ _ _ _ _ _ qep (@qaw _ _ _ _ _ _ _ _ qev (@qap _ _ _ _ _ _ _ _ _ (qbg rfl) rfl T.b_sorted qbr (@qaa _ _ _ _ _ (pv 6) qah (by rfl)) (by decide) (by decide) (by rfl) (by rfl)) qac) (@qaw _ _ _ _ _ _ _ _ qev (@qff _ _ _ _ _ _ _ _ _ _ qhg (pv 1) qhj (qfo qac)) (@qbq _ _ _ _ _ _ _ _ _ qc2 rfl T.b_int qgd (@qaa _ _ _ _ _ (pv 3) qah (by rfl)) (by decide) (by decide) (by rfl) (by rfl)))) (@qaa _ _ _ _ _ (pv 3) qah (by rfl)) (by rfl)) (by rfl)) (by decide) (by rfl) (by rfl)) (by rfl) (by first | exact .inl rfl | exact .inr rfl | assumption)) (@qaf _ _ _ _ _ (@qaq _ _ (13) _ _ _ _ sc__law_drawn.nd rfl (Or.inl rfl) (@qa1 _ _ _ _ _ _ _ _ _ _ _ F__law_number (hr.mono (by first | decide | omega)) rfl qan (@qaa _ _ _ _ _ (pv 0) qah (by rfl)) (by decide) (by rfl) (by rfl)) (by rfl) (by first | exact .inl rfl | exact .inr rfl | assumption)) (@qaf _ _ _ _ _ (@qbi _ _ _ _ _ _ _ _ (PW.pt (qig (qd5 (qc3 (pv 3))) (qgm (@qau _ _ _ _ _ _ _ _ qea (pv 7) qac (qay _))))) (@qak _ _ _ (@qaq _ _ (13) _ _ _ _ sc__law_drawn.nd rfl (Or.inl rfl) (@qap _ _ _ _ _ _ _ _ _ qjs rfl T.b_abs bt_abs (@qaa _ _ _ _ _ (pv 13) qah (by rfl)) (by decide) (by decide) (by rfl) (by rfl)) (by rfl) (by first | exact .inl rfl | exact .inr rfl | assumption))) qax) (@qak _ _ _ (@qav _ _ _ _ (@qbn _ _ _ _ _ (@qaa _ _ _ _ _ (@qam _ _ _ _ _ _ _ qa0 (@PEI.get _ _ _ (pe_l3 qa5 qa5 qa5)) (@qaw _ _ _ _ _ _ _ _ qil (pv 7) qac) (fun _ _=>rfl)) (@qaa _ _ _ _ _ (pv 12) (@qaa _ _ _ _ _ (pv 13) qah (by rfl)) (by rfl)) (by rfl)))))))))))))),?_⟩
  refine ⟨_,rfl,m,_,rfl,SqL.of D0.md.ob,rfl,_,_,rfl,_,_,rfl,rfl,?_⟩
  obtain ⟨px,py,hpu⟩:=D0.pu
  refine ⟨_,rfl,_,rfl,p,px,py,most,rfl,hpu,mo0,by omega,fun r x1 y1 r0 rm=>?_⟩
  have D1:=D0.keep (H':=upd H p (.lst [.int x1,.int y1])) ⟨_,_,qab⟩ fun c o e hc=>by rw [qag hc];exact e
  have fr1:∀ c o,H c=some o→c≠p→(upd H p (.lst [.int x1,.int y1])) c=some o:=fun c o e hc=>by rw [qag hc];exact e
  generalize upd H p (.lst [.int x1,.int y1])=H1 at D1 fr1 ⊢
  refine ⟨_,rfl,pl,ppl,rfl,SqL.of D1.md.pp,Nat.lt_of_le_of_lt D0.h6 (by decide),fun l1 hl1=>?_⟩
  have s1:Same H1 _:=qad (o:=.lst ((srt ppl).map V.str)) hl1
  refine ⟨_,rfl,ed,_,M.map (·.1.nm),rfl,.inl (s1 _ _ D1.keys),by rw [List.map_map,List.map_map];rfl,by rw [List.length_map];exact Nat.lt_of_le_of_lt D0.h8 (by decide),fun l2 hl2=>?_⟩
  have l12:l1≠l2:=qae qab hl2
  refine ⟨l1,l2,_,_,rfl,rfl,.inl (by rw [qag l12,qab]),.inl qab,?_,fun hl hhl=>?_⟩
  ·rw [List.length_map,List.length_map,qat,qat,List.length_map]
   exact Nat.le_trans (Nat.add_le_add D0.h6 D0.h8) (by decide)
  have s2:=s1.trans (qad (o:=.lst ((srt (M.map (·.1.nm))).map V.str)) hl2)
  have s3:=s2.trans (qad (o:=.lst ((srt ppl).map V.str++(srt (M.map (·.1.nm))).map V.str)) hhl)
  have hl_p:=(D1.same s2).qp hhl
  generalize hH3:upd (upd (upd H1 l1 (.lst ((srt ppl).map V.str))) l2 (.lst ((srt (M.map (·.1.nm))).map V.str))) hl (.lst ((srt ppl).map V.str++(srt (M.map (·.1.nm))).map V.str))=H3 at s3 ⊢
  have hh3:H3 hl=some (.lst ((srt ppl++srt (M.map (·.1.nm))).map V.str)):=by rw [← hH3,qab,List.map_append]
  have hsm:∀ n∈srt ppl++srt (M.map (·.1.nm)),Sm n:=fun n hn=>by
   rcases List.mem_append.mp hn with q | q
   ·exact D0.sp n ((qaz _).mem_iff.mp q)
   ·obtain ⟨e,he,rfl⟩:=List.mem_map.mp ((qaz _).mem_iff.mp q)
    exact D0.sm e he
  have hlen:(srt ppl++srt (M.map (·.1.nm))).length≤14:=by
   rw [List.length_append,qat,qat,List.length_map]
   exact Nat.add_le_add D0.h6 D0.h8
  have D3:=D1.same s3
  have fr3:∀ c o,H c=some o→c≠p→H3 c=some o:=fun c o e hc=>s3 _ _ (fr1 c o e hc)
  clear hH3 hhl hl1 hl2 l12 s3 s2 s1
  generalize srt ppl++srt (M.map (·.1.nm))=hs at hh3 hsm hlen
  have w0:0 < ws.length:=by rw [D0.w14];decide
  have w1:ws.length < 1000:=by rw [D0.w14];decide
  refine ⟨_,rfl,_,_,rfl,rfl,_,rfl,ite2 (fun h=>iteT ?_) (fun h2=>?_)⟩
  ·exact ⟨_,rfl,_,rfl,_,rfl,p,wl,ws,odd,rfl,D3.pu,D3.hw,D0.wp,w0,w1,D0.wsm,fun x H6 hx6 pu6 fr6=>⟨(show 2≤sizeLine by decide),fun d hd=>k d (.per x) _ (SqT.of qab) hx6 ⟨_,_,qad hd _ _ pu6.choose_spec.choose_spec⟩ fun c o e hc=>qad hd _ _ (fr6 c o (fr3 c o e hc) hc)⟩⟩
  refine ⟨_,rfl,(show 0≤sizeLine by decide),fun y hy=>?_⟩
  have sy:Same H3 _:=qad (o:=.lst []) hy
  refine ⟨hl,y,_,_,rfl,rfl,SqL.of (sy _ _ hh3),SqL.of qab,qdx _,rfl,_,rfl,?_⟩
  have D5:=D3.same sy
  have hh5:=sy _ _ hh3
  have fr5:∀ c o,H c=some o→c≠p→(upd H3 y (.lst [])) c=some o:=fun c o e hc=>sy _ _ (fr3 c o e hc)
  generalize upd H3 y (.lst [])=H5 at D5 hh5 fr5 ⊢
  clear sy
  refine ite2 (fun h=>?_) (fun h=>?_)
  ·exact ⟨_,rfl,_,rfl,_,rfl,p,wl,ws,odd,rfl,D5.pu,D5.hw,D0.wp,w0,w1,D0.wsm,fun x H6 hx6 pu6 fr6=>⟨(show 2≤sizeLine by decide),fun d hd=>k d (.per x) _ (SqT.of qab) hx6 ⟨_,_,qad hd _ _ pu6.choose_spec.choose_spec⟩ fun c o e hc=>qad hd _ _ (fr6 c o (fr5 c o e hc) hc)⟩⟩
  have hpos:0 < hs.length:=by
   have h:¬ eqLs (hs.map V.str) []=true:=h
   rw [qmk] at h
   cases hs with
   | nil=>exact absurd (decide_eq_true rfl) h
   | cons x r=>exact Nat.succ_pos _
  have house:∀ D:Ends,D.rt=Q→(tSeq (tAsg (qej qfy [] E0 (qas (tVar 0) (qas (tVar 1) (qas (tVar 3) tNil)))) (qft 9)) (tSeq (tAsg (qej qfy [] E0 (qas (tVar 0) (qas (tOp rCatR (tOp rRep (tVar 8) (tC (V.int 3))) (tOp rRep (tSl (rSlL K) (tVar 1) qge (tPart (tC (V.int 4)))) (tCB rInt (qas (tVar 3) tNil)))) (qas (tVar 3) tNil)))) (qft 10)) (tSeq (tAsg (qej qdk [] E0 (qas (tVar 0) tNil)) (qft 11)) (tSeq (tIfS (tOr (tNot (tB (tVar 3))) (tTest (tOp (rI0 fun i j=>V.bl (decide (j < i))) (tOp (rI (fun x j=>0 < j) fun i j=>V.int (i % j)) (tVar 11) (tC (V.int 4))) (tC (V.int 0))))) (tAsg (tCB (fun xs H Q=>∃ i,xs=[V.int i]∧Q (V.int (if i < 0 then -i else i)) H) (qas (tVar 11) tNil)) (qft 11)) tNext) (tRet (tTup (qas (tC (V.str (Str.ofString "house"))) (qas (tVar 9) (qas (tVar 10) (qas (qej qdk [] E0 (qas (tVar 0) tNil)) (qas (qej qdk [] E0 (qas (tVar 0) tNil)) (qas (tVar 11) tNil)))))))))))) D [some (.ref p),some (.ref wl),some (.ref m),some (.bl odd),some (.int most),some (.ref pl),some (.ref ed),some (.int r),some (.ref hl),none,none,none,none,none] H5:=by
   intro D hD
   refine ⟨_,rfl,_,rfl,_,rfl,p,wl,ws,odd,rfl,D5.pu,D5.hw,D0.wp,w0,w1,D0.wsm,fun x H6 hx6 pu6 fr6=>?_⟩
   have D6:=D5.keep pu6 fr6
   have hh6:=fr6 _ _ hh5 hl_p
   refine ⟨_,rfl,_,rfl,cat_w rfl rfl hh6 D6.hw hlen D0.w14 (by decide) (by decide) fun q xs H7 s7 hq mem le1 le2 hq0=>?_⟩
   refine ⟨_,rfl,p,q,xs,odd,rfl,(D6.same s7).pu,hq,D6.qp hq0,Nat.lt_of_lt_of_le (Nat.lt_of_lt_of_le hpos (Nat.le_mul_of_pos_left _ (by decide))) le1,le2,fun z hz=>(mem z hz).elim (hsm z) (D0.wsm z),fun o H8 ho pu8 fr8=>?_⟩
   refine ⟨_,rfl,p,rfl,pu8,fun ls H9 pu9 fr9=>?_⟩
   have F9:∀ c o,H c=some o→c≠p→H9 c=some o:=fun c o e hc=>fr9 c o (fr8 c o (s7 _ _ (fr6 c o (fr5 c o e hc) hc)) hc) hc
   have fin:∀ ls':Int,(tRet (tTup (qas (tC (V.str (Str.ofString "house"))) (qas (tVar 9) (qas (tVar 10) (qas (qej qdk [] E0 (qas (tVar 0) tNil)) (qas (qej qdk [] E0 (qas (tVar 0) tNil)) (qas (tVar 11) tNil)))))))) D [some (.ref p),some (.ref wl),some (.ref m),some (.bl odd),some (.int most),some (.ref pl),some (.ref ed),some (.int r),some (.ref hl),some (.str x),some (.str o),some (.int ls'),none,none] H9:=fun ls' =>
    ⟨_,rfl,_,rfl,_,rfl,p,rfl,pu9,fun t Ha pua fra=>⟨_,rfl,p,rfl,pua,fun mm Hb pub frb=>⟨_,rfl,(show 6≤sizeLine by decide),fun d hd=>by
     rw [hD]
     exact k d (.hou x o t mm ls') _ (SqT.of qab) ⟨hx6,ho⟩ ⟨_,_,qad hd _ _ pub.choose_spec.choose_spec⟩ fun c u e hc=>qad hd _ _ (frb c u (fra c u (F9 c u e hc) hc) hc)⟩⟩⟩
   refine ⟨_,rfl,_,rfl,ite2 (fun h=>iteT ⟨_,rfl,ls,rfl,fin _⟩) (fun h=>⟨_,rfl,_,_,rfl,rfl,(show (0:Int) < 4 by decide),_,_,rfl,rfl,_,rfl,ite2 (fun h=>⟨_,rfl,ls,rfl,fin _⟩) (fun h=>fin _)⟩)⟩
  refine ⟨_,rfl,_,_,rfl,rfl,_,rfl,ite2 (fun h5=>iteT (house _ rfl)) (fun h5=>?_)⟩
  refine ⟨_,rfl,ed,_,rfl,D5.keys,rfl,_,rfl,ite2 (fun h0=>house _ rfl) (fun h0=>?_)⟩
  have hM:0 < M.length:=by
   have h0:¬ (V.int ((M.map fun e=>((Sum.inr e.1.nm:Key),V.ref e.2.1)).length:Nat)=V.int 0):=fun z=>h0 (decide_eq_true z)
   rw [List.length_map] at h0
   by_cases z:M.length=0
   ·exact absurd (by rw [z];rfl) h0
   ·omega
  refine ⟨_,rfl,_,_,rfl,rfl,_,rfl,ite2 (fun h9=>?_) (fun h9=>?_)⟩
  ·exact ⟨_,rfl,_,rfl,_,rfl,_,rfl,c,p,wl,m,pl,ed,ppl,M,ws,odd,rfl,D5,hM,fun d h o1 o2 q H' hd ok pu fr=>k d _ H' hd ok pu fun c o e hc=>fr c o (fr5 c o e hc) hc⟩
  have r9:¬ r < 9:=fun z=>h9 (decide_eq_true z)
  refine ⟨_,rfl,_,rfl,ed,_,M.map (·.1.nm),rfl,.inl D5.keys,by rw [List.map_map,List.map_map];rfl,by rw [List.length_map];exact Nat.lt_of_le_of_lt D0.h8 (by decide),fun l3 hl3=>?_⟩
  have s4:=qad (o:=.lst ((srt (M.map (·.1.nm))).map V.str)) hl3
  refine cat_w (hs:=srt (M.map (·.1.nm))) rfl rfl qab (s4 _ _ D5.hw) (by rw [qat,List.length_map];exact Nat.le_trans D0.h8 (by decide)) D0.w14 (by decide) (by decide) fun q xs H6 s6 hq mem le1 le2 hq0=>?_
  have s6:Same H5 H6:=s4.trans s6
  refine ⟨_,rfl,p,q,xs,odd,rfl,(D5.same s6).pu,hq,(D5.same s4).qp hq0,?_,le2,fun x hx=>?_,fun hn H7 shn pu7 fr7=>?_⟩
  ·rw [qat,List.length_map] at le1
   exact Nat.lt_of_lt_of_le (Nat.lt_of_lt_of_le hM (Nat.le_mul_of_pos_left _ (by decide))) le1
  ·rcases mem x hx with y | y
   ·obtain ⟨e,he,rfl⟩:=List.mem_map.mp ((qaz _).mem_iff.mp y)
    exact D0.sm e he
   ·exact D0.wsm x y
  refine ⟨_,rfl,p,rfl,pu7,fun n H8 pu8 fr8=>?_⟩
  have F8:∀ c o,H c=some o→c≠p→H8 c=some o:=fun c o e hc=>fr8 c o (fr7 c o (s6 _ _ (fr5 c o e hc)) hc) hc
  obtain ⟨kd,hkd⟩:∃ kd:NK,atI [V.str (Str.ofString "things"),V.str (Str.ofString "mark"),V.str (Str.ofString "loss")] (r - 9)=some (.str kd.word):=by
   have:r=9∨r=10∨r=11:=by omega
   rcases this with rfl | rfl | rfl
   ·exact ⟨.th,rfl⟩
   ·exact ⟨.mr,rfl⟩
   ·exact ⟨.ls,rfl⟩
  have fin:∀ n':Int,(tRet (tTup (qas (tOp (rIxL K) (tLst (qas (tC (V.str (Str.ofString "things"))) (qas (tC (V.str (Str.ofString "mark"))) (qas (tC (V.str (Str.ofString "loss"))) tNil)))) (tOp (rI0 fun i j=>V.int (i - j)) (tVar 7) (tC (V.int 9)))) (qas (tVar 12) (qas (tVar 13) tNil))))) { nx:=fun x H'=>Q V.non H',rt:=Q } [some (.ref p),some (.ref wl),some (.ref m),some (.bl odd),some (.int most),some (.ref pl),some (.ref ed),some (.int r),some (.ref hl),none,none,none,some (.str hn),some (.int n')] H8:=fun n' =>
   ⟨(show 3≤sizeLine by decide),fun l hl=>⟨_,rfl,_,_,rfl,rfl,l,_,r - 9,_,rfl,rfl,SqL.of qab,hkd,_,rfl,_,rfl,(show 3≤sizeLine by decide),fun d hd=>k d (.num kd hn n') _ (SqT.of qab) shn ⟨_,_,qad hd _ _ (qad hl _ _ pu8.choose_spec.choose_spec)⟩ fun c u e hc=>qad hd _ _ (qad hl _ _ (F8 c u e hc))⟩⟩
  exact ⟨_,rfl,_,rfl,ite2 (fun ha=>⟨_,rfl,rfl,_,rfl,ite2 (fun hb=>⟨_,rfl,n,rfl,fin _⟩) (fun hb=>fin _)⟩) (fun ha=>iteF (fin _))⟩
end
end My
namespace L2
open PySem PySem.Spec PyProof.Rows
section
variable {X:Cx}
def rCatS (K:PySem.W.Frag):R2:=fun x y H Q=>∃ l b xs zs,x=.ref l∧y=.ref b∧SqL K H l xs∧SqL K H b zs∧xs.length+zs.length≤sizeLine∧∀ p,H p=none→Q (.ref p) (upd H p (.lst (xs++zs)))
theorem op_catS:OpR X (binaryOp .Add) (rCatS X.K):=by
 intro pins s σ H x y v u Q I rx ry h
 obtain ⟨l,b,xs,zs,rfl,rfl,hH,hB,hz,q⟩:=h
 cases rx
 cases ry
 obtain ⟨its,r,ht,_⟩:=I.list hH
 obtain ⟨its2,r2,ht2,_⟩:=I.list hB
 have l1:=r.length
 have l2:=r2.length
 obtain ⟨⟨cls,dd,data,sl⟩,n,ho,hc,_,hd⟩:=ht
 obtain ⟨⟨cls2,dd2,data2,sl2⟩,n2,ho2,hc2,_,hd2⟩:=ht2
 simp only at hc hd hc2 hd2
 subst hc hd hc2 hd2
 refine concat_meets ⟨_,ho,rfl⟩ ⟨_,ho2,rfl⟩ noFill_list_add seq_list_add PySem.F.slot_list_add PySem.F.entry_list_add (PySem.F.args_list_add_2 _ _) (list_addW l b its.toArray its2.toArray n n2 dd dd2 sl sl2 (by rw [List.size_toArray,List.size_toArray];omega)) ⟨ho,ho2,?_⟩
 have ea:its.toArray++its2.toArray=(its++its2).toArray:=by simp
 rw [ea]
 exact ⟨.ref _,_,I.lnew (t':=s.toks) (r.append r2) (by rw [List.length_append];omega),rfl,q _ I.fresh⟩
end
end L2
namespace My
open PySem L2 Fra
theorem cut_ints (l:List Int) (lo hi:Option Int):∃ cs:List Int,cutV (l.map V.int) lo hi=cs.map V.int∧cs.length≤l.length:=by
 refine ⟨(l.drop (HT.sIx (l.map V.int).length 0 lo)).take (HT.sIx (l.map V.int).length (l.map V.int).length hi - HT.sIx (l.map V.int).length 0 lo),?_,?_⟩
 ·unfold cutV
  rw [List.map_take,List.map_drop]
 ·rw [List.length_take,List.length_drop]
  omega
def Far (xs:List V):Prop:=(∀ v∈xs,qe7 v=true)∧(6 < xs.length∨∃ i,V.int i∈xs)
theorem ModAt.far {K:PySem.W.Frag}{H:Hp}{m pl ed c:Addr}{ppl:List Str}{M:List (Ent×Addr×Addr)}{xs:List V} (B:ModAt K H m pl ed ppl M) (h6:ppl.length≤6) (h:H c=some (.lst xs)) (f:Far xs):c∉MFp m pl ed M:=by
 intro hc
 unfold MFp at hc
 simp only [List.mem_cons,List.mem_append] at hc
 rcases hc with rfl | rfl | rfl | hc | hc
 ·rw [B.ob] at h;cases h
  exact absurd (f.1 _ List.mem_cons_self) (by intro z;cases z)
 ·rw [B.pp] at h;cases h
  rcases f.2 with q | ⟨i,q⟩
  ·rw [List.length_map] at q;omega
  ·obtain ⟨s,_,e⟩:=List.mem_map.mp q
   cases e
 ·rcases B.en with q | ⟨ob,q⟩ <;> rw [h] at q <;> cases q
 ·obtain ⟨e,he,rfl⟩:=List.mem_map.mp hc
  rw [B.el e he] at h;cases h
  exact absurd (f.1 (.ref e.2.2) (by simp)) (by intro z;cases z)
 ·obtain ⟨e,he,rfl⟩:=List.mem_map.mp hc
  obtain ⟨ts,_,q,_⟩:=B.he e he
  rw [h] at q;cases q
theorem BookAt.far {K:PySem.W.Frag}{C:Addr}{H:Hp}{b c:Addr}{z:BA}{ppl:List Str}{L:List (Ent×Addr)}{xs:List V} (B:BookAt K C H b z ppl L) (h:H c=some (.lst xs)):c∉BFp b z L:=by
 intro hc
 obtain ⟨o,e,ne,_⟩:=B.all c hc
 rw [h] at e
 exact ne xs (Option.some.inj e).symm
theorem Good.same {K:PySem.W.Frag}{C:Addr}{c:Nat}{H H':Hp}{b:Addr}{z:BA}{m pl ed:Addr}{ppl:List Str}{L:List (Ent×Addr)}{M:List (Ent×Addr×Addr)} (G:Good K C c H b z m pl ed ppl L M) (s:Same H H'):Good K C c H' b z m pl ed ppl L M:=by
 obtain ⟨kvs,hed⟩:=G.ed
 exact ⟨⟨G.bo.bk.same s,G.bo.md.same s,G.bo.eq,G.bo.hr,G.bo.nd,G.bo.nm,G.bo.ap,G.bo.c45⟩,⟨kvs,s _ _ hed⟩,G.sp,G.sm⟩
theorem mfp_tup {K:PySem.W.Frag}{H:Hp}{m pl ed c:Addr}{ppl:List Str}{M:List (Ent×Addr×Addr)}{o:HO} (B:ModAt K H m pl ed ppl M) (h:H c=some o) (x:∃ xs,o=.tup xs∨∃ ob,o=.frz ob (.tup xs)):c∉MFp m pl ed M:=fun hc=>by
 have no:∀ {u:HO},H c=some u→(∀ xs,u≠.tup xs)→(∀ ob xs,u≠.frz ob (.tup xs))→False:=fun e n1 n2=>by
  rw [h] at e
  cases e
  rcases x with ⟨xs,y | ⟨ob,y⟩⟩
  ·exact n1 _ y
  ·exact n2 _ _ y
 unfold MFp at hc
 simp only [List.mem_cons,List.mem_append] at hc
 rcases hc with rfl | rfl | rfl | hc | hc
 ·exact no B.ob (fun _ z=>by cases z) (fun _ _ z=>by cases z)
 ·exact no B.pp (fun _ z=>by cases z) (fun _ _ z=>by cases z)
 ·rcases B.en with q | ⟨ob,q⟩
  ·exact no q (fun _ z=>by cases z) (fun _ _ z=>by cases z)
  ·exact no q (fun _ z=>by cases z) (fun _ _ z=>by cases z)
 ·obtain ⟨e,he,rfl⟩:=List.mem_map.mp hc
  exact no (B.el e he) (fun _ z=>by cases z) (fun _ _ z=>by cases z)
 ·obtain ⟨e,he,rfl⟩:=List.mem_map.mp hc
  obtain ⟨ts,_,q,_⟩:=B.he e he
  exact no q (fun _ z=>by cases z) (fun _ _ z=>by cases z)
theorem ModAt.far3 {K:PySem.W.Frag}{H:Hp}{m pl ed c d1 d2 d3:Addr}{ppl:List Str}{M:List (Ent×Addr×Addr)} (B:ModAt K H m pl ed ppl M) (h:H c=some (.lst [.ref d1,.ref d2,.ref d3])):c∉MFp m pl ed M:=by
 intro hc
 unfold MFp at hc
 simp only [List.mem_cons,List.mem_append] at hc
 rcases hc with rfl | rfl | rfl | hc | hc
 ·rw [B.ob] at h;cases h
 ·rw [B.pp] at h
  cases ppl with
  | nil=>cases h
  | cons=>cases h
 ·rcases B.en with q | ⟨ob,q⟩ <;> rw [h] at q <;> cases q
 ·obtain ⟨e,he,rfl⟩:=List.mem_map.mp hc
  rw [B.el e he] at h;cases h
 ·obtain ⟨e,he,rfl⟩:=List.mem_map.mp hc
  obtain ⟨ts,_,q,_⟩:=B.he e he
  rw [h] at q;cases q
theorem Good.drw {K:PySem.W.Frag}{C:Addr}{c:Nat}{H:Hp}{b:Addr}{z:BA}{m pl ed p wl:Addr}{ppl:List Str}{L:List (Ent×Addr)}{M:List (Ent×Addr×Addr)}{ws:List Str} (G:Good K C c H b z m pl ed ppl L M) (hp:qbx H p) (hw:H wl=some (.lst (ws.map V.str))) (wp:wl≠p) (w14:ws.length=14) (wsm:∀ w∈ws,Sm w) (pM:p∉MFp m pl ed M) (c44:c≤44):Drw K c H p wl m pl ed ppl M ws:=by
 have hlen:M.length=L.length:=by
  have:=congrArg List.length G.bo.nms
  rw [List.length_map,List.length_map] at this
  exact this.symm
 refine ⟨hp,hw,wp,w14,wsm,G.bo.md,G.ed,pM,G.bo.bk.p6,by rw [hlen];exact G.bo.bk.h8,G.sp,G.sm,fun e he=>?_,by rw [← G.bo.nms];exact G.bo.nd,c44⟩
 obtain ⟨i,hi⟩:=List.getElem?_of_mem he
 obtain ⟨x,_,_,hr⟩:=G.bo.at_ hi
 exact ⟨_,hr⟩
theorem ModAt.farI {K:PySem.W.Frag}{H:Hp}{m pl ed c:Addr}{ppl:List Str}{M:List (Ent×Addr×Addr)}{ns:List Int}{o:HO} (B:ModAt K H m pl ed ppl M) (h:H c=some o) (ho:o=.lst (ns.map V.int)∨∃ ob,o=.frz ob (.lst (ns.map V.int))) (hp:c≠pl):c∉MFp m pl ed M:=by
 intro hc
 have no:∀ {xs:List V},H c=some (.lst xs)→(∃ r:Addr,V.ref r∈xs)→False:=fun e ⟨r,hr⟩=>by
  rw [h] at e
  cases e
  rcases ho with q | ⟨ob,q⟩
  ·cases q
   obtain ⟨n,_,e⟩:=List.mem_map.mp hr
   cases e
  ·cases q
 have nd:∀ {u:HO},H c=some u→(∀ xs,u≠.lst xs)→(∀ ob xs,u≠.frz ob (.lst xs))→False:=fun e n1 n2=>by
  rw [h] at e
  cases e
  rcases ho with q | ⟨ob,q⟩
  ·exact n1 _ q
  ·exact n2 _ _ q
 unfold MFp at hc
 simp only [List.mem_cons,List.mem_append] at hc
 rcases hc with rfl | rfl | rfl | hc | hc
 ·exact no B.ob ⟨pl,by simp⟩
 ·exact hp rfl
 ·rcases B.en with q | ⟨ob,q⟩
  ·exact nd q (fun _ z=>by cases z) (fun _ _ z=>by cases z)
  ·exact nd q (fun _ z=>by cases z) (fun _ _ z=>by cases z)
 ·obtain ⟨e,he,rfl⟩:=List.mem_map.mp hc
  exact no (B.el e he) ⟨e.2.2,by simp⟩
 ·obtain ⟨e,he,rfl⟩:=List.mem_map.mp hc
  obtain ⟨ts,_,q,_⟩:=B.he e he
  exact nd q (fun _ z=>by cases z) (fun _ _ z=>by cases z)
theorem BookAt.farI {K:PySem.W.Frag}{C:Addr}{H:Hp}{b c:Addr}{z:BA}{ppl:List Str}{L:List (Ent×Addr)}{xs:List V}{o:HO} (B:BookAt K C H b z ppl L) (h:H c=some o) (ho:o=.lst xs∨∃ ob,o=.frz ob (.lst xs)):c∉BFp b z L:=by
 intro hc
 have nd:∀ {u:HO},H c=some u→(∀ xs,u≠.lst xs)→(∀ ob xs,u≠.frz ob (.lst xs))→False:=fun e n1 n2=>by
  rw [h] at e
  cases e
  rcases ho with q | ⟨ob,q⟩
  ·exact n1 _ q
  ·exact n2 _ _ q
 unfold BFp at hc
 simp only [List.mem_cons] at hc
 rcases hc with rfl | rfl | rfl | rfl | rfl | rfl | hc
 ·exact nd B.ob (fun _ z=>by cases z) (fun _ _ z=>by cases z)
 ·exact nd B.pp (fun _ z=>by cases z) (fun _ _ z=>by cases z)
 ·exact nd B.tt (fun _ z=>by cases z) (fun _ _ z=>by cases z)
 ·exact nd B.mm (fun _ z=>by cases z) (fun _ _ z=>by cases z)
 ·exact nd B.ll (fun _ z=>by cases z) (fun _ _ z=>by cases z)
 ·obtain ⟨Th,eh,_⟩:=B.hh
  exact nd eh (fun _ z=>by cases z) (fun _ _ z=>by cases z)
 ·obtain ⟨e,he,rfl⟩:=List.mem_map.mp hc
  obtain ⟨ts,_,q,_⟩:=B.he e he
  exact nd q (fun _ z=>by cases z) (fun _ _ z=>by cases z)
theorem cut_few (l:List V) (n:Nat):(cutV l none (some (n:Int))).length≤n:=by
 unfold cutV
 rw [List.length_take,List.length_drop]
 have:HT.sIx l.length l.length (some (n:Int))≤n:=by
  rw [HT.sIx_nat]
  exact Nat.min_le_left _ _
 omega
end My
namespace My
open PySem L2 Fra
theorem qk7 (z:BA) (d:Addr):putF "people" (.ref d) (bf z)=bf { z with dp:=d }:=by
 simp only [bf,putF,if_pos]
theorem qk6 (z:BA) (d:Addr):putF "things_of" (.ref d) (bf z)=bf { z with dt:=d }:=by
 simp only [bf,putF,if_neg (show ¬ ((Str.ofString "people")=Str.ofString "things_of") by decide +kernel),if_pos]
theorem putF_mark (z:BA) (d:Addr):putF "mark_of" (.ref d) (bf z)=bf { z with dm:=d }:=by
 simp only [bf,putF,if_neg (show ¬ ((Str.ofString "people")=Str.ofString "mark_of") by decide +kernel),if_neg (show ¬ ((Str.ofString "things_of")=Str.ofString "mark_of") by decide +kernel),if_pos]
theorem putF_loss (z:BA) (d:Addr):putF "loss_of" (.ref d) (bf z)=bf { z with dl:=d }:=by
 simp only [bf,putF,if_neg (show ¬ ((Str.ofString "people")=Str.ofString "loss_of") by decide +kernel),if_neg (show ¬ ((Str.ofString "things_of")=Str.ofString "loss_of") by decide +kernel),if_neg (show ¬ ((Str.ofString "mark_of")=Str.ofString "loss_of") by decide +kernel),if_pos]
theorem qg5 {H3:Hp}{b2 d C dx:Addr}{fs fs':List (Str×V)}{o:HO} (ob:H3 b2=some (.ins C dx fs)) (hd:H3 d=none):(upd (upd H3 d o) b2 (.ins C dx fs')) b2=some (.ins C dx fs')∧(∀ c u,H3 c=some u→c≠b2→(upd (upd H3 d o) b2 (.ins C dx fs')) c=some u)∧(upd (upd H3 d o) b2 (.ins C dx fs')) d=some o∧d≠b2:=by
 have db:d≠b2:=(qae ob hd).symm
 refine ⟨qab,fun c u e hc=>?_,?_,db⟩
 ·rw [qag hc,qag (qae e hd)];exact e
 ·rw [qag db,qab]
def upF (g:Str→Addr) (n:Str) (p:Addr) (m:Str):Addr:=if m=n then p else g m
theorem upF_ne {g:Str→Addr}{n m:Str}{p:Addr} (h:m≠n):upF g n p m=g m:=if_neg h
theorem upF_eq {g:Str→Addr}{n:Str}{p:Addr}:upF g n p n=p:=if_pos rfl
def TwF (f:Str→Addr) (n:Str):Key×V:=(Sum.inr n,.ref (f n))
def TwR (K:PySem.W.Frag) (H8:Hp) (b b2 dh:Addr) (ns:List Str) (L:List (Ent×Addr)) (j:Nat) (σ:St) (H':Hp):Prop :=
 ∃ (v:Option V) (f:Str→Addr),σ=[some (.ref b),some (.ref b2),v]∧(∀ c o,H8 c=some o→c≠dh→H' c=some o)∧H' dh=some (.dK ((ns.take j).map (TwF f)))∧(∀ n∈ns.take j,H8 (f n)=none∧∀ e∈L,e.1.nm=n→HeldAt K H' (f n) e.1.held)∧((ns.take j).map f).Nodup
theorem val_tw {f:Str→Addr}{l:List Str}{n:Str} (h:n∉l):valV (l.map (TwF f)) (Sum.inr n)=none:=by
 have e:=qc4 l (fun m=>m) (fun m=>V.ref (f m)) n
 have e2:l.map (TwF f)=l.map fun m=>((Sum.inr m:Key),V.ref (f m)):=rfl
 rw [e2,e]
 have:l.find? (fun m=>decide (m=n))=none:=by
  rw [List.find?_eq_none]
  intro x hx z
  exact h (of_decide_eq_true z ▸ hx)
 rw [this]
 rfl
section
variable {P:Program}{w:World}{K:PySem.W.Frag}{mg:Str→Option Value}{base:Heap}{a:Adr}{f:Addr}{fd:FuncData}
abbrev qdc:Stmt:=qcj (top 24) 16
theorem sc_Book_twin:FnScope ["self","book","house"] ["self"] (qaj qdc):=⟨rfl,rfl,rfl,by decide +kernel,rfl,by decide +kernel,by decide +kernel⟩
def qk0 (K:PySem.W.Frag) (C:Addr):Sp:=fun vs H Q _=>∃ b z ppl L,vs=[.ref b]∧BookAt K C H b z ppl L ∧
 ∀ b2 z2 L2 H',L2.map (·.1)=L.map (·.1)→BookAt K C H' b2 z2 ppl L2→Same H H'→(∀ c∈BFp b2 z2 L2,H c=none)→Q (.ref b2) H'
theorem ok_twin (F:Fun K "twin" "Book.twin" qdc f fd) (T:Txt K mg a) (Dct:mg "dict"=none) (M_Book:MkB P w K mg base "Book" a.Book 1 ["self"] (qi7 K a.Book)) (M_houses:Mt P w K mg base a.Book "houses" 1 ["self"] (qey K a.Book)) :
  FnOk P w K mg base (CXo P w) 3 f fd ["self"] (qk0 K a.Book):=by
 refine F.okN sc_Book_twin (fun vs H Q E h=>?_) (fun cdv A outer s H vs Q E hr h=>?_)
 ·obtain ⟨b,z,ppl,L,rfl,_⟩:=h
  rfl
 ·obtain ⟨b,z,ppl,L,rfl,B,k⟩:=h
  have hu:=qbk hr
  refine ⟨_,(@qaf _ _ _ _ _ (@qaq _ _ (1) _ _ _ _ sc_Book_twin.nd rfl (Or.inl rfl) (pe_mk0 M_Book (hr.mono (by first | decide | omega)) rfl qan) (by rfl) (by first | exact .inl rfl | exact .inr rfl | assumption)) (@qaf _ _ _ _ _ (qf3 (pv 1) (@qbq _ _ _ _ _ _ _ _ _ qh1 rfl Dct qh2 (@qaa _ _ _ _ _ (qch (pv 0) rfl) qah (by rfl)) (by decide) (by decide) (by rfl) (by rfl)) rfl) (@qaf _ _ _ _ _ (qf3 (pv 1) (@qbq _ _ _ _ _ _ _ _ _ qh1 rfl Dct qh2 (@qaa _ _ _ _ _ (qch (pv 0) rfl) qah (by rfl)) (by decide) (by decide) (by rfl) (by rfl)) rfl) (@qaf _ _ _ _ _ (qf3 (pv 1) (@qbq _ _ _ _ _ _ _ _ _ qh1 rfl Dct qh2 (@qaa _ _ _ _ _ (qch (pv 0) rfl) qah (by rfl)) (by decide) (by decide) (by rfl) (by rfl)) rfl) (@qaf _ _ _ _ _ (qf3 (pv 1) (@qbq _ _ _ _ _ _ _ _ _ qh1 rfl Dct qh2 (@qaa _ _ _ _ _ (qch (pv 0) rfl) qah (by rfl)) (by decide) (by decide) (by rfl) (by rfl)) rfl) (@qaf _ _ _ _ _ (qgq PassesOwn.never rfl (qd9 (qhk (pv 0) M_houses (hr.mono (by first | decide | omega)) qan)) (qbe (i:=2) sc_Book_twin.nd rfl (Or.inl rfl)) (@qak _ _ _ (qcx hu (qch (pv 1) rfl) (pv 2) (@qbq _ _ _ _ _ _ _ _ _ qh1 rfl Dct qh2 (@qaa _ _ _ _ _ (@qdi _ _ _ _ _ _ hu (qch (pv 0) rfl) (pv 2) (fun _ _=>rfl)) qah (by rfl)) (by decide) (by decide) (by rfl) (by rfl)) rfl))) (@qak _ _ _ (@qav _ _ _ _ (pv 1))))))))),?_⟩
  intro b2 dx nb ndx nex
  refine ⟨b2,dx,rfl,qab,fun z2 H3 fz BK kp=>⟨rfl,?_⟩⟩
  have s3:Same H H3:=fun c o e=>by
   refine kp c o ?_ (qae e nb)
   rw [qag (qae e nb),qag (qae e ndx)]
   exact e
  have B3:=B.same s3
  have noM:∀ {x:Str},¬ x="people"→¬ x="things_of"→¬ x="mark_of"→¬ x="loss_of"→¬ x="held_of"→(bf z).lookup x=none:=fun h1 h2 h3 h4 h5=>qec z h1 h2 h3 h4 h5
  have hb0:H b2=none:=nb
  have few:∀ z:BA,(bf z).length < 1000:=fun z=>(show 5 < 1000 by decide)
  refine ⟨_,rfl,b,_,_,_,_,rfl,B3.ob,T.cl,T.nA_people,qfa z,z.dp,_,rfl,.inl B3.pp,fun d1 hd1=>?_⟩
  refine ⟨_,rfl,b2,_,_,_,rfl,(by rw [qag (qae BK.ob hd1)];exact BK.ob),T.cl,T.nA_people,few _,?_⟩
  rw [qk7]
  obtain ⟨ob4,kp4,e1,n1⟩:=qg5 (o:=.dK (ppl.map fun n=>(Sum.inr n,.bl true))) (fs':=bf { z2 with dp:=d1 }) BK.ob hd1
  generalize upd (upd H3 d1 (.dK (ppl.map fun n=>(Sum.inr n,.bl true)))) b2 (.ins a.Book z2.dx (bf { z2 with dp:=d1 }))=H4 at ob4 kp4 e1 ⊢
  have s4:Same H H4:=fun c o e=>kp4 c o (s3 _ _ e) (qae e hb0)
  have B4:=B.same s4
  refine ⟨_,rfl,b,_,_,_,_,rfl,B4.ob,T.cl,T.nA_things_of,qh3 z,z.dt,_,rfl,.inl B4.tt,fun d2 hd2=>?_⟩
  refine ⟨_,rfl,b2,_,_,_,rfl,(by rw [qag (qae ob4 hd2)];exact ob4),T.cl,T.nA_things_of,few _,?_⟩
  rw [qk6]
  obtain ⟨ob5,kp5,e2,n2⟩:=qg5 (o:=.dK (L.map fun e=>(Sum.inr e.1.nm,.int e.1.th))) (fs':=bf { z2 with dp:=d1,dt:=d2 }) ob4 hd2
  generalize upd (upd H4 d2 (.dK (L.map fun e=>(Sum.inr e.1.nm,.int e.1.th)))) b2 (.ins a.Book z2.dx (bf { z2 with dp:=d1,dt:=d2 }))=H5 at ob5 kp5 e2 ⊢
  have s5:Same H H5:=fun c o e=>kp5 c o (s4 _ _ e) (qae e hb0)
  have B5:=B.same s5
  refine ⟨_,rfl,b,_,_,_,_,rfl,B5.ob,T.cl,T.nA_mark_of,qlt z,z.dm,_,rfl,.inl B5.mm,fun d3 hd3=>?_⟩
  refine ⟨_,rfl,b2,_,_,_,rfl,(by rw [qag (qae ob5 hd3)];exact ob5),T.cl,T.nA_mark_of,few _,?_⟩
  rw [putF_mark]
  obtain ⟨ob6,kp6,e3,n3⟩:=qg5 (o:=.dK (L.map fun e=>(Sum.inr e.1.nm,.int e.1.mr))) (fs':=bf { z2 with dp:=d1,dt:=d2,dm:=d3 }) ob5 hd3
  generalize upd (upd H5 d3 (.dK (L.map fun e=>(Sum.inr e.1.nm,.int e.1.mr)))) b2 (.ins a.Book z2.dx (bf { z2 with dp:=d1,dt:=d2,dm:=d3 }))=H6 at ob6 kp6 e3 ⊢
  have s6:Same H H6:=fun c o e=>kp6 c o (s5 _ _ e) (qae e hb0)
  have B6:=B.same s6
  refine ⟨_,rfl,b,_,_,_,_,rfl,B6.ob,T.cl,T.nA_loss_of,qlu z,z.dl,_,rfl,.inl B6.ll,fun d4 hd4=>?_⟩
  refine ⟨_,rfl,b2,_,_,_,rfl,(by rw [qag (qae ob6 hd4)];exact ob6),T.cl,T.nA_loss_of,few _,?_⟩
  rw [putF_loss]
  obtain ⟨ob7,kp7,e4,n4⟩:=qg5 (o:=.dK (L.map fun e=>(Sum.inr e.1.nm,.int e.1.ls))) (fs':=bf { z2 with dp:=d1,dt:=d2,dm:=d3,dl:=d4 }) ob6 hd4
  generalize upd (upd H6 d4 (.dK (L.map fun e=>(Sum.inr e.1.nm,.int e.1.ls)))) b2 (.ins a.Book z2.dx (bf { z2 with dp:=d1,dt:=d2,dm:=d3,dl:=d4 }))=H7 at ob7 kp7 e4 ⊢
  have s7:Same H H7:=fun c o e=>kp7 c o (s6 _ _ e) (qae e hb0)
  have B7:=B.same s7
  obtain ⟨T0,eh0,ph0,_⟩:=BK.hh
  have eT0:T0=[]:=List.Perm.eq_nil ph0
  rw [eT0] at eh0
  obtain ⟨nd1,_⟩:=List.nodup_cons.mp BK.nd
  have hbh:z2.dh≠b2:=fun q=>nd1 (by rw [← q];simp)
  have c1:H7 d1=_:=kp7 _ _ (kp6 _ _ (kp5 _ _ e1 n1) n1) n1
  have c2:H7 d2=_:=kp7 _ _ (kp6 _ _ e2 n2) n2
  have c3:H7 d3=_:=kp7 _ _ e3 n3
  have ch4:=kp4 _ _ eh0 hbh
  have ch5:=kp5 _ _ ch4 hbh
  have ch6:=kp6 _ _ ch5 hbh
  have ch:H7 z2.dh=some (.dK []):=kp7 _ _ ch6 hbh
  have d12:d1≠d2:=qae e1 hd2
  have d13:d1≠d3:=qae (kp5 _ _ e1 n1) hd3
  have d14:d1≠d4:=qae (kp6 _ _ (kp5 _ _ e1 n1) n1) hd4
  have d23:d2≠d3:=qae e2 hd3
  have d24:d2≠d4:=qae (kp6 _ _ e2 n2) hd4
  have d34:d3≠d4:=qae e3 hd4
  have h1:z2.dh≠d1:=qae eh0 hd1
  have h2:z2.dh≠d2:=qae ch4 hd2
  have h3:z2.dh≠d3:=qae ch5 hd3
  have h4:z2.dh≠d4:=qae ch6 hd4
  have f1:H d1=none:=s3.free hd1
  have f2:H d2=none:=s4.free hd2
  have f3:H d3=none:=s5.free hd3
  have f4:H d4=none:=s6.free hd4
  have fh:H z2.dh=none:=by
   have:=fz z2.dh (by simp)
   cases q:H z2.dh with
   | none=>rfl
   | some o =>
    rw [qag (qae q nb),qag (qae q ndx),q] at this
    cases this
  clear kp4 kp5 kp6 kp7 ob4 ob5 ob6 hd1 hd2 hd3 hd4 e1 e2 e3 s3 s4 s5 s6 B3 B4 B5 B6 kp fz eh0 ch4 ch5 ch6 ph0 eT0
  refine ⟨_,rfl,b,_,_,rfl,B7.ob,noM (by decide +kernel) (by decide +kernel) (by decide +kernel) (by decide +kernel) (by decide +kernel),b,z,ppl,L,rfl,B7,fun hl hhl=>?_⟩
  have t8:=qad (o:=.lst ((srt (L.map (·.1.nm))).map V.str)) hhl
  have ehl:(upd H7 hl (.lst ((srt (L.map (·.1.nm))).map V.str))) hl=_:=qab
  have s8:=s7.trans t8
  have hlh:hl≠z2.dh:=(qae ch hhl).symm
  have ob8:=t8 _ _ ob7
  have c1:=t8 _ _ c1
  have c2:=t8 _ _ c2
  have c3:=t8 _ _ c3
  have c4:=t8 _ _ e4
  have ch8:=t8 _ _ ch
  generalize upd H7 hl (.lst ((srt (L.map (·.1.nm))).map V.str))=H8 at ehl s8 ob8 c1 c2 c3 c4 ch8 ⊢
  clear t8 hhl ch e4 s7 B7 ob7
  obtain ⟨_,_,_,nd0⟩:=B.hh
  have ndL:(L.map (·.1.nm)).Nodup:=by
   rw [List.map_map] at nd0
   exact List.pairwise_map.mpr ((List.pairwise_map.mp nd0).imp fun {x y} h e=>h (congrArg Sum.inr e))
  have pns:(srt (L.map (·.1.nm))).Perm (L.map (·.1.nm)):=qaz _
  have ndn:(srt (L.map (·.1.nm))).Nodup:=pns.nodup_iff.mpr ndL
  have lns:(srt (L.map (·.1.nm))).length≤8:=by rw [qat,List.length_map];exact B.h8
  generalize srt (L.map (·.1.nm))=ns at ehl pns ndn lns
  have B8:=B.same s8
  have bd8:∀ c,c∈BFp b z L→c≠z2.dh:=fun c hc q=>by
   have:=q ▸ hc
   unfold BFp at this
   simp only [List.mem_cons] at this
   have live:∀ {o:HO},H z2.dh=some o→False:=fun e=>by rw [fh] at e;cases e
   rcases this with e | e | e | e | e | e | e
   ·exact live (e ▸ B.ob)
   ·exact live (e ▸ B.pp)
   ·exact live (e ▸ B.tt)
   ·exact live (e ▸ B.mm)
   ·exact live (e ▸ B.ll)
   ·obtain ⟨T1,e1,_⟩:=B.hh
    exact live (e ▸ e1)
   ·obtain ⟨x,hx,e⟩:=List.mem_map.mp e
    obtain ⟨ts,_,e1,_⟩:=B.he x hx
    exact live (e ▸ e1)
  refine ⟨hl,rfl,⟨_,SqL.of ehl⟩,qfh (K:=K) (a:=hl) (xs:=ns.map V.str) (TwR K H8 b b2 z2.dh ns L)
   ⟨none,fun _=>0,rfl,fun c o e _=>e,ch8,fun n hn=>(by cases hn),List.nodup_nil⟩ (fun i σ H' _ ⟨_,_,_,h,_⟩=>SqL.of (h _ _ ehl hlh)) ?_ ?_⟩
  ·rintro j v σ H' hv ⟨v0,g,rfl,kp,edh,hf,ndf⟩
   rw [List.getElem?_map] at hv
   obtain ⟨n,hn,rfl⟩:=Option.map_eq_some_iff.mp hv
   obtain ⟨hj,en⟩:=List.getElem?_eq_some_iff.mp hn
   have BH:BookAt K a.Book H' b z ppl L:=B8.keep fun c o h x=>kp c o h (by
    rcases x with x | x
    ·exact bd8 c x
    ·intro q
     rw [q,ch8] at h
     cases h
     rcases x with ⟨xs,y | ⟨ob,y⟩⟩ <;> cases y)
   have hnL:n∈L.map (·.1.nm):=pns.mem_iff.mp (en ▸ List.getElem_mem hj)
   obtain ⟨e,he⟩:∃ e,qbf L n=some e:=by
    obtain ⟨x,hx,ex⟩:=List.mem_map.mp hnL
    exact Option.isSome_iff_exists.mp (List.find?_isSome.mpr ⟨x,hx,decide_eq_true ex⟩)
   have hem:=qa7 he
   obtain ⟨ts,l1,hkv,htup⟩:=BH.he e hem
   have hget:DGet H' z.dh (.str n) (some (.ref e.2)):=by
    have:=BH.hh.dget n
    rw [val_of _ he] at this
    exact this
   have nin:n∉ns.take j:=fun hq=>by
    have h0:=ndn
    rw [← List.take_append_drop j ns,List.nodup_append] at h0
    refine h0.2.2 n hq n ?_ rfl
    rw [List.drop_eq_getElem_cons hj,en]
    exact List.mem_cons_self
   have hb2':=kp _ _ ob8 hbh.symm
   refine ⟨_,rfl,b,_,_,_,_,rfl,BH.ob,T.cl,T.nA_held_of,qfb z,_,rfl,z.dh,_,rfl,hget,e.2,_,rfl,.inl hkv,fun p hp=>?_⟩
   have tp:=qad (o:=.dK ((e.1.held.zip ts).map fun q=>(Sum.inr q.1.1,V.ref q.2))) hp
   have pdh:p≠z2.dh:=(qae edh hp).symm
   refine ⟨_,rfl,b2,_,_,_,_,rfl,tp _ _ hb2',T.cl,T.nA_held_of,qfb _,_,rfl,z2.dh,_,rfl,DPut.k (k:=Sum.inr n) (tp _ _ edh) (by rw [List.length_map,List.length_take];exact Nat.lt_of_lt_of_le (show min j ns.length < 9 by omega) (by decide)),?_⟩
   rw [qen _ (val_tw nin)]
   have hp8:H8 p=none:=by
    cases q:H8 p with
    | none=>rfl
    | some o=>rw [kp p o q pdh] at hp;cases hp
   have tk:ns.take (j+1)=ns.take j++[n]:=by rw [List.take_add_one,hn];rfl
   have gne:∀ m∈ns.take j,upF g n p m=g m:=fun m hm=>upF_ne fun q=>nin (by rw [← q];exact hm)
   refine ⟨_,upF g n p,rfl,fun c o h hc=>?_,?_,fun m hm=>?_,?_⟩
   ·rw [qag hc]
    exact tp _ _ (kp c o h hc)
   ·rw [qab,tk,List.map_append]
    have e1:(ns.take j).map (TwF (upF g n p))=(ns.take j).map (TwF g):=List.map_congr_left fun m hm=>by unfold TwF;rw [gne m hm]
    have e2:[n].map (TwF (upF g n p))=[(Sum.inr n,V.ref p)]:=by rw [List.map_cons,List.map_nil];unfold TwF;rw [upF_eq]
    rw [e1,e2]
   ·have keepH:∀ {q:Addr}{l:Hl},q≠z2.dh→HeldAt K H' q l→HeldAt K (upd (upd H' p (.dK ((e.1.held.zip ts).map fun q=>(Sum.inr q.1.1,V.ref q.2)))) z2.dh (.dK ((ns.take j).map (TwF g)++[(Sum.inr n,V.ref p)]))) q l:=fun {q l} hq h=>by
     refine h.keep (fun o e=>?_) fun c o e x=>?_
     ·rw [qag hq];exact tp _ _ e
     ·rw [qag (fun z=>by rw [z,edh] at e;cases e;rcases x with ⟨xs,y | ⟨ob,y⟩⟩ <;> cases y)];exact tp _ _ e
    rw [tk] at hm
    rcases List.mem_append.mp hm with hm | hm
    ·rw [gne m hm]
     obtain ⟨a1,a2⟩:=hf m hm
     refine ⟨a1,fun x hx ex=>keepH (fun q=>?_) (a2 x hx ex)⟩
     rw [q,ch8] at a1
     cases a1
    ·have em:m=n:=List.mem_singleton.mp hm
     subst em
     rw [upF_eq]
     refine ⟨hp8,fun x hx ex=>?_⟩
     rw [qd1 ndL he hx ex]
     refine ⟨ts,l1,by rw [qag pdh,qab],fun q hq=>?_⟩
     refine qbd (htup q hq) fun c o e y=>?_
     rw [qag (fun z=>by rw [z,edh] at e;cases e;rcases y with ⟨xs,y | ⟨ob,y⟩⟩ <;> cases y)]
     exact tp _ _ e
   ·rw [tk,List.map_append]
    have e1:(ns.take j).map (upF g n p)=(ns.take j).map g:=List.map_congr_left gne
    have e2:[n].map (upF g n p)=[p]:=by rw [List.map_cons,List.map_nil,upF_eq]
    rw [e1,e2]
    refine qer ndf fun hq=>?_
    obtain ⟨m,hm,em⟩:=List.mem_map.mp hq
    obtain ⟨_,a2⟩:=hf m hm
    have hmL:m∈L.map (·.1.nm):=pns.mem_iff.mp (List.mem_of_mem_take hm)
    obtain ⟨x,hx,ex⟩:=List.mem_map.mp hmL
    obtain ⟨_,_,q2,_⟩:=a2 x hx ex
    rw [em,hp] at q2
    cases q2
  ·rintro σ H' ⟨v0,g,rfl,kp,edh,hf,ndf⟩
   rw [List.length_map,List.take_length] at edh hf ndf
   have em:(L.map fun e=>(e.1,g e.1.nm)).map (·.2)=(L.map (·.1.nm)).map g:=by rw [List.map_map,List.map_map];rfl
   have nL:∀ x∈L.map (·.1.nm),x∈ns:=fun x hx=>pns.mem_iff.mpr hx
   have freeG:∀ c,c∈(L.map (·.1.nm)).map g→H8 c=none:=fun c hc=>by
    obtain ⟨x,hx,rfl⟩:=List.mem_map.mp hc
    exact (hf x (nL x hx)).1
   have gL:∀ {c:Addr}{o:HO},H8 c=some o→c∉(L.map (·.1.nm)).map g:=fun {c o} e hc=>by
    rw [freeG c hc] at e
    cases e
   have bh:b2≠z2.dh:=hbh.symm
   refine ⟨_,rfl,k b2 { z2 with dp:=d1,dt:=d2,dm:=d3,dl:=d4 } (L.map fun e=>(e.1,g e.1.nm)) H' (by rw [List.map_map];rfl) ⟨kp _ _ ob8 bh,kp _ _ c1 h1.symm,?_,?_,?_,?_,?_,?_,B.p6,by rw [List.length_map];exact B.h8⟩ (fun c o e=>kp c o (s8 _ _ e) (qae e fh)) ?_⟩
   ·rw [List.map_map];exact kp _ _ c2 h2.symm
   ·rw [List.map_map];exact kp _ _ c3 h3.symm
   ·rw [List.map_map];exact kp _ _ c4 h4.symm
   ·refine ⟨_,edh,?_,?_⟩
    ·have:=pns.map (TwF g)
     rw [List.map_map] at this ⊢
     exact this
    ·rw [List.map_map,List.map_map]
     rw [List.map_map] at nd0
     exact nd0
   ·intro e he
    obtain ⟨x,hx,rfl⟩:=List.mem_map.mp he
    exact (hf x.1.nm (nL _ (List.mem_map.mpr ⟨x,hx,rfl⟩))).2 x hx rfl
   ·rw [em]
    have ndg:((L.map (·.1.nm)).map g).Nodup:=(pns.map g).nodup_iff.mp ndf
    refine List.nodup_cons.mpr ⟨?_,List.nodup_cons.mpr ⟨?_,List.nodup_cons.mpr ⟨?_,List.nodup_cons.mpr ⟨?_,List.nodup_cons.mpr ⟨?_,List.nodup_cons.mpr ⟨?_,ndg⟩⟩⟩⟩⟩⟩
    ·simp only [List.mem_cons,not_or]
     exact ⟨n1.symm,n2.symm,n3.symm,n4.symm,bh,gL ob8⟩
    ·simp only [List.mem_cons,not_or]
     exact ⟨d12,d13,d14,h1.symm,gL c1⟩
    ·simp only [List.mem_cons,not_or]
     exact ⟨d23,d24,h2.symm,gL c2⟩
    ·simp only [List.mem_cons,not_or]
     exact ⟨d34,h3.symm,gL c3⟩
    ·simp only [List.mem_cons,not_or]
     exact ⟨h4.symm,gL c4⟩
    ·exact gL ch8
   ·intro c hc
    have hc:c∈b2::d1::d2::d3::d4::z2.dh::(L.map fun e=>(e.1,g e.1.nm)).map (·.2):=hc
    rw [em] at hc
    simp only [List.mem_cons] at hc
    rcases hc with rfl | rfl | rfl | rfl | rfl | rfl | hc
    ·exact hb0
    ·exact f1
    ·exact f2
    ·exact f3
    ·exact f4
    ·exact fh
    ·exact s8.free (freeG c hc)
end
end My
namespace My
open PySem L2 Fra
structure On (D:Int) (q:Int×Int) (u:Int):Prop where
 low:Low q
 ev:q.1 * D=u * q.2
theorem On.dvd {D:Int}{q:Int×Int}{u:Int} (h:On D q u):q.2 ∣ D:=qls h.low.2.symm ⟨u,by rw [h.ev,Int.mul_comm]⟩
theorem On.uniq {D:Int}{p q:Int×Int}{u:Int} (hD:0 < D) (h:On D p u) (g:On D q u):p=q:=by
 refine qio h.low g.low (Int.eq_of_mul_eq_mul_right (a:=D) (by omega) ?_)
 have e1:=h.ev
 have e2:=g.ev
 calc p.1 * q.2 * D=(p.1 * D) * q.2:=by rw [Int.mul_assoc,Int.mul_comm q.2,← Int.mul_assoc]
  _=(u * q.2) * p.2:=by rw [e1,Int.mul_assoc,Int.mul_comm p.2,← Int.mul_assoc]
  _=(q.1 * D) * p.2:=by rw [e2]
  _=q.1 * p.2 * D:=by rw [Int.mul_assoc,Int.mul_comm D,← Int.mul_assoc]
theorem On.add {D:Int}{p q:Int×Int}{u v:Int} (h:On D p u) (g:On D q v):On D (addR p q) (u+v):=by
 have p0:=h.low.1
 have q0:=g.low.1
 have ev:=qjv p0 q0
 have pq:0 < p.2 * q.2:=Int.mul_pos p0 q0
 refine ⟨(qe1 (q:=(p.1 * q.2+q.1 * p.2,p.2 * q.2)) pq).1,Int.eq_of_mul_eq_mul_right (a:=p.2 * q.2) (by omega) ?_⟩
 generalize addR p q=r at ev ⊢
 have e1:=h.ev
 have e2:=g.ev
 calc r.1 * D * (p.2 * q.2)=(r.1 * (p.2 * q.2)) * D:=by rw [Int.mul_assoc,Int.mul_comm D,← Int.mul_assoc]
  _=((p.1 * q.2+q.1 * p.2) * r.2) * D:=by rw [ev]
  _=((p.1 * D) * q.2+(q.1 * D) * p.2) * r.2:=by
   rw [Int.mul_assoc,Int.mul_comm r.2 D,← Int.mul_assoc,Int.add_mul (p.1 * q.2)]
   congr 2
   ·rw [Int.mul_assoc,Int.mul_comm q.2,← Int.mul_assoc]
   ·rw [Int.mul_assoc,Int.mul_comm p.2,← Int.mul_assoc]
  _=((u * p.2) * q.2+(v * q.2) * p.2) * r.2:=by rw [e1,e2]
  _=(u+v) * r.2 * (p.2 * q.2):=by
   have a1:u * p.2 * q.2=u * (p.2 * q.2):=Int.mul_assoc ..
   have a2:v * q.2 * p.2=v * (p.2 * q.2):=by rw [Int.mul_assoc,Int.mul_comm q.2]
   rw [a1,a2,← Int.add_mul,Int.mul_assoc,Int.mul_comm (p.2 * q.2),← Int.mul_assoc]
theorem On.neg {D:Int}{q:Int×Int}{u:Int} (h:On D q u):On D (-q.1,q.2) (-u) :=
 ⟨⟨h.low.1,by have:=h.low.2;unfold Cop Int.gcd at *;simp only [Int.natAbs_neg];exact this⟩,by show -q.1 * D=-u * q.2;rw [Int.neg_mul,Int.neg_mul,h.ev]⟩
theorem On.scale {D:Int}{q:Int×Int}{u:Int} (h:On D q u) (k:Int):On (D * k) q (u * k) :=
 ⟨h.low,by rw [← Int.mul_assoc,h.ev,Int.mul_assoc,Int.mul_comm q.2,← Int.mul_assoc]⟩
theorem on_zero (D:Int):On D (0,1) 0:=⟨⟨by decide,rfl⟩,by simp⟩
theorem on_one (D:Int):On D (1,1) D:=⟨⟨by decide,rfl⟩,by show 1 * D=D * 1;omega⟩
theorem qla {q:Int×Int} (h:Low q):On q.2 q q.1:=⟨h,rfl⟩
theorem On.of_zero {D u:Int} (h:On D (0,1) u):u=0:=by
 have e:(0:Int) * D=u * 1:=h.ev
 omega
theorem On.mul {D:Int}{q:Int×Int}{u:Int} (h:On D q u) {a b:Int} (hb:0 < b) {r:Int×Int} (hr:Low r) (er:r.1 * b=a * r.2):On (D * b) (red (q.1 * r.1,q.2 * r.2)) (u * a):=by
 have q0:=h.low.1
 have r0:=hr.1
 obtain ⟨lo,ev⟩:=qe1 (q:=(q.1 * r.1,q.2 * r.2)) (Int.mul_pos q0 r0)
 simp only at ev
 refine ⟨lo,Int.eq_of_mul_eq_mul_right (a:=q.2 * r.2) (Int.ne_of_gt (Int.mul_pos q0 r0)) ?_⟩
 generalize red (q.1 * r.1,q.2 * r.2)=s at ev ⊢
 have e1:=h.ev
 calc s.1 * (D * b) * (q.2 * r.2)=(s.1 * (q.2 * r.2)) * (D * b):=by rw [Int.mul_assoc,Int.mul_comm (D * b),← Int.mul_assoc]
  _=(q.1 * r.1 * s.2) * (D * b):=by rw [ev]
  _=((q.1 * D) * (r.1 * b)) * s.2:=by
   rw [Int.mul_assoc (q.1 * r.1),Int.mul_comm s.2,← Int.mul_assoc]
   congr 1
   rw [Int.mul_assoc,Int.mul_assoc,← Int.mul_assoc r.1,Int.mul_comm r.1 D,Int.mul_assoc D]
  _=((u * q.2) * (a * r.2)) * s.2:=by rw [e1,er]
  _=u * a * s.2 * (q.2 * r.2):=by
   have:u * q.2 * (a * r.2)=u * a * (q.2 * r.2):=by rw [Int.mul_assoc,Int.mul_assoc,← Int.mul_assoc q.2,Int.mul_comm q.2 a,Int.mul_assoc a]
   rw [this,Int.mul_assoc,Int.mul_comm (q.2 * r.2),← Int.mul_assoc]
def sumU (U:Str→Int):List Str→Int
 | []=>0
 | x::r=>U x+sumU U r
theorem qfc (U:Str→Int):∀ A B:List Str,sumU U (A++B)=sumU U A+sumU U B
 | [],B=>by show sumU U B=0+_;omega
 | x::r,B=>by show U x+sumU U (r++B)=U x+sumU U r+_;rw [qfc U r B];omega
theorem qha {U:Str→Int}{A B:List Str} (p:A.Perm B):sumU U A=sumU U B:=by
 induction p with
 | nil=>rfl
 | cons x _ ih=>show U x+_=U x+_;rw [ih]
 | swap x y l=>show U y+(U x+_)=U x+(U y+_);omega
 | trans _ _ h1 h2=>exact h1.trans h2
theorem qid {U W:Str→Int}:∀ {A:List Str},(∀ x∈A,U x=W x)→sumU U A=sumU W A
 | [],_=>rfl
 | x::r,h=>by show U x+_=W x+_;rw [h x List.mem_cons_self,qid fun y hy=>h y (List.mem_cons_of_mem _ hy)]
theorem qg9 {U:Str→Int}:∀ {A:List Str},(∀ x∈A,U x=0)→sumU U A=0
 | [],_=>rfl
 | x::r,h=>by show U x+_=0;rw [h x List.mem_cons_self,qg9 fun y hy=>h y (List.mem_cons_of_mem _ hy)];rfl
def addU (U:Str→Int) (o:Str) (v:Int) (n:Str):Int:=if n=o then U n+v else U n
theorem qfx {U:Str→Int}{o:Str}{v:Int}:∀ {A:List Str},A.Nodup→o∈A→sumU (addU U o v) A=sumU U A+v
 | x::r,nd,h=>by
  obtain ⟨n1,n2⟩:=List.nodup_cons.mp nd
  show addU U o v x+sumU (addU U o v) r=U x+sumU U r+v
  by_cases e:x=o
  ·have e1:sumU (addU U o v) r=sumU U r:=qid fun y hy=>if_neg fun q=>n1 (by rw [e,← q];exact hy)
   have e2:addU U o v x=U x+v:=if_pos e
   rw [e1,e2];omega
  ·have h':o∈r:=(List.mem_cons.mp h).resolve_left fun q=>e q.symm
   have e2:addU U o v x=U x:=if_neg e
   rw [e2,qfx n2 h'];omega
theorem sumU_sub {U:Str→Int}{A Z:List Str} (na:A.Nodup) (nz:Z.Nodup) (sub:∀ x∈A,x∈Z) (z:∀ x∈Z,x∉A→U x=0):sumU U A=sumU U Z:=by
 have p:Z.Perm (A++Z.filter fun x=>decide (x∉A)):=by
  refine (List.perm_ext_iff_of_nodup nz (List.nodup_append.mpr ⟨na,nz.filter _,fun x hx y hy e=>?_⟩)).mpr fun x=>?_
  ·have:=(List.mem_filter.mp hy).2
   rw [decide_eq_true_iff] at this
   exact this (e ▸ hx)
  ·rw [List.mem_append,List.mem_filter,decide_eq_true_iff]
   constructor
   ·intro h
    by_cases q:x∈A
    ·exact .inl q
    ·exact .inr ⟨h,q⟩
   ·rintro (h | h)
    ·exact sub x h
    ·exact h.1
 rw [qha p,qfc,qg9 (A:=Z.filter _) fun x hx=>z x (List.mem_filter.mp hx).1 (by have:=(List.mem_filter.mp hx).2;rwa [decide_eq_true_iff] at this)]
 omega
end My
namespace My
open PySem L2 Fra
theorem getQ_sold (l:Hl) (o1 o2:Str) (q:Int×Int) (n:Str):getQ (sold l o1 o2 q) n=if n=o2 then addR (if o2=o1 then addR (getQ l o1) (-q.1,q.2) else getQ l o2) q else if n=o1 then addR (getQ l o1) (-q.1,q.2) else getQ l n:=by
 unfold sold
 generalize hr:addR (getQ l o1) (-q.1,q.2)=r
 simp only
 have g1:∀ m,getQ (if r=(0,1) then qgc l o1 else putH l o1 r) m=if m=o1 then r else getQ l m:=fun m=>by
  by_cases rz:r=(0,1)
  ·rw [if_pos rz,qhw,rz]
  ·rw [if_neg rz,qc0]
 rw [qc0,g1,g1]
theorem qhn {D:Int}{l:Hl}{U:Str→Int}{o1 o2:Str}{q:Int×Int}{v:Int} (h:∀ n,On D (getQ l n) (U n)) (hq:On D q v) (n:Str):On D (getQ (sold l o1 o2 q) n) (addU (addU U o1 (-v)) o2 v n):=by
 have h1:∀ m,On D (if m=o1 then addR (getQ l o1) (-q.1,q.2) else getQ l m) (addU U o1 (-v) m):=fun m=>by
  unfold addU
  by_cases e:m=o1
  ·rw [if_pos e,if_pos e,e];exact (h o1).add hq.neg
  ·rw [if_neg e,if_neg e];exact h m
 rw [getQ_sold]
 unfold addU
 by_cases e:n=o2
 ·rw [if_pos e,if_pos e,e];exact (h1 o2).add hq
 ·rw [if_neg e,if_neg e];exact h1 n
theorem names_sold {l:Hl}{o1 o2:Str}{q:Int×Int}{n:Str} (h:n∈(sold l o1 o2 q).map (·.1)):n∈l.map (·.1)∨n=o2∨n=o1:=by
 unfold sold at h
 simp only at h
 rw [qca] at h
 have sub:∀ {r:Int×Int},n∈(if r=(0,1) then qgc l o1 else putH l o1 r).map (·.1)→n∈l.map (·.1)∨n=o1:=fun {r} h=>by
  by_cases rz:r=(0,1)
  ·rw [if_pos rz,qgn] at h
   exact .inl (List.mem_filter.mp h).1
  ·rw [if_neg rz,qca] at h
   split at h
   ·exact .inl h
   ·rcases List.mem_append.mp h with h | h
    ·exact .inl h
    ·exact .inr (List.mem_singleton.mp h)
 generalize addR (getQ l o1) (-q.1,q.2)=r at h
 by_cases ho:o2∈(if r=(0,1) then qgc l o1 else putH l o1 r).map (·.1)
 ·rw [if_pos ho] at h
  exact (sub h).imp id .inr
 ·rw [if_neg ho] at h
  rcases List.mem_append.mp h with h | h
  ·exact (sub h).imp id .inr
  ·exact .inr (.inl (List.mem_singleton.mp h))
def One1 (Z:List Str) (c:Nat) (hl:Hl):Prop:=(∀ n∈hl.map (·.1),n∈Z)∧∃ (D:Int) (U:Str→Int),0 < D∧Bt (97 * c+2) D∧(∀ n,On D (getQ hl n) (U n))∧sumU U Z=D
theorem One1.mono {Z:List Str}{c d:Nat}{hl:Hl} (h:One1 Z c hl) (hc:c≤d):One1 Z d hl:=by
 obtain ⟨a,D,U,h1,h2,h3,h4⟩:=h
 exact ⟨a,D,U,h1,h2.mono (by omega),h3,h4⟩
theorem One1.more {Z Z':List Str}{c:Nat}{hl:Hl}{n:Str} (h:One1 Z c hl) (p:Z'.Perm (Z++[n])) (nz:n∉Z):One1 Z' c hl:=by
 obtain ⟨a,D,U,h1,h2,h3,h4⟩:=h
 refine ⟨fun x hx=>p.mem_iff.mpr (List.mem_append_left _ (a x hx)),D,U,h1,h2,h3,?_⟩
 have u0:U n=0:=by
  have:=h3 n
  rw [qlm fun q=>nz (a n q)] at this
  exact this.of_zero
 rw [qha p,qfc,h4]
 show D+(U n+0)=D
 omega
theorem One1.sale {Z:List Str}{c:Nat}{hl:Hl}{o1 o2:Str}{q:Int×Int} (h:One1 Z c hl) (nz:Z.Nodup) (m1:o1∈Z) (m2:o2∈Z) (lq:Low q) (bq:Bt 97 q.2):One1 Z (c+1) (sold hl o1 o2 q):=by
 obtain ⟨a,D,U,h1,h2,h3,h4⟩:=h
 refine ⟨fun n hn=>?_,D * q.2,addU (addU (fun n=>U n * q.2) o1 (-(q.1 * D))) o2 (q.1 * D),Int.mul_pos h1 lq.1,?_,fun n=>?_,?_⟩
 ·rcases names_sold hn with q | q | q
  ·exact a n q
  ·rw [q];exact m2
  ·rw [q];exact m1
 ·have:=h2.mul bq
  exact this.mono (by omega)
 ·have hq:On (D * q.2) q (q.1 * D):=by
   have:=(qla lq).scale D
   rw [Int.mul_comm q.2] at this
   exact this
  exact qhn (fun n=>(h3 n).scale q.2) hq n
 ·rw [qfx nz m2,qfx nz m1]
  have e:∀ A:List Str,sumU (fun n=>U n * q.2) A=sumU U A * q.2:=fun A=>by
   induction A with
   | nil=>show (0:Int)=0 * _;omega
   | cons x r ih=>show U x * q.2+_=(U x+sumU U r) * q.2;rw [ih,Int.add_mul]
  rw [e,h4]
  omega
def OneL (c:Nat) (ppl:List Str) (L:List (Ent×Addr)):Prop:=(ppl++L.map (·.1.nm)).Nodup∧∀ e∈L,One1 (ppl++L.map (·.1.nm)) c e.1.held
theorem hasP_iff {l:List Str}{x:Str}:hasP l x=true ↔ x∈l:=by
 constructor
 ·intro h
  unfold hasP at h
  obtain ⟨y,hy⟩:=Option.isSome_iff_exists.mp h
  have e:y=x:=by simpa using List.find?_some hy
  rw [← e]
  exact List.mem_of_find?_eq_some hy
 ·intro h
  cases q:hasP l x with
  | true=>rfl
  | false=>exact absurd h (qme q)
theorem hasP_or {A B:List Str}{x:Str}:(hasP A x || hasP B x)=true ↔ x∈A++B:=by
 rw [Bool.or_eq_true,hasP_iff,hasP_iff,List.mem_append]
theorem qmd {A B:List Str}{x:Str} (h:¬ (hasP A x || hasP B x)=true):x∉A++B:=fun q=>h (hasP_or.mpr q)
theorem OneL.eff {c:Nat}{ppl ppl' hs:List Str}{L L':List (Ent×Addr)}{has:Str→Str→Int×Int}{D:Deed} (h:OneL c ppl L) (ehs:hs=L.map (·.1.nm)) (due:qck ppl hs has D=none) (ok:D.ok) (ef:EffB ppl L ppl' L' D):OneL (c+1) ppl' L':=by
 subst ehs
 obtain ⟨nz,h1⟩:=h
 cases D with
 | per n =>
  obtain ⟨rfl,e⟩:=ef
  rw [e]
  clear e
  rw [qfu] at due
  split at due
  ·cases due
  split at due
  ·cases due
  rename_i q
  have nn:=qmd q
  have p:(ppl++[n]++L.map (·.1.nm)).Perm (ppl++L.map (·.1.nm)++[n]):=by
   rw [List.append_assoc,List.append_assoc]
   exact List.Perm.append_left _ List.perm_append_comm
  exact ⟨p.nodup_iff.mpr (qer nz nn),fun e he=>((h1 e he).more p nn).mono (by omega)⟩
 | hou n o t m l =>
  obtain ⟨rfl,pp,rfl⟩:=ef
  rw [qfw] at due
  split at due
  ·cases due
  split at due
  ·cases due
  rename_i q
  split at due
  ·cases due
  rename_i qo
  have nn:=qmd q
  have oz:o∈ppl'++L.map (·.1.nm):=hasP_or.mp (by cases z:(hasP ppl' o || hasP (L.map (·.1.nm)) o) with | true=>rfl | false=>exact absurd z qo)
  have e:ppl'++(L++[((⟨n,t,m,l,[(o,1,1)]⟩:Ent),pp)]).map (·.1.nm)=ppl'++L.map (·.1.nm)++[n]:=by rw [List.map_append,List.append_assoc];rfl
  have nd2:=qer nz nn
  refine ⟨by rw [e];exact nd2,fun x hx=>?_⟩
  rw [e]
  rcases List.mem_append.mp hx with hx | hx
  ·exact ((h1 x hx).more (List.Perm.refl _) nn).mono (by omega)
  ·rw [List.mem_singleton.mp hx]
   have g:∀ k,getQ [(o,1,1)] k=if k=o then (1,1) else (0,1):=fun k=>by
    unfold getQ qba
    rw [List.find?_cons]
    by_cases e:o=k
    ·rw [decide_eq_true e,if_pos e.symm];rfl
    ·rw [decide_eq_false e,if_neg fun z=>e z.symm];rfl
   refine ⟨fun k hk=>?_,1,addU (fun _=>0) o 1,by decide,bt1 (by omega),fun k=>?_,?_⟩
   ·have:k=o:=by simpa using hk
    rw [this];exact List.mem_append_left _ oz
   ·show On 1 (getQ [(o,1,1)] k) _
    rw [g]
    unfold addU
    by_cases e:k=o
    ·rw [if_pos e,if_pos e];exact on_one 1
    ·rw [if_neg e,if_neg e];exact on_zero 1
   ·rw [qfx nd2 (List.mem_append_left _ oz),qg9 fun _ _=>rfl];rfl
 | sal hh o1 o2 q =>
  obtain ⟨rfl,rfl⟩:=ef
  rw [qet] at due
  split at due
  ·cases due
  split at due
  ·cases due
  rename_i q1
  split at due
  ·cases due
  rename_i q2
  have bt:∀ {b:Bool},¬ b=false→b=true:=fun {b} h=>by cases b <;> first | rfl | exact absurd rfl h
  have m1:=hasP_or.mp (bt q1)
  have m2:=hasP_or.mp (bt q2)
  have e:(setE L hh fun x=>{ x with held:=sold x.held o1 o2 q }).map (·.1.nm)=L.map (·.1.nm):=qa3 (v:=fun e:Ent×Addr=>e.1.nm) fun x=>rfl
  refine ⟨by rw [e];exact nz,fun x hx=>?_⟩
  rw [e]
  obtain ⟨y,hy,⟨_,rfl⟩ | ⟨_,rfl⟩⟩:=qb7 hx
  ·exact (h1 y hy).sale nz m1 m2 ok.2.2.2.low ok.2.2.2.bb
  ·exact (h1 _ hy).mono (by omega)
 | num k hh n =>
  obtain ⟨rfl,rfl⟩:=ef
  have e:(setE L hh (k.put n)).map (·.1.nm)=L.map (·.1.nm):=qa3 (v:=fun e:Ent×Addr=>e.1.nm) fun x=>by cases k <;> rfl
  refine ⟨by rw [e];exact nz,fun x hx=>?_⟩
  rw [e]
  obtain ⟨y,hy,⟨_,rfl⟩ | ⟨_,rfl⟩⟩:=qb7 hx
  ·have:(k.put n y.1).held=y.1.held:=by cases k <;> rfl
   show One1 _ _ (k.put n y.1).held
   rw [this]
   exact (h1 y hy).mono (by omega)
  ·exact (h1 _ hy).mono (by omega)
end My
namespace My
open PySem L2 Fra
theorem sm_ok {x:Str} (h:Sm x):PyData.strOk x=true:=by
 unfold PyData.strOk
 rw [← Array.all_toList,List.all_eq_true]
 intro c hc
 exact decide_eq_true (Nat.lt_trans (h.2 c hc) (by decide))
theorem qhx {K:PySem.W.Frag}{W:Addr→List V→Prop}{H:Hp}{k:Nat}:∀ {ss:List Str},(∀ x∈ss,Sm x)→Dats K W H k (ss.map V.str) (ss.map PyData.str)
 | [],_=>.nil
 | x::r,h=>.cons (.str (sm_ok (h x List.mem_cons_self))) (qhx fun y hy=>h y (List.mem_cons_of_mem _ hy))
def dPr (q:Str×Int×Int):PyData:=.tuple [.str q.1,.tuple [.int q.2.1,.int q.2.2]]
theorem qmn {K:PySem.W.Frag}{W:Addr→List V→Prop}{H:Hp}:∀ {qs:List (Str×Int×Int)}{ys:List V},Paired (PairAt K H) qs ys→(∀ q∈qs,Sm q.1)→Dats K W H 2 ys (qs.map dPr)
 | [],_,.nil,_=>.nil
 | q::r,_,.cons (a:=_) ⟨t,u,e,h1,h2⟩ z,h=>by
  subst e
  exact .cons (.tup h1 (.cons (.str (sm_ok (h q List.mem_cons_self))) (.cons (.tup h2 (.cons .int (.cons .int .nil))) .nil))) (qmn z fun y hy=>h y (List.mem_cons_of_mem _ hy))
mutual
theorem dat_up {K:PySem.W.Frag}{W:Addr→List V→Prop}{H:Hp}{k:Nat}{v:V}{d:PyData}:Dat K W H k v d→Dat K W H (k+1) v d
 | .int=>.int
 | .str h=>.str h
 | .tup h q=>.tup h (dats_up q)
 | .lst h w q=>.lst h w (dats_up q)
theorem dats_up {K:PySem.W.Frag}{W:Addr→List V→Prop}{H:Hp}{k:Nat}{v:List V}{d:List PyData}:Dats K W H k v d→Dats K W H (k+1) v d
 | .nil=>.nil
 | .cons h q=>.cons (dat_up h) (dats_up q)
end
def WT (_:Addr) (_:List V):Prop:=True
theorem qmo {K:PySem.W.Frag}{H H':Hp}{k:Nat}{v:V}{d:PyData} (h:Dat K WT H k v d) (s:Same H H'):Dat K WT H' k v d:=h.keep (fun c xs e w=>⟨s _ _ e,w⟩) fun c xs e=>qa6 s e
structure BkG (K:PySem.W.Frag) (C:Addr) (c:Nat) (H:Hp) (b:Addr) (z:BA) (ppl:List Str) (L:List (Ent×Addr)):Prop where
 bk:BookAt K C H b z ppl L
 one:OneL c ppl L
 hr:∀ e∈L,∃ hm,HR c e.1.held hm
 sp:∀ n∈ppl,Sm n
 sl:∀ e∈L,Sm e.1.nm
 c45:c≤45
theorem BkG.same {K:PySem.W.Frag}{C:Addr}{c:Nat}{H H':Hp}{b:Addr}{z:BA}{ppl:List Str}{L:List (Ent×Addr)} (B:BkG K C c H b z ppl L) (s:Same H H'):BkG K C c H' b z ppl L:=⟨B.bk.same s,B.one,B.hr,B.sp,B.sl,B.c45⟩
theorem BkG.nd {K:PySem.W.Frag}{C:Addr}{c:Nat}{H:Hp}{b:Addr}{z:BA}{ppl:List Str}{L:List (Ent×Addr)} (B:BkG K C c H b z ppl L):(L.map (·.1.nm)).Nodup:=(List.nodup_append.mp B.one.1).2.1
theorem BkG.find {K:PySem.W.Frag}{C:Addr}{c:Nat}{H:Hp}{b:Addr}{z:BA}{ppl:List Str}{L:List (Ent×Addr)} (B:BkG K C c H b z ppl L) {x:Str} (hx:x∈L.map (·.1.nm)):∃ e,qbf L x=some e∧e∈L∧e.1.nm=x:=by
 obtain ⟨y,hy,ey⟩:=List.mem_map.mp hx
 obtain ⟨e,he⟩:∃ e,qbf L x=some e:=Option.isSome_iff_exists.mp (List.find?_isSome.mpr ⟨y,hy,decide_eq_true ey⟩)
 exact ⟨e,he,qa7 he,qes he⟩
theorem On.small {D:Int}{k:Nat}{q:Int×Int}{u:Int} (h:On D q u) (hD:0 < D) (hb:Bt k D) (u0:0≤u) (u1:u≤D):0≤q.1∧q.1≤q.2∧Bt k q.2∧Bt k q.1:=by
 have q0:=h.low.1
 have b2:Bt k q.2:=hb.dvd (by omega) h.dvd
 have ev:=h.ev
 have a1:0≤q.1:=by
  by_cases z:0≤q.1
  ·exact z
  ·have e1:q.1 * D < 0:=Int.mul_neg_of_neg_of_pos (by omega) hD
   have e2:0≤u * q.2:=Int.mul_nonneg u0 (by omega)
   omega
 have a2:q.1≤q.2:=by
  refine Int.le_of_mul_le_mul_right (a:=D) ?_ hD
  rw [ev,Int.mul_comm q.2]
  exact Int.mul_le_mul_of_nonneg_right u1 (by omega)
 refine ⟨a1,a2,b2,?_⟩
 unfold Bt at *
 omega
theorem On.nonneg {D:Int}{q:Int×Int}{u:Int} (h:On D q u) (hD:0 < D) (q1:0≤q.1):0≤u:=by
 by_cases z:0≤u
 ·exact z
 ·have e1:u * q.2 < 0:=Int.mul_neg_of_neg_of_pos (by omega) h.low.1
  have e2:0≤q.1 * D:=Int.mul_nonneg q1 (by omega)
  have:=h.ev
  omega
theorem qek {U:Str→Int} (h:∀ n,0≤U n):∀ A:List Str,0≤sumU U A
 | []=>Int.le_refl _
 | x::r=>by
  have:=qek h r
  have:=h x
  show 0≤U x+sumU U r
  omega
theorem qjz {U:Str→Int} (h:∀ n,0≤U n) (A:List Str) (j:Nat):0≤sumU U (A.take j)∧sumU U (A.take j)≤sumU U A:=by
 have e:sumU U A=sumU U (A.take j)+sumU U (A.drop j):=by rw [← qfc,List.take_append_drop]
 have h1:=qek h (A.take j)
 have h2:=qek h (A.drop j)
 omega
end My
namespace My
open PySem L2 Fra
section
variable {P:Program}{w:World}{K:PySem.W.Frag}{mg:Str→Option Value}{base:Heap}{a:Adr}{f:Addr}{fd:FuncData}
abbrev qa4:Stmt:=top 50
theorem sc__law_come_to_one:FnScope ["_law_book","_law_house","_law_found","_law_told_here","_law_holder","_law_share","_law_names_here"] ["_law_book"] (qaj qa4):=⟨rfl,rfl,rfl,by decide +kernel,rfl,by decide +kernel,by decide +kernel⟩
def qja (K:PySem.W.Frag) (C:Addr):Sp:=fun vs H Q _=>∃ c b z ppl L,vs=[.ref b]∧BkG K C c H b z ppl L∧∀ H',Same H H'→Q (.bl true) H'
theorem ok_come (F:Fun K "_law_come_to_one" "_law_come_to_one" qa4 f fd) (T:Txt K mg a) (F__law_plus:Fn P w K mg base "_law_plus" 3 ["_law_one_here","_law_other"] (qfe K))
  (M_persons:Mt P w K mg base a.Book "persons" 1 ["self"] (qgg K a.Book)) (M_houses:Mt P w K mg base a.Book "houses" 1 ["self"] (qey K a.Book)) (M_shares:Mt P w K mg base a.Book "shares" 3 ["self","house"] (qex K a)) :
  FnOk P w K mg base (CXo P w) 4 f fd ["_law_book"] (qja K a.Book):=by
 refine F.okN sc__law_come_to_one (fun vs H Q E h=>?_) (fun cdv A outer s H vs Q E hr h=>?_)
 ·obtain ⟨c,b,z,ppl,L,rfl,_⟩:=h
  rfl
 ·obtain ⟨c,b,z,ppl,L,rfl,B,k⟩:=h
  have hu:=qbk hr
  have hu5:(A.deeper (PyProof.Rows.envOfC "_law_come_to_one" (qaj qa4) s.heap.objs.size f cdv)).units+5 < cLine:=Nat.lt_of_le_of_lt (Nat.add_le_add_left (by decide:5≤64) _) hr.units
  refine ⟨_,(@qaf _ _ _ _ _ (qgq PassesOwn.never rfl (qd9 (qhk (pv 0) M_houses (hr.mono (by first | decide | omega)) qan)) (qbe (i:=1) sc__law_come_to_one.nd rfl (Or.inl rfl)) (@qaf _ _ _ _ _ (@qaq _ _ (2) _ _ _ _ sc__law_come_to_one.nd rfl (Or.inl rfl) (@qbn _ _ _ _ _ (@qaa _ _ _ _ _ qac (@qaa _ _ _ _ _ qac qah (by rfl)) (by rfl))) (by rfl) (by first | exact .inl rfl | exact .inr rfl | assumption)) (@qaf _ _ _ _ _ (@qaq _ _ (3) _ _ _ _ sc__law_come_to_one.nd rfl (Or.inl rfl) (qdh (pv 0) M_shares (hr.mono (by first | decide | omega)) qan (@qaa _ _ _ _ _ (pv 1) qah (by rfl))) (by rfl) (by first | exact .inl rfl | exact .inr rfl | assumption)) (@qaf _ _ _ _ _ (qgq PassesOwn.never rfl (qd9 (pv 3)) (ql4 rfl (qbm (qbe (i:=4) sc__law_come_to_one.nd rfl (Or.inl rfl)) (qbm (qbe (i:=5) sc__law_come_to_one.nd rfl (Or.inl rfl)) qeo))) (@qaf _ _ _ _ _ (@qaq _ _ (2) _ _ _ _ sc__law_come_to_one.nd rfl (Or.inl rfl) (@qa1 _ _ _ _ _ _ _ _ _ _ _ F__law_plus (hr.mono (by first | decide | omega)) rfl qan (@qaa _ _ _ _ _ (pv 2) (@qaa _ _ _ _ _ (pv 5) qah (by rfl)) (by rfl)) (by decide) (by rfl) (by rfl)) (by rfl) (by first | exact .inl rfl | exact .inr rfl | assumption)) (@qak _ _ _ (@qbi _ _ _ _ _ _ _ _ (PW.pt (qhi (@qau _ _ _ _ _ _ _ _ op_le (@qam _ _ _ _ _ _ _ qal (pv 5) qac (fun _ _=>rfl)) qac (qay _)) (qe2 (PW.pt (qig (@qau _ _ _ _ _ _ _ _ qd7 (pv 4) (qhk (pv 0) M_persons (hr.mono (by first | decide | omega)) qan) (by with_unfolding_all rfl)) (qgm (@qau _ _ _ _ _ _ _ _ qd7 (pv 4) (qhk (pv 0) M_houses (hr.mono (by first | decide | omega)) qan) (by with_unfolding_all rfl)))))))) (@qak _ _ _ (@qav _ _ _ _ qhl)) qax)))) (@qaf _ _ _ _ _ (qk9 (i:=6) (fr:=[]) (ix:=[]) sc__law_come_to_one.nd rfl rfl rfl (by exact (show CompOkG ["_law_book","_law_house","_law_found","_law_told_here","_law_holder","_law_share","_law_names_here"] (qaj qa4) _ _ _ _ from ⟨rfl,by decide +kernel,by decide +kernel,by decide +kernel,by decide +kernel,by decide +kernel,by decide +kernel,rfl⟩)) rfl rfl (qd9 (pv 3)) (fun _ _ _ _ _=>qf4) (fun _ _ _ _ _=>(pv 0))) (@qak _ _ _ (@qbi _ _ _ _ _ _ _ _ (PW.pt (qhi (@qau _ _ _ _ _ _ _ _ (show OpR _ (compareOp .NotEq) (rNeS K) from op_neS hu5) (pv 2) (@qbn _ _ _ _ _ (@qaa _ _ _ _ _ qac (@qaa _ _ _ _ _ qac qah (by rfl)) (by rfl))) (qay _)) (qe2 (@qau _ _ _ _ _ _ _ _ (show OpR _ (compareOp .NotEq) (rNeS K) from op_neS hu5) (pv 6) (@qap _ _ _ _ _ _ _ _ _ qd8 rfl T.b_sorted qbr (@qaa _ _ _ _ _ (pv 6) qah (by rfl)) (by decide) (by decide) (by rfl) (by rfl)) (qay _))))) (@qak _ _ _ (@qav _ _ _ _ qhl)) qax))))))) (@qak _ _ _ (@qav _ _ _ _ qhl))),?_⟩
  have noM:∀ {x:Str},¬ x="people"→¬ x="things_of"→¬ x="mark_of"→¬ x="loss_of"→¬ x="held_of"→(bf z).lookup x=none:=fun h1 h2 h3 h4 h5=>qec z h1 h2 h3 h4 h5
  refine ⟨_,rfl,b,_,_,rfl,B.bk.ob,noM (by decide +kernel) (by decide +kernel) (by decide +kernel) (by decide +kernel) (by decide +kernel),b,z,ppl,L,rfl,B.bk,fun hl hhl=>?_⟩
  have s1:Same H _:=qad (o:=.lst ((srt (L.map (·.1.nm))).map V.str)) hhl
  have e1:(upd H hl (.lst ((srt (L.map (·.1.nm))).map V.str))) hl=some (.lst ((srt (L.map (·.1.nm))).map V.str)):=qab
  generalize upd H hl (.lst ((srt (L.map (·.1.nm))).map V.str))=H1 at s1 e1 ⊢
  refine ⟨hl,rfl,⟨_,SqL.of e1⟩,qfh (K:=K) (a:=hl) (xs:=(srt (L.map (·.1.nm))).map V.str) (fun i σ H'=>∃ v1 v2 v3 v4 v5 v6,σ=[some (.ref b),v1,v2,v3,v4,v5,v6]∧Same H1 H') ⟨_,_,_,_,_,_,rfl,fun _ _ e=>e⟩ (fun i σ H' _ ⟨_,_,_,_,_,_,_,h⟩=>SqL.of (h _ _ e1)) ?_ ?_⟩
  ·rintro i v σ H2 hv ⟨v1,v2,v3,v4,v5,v6,rfl,s2⟩
   rw [List.getElem?_map] at hv
   obtain ⟨x,hx,rfl⟩:=Option.map_eq_some_iff.mp hv
   obtain ⟨e,he,hem,enm⟩:=B.find ((qaz _).mem_iff.mp (List.mem_of_getElem? hx))
   have S2:=s1.trans s2
   have B2:=B.same S2
   have sx:Sm x:=enm ▸ B.sl e hem
   obtain ⟨hm,HRe⟩:=B.hr e hem
   obtain ⟨sub,D,U,hD,bD,hU,sU⟩:=B.one.2 e hem
   have h64:e.1.held.length < 64:=Nat.lt_of_le_of_lt HRe.l1 (by have:=B.c45;omega)
   have smN:∀ n∈e.1.held.map (·.1),Sm n:=fun n hn=>HRe.sm n (HRe.had (by rw [← HRe.q];exact (HRe.nm n).mp hn))
   refine ⟨(show 2≤sizeLine by decide),fun f0 hf0=>?_⟩
   have s3:=qad (o:=.tup [.int 0,.int 1]) hf0
   have f3:FrAt K _ f0 (0,1):=SqT.of (qab (H:=H2) (a:=f0) (o:=.tup [.int 0,.int 1]))
   have B3:=B2.same s3
   refine ⟨_,rfl,b,_,_,rfl,B3.bk.ob,noM (by decide +kernel) (by decide +kernel) (by decide +kernel) (by decide +kernel) (by decide +kernel),_,rfl,b,z,ppl,L,x,rfl,B3.bk,Sm.nm sx,fun e' he'=>?_,fun q=>(by rw [he] at q;cases q)⟩
   rw [he] at he'
   cases he'
   refine ⟨h64,fun tl ys H4 htl s4 etl pr=>?_⟩
   have f4:=f3.same s4
   have S4:Same H1 H4:=s2.trans (s3.trans s4)
   have nu:∀ n,0≤U n:=fun n=>(hU n).nonneg hD (HRe.fr n).nn
   have ndN:(srt (e.1.held.map (·.1))).Nodup:=(qaz _).nodup_iff.mpr HRe.n1
   have tot:sumU U (srt (e.1.held.map (·.1)))=D:=by
    rw [qha (qaz _),← sU]
    refine sumU_sub HRe.n1 B.one.1 sub fun n _ hn=>?_
    have:=hU n
    rw [qlm hn] at this
    exact this.of_zero
   have memN:∀ n∈srt (e.1.held.map (·.1)),n∈e.1.held.map (·.1):=fun n hn=>(qaz _).mem_iff.mp hn
   have lnN:(srt (e.1.held.map (·.1))).length < 64:=by rw [qat,List.length_map];exact h64
   generalize hns:srt (e.1.held.map (·.1))=ns at pr ndN tot memN lnN
   have lys:ns.length=ys.length:=by rw [← Paired.length pr,List.length_map]
   have getP:∀ {j:Nat}{v:V}{H':Hp},Same H4 H'→ys[j]?=some v→∃ n t u,ns[j]?=some n∧v=.ref t∧SqT K H' t [.str n,.ref u]∧FrAt K H' u (getQ e.1.held n):=fun {j v H'} s' hv=>by
    have key:∀ {qs:List (Str×Int×Int)}{ys:List V},Paired (PairAt K H4) qs ys→∀ (j:Nat) (v:V),ys[j]?=some v→∃ q,qs[j]?=some q∧PairAt K H4 q v:=by
     intro qs ys pr
     induction pr with
     | nil=>intro j v h;cases h
     | cons h _ ih =>
      intro j v hv
      cases j with
      | zero=>cases hv;exact ⟨_,rfl,h⟩
      | succ j=>exact ih j v hv
    obtain ⟨q,hq,t,u,ev,p1,p2⟩:=key pr j v hv
    rw [List.getElem?_map] at hq
    obtain ⟨n,hn,rfl⟩:=Option.map_eq_some_iff.mp hq
    rw [qdn] at p1 p2
    exact ⟨n,t,u,hn,ev,qa6 s' p1,qa6 s' p2⟩
   refine ⟨_,rfl,tl,rfl,⟨_,SqL.of etl⟩,qfh (K:=K) (a:=tl) (xs:=ys) (fun j σ H'=>∃ v4 v5 v6 ft q,σ=[some (.ref b),some (.str x),some (.ref ft),some (.ref tl),v4,v5,v6]∧Same H4 H'∧FrAt K H' ft q∧On D q (sumU U (ns.take j))) ⟨_,_,_,f0,_,rfl,fun _ _ e=>e,f4,on_zero D⟩ (fun j σ H' _ ⟨_,_,_,_,_,_,h,_⟩=>SqL.of (h _ _ etl)) ?_ ?_⟩
   ·rintro j v σ H5 hv ⟨v4,v5,v6,ft,q,rfl,s5,hft,oq⟩
    obtain ⟨n,t,u,hn,rfl,p1,p2⟩:=getP s5 hv
    have hnN:=memN n (List.mem_of_getElem? hn)
    have pos:0 < (getQ e.1.held n).1:=(HRe.nm n).mp hnN
    have t1:=qjz nu ns j
    rw [tot] at t1
    obtain ⟨a1,a2,a3,a4⟩:=oq.small hD bD t1.1 t1.2
    have tk:ns.take (j+1)=ns.take j++[n]:=by rw [List.take_add_one,hn];rfl
    have t2:=qjz nu ns (j+1)
    rw [tk,qfc,tot] at t2
    have hUn:sumU U [n]=U n:=by show U n+0=U n;omega
    rw [hUn] at t2
    have un:=nu n
    obtain ⟨c1,c2,c3,c4⟩:=(hU n).small hD bD un (by omega)
    have c45:=B.c45
    refine ⟨t,_,rfl,p1,rfl,_,_,rfl,_,_,rfl,rfl,?_⟩
    refine ⟨_,rfl,_,rfl,ft,u,q,getQ e.1.held n,rfl,hft,p2,⟨oq.low.1,(hU n).low.1,a4.mono (by omega),c4.mono (by omega),a3.mono (by omega),c3.mono (by omega),(a3.mul c3).mono (by omega)⟩,fun f6 hf6=>?_⟩
    have s6:=qad (o:=.tup [.int (addR q (getQ e.1.held n)).1,.int (addR q (getQ e.1.held n)).2]) hf6
    have g6:FrAt K _ f6 (addR q (getQ e.1.held n)):=SqT.of (qab (H:=H5) (a:=f6) (o:=.tup [.int (addR q (getQ e.1.held n)).1,.int (addR q (getQ e.1.held n)).2]))
    generalize upd H5 f6 (.tup [.int (addR q (getQ e.1.held n)).1,.int (addR q (getQ e.1.held n)).2])=H6 at s6 g6 ⊢
    have o6:On D (addR q (getQ e.1.held n)) (sumU U (ns.take (j+1))):=by
     rw [tk,qfc,hUn]
     exact oq.add (hU n)
    refine ⟨_,rfl,u,_,0,_,rfl,rfl,p2.same s6,qai (j:=0) rfl,_,_,rfl,rfl,_,rfl,ite2 (fun h=>absurd (of_decide_eq_true h) (by omega)) (fun _=>?_)⟩
    have B6:=B.same ((s1.trans S4).trans (s5.trans s6))
    have nZ:=sub n hnN
    refine ⟨_,rfl,_,rfl,b,_,_,rfl,B6.bk.ob,noM (by decide +kernel) (by decide +kernel) (by decide +kernel) (by decide +kernel) (by decide +kernel),b,z,ppl,L,rfl,B6.bk,fun l7 hl7=>?_⟩
    have s7:=qad (o:=.lst ((srt ppl).map V.str)) hl7
    refine ⟨l7,_,rfl,.inl (SqL.of qab),rfl,qdx _,_,rfl,ite2 (fun h=>?_) (fun h=>?_)⟩
    ·have h:(!inV (.str n) ((srt ppl).map V.str))=true:=h
     rw [qeb] at h
     have nP:n∉ppl:=fun q=>by
      have:hasP (srt ppl) n=true:=hasP_iff.mpr ((qaz _).mem_iff.mpr q)
      rw [this] at h
      cases h
     have nH:n∈L.map (·.1.nm):=(List.mem_append.mp nZ).resolve_left nP
     have B7:=B6.same s7
     refine ⟨_,rfl,_,rfl,b,_,_,rfl,B7.bk.ob,noM (by decide +kernel) (by decide +kernel) (by decide +kernel) (by decide +kernel) (by decide +kernel),b,z,ppl,L,rfl,B7.bk,fun l8 hl8=>?_⟩
     have s8:=qad (o:=.lst ((srt (L.map (·.1.nm))).map V.str)) hl8
     refine ⟨l8,_,rfl,.inl (SqL.of qab),rfl,qdx _,_,rfl,ite2 (fun h=>?_) (fun h=>?_)⟩
     ·have h:(!inV (.str n) ((srt (L.map (·.1.nm))).map V.str))=true:=h
      rw [qeb,hasP_iff.mpr ((qaz _).mem_iff.mpr nH)] at h
      cases h
     ·exact ⟨_,_,_,f6,_,rfl,s5.trans (s6.trans (s7.trans s8)),(g6.same s7).same s8,o6⟩
    ·exact iteF ⟨_,_,_,f6,_,rfl,s5.trans (s6.trans s7),g6.same s7,o6⟩
   ·rintro σ H5 ⟨v4,v5,v6,ft,q,rfl,s5,hft,oq⟩
    rw [← lys,List.take_length,tot] at oq
    have q11:q=(1,1):=oq.uniq hD (on_one D)
    subst q11
    refine ⟨_,rfl,tl,rfl,⟨_,SqL.of (s5 _ _ etl)⟩,fun D2 hD2=>?_⟩
    have sD:Same H5 (upd H5 D2 (.lst [])):=qad hD2
    have R0:Same H4 (upd H5 D2 (.lst []))∧(upd H5 D2 (.lst [])) D2=some (.lst [])∧([]:List V)=(ns.take 0).map V.str∧SqT K (upd H5 D2 (.lst [])) ft [.int 1,.int 1]∧∃ w1 w2,(List.replicate 2 none++[]:St)=[w1,w2]:=⟨s5.trans sD,qab,rfl,hft.same sD,none,none,rfl⟩
    refine compG_by (J:=Itl K tl) ys.length (fun j zs σ H'=>Same H4 H'∧H' D2=some (.lst zs)∧zs=(ns.take j).map V.str∧SqT K H' ft [.int 1,.int 1]∧∃ w1 w2,σ=[w1,w2]) R0 ?_ (fun j zs σ H' r=>r.2.1) (fun j zs σ H' hj r=>⟨_,ys[j],SqL.of (r.1 _ _ etl),by simp [hj]⟩) ?_ ?_
    ·rw [← lys];exact Nat.le_trans (Nat.le_of_lt lnN) (by decide)
    ·rintro j zs σ Hx v H' hj ⟨s6,h6,ez,hft6,w1,w2,rfl⟩ ⟨rfl,hy⟩ Kt Kf q1 q2
     have hv:=hy _ (SqL.of (s6 _ _ etl))
     obtain ⟨n,t,u,hn,rfl,p1,p2⟩:=getP s6 hv
     refine ⟨t,_,rfl,p1,rfl,_,_,rfl,_,_,rfl,rfl,iteT (B:=Kf [some (.str n),some (.ref u)] H') ⟨_,rfl,q1 _ _ _ h6 ⟨fun c o e=>?_,qab,?_,qbd hft6 (qfl h6),_,_,rfl⟩⟩⟩
     ·have:=s5.free hD2
      rw [qag (qae e this)]
      exact s6 _ _ e
     ·rw [List.take_add_one,hn,List.map_append,ez];rfl
    ·rintro zs σ H' _ ⟨s6,h6,ez,hft6,_⟩
     refine ⟨⟨_,SqL.of (s6 _ _ etl),Nat.le_refl _⟩,?_⟩
     rw [← lys,List.take_length] at ez
     subst ez
     refine ⟨_,rfl,(show 2≤sizeLine by decide),fun f7 hf7=>⟨WT,.tuple [.int 1,.int 1],.tup (qa6 (qad hf7) hft6) (.cons .int (.cons .int .nil)),.tup (SqT.of qab) (.cons .int (.cons .int .nil)),_,rfl,iteF ?_⟩⟩
     have s7:=qad (o:=.tup [.int 1,.int 1]) hf7
     refine ⟨_,rfl,_,rfl,D2,ns,rfl,SqL.of (s7 _ _ h6),lnN,fun l9 hl9=>?_⟩
     have s9:=qad (o:=.lst ((srt ns).map V.str)) hl9
     have ens:srt ns=ns:=by rw [← hns];exact qfm (qaz _)
     refine ⟨WT,.list (ns.map PyData.str),.lst (s9 _ _ (s7 _ _ h6)) trivial (qhx fun n hn=>smN n (memN n hn)),.lst (by rw [qab,ens]) trivial (qhx fun n hn=>smN n (memN n hn)),_,rfl,iteF ?_⟩
     exact ⟨_,_,_,_,_,_,rfl,S4.trans (s6.trans (s7.trans s9))⟩
  ·rintro σ H2 ⟨v1,v2,v3,v4,v5,v6,rfl,s2⟩
   exact k _ (s1.trans s2)
end
end My
namespace My
open PySem L2 Fra
def qsOf (L:List (Ent×Addr)) (x:Str):List (Str×Int×Int):=match qbf L x with
 | some e=>(srt (e.1.held.map (·.1))).map (qba e.1.held)
 | none=>[]
def dHo (L:List (Ent×Addr)) (x:Str):PyData:=.tuple [.str x,.list ((qsOf L x).map dPr)]
def dAll (L:List (Ent×Addr)):PyData:=.list ((srt (L.map (·.1.nm))).map (dHo L))
theorem qs_eq {c1 c2:Nat}{h1 h2 m1 m2:Hl} (H1:HR c1 h1 m1) (H2:HR c2 h2 m2) (e:∀ n,getQ h1 n=getQ h2 n):(srt (h1.map (·.1))).map (qba h1)=(srt (h2.map (·.1))).map (qba h2):=by
 have e1:(fun n=>qba h1 n)=fun n=>(n,getQ h2 n):=funext fun n=>by rw [qdn h1 n,e]
 have e2:(fun n=>qba h2 n)=fun n=>(n,getQ h2 n):=funext fun n=>qdn h2 n
 show List.map (fun n=>qba h1 n) _=List.map (fun n=>qba h2 n) _
 rw [e1,e2,qfm ((List.perm_ext_iff_of_nodup H1.n1 H2.n1).mpr fun n=>by rw [H1.nm,H2.nm,e])]
section
variable {P:Program}{w:World}{K:PySem.W.Frag}{mg:Str→Option Value}{base:Heap}{a:Adr}{f:Addr}{fd:FuncData}
abbrev qbb:Stmt:=top 51
theorem qf1:FnScope ["_law_book"] ["_law_book"] (qaj qbb):=⟨rfl,rfl,rfl,by decide +kernel,rfl,by decide +kernel,by decide +kernel⟩
def qjb (K:PySem.W.Frag) (C:Addr):Sp:=fun vs H Q _=>∃ c b z ppl L,vs=[.ref b]∧BkG K C c H b z ppl L∧∀ l H',Same H H'→Dat K WT H' 5 (.ref l) (dAll L)→Q (.ref l) H'
theorem ok_allsh (F:Fun K "_law_all_shares" "_law_all_shares" qbb f fd) (T:Txt K mg a) (M_houses:Mt P w K mg base a.Book "houses" 1 ["self"] (qey K a.Book)) (M_shares:Mt P w K mg base a.Book "shares" 3 ["self","house"] (qex K a)) :
  FnOk P w K mg base (CXo P w) 4 f fd ["_law_book"] (qjb K a.Book):=by
 refine F.okN qf1 (fun vs H Q E h=>?_) (fun cdv A outer s H vs Q E hr h=>?_)
 ·obtain ⟨c,b,z,ppl,L,rfl,_⟩:=h
  rfl
 ·obtain ⟨c,b,z,ppl,L,rfl,B,k⟩:=h
  have hu:=qbk hr
  refine ⟨_,(@qak _ _ _ (@qav _ _ _ _ (qfp (fr:=["_law_book"]) (ix:=[0]) rfl (by exact (show CompOk ["_law_book"] (qaj qbb) _ _ _ _ from ⟨rfl,by decide +kernel,rfl,by decide +kernel,by decide +kernel,by decide +kernel,by decide +kernel,by decide +kernel,rfl⟩)) (qd9 (qhk (pv 0) M_houses (hr.mono (by first | decide | omega)) qan)) (fun _ _ _ _ _=>qf4) (fun _ _ _ _ _=>(qbn (qaa (pv 0) (qaa (qdh (pv 1) M_shares (hr.mono (by first | decide | omega)) qan (qaa (pv 0) qah)) qah))))))),?_⟩
  have noM:∀ {x:Str},¬ x="people"→¬ x="things_of"→¬ x="mark_of"→¬ x="loss_of"→¬ x="held_of"→(bf z).lookup x=none:=fun h1 h2 h3 h4 h5=>qec z h1 h2 h3 h4 h5
  refine ⟨_,rfl,b,_,_,rfl,B.bk.ob,noM (by decide +kernel) (by decide +kernel) (by decide +kernel) (by decide +kernel) (by decide +kernel),b,z,ppl,L,rfl,B.bk,fun hl hhl=>?_⟩
  have s1:Same H _:=qad (o:=.lst ((srt (L.map (·.1.nm))).map V.str)) hhl
  have e1:(upd H hl (.lst ((srt (L.map (·.1.nm))).map V.str))) hl=some (.lst ((srt (L.map (·.1.nm))).map V.str)):=qab
  generalize upd H hl (.lst ((srt (L.map (·.1.nm))).map V.str))=H1 at s1 e1 ⊢
  refine ⟨hl,rfl,⟨_,SqL.of e1⟩,fun D hD=>?_⟩
  have hns:∀ x∈srt (L.map (·.1.nm)),x∈L.map (·.1.nm):=fun x hx=>(qaz _).mem_iff.mp hx
  have lns:(srt (L.map (·.1.nm))).length≤8:=by rw [qat,List.length_map];exact B.bk.h8
  have eall:dAll L=.list ((srt (L.map (·.1.nm))).map (dHo L)):=rfl
  generalize srt (L.map (·.1.nm))=ns at e1 hns lns eall
  have R0:Same H1 (upd H1 D (.lst []))∧(upd H1 D (.lst [])) D=some (.lst [])∧Dats K (fun c _=>c≠D) (upd H1 D (.lst [])) 4 [] ((ns.take 0).map (dHo L)):=⟨qad hD,qab,.nil⟩
  refine qe8 (J:=Itl K hl) ns.length (fun j ys H'=>Same H1 H'∧H' D=some (.lst ys)∧Dats K (fun c _=>c≠D) H' 4 ys ((ns.take j).map (dHo L))) R0 (Nat.le_trans lns (by decide)) (fun j ys H' r=>r.2.1) (fun j ys H' hj r=>⟨_,.str ns[j],SqL.of (r.1 _ _ e1),by rw [List.getElem?_map,List.getElem?_eq_getElem hj];rfl⟩) ?_ ?_
  ·rintro j ys Hx v H' hj ⟨s2,h2,d2⟩ ⟨rfl,hy⟩ Kt Kf q1 q2
   have hv:=hy _ (SqL.of (s2 _ _ e1))
   rw [List.getElem?_map] at hv
   obtain ⟨x,hx,rfl⟩:=Option.map_eq_some_iff.mp hv
   obtain ⟨e,he,hem,enm⟩:=B.find (hns x (List.mem_of_getElem? hx))
   have B2:=B.same (s1.trans s2)
   have sx:Sm x:=enm ▸ B.sl e hem
   obtain ⟨hm,HRe⟩:=B.hr e hem
   have h64:e.1.held.length < 64:=Nat.lt_of_le_of_lt HRe.l1 (by have:=B.c45;omega)
   refine iteT (B:=Kf H') ⟨_,rfl,_,rfl,b,_,_,rfl,B2.bk.ob,noM (by decide +kernel) (by decide +kernel) (by decide +kernel) (by decide +kernel) (by decide +kernel),_,rfl,b,z,ppl,L,x,rfl,B2.bk,Sm.nm sx,fun e' he'=>?_,fun q=>(by rw [he] at q;cases q)⟩
   rw [he] at he'
   cases he'
   refine ⟨h64,fun tl zs H4 htl s4 etl pr=>⟨(show 2≤sizeLine by decide),fun t ht=>?_⟩⟩
   have s5:=qad (o:=.tup [.str x,.ref tl]) ht
   have S5:=s4.trans s5
   have tlD:tl≠D:=(qae h2 htl).symm
   have smQ:∀ q∈(srt (e.1.held.map (·.1))).map (qba e.1.held),Sm q.1:=fun q hq=>by
    obtain ⟨n,hn,rfl⟩:=List.mem_map.mp hq
    rw [qdn]
    exact HRe.sm n (HRe.had (by rw [← HRe.q];exact (HRe.nm n).mp ((qaz _).mem_iff.mp hn)))
   have eq:qsOf L x=(srt (e.1.held.map (·.1))).map (qba e.1.held):=by unfold qsOf;rw [he]
   have hD5:=S5 _ _ h2
   have dn:Dat K (fun c _=>c≠D) _ 4 (.ref t) (dHo L x):=.tup (SqT.of qab) (.cons (.str (sm_ok sx)) (.cons (.lst (s5 _ _ etl) tlD (by rw [eq];exact qmn (Paired.mapP pr fun q v ⟨t,u,e,h1,h2⟩=>⟨t,u,e,qa6 s5 h1,qa6 s5 h2⟩) smQ)) .nil))
   have up:∀ {k:Nat}{v:V}{d:PyData},Dat K (fun c _=>c≠D) (upd H4 t (.tup [.str x,.ref tl])) k v d→Dat K (fun c _=>c≠D) (upd (upd H4 t (.tup [.str x,.ref tl])) D (.lst (ys++[.ref t]))) k v d:=fun h=>h.keep (fun c xs e w=>⟨by rw [qag w];exact e,w⟩) fun c xs e=>qbd e (qfl hD5)
   have ups:∀ {k:Nat}{v:List V}{d:List PyData},Dats K (fun c _=>c≠D) H' k v d→Dats K (fun c _=>c≠D) (upd (upd H4 t (.tup [.str x,.ref tl])) D (.lst (ys++[.ref t]))) k v d:=fun h=>h.keep (fun c xs e w=>⟨by rw [qag w];exact S5 _ _ e,w⟩) fun c xs e=>qbd (qa6 S5 e) (qfl hD5)
   have app:∀ {k:Nat}{X:Hp}{v v':List V}{d d':List PyData},Dats K (fun c _=>c≠D) X k v d→Dats K (fun c _=>c≠D) X k v' d'→Dats K (fun c _=>c≠D) X k (v++v') (d++d'):=fun {k X v v' d d'} h g=>by
    induction v generalizing d with
    | nil=>cases h;exact g
    | cons y r ih=>cases h with | cons h1 h2=>exact .cons h1 (ih h2)
   refine q1 _ _ hD5 ⟨fun c o e=>?_,qab,?_⟩
   ·rw [qag (qae e hD)]
    exact S5 _ _ (s2 _ _ e)
   ·rw [List.take_add_one,hx,List.map_append]
    exact app (ups d2) (.cons (up dn) .nil)
  ·rintro ys H' _ ⟨s2,h2,d2⟩
   refine ⟨⟨_,SqL.of (s2 _ _ e1),Nat.le_of_eq (List.length_map ..)⟩,k D H' (s1.trans s2) ?_⟩
   rw [List.take_length] at d2
   rw [eall]
   exact .lst h2 trivial (d2.keep (fun c xs e _=>⟨e,trivial⟩) fun c xs e=>e)
end
end My
namespace My
open PySem L2 Fra
theorem On.le {D:Int}{q g:Int×Int}{v u:Int} (hD:0 < D) (h:On D q v) (h':On D g u) (le:v≤u):q.1 * g.2≤g.1 * q.2:=by
 refine Int.le_of_mul_le_mul_right (a:=D) ?_ hD
 have e1:q.1 * g.2 * D=v * (q.2 * g.2):=by rw [Int.mul_assoc,Int.mul_comm g.2,← Int.mul_assoc,h.ev,Int.mul_assoc]
 have e2:g.1 * q.2 * D=u * (q.2 * g.2):=by rw [Int.mul_assoc,Int.mul_comm q.2,← Int.mul_assoc,h'.ev,Int.mul_assoc,Int.mul_comm g.2]
 rw [e1,e2]
 exact Int.mul_le_mul_of_nonneg_right le (Int.le_of_lt (Int.mul_pos h.low.1 h'.low.1))
theorem On.pos {D:Int}{q:Int×Int}{v:Int} (hD:0 < D) (h:On D q v) (v0:0 < v):0 < q.1:=by
 have e:=h.ev
 have:0 < v * q.2:=Int.mul_pos v0 h.low.1
 by_cases z:0 < q.1
 ·exact z
 ·have:q.1 * D≤0:=Int.mul_nonpos_of_nonpos_of_nonneg (by omega) (by omega)
  omega
theorem On.nt {D:Int}{l:Hl}{o:Str}{q:Int×Int}{v u:Int} (hD:0 < D) (h:On D q v) (h':On D (getQ l o) u) (v0:0 < v) (le:v≤u):¬ qcm l o q:=fun z=>by
 rcases z with z | z
 ·exact z (h.pos hD v0)
 ·have:=h.le hD h' le
  omega
section
variable {K:PySem.W.Frag}{C:Addr}{c:Nat}{H H':Hp}{b b2:Addr}{z z2:BA}{ppl:List Str}{L L2:List (Ent×Addr)}
theorem BkG.twin (B:BkG K C c H b z ppl L) (e:L2.map (·.1)=L.map (·.1)) (B2:BookAt K C H' b2 z2 ppl L2):BkG K C c H' b2 z2 ppl L2:=by
 have en:L2.map (·.1.nm)=L.map (·.1.nm):=by
  have:=congrArg (List.map fun e:Ent=>e.nm) e
  rw [List.map_map,List.map_map] at this
  exact this
 have mem:∀ x∈L2,∃ y∈L,y.1=x.1:=fun x hx=>by
  have:x.1∈L2.map (·.1):=List.mem_map.mpr ⟨x,hx,rfl⟩
  rw [e] at this
  obtain ⟨y,hy,ey⟩:=List.mem_map.mp this
  exact ⟨y,hy,ey⟩
 refine ⟨B2,⟨by rw [en];exact B.one.1,fun x hx=>?_⟩,fun x hx=>?_,B.sp,fun x hx=>?_,B.c45⟩
 ·obtain ⟨y,hy,ey⟩:=mem x hx
  rw [en,← ey]
  exact B.one.2 y hy
 ·obtain ⟨y,hy,ey⟩:=mem x hx
  rw [← ey]
  exact B.hr y hy
 ·obtain ⟨y,hy,ey⟩:=mem x hx
  rw [← ey]
  exact B.sl y hy
theorem BkG.smZ (B:BkG K C c H b z ppl L) {x:Str} (h:x∈ppl++L.map (·.1.nm)):Sm x:=by
 rcases List.mem_append.mp h with h | h
 ·exact B.sp x h
 ·obtain ⟨y,hy,rfl⟩:=List.mem_map.mp h
  exact B.sl y hy
theorem qgb {h:Str}{e:Ent×Addr}{g:Ent→Ent} (nd:(L.map (·.1.nm)).Nodup) (he:qbf L h=some e) (hg:∀ x,(g x).nm=x.nm):qbf (setE L h g) h=some (g e.1,e.2):=by
 have hem:=qa7 he
 have hn:=qes he
 obtain ⟨y,hy⟩:∃ y,qbf (setE L h g) h=some y:=Option.isSome_iff_exists.mp (List.find?_isSome.mpr ⟨(g e.1,e.2),by unfold setE;exact List.mem_map.mpr ⟨e,hem,if_pos hn⟩,decide_eq_true (by show (g e.1).nm=h;rw [hg];exact hn)⟩)
 have ym:=qa7 hy
 have yn:=qes hy
 rw [hy]
 obtain ⟨x,hx,⟨n1,rfl⟩ | ⟨n1,rfl⟩⟩:=qb7 ym
 ·rw [qd1 nd he hx n1]
 ·exact absurd yn n1
theorem qkt {h x:Str}{g:Ent→Ent} (hg:∀ x,(g x).nm=x.nm) (hx:¬ x=h):qbf (setE L h g) x=qbf L x:=by
 unfold qbf setE
 rw [List.find?_map]
 have e:((fun e:Ent×Addr=>decide (e.1.nm=x)) ∘ fun x:Ent×Addr=>if x.1.nm=h then (g x.1,x.2) else x)=fun e=>decide (e.1.nm=x):=funext fun y=>by
  show decide ((if y.1.nm=h then (g y.1,y.2) else y).1.nm=x)=_
  by_cases q:y.1.nm=h
  ·rw [if_pos q]
   show decide ((g y.1).nm=x)=_
   rw [hg]
  ·rw [if_neg q]
 rw [e]
 cases q:L.find? fun e=>decide (e.1.nm=x) with
 | none=>rfl
 | some y =>
  have:y.1.nm=x:=by simpa using List.find?_some q
  show some (if y.1.nm=h then (g y.1,y.2) else y)=some y
  rw [if_neg (by rw [this];exact hx)]
abbrev qci (o1 o2:Str) (q:Int×Int) (x:Ent):Ent:={ x with held:=sold x.held o1 o2 q }
theorem names_soldE {h o1 o2:Str}{q:Int×Int}:(setE L h (qci o1 o2 q)).map (·.1.nm)=L.map (·.1.nm):=qa3 (v:=fun e:Ent×Addr=>e.1.nm) fun x=>rfl
theorem BkG.sale (B:BkG K C c H b z ppl L) (c44:c≤44) {h o1 o2:Str}{q:Int×Int}{e:Ent×Addr} (he:qbf L h=some e) (m1:o1∈ppl++L.map (·.1.nm)) (m2:o2∈ppl++L.map (·.1.nm)) (hq:ShOk q) (nt:¬ qcm e.1.held o1 q) (B':BookAt K C H' b z ppl (setE L h (qci o1 o2 q))) :
  BkG K C (c+1) H' b z ppl (setE L h (qci o1 o2 q)):=by
 have en:(setE L h (qci o1 o2 q)).map (·.1.nm)=L.map (·.1.nm):=names_soldE
 refine ⟨B',⟨by rw [en];exact B.one.1,fun x hx=>?_⟩,fun x hx=>?_,B.sp,fun x hx=>?_,by omega⟩
 ·rw [en]
  obtain ⟨y,hy,⟨_,rfl⟩ | ⟨_,rfl⟩⟩:=qb7 hx
  ·exact (B.one.2 y hy).sale B.one.1 m1 m2 hq.low hq.bb
  ·exact (B.one.2 _ hy).mono (by omega)
 ·obtain ⟨y,hy,⟨n1,rfl⟩ | ⟨_,rfl⟩⟩:=qb7 hx
  ·have ey:=qd1 B.nd he hy n1
   subst ey
   obtain ⟨hm,hr⟩:=B.hr y hy
   exact ⟨_,hr.sale hq (B.smZ m2) nt⟩
  ·obtain ⟨hm,hr⟩:=B.hr _ hy
   exact ⟨hm,hr.mono (by omega)⟩
 ·obtain ⟨y,hy,⟨_,rfl⟩ | ⟨_,rfl⟩⟩:=qb7 hx
  ·exact B.sl y hy
  ·exact B.sl _ hy
theorem BkG.sell (B:BkG K C c H b z ppl L) (c44:c≤44) {h o1 o2:Str}{q:Int×Int}{e:Ent×Addr} (he:qbf L h=some e) (m1:o1∈ppl++L.map (·.1.nm)) (m2:o2∈ppl++L.map (·.1.nm)) (hq:ShOk q) :
  (∀ e',qbf L h=some e'→SaleOk e'.1.held o1 q)∧hasH L h=true∧(hasP ppl o1 || hasH L o1)=true∧(hasP ppl o2 || hasH L o2)=true∧Nm h∧Nm o1∧Nm o2:=by
 have hem:=qa7 he
 have hnm:=qes he
 have hH:∀ x,hasH L x=hasP (L.map (·.1.nm)) x:=fun x=>by rw [qe6];rfl
 refine ⟨fun e' he'=>?_,by unfold hasH;unfold qbf at he;rw [he];rfl,by rw [hH];exact hasP_or.mpr m1,by rw [hH];exact hasP_or.mpr m2,Sm.nm (hnm ▸ B.sl e hem),Sm.nm (B.smZ m1),Sm.nm (B.smZ m2)⟩
 obtain ⟨hm,hr⟩:=B.hr e' (qa7 he')
 exact hr.saleOk c44 hq
end
theorem dAll_eq {L L':List (Ent×Addr)} (e:L.map (·.1.nm)=L'.map (·.1.nm)) (h:∀ x∈L.map (·.1.nm),qsOf L x=qsOf L' x):dAll L=dAll L':=by
 unfold dAll
 rw [← e]
 congr 1
 refine List.map_congr_left fun x hx=>?_
 unfold dHo
 rw [h x ((qaz _).mem_iff.mp hx)]
end My
namespace My
open PySem L2 Fra
structure Prt (D bot A u:Int) (k:Nat) (g r part some':Int×Int):Prop where
 D0:0 < D
 bD:Bt k D
 b2:2≤bot
 b10:bot≤10
 a1:1≤A
 ab:A < bot
 u0:0 < u
 u1:u≤D
 og:On D g u
 lr:Low r
 er:r.1 * bot=A * r.2
 ep:part=red (g.1 * r.1,g.2 * r.2)
 es:some'=red (part.1 * 1,part.2 * 3)
theorem bt_le {k:Nat}{n m:Int} (h:Bt k m) (h0:0≤n) (h1:n≤m):Bt k n:=by
 unfold Bt at *
 omega
section
variable {D bot A u:Int}{k:Nat}{g r part some':Int×Int}
theorem Prt.op (h:Prt D bot A u k g r part some'):On (D * bot) part (u * A):=by
 rw [h.ep]
 exact h.og.mul (by have:=h.b2;omega) h.lr h.er
theorem Prt.os (h:Prt D bot A u k g r part some'):On (D * bot * 3) some' (u * A):=by
 have:=h.op.mul (a:=1) (b:=3) (by decide) (r:=(1,3)) ⟨by decide,rfl⟩ rfl
 rw [h.es]
 have e:u * A * 1=u * A:=Int.mul_one _
 rw [e] at this
 exact this
theorem Prt.op3 (h:Prt D bot A u k g r part some'):On (D * bot * 3) part (u * A * 3):=h.op.scale 3
theorem Prt.pos (h:Prt D bot A u k g r part some'):0 < D * bot∧0 < D * bot * 3∧0 < u * A∧u * A≤D * bot∧u * A * 3≤u * bot * 3:=by
 have d0:=h.D0
 have b2:=h.b2
 have a1:=h.a1
 have ab:=h.ab
 have u0:=h.u0
 have x1:0 < D * bot:=Int.mul_pos d0 (by omega)
 have x2:0 < u * A:=Int.mul_pos u0 (by omega)
 have x3:u * A≤u * bot:=Int.mul_le_mul_of_nonneg_left (by omega) (by omega)
 have x4:u * bot≤D * bot:=Int.mul_le_mul_of_nonneg_right h.u1 (by omega)
 refine ⟨x1,by omega,x2,by omega,by omega⟩
theorem Prt.sz (h:Prt D bot A u k g r part some'):Bt (k+4) part.2∧Bt (k+4) part.1∧0 < part.1∧part.1≤part.2:=by
 obtain ⟨p1,p2,p3,p4,_⟩:=h.pos
 have bb:Bt (k+4) (D * bot):=h.bD.mul (by have:=h.b2;have:=h.b10;unfold Bt;omega)
 obtain ⟨a1,a2,a3,a4⟩:=h.op.small p1 bb (by omega) p4
 exact ⟨a3,a4,h.op.pos p1 p3,a2⟩
theorem Prt.two3 (h:Prt D bot A u k g r part some') (hk:k≤8000):Two part (1,3):=by
 obtain ⟨a1,a2,a3,a4⟩:=h.sz
 have lp:=h.op.low.1
 exact ⟨lp,by decide,a2.mono (by omega),(show Bt 2 1 by unfold Bt;decide).mono (by decide),a1.mono (by omega),(show Bt 2 3 by unfold Bt;decide).mono (by decide),(a1.mul (show Bt 2 3 by unfold Bt;decide)).mono (by omega)⟩
theorem Prt.sh (h:Prt D bot A u k g r part some') (hb:¬ part.2 > 10 ^ 28):ShOk part∧ShOk some'∧ShOk (addR part (-some'.1,some'.2))∧Two part (-some'.1,some'.2):=by
 obtain ⟨_,_,p0,p1⟩:=h.sz
 have lp:=h.op.low
 have e28:(10:Int) ^ 28=10000000000000000000000000000:=by decide +kernel
 rw [e28] at hb
 have e97:(2:Nat) ^ 97=158456325028528675187087900672:=by decide
 have b97:Bt 97 part.2:=by have:=lp.1;unfold Bt;rw [e97];omega
 have b97':Bt 97 (part.2 * 3):=by have:=lp.1;unfold Bt;rw [e97];omega
 have o1:On (part.2 * 3) part (part.1 * 3):=(qla lp).scale 3
 have o2:On (part.2 * 3) some' part.1:=by
  have:=(qla lp).mul (a:=1) (b:=3) (by decide) (r:=(1,3)) ⟨by decide,rfl⟩ rfl
  rw [h.es]
  have e:part.1 * 1=part.1:=Int.mul_one _
  have e':On (part.2 * 3) (red (part.1 * 1,part.2 * 3)) (part.1 * 1):=this
  rw [e] at e' ⊢
  exact e'
 have o3:=o1.add o2.neg
 have q0:0 < part.2 * 3:=by have:=lp.1;omega
 obtain ⟨s1,s2,s3,s4⟩:=o2.small q0 b97' (by omega) (by omega)
 obtain ⟨r1,r2,r3,r4⟩:=o3.small q0 b97' (by omega) (by omega)
 refine ⟨⟨lp,(bt_le b97 (by omega) p1).mono (by decide),b97⟩,⟨o2.low,s4.mono (by decide),s3⟩,⟨o3.low,r4.mono (by decide),r3⟩,⟨lp.1,o2.low.1,(bt_le b97 (by omega) p1).mono (by decide),(s4.neg).mono (by decide),b97.mono (by decide),s3.mono (by decide),(b97.mul s3).mono (by decide)⟩⟩
end
theorem BkG.keepC {K:PySem.W.Frag}{C:Addr}{c:Nat}{H H':Hp}{b:Addr}{z:BA}{ppl:List Str}{L:List (Ent×Addr)} (B:BkG K C c H b z ppl L) {x:Addr} (hx:x∉BFp b z L) (tx:∀ o,H x=some o→¬ ∃ xs,o=.tup xs∨∃ ob,o=.frz ob (.tup xs)) (fr:∀ c o,H c=some o→c≠x→H' c=some o):BkG K C c H' b z ppl L :=
 ⟨B.bk.keep fun c o e y=>fr c o e fun q=>by
  rcases y with y | y
  ·exact hx (q ▸ y)
  ·exact tx o (q ▸ e) y,B.one,B.hr,B.sp,B.sl,B.c45⟩
end My
namespace My
open PySem L2 Fra
theorem qly {U:Str→Int} (h:∀ n,0≤U n) {x:Str}:∀ {A:List Str},x∈A→U x≤sumU U A
 | y::r,hx=>by
  have h1:=qek h r
  have h2:=h y
  show U x≤U y+sumU U r
  rcases List.mem_cons.mp hx with q | q
  ·rw [q];omega
  ·have:=qly h q
   omega
theorem On.upos {D:Int}{q:Int×Int}{u:Int} (hD:0 < D) (h:On D q u) (q0:0 < q.1):0 < u:=by
 have e:=h.ev
 have:0 < q.1 * D:=Int.mul_pos q0 hD
 by_cases z:0 < u
 ·exact z
 ·have:u * q.2≤0:=Int.mul_nonpos_of_nonpos_of_nonneg (by omega) (Int.le_of_lt h.low.1)
  omega
theorem BkG.entry {K:PySem.W.Frag}{C:Addr}{c:Nat}{H:Hp}{b:Addr}{z:BA}{ppl:List Str}{L L2:List (Ent×Addr)} (B:BkG K C c H b z ppl L) (eL:L2.map (·.1)=L.map (·.1)) {h:Str}{e:Ent×Addr} (he:qbf L h=some e):L2.map (·.1.nm)=L.map (·.1.nm)∧∃ e2,qbf L2 h=some e2∧e2.1=e.1∧e2∈L2:=by
 have en:L2.map (·.1.nm)=L.map (·.1.nm):=by
  have:=congrArg (List.map fun e:Ent=>e.nm) eL
  rw [List.map_map,List.map_map] at this
  exact this
 refine ⟨en,?_⟩
 have hh:e.1∈L2.map (·.1):=by rw [eL];exact List.mem_map.mpr ⟨e,qa7 he,rfl⟩
 obtain ⟨y,hy,ey⟩:=List.mem_map.mp hh
 have hn:=qes he
 obtain ⟨e2,he2⟩:∃ e2,qbf L2 h=some e2:=Option.isSome_iff_exists.mp (List.find?_isSome.mpr ⟨y,hy,decide_eq_true (by rw [ey];exact hn)⟩)
 refine ⟨e2,he2,?_,qa7 he2⟩
 rw [← qd1 (by rw [en];exact B.nd) he2 hy (by rw [ey];exact hn),ey]
theorem qjh {L L2:List (Ent×Addr)} (e:L2.map (·.1)=L.map (·.1)) (x:Str):qsOf L2 x=qsOf L x:=by
 have key:∀ L:List (Ent×Addr),(qbf L x).map (·.1)=(L.map (·.1)).find? fun y=>decide (y.nm=x):=fun L=>by
  rw [List.find?_map]
  rfl
 have h:=(key L2).trans ((congrArg _ e).trans (key L).symm)
 unfold qsOf
 cases q:qbf L2 x with
 | none =>
  rw [q] at h
  cases q2:qbf L x with
  | none=>rfl
  | some y=>rw [q2] at h;cases h
 | some y =>
  rw [q] at h
  cases q2:qbf L x with
  | none=>rw [q2] at h;cases h
  | some y2 =>
   rw [q2] at h
   have h:y.1=y2.1:=Option.some.inj h
   simp only [h]
theorem qcw {L:List (Ent×Addr)}{h x o1 o2:Str}{q:Int×Int} (hx:¬ x=h):qsOf (setE L h (qci o1 o2 q)) x=qsOf L x:=by
 unfold qsOf
 rw [qkt (g:=qci o1 o2 q) (fun _=>rfl) hx]
theorem qlh {b:Addr}{z:BA}{L:List (Ent×Addr)}{e:Ent×Addr} (h:e∈L):e.2∈BFp b z L:=by
 unfold BFp
 simp only [List.mem_cons]
 right;right;right;right;right;right
 exact List.mem_map.mpr ⟨e,h,rfl⟩
section
variable {P:Program}{w:World}{K:PySem.W.Frag}{mg:Str→Option Value}{base:Heap}{a:Adr}{f:Addr}{fd:FuncData}
abbrev qb0:Stmt:=top 52
theorem sc__law_parted:FnScope ["_law_book","_law_house","_law_one_here","_law_other","_law_has","_law_purse_here","_law_bottom","_law_part_here","_law_some","_law_twins"] ["_law_book","_law_house","_law_one_here","_law_other","_law_has","_law_purse_here"] (qaj qb0):=⟨rfl,rfl,rfl,by decide +kernel,rfl,by decide +kernel,by decide +kernel⟩
def qhe (K:PySem.W.Frag) (C:Addr):Sp:=fun vs H Q _=>∃ c b z ppl L h o1 o2 ha p e,vs=[.ref b,.str h,.str o1,.str o2,.ref ha,.ref p]∧BkG K C c H b z ppl L∧c≤40∧qbf L h=some e∧o1∈e.1.held.map (·.1)∧o2∈ppl++L.map (·.1.nm)∧FrAt K H ha (getQ e.1.held o1)∧qbx H p ∧
 ∀ H',qbx H' p→(∀ c o,H c=some o→c≠p→H' c=some o)→Q (.bl true) H'
theorem ok_parted (F:Fun K "_law_parted" "_law_parted" qb0 f fd) (T:Txt K mg a) (F__law_take:Fn P w K mg base "_law_take" 1 ["_law_purse_here","_law_many"] qdy) (F__law_lowest:Fn P w K mg base "_law_lowest" 2 ["_law_top","_law_bottom"] qed) (F__law_times:Fn P w K mg base "_law_times" 3 ["_law_one_here","_law_other"] (qf0 K)) (F__law_plus:Fn P w K mg base "_law_plus" 3 ["_law_one_here","_law_other"] (qfe K))
  (M_twin:Mt P w K mg base a.Book "twin" 3 ["self"] (qk0 K a.Book)) (M_sale:Mt P w K mg base a.Book "sale" 4 ["self","house","one","other","share"] (qi2 K a)) (F__law_all_shares:Fn P w K mg base "_law_all_shares" 4 ["_law_book"] (qjb K a.Book)) (F__law_come_to_one:Fn P w K mg base "_law_come_to_one" 4 ["_law_book"] (qja K a.Book)) :
  FnOk P w K mg base (CXo P w) 5 f fd ["_law_book","_law_house","_law_one_here","_law_other","_law_has","_law_purse_here"] (qhe K a.Book):=by
 refine F.okN sc__law_parted (fun vs H Q E h=>?_) (fun cdv A outer s H vs Q E hr h=>?_)
 ·obtain ⟨c,b,z,ppl,L,h,o1,o2,ha,p,e,rfl,_⟩:=h
  rfl
 ·obtain ⟨c,b,z,ppl,L,h,o1,o2,ha,p,e,rfl,B,c40,he,ho1,mo2,hha,⟨px,py,hp⟩,k⟩:=h
  have hu:=qbk hr
  have hu5:(A.deeper (PyProof.Rows.envOfC "_law_parted" (qaj qb0) s.heap.objs.size f cdv)).units+5 < cLine:=Nat.lt_of_le_of_lt (Nat.add_le_add_left (by decide:5≤64) _) hr.units
  refine ⟨_,(@qaf _ _ _ _ _ (@qaq _ _ (6) _ _ _ _ sc__law_parted.nd rfl (Or.inl rfl) (@qaw _ _ _ _ _ _ _ _ qee qac (@qa1 _ _ _ _ _ _ _ _ _ _ _ F__law_take (hr.mono (by first | decide | omega)) rfl qan (@qaa _ _ _ _ _ (pv 5) (@qaa _ _ _ _ _ qac qah (by rfl)) (by rfl)) (by decide) (by rfl) (by rfl))) (by rfl) (by first | exact .inl rfl | exact .inr rfl | assumption)) (@qaf _ _ _ _ _ (@qaq _ _ (7) _ _ _ _ sc__law_parted.nd rfl (Or.inl rfl) (@qa1 _ _ _ _ _ _ _ _ _ _ _ F__law_times (hr.mono (by first | decide | omega)) rfl qan (@qaa _ _ _ _ _ (pv 4) (@qaa _ _ _ _ _ (@qa1 _ _ _ _ _ _ _ _ _ _ _ F__law_lowest (hr.mono (by first | decide | omega)) rfl qan (@qaa _ _ _ _ _ (@qaw _ _ _ _ _ _ _ _ qee qac (@qa1 _ _ _ _ _ _ _ _ _ _ _ F__law_take (hr.mono (by first | decide | omega)) rfl qan (@qaa _ _ _ _ _ (pv 5) (@qaa _ _ _ _ _ (@qaw _ _ _ _ _ _ _ _ qil (pv 6) qac) qah (by rfl)) (by rfl)) (by decide) (by rfl) (by rfl))) (@qaa _ _ _ _ _ (pv 6) qah (by rfl)) (by rfl)) (by decide) (by rfl) (by rfl)) qah (by rfl)) (by rfl)) (by decide) (by rfl) (by rfl)) (by rfl) (by first | exact .inl rfl | exact .inr rfl | assumption)) (@qaf _ _ _ _ _ (@qaq _ _ (8) _ _ _ _ sc__law_parted.nd rfl (Or.inl rfl) (@qa1 _ _ _ _ _ _ _ _ _ _ _ F__law_times (hr.mono (by first | decide | omega)) rfl qan (@qaa _ _ _ _ _ (pv 7) (@qaa _ _ _ _ _ (@qbn _ _ _ _ _ (@qaa _ _ _ _ _ qac (@qaa _ _ _ _ _ qac qah (by rfl)) (by rfl))) qah (by rfl)) (by rfl)) (by decide) (by rfl) (by rfl)) (by rfl) (by first | exact .inl rfl | exact .inr rfl | assumption)) (@qaf _ _ _ _ _ (@qbi _ _ _ _ _ _ _ _ (@qau _ _ _ _ _ _ _ _ op_gt (@qam _ _ _ _ _ _ _ qal (pv 7) qac (fun _ _=>rfl)) (@qaw _ _ _ _ _ _ _ _ qfj qac qac) (qay _)) (@qak _ _ _ (@qav _ _ _ _ qhl)) qax) (@qaf _ _ _ _ _ (@qaq _ _ (9) _ _ _ _ sc__law_parted.nd rfl (Or.inl rfl) (@qbj _ _ _ _ (@qaa _ _ _ _ _ (qhk (pv 0) M_twin (hr.mono (by first | decide | omega)) qan) (@qaa _ _ _ _ _ (qhk (pv 0) M_twin (hr.mono (by first | decide | omega)) qan) qah (by rfl)) (by rfl))) (by rfl) (by first | exact .inl rfl | exact .inr rfl | assumption)) (@qaf _ _ _ _ _ (@qbw _ _ _ _ (qdh (@qam _ _ _ _ _ _ _ qa0 (pv 9) qac (fun _ _=>rfl)) M_sale (hr.mono (by first | decide | omega)) qan (@qaa _ _ _ _ _ (pv 1) (@qaa _ _ _ _ _ (pv 2) (@qaa _ _ _ _ _ (pv 3) (@qaa _ _ _ _ _ (pv 7) qah (by rfl)) (by rfl)) (by rfl)) (by rfl))) (by rfl)) (@qaf _ _ _ _ _ (@qbw _ _ _ _ (qdh (@qam _ _ _ _ _ _ _ qa0 (pv 9) qac (fun _ _=>rfl)) M_sale (hr.mono (by first | decide | omega)) qan (@qaa _ _ _ _ _ (pv 1) (@qaa _ _ _ _ _ (pv 2) (@qaa _ _ _ _ _ (pv 3) (@qaa _ _ _ _ _ (pv 8) qah (by rfl)) (by rfl)) (by rfl)) (by rfl))) (by rfl)) (@qaf _ _ _ _ _ (@qbw _ _ _ _ (qdh (@qam _ _ _ _ _ _ _ qa0 (pv 9) qac (fun _ _=>rfl)) M_sale (hr.mono (by first | decide | omega)) qan (@qaa _ _ _ _ _ (pv 1) (@qaa _ _ _ _ _ (pv 2) (@qaa _ _ _ _ _ (pv 3) (@qaa _ _ _ _ _ (@qa1 _ _ _ _ _ _ _ _ _ _ _ F__law_plus (hr.mono (by first | decide | omega)) rfl qan (@qaa _ _ _ _ _ (pv 7) (@qaa _ _ _ _ _ (@qbn _ _ _ _ _ (@qaa _ _ _ _ _ (@pe_un _ _ _ _ _ _ qjy (@qam _ _ _ _ _ _ _ qal (pv 8) qac (fun _ _=>rfl))) (@qaa _ _ _ _ _ (@qam _ _ _ _ _ _ _ qal (pv 8) qac (fun _ _=>rfl)) qah (by rfl)) (by rfl))) qah (by rfl)) (by rfl)) (by decide) (by rfl) (by rfl)) qah (by rfl)) (by rfl)) (by rfl)) (by rfl))) (by rfl)) (@qaf _ _ _ _ _ (@qbi _ _ _ _ _ _ _ _ (PW.pt (qhi (@qau _ _ _ _ _ _ _ _ (show OpR _ (compareOp .NotEq) (rNeS K) from op_neS hu5) (@qa1 _ _ _ _ _ _ _ _ _ _ _ F__law_all_shares (hr.mono (by first | decide | omega)) rfl qan (@qaa _ _ _ _ _ (@qam _ _ _ _ _ _ _ qa0 (pv 9) qac (fun _ _=>rfl)) qah (by rfl)) (by decide) (by rfl) (by rfl)) (@qa1 _ _ _ _ _ _ _ _ _ _ _ F__law_all_shares (hr.mono (by first | decide | omega)) rfl qan (@qaa _ _ _ _ _ (@qam _ _ _ _ _ _ _ qa0 (pv 9) qac (fun _ _=>rfl)) qah (by rfl)) (by decide) (by rfl) (by rfl)) (qay _)) (qe2 (qd5 (qc3 (@qa1 _ _ _ _ _ _ _ _ _ _ _ F__law_come_to_one (hr.mono (by first | decide | omega)) rfl qan (@qaa _ _ _ _ _ (@qam _ _ _ _ _ _ _ qa0 (pv 9) qac (fun _ _=>rfl)) qah (by rfl)) (by decide) (by rfl) (by rfl))))))) (@qak _ _ _ (@qav _ _ _ _ qhl)) qax) (@qaf _ _ _ _ _ (@qbw _ _ _ _ (qdh (@qam _ _ _ _ _ _ _ qa0 (pv 9) qac (fun _ _=>rfl)) M_sale (hr.mono (by first | decide | omega)) qan (@qaa _ _ _ _ _ (pv 1) (@qaa _ _ _ _ _ (pv 3) (@qaa _ _ _ _ _ (pv 2) (@qaa _ _ _ _ _ (pv 7) qah (by rfl)) (by rfl)) (by rfl)) (by rfl))) (by rfl)) (@qak _ _ _ (@qav _ _ _ _ (@qcn _ _ _ _ _ _ _ _ (show OpR _ (compareOp .Eq) (rEqS K) from op_eqS hu5) (@qa1 _ _ _ _ _ _ _ _ _ _ _ F__law_all_shares (hr.mono (by first | decide | omega)) rfl qan (@qaa _ _ _ _ _ (@qam _ _ _ _ _ _ _ qa0 (pv 9) qac (fun _ _=>rfl)) qah (by rfl)) (by decide) (by rfl) (by rfl)) (@qa1 _ _ _ _ _ _ _ _ _ _ _ F__law_all_shares (hr.mono (by first | decide | omega)) rfl qan (@qaa _ _ _ _ _ (pv 0) qah (by rfl)) (by decide) (by rfl) (by rfl)) (qay _)))))))))))))),?_⟩
  have hem:=qa7 he
  obtain ⟨hm,HRe⟩:=B.hr e hem
  obtain ⟨sub,D,U,hD,bD,hU,sU⟩:=B.one.2 e hem
  have mo1:=sub o1 ho1
  refine ⟨_,rfl,p,px,py,9,rfl,hp,by decide,by decide,fun r xa ya r0 r9=>⟨_,_,rfl,rfl,?_⟩⟩
  have frA:∀ x o,H x=some o→x≠p→(upd H p (.lst [.int xa,.int ya])) x=some o:=fun x o e hx=>by rw [qag hx];exact e
  have npT:∀ {x:Addr}{o:HO},H x=some o→(∃ xs,o=.tup xs∨∃ ob,o=.frz ob (.tup xs))→x≠p:=fun {x o} e t q=>by
   rw [q,hp] at e
   cases e
   rcases t with ⟨xs,t | ⟨ob,t⟩⟩ <;> cases t
  have hhaA:FrAt K (upd H p (.lst [.int xa,.int ya])) ha (getQ e.1.held o1):=qbd hha fun x o e t=>frA x o e (npT e t)
  refine ⟨_,rfl,_,rfl,_,rfl,_,_,rfl,rfl,p,xa,ya,_,rfl,qab,(by omega),(by omega),fun r2 xb yb q0 q1=>⟨_,_,rfl,rfl,_,rfl,1+r2,2+r,rfl,by omega,?_,fun lo hlo=>?_⟩⟩
  ·have:Bt 4 (2+r):=by unfold Bt;omega
   exact this.mono (by decide)
  have AB:(1:Int)≤1+r2∧1+r2 < 2+r∧2≤2+r∧2+r≤10:=by omega
  obtain ⟨lrr,err⟩:=qe1 (q:=(1+r2,2+r)) (by show 0 < 2+r;omega)
  simp only at err
  have shr:ShOk (red (1+r2,2+r)):=by
   have o:On (2+r) (red (1+r2,2+r)) (1+r2):=⟨lrr,err⟩
   have b4:Bt 4 (2+r):=by unfold Bt;omega
   obtain ⟨_,_,x3,x4⟩:=o.small (by omega) b4 (by omega) (by omega)
   exact ⟨lrr,x4.mono (by decide),x3.mono (by decide)⟩
  have frB:∀ x o,H x=some o→x≠p→(upd (upd (upd H p (.lst [.int xa,.int ya])) p (.lst [.int xb,.int yb])) lo (.tup [.int (red (1+r2,2+r)).1,.int (red (1+r2,2+r)).2])) x=some o:=fun x o e hx=>qad hlo _ _ (by rw [qag hx,qag hx];exact e)
  have ep:(upd (upd (upd H p (.lst [.int xa,.int ya])) p (.lst [.int xb,.int yb])) lo (.tup [.int (red (1+r2,2+r)).1,.int (red (1+r2,2+r)).2])) p=some (.lst [.int xb,.int yb]):=qad hlo _ _ qab
  have elo:FrAt K (upd (upd (upd H p (.lst [.int xa,.int ya])) p (.lst [.int xb,.int yb])) lo (.tup [.int (red (1+r2,2+r)).1,.int (red (1+r2,2+r)).2])) lo (red (1+r2,2+r)):=SqT.of qab
  have hhaB:FrAt K (upd (upd (upd H p (.lst [.int xa,.int ya])) p (.lst [.int xb,.int yb])) lo (.tup [.int (red (1+r2,2+r)).1,.int (red (1+r2,2+r)).2])) ha (getQ e.1.held o1):=qbd hha fun x o e t=>frB x o e (npT e t)
  generalize upd (upd (upd H p (.lst [.int xa,.int ya])) p (.lst [.int xb,.int yb])) lo (.tup [.int (red (1+r2,2+r)).1,.int (red (1+r2,2+r)).2])=H1 at frB ep elo hhaB ⊢
  clear hhaA frA hlo
  have nu:∀ n,0≤U n:=fun n=>(hU n).nonneg hD (HRe.fr n).nn
  refine ⟨ha,lo,getQ e.1.held o1,red (1+r2,2+r),rfl,hhaB,elo,(HRe.fr o1).two (by omega) shr,fun pt hpt=>?_⟩
  have s2:=qad (o:=.tup [.int (red ((getQ e.1.held o1).1 * (red (1+r2,2+r)).1,(getQ e.1.held o1).2 * (red (1+r2,2+r)).2)).1,.int (red ((getQ e.1.held o1).1 * (red (1+r2,2+r)).1,(getQ e.1.held o1).2 * (red (1+r2,2+r)).2)).2]) hpt
  have ept:FrAt K (upd H1 pt (.tup [.int (red ((getQ e.1.held o1).1 * (red (1+r2,2+r)).1,(getQ e.1.held o1).2 * (red (1+r2,2+r)).2)).1,.int (red ((getQ e.1.held o1).1 * (red (1+r2,2+r)).1,(getQ e.1.held o1).2 * (red (1+r2,2+r)).2)).2])) pt (red ((getQ e.1.held o1).1 * (red (1+r2,2+r)).1,(getQ e.1.held o1).2 * (red (1+r2,2+r)).2)):=SqT.of qab
  obtain ⟨part,epart⟩:∃ q,q=red ((getQ e.1.held o1).1 * (red (1+r2,2+r)).1,(getQ e.1.held o1).2 * (red (1+r2,2+r)).2):=⟨_,rfl⟩
  rw [← epart] at s2 ept ⊢
  generalize upd H1 pt (.tup [.int part.1,.int part.2])=H2 at s2 ept ⊢
  obtain ⟨some',esome⟩:∃ q,q=red (part.1 * 1,part.2 * 3):=⟨_,rfl⟩
  have PR:Prt D (2+r) (1+r2) (U o1) (97 * c+2) (getQ e.1.held o1) (red (1+r2,2+r)) part some':=⟨hD,bD,AB.2.2.1,AB.2.2.2,AB.1,AB.2.1,(hU o1).upos hD ((HRe.nm o1).mp ho1),by rw [← sU];exact qly nu mo1,hU o1,lrr,err,epart,esome⟩
  refine ⟨_,rfl,(show 2≤sizeLine by decide),fun t3 ht3=>?_⟩
  have s3:=qad (o:=.tup [.int 1,.int 3]) ht3
  refine ⟨pt,t3,part,(1,3),rfl,ept.same s3,SqT.of qab,PR.two3 (by omega),fun sm hsm=>?_⟩
  have s4:=qad (o:=.tup [.int (red (part.1 * 1,part.2 * 3)).1,.int (red (part.1 * 1,part.2 * 3)).2]) hsm
  have esm:FrAt K (upd (upd H2 t3 (.tup [.int 1,.int 3])) sm (.tup [.int (red (part.1 * 1,part.2 * 3)).1,.int (red (part.1 * 1,part.2 * 3)).2])) sm (red (part.1 * 1,part.2 * 3)):=SqT.of qab
  have S4:=s2.trans (s3.trans s4)
  have ept4:=(ept.same s3).same s4
  have hsmE:∀ X,X=red (part.1 * 1,part.2 * 3)→X=some':=fun X h=>by rw [h,esome]
  generalize upd (upd H2 t3 (.tup [.int 1,.int 3])) sm (.tup [.int (red (part.1 * 1,part.2 * 3)).1,.int (red (part.1 * 1,part.2 * 3)).2])=H5 at S4 esm ept4 ⊢
  rw [← esome] at esm
  have ep5:=S4 _ _ ep
  have fr5:∀ x o,H x=some o→x≠p→H5 x=some o:=fun x o e hx=>S4 _ _ (frB x o e hx)
  have B5:BkG K a.Book c H5 b z ppl L:=B.keepC (B.bk.far hp) (fun o e t=>npT e t rfl) fr5
  clear s2 s3 s4 S4 ht3 hpt hsm ep frB elo hhaB ept hsmE B hha hp npT
  refine ⟨_,rfl,pt,_,1,_,rfl,rfl,ept4,qai (j:=1) rfl,_,_,rfl,rfl,⟨by decide,by decide,by decide⟩,_,_,rfl,rfl,_,rfl,ite2 (fun _=>k _ ⟨_,_,ep5⟩ fr5) (fun hb=>?_)⟩
  have hb:¬ part.2 > 10 ^ 28:=fun z=>hb (decide_eq_true z)
  obtain ⟨shP,shS,shR,twoR⟩:=PR.sh hb
  have noM:∀ (z:BA) {x:Str},¬ x="people"→¬ x="things_of"→¬ x="mark_of"→¬ x="loss_of"→¬ x="held_of"→(bf z).lookup x=none:=fun z _ h1 h2 h3 h4 h5=>qec z h1 h2 h3 h4 h5
  refine ⟨_,rfl,b,_,_,rfl,B5.bk.ob,noM _ (by decide +kernel) (by decide +kernel) (by decide +kernel) (by decide +kernel) (by decide +kernel),b,z,ppl,L,rfl,B5.bk,fun b0 z0 L0 H6 eL0 K0 s6 f0=>?_⟩
  have B6:=B5.same s6
  have T0:BkG K a.Book c H6 b0 z0 ppl L0:=B5.twin eL0 K0
  refine ⟨_,rfl,b,_,_,rfl,B6.bk.ob,noM _ (by decide +kernel) (by decide +kernel) (by decide +kernel) (by decide +kernel) (by decide +kernel),b,z,ppl,L,rfl,B6.bk,fun b1 z1 L1 H7 eL1 K1 s7 f1=>?_⟩
  have T1:BkG K a.Book c H7 b1 z1 ppl L1:=B6.twin eL1 K1
  obtain ⟨en0,e0,he0,ee0,hm0⟩:=B5.entry eL0 he
  obtain ⟨en1,e1,he1,ee1,hm1⟩:=B5.entry eL1 he
  have x0n:H5 e0.2=none:=f0 _ (qlh hm0)
  have x1n6:H6 e1.2=none:=f1 _ (qlh hm1)
  have x1n:H5 e1.2=none:=s6.free x1n6
  have x0T1:e0.2∉BFp b1 z1 L1:=fun q=>by
   obtain ⟨o,w,_⟩:=T0.bk.all _ (qlh hm0)
   rw [f1 _ q] at w;cases w
  have x1T0:e1.2∉BFp b0 z0 L0:=fun q=>by
   obtain ⟨o,w,_⟩:=T0.bk.all _ q
   rw [x1n6] at w;cases w
  refine ⟨(show 2≤sizeLine by decide),fun tw htw=>?_⟩
  have s8:=qad (o:=.lst [.ref b0,.ref b1]) htw
  have etw:(upd H7 tw (.lst [.ref b0,.ref b1])) tw=some (.lst [.ref b0,.ref b1]):=qab
  generalize upd H7 tw (.lst [.ref b0,.ref b1])=H8 at s8 etw ⊢
  have S8:Same H5 H8:=s6.trans (s7.trans s8)
  have T0:=T0.same (s7.trans s8)
  have T1:=T1.same s8
  clear s6 s7 s8 K0 K1 f0 f1 B6 x1n6
  obtain ⟨_,D3,v0,vD,vle⟩:=PR.pos
  have oU:∀ n,On (D * (2+r) * 3) (getQ e.1.held n) (U n * (2+r) * 3):=fun n=>((hU n).scale (2+r)).scale 3
  have oP:=PR.op3
  have oS:=PR.os
  have oR:=oP.add oS.neg
  have dic:∀ {X:Hp}{b':Addr}{z':BA}{L':List (Ent×Addr)}{cc:Nat}{x:Ent×Addr},BkG K a.Book cc X b' z' ppl L'→x∈L'→(∀ o,X x.2=some o→¬ ∃ xs,o=.tup xs∨∃ ob,o=.frz ob (.tup xs))∧∀ {y:Addr}{ys:List V},X y=some (.lst ys)→y≠x.2:=fun {X b' z' L' cc x} BB hx=>by
   obtain ⟨ts,_,w,_⟩:=BB.bk.he x hx
   refine ⟨fun o e t=>?_,fun {y ys} e q=>?_⟩
   ·rw [w] at e
    cases e
    rcases t with ⟨xs,t | ⟨ob,t⟩⟩ <;> cases t
   ·rw [q,w] at e
    cases e
  have nt0:¬ qcm e0.1.held o1 part:=by
   rw [ee0]
   exact oP.nt D3 (oU o1) (by omega) (by omega)
  obtain ⟨c1,c2,c3,c4,c5,c6,c7⟩:=T0.sell (by omega) he0 (o1:=o1) (o2:=o2) (q:=part) (by rw [en0];exact mo1) (by rw [en0];exact mo2) shP
  refine ⟨_,rfl,tw,_,0,_,rfl,rfl,SqL.of etw,qai (j:=0) rfl,b0,_,_,rfl,T0.bk.ob,noM _ (by decide +kernel) (by decide +kernel) (by decide +kernel) (by decide +kernel) (by decide +kernel),_,rfl,_,rfl,_,rfl,_,rfl,b0,z0,ppl,L0,h,o1,o2,pt,part,rfl,T0.bk,T0.nd,c5,c6,c7,(ept4.same S8),shP.sz,c1,fun w=>(by rw [c2] at w;cases w),fun _ w=>(by rw [c3] at w;cases w),fun _ _ w=>(by rw [c4] at w;cases w),fun e' w _ _ w2=>(by rw [he0] at w;cases w;exact absurd w2 nt0),fun e' w _ _ _ H9 BB fr9=>?_⟩
  rw [he0] at w
  cases w
  have T0':=T0.sale (by omega) he0 (by rw [en0];exact mo1) (by rw [en0];exact mo2) shP nt0 BB
  clear c1 c2 c3 c4 c5 c6 c7 BB
  have S9:Same H5 H9:=fun x o w=>fr9 x o (S8 _ _ w) (qae w x0n)
  have etw9:=fr9 _ _ etw ((dic T0 hm0).2 etw)
  have T1:=T1.keepC x0T1 (dic T0 hm0).1 fr9
  clear fr9 T0 etw S8
  have nt1:¬ qcm e1.1.held o1 some':=by
   rw [ee1]
   exact oS.nt D3 (oU o1) v0 (by omega)
  obtain ⟨c1,c2,c3,c4,c5,c6,c7⟩:=T1.sell (by omega) he1 (o1:=o1) (o2:=o2) (q:=some') (by rw [en1];exact mo1) (by rw [en1];exact mo2) shS
  refine ⟨_,rfl,tw,_,1,_,rfl,rfl,SqL.of etw9,qai (j:=1) rfl,b1,_,_,rfl,T1.bk.ob,noM _ (by decide +kernel) (by decide +kernel) (by decide +kernel) (by decide +kernel) (by decide +kernel),_,rfl,_,rfl,_,rfl,_,rfl,b1,z1,ppl,L1,h,o1,o2,sm,some',rfl,T1.bk,T1.nd,c5,c6,c7,(esm.same S9),shS.sz,c1,fun w=>(by rw [c2] at w;cases w),fun _ w=>(by rw [c3] at w;cases w),fun _ _ w=>(by rw [c4] at w;cases w),fun e' w _ _ w2=>(by rw [he1] at w;cases w;exact absurd w2 nt1),fun e' w _ _ _ H10 BB fr10=>?_⟩
  rw [he1] at w
  cases w
  have T1':=T1.sale (by omega) he1 (by rw [en1];exact mo1) (by rw [en1];exact mo2) shS nt1 BB
  clear c1 c2 c3 c4 c5 c6 c7 BB
  have S10:Same H5 H10:=fun x o w=>fr10 x o (S9 _ _ w) (qae w x1n)
  have etw10:=fr10 _ _ etw9 ((dic T1 hm1).2 etw9)
  have T0':=T0'.keepC (by rw [qd4];exact x1T0) (dic T1 hm1).1 fr10
  clear fr10 etw9 S9
  have he1':qbf (setE L1 h (qci o1 o2 some')) h=some (qci o1 o2 some' e1.1,e1.2):=qgb T1.nd he1 fun _=>rfl
  have en1':(setE L1 h (qci o1 o2 some')).map (·.1.nm)=L.map (·.1.nm):=names_soldE.trans en1
  have hX:U o1 * (1+r2) * 3≤U o1 * (2+r) * 3:=vle
  have oW1:∀ n,On (D * (2+r) * 3) (getQ (sold e.1.held o1 o2 some') n) (addU (addU (fun n=>U n * (2+r) * 3) o1 (-(U o1 * (1+r2)))) o2 (U o1 * (1+r2)) n):=fun n=>qhn oU oS n
  have nt2:¬ qcm (qci o1 o2 some' e1.1).held o1 (addR part (-some'.1,some'.2)):=by
   show ¬ qcm (sold e1.1.held o1 o2 some') o1 _
   rw [ee1]
   refine oR.nt D3 (oW1 o1) (by omega) ?_
   unfold addU
   by_cases q:o1=o2
   ·rw [if_pos q,if_pos rfl];dsimp only;omega
   ·rw [if_neg q,if_pos rfl];dsimp only;omega
  refine ⟨_,rfl,tw,_,1,_,rfl,rfl,SqL.of etw10,qai (j:=1) rfl,b1,_,_,rfl,T1'.bk.ob,noM _ (by decide +kernel) (by decide +kernel) (by decide +kernel) (by decide +kernel) (by decide +kernel),_,rfl,_,rfl,_,rfl,_,rfl,_,rfl,sm,_,0,_,rfl,rfl,esm.same S10,qai (j:=0) rfl,_,rfl,_,rfl,sm,_,1,_,rfl,rfl,esm.same S10,qai (j:=1) rfl,(show 2≤sizeLine by decide),fun t hht=>?_⟩
  have u1:=qad (o:=.tup [.int (-some'.1),.int some'.2]) hht
  refine ⟨pt,t,part,(-some'.1,some'.2),rfl,(ept4.same S10).same u1,SqT.of qab,twoR,fun rs hrs=>?_⟩
  have u2:=qad (o:=.tup [.int (addR part (-some'.1,some'.2)).1,.int (addR part (-some'.1,some'.2)).2]) hrs
  have T1a:=(T1'.same u1).same u2
  have T0a:=(T0'.same u1).same u2
  have S11:=S10.trans (u1.trans u2)
  have etw11:=u2 _ _ (u1 _ _ etw10)
  obtain ⟨c1,c2,c3,c4,c5,c6,c7⟩:=T1a.sell (by omega) he1' (o1:=o1) (o2:=o2) (q:=addR part (-some'.1,some'.2)) (by rw [en1'];exact mo1) (by rw [en1'];exact mo2) shR
  refine ⟨b1,z1,ppl,(setE L1 h (qci o1 o2 some')),h,o1,o2,rs,addR part (-some'.1,some'.2),rfl,T1a.bk,T1a.nd,c5,c6,c7,SqT.of qab,shR.sz,c1,fun w=>(by rw [c2] at w;cases w),fun _ w=>(by rw [c3] at w;cases w),fun _ _ w=>(by rw [c4] at w;cases w),fun e' w _ _ w2=>(by rw [he1'] at w;cases w;exact absurd w2 nt2),fun e' w _ _ _ H12 BB fr12=>?_⟩
  rw [he1'] at w
  cases w
  have T1b:=T1a.sale (by omega) he1' (by rw [en1'];exact mo1) (by rw [en1'];exact mo2) shR nt2 BB
  clear c1 c2 c3 c4 c5 c6 c7 BB
  have hm1':(qci o1 o2 some' e1.1,e1.2)∈setE L1 h (qci o1 o2 some'):=qa7 he1'
  have S12:Same H5 H12:=fun x o w=>fr12 x o (S11 _ _ w) (qae w x1n)
  have etw12:=fr12 _ _ etw11 ((dic T1a hm1').2 etw11)
  have T0b:=T0a.keepC (by rw [qd4];exact x1T0) (dic T1a hm1').1 fr12
  clear fr12 etw11 etw10 S11 S10 T1a T0a T1' T0'
  have he0':qbf (setE L0 h (qci o1 o2 part)) h=some (qci o1 o2 part e0.1,e0.2):=qgb (by rw [en0];exact B5.nd) he0 fun _=>rfl
  have en0':(setE L0 h (qci o1 o2 part)).map (·.1.nm)=L.map (·.1.nm):=names_soldE.trans en0
  have he1b:qbf (setE (setE L1 h (qci o1 o2 some')) h (qci o1 o2 (addR part (-some'.1,some'.2)))) h=some (qci o1 o2 (addR part (-some'.1,some'.2)) (qci o1 o2 some' e1.1),e1.2):=qgb (by rw [en1'];exact B5.nd) he1' fun _=>rfl
  have oW0:∀ n,On (D * (2+r) * 3) (getQ (sold e.1.held o1 o2 part) n) (addU (addU (fun n=>U n * (2+r) * 3) o1 (-(U o1 * (1+r2) * 3))) o2 (U o1 * (1+r2) * 3) n):=fun n=>qhn oU oP n
  have oW2:∀ n,On (D * (2+r) * 3) (getQ (sold (sold e.1.held o1 o2 some') o1 o2 (addR part (-some'.1,some'.2))) n) (addU (addU (addU (addU (fun n=>U n * (2+r) * 3) o1 (-(U o1 * (1+r2)))) o2 (U o1 * (1+r2))) o1 (-(U o1 * (1+r2) * 3+-(U o1 * (1+r2))))) o2 (U o1 * (1+r2) * 3+-(U o1 * (1+r2))) n):=fun n=>qhn oW1 oR n
  have qeq:dAll (setE L0 h (qci o1 o2 part))=dAll (setE (setE L1 h (qci o1 o2 some')) h (qci o1 o2 (addR part (-some'.1,some'.2)))):=by
   refine dAll_eq (en0'.trans (names_soldE.trans en1').symm) fun x _=>?_
   by_cases hx:x=h
   ·subst hx
    obtain ⟨g1,G1⟩:=T0b.hr _ (qa7 he0')
    obtain ⟨g2,G2⟩:=T1b.hr _ (qa7 he1b)
    unfold qsOf
    rw [he0',he1b]
    refine qs_eq G1 G2 fun n=>?_
    show getQ (sold e0.1.held o1 o2 part) n=getQ (sold (sold e1.1.held o1 o2 some') o1 o2 (addR part (-some'.1,some'.2))) n
    rw [ee0,ee1]
    refine (oW0 n).uniq D3 ?_
    have:=oW2 n
    have ev:addU (addU (addU (addU (fun n=>U n * (2+r) * 3) o1 (-(U o1 * (1+r2)))) o2 (U o1 * (1+r2))) o1 (-(U o1 * (1+r2) * 3+-(U o1 * (1+r2))))) o2 (U o1 * (1+r2) * 3+-(U o1 * (1+r2))) n=addU (addU (fun n=>U n * (2+r) * 3) o1 (-(U o1 * (1+r2) * 3))) o2 (U o1 * (1+r2) * 3) n:=by
     unfold addU
     by_cases q1:n=o1
     ·by_cases q2:n=o2
      ·rw [if_pos q2,if_pos q1,if_pos q2,if_pos q1,if_pos q2,if_pos q1];omega
      ·rw [if_neg q2,if_pos q1,if_neg q2,if_pos q1,if_neg q2,if_pos q1];omega
     ·by_cases q2:n=o2
      ·rw [if_pos q2,if_neg q1,if_pos q2,if_neg q1,if_pos q2,if_neg q1];omega
      ·rw [if_neg q2,if_neg q1,if_neg q2,if_neg q1,if_neg q2,if_neg q1]
    rw [ev] at this
    exact this
   ·rw [qcw hx,qcw hx,qcw hx,qjh eL0,qjh eL1]
  refine ⟨_,rfl,tw,_,0,_,rfl,rfl,SqL.of etw12,qai (j:=0) rfl,_,b0,z0,ppl,_,rfl,T0b,fun la Ha sa da=>?_⟩
  refine ⟨_,rfl,tw,_,1,_,rfl,rfl,SqL.of (sa _ _ etw12),qai (j:=1) rfl,_,b1,z1,ppl,_,rfl,T1b.same sa,fun lb Hb sb db=>?_⟩
  have sab:=sa.trans sb
  refine ⟨WT,_,qmo da sb,(by rw [qeq];exact db),_,rfl,iteF ⟨_,rfl,tw,_,0,_,rfl,rfl,SqL.of (sab _ _ etw12),qai (j:=0) rfl,_,b0,z0,ppl,_,rfl,T0b.same sab,fun Hc sc=>⟨_,rfl,iteF ?_⟩⟩⟩
  have S13:Same H12 Hc:=sab.trans sc
  have T0c:=T0b.same S13
  have etw13:=S13 _ _ etw12
  have S13':=S12.trans S13
  clear da db sab sa sb sc T0b T1b
  have nt3:¬ qcm (qci o1 o2 part e0.1).held o2 part:=by
   show ¬ qcm (sold e0.1.held o1 o2 part) o2 part
   rw [ee0]
   refine oP.nt D3 (oW0 o2) (by omega) ?_
   have n2:=nu o2
   have n3:0≤U o2 * (2+r):=Int.mul_nonneg n2 (by omega)
   unfold addU
   rw [if_pos rfl]
   by_cases q:o2=o1
   ·rw [if_pos q,q];dsimp only;omega
   ·rw [if_neg q];dsimp only;omega
  obtain ⟨c1,c2,c3,c4,c5,c6,c7⟩:=T0c.sell (by omega) he0' (o1:=o2) (o2:=o1) (q:=part) (by rw [en0'];exact mo2) (by rw [en0'];exact mo1) shP
  refine ⟨_,rfl,tw,_,0,_,rfl,rfl,SqL.of etw13,qai (j:=0) rfl,b0,_,_,rfl,T0c.bk.ob,noM _ (by decide +kernel) (by decide +kernel) (by decide +kernel) (by decide +kernel) (by decide +kernel),_,rfl,_,rfl,_,rfl,_,rfl,b0,z0,ppl,(setE L0 h (qci o1 o2 part)),h,o2,o1,pt,part,rfl,T0c.bk,T0c.nd,c5,c6,c7,(ept4.same S13'),shP.sz,c1,fun w=>(by rw [c2] at w;cases w),fun _ w=>(by rw [c3] at w;cases w),fun _ _ w=>(by rw [c4] at w;cases w),fun e' w _ _ w2=>(by rw [he0'] at w;cases w;exact absurd w2 nt3),fun e' w _ _ _ H14 BB fr14=>?_⟩
  rw [he0'] at w
  cases w
  have T0d:=T0c.sale (by omega) he0' (by rw [en0'];exact mo2) (by rw [en0'];exact mo1) shP nt3 BB
  clear c1 c2 c3 c4 c5 c6 c7 BB
  have hm0':(qci o1 o2 part e0.1,e0.2)∈setE L0 h (qci o1 o2 part):=qa7 he0'
  have S14:Same H5 H14:=fun x o w=>fr14 x o (S13' _ _ w) (qae w x0n)
  have etw14:=fr14 _ _ etw13 ((dic T0c hm0').2 etw13)
  have he0d:qbf (setE (setE L0 h (qci o1 o2 part)) h (qci o2 o1 part)) h=some (qci o2 o1 part (qci o1 o2 part e0.1),e0.2):=qgb (by rw [en0'];exact B5.nd) he0' fun _=>rfl
  have qeq2:dAll (setE (setE L0 h (qci o1 o2 part)) h (qci o2 o1 part))=dAll L:=by
   refine dAll_eq (names_soldE.trans en0') fun x _=>?_
   by_cases hx:x=h
   ·subst hx
    obtain ⟨g1,G1⟩:=T0d.hr _ (qa7 he0d)
    unfold qsOf
    rw [he0d,he]
    refine qs_eq G1 HRe fun n=>?_
    show getQ (sold (sold e0.1.held o1 o2 part) o2 o1 part) n=getQ e.1.held n
    rw [ee0]
    have h1:=qhn (o1:=o2) (o2:=o1) oW0 oP n
    have ev:addU (addU (addU (addU (fun n=>U n * (2+r) * 3) o1 (-(U o1 * (1+r2) * 3))) o2 (U o1 * (1+r2) * 3)) o2 (-(U o1 * (1+r2) * 3))) o1 (U o1 * (1+r2) * 3) n=U n * (2+r) * 3:=by
     unfold addU
     by_cases q1:n=o1
     ·by_cases q2:n=o2
      ·rw [if_pos q1,if_pos q2,if_pos q2,if_pos q1];dsimp only;omega
      ·rw [if_pos q1,if_neg q2,if_neg q2,if_pos q1];dsimp only;omega
     ·by_cases q2:n=o2
      ·rw [if_neg q1,if_pos q2,if_pos q2,if_neg q1];dsimp only;omega
      ·rw [if_neg q1,if_neg q2,if_neg q2,if_neg q1]
    rw [ev] at h1
    exact h1.uniq D3 (oU n)
   ·rw [qcw hx,qcw hx,qjh eL0]
  refine ⟨_,rfl,tw,_,0,_,rfl,rfl,SqL.of etw14,qai (j:=0) rfl,_,b0,z0,ppl,_,rfl,T0d,fun la Ha sa da=>?_⟩
  refine ⟨_,rfl,_,b,z,ppl,L,rfl,B5.same (S14.trans sa),fun lb Hb sb db=>?_⟩
  have SF:=S14.trans (sa.trans sb)
  refine ⟨WT,_,qmo da sb,(by rw [qeq2];exact db),k Hb ⟨_,_,SF _ _ ep5⟩ fun x o w hx=>SF _ _ (fr5 x o w hx)⟩
end
end My
namespace My
open PySem L2 Fra
def ScAt (K:PySem.W.Frag) (H:Hp) (sc pl:Addr) (ns:List Int):Prop:=(∃ o,H sc=some o∧(o=.lst (ns.map V.int)∨∃ ob,o=.frz ob (.lst (ns.map V.int)))∧sc≠pl)∨∀ H',SqL K H' sc (ns.map V.int)
theorem ScAt.sq {K:PySem.W.Frag}{H:Hp}{sc pl:Addr}{ns:List Int} (h:ScAt K H sc pl ns):SqL K H sc (ns.map V.int):=by
 rcases h with ⟨o,e,rfl | ⟨ob,rfl⟩,_⟩ | h
 ·exact .inl (.inl e)
 ·exact .inl (.inr ⟨ob,e⟩)
 ·exact h H
theorem ScAt.of {K:PySem.W.Frag}{H H':Hp}{sc pl:Addr}{ns:List Int} (h:SqL K H sc (ns.map V.int)) (s:Same H H') (hp:H pl=none):ScAt K H' sc pl ns:=by
 rcases h with (h | ⟨ob,h⟩) | h
 ·exact .inl ⟨_,s _ _ h,.inl rfl,qae h hp⟩
 ·exact .inl ⟨_,s _ _ h,.inr ⟨ob,rfl⟩,qae h hp⟩
 ·exact .inr fun _=>.inr h
theorem ScAt.keep {K:PySem.W.Frag}{C:Addr}{c:Nat}{H H7:Hp}{b:Addr}{z:BA}{m pl ed sc:Addr}{ppl:List Str}{L:List (Ent×Addr)}{M:List (Ent×Addr×Addr)}{ns:List Int} (h:ScAt K H sc pl ns) (G:Good K C c H b z m pl ed ppl L M) (fr:∀ c u,H c=some u→c∉BFp b z L→c∉MFp m pl ed M→H7 c=some u):ScAt K H7 sc pl ns:=by
 rcases h with ⟨o,e,ho,hp⟩ | h
 ·exact .inl ⟨o,fr _ _ e (G.bo.bk.farI e ho) (G.bo.md.farI e ho hp),ho,hp⟩
 ·exact .inr h
theorem at_in {ss:List Str}{r:Int} (h0:0≤r) (h1:r < ss.length):∃ x∈ss,atI (ss.map V.str) r=some (.str x):=by
 obtain ⟨j,rfl⟩:=Int.eq_ofNat_of_zero_le h0
 have hj:j < ss.length:=by omega
 exact ⟨ss[j],List.getElem_mem hj,qai (by rw [List.getElem?_map,List.getElem?_eq_getElem hj];rfl)⟩
theorem Good.frc {K:PySem.W.Frag}{C:Addr}{c:Nat}{H H':Hp}{b:Addr}{z:BA}{m pl ed:Addr}{ppl:List Str}{L:List (Ent×Addr)}{M:List (Ent×Addr×Addr)} (G:Good K C c H b z m pl ed ppl L M) {p:Addr}{ys:List V} (hp:H p=some (.lst ys)) (pM:p∉MFp m pl ed M) (fr:∀ c o,H c=some o→c≠p→H' c=some o):Good K C c H' b z m pl ed ppl L M:=by
 have tp:∀ c o,H c=some o→(∃ xs,o=.tup xs∨∃ ob,o=.frz ob (.tup xs))→c≠p:=fun c o h x z=>by
  rw [z,hp] at h
  cases h
  rcases x with ⟨xs,y | ⟨ob,y⟩⟩ <;> cases y
 obtain ⟨kvs,hed⟩:=G.ed
 have edp:ed≠p:=fun z=>pM (by rw [← z];simp [MFp])
 refine ⟨⟨G.bo.bk.keep fun c o h x=>fr c o h ?_,G.bo.md.keep ?_ (fun c o h _ x=>fr c o h ?_),G.bo.eq,G.bo.hr,G.bo.nd,G.bo.nm,G.bo.ap,G.bo.c45⟩,⟨kvs,fr _ _ hed edp⟩,G.sp,G.sm⟩
 ·rcases x with x | x
  ·exact fun z=>G.bo.bk.far hp (z ▸ x)
  ·exact tp c o h x
 ·rcases G.bo.md.en with q | ⟨ob,q⟩
  ·exact .inl (fr _ _ q edp)
  ·exact .inr ⟨ob,fr _ _ q edp⟩
 ·rcases x with x | x
  ·exact fun z=>pM (z ▸ x)
  ·exact tp c o h x
theorem Good.purseM {K:PySem.W.Frag}{C:Addr}{c:Nat}{H:Hp}{b:Addr}{z:BA}{m pl ed:Addr}{ppl:List Str}{L:List (Ent×Addr)}{M:List (Ent×Addr×Addr)} (G:Good K C c H b z m pl ed ppl L M) {p:Addr}{x y:Int} (hp:H p=some (.lst [.int x,.int y])):p∉MFp m pl ed M :=
 G.bo.md.far G.bo.bk.p6 hp ⟨fun v hv=>by simp only [List.mem_cons,List.not_mem_nil,or_false] at hv;rcases hv with rfl | rfl <;> rfl,.inr ⟨x,by simp⟩⟩
theorem OneL.step {c:Nat}{ppl ppl':List Str}{L L':List (Ent×Addr)}{M:List (Ent×Addr×Addr)}{D:Deed} (h:OneL c ppl L) (nms:L.map (·.1.nm)=M.map (·.1.nm)) (ok:D.ok) (ef:(qck ppl (M.map (·.1.nm)) (hasM M) D=none∧EffB ppl L ppl' L' D)∨(ppl'=ppl∧L'=L)):OneL (c+1) ppl' L':=by
 rcases ef with ⟨d,e⟩ | ⟨rfl,rfl⟩
 ·exact h.eff nms.symm d ok e
 ·exact ⟨h.1,fun e he=>(h.2 e he).mono (by omega)⟩
theorem Good.bkg {K:PySem.W.Frag}{C:Addr}{c:Nat}{H:Hp}{b:Addr}{z:BA}{m pl ed:Addr}{ppl:List Str}{L:List (Ent×Addr)}{M:List (Ent×Addr×Addr)} (G:Good K C c H b z m pl ed ppl L M) (one:OneL c ppl L):BkG K C c H b z ppl L:=by
 refine ⟨G.bo.bk,one,fun e he=>?_,G.sp,fun e he=>?_,G.bo.c45⟩
 ·obtain ⟨e',he'⟩:∃ e',qbf L e.1.nm=some e':=Option.isSome_iff_exists.mp (List.find?_isSome.mpr ⟨e,he,decide_eq_true rfl⟩)
  obtain ⟨y,_,hr⟩:=G.bo.of_l he'
  rw [qd1 G.bo.nd he' he rfl]
  exact ⟨_,hr⟩
 ·have:e.1.nm∈M.map (·.1.nm):=by rw [← G.bo.nms];exact List.mem_map.mpr ⟨e,he,rfl⟩
  obtain ⟨y,hy,ey⟩:=List.mem_map.mp this
  rw [← ey]
  exact G.sm y hy
def Inv7 (K:PySem.W.Frag) (a:Adr) (b:Addr) (z:BA) (m pl ed sc wl cl:Addr) (ws:List Str) (xs:List V) (i:Nat) (σ:St) (H:Hp):Prop :=
 ∃ (ppl:List Str) (L:List (Ent×Addr)) (M:List (Ent×Addr×Addr)) (v4 v5 v6 v7 v8 v9 v10 v11:Option V),σ=[some (.ref sc),some (.ref wl),some (.ref b),some (.ref m),v4,v5,v6,v7,v8,v9,v10,v11]∧Good K a.Book (3+i) H b z m pl ed ppl L M∧OneL (3+i) ppl L∧0 < M.length∧H wl=some (.lst (ws.map V.str))∧H cl=some (.lst xs)
section
variable {P:Program}{w:World}{K:PySem.W.Frag}{mg:Str→Option Value}{base:Heap}{a:Adr}{f:Addr}{fd:FuncData}
abbrev qjg:Stmt:=top 53
theorem sc_law:FnScope ["_law_script","_law_words","_law_book","_law_model","_law_deed_here","_law_cell","_law_purse_here","_law_house","_law_holders","_law_holder","_law_share","_law_other"] ["_law_script"] (qaj qjg):=⟨rfl,rfl,rfl,by decide +kernel,rfl,by decide +kernel,by decide +kernel⟩
def qlz (K:PySem.W.Frag):Sp:=fun vs H Q _=>∃ (c:Addr) (ns:List Int),vs=[.ref c]∧SqL K H c (ns.map V.int)∧ns.length≤63∧∀ H',Q (.bl true) H'
theorem ok_law (F:Fun K "law" "law" qjg f fd) (T:Txt K mg a) (F__law_names:Fn P w K mg base "_law_names" 2 ["_law_purse_here"] qi4) (F__law_purse:Fn P w K mg base "_law_purse" 1 ["_law_cell"] qi3)
  (M_Book:MkB P w K mg base "Book" a.Book 1 ["self"] (qi7 K a.Book)) (F__law_drawn:Fn P w K mg base "_law_drawn" 6 ["_law_purse_here","_law_words","_law_model","_law_odd","_law_most"] (qi9 K))
  (F__law_done:Fn P w K mg base "_law_done" 7 ["_law_book","_law_model","_law_deed_here"] (qk1 K a)) (F__law_take:Fn P w K mg base "_law_take" 1 ["_law_purse_here","_law_many"] qdy)
  (M_shares:Mt P w K mg base a.Book "shares" 3 ["self","house"] (qex K a)) (F__law_come_to_one:Fn P w K mg base "_law_come_to_one" 4 ["_law_book"] (qja K a.Book)) (F__law_parted:Fn P w K mg base "_law_parted" 5 ["_law_book","_law_house","_law_one_here","_law_other","_law_has","_law_purse_here"] (qhe K a.Book)) :
  FnOk P w K mg base (CXo P w) 8 f fd ["_law_script"] (qlz K):=by
 refine F.okN sc_law (fun vs H Q E h=>?_) (fun cdv A outer s H vs Q E hr h=>?_)
 ·obtain ⟨c,ns,rfl,_⟩:=h
  rfl
 ·obtain ⟨sc,ns,rfl,hS,h63,k⟩:=h
  have hu:=qbk hr
  refine ⟨_,(@qaf _ _ _ _ _ (@qaq _ _ (1) _ _ _ _ sc_law.nd rfl (Or.inl rfl) (@qa1 _ _ _ _ _ _ _ _ _ _ _ F__law_names (hr.mono (by first | decide | omega)) rfl qan (@qaa _ _ _ _ _ (@qa1 _ _ _ _ _ _ _ _ _ _ _ F__law_purse (hr.mono (by first | decide | omega)) rfl qan (@qaa _ _ _ _ _ (@qaw _ _ _ _ _ _ _ _ qee (@qam _ _ _ _ _ _ _ qa0 (@qaw _ _ _ _ _ _ _ _ op_catS (pv 0) (@qbj _ _ _ _ (@qaa _ _ _ _ _ qac qah (by rfl)))) qac (fun _ _=>rfl)) qac) qah (by rfl)) (by decide) (by rfl) (by rfl)) qah (by rfl)) (by decide) (by rfl) (by rfl)) (by rfl) (by first | exact .inl rfl | exact .inr rfl | assumption)) (@qaf _ _ _ _ _ (@qaq _ _ (2) _ _ _ _ sc_law.nd rfl (Or.inl rfl) (pe_mk0 M_Book (hr.mono (by first | decide | omega)) rfl qan) (by rfl) (by first | exact .inl rfl | exact .inr rfl | assumption)) (@qaf _ _ _ _ _ (@qaq _ _ (3) _ _ _ _ sc_law.nd rfl (Or.inl rfl) (@qbj _ _ _ _ (@qaa _ _ _ _ _ (@qbj _ _ _ _ qah) (@qaa _ _ _ _ _ qfg qah (by rfl)) (by rfl))) (by rfl) (by first | exact .inl rfl | exact .inr rfl | assumption)) (@qaf _ _ _ _ _ (qgq PassesOwn.never rfl (qd9 (@PEI.get _ _ _ (pe_l3 (@qbn _ _ _ _ _ (@qaa _ _ _ _ _ qa5 (@qaa _ _ _ _ _ (@qam _ _ _ _ _ _ _ qa0 (pv 1) qac (fun _ _=>rfl)) qah (by rfl)) (by rfl))) (@qbn _ _ _ _ _ (@qaa _ _ _ _ _ qa5 (@qaa _ _ _ _ _ (@qam _ _ _ _ _ _ _ qa0 (pv 1) qac (fun _ _=>rfl)) (@qaa _ _ _ _ _ (@qam _ _ _ _ _ _ _ qa0 (pv 1) qac (fun _ _=>rfl)) (@qaa _ _ _ _ _ qac (@qaa _ _ _ _ _ qac (@qaa _ _ _ _ _ qac qah (by rfl)) (by rfl)) (by rfl)) (by rfl)) (by rfl)) (by rfl))) (@qbn _ _ _ _ _ (@qaa _ _ _ _ _ qa5 (@qaa _ _ _ _ _ (@qam _ _ _ _ _ _ _ qa0 (pv 1) qac (fun _ _=>rfl)) (@qaa _ _ _ _ _ (@qam _ _ _ _ _ _ _ qa0 (pv 1) qac (fun _ _=>rfl)) (@qaa _ _ _ _ _ (@pe_un _ _ _ _ _ _ qjy qac) (@qaa _ _ _ _ _ qac (@qaa _ _ _ _ _ qac qah (by rfl)) (by rfl)) (by rfl)) (by rfl)) (by rfl)) (by rfl)))))) (qbe (i:=4) sc_law.nd rfl (Or.inl rfl)) (@qak _ _ _ (@qbi _ _ _ _ _ _ _ _ (qd5 (qc3 (@qa1 _ _ _ _ _ _ _ _ _ _ _ F__law_done (hr.mono (by first | decide | omega)) rfl qan (@qaa _ _ _ _ _ (pv 2) (@qaa _ _ _ _ _ (pv 3) (@qaa _ _ _ _ _ (pv 4) qah (by rfl)) (by rfl)) (by rfl)) (by decide) (by rfl) (by rfl)))) (@qak _ _ _ (@qav _ _ _ _ qhl)) qax))) (@qaf _ _ _ _ _ (qgq PassesOwn.never rfl (qd9 (@qaw _ _ _ _ _ _ _ _ op_catS (@PEI.get _ _ _ (pe_l3 qac qac qac)) (@qff _ _ _ _ _ _ _ _ _ _ qhg (pv 0) qhj (qfo qac)))) (qbe (i:=5) sc_law.nd rfl (Or.inl rfl)) (@qaf _ _ _ _ _ (@qaq _ _ (6) _ _ _ _ sc_law.nd rfl (Or.inl rfl) (@qa1 _ _ _ _ _ _ _ _ _ _ _ F__law_purse (hr.mono (by first | decide | omega)) rfl qan (@qaa _ _ _ _ _ (pv 5) qah (by rfl)) (by decide) (by rfl) (by rfl)) (by rfl) (by first | exact .inl rfl | exact .inr rfl | assumption)) (@qaf _ _ _ _ _ (@qbi _ _ _ _ _ _ _ _ (PW.pt (qhi (qd5 (qc3 (@qa1 _ _ _ _ _ _ _ _ _ _ _ F__law_done (hr.mono (by first | decide | omega)) rfl qan (@qaa _ _ _ _ _ (pv 2) (@qaa _ _ _ _ _ (pv 3) (@qaa _ _ _ _ _ (@qa1 _ _ _ _ _ _ _ _ _ _ _ F__law_drawn (hr.mono (by first | decide | omega)) rfl qan (@qaa _ _ _ _ _ (pv 6) (@qaa _ _ _ _ _ (pv 1) (@qaa _ _ _ _ _ (pv 3) (@qaa _ _ _ _ _ qhl (@qaa _ _ _ _ _ qac qah (by rfl)) (by rfl)) (by rfl)) (by rfl)) (by rfl)) (by decide) (by rfl) (by rfl)) qah (by rfl)) (by rfl)) (by rfl)) (by decide) (by rfl) (by rfl)))) (qe2 (qd5 (qc3 (@qa1 _ _ _ _ _ _ _ _ _ _ _ F__law_come_to_one (hr.mono (by first | decide | omega)) rfl qan (@qaa _ _ _ _ _ (pv 2) qah (by rfl)) (by decide) (by rfl) (by rfl))))))) (@qak _ _ _ (@qav _ _ _ _ qhl)) qax) (@qaf _ _ _ _ _ (@qaq _ _ (7) _ _ _ _ sc_law.nd rfl (Or.inl rfl) (@qam _ _ _ _ _ _ _ qa0 (@qap _ _ _ _ _ _ _ _ _ (qbg rfl) rfl T.b_sorted qbr (@qaa _ _ _ _ _ (@qam _ _ _ _ _ _ _ qa0 (pv 3) qac (fun _ _=>rfl)) qah (by rfl)) (by decide) (by decide) (by rfl) (by rfl)) (@qa1 _ _ _ _ _ _ _ _ _ _ _ F__law_take (hr.mono (by first | decide | omega)) rfl qan (@qaa _ _ _ _ _ (pv 6) (@qaa _ _ _ _ _ (@qap _ _ _ _ _ _ _ _ _ qe9 rfl T.b_len qei (@qaa _ _ _ _ _ (@qam _ _ _ _ _ _ _ qa0 (pv 3) qac (fun _ _=>rfl)) qah (by rfl)) (by decide) (by decide) (by rfl) (by rfl)) qah (by rfl)) (by rfl)) (by decide) (by rfl) (by rfl)) (fun _ _=>rfl)) (by rfl) (by first | exact .inl rfl | exact .inr rfl | assumption)) (@qaf _ _ _ _ _ (@qaq _ _ (8) _ _ _ _ sc_law.nd rfl (Or.inl rfl) (@qaw _ _ _ _ _ _ _ _ qep (@qap _ _ _ _ _ _ _ _ _ qd8 rfl T.b_sorted qbr (@qaa _ _ _ _ _ (@qam _ _ _ _ _ _ _ qa0 (pv 3) qac (fun _ _=>rfl)) qah (by rfl)) (by decide) (by decide) (by rfl) (by rfl)) (@qap _ _ _ _ _ _ _ _ _ (qbg rfl) rfl T.b_sorted qbr (@qaa _ _ _ _ _ (@qam _ _ _ _ _ _ _ qa0 (pv 3) qac (fun _ _=>rfl)) qah (by rfl)) (by decide) (by decide) (by rfl) (by rfl))) (by rfl) (by first | exact .inl rfl | exact .inr rfl | assumption)) (@qak _ _ _ (qgq PassesOwn.never rfl (qd9 (qdh (pv 2) M_shares (hr.mono (by first | decide | omega)) qan (@qaa _ _ _ _ _ (pv 7) qah (by rfl)))) (ql4 rfl (qbm (qbe (i:=9) sc_law.nd rfl (Or.inl rfl)) (qbm (qbe (i:=10) sc_law.nd rfl (Or.inl rfl)) qeo))) (@qaf _ _ _ _ _ (@qaq _ _ (11) _ _ _ _ sc_law.nd rfl (Or.inl rfl) (@qam _ _ _ _ _ _ _ qa0 (pv 8) (@qa1 _ _ _ _ _ _ _ _ _ _ _ F__law_take (hr.mono (by first | decide | omega)) rfl qan (@qaa _ _ _ _ _ (pv 6) (@qaa _ _ _ _ _ (@qap _ _ _ _ _ _ _ _ _ qcu rfl T.b_len qei (@qaa _ _ _ _ _ (pv 8) qah (by rfl)) (by decide) (by decide) (by rfl) (by rfl)) qah (by rfl)) (by rfl)) (by decide) (by rfl) (by rfl)) (fun _ _=>rfl)) (by rfl) (by first | exact .inl rfl | exact .inr rfl | assumption)) (@qak _ _ _ (@qbi _ _ _ _ _ _ _ _ (qd5 (qc3 (@qa1 _ _ _ _ _ _ _ _ _ _ _ F__law_parted (hr.mono (by first | decide | omega)) rfl qan (@qaa _ _ _ _ _ (pv 2) (@qaa _ _ _ _ _ (pv 7) (@qaa _ _ _ _ _ (pv 9) (@qaa _ _ _ _ _ (pv 11) (@qaa _ _ _ _ _ (pv 10) (@qaa _ _ _ _ _ (pv 6) qah (by rfl)) (by rfl)) (by rfl)) (by rfl)) (by rfl)) (by rfl)) (by decide) (by rfl) (by rfl)))) (@qak _ _ _ (@qav _ _ _ _ qhl)) qax)))))))))) (@qak _ _ _ (@qav _ _ _ _ qhl))))))),?_⟩
  refine ⟨_,rfl,(show 1≤sizeLine by decide),fun q hq=>⟨sc,q,_,_,rfl,rfl,(qad hq).seq hS,SqL.of qab,?_,fun q2 hq2=>?_⟩⟩
  ·rw [List.length_map]
   exact Nat.le_trans (Nat.add_le_add_right h63 _) (by decide)
  obtain ⟨n0,e0⟩:∃ n0,(ns.map V.int++[V.int 0])[0]?=some (.int n0):=by
   cases ns with
   | nil=>exact ⟨_,rfl⟩
   | cons x r=>exact ⟨_,rfl⟩
  refine ⟨q2,_,0,_,rfl,rfl,SqL.of qab,qai (j:=0) e0,_,_,rfl,rfl,_,rfl,fun p x y hp=>⟨p,rfl,⟨x,y,qab⟩,fun wl ws H2 hl hwl h14 hsm hwd fr=>?_⟩⟩
  have s1:Same H H2:=fun c o e=>by
   have e1:(upd (upd H q (.lst [.int 0])) q2 (.lst (ns.map V.int++[.int 0]))) c=some o:=qad hq2 _ _ (qad hq _ _ e)
   exact fr c o (qad hp _ _ e1) (qae e1 hp)
  clear fr
  intro b dx nb ndx nex
  refine ⟨b,dx,rfl,qab,fun z H3 fz BK kp=>⟨rfl,?_⟩⟩
  have s2:Same H2 H3:=fun c o e=>by
   refine kp c o ?_ (qae e nb)
   rw [qag (qae e nb),qag (qae e ndx)]
   exact e
  refine ⟨(show 0≤sizeLine by decide),fun pl hpl ed hed=>⟨(show 2≤sizeLine by decide),fun m hm=>?_⟩⟩
  have s3:Same H3 (upd (upd (upd H3 pl (.lst [])) ed (.dK [])) m (.lst [.ref pl,.ref ed])):=(qad hpl).trans ((qad hed).trans (qad hm))
  have pl_ed:pl≠ed:=qae qab hed
  have pl_m:pl≠m:=qae (qad hed _ _ qab) hm
  have ed_m:ed≠m:=qae qab hm
  have ed0:H3 ed=none:=(qad hpl).free hed
  have m0:H3 m=none:=((qad hpl).trans (qad hed)).free hm
  have G0:Good K a.Book 0 (upd (upd (upd H3 pl (.lst [])) ed (.dK [])) m (.lst [.ref pl,.ref ed])) b z m pl ed [] [] []:=by
   refine ⟨⟨BK.same s3,⟨qab,?_,.inl ?_,fun e he=>?_,fun e he=>?_,?_⟩,rfl,fun i e y h1 _=>?_,List.nodup_nil,fun e he=>?_,fun c hc hm'=>?_,by decide⟩,⟨[],?_⟩,fun n hn=>?_,fun e he=>?_⟩
   ·rw [qag pl_m,qag pl_ed,qab];rfl
   ·rw [qag ed_m,qab];rfl
   ·cases he
   ·cases he
   ·refine List.nodup_cons.mpr ⟨fun z=>?_,List.nodup_cons.mpr ⟨fun z=>?_,List.nodup_cons.mpr ⟨fun z=>?_,List.nodup_nil⟩⟩⟩
    ·simp only [List.map_nil,List.append_nil,List.mem_cons,List.not_mem_nil,or_false] at z
     rcases z with z | z
     ·exact pl_m z.symm
     ·exact ed_m z.symm
    ·simp only [List.map_nil,List.append_nil,List.mem_cons,List.not_mem_nil,or_false] at z
     exact pl_ed z
    ·cases z
   ·cases h1
   ·cases he
   ·obtain ⟨o,e,_⟩:=BK.all c hc
    simp only [MFp,List.map_nil,List.append_nil,List.mem_cons,List.not_mem_nil,or_false] at hm'
    rcases hm' with rfl | rfl | rfl
    ·rw [m0] at e;cases e
    ·rw [hpl] at e;cases e
    ·rw [ed0] at e;cases e
   ·rw [qag ed_m,qab]
   ·cases hn
   ·cases he
  generalize (upd (upd (upd H3 pl (.lst [])) ed (.dK [])) m (.lst [.ref pl,.ref ed]):Hp)=H4 at s3 G0 ⊢
  have S4:Same H H4:=s1.trans (s2.trans s3)
  have hwl4:=s3 _ _ (s2 _ _ hwl)
  have farW:Far (ws.map V.str):=⟨fun v hv=>by obtain ⟨n,_,rfl⟩:=List.mem_map.mp hv;rfl,.inl (by rw [List.length_map,h14];decide)⟩
  obtain ⟨rr,hwd⟩:=hwd
  have wAt:∀ j:Nat,j < 14→∃ w:Str,(ws.map V.str)[j]?=some (.str w)∧Sm w∧isNm w=true∧w.cps.toList.head?=some (97+((rr+7 * (0+(j:Int))) % 26).toNat):=fun j hj=>by
   have hj':j < ws.length:=by omega
   exact ⟨ws[j],by simp [hj'],hwd j _ (List.getElem?_eq_getElem hj')⟩
  obtain ⟨w0,e0',sw0,nm0,f0⟩:=wAt 0 (by decide)
  obtain ⟨w1,e1',sw1,nm1,f1⟩:=wAt 1 (by decide)
  obtain ⟨w2,e2',sw2,_,_⟩:=wAt 2 (by decide)
  have w01:¬ w0=w1:=fun z=>by
   rw [z,f1] at f0
   have:=Option.some.inj f0
   omega
  have one0:OneL 0 [] []:=⟨List.nodup_nil,fun e he=>(by cases he)⟩
  have sn:Same H4 H4:=fun _ _ e=>e
  refine ⟨_,rfl,wl,_,0,_,rfl,rfl,SqL.of (sn _ _ hwl4),qai (j:=0) e0',(show 2≤sizeLine by decide),fun d1 hd1=>?_⟩
  have t1:=qad (o:=.tup [.str (Str.ofString "person"),.str w0]) hd1
  refine ⟨_,rfl,wl,_,1,_,rfl,rfl,SqL.of (t1 _ _ hwl4),qai (j:=1) e1',_,rfl,wl,_,0,_,rfl,rfl,SqL.of (t1 _ _ hwl4),qai (j:=0) e0',(show 6≤sizeLine by decide),fun d2 hd2=>?_⟩
  have u2:=qad (o:=.tup [.str (Str.ofString "house"),.str w1,.str w0,.int 5,.int 3,.int 1]) hd2
  have t2:=t1.trans u2
  refine ⟨_,rfl,wl,_,2,_,rfl,rfl,SqL.of (t2 _ _ hwl4),qai (j:=2) e2',_,rfl,wl,_,1,_,rfl,rfl,SqL.of (t2 _ _ hwl4),qai (j:=1) e1',_,rfl,(show 6≤sizeLine by decide),fun d3 hd3=>?_⟩
  have u3:=qad (o:=.tup [.str (Str.ofString "house"),.str w2,.str w1,.int (-2),.int 0,.int 0]) hd3
  have t3:=t2.trans u3
  refine ⟨(show 3≤sizeLine by decide),fun dl hdl=>?_⟩
  have u4:=qad (o:=.lst [.ref d1,.ref d2,.ref d3]) hdl
  have t4:=t3.trans u4
  have D1:DeedAt K _ d1 (.per w0):=SqT.of (u4 _ _ (u3 _ _ (u2 _ _ qab)))
  have D2:DeedAt K _ d2 (.hou w1 w0 5 3 1):=SqT.of (u4 _ _ (u3 _ _ qab))
  have D3:DeedAt K _ d3 (.hou w2 w1 (-2) 0 0):=SqT.of (u4 _ _ qab)
  have hS4:ScAt K _ sc pl ns:=ScAt.of hS (S4.trans t4) ((s1.trans s2).free hpl)
  refine ⟨dl,rfl,⟨_,SqL.of qab⟩,qfh (K:=K) (a:=dl) (xs:=[V.ref d1,.ref d2,.ref d3]) (fun i σ H'=>∃ (ppl:List Str) (L:List (Ent×Addr)) (M:List (Ent×Addr×Addr)) (v:Option V),σ=[some (.ref sc),some (.ref wl),some (.ref b),some (.ref m),v,none,none,none,none,none,none,none]∧Good K a.Book i H' b z m pl ed ppl L M∧OneL i ppl L∧((i=0→ppl=[]∧M=[])∧(i=1→ppl=[w0]∧M.map (·.1.nm)=[])∧(2≤i→0 < M.length))∧H' wl=some (.lst (ws.map V.str))∧H' dl=some (.lst [.ref d1,.ref d2,.ref d3])∧ScAt K H' sc pl ns∧DeedAt K H' d1 (.per w0)∧DeedAt K H' d2 (.hou w1 w0 5 3 1)∧DeedAt K H' d3 (.hou w2 w1 (-2) 0 0))
   ⟨[],[],[],none,rfl,G0.same t4,one0,⟨fun _=>⟨rfl,rfl⟩,fun z=>(by cases z),fun z=>absurd z (by decide)⟩,t4 _ _ hwl4,qab,hS4,D1,D2,D3⟩ (fun i σ H' _ ⟨_,_,_,_,_,_,_,_,_,h,_⟩=>SqL.of h) ?_ ?_⟩
  ·rintro i v σ H' hv ⟨ppl,L,M,v0,rfl,G,one,⟨z0,z1,z2⟩,hw,hd,hs,q1,q2,q3⟩
   obtain ⟨d,D,rfl,hD,dk,i0,i1⟩:∃ d D,v=.ref d∧DeedAt K H' d D∧D.ok∧(i=0→D=.per w0)∧(i=1→D=.hou w1 w0 5 3 1):=by
    clear z0 z1 z2 G one
    match i,hv with
    | 0,hv=>cases hv;exact ⟨d1,_,rfl,q1,sw0,fun _=>rfl,fun z=>(by cases z)⟩
    | 1,hv=>cases hv;exact ⟨d2,_,rfl,q2,⟨sw1,sw0⟩,fun z=>(by cases z),fun _=>rfl⟩
    | 2,hv=>cases hv;exact ⟨d3,_,rfl,q3,⟨sw2,sw1⟩,fun z=>(by cases z),fun z=>(by cases z)⟩
    | n+3,hv=>cases hv
   have hi:i < 3:=(List.getElem?_eq_some_iff.mp hv).1
   refine ⟨_,rfl,_,rfl,_,rfl,i,b,z,m,pl,ed,ppl,L,M,d,D,rfl,G,by omega,hD,dk,fun ppl' L' M' H7 G7 fr7 af ml=>⟨_,rfl,iteF ?_⟩⟩
   have kt:∀ c o,H' c=some o→(∃ xs,o=.tup xs∨∃ ob,o=.frz ob (.tup xs))→H7 c=some o:=fun c o e y=>fr7 c o e (qln G.bo.bk e y) (mfp_tup G.bo.md e y)
   have n1:i+1=1→ppl'=[w0]∧M'.map (·.1.nm)=[]:=fun z=>by
    have e:i=0:=by omega
    obtain ⟨rfl,rfl⟩:=z0 e
    have eD:=i0 e
    subst eD
    have hdue:qck [] (([]:List (Ent×Addr×Addr)).map (·.1.nm)) (hasM []) (.per w0)=none:=by
     rw [qfu,if_neg (by rw [nm0];decide),if_neg (show ¬ (hasP [] w0 || hasP (([]:List (Ent×Addr×Addr)).map (·.1.nm)) w0)=true from (show ¬ ((false || false)=true) by decide)),if_neg (by decide)]
    obtain ⟨a1,a2⟩:=af hdue
    exact ⟨a1,a2⟩
   have n2:2≤i+1→0 < M'.length:=fun z=>by
    by_cases e:i=1
    ·obtain ⟨rfl,mN⟩:=z1 e
     have eD:=i1 e
     subst eD
     have h1:hasP [w0] w0=true:=by unfold hasP;rw [List.find?_cons,decide_eq_true rfl];rfl
     have h2:hasP [w0] w1=false:=by unfold hasP;rw [List.find?_cons,decide_eq_false w01];rfl
     have hdue:qck [w0] (M.map (·.1.nm)) (hasM M) (.hou w1 w0 5 3 1)=none:=by
      rw [qfw,mN,if_neg (by rw [nm1];decide),if_neg (by rw [h2];exact (show ¬ ((false || false)=true) by decide)),if_neg (by rw [h1];exact (show ¬ ((true || false)=false) by decide)),if_neg (by decide),if_neg (by decide)]
     obtain ⟨a1,a2⟩:=af hdue
     have:=congrArg List.length a2
     rw [List.length_append,List.length_map] at this
     have l1:[w1].length=1:=rfl
     omega
    ·exact Nat.lt_of_lt_of_le (z2 (by omega)) ml.1
   exact ⟨ppl',L',M',_,rfl,G7,one.step G.bo.nms dk ml.2.2.2.2,⟨fun z=>absurd z (by omega),n1,n2⟩,fr7 _ _ hw (G.bo.bk.far hw) (G.bo.md.far G.bo.bk.p6 hw farW),fr7 _ _ hd (G.bo.bk.far hd) (G.bo.md.far3 hd),hs.keep G fr7,q1.keep kt,q2.keep kt,q3.keep kt⟩
  rintro σ H9 ⟨ppl9,L9,M9,v9,rfl,G9,one9,⟨_,_,hM9⟩,hw9,_,hs9,_⟩
  have hM9:=hM9 (show 2≤3 by decide)
  refine ⟨(show 3≤sizeLine by decide),fun q3 hq3=>⟨_,rfl,24,rfl,sc,_,rfl,(qad hq3).seq hs9.sq,fun q4 hq4=>?_⟩⟩
  obtain ⟨cs,ecs,lcs⟩:=cut_ints ns none (some 24)
  have l24:cs.length≤24:=by
   have h1:=cut_few (ns.map V.int) 24
   have h2:=congrArg List.length ecs
   rw [List.length_map] at h2
   rw [← h2]
   exact h1
  rw [ecs]
  have n34:q3≠q4:=qae qab hq4
  refine ⟨q3,q4,_,_,rfl,rfl,SqL.of (by rw [qag n34,qab]),SqL.of qab,?_,fun cl hcl=>?_⟩
  ·rw [List.length_map]
   exact Nat.le_trans (Nat.add_le_add_left l24 _) (by decide)
  have s5:Same H9 (upd (upd (upd H9 q3 (.lst [.int 0,.int 7,.int 2])) q4 (.lst (cs.map V.int))) cl (.lst ([.int 0,.int 7,.int 2]++cs.map V.int))):=(qad hq3).trans ((qad hq4).trans (qad hcl))
  have hint:∀ v∈[V.int 0,.int 7,.int 2]++cs.map V.int,∃ n,v=.int n:=fun v hv=>by
   rcases List.mem_append.mp hv with h | h
   ·simp only [List.mem_cons,List.not_mem_nil,or_false] at h
    rcases h with h | h | h <;> exact ⟨_,h⟩
   ·obtain ⟨n,_,e⟩:=List.mem_map.mp h
    exact ⟨n,e.symm⟩
  have farC:Far ([V.int 0,.int 7,.int 2]++cs.map V.int):=⟨fun v hv=>by obtain ⟨n,rfl⟩:=hint v hv;rfl,.inr ⟨0,by simp⟩⟩
  have xl:([V.int 0,.int 7,.int 2]++cs.map V.int).length≤27:=by rw [List.length_append,List.length_map];exact Nat.add_le_add_left l24 3
  have hc5:(upd (upd (upd H9 q3 (.lst [.int 0,.int 7,.int 2])) q4 (.lst (cs.map V.int))) cl (.lst ([.int 0,.int 7,.int 2]++cs.map V.int))) cl=some (.lst ([.int 0,.int 7,.int 2]++cs.map V.int)):=qab
  generalize upd (upd (upd H9 q3 (.lst [.int 0,.int 7,.int 2])) q4 (.lst (cs.map V.int))) cl (.lst ([.int 0,.int 7,.int 2]++cs.map V.int))=Hb at s5 hc5 ⊢
  generalize [V.int 0,.int 7,.int 2]++cs.map V.int=xs at hint farC xl hc5 ⊢
  refine ⟨cl,rfl,⟨_,SqL.of hc5⟩,qfh (K:=K) (a:=cl) (xs:=xs) (Inv7 K a b z m pl ed sc wl cl ws xs)
   ⟨ppl9,L9,M9,_,_,_,_,_,_,_,_,rfl,G9.same s5,one9,hM9,s5 _ _ hw9,hc5⟩ (fun i σ H' _ ⟨_,_,_,_,_,_,_,_,_,_,_,_,_,_,_,_,h⟩=>SqL.of h) ?_ ?_⟩
  ·clear hc5 s5 G9 one9 hM9 hw9
   rintro i v σ H' hv ⟨ppl,L,M,v4,v5,v6,v7,v8,v9,v10,v11,rfl,G,one,hM,hw,hc⟩
   obtain ⟨n,rfl⟩:=hint v (List.mem_of_getElem? hv)
   have hi:i < 27:=Nat.lt_of_lt_of_le (List.getElem?_eq_some_iff.mp hv).1 xl
   clear hv
   refine ⟨_,rfl,n,rfl,fun p x y hp=>?_⟩
   have sp1:Same H' (upd H' p (.lst [.int x,.int y])):=qad hp
   have pM:p∉MFp m pl ed M:=fun hm'=>by
    obtain ⟨o,e⟩:=G.bo.md.all p hm'
    rw [hp] at e
    cases e
   have Dr:=(G.same sp1).drw (p:=p) (wl:=wl) (ws:=ws) ⟨x,y,qab⟩ (sp1 _ _ hw) (qae hw hp) h14 hsm pM (by omega)
   refine ⟨_,rfl,_,rfl,_,rfl,_,rfl,_,rfl,3+i,p,wl,m,pl,ed,ppl,M,ws,true,12,rfl,Dr,by decide,by decide,fun d D H6 hd dk pu6 fr6=>?_⟩
   have s6:Same H' H6:=fun c o e=>fr6 c o (sp1 _ _ e) (qae e hp)
   have G6:=G.same s6
   refine ⟨3+i,b,z,m,pl,ed,ppl,L,M,d,D,rfl,G6,by omega,hd,dk,fun ppl' L' M' H7 G7 fr7 _ ml=>⟨_,rfl,iteF ?_⟩⟩
   have one7:OneL (3+(i+1)) ppl' L':=one.step G.bo.nms dk ml.2.2.2.2
   have hw7:=fr7 _ _ (s6 _ _ hw) (G6.bo.bk.far (s6 _ _ hw)) (G6.bo.md.far G.bo.bk.p6 (s6 _ _ hw) farW)
   have hc7:=fr7 _ _ (s6 _ _ hc) (G6.bo.bk.far (s6 _ _ hc)) (G6.bo.md.far G.bo.bk.p6 (s6 _ _ hc) farC)
   have hM7:=Nat.lt_of_lt_of_le hM ml.1
   have wp:wl≠p:=qae hw hp
   have cp:cl≠p:=qae hc hp
   obtain ⟨pa,pb,e7⟩:qbx H7 p:=by
    obtain ⟨x6,y6,e6⟩:=pu6
    exact ⟨x6,y6,fr7 _ _ e6 (G6.bo.bk.far e6) pM⟩
   clear fr7 G6 s6 fr6 Dr sp1 pM pu6 hd dk ml hM hw hc G one hp
   refine ⟨_,rfl,_,b,z,ppl',L',rfl,G7.bkg one7,fun H8 s8=>⟨_,rfl,iteF ?_⟩⟩
   have G8:=G7.same s8
   have hw8:=s8 _ _ hw7
   have hc8:=s8 _ _ hc7
   have e8:=s8 _ _ e7
   clear G7 hw7 hc7 e7 s8
   have hlen:M'.length=L'.length:=by
    have:=congrArg List.length G8.bo.nms
    rw [List.length_map,List.length_map] at this
    exact this.symm
   have g8:M'.length≤8:=by rw [hlen];exact G8.bo.bk.h8
   have g6:=G8.bo.bk.p6
   obtain ⟨kvs,hed⟩:=G8.ed
   have ekv:kvs=M'.map fun e=>((Sum.inr e.1.nm:Key),V.ref e.2.1):=by
    rcases G8.bo.md.en with q | ⟨ob,q⟩
    ·rw [hed] at q;cases q;rfl
    ·rw [hed] at q;cases q
   subst ekv
   refine ⟨_,rfl,m,_,1,_,rfl,rfl,SqL.of G8.bo.md.ob,qai (j:=1) rfl,ed,_,M'.map (·.1.nm),rfl,.inl hed,by rw [List.map_map,List.map_map];rfl,by rw [List.length_map];exact Nat.lt_of_le_of_lt g8 (by decide),fun l3 hl3=>?_⟩
   have t8:=qad (o:=.lst ((srt (M'.map (·.1.nm))).map V.str)) hl3
   have l3p:l3≠p:=(qae e8 hl3).symm
   refine ⟨_,rfl,_,rfl,m,_,1,_,rfl,rfl,SqL.of (t8 _ _ G8.bo.md.ob),qai (j:=1) rfl,ed,_,rfl,t8 _ _ hed,p,pa,pb,_,rfl,t8 _ _ e8,by rw [List.length_map];omega,by rw [List.length_map];omega,fun r xa ya r0 r1=>?_⟩
   rw [List.length_map] at r1
   obtain ⟨hn,hnm,hnat⟩:=at_in (ss:=srt (M'.map (·.1.nm))) r0 (by rw [qat,List.length_map];exact r1)
   refine ⟨l3,_,r,.str hn,rfl,rfl,SqL.of (by rw [qag l3p,qab]),hnat,?_⟩
   have fr9:∀ c o,H8 c=some o→c≠p→(upd (upd H8 l3 (.lst ((srt (M'.map (·.1.nm))).map V.str))) p (.lst [.int xa,.int ya])) c=some o:=fun c o e hc=>by rw [qag hc];exact t8 _ _ e
   have G9:=G8.frc e8 (G8.purseM e8) fr9
   have e9:(upd (upd H8 l3 (.lst ((srt (M'.map (·.1.nm))).map V.str))) p (.lst [.int xa,.int ya])) p=some (.lst [.int xa,.int ya]):=qab
   have hw9:=fr9 _ _ hw8 wp
   have hc9:=fr9 _ _ hc8 cp
   have edp:ed≠p:=fun q=>by rw [q,e8] at hed;cases hed
   have hed9:=fr9 _ _ hed edp
   generalize upd (upd H8 l3 (.lst ((srt (M'.map (·.1.nm))).map V.str))) p (.lst [.int xa,.int ya])=H9 at G9 e9 hw9 hc9 hed9 ⊢
   clear fr9 t8 hl3 l3p hnat r0 r1 G8 hw8 hc8 e8 hed edp
   refine ⟨_,rfl,m,_,0,_,rfl,rfl,SqL.of G9.bo.md.ob,qai (j:=0) rfl,pl,ppl',rfl,SqL.of G9.bo.md.pp,Nat.lt_of_le_of_lt g6 (by decide),fun q1 hq1=>?_⟩
   have u1:=qad (o:=.lst ((srt ppl').map V.str)) hq1
   refine ⟨_,rfl,m,_,1,_,rfl,rfl,SqL.of (u1 _ _ G9.bo.md.ob),qai (j:=1) rfl,ed,_,M'.map (·.1.nm),rfl,.inl (u1 _ _ hed9),by rw [List.map_map,List.map_map];rfl,by rw [List.length_map];exact Nat.lt_of_le_of_lt g8 (by decide),fun q2 hq2=>?_⟩
   have u2:=qad (o:=.lst ((srt (M'.map (·.1.nm))).map V.str)) hq2
   have q12:q1≠q2:=qae qab hq2
   refine ⟨q1,q2,_,_,rfl,rfl,.inl (by rw [qag q12,qab]),.inl qab,?_,fun hol hhol=>?_⟩
   ·rw [List.length_map,List.length_map,qat,qat,List.length_map]
    exact Nat.le_trans (Nat.add_le_add g6 g8) (by decide)
   have u3:=qad (o:=.lst ((srt ppl').map V.str++(srt (M'.map (·.1.nm))).map V.str)) hhol
   have S10:=u1.trans (u2.trans u3)
   have ehol:(upd (upd (upd H9 q1 (.lst ((srt ppl').map V.str))) q2 (.lst ((srt (M'.map (·.1.nm))).map V.str))) hol (.lst ((srt ppl').map V.str++(srt (M'.map (·.1.nm))).map V.str))) hol=some (.lst ((srt ppl'++srt (M'.map (·.1.nm))).map V.str)):=by rw [qab,List.map_append]
   have hholp:hol≠p:=(qae (u2 _ _ (u1 _ _ e9)) hhol).symm
   generalize upd (upd (upd H9 q1 (.lst ((srt ppl').map V.str))) q2 (.lst ((srt (M'.map (·.1.nm))).map V.str))) hol (.lst ((srt ppl').map V.str++(srt (M'.map (·.1.nm))).map V.str))=H10 at S10 ehol ⊢
   have G10:=G9.same S10
   have e10:=S10 _ _ e9
   have hw10:=S10 _ _ hw9
   have hc10:=S10 _ _ hc9
   have memH:∀ x∈srt ppl'++srt (M'.map (·.1.nm)),x∈ppl'++L'.map (·.1.nm):=fun x hx=>by
    rw [G10.bo.nms]
    rcases List.mem_append.mp hx with hx | hx
    ·exact List.mem_append_left _ ((qaz _).mem_iff.mp hx)
    ·exact List.mem_append_right _ ((qaz _).mem_iff.mp hx)
   have lenH:(srt ppl'++srt (M'.map (·.1.nm))).length≤14∧0 < (srt ppl'++srt (M'.map (·.1.nm))).length:=by
    rw [List.length_append,qat,qat,List.length_map]
    exact ⟨by omega,by omega⟩
   generalize srt ppl'++srt (M'.map (·.1.nm))=hs at ehol memH lenH
   clear u1 u2 u3 hq1 hq2 hhol S10 G9 e9 hw9 hc9 hed9 q12
   have BG:=G10.bkg one7
   obtain ⟨e,he,hem,enm⟩:=BG.find (x:=hn) (by rw [G10.bo.nms];exact (qaz _).mem_iff.mp hnm)
   obtain ⟨hm,HRe⟩:=BG.hr e hem
   have h64:e.1.held.length < 64:=Nat.lt_of_le_of_lt HRe.l1 (by omega)
   have noM:∀ {x:Str},¬ x="people"→¬ x="things_of"→¬ x="mark_of"→¬ x="loss_of"→¬ x="held_of"→(bf z).lookup x=none:=fun h1 h2 h3 h4 h5=>qec z h1 h2 h3 h4 h5
   refine ⟨_,rfl,b,_,_,rfl,G10.bo.bk.ob,noM (by decide +kernel) (by decide +kernel) (by decide +kernel) (by decide +kernel) (by decide +kernel),_,rfl,b,z,ppl',L',hn,rfl,G10.bo.bk,Sm.nm (enm ▸ BG.sl e hem),fun e' he'=>?_,fun q=>(by rw [he] at q;cases q)⟩
   rw [he] at he'
   cases he'
   refine ⟨h64,fun tl ys H11 htl s11 etl pr=>?_⟩
   have G11:=G10.same s11
   have e11:=s11 _ _ e10
   have hw11:=s11 _ _ hw10
   have hc11:=s11 _ _ hc10
   have ehol11:=s11 _ _ ehol
   have tlp:tl≠p:=(qae e10 htl).symm
   have npT:∀ {x:Addr}{o:HO},H11 x=some o→(∃ xs,o=.tup xs∨∃ ob,o=.frz ob (.tup xs))→x≠p:=fun {x o} e t q=>by
    rw [q,e11] at e
    cases e
    rcases t with ⟨xs,t | ⟨ob,t⟩⟩ <;> cases t
   have getP:∀ {j:Nat}{v:V}{H':Hp},(∀ x o,H11 x=some o→x≠p→H' x=some o)→ys[j]?=some v→∃ n t u,n∈e.1.held.map (·.1)∧v=.ref t∧SqT K H' t [.str n,.ref u]∧FrAt K H' u (getQ e.1.held n):=fun {j v H'} s' hv=>by
    have key:∀ {qs:List (Str×Int×Int)}{ys:List V},Paired (PairAt K H11) qs ys→∀ (j:Nat) (v:V),ys[j]?=some v→∃ q,qs[j]?=some q∧PairAt K H11 q v:=by
     intro qs ys pr
     induction pr with
     | nil=>intro j v h;cases h
     | cons h _ ih =>
      intro j v hv
      cases j with
      | zero=>cases hv;exact ⟨_,rfl,h⟩
      | succ j=>exact ih j v hv
    obtain ⟨q,hq,t,u,ev,p1,p2⟩:=key pr j v hv
    rw [List.getElem?_map] at hq
    obtain ⟨n,hn,rfl⟩:=Option.map_eq_some_iff.mp hq
    rw [qdn] at p1 p2
    have kt:∀ c o,H11 c=some o→(∃ xs,o=.tup xs∨∃ ob,o=.frz ob (.tup xs))→H' c=some o:=fun c o e t=>s' c o e (npT e t)
    exact ⟨n,t,u,(qaz _).mem_iff.mp (List.mem_of_getElem? hn),ev,qbd p1 kt,qbd p2 kt⟩
   clear s11 htl pr G10 e10 hw10 hc10 ehol BG
   refine ⟨tl,rfl,⟨_,SqL.of etl⟩,qfh (K:=K) (a:=tl) (xs:=ys) (fun j σ H'=>∃ v9 v10 v11,σ=[some (.ref sc),some (.ref wl),some (.ref b),some (.ref m),v4,some (.int n),some (.ref p),some (.str hn),some (.ref hol),v9,v10,v11]∧(∀ x o,H11 x=some o→x≠p→H' x=some o)∧qbx H' p) ⟨_,_,_,rfl,fun _ _ e _=>e,⟨_,_,e11⟩⟩ (fun j σ H' _ ⟨_,_,_,_,h,_⟩=>SqL.of (h _ _ etl tlp)) ?_ ?_⟩
   ·rintro j v σ H12 hv ⟨v9,v10,v11,rfl,fr12,px,py,e12⟩
    obtain ⟨nh,t,u,hnh,rfl,p1,p2⟩:=getP fr12 hv
    refine ⟨t,_,rfl,p1,rfl,_,_,rfl,_,_,rfl,rfl,?_⟩
    have eh12:=fr12 _ _ ehol11 hholp
    refine ⟨_,rfl,_,rfl,_,rfl,hol,_,rfl,.inl (SqL.of eh12),p,px,py,_,rfl,e12,by rw [List.length_map];omega,by rw [List.length_map];omega,fun r xa ya r0 r1=>?_⟩
    rw [List.length_map] at r1
    obtain ⟨oth,hoth,oat⟩:=at_in r0 r1
    refine ⟨hol,_,r,.str oth,rfl,rfl,SqL.of (by rw [qag hholp];exact eh12),oat,?_⟩
    have fr13:∀ x o,H12 x=some o→x≠p→(upd H12 p (.lst [.int xa,.int ya])) x=some o:=fun x o e hx=>by rw [qag hx];exact e
    have fr13':∀ x o,H11 x=some o→x≠p→(upd H12 p (.lst [.int xa,.int ya])) x=some o:=fun x o e hx=>fr13 x o (fr12 x o e hx) hx
    have G13:=G11.frc e11 (G11.purseM e11) fr13'
    have p2':FrAt K (upd H12 p (.lst [.int xa,.int ya])) u (getQ e.1.held nh):=qbd p2 fun c o e t=>fr13 c o e fun q=>by
     rw [q,e12] at e
     cases e
     rcases t with ⟨xs,t | ⟨ob,t⟩⟩ <;> cases t
    refine ⟨_,rfl,_,rfl,_,rfl,_,rfl,_,rfl,_,rfl,3+(i+1),b,z,ppl',L',hn,nh,oth,u,p,e,rfl,G13.bkg one7,by omega,he,hnh,memH oth hoth,p2',⟨_,_,qab⟩,fun H14 pu14 fr14=>⟨_,rfl,iteF ?_⟩⟩
    exact ⟨_,_,_,rfl,fun x o e hx=>fr14 x o (fr13' x o e hx) hx,pu14⟩
   ·rintro σ H12 ⟨v9,v10,v11,rfl,fr12,_⟩
    exact ⟨ppl',L',M',_,_,_,_,_,_,_,_,rfl,G11.frc e11 (G11.purseM e11) fr12,one7,hM7,fr12 _ _ hw11 wp,fr12 _ _ hc11 cp⟩
  ·rintro σ H' _
   exact k H'
end
end My
namespace My
open PySem L2
theorem all_mk {l:PySem.W.OpenLaw}{w:World}{K:PySem.W.Frag}{h:Heap}{mg:Str→Option Value}{fa:Addr} (X:K.In h) (G:h.Ns mainGlobals mg) (hfa:mg "law"=some (.ref fa))
  {X_OwnError X_NoName X_Twice X_TooMany X_NoHolder X_NoHouse X_NoLoss X_NoShare X_NoText X_Whole BK ZR ON f0 f1 f2 f3 f4 f5 f6 f7 f8 f9 f10 f11 f12 f13 f14 f15 f16 f17 f18 f19 f20 f21 f22 f23 f24 f25 f26 f27 f28 f29 f30 f31 f32 f33 f34 f35 f36 f37 f38 f39 f40 f41 f42 f43 f44 f45 f46:Addr}{od0 an0 od1 an1 od2 an2 od3 an3 od4 an4 od5 an5 od6 an6 od7 an7 od8 an8 od9 an9 od10 an10 od11 an11 od12 an12 od13 an13 od14 an14 od15 an15 od16 an16 od17 an17 od18 an18 od19 an19 od20 an20 od21 an21 od22 an22 od23 an23 od24 an24 od25 an25 od26 an26 od27 an27 od28 an28 od29 an29 od30 an30 od31 an31 od32 an32 od33 an33 od34 an34 od35 an35 od36 an36 od37 an37 od38 an38 od39 an39 od40 an40 od41 an41 od42 an42 od43 an43 od44 an44 od45 an45 od46 an46 odz odo:Option Addr}{sl0 sl1 sl2 sl3 sl4 sl5 sl6 sl7 sl8 sl9 sl10 sl11 sl12 sl13 sl14 sl15 sl16 sl17 sl18 sl19 sl20 sl21 sl22 sl23 sl24 sl25 sl26 sl27 sl28 sl29 sl30 sl31 sl32 sl33 sl34 sl35 sl36 sl37 sl38 sl39 sl40 sl41 sl42 sl43 sl44 sl45 sl46 slz slo:Array (Option Value)}{oc0 kV0 dc0 pm0 cd0 ct0 oc1 kV1 dc1 pm1 cd1 ct1 oc2 kV2 dc2 pm2 cd2 ct2 oc3 kV3 dc3 pm3 cd3 ct3 oc4 kV4 dc4 pm4 cd4 ct4 oc5 kV5 dc5 pm5 cd5 ct5 oc6 kV6 dc6 pm6 cd6 ct6 oc7 kV7 dc7 pm7 cd7 ct7 oc8 kV8 dc8 pm8 cd8 ct8 oc9 kV9 dc9 pm9 cd9 ct9 oc10 kV10 dc10 pm10 cd10 ct10 oc11 kV11 dc11 pm11 cd11 ct11 oc12 kV12 dc12 pm12 cd12 ct12 oc13 kV13 dc13 pm13 cd13 ct13 oc14 kV14 dc14 pm14 cd14 ct14 oc15 kV15 dc15 pm15 cd15 ct15 oc16 kV16 dc16 pm16 cd16 ct16 oc17 kV17 dc17 pm17 cd17 ct17 oc18 kV18 dc18 pm18 cd18 ct18 oc19 kV19 dc19 pm19 cd19 ct19 oc20 kV20 dc20 pm20 cd20 ct20 oc21 kV21 dc21 pm21 cd21 ct21 oc22 kV22 dc22 pm22 cd22 ct22 oc23 kV23 dc23 pm23 cd23 ct23 oc24 kV24 dc24 pm24 cd24 ct24 oc25 kV25 dc25 pm25 cd25 ct25 oc26 kV26 dc26 pm26 cd26 ct26 oc27 kV27 dc27 pm27 cd27 ct27 oc28 kV28 dc28 pm28 cd28 ct28 oc29 kV29 dc29 pm29 cd29 ct29 oc30 kV30 dc30 pm30 cd30 ct30 oc31 kV31 dc31 pm31 cd31 ct31 oc32 kV32 dc32 pm32 cd32 ct32 oc33 kV33 dc33 pm33 cd33 ct33 oc34 kV34 dc34 pm34 cd34 ct34 oc35 kV35 dc35 pm35 cd35 ct35 oc36 kV36 dc36 pm36 cd36 ct36 oc37 kV37 dc37 pm37 cd37 ct37 oc38 kV38 dc38 pm38 cd38 ct38 oc39 kV39 dc39 pm39 cd39 ct39 oc40 kV40 dc40 pm40 cd40 ct40 oc41 kV41 dc41 pm41 cd41 ct41 oc42 kV42 dc42 pm42 cd42 ct42 oc43 kV43 dc43 pm43 cd43 ct43 oc44 kV44 dc44 pm44 cd44 ct44 oc45 kV45 dc45 pm45 cd45 ct45 oc46 kV46 dc46 pm46 cd46 ct46:Value}{tz0 tz1 to0 to1 tl tp th:Tok}{nz no:Nat}
  (n_OwnError:PySem.W.nsIn K mainGlobals "OwnError"=some (some (.ref X_OwnError)))
  (n_NoName:PySem.W.nsIn K mainGlobals "NoName"=some (some (.ref X_NoName)))
  (n_Twice:PySem.W.nsIn K mainGlobals "Twice"=some (some (.ref X_Twice)))
  (n_TooMany:PySem.W.nsIn K mainGlobals "TooMany"=some (some (.ref X_TooMany)))
  (n_NoHolder:PySem.W.nsIn K mainGlobals "NoHolder"=some (some (.ref X_NoHolder)))
  (n_NoHouse:PySem.W.nsIn K mainGlobals "NoHouse"=some (some (.ref X_NoHouse)))
  (n_NoLoss:PySem.W.nsIn K mainGlobals "NoLoss"=some (some (.ref X_NoLoss)))
  (n_NoShare:PySem.W.nsIn K mainGlobals "NoShare"=some (some (.ref X_NoShare)))
  (n_NoText:PySem.W.nsIn K mainGlobals "NoText"=some (some (.ref X_NoText)))
  (n_Whole:PySem.W.nsIn K mainGlobals "Whole"=some (some (.ref X_Whole)))
  (n_Book:PySem.W.nsIn K mainGlobals "Book"=some (some (.ref BK)))
  (n_ZERO:PySem.W.nsIn K mainGlobals "ZERO"=some (some (.ref ZR)))
  (n_ONE:PySem.W.nsIn K mainGlobals "ONE"=some (some (.ref ON)))
  (v_ZERO:K.lookup ZR=some ⟨.type "tuple",odz,.seq #[.int 0 tz0,.int 1 tz1] nz,slz⟩)
  (v_ONE:K.lookup ON=some ⟨.type "tuple",odo,.seq #[.int 1 to0,.int 1 to1] no,slo⟩)
  (v_LN:PySem.W.nsIn K mainGlobals "LONGEST_NAME"=some (some (.int 8 tl)))
  (v_MP:PySem.W.nsIn K mainGlobals "MOST_PERSONS"=some (some (.int 6 tp)))
  (v_MH:PySem.W.nsIn K mainGlobals "MOST_HOUSES"=some (some (.int 8 th)))
  (z_len:PySem.W.nsIn K mainGlobals "len"=some none)
  (z_range:PySem.W.nsIn K mainGlobals "range"=some none)
  (z_all:PySem.W.nsIn K mainGlobals "all"=some none)
  (z_int:PySem.W.nsIn K mainGlobals "int"=some none)
  (z_abs:PySem.W.nsIn K mainGlobals "abs"=some none)
  (z_sorted:PySem.W.nsIn K mainGlobals "sorted"=some none)
  (z_tuple:PySem.W.nsIn K mainGlobals "tuple"=some none)
  (z_list:PySem.W.nsIn K mainGlobals "list"=some none)
  (z_str:PySem.W.nsIn K mainGlobals "str"=some none)
  (z_bool:PySem.W.nsIn K mainGlobals "bool"=some none)
  (z_isinstance:PySem.W.nsIn K mainGlobals "isinstance"=some none)
  (z_ValueError:PySem.W.nsIn K mainGlobals "ValueError"=some none)
  (z_dict:PySem.W.nsIn K mainGlobals "dict"=some none)
  (b_pg:PySem.W.plainGet K BK Str.empty=true)
  (b_hd:PySem.W.hasDictIn K BK=true)
  (b_po:PySem.W.plainOver K BK=true)
  (b_sa:PySem.W.findIn K (.ref BK) "__setattr__"=some (some (.builtin "object.__setattr__")))
  (b_mk:PySem.W.makesIn K BK=true)
  (b_kp:PySem.W.keepIn K (.ref BK)=true)
  (b_people:PySem.W.findIn K (.ref BK) "people"=some none)
  (b_things_of:PySem.W.findIn K (.ref BK) "things_of"=some none)
  (b_mark_of:PySem.W.findIn K (.ref BK) "mark_of"=some none)
  (b_loss_of:PySem.W.findIn K (.ref BK) "loss_of"=some none)
  (b_held_of:PySem.W.findIn K (.ref BK) "held_of"=some none)
  (x_hn:PySem.W.specialIn K (.builtin "object.__class__") "__get__"=some (some (.builtin "getset_descriptor.__get__")))
  (x_ht:PySem.W.takesIn K (.builtin "object.__class__")=some true)
  (x_ex_OwnError:PySem.W.excIn K X_OwnError bmV "ValueError.__new__"=true)
  (x_ga_OwnError:PySem.W.findIn K (.ref X_OwnError) "__getattribute__"=some (some (.builtin "BaseException.__getattribute__")))
  (x_gt_OwnError:PySem.W.findIn K (.ref X_OwnError) "__getattr__"=some none)
  (x_ha_OwnError:PySem.W.findIn K (.ref X_OwnError) "__class__"=some (some (.builtin "object.__class__")))
  (x_mo_OwnError:PySem.W.mroIn K X_OwnError (.type "object")=some true)
  (x_mb_OwnError:PySem.W.mroIn K X_OwnError (.type "BaseException")=some true)
  (x_ex_NoName:PySem.W.excIn K X_NoName bmV "ValueError.__new__"=true)
  (x_ga_NoName:PySem.W.findIn K (.ref X_NoName) "__getattribute__"=some (some (.builtin "BaseException.__getattribute__")))
  (x_gt_NoName:PySem.W.findIn K (.ref X_NoName) "__getattr__"=some none)
  (x_ha_NoName:PySem.W.findIn K (.ref X_NoName) "__class__"=some (some (.builtin "object.__class__")))
  (x_mo_NoName:PySem.W.mroIn K X_NoName (.type "object")=some true)
  (x_mb_NoName:PySem.W.mroIn K X_NoName (.type "BaseException")=some true)
  (x_ex_Twice:PySem.W.excIn K X_Twice bmV "ValueError.__new__"=true)
  (x_ga_Twice:PySem.W.findIn K (.ref X_Twice) "__getattribute__"=some (some (.builtin "BaseException.__getattribute__")))
  (x_gt_Twice:PySem.W.findIn K (.ref X_Twice) "__getattr__"=some none)
  (x_ha_Twice:PySem.W.findIn K (.ref X_Twice) "__class__"=some (some (.builtin "object.__class__")))
  (x_mo_Twice:PySem.W.mroIn K X_Twice (.type "object")=some true)
  (x_mb_Twice:PySem.W.mroIn K X_Twice (.type "BaseException")=some true)
  (x_ex_TooMany:PySem.W.excIn K X_TooMany bmV "ValueError.__new__"=true)
  (x_ga_TooMany:PySem.W.findIn K (.ref X_TooMany) "__getattribute__"=some (some (.builtin "BaseException.__getattribute__")))
  (x_gt_TooMany:PySem.W.findIn K (.ref X_TooMany) "__getattr__"=some none)
  (x_ha_TooMany:PySem.W.findIn K (.ref X_TooMany) "__class__"=some (some (.builtin "object.__class__")))
  (x_mo_TooMany:PySem.W.mroIn K X_TooMany (.type "object")=some true)
  (x_mb_TooMany:PySem.W.mroIn K X_TooMany (.type "BaseException")=some true)
  (x_ex_NoHolder:PySem.W.excIn K X_NoHolder bmV "ValueError.__new__"=true)
  (x_ga_NoHolder:PySem.W.findIn K (.ref X_NoHolder) "__getattribute__"=some (some (.builtin "BaseException.__getattribute__")))
  (x_gt_NoHolder:PySem.W.findIn K (.ref X_NoHolder) "__getattr__"=some none)
  (x_ha_NoHolder:PySem.W.findIn K (.ref X_NoHolder) "__class__"=some (some (.builtin "object.__class__")))
  (x_mo_NoHolder:PySem.W.mroIn K X_NoHolder (.type "object")=some true)
  (x_mb_NoHolder:PySem.W.mroIn K X_NoHolder (.type "BaseException")=some true)
  (x_ex_NoHouse:PySem.W.excIn K X_NoHouse bmV "ValueError.__new__"=true)
  (x_ga_NoHouse:PySem.W.findIn K (.ref X_NoHouse) "__getattribute__"=some (some (.builtin "BaseException.__getattribute__")))
  (x_gt_NoHouse:PySem.W.findIn K (.ref X_NoHouse) "__getattr__"=some none)
  (x_ha_NoHouse:PySem.W.findIn K (.ref X_NoHouse) "__class__"=some (some (.builtin "object.__class__")))
  (x_mo_NoHouse:PySem.W.mroIn K X_NoHouse (.type "object")=some true)
  (x_mb_NoHouse:PySem.W.mroIn K X_NoHouse (.type "BaseException")=some true)
  (x_ex_NoLoss:PySem.W.excIn K X_NoLoss bmV "ValueError.__new__"=true)
  (x_ga_NoLoss:PySem.W.findIn K (.ref X_NoLoss) "__getattribute__"=some (some (.builtin "BaseException.__getattribute__")))
  (x_gt_NoLoss:PySem.W.findIn K (.ref X_NoLoss) "__getattr__"=some none)
  (x_ha_NoLoss:PySem.W.findIn K (.ref X_NoLoss) "__class__"=some (some (.builtin "object.__class__")))
  (x_mo_NoLoss:PySem.W.mroIn K X_NoLoss (.type "object")=some true)
  (x_mb_NoLoss:PySem.W.mroIn K X_NoLoss (.type "BaseException")=some true)
  (x_ex_NoShare:PySem.W.excIn K X_NoShare bmV "ValueError.__new__"=true)
  (x_ga_NoShare:PySem.W.findIn K (.ref X_NoShare) "__getattribute__"=some (some (.builtin "BaseException.__getattribute__")))
  (x_gt_NoShare:PySem.W.findIn K (.ref X_NoShare) "__getattr__"=some none)
  (x_ha_NoShare:PySem.W.findIn K (.ref X_NoShare) "__class__"=some (some (.builtin "object.__class__")))
  (x_mo_NoShare:PySem.W.mroIn K X_NoShare (.type "object")=some true)
  (x_mb_NoShare:PySem.W.mroIn K X_NoShare (.type "BaseException")=some true)
  (m_NoName:PySem.W.mroIn K X_NoName (.ref X_OwnError)=some true)
  (w_NoName_0:PySem.W.kitOne K (.ref X_NoName) (.ref X_NoName)=some true)
  (w_NoName_1:PySem.W.kitOne K (.ref X_NoName) (.ref X_Twice)=some false)
  (w_NoName_2:PySem.W.kitOne K (.ref X_NoName) (.ref X_TooMany)=some false)
  (w_NoName_3:PySem.W.kitOne K (.ref X_NoName) (.ref X_NoHolder)=some false)
  (w_NoName_4:PySem.W.kitOne K (.ref X_NoName) (.ref X_NoHouse)=some false)
  (w_NoName_5:PySem.W.kitOne K (.ref X_NoName) (.ref X_NoLoss)=some false)
  (w_NoName_6:PySem.W.kitOne K (.ref X_NoName) (.ref X_NoShare)=some false)
  (w_NoName_7:PySem.W.kitOne K (.ref X_NoName) (.ref X_NoText)=some false)
  (w_NoName_8:PySem.W.kitOne K (.ref X_NoName) (.ref X_Whole)=some false)
  (w_NoName_v:PySem.W.kitOne K (.ref X_NoName) (.type "ValueError")=some true)
  (w_NoName_o:PySem.W.kitOne K (.ref X_NoName) (.ref X_OwnError)=some true)
  (m_Twice:PySem.W.mroIn K X_Twice (.ref X_OwnError)=some true)
  (w_Twice_0:PySem.W.kitOne K (.ref X_Twice) (.ref X_NoName)=some false)
  (w_Twice_1:PySem.W.kitOne K (.ref X_Twice) (.ref X_Twice)=some true)
  (w_Twice_2:PySem.W.kitOne K (.ref X_Twice) (.ref X_TooMany)=some false)
  (w_Twice_3:PySem.W.kitOne K (.ref X_Twice) (.ref X_NoHolder)=some false)
  (w_Twice_4:PySem.W.kitOne K (.ref X_Twice) (.ref X_NoHouse)=some false)
  (w_Twice_5:PySem.W.kitOne K (.ref X_Twice) (.ref X_NoLoss)=some false)
  (w_Twice_6:PySem.W.kitOne K (.ref X_Twice) (.ref X_NoShare)=some false)
  (w_Twice_7:PySem.W.kitOne K (.ref X_Twice) (.ref X_NoText)=some false)
  (w_Twice_8:PySem.W.kitOne K (.ref X_Twice) (.ref X_Whole)=some false)
  (w_Twice_v:PySem.W.kitOne K (.ref X_Twice) (.type "ValueError")=some true)
  (w_Twice_o:PySem.W.kitOne K (.ref X_Twice) (.ref X_OwnError)=some true)
  (m_TooMany:PySem.W.mroIn K X_TooMany (.ref X_OwnError)=some true)
  (w_TooMany_0:PySem.W.kitOne K (.ref X_TooMany) (.ref X_NoName)=some false)
  (w_TooMany_1:PySem.W.kitOne K (.ref X_TooMany) (.ref X_Twice)=some false)
  (w_TooMany_2:PySem.W.kitOne K (.ref X_TooMany) (.ref X_TooMany)=some true)
  (w_TooMany_3:PySem.W.kitOne K (.ref X_TooMany) (.ref X_NoHolder)=some false)
  (w_TooMany_4:PySem.W.kitOne K (.ref X_TooMany) (.ref X_NoHouse)=some false)
  (w_TooMany_5:PySem.W.kitOne K (.ref X_TooMany) (.ref X_NoLoss)=some false)
  (w_TooMany_6:PySem.W.kitOne K (.ref X_TooMany) (.ref X_NoShare)=some false)
  (w_TooMany_7:PySem.W.kitOne K (.ref X_TooMany) (.ref X_NoText)=some false)
  (w_TooMany_8:PySem.W.kitOne K (.ref X_TooMany) (.ref X_Whole)=some false)
  (w_TooMany_v:PySem.W.kitOne K (.ref X_TooMany) (.type "ValueError")=some true)
  (w_TooMany_o:PySem.W.kitOne K (.ref X_TooMany) (.ref X_OwnError)=some true)
  (m_NoHolder:PySem.W.mroIn K X_NoHolder (.ref X_OwnError)=some true)
  (w_NoHolder_0:PySem.W.kitOne K (.ref X_NoHolder) (.ref X_NoName)=some false)
  (w_NoHolder_1:PySem.W.kitOne K (.ref X_NoHolder) (.ref X_Twice)=some false)
  (w_NoHolder_2:PySem.W.kitOne K (.ref X_NoHolder) (.ref X_TooMany)=some false)
  (w_NoHolder_3:PySem.W.kitOne K (.ref X_NoHolder) (.ref X_NoHolder)=some true)
  (w_NoHolder_4:PySem.W.kitOne K (.ref X_NoHolder) (.ref X_NoHouse)=some false)
  (w_NoHolder_5:PySem.W.kitOne K (.ref X_NoHolder) (.ref X_NoLoss)=some false)
  (w_NoHolder_6:PySem.W.kitOne K (.ref X_NoHolder) (.ref X_NoShare)=some false)
  (w_NoHolder_7:PySem.W.kitOne K (.ref X_NoHolder) (.ref X_NoText)=some false)
  (w_NoHolder_8:PySem.W.kitOne K (.ref X_NoHolder) (.ref X_Whole)=some false)
  (w_NoHolder_v:PySem.W.kitOne K (.ref X_NoHolder) (.type "ValueError")=some true)
  (w_NoHolder_o:PySem.W.kitOne K (.ref X_NoHolder) (.ref X_OwnError)=some true)
  (m_NoHouse:PySem.W.mroIn K X_NoHouse (.ref X_OwnError)=some true)
  (w_NoHouse_0:PySem.W.kitOne K (.ref X_NoHouse) (.ref X_NoName)=some false)
  (w_NoHouse_1:PySem.W.kitOne K (.ref X_NoHouse) (.ref X_Twice)=some false)
  (w_NoHouse_2:PySem.W.kitOne K (.ref X_NoHouse) (.ref X_TooMany)=some false)
  (w_NoHouse_3:PySem.W.kitOne K (.ref X_NoHouse) (.ref X_NoHolder)=some false)
  (w_NoHouse_4:PySem.W.kitOne K (.ref X_NoHouse) (.ref X_NoHouse)=some true)
  (w_NoHouse_5:PySem.W.kitOne K (.ref X_NoHouse) (.ref X_NoLoss)=some false)
  (w_NoHouse_6:PySem.W.kitOne K (.ref X_NoHouse) (.ref X_NoShare)=some false)
  (w_NoHouse_7:PySem.W.kitOne K (.ref X_NoHouse) (.ref X_NoText)=some false)
  (w_NoHouse_8:PySem.W.kitOne K (.ref X_NoHouse) (.ref X_Whole)=some false)
  (w_NoHouse_v:PySem.W.kitOne K (.ref X_NoHouse) (.type "ValueError")=some true)
  (w_NoHouse_o:PySem.W.kitOne K (.ref X_NoHouse) (.ref X_OwnError)=some true)
  (m_NoLoss:PySem.W.mroIn K X_NoLoss (.ref X_OwnError)=some true)
  (w_NoLoss_0:PySem.W.kitOne K (.ref X_NoLoss) (.ref X_NoName)=some false)
  (w_NoLoss_1:PySem.W.kitOne K (.ref X_NoLoss) (.ref X_Twice)=some false)
  (w_NoLoss_2:PySem.W.kitOne K (.ref X_NoLoss) (.ref X_TooMany)=some false)
  (w_NoLoss_3:PySem.W.kitOne K (.ref X_NoLoss) (.ref X_NoHolder)=some false)
  (w_NoLoss_4:PySem.W.kitOne K (.ref X_NoLoss) (.ref X_NoHouse)=some false)
  (w_NoLoss_5:PySem.W.kitOne K (.ref X_NoLoss) (.ref X_NoLoss)=some true)
  (w_NoLoss_6:PySem.W.kitOne K (.ref X_NoLoss) (.ref X_NoShare)=some false)
  (w_NoLoss_7:PySem.W.kitOne K (.ref X_NoLoss) (.ref X_NoText)=some false)
  (w_NoLoss_8:PySem.W.kitOne K (.ref X_NoLoss) (.ref X_Whole)=some false)
  (w_NoLoss_v:PySem.W.kitOne K (.ref X_NoLoss) (.type "ValueError")=some true)
  (w_NoLoss_o:PySem.W.kitOne K (.ref X_NoLoss) (.ref X_OwnError)=some true)
  (m_NoShare:PySem.W.mroIn K X_NoShare (.ref X_OwnError)=some true)
  (w_NoShare_0:PySem.W.kitOne K (.ref X_NoShare) (.ref X_NoName)=some false)
  (w_NoShare_1:PySem.W.kitOne K (.ref X_NoShare) (.ref X_Twice)=some false)
  (w_NoShare_2:PySem.W.kitOne K (.ref X_NoShare) (.ref X_TooMany)=some false)
  (w_NoShare_3:PySem.W.kitOne K (.ref X_NoShare) (.ref X_NoHolder)=some false)
  (w_NoShare_4:PySem.W.kitOne K (.ref X_NoShare) (.ref X_NoHouse)=some false)
  (w_NoShare_5:PySem.W.kitOne K (.ref X_NoShare) (.ref X_NoLoss)=some false)
  (w_NoShare_6:PySem.W.kitOne K (.ref X_NoShare) (.ref X_NoShare)=some true)
  (w_NoShare_7:PySem.W.kitOne K (.ref X_NoShare) (.ref X_NoText)=some false)
  (w_NoShare_8:PySem.W.kitOne K (.ref X_NoShare) (.ref X_Whole)=some false)
  (w_NoShare_v:PySem.W.kitOne K (.ref X_NoShare) (.type "ValueError")=some true)
  (w_NoShare_o:PySem.W.kitOne K (.ref X_NoShare) (.ref X_OwnError)=some true)
  (a0:PySem.W.nsIn K mainGlobals "is_name"=some (some (.ref f0)))
  (l0:K.lookup f0=some ⟨oc0,od0,.func (PySem.W.fnOf "is_name" "is_name" (qar qdz) (qao qdz) (qaj qdz) .none kV0 dc0 pm0 an0 cd0 ct0),sl0⟩)
  (c0:PySem.W.codeIn K cd0 "is_name"=true)
  (k0:PySem.W.keepIn K (.ref f0)=true)
  (a1:PySem.W.nsIn K mainGlobals "need_loss"=some (some (.ref f1)))
  (l1:K.lookup f1=some ⟨oc1,od1,.func (PySem.W.fnOf "need_loss" "need_loss" (qar qc5) (qao qc5) (qaj qc5) .none kV1 dc1 pm1 an1 cd1 ct1),sl1⟩)
  (c1:PySem.W.codeIn K cd1 "need_loss"=true)
  (k1:PySem.W.keepIn K (.ref f1)=true)
  (a2:PySem.W.nsIn K mainGlobals "_law_take"=some (some (.ref f2)))
  (l2:K.lookup f2=some ⟨oc2,od2,.func (PySem.W.fnOf "_law_take" "_law_take" (qar qc6) (qao qc6) (qaj qc6) .none kV2 dc2 pm2 an2 cd2 ct2),sl2⟩)
  (c2:PySem.W.codeIn K cd2 "_law_take"=true)
  (k2:PySem.W.keepIn K (.ref f2)=true)
  (a3:PySem.W.nsIn K mainGlobals "_law_purse"=some (some (.ref f3)))
  (l3:K.lookup f3=some ⟨oc3,od3,.func (PySem.W.fnOf "_law_purse" "_law_purse" (qar qcr) (qao qcr) (qaj qcr) .none kV3 dc3 pm3 an3 cd3 ct3),sl3⟩)
  (c3:PySem.W.codeIn K cd3 "_law_purse"=true)
  (k3:PySem.W.keepIn K (.ref f3)=true)
  (a4:PySem.W.nsIn K mainGlobals "common_divisor"=some (some (.ref f4)))
  (l4:K.lookup f4=some ⟨oc4,od4,.func (PySem.W.fnOf "common_divisor" "common_divisor" (qar qbo) (qao qbo) (qaj qbo) .none kV4 dc4 pm4 an4 cd4 ct4),sl4⟩)
  (c4:PySem.W.codeIn K cd4 "common_divisor"=true)
  (k4:PySem.W.keepIn K (.ref f4)=true)
  (a5:PySem.W.nsIn K mainGlobals "plus"=some (some (.ref f5)))
  (l5:K.lookup f5=some ⟨oc5,od5,.func (PySem.W.fnOf "plus" "plus" (qar qif) (qao qif) (qaj qif) .none kV5 dc5 pm5 an5 cd5 ct5),sl5⟩)
  (c5:PySem.W.codeIn K cd5 "plus"=true)
  (k5:PySem.W.keepIn K (.ref f5)=true)
  (a6:PySem.W.nsIn K mainGlobals "minus"=some (some (.ref f6)))
  (l6:K.lookup f6=some ⟨oc6,od6,.func (PySem.W.fnOf "minus" "minus" (qar qgl) (qao qgl) (qaj qgl) .none kV6 dc6 pm6 an6 cd6 ct6),sl6⟩)
  (c6:PySem.W.codeIn K cd6 "minus"=true)
  (k6:PySem.W.keepIn K (.ref f6)=true)
  (a7:PySem.W.nsIn K mainGlobals "is_above"=some (some (.ref f7)))
  (l7:K.lookup f7=some ⟨oc7,od7,.func (PySem.W.fnOf "is_above" "is_above" (qar qdt) (qao qdt) (qaj qdt) .none kV7 dc7 pm7 an7 cd7 ct7),sl7⟩)
  (c7:PySem.W.codeIn K cd7 "is_above"=true)
  (k7:PySem.W.keepIn K (.ref f7)=true)
  (a8:PySem.W.nsIn K mainGlobals "_law_divisor"=some (some (.ref f8)))
  (l8:K.lookup f8=some ⟨oc8,od8,.func (PySem.W.fnOf "_law_divisor" "_law_divisor" (qar qb3) (qao qb3) (qaj qb3) .none kV8 dc8 pm8 an8 cd8 ct8),sl8⟩)
  (c8:PySem.W.codeIn K cd8 "_law_divisor"=true)
  (k8:PySem.W.keepIn K (.ref f8)=true)
  (a9:PySem.W.nsIn K mainGlobals "_law_lowest"=some (some (.ref f9)))
  (l9:K.lookup f9=some ⟨oc9,od9,.func (PySem.W.fnOf "_law_lowest" "_law_lowest" (qar qcc) (qao qcc) (qaj qcc) .none kV9 dc9 pm9 an9 cd9 ct9),sl9⟩)
  (c9:PySem.W.codeIn K cd9 "_law_lowest"=true)
  (k9:PySem.W.keepIn K (.ref f9)=true)
  (a10:PySem.W.nsIn K mainGlobals "_law_plus"=some (some (.ref f10)))
  (l10:K.lookup f10=some ⟨oc10,od10,.func (PySem.W.fnOf "_law_plus" "_law_plus" (qar qc8) (qao qc8) (qaj qc8) .none kV10 dc10 pm10 an10 cd10 ct10),sl10⟩)
  (c10:PySem.W.codeIn K cd10 "_law_plus"=true)
  (k10:PySem.W.keepIn K (.ref f10)=true)
  (a11:PySem.W.nsIn K mainGlobals "_law_times"=some (some (.ref f11)))
  (l11:K.lookup f11=some ⟨oc11,od11,.func (PySem.W.fnOf "_law_times" "_law_times" (qar qcq) (qao qcq) (qaj qcq) .none kV11 dc11 pm11 an11 cd11 ct11),sl11⟩)
  (c11:PySem.W.codeIn K cd11 "_law_times"=true)
  (k11:PySem.W.keepIn K (.ref f11)=true)
  (a12:PySem.W.nsIn K mainGlobals "_law_lesser"=some (some (.ref f12)))
  (l12:K.lookup f12=some ⟨oc12,od12,.func (PySem.W.fnOf "_law_lesser" "_law_lesser" (qar qcd) (qao qcd) (qaj qcd) .none kV12 dc12 pm12 an12 cd12 ct12),sl12⟩)
  (c12:PySem.W.codeIn K cd12 "_law_lesser"=true)
  (k12:PySem.W.keepIn K (.ref f12)=true)
  (a13:PySem.W.findIn K (.ref BK) "__init__"=some (some (.ref f13)))
  (i13:PySem.W.isFn K (.ref f13)=true)
  (l13:K.lookup f13=some ⟨oc13,od13,.func (PySem.W.fnOf "__init__" "Book.__init__" (qar qdg) (qao qdg) (qaj qdg) .none kV13 dc13 pm13 an13 cd13 ct13),sl13⟩)
  (c13:PySem.W.codeIn K cd13 "Book.__init__"=true)
  (k13:PySem.W.keepIn K (.ref f13)=true)
  (a14:PySem.W.findIn K (.ref BK) "is_house"=some (some (.ref f14)))
  (i14:PySem.W.isFn K (.ref f14)=true)
  (l14:K.lookup f14=some ⟨oc14,od14,.func (PySem.W.fnOf "is_house" "Book.is_house" (qar qbv) (qao qbv) (qaj qbv) .none kV14 dc14 pm14 an14 cd14 ct14),sl14⟩)
  (c14:PySem.W.codeIn K cd14 "Book.is_house"=true)
  (k14:PySem.W.keepIn K (.ref f14)=true)
  (a15:PySem.W.findIn K (.ref BK) "is_holder"=some (some (.ref f15)))
  (i15:PySem.W.isFn K (.ref f15)=true)
  (l15:K.lookup f15=some ⟨oc15,od15,.func (PySem.W.fnOf "is_holder" "Book.is_holder" (qar qbp) (qao qbp) (qaj qbp) .none kV15 dc15 pm15 an15 cd15 ct15),sl15⟩)
  (c15:PySem.W.codeIn K cd15 "Book.is_holder"=true)
  (k15:PySem.W.keepIn K (.ref f15)=true)
  (a16:PySem.W.findIn K (.ref BK) "need_house"=some (some (.ref f16)))
  (i16:PySem.W.isFn K (.ref f16)=true)
  (l16:K.lookup f16=some ⟨oc16,od16,.func (PySem.W.fnOf "need_house" "Book.need_house" (qar qbh) (qao qbh) (qaj qbh) .none kV16 dc16 pm16 an16 cd16 ct16),sl16⟩)
  (c16:PySem.W.codeIn K cd16 "Book.need_house"=true)
  (k16:PySem.W.keepIn K (.ref f16)=true)
  (a17:PySem.W.findIn K (.ref BK) "need_holder"=some (some (.ref f17)))
  (i17:PySem.W.isFn K (.ref f17)=true)
  (l17:K.lookup f17=some ⟨oc17,od17,.func (PySem.W.fnOf "need_holder" "Book.need_holder" (qar qbc) (qao qbc) (qaj qbc) .none kV17 dc17 pm17 an17 cd17 ct17),sl17⟩)
  (c17:PySem.W.codeIn K cd17 "Book.need_holder"=true)
  (k17:PySem.W.keepIn K (.ref f17)=true)
  (a18:PySem.W.findIn K (.ref BK) "need_new_name"=some (some (.ref f18)))
  (i18:PySem.W.isFn K (.ref f18)=true)
  (l18:K.lookup f18=some ⟨oc18,od18,.func (PySem.W.fnOf "need_new_name" "Book.need_new_name" (qar qa9) (qao qa9) (qaj qa9) .none kV18 dc18 pm18 an18 cd18 ct18),sl18⟩)
  (c18:PySem.W.codeIn K cd18 "Book.need_new_name"=true)
  (k18:PySem.W.keepIn K (.ref f18)=true)
  (a19:PySem.W.findIn K (.ref BK) "person"=some (some (.ref f19)))
  (i19:PySem.W.isFn K (.ref f19)=true)
  (l19:K.lookup f19=some ⟨oc19,od19,.func (PySem.W.fnOf "person" "Book.person" (qar qcf) (qao qcf) (qaj qcf) .none kV19 dc19 pm19 an19 cd19 ct19),sl19⟩)
  (c19:PySem.W.codeIn K cd19 "Book.person"=true)
  (k19:PySem.W.keepIn K (.ref f19)=true)
  (a20:PySem.W.findIn K (.ref BK) "house"=some (some (.ref f20)))
  (i20:PySem.W.isFn K (.ref f20)=true)
  (l20:K.lookup f20=some ⟨oc20,od20,.func (PySem.W.fnOf "house" "Book.house" (qar qct) (qao qct) (qaj qct) .none kV20 dc20 pm20 an20 cd20 ct20),sl20⟩)
  (c20:PySem.W.codeIn K cd20 "Book.house"=true)
  (k20:PySem.W.keepIn K (.ref f20)=true)
  (a21:PySem.W.findIn K (.ref BK) "sale"=some (some (.ref f21)))
  (i21:PySem.W.isFn K (.ref f21)=true)
  (l21:K.lookup f21=some ⟨oc21,od21,.func (PySem.W.fnOf "sale" "Book.sale" (qar qdd) (qao qdd) (qaj qdd) .none kV21 dc21 pm21 an21 cd21 ct21),sl21⟩)
  (c21:PySem.W.codeIn K cd21 "Book.sale"=true)
  (k21:PySem.W.keepIn K (.ref f21)=true)
  (a22:PySem.W.findIn K (.ref BK) "things"=some (some (.ref f22)))
  (i22:PySem.W.isFn K (.ref f22)=true)
  (l22:K.lookup f22=some ⟨oc22,od22,.func (PySem.W.fnOf "things" "Book.things" (qar qce) (qao qce) (qaj qce) .none kV22 dc22 pm22 an22 cd22 ct22),sl22⟩)
  (c22:PySem.W.codeIn K cd22 "Book.things"=true)
  (k22:PySem.W.keepIn K (.ref f22)=true)
  (a23:PySem.W.findIn K (.ref BK) "mark"=some (some (.ref f23)))
  (i23:PySem.W.isFn K (.ref f23)=true)
  (l23:K.lookup f23=some ⟨oc23,od23,.func (PySem.W.fnOf "mark" "Book.mark" (qar qde) (qao qde) (qaj qde) .none kV23 dc23 pm23 an23 cd23 ct23),sl23⟩)
  (c23:PySem.W.codeIn K cd23 "Book.mark"=true)
  (k23:PySem.W.keepIn K (.ref f23)=true)
  (a24:PySem.W.findIn K (.ref BK) "loss"=some (some (.ref f24)))
  (i24:PySem.W.isFn K (.ref f24)=true)
  (l24:K.lookup f24=some ⟨oc24,od24,.func (PySem.W.fnOf "loss" "Book.loss" (qar qdf) (qao qdf) (qaj qdf) .none kV24 dc24 pm24 an24 cd24 ct24),sl24⟩)
  (c24:PySem.W.codeIn K cd24 "Book.loss"=true)
  (k24:PySem.W.keepIn K (.ref f24)=true)
  (a25:PySem.W.findIn K (.ref BK) "persons"=some (some (.ref f25)))
  (i25:PySem.W.isFn K (.ref f25)=true)
  (l25:K.lookup f25=some ⟨oc25,od25,.func (PySem.W.fnOf "persons" "Book.persons" (qar qb5) (qao qb5) (qaj qb5) .none kV25 dc25 pm25 an25 cd25 ct25),sl25⟩)
  (c25:PySem.W.codeIn K cd25 "Book.persons"=true)
  (k25:PySem.W.keepIn K (.ref f25)=true)
  (a26:PySem.W.findIn K (.ref BK) "houses"=some (some (.ref f26)))
  (i26:PySem.W.isFn K (.ref f26)=true)
  (l26:K.lookup f26=some ⟨oc26,od26,.func (PySem.W.fnOf "houses" "Book.houses" (qar qcg) (qao qcg) (qaj qcg) .none kV26 dc26 pm26 an26 cd26 ct26),sl26⟩)
  (c26:PySem.W.codeIn K cd26 "Book.houses"=true)
  (k26:PySem.W.keepIn K (.ref f26)=true)
  (a27:PySem.W.findIn K (.ref BK) "shares"=some (some (.ref f27)))
  (i27:PySem.W.isFn K (.ref f27)=true)
  (l27:K.lookup f27=some ⟨oc27,od27,.func (PySem.W.fnOf "shares" "Book.shares" (qar qb1) (qao qb1) (qaj qb1) .none kV27 dc27 pm27 an27 cd27 ct27),sl27⟩)
  (c27:PySem.W.codeIn K cd27 "Book.shares"=true)
  (k27:PySem.W.keepIn K (.ref f27)=true)
  (a28:PySem.W.nsIn K mainGlobals "_law_names"=some (some (.ref f28)))
  (l28:K.lookup f28=some ⟨oc28,od28,.func (PySem.W.fnOf "_law_names" "_law_names" (qar qb9) (qao qb9) (qaj qb9) .none kV28 dc28 pm28 an28 cd28 ct28),sl28⟩)
  (c28:PySem.W.codeIn K cd28 "_law_names"=true)
  (k28:PySem.W.keepIn K (.ref f28)=true)
  (a29:PySem.W.nsIn K mainGlobals "_law_is_name"=some (some (.ref f29)))
  (l29:K.lookup f29=some ⟨oc29,od29,.func (PySem.W.fnOf "_law_is_name" "_law_is_name" (qar qbt) (qao qbt) (qaj qbt) .none kV29 dc29 pm29 an29 cd29 ct29),sl29⟩)
  (c29:PySem.W.codeIn K cd29 "_law_is_name"=true)
  (k29:PySem.W.keepIn K (.ref f29)=true)
  (a30:PySem.W.nsIn K mainGlobals "_law_one"=some (some (.ref f30)))
  (l30:K.lookup f30=some ⟨oc30,od30,.func (PySem.W.fnOf "_law_one" "_law_one" (qar qdu) (qao qdu) (qaj qdu) .none kV30 dc30 pm30 an30 cd30 ct30),sl30⟩)
  (c30:PySem.W.codeIn K cd30 "_law_one"=true)
  (k30:PySem.W.keepIn K (.ref f30)=true)
  (a31:PySem.W.nsIn K mainGlobals "_law_number"=some (some (.ref f31)))
  (l31:K.lookup f31=some ⟨oc31,od31,.func (PySem.W.fnOf "_law_number" "_law_number" (qar qcb) (qao qcb) (qaj qcb) .none kV31 dc31 pm31 an31 cd31 ct31),sl31⟩)
  (c31:PySem.W.codeIn K cd31 "_law_number"=true)
  (k31:PySem.W.keepIn K (.ref f31)=true)
  (a32:PySem.W.nsIn K mainGlobals "_law_which"=some (some (.ref f32)))
  (l32:K.lookup f32=some ⟨oc32,od32,.func (PySem.W.fnOf "_law_which" "_law_which" (qar qb8) (qao qb8) (qaj qb8) .none kV32 dc32 pm32 an32 cd32 ct32),sl32⟩)
  (c32:PySem.W.codeIn K cd32 "_law_which"=true)
  (k32:PySem.W.keepIn K (.ref f32)=true)
  (a33:PySem.W.nsIn K mainGlobals "_law_shares"=some (some (.ref f33)))
  (l33:K.lookup f33=some ⟨oc33,od33,.func (PySem.W.fnOf "_law_shares" "_law_shares" (qar qbz) (qao qbz) (qaj qbz) .none kV33 dc33 pm33 an33 cd33 ct33),sl33⟩)
  (c33:PySem.W.codeIn K cd33 "_law_shares"=true)
  (k33:PySem.W.keepIn K (.ref f33)=true)
  (a34:PySem.W.nsIn K mainGlobals "_law_refusal"=some (some (.ref f34)))
  (l34:K.lookup f34=some ⟨oc34,od34,.func (PySem.W.fnOf "_law_refusal" "_law_refusal" (qar qbs) (qao qbs) (qaj qbs) .none kV34 dc34 pm34 an34 cd34 ct34),sl34⟩)
  (c34:PySem.W.codeIn K cd34 "_law_refusal"=true)
  (k34:PySem.W.keepIn K (.ref f34)=true)
  (a35:PySem.W.nsIn K mainGlobals "_law_changed"=some (some (.ref f35)))
  (l35:K.lookup f35=some ⟨oc35,od35,.func (PySem.W.fnOf "_law_changed" "_law_changed" (qar qb4) (qao qb4) (qaj qb4) .none kV35 dc35 pm35 an35 cd35 ct35),sl35⟩)
  (c35:PySem.W.codeIn K cd35 "_law_changed"=true)
  (k35:PySem.W.keepIn K (.ref f35)=true)
  (a36:PySem.W.nsIn K mainGlobals "_law_deed"=some (some (.ref f36)))
  (l36:K.lookup f36=some ⟨oc36,od36,.func (PySem.W.fnOf "_law_deed" "_law_deed" (qar qdb) (qao qdb) (qaj qdb) .none kV36 dc36 pm36 an36 cd36 ct36),sl36⟩)
  (c36:PySem.W.codeIn K cd36 "_law_deed"=true)
  (k36:PySem.W.keepIn K (.ref f36)=true)
  (a37:PySem.W.nsIn K mainGlobals "_law_did"=some (some (.ref f37)))
  (l37:K.lookup f37=some ⟨oc37,od37,.func (PySem.W.fnOf "_law_did" "_law_did" (qar qdv) (qao qdv) (qaj qdv) .none kV37 dc37 pm37 an37 cd37 ct37),sl37⟩)
  (c37:PySem.W.codeIn K cd37 "_law_did"=true)
  (k37:PySem.W.keepIn K (.ref f37)=true)
  (a38:PySem.W.nsIn K mainGlobals "_law_done"=some (some (.ref f38)))
  (l38:K.lookup f38=some ⟨oc38,od38,.func (PySem.W.fnOf "_law_done" "_law_done" (qar qda) (qao qda) (qaj qda) .none kV38 dc38 pm38 an38 cd38 ct38),sl38⟩)
  (c38:PySem.W.codeIn K cd38 "_law_done"=true)
  (k38:PySem.W.keepIn K (.ref f38)=true)
  (a39:PySem.W.nsIn K mainGlobals "_law_part"=some (some (.ref f39)))
  (l39:K.lookup f39=some ⟨oc39,od39,.func (PySem.W.fnOf "_law_part" "_law_part" (qar qc9) (qao qc9) (qaj qc9) .none kV39 dc39 pm39 an39 cd39 ct39),sl39⟩)
  (c39:PySem.W.codeIn K cd39 "_law_part"=true)
  (k39:PySem.W.keepIn K (.ref f39)=true)
  (a40:PySem.W.nsIn K mainGlobals "_law_sale"=some (some (.ref f40)))
  (l40:K.lookup f40=some ⟨oc40,od40,.func (PySem.W.fnOf "_law_sale" "_law_sale" (qar qc7) (qao qc7) (qaj qc7) .none kV40 dc40 pm40 an40 cd40 ct40),sl40⟩)
  (c40:PySem.W.codeIn K cd40 "_law_sale"=true)
  (k40:PySem.W.keepIn K (.ref f40)=true)
  (a41:PySem.W.nsIn K mainGlobals "_law_drawn"=some (some (.ref f41)))
  (l41:K.lookup f41=some ⟨oc41,od41,.func (PySem.W.fnOf "_law_drawn" "_law_drawn" (qar qcs) (qao qcs) (qaj qcs) .none kV41 dc41 pm41 an41 cd41 ct41),sl41⟩)
  (c41:PySem.W.codeIn K cd41 "_law_drawn"=true)
  (k41:PySem.W.keepIn K (.ref f41)=true)
  (a42:PySem.W.findIn K (.ref BK) "twin"=some (some (.ref f42)))
  (i42:PySem.W.isFn K (.ref f42)=true)
  (l42:K.lookup f42=some ⟨oc42,od42,.func (PySem.W.fnOf "twin" "Book.twin" (qar qdc) (qao qdc) (qaj qdc) .none kV42 dc42 pm42 an42 cd42 ct42),sl42⟩)
  (c42:PySem.W.codeIn K cd42 "Book.twin"=true)
  (k42:PySem.W.keepIn K (.ref f42)=true)
  (a43:PySem.W.nsIn K mainGlobals "_law_come_to_one"=some (some (.ref f43)))
  (l43:K.lookup f43=some ⟨oc43,od43,.func (PySem.W.fnOf "_law_come_to_one" "_law_come_to_one" (qar qa4) (qao qa4) (qaj qa4) .none kV43 dc43 pm43 an43 cd43 ct43),sl43⟩)
  (c43:PySem.W.codeIn K cd43 "_law_come_to_one"=true)
  (k43:PySem.W.keepIn K (.ref f43)=true)
  (a44:PySem.W.nsIn K mainGlobals "_law_all_shares"=some (some (.ref f44)))
  (l44:K.lookup f44=some ⟨oc44,od44,.func (PySem.W.fnOf "_law_all_shares" "_law_all_shares" (qar qbb) (qao qbb) (qaj qbb) .none kV44 dc44 pm44 an44 cd44 ct44),sl44⟩)
  (c44:PySem.W.codeIn K cd44 "_law_all_shares"=true)
  (k44:PySem.W.keepIn K (.ref f44)=true)
  (a45:PySem.W.nsIn K mainGlobals "_law_parted"=some (some (.ref f45)))
  (l45:K.lookup f45=some ⟨oc45,od45,.func (PySem.W.fnOf "_law_parted" "_law_parted" (qar qb0) (qao qb0) (qaj qb0) .none kV45 dc45 pm45 an45 cd45 ct45),sl45⟩)
  (c45:PySem.W.codeIn K cd45 "_law_parted"=true)
  (k45:PySem.W.keepIn K (.ref f45)=true)
  (a46:PySem.W.nsIn K mainGlobals "law"=some (some (.ref f46)))
  (l46:K.lookup f46=some ⟨oc46,od46,.func (PySem.W.fnOf "law" "law" (qar qjg) (qao qjg) (qaj qjg) .none kV46 dc46 pm46 an46 cd46 ct46),sl46⟩)
  (c46:PySem.W.codeIn K cd46 "law"=true)
  (k46:PySem.W.keepIn K (.ref f46)=true)
   :∃ fd:FuncData,(∀ (s:Shared) (v:Value),BindsTo s fd ⟨[v],[]⟩ [("_law_script",v)])∧∀ base:Heap,K.In base→base.Ns mainGlobals mg→FnOk l.prog w K mg base (CXo l.prog w) 8 fa fd ["_law_script"] (qlz K):=by
 have e:=hfa.symm.trans (PySem.W.mg_of X G a46)
 cases e
 let a:Adr:=⟨X_OwnError,X_NoName,X_Twice,X_TooMany,X_NoHolder,X_NoHouse,X_NoLoss,X_NoShare,X_NoText,X_Whole,BK,ZR,ON,tl,tp,th⟩
 have E_OwnError:Exc K X_OwnError:=⟨x_ex_OwnError,x_ga_OwnError,x_gt_OwnError,x_ha_OwnError,x_hn,x_ht,x_mo_OwnError,x_mb_OwnError⟩
 have E_NoName:Exc K X_NoName:=⟨x_ex_NoName,x_ga_NoName,x_gt_NoName,x_ha_NoName,x_hn,x_ht,x_mo_NoName,x_mb_NoName⟩
 have E_Twice:Exc K X_Twice:=⟨x_ex_Twice,x_ga_Twice,x_gt_Twice,x_ha_Twice,x_hn,x_ht,x_mo_Twice,x_mb_Twice⟩
 have E_TooMany:Exc K X_TooMany:=⟨x_ex_TooMany,x_ga_TooMany,x_gt_TooMany,x_ha_TooMany,x_hn,x_ht,x_mo_TooMany,x_mb_TooMany⟩
 have E_NoHolder:Exc K X_NoHolder:=⟨x_ex_NoHolder,x_ga_NoHolder,x_gt_NoHolder,x_ha_NoHolder,x_hn,x_ht,x_mo_NoHolder,x_mb_NoHolder⟩
 have E_NoHouse:Exc K X_NoHouse:=⟨x_ex_NoHouse,x_ga_NoHouse,x_gt_NoHouse,x_ha_NoHouse,x_hn,x_ht,x_mo_NoHouse,x_mb_NoHouse⟩
 have E_NoLoss:Exc K X_NoLoss:=⟨x_ex_NoLoss,x_ga_NoLoss,x_gt_NoLoss,x_ha_NoLoss,x_hn,x_ht,x_mo_NoLoss,x_mb_NoLoss⟩
 have E_NoShare:Exc K X_NoShare:=⟨x_ex_NoShare,x_ga_NoShare,x_gt_NoShare,x_ha_NoShare,x_hn,x_ht,x_mo_NoShare,x_mb_NoShare⟩
 have T:Txt K mg a:=⟨PySem.W.mg_none_of X G z_len,PySem.W.mg_none_of X G z_range,PySem.W.mg_none_of X G z_all,PySem.W.mg_none_of X G z_int,PySem.W.mg_none_of X G z_abs,PySem.W.mg_none_of X G z_sorted,PySem.W.mg_none_of X G z_tuple,PySem.W.mg_none_of X G z_list,PySem.W.mg_none_of X G z_str,PySem.W.mg_none_of X G z_bool,PySem.W.mg_none_of X G z_isinstance,PySem.W.mg_none_of X G z_ValueError,PySem.W.mg_of X G n_OwnError,PySem.W.mg_of X G n_NoName,PySem.W.mg_of X G n_Twice,PySem.W.mg_of X G n_TooMany,PySem.W.mg_of X G n_NoHolder,PySem.W.mg_of X G n_NoHouse,PySem.W.mg_of X G n_NoLoss,PySem.W.mg_of X G n_NoShare,PySem.W.mg_of X G n_NoText,PySem.W.mg_of X G n_Whole,E_OwnError,E_NoName,E_Twice,E_TooMany,E_NoHolder,E_NoHouse,E_NoLoss,E_NoShare,PySem.W.mg_of X G v_LN,PySem.W.mg_of X G v_MP,PySem.W.mg_of X G v_MH,PySem.W.mg_of X G n_ZERO,PySem.W.mg_of X G n_ONE,
  ⟨_,_,_,v_ZERO,rfl,rfl,(show 2≤sizeLine by decide),.cons ⟨_,rfl⟩ (.cons ⟨_,rfl⟩ .nil)⟩,⟨_,_,_,v_ONE,rfl,rfl,(show 2≤sizeLine by decide),.cons ⟨_,rfl⟩ (.cons ⟨_,rfl⟩ .nil)⟩,⟨b_pg,b_hd,b_po,b_sa⟩,b_people,b_things_of,b_mark_of,b_loss_of,b_held_of⟩
 have R:Five K a:=⟨⟨E_NoName,m_NoName,⟨by decide,w_NoName_0,w_NoName_1,w_NoName_2,w_NoName_3,w_NoName_4,w_NoName_5,w_NoName_6,w_NoName_7,w_NoName_8,w_NoName_v,w_NoName_o⟩⟩,⟨E_Twice,m_Twice,⟨by decide,w_Twice_0,w_Twice_1,w_Twice_2,w_Twice_3,w_Twice_4,w_Twice_5,w_Twice_6,w_Twice_7,w_Twice_8,w_Twice_v,w_Twice_o⟩⟩,⟨E_TooMany,m_TooMany,⟨by decide,w_TooMany_0,w_TooMany_1,w_TooMany_2,w_TooMany_3,w_TooMany_4,w_TooMany_5,w_TooMany_6,w_TooMany_7,w_TooMany_8,w_TooMany_v,w_TooMany_o⟩⟩,⟨E_NoHolder,m_NoHolder,⟨by decide,w_NoHolder_0,w_NoHolder_1,w_NoHolder_2,w_NoHolder_3,w_NoHolder_4,w_NoHolder_5,w_NoHolder_6,w_NoHolder_7,w_NoHolder_8,w_NoHolder_v,w_NoHolder_o⟩⟩,⟨E_NoHouse,m_NoHouse,⟨by decide,w_NoHouse_0,w_NoHouse_1,w_NoHouse_2,w_NoHouse_3,w_NoHouse_4,w_NoHouse_5,w_NoHouse_6,w_NoHouse_7,w_NoHouse_8,w_NoHouse_v,w_NoHouse_o⟩⟩,⟨E_NoLoss,m_NoLoss,⟨by decide,w_NoLoss_0,w_NoLoss_1,w_NoLoss_2,w_NoLoss_3,w_NoLoss_4,w_NoLoss_5,w_NoLoss_6,w_NoLoss_7,w_NoLoss_8,w_NoLoss_v,w_NoLoss_o⟩⟩,⟨E_NoShare,m_NoShare,⟨by decide,w_NoShare_0,w_NoShare_1,w_NoShare_2,w_NoShare_3,w_NoShare_4,w_NoShare_5,w_NoShare_6,w_NoShare_7,w_NoShare_8,w_NoShare_v,w_NoShare_o⟩⟩⟩
 have U0:=qa2 (st:=qdz) l0 c0 k0
 have B0:Binds K _ ["text"] []:=U0.binds (ps:=["text"]) fun _ _ _ _ _ _ us hl=>match us,hl with | [_],_=>rfl
 have U1:=qa2 (st:=qc5) l1 c1 k1
 have B1:Binds K _ ["number"] []:=U1.binds (ps:=["number"]) fun _ _ _ _ _ _ us hl=>match us,hl with | [_],_=>rfl
 have U2:=qa2 (st:=qc6) l2 c2 k2
 have B2:Binds K _ ["_law_purse_here","_law_many"] []:=U2.binds (ps:=["_law_purse_here","_law_many"]) fun _ _ _ _ _ _ us hl=>match us,hl with | [_,_],_=>rfl
 have U3:=qa2 (st:=qcr) l3 c3 k3
 have B3:Binds K _ ["_law_cell"] []:=U3.binds (ps:=["_law_cell"]) fun _ _ _ _ _ _ us hl=>match us,hl with | [_],_=>rfl
 have U4:=qa2 (st:=qbo) l4 c4 k4
 have B4:Binds K _ ["number","other"] []:=U4.binds (ps:=["number","other"]) fun _ _ _ _ _ _ us hl=>match us,hl with | [_,_],_=>rfl
 have U5:=qa2 (st:=qif) l5 c5 k5
 have B5:Binds K _ ["first","second"] []:=U5.binds (ps:=["first","second"]) fun _ _ _ _ _ _ us hl=>match us,hl with | [_,_],_=>rfl
 have U6:=qa2 (st:=qgl) l6 c6 k6
 have B6:Binds K _ ["first","second"] []:=U6.binds (ps:=["first","second"]) fun _ _ _ _ _ _ us hl=>match us,hl with | [_,_],_=>rfl
 have U7:=qa2 (st:=qdt) l7 c7 k7
 have B7:Binds K _ ["first","second"] []:=U7.binds (ps:=["first","second"]) fun _ _ _ _ _ _ us hl=>match us,hl with | [_,_],_=>rfl
 have U8:=qa2 (st:=qb3) l8 c8 k8
 have B8:Binds K _ ["_law_one_here","_law_other"] []:=U8.binds (ps:=["_law_one_here","_law_other"]) fun _ _ _ _ _ _ us hl=>match us,hl with | [_,_],_=>rfl
 have U9:=qa2 (st:=qcc) l9 c9 k9
 have B9:Binds K _ ["_law_top","_law_bottom"] []:=U9.binds (ps:=["_law_top","_law_bottom"]) fun _ _ _ _ _ _ us hl=>match us,hl with | [_,_],_=>rfl
 have U10:=qa2 (st:=qc8) l10 c10 k10
 have B10:Binds K _ ["_law_one_here","_law_other"] []:=U10.binds (ps:=["_law_one_here","_law_other"]) fun _ _ _ _ _ _ us hl=>match us,hl with | [_,_],_=>rfl
 have U11:=qa2 (st:=qcq) l11 c11 k11
 have B11:Binds K _ ["_law_one_here","_law_other"] []:=U11.binds (ps:=["_law_one_here","_law_other"]) fun _ _ _ _ _ _ us hl=>match us,hl with | [_,_],_=>rfl
 have U12:=qa2 (st:=qcd) l12 c12 k12
 have B12:Binds K _ ["_law_one_here","_law_other"] []:=U12.binds (ps:=["_law_one_here","_law_other"]) fun _ _ _ _ _ _ us hl=>match us,hl with | [_,_],_=>rfl
 have U13:=qa2 (st:=qdg) l13 c13 k13
 have B13:Binds K _ ["self"] []:=U13.binds (ps:=["self"]) fun _ _ _ _ _ _ us hl=>match us,hl with | [_],_=>rfl
 have U14:=qa2 (st:=qbv) l14 c14 k14
 have B14:Binds K _ ["self","name"] []:=U14.binds (ps:=["self","name"]) fun _ _ _ _ _ _ us hl=>match us,hl with | [_,_],_=>rfl
 have U15:=qa2 (st:=qbp) l15 c15 k15
 have B15:Binds K _ ["self","name"] []:=U15.binds (ps:=["self","name"]) fun _ _ _ _ _ _ us hl=>match us,hl with | [_,_],_=>rfl
 have U16:=qa2 (st:=qbh) l16 c16 k16
 have B16:Binds K _ ["self","name"] []:=U16.binds (ps:=["self","name"]) fun _ _ _ _ _ _ us hl=>match us,hl with | [_,_],_=>rfl
 have U17:=qa2 (st:=qbc) l17 c17 k17
 have B17:Binds K _ ["self","name"] []:=U17.binds (ps:=["self","name"]) fun _ _ _ _ _ _ us hl=>match us,hl with | [_,_],_=>rfl
 have U18:=qa2 (st:=qa9) l18 c18 k18
 have B18:Binds K _ ["self","name"] []:=U18.binds (ps:=["self","name"]) fun _ _ _ _ _ _ us hl=>match us,hl with | [_,_],_=>rfl
 have U19:=qa2 (st:=qcf) l19 c19 k19
 have B19:Binds K _ ["self","name"] []:=U19.binds (ps:=["self","name"]) fun _ _ _ _ _ _ us hl=>match us,hl with | [_,_],_=>rfl
 have U20:=qa2 (st:=qct) l20 c20 k20
 have B20:Binds K _ ["self","name","owner","things","mark","loss"] []:=U20.binds (ps:=["self","name","owner","things","mark","loss"]) fun _ _ _ _ _ _ us hl=>match us,hl with | [_,_,_,_,_,_],_=>rfl
 have U21:=qa2 (st:=qdd) l21 c21 k21
 have B21:Binds K _ ["self","house","one","other","share"] []:=U21.binds (ps:=["self","house","one","other","share"]) fun _ _ _ _ _ _ us hl=>match us,hl with | [_,_,_,_,_],_=>rfl
 have U22:=qa2 (st:=qce) l22 c22 k22
 have B22:Binds K _ ["self","house","number"] []:=U22.binds (ps:=["self","house","number"]) fun _ _ _ _ _ _ us hl=>match us,hl with | [_,_,_],_=>rfl
 have U23:=qa2 (st:=qde) l23 c23 k23
 have B23:Binds K _ ["self","house","number"] []:=U23.binds (ps:=["self","house","number"]) fun _ _ _ _ _ _ us hl=>match us,hl with | [_,_,_],_=>rfl
 have U24:=qa2 (st:=qdf) l24 c24 k24
 have B24:Binds K _ ["self","house","number"] []:=U24.binds (ps:=["self","house","number"]) fun _ _ _ _ _ _ us hl=>match us,hl with | [_,_,_],_=>rfl
 have U25:=qa2 (st:=qb5) l25 c25 k25
 have B25:Binds K _ ["self"] []:=U25.binds (ps:=["self"]) fun _ _ _ _ _ _ us hl=>match us,hl with | [_],_=>rfl
 have U26:=qa2 (st:=qcg) l26 c26 k26
 have B26:Binds K _ ["self"] []:=U26.binds (ps:=["self"]) fun _ _ _ _ _ _ us hl=>match us,hl with | [_],_=>rfl
 have U27:=qa2 (st:=qb1) l27 c27 k27
 have B27:Binds K _ ["self","house"] []:=U27.binds (ps:=["self","house"]) fun _ _ _ _ _ _ us hl=>match us,hl with | [_,_],_=>rfl
 have U28:=qa2 (st:=qb9) l28 c28 k28
 have B28:Binds K _ ["_law_purse_here"] []:=U28.binds (ps:=["_law_purse_here"]) fun _ _ _ _ _ _ us hl=>match us,hl with | [_],_=>rfl
 have U29:=qa2 (st:=qbt) l29 c29 k29
 have B29:Binds K _ ["_law_text"] []:=U29.binds (ps:=["_law_text"]) fun _ _ _ _ _ _ us hl=>match us,hl with | [_],_=>rfl
 have U30:=qa2 (st:=qdu) l30 c30 k30
 have B30:Binds K _ ["_law_purse_here","_law_words","_law_odd"] []:=U30.binds (ps:=["_law_purse_here","_law_words","_law_odd"]) fun _ _ _ _ _ _ us hl=>match us,hl with | [_,_,_],_=>rfl
 have U31:=qa2 (st:=qcb) l31 c31 k31
 have B31:Binds K _ ["_law_purse_here"] []:=U31.binds (ps:=["_law_purse_here"]) fun _ _ _ _ _ _ us hl=>match us,hl with | [_],_=>rfl
 have U32:=qa2 (st:=qb8) l32 c32 k32
 have B32:Binds K _ ["_law_e"] []:=U32.binds (ps:=["_law_e"]) fun _ _ _ _ _ _ us hl=>match us,hl with | [_],_=>rfl
 have U33:=qa2 (st:=qbz) l33 c33 k33
 have B33:Binds K _ ["_law_model","_law_house"] []:=U33.binds (ps:=["_law_model","_law_house"]) fun _ _ _ _ _ _ us hl=>match us,hl with | [_,_],_=>rfl
 have U34:=qa2 (st:=qbs) l34 c34 k34
 have B34:Binds K _ ["_law_model","_law_deed_here"] []:=U34.binds (ps:=["_law_model","_law_deed_here"]) fun _ _ _ _ _ _ us hl=>match us,hl with | [_,_],_=>rfl
 have U35:=qa2 (st:=qb4) l35 c35 k35
 have B35:Binds K _ ["_law_model","_law_deed_here"] []:=U35.binds (ps:=["_law_model","_law_deed_here"]) fun _ _ _ _ _ _ us hl=>match us,hl with | [_,_],_=>rfl
 have U36:=qa2 (st:=qdb) l36 c36 k36
 have B36:Binds K _ ["_law_book","_law_deed_here"] []:=U36.binds (ps:=["_law_book","_law_deed_here"]) fun _ _ _ _ _ _ us hl=>match us,hl with | [_,_],_=>rfl
 have U37:=qa2 (st:=qdv) l37 c37 k37
 have B37:Binds K _ ["_law_book","_law_deed_here"] []:=U37.binds (ps:=["_law_book","_law_deed_here"]) fun _ _ _ _ _ _ us hl=>match us,hl with | [_,_],_=>rfl
 have U38:=qa2 (st:=qda) l38 c38 k38
 have B38:Binds K _ ["_law_book","_law_model","_law_deed_here"] []:=U38.binds (ps:=["_law_book","_law_model","_law_deed_here"]) fun _ _ _ _ _ _ us hl=>match us,hl with | [_,_,_],_=>rfl
 have U39:=qa2 (st:=qc9) l39 c39 k39
 have B39:Binds K _ ["_law_purse_here","_law_has"] []:=U39.binds (ps:=["_law_purse_here","_law_has"]) fun _ _ _ _ _ _ us hl=>match us,hl with | [_,_],_=>rfl
 have U40:=qa2 (st:=qc7) l40 c40 k40
 have B40:Binds K _ ["_law_purse_here","_law_words","_law_model","_law_odd"] []:=U40.binds (ps:=["_law_purse_here","_law_words","_law_model","_law_odd"]) fun _ _ _ _ _ _ us hl=>match us,hl with | [_,_,_,_],_=>rfl
 have U41:=qa2 (st:=qcs) l41 c41 k41
 have B41:Binds K _ ["_law_purse_here","_law_words","_law_model","_law_odd","_law_most"] []:=U41.binds (ps:=["_law_purse_here","_law_words","_law_model","_law_odd","_law_most"]) fun _ _ _ _ _ _ us hl=>match us,hl with | [_,_,_,_,_],_=>rfl
 have U42:=qa2 (st:=qdc) l42 c42 k42
 have B42:Binds K _ ["self"] []:=U42.binds (ps:=["self"]) fun _ _ _ _ _ _ us hl=>match us,hl with | [_],_=>rfl
 have U43:=qa2 (st:=qa4) l43 c43 k43
 have B43:Binds K _ ["_law_book"] []:=U43.binds (ps:=["_law_book"]) fun _ _ _ _ _ _ us hl=>match us,hl with | [_],_=>rfl
 have U44:=qa2 (st:=qbb) l44 c44 k44
 have B44:Binds K _ ["_law_book"] []:=U44.binds (ps:=["_law_book"]) fun _ _ _ _ _ _ us hl=>match us,hl with | [_],_=>rfl
 have U45:=qa2 (st:=qb0) l45 c45 k45
 have B45:Binds K _ ["_law_book","_law_house","_law_one_here","_law_other","_law_has","_law_purse_here"] []:=U45.binds (ps:=["_law_book","_law_house","_law_one_here","_law_other","_law_has","_law_purse_here"]) fun _ _ _ _ _ _ us hl=>match us,hl with | [_,_,_,_,_,_],_=>rfl
 have U46:=qa2 (st:=qjg) l46 c46 k46
 have B46:Binds K _ ["_law_script"] []:=U46.binds (ps:=["_law_script"]) fun _ _ _ _ _ _ us hl=>match us,hl with | [_],_=>rfl
 refine ⟨PySem.W.fnOf "law" "law" (qar qjg) (qao qjg) (qaj qjg) .none kV46 dc46 pm46 an46 cd46 ct46,fun s v=>.of_eq rfl,fun base _ _=>?_⟩
 have F_is_name:Fn l.prog w K mg base "is_name" 1 ["text"] qds:=⟨_,_,ok_is_name U0 T ,PySem.W.mg_of X G a0,k0,B0⟩
 have F_need_loss:Fn l.prog w K mg base "need_loss" 1 ["number"] (qd2 a):=⟨_,_,qkg U1 T ,PySem.W.mg_of X G a1,k1,B1⟩
 have F__law_take:Fn l.prog w K mg base "_law_take" 1 ["_law_purse_here","_law_many"] qdy:=⟨_,_,ok_take U2 T ,PySem.W.mg_of X G a2,k2,B2⟩
 have F__law_purse:Fn l.prog w K mg base "_law_purse" 1 ["_law_cell"] qi3:=⟨_,_,ok_purse U3 T ,PySem.W.mg_of X G a3,k3,B3⟩
 have F_common_divisor:Fn l.prog w K mg base "common_divisor" 1 ["number","other"] sp_gcd:=⟨_,_,ok_gcd U4 T ,PySem.W.mg_of X G a4,k4,B4⟩
 have F_plus:Fn l.prog w K mg base "plus" 2 ["first","second"] (qhc K):=⟨_,_,ok_plus U5 T F_common_divisor,PySem.W.mg_of X G a5,k5,B5⟩
 have F_minus:Fn l.prog w K mg base "minus" 3 ["first","second"] (qi5 K):=⟨_,_,ok_minus U6 T F_plus,PySem.W.mg_of X G a6,k6,B6⟩
 have F_is_above:Fn l.prog w K mg base "is_above" 1 ["first","second"] (qjc K):=⟨_,_,ok_above U7 T ,PySem.W.mg_of X G a7,k7,B7⟩
 have F__law_divisor:Fn l.prog w K mg base "_law_divisor" 1 ["_law_one_here","_law_other"] sp_div:=⟨_,_,ok_div U8 T ,PySem.W.mg_of X G a8,k8,B8⟩
 have F__law_lowest:Fn l.prog w K mg base "_law_lowest" 2 ["_law_top","_law_bottom"] qed:=⟨_,_,ok_lowest U9 T F__law_divisor,PySem.W.mg_of X G a9,k9,B9⟩
 have F__law_plus:Fn l.prog w K mg base "_law_plus" 3 ["_law_one_here","_law_other"] (qfe K):=⟨_,_,ok_lplus U10 T F__law_lowest,PySem.W.mg_of X G a10,k10,B10⟩
 have F__law_times:Fn l.prog w K mg base "_law_times" 3 ["_law_one_here","_law_other"] (qf0 K):=⟨_,_,ok_ltimes U11 T F__law_lowest,PySem.W.mg_of X G a11,k11,B11⟩
 have F__law_lesser:Fn l.prog w K mg base "_law_lesser" 1 ["_law_one_here","_law_other"] (qhf K):=⟨_,_,ok_lesser U12 T ,PySem.W.mg_of X G a12,k12,B12⟩
 have M_Book:MkB l.prog w K mg base "Book" a.Book 1 ["self"] (qi7 K a.Book):=⟨_,_,ok_init U13 T ,PySem.W.mg_of X G n_Book,⟨b_mk,a13,i13,b_kp⟩,B13⟩
 have M_is_house:Mt l.prog w K mg base a.Book "is_house" 1 ["self","name"] (qem K a.Book):=⟨_,_,qlc U14 T ,⟨a14,i14,k14⟩,T.cl,B14⟩
 have M_is_holder:Mt l.prog w K mg base a.Book "is_holder" 2 ["self","name"] (qd3 K a.Book):=⟨_,_,qkh U15 T M_is_house,⟨a15,i15,k15⟩,T.cl,B15⟩
 have M_need_house:Mt l.prog w K mg base a.Book "need_house" 2 ["self","name"] (qby K a):=⟨_,_,qjj U16 T M_is_house,⟨a16,i16,k16⟩,T.cl,B16⟩
 have M_need_holder:Mt l.prog w K mg base a.Book "need_holder" 3 ["self","name"] (qdj K a):=⟨_,_,qia U17 T M_is_holder,⟨a17,i17,k17⟩,T.cl,B17⟩
 have M_need_new_name:Mt l.prog w K mg base a.Book "need_new_name" 3 ["self","name"] (qel K a):=⟨_,_,qlb U18 T F_is_name M_is_holder,⟨a18,i18,k18⟩,T.cl,B18⟩
 have M_person:Mt l.prog w K mg base a.Book "person" 4 ["self","name"] (qhd K a):=⟨_,_,ok_person U19 T M_need_new_name,⟨a19,i19,k19⟩,T.cl,B19⟩
 have M_house:Mt l.prog w K mg base a.Book "house" 4 ["self","name","owner","things","mark","loss"] (qi8 K a):=⟨_,_,ok_house U20 T M_need_new_name M_need_holder F_need_loss,⟨a20,i20,k20⟩,T.cl,B20⟩
 have M_sale:Mt l.prog w K mg base a.Book "sale" 4 ["self","house","one","other","share"] (qi2 K a):=⟨_,_,ok_sale U21 T M_need_house M_need_holder F_is_above F_minus F_plus,⟨a21,i21,k21⟩,T.cl,B21⟩
 have M_things:Mt l.prog w K mg base a.Book "things" 3 ["self","house","number"] (qfz K a (·.dt) (fun n x=>{ x with th:=n }) false):=⟨_,_,ok_things U22 T M_need_house,⟨a22,i22,k22⟩,T.cl,B22⟩
 have M_mark:Mt l.prog w K mg base a.Book "mark" 3 ["self","house","number"] (qfz K a (·.dm) (fun n x=>{ x with mr:=n }) false):=⟨_,_,ok_mark U23 T M_need_house,⟨a23,i23,k23⟩,T.cl,B23⟩
 have M_loss:Mt l.prog w K mg base a.Book "loss" 3 ["self","house","number"] (qfz K a (·.dl) (fun n x=>{ x with ls:=n }) true):=⟨_,_,ok_loss U24 T M_need_house F_need_loss,⟨a24,i24,k24⟩,T.cl,B24⟩
 have M_persons:Mt l.prog w K mg base a.Book "persons" 1 ["self"] (qgg K a.Book):=⟨_,_,ok_persons U25 T ,⟨a25,i25,k25⟩,T.cl,B25⟩
 have M_houses:Mt l.prog w K mg base a.Book "houses" 1 ["self"] (qey K a.Book):=⟨_,_,ok_houses U26 T ,⟨a26,i26,k26⟩,T.cl,B26⟩
 have M_shares:Mt l.prog w K mg base a.Book "shares" 3 ["self","house"] (qex K a):=⟨_,_,ok_shares U27 T M_need_house,⟨a27,i27,k27⟩,T.cl,B27⟩
 have F__law_names:Fn l.prog w K mg base "_law_names" 2 ["_law_purse_here"] qi4:=⟨_,_,ok_names U28 T F__law_take,PySem.W.mg_of X G a28,k28,B28⟩
 have F__law_is_name:Fn l.prog w K mg base "_law_is_name" 1 ["_law_text"] qds:=⟨_,_,qib U29 T ,PySem.W.mg_of X G a29,k29,B29⟩
 have F__law_one:Fn l.prog w K mg base "_law_one" 2 ["_law_purse_here","_law_words","_law_odd"] qfy:=⟨_,_,ok_one U30 T F__law_take,PySem.W.mg_of X G a30,k30,B30⟩
 have F__law_number:Fn l.prog w K mg base "_law_number" 2 ["_law_purse_here"] qdk:=⟨_,_,ok_number U31 T F__law_take,PySem.W.mg_of X G a31,k31,B31⟩
 have F__law_which:Fn l.prog w K mg base "_law_which" 1 ["_law_e"] (qi1 K a):=⟨_,_,ok_which U32 T ,PySem.W.mg_of X G a32,k32,B32⟩
 have F__law_shares:Fn l.prog w K mg base "_law_shares" 1 ["_law_model","_law_house"] (qgi K):=⟨_,_,ok_lshares U33 T ,PySem.W.mg_of X G a33,k33,B33⟩
 have F__law_refusal:Fn l.prog w K mg base "_law_refusal" 2 ["_law_model","_law_deed_here"] (qgf K):=⟨_,_,ok_refusal U34 T F__law_is_name F__law_lesser,PySem.W.mg_of X G a34,k34,B34⟩
 have F__law_changed:Fn l.prog w K mg base "_law_changed" 4 ["_law_model","_law_deed_here"] (qgj K):=⟨_,_,ok_changed U35 T F__law_plus,PySem.W.mg_of X G a35,k35,B35⟩
 have F__law_deed:Fn l.prog w K mg base "_law_deed" 5 ["_law_book","_law_deed_here"] (qk2 K a):=⟨_,_,ok_deed U36 T M_person M_house M_sale M_things M_mark M_loss,PySem.W.mg_of X G a36,k36,B36⟩
 have F__law_did:Fn l.prog w K mg base "_law_did" 6 ["_law_book","_law_deed_here"] (sp_did K a):=⟨_,_,ok_did U37 T F__law_deed,PySem.W.mg_of X G a37,k37,B37⟩
 have F__law_done:Fn l.prog w K mg base "_law_done" 7 ["_law_book","_law_model","_law_deed_here"] (qk1 K a):=⟨_,_,ok_done U38 T R F__law_refusal F__law_did F__law_which F__law_changed,PySem.W.mg_of X G a38,k38,B38⟩
 have F__law_part:Fn l.prog w K mg base "_law_part" 4 ["_law_purse_here","_law_has"] (qgh K):=⟨_,_,ok_part U39 T F__law_take F__law_lowest F__law_plus F__law_times,PySem.W.mg_of X G a39,k39,B39⟩
 have F__law_sale:Fn l.prog w K mg base "_law_sale" 5 ["_law_purse_here","_law_words","_law_model","_law_odd"] (qi6 K):=⟨_,_,ok_lsale U40 T F__law_take F__law_one F__law_shares F__law_part,PySem.W.mg_of X G a40,k40,B40⟩
 have F__law_drawn:Fn l.prog w K mg base "_law_drawn" 6 ["_law_purse_here","_law_words","_law_model","_law_odd","_law_most"] (qi9 K):=⟨_,_,ok_drawn U41 T F__law_take F__law_one F__law_number F__law_sale,PySem.W.mg_of X G a41,k41,B41⟩
 have M_twin:Mt l.prog w K mg base a.Book "twin" 3 ["self"] (qk0 K a.Book):=⟨_,_,ok_twin U42 T (PySem.W.mg_none_of X G z_dict) M_Book M_houses,⟨a42,i42,k42⟩,T.cl,B42⟩
 have F__law_come_to_one:Fn l.prog w K mg base "_law_come_to_one" 4 ["_law_book"] (qja K a.Book):=⟨_,_,ok_come U43 T F__law_plus M_persons M_houses M_shares,PySem.W.mg_of X G a43,k43,B43⟩
 have F__law_all_shares:Fn l.prog w K mg base "_law_all_shares" 4 ["_law_book"] (qjb K a.Book):=⟨_,_,ok_allsh U44 T M_houses M_shares,PySem.W.mg_of X G a44,k44,B44⟩
 have F__law_parted:Fn l.prog w K mg base "_law_parted" 5 ["_law_book","_law_house","_law_one_here","_law_other","_law_has","_law_purse_here"] (qhe K a.Book):=⟨_,_,ok_parted U45 T F__law_take F__law_lowest F__law_times F__law_plus M_twin M_sale F__law_all_shares F__law_come_to_one,PySem.W.mg_of X G a45,k45,B45⟩
 exact ok_law U46 T F__law_names F__law_purse M_Book F__law_drawn F__law_done F__law_take M_shares F__law_come_to_one F__law_parted
theorem walk {l:PySem.W.OpenLaw}{q:Program}{loose:List Str}{XP:(Str→Option Value)→Heap→Prop}{YP:World→Heap→Prop}{d:DefRec}{K:Params→PySem.W.Frag} (hn:l.most=some 63) (hdf:d.params.defaults=[])
  (hY:∀ (w:World) (h:Heap),YP w h→(K w.params).In h)
  (F:∀ (w:World) (mg:Str→Option Value) (fa:Addr) (h:Heap),(K w.params).In h→h.Ns mainGlobals mg→mg d.name=some (.ref fa) →
   ∃ fd:FuncData,(∀ (s:Shared) (u:Value),BindsTo s fd ⟨[u],[]⟩ [("_law_script",u)])∧∀ base:Heap,(K w.params).In base→base.Ns mainGlobals mg→FnOk l.prog w (K w.params) mg base (CXo l.prog w) 8 fa fd ["_law_script"] (qlz (K w.params))) :
  PySem.W.WalkO q loose XP YP l.row.toRowW d [] (fun f vs=>PySem.call f vs) :=
 L2.walk_of (n:=63) (k:=8) (x:="_law_script") (CX:=fun w=>CXo l.prog w) (sp:=fun w=>qlz (K w.params)) hn (by decide) hdf ⟨rfl,by decide,by decide⟩ hY F (fun _ _ c ns hl _ hS=>⟨c,ns,rfl,hS,hl,fun _=>rfl⟩) fun _ _ _ _ _ z=>by
  obtain ⟨_,_,_,_,_,_,_,_,_,_,_,_,_,z⟩:=z
  exact z
end My
def PySem.W.Fast.tw6060754176722329524:Unit:=()
def PySem.W.Fast.tw2263680168638432811:Unit:=()
def PySem.W.Fast.tw221010375369960880:Unit:=()
def PySem.W.Fast.tw2070674335517929952:Unit:=()
def PySem.W.Fast.tw886401379407799182:Unit:=()
def PySem.W.Fast.tw15514741808738517926:Unit:=()
def PySem.W.Fast.tw14211256351520526481:Unit:=()
def PySem.W.Fast.tw2417689382959837126:Unit:=()
def PySem.W.Fast.tw12255833222431561063:Unit:=()
def PySem.W.Fast.tw112968673506629142:Unit:=()
def PySem.W.Fast.tw11036287829590948838:Unit:=()
def PySem.W.Fast.tw15895461700981244441:Unit:=()
def PySem.W.Fast.tw15191234728876390661:Unit:=()
def PySem.W.Fast.tw2190653965085139072:Unit:=()
def PySem.W.Fast.tw4434776677317942864:Unit:=()
def PySem.W.Fast.tw8037840280207433601:Unit:=()
def PySem.W.Fast.tw5081932508647456054:Unit:=()
def PySem.W.Fast.tw602303938269343335:Unit:=()
def PySem.W.Fast.tw3161580487297493054:Unit:=()
def PySem.W.Fast.tw3227623602664686925:Unit:=()
def PySem.W.Fast.tw1801254144998821502:Unit:=()
def PySem.W.Fast.tw7903577126267844861:Unit:=()
def PySem.W.Fast.tw16801016279323799819:Unit:=()
def PySem.W.Fast.tw15716266838073438939:Unit:=()
def PySem.W.Fast.tw13005405412114217147:Unit:=()
def PySem.W.Fast.tw16054671797584381615:Unit:=()
open PySem PySem.W PyProof.Rows
set_option maxRecDepth 100000 in
set_option maxHeartbeats 0 in
theorem PySem.Challenge.cw_wholeowners_k07_whole_shares_come_to_one_holds : PySem.Challenge.rw_wholeowners_k07_whole_shares_come_to_one.Holds := by
 w_on;o_law;k_head;(case hw=>w_witness2)
 k_fill
 refine My.walk (l:=PySem.Challenge.rw_wholeowners_k07_whole_shares_come_to_one) rfl rfl (fun w h Y=>PySem.W.kIn_of Y) ?F
 case F =>
  intro w mg fa h KX G hmg
  refine' My.all_mk KX G hmg ?n_OwnError ?n_NoName ?n_Twice ?n_TooMany ?n_NoHolder ?n_NoHouse ?n_NoLoss ?n_NoShare ?n_NoText ?n_Whole ?n_Book ?n_ZERO ?n_ONE ?v_ZERO ?v_ONE ?v_LN ?v_MP ?v_MH ?z_len ?z_range ?z_all ?z_int ?z_abs ?z_sorted ?z_tuple ?z_list ?z_str ?z_bool ?z_isinstance ?z_ValueError ?z_dict ?b_pg ?b_hd ?b_po ?b_sa ?b_mk ?b_kp ?b_people ?b_things_of ?b_mark_of ?b_loss_of ?b_held_of ?x_hn ?x_ht ?x_ex_OwnError ?x_ga_OwnError ?x_gt_OwnError ?x_ha_OwnError ?x_mo_OwnError ?x_mb_OwnError ?x_ex_NoName ?x_ga_NoName ?x_gt_NoName ?x_ha_NoName ?x_mo_NoName ?x_mb_NoName ?x_ex_Twice ?x_ga_Twice ?x_gt_Twice ?x_ha_Twice ?x_mo_Twice ?x_mb_Twice ?x_ex_TooMany ?x_ga_TooMany ?x_gt_TooMany ?x_ha_TooMany ?x_mo_TooMany ?x_mb_TooMany ?x_ex_NoHolder ?x_ga_NoHolder ?x_gt_NoHolder ?x_ha_NoHolder ?x_mo_NoHolder ?x_mb_NoHolder ?x_ex_NoHouse ?x_ga_NoHouse ?x_gt_NoHouse ?x_ha_NoHouse ?x_mo_NoHouse ?x_mb_NoHouse ?x_ex_NoLoss ?x_ga_NoLoss ?x_gt_NoLoss ?x_ha_NoLoss ?x_mo_NoLoss ?x_mb_NoLoss ?x_ex_NoShare ?x_ga_NoShare ?x_gt_NoShare ?x_ha_NoShare ?x_mo_NoShare ?x_mb_NoShare ?m_NoName ?w_NoName_0 ?w_NoName_1 ?w_NoName_2 ?w_NoName_3 ?w_NoName_4 ?w_NoName_5 ?w_NoName_6 ?w_NoName_7 ?w_NoName_8 ?w_NoName_v ?w_NoName_o ?m_Twice ?w_Twice_0 ?w_Twice_1 ?w_Twice_2 ?w_Twice_3 ?w_Twice_4 ?w_Twice_5 ?w_Twice_6 ?w_Twice_7 ?w_Twice_8 ?w_Twice_v ?w_Twice_o ?m_TooMany ?w_TooMany_0 ?w_TooMany_1 ?w_TooMany_2 ?w_TooMany_3 ?w_TooMany_4 ?w_TooMany_5 ?w_TooMany_6 ?w_TooMany_7 ?w_TooMany_8 ?w_TooMany_v ?w_TooMany_o ?m_NoHolder ?w_NoHolder_0 ?w_NoHolder_1 ?w_NoHolder_2 ?w_NoHolder_3 ?w_NoHolder_4 ?w_NoHolder_5 ?w_NoHolder_6 ?w_NoHolder_7 ?w_NoHolder_8 ?w_NoHolder_v ?w_NoHolder_o ?m_NoHouse ?w_NoHouse_0 ?w_NoHouse_1 ?w_NoHouse_2 ?w_NoHouse_3 ?w_NoHouse_4 ?w_NoHouse_5 ?w_NoHouse_6 ?w_NoHouse_7 ?w_NoHouse_8 ?w_NoHouse_v ?w_NoHouse_o ?m_NoLoss ?w_NoLoss_0 ?w_NoLoss_1 ?w_NoLoss_2 ?w_NoLoss_3 ?w_NoLoss_4 ?w_NoLoss_5 ?w_NoLoss_6 ?w_NoLoss_7 ?w_NoLoss_8 ?w_NoLoss_v ?w_NoLoss_o ?m_NoShare ?w_NoShare_0 ?w_NoShare_1 ?w_NoShare_2 ?w_NoShare_3 ?w_NoShare_4 ?w_NoShare_5 ?w_NoShare_6 ?w_NoShare_7 ?w_NoShare_8 ?w_NoShare_v ?w_NoShare_o ?a0 ?l0 ?c0 ?k0 ?a1 ?l1 ?c1 ?k1 ?a2 ?l2 ?c2 ?k2 ?a3 ?l3 ?c3 ?k3 ?a4 ?l4 ?c4 ?k4 ?a5 ?l5 ?c5 ?k5 ?a6 ?l6 ?c6 ?k6 ?a7 ?l7 ?c7 ?k7 ?a8 ?l8 ?c8 ?k8 ?a9 ?l9 ?c9 ?k9 ?a10 ?l10 ?c10 ?k10 ?a11 ?l11 ?c11 ?k11 ?a12 ?l12 ?c12 ?k12 ?a13 ?i13 ?l13 ?c13 ?k13 ?a14 ?i14 ?l14 ?c14 ?k14 ?a15 ?i15 ?l15 ?c15 ?k15 ?a16 ?i16 ?l16 ?c16 ?k16 ?a17 ?i17 ?l17 ?c17 ?k17 ?a18 ?i18 ?l18 ?c18 ?k18 ?a19 ?i19 ?l19 ?c19 ?k19 ?a20 ?i20 ?l20 ?c20 ?k20 ?a21 ?i21 ?l21 ?c21 ?k21 ?a22 ?i22 ?l22 ?c22 ?k22 ?a23 ?i23 ?l23 ?c23 ?k23 ?a24 ?i24 ?l24 ?c24 ?k24 ?a25 ?i25 ?l25 ?c25 ?k25 ?a26 ?i26 ?l26 ?c26 ?k26 ?a27 ?i27 ?l27 ?c27 ?k27 ?a28 ?l28 ?c28 ?k28 ?a29 ?l29 ?c29 ?k29 ?a30 ?l30 ?c30 ?k30 ?a31 ?l31 ?c31 ?k31 ?a32 ?l32 ?c32 ?k32 ?a33 ?l33 ?c33 ?k33 ?a34 ?l34 ?c34 ?k34 ?a35 ?l35 ?c35 ?k35 ?a36 ?l36 ?c36 ?k36 ?a37 ?l37 ?c37 ?k37 ?a38 ?l38 ?c38 ?k38 ?a39 ?l39 ?c39 ?k39 ?a40 ?l40 ?c40 ?k40 ?a41 ?l41 ?c41 ?k41 ?a42 ?i42 ?l42 ?c42 ?k42 ?a43 ?l43 ?c43 ?k43 ?a44 ?l44 ?c44 ?k44 ?a45 ?l45 ?c45 ?k45 ?a46 ?l46 ?c46 ?k46
  (case n_OwnError=>k_is)
  (case n_NoName=>k_is)
  (case n_Twice=>k_is)
  (case n_TooMany=>k_is)
  (case n_NoHolder=>k_is)
  (case n_NoHouse=>k_is)
  (case n_NoLoss=>k_is)
  (case n_NoShare=>k_is)
  (case n_NoText=>k_is)
  (case n_Whole=>k_is)
  (case n_Book=>k_is)
  (case n_ZERO=>k_is)
  (case n_ONE=>k_is)
  (case v_ZERO=>k_is)
  (case v_ONE=>k_is)
  (case v_LN=>k_is)
  (case v_MP=>k_is)
  (case v_MH=>k_is)
  (case z_len=>k_is)
  (case z_range=>k_is)
  (case z_all=>k_is)
  (case z_int=>k_is)
  (case z_abs=>k_is)
  (case z_sorted=>k_is)
  (case z_tuple=>k_is)
  (case z_list=>k_is)
  (case z_str=>k_is)
  (case z_bool=>k_is)
  (case z_isinstance=>k_is)
  (case z_ValueError=>k_is)
  (case z_dict=>k_is)
  (case b_pg=>k_is)
  (case b_hd=>k_is)
  (case b_po=>k_is)
  (case b_sa=>k_is)
  (case b_mk=>k_is)
  (case b_kp=>k_is)
  (case b_people=>k_is)
  (case b_things_of=>k_is)
  (case b_mark_of=>k_is)
  (case b_loss_of=>k_is)
  (case b_held_of=>k_is)
  (case x_hn=>k_is)
  (case x_ht=>k_is)
  (case x_ex_OwnError=>k_exc)
  (case x_ga_OwnError=>k_is)
  (case x_gt_OwnError=>k_is)
  (case x_ha_OwnError=>k_is)
  (case x_mo_OwnError=>k_is)
  (case x_mb_OwnError=>k_is)
  (case x_ex_NoName=>k_exc)
  (case x_ga_NoName=>k_is)
  (case x_gt_NoName=>k_is)
  (case x_ha_NoName=>k_is)
  (case x_mo_NoName=>k_is)
  (case x_mb_NoName=>k_is)
  (case x_ex_Twice=>k_exc)
  (case x_ga_Twice=>k_is)
  (case x_gt_Twice=>k_is)
  (case x_ha_Twice=>k_is)
  (case x_mo_Twice=>k_is)
  (case x_mb_Twice=>k_is)
  (case x_ex_TooMany=>k_exc)
  (case x_ga_TooMany=>k_is)
  (case x_gt_TooMany=>k_is)
  (case x_ha_TooMany=>k_is)
  (case x_mo_TooMany=>k_is)
  (case x_mb_TooMany=>k_is)
  (case x_ex_NoHolder=>k_exc)
  (case x_ga_NoHolder=>k_is)
  (case x_gt_NoHolder=>k_is)
  (case x_ha_NoHolder=>k_is)
  (case x_mo_NoHolder=>k_is)
  (case x_mb_NoHolder=>k_is)
  (case x_ex_NoHouse=>k_exc)
  (case x_ga_NoHouse=>k_is)
  (case x_gt_NoHouse=>k_is)
  (case x_ha_NoHouse=>k_is)
  (case x_mo_NoHouse=>k_is)
  (case x_mb_NoHouse=>k_is)
  (case x_ex_NoLoss=>k_exc)
  (case x_ga_NoLoss=>k_is)
  (case x_gt_NoLoss=>k_is)
  (case x_ha_NoLoss=>k_is)
  (case x_mo_NoLoss=>k_is)
  (case x_mb_NoLoss=>k_is)
  (case x_ex_NoShare=>k_exc)
  (case x_ga_NoShare=>k_is)
  (case x_gt_NoShare=>k_is)
  (case x_ha_NoShare=>k_is)
  (case x_mo_NoShare=>k_is)
  (case x_mb_NoShare=>k_is)
  (case m_NoName=>k_is)
  (case w_NoName_0=>first | kit_is | kernel_rfl)
  (case w_NoName_1=>first | kit_is | kernel_rfl)
  (case w_NoName_2=>first | kit_is | kernel_rfl)
  (case w_NoName_3=>first | kit_is | kernel_rfl)
  (case w_NoName_4=>first | kit_is | kernel_rfl)
  (case w_NoName_5=>first | kit_is | kernel_rfl)
  (case w_NoName_6=>first | kit_is | kernel_rfl)
  (case w_NoName_7=>first | kit_is | kernel_rfl)
  (case w_NoName_8=>first | kit_is | kernel_rfl)
  (case w_NoName_v=>first | kit_is | kernel_rfl)
  (case w_NoName_o=>first | kit_is | kernel_rfl)
  (case m_Twice=>k_is)
  (case w_Twice_0=>first | kit_is | kernel_rfl)
  (case w_Twice_1=>first | kit_is | kernel_rfl)
  (case w_Twice_2=>first | kit_is | kernel_rfl)
  (case w_Twice_3=>first | kit_is | kernel_rfl)
  (case w_Twice_4=>first | kit_is | kernel_rfl)
  (case w_Twice_5=>first | kit_is | kernel_rfl)
  (case w_Twice_6=>first | kit_is | kernel_rfl)
  (case w_Twice_7=>first | kit_is | kernel_rfl)
  (case w_Twice_8=>first | kit_is | kernel_rfl)
  (case w_Twice_v=>first | kit_is | kernel_rfl)
  (case w_Twice_o=>first | kit_is | kernel_rfl)
  (case m_TooMany=>k_is)
  (case w_TooMany_0=>first | kit_is | kernel_rfl)
  (case w_TooMany_1=>first | kit_is | kernel_rfl)
  (case w_TooMany_2=>first | kit_is | kernel_rfl)
  (case w_TooMany_3=>first | kit_is | kernel_rfl)
  (case w_TooMany_4=>first | kit_is | kernel_rfl)
  (case w_TooMany_5=>first | kit_is | kernel_rfl)
  (case w_TooMany_6=>first | kit_is | kernel_rfl)
  (case w_TooMany_7=>first | kit_is | kernel_rfl)
  (case w_TooMany_8=>first | kit_is | kernel_rfl)
  (case w_TooMany_v=>first | kit_is | kernel_rfl)
  (case w_TooMany_o=>first | kit_is | kernel_rfl)
  (case m_NoHolder=>k_is)
  (case w_NoHolder_0=>first | kit_is | kernel_rfl)
  (case w_NoHolder_1=>first | kit_is | kernel_rfl)
  (case w_NoHolder_2=>first | kit_is | kernel_rfl)
  (case w_NoHolder_3=>first | kit_is | kernel_rfl)
  (case w_NoHolder_4=>first | kit_is | kernel_rfl)
  (case w_NoHolder_5=>first | kit_is | kernel_rfl)
  (case w_NoHolder_6=>first | kit_is | kernel_rfl)
  (case w_NoHolder_7=>first | kit_is | kernel_rfl)
  (case w_NoHolder_8=>first | kit_is | kernel_rfl)
  (case w_NoHolder_v=>first | kit_is | kernel_rfl)
  (case w_NoHolder_o=>first | kit_is | kernel_rfl)
  (case m_NoHouse=>k_is)
  (case w_NoHouse_0=>first | kit_is | kernel_rfl)
  (case w_NoHouse_1=>first | kit_is | kernel_rfl)
  (case w_NoHouse_2=>first | kit_is | kernel_rfl)
  (case w_NoHouse_3=>first | kit_is | kernel_rfl)
  (case w_NoHouse_4=>first | kit_is | kernel_rfl)
  (case w_NoHouse_5=>first | kit_is | kernel_rfl)
  (case w_NoHouse_6=>first | kit_is | kernel_rfl)
  (case w_NoHouse_7=>first | kit_is | kernel_rfl)
  (case w_NoHouse_8=>first | kit_is | kernel_rfl)
  (case w_NoHouse_v=>first | kit_is | kernel_rfl)
  (case w_NoHouse_o=>first | kit_is | kernel_rfl)
  (case m_NoLoss=>k_is)
  (case w_NoLoss_0=>first | kit_is | kernel_rfl)
  (case w_NoLoss_1=>first | kit_is | kernel_rfl)
  (case w_NoLoss_2=>first | kit_is | kernel_rfl)
  (case w_NoLoss_3=>first | kit_is | kernel_rfl)
  (case w_NoLoss_4=>first | kit_is | kernel_rfl)
  (case w_NoLoss_5=>first | kit_is | kernel_rfl)
  (case w_NoLoss_6=>first | kit_is | kernel_rfl)
  (case w_NoLoss_7=>first | kit_is | kernel_rfl)
  (case w_NoLoss_8=>first | kit_is | kernel_rfl)
  (case w_NoLoss_v=>first | kit_is | kernel_rfl)
  (case w_NoLoss_o=>first | kit_is | kernel_rfl)
  (case m_NoShare=>k_is)
  (case w_NoShare_0=>first | kit_is | kernel_rfl)
  (case w_NoShare_1=>first | kit_is | kernel_rfl)
  (case w_NoShare_2=>first | kit_is | kernel_rfl)
  (case w_NoShare_3=>first | kit_is | kernel_rfl)
  (case w_NoShare_4=>first | kit_is | kernel_rfl)
  (case w_NoShare_5=>first | kit_is | kernel_rfl)
  (case w_NoShare_6=>first | kit_is | kernel_rfl)
  (case w_NoShare_7=>first | kit_is | kernel_rfl)
  (case w_NoShare_8=>first | kit_is | kernel_rfl)
  (case w_NoShare_v=>first | kit_is | kernel_rfl)
  (case w_NoShare_o=>first | kit_is | kernel_rfl)
  (case a0=>k_is)
  (case l0=>k_is)
  (case c0=>k_is)
  (case k0=>k_is)
  (case a1=>k_is)
  (case l1=>k_is)
  (case c1=>k_is)
  (case k1=>k_is)
  (case a2=>k_is)
  (case l2=>k_is)
  (case c2=>k_is)
  (case k2=>k_is)
  (case a3=>k_is)
  (case l3=>k_is)
  (case c3=>k_is)
  (case k3=>k_is)
  (case a4=>k_is)
  (case l4=>k_is)
  (case c4=>k_is)
  (case k4=>k_is)
  (case a5=>k_is)
  (case l5=>k_is)
  (case c5=>k_is)
  (case k5=>k_is)
  (case a6=>k_is)
  (case l6=>k_is)
  (case c6=>k_is)
  (case k6=>k_is)
  (case a7=>k_is)
  (case l7=>k_is)
  (case c7=>k_is)
  (case k7=>k_is)
  (case a8=>k_is)
  (case l8=>k_is)
  (case c8=>k_is)
  (case k8=>k_is)
  (case a9=>k_is)
  (case l9=>k_is)
  (case c9=>k_is)
  (case k9=>k_is)
  (case a10=>k_is)
  (case l10=>k_is)
  (case c10=>k_is)
  (case k10=>k_is)
  (case a11=>k_is)
  (case l11=>k_is)
  (case c11=>k_is)
  (case k11=>k_is)
  (case a12=>k_is)
  (case l12=>k_is)
  (case c12=>k_is)
  (case k12=>k_is)
  (case a13=>k_is)
  (case i13=>k_is)
  (case l13=>k_is)
  (case c13=>k_is)
  (case k13=>k_is)
  (case a14=>k_is)
  (case i14=>k_is)
  (case l14=>k_is)
  (case c14=>k_is)
  (case k14=>k_is)
  (case a15=>k_is)
  (case i15=>k_is)
  (case l15=>k_is)
  (case c15=>k_is)
  (case k15=>k_is)
  (case a16=>k_is)
  (case i16=>k_is)
  (case l16=>k_is)
  (case c16=>k_is)
  (case k16=>k_is)
  (case a17=>k_is)
  (case i17=>k_is)
  (case l17=>k_is)
  (case c17=>k_is)
  (case k17=>k_is)
  (case a18=>k_is)
  (case i18=>k_is)
  (case l18=>k_is)
  (case c18=>k_is)
  (case k18=>k_is)
  (case a19=>k_is)
  (case i19=>k_is)
  (case l19=>k_is)
  (case c19=>k_is)
  (case k19=>k_is)
  (case a20=>k_is)
  (case i20=>k_is)
  (case l20=>k_is)
  (case c20=>k_is)
  (case k20=>k_is)
  (case a21=>k_is)
  (case i21=>k_is)
  (case l21=>k_is)
  (case c21=>k_is)
  (case k21=>k_is)
  (case a22=>k_is)
  (case i22=>k_is)
  (case l22=>k_is)
  (case c22=>k_is)
  (case k22=>k_is)
  (case a23=>k_is)
  (case i23=>k_is)
  (case l23=>k_is)
  (case c23=>k_is)
  (case k23=>k_is)
  (case a24=>k_is)
  (case i24=>k_is)
  (case l24=>k_is)
  (case c24=>k_is)
  (case k24=>k_is)
  (case a25=>k_is)
  (case i25=>k_is)
  (case l25=>k_is)
  (case c25=>k_is)
  (case k25=>k_is)
  (case a26=>k_is)
  (case i26=>k_is)
  (case l26=>k_is)
  (case c26=>k_is)
  (case k26=>k_is)
  (case a27=>k_is)
  (case i27=>k_is)
  (case l27=>k_is)
  (case c27=>k_is)
  (case k27=>k_is)
  (case a28=>k_is)
  (case l28=>k_is)
  (case c28=>k_is)
  (case k28=>k_is)
  (case a29=>k_is)
  (case l29=>k_is)
  (case c29=>k_is)
  (case k29=>k_is)
  (case a30=>k_is)
  (case l30=>k_is)
  (case c30=>k_is)
  (case k30=>k_is)
  (case a31=>k_is)
  (case l31=>k_is)
  (case c31=>k_is)
  (case k31=>k_is)
  (case a32=>k_is)
  (case l32=>k_is)
  (case c32=>k_is)
  (case k32=>k_is)
  (case a33=>k_is)
  (case l33=>k_is)
  (case c33=>k_is)
  (case k33=>k_is)
  (case a34=>k_is)
  (case l34=>k_is)
  (case c34=>k_is)
  (case k34=>k_is)
  (case a35=>k_is)
  (case l35=>k_is)
  (case c35=>k_is)
  (case k35=>k_is)
  (case a36=>k_is)
  (case l36=>k_is)
  (case c36=>k_is)
  (case k36=>k_is)
  (case a37=>k_is)
  (case l37=>k_is)
  (case c37=>k_is)
  (case k37=>k_is)
  (case a38=>k_is)
  (case l38=>k_is)
  (case c38=>k_is)
  (case k38=>k_is)
  (case a39=>k_is)
  (case l39=>k_is)
  (case c39=>k_is)
  (case k39=>k_is)
  (case a40=>k_is)
  (case l40=>k_is)
  (case c40=>k_is)
  (case k40=>k_is)
  (case a41=>k_is)
  (case l41=>k_is)
  (case c41=>k_is)
  (case k41=>k_is)
  (case a42=>k_is)
  (case i42=>k_is)
  (case l42=>k_is)
  (case c42=>k_is)
  (case k42=>k_is)
  (case a43=>k_is)
  (case l43=>k_is)
  (case c43=>k_is)
  (case k43=>k_is)
  (case a44=>k_is)
  (case l44=>k_is)
  (case c44=>k_is)
  (case k44=>k_is)
  (case a45=>k_is)
  (case l45=>k_is)
  (case c45=>k_is)
  (case k45=>k_is)
  (case a46=>k_is)
  (case l46=>k_is)
  (case c46=>k_is)
  (case k46=>k_is)
