import PyProof.Rows.All
import Wide.All
import OpenK.AllK
import Wide.FinOn
import Lean
import PyProof.EqAt
import PyProof.EqKinds
import PyProof.TupleCall
import KE.KLam
import KE.KNest
import KE.KNestM
import PySem.Challenge.RW_wholeowners_k71_shown
open PySem.W renaming Frag→aa,findIn→aq,nsIn→aA,keepIn→aB,codeIn→aG,mg_of→aN,mg_none_of→br,isFn→bF,mroIn→bG,kia_one→bO,emptyDict→b7,excIn→cz,instObj→cI,fnOf→du,plainGet→d6,specialIn→eZ,hasDictIn→e9,OpenLaw→fB,hideAll→fK,lookIn→fZ,plainGet_of→gg,plainOver→gx,methodObj→gy,looks_findIn→gz,kitx_list→gA,takesIn→gS,takerIn→gT,makesIn→gU,kitOne→g8,cellsFrom_some→iD,methodCall_KW→iM,hideAll_get→iV,callWith_K0→iW,of_hideAll→i8,kitx_tuple→i9,callWith_K→ja,kitx_dict→jk,handedIn→js,WalkO→jt
open PySem.Str renaming ofString→ac,empty→cU,join→gn
open PySem renaming Addr→ae,Value→ah,Shared→ao,wpAny_bind→av,mainGlobals→ax,sizeLine→aI,starEach→aR,wpAny_pure→aS,Program→aT,wpAny→aZ,Expr→a8,World→bv,wpAny_mono→bw,Around→bL,Heap→bM,FuncData→bR,bootBuiltins→bS,Stmt→bT,foldedSetIterable→bY,compareOp→ci,backTo→ck,assignEach→cn,behindInMarks→cq,mem_of_lookup→cy,wpAny_truthy_bool→cO,wpAny_newObj_type→cP,keywordEach→cQ,binaryOp→cR,Scope→cW,wpAny_passesOwn→dk,sysModules→dF,lookup_relabel_local→dG,NameKind→dH,wpAny_holding→dR,cLine→dS,attributeBase→dU,sliceBounds→ez,codeAny→eG,backToKw→eI,swapsWith→eW,Paired→eX,Spec→eY,Keyword→fm,getMethod→fA,wpAny_Call_Name_kw→fG,tupleKind_room_in1→fH,wpAny_pyIter_list→fR,standAt→fS,wpAny_standAt→fV,wpAny_comprehension_free→fW,swapsWithSole→fX,swappedStores→fY,reprText→gf,wpAny_execs_nil→gu,letOwnedTupleGo→gv,strIterType→gJ,valueAt→gM,tupleKind→gN,getItem→gO,CmpOp→gY,builtinsNs→g7,slot_list_getitem→ii,codeAny_mono→ij,callerA→ik,callWith→il,BindsTo→ir,Result→iE,IsPart→iF,Arguments→iI,sizeLine_eq→iL,Within→iT,notedBy→iU,evalEach→i6,atKey→i7,wpAny_getItem_list_slice→jo,evalPart_none→jp,call→jq,assignInOrder→jr,slicePick→jz,bindL→jA,bindC→jB
open List renaming length_map→af,getElem?_cons_zero→ag,mem_cons→ai,mem_map→aj,mem_cons_of_mem→ak,mem_cons_self→ap,getElem?_cons_succ→ar,map_cons→au,nodup_cons→aw,length_cons→aC,map_append→aD,mem_singleton→aE,map_map→aF,size_toArray→aM,length_append→aO,mem_append_right→aP,length_nil→aV,replicate→aW,mem_append→aX,getElem?_eq_some_iff→a9,getElem?_map→bo,getElem?_eq_getElem→bu,nodup_append→bz,lookup_cons→bA,map_congr_left→bB,find?_cons→bD,append_assoc→bI,mem_of_getElem?→bN,length_take→bP,map_nil→bQ,mem_append_left→bV,find?_eq_none→bW,take_add_one→bX,append_nil→bZ,not_mem_nil→b6,flatten_cons→b8,filterMap_cons→ce,drop_eq_getElem_cons→cg,getElem_mem→cj,lookup→cm,nil_append→cv,replicate_succ→cB,take_length→cD,all_eq_true→cE,pairwise_cons→cG,length→cL,cons_append→cS,any_eq_true→cT,length_replicate→cZ,reverse_cons→de,getElem?_append_right→dw,mem_of_find?_eq_some→dD,length_reverse→dE,mem_filter→dJ,take_sublist→dW,mem_range→dX,find?_map→dY,drop_eq_nil_of_le→dZ,length_filter_le→eB,range→eC,find?_some→eS,filter_map→eT,getElem?_append_left→fk,find?_isSome→fu,find?_append→fw,map_take→fE,length_drop→fN,getElem?_replicate→fO,take_append_drop→gd,length_singleton→ge,nodup_nil→gj,mem_of_mem_take→gk,flatten_append→gw,any_cons→gF,mem_filterMap→gH,filterMap_map→gI,any_map→gQ,map_fst_zip→gZ,flatten_nil→g5,filter_cons→g6,map_id→hU,of_mem_zip→ie,getElem?_zip_eq_some→iJ,range_succ_eq_map→i4,getElem?_set_self→i5,getElem?_eq_none→ji,cons_lt_cons_iff→jj,mem_iff_getElem→jl,getElem?_set_ne→jm,drop_eq_nil_iff→jn,getElem?_range→jw,set_cons_zero→jE,set_cons_succ→jF,foldl→jG
open And renaming intro→al
open Sum renaming inr→am,inl→gR
open PySem.Heap renaming get?_push_of_some→ay,lt_size→aK,get?_push_size→bj,SameBut→gP,get?_update_other→iY
open Nat renaming le_refl→az,lt_of_lt_of_le→aH,le_trans→aJ,ne_of_lt→aQ,lt_of_le_of_lt→a7,zero_le→bc,lt_irrefl→cC,lt_succ_self→cF,pow_le_pow_right→cM,le_of_not_lt→dC,two_pow_pos→dM,lt_trans→d8,le_of_lt→d9,eq_of_mul_eq_mul_left→ft,lt_succ_of_lt→fD,le_succ→gp,mul_le_mul_left→gE,le_antisymm→iu,zero_add→je,ne_of_gt→jf,mul_succ→jg,le_of_eq→jh,log2_lt→jv,add_le_add_left→jD
open Int renaming gcd→aL,mul_le_mul_of_nonneg_right→aY,mul_assoc→bg,mul_pos→bE,mul_comm→bH,le_of_lt→bK,gcd_pos_of_ne_zero_right→bU,gcd_dvd_right→cx,emod_lt_of_pos→cH,emod_nonneg→cY,mul_ediv_cancel_left→dL,mul_right_comm→dO,mul_nonpos_of_nonpos_of_nonneg→dP,mul_nonpos_of_nonneg_of_nonpos→dQ,mul_left_comm→ee,le_trans→ei,natAbs_dvd_natAbs→eE,gcd_dvd_left→eO,le_of_mul_le_mul_right→fc,eq_of_mul_eq_mul_right→fg,natAbs_neg→gr,natAbs_mul→gs,ofNat_le→gW,gcd_mul_left→hV,neg_mul→ig,ediv_eq_of_eq_mul_right→iC,mul_nonneg→iK,mul_one→jx
open Option.some renaming inj→aU
open Bool renaming false_ne_true→a6,eq_iff_iff→b5,eq_false_iff→dg,false_and→dy,and_eq_true→dB,or_eq_true→eU,false_eq_true→fb,true_and→fF
open Or renaming inl→ba,inr→fL
open PySem.NameKind renaming free→bi,cell→d7
open PySem.Value renaming ref→bx,str→fI,int→gh,none→im,bool→io,float→jb
open False renaming elim→bC
open PySem.PyData renaming strOk→bJ,eqv→eA,canLay0→gc,depth→gG,canLayAll0→ju
open PySem.Txt renaming join→b9
open True renaming intro→cr
open Option renaming map_eq_some_iff→cA,isSome_map→cJ,isSome_iff_exists→cK,isSome_eq_false_iff→di,isNone_iff_eq_none→dz,map_eq_none_iff→fM,map_map→ib,getD_none→jC
open Classical renaming propDecidable→cN
open PyProof.Rows renaming slot_tuple_getitem→cV,envOfC→dN,AllBare→fT,subscriptTail→gb,callWith_type1→gD,assignInOrder_cons→hJ,Subscript_→jd
open PySem.Builtin.Slice renaming slicePlaces→cX,sliceAdjust→eL,sliceApplied→gC
open PySem.Builtin.Tuple renaming tupleExact→da
open ForInStep renaming yield→dA
open PySem.Calls renaming spliced_cons→dI,evalArgs_plain→eK,spliced_nil→fj,callWith_builtin→fQ,Constant_str→gB,Name_function_global→iq
open PySem.Spec renaming ltCps→eJ
open PySem.Builtin.List renaming listTooLong→eR
open Array renaming length_toList→eV,all_toList→gX,append_assoc→jy
open PySem.PassesOwn renaming never→fC
open Ne renaming symm→fJ
open PySem.F renaming slot_dict_get→fP,excBase_ValueError→g9,slot_dict_getitem→ia,args_tuple_add_2→ip,plainAttrs_dict→iy,entry_tuple_add→iz,args_dict_get_3→iA,slot_tuple_add→iG,entry_dict_get→iH,slot_dict_pop→iQ,slot_list_append→jc
open Sum.inr renaming inj→fU
open PySem.Expr renaming Subscript→gi
open PySem.Obj renaming mapSeq→gK
open PySem.Heap.IsSliceOf renaming new→hZ
open PySem.Paired renaming length→iw,snoc→iX
open PySem.Builtin.Int renaming intBits→iB
open PySem.StrLaws renaming glued_eq_join→iN
open PySem.SeqAt.EqAt renaming str_int→iO,int_str→iP
open PySem.Around renaming under→iR
open PyProof.Rows.IsTup renaming new→iS
open PySem.Code renaming isFrame→iZ
noncomputable section
set_option Elab.async false
set_option linter.all false
set_option maxRecDepth 100000
namespace L2
open PySem PySem.Spec PyProof.Rows
abbrev Key:=Sum Int Str
def uS:Key→ah→Bool
 | .inl k,v=>Value.isInt k v
 | .inr x,v=>Value.isStrOf x v
def keyH (w:bv):Key→Int
 | .inl k=>hashInt k
 | .inr x=>hashStr w x
theorem kh:∀ {k:Key}{v:ah},uS k v=true→(∃ i t,k=gR i∧v=gh i t)∨(∃ x t,k=am x∧v=fI x t)
 | .inl i,v,h=>by
  obtain ⟨t,e⟩:=Value.isInt_shape (k:=i) (v:=v) h
  exact .inl ⟨i,t,rfl,e⟩
 | .inr x,v,h=>by
  obtain ⟨t,e⟩:=Value.isStrOf_shape (x:=x) (v:=v) h
  exact .inr ⟨x,t,rfl,e⟩
theorem Al (i:Int) (t:Tok):uS (.inl i) (.int i t)=true:=by simp [uS,Value.isInt]
theorem Ak (x:Str) (t:Tok):uS (.inr x) (.str x t)=true:=by simp [uS,Value.isStrOf]
theorem Fx (a b:Int):decide ((gR a:Key)=gR b)=(a == b):=by
 by_cases e:a=b
 ·subst e;simp
 ·have h:¬ (gR a:Key)=gR b:=fun q=>e (Sum.inl.inj q)
  rw [decide_eq_false h]
  exact (beq_eq_false_iff_ne.mpr e).symm
theorem sG (a b:Str):decide ((am a:Key)=am b)=decide (a=b):=by
 by_cases e:a=b
 ·subst e;simp
 ·have h:¬ (am a:Key)=am b:=fun q=>e (fU q)
  rw [decide_eq_false h,decide_eq_false e]
theorem Fw (a:Int) (b:Str):decide ((gR a:Key)=am b)=false:=decide_eq_false (fun q=>nomatch q)
theorem Fv (a:Str) (b:Int):decide ((am a:Key)=gR b)=false:=decide_eq_false (fun q=>nomatch q)
def ko (prog:aT) (w:bv):PySem.KeyKind prog w Key where
 is:=uS
 hash:=keyH w
 inj:=fun v a b ha hb=>by
  rcases kh ha with ⟨i,t,rfl,rfl⟩ | ⟨x,t,rfl,rfl⟩
  ·rcases kh hb with ⟨j,u,rfl,e⟩ | ⟨y,u,rfl,e⟩
   ·injection e with e1 _;rw [e1]
   ·exact nomatch e
  ·rcases kh hb with ⟨j,u,rfl,e⟩ | ⟨y,u,rfl,e⟩
   ·exact nomatch e
   ·injection e with e1 _;rw [e1]
 byValue:=fun k v h=>by
  rcases kh h with ⟨i,t,rfl,rfl⟩ | ⟨x,t,rfl,rfl⟩ <;> rfl
 pyHash:=fun hv h=>by
  rcases kh hv with ⟨i,t,rfl,rfl⟩ | ⟨x,t,rfl,rfl⟩
  ·exact wpAny_pyHash_int h
  ·exact wpAny_pyHash_str h
 eqBool:=fun hu hv h=>by
  rcases kh hu with ⟨i,t,rfl,rfl⟩ | ⟨x,t,rfl,rfl⟩
  ·rcases kh hv with ⟨j,u,rfl,rfl⟩ | ⟨y,u,rfl,rfl⟩
   ·rw [Fx] at h;exact wpAny_eqBool_int h
   ·rw [Fw] at h;exact iP i t y u _ _ _ _ h
  ·rcases kh hv with ⟨j,u,rfl,rfl⟩ | ⟨y,u,rfl,rfl⟩
   ·rw [Fv] at h;exact iO x t j u _ _ _ _ h
   ·rw [sG] at h;exact wpAny_eqBool_str h
 «strs»:=fun k x t v h=>by
  rcases kh h with ⟨i,u,rfl,e⟩ | ⟨y,u,rfl,e⟩
  ·exact nomatch e
  ·injection e with e1 _
   subst e1
   cases v <;> rfl
theorem xh (prog:aT) (w:bv) (i:Int) (t:Tok):(ko prog w).is (.inl i) (.int i t)=true:=Al i t
theorem xg (prog:aT) (w:bv) (x:Str) (t:Tok):(ko prog w).is (.inr x) (.str x t)=true:=Ak x t
inductive V where
 | non | bl (b:Bool) | int (i:Int) | str (x:Str) | byt (b:Array UInt8) | flt (b:UInt64) | ref (a:ae) | ty (n:String)
 deriving DecidableEq
def RelV:V→ah→Prop
 | .non,u=>u=im
 | .bl b,u=>u=io b
 | .int i,u=>∃ t,u=gh i t
 | .str x,u=>∃ t,u=fI x t
 | .byt b,u=>∃ t,u=Value.bytes b t
 | .flt b,u=>∃ t,u=jb b t
 | .ref a,u=>u=bx a
 | .ty n,u=>u=Value.type n
abbrev Vals:List V→List ah→Prop:=eX RelV
theorem Vals.length {xs:List V}{us:List ah} (r:Vals xs us):xs.length=us.length:=iw r
theorem Vals.get:∀ {xs:List V}{us:List ah}{i:Nat}{x:V},Vals xs us→xs[i]?=some x→∃ u,us[i]?=some u∧RelV x u
 | _,_,_,_,.nil,e=>by simp at e
 | _,_,0,_,.cons r _,e=>by simp at e;subst e;exact ⟨_,rfl,r⟩
 | _,_,i+1,x,.cons _ t,e=>by
  obtain ⟨u,h1,h2⟩:=Vals.get (i:=i) (x:=x) t (by simpa using e)
  exact ⟨u,by simpa using h1,h2⟩
theorem Vals.set {x:V}{u:ah} (r:RelV x u):∀ {xs:List V}{us:List ah} (i:Nat),Vals xs us→Vals (xs.set i x) (us.set i u)
 | _,_,_,.nil=>.nil
 | _,_,0,.cons _ t=>.cons r t
 | _,_,i+1,.cons q t=>.cons q (Vals.set r i t)
theorem Vals.append:∀ {xs ys:List V}{us ws:List ah},Vals xs us→Vals ys ws→Vals (xs++ys) (us++ws)
 | _,_,_,_,.nil,s=>s
 | _,_,_,_,.cons r t,s=>.cons r (Vals.append t s)
theorem Vals.take:∀ {xs:List V}{us:List ah} (n:Nat),Vals xs us→Vals (xs.take n) (us.take n)
 | _,_,0,_=>.nil
 | _,_,_+1,.nil=>.nil
 | _,_,n+1,.cons r t=>.cons r (Vals.take n t)
theorem Vals.drop:∀ {xs:List V}{us:List ah} (n:Nat),Vals xs us→Vals (xs.drop n) (us.drop n)
 | _,_,0,r=>r
 | _,_,_+1,.nil=>.nil
 | _,_,n+1,.cons _ t=>Vals.drop n t
def RelO:Option V→Option ah→Prop
 | some v,some u=>RelV v u
 | none,none=>True
 | _,_=>False
def KV {κ:Type}:List (κ×V)→List (κ×ah)→Prop:=eX fun (p:κ×V) (q:κ×ah)=>p.1=q.1∧RelV p.2 q.2
def kV:Key→V
 | .inl i=>.int i
 | .inr x=>.str x
inductive HO where
 /-- a list -/
 | lst (xs:List V)
 /-- a tuple (never changes) -/
 | tup (xs:List V)
 /-- a dict whose keys are ints and texts;one whose keys are tuples of ints and texts (the empty one is both) -/
 | dK (kvs:List (Key×V)) | dT (kvs:List (List Key×V))
 /-- a set of ints: its members,its size -/
 | set (S:Int→Bool) (n:Nat)
 /-- an instance of the class at C,its dict at dx,its attributes -/
 | ins (C dx:ae) (fs:List (Str×V))
 /-- the dict of the instance at x -/
 | own (x:ae)
 /-- the dict of an exception -/
 | xd (fs:List (Str×V))
 /-- a bound method,f of x -/
 | met (f x:ae)
 /-- a range object lo,lo+1,.. below hi -/
 | rng (lo hi:Int)
 /-- a thing that is known to the object (the script;a dict while a loop walks it): read,never written while it is so -/
 | frz (o:Obj) (u:HO)
 /-- a code object's table -/
 | tbl (ps:Array ah)
 /-- any other thing,by what is true of its one object (a def of one's own: SetO a S n:=HO.ext fun h=>..) -/
 | ext (φ:bM→Prop)
abbrev Hp:=ae→Option HO
def upd (H:Hp) (a:ae) (o:HO):Hp:=fun b=>if b=a then some o else H b
theorem jK {H:Hp}{a:ae}{o:HO}:upd H a o a=some o:=by unfold upd;rw [if_pos rfl]
theorem jJ {H:Hp}{a b:ae}{o:HO} (h:b≠a):upd H a o b=H b:=by unfold upd;rw [if_neg h]
theorem CT {H:Hp}{a:ae}{o u:HO}:upd (upd H a o) a u=upd H a u:=by
 funext b;unfold upd;split <;> rfl
theorem wL {H:Hp}{a b:ae}{o u:HO} (h:H a=some o) (h':H b=some u) (d:o≠u):a≠b:=by
 intro e;subst e;rw [h] at h';exact d (aU h')
theorem jM {H:Hp}{a b:ae}{o:HO} (h:H a=some o) (h':H b=none):a≠b:=by
 intro e;subst e;rw [h] at h';cases h'
section
variable (P:aT) (w:bv)
def ObjOk (H:Hp) (h:bM) (a:ae):HO→Prop
 | .lst xs=>xs.length≤aI∧∃ (its:List ah) (n:Nat),Vals xs its∧h.get? a=some { cls:=.type "list",data:=.seq its.toArray n }
 | .tup xs=>xs.length≤aI∧∃ its:List ah,Vals xs its∧IsTup h a its.toArray
 | .dK kvs=>kvs.length≤aI∧(a == dF)=false∧∃ vs,KV kvs vs∧h.DictOf (ko P w) a vs
 | .dT kvs=>kvs.length≤aI∧(a == dF)=false∧∃ xs:List (List Key×ae×ah),
   eX (fun (p:List Key×V) (q:List Key×ae×ah)=>p.1=q.1∧H q.2.1=some (.tup (p.1.map kV))∧RelV p.2 q.2.2) kvs xs ∧
   ∃ o es ep,h.get? a=some o∧o.ExactDict∧o.data=.dict es ep∧es.toList=xs.map (entryOfKey (gN (ko P w)))∧(xs.map (·.1)).Nodup
 | .set S n=>h.SetOf (intKind P w) a S n
 | .ins C dx fs=>H dx=some (.own a)∧fs.length≤1000∧dx≠a∧h.get? a=some (cI C dx) ∧
   ∃ mA,h.Ns1 dx mA∧(∀ f,RelO (fs.lookup f) (mA f))∧iT mA (fs.map (·.1))
 | .own _=>∃ o,h.get? a=some o
 | .xd fs=>∃ mA,h.Ns1 a mA∧∀ f,RelO (fs.lookup f) (mA f)
 | .rng lo hi=>∃ t u v,h.get? a=some { cls:=.type "range",data:=.fields #[.int lo t,.int hi u,.int 1 v] }
 | .frz o u=>h.get? a=some o∧ObjOk H h a u
 | .tbl ps=>h.get? a=some { cls:=.none,data:=.fields ps }
 | .met f x=>h.get? a=some (gy (.ref f) (.ref x))
 | .ext φ=>φ h∧(∃ o,h.get? a=some o)∧∀ h1 h2:bM,φ h1→(∀ o,h1.get? a=some o→h2.get? a=some o)→φ h2
def HOk (H:Hp) (h:bM):Prop:=∀ a o,H a=some o→ObjOk P w H h a o
end
section
variable {P:aT}{w:bv}{H H':Hp}{h h':bM}{a:ae}{o:HO}
theorem ObjOk.lt (x:ObjOk P w H h a o):a < h.objs.size:=by
 cases o with
 | lst xs=>obtain ⟨_,_,_,_,e⟩:=x;exact aK e
 | tup xs=>obtain ⟨_,_,_,p⟩:=x;exact p.lt
 | dK kvs=>obtain ⟨_,_,_,_,o,_,_,e,_⟩:=x;exact aK e
 | dT kvs=>obtain ⟨_,_,_,_,o,_,_,e,_⟩:=x;exact aK e
 | set S n=>obtain ⟨o,_,_,_,e,_⟩:=x;exact aK e
 | ins C dx fs=>obtain ⟨_,_,_,e,_⟩:=x;exact aK e
 | own y=>obtain ⟨_,e⟩:=x;exact aK e
 | xd fs=>obtain ⟨_,⟨_,_,_,e,_⟩,_⟩:=x;exact aK e
 | rng lo hi=>obtain ⟨_,_,_,e⟩:=x;exact aK e
 | frz ob u=>obtain ⟨e,_⟩:=x;exact aK e
 | tbl ps=>exact aK (show h.get? a=some _ from x)
 | met f y=>exact aK (show h.get? a=some _ from x)
 | ext φ=>obtain ⟨_,⟨_,e⟩,_⟩:=x;exact aK e
theorem eX.mapP {α β:Type}{F G:α→β→Prop}:∀ {l₁:List α}{l₂:List β},eX F l₁ l₂→(∀ a b,F a b→G a b)→eX G l₁ l₂
 | _,_,.nil,_=>.nil
 | _,_,.cons r t,f=>.cons (f _ _ r) (eX.mapP t f)
theorem ObjOk.stay (x:ObjOk P w H h a o) (k:∀ b u,(b=a∨H b=some (.own a))→h.get? b=some u→h'.get? b=some u)
  (ho:∀ b,H b=some (.own a)→H' b=some (.own a)) (ht:∀ b xs,H b=some (.tup xs)→H' b=some (.tup xs)):ObjOk P w H' h' a o:=by
 induction o with
 | lst xs=>obtain ⟨z,its,n,r,e⟩:=x;exact ⟨z,its,n,r,k _ _ (.inl rfl) e⟩
 | tup xs=>obtain ⟨z,its,r,ob,e,c⟩:=x;exact ⟨z,its,r,ob,k _ _ (.inl rfl) e,c⟩
 | dK kvs=>obtain ⟨z,y,vs,r,ob,es,ep,e,c⟩:=x;exact ⟨z,y,vs,r,ob,es,ep,k _ _ (.inl rfl) e,c⟩
 | dT kvs =>
  obtain ⟨z,y,xs,r,ob,es,ep,e,c⟩:=x
  exact ⟨z,y,xs,eX.mapP r fun p q z=>⟨z.1,ht _ _ z.2.1,z.2.2⟩,ob,es,ep,k _ _ (.inl rfl) e,c⟩
 | set S n=>obtain ⟨ob,es,ep,t,e,c⟩:=x;exact ⟨ob,es,ep,t,k _ _ (.inl rfl) e,c⟩
 | ins C dx fs =>
  obtain ⟨d,z,ne,e,mA,⟨od,es,ep,e2,c⟩,r⟩:=x
  exact ⟨ho _ d,z,ne,k _ _ (.inl rfl) e,mA,⟨od,es,ep,k _ _ (.inr d) e2,c⟩,r⟩
 | own y=>obtain ⟨ob,e⟩:=x;exact ⟨ob,k _ _ (.inl rfl) e⟩
 | xd fs=>obtain ⟨mA,⟨od,es,ep,e,c⟩,r⟩:=x;exact ⟨mA,⟨od,es,ep,k _ _ (.inl rfl) e,c⟩,r⟩
 | rng lo hi=>obtain ⟨t,u,v,e⟩:=x;exact ⟨t,u,v,k _ _ (.inl rfl) e⟩
 | frz ob u ih=>obtain ⟨e,q⟩:=x;exact ⟨k _ _ (.inl rfl) e,ih q⟩
 | tbl ps =>
  have e:h.get? a=some { cls:=.none,data:=.fields ps }:=x
  show h'.get? a=some { cls:=.none,data:=.fields ps }
  exact k a _ (.inl rfl) e
 | met f y =>
  have e:h.get? a=some (gy (.ref f) (.ref y)):=x
  show h'.get? a=some (gy (.ref f) (.ref y))
  exact k a _ (.inl rfl) e
 | ext φ=>obtain ⟨p,⟨o,e⟩,st⟩:=x;exact ⟨st _ _ p fun o q=>k _ _ (.inl rfl) q,⟨o,k _ _ (.inl rfl) e⟩,st⟩
theorem HOk.lt (x:HOk P w H h) (e:H a=some o):a < h.objs.size:=(x a o e).lt
theorem HOk.fresh (x:HOk P w H h) (e:h.objs.size≤a):H a=none:=by
 cases q:H a with
 | none=>rfl
 | some u=>exact absurd (aH (x.lt q) e) (cC _)
theorem HOk.kept (x:HOk P w H h) (k:∀ b u,h.get? b=some u→h'.get? b=some u):HOk P w H h':=fun a o e =>
 (x a o e).stay (fun b u _ q=>k b u q) (fun _ q=>q) fun _ _ q=>q
theorem HOk.laid (x:HOk P w H h) (k:∀ b u,h.get? b=some u→h'.get? b=some u) (hp:h.objs.size≤a) (new:ObjOk P w (upd H a o) h' a o):HOk P w (upd H a o) h':=fun b u e=>by
 have hn:=x.fresh hp
 by_cases hb:b=a
 ·subst hb;rw [jK] at e;cases e;exact new
 ·rw [jJ hb] at e
  exact (x b u e).stay (fun c v _ q=>k c v q) (fun c q=>by rw [jJ (jM q hn)];exact q) fun c xs q=>by rw [jJ (jM q hn)];exact q
end
def Rd (H:Hp) (a:ae) (u:HO):Prop:=H a=some u∨∃ o,H a=some (.frz o u)
theorem Rd.ok {P:aT}{w:bv}{H:Hp}{h:bM}{a:ae}{u:HO} (r:Rd H a u) (x:HOk P w H h):ObjOk P w H h a u:=by
 rcases r with r | ⟨o,r⟩
 ·exact x a u r
 ·obtain ⟨_,q⟩:=x a _ r
  exact q
def Mut:Option HO→Prop
 | some (.lst _)=>True
 | some (.dK _)=>True
 | some (.dT _)=>True
 | some (.set _ _)=>True
 | some (.ins _ _ _)=>True
 | some (.ext _)=>True
 | _=>False
section
variable {P:aT}{w:bv}{H:Hp}{h h':bM}{x e:ae}{o':HO}
theorem HOk.write (ok:HOk P w H h) (mu:Mut (H x)) (he:e=x∨H e=some (.own x)) (k:∀ b u,b≠e→h.get? b=some u→h'.get? b=some u) (heo:∃ u,h'.get? e=some u)
  (new:ObjOk P w (upd H x o') h' x o'):HOk P w (upd H x o') h':=fun b u q=>by
 have nown:∀ c y,H c=some (.own y)→c≠x:=fun c y r z=>by subst z;rw [r] at mu;exact mu
 have ntup:∀ c xs,H c=some (.tup xs)→c≠x:=fun c xs r z=>by subst z;rw [r] at mu;exact mu
 by_cases hb:b=x
 ·subst hb;rw [jK] at q;cases q;exact new
 ·rw [jJ hb] at q
  by_cases hbe:b=e
  ·have q':H b=some (.own x):=by
    rcases he with z | z
    ·exact absurd (hbe.trans z) hb
    ·rw [hbe];exact z
   rw [q] at q';cases q'
   obtain ⟨v,hv⟩:=heo
   exact ⟨v,by rw [hbe];exact hv⟩
  ·refine (ok b u q).stay (fun c v hc r=>k c v ?_ r) (fun c r=>by rw [jJ (nown c b r)];exact r) fun c xs r=>by rw [jJ (ntup c xs r)];exact r
   rcases hc with rfl | hc
   ·exact hbe
   ·rintro rfl
    rcases he with z | z
    ·exact nown c b hc z
    ·rw [hc] at z;cases z;exact hb rfl
end
structure Un (fs ex:List ae) (H H':Hp) (h h':bM):Prop where
 keep:∀ b o,h.get? b=some o→H b=none→b∉fs→b∉ex→h'.get? b=some o
 slot:∀ b o,h.get? b=some o→H b=none→b∈fs→b∉ex→∃ sl,h'.get? b=some { o with slots:=sl }
 free:∀ b o,h.get? b=some o→H b=none→b∉ex→H' b=none
 there:∀ b o,h.get? b=some o→b∉ex→∃ o',h'.get? b=some o'
 tups:∀ b xs,H b=some (.tup xs)→H' b=some (.tup xs)
 frzs:∀ b o u,H b=some (.frz o u)→H' b=some (.frz o u)
 tbls:∀ b ps,H b=some (.tbl ps)→∃ more,H' b=some (.tbl (ps++more))
section
variable {fs fs' ex ex':List ae}{H H1 H2:Hp}{h h1 h2 h':bM}{a x e:ae}{o:HO}
theorem Un.any (u:Un fs ex H H1 h h1) {b:ae}{ob:Obj} (q:h.get? b=some ob) (n:H b=none) (hx:b∉ex):∃ sl,h1.get? b=some { ob with slots:=sl }:=by
 by_cases hb:b∈fs
 ·exact u.slot b ob q n hb hx
 ·exact ⟨ob.slots,u.keep b ob q n hb hx⟩
theorem Un.kept (k:∀ b u,h.get? b=some u→h'.get? b=some u):Un fs ex H H h h' :=
 ⟨fun b ob q _ _ _=>k b ob q,fun b ob q _ _ _=>⟨ob.slots,k b ob q⟩,fun _ _ _ n _=>n,fun b ob q _=>⟨ob,k b ob q⟩,fun _ _ q=>q,fun _ _ _ q=>q,fun _ ps q=>⟨#[],by rw [q];simp⟩⟩
theorem Un.refl:Un fs ex H H h h:=Un.kept fun _ _ q=>q
theorem Un.laid (k:∀ b u,h.get? b=some u→h'.get? b=some u) (hp:h.objs.size≤a) (hn:H a=none):Un fs ex H (upd H a o) h h' where
 keep:=fun b u q _ _ _=>k b u q
 slot:=fun b u q _ _ _=>⟨u.slots,k b u q⟩
 free:=fun b u q n _=>by rw [jJ (aQ (aH (aK q) hp))];exact n
 there:=fun b u q _=>⟨u,k b u q⟩
 tups:=fun b xs q=>by rw [jJ (jM q hn)];exact q
 frzs:=fun b u xs q=>by rw [jJ (jM q hn)];exact q
 tbls:=fun b ps q=>⟨#[],by rw [jJ (jM q hn),q];simp⟩
theorem Un.write (mu:Mut (H x)) (he:e=x∨H e=some (.own x)) (k:∀ b u,b≠e→h.get? b=some u→h'.get? b=some u) (heo:∃ u,h'.get? e=some u):Un fs ex H (upd H x o) h h':=by
 have hx:∀ b,H b=none→b≠x:=fun b n z=>by subst z;rw [n] at mu;exact mu
 have hb:∀ b,H b=none→b≠e:=fun b n z=>by
  subst z
  rcases he with r | r
  ·exact hx b n r
  ·rw [n] at r;cases r
 have hm:∀ b u,H b=some u→¬ Mut (some u)→b≠x:=fun b u q nm z=>by subst z;rw [q] at mu;exact nm mu
 refine ⟨fun b u q n _ _=>k b u (hb b n) q,fun b u q n _ _=>⟨u.slots,k b u (hb b n) q⟩,fun b u q n _=>by rw [jJ (hx b n)];exact n,fun b u q _=>?_,
  fun b xs q=>by rw [jJ (hm b _ q fun z=>z)];exact q,fun b u xs q=>by rw [jJ (hm b _ q fun z=>z)];exact q,fun b ps q=>⟨#[],by rw [jJ (hm b _ q fun z=>z),q];simp⟩⟩
 by_cases hbe:b=e
 ·subst hbe;exact heo
 ·exact ⟨u,k b u hbe q⟩
end
def trk (h:bM) (H:Hp):List ae:=(eC h.objs.size).filter fun a=>(H a).isSome
def yK (h:bM) (H:Hp):bM:=fK h (trk h H)
theorem Ap (h:bM) (H:Hp):(yK h H).objs.size=h.objs.size:=PySem.W.hideAll_size _ _
theorem BD {h:bM}{H:Hp}{b:ae}{o:Obj} (e:h.get? b=some o) (n:H b=none):(yK h H).get? b=some o :=
 iV _ e fun hm=>by
  have q:(H b).isSome=true:=(dJ.mp hm).2
  rw [n] at q;simp at q
theorem Dp {h:bM}{H:Hp}{b:ae}{o:Obj} (e:(yK h H).get? b=some o):h.get? b=some o∧H b=none:=by
 have e':h.get? b=some o:=i8 (trk h H) e
 refine ⟨e',?_⟩
 cases q:H b with
 | none=>rfl
 | some x =>
  have hm:b∈trk h H:=dJ.mpr ⟨dX.mpr (aK e'),by simp [q]⟩
  have z:(yK h H).get? b=none:=PySem.W.hideAll_none (trk h H) hm
  rw [z] at e;cases e
def Ea (g h:bM) (L:ae):List (ae×Obj):=(eC h.objs.size).filterMap fun a=>if a=L∨(g.get? a).isSome=true then none else (h.get? a).map fun o=>(a,o)
def mH (g h:bM) (L d:ae):List (ae×Obj):=(Ea g h L).filter fun p=>decide (p.1≠d)
structure Mod (K:aa) (mg:Str→Option ah) (base:bM):Prop where
 kin:K.In base
 glob:base.Ns ax mg
 blt:∃ mb,base.Ns g7 mb∧∀ x:Str,x≠"__name__"→mb x=bS x
 nolimit:base.NoLimit
structure Cx where
 prog:aT
 w:bv
 K:aa
 mg:Str→Option ah
 base:bM
 A:bL
 N:List Str
 s₀:ao
 H₀:Hp
 env:Env
 outer:List Env
 stack:List Env
 ex:List ae
 fn:Str→Bool
 calm:Bool
 pn:List (ae×Obj)
 xe:ah→ao→Prop
def frs (l:List Env):List ae:=l.filterMap (·.frame)
abbrev Cx.fs (X:Cx):List ae:=frs X.outer
def Vis (sc:cW) (x:Str):Prop:=sc.names.lookup x=some .local∨sc.names.lookup x=some .cell∨sc.names.lookup x=some .free
def Loc (sc:cW) (x:Str):Prop:=sc.names.lookup x=some .local∨sc.names.lookup x=some .cell
def F4 (env:Env) (h:bM) (m:Str→Option ah) (x:Str) (u:ah):Prop :=
 (env.kindOf x=some .local∧m x=some u)∨((env.kindOf x=some .cell∨env.kindOf x=some .free)∧∃ c,env.cells.lookup x=some c∧h.IsCell c (some u))
structure Cx.Ok (X:Cx):Prop where
 mod:Mod X.K X.mg X.base
 kind:X.env.scope.kind=.function
 glob:X.env.globals=ax
 blt:X.env.builtins=g7
 above:X.s₀.heap.objs.size≤X.env.locals
 inj:∀ x y c,X.env.cells.lookup x=some c→X.env.cells.lookup y=some c→x=y
 has:∀ x,(X.env.kindOf x=some .cell∨X.env.kindOf x=some .free)→∃ c,X.env.cells.lookup x=some c
 cab:∀ x c,X.fn x=true→X.env.cells.lookup x=some c→X.s₀.heap.objs.size≤c
 hd:X.calm=true→X.A.handled=none
 frames:X.A.frames=some X.stack
 stk:X.stack=X.outer∨(X.stack=X.env::X.outer∧X.env.frame=some X.env.locals)
 exf:∀ b∈X.ex,b≠X.env.locals∧∀ x c,X.env.cells.lookup x=some c→c≠b
 bs:∀ b o,X.base.get? b=some o→X.s₀.heap.get? b=some o∧X.H₀ b=none
 bsz:X.base.objs.size≤X.s₀.heap.objs.size
 noex:∀ b o,X.base.get? b=some o→b∉X.ex
 exfs:∀ b∈X.ex,b∉X.fs
 funs:X.s₀.heap.FunFrames X.base X.outer
 frf:∀ b∈X.fs,X.H₀ b=none
structure Inv (X:Cx) (pins:List (ae×Obj)) (σ:List (Option V)) (H:Hp) (s:ao):Prop where
 ok:X.Ok
 os:s.os=X.s₀.os
 bare:fT s.gens
 base:Un X.fs X.ex X.H₀ H X.s₀.heap s.heap
 loc:∃ m,s.heap.Ns X.env.locals m∧∀ (i:Nat) (x:Str) (v:V),X.N[i]?=some x→σ[i]?=some (some v)→Vis X.env.scope x→∃ u,RelV v u∧F4 X.env s.heap m x u
 cell:∀ x c,X.env.cells.lookup x=some c→∃ v,s.heap.IsCell c v
 free:H X.env.locals=none
 freeC:∀ x c,X.env.cells.lookup x=some c→H c=none
 pin:∀ p∈X.pn++pins,s.heap.get? p.1=some p.2∧H p.1=none∧p.1≠X.env.locals∧p.1∉X.fs∧∀ v,p.2.data≠.cell v
 hok:HOk X.prog X.w H s.heap
 len:σ.length=X.N.length
section
variable {X:Cx}{pins:List (ae×Obj)}{σ:List (Option V)}{H H':Hp}{s:ao}{h':bM}
theorem Cx.Ok.nofr (ok:X.Ok) {b:ae}{o:Obj} (e:X.base.get? b=some o):b∉X.fs:=fun hb=>by
 have:=(ok.funs.mem hb).1
 rw [e] at this;cases this
theorem Inv.bs (I:Inv X pins σ H s):∀ b o,X.base.get? b=some o→s.heap.get? b=some o∧H b=none:=fun b o e =>
 ⟨I.base.keep b o (I.ok.bs b o e).1 (I.ok.bs b o e).2 (I.ok.nofr e) (I.ok.noex b o e),I.base.free b o (I.ok.bs b o e).1 (I.ok.bs b o e).2 (I.ok.noex b o e)⟩
theorem Inv.bk (I:Inv X pins σ H s):∀ b o,X.base.get? b=some o→s.heap.get? b=some o:=fun b o e=>(I.bs b o e).1
theorem Inv.mod (I:Inv X pins σ H s):Mod X.K X.mg X.base:=I.ok.mod
theorem Inv.kIn (I:Inv X pins σ H s):X.K.In s.heap:=I.ok.mod.kin.keeps I.bk
theorem Inv.lt (I:Inv X pins σ H s):X.env.locals < s.heap.objs.size:=let ⟨_,hn,_⟩:=I.loc;hn.lt
theorem Inv.sz (I:Inv X pins σ H s):X.s₀.heap.objs.size≤s.heap.objs.size:=aJ I.ok.above (d9 I.lt)
theorem Inv.nofs (I:Inv X pins σ H s) {a:ae} (h:s.heap.objs.size≤a):a∉X.fs:=fun hb=>by
 obtain ⟨_,o,ho,_⟩:=I.ok.funs.mem hb
 exact absurd (aH (aK ho) (aJ I.sz h)) (cC _)
theorem Inv.cne (I:Inv X pins σ H s):∀ x c,X.env.cells.lookup x=some c→c≠X.env.locals:=fun x c e z=>by
 obtain ⟨v,o,ho,hd⟩:=I.cell x c e
 obtain ⟨m,⟨o',es,ep,ho',hd',_⟩,_⟩:=I.loc
 rw [z,ho'] at ho;cases ho;rw [hd'] at hd;cases hd
theorem Inv.funs (I:Inv X pins σ H s):s.heap.FunFrames X.base X.outer:=by
 have all:∀ (l:List Env),(∀ b∈frs l,b∈X.fs)→X.s₀.heap.FunFrames X.base l→s.heap.FunFrames X.base l:=by
  intro l
  induction l with
  | nil=>intro _ _;trivial
  | cons env r ih =>
   intro hs hl
   obtain ⟨hk,⟨L,o,hf,hn,ho,hd⟩,hr⟩:=hl
   have hL:L∈X.fs:=hs L (by unfold frs;rw [ce,hf];exact ap)
   obtain ⟨sl,e⟩:=I.base.slot L o ho (I.ok.frf L hL) hL fun z=>I.ok.exfs L z hL
   exact ⟨hk,⟨L,_,hf,hn,e,hd⟩,ih (fun b hb=>hs b (by unfold frs;rw [ce,hf];exact ak _ hb)) hr⟩
 exact all X.outer (fun _ hb=>hb) I.ok.funs
theorem Inv.stack (I:Inv X pins σ H s):s.heap.FunFrames X.base X.stack:=by
 rcases I.ok.stk with e | ⟨e,hf⟩
 ·rw [e];exact I.funs
 ·rw [e]
  obtain ⟨m,hn,_⟩:=I.loc
  refine .cons (by rw [I.ok.kind];decide) hf hn ?_ I.funs
  exact Heap.get?_none_of_le (aJ I.ok.bsz I.ok.above)
theorem Inv.stkSub (I:Inv X pins σ H s):∀ b∈frs X.stack,b∈X.env.locals::X.fs:=fun b hb=>by
 rcases I.ok.stk with e | ⟨e,hf⟩
 ·rw [e] at hb;exact ak _ hb
 ·rw [e] at hb
  unfold frs at hb
  rw [ce,hf] at hb
  exact hb
theorem Inv.stkFree (I:Inv X pins σ H s):∀ b∈frs X.stack,H b=none:=fun b hb=>by
 rcases ai.mp (I.stkSub b hb) with e | hb
 ·rw [e];exact I.free
 ·obtain ⟨_,o,ho,_⟩:=I.ok.funs.mem hb
  exact I.base.free b o ho (I.ok.frf b hb) fun z=>I.ok.exfs b z hb
theorem Inv.step {g':Array GenState}{t':Nat}{d':Drawn}{ch:List ae} (I:Inv X pins σ H s)
  (hch:∀ b∈ch,(b∈X.ex∨X.s₀.heap.objs.size≤b)∧b≠X.env.locals∧(∀ x c,X.env.cells.lookup x=some c→c≠b)∧∀ p∈X.pn++pins,p.1≠b)
  (keep:∀ b o,b≠X.env.locals→b∉X.fs→b∉ch→s.heap.get? b=some o→H b=none→h'.get? b=some o)
  (slot:∀ b o,b≠X.env.locals→b∈X.fs→b∉ch→s.heap.get? b=some o→H b=none→∃ sl,h'.get? b=some { o with slots:=sl }) (free:∀ b o,b∉ch→s.heap.get? b=some o→H b=none→H' b=none)
  (there:∀ b o,b∉ch→s.heap.get? b=some o→∃ o',h'.get? b=some o')
  (tups:∀ b xs,H b=some (.tup xs)→H' b=some (.tup xs)) (frzs:∀ b o u,H b=some (.frz o u)→H' b=some (.frz o u)) (tbls:∀ b ps,H b=some (.tbl ps)→∃ more,H' b=some (.tbl (ps++more)))
  (ns:∀ m,s.heap.Ns X.env.locals m→h'.Ns X.env.locals m) (hok:HOk X.prog X.w H' h') (hg:fT g') :
  Inv X pins σ H' { s with heap:=h',gens:=g',drawn:=d',toks:=t' }:=by
 have neL:∀ b o,X.s₀.heap.get? b=some o→b≠X.env.locals:=fun b o e=>aQ (aH (aK e) I.ok.above)
 have neC:∀ b o,X.s₀.heap.get? b=some o→b∉X.ex→b∉ch:=fun b o e hx hb=>by
  rcases (hch b hb).1 with z | z
  ·exact hx z
  ·exact absurd (aH (aK e) z) (cC _)
 have cellK:∀ x c,X.env.cells.lookup x=some c→∀ v,s.heap.IsCell c v→h'.IsCell c v:=fun x c e v ⟨o,ho,hd⟩=>by
  have nch:c∉ch:=fun z=>(hch c z).2.2.1 x c e rfl
  by_cases hc:c∈X.fs
  ·obtain ⟨sl,q⟩:=slot c o (I.cne x c e) hc nch ho (I.freeC x c e)
   exact ⟨_,q,hd⟩
  ·exact ⟨o,keep c o (I.cne x c e) hc nch ho (I.freeC x c e),hd⟩
 refine ⟨I.ok,I.os,hg,⟨fun b o e n hb hx=>?_,fun b o e n hb hx=>?_,fun b o e n hx=>?_,fun b o e hx=>?_,fun b xs e=>tups b xs (I.base.tups b xs e),fun b o xs e=>frzs b o xs (I.base.frzs b o xs e),fun b ps e=>?_⟩,?_,fun x c e=>?_,?_,fun x c e=>?_,fun p hp=>?_,hok,I.len⟩
 ·exact keep b o (neL b o e) hb (neC b o e hx) (I.base.keep b o e n hb hx) (I.base.free b o e n hx)
 ·obtain ⟨sl,e1⟩:=I.base.slot b o e n hb hx
  obtain ⟨sl',e2⟩:=slot b _ (neL b o e) hb (neC b o e hx) e1 (I.base.free b o e n hx)
  exact ⟨sl',e2⟩
 ·obtain ⟨o',e1⟩:=I.base.there b o e hx
  exact free b o' (neC b o e hx) e1 (I.base.free b o e n hx)
 ·obtain ⟨o',e1⟩:=I.base.there b o e hx
  exact there b o' (neC b o e hx) e1
 ·obtain ⟨m1,e1⟩:=I.base.tbls b ps e
  obtain ⟨m2,e2⟩:=tbls b _ e1
  exact ⟨m1++m2,by rw [e2,jy]⟩
 ·obtain ⟨m,hn,hl⟩:=I.loc
  refine ⟨m,ns m hn,fun i x v e1 e2 e3=>?_⟩
  obtain ⟨u,r,l⟩:=hl i x v e1 e2 e3
  refine ⟨u,r,?_⟩
  rcases l with l | ⟨k,c,e,z⟩
  ·exact .inl l
  ·exact .inr ⟨k,c,e,cellK x c e _ z⟩
 ·obtain ⟨v,z⟩:=I.cell x c e
  exact ⟨v,cellK x c e v z⟩
 ·obtain ⟨m,⟨o,_,_,ho,_⟩,_⟩:=I.loc
  exact free _ o (fun z=>(hch _ z).2.1 rfl) ho I.free
 ·obtain ⟨v,o,ho,hd⟩:=I.cell x c e
  exact free c o (fun z=>(hch c z).2.2.1 x c e rfl) ho (I.freeC x c e)
 ·obtain ⟨e,n,ne,nf,d⟩:=I.pin p hp
  have nch:p.1∉ch:=fun z=>(hch p.1 z).2.2.2 p hp rfl
  exact ⟨keep p.1 p.2 ne nf nch e n,free p.1 p.2 nch e n,ne,nf,d⟩
theorem Inv.un {t':Nat} (I:Inv X pins σ H s) (u:Un X.fs [] H H' s.heap h') (hok:HOk X.prog X.w H' h'):Inv X pins σ H' { s with heap:=h',toks:=t' }:=by
 obtain ⟨m,⟨o,es,ep,ho,r⟩,_⟩:=id I.loc
 obtain ⟨sl,hL⟩:=u.any ho I.free (by simp)
 exact I.step (g':=s.gens) (d':=s.drawn) (ch:=[]) (fun _ z=>nomatch z) (fun b o _ hb _ e n=>u.keep b o e n hb (by simp)) (fun b o _ hb _ e n=>u.slot b o e n hb (by simp)) (fun b o _ e n=>u.free b o e n (by simp)) (fun b o _ e=>u.there b o e (by simp)) u.tups u.frzs u.tbls (fun m' hm=>by
  obtain ⟨o',es',ep',ho',r'⟩:=hm
  rw [ho] at ho';cases ho'
  exact ⟨_,es',ep',hL,r'⟩) hok I.bare
theorem Inv.call {g':Array GenState}{t':Nat}{d':Drawn}{ch:List ae} (I:Inv X pins σ H s) (u:Un (frs X.stack) ch H H' s.heap h') (hok:HOk X.prog X.w H' h') (hg:fT g')
  (hch:∀ b∈ch,(b∈X.ex∨X.s₀.heap.objs.size≤b)∧b≠X.env.locals∧(∀ x c,X.env.cells.lookup x=some c→c≠b)∧∀ p∈X.pn++pins,p.1≠b) :
  Inv X pins σ H' { s with heap:=h',gens:=g',drawn:=d',toks:=t' }:=by
 obtain ⟨m,⟨o,es,ep,ho,r⟩,_⟩:=id I.loc
 obtain ⟨sl,hL⟩:=u.any ho I.free fun z=>(hch _ z).2.1 rfl
 exact I.step (ch:=ch) hch (fun b o hL hb hc e n=>u.keep b o e n (fun z=>(ai.mp (I.stkSub b z)).elim hL hb) hc) (fun b o _ _ hc e n=>u.any e n hc) (fun b o hc e n=>u.free b o e n hc) (fun b o hc e=>u.there b o e hc) u.tups u.frzs u.tbls (fun m' hm=>by
  obtain ⟨o',es',ep',ho',r'⟩:=hm
  rw [ho] at ho';cases ho'
  exact ⟨_,es',ep',hL,r'⟩) hok hg
theorem Inv.turned {t':Nat}{it:ae} (I:Inv X pins σ H s) (k:∀ b o,b≠it→s.heap.get? b=some o→h'.get? b=some o) (hn:H it=none) (hL:it≠X.env.locals)
  (h1:it∈X.ex∨X.s₀.heap.objs.size≤it) (h2:∀ x c,X.env.cells.lookup x=some c→c≠it) (h3:∀ p∈X.pn++pins,p.1≠it):Inv X pins σ H { s with heap:=h',toks:=t' }:=by
 have nit:∀ b u,H b=some u→b≠it:=fun b u e z=>by rw [z,hn] at e;cases e
 refine I.step (g':=s.gens) (d':=s.drawn) (ch:=[it]) (fun b hb=>?_) (fun b o _ _ hc e _=>k b o (fun z=>hc (by simp [z])) e) (fun b o _ _ hc e _=>⟨o.slots,k b o (fun z=>hc (by simp [z])) e⟩) (fun _ _ _ _ n=>n)
  (fun b o hc e=>⟨o,k b o (fun z=>hc (by simp [z])) e⟩) (fun _ _ e=>e) (fun _ _ _ e=>e) (fun b ps e=>⟨#[],by rw [e];simp⟩) (fun m hm=>?_) (fun b u e=>?_) I.bare
 ·have e:b=it:=by simpa using hb
  subst e
  exact ⟨h1,hL,h2,h3⟩
 ·obtain ⟨o,es,ep,ho,r⟩:=hm
  exact ⟨o,es,ep,k _ o (fJ hL) ho,r⟩
 ·refine (I.hok b u e).stay (fun c v hc q=>k c v ?_ q) (fun _ q=>q) fun _ _ q=>q
  rcases hc with z | z
  ·rw [z];exact nit b u e
  ·exact nit c _ z
theorem Inv.tok (I:Inv X pins σ H s) (t:Nat):Inv X pins σ H { s with toks:=t }:=I.un (h':=s.heap) (t':=t) Un.refl I.hok
theorem Inv.kept {t':Nat} (I:Inv X pins σ H s) (k:∀ b u,s.heap.get? b=some u→h'.get? b=some u):Inv X pins σ H { s with heap:=h',toks:=t' }:=I.un (Un.kept k) (I.hok.kept k)
theorem Inv.laid {a:ae}{o:HO}{t':Nat} (I:Inv X pins σ H s) (k:∀ b u,s.heap.get? b=some u→h'.get? b=some u) (hp:s.heap.objs.size≤a) (new:ObjOk X.prog X.w (upd H a o) h' a o) :
  Inv X pins σ (upd H a o) { s with heap:=h',toks:=t' }:=I.un (Un.laid k hp (I.hok.fresh hp)) (I.hok.laid k hp new)
theorem Inv.write {x e:ae}{o:HO}{t':Nat} (I:Inv X pins σ H s) (mu:Mut (H x)) (he:e=x∨H e=some (.own x)) (k:∀ b u,b≠e→s.heap.get? b=some u→h'.get? b=some u) (heo:∃ u,h'.get? e=some u)
  (new:ObjOk X.prog X.w (upd H x o) h' x o):Inv X pins σ (upd H x o) { s with heap:=h',toks:=t' }:=I.un (Un.write mu he k heo) (I.hok.write mu he k heo new)
theorem Inv.pins_of {pins':List (ae×Obj)} (I:Inv X pins σ H s) (h:∀ p∈pins',s.heap.get? p.1=some p.2∧H p.1=none∧p.1≠X.env.locals∧p.1∉X.fs∧∀ v,p.2.data≠.cell v):Inv X pins' σ H s :=
 ⟨I.ok,I.os,I.bare,I.base,I.loc,I.cell,I.free,I.freeC,fun p hp=>(aX.mp hp).elim (fun z=>I.pin p (bV _ z)) (h p),I.hok,I.len⟩
theorem xI {N:List Str} (hN:N.Nodup) {i j:Nat}{x:Str} (a:N[i]?=some x) (b:N[j]?=some x):i=j:=by
 obtain ⟨h1,e1⟩:=a9.mp a
 obtain ⟨h2,e2⟩:=a9.mp b
 exact (List.getElem_inj hN).mp (e1.trans e2.symm)
theorem vd {M:Model}{A:bL}{E:ah→ao→Prop}{i:Nat}{x:Str}{v:V}{u:ah}{Q:Unit→ao→Prop} (I:Inv X pins σ H s) (hN:X.N.Nodup) (hi:X.N[i]?=some x) (hx:Loc X.env.scope x) (r:RelV v u)
  (h:∀ s',Inv X pins (σ.set i (some v)) H s'→(∃ a,gP a s.heap s'.heap∧(a=X.env.locals∨X.env.cells.lookup x=some a))→Q () s') (hf:X.fn x=true∨X.env.scope.names.lookup x=some .local:=by first | exact .inl rfl | exact .inr rfl | assumption):aZ M A (storeName X.env x u) Q E s:=by
 obtain ⟨m,hn,hl⟩:=id I.loc
 have hcls:(X.env.scope.kind == .class || (X.env.scope.kind == .module && X.env.locals != X.env.globals))=false:=by rw [I.ok.kind];rfl
 have hiσ:i < σ.length:=by rw [I.len];exact (a9.mp hi).1
 have cne:=I.cne
 have tracked:∀ {a:ae}{h':bM},(∃ o,s.heap.get? a=some o∧H a=none)→gP a s.heap h'→HOk X.prog X.w H h':=fun {a h'} ha hs b ob e=>by
  obtain ⟨_,_,hfree⟩:=ha
  refine (I.hok b ob e).stay (fun c w' hc q=>(hs.2 c ?_).trans q) (fun _ q=>q) fun _ _ q=>q
  rintro rfl
  rcases hc with rfl | hc
  ·rw [hfree] at e;cases e
  ·rw [hfree] at hc;cases hc
 rcases hx with hk | hk
 ·refine wpAny_storeName_local hk hn (fun h' hn' hs=>?_) hcls
  obtain ⟨oL,_,_,hoL,_⟩:=id hn
  refine h _ ⟨I.ok,I.os,I.bare,⟨fun b o e n hb hx=>?_,fun b o e n hb hx=>?_,I.base.free,fun b o e hx=>?_,I.base.tups,I.base.frzs,I.base.tbls⟩,⟨_,hn',fun j y v' e1 e2 e3=>?_⟩,fun y c e=>?_,I.free,I.freeC,fun p hp=>?_,tracked ⟨oL,hoL,I.free⟩ hs,by simpa using I.len⟩ ⟨_,hs,.inl rfl⟩
  ·exact (hs.2 b (aQ (aH (aK e) I.ok.above))).trans (I.base.keep b o e n hb hx)
  ·obtain ⟨sl,e1⟩:=I.base.slot b o e n hb hx
   exact ⟨sl,(hs.2 b (aQ (aH (aK e) I.ok.above))).trans e1⟩
  ·obtain ⟨o',e1⟩:=I.base.there b o e hx
   exact ⟨o',(hs.2 b (aQ (aH (aK e) I.ok.above))).trans e1⟩
  ·by_cases hj:j=i
   ·subst hj
    rw [hi] at e1;cases e1
    rw [i5 hiσ] at e2
    cases e2
    exact ⟨u,r,.inl ⟨hk,by simp⟩⟩
   ·rw [jm (fJ hj)] at e2
    obtain ⟨u',r',q⟩:=hl j y v' e1 e2 e3
    refine ⟨u',r',?_⟩
    rcases q with ⟨k,e⟩ | ⟨k,c,e,z⟩
    ·refine .inl ⟨k,?_⟩
     have:y≠x:=fun e=>hj (xI hN e1 (e ▸ hi))
     simp [this,e]
    ·exact .inr ⟨k,c,e,z.sameBut hs (cne y c e)⟩
  ·obtain ⟨w',z⟩:=I.cell y c e
   exact ⟨w',z.sameBut hs (cne y c e)⟩
  ·obtain ⟨e,n,ne,nf,d⟩:=I.pin p hp
   exact ⟨(hs.2 p.1 ne).trans e,n,ne,nf,d⟩
 ·have hfn:X.fn x=true:=by
   rcases hf with z | z
   ·exact z
   ·rw [z] at hk;cases hk
  obtain ⟨c,hc⟩:=I.ok.has x (.inl hk)
  obtain ⟨w',z⟩:=I.cell x c hc
  refine wpAny_storeName_cell I.ok.kind hk hc z (fun h' hc' hs=>?_)
  obtain ⟨oc,hoc,hocd⟩:=id z
  refine h { s with heap:=h' } ⟨I.ok,I.os,I.bare,⟨fun b o e n hb hx=>?_,fun b o e n hb hx=>?_,I.base.free,fun b o e hx=>?_,I.base.tups,I.base.frzs,I.base.tbls⟩,⟨m,hn.sameBut hs (fJ (cne x c hc)),fun j y v' e1 e2 e3=>?_⟩,fun y c' e=>?_,I.free,I.freeC,fun p hp=>?_,tracked ⟨oc,hoc,I.freeC x c hc⟩ hs,by simpa using I.len⟩ ⟨c,hs,.inr hc⟩
  ·exact (hs.2 b (aQ (aH (aK e) (I.ok.cab x c hfn hc)))).trans (I.base.keep b o e n hb hx)
  ·obtain ⟨sl,e1⟩:=I.base.slot b o e n hb hx
   exact ⟨sl,(hs.2 b (aQ (aH (aK e) (I.ok.cab x c hfn hc)))).trans e1⟩
  ·obtain ⟨o',e1⟩:=I.base.there b o e hx
   exact ⟨o',(hs.2 b (aQ (aH (aK e) (I.ok.cab x c hfn hc)))).trans e1⟩
  ·by_cases hj:j=i
   ·subst hj
    rw [hi] at e1;cases e1
    rw [i5 hiσ] at e2
    cases e2
    exact ⟨u,r,.inr ⟨.inl hk,c,hc,hc'⟩⟩
   ·rw [jm (fJ hj)] at e2
    obtain ⟨u',r',q⟩:=hl j y v' e1 e2 e3
    refine ⟨u',r',?_⟩
    rcases q with q | ⟨k,c',e,z'⟩
    ·exact .inl q
    ·refine .inr ⟨k,c',e,z'.sameBut hs ?_⟩
     rintro rfl
     exact hj (xI hN e1 (I.ok.inj _ _ _ e hc ▸ hi))
  ·by_cases hcc:c'=c
   ·subst hcc;exact ⟨_,hc'⟩
   ·obtain ⟨w2,z2⟩:=I.cell y c' e
    exact ⟨w2,z2.sameBut hs hcc⟩
  ·obtain ⟨e,n,ne,nf,d⟩:=I.pin p hp
   refine ⟨(hs.2 p.1 ?_).trans e,n,ne,nf,d⟩
   intro q
   rw [q,hoc] at e
   have q':oc=p.2:=aU e
   exact d w' (by rw [← q'];exact hocd)
theorem qK {M:Model}{A:bL}{E:ah→ao→Prop}{i:Nat}{x:Str}{v:V}{u:ah}{Q:Unit→ao→Prop} (I:Inv X pins σ H s) (hN:X.N.Nodup) (hi:X.N[i]?=some x) (hx:Loc X.env.scope x) (r:RelV v u)
  (h:∀ s',Inv X pins (σ.set i (some v)) H s'→Q () s') (hf:X.fn x=true∨X.env.scope.names.lookup x=some .local:=by first | exact .inl rfl | exact .inr rfl | assumption):aZ M A (storeName X.env x u) Q E s :=
 vd I hN hi hx r (fun s' I' _=>h s' I') hf
theorem Inv.call' {s':ao}{ch:List ae} (I:Inv X pins σ H s) (ho:s'.os=s.os) (u:Un (frs X.stack) ch H H' s.heap s'.heap) (hok:HOk X.prog X.w H' s'.heap) (hg:fT s'.gens)
  (hch:∀ b∈ch,(b∈X.ex∨X.s₀.heap.objs.size≤b)∧b≠X.env.locals∧(∀ x c,X.env.cells.lookup x=some c→c≠b)∧∀ p∈X.pn++pins,p.1≠b):Inv X pins σ H' s':=by
 obtain ⟨h',g',d',t',o'⟩:=s'
 have e:o'=s.os:=ho
 subst e
 exact I.call (g':=g') (t':=t') (d':=d') u hok hg hch
end
abbrev XK:=ah→Option ae→Hp→Prop
abbrev St:=List (Option V)
abbrev VK:=V→Hp→Prop
abbrev TE:=St→Hp→VK→Prop
abbrev TT:=St→Hp→(Bool→Hp→Prop)→Prop
abbrev TA:=St→Hp→(List V→Hp→Prop)→Prop
structure Ends where
 nx:St→Hp→Prop
 rt:VK
 bk:St→Hp→Prop:=fun _ _=>False
 ct:St→Hp→Prop:=fun _ _=>False
abbrev TS:=Ends→St→Hp→Prop
def EP (X:Cx) (pins:List (ae×Obj)) (σ:St) (Q:VK) (u:ah) (s':ao):Prop:=∃ v H',Inv X pins σ H' s'∧RelV v u∧Q v H'
def TP (X:Cx) (pins:List (ae×Obj)) (σ:St) (Q:Bool→Hp→Prop) (b:Bool) (s':ao):Prop:=∃ H',Inv X pins σ H' s'∧Q b H'
def AP (X:Cx) (pins:List (ae×Obj)) (σ:St) (Q:List V→Hp→Prop) (us:List ah) (s':ao):Prop:=∃ vs H',Inv X pins σ H' s'∧Vals vs us∧Q vs H'
def SP (X:Cx) (pins:List (ae×Obj)) (D:Ends) (f:Flow) (s':ao):Prop :=
 match f with
 | .next=>∃ σ' H',Inv X pins σ' H' s'∧D.nx σ' H'
 | .brk=>∃ σ' H',Inv X pins σ' H' s'∧D.bk σ' H'
 | .cont=>∃ σ' H',Inv X pins σ' H' s'∧D.ct σ' H'
 | .ret u=>∃ v σ' H',Inv X pins σ' H' s'∧RelV v u∧D.rt v H'
def PE (X:Cx) (e:a8) (t:TE):Prop :=
 ∀ (pins:List (ae×Obj)) (s:ao) (σ:St) (H:Hp) (Q:VK),Inv X pins σ H s→t σ H Q→aZ (model X.prog X.w) X.A (eval e X.env) (EP X pins σ Q) X.xe s
def PT (X:Cx) (e:a8) (t:TT):Prop :=
 ∀ (pins:List (ae×Obj)) (s:ao) (σ:St) (H:Hp) (Q:Bool→Hp→Prop),Inv X pins σ H s→t σ H Q→aZ (model X.prog X.w) X.A (isTrue e X.env (eval e X.env)) (TP X pins σ Q) X.xe s
def PW (X:Cx) (e:a8) (t:TT):Prop :=
 ∀ (whole:Sem ah) (pins:List (ae×Obj)) (s:ao) (σ:St) (H:Hp) (Q:Bool→Hp→Prop),Inv X pins σ H s→t σ H Q→aZ (model X.prog X.w) X.A (isTrue e X.env whole) (TP X pins σ Q) X.xe s
theorem PW.pt {X:Cx}{e:a8}{t:TT} (h:PW X e t):PT X e t:=h _
def PA (X:Cx) (es:List a8) (t:TA):Prop :=
 ∀ (pos:Pos) (pins:List (ae×Obj)) (s:ao) (σ:St) (H:Hp) (Q:List V→Hp→Prop),Inv X pins σ H s→t σ H Q→aZ (model X.prog X.w) X.A (spliced (ck pos (aR es X.env))) (AP X pins σ Q) X.xe s
def PS (X:Cx) (st:bT) (t:TS):Prop :=
 ∀ (pins:List (ae×Obj)) (s:ao) (σ:St) (H:Hp) (D:Ends),Inv X pins σ H s→t D σ H→aZ (model X.prog X.w) X.A (exec st X.env) (SP X pins D) X.xe s
def PSs (X:Cx) (st:List bT) (t:TS):Prop :=
 ∀ (pins:List (ae×Obj)) (s:ao) (σ:St) (H:Hp) (D:Ends),Inv X pins σ H s→t D σ H→aZ (model X.prog X.w) X.A (execs st X.env) (SP X pins D) X.xe s
theorem thn {α:Type}{t:Sem α}{Q Q':α→ao→Prop}{M:Model}{A:bL}{E:ah→ao→Prop}{s:ao} (h:aZ M A t Q E s) (hQ:∀ a s,Q a s→Q' a s):aZ M A t Q' E s:=bw h hQ fun _ _ x=>x
section
variable {X:Cx}
def AF (i:Nat):TE:=fun σ H Q=>∃ v,σ[i]?=some (some v)∧Q v H
def tC (v:V):TE:=fun _ H Q=>Q v H
theorem yY {i:Nat}{x:Str}{pos:Pos} (hN:X.N[i]?=some x) (hv:Vis X.env.scope x) (hd:(x == ("__debug__":Str))=false:=by decide) (hcd:(x == ("__classdict__":Str))=false:=by decide):PE X (.Name x pos) (AF i):=by
 intro pins s σ H Q I h
 obtain ⟨v,e,h⟩:=h
 obtain ⟨m,hn,hl⟩:=I.loc
 obtain ⟨u,r,l⟩:=hl i x v hN e hv
 have fin:EP X pins σ Q u s:=⟨v,H,I,r,h⟩
 rcases l with ⟨hk,hm⟩ | ⟨hk,c,hc,hcell⟩
 ·exact wpAny_Name (wpAny_loadName_local I.ok.kind hk hn hm fin) hd
 ·rcases hk with hk | hk
  ·exact wpAny_Name (wpAny_loadName_cell I.ok.kind hk hc hcell fin) hd
  ·exact wpAny_Name (wpAny_loadName_free I.ok.kind hk hc hcell fin hcd) hd
theorem pe_int {i j pos}:PE X (.Constant (.int i) j pos) (tC (.int i)):=fun _ _ _ H _ I h=>wpAny_Constant_int ⟨.int i,H,I.tok _,⟨_,rfl⟩,h⟩
theorem pe_bl {b j pos}:PE X (.Constant (.bool b) j pos) (tC (.bl b)):=fun _ _ _ H _ I h=>Constant_bool ⟨.bl b,H,I,rfl,h⟩
theorem pe_str {x j pos}:PE X (.Constant (.str x) j pos) (tC (.str x)):=fun _ _ _ H _ I h=>gB ⟨.str x,H,I.tok _,⟨_,rfl⟩,h⟩
def Gl (X:Cx) (x:Str):Prop:=X.env.kindOf x=some .globalImplicit
theorem tw {E:ah→ao→Prop}{pins:List (ae×Obj)}{s:ao}{σ:St}{H:Hp}{x:Str}{u:ah}{pos:Pos}{Q:ah→ao→Prop} (I:Inv X pins σ H s) (hg:Gl X x) (hm:X.mg x=some u) (h:Q u s)
  (hd:(x == ("__debug__":Str))=false:=by decide):aZ (model X.prog X.w) X.A (eval (.Name x pos) X.env) Q E s :=
 iq I.ok.kind hg (Calls.loadGlobal_global (by rw [I.ok.glob];exact I.mod.glob.keeps I.bk) hm h) hd
theorem wM {E:ah→ao→Prop}{pins:List (ae×Obj)}{s:ao}{σ:St}{H:Hp}{x:Str}{u:ah}{pos:Pos}{Q:ah→ao→Prop} (I:Inv X pins σ H s) (hg:Gl X x) (hm:X.mg x=none) (hv:bS x=some u) (h:Q u s)
  (hn:x≠"__name__":=by decide) (hd:(x == ("__debug__":Str))=false:=by decide):aZ (model X.prog X.w) X.A (eval (.Name x pos) X.env) Q E s:=by
 obtain ⟨mb,h1,h2⟩:=I.mod.blt
 exact iq I.ok.kind hg (Calls.loadGlobal_builtin (by rw [I.ok.glob];exact I.mod.glob.keeps I.bk) hm (by rw [I.ok.blt];exact h1.keeps I.bk) ((h2 x hn).trans hv) h) hd
theorem nR {x:Str}{v:V}{u:ah}{pos:Pos} (hg:Gl X x) (hm:X.mg x=some u) (r:RelV v u) (hd:(x == ("__debug__":Str))=false:=by decide):PE X (.Name x pos) (tC v) :=
 fun _ _ _ H _ I h=>tw I hg hm ⟨v,H,I,r,h⟩ hd
theorem Dd {x:Str}{v:V}{u:ah}{pos:Pos} (hg:Gl X x) (hm:X.mg x=none) (hv:bS x=some u) (r:RelV v u) (hn:x≠"__name__":=by decide) (hd:(x == ("__debug__":Str))=false:=by decide):PE X (.Name x pos) (tC v) :=
 fun _ _ _ H _ I h=>wM I hg hm hv ⟨v,H,I,r,h⟩ hn hd
variable {a b:a8}{ta tb:TE}{pos:Pos}
def PC (X:Cx) (op:gY) (a b:a8) (t:TE):Prop :=
 ∀ (pins:List (ae×Obj)) (s:ao) (σ:St) (H:Hp) (Q:VK),Inv X pins σ H s→t σ H Q →
  aZ (model X.prog X.w) X.A (eval a X.env) (fun v s₁=>aZ (model X.prog X.w) X.A (eval b X.env) (fun u s₂=>aZ (model X.prog X.w) X.A (ci op v u) (EP X pins σ Q) X.xe s₂) X.xe s₁) X.xe s
theorem Bs (b:a8) {op:gY} (h:op≠.In) (h2:op≠.NotIn):cq op b=false:=by
 have e1:(op == CmpOp.In)=false:=by cases op <;> first | rfl | exact absurd rfl h
 have e2:(op == CmpOp.NotIn)=false:=by cases op <;> first | rfl | exact absurd rfl h2
 cases b <;> simp [cq,e1,e2]
def tB (t:TE):TT:=fun σ H Q=>t σ H fun x H1=>∃ c,x=.bl c∧Q c H1
theorem Cs {op:gY}{t:TE} (h:PC X op a b t) (h1:cq op b=false:=by first | exact Bs _ (by decide) (by decide) | rfl):PE X (.Compare a [op] [b] pos) t:=fun pins s σ H Q I hw=>wpAny_Compare1 (h pins s σ H Q I hw) h1
theorem qE {e:a8}{t:TE} (h:PE X e t) (he:∀ whole,isTrue e X.env whole=(do let v ← whole;fS e.pos;holding [v] (truthy v)):=by intro _;rfl):PT X e (tB t):=by
 intro pins s σ H Q I hw
 refine isTrue_plain (thn (h pins s σ H _ I hw) fun v s1 ⟨x,H1,I1,r1,q1⟩=>?_) (he _)
 obtain ⟨d,rfl,q⟩:=q1
 cases r1
 exact cO ⟨H1,I1,q⟩
variable {tA tB':TT}{mH:List a8}
def tOr (t u:TT):TT:=fun σ H Q=>t σ H fun c H1=>if c=true then Q true H1 else u σ H1 Q
def tNot (t:TT):TT:=fun σ H Q=>t σ H fun c H1=>Q (!c) H1
theorem Ck (ha:PT X a tA):PW X (.BoolOp .Or [a] pos) tA:=by
 intro wh pins s σ H Q I h
 refine isTrue_or (thn (ha pins s σ H Q I h) fun c s1 e=>?_)
 cases c with
 | false=>exact isTrue_or_nil e
 | true=>exact e
theorem Eo (ha:PT X a tA) (hb:PW X (.BoolOp .Or (b::mH) pos) tB'):PW X (.BoolOp .Or (a::b::mH) pos) (tOr tA tB'):=by
 intro wh pins s σ H Q I h
 refine isTrue_or (thn (ha pins s σ H _ I h) fun c s1 ⟨H1,I1,q1⟩=>?_)
 cases c with
 | true=>exact ⟨H1,I1,q1⟩
 | false=>exact hb wh pins s1 σ H1 Q I1 q1
theorem um (ha:PT X a tA):PT X (.UnaryOp .Not a pos) (tNot tA):=by
 intro pins s σ H Q I h
 exact isTrue_not (ha pins s σ H (fun c H1=>Q (!c) H1) I h)
def tAndV (ta tb:TE):TE:=fun σ H Q=>ta σ H fun x H1=>∃ c,x=.bl c∧if c=true then tb σ H1 Q else Q (.bl false) H1
def tOrV (ta tb:TE):TE:=fun σ H Q=>ta σ H fun x H1=>∃ c,x=.bl c∧if c=true then Q (.bl true) H1 else tb σ H1 Q
theorem Co {op}{t:TE} (h:PE X a t):PE X (.BoolOp op [a] pos) t:=fun pins s σ H Q I hw=>BoolOp_one (h pins s σ H Q I hw)
theorem Ff (ha:PE X a ta) (hb:PE X (.BoolOp .And (b::mH) pos) tb):PE X (.BoolOp .And (a::b::mH) pos) (tAndV ta tb):=by
 intro pins s σ H Q I h
 refine BoolOp_and (thn (ha pins s σ H _ I h) fun v s1 ⟨x,H1,I1,r1,q1⟩=>?_)
 obtain ⟨c,rfl,q1⟩:=q1
 cases r1
 refine cO ?_
 cases c with
 | true=>exact hb pins s1 σ H1 Q I1 q1
 | false=>exact ⟨.bl false,H1,I1,rfl,q1⟩
theorem pe_or (ha:PE X a ta) (hb:PE X (.BoolOp .Or (b::mH) pos) tb):PE X (.BoolOp .Or (a::b::mH) pos) (tOrV ta tb):=by
 intro pins s σ H Q I h
 refine BoolOp_or (thn (ha pins s σ H _ I h) fun v s1 ⟨x,H1,I1,r1,q1⟩=>?_)
 obtain ⟨c,rfl,q1⟩:=q1
 cases r1
 refine cO ?_
 cases c with
 | false=>exact hb pins s1 σ H1 Q I1 q1
 | true=>exact ⟨.bl true,H1,I1,rfl,q1⟩
def tIf (t:TT) (ta tb:TE):TE:=fun σ H Q=>t σ H fun c H1=>if c=true then ta σ H1 Q else tb σ H1 Q
theorem Bi {c:a8} (hc:PT X c tA) (ha:PE X a ta) (hb:PE X b tb):PE X (.IfExp c a b pos) (tIf tA ta tb):=by
 intro pins s σ H Q I h
 refine wpAny_IfExp (thn (hc pins s σ H _ I h) fun d s1 ⟨H1,I1,q1⟩=>?_)
 cases d with
 | true=>exact ha pins s1 σ H1 Q I1 q1
 | false=>exact hb pins s1 σ H1 Q I1 q1
end
def SqL (K:aa) (H:Hp) (a:ae) (xs:List V):Prop :=
 Rd H a (.lst xs) ∨
  ∃ (o:Obj) (its:Array ah) (n:Nat),K.lookup a=some o∧o.cls=.type "list"∧o.dict=none∧o.data=.seq its n∧its.size≤aI∧Vals xs its.toList
def SqT (K:aa) (H:Hp) (a:ae) (xs:List V):Prop :=
 Rd H a (.tup xs) ∨
  ∃ (o:Obj) (its:Array ah) (n:Nat),K.lookup a=some o∧o.cls=.type "tuple"∧o.data=.seq its n∧its.size≤aI∧Vals xs its.toList
def absV:ah→Option V
 | .none=>some .non
 | .bool b=>some (.bl b)
 | .int i _=>some (.int i)
 | .str x _=>some (.str x)
 | .bytes b _=>some (.byt b)
 | .float b _=>some (.flt b)
 | .ref a=>some (.ref a)
 | .type n=>some (.ty n)
 | _=>none
theorem RelV.abs {x:V}{u:ah} (r:RelV x u):absV u=some x:=by
 cases x with
 | non=>cases r;rfl
 | bl _=>cases r;rfl
 | int _=>obtain ⟨t,rfl⟩:=r;rfl
 | str _=>obtain ⟨t,rfl⟩:=r;rfl
 | byt _=>obtain ⟨t,rfl⟩:=r;rfl
 | flt _=>obtain ⟨t,rfl⟩:=r;rfl
 | ref _=>cases r;rfl
 | ty _=>cases r;rfl
theorem RelV.inj {x y:V}{u:ah} (r:RelV x u) (q:RelV y u):x=y:=aU (r.abs.symm.trans q.abs)
theorem Vals.inj:∀ {xs ys:List V}{us:List ah},Vals xs us→Vals ys us→xs=ys
 | _,_,_,.nil,.nil=>rfl
 | _,_,_,.cons r t,.cons r' t'=>by rw [r.inj r',Vals.inj t t']
section
variable {X:Cx}{pins:List (ae×Obj)}{σ:St}{H:Hp}{s:ao}{a:ae}{xs ys:List V}
theorem SqL.of {K:aa} (h:H a=some (.lst xs)):SqL K H a xs:=.inl (.inl h)
theorem SqT.of {K:aa} (h:H a=some (.tup xs)):SqT K H a xs:=.inl (.inl h)
theorem Inv.list (I:Inv X pins σ H s) (h:SqL X.K H a xs):∃ its:List ah,Vals xs its∧PlainL s.heap a its.toArray∧xs.length≤aI:=by
 rcases h with h | ⟨o,its,n,hk,hc,hd,hs,hz,r⟩
 ·obtain ⟨z,its,n,r,e⟩:=h.ok I.hok
  exact ⟨its,r,⟨_,n,e,rfl,rfl,rfl⟩,z⟩
 ·refine ⟨its.toList,r,⟨o,n,I.kIn a o hk,hc,hd,by simpa using hs⟩,?_⟩
  have e:=r.length
  simp only [eV] at e
  omega
theorem Inv.tuple (I:Inv X pins σ H s) (h:SqT X.K H a xs):∃ its:List ah,Vals xs its∧IsTup s.heap a its.toArray∧xs.length≤aI:=by
 rcases h with h | ⟨o,its,n,hk,hc,hs,hz,r⟩
 ·obtain ⟨z,its,r,p⟩:=h.ok I.hok
  exact ⟨its,r,p,z⟩
 ·refine ⟨its.toList,r,⟨o,I.kIn a o hk,hc,n,by simpa using hs⟩,?_⟩
  have e:=r.length
  simp only [eV] at e
  omega
theorem Inv.list_inj (I:Inv X pins σ H s) (h:SqL X.K H a xs) (h':SqL X.K H a ys):xs=ys:=by
 obtain ⟨its,r,⟨o,n,e,_,_,d⟩,_⟩:=I.list h
 obtain ⟨its',r',⟨o',n',e',_,_,d'⟩,_⟩:=I.list h'
 rw [e] at e';cases e'
 rw [d] at d'
 injection d' with d1 _
 have:its=its':=by simpa using congrArg Array.toList d1
 subst this
 exact r.inj r'
theorem Inv.tuple_inj (I:Inv X pins σ H s) (h:SqT X.K H a xs) (h':SqT X.K H a ys):xs=ys:=by
 obtain ⟨its,r,⟨o,e,_,n,d⟩,_⟩:=I.tuple h
 obtain ⟨its',r',⟨o',e',_,n',d'⟩,_⟩:=I.tuple h'
 rw [e] at e';cases e'
 rw [d] at d'
 injection d' with d1 _
 have:its=its':=by simpa using congrArg Array.toList d1
 subst this
 exact r.inj r'
end
abbrev Cx.wish (X:Cx) (E:ah→ao→Prop):Cx:={ X with xe:=E }
abbrev Cx.nox (X:Cx):Cx:=X.wish fun _ _=>False
theorem Cx.Ok.wish {X:Cx} (ok:X.Ok) (E:ah→ao→Prop):(X.wish E).Ok :=
 ⟨ok.mod,ok.kind,ok.glob,ok.blt,ok.above,ok.inj,ok.has,ok.cab,ok.hd,ok.frames,ok.stk,ok.exf,ok.bs,ok.bsz,ok.noex,ok.exfs,ok.funs,ok.frf⟩
theorem Cx.Ok.unwish {X:Cx}{E:ah→ao→Prop} (ok:(X.wish E).Ok):X.Ok :=
 ⟨ok.mod,ok.kind,ok.glob,ok.blt,ok.above,ok.inj,ok.has,ok.cab,ok.hd,ok.frames,ok.stk,ok.exf,ok.bs,ok.bsz,ok.noex,ok.exfs,ok.funs,ok.frf⟩
section
variable {X:Cx}{pins:List (ae×Obj)}{σ:St}{H:Hp}{s:ao}{E:ah→ao→Prop}
theorem Inv.wish (I:Inv X pins σ H s) (E:ah→ao→Prop):Inv (X.wish E) pins σ H s:=⟨I.ok.wish E,I.os,I.bare,I.base,I.loc,I.cell,I.free,I.freeC,I.pin,I.hok,I.len⟩
theorem Inv.unwish (I:Inv (X.wish E) pins σ H s):Inv X pins σ H s:=⟨I.ok.unwish,I.os,I.bare,I.base,I.loc,I.cell,I.free,I.freeC,I.pin,I.hok,I.len⟩
theorem SP.unwish {D:Ends}{f:Flow}{s':ao} (h:SP (X.wish E) pins D f s'):SP X pins D f s':=by
 cases f with
 | next=>obtain ⟨σ',H',I,q⟩:=h;exact ⟨σ',H',I.unwish,q⟩
 | brk=>obtain ⟨σ',H',I,q⟩:=h;exact ⟨σ',H',I.unwish,q⟩
 | cont=>obtain ⟨σ',H',I,q⟩:=h;exact ⟨σ',H',I.unwish,q⟩
 | ret u=>obtain ⟨v,σ',H',I,r,q⟩:=h;exact ⟨v,σ',H',I.unwish,r,q⟩
theorem PSs.nox {st:List bT}{t:TS} (h:PSs X.nox st t):PSs X st t:=fun pins s σ H D I hw =>
 bw (h pins s σ H D (I.wish _) hw) (fun _ _ q=>q.unwish) fun _ _ z=>bC z
end
section
variable {X:Cx}{st:bT}{mH:List bT}{t u:TS}{e:a8}{te:TE}{pos:Pos}
def tNext:TS:=fun D σ H=>D.nx σ H
def tSeq (t u:TS):TS:=fun D σ H=>t { D with nx:=u D } σ H
theorem pss_nil:PSs X [] tNext:=fun _ _ σ H _ I h=>gu ⟨σ,H,I,h⟩
theorem jS (h1:PS X st t) (h2:PSs X mH u):PSs X (st::mH) (tSeq t u):=by
 intro pins s σ H D I h
 refine wpAny_execs_cons (thn (h1 pins s σ H { D with nx:=u D } I h) fun f s1 q=>?_)
 cases f with
 | next =>
  obtain ⟨σ',H',I',q⟩:=q
  exact h2 pins s1 σ' H' D I' q
 | ret v=>exact q
 | brk=>exact q
 | cont=>exact q
theorem jY (h1:PS X st t):PSs X [st] t:=by
 intro pins s σ H D I h
 refine wpAny_execs_cons (thn (h1 pins s σ H D I h) fun f s1 q=>?_)
 cases f with
 | next=>exact gu q
 | ret v=>exact q
 | brk=>exact q
 | cont=>exact q
theorem Inv.quiet {pins:List (ae×Obj)}{σ:St}{H:Hp}{s:ao} (I:Inv X pins σ H s):interactive X.env=false:=by simp [interactive,I.ok.kind]
def tDrop (te:TE):TS:=fun D σ H=>te σ H fun _ H1=>D.nx σ H1
theorem kP (he:PE X e te) (hs:eW e none pos.line X.env=pure false:=by rfl):PS X (.Expr e pos) (tDrop te):=by
 intro pins s σ H D I h
 exact wpAny_Expr_any (thn (he pins s σ H _ I h) fun v s1 ⟨x,H1,I1,r1,q1⟩=>⟨σ,H1,I1,q1⟩) I.quiet hs
def tRet (te:TE):TS:=fun D σ H=>te σ H D.rt
theorem mG (he:PE X e te):PS X (.Return (some e) pos) (tRet te):=by
 intro pins s σ H D I h
 exact wpAny_Return_some (thn (he pins s σ H _ I h) fun v s1 ⟨x,H1,I1,r1,q1⟩=>⟨x,σ,H1,I1,r1,q1⟩)
def tIfS (c:TT) (t u:TS):TS:=fun D σ H=>c σ H fun b H1=>if b=true then t D σ H1 else u D σ H1
theorem qL {c:a8}{a b:List bT}{tc:TT} (hc:PT X c tc) (ha:PSs X a t) (hb:PSs X b u):PS X (.If c a b pos) (tIfS tc t u):=by
 intro pins s σ H D I h
 refine wpAny_If (thn (hc pins s σ H _ I h) fun d s1 ⟨H1,I1,q1⟩=>?_)
 cases d with
 | true=>exact ha pins s1 σ H1 D I1 q1
 | false=>exact hb pins s1 σ H1 D I1 q1
abbrev TG:=V→St→Hp→(St→Hp→Prop)→Prop
abbrev TGs:=List V→St→Hp→(St→Hp→Prop)→Prop
def PG (X:Cx) (target:a8) (t:TG):Prop :=
 ∀ (pins:List (ae×Obj)) (s:ao) (σ:St) (H:Hp) (v:V) (u:ah) (Q:St→Hp→Prop),Inv X pins σ H s→RelV v u→t v σ H Q →
  aZ (model X.prog X.w) X.A (assign target X.env u) (fun _ s'=>∃ σ' H',Inv X pins σ' H' s'∧Q σ' H') X.xe s
def PGs (X:Cx) (ts:List a8) (t:TGs):Prop :=
 ∀ (pins:List (ae×Obj)) (s:ao) (σ:St) (H:Hp) (vs:List V) (us:List ah) (Q:St→Hp→Prop),Inv X pins σ H s→Vals vs us→t vs σ H Q →
  aZ (model X.prog X.w) X.A (jr ((cn ts X.env).map (·.2)) us) (fun _ s'=>∃ σ' H',Inv X pins σ' H' s'∧Q σ' H') X.xe s
abbrev EM:=V→V→V→Hp→(Hp→Prop)→Prop
def PSet (X:Cx) (t:EM):Prop :=
 ∀ (pins:List (ae×Obj)) (s:ao) (σ:St) (H:Hp) (o i v:V) (ov iv u:ah) (Q:Hp→Prop),Inv X pins σ H s→RelV o ov→RelV i iv→RelV v u→t o i v H Q →
  aZ (model X.prog X.w) X.A (setItem ov iv u) (fun _ s'=>∃ H',Inv X pins σ H' s'∧Q H') X.xe s
def CO (i:Nat):TG:=fun v σ H Q=>Q (σ.set i (some v)) H
theorem wx {i:Nat}{x:Str} (hN:X.N.Nodup) (hi:X.N[i]?=some x) (hx:Loc X.env.scope x) (hf:X.fn x=true∨X.env.scope.names.lookup x=some .local:=by first | exact .inl rfl | exact .inr rfl | assumption):PG X (.Name x pos) (CO i):=by
 intro pins s σ H v u Q I r h
 exact wpAny_assign_Name (qK I hN hi hx r (fun s' I'=>⟨_,H,I',h⟩) hf)
def gNil:TGs:=fun vs σ H Q=>vs=[]∧Q σ H
def gCons (t:TG) (u:TGs):TGs:=fun vs σ H Q=>∃ v r,vs=v::r∧t v σ H fun σ' H'=>u r σ' H' Q
theorem pgs_nil:PGs X [] gNil:=by
 intro pins s σ H vs us Q I r h
 obtain ⟨e,h⟩:=h
 subst e
 cases r
 exact assignInOrder_nil ⟨σ,H,I,h⟩
theorem Bd {e:a8}{es:List a8}{t:TG}{u:TGs} (h1:PG X e t) (h2:PGs X es u)
  (hs:(cn (e::es) X.env).map (·.2)=assign e X.env::(cn es X.env).map (·.2):=by rfl):PGs X (e::es) (gCons t u):=by
 intro pins s σ H vs us Q I r h
 obtain ⟨v,vr,e1,h⟩:=h
 subst e1
 cases r with
 | cons r rr =>
  rw [hs]
  refine hJ (thn (h1 pins s σ H _ _ _ I r h) fun _ s1 ⟨σ1,H1,I1,q1⟩=>?_)
  exact h2 pins s1 σ1 H1 _ _ Q I1 rr q1
def gTup (K:aa) (n:Nat) (t:TGs):TG:=fun v σ H Q=>∃ a xs,v=.ref a∧SqT K H a xs∧xs.length=n∧t xs σ H Q
theorem Fa {es:List a8}{k:Nat}{t:TGs}{n:Nat} (hc:X.calm=true) (h:PGs X es t)
  (hn:(cn es X.env).length=n:=by rfl) (hst:(cn es X.env).findIdx? (·.1)=none:=by rfl):PG X (.Tuple es k pos) (gTup X.K n t):=by
 intro pins s σ H v u Q I r hw
 obtain ⟨a,xs,e1,hq,hl,hw⟩:=hw
 subst e1
 cases r
 obtain ⟨its,rv,ht,hz⟩:=I.tuple hq
 refine assign_Tuple_tuple (I.ok.hd hc) ht (by simp [hn,← hl,rv.length]) hst fun h' hx=>?_
 have I1:Inv X pins σ H { s with heap:=h' }:=I.kept (t':=s.toks) fun b o e=>hx b o (aQ (aK e)) e
 exact h pins _ σ H xs _ Q I1 (by simpa using rv) hw
def gSub (to ti:TE) (t:EM):TG:=fun v σ H Q=>to σ H fun o H1=>ti σ H1 fun i H2=>t o i v H2 fun H3=>Q σ H3
theorem Fb {o i:a8}{to ti:TE}{t:EM} (ho:PE X o to) (hi:PE X i ti) (hs:PSet X t)
  (ha:∀ v,assign (.Subscript o i pos) X.env v=(do
   let ov ← holding [v] (eval o X.env)
   let iv ← holding [v,ov] (eval i X.env)
   fS pos
   holding [v,ov,iv] (setItem ov iv v)
   release [v,ov,iv] []):=by intro _;rfl):PG X (.Subscript o i pos) (gSub to ti t):=by
 intro pins s σ H v u Q I r h
 rw [ha]
 refine av (dR (thn (ho pins s σ H _ I h) fun ov s1 ⟨x,H1,I1,r1,q1⟩=>?_))
 refine av (dR (thn (hi pins s1 σ H1 _ I1 q1) fun iv s2 ⟨y,H2,I2,r2,q2⟩=>?_))
 refine av (fV (av (dR (thn (hs pins s2 σ H2 x y v ov iv u _ I2 r1 r2 r q2) fun _ s3 ⟨H3,I3,q3⟩=>?_))))
 exact wpAny_release ⟨σ,H3,I3,q3⟩
def FV (te:TE) (g:TG):TS:=fun D σ H=>te σ H fun x H1=>g x σ H1 D.nx
theorem Cn {tg e:a8}{te:TE}{g:TG} (he:PE X e te) (hg:PG X tg g) (hs:fX [tg] e pos.line X.env=pure false:=by rfl) (hw:fY [tg] e X.env=pure none:=by rfl)
  (h1:(cn [tg] X.env).map (·.2)=[assign tg X.env]:=by rfl):PS X (.Assign [tg] e pos) (FV te g):=by
 intro pins s σ H D I h
 refine wpAny_Assign_stores (thn (he pins s σ H _ I h) fun v s1 ⟨x,H1,I1,r1,q1⟩=>?_) hs hw
 rw [h1]
 exact thn (hg pins s1 σ H1 x v _ I1 r1 q1) fun _ s2 q=>q
theorem nK {i:Nat}{x:Str}{e:a8}{te:TE}{pos':Pos} (hN:X.N.Nodup) (hi:X.N[i]?=some x) (hx:Loc X.env.scope x) (he:PE X e te) (hs:eW e (some (.Name x pos')) pos.line X.env=pure false:=by rfl) (hf:X.fn x=true∨X.env.scope.names.lookup x=some .local:=by first | exact .inl rfl | exact .inr rfl | assumption) :
  PS X (.Assign [.Name x pos'] e pos) (FV te (CO i)):=by
 intro pins s σ H D I h
 refine wpAny_Assign_Name (thn (he pins s σ H _ I h) fun v s1 ⟨y,H1,I1,r1,q1⟩=>?_) hs
 exact qK I1 hN hi hx r1 (fun s2 I2=>⟨_,H1,I2,q1⟩) hf
def tPar (i j:Nat) (ta:TA):TS:=fun D σ H=>ta σ H fun vs H1=>∃ v w,vs=[v,w]∧D.nx ((σ.set i (some v)).set j (some w)) H1
theorem E8 {i j:Nat}{x y:Str}{a b:a8}{ta:TA}{px py pt:Pos}{kt k2 pt2} (hc:X.calm=true) (hN:X.N.Nodup) (hi:X.N[i]?=some x) (hj:X.N[j]?=some y) (hij:i≠j)
  (hx:X.env.scope.names.lookup x=some .local) (hy:X.env.scope.names.lookup y=some .local) (ha:PA X [a,b] ta)
  (hw:fY [.Tuple [.Name x px,.Name y py] kt pt] (.Tuple [a,b] k2 pt2) X.env=pure (some [x,y]))
  (hs:fX [.Tuple [.Name x px,.Name y py] kt pt] (.Tuple [a,b] k2 pt2) pos.line X.env=pure false:=by rfl) :
  PS X (.Assign [.Tuple [.Name x px,.Name y py] kt pt] (.Tuple [a,b] k2 pt2) pos) (tPar i j ta):=by
 intro pins s σ H D I h
 rw [exec_Assign_arm]
 refine av (fV ?_)
 rw [hs]
 refine av (aS ?_)
 rw [if_neg (by decide)]
 refine av (Tuple_ (thn (ha _ pins s σ H _ I h) fun us s1 ⟨vs,H1,I1,r1,q1⟩=>?_))
 obtain ⟨v,w,e1,q1⟩:=q1
 subst e1
 obtain ⟨u1,u2,rfl,rv,rw'⟩:∃ u1 u2,us=[u1,u2]∧RelV v u1∧RelV w u2:=by
  cases r1 with
  | cons p q =>
   cases q with
   | cons p' q' =>
    cases q'
    exact ⟨_,_,rfl,p,p'⟩
 refine cP ?_ (by show 2≤aI;decide)
 have I2:Inv X pins σ H1 { s1 with heap:=s1.heap.push { cls:=.type "tuple",data:=.seq [u1,u2].toArray } }:=I1.kept (t':=s1.toks) fun b o e=>ay _ e
 rw [hw]
 refine av (aS ?_)
 show aZ (model X.prog X.w) X.A (do rule "assign.swapped-stores";let items ← unpackItems (.ref s1.heap.objs.size) 2 none;jr [fun v=>bindName X.env y v,fun v=>bindName X.env x v] items.reverse;pure Flow.next) _ _ _
 refine av (wpAny_rule (av (unpackItems_tuple (items:=#[u1,u2]) (I.ok.hd hc) (iS s1.heap _) fun h' hx'=>?_)))
 have I3:=I2.kept (h':=h') (t':=s1.toks) fun b o e=>hx' b o (aQ (aK e)) e
 show aZ _ _ (jr [fun v=>bindName X.env y v,fun v=>bindName X.env x v] [u2,u1] >>= fun _=>pure Flow.next) _ _ _
 refine av (hJ (wpAny_bindName (qK I3 hN hj (.inl hy) rw' (fun s2 I4=>?_) (.inr hy))))
 refine hJ (wpAny_bindName (qK I4 hN hi (.inl hx) rv (fun s3 I5=>assignInOrder_nil (aS ?_)) (.inr hx)))
 rw [List.set_comm _ _ (fJ hij)] at I5
 exact ⟨_,H1,I5,q1⟩
def EU (c:TT) (tb:TS):TS:=fun D σ H=>∃ W:Nat→St→Hp→Prop,(∃ m,W m σ H)∧∀ m σ H,W m σ H →
 c σ H fun b H1=>if b=true then ∃ N:St→Hp→Prop,(∀ σ' H',N σ' H'→∃ m',m' < m∧W m' σ' H')∧tb { D with nx:=N,ct:=N,bk:=D.nx } σ H1 else D.nx σ H1
theorem xF {c:a8}{body:List bT}{tc:TT}{tb:TS} (hp:PassesOwn (model X.prog X.w) X.A X.env X.xe) (hc:PT X c tc) (hb:PSs X body tb):PS X (.While c body [] pos) (EU tc tb):=by
 intro pins s σ H D I h
 obtain ⟨W,⟨m0,w0⟩,turn⟩:=h
 refine wpAny_While (codeAny_whileLoop (fun n s'=>∃ σ' H',Inv X pins σ' H' s'∧W n σ' H') ?_ m0 ⟨σ,H,I,w0⟩)
 rintro n s1 ⟨σ1,H1,I1,w1⟩
 refine dk hp (thn (hc pins s1 σ1 H1 _ I1 (turn n σ1 H1 w1)) fun b s2 ⟨H2,I2,q2⟩=>?_)
 cases b with
 | true =>
  obtain ⟨N,hN,q2⟩:=q2
  rw [if_pos rfl]
  refine dk hp (thn (hb pins s2 σ1 H2 _ I2 q2) fun f s3 q3=>?_)
  cases f with
  | next =>
   obtain ⟨σ3,H3,I3,n3⟩:=q3
   obtain ⟨m',hm,w3⟩:=hN σ3 H3 n3
   exact ⟨m',hm,σ3,H3,I3,w3⟩
  | cont =>
   obtain ⟨σ3,H3,I3,n3⟩:=q3
   obtain ⟨m',hm,w3⟩:=hN σ3 H3 n3
   exact ⟨m',hm,σ3,H3,I3,w3⟩
  | brk=>exact q3
  | ret v=>exact q3
 | false =>
  rw [if_neg a6]
  exact gu ⟨σ1,H2,I2,q2⟩
end
structure It where
 go:Nat→Hp→Prop
 yld:Nat→Hp→V→Hp→Prop
 stop:Nat→Hp→Prop
def vQ (X:Cx) (pins:List (ae×Obj)) (H:Hp) (b:ae):Prop :=
 H b=none∧b≠X.env.locals∧b∉X.fs∧(b∈X.ex∨X.s₀.heap.objs.size≤b)∧(∀ x c,X.env.cells.lookup x=some c→c≠b)∧∀ p∈X.pn++pins,p.1≠b
theorem Inv.fpOk {X:Cx}{pins:List (ae×Obj)}{σ:St}{H H':Hp}{s:ao}{b:ae} (I:Inv X pins σ H s) (hb:s.heap.objs.size≤b) (hn:H' b=none):vQ X pins H' b:=by
 refine ⟨hn,jf (aH I.lt hb),I.nofs hb,.inr (aJ I.sz hb),fun x c e z=>?_,fun p hp z=>?_⟩
 ·obtain ⟨v,q⟩:=I.cell x c e
  exact absurd (aH q.lt (by rw [z];exact hb)) (cC _)
 ·exact absurd (aH (aK (I.pin p hp).1) (by rw [z];exact hb)) (cC _)
structure Turn (P:aT) (w:bv) (K:aa) (tg:a8) (J:It) (fp:List ae) (it:ae) (tn:Nat→bM→Prop):Prop where
 mem:it∈fp
 obj:∀ i h,tn i h→∀ b∈fp,∃ o,h.get? b=some o∧∀ v,o.data≠.cell v
 keep:∀ i h h',tn i h→(∀ b∈fp,∀ o,h.get? b=some o→h'.get? b=some o)→tn i h'
 item:∀ (X:Cx),X.prog=P→X.w=w→X.K=K→X.calm=true→∀ (i:Nat) (pins:List (ae×Obj)) (s:ao) (σ:St) (H:Hp) (E:ah→ao→Prop),Inv X pins σ H s→(∀ b∈fp,vQ X pins H b)→tn i s.heap→J.go i H →
  aZ (model P w) X.A (pyNext (.ref it)) (fun r s1=>∃ u,r=some u ∧
   aZ (model P w) X.A (gv tg (.ref it) u) (fun _ s2=>∃ x H',Inv X pins σ H' s2∧RelV x u∧J.yld i H x H'∧tn (i+1) s2.heap∧∀ b∈fp,H' b=none) E s1) E s
 done:∀ (X:Cx),X.prog=P→X.w=w→X.K=K→X.calm=true→∀ (i:Nat) (pins:List (ae×Obj)) (s:ao) (σ:St) (H:Hp) (E:ah→ao→Prop),Inv X pins σ H s→(∀ b∈fp,vQ X pins H b)→tn i s.heap→J.stop i H →
  aZ (model P w) X.A (pyNext (.ref it)) (fun r s1=>r=none∧Inv X pins σ H s1) E s
 self:∀ (A:bL) (i:Nat) (s:ao) (Q:ah→ao→Prop) (E:ah→ao→Prop),tn i s.heap→Q (.ref it) s→aZ (model P w) A (pyIter (.ref it)) Q E s
abbrev TI:=St→Hp→(It→Hp→Prop)→Prop
def PIE (X:Cx) (pins:List (ae×Obj)) (σ:St) (tg:a8) (R:It→Hp→Prop) (itv:ah) (s2:ao):Prop :=
 ∃ (it:ae) (fp:List ae) (tn:Nat→bM→Prop) (J:It) (H':Hp),itv=.ref it∧Inv X pins σ H' s2∧Turn X.prog X.w X.K tg J fp it tn∧tn 0 s2.heap∧(∀ b∈fp,vQ X pins H' b)∧R J H'
def PI (X:Cx) (tg iter:a8) (wi:TI):Prop :=
 ∀ (pins:List (ae×Obj)) (s:ao) (σ:St) (H:Hp) (R:It→Hp→Prop),Inv X pins σ H s→wi σ H R →
  aZ (model X.prog X.w) X.A (eval iter X.env) (fun v s1=>aZ (model X.prog X.w) X.A (pyIter v) (PIE X pins σ tg R) X.xe s1) X.xe s
theorem yL {M:Model}{A:bL}{E:ah→ao→Prop}{s:ao}{tg:a8}{it:ae}{u:ah}{o:Obj}{n:String}{vs:Array ah}{Q:Unit→ao→Prop} (ho:s.heap.get? it=some o) (hc:o.cls=.type n) (hd:o.data=.fields vs)
  (hn:["enumerate","zip","dict_itemiterator","dict_reverseitemiterator","odict_iterator","itertools.zip_longest","itertools.pairwise"].contains n=false) (hQ:Q () s):aZ M A (gv tg (.ref it) u) Q E s:=by
 unfold gv
 cases tg <;> first
  | exact aS hQ
  | (cases u <;> first
    | exact aS hQ
    | (refine av (wpAny_load ho ?_)
       rw [hc,hd]
       show aZ M A (if (["enumerate","zip","dict_itemiterator","dict_reverseitemiterator","odict_iterator","itertools.zip_longest","itertools.pairwise"].contains n && vs[0]? == some (rawInt _))=true then _ else _) Q E s
       rw [if_neg (by intro h;rw [hn,dy] at h;cases h)]
       exact aS hQ))
def Itl (K:aa) (a:ae):It :=
 ⟨fun i H=>∃ xs x,SqL K H a xs∧xs[i]?=some x,fun i H x H'=>H'=H∧∀ xs,SqL K H a xs→xs[i]?=some x,fun i H=>∃ xs,SqL K H a xs∧xs.length≤i⟩
def Itt (K:aa) (a:ae):It :=
 ⟨fun i H=>∃ xs x,SqT K H a xs∧xs[i]?=some x,fun i H x H'=>H'=H∧∀ xs,SqT K H a xs→xs[i]?=some x,fun i H=>∃ xs,SqT K H a xs∧xs.length≤i⟩
def Itr (lo:Int) (n:Nat):It:=⟨fun i _=>i < n,fun i H x H'=>H'=H∧x=.int (lo+i),fun i _=>n≤i⟩
theorem vb {P:aT}{w:bv}{K:aa}{tg:a8} (a it:ae):Turn P w K tg (Itl K a) [it] it (fun i h=>h.IsListIter it a i) where
 mem:=by simp
 obj:=fun i h st b hb=>by
  have e:b=it:=by simpa using hb
  subst e
  obtain ⟨o,e,c,d⟩:=st
  exact ⟨o,e,fun v z=>by rw [d] at z;cases z⟩
 keep:=fun i h h' st k=>st.at fun o e=>k it (by simp) o e
 item:=by
  intro X hP hw hK hc i pins s σ H E I hf st hg
  subst hP hw hK
  obtain ⟨xs,x,hq,hx⟩:=hg
  obtain ⟨its,rv,p,hz⟩:=I.list hq
  obtain ⟨u,hu,ru⟩:=rv.get hx
  obtain ⟨f0,f1,f2,f3,f4,f5⟩:=hf it (by simp)
  refine wpAny_pyNext_list_item st p.isList (x:=u) (by simpa using hu) fun h' st' sb=>?_
  have I1:Inv X pins σ H { s with heap:=h' }:=I.turned (t':=s.toks) (fun b o hb e=>(sb.2 b hb).trans e) f0 f1 f3 f4 f5
  obtain ⟨o,e,c,d⟩:=id st'
  exact ⟨u,rfl,yL (s:={ s with heap:=h' }) e c d (by decide) ⟨x,H,I1,ru,⟨rfl,fun ys hy=>by rw [I.list_inj hy hq];exact hx⟩,st',fun b hb=>(hf b hb).1⟩⟩
 done:=by
  intro X hP hw hK hc i pins s σ H E I hf st hg
  subst hP hw hK
  obtain ⟨xs,hq,hx⟩:=hg
  obtain ⟨its,rv,p,hz⟩:=I.list hq
  obtain ⟨f0,f1,f2,f3,f4,f5⟩:=hf it (by simp)
  have hl:=rv.length
  exact wpAny_pyNext_list_end (I.ok.hd hc) st p.isList (by simp;omega) fun h' eb=>⟨rfl,I.turned (t':=s.toks) (fun b o hb e=>eb b o hb e) f0 f1 f3 f4 f5⟩
 self:=fun _ _ _ _ _ st h=>wpAny_pyIter_listiter st h
theorem yi {P:aT}{w:bv}{K:aa}{tg:a8} (a it:ae):Turn P w K tg (Itt K a) [it] it (fun i h=>h.IsTupleIter it a i) where
 mem:=by simp
 obj:=fun i h st b hb=>by
  have e:b=it:=by simpa using hb
  subst e
  obtain ⟨o,e,c,d⟩:=st
  exact ⟨o,e,fun v z=>by rw [d] at z;cases z⟩
 keep:=fun i h h' st k=>st.at fun o e=>k it (by simp) o e
 item:=by
  intro X hP hw hK hc i pins s σ H E I hf st hg
  subst hP hw hK
  obtain ⟨xs,x,hq,hx⟩:=hg
  obtain ⟨its,rv,p,hz⟩:=I.tuple hq
  obtain ⟨u,hu,ru⟩:=rv.get hx
  obtain ⟨f0,f1,f2,f3,f4,f5⟩:=hf it (by simp)
  refine wpAny_pyNext_tuple_item st (show s.heap.IsTuple a its.toArray from p) (x:=u) (by simpa using hu) fun h' st' sb=>?_
  have I1:Inv X pins σ H { s with heap:=h' }:=I.turned (t':=s.toks) (fun b o hb e=>(sb.2 b hb).trans e) f0 f1 f3 f4 f5
  obtain ⟨o,e,c,d⟩:=id st'
  exact ⟨u,rfl,yL (s:={ s with heap:=h' }) e c d (by decide) ⟨x,H,I1,ru,⟨rfl,fun ys hy=>by rw [I.tuple_inj hy hq];exact hx⟩,st',fun b hb=>(hf b hb).1⟩⟩
 done:=by
  intro X hP hw hK hc i pins s σ H E I hf st hg
  subst hP hw hK
  obtain ⟨xs,hq,hx⟩:=hg
  obtain ⟨its,rv,p,hz⟩:=I.tuple hq
  obtain ⟨f0,f1,f2,f3,f4,f5⟩:=hf it (by simp)
  have hl:=rv.length
  exact wpAny_pyNext_tuple_end (I.ok.hd hc) st (show s.heap.IsTuple a its.toArray from p) (by simp;omega) fun h' eb=>⟨rfl,I.turned (t':=s.toks) (fun b o hb e=>eb b o hb e) f0 f1 f3 f4 f5⟩
 self:=fun _ _ _ _ _ st h=>wpAny_pyIter_tupleiter st h
theorem yj {P:aT}{w:bv}{K:aa}{tg:a8} (it:ae) (lo:Int) (n:Nat):Turn P w K tg (Itr lo n) [it] it (fun i h=>IsRangeIter h it (lo+(i:Nat) * 1) ((n:Int) - (i:Nat)) 1) where
 mem:=by simp
 obj:=fun i h st b hb=>by
  have e:b=it:=by simpa using hb
  subst e
  exact ⟨_,st,fun v z=>by
   have z':Data.fields _=Data.cell v:=z
   cases z'⟩
 keep:=fun i h h' st k=>k it (by simp) _ st
 item:=by
  intro X hP hw hK hc i pins s σ H E I hf st hg
  subst hP hw hK
  obtain ⟨f0,f1,f2,f3,f4,f5⟩:=hf it (by simp)
  have W:=Walks.range (prog:=X.prog) (w:=X.w) (I.ok.hd hc) it lo 1 n
  refine W.item i s _ _ hg st fun v h' tk hv st' kk=>?_
  obtain ⟨t,rfl⟩:=hv
  have I1:Inv X pins σ H { s with heap:=h',toks:=tk }:=I.turned (fun b o hb e=>kk b o (by simpa using hb) e) f0 f1 f3 f4 f5
  refine ⟨_,rfl,yL (s:={ s with heap:=h',toks:=tk }) (n:="range_iterator") st' rfl rfl (by decide) ⟨.int (lo+i),H,I1,⟨t,?_⟩,⟨rfl,rfl⟩,st',fun b hb=>(hf b hb).1⟩⟩
  rw [jx]
 done:=by
  intro X hP hw hK hc i pins s σ H E I hf st hg
  subst hP hw hK
  obtain ⟨f0,f1,f2,f3,f4,f5⟩:=hf it (by simp)
  exact wpAny_pyNext_range_end (I.ok.hd hc) st (by have:n≤i:=hg;omega) fun h' eb=>⟨rfl,I.turned (t':=s.toks) (fun b o hb e=>eb b o hb e) f0 f1 f3 f4 f5⟩
 self:=fun _ _ _ _ _ st h=>wpAny_pyIter_rangeiter st h
section
variable {X:Cx}{tg:a8}
def iList (K:aa) (tl:TE):TI:=fun σ H R=>tl σ H fun x H1=>∃ a,x=.ref a∧(∃ xs,SqL K H1 a xs)∧R (Itl K a) H1
theorem zq {l:a8}{tl:TE} (hl:PE X l tl):PI X tg l (iList X.K tl):=by
 intro pins s σ H R I h
 refine thn (hl pins s σ H _ I h) fun v s1 ⟨x,H1,I1,r1,q1⟩=>?_
 obtain ⟨a,e,⟨xs,hq⟩,q⟩:=q1
 subst e
 cases r1
 obtain ⟨its,rv,p,hz⟩:=I1.list hq
 refine fR p.isList ?_
 refine ⟨s1.heap.objs.size,[s1.heap.objs.size],_,_,H1,rfl,I1.kept (t':=s1.toks) fun b o e=>ay _ e,vb a _,⟨_,bj _ rfl,rfl,rfl⟩,fun b hb=>?_,q⟩
 have e:b=s1.heap.objs.size:=by simpa using hb
 subst e
 exact I1.fpOk (az _) (I1.hok.fresh (az _))
theorem A7 {pins:List (ae×Obj)}{σ:St}{H:Hp}{s:ao}{R:It→Hp→Prop}{E:ah→ao→Prop}{lo hi:Int}{t u v:Tok}{tk:Nat} (I:Inv X pins σ H s) (h1:-(2 ^ 62)≤lo) (h2:lo < 2 ^ 62) (h3:-(2 ^ 62)≤hi) (h4:hi < 2 ^ 62)
  (q:R (Itr lo (hi - lo).toNat) H):aZ (model X.prog X.w) X.A (pyIter (.ref s.heap.objs.size)) (PIE X pins σ tg R) E { s with heap:=s.heap.push { cls:=.type "range",data:=.fields #[.int lo t,.int hi u,.int 1 v] },toks:=tk }:=by
 refine wpAny_pyIter_range (IsRange.new ..) (small_one h1 h2 h3 h4) ?_
 have I1:Inv X pins σ H { s with heap:=s.heap.push { cls:=.type "range",data:=.fields #[.int lo t,.int hi u,.int 1 v] },toks:=tk }:=I.kept fun b o e=>ay _ e
 refine ⟨(s.heap.push { cls:=.type "range",data:=.fields #[.int lo t,.int hi u,.int 1 v] }).objs.size,[(s.heap.push { cls:=.type "range",data:=.fields #[.int lo t,.int hi u,.int 1 v] }).objs.size],_,_,H,rfl,
  I1.kept (t':=tk) fun b o e=>ay _ e,yj _ lo (hi - lo).toNat,?_,fun b hb=>?_,q⟩
 ·have e1:lo+((0:Nat):Int) * 1=lo:=by simp
  have e2:(((hi - lo).toNat:Nat):Int) - ((0:Nat):Int)=Builtin.Range.rangeSize lo hi 1:=by rw [rangeSize_one];split <;> omega
  show IsRangeIter _ _ (lo+((0:Nat):Int) * 1) ((((hi - lo).toNat:Nat):Int) - ((0:Nat):Int)) 1
  rw [e1,e2]
  exact bj _ rfl
 ·have e:b=(s.heap.push { cls:=.type "range",data:=.fields #[.int lo t,.int hi u,.int 1 v] }).objs.size:=by simpa using hb
  subst e
  exact I1.fpOk (az _) (I1.hok.fresh (az _))
def iRng1 (ta:TA):TI:=fun σ H R=>ta σ H fun vs H1=>∃ j:Int,vs=[.int j]∧-(2 ^ 62)≤j∧j < 2 ^ 62∧R (Itr 0 j.toNat) H1
theorem z8 {a:a8}{ta:TA}{p pos:Pos} (hg:Gl X "range") (hm:X.mg "range"=none) (ha:PA X [a] ta) (hs:aR [a] X.env=[(false,eval a X.env)]:=by rfl):PI X tg (.Call (.Name "range" p) [a] [] pos) (iRng1 ta):=by
 intro pins s σ H R I h
 refine Call_ (wM I hg hm boot_range (gD (thn (ha pos pins s σ H _ I h) fun us s1 ⟨vs,H1,I1,r1,q1⟩=>?_) hs rfl))
 obtain ⟨j,e,q1,q2,q⟩:=q1
 subst e
 cases r1 with
 | cons r rr =>
  cases rr
  obtain ⟨t,rfl⟩:=r
  exact call_range_1 (A7 I1 (by omega) (by omega) q1 q2 (by simpa using q))
def tFor (wi:TI) (g:TG) (tb:TS):TS:=fun D σ H=>wi σ H fun J H1=>∃ W:Nat→Nat→St→Hp→Prop,(∃ m,W 0 m σ H1)∧∀ i m σ H,W i m σ H →
 (J.stop i H∧D.nx σ H)∨(J.go i H∧∃ N:St→Hp→Prop,(∀ σ' H',N σ' H'→∃ m',m' < m∧W (i+1) m' σ' H')∧∀ x H',J.yld i H x H'→g x σ H' fun σ2 H2=>tb { D with nx:=N,ct:=N,bk:=D.nx } σ2 H2)
def sD (fp:List ae) (h:bM):List (ae×Obj):=fp.filterMap fun b=>(h.get? b).map fun o=>(b,o)
theorem md {fp:List ae}{h:bM}{b:ae}{o:Obj} (hb:b∈fp) (e:h.get? b=some o):(b,o)∈sD fp h:=gH.mpr ⟨b,hb,by rw [e];rfl⟩
theorem Ad {fp:List ae}{h:bM}{p:ae×Obj} (hp:p∈sD fp h):p.1∈fp∧h.get? p.1=some p.2:=by
 obtain ⟨b,hb,e⟩:=gH.mp hp
 cases q:h.get? b with
 | none=>rw [q] at e;cases e
 | some o =>
  rw [q] at e
  have e':(b,o)=p:=aU e
  subst e'
  exact ⟨hb,q⟩
theorem Inv.pinned {pins:List (ae×Obj)}{σ:St}{H:Hp}{s:ao}{fp:List ae} (I:Inv X pins σ H s) (hf:∀ b∈fp,vQ X pins H b) (ho:∀ b∈fp,∃ o,s.heap.get? b=some o∧∀ v,o.data≠.cell v):Inv X (pins++sD fp s.heap) σ H s :=
 I.pins_of fun p hp=>(aX.mp hp).elim (fun z=>I.pin p (aP _ z)) fun z=>by
  obtain ⟨hb,e⟩:=Ad z
  obtain ⟨f0,f1,f2,_⟩:=hf p.1 hb
  obtain ⟨o,e',d⟩:=ho p.1 hb
  rw [e] at e';cases e'
  exact ⟨e,f0,f1,f2,d⟩
theorem Inv.unpinned {pins pl:List (ae×Obj)}{σ:St}{H:Hp}{s:ao} (I:Inv X (pins++pl) σ H s):Inv X pins σ H s:=I.pins_of fun p hp=>I.pin p (aP _ (bV _ hp))
theorem Cm {iter:a8}{body:List bT}{wi:TI}{g:TG}{tb:TS}{pos:Pos} (hp:PassesOwn (model X.prog X.w) X.A X.env X.xe) (hc:X.calm=true) (hi:PI X tg iter wi) (hg:PG X tg g) (hb:PSs X body tb)
  (hs:∀ x,bY iter X.env x=pure x:=by intro _;rfl):PS X (.For tg iter body [] pos) (tFor wi g tb):=by
 intro pins s σ H D I h
 refine wpAny_For (thn (hi pins s σ H _ I h) fun v s1 h1=>thn h1 fun itv s2 h2=>?_) hs
 obtain ⟨it,fp,tn,J,H2,e,I2,T,st2,f2,W,⟨m0,w0⟩,turn⟩:=h2
 subst e
 have stat:∀ {H':Hp},(∀ b∈fp,H' b=none)→∀ b∈fp,vQ X pins H' b:=fun hn b hb=>⟨hn b hb,(f2 b hb).2⟩
 refine codeAny_forLoop_any (fun n s'=>∃ i σ' H',Inv X pins σ' H' s'∧tn i s'.heap∧(∀ b∈fp,H' b=none)∧W i n σ' H') ?_ m0 ⟨0,σ,H2,I2,st2,fun b hb=>(f2 b hb).1,w0⟩
 rintro n s3 ⟨i,σ3,H3,I3,st3,fr3,w3⟩
 rcases turn i n σ3 H3 w3 with ⟨stop,qn⟩ | ⟨go,N,hN,step⟩
 ·refine dk hp (thn (T.done X rfl rfl rfl hc i pins s3 σ3 H3 X.xe I3 (stat fr3) st3 stop) fun r s4 ⟨hr,I4⟩=>?_)
  subst hr
  exact gu ⟨σ3,H3,I4,qn⟩
 ·refine dk hp (thn (T.item X rfl rfl rfl hc i pins s3 σ3 H3 X.xe I3 (stat fr3) st3 go) fun r s4 ⟨u,hr,h4⟩=>?_)
  subst hr
  refine dk hp (thn h4 fun _ s5 ⟨x,H5,I5,r5,y5,st5,fr5⟩=>?_)
  have I5':=I5.pinned (stat fr5) (T.obj _ _ st5)
  refine dk hp (thn (hg _ s5 σ3 H5 x u _ I5' r5 (step x H5 y5)) fun _ s6 ⟨σ6,H6,I6,q6⟩=>?_)
  refine dk hp (thn (hb _ s6 σ6 H6 _ I6 q6) fun f s7 q7=>?_)
  have again:∀ {σ7:St}{H7:Hp},Inv X (pins++sD fp s5.heap) σ7 H7 s7→N σ7 H7→∃ m,m < n∧∃ i σ' H',Inv X pins σ' H' s7∧tn i s7.heap∧(∀ b∈fp,H' b=none)∧W i m σ' H':=fun {σ7 H7} I7 n7=>by
   obtain ⟨m',hm,w7⟩:=hN σ7 H7 n7
   refine ⟨m',hm,i+1,σ7,H7,I7.unpinned,T.keep _ _ _ st5 fun b hb o e=>(I7.pin (b,o) (aP _ (aP _ (md hb e)))).1,fun b hb=>?_,w7⟩
   obtain ⟨o,e,d⟩:=T.obj _ _ st5 b hb
   exact (I7.pin (b,o) (aP _ (aP _ (md hb e)))).2.1
  cases f with
  | next=>obtain ⟨σ7,H7,I7,n7⟩:=q7;exact again I7 n7
  | cont=>obtain ⟨σ7,H7,I7,n7⟩:=q7;exact again I7 n7
  | brk=>obtain ⟨σ7,H7,I7,q7⟩:=q7;exact ⟨σ7,H7,I7.unpinned,q7⟩
  | ret v=>obtain ⟨x7,σ7,H7,I7,r7,q7⟩:=q7;exact ⟨x7,σ7,H7,I7.unpinned,r7,q7⟩
end
theorem BI {K:aa}{a:ae}{xs:List V}{g:TG}{tb:TS}{D:Ends}{σ:St}{H:Hp} (Pv:Nat→St→Hp→Prop) (h0:Pv 0 σ H) (hl:∀ i σ H,i≤xs.length→Pv i σ H→SqL K H a xs)
  (hs:∀ i x σ H,xs[i]?=some x→Pv i σ H→g x σ H fun σ2 H2=>tb { D with nx:=Pv (i+1),ct:=Pv (i+1),bk:=D.nx } σ2 H2) (hd:∀ σ H,Pv xs.length σ H→D.nx σ H) :
  ∃ W:Nat→Nat→St→Hp→Prop,(∃ m,W 0 m σ H)∧∀ i m σ H,W i m σ H →
   ((Itl K a).stop i H∧D.nx σ H)∨((Itl K a).go i H∧∃ N:St→Hp→Prop,(∀ σ' H',N σ' H'→∃ m',m' < m∧W (i+1) m' σ' H')∧∀ x H',(Itl K a).yld i H x H'→g x σ H' fun σ2 H2=>tb { D with nx:=N,ct:=N,bk:=D.nx } σ2 H2):=by
 refine ⟨fun i m σ H=>m=xs.length - i∧i≤xs.length∧Pv i σ H,⟨xs.length,by simp,bc _,h0⟩,?_⟩
 rintro i m σ H ⟨rfl,hi,p⟩
 have q:=hl i σ H hi p
 by_cases hlt:i < xs.length
 ·refine .inr ⟨⟨xs,xs[i],q,by simp [hlt]⟩,Pv (i+1),fun σ' H' p'=>⟨xs.length - (i+1),by omega,rfl,hlt,p'⟩,fun x H' y=>?_⟩
  obtain ⟨e,y⟩:=y
  subst e
  exact hs i x σ _ (y xs q) p
 ·have e:i=xs.length:=by omega
  subst e
  exact .inl ⟨⟨xs,q,az _⟩,hd σ H p⟩
abbrev R2:=V→V→Hp→VK→Prop
def OpR (X:Cx) (f:ah→ah→Sem ah) (r:R2):Prop :=
 ∀ (pins:List (ae×Obj)) (s:ao) (σ:St) (H:Hp) (x y:V) (v u:ah) (Q:VK),Inv X pins σ H s→RelV x v→RelV y u→r x y H Q →
  aZ (model X.prog X.w) X.A (f v u) (EP X pins σ Q) X.xe s
def UnR (X:Cx) (f:ah→Sem ah) (r:V→Hp→VK→Prop):Prop :=
 ∀ (pins:List (ae×Obj)) (s:ao) (σ:St) (H:Hp) (x:V) (v:ah) (Q:VK),Inv X pins σ H s→RelV x v→r x H Q →
  aZ (model X.prog X.w) X.A (f v) (EP X pins σ Q) X.xe s
def CallR (X:Cx) (f:ah) (r:List V→Hp→VK→Prop):Prop :=
 ∀ (pins:List (ae×Obj)) (s:ao) (σ:St) (H:Hp) (xs:List V) (us:List ah) (Q:VK),Inv X pins σ H s→Vals xs us→r xs H Q →
  aZ (model X.prog X.w) X.A (call f us) (EP X pins σ Q) X.xe s
def tOp (r:R2) (ta tb:TE):TE:=fun σ H Q=>ta σ H fun x H1=>tb σ H1 fun y H2=>r x y H2 Q
def tUn (r:V→Hp→VK→Prop) (ta:TE):TE:=fun σ H Q=>ta σ H fun x H1=>r x H1 Q
def rI (C:Int→Int→Prop) (g:Int→Int→V):R2:=fun x y H Q=>∃ i j,x=.int i∧y=.int j∧C i j∧Q (g i j) H
def rI0 (g:Int→Int→V):R2:=fun x y H Q=>∃ i j,x=.int i∧y=.int j∧Q (g i j) H
def rU (g:Int→V):V→Hp→VK→Prop:=fun x H Q=>∃ i,x=.int i∧Q (g i) H
section
variable {X:Cx}{a b c:a8}{ta tb tc:TE}{pos:Pos}
theorem F3 (ha:PE X a ta) (hb:PE X b tb) {pins:List (ae×Obj)}{s:ao}{σ:St}{H:Hp}{R:V→V→Hp→Prop} (I:Inv X pins σ H s)
  (h:ta σ H fun x H1=>tb σ H1 fun y H2=>R x y H2) {Q:ah→ao→Prop}{f:ah→ah→Sem ah}
  (hf:∀ v u s2 x y H2,Inv X pins σ H2 s2→RelV x v→RelV y u→R x y H2→aZ (model X.prog X.w) X.A (f v u) Q X.xe s2) :
  aZ (model X.prog X.w) X.A (eval a X.env) (fun v s₁=>aZ (model X.prog X.w) X.A (eval b X.env) (fun u s₂=>aZ (model X.prog X.w) X.A (f v u) Q X.xe s₂) X.xe s₁) X.xe s:=by
 refine thn (ha pins s σ H _ I h) fun v s1 ⟨x,H1,I1,r1,q1⟩=>?_
 refine thn (hb pins s1 σ H1 _ I1 q1) fun u s2 ⟨y,H2,I2,r2,q2⟩=>?_
 exact hf v u s2 x y H2 I2 r1 r2 q2
theorem oQ {op:Operator}{r:R2} (ho:OpR X (cR op) r) (ha:PE X a ta) (hb:PE X b tb):PE X (.BinOp a op b pos) (tOp r ta tb):=by
 intro pins s σ H Q I h
 exact wpAny_BinOp (F3 ha hb I h fun v u s2 x y H2 I2 rx ry q=>ho pins s2 σ H2 x y v u Q I2 rx ry q)
theorem Er {op:UnaryOp}{r:V→Hp→VK→Prop} (ho:UnR X (unaryOp op) r) (ha:PE X a ta):PE X (.UnaryOp op a pos) (tUn r ta):=by
 intro pins s σ H Q I h
 exact UnaryOp_ (thn (ha pins s σ H _ I h) fun v s1 ⟨x,H1,I1,r1,q1⟩=>ho pins s1 σ H1 x v Q I1 r1 q1)
theorem opI {f:ah→ah→Sem ah}{C:Int→Int→Prop}{g:Int→Int→Int}
  (rule:∀ (i j:Int) (t u:Tok) (s:ao) (Q:ah→ao→Prop) (E:ah→ao→Prop),C i j→Q (.int (g i j) s.toks) { s with toks:=s.toks+1 }→aZ (model X.prog X.w) X.A (f (.int i t) (.int j u)) Q E s) :
  OpR X f (rI C fun i j=>.int (g i j)):=by
 intro pins s σ H x y v u Q I rx ry h
 obtain ⟨i,j,rfl,rfl,hc,q⟩:=h
 obtain ⟨t,rfl⟩:=rx
 obtain ⟨t',rfl⟩:=ry
 exact rule i j t t' s _ _ hc ⟨.int (g i j),H,I.tok _,⟨_,rfl⟩,q⟩
theorem opI0 {f:ah→ah→Sem ah}{g:Int→Int→Int}
  (rule:∀ (i j:Int) (t u:Tok) (s:ao) (Q:ah→ao→Prop) (E:ah→ao→Prop),Q (.int (g i j) s.toks) { s with toks:=s.toks+1 }→aZ (model X.prog X.w) X.A (f (.int i t) (.int j u)) Q E s) :
  OpR X f (rI0 fun i j=>.int (g i j)):=by
 intro pins s σ H x y v u Q I rx ry h
 obtain ⟨i,j,rfl,rfl,q⟩:=h
 obtain ⟨t,rfl⟩:=rx
 obtain ⟨t',rfl⟩:=ry
 exact rule i j t t' s _ _ ⟨.int (g i j),H,I.tok _,⟨_,rfl⟩,q⟩
theorem Ex {f:ah→ah→Sem ah}{g:Int→Int→Bool}
  (rule:∀ (i j:Int) (t u:Tok) (s:ao) (Q:ah→ao→Prop) (E:ah→ao→Prop),Q (.bool (g i j)) s→aZ (model X.prog X.w) X.A (f (.int i t) (.int j u)) Q E s) :
  OpR X f (rI0 fun i j=>.bl (g i j)):=by
 intro pins s σ H x y v u Q I rx ry h
 obtain ⟨i,j,rfl,rfl,q⟩:=h
 obtain ⟨t,rfl⟩:=rx
 obtain ⟨t',rfl⟩:=ry
 exact rule i j t t' s _ _ ⟨.bl (g i j),H,I,rfl,q⟩
def CPow (i j:Int):Prop:=0≤j∧j≤1000000∧i.natAbs < 2 ^ 64
def CMul (i j:Int):Prop:=(-(2 ^ 64) < i∧i < 2 ^ 64)∨(-(2 ^ 64) < j∧j < 2 ^ 64)
theorem CMul.ok {i j:Int} (h:CMul i j):IntMulOk i j:=by
 rcases h with ⟨h1,h2⟩ | ⟨h1,h2⟩
 ·exact .of_left (intBits_le_64 h1 h2)
 ·exact .of_right (intBits_le_64 h1 h2)
theorem op_add:OpR X (cR .Add) (rI0 fun i j=>.int (i+j)):=opI0 fun _ _ _ _ _ _ _ q=>add_int q
theorem Fg:OpR X (cR .Sub) (rI0 fun i j=>.int (i - j)):=opI0 fun _ _ _ _ _ _ _ q=>sub_int q
theorem Fk:OpR X (cR .Mult) (rI CMul fun i j=>.int (i * j)):=opI fun _ _ _ _ _ _ _ hc q=>mul_int q hc.ok
theorem Cu:OpR X (cR .Mod) (rI (fun _ j=>0 < j) fun i j=>.int (i % j)):=opI fun i j _ _ _ _ _ hc q=>by
 have h1:(0:Int) < j:=hc
 exact mod_int' (by omega) (by rw [Int.fmod_eq_emod_of_nonneg i (by omega)];exact q)
theorem Fi:OpR X (cR .Pow) (rI CPow fun i j=>.int (i ^ j.toNat)):=opI fun _ _ _ _ _ _ _ hc q=>pow_int_small hc.1 hc.2.1 hc.2.2 q
theorem unI {f:ah→Sem ah}{g:Int→Int}
  (rule:∀ (i:Int) (t:Tok) (s:ao) (Q:ah→ao→Prop) (E:ah→ao→Prop),Q (.int (g i) s.toks) { s with toks:=s.toks+1 }→aZ (model X.prog X.w) X.A (f (.int i t)) Q E s) :
  UnR X f (rU fun i=>.int (g i)):=by
 intro pins s σ H x v Q I rx h
 obtain ⟨i,rfl,q⟩:=h
 obtain ⟨t,rfl⟩:=rx
 exact rule i t s _ _ ⟨.int (g i),H,I.tok _,⟨_,rfl⟩,q⟩
theorem Ca:UnR X (unaryOp .USub) (rU fun i=>.int (-i)):=unI fun _ _ _ _ _ q=>neg_int q
def scal:V→V→Bool
 | .non,.non=>true | .non,.int _=>true | .int _,.non=>true | .non,.bl _=>true | .bl _,.non=>true | .non,.str _=>true | .str _,.non=>true
 | .int _,.int _=>true | .bl _,.bl _=>true | .str _,.str _=>true | .byt _,.byt _=>true
 | .int _,.str _=>true | .str _,.int _=>true | .bl _,.str _=>true | .str _,.bl _=>true
 | _,_=>false
def rNe:R2:=fun x y H Q=>scal x y=true∧Q (.bl (!decide (x=y))) H
theorem DY {i j:Int}:decide (V.int i=V.int j)=(i == j):=by
 rw [b5]
 simp
theorem FJ {i j:Bool}:decide (V.bl i=V.bl j)=(i == j):=by
 rw [b5]
 simp
theorem DX {i j:Str}:decide (V.str i=V.str j)=(i == j):=by
 rw [b5]
 simp
theorem DZ {i j:Array UInt8}:decide (V.byt i=V.byt j)=(i.toList == j.toList):=by
 rw [b5]
 cases i
 cases j
 simp
theorem lO {pins:List (ae×Obj)}{σ:St}{H:Hp}{s:ao}{Q:VK}{k k':Bool} (I:Inv X pins σ H s) (q:Q (.bl k) H) (e:k=k'):EP X pins σ Q (.bool k') s:=by
 subst e
 exact ⟨.bl k,H,I,rfl,q⟩
theorem op_ne:OpR X (ci .NotEq) rNe:=by
 intro pins s σ H x y v u Q I rx ry h
 obtain ⟨hs,q⟩:=h
 cases x with
 | non =>
  cases rx
  cases y with
  | non=>cases ry;exact PySem.EqNone.ne_none_none (lO I q (by simp))
  | bl j=>cases ry;exact PySem.EqNone.ne_none_bool (lO I q (by simp))
  | int j=>obtain ⟨t',rfl⟩:=ry;exact PySem.EqNone.ne_none_int (lO I q (by simp))
  | str j=>obtain ⟨t',rfl⟩:=ry;exact PySem.EqNone.ne_none_str (lO I q (by simp))
  | _=>exact absurd (show false=true from hs) a6
 | bl i =>
  cases rx
  cases y with
  | non=>cases ry;exact PySem.EqNone.ne_bool_none (lO I q (by simp))
  | bl j=>cases ry;exact ne_bool (lO I q (congrArg not FJ))
  | str j=>obtain ⟨t',rfl⟩:=ry;exact PySem.EqMixed.ne_bool_str (lO I q (by simp))
  | _=>exact absurd (show false=true from hs) a6
 | int i =>
  obtain ⟨t,rfl⟩:=rx
  cases y with
  | non=>cases ry;exact PySem.EqNone.ne_int_none (lO I q (by simp))
  | int j=>obtain ⟨t',rfl⟩:=ry;exact ne_int (lO I q (congrArg not DY))
  | str j=>obtain ⟨t',rfl⟩:=ry;exact PySem.EqMixed.ne_int_str (lO I q (by simp))
  | _=>exact absurd (show false=true from hs) a6
 | str i =>
  obtain ⟨t,rfl⟩:=rx
  cases y with
  | non=>cases ry;exact PySem.EqNone.ne_str_none (lO I q (by simp))
  | bl j=>cases ry;exact PySem.EqMixed.ne_str_bool (lO I q (by simp))
  | int j=>obtain ⟨t',rfl⟩:=ry;exact PySem.EqMixed.ne_str_int (lO I q (by simp))
  | str j=>obtain ⟨t',rfl⟩:=ry;exact ne_str (lO I q (congrArg not DX))
  | _=>exact absurd (show false=true from hs) a6
 | byt i =>
  obtain ⟨t,rfl⟩:=rx
  cases y with
  | byt j=>obtain ⟨t',rfl⟩:=ry;exact PySem.W.ne_bytes (lO I q (congrArg not DZ))
  | _=>exact absurd (show false=true from hs) a6
 | _=>cases y <;> exact absurd (show false=true from hs) a6
theorem Eu:OpR X (ci .Lt) (rI0 fun i j=>.bl (decide (i < j))):=Ex fun _ _ _ _ _ _ _ q=>lt_int q
theorem Ev:OpR X (ci .LtE) (rI0 fun i j=>.bl (decide (i≤j))):=Ex fun _ _ _ _ _ _ _ q=>le_int q
theorem Ew:OpR X (ci .Gt) (rI0 fun i j=>.bl (decide (j < i))):=Ex fun _ _ _ _ _ _ _ q=>gt_int q
theorem CL:OpR X (ci .GtE) (rI0 fun i j=>.bl (decide (j≤i))):=Ex fun _ _ _ _ _ _ _ q=>ge_int q
theorem OpR.or {f:ah→ah→Sem ah}{r r':R2} (h:OpR X f r) (h':OpR X f r'):OpR X f (fun x y H Q=>r x y H Q∨r' x y H Q):=by
 intro pins s σ H x y v u Q I rx ry q
 rcases q with q | q
 ·exact h pins s σ H x y v u Q I rx ry q
 ·exact h' pins s σ H x y v u Q I rx ry q
theorem k9 (b:a8) {op:gY} (h:op≠.In:=by decide) (h2:op≠.NotIn:=by decide):cq op b=false:=by
 have e1:(op == CmpOp.In)=false:=by cases op <;> first | rfl | exact absurd rfl h
 have e2:(op == CmpOp.NotIn)=false:=by cases op <;> first | rfl | exact absurd rfl h2
 cases b <;> simp [cq,e1,e2]
theorem zu {op:gY}{r:R2} (ho:OpR X (ci op) r) (ha:PE X a ta) (hb:PE X b tb) (hm:cq op b=false):PE X (.Compare a [op] [b] pos) (tOp r ta tb):=by
 intro pins s σ H Q I h
 exact wpAny_Compare1 (F3 ha hb I h fun v u s2 x y H2 I2 rx ry q=>ho pins s2 σ H2 x y v u Q I2 rx ry q) hm
def tTest (t:TE):TT:=fun σ H Q=>t σ H fun x H'=>∃ k,x=.bl k∧Q k H'
theorem pX {op:gY}{r:R2} (ho:OpR X (ci op) r) (ha:PE X a ta) (hb:PE X b tb) (hm:cq op b=false):PT X (.Compare a [op] [b] pos) (tTest (tOp r ta tb)):=by
 intro pins s σ H Q I h
 refine wpAny_isTrue_Compare1 (thn (ha pins s σ H _ I h) fun v s1 ⟨x,H1,I1,r1,q1⟩=>thn (hb pins s1 σ H1 _ I1 q1) fun u s2 ⟨y,H2,I2,r2,q2⟩ =>
  thn (ho pins s2 σ H2 x y v u _ I2 r1 r2 q2) fun c s3 ⟨z,H3,I3,r3,k,e,q3⟩=>?_) hm
 subst e
 cases r3
 exact cO ⟨H3,I3,q3⟩
def EY (r r':R2) (ta tb tc:TE):TE:=fun σ H Q=>ta σ H fun x H1=>tb σ H1 fun y H2=>r x y H2 fun z H3=>∃ k,z=.bl k ∧
 (if k=true then tc σ H3 fun w' H4=>r' y w' H4 Q else Q (.bl false) H3)
theorem xH {op op':gY}{r r':R2} (ho:OpR X (ci op) r) (ho':OpR X (ci op') r') (ha:PE X a ta) (hb:PE X b tb) (hc:PE X c tc)
  (hm:lastMarks [op,op'] [b,c]=false:=by with_unfolding_all rfl):PE X (.Compare a [op,op'] [b,c] pos) (EY r r' ta tb tc):=by
 intro pins s σ H Q I h
 refine Compare_chain (thn (ha pins s σ H _ I h) fun v s1 ⟨x,H1,I1,r1,q1⟩=>chain_link (thn (hb pins s1 σ H1 _ I1 q1) fun u s2 ⟨y,H2,I2,r2,q2⟩ =>
  thn (ho pins s2 σ H2 x y v u _ I2 r1 r2 q2) fun d s3 ⟨z,H3,I3,r3,k,e,q3⟩=>?_)) hm
 subst e
 cases r3
 refine cO ?_
 cases k with
 | false=>exact ite_ff ⟨.bl false,H3,I3,rfl,q3⟩
 | true=>exact ite_tt (chain_last (thn (hc pins s3 σ H3 _ I3 q3) fun w' s4 ⟨z',H4,I4,r4,q4⟩=>ho' pins s4 σ H4 y z' u w' Q I4 r2 r4 q4))
theorem sF:(aI:Nat) < 2 ^ 63:=by rw [iL];decide
theorem op_add_str:OpR X (cR .Add) (fun x y H Q=>∃ i j,x=.str i∧y=.str j∧i.length+j.length≤aI∧Q (.str (i++j)) H):=by
 intro pins s σ H x y v u Q I rx ry h
 obtain ⟨i,j,rfl,rfl,hz,q⟩:=h
 obtain ⟨t,rfl⟩:=rx
 obtain ⟨t',rfl⟩:=ry
 exact add_str (fun t' tk=>⟨.str (i++j),H,I.tok _,⟨_,rfl⟩,q⟩) hz
theorem nr {x:V}{us:List ah} (r:Vals [x] us):∃ u,us=[u]∧RelV x u:=by
 cases r with
 | cons r1 r2=>cases r2;exact ⟨_,rfl,r1⟩
theorem Ef {x y:V}{us:List ah} (r:Vals [x,y] us):∃ u w',us=[u,w']∧RelV x u∧RelV y w':=by
 cases r with
 | cons r1 r2 =>
  cases r2 with
  | cons r3 r4=>cases r4;exact ⟨_,_,rfl,r1,r3⟩
theorem BW:CallR X (.builtin "abs") (fun xs H Q=>∃ i,xs=[.int i]∧Q (.int (if i < 0 then -i else i)) H):=by
 intro pins s σ H xs us Q I r h
 obtain ⟨i,rfl,q⟩:=h
 obtain ⟨u,rfl,t,rfl⟩:=nr r
 exact call_abs_int fun u tk=>⟨.int (if i < 0 then -i else i),H,I.tok _,⟨_,rfl⟩,q⟩
theorem Aw (hc:X.calm=true):CallR X (.builtin "max") (fun xs H Q=>∃ i j,xs=[.int i,.int j]∧Q (.int (if j > i then j else i)) H):=by
 intro pins s σ H xs us Q I r h
 obtain ⟨i,j,rfl,q⟩:=h
 obtain ⟨u,w',rfl,⟨t,rfl⟩,⟨t',rfl⟩⟩:=Ef r
 refine max_two_ints (I.ok.hd hc) fun h' tk k=>⟨_,H,I.kept k,?_,q⟩
 by_cases hj:j > i
 ·rw [if_pos hj,if_pos hj];exact ⟨_,rfl⟩
 ·rw [if_neg hj,if_neg hj];exact ⟨_,rfl⟩
theorem Ay:CallR X (.type "int") (fun xs H Q=>(∃ i,xs=[.int i]∧Q (.int i) H)∨∃ k,xs=[.bl k]∧Q (.int (if k then 1 else 0)) H):=by
 intro pins s σ H xs us Q I r h
 rcases h with ⟨i,rfl,q⟩ | ⟨k,rfl,q⟩
 ·obtain ⟨u,rfl,t,rfl⟩:=nr r
  exact call_int_int ⟨.int i,H,I,⟨_,rfl⟩,q⟩
 ·obtain ⟨u,rfl,r1⟩:=nr r
  cases r1
  exact call_int_bool ⟨.int (if k then 1 else 0),H,I.tok _,⟨_,rfl⟩,q⟩
end
structure ObjM (h:bM) (x dx C:ae) (mA:Str→Option ah):Prop where
 obj:h.get? x=some (cI C dx)
 ns:h.Ns1 dx mA
 ne:dx≠x
theorem Ai {h:bM}{dx:ae}{mA:Str→Option ah} (n:h.Ns1 dx mA):∃ od,h.get? dx=some od∧∀ name,fZ name od=some (mA name):=by
 obtain ⟨o,es,ep,ho,hd,hk,_,hm⟩:=n
 refine ⟨o,ho,fun name=>?_⟩
 have e:=hm name
 unfold nsFind findBy at e
 rw [← Array.find?_toList] at e
 unfold fZ
 rw [hd]
 dsimp only
 split
 ·rename_i y q
  rw [q] at e
  exact congrArg some e
 ·rename_i q
  rw [q] at e
  have a:es.toList.any (·.refKey)=false:=by
   rw [List.any_eq_false]
   intro y hy
   obtain ⟨z,t,hkey⟩:=hk y (Array.mem_toList_iff.mp hy)
   simp [DictEntry.refKey,hkey]
  have a':¬ es.toList.any (·.refKey)=true:=by rw [a];exact a6
  rw [if_neg a']
  exact congrArg some e
theorem ObjM.look {h:bM}{x dx C:ae}{mA:Str→Option ah} (I:ObjM h x dx C mA):∃ od,PySem.W.InstAt h x (cI C dx) C (some od)∧∀ name,fZ name od=some (mA name) :=
 let ⟨od,ho,hl⟩:=Ai I.ns
 ⟨od,⟨I.obj,rfl,rfl,ho⟩,hl⟩
section
variable {prog:aT}{w:bv}{A:bL}{E:ah→ao→Prop}{s:ao}{K:aa}{x dx C f:ae}{mA:Str→Option ah}{name:Str}{v:ah}
theorem DM {expr:Bool}{Q:ah→ao→Prop} (X:K.In s.heap) (I:ObjM s.heap x dx C mA) (hg:d6 K C name=true) (hh:e9 K C=true)
  (ha:aq K (.ref C) name=some none) (hv:mA name=some v) (hv':js v=true) (h:Q v { s with toks:=s.toks+1 }) :
  aZ (model prog w) A (getAttr (.ref x) name expr) Q E s:=by
 obtain ⟨od,J,hl⟩:=I.look
 exact PySem.W.get_value X J (gg hg).1 (PySem.W.findObj_own hh ha rfl (by rw [hl,hv])) hv' h
theorem BF {pl:Sem Bool}{Q:ah×List ah→ao→Prop} (X:K.In s.heap) (I:ObjM s.heap x dx C mA) (hg:d6 K C name=true)
  (hf:aq K (.ref C) name=some (some (.ref f))) (ht:bF K (.ref f)=true) (hv:mA name=none) (h:Q (.ref f,[.ref x]) s) :
  aZ (model prog w) A (fA (.ref x) name pl) Q E s:=by
 obtain ⟨od,J,hl⟩:=I.look
 exact PySem.W.method_fn X J (gg hg).1 (gg hg).2 hf (beq_iff_eq.mp ht) (by show (fZ name od).map (·.isSome)=some false;rw [hl,hv];rfl) h
theorem C1 {ns:List Str}{Q:Unit→ao→Prop} (X:K.In s.heap) (I:ObjM s.heap x dx C mA)
  (hs:aq K (.ref C) "__setattr__"=some (some (.builtin "object.__setattr__"))) (hp:gx K C=true) (ht:gT K C name=some none) (hh:e9 K C=true)
  (hw:iT mA ns) (hsz:ns.length≤aI)
  (h:∀ h',ObjM h' x dx C (fun y=>if y=name then some v else mA y)→gP dx s.heap h'→Q () { s with heap:=h',toks:=s.toks+2 }) :
  aZ (model prog w) A (setAttr (.ref x) name v) Q E s:=by
 obtain ⟨od,J,hl⟩:=I.look
 refine PySem.W.set_plain X J hs (PySem.W.osa_open (s:={ s with toks:=s.toks+1 }) (r:=none) X J hp ht fun b=>?_)
 obtain ⟨cd,hc,hd'⟩:=PySem.W.any_some hh
 have hx:s.heap.get? x=some ⟨.ref C,some dx,.plain,#[]⟩:=I.obj
 refine av (aS (av (av (wpAny_loadPart hx (av (PySem.W.Looks.here (s:={ s with toks:=s.toks+1 }) (PySem.W.looks_clsIn X hc) ?_))))))
 rw [hd']
 refine aS (a:=some dx) (av (aS (av ?_)))
 refine wpAny_nsSet1 (s:={ s with toks:=s.toks+1 }) I.ns fun h' hn2 hs2=>?_
 obtain ⟨oD,esD,epD,hoD,hdD,hcD⟩:=hn2.count (PySem.Within.cons name v hw)
 refine av (wpAny_lookBehind hoD (by rw [hdD];exact pastItsLine_dict (aJ hcD (by rw [aC];omega))) ?_)
 exact aS (h _ ⟨(hs2.2 _ (fJ I.ne)).trans I.obj,hn2,I.ne⟩ hs2)
theorem Bw {R:iE→ao→Prop}{vs:List ah}{kw:List (Str×ah)} (X:K.In s.heap) (hm:gU K C=true)
  (hi:aq K (.ref C) "__init__"=some (some (.ref f))) (hf:PySem.W.typeIn K (.ref f)=some (.type "function"))
  (h:eG (model prog w) (A.under (.builtin "type.__call__" ⟨.ref C::vs,kw⟩)) (.call (.ref f) ⟨.ref (s.heap.objs.size+1)::vs,kw⟩) (PySem.W.InitBack (s.heap.objs.size+1) R)
   {s with heap:=(s.heap.push b7).push (cI C s.heap.objs.size) }) :
  eG (model prog w) A (.call (.ref C) ⟨vs,kw⟩) R s:=by
 obtain ⟨hh,g,d,t,os⟩:=s
 exact PySem.W.make_core (PySem.W.makes_of X hm) (gz X hi) (fun self=>PySem.W.bind_fn X self hf) (.inl rfl) h
end
def mD (f:Str) (v:V):List (Str×V)→List (Str×V)
 | []=>[(f,v)]
 | (g,x)::r=>if g=f then (g,v)::r else (g,x)::mD f v r
theorem rS (f g:Str) (v:V):∀ fs:List (Str×V),(mD f v fs).lookup g=if g=f then some v else fs.lookup g
 | []=>by
  show cm g [(f,v)]=_
  by_cases h:g=f
  ·have hb:(g == f)=true:=beq_iff_eq.mpr h
   simp only [cm,hb,if_pos h]
  ·have hb:(g == f)=false:=beq_eq_false_iff_ne.mpr h
   simp only [cm,hb,if_neg h]
 | (k,x)::r=>by
  have ih:=rS f g v r
  rw [show mD f v ((k,x)::r)=(if k=f then (k,v)::r else (k,x)::mD f v r) from rfl]
  by_cases hk:k=f
  ·rw [if_pos hk]
   by_cases h:g=k
   ·have hb:(g == k)=true:=beq_iff_eq.mpr h
    simp only [cm,hb,if_pos (h.trans hk)]
   ·have hb:(g == k)=false:=beq_eq_false_iff_ne.mpr h
    simp only [cm,hb,if_neg (fun e:g=f=>h (e.trans hk.symm))]
  ·rw [if_neg hk]
   by_cases h:g=k
   ·have hb:(g == k)=true:=beq_iff_eq.mpr h
    simp only [cm,hb,if_neg (fun e:g=f=>hk (h.symm.trans e))]
   ·have hb:(g == k)=false:=beq_eq_false_iff_ne.mpr h
    simp only [cm,hb]
    exact ih
theorem rH (f:Str) (v:V):∀ fs:List (Str×V),f∈(mD f v fs).map (·.1)∧∀ g,g∈fs.map (·.1)→g∈(mD f v fs).map (·.1)
 | []=>⟨by simp [mD],fun g h=>by simp at h⟩
 | (k,x)::r=>by
  obtain ⟨i1,i2⟩:=rH f v r
  rw [show mD f v ((k,x)::r)=(if k=f then (k,v)::r else (k,x)::mD f v r) from rfl]
  by_cases hk:k=f
  ·rw [if_pos hk]
   subst hk
   exact ⟨by simp,fun g h=>by simpa using h⟩
  ·rw [if_neg hk]
   refine ⟨?_,fun g h=>?_⟩
   ·rw [au]
    exact ak _ i1
   ·rw [au] at h ⊢
    rcases ai.mp h with e | e
    ·exact ai.mpr (.inl e)
    ·exact ak _ (i2 g e)
theorem pB (f:Str) (v:V):∀ fs:List (Str×V),(mD f v fs).length≤fs.length+1
 | []=>by simp [mD]
 | (k,x)::r=>by
  have ih:=pB f v r
  rw [show mD f v ((k,x)::r)=(if k=f then (k,v)::r else (k,x)::mD f v r) from rfl]
  by_cases hk:k=f
  ·rw [if_pos hk,aC,aC];omega
  ·rw [if_neg hk,aC,aC];omega
theorem RelO.some_of {v:V}{o:Option ah} (r:RelO (some v) o):∃ u,o=some u∧RelV v u:=by
 cases o with
 | none=>exact (show False from r).elim
 | some u=>exact ⟨u,rfl,r⟩
theorem RelO.none_of {o:Option ah} (r:RelO none o):o=none:=by
 cases o with
 | none=>rfl
 | some u=>exact (show False from r).elim
theorem Ar {v:V}{u:ah} (r:RelV v u):js u=true:=by
 cases v with
 | non=>cases (show u=im from r);rfl
 | bl b=>cases (show u=io b from r);rfl
 | int i=>obtain ⟨t,e⟩:=(show ∃ t,u=gh i t from r);cases e;rfl
 | str x=>obtain ⟨t,e⟩:=(show ∃ t,u=fI x t from r);cases e;rfl
 | byt b=>obtain ⟨t,e⟩:=(show ∃ t,u=Value.bytes b t from r);cases e;rfl
 | flt b=>obtain ⟨t,e⟩:=(show ∃ t,u=jb b t from r);cases e;rfl
 | ref a=>cases (show u=bx a from r);rfl
 | ty n=>cases (show u=Value.type n from r);rfl
section
variable {P:aT}{w:bv}{H H':Hp}{h h':bM}{a C dx:ae}{fs fs':List (Str×V)}
theorem tD (hok:HOk P w H h) (e:H a=some (.ins C dx fs)):∃ mA,ObjM h a dx C mA∧(∀ f,RelO (fs.lookup f) (mA f))∧iT mA (fs.map (·.1))∧fs.length≤1000∧H dx=some (.own a):=by
 obtain ⟨d,z,ne,ob,mA,n,r,q⟩:=(show ObjOk P w H h a (.ins C dx fs) from hok a _ e)
 exact ⟨mA,⟨ob,n,ne⟩,r,q,z,d⟩
end
structure Cls (K:aa) (C:ae):Prop where
 pg:d6 K C cU=true
 hd:e9 K C=true
 po:gx K C=true
 sa:aq K (.ref C) "__setattr__"=some (some (.builtin "object.__setattr__"))
theorem Cls.get {K:aa}{C:ae} (c:Cls K C) (f:Str):d6 K C f=true:=c.pg
def NoAttr (K:aa) (C:ae) (f:Str):Prop:=aq K (.ref C) f=some none
theorem NoAttr.taker {K:aa}{C:ae}{f:Str} (n:NoAttr K C f):gT K C f=some none:=by
 unfold gT
 rw [show aq K (.ref C) f=some none from n]
 rfl
structure Con (K:aa) (C:ae) (f:Str) (v:V) (u:ah):Prop where
 at_:aq K (.ref C) f=some (some u)
 rel:RelV v u
 get:eZ K u "__get__"=some none
 cp:PySem.W.copiedNames.contains f=false
structure Meth (K:aa) (C:ae) (m:Str) (f:ae):Prop where
 at_:aq K (.ref C) m=some (some (.ref f))
 fn:bF K (.ref f)=true
 kp:aB K (.ref f)=true
section
variable {X:Cx}{pins:List (ae×Obj)}{σ:St}{H:Hp}{s:ao}{a C dx:ae}{fs:List (Str×V)}{f:Str}{v:V}{A:bL}{E:ah→ao→Prop}
theorem yM {b:Bool}{Q:ah→ao→Prop} (I:Inv X pins σ H s) (e:H a=some (.ins C dx fs)) (c:Cls X.K C) (n:NoAttr X.K C f) (l:fs.lookup f=some v)
  (h:∀ u s',Inv X pins σ H s'→RelV v u→Q u s'):aZ (model X.prog X.w) A (getAttr (.ref a) f b) Q E s:=by
 obtain ⟨mA,O,r,_,_,_⟩:=tD I.hok e
 obtain ⟨u,hu,ru⟩:=RelO.some_of (v:=v) (o:=mA f) (by rw [← l];exact r f)
 exact DM I.kIn O (c.get f) c.hd n hu (Ar ru) (h u _ (I.tok _) ru)
theorem tG {m:Str}{g:ae}{pl:Sem Bool}{Q:ah×List ah→ao→Prop} (I:Inv X pins σ H s) (e:H a=some (.ins C dx fs)) (c:Cls X.K C) (k:Meth X.K C m g) (l:fs.lookup m=none)
  (h:Q (.ref g,[.ref a]) s):aZ (model X.prog X.w) A (fA (.ref a) m pl) Q E s:=by
 obtain ⟨mA,O,r,_,_,_⟩:=tD I.hok e
 have hn:mA m=none:=RelO.none_of (by rw [← l];exact r m)
 exact BF I.kIn O (c.get m) k.at_ k.fn hn h
theorem yp {y:V}{u:ah}{Q:Unit→ao→Prop} (I:Inv X pins σ H s) (e:H a=some (.ins C dx fs)) (c:Cls X.K C) (n:NoAttr X.K C f) (hl:fs.length < 1000) (ry:RelV y u)
  (h:∀ s',Inv X pins σ (upd H a (.ins C dx (mD f y fs))) s'→Q () s'):aZ (model X.prog X.w) A (setAttr (.ref a) f u) Q E s:=by
 obtain ⟨mA,O,r,wi,_,ho⟩:=tD I.hok e
 have hz:(fs.map (·.1)).length≤aI:=by rw [af,iL];omega
 refine C1 I.kIn O c.sa c.po n.taker c.hd wi hz fun h' O' sb=>h _ ?_
 have hd:∃ o,h'.get? dx=some o:=let ⟨o,_,_,e',_⟩:=O'.ns;⟨o,e'⟩
 refine I.write (x:=a) (e:=dx) (by rw [e];exact cr) (.inr ho) (fun b q hb z=>(sb.2 b hb).trans z) hd ?_
 refine ⟨by rw [jJ O.ne];exact ho,?_,O.ne,O'.obj,_,O'.ns,fun g=>?_,fun g hg=>?_⟩
 ·have:=pB f y fs;omega
 ·show RelO ((mD f y fs).lookup g) (if g=f then some u else mA g)
  rw [rS]
  by_cases q:g=f
  ·rw [if_pos q,if_pos q];exact ry
  ·rw [if_neg q,if_neg q];exact r g
 ·by_cases q:g=f
  ·rw [q];exact (rH f y fs).1
  ·refine (rH f y fs).2 g (wi g fun z=>hg ?_)
   show (if g=f then some u else mA g)=none
   rw [if_neg q];exact z
theorem Inv.made (I:Inv X pins σ H s):Inv X pins σ (upd (upd H s.heap.objs.size (.own (s.heap.objs.size+1))) (s.heap.objs.size+1) (.ins C s.heap.objs.size []))
  {s with heap:=(s.heap.push b7).push (cI C s.heap.objs.size) }:=by
 have e1:(s.heap.push b7).get? s.heap.objs.size=some b7:=bj s.heap rfl
 have e2:((s.heap.push b7).push (cI C s.heap.objs.size)).get? (s.heap.objs.size+1)=some (cI C s.heap.objs.size):=by
  have:=bj (s.heap.push b7) (o:=cI C s.heap.objs.size) rfl
  rwa [Heap.size_push] at this
 have e3:(s.heap.push b7).Ns s.heap.objs.size (fun _=>none):=⟨b7,#[],_,e1,rfl,(fun e he=>absurd he (by simp)),fun _=>rfl⟩
 have I1:=I.laid (a:=s.heap.objs.size) (o:=.own (s.heap.objs.size+1)) (h':=s.heap.push b7) (t':=s.toks) (fun b u q=>ay _ q) (az _) ⟨_,e1⟩
 refine I1.laid (a:=s.heap.objs.size+1) (o:=.ins C s.heap.objs.size []) (t':=s.toks) (fun b u q=>ay _ q) (jh (Heap.size_push _ _)) ?_
 have ne:s.heap.objs.size≠s.heap.objs.size+1:=aQ (cF _)
 refine ⟨by rw [jJ ne,jK],bc _,ne,e2,fun _=>none,(Heap.Ns1.of_empty e3).at fun o q=>ay _ q,fun _=>cr,fun y hy=>absurd rfl hy⟩
theorem D9 {prog:aT}{w:bv}{env:Env}{e:a8}{f:Str}{pos:Pos}{s:ao}{Q:ah→ao→Prop} (hb:dU e f env (eval e env)=eval e env)
  (h:aZ (model prog w) A (eval e env) (fun o s₁=>aZ (model prog w) A (getAttr o f true) Q E s₁) E s):aZ (model prog w) A (eval (.Attribute e f pos) env) Q E s :=
 Attribute_any_ h (by rw [arm_eval_Attribute,hb])
end
def tFld (K:aa) (ta:TE) (f:Str):TE:=fun σ H Q=>ta σ H fun x H1=>∃ a C dx fs v,x=.ref a∧H1 a=some (.ins C dx fs)∧Cls K C∧NoAttr K C f∧fs.lookup f=some v∧Q v H1
def sFld (K:aa) (ta tv:TE) (f:Str):TS:=fun D σ H=>tv σ H fun y H1=>ta σ H1 fun x H2=>∃ a C dx fs,x=.ref a∧H2 a=some (.ins C dx fs)∧Cls K C∧NoAttr K C f∧fs.length < 1000 ∧
 D.nx σ (upd H2 a (.ins C dx (mD f y fs)))
section
variable {X:Cx}{o e value:a8}{f:Str}{pos pos' tpos:Pos}{ta tv:TE}
theorem kq (he:PE X e ta) (hb:dU e f X.env (eval e X.env)=eval e X.env):PE X (.Attribute e f pos) (tFld X.K ta f):=by
 intro pins s σ H Q I h
 refine D9 hb (thn (he pins s σ H _ I h) fun u s1 ⟨x,H1,I1,rx,a,C,dx,fs,v,ex,ea,c,n,l,q⟩=>?_)
 subst ex
 obtain rfl:u=bx a:=rx
 exact yM I1 ea c n l fun u' s2 I2 ru=>⟨v,H1,I2,ru,q⟩
theorem oP (ha:PE X o ta) (hv:PE X value tv) (hs:eW value (some (.Attribute o f pos')) pos.line X.env=pure false):PS X (.Assign [.Attribute o f pos'] value pos) (sFld X.K ta tv f):=by
 intro pins s σ H D I h
 refine plainObj_wpAny_Assign_Attribute (thn (hv pins s σ H _ I h) fun u s1 ⟨y,H1,I1,ry,q⟩=>thn (ha pins s1 σ H1 _ I1 q) fun ov s2 ⟨x,H2,I2,rx,a,C,dx,fs,ex,ea,c,n,l,q2⟩=>?_) hs
 subst ex
 obtain rfl:ov=bx a:=rx
 exact yp I2 ea c n l ry fun s3 I3=>⟨σ,_,I3,q2⟩
end
section
variable {X:Cx}{pins:List (ae×Obj)}{σ:St}{H:Hp}{s:ao}{A:bL}{E:ah→ao→Prop}{Q:ah→ao→Prop}{c:ah}{b:Bool}
inductive TyOf (K:aa) (H:Hp):V→ah→Prop where
 | non:TyOf K H .non (.type "NoneType")
 | bl (x:Bool):TyOf K H (.bl x) (.type "bool")
 | int (i:Int):TyOf K H (.int i) (.type "int")
 | str (x:Str):TyOf K H (.str x) (.type "str")
 | flt (x:UInt64):TyOf K H (.flt x) (.type "float")
 | lst {a:ae}{xs:List V} (e:H a=some (.lst xs)):TyOf K H (.ref a) (.type "list")
 | frz {a:ae}{o:Obj}{xs:List V} (e:H a=some (.frz o (.lst xs))):TyOf K H (.ref a) (.type "list")
 | tup {a:ae}{xs:List V} (e:H a=some (.tup xs)):TyOf K H (.ref a) (.type "tuple")
 | dK {a:ae}{kvs:List (Key×V)} (e:H a=some (.dK kvs)):TyOf K H (.ref a) (.type "dict")
 | dT {a:ae}{kvs:List (List Key×V)} (e:H a=some (.dT kvs)):TyOf K H (.ref a) (.type "dict")
 | ins {a C dx:ae}{fs:List (Str×V)} (e:H a=some (.ins C dx fs)) (cl:Cls K C) (ha:aq K (.ref C) "__class__"=some (some (.builtin "object.__class__")))
   (hn:eZ K (.builtin "object.__class__") "__get__"=some (some (.builtin "getset_descriptor.__get__"))) (htk:gS K (.builtin "object.__class__")=some true)
   (hm:bG K C (.type "object")=some true):TyOf K H (.ref a) (.ref C)
theorem Am {x:V}{u t:ah} (I:Inv X pins σ H s) (rx:RelV x u) (ty:TyOf X.K H x t) (e:g8 X.K t c=some b) (h:∀ tk,Q (.bool b) { s with toks:=tk }) :
  aZ (model X.prog X.w) A (call (.builtin "isinstance") [u,c]) Q E s:=by
 cases ty with
 | non=>cases (show u=im from rx);exact bO PySem.W.kitx_none I.kIn cr e (fun z=>nomatch z) h
 | bl y=>cases (show u=io y from rx);exact bO PySem.W.kitx_bool I.kIn cr e (fun z=>nomatch z) h
 | int i=>obtain ⟨t,q⟩:=(show ∃ t,u=gh i t from rx);cases q;exact bO PySem.W.kitx_int I.kIn cr e (fun z=>nomatch z) h
 | str y=>obtain ⟨t,q⟩:=(show ∃ t,u=fI y t from rx);cases q;exact bO PySem.W.kitx_str I.kIn cr e (fun z=>nomatch z) h
 | flt y=>obtain ⟨t,q⟩:=(show ∃ t,u=jb y t from rx);cases q;exact bO PySem.W.kitx_float I.kIn cr e (fun z=>nomatch z) h
 | @lst a xs ea =>
  cases (show u=bx a from rx)
  obtain ⟨_,_,n,_,h1⟩:=(show ObjOk X.prog X.w H s.heap a (.lst xs) from I.hok a _ ea)
  exact bO gA I.kIn ⟨_,h1,rfl⟩ e (fun z=>nomatch z) h
 | @frz a ob xs ea =>
  cases (show u=bx a from rx)
  obtain ⟨_,_,_,n,_,h1⟩:=(show ObjOk X.prog X.w H s.heap a (.frz ob (.lst xs)) from I.hok a _ ea)
  exact bO gA I.kIn ⟨_,h1,rfl⟩ e (fun z=>nomatch z) h
 | @tup a xs ea =>
  cases (show u=bx a from rx)
  obtain ⟨_,_,_,p⟩:=(show ObjOk X.prog X.w H s.heap a (.tup xs) from I.hok a _ ea)
  obtain ⟨o,h1,h2,_⟩:=p
  exact bO i9 I.kIn ⟨o,h1,h2⟩ e (fun z=>nomatch z) h
 | @dK a kvs ea =>
  cases (show u=bx a from rx)
  obtain ⟨_,_,vs,_,p⟩:=(show ObjOk X.prog X.w H s.heap a (.dK kvs) from I.hok a _ ea)
  obtain ⟨o,es,ep,h1,h2,_⟩:=p
  exact bO jk I.kIn ⟨o,h1,h2.1⟩ e (fun z=>nomatch z) h
 | @dT a kvs ea =>
  cases (show u=bx a from rx)
  obtain ⟨_,_,xs,_,o,es,ep,h1,h2,_⟩:=(show ObjOk X.prog X.w H s.heap a (.dT kvs) from I.hok a _ ea)
  exact bO jk I.kIn ⟨o,h1,h2.1⟩ e (fun z=>nomatch z) h
 | @ins a C dx fs ea cl ha hn htk hm =>
  cases (show u=bx a from rx)
  obtain ⟨mA,O,_⟩:=tD I.hok ea
  obtain ⟨od,J,_⟩:=O.look
  exact bO (PySem.W.kitx_own (cl.get _) cl.hd ha hn htk hm) I.kIn J e (fun z=>nomatch z) h
end
structure Room (k:Nat) (A:bL):Prop where
 hd:A.handled=none
 dp:A.depth+3 * k+5 < recursionLimit
 un:A.units+16 * k+200 < dS
theorem Room.mono {j k:Nat}{A:bL} (r:Room k A) (h:j≤k):Room j A:=⟨r.hd,by have:=r.dp;omega,by have:=r.un;omega⟩
theorem Room.deeper {k:Nat}{A:bL} (r:Room (k+1) A) (env:Env):Room k (A.deeper env) :=
 ⟨r.hd,by have:=r.dp;show A.depth+1+3 * k+5 < _;omega,by have:=r.un;show A.units+3+16 * k+200 < _;omega⟩
theorem yH {A:bL}{C:ae}{us:List ah}{kw:List (Str×ah)}:(A.under (.builtin "type.__call__" ⟨.ref C::us,kw⟩)).depth=A.depth+1:=by
 first | rfl | simp [iR,Code.weight,Code.isCreation,Code.isGuard,Code.isCaller,Code.frames,iZ,guardIds]
theorem yG {A:bL}{C:ae}{us:List ah}{kw:List (Str×ah)}:(A.under (.builtin "type.__call__" ⟨.ref C::us,kw⟩)).units=A.units+1:=by
 first | rfl | simp [iR,Code.cUnits,Code.frames,iZ]
theorem Room.make {k:Nat}{A:bL} (r:Room (k+1) A) (C:ae) (us:List ah) (kw:List (Str×ah)):Room k (A.under (.builtin "type.__call__" ⟨.ref C::us,kw⟩)) :=
 ⟨r.hd,by have:=r.dp;rw [yH];omega,by have:=r.un;rw [yG];omega⟩
theorem Room.depth {k:Nat}{A:bL} (r:Room k A):A.depth < recursionLimit:=by have:=r.dp;omega
theorem Room.units {k:Nat}{A:bL} (r:Room k A):A.units+64 < dS:=by have:=r.un;omega
def Cc:TA:=fun _ H Q=>Q [] H
def CI (ta:TE) (tr:TA):TA:=fun σ H Q=>ta σ H fun x H1=>tr σ H1 fun xs H2=>Q (x::xs) H2
section
variable {X:Cx}{e:a8}{es:List a8}{te:TE}{t:TA}{pos:Pos}
theorem pa_nil:PA X [] Cc:=fun _ _ _ _ H Q I h=>fj ⟨[],H,I,.nil,h⟩
theorem jR (ha:PE X e te) (hr:PA X es t) (hs:aR (e::es) X.env=(false,eval e X.env)::aR es X.env:=by rfl):PA X (e::es) (CI te t):=by
 intro pos pins s σ H Q I h
 rw [hs]
 show aZ _ _ (spliced ((false,eval e X.env)::ck pos (aR es X.env))) _ _ s
 refine dI (thn (ha pins s σ H _ I h) fun u s1 ⟨x,H1,I1,r1,q1⟩=>?_)
 exact thn (hr pos pins s1 σ H1 _ I1 q1) fun us s2 ⟨xs,H2,I2,r2,q2⟩=>⟨x::xs,H2,I2,.cons r1 r2,q2⟩
def tTup (t:TA):TE:=fun σ H Q=>t σ H fun xs H1=>xs.length≤aI∧∀ p,H1 p=none→Q (.ref p) (upd H1 p (.tup xs))
def tLst (t:TA):TE:=fun σ H Q=>t σ H fun xs H1=>xs.length≤aI∧∀ p,H1 p=none→Q (.ref p) (upd H1 p (.lst xs))
theorem ut {x1} (h:PA X es t):PE X (.Tuple es x1 pos) (tTup t):=by
 intro pins s σ H Q I hq
 refine wpAny_Tuple_spliced (thn (h pos pins s σ H _ I hq) fun us s1 ⟨xs,H1,I1,r,z,q⟩=>⟨by rw [← r.length];exact z,?_⟩)
 have hf:H1 s1.heap.objs.size=none:=I1.hok.fresh (az _)
 refine ⟨.ref s1.heap.objs.size,upd H1 s1.heap.objs.size (.tup xs),I1.laid (t':=s1.toks) (fun b u e=>ay _ e) (az _) ?_,rfl,q _ hf⟩
 exact ⟨z,us,r,⟨_,bj _ rfl,rfl,_,rfl⟩⟩
theorem Cr (h:PA X es t):PE X (.List es pos) (tLst t):=by
 intro pins s σ H Q I hq
 refine wpAny_List_spliced (thn (h pos pins s σ H _ I hq) fun us s1 ⟨xs,H1,I1,r,z,q⟩=>⟨by rw [← r.length];exact z,?_⟩)
 have hf:H1 s1.heap.objs.size=none:=I1.hok.fresh (az _)
 refine ⟨.ref s1.heap.objs.size,upd H1 s1.heap.objs.size (.lst xs),I1.laid (t':=s1.toks) (fun b u e=>ay _ e) (az _) ?_,rfl,q _ hf⟩
 exact ⟨z,us,0,r,bj _ rfl⟩
end
abbrev Sp:=List V→Hp→VK→XK→Prop
abbrev CXT:=List Env→Hp→ao→XK→ah→ao→Prop
structure Env0 (P:aT) (w:bv) (K:aa) (mg:Str→Option ah) (base:bM) (A:bL) (outer:List Env) (s:ao) (H:Hp):Prop where
 frames:A.frames=some outer
 mod:Mod K mg base
 bs:∀ b o,base.get? b=some o→s.heap.get? b=some o∧H b=none
 bsz:base.objs.size≤s.heap.objs.size
 funs:s.heap.FunFrames base outer
 frf:∀ b∈frs outer,H b=none
 hok:HOk P w H s.heap
 bare:fT s.gens
def CE (outer:List Env) (P:aT) (w:bv) (H:Hp) (s:ao) (Q:VK) (u:ah) (s':ao):Prop :=
 ∃ v H',s'.os=s.os∧fT s'.gens∧Un (frs outer) [] H H' s.heap s'.heap∧HOk P w H' s'.heap∧RelV v u∧Q v H'
def CR (CX:CXT) (outer:List Env) (P:aT) (w:bv) (H:Hp) (s:ao) (Q:VK) (E:XK) (r:iE) (s':ao):Prop :=
 match r with
 | .ok (.ret u)=>CE outer P w H s Q u s'
 | .ok _=>False
 | .error e=>CX outer H s E e s'
structure FnOk (P:aT) (w:bv) (K:aa) (mg:Str→Option ah) (base:bM) (CX:CXT) (k:Nat) (f:ae) (fd:bR) (ps:List Str) (sp:Sp):Prop where
 len:∀ vs H Q E,sp vs H Q E→vs.length=ps.length
 run:∀ (A:bL) (outer:List Env) (s:ao) (H:Hp) (args:Args) (us:List ah) (vs:List V) (Q:VK) (E:XK),Room k A→Env0 P w K mg base A outer s H→ir s fd args (ps.zip us)→Vals vs us→sp vs H Q E →
  eG (model P w) A (.call (.ref f) args) (CR CX outer P w H s Q E) s
theorem FnOk.imp {P:aT}{w:bv}{K:aa}{mg:Str→Option ah}{base:bM}{CX:CXT}{k:Nat}{f:ae}{fd:bR}{ps:List Str}{sp sp':Sp} (F:FnOk P w K mg base CX k f fd ps sp)
  (h:∀ vs H Q E,sp' vs H Q E→sp vs H Q E):FnOk P w K mg base CX k f fd ps sp' :=
 ⟨fun vs H Q E q=>F.len vs H Q E (h _ _ _ _ q),fun A outer s H args us vs Q E hr he hb hv hs=>F.run A outer s H args us vs Q E hr he hb hv (h _ _ _ _ hs)⟩
theorem Env0.make {P:aT}{w:bv}{K:aa}{mg:Str→Option ah}{base:bM}{A:bL}{outer:List Env}{s:ao}{H:Hp} (e:Env0 P w K mg base A outer s H) (C:ae) (us:List ah) (kw:List (Str×ah)) :
  Env0 P w K mg base (A.under (.builtin "type.__call__" ⟨.ref C::us,kw⟩)) outer s H:=⟨by first | exact e.frames | (simpa [iR,Code.envs,iZ,pushEnvs] using e.frames),e.mod,e.bs,e.bsz,e.funs,e.frf,e.hok,e.bare⟩
section
variable {X:Cx}{pins:List (ae×Obj)}{σ:St}{H:Hp}{s s':ao}
theorem Inv.env0 (I:Inv X pins σ H s):Env0 X.prog X.w X.K X.mg X.base X.A X.stack s H :=
 ⟨I.ok.frames,I.ok.mod,I.bs,aJ I.ok.bsz I.sz,I.stack,I.stkFree,I.hok,I.bare⟩
theorem Inv.after {Q:VK}{u:ah} (I:Inv X pins σ H s) (h:CE X.stack X.prog X.w H s Q u s'):EP X pins σ Q u s':=by
 obtain ⟨v,H',os,bare,un,hok,r,q⟩:=h
 obtain ⟨hh,g,d,t,os'⟩:=s'
 obtain rfl:os'=s.os:=os
 exact ⟨v,H',I.call (h':=hh) (g':=g) (d':=d) (t':=t) (ch:=[]) un hok bare (fun b z=>absurd z (by simp)),r,q⟩
end
def CJ (sp:Sp) (dvs:List V) (E:XK) (t:TA):TE:=fun σ H Q=>t σ H fun vs H1=>sp (vs++dvs) H1 Q E
def Az (C:ae) (m:Str) (sp:Sp) (dvs:List V) (E:XK) (ta:TE) (t:TA):TE:=fun σ H Q=>ta σ H fun x H1=>∃ a dx fs,x=.ref a∧H1 a=some (.ins C dx fs)∧fs.lookup m=none ∧
 t σ H1 fun vs H2=>sp (x::(vs++dvs)) H2 Q E
def Eg (C:ae) (sp:Sp) (dvs:List V) (E:XK) (t:TA):TE:=fun σ H Q=>t σ H fun vs H1=>∀ x dx,H1 x=none→H1 dx=none→dx≠x →
 sp (.ref x::(vs++dvs)) (upd (upd H1 dx (.own x)) x (.ins C dx [])) (fun v H2=>v=.non∧Q (.ref x) H2) E
def Binds (K:aa) (fd:bR) (ps:List Str) (ds:List ah):Prop :=
 ∀ (s:ao) (us:List ah),K.In s.heap→(us++ds).length=ps.length→ir s fd ⟨us,[]⟩ (ps.zip (us++ds))
theorem Binds.all {K:aa}{fd:bR}{ps:List Str} (h:∀ us:List ah,us.length=ps.length→bindArgs fd ⟨us,[]⟩=pure (ps.zip us)):Binds K fd ps []:=fun s us _ hl=>by
 rw [bZ] at hl ⊢
 exact .of_eq (h us hl)
def lv (CX:CXT) (X:Cx) (E:XK):Prop:=∀ (pins:List (ae×Obj)) (σ:St) (H:Hp) (s:ao) (e:ah) (s':ao),Inv X pins σ H s→CX X.stack H s E e s'→X.xe e s'
section
variable {X:Cx}{CX:CXT}{k:Nat}{f C:ae}{fd:bR}{ps:List Str}{sp:Sp}{dvs:List V}{ds:List ah}{E:XK}{x m:Str}{p pos apos:Pos}{e o:a8}{es:List a8}{ta:TE}{t:TA}
theorem yX {pins:List (ae×Obj)}{σ:St}{H:Hp}{s:ao}{Q:VK}{us:List ah}{vs:List V} (F:FnOk X.prog X.w X.K X.mg X.base CX k f fd ps sp) (hr:Room k X.A) (hb:Binds X.K fd ps ds) (hd:Vals dvs ds) (hx:lv CX X E)
  (I:Inv X pins σ H s) (r:Vals vs us) (h:sp (vs++dvs) H Q E):aZ (model X.prog X.w) X.A (call (.ref f) us) (EP X pins σ Q) X.xe s:=by
 have r2:Vals (vs++dvs) (us++ds):=r.append hd
 have hl:(us++ds).length=ps.length:=by rw [← r2.length];exact F.len _ _ _ _ h
 refine wpAny_call (ij (F.run X.A X.stack s H ⟨us,[]⟩ (us++ds) (vs++dvs) Q E hr I.env0 (hb s us I.kIn hl) r2 h) fun r s' hq=>?_)
 cases r with
 | error e=>exact hx pins σ H s e s' I hq
 | ok fl =>
  cases fl with
  | ret u=>exact I.after hq
  | next=>exact bC hq
  | brk=>exact bC hq
  | cont=>exact bC hq
theorem Dc (F:FnOk X.prog X.w X.K X.mg X.base CX k f fd ps sp) (hr:Room k X.A) (hg:Gl X x) (hm:X.mg x=some (.ref f)) (hk:aB X.K (.ref f)=true) (hb:Binds X.K fd ps ds) (hd:Vals dvs ds) (hx:lv CX X E)
  (ha:PA X (e::es) t) (hdb:(x == ("__debug__":Str))=false:=by decide) (he:aR (e::es) X.env=(false,eval e X.env)::aR es X.env:=by rfl) (hpl:(ck pos (aR es X.env)).any (·.1)=false:=by rfl) :
  PE X (.Call (.Name x p) (e::es) [] pos) (CJ sp dvs E t):=by
 intro pins s σ H Q I h
 refine fG (tw I hg hm ?_ hdb)
 refine ja (h₀:=X.base) I.ok.mod.kin hk (thn (ha pos pins s σ H _ I h) fun us s1 ⟨vs,H1,I1,r,q⟩=>⟨I1.kIn,?_⟩) he hpl
 exact yX F hr hb hd hx I1 r q
theorem Db {pl:Sem Bool} (he:PE X o ta) (c:Cls X.K C) (hm:Meth X.K C m f) (F:FnOk X.prog X.w X.K X.mg X.base CX k f fd ps sp) (hr:Room k X.A) (hb:Binds X.K fd ps ds) (hd:Vals dvs ds) (hx:lv CX X E) (ha:PA X (e::es) t)
  (hst:aR (e::es) X.env=(false,eval e X.env)::aR es X.env:=by rfl) (hpl:(ck pos (aR es X.env)).any (·.1)=false:=by rfl)
  (ht:eval (.Call (.Attribute o m apos) (e::es) [] pos) X.env=(do
   let ov ← eval o X.env
   fS apos.atName
   let (f,first) ← holding [ov] (fA ov m pl)
   il pos f first (ck pos (aR (e::es) X.env)) (eI pos (cQ [] X.env))):=by rfl) :
  PE X (.Call (.Attribute o m apos) (e::es) [] pos) (Az C m sp dvs E ta t):=by
 intro pins s σ H Q I h
 refine iM (pl:=pl) (thn (he pins s σ H _ I h) fun u s1 ⟨x,H1,I1,rx,a,dx,fs,ex,ea,l,q⟩=>?_) ht
 subst ex
 obtain rfl:u=bx a:=rx
 refine tG I1 ea c hm l ?_
 refine ja (first:=[.ref a]) (h₀:=X.base) I.ok.mod.kin hm.kp (thn (ha pos pins s1 σ H1 _ I1 q) fun us s2 ⟨vs,H2,I2,r,q2⟩=>⟨I2.kIn,?_⟩) hst hpl
 exact yX (us:=.ref a::us) (vs:=.ref a::vs) F hr hb hd hx I2 (.cons rfl r) q2
theorem Bg {pl:Sem Bool} (he:PE X o ta) (c:Cls X.K C) (hm:Meth X.K C m f) (F:FnOk X.prog X.w X.K X.mg X.base CX k f fd ps sp) (hr:Room k X.A) (hb:Binds X.K fd ps ds) (hd:Vals dvs ds) (hx:lv CX X E)
  (ht:eval (.Call (.Attribute o m apos) [] [] pos) X.env=(do
   let ov ← eval o X.env
   fS apos.atName
   let (f,first) ← holding [ov] (fA ov m pl)
   il pos f first (ck pos (aR [] X.env)) (eI pos (cQ [] X.env))):=by rfl) :
  PE X (.Call (.Attribute o m apos) [] [] pos) (Az C m sp dvs E ta Cc):=by
 intro pins s σ H Q I h
 refine iM (pl:=pl) (thn (he pins s σ H _ I h) fun u s1 ⟨x,H1,I1,rx,a,dx,fs,ex,ea,l,q⟩=>?_) ht
 subst ex
 obtain rfl:u=bx a:=rx
 refine tG I1 ea c hm l ?_
 exact iW (first:=[.ref a]) I1.kIn hm.kp (yX (us:=[.ref a]) (vs:=[.ref a]) F hr hb hd hx I1 (.cons rfl .nil) q)
structure Mk (K:aa) (C f:ae):Prop where
 makes:gU K C=true
 init:aq K (.ref C) "__init__"=some (some (.ref f))
 fn:bF K (.ref f)=true
 kp:aB K (.ref C)=true
theorem A3 {pins:List (ae×Obj)}{σ:St}{H:Hp}{s:ao}{Q:VK}{us:List ah}{vs:List V} (M:Mk X.K C f) (F:FnOk X.prog X.w X.K X.mg X.base CX k f fd ps sp) (hr:Room (k+1) X.A) (hb:Binds X.K fd ps ds) (hd:Vals dvs ds)
  (hx:lv CX X E) (I:Inv X pins σ H s) (r:Vals vs us)
  (h:∀ x dx,H x=none→H dx=none→dx≠x→sp (.ref x::(vs++dvs)) (upd (upd H dx (.own x)) x (.ins C dx [])) (fun v H2=>v=.non∧Q (.ref x) H2) E) :
  aZ (model X.prog X.w) X.A (call (.ref C) us) (EP X pins σ Q) X.xe s:=by
 have hq:=h (s.heap.objs.size+1) s.heap.objs.size (I.hok.fresh (gp _)) (I.hok.fresh (az _)) (aQ (cF _))
 have I2:=Inv.made (C:=C) I
 have r2:Vals (V.ref (s.heap.objs.size+1)::(vs++dvs)) (bx (s.heap.objs.size+1)::(us++ds)):=.cons rfl (r.append hd)
 have hl:(bx (s.heap.objs.size+1)::us++ds).length=ps.length:=by
  have e:=r2.length
  rw [F.len _ _ _ _ hq] at e
  exact e.symm
 refine wpAny_call (Bw (f:=f) I.kIn M.makes M.init (beq_iff_eq.mp M.fn) (ij (F.run _ X.stack _ _ ⟨bx (s.heap.objs.size+1)::us,[]⟩ (bx (s.heap.objs.size+1)::(us++ds)) _ _ E (hr.make C us [])
  (I2.env0.make C us []) (hb _ (bx (s.heap.objs.size+1)::us) I2.kIn hl) r2 hq) fun r s' hq'=>?_))
 cases r with
 | error e=>exact hx pins σ _ _ e s' I2 hq'
 | ok fl =>
  cases fl with
  | ret u =>
   obtain ⟨v,H',I3,rv,ev,q3⟩:=I2.after hq'
   subst ev
   exact ⟨rv,⟨V.ref (s.heap.objs.size+1),H',I3,rfl,q3⟩⟩
  | next=>exact bC hq'
  | brk=>exact bC hq'
  | cont=>exact bC hq'
theorem Bh (M:Mk X.K C f) (F:FnOk X.prog X.w X.K X.mg X.base CX k f fd ps sp) (hr:Room (k+1) X.A) (hg:Gl X x) (hm:X.mg x=some (.ref C)) (hb:Binds X.K fd ps ds) (hd:Vals dvs ds) (hx:lv CX X E)
  (hdb:(x == ("__debug__":Str))=false:=by decide):PE X (.Call (.Name x p) [] [] pos) (Eg C sp dvs E Cc):=by
 intro pins s σ H Q I h
 refine fG (tw I hg hm ?_ hdb)
 exact iW I.kIn M.kp (A3 (us:=[]) M F hr hb hd hx I .nil h)
end
section
variable {X:Cx}{CX:CXT}{k:Nat}{f C:ae}{fd:bR}{ps ks:List Str}{sp:Sp}{E:XK}{x m:Str}{p pos apos kpos:Pos}{e o:a8}{es:List a8}{kws:List fm}{te ta:TE}{t tk:TA}{nm:Option Str}
structure KBinds (K:aa) (fd:bR) (ps ks:List Str) (g:List ah→List ah→List ah) (gV:List V→List V→List V):Prop where
 to:∀ (s:ao) (us ws:List ah),K.In s.heap→(g us ws).length=ps.length→ir s fd ⟨us,ks.zip ws⟩ (ps.zip (g us ws))
 rel:∀ {vs:List V}{us:List ah}{zs:List V}{ws:List ah},Vals vs us→Vals zs ws→Vals (gV vs zs) (g us ws)
variable {g:List ah→List ah→List ah}{gV:List V→List V→List V}
end
structure FnScope (N P:List Str) (sc:cW):Prop where
 kind:sc.kind=.function
 co:sc.isCoroutine=false
 gen:sc.isGenerator=false
 nd:N.Nodup
 pre:N.take P.length=P
 par:∀ x∈P,sc.names.lookup x=some .local∨sc.names.lookup x=some .cell
 nofree:∀ y∈sc.names,y.2≠.free
theorem fsc {N P:List Str}{sc:cW} (h1:sc.kind=.function:=by rfl) (h2:sc.isCoroutine=false:=by rfl) (h3:sc.isGenerator=false:=by rfl) (h4:N.Nodup:=by decide +kernel) (h5:N.take P.length=P:=by rfl) (h6:∀ x∈P,sc.names.lookup x=some .local∨sc.names.lookup x=some .cell:=by decide +kernel) (h7:∀ y∈sc.names,y.2≠.free:=by decide +kernel):FnScope N P sc:=⟨h1,h2,h3,h4,h5,h6,h7⟩
theorem vM {kindOf:Str→Option dH}{x:Str}:∀ {binds:List (Str×ah)}{m:Str→Option ah},(∀ v,(x,v)∉binds)→jA kindOf binds m x=m x
 | [],_,_=>rfl
 | (n,v)::r,m,h=>by
  unfold jA
  rw [vM fun w hw=>h w (ak _ hw)]
  split
  ·have:x≠n:=by rintro rfl;exact h v ap
   simp [this]
  ·rfl
theorem vO {kindOf:Str→Option dH}{x:Str}:∀ {binds:List (Str×ah)}{m:Str→Option ah},(∀ v,(x,v)∉binds)→jB kindOf binds m x=m x
 | [],_,_=>rfl
 | (n,v)::r,m,h=>by
  unfold jB
  rw [vO fun w hw=>h w (ak _ hw)]
  split
  ·rfl
  ·have:x≠n:=by rintro rfl;exact h v ap
   simp [this]
theorem vN {kindOf:Str→Option dH}{x:Str}{v:ah}:∀ {P:List Str}{vs:List ah}{i:Nat}{m:Str→Option ah},P.Nodup→P[i]?=some x→vs[i]?=some v→kindOf x=some .local →
  jA kindOf (P.zip vs) m x=some v
 | [],_,_,_,_,h,_,_=>by simp at h
 | _::_,[],_,_,_,_,h,_=>by simp at h
 | p::P,w::vs,0,m,nd,h1,h2,hk=>by
  simp at h1 h2;subst h1;subst h2
  show jA kindOf ((p,w)::P.zip vs) m p=_
  unfold jA
  rw [vM fun v hv=>(aw.mp nd).1 (ie hv).1,if_pos hk]
  simp
 | p::P,w::vs,i+1,m,nd,h1,h2,hk=>by
  show jA kindOf ((p,w)::P.zip vs) m x=_
  unfold jA
  exact vN (i:=i) (aw.mp nd).2 (by simpa using h1) (by simpa using h2) hk
theorem vP {kindOf:Str→Option dH}{x:Str}{v:ah}:∀ {P:List Str}{vs:List ah}{i:Nat}{m:Str→Option ah},P.Nodup→P[i]?=some x→vs[i]?=some v→kindOf x≠some .local →
  jB kindOf (P.zip vs) m x=some v
 | [],_,_,_,_,h,_,_=>by simp at h
 | _::_,[],_,_,_,_,h,_=>by simp at h
 | p::P,w::vs,0,m,nd,h1,h2,hk=>by
  simp at h1 h2;subst h1;subst h2
  show jB kindOf ((p,w)::P.zip vs) m p=_
  unfold jB
  rw [vO fun v hv=>(aw.mp nd).1 (ie hv).1,if_neg hk]
  simp
 | p::P,w::vs,i+1,m,nd,h1,h2,hk=>by
  show jB kindOf ((p,w)::P.zip vs) m x=_
  unfold jB
  exact vP (i:=i) (aw.mp nd).2 (by simpa using h1) (by simpa using h2) hk
def start (N:List Str) (vs:List V):St:=vs.map some++aW (N.length - vs.length) none
def xZ (CX:CXT) (P:aT) (w:bv) (K:aa) (mg:Str→Option ah) (base:bM) (N:List Str) (qual:Str) (scope:cW) (f:ae) (cd:ah) (A:bL) (outer:List Env) (s:ao) (H:Hp) (E:XK):Cx where
 prog:=P
 w:=w
 K:=K
 mg:=mg
 base:=base
 A:=A.deeper (dN qual scope s.heap.objs.size f cd)
 N:=N
 s₀:=s
 H₀:=H
 env:=dN qual scope s.heap.objs.size f cd
 outer:=outer
 stack:=dN qual scope s.heap.objs.size f cd::outer
 ex:=[]
 calm:=true
 fn:=fun _=>true
 pn:=[]
 xe:=fun e s'=>aZ (model P w) (A.deeper (dN qual scope s.heap.objs.size f cd)) (leaving (dN qual scope s.heap.objs.size f cd) e) (fun _ s''=>CX outer H s E e s'') (fun e' s''=>CX outer H s E e' s'') s'
theorem x8 {sc:cW}{n:Nat}{x:Str} (h:sc.names.lookup x=some .cell):∃ c,(cellsFrom n sc.names []).lookup x=some c:=by
 have q:=iD sc.names n [] (.inl h)
 exact cK.mp q
theorem An {CX:CXT}{P:aT}{w:bv}{K:aa}{mg:Str→Option ah}{base:bM}{N ps:List Str}{qual:Str}{scope:cW}{f:ae}{cd:ah}{A:bL}{outer:List Env}{s s1:ao}{H:Hp}{E:XK}{us:List ah}{vs:List V}
  (S:FnScope N ps scope) (hd:A.handled=none) (e0:Env0 P w K mg base A outer s H) (hl:vs.length=ps.length) (r:Vals vs us)
  (x:InCallC s s.heap.objs.size (jA (dN qual scope s.heap.objs.size f cd).kindOf (ps.zip us) fun _=>none) (cellsFrom (s.heap.objs.size+1) scope.names []) (jB (dN qual scope s.heap.objs.size f cd).kindOf (ps.zip us) fun _=>none) s1) :
  Inv (xZ CX P w K mg base N qual scope f cd A outer s H E) [] (start N vs) H s1:=by
 have hpl:ps.length≤N.length:=by have:=congrArg cL S.pre;rw [bP] at this;omega
 obtain ⟨h1,tk,rfl,hk⟩:=x.done
 have noA:∀ b:ae,b∉(xZ CX P w K mg base N qual scope f cd A outer s H E).ex:=fun b z=>absurd (show b∈([]:List ae) from z) (by simp)
 refine ⟨⟨e0.mod,S.kind,rfl,rfl,az _,fun y z c h1 h2=>?_,fun y hy=>?_,fun y c _ h=>?_,fun _=>hd,Around.frames_deeper e0.frames,.inr ⟨rfl,rfl⟩,fun b z=>absurd z (noA b),e0.bs,e0.bsz,fun b _ _=>noA b,fun b z=>absurd z (noA b),e0.funs,e0.frf⟩,
  rfl,e0.bare,Un.kept hk,⟨_,x.toInCall.ns,fun i y v h1 h2 h3=>?_⟩,fun y c h=>⟨_,x.cell y c h⟩,e0.hok.fresh (az _),fun y c h=>?_,fun p hp=>absurd (show p∈([]:List (ae×Obj)) from hp) (by simp),e0.hok.kept hk,?_⟩
 ·exact name_of_addr x.apart (cy h1) (cy h2)
 ·have hy:scope.names.lookup y=some .cell∨scope.names.lookup y=some .free:=hy
  rcases hy with hy | hy
  ·exact x8 hy
  ·exact absurd rfl (S.nofree _ (cy hy))
 ·exact d9 (x.above y c (cy h))
 ·have hi:i < vs.length:=by
   unfold start at h2
   by_cases hi:i < vs.length
   ·exact hi
   ·rw [dw (by simpa using hi)] at h2
    rw [fO] at h2
    split at h2 <;> cases h2
  have ha:vs[i]?=some v:=by
   unfold start at h2
   rw [fk (by simpa using hi),bo] at h2
   cases e:vs[i]? with
   | none=>rw [e] at h2;cases h2
   | some a=>rw [e] at h2;cases h2;rfl
  obtain ⟨u,hu,rv⟩:=r.get ha
  have hp:ps[i]?=some y:=by
   rw [← S.pre,List.getElem?_take_of_lt (by omega)];exact h1
  have ndP:ps.Nodup:=by rw [← S.pre];exact S.nd.sublist (dW _ _)
  refine ⟨u,rv,?_⟩
  rcases S.par y (bN hp) with k | k
  ·exact .inl ⟨k,vN ndP hp hu k⟩
  ·obtain ⟨c,e⟩:=x8 (n:=s.heap.objs.size+1) k
   refine .inr ⟨.inl k,c,e,?_⟩
   have q:=x.cell y c e
   rw [vP ndP hp hu (by show scope.names.lookup y≠_;rw [k];decide)] at q
   exact q
 ·exact e0.hok.fresh (d9 (x.above y c (cy h)))
 ·unfold start
  show _=N.length
  rw [aO,af,cZ]
  omega
theorem EF {CX:CXT}{P:aT}{w:bv}{K:aa}{mg:Str→Option ah}{base:bM}{k:Nat}{f:ae}{name qual:Str}{params:iI}{body:List bT}{scope:cW}{dV kV doc pm cdv ct oc:ah}{an od:Option ae}
  {osl:Array (Option ah)}{N ps:List Str}{sp:Sp} (lk:K.lookup f=some ⟨oc,od,.func (du name qual params body scope dV kV doc pm an cdv ct),osl⟩) (hcd:aG K cdv qual=true) (S:FnScope N ps scope)
  (len:∀ vs H Q E,sp vs H Q E→vs.length=ps.length)
  (hbody:∀ (A:bL) (outer:List Env) (s:ao) (H:Hp) (vs:List V) (Q:VK) (E:XK),Room k (A.deeper (dN qual scope s.heap.objs.size f cdv))→sp vs H Q E →
   ∃ t,PSs (xZ CX P w K mg base N qual scope f cdv A outer s H E) body t∧t { nx:=fun _ H'=>Q .non H',rt:=Q } (start N vs) H) :
  FnOk P w K mg base CX (k+1) f (du name qual params body scope dV kV doc pm an cdv ct) ps sp:=by
 refine ⟨len,fun A outer s H args us vs Q E hr e0 hb r hsp=>?_⟩
 have hl:=len _ _ _ _ hsp
 have KX:K.In s.heap:=e0.mod.kin.keeps fun b o e=>(e0.bs b o e).1
 have lim:s.heap.NoLimit:=e0.mod.nolimit.keeps fun b o e=>(e0.bs b o e).1
 have hkind:∀ y∈ps.zip us,scope.names.lookup y.1=some .local∨(scope.names.lookup y.1=some .cell∧((cellsFrom (s.heap.objs.size+1) scope.names []).lookup y.1).isSome=true):=fun ⟨n,v⟩ hy=>by
  rcases S.par n (ie hy).1 with q | q
  ·exact .inl q
  ·exact .inr ⟨q,iD _ _ _ (.inl q)⟩
 refine codeAny_call_function hr.depth (KX _ _ lk) rfl S.co S.gen rfl (PySem.W.codeRec_of KX hcd) (hb _ _ _ _ ?_)
 refine wpAny_newFunctionEnv_cells S.kind hkind fun env he s1 x=>?_
 subst he
 refine ⟨lim.keeps x.toInCall.keep,codeAny_func ?_⟩
 obtain ⟨t,ht,hq⟩:=hbody A outer s H vs Q E (hr.deeper _) hsp
 have I:Inv (xZ CX P w K mg base N qual scope f cdv A outer s H E) [] (start N vs) H s1:=An S hr.hd e0 hl r x
 refine bw (ht [] s1 (start N vs) H _ I hq) (fun fl s' hs=>?_) fun e s' hs=>hs
 have fin:∀ {σ':St}{H':Hp}{v:V}{u:ah},Inv (xZ CX P w K mg base N qual scope f cdv A outer s H E) [] σ' H' s'→RelV v u→Q v H'→CE outer P w H s Q u s' :=
  fun {σ' H' v u} J rv q=>⟨v,H',J.os,J.bare,J.base,J.hok,rv,q⟩
 cases fl with
 | ret u =>
  obtain ⟨v,σ',H',J,rv,q⟩:=hs
  exact fin J rv q
 | next =>
  obtain ⟨σ',H',J,q⟩:=hs
  exact fin (v:=V.non) (u:=im) J rfl q
 | brk =>
  obtain ⟨_,_,_,q⟩:=hs
  exact bC q
 | cont =>
  obtain ⟨_,_,_,q⟩:=hs
  exact bC q
section
variable {X:Cx}{x:Str}{p pos:Pos}{e:a8}{es:List a8}{t:TA}{id T:String}{r:List V→Hp→VK→Prop}
def tCB (r:List V→Hp→VK→Prop) (t:TA):TE:=fun σ H Q=>t σ H fun vs H1=>r vs H1 Q
theorem lR (hc:CallR X (.builtin id) r) (hg:Gl X x) (hm:X.mg x=none) (hv:bS x=some (.builtin id)) (ha:PA X (e::es) t) (hn:x≠"__name__":=by decide) (hdb:(x == ("__debug__":Str))=false:=by decide)
  (he:aR (e::es) X.env=(false,eval e X.env)::aR es X.env:=by rfl) (hpl:(ck pos (aR es X.env)).any (·.1)=false:=by rfl):PE X (.Call (.Name x p) (e::es) [] pos) (tCB r t):=by
 intro pins s σ H Q I h
 refine fG (wM I hg hm hv ?_ hn hdb)
 exact PyProof.Rows.callWith_builtin1 (thn (ha pos pins s σ H _ I h) fun us s1 ⟨vs,H1,I1,r1,q1⟩=>hc pins s1 σ H1 vs us Q I1 r1 q1) he hpl
theorem mV (hc:CallR X (.type T) r) (hg:Gl X x) (hm:X.mg x=none) (hv:bS x=some (.type T)) (ha:PA X (e::es) t) (hn:x≠"__name__":=by decide) (hdb:(x == ("__debug__":Str))=false:=by decide)
  (he:aR (e::es) X.env=(false,eval e X.env)::aR es X.env:=by rfl) (hpl:(ck pos (aR es X.env)).any (·.1)=false:=by rfl):PE X (.Call (.Name x p) (e::es) [] pos) (tCB r t):=by
 intro pins s σ H Q I h
 refine fG (wM I hg hm hv ?_ hn hdb)
 exact gD (thn (ha pos pins s σ H _ I h) fun us s1 ⟨vs,H1,I1,r1,q1⟩=>hc pins s1 σ H1 vs us Q I1 r1 q1) he hpl
end
end L2
namespace HT
open PySem PyProof.Rows
section
open PySem.SeqAt
open PySem.AutoSeq1 (wpAny_loadPart')
open PySem.MeetsSeq PySem.MeetsSeq2 PySem.MeetsSeq3
end
section
variable {prog:aT}{w:bv}{A:bL}{E:ah→ao→Prop}{s:ao}
theorem cat_tup {t b:ae}{vs ws:List ah}{Q:ah→ao→Prop} (ht:IsTup s.heap t vs.toArray) (hb:IsTup s.heap b ws.toArray) (hv:vs≠[])
  (h1:ws=[]→Q (.ref t) s) (h2:ws≠[]→Q (.ref s.heap.objs.size) { s with heap:=s.heap.push { cls:=.type "tuple",data:=.seq (vs++ws).toArray } })
  (hsz:vs.length+ws.length≤aI):aZ (model prog w) A (cR .Add (.ref t) (.ref b)) Q E s:=by
 obtain ⟨⟨cls,dd,data,sl⟩,ho,hc,n,hd⟩:=id ht
 obtain ⟨⟨cls2,dd2,data2,sl2⟩,ho2,hc2,n2,hd2⟩:=id hb
 simp only at hc hd hc2 hd2
 subst hc hd hc2 hd2
 have e:vs.toArray++ws.toArray=(vs++ws).toArray:=by simp
 by_cases hw:ws=[]
 ·exact concat_meets ⟨_,ho,rfl⟩ ⟨_,ho2,rfl⟩ noFill_tuple_add seq_tuple_add iG iz (ip _ _)
   (tuple_addW1 t b vs.toArray ws.toArray n n2 dd dd2 sl sl2 (by simpa using hv) (by simp [hw])) ⟨ho,ho2,h1 hw⟩
 ·refine concat_meets ⟨_,ho,rfl⟩ ⟨_,ho2,rfl⟩ noFill_tuple_add seq_tuple_add iG iz (ip _ _)
   (tuple_addW2 t b vs.toArray ws.toArray n n2 dd dd2 sl sl2 (by simpa using hv) (by simpa using hw) (by rw [aM,aM];exact hsz)) ⟨ho,ho2,?_⟩
  rw [e]
  exact h2 hw
def sIx (n d:Nat):Option Int→Nat
 | none=>d
 | some v=>if v < 0 then (v+(n:Int)).toNat else min v.toNat n
theorem E3 (n d:Nat) (hd:d≤n) (o:Option Int):sIx n d o≤n:=by
 cases o with
 | none=>exact hd
 | some v =>
  show (if v < 0 then (v+(n:Int)).toNat else min v.toNat n)≤n
  by_cases hv:v < 0
  ·rw [if_pos hv];omega
  ·rw [if_neg hv];exact Nat.min_le_right _ _
theorem zL (v:Int) (n d:Nat):(if v < 0 then max (v+(n:Int)) 0 else min v (n:Int))=((sIx n d (some v):Nat):Int):=by
 show (if v < 0 then max (v+(n:Int)) 0 else min v (n:Int))=(((if v < 0 then (v+(n:Int)).toNat else min v.toNat n):Nat):Int)
 by_cases hv:v < 0
 ·simp only [if_pos hv];omega
 ·simp only [if_neg hv];omega
theorem yQ (lo hi:Option Int) (n:Nat):eL lo hi 1 (n:Int)=(((sIx n 0 lo:Nat):Int),((sIx n n hi:Nat):Int)):=by
 have h1:¬ ((1:Int) < 0):=by omega
 unfold eL
 simp only [h1,if_false]
 refine Prod.ext ?_ ?_
 ·cases lo with
  | none=>rfl
  | some v=>exact zL v n 0
 ·cases hi with
  | none=>rfl
  | some v=>exact zL v n n
theorem yv (i j:Nat):cX (i:Int) (j:Int) 1=j - i:=by
 unfold cX
 have h1:(1:Int) > 0:=by omega
 simp only [h1,if_true,Int.ediv_one]
 split <;> omega
theorem sV {v:ah}{o:Option Int}{Q:Option Int→ao→Prop} (p:iF v o) (h:Q o s):aZ (model prog w) A (Builtin.Slice.slicePartIndex v) Q E s:=by
 cases p with
 | none=>exact slicePart_none h
 | int i t=>exact slicePart_int h
theorem qY {sl:ae}{vl vu:ah}{lo hi:Option Int}{n:Nat}{Q:Int×Int×Nat→ao→Prop} (hs:s.heap.IsSliceOf sl vl vu .none) (pl:iF vl lo) (pu:iF vu hi)
  (h:Q (((sIx n 0 lo:Nat):Int),1,sIx n n hi - sIx n 0 lo) s):aZ (model prog w) A (gC (.ref sl) (pure (n:Int))) Q E s:=by
 obtain ⟨os,hos,hcs,hds⟩:=id hs
 unfold gC Builtin.Slice.sliceFields
 refine av (av (wpAny_field hos hds (x:=vl) rfl (av (wpAny_field hos hds (x:=vu) rfl (av (wpAny_field hos hds (x:=.none) rfl (aS ?_)))))))
 refine av (slicePart_none ?_)
 show aZ _ _ (if ((1:Int) == 0)=true then _ else _) _ _ s
 rw [if_neg (by decide)]
 refine av (sV pl (av (sV pu (av (aS ?_)))))
 show aZ _ _ (match eL lo hi 1 (n:Int) with | (lo,hi)=>pure (lo,(1:Int),cX lo hi 1)) _ _ s
 rw [yQ lo hi n]
 show aZ _ _ (pure (((sIx n 0 lo:Nat):Int),(1:Int),cX ((sIx n 0 lo:Nat):Int) ((sIx n n hi:Nat):Int) 1)) _ _ s
 rw [yv]
 exact aS h
theorem Bc (xs:Array ah) (i k:Nat):((eC k).filterMap fun (m:Nat)=>xs[((i:Int)+(m:Int) * 1).toNat]?).toArray=((xs.toList.drop i).take k).toArray:=by
 have e:(fun (m:Nat)=>xs[((i:Int)+(m:Int) * 1).toNat]?)=fun m=>xs[i+m]?:=by
  funext m
  have:((i:Int)+(m:Int) * 1).toNat=i+m:=by omega
  rw [this]
 rw [e]
 have:=pick_run xs i k
 rw [gI] at this
 have e2:((fun x=>xs[x]?) ∘ fun x=>i+x)=fun m=>xs[i+m]?:=rfl
 rw [e2] at this
 rw [this]
theorem getItem_tuple_cut {t sl:ae}{items:Array ah}{vl vu:ah}{lo hi:Option Int}{Q:ah→ao→Prop} (ht:IsTup s.heap t items) (hs:s.heap.IsSliceOf sl vl vu .none) (pl:iF vl lo) (pu:iF vu hi)
  (hw:¬ (sIx items.size 0 lo=0∧sIx items.size items.size hi=items.size))
  (h:Q (.ref s.heap.objs.size) { s with heap:=s.heap.push { cls:=.type "tuple",data:=.seq ((items.toList.drop (sIx items.size 0 lo)).take (sIx items.size items.size hi - sIx items.size 0 lo)).toArray } })
  (hsz:items.size≤aI):aZ (model prog w) A (gO (.ref t) (.ref sl)) Q E s:=by
 have htake:sizeOk (.seq ((items.toList.drop (sIx items.size 0 lo)).take (sIx items.size items.size hi - sIx items.size 0 lo)).toArray):=by
  show ((items.toList.drop (sIx items.size 0 lo)).take (sIx items.size items.size hi - sIx items.size 0 lo)).toArray.size≤aI
  rw [aM,bP,fN,eV]
  omega
 have hj:sIx items.size items.size hi≤items.size:=E3 _ _ (az _) hi
 obtain ⟨os,hos,hcs,hds⟩:=id hs
 have hTs:s.TypeIs (.ref sl) "slice":=⟨os,hos,hcs⟩
 unfold gO
 try with_reducible refine dR ?_
 first | refine av (aS ?_) | skip
 refine av (wpAny_sequenceKey ht.typeIs (by decide) ?_)
 refine av (wpAny_callSpecial?_slot (name:=ac "__getitem__") ht.typeIs cV
  (wpAny_call_entry cV ht.typeIs entry_tuple_getitem ?_ (args_tuple_getitem _ _)))
 show aZ _ _ (Builtin.Tuple.tupleItemsOf (.ref t) >>= _) _ _ s
 refine av (tupleItemsOf_ ht ?_)
 refine av (wpAny_typeOf hTs ?_)
 rw [if_pos (by decide)]
 refine av (qY hs pl pu ?_)
 have hno:¬ ((((sIx items.size 0 lo:Nat):Int) == 0 && (1:Int) == 1 && (sIx items.size items.size hi - sIx items.size 0 lo) == items.size)=true):=by
  intro q
  rw [dB,dB] at q
  have q1:((sIx items.size 0 lo:Nat):Int)=0:=eq_of_beq q.1.1
  have q2:sIx items.size items.size hi - sIx items.size 0 lo=items.size:=eq_of_beq q.2
  exact hw ⟨by omega,by omega⟩
 show aZ _ _ (if (((sIx items.size 0 lo:Nat):Int) == 0 && (1:Int) == 1 && (sIx items.size items.size hi - sIx items.size 0 lo) == items.size)=true then _ else _) _ _ s
 rw [if_neg hno,Bc]
 first
  | exact av (m:=da _) (cP (aS ⟨_,rfl,aS h⟩) htake)
  | exact av (m:=da _) (cP (av (aS (aS ⟨_,rfl,aS h⟩))) htake)
  | exact av (av (m:=da _) (cP (aS (aS ⟨_,rfl,aS h⟩)) htake))
  | exact av (av (m:=da _) (cP (aS ⟨_,rfl,aS h⟩) htake))
end
end HT
namespace L2
open PySem PySem.Spec PyProof.Rows
abbrev TO:=St→Hp→(Option Int→Hp→Prop)→Prop
def PO (X:Cx) (e:Option a8) (t:TO):Prop :=
 ∀ (pins:List (ae×Obj)) (s:ao) (σ:St) (H:Hp) (Q:Option Int→Hp→Prop),Inv X pins σ H s→t σ H Q →
  aZ (model X.prog X.w) X.A (evalPart e X.env) (fun u s'=>∃ o H',Inv X pins σ H' s'∧iF u o∧Q o H') X.xe s
def CW:TO:=fun _ H Q=>Q none H
def tPart (t:TE):TO:=fun σ H Q=>t σ H fun x H1=>∃ i,x=.int i∧Q (some i) H1
section
variable {X:Cx}{e:a8}{te:TE}{lo hi:Option a8}{tl th:TO}{pos p2:Pos}
theorem po_none:PO X none CW:=by
 intro pins s σ H Q I h
 rw [jp]
 exact aS ⟨none,H,I,.none,h⟩
theorem zo (h:PE X e te):PO X (some e) (tPart te):=by
 intro pins s σ H Q I hw
 rw [evalPart_some]
 refine thn (h pins s σ H _ I hw) fun u s1 ⟨x,H1,I1,r1,q1⟩=>?_
 obtain ⟨i,rfl,q⟩:=q1
 obtain ⟨t,rfl⟩:=r1
 exact ⟨some i,H1,I1,.int i t,q⟩
def SlR (X:Cx) (r:V→Option Int→Option Int→Hp→VK→Prop):Prop :=
 ∀ (pins:List (ae×Obj)) (s:ao) (σ:St) (H:Hp) (x:V) (v vl vu:ah) (lo hi:Option Int) (sl:ae) (Q:VK),Inv X pins σ H s→RelV x v→s.heap.IsSliceOf sl vl vu .none→iF vl lo→iF vu hi→r x lo hi H Q →
  ∃ T id,typeLookup (.type T) "__getitem__"=pure (some (.builtin id))∧s.TypeIs v T∧aZ (model X.prog X.w) X.A (gO v (.ref sl)) (EP X pins σ Q) X.xe s
theorem SlR.or {r r':V→Option Int→Option Int→Hp→VK→Prop} (h:SlR X r) (h':SlR X r'):SlR X (fun x lo hi H Q=>r x lo hi H Q∨r' x lo hi H Q):=by
 intro pins s σ H x v vl vu lo hi sl Q I rx hs pl pu q
 rcases q with q | q
 ·exact h pins s σ H x v vl vu lo hi sl Q I rx hs pl pu q
 ·exact h' pins s σ H x v vl vu lo hi sl Q I rx hs pl pu q
def tSl (r:V→Option Int→Option Int→Hp→VK→Prop) (te:TE) (tl th:TO):TE:=fun σ H Q=>te σ H fun x H1=>tl σ H1 fun l H2=>th σ H2 fun u H3=>r x l u H3 Q
theorem Bf {r:V→Option Int→Option Int→Hp→VK→Prop} (hr:SlR X r) (he:PE X e te) (hl:PO X lo tl) (hu:PO X hi th):PE X (.Subscript e (.Slice lo hi none p2) pos) (tSl r te tl th):=by
 intro pins s σ H Q I h
 refine jd (thn (he pins s σ H _ I h) fun v s1 ⟨x,H1,I1,r1,q1⟩=>?_)
 refine wpAny_Slice (thn (hl pins s1 σ H1 _ I1 q1) fun vl s2 ⟨l,H2,I2,pl,q2⟩=>thn (hu pins s2 σ H2 _ I2 q2) fun vu s3 ⟨u,H3,I3,pu,q3⟩=>?_)
 rw [jp]
 refine aS ?_
 have I4:Inv X pins σ H3 { s3 with heap:=s3.heap.push { cls:=.type "slice",data:=.fields #[vl,vu,.none] } }:=I3.kept (t':=s3.toks) fun b ob q=>ay _ q
 obtain ⟨T,id,hT,ht,hg⟩:=hr pins { s3 with heap:=s3.heap.push { cls:=.type "slice",data:=.fields #[vl,vu,.none] } } σ H3 x v vl vu l u s3.heap.objs.size Q I4 r1 (hZ ..) pl pu q3
 show aZ (model X.prog X.w) X.A (gb e (.Slice lo hi none p2) v (.ref s3.heap.objs.size)) (EP X pins σ Q) X.xe { s3 with heap:=s3.heap.push { cls:=.type "slice",data:=.fields #[vl,vu,.none] } }
 exact tail_any (ops:=[.ref s3.heap.objs.size,v]) ht hT hg (by with_unfolding_all rfl)
def zH (xs:List V) (lo hi:Option Int):List V:=(xs.drop (HT.sIx xs.length 0 lo)).take (HT.sIx xs.length xs.length hi - HT.sIx xs.length 0 lo)
theorem sd (xs:List V) (lo hi:Option Int):(zH xs lo hi).length≤xs.length:=by
 unfold zH
 rw [bP,fN]
 omega
def rSlT (K:aa):V→Option Int→Option Int→Hp→VK→Prop:=fun x lo hi H Q=>∃ a xs,x=.ref a∧SqT K H a xs ∧
 ¬ (HT.sIx xs.length 0 lo=0∧HT.sIx xs.length xs.length hi=xs.length)∧∀ p,H p=none→Q (.ref p) (upd H p (.tup (zH xs lo hi)))
theorem E1:SlR X (rSlT X.K):=by
 intro pins s σ H x v vl vu lo hi sl Q I rx hs pl pu h
 obtain ⟨a,xs,rfl,hx,hw,q⟩:=h
 cases rx
 obtain ⟨its,r,ht,hz⟩:=I.tuple hx
 have hlen:its.toArray.size=xs.length:=by rw [aM];exact r.length.symm
 refine ⟨"tuple",_,cV.lookup,ht.typeIs,?_⟩
 refine HT.getItem_tuple_cut ht hs pl pu (by rw [hlen];exact hw) ?_ (by rw [hlen];exact hz)
 rw [hlen]
 refine ⟨.ref s.heap.objs.size,_,I.laid (t':=s.toks) (o:=.tup (zH xs lo hi)) (fun b ob q=>ay _ q) (az _) ?_,rfl,q _ (I.hok.fresh (az _))⟩
 exact ⟨aJ (sd xs lo hi) hz,_,(r.drop (HT.sIx xs.length 0 lo)).take (HT.sIx xs.length xs.length hi - HT.sIx xs.length 0 lo),iS _ _⟩
def Em (K:aa):R2:=fun x y H Q=>∃ a b xs ys,x=.ref a∧y=.ref b∧SqT K H a xs∧SqT K H b ys∧xs≠[]∧xs.length+ys.length≤aI ∧
 (ys=[]→Q (.ref a) H)∧(ys≠[]→∀ p,H p=none→Q (.ref p) (upd H p (.tup (xs++ys))))
theorem Vals.nil_iff {xs:List V}{us:List ah} (r:Vals xs us):us=[] ↔ xs=[]:=by
 cases r with
 | nil=>simp
 | cons _ _=>simp
theorem Df:OpR X (cR .Add) (Em X.K):=by
 intro pins s σ H x y v u Q I rx ry h
 obtain ⟨a,b,xs,ys,rfl,rfl,ha,hb,hx,hz,q1,q2⟩:=h
 cases rx
 cases ry
 obtain ⟨its,r1,p1,_⟩:=I.tuple ha
 obtain ⟨its2,r2,p2,_⟩:=I.tuple hb
 refine HT.cat_tup p1 p2 (fun z=>hx (r1.nil_iff.mp z)) (fun z=>⟨.ref a,H,I,rfl,q1 (r2.nil_iff.mp z)⟩) (fun z=>?_) (by rw [← r1.length,← r2.length];exact hz)
 refine ⟨.ref s.heap.objs.size,_,I.laid (t':=s.toks) (o:=.tup (xs++ys)) (fun b ob q=>ay _ q) (az _) ?_,rfl,q2 (fun w=>z (r2.nil_iff.mpr w)) _ (I.hok.fresh (az _))⟩
 exact ⟨by rw [aO];exact hz,_,r1.append r2,iS _ _⟩
end
def ixN (n:Nat) (i:Int):Option Nat:=if 0≤i then (if i < n then some i.toNat else none) else if -(n:Int)≤i then some (i+n).toNat else none
def atI {α:Type} (xs:List α) (i:Int):Option α:=(ixN xs.length i).bind fun j=>xs[j]?
theorem zy {n:Nat}{i:Int}{j:Nat} (h:ixN n i=some j):seqIndex? i n=some j∧j < n∧-(n:Int)≤i∧i < n:=by
 unfold ixN at h
 by_cases h0:0≤i
 ·rw [if_pos h0] at h
  by_cases h1:i < n
  ·rw [if_pos h1] at h
   have e:i.toNat=j:=aU h
   exact ⟨by rw [seqIndex_of h0 h1,e],by omega,by omega,h1⟩
  ·rw [if_neg h1] at h;cases h
 ·rw [if_neg h0] at h
  by_cases h1:-(n:Int)≤i
  ·rw [if_pos h1] at h
   have e:(i+n).toNat=j:=aU h
   exact ⟨by rw [seqIndex_neg (by omega) h1,e],by omega,h1,by omega⟩
  ·rw [if_neg h1] at h;cases h
theorem wG {α:Type}{xs:List α}{i:Int}{v:α} (h:atI xs i=some v):∃ j,seqIndex? i xs.length=some j∧xs[j]?=some v∧j < xs.length∧-(xs.length:Int)≤i∧i < xs.length:=by
 unfold atI at h
 cases e:ixN xs.length i with
 | none=>rw [e] at h;cases h
 | some j =>
  rw [e] at h
  obtain ⟨h1,h2,h3,h4⟩:=zy e
  exact ⟨j,h1,h,h2,h3,h4⟩
theorem kr {α:Type}{xs:List α}{j:Nat}{v:α} (h:xs[j]?=some v):atI xs (j:Int)=some v:=by
 have hj:j < xs.length:=(a9.mp h).1
 have e:ixN xs.length (j:Int)=some j:=by
  unfold ixN
  rw [if_pos (by omega),if_pos (by omega)];simp
 unfold atI;rw [e];exact h
def zP (b:a8):Prop:=∀ o i,subscripted b false o i=operate [o,i] (gO o i)
def IxR (X:Cx) (r:R2):Prop :=
 ∀ (value slice:a8) (pins:List (ae×Obj)) (s:ao) (σ:St) (H:Hp) (x y:V) (v u:ah) (Q:VK),Inv X pins σ H s→RelV x v→RelV y u→r x y H Q →
  subscripted slice false v u=operate [v,u] (gO v u)→aZ (model X.prog X.w) X.A (gb value slice v u) (EP X pins σ Q) X.xe s
def MtR (X:Cx) (id:String) (r:V→List V→Hp→VK→Prop):Prop :=
 ∀ (pins:List (ae×Obj)) (s:ao) (σ:St) (H:Hp) (x:V) (xs:List V) (v:ah) (us:List ah) (Q:VK),Inv X pins σ H s→RelV x v→Vals xs us→r x xs H Q →
  aZ (model X.prog X.w) X.A (call (.builtin id) (v::us)) (EP X pins σ Q) X.xe s
section
variable {X:Cx}{a b:a8}{ta tb:TE}{pos:Pos}
theorem IxR.or {r r':R2} (h:IxR X r) (h':IxR X r'):IxR X (fun x y H Q=>r x y H Q∨r' x y H Q):=by
 intro value slice pins s σ H x y v u Q I rx ry q hs
 rcases q with q | q
 ·exact h value slice pins s σ H x y v u Q I rx ry q hs
 ·exact h' value slice pins s σ H x y v u Q I rx ry q hs
theorem nX {r:R2} (hr:IxR X r) (ha:PE X a ta) (hb:PE X b tb) (hs:zP b):PE X (.Subscript a b pos) (tOp r ta tb):=by
 intro pins s σ H Q I h
 exact jd (F3 ha hb I h fun v u s2 x y H2 I2 rx ry q=>hr a b pins s2 σ H2 x y v u Q I2 rx ry q (hs _ _))
def FZ (K:aa):R2:=fun x y H Q=>∃ p xs i v,x=.ref p∧y=.int i∧SqL K H p xs∧atI xs i=some v∧Q v H
def FX (K:aa):R2:=fun x y H Q=>∃ p xs i v,x=.ref p∧y=.int i∧SqT K H p xs∧atI xs i=some v∧Q v H
def FY:R2:=fun x y H Q=>∃ z i c,x=.str z∧y=.int i∧z.length≤aI∧atI z.cps.toList i=some c∧Q (.str ⟨#[c]⟩) H
theorem ix_list:IxR X (FZ X.K):=by
 intro value slice pins s σ H x y v u Q I rx ry h hs
 obtain ⟨p,xs,i,z,rfl,rfl,hq,he,q⟩:=h
 cases rx
 obtain ⟨t,rfl⟩:=ry
 obtain ⟨its,r,pl,hz⟩:=I.list hq
 obtain ⟨j,h1,h2,h3,h4,h5⟩:=wG he
 obtain ⟨w,ew,rw'⟩:=r.get h2
 have hl:=r.length
 have hn:=sF
 have fin:EP X pins σ Q w s:=⟨z,H,I,rw',q⟩
 by_cases h0:0≤i
 ·have hj:i.toNat=j:=by
   rw [seqIndex_of h0 h5] at h1
   exact aU h1
  exact item_listR pl.isList h0 (by omega) (by rw [hj];simpa using ew) fin hs
 ·have hj:(i+(its.toArray.size:Int)).toNat=j:=by
   rw [seqIndex_neg (by omega) h4] at h1
   rw [aM,← hl]
   exact aU h1
  exact subscriptTail_builtinR (x:=w) pl.isList.typeIs ii.lookup
   (wpAny_getItem_list_neg (Q:=fun r s'=>r=w∧EP X pins σ Q r s') pl.isList (by omega) (by rw [aM] <;> omega) (by omega) (by rw [hj];simpa using ew) ⟨rfl,fin⟩) hs
theorem ix_tup:IxR X (FX X.K):=by
 intro value slice pins s σ H x y v u Q I rx ry h hs
 obtain ⟨p,xs,i,z,rfl,rfl,hq,he,q⟩:=h
 cases rx
 obtain ⟨t,rfl⟩:=ry
 obtain ⟨its,r,pl,hz⟩:=I.tuple hq
 obtain ⟨j,h1,h2,h3,h4,h5⟩:=wG he
 obtain ⟨w,ew,rw'⟩:=r.get h2
 have hl:=r.length
 have hn:=sF
 have fin:EP X pins σ Q w s:=⟨z,H,I,rw',q⟩
 exact subscriptTail_builtinR (x:=w) pl.typeIs cV.lookup
  (getItem_tuple (j:=j) (Q:=fun r s'=>r=w∧EP X pins σ Q r s') pl (by omega) (by omega) (by rw [aM,← hl];exact h1) (by simpa using ew) ⟨rfl,fin⟩) hs
theorem Fz:IxR X FY:=by
 intro value slice pins s σ H x y v u Q I rx ry h hs
 obtain ⟨z,i,c,rfl,rfl,hz,he,q⟩:=h
 obtain ⟨t,rfl⟩:=rx
 obtain ⟨t',rfl⟩:=ry
 obtain ⟨j,h1,h2,h3,h4,h5⟩:=wG he
 have hl:z.cps.toList.length=z.length:=by simp [Str.length]
 rw [hl] at h1 h4 h5
 have hn:=sF
 exact tail_any (typeIs_str s z t) slot_str_getitem.lookup (getItem_str (c:=c) (by
  have e1:decide (i < -(2 ^ 63:Int))=false:=decide_eq_false (by omega)
  have e2:decide (i ≥ 2 ^ 63)=false:=decide_eq_false (by omega)
  rw [e1,e2,Bool.or_false]) (by rw [h1];simpa using h2) ⟨.str ⟨#[c]⟩,H,I.tok _,⟨_,rfl⟩,q⟩) hs
theorem yF (its:List ah) (n j:Nat) (u:ah):gK (·.setIfInBounds j u) { cls:=.type "list",data:=.seq its.toArray n }={ cls:=.type "list",data:=.seq (its.set j u).toArray n }:=by
 simp [gK]
theorem Inv.lst {pins:List (ae×Obj)}{σ:St}{H:Hp}{s:ao}{p:ae}{xs:List V} (I:Inv X pins σ H s) (h:H p=some (.lst xs)) :
  ∃ (its:List ah) (n:Nat),Vals xs its∧s.heap.get? p=some { cls:=.type "list",data:=.seq its.toArray n }∧xs.length≤aI:=by
 obtain ⟨z,its,n,r,e⟩:=I.hok p _ h
 exact ⟨its,n,r,e,z⟩
theorem Inv.lstUpd {pins:List (ae×Obj)}{σ:St}{H:Hp}{s:ao}{p:ae}{xs ys:List V}{its its':List ah}{n n':Nat}{f:Obj→Obj} (I:Inv X pins σ H s) (h:H p=some (.lst xs))
  (ho:s.heap.get? p=some { cls:=.type "list",data:=.seq its.toArray n }) (hf:f { cls:=.type "list",data:=.seq its.toArray n }={ cls:=.type "list",data:=.seq its'.toArray n' }) (r:Vals ys its') (hz:ys.length≤aI) (t:Nat) :
  Inv X pins σ (upd H p (.lst ys)) { s with heap:=s.heap.update p f,toks:=t }:=by
 have e:(s.heap.update p f).get? p=some { cls:=.type "list",data:=.seq its'.toArray n' }:=by
  rw [Heap.get?_update_self f ho (by rw [hf] <;> rfl),hf]
 refine I.write (x:=p) (e:=p) (by rw [h];trivial) (.inl rfl) (fun b u hb q=>(iY _ _ (fJ hb)).trans q) ⟨_,e⟩ ?_
 exact ⟨hz,its',n',r,e⟩
def Ek:V→V→V→Hp→(Hp→Prop)→Prop:=fun o i v H Q=>∃ p xs k j,o=.ref p∧i=.int k∧H p=some (.lst xs)∧ixN xs.length k=some j∧Q (upd H p (.lst (xs.set j v)))
theorem set_list:PSet X Ek:=by
 intro pins s σ H o i v ov iv u Q I ro ri rv h
 obtain ⟨p,xs,k,j,rfl,rfl,hp,hj,q⟩:=h
 cases ro
 obtain ⟨t,rfl⟩:=ri
 obtain ⟨its,n,r,ho,hz⟩:=I.lst hp
 obtain ⟨h1,h2,h3,h4⟩:=zy hj
 have hl:=r.length
 have hn:=sF
 have I':Inv X pins σ (upd H p (.lst (xs.set j v))) { s with heap:=s.heap.update p (gK (·.setIfInBounds j u)) } :=
  I.lstUpd hp ho (yF its n j u) (r.set rv j) (by rw [List.length_set];exact hz) s.toks
 by_cases h0:0≤k
 ·have hk:k.toNat=j:=by
   rw [seqIndex_of h0 h4] at h1
   exact aU h1
  exact PySem.W.ki_setAt ho h0 (by omega) (by rw [aM,← hl];exact h4) (by rw [hk];exact ⟨_,I',q⟩)
 ·have hk:(k+(its.toArray.size:Int)).toNat=j:=by
   rw [seqIndex_neg (by omega) h3] at h1
   rw [aM,← hl]
   exact aU h1
  exact PySem.W.ki_setBack ho (by omega) (by rw [aM,← hl];exact h3) (by omega) (by rw [hk];exact ⟨_,I',q⟩)
theorem vS (lo hi:Option Int) (n:Nat):(ez lo hi none n).1=((HT.sIx n 0 lo:Nat):Int)∧(ez lo hi none n).2.1=((HT.sIx n n hi:Nat):Int)∧(ez lo hi none n).2.2=1:=by
 refine ⟨?_,?_,rfl⟩
 ·cases lo with
  | none=>simp [ez,HT.sIx]
  | some i =>
   simp only [ez,HT.sIx,jC,show (1:Int) > 0 by decide,if_true]
   by_cases h:i < 0
   ·simp only [h,if_true] <;> omega
   ·simp only [h,if_false] <;> omega
 ·cases hi with
  | none=>simp [ez,HT.sIx]
  | some i =>
   simp only [ez,HT.sIx,jC,show (1:Int) > 0 by decide,if_true]
   by_cases h:i < 0
   ·simp only [h,if_true] <;> omega
   ·simp only [h,if_false] <;> omega
theorem uj (its:List ah) (lo hi:Option Int):jz its.toArray lo hi none=((its.drop (HT.sIx its.length 0 lo)).take (HT.sIx its.length its.length hi - HT.sIx its.length 0 lo)).toArray:=by
 obtain ⟨h1,h2,h3⟩:=vS lo hi its.toArray.size
 unfold jz
 rw [h1,h2,h3]
 simp only [sliceRange_one,pick_run,aM] <;> rfl
def rSlL (K:aa):V→Option Int→Option Int→Hp→VK→Prop:=fun x lo hi H Q=>∃ a xs,x=.ref a∧SqL K H a xs∧∀ p,H p=none→Q (.ref p) (upd H p (.lst (zH xs lo hi)))
theorem sl_list:SlR X (rSlL X.K):=by
 intro pins s σ H x v vl vu lo hi sl Q I rx hs pl pu h
 obtain ⟨a,xs,rfl,hx,q⟩:=h
 cases rx
 obtain ⟨its,r,ht,hz⟩:=I.list hx
 have hlen:=r.length
 refine ⟨"list",_,ii.lookup,ht.isList.typeIs,?_⟩
 refine jo ht.isList hs pl pu .none (by simp) ?_ (by rw [aM] <;> omega)
 rw [uj,← hlen]
 refine ⟨.ref s.heap.objs.size,_,I.laid (t':=s.toks) (o:=.lst (zH xs lo hi)) (fun b ob q=>ay _ q) (az _) ?_,rfl,q _ (I.hok.fresh (az _))⟩
 exact ⟨aJ (sd xs lo hi) hz,_,0,(r.drop (HT.sIx xs.length 0 lo)).take (HT.sIx xs.length xs.length hi - HT.sIx xs.length 0 lo),bj _ rfl⟩
def wQ:V→Bool
 | .non=>true
 | .bl _=>true
 | .int _=>true
 | .str _=>true
 | _=>false
def eqV:V→V→Bool
 | .non,.non=>true
 | .bl a,.bl b=>a == b
 | .bl a,.int b=>(if a then 1 else 0) == b
 | .int a,.bl b=>a == (if b then 1 else 0)
 | .int a,.int b=>a == b
 | .str a,.str b=>a == b
 | _,_=>false
theorem FE {A:bL}{s:ao}{y x:V}{u v:ah} (ry:RelV y u) (rx:RelV x v) (fy:wQ y=true) (fx:wQ x=true):SeqAt.EqAt A s u v (eqV y x):=by
 cases y with
 | non =>
  cases ry
  cases x with
  | non=>cases rx;exact SeqAt.EqAt.same _
  | bl b=>cases rx;exact SeqAt.EqAt.none_bool b
  | int b=>obtain ⟨t,rfl⟩:=rx;exact SeqAt.EqAt.none_int b t
  | str b=>obtain ⟨t,rfl⟩:=rx;exact SeqAt.EqAt.none_str b t
  | _=>exact absurd (show false=true from fx) a6
 | bl a =>
  cases ry
  cases x with
  | non=>cases rx;exact SeqAt.EqAt.bool_none a
  | bl b=>cases rx;exact SeqAt.EqAt.bool_bool a b
  | int b=>obtain ⟨t,rfl⟩:=rx;exact SeqAt.EqAt.bool_int a b t
  | str b=>obtain ⟨t,rfl⟩:=rx;exact SeqAt.EqAt.bool_str a b t
  | _=>exact absurd (show false=true from fx) a6
 | int a =>
  obtain ⟨t',rfl⟩:=ry
  cases x with
  | non=>cases rx;exact SeqAt.EqAt.int_none a t'
  | bl b=>cases rx;exact SeqAt.EqAt.int_bool a t' b
  | int b=>obtain ⟨t,rfl⟩:=rx;exact SeqAt.EqAt.int_int a t' b t
  | str b=>obtain ⟨t,rfl⟩:=rx;exact iP a t' b t
  | _=>exact absurd (show false=true from fx) a6
 | str a =>
  obtain ⟨t',rfl⟩:=ry
  cases x with
  | non=>cases rx;exact SeqAt.EqAt.str_none a t'
  | bl b=>cases rx;exact SeqAt.EqAt.str_bool a t' b
  | int b=>obtain ⟨t,rfl⟩:=rx;exact iO a t' b t
  | str b=>obtain ⟨t,rfl⟩:=rx;exact SeqAt.EqAt.str_str a t' b t
  | _=>exact absurd (show false=true from fx) a6
 | _=>exact absurd (show false=true from fy) a6
def inV (x:V) (xs:List V):Bool:=xs.any fun y=>eqV y x
theorem call_len_seq:CallR X (.builtin "len") (fun xs H Q=>∃ p ys,xs=[.ref p]∧(SqL X.K H p ys∨SqT X.K H p ys)∧Q (.int ys.length) H):=by
 intro pins s σ H xs us Q I r h
 obtain ⟨p,ys,rfl,hq,q⟩:=h
 obtain ⟨u,rfl,rx⟩:=nr r
 cases rx
 have hn:=sF
 rcases hq with hq | hq
 ·obtain ⟨its,r',pl,hz⟩:=I.list hq
  have hlen:=r'.length
  exact Calls.call_len_list pl.isList (by simp only [aM] <;> omega) ⟨.int ys.length,H,I.tok _,⟨s.toks+1,by rw [aM,hlen]⟩,q⟩
 ·obtain ⟨its,r',pl,hz⟩:=I.tuple hq
  have hlen:=r'.length
  exact len_tuple pl (by simp only [aM] <;> omega) ⟨.int ys.length,H,I.tok _,⟨s.toks+1,by rw [aM,hlen]⟩,q⟩
theorem call_len_str:CallR X (.builtin "len") (fun xs H Q=>∃ z,xs=[.str z]∧z.length≤aI∧Q (.int z.length) H):=by
 intro pins s σ H xs us Q I r h
 obtain ⟨z,rfl,hz,q⟩:=h
 obtain ⟨u,rfl,t,rfl⟩:=nr r
 have hn:=sF
 exact len_str (by omega) ⟨.int z.length,H,I.tok _,⟨_,rfl⟩,q⟩
theorem CallR.or {f:ah}{r r':List V→Hp→VK→Prop} (h:CallR X f r) (h':CallR X f r'):CallR X f (fun xs H Q=>r xs H Q∨r' xs H Q):=by
 intro pins s σ H xs us Q I rs q
 rcases q with q | q
 ·exact h pins s σ H xs us Q I rs q
 ·exact h' pins s σ H xs us Q I rs q
theorem wl:CallR X (.type "list") (fun xs H Q=>∃ p ys,xs=[.ref p]∧(SqL X.K H p ys∨SqT X.K H p ys)∧∀ l,H l=none→Q (.ref l) (upd H l (.lst ys))):=by
 intro pins s σ H xs us Q I r h
 obtain ⟨p,ys,rfl,hq,q⟩:=h
 obtain ⟨u,rfl,rx⟩:=nr r
 cases rx
 have fin:∀ (its:List ah),Vals ys its→ys.length≤aI→∀ (h':bM) (c':Nat),(∀ b o',s.heap.get? b=some o'→h'.get? b=some o') →
   h'.get? s.heap.objs.size=some { cls:=.type "list",dict:=none,data:=.seq its.toArray c',slots:=#[] }→EP X pins σ Q (.ref s.heap.objs.size) { s with heap:=h' }:=fun its r' hz h' c' kp e =>
  ⟨.ref s.heap.objs.size,_,I.laid (t':=s.toks) kp (az _) (show ObjOk X.prog X.w _ h' _ (.lst ys) from ⟨hz,its,c',r',e⟩),rfl,q _ (I.hok.fresh (az _))⟩
 rcases hq with hq | hq
 ·obtain ⟨its,r',pl,hz⟩:=I.list hq
  have hlen:=r'.length
  obtain ⟨o,ho,hc,n,hd⟩:=pl.isList
  exact call_list_seq p (.inl rfl) ho hc hd (fun h' c' kp e=>fin its r' hz h' c' kp e) (by simp only [aM] <;> omega)
 ·obtain ⟨its,r',pl,hz⟩:=I.tuple hq
  have hlen:=r'.length
  obtain ⟨o,ho,hc,n,hd⟩:=pl
  exact call_list_seq p (.inr rfl) ho hc hd (fun h' c' kp e=>fin its r' hz h' c' kp e) (by simp only [aM] <;> omega)
theorem uJ:CallR X (.type "tuple") (fun xs H Q=>∃ p ys,xs=[.ref p]∧((SqL X.K H p ys∧∀ l,H l=none→Q (.ref l) (upd H l (.tup ys)))∨(SqT X.K H p ys∧Q (.ref p) H))):=by
 intro pins s σ H xs us Q I r h
 obtain ⟨p,ys,rfl,h⟩:=h
 obtain ⟨u,rfl,rx⟩:=nr r
 cases rx
 rcases h with ⟨hq,q⟩ | ⟨hq,q⟩
 ·obtain ⟨its,r',pl,hz⟩:=I.list hq
  have hlen:=r'.length
  refine call_tuple_list pl.isList (fun h' kp=>?_) (by simp only [aM] <;> omega)
  have I1:Inv X pins σ H { s with heap:=h' }:=I.kept (t':=s.toks) kp
  have I2:Inv X pins σ (upd H h'.objs.size (.tup ys)) { s with heap:=h'.push { cls:=.type "tuple",data:=.seq its.toArray } } :=
   I1.laid (t':=s.toks) (fun b o e=>ay _ e) (az _) (show ObjOk X.prog X.w _ _ _ (.tup ys) from ⟨hz,its,r',iS _ _⟩)
  exact ⟨.ref h'.objs.size,_,I2,rfl,q _ (I1.hok.fresh (az _))⟩
 ·obtain ⟨its,r',pl,hz⟩:=I.tuple hq
  exact call_tuple_same pl ⟨.ref p,H,I,rfl,q⟩
def tyV (K:aa) (T:String) (x:V) (H:Hp):Prop:=match x with
 | .str _=>T="str"
 | .int _=>T="int"
 | .ref p=>(T="list"∧∃ xs,SqL K H p xs)∨(T="tuple"∧∃ o,K.lookup p=some o∧o.cls=.type "tuple"∧o.dict=none) ∨
   (T="dict"∧((∃ kvs,H p=some (.dK kvs))∨∃ kvs,H p=some (.dT kvs)))∨(T="set"∧∃ S n,H p=some (.set S n))
 | _=>False
theorem ES {pins:List (ae×Obj)}{σ:St}{H:Hp}{s:ao}{T:String}{x:V}{v:ah} (I:Inv X pins σ H s) (r:RelV x v) (ty:tyV X.K T x H) :
  s.TypeIs v T∧∀ a,v=.ref a→∃ ob,s.heap.get? a=some ob∧ob.dict=none:=by
 cases x with
 | str z =>
  obtain ⟨t,rfl⟩:=r
  cases (show T="str" from ty)
  exact ⟨typeIs_str s z t,fun _ e=>nomatch e⟩
 | int i =>
  obtain ⟨t,rfl⟩:=r
  cases (show T="int" from ty)
  exact ⟨typeIs_int s i t,fun _ e=>nomatch e⟩
 | ref p =>
  cases r
  rcases ty with ⟨rfl,xs,hq⟩ | ⟨rfl,o,hk,hc,hd⟩ | ⟨rfl,hk⟩ | ⟨rfl,S,n,hk⟩
  ·obtain ⟨its,_,pl,_⟩:=I.list hq
   refine ⟨pl.isList.typeIs,fun a e=>?_⟩
   cases e
   obtain ⟨o,n,e,c,hd,_⟩:=pl
   exact ⟨o,e,hd⟩
  ·refine ⟨⟨o,I.kIn p o hk,hc⟩,fun a e=>?_⟩
   cases e
   exact ⟨o,I.kIn _ o hk,hd⟩
  ·have z:∃ o,s.heap.get? p=some o∧o.ExactDict:=by
    rcases hk with ⟨kvs,hk⟩ | ⟨kvs,hk⟩
    ·obtain ⟨_,_,_,_,o,_,_,e,ex,_⟩:=I.hok p _ hk
     exact ⟨o,e,ex⟩
    ·obtain ⟨_,_,_,_,o,_,_,e,ex,_⟩:=I.hok p _ hk
     exact ⟨o,e,ex⟩
   obtain ⟨o,e,ex⟩:=z
   refine ⟨⟨o,e,ex.1⟩,fun a e2=>?_⟩
   cases e2
   exact ⟨o,e,ex.2.1⟩
  ·obtain ⟨o,_,_,_,e,ex,_⟩:=I.hok p _ hk
   refine ⟨⟨o,e,ex.1⟩,fun a e2=>?_⟩
   cases e2
   exact ⟨o,e,ex.2.1⟩
 | _=>exact bC ty
def tBM (K:aa) (T:String) (r:V→List V→Hp→VK→Prop) (to:TE) (t:TA):TE:=fun σ H Q=>to σ H fun x H1=>tyV K T x H1∧t σ H1 fun xs H2=>r x xs H2 Q
variable {o e:a8}{es:List a8}{to:TE}{t:TA}{name:Str}{apos cpos:Pos}{T id:String}{r:V→List V→Hp→VK→Prop}
theorem Es (pa:PlainAttrs T) (slot:Slot T name id) (hty:typeOf (.builtin id)=pure (.type "method_descriptor")) (hm:MtR X id r) (ho:PE X o to) (ha:PA X (e::es) t)
  (hbase:dU o name X.env (eval o X.env)=eval o X.env:=by rfl)
  (hfew:((ck cpos (aR (e::es) X.env)).all (fun x=>!x.1) && (eI cpos (cQ [] X.env)).all (fun x=>x.1.isSome)
   && decide ((e::es).length+([]:List fm).length+(if ([]:List fm).isEmpty then 0 else 1) < 30))=true:=by rfl)
  (hline:(apos.endLine == cpos.line)=true:=by rfl) (hs:aR (e::es) X.env=(false,eval e X.env)::aR es X.env:=by rfl) (hplain:(ck cpos (aR es X.env)).any (·.1)=false:=by rfl) :
  PE X (.Call (.Attribute o name apos) (e::es) [] cpos) (tBM X.K T r to t):=by
 intro pins s σ H Q I h
 refine wpAny_Call_method_late hbase hfew hline rfl (thn (ho pins s σ H _ I h) fun v s1 ⟨x,H1,I1,r1,ty,q1⟩=>?_)
 obtain ⟨h1,h2⟩:=ES I1 r1 ty
 refine ⟨T,id,pa,slot,hty,h1,h2,?_⟩
 have hA:=ha cpos pins s1 σ H1 _ I1 q1
 rw [hs] at hA ⊢
 refine fQ (by show (false || (ck cpos (aR es X.env)).any (·.1))=false;rw [hplain] <;> rfl) (eK ?_)
 exact thn hA fun us s2 ⟨vs,H2,I2,r2,q2⟩=>hm pins s2 σ H2 x vs v us Q I2 r1 r2 q2
end
def MtM (X:Cx) (id:String) (r:V→List V→Hp→VK→Prop):Prop :=
 ∀ (pins:List (ae×Obj)) (s:ao) (σ:St) (H:Hp) (x:V) (xs:List V) (v:ah) (us:List ah) (Q:VK),Inv X pins σ H s→RelV x v→Vals xs us→r x xs H Q →
  aZ (model X.prog X.w) X.A (call (.builtin id) (v::us)) (EP X pins σ Q) X.xe s
theorem Vals.one:∀ {x:V}{us:List ah},Vals [x] us→∃ u,us=[u]∧RelV x u
 | _,_,.cons r .nil=>⟨_,rfl,r⟩
theorem Vals.reverse {xs:List V}{us:List ah} (h:Vals xs us):Vals xs.reverse us.reverse:=by
 induction h with
 | nil=>exact .nil
 | cons r t ih=>rw [de,de];exact Vals.append ih (.cons r .nil)
theorem Vals.rep {xs:List V}{us:List ah} (h:Vals xs us):∀ k:Nat,Vals (aW k xs).flatten (aW k us).flatten
 | 0=>.nil
 | k+1=>by
  rw [cB,cB,b8,b8]
  exact Vals.append h (Vals.rep h k)
theorem vC (its:List ah):∀ (k:Nat) (acc:List ah),
  jG (fun x1 x2=>x1++x2) acc.toArray (aW k its.toArray)=(acc++(aW k its).flatten).toArray
 | 0,acc=>by simp
 | k+1,acc=>by
  have e:acc.toArray++its.toArray=(acc++its).toArray:=by simp
  have e2:(acc++its)++(aW k its).flatten=acc++(aW (k+1) its).flatten:=by
   rw [cB,b8,bI]
  rw [← e2,← vC its k (acc++its),← e,cB,List.foldl_cons]
section
variable {X:Cx}{pins:List (ae×Obj)}{σ:St}{H:Hp}{s:ao}{l b:ae}{xs ys zs:List V}
theorem Inv.lset {its its':List ah}{n:Nat}{f:Array ah→Array ah}{t':Nat} (I:Inv X pins σ H s) (hH:H l=some (.lst xs))
  (e:s.heap.get? l=some { cls:=.type "list",data:=.seq its.toArray n }) (hf:f its.toArray=its'.toArray) (hv:Vals ys its') (hz:ys.length≤aI) :
  Inv X pins σ (upd H l (.lst ys)) { s with heap:=s.heap.update l (gK f),toks:=t' }:=by
 have q:=PySem.IsL.update e f
 rw [hf] at q
 refine I.write (x:=l) (e:=l) (by rw [hH];exact trivial) (.inl rfl) (fun b' u hb hu=>(iY s.heap (gK f) (fJ hb)).trans hu) ⟨_,q⟩ ?_
 exact ⟨hz,its',_,hv,q⟩
theorem Inv.lnew {its:List ah}{t':Nat} (I:Inv X pins σ H s) (hv:Vals ys its) (hz:ys.length≤aI) :
  Inv X pins σ (upd H s.heap.objs.size (.lst ys)) { s with heap:=s.heap.push { cls:=.type "list",data:=.seq its.toArray },toks:=t' } :=
 I.laid (fun _ _ q=>ay _ q) (az _) ⟨hz,its,0,hv,bj _ rfl⟩
theorem Inv.fresh (I:Inv X pins σ H s):H s.heap.objs.size=none:=I.hok.fresh (az _)
theorem Inv.lstM (I:Inv X pins σ H s) (hH:H l=some (.lst xs)):xs.length≤aI∧∃ (its:List ah) (n:Nat),Vals xs its∧xs.length=its.length∧s.heap.get? l=some { cls:=.type "list",data:=.seq its.toArray n }:=by
 obtain ⟨z,its,n,r,e⟩:=I.hok l _ hH
 exact ⟨z,its,n,r,r.length,e⟩
theorem Br {n:Nat} (h:n≤aI):eR n=false:=by
 unfold eR
 exact decide_eq_false (by omega)
def C6:V→List V→Hp→VK→Prop:=fun x vs H Q=>∃ l xs y,x=.ref l∧vs=[y]∧H l=some (.lst xs)∧xs.length < aI∧Q .non (upd H l (.lst (xs++[y])))
theorem rE:MtM X "list.append" C6:=by
 intro pins s σ H x vs v us Q I rx rv h
 obtain ⟨l,xs,y,rfl,rfl,hH,hz,q⟩:=h
 cases rx
 obtain ⟨u,rfl,ru⟩:=rv.one
 obtain ⟨z,its,n,r,hl,e⟩:=I.lstM hH
 refine call_meets jc ⟨_,e,rfl⟩ F.entry_list_append (F.args_list_append_2 _ _) (PySem.list_append l its.toArray n u (by rw [aM];omega)) ⟨e,?_⟩
 refine ⟨.non,_,I.lset (its':=its++[u]) hH e (by simp) (r.append (.cons ru .nil)) ?_,rfl,q⟩
 rw [aO,ge]
 omega
def FW:R2:=fun x y H Q=>∃ l k xs,x=.ref l∧y=.int k∧H l=some (.lst xs)∧-(2 ^ 63)≤k∧k < 2 ^ 63∧xs.length * k.toNat≤aI ∧
 ∀ p,H p=none→Q (.ref p) (upd H p (.lst (aW k.toNat xs).flatten))
theorem Dz {α:Type} (xs:List α) (k:Nat):(aW k xs).flatten.length=k * xs.length:=by
 induction k with
 | zero=>simp
 | succ k ih=>rw [cB,b8,aO,ih,Nat.succ_mul,Nat.add_comm]
theorem Fh:OpR X (cR .Mult) FW:=by
 intro pins s σ H x y v u Q I rx ry h
 obtain ⟨l,k,xs,rfl,rfl,hH,h1,h2,hz,q⟩:=h
 cases rx
 obtain ⟨t,rfl⟩:=ry
 obtain ⟨z,its,n,r,hl,e⟩:=I.lstM hH
 have hlen:its.toArray.size * k.toNat≤aI:=by rw [aM,← hl];exact hz
 have hcap:¬ its.toArray.size * k.toNat > (2 ^ 63 - 1) / 8:=by
  have:(aI:Nat)≤(2 ^ 63 - 1) / 8:=by decide
  omega
 have hfit:¬ (!Builtin.List.listFitsIndex k)=true:=by
  rw [fitsIndex_both h1 h2]
  exact a6
 have hlong:¬ eR (its.toArray.size * k.toNat)=true:=by
  rw [Br hlen]
  exact a6
 have hnew:jG (fun x1 x2=>x1++x2) #[] (aW (if its.toArray.isEmpty=true then 0 else k.toNat) its.toArray)=(aW k.toNat its).flatten.toArray:=by
  have f0:∀ m:Nat,jG (fun x1 x2=>x1++x2) #[] (aW m its.toArray)=(aW m its).flatten.toArray:=fun m=>by
   have:=vC its m []
   rw [cv] at this
   exact this
  rw [f0]
  cases its with
  | nil=>simp
  | cons a r'=>rw [if_neg (by simp)]
 refine wpAny_binaryOp_repeat_ref (T:="list") (U:="int") (by decide) ⟨_,e,rfl⟩ (fun s'=>typeIs_int s' k t) noFill_list_mul F.fills_int_mul F.slot_int_rmul repeat_list F.slot_int_index.lookup
  (call_meets F.slot_int_rmul (typeIs_int s k t) F.entry_int_rmul (F.args_int_rmul_2 _ _) (int___rmul___int_list k t l its.toArray n)
   ⟨e,rfl,⟨_,e,rfl⟩,call_meets F.slot_list_mul ⟨_,e,rfl⟩ F.entry_list_mul (F.args_list_mul_2 _ _) (AutoListH.list___mul___list_int_3 l its.toArray n k t hfit hcap hlong) ⟨e,?_⟩⟩)
 rw [hnew]
 exact ⟨.ref _,_,I.lnew (t':=s.toks) (r.rep k.toNat) (by rw [Dz,Nat.mul_comm];exact hz),rfl,q _ I.fresh⟩
end
section
variable {prog:aT}{w:bv}{A:bL}{E:ah→ao→Prop}{s:ao}
set_option maxRecDepth 100000 in
end
section
variable {X:Cx}
end
open PySem PySem.Spec PyProof.Rows
section
variable {κ:Type} [DecidableEq κ]
def l5 (kvs:List (κ×V)) (k:κ):Option V:=(kvs.find? fun kv=>decide (kv.1=k)).map (·.2)
def nJ (kvs:List (κ×V)) (k:κ) (v:V):List (κ×V) :=
 if (kvs.any fun kv=>decide (kv.1=k))=true then kvs.map (fun kv=>if kv.1=k then (kv.1,v) else kv) else kvs++[(k,v)]
def uW (kvs:List (κ×V)) (k:κ):List (κ×V):=kvs.filter fun kv=>decide (kv.1≠k)
theorem qH {p:κ×V}{r:List (κ×V)}{k:κ} (e:p.1=k):l5 (p::r) k=some p.2:=by simp [l5,bD,e]
theorem qI {p:κ×V}{r:List (κ×V)}{k:κ} (e:¬ p.1=k):l5 (p::r) k=l5 r k:=by simp [l5,bD,e]
theorem qJ (k:κ):∀ kvs:List (κ×V),(kvs.any fun kv=>decide (kv.1=k))=(l5 kvs k).isSome
 | []=>rfl
 | p::r=>by
  rw [gF]
  by_cases e:p.1=k
  ·simp only [qH e,decide_eq_true e,Bool.true_or,Option.isSome_some]
  ·rw [qI e,decide_eq_false e,Bool.false_or];exact qJ k r
theorem pA (kvs:List (κ×V)) (k:κ) (v:V):(nJ kvs k v).length≤kvs.length+1:=by
 unfold nJ
 split
 ·rw [af];omega
 ·rw [aO,aC,aV];omega
theorem oh {kvs:List (κ×V)}{k:κ} (v:V) (h:l5 kvs k=none):nJ kvs k v=kvs++[(k,v)]:=by
 unfold nJ
 rw [qJ,h]
 exact if_neg (by decide)
theorem RelO.isSome_eq {o:Option V}{u:Option ah} (r:RelO o u):o.isSome=u.isSome:=by
 cases o with
 | none=>cases u with
  | none=>rfl
  | some _=>exact (show False from r).elim
 | some _=>cases u with
  | none=>exact (show False from r).elim
  | some _=>rfl
theorem RelO.getD {o:Option V}{u:Option ah}{d:V}{d':ah} (r:RelO o u) (rd:RelV d d'):RelV (o.getD d) (u.getD d'):=by
 cases o with
 | none=>cases u with
  | none=>exact rd
  | some _=>exact (show False from r).elim
 | some _=>cases u with
  | none=>exact (show False from r).elim
  | some _=>exact r
theorem KV.val {kvs:List (κ×V)}{vs:List (κ×ah)} (r:KV kvs vs) (k:κ):RelO (l5 kvs k) (gM vs k):=by
 unfold KV at r
 induction r with
 | nil=>exact cr
 | @cons p q ps qs h t ih =>
  obtain ⟨h1,h2⟩:=h
  by_cases e:p.1=k
  ·have e':q.1=k:=h1.symm.trans e
   have b:gM (q::qs) k=some q.2:=by simp [gM,bD,e']
   rw [qH e,b];exact h2
  ·have e':¬ q.1=k:=fun z=>e (h1.trans z)
   have b:gM (q::qs) k=gM qs k:=by simp [gM,bD,e']
   rw [qI e,b];exact ih
theorem KV.any {kvs:List (κ×V)}{vs:List (κ×ah)} (r:KV kvs vs) (k:κ):(kvs.any fun kv=>decide (kv.1=k))=vs.any fun kv=>decide (kv.1=k):=by
 unfold KV at r
 induction r with
 | nil=>rfl
 | cons h t ih=>rw [gF,gF,ih,h.1]
theorem KV.repl {kvs:List (κ×V)}{vs:List (κ×ah)} (r:KV kvs vs) (k:κ) {y:V}{u:ah} (ry:RelV y u) :
  KV (kvs.map fun kv=>if kv.1=k then (kv.1,y) else kv) (vs.map fun kv=>if kv.1=k then (kv.1,u) else kv):=by
 unfold KV at r ⊢
 induction r with
 | nil=>exact .nil
 | @cons p q ps qs h t ih =>
  rw [au,au]
  refine .cons ?_ ih
  obtain ⟨h1,h2⟩:=h
  by_cases e:p.1=k
  ·rw [if_pos e,if_pos (h1.symm.trans e)];exact ⟨h1,ry⟩
  ·rw [if_neg e,if_neg (fun z=>e (h1.trans z))];exact ⟨h1,h2⟩
theorem KV.put {kvs:List (κ×V)}{vs:List (κ×ah)} (r:KV kvs vs) (k:κ) {y:V}{u:ah} (ry:RelV y u):KV (nJ kvs k y) (stored vs k u):=by
 unfold nJ stored
 rw [r.any k]
 by_cases e:(vs.any fun kv=>decide (kv.1=k))=true
 ·rw [if_pos e,if_pos e];exact r.repl k ry
 ·rw [if_neg e,if_neg e];exact iX r ⟨rfl,ry⟩
theorem KV.drop {kvs:List (κ×V)}{vs:List (κ×ah)} (r:KV kvs vs) (k:κ):KV (uW kvs k) (without vs k):=by
 unfold KV at r ⊢
 unfold uW without
 induction r with
 | nil=>exact .nil
 | @cons p q ps qs h t ih =>
  obtain ⟨h1,h2⟩:=h
  rw [g6,g6]
  by_cases e:p.1=k
  ·have a:¬ decide (p.1≠k)=true:=by simp [e]
   have b:¬ decide (q.1≠k)=true:=by simp [h1.symm.trans e]
   rw [if_neg a,if_neg b];exact ih
  ·have e':¬ q.1=k:=fun z=>e (h1.trans z)
   have a:decide (p.1≠k)=true:=by simp [e]
   have b:decide (q.1≠k)=true:=by simp [e']
   rw [if_pos a,if_pos b];exact .cons ⟨h1,h2⟩ ih
theorem KV.keys {kvs:List (κ×V)}{vs:List (κ×ah)} (r:KV kvs vs):kvs.map (·.1)=vs.map (·.1):=by
 unfold KV at r
 induction r with
 | nil=>rfl
 | cons h t ih=>rw [au,au,ih,h.1]
theorem KV.length {kvs:List (κ×V)}{vs:List (κ×ah)} (r:KV kvs vs):kvs.length=vs.length:=iw r
theorem BM (kvs:List (κ×V)) (k:κ):(uW kvs k).length≤kvs.length:=eB _ _
end
theorem uT {P:aT}{w:bv}{k:Key}{u:ah} (r:RelV (kV k) u):(ko P w).is k u=true:=by
 cases k with
 | inl i=>obtain ⟨t,e⟩:=(show ∃ t,u=gh i t from r);subst e;exact xh P w i t
 | inr x=>obtain ⟨t,e⟩:=(show ∃ t,u=fI x t from r);subst e;exact xg P w x t
theorem vw {P:aT}{w:bv}:∀ {ks:List Key}{us:List ah},Vals (ks.map kV) us→ItemsAre (ko P w) ks us
 | [],_,r=>by rw [bQ] at r;cases r;exact .nil
 | k::ks,_,r=>by
  rw [au] at r
  cases r with
  | cons h t=>exact .cons (uT h) (vw t)
abbrev KT (H:Hp):List (List Key×V)→List (List Key×ae×ah)→Prop:=eX fun p q=>p.1=q.1∧H q.2.1=some (.tup (p.1.map kV))∧RelV p.2 q.2.2
theorem KT.val {H:Hp}{kvs:List (List Key×V)}{xs:List (List Key×ae×ah)} (r:KT H kvs xs) (k:List Key):RelO (l5 kvs k) ((i7 xs k).map (·.2)):=by
 induction r with
 | nil=>exact cr
 | @cons p q ps qs h t ih =>
  obtain ⟨h1,_,h2⟩:=h
  by_cases e:p.1=k
  ·have e':q.1=k:=h1.symm.trans e
   have b:i7 (q::qs) k=some q.2:=by simp [i7,bD,e']
   rw [qH e,b];exact h2
  ·have e':¬ q.1=k:=fun z=>e (h1.trans z)
   have b:i7 (q::qs) k=i7 qs k:=by simp [i7,bD,e']
   rw [qI e,b];exact ih
theorem KT.repl {H:Hp}{kvs:List (List Key×V)}{xs:List (List Key×ae×ah)} (r:KT H kvs xs) (k:List Key) {y:V}{u:ah} (ry:RelV y u) :
  KT H (kvs.map fun kv=>if kv.1=k then (kv.1,y) else kv) (xs.map (putAt k u)):=by
 induction r with
 | nil=>exact .nil
 | @cons p q ps qs h t ih =>
  rw [au,au]
  refine .cons ?_ ih
  obtain ⟨h1,h2,h3⟩:=h
  unfold putAt
  by_cases e:p.1=k
  ·rw [if_pos e,if_pos (h1.symm.trans e)];exact ⟨h1,h2,ry⟩
  ·rw [if_neg e,if_neg (fun z=>e (h1.trans z))];exact ⟨h1,h2,h3⟩
theorem KT.put {H:Hp}{kvs:List (List Key×V)}{xs:List (List Key×ae×ah)} (r:KT H kvs xs) (k:List Key) {b:ae}{y:V}{u:ah} (hb:H b=some (.tup (k.map kV))) (ry:RelV y u) :
  KT H (nJ kvs k y) (storedH xs k b u):=by
 have e:(kvs.any fun kv=>decide (kv.1=k))=(i7 xs k).isSome:=by
  rw [qJ,(r.val k).isSome_eq,cJ]
 unfold nJ storedH
 rw [e]
 by_cases q:(i7 xs k).isSome=true
 ·rw [if_pos q,if_pos q];exact r.repl k ry
 ·rw [if_neg q,if_neg q];exact iX r ⟨rfl,hb,ry⟩
theorem KT.keeps {H H':Hp}{kvs:List (List Key×V)}{xs:List (List Key×ae×ah)} (r:KT H kvs xs) (ht:∀ b ys,H b=some (.tup ys)→H' b=some (.tup ys)):KT H' kvs xs :=
 eX.mapP r fun _ _ z=>⟨z.1,ht _ _ z.2.1,z.2.2⟩
section
variable {P:aT}{w:bv}{H:Hp}{h:bM}{a:ae}
theorem Ej {u:HO} (ok:HOk P w H h) (e:Rd H a u):ObjOk P w H h a u:=e.ok ok
theorem qS {kvs:List (Key×V)} (ok:HOk P w H h) (e:Rd H a (.dK kvs)):kvs.length≤aI∧(a == dF)=false∧∃ vs,KV kvs vs∧h.DictOf (ko P w) a vs :=
 show ObjOk P w H h a (.dK kvs) from Ej ok e
theorem CP {kvs:List (Key×V)} (ok:HOk P w H h) (e:H a=some (.dK kvs)):kvs.length≤aI∧(a == dF)=false∧∃ vs,KV kvs vs∧h.DictOf (ko P w) a vs:=qS ok (.inl e)
theorem uE {ks:List Key} (ok:HOk P w H h) (e:H a=some (.tup (ks.map kV))):(gN (ko P w)).is h ks a:=by
 obtain ⟨_,its,r,o,h1,h2,n,h3⟩:=(show ObjOk P w H h a (.tup (ks.map kV)) from ok a _ e)
 exact ⟨o,its.toArray,n,h1,h2,h3,by simpa using vw r⟩
theorem wS {kvs:List (List Key×V)} (ok:HOk P w H h) (e:Rd H a (.dT kvs)):kvs.length≤aI∧(a == dF)=false ∧
  ∃ xs,KT H kvs xs∧h.DictOfH (gN (ko P w)) a xs:=by
 obtain ⟨z,y,xs,r,o,es,ep,h1,h2,h3,h4,h5⟩:=(show ObjOk P w H h a (.dT kvs) from Ej ok e)
 refine ⟨z,y,xs,r,o,es,ep,h1,h2,h3,h4,fun x hx=>?_,h5⟩
 have all:∀ {l:List (List Key×V)}{m:List (List Key×ae×ah)},KT H l m→∀ x∈m,(gN (ko P w)).is h x.1 x.2.1:=by
  intro l m q
  induction q with
  | nil=>intro x hx;exact nomatch hx
  | @cons p q ps qs hq t ih =>
   intro x hx
   rcases ai.mp hx with e | hx
   ·subst e
    exact uE ok (by rw [← hq.1];exact hq.2.1)
   ·exact ih x hx
 exact all r x hx
theorem dt_of {kvs:List (List Key×V)} (ok:HOk P w H h) (e:H a=some (.dT kvs)):kvs.length≤aI∧(a == dF)=false ∧
  ∃ xs,KT H kvs xs∧h.DictOfH (gN (ko P w)) a xs:=wS ok (.inl e)
end
def DGet (H:Hp) (a:ae) (y:V) (r:Option V):Prop :=
 (∃ kvs k,Rd H a (.dK kvs)∧y=kV k∧r=l5 kvs k)∨∃ kvs k b,Rd H a (.dT kvs)∧y=.ref b∧H b=some (.tup (k.map kV))∧r=l5 kvs k
def DPut (H:Hp) (a:ae) (y v:V) (H':Hp):Prop :=
 (∃ kvs k,H a=some (.dK kvs)∧y=kV k∧kvs.length < aI∧H'=upd H a (.dK (nJ kvs k v))) ∨
 ∃ kvs k b,H a=some (.dT kvs)∧y=.ref b∧H b=some (.tup (k.map kV))∧kvs.length < aI∧H'=upd H a (.dT (nJ kvs k v))
theorem DGet.k {H:Hp}{a:ae}{kvs:List (Key×V)}{k:Key} (e:H a=some (.dK kvs)):DGet H a (kV k) (l5 kvs k):=.inl ⟨kvs,k,.inl e,rfl,rfl⟩
theorem DPut.k {H:Hp}{a:ae}{kvs:List (Key×V)}{k:Key}{v:V} (e:H a=some (.dK kvs)) (hl:kvs.length < aI):DPut H a (kV k) v (upd H a (.dK (nJ kvs k v))):=.inl ⟨kvs,k,e,rfl,hl,rfl⟩
section
variable {X:Cx}{pins:List (ae×Obj)}{σ:St}{H:Hp}{s:ao}{a:ae}{y v:V}{u r:ah}{o:Option V}{A:bL}{E:ah→ao→Prop}
theorem Inv.big (I:Inv X pins σ H s):dF < s.heap.objs.size:=by
 have h:ax < s.heap.objs.size:=(I.mod.glob.keeps I.bk).lt
 exact d8 (by decide) h
theorem vG {Q:ah→ao→Prop} (hu:A.units+1 < dS) (I:Inv X pins σ H s) (g:DGet H a y (some v)) (ry:RelV y u) (h:∀ w' s',Inv X pins σ H s'→RelV v w'→Q w' s') :
  aZ (model X.prog X.w) A (gO (.ref a) u) Q E s:=by
 rcases g with ⟨kvs,k,e,ey,l⟩ | ⟨kvs,k,b,e,ey,eb,l⟩
 ·subst ey
  obtain ⟨z,hd,vs,rel,dd⟩:=qS I.hok e
  obtain ⟨w',hw,rw'⟩:=RelO.some_of (v:=v) (o:=gM vs k) (by rw [l];exact rel.val k)
  exact wpAny_getItem_of (uT ry) dd.mapOf hw (h w' _ (I.tok _) rw')
 ·subst ey
  cases (show u=bx b from ry)
  obtain ⟨z,hd,xs,rel,dd⟩:=wS I.hok e
  obtain ⟨w',hw,rw'⟩:=RelO.some_of (v:=v) (o:=(i7 xs k).map (·.2)) (by rw [l];exact rel.val k)
  obtain ⟨p,hp,hp2⟩:=cA.mp hw
  refine wpAny_getItem_heap (fH hu) (uE I.hok eb) dd hp ?_
  rw [hp2]
  exact h w' _ (I.tok _) rw'
theorem d_in {Q:ah→ao→Prop} (hu:A.units+1 < dS) (I:Inv X pins σ H s) (g:DGet H a y o) (ry:RelV y u) (h:∀ s',Inv X pins σ H s'→Q (.bool o.isSome) s') :
  aZ (model X.prog X.w) A (ci .In u (.ref a)) Q E s:=by
 rcases g with ⟨kvs,k,e,ey,l⟩ | ⟨kvs,k,b,e,ey,eb,l⟩
 ·subst ey
  obtain ⟨z,hd,vs,rel,dd⟩:=qS I.hok e
  refine wpAny_in_of (uT ry) hd dd.mapOf ?_
  rw [← (rel.val k).isSome_eq,← l]
  exact h _ (I.tok _)
 ·subst ey
  cases (show u=bx b from ry)
  obtain ⟨z,hd,xs,rel,dd⟩:=wS I.hok e
  refine wpAny_in_heap (fH hu) (uE I.hok eb) hd dd ?_
  have q:=(rel.val k).isSome_eq
  rw [cJ] at q
  rw [← q,← l]
  exact h _ (I.tok _)
theorem tJ {h':bM}{t':Nat}{ob:HO} (I:Inv X pins σ H s) (mu:Mut (H a)) (hs:gP a s.heap h') (he:∃ q,h'.get? a=some q) (new:ObjOk X.prog X.w (upd H a ob) h' a ob) :
  Inv X pins σ (upd H a ob) { s with heap:=h',toks:=t' } :=
 I.write (x:=a) (e:=a) mu (.inl rfl) (fun b q hb z=>(hs.2 b hb).trans z) he new
theorem wT {P:aT}{w:bv}{H':Hp}{h':bM}{kvs:List (Key×V)}{vs:List (Key×ah)} (z:kvs.length≤aI) (hd:(a == dF)=false) (rel:KV kvs vs) (dd:h'.DictOf (ko P w) a vs) :
  ObjOk P w H' h' a (.dK kvs):=⟨z,hd,vs,rel,dd⟩
theorem vF {H':Hp}{Q:Unit→ao→Prop} (hu:A.units+1 < dS) (I:Inv X pins σ H s) (g:DPut H a y v H') (ry:RelV y u) (rv:RelV v r) (h:∀ s',Inv X pins σ H' s'→Q () s') :
  aZ (model X.prog X.w) A (setItem (.ref a) u r) Q E s:=by
 rcases g with ⟨kvs,k,e,ey,l,eH⟩ | ⟨kvs,k,b,e,ey,eb,l,eH⟩
 ·subst ey eH
  obtain ⟨z,hd,vs,rel,dd⟩:=CP I.hok e
  have hz:vs.length≤aI:=by rw [← rel.length];exact z
  have hl:(nJ kvs k v).length≤aI:=by have:=pA kvs k v;omega
  refine wpAny_setItem_pairs (hsz:=hz) (uT ry) dd fun h' dd' hs=>h _ ?_
  have he:∃ q,h'.get? a=some q:=let ⟨q,_,_,hq,_⟩:=dd';⟨q,hq⟩
  exact tJ I (by rw [e];exact cr) hs he (wT hl hd (rel.put k rv) dd')
 ·subst ey eH
  cases (show u=bx b from ry)
  obtain ⟨z,hd,xs,rel,dd⟩:=dt_of I.hok e
  have hz:xs.length≤aI:=by rw [← iw rel];exact z
  have hl:(nJ kvs k v).length≤aI:=by have:=pA kvs k v;omega
  refine wpAny_setItem_heap (hsz:=hz) (fH hu) (uE I.hok eb) dd fun h' dd' hs=>h _ ?_
  obtain ⟨q,es,ep,hq,h2,h3,h4,_,h5⟩:=dd'
  refine tJ I (by rw [e];exact cr) hs ⟨q,hq⟩ ⟨hl,hd,_,(rel.put k eb rv).keeps fun c ys ec=>?_,q,es,ep,hq,h2,h3,h4,h5⟩
  rw [jJ (wL ec e (fun z=>nomatch z))]
  exact ec
end
section
variable {X:Cx}{pins:List (ae×Obj)}{σ:St}{H:Hp}{s:ao}{a:ae}{kvs:List (Key×V)}{k:Key}{u:ah}{A:bL}{E:ah→ao→Prop}
theorem d_pop {v:V}{more:List ah}{Q:ah→ao→Prop} (I:Inv X pins σ H s) (e:H a=some (.dK kvs)) (ry:RelV (kV k) u) (l:l5 kvs k=some v) (hm:more=[]∨∃ x,more=[x])
  (h:∀ w' s',Inv X pins σ (upd H a (.dK (uW kvs k))) s'→RelV v w'→Q w' s'):aZ (model X.prog X.w) A (call (.builtin "dict.pop") (.ref a::u::more)) Q E s:=by
 obtain ⟨z,hd,vs,rel,dd⟩:=CP I.hok e
 obtain ⟨w',hw,rw'⟩:=RelO.some_of (v:=v) (o:=gM vs k) (by rw [← l];exact rel.val k)
 have hp:(keyPart u).isSome=true:=by
  cases k with
  | inl i=>obtain ⟨t,q⟩:=(show ∃ t,u=gh i t from ry);subst q;rfl
  | inr x=>obtain ⟨t,q⟩:=(show ∃ t,u=fI x t from ry);subst q;rfl
 have ha:argsOk "dict.pop" ⟨.ref a::u::more,[]⟩:=by
  rcases hm with q | ⟨x,q⟩
  ·subst q;exact PySem.F.args_dict_pop_2 _ _
  ·subst q;exact PySem.F.args_dict_pop_3 _ _ _
 refine call_meetsIn iQ dd.typeIs PySem.F.entry_dict_pop ha (meets_dict_pop_there (ko X.prog X.w) a (uT ry) more hm hp)
  ⟨vs,w',dd,by rw [← rel.length];exact z,hw,fun h' dd' hs=>h w' _ ?_ rw'⟩
 have he:∃ q,h'.get? a=some q:=let ⟨q,_,_,hq,_⟩:=dd';⟨q,hq⟩
 exact tJ I (by rw [e];exact cr) hs he (wT (aJ (BM kvs k) z) hd (rel.drop k) dd')
theorem EJ {Q:ah→ao→Prop} (I:Inv X pins σ H s) (e:Rd H a (.dK kvs)) (h:∀ t s',Inv X pins σ H s'→Q (.int kvs.length t) s'):aZ (model X.prog X.w) A (call (.builtin "len") [.ref a]) Q E s:=by
 obtain ⟨z,hd,vs,rel,dd⟩:=qS I.hok e
 refine call_len_dict hd dd (by rw [← rel.length];rw [iL] at z;omega) ?_
 rw [← rel.length]
 exact h _ _ (I.tok _)
end
def NoSl (i:a8):Prop:=∀ ov iv,subscripted i false ov iv=operate [ov,iv] (gO ov iv)
theorem CY {prog:aT}{w:bv}{A:bL}{E:ah→ao→Prop}{s:ao}{env:Env}{value slice:a8}{pos:Pos}{T id:String}{Q:ah→ao→Prop}
  (hl:typeLookup (.type T) "__getitem__"=pure (some (.builtin id))) (hs:NoSl slice)
  (h:aZ (model prog w) A (eval value env) (fun o s₁=>aZ (model prog w) A (eval slice env) (fun i s₂=>s₂.TypeIs o T∧aZ (model prog w) A (gO o i) Q E s₂) E s₁) E s) :
  aZ (model prog w) A (eval (.Subscript value slice pos) env) Q E s:=by
 refine jd (bw h (fun o s₁ h₁=>bw h₁ (fun i s₂ h₂=>?_) fun _ _ x=>x) fun _ _ x=>x)
 obtain ⟨hT,h₂⟩:=h₂
 unfold gb
 refine av ?_
 rw [getitemInPython_of_ne hT.not_modules]
 refine av (wpAny_specialOf hT hl ?_)
 have fin:aZ (model prog w) A (subscripted slice false o i) (fun r s₃=>aZ (model prog w) A (letTemporaryGo value o r >>= fun _=>pure r) Q E s₃) E s₂:=by
  rw [hs o i]
  exact wpAny_operating (bw h₂ (fun r s₃ h₃=>av (wpAny_letTemporaryGo (aS h₃))) fun _ _ x=>x)
 first
  | exact aS (av fin)
  | exact av (aS (av fin))
  | exact av fin
theorem r8 {X:Cx}{pins:List (ae×Obj)}{σ:St}{H:Hp}{s:ao}{a:ae}{y:V}{o:Option V} (I:Inv X pins σ H s) (g:DGet H a y o):s.TypeIs (.ref a) "dict":=by
 rcases g with ⟨kvs,k,e,_,_⟩ | ⟨kvs,k,b,e,_,_,_⟩
 ·obtain ⟨_,_,vs,_,dd⟩:=qS I.hok e
  exact dd.typeIs
 ·obtain ⟨_,_,xs,_,dd⟩:=wS I.hok e
  exact dd.typeIs
def tDGet (td ty:TE):TE:=fun σ H Q=>td σ H fun x H1=>ty σ H1 fun y H2=>∃ a v,x=.ref a∧DGet H2 a y (some v)∧Q v H2
def tDIn (ty td:TE):TE:=fun σ H Q=>ty σ H fun y H1=>td σ H1 fun x H2=>∃ a o,x=.ref a∧DGet H2 a y o∧Q (.bl o.isSome) H2
def Ei (td ty tv:TE):TS:=fun D σ H=>tv σ H fun v H1=>td σ H1 fun x H2=>ty σ H2 fun y H3=>∃ a H4,x=.ref a∧DPut H3 a y v H4∧D.nx σ H4
section
variable {X:Cx}{o i e value:a8}{pos pos' tpos:Pos}{td ty tv:TE}
theorem nS (hu:X.A.units+1 < dS) (ho:PE X o td) (hi:PE X i ty) (hs:NoSl i):PE X (.Subscript o i pos) (tDGet td ty):=by
 intro pins s σ H Q I h
 refine CY ia.lookup hs (thn (ho pins s σ H _ I h) fun u s1 ⟨x,H1,I1,rx,q1⟩=>thn (hi pins s1 σ H1 _ I1 q1) fun iv s2 ⟨y,H2,I2,ry,a,v,ex,g,q2⟩=>?_)
 subst ex
 obtain rfl:u=bx a:=rx
 exact ⟨r8 I2 g,vG hu I2 g ry fun w' s3 I3 rw'=>⟨v,H2,I3,rw',q2⟩⟩
theorem Ct (hu:X.A.units+1 < dS) (hi:PE X i ty) (ho:PE X o td):PC X .In i o (tDIn ty td):=by
 intro pins s σ H Q I h
 refine thn (hi pins s σ H _ I h) fun iv s1 ⟨y,H1,I1,ry,q1⟩=>thn (ho pins s1 σ H1 _ I1 q1) fun u s2 ⟨x,H2,I2,rx,a,ov,ex,g,q2⟩=>?_
 subst ex
 obtain rfl:u=bx a:=rx
 exact d_in hu I2 g ry fun s3 I3=>⟨.bl ov.isSome,H2,I3,rfl,q2⟩
theorem lZ (hu:X.A.units+1 < dS) (ho:PE X o td) (hi:PE X i ty) (hv:PE X value tv) (hs:eW value (some (.Subscript o i pos')) pos.line X.env=pure false) :
  PS X (.Assign [.Subscript o i pos'] value pos) (Ei td ty tv):=by
 intro pins s σ H D I h
 refine wpAny_Assign_Subscript (thn (hv pins s σ H _ I h) fun r s1 ⟨v,H1,I1,rv,q1⟩=>thn (ho pins s1 σ H1 _ I1 q1) fun u s2 ⟨x,H2,I2,rx,q2⟩=>thn (hi pins s2 σ H2 _ I2 q2) fun iv s3 ⟨y,H3,I3,ry,a,H4,ex,g,q3⟩=>?_) hs
 subst ex
 obtain rfl:u=bx a:=rx
 exact vF hu I3 g ry rv fun s4 I4=>⟨σ,H4,I4,q3⟩
theorem xX {P:aT}{w:bv}{H:Hp} (h:bM) (hb:dF < h.objs.size):ObjOk P w H (h.push { cls:=.type "dict",data:=.dict #[] }) h.objs.size (.dK []) :=
 ⟨bc _,beq_eq_false_iff_ne.mpr (fJ (aQ hb)),[],.nil,Heap.DictOf.new h⟩
def EX:TE:=fun _ H Q=>∀ p,H p=none→Q (.ref p) (upd H p (.dK []))
theorem pe_dnewK:PE X (.Dict [] [] pos) EX:=fun pins s σ H Q I h =>
 wpAny_Dict_empty ⟨.ref s.heap.objs.size,_,I.laid (a:=s.heap.objs.size) (o:=.dK []) (t':=s.toks) (fun _ _ q=>ay _ q) (az _) (xX s.heap I.big),rfl,h _ (I.hok.fresh (az _))⟩
end
def yU:List (TE×TE)→St→Hp→(List (V×V)→Hp→Prop)→Prop
 | [],_,H,Q=>Q [] H
 | (tk,tv)::r,σ,H,Q=>tk σ H fun x H1=>tv σ H1 fun y H2=>yU r σ H2 fun ps H3=>Q ((x,y)::ps) H3
abbrev VV:List (V×V)→List (ah×ah)→Prop:=eX fun p q=>RelV p.1 q.1∧RelV p.2 q.2
def PPs (X:Cx) (pos:Pos) (keys:List (Option a8)) (values:List a8) (trs:List (TE×TE)):Prop :=
 ∀ (pins:List (ae×Obj)) (s:ao) (σ:St) (H:Hp) (Q:List (V×V)→Hp→Prop),Inv X pins σ H s→yU trs σ H Q →
  aZ (model X.prog X.w) X.A (evalPairs (pairTrees keys values X.env pos)) (fun vs s'=>∃ ps H',Inv X pins σ H' s'∧VV ps vs∧Q ps H') X.xe s
theorem zn {X:Cx}{pos:Pos}:PPs X pos [] [] []:=fun pins s σ H Q I h=>pairTrees_nil_walk ⟨[],H,I,.nil,h⟩
theorem xG {X:Cx}{pos:Pos}{k v:a8}{ks:List (Option a8)}{vs:List a8}{tk tv:TE}{trs:List (TE×TE)} (hk:PE X k tk) (hv:PE X v tv) (hr:PPs X pos ks vs trs) :
  PPs X pos (some k::ks) (v::vs) ((tk,tv)::trs):=fun pins s σ H Q I h =>
 pairTrees_cons_walk (thn (hk pins s σ H _ I h) fun u s1 ⟨x,H1,I1,rx,q1⟩=>thn (hv pins s1 σ H1 _ I1 q1) fun w2 s2 ⟨y,H2,I2,ry,q2⟩ =>
  thn (hr pins s2 σ H2 _ I2 q2) fun ws s3 ⟨ps,H3,I3,rel,q3⟩=>⟨(x,y)::ps,H3,I3,.cons ⟨rx,ry⟩ rel,q3⟩)
def uD (kvs more:List (Key×V)):List (Key×V):=more.foldl (fun acc kv=>nJ acc kv.1 kv.2) kvs
theorem KV.merge:∀ {more:List (Key×V)}{rs:List (Key×ah)}{kvs:List (Key×V)}{vs:List (Key×ah)},KV more rs→KV kvs vs→KV (uD kvs more) (merged vs rs):=by
 intro more rs kvs vs r
 unfold KV at r
 induction r generalizing kvs vs with
 | nil=>intro q;exact q
 | @cons p q ps qs h t ih =>
  intro r0
  have e:KV (nJ kvs p.1 p.2) (stored vs q.1 q.2):=by
   have:=r0.put p.1 h.2
   rw [← h.1];exact this
  exact ih e
theorem qa:∀ (more kvs:List (Key×V)),(uD kvs more).length≤kvs.length+more.length
 | [],kvs=>by show kvs.length≤kvs.length+0;omega
 | p::r,kvs=>by
  have h1:=qa r (nJ kvs p.1 p.2)
  have h2:=pA kvs p.1 p.2
  show (uD (nJ kvs p.1 p.2) r).length≤_
  rw [aC];omega
theorem tN {P:aT}{w:bv}:∀ {kvs:List (Key×V)}{ws:List (ah×ah)},VV (kvs.map fun kv=>(kV kv.1,kv.2)) ws→∃ rs,Carries (ko P w) ws rs∧KV kvs rs
 | [],_,r=>by rw [bQ] at r;cases r;exact ⟨[],cr,.nil⟩
 | p::kvs,_,r=>by
  rw [au] at r
  cases r with
  | @cons a b as bs h t =>
   obtain ⟨rs,c,q⟩:=tN (P:=P) (w:=w) t
   obtain ⟨b1,b2⟩:=b
   exact ⟨(p.1,b2)::rs,⟨uT h.1,rfl,c⟩,.cons ⟨rfl,h.2⟩ q⟩
def tDisp (trs:List (TE×TE)):TE:=fun σ H Q=>∀ p,H p=none→yU trs σ (upd H p (.dK [])) fun ps H2=>H2 p=some (.dK [])∧∃ kvs:List (Key×V),ps=kvs.map (fun kv=>(kV kv.1,kv.2))∧kvs.length≤15∧Q (.ref p) (upd H2 p (.dK (uD [] kvs)))
theorem zt {X:Cx}{pos:Pos}{keys:List (Option a8)}{values:List a8}{trs:List (TE×TE)} (h:PPs X pos keys values trs) (hall:keys.all (·.isSome)=true) (hl:keys.length=values.length) (h0:keys≠[])
  (h15:keys.length≤15):PE X (.Dict keys values pos) (tDisp trs):=by
 intro pins s σ H Q I q
 have hn:=I.hok.fresh (az s.heap.objs.size)
 have I1:=I.laid (a:=s.heap.objs.size) (o:=.dK []) (h':=s.heap.push { cls:=.type "dict",data:=.dict #[] }) (t':=s.toks) (fun _ _ q=>ay _ q) (az _) (xX s.heap I.big)
 refine wpAny_Dict_walk (knd:=ko X.prog X.w) hall hl h0 h15 (thn (h pins _ σ _ _ I1 (q _ hn)) fun ws s2 ⟨ps,H2,I2,rel,e,kvs,ep,lk,q2⟩=>?_)
 subst ep
 obtain ⟨rs,c,rk⟩:=tN (P:=X.prog) (w:=X.w) rel
 obtain ⟨z,hd,vs0,r0,dd⟩:=CP I2.hok e
 cases r0
 refine ⟨rs,c,dd,fun h' dd' hs=>⟨.ref s.heap.objs.size,_,?_,rfl,q2⟩⟩
 have hz:(uD [] kvs).length≤aI:=by
  have h1:=qa kvs []
  rw [aV] at h1
  rw [iL];omega
 have he:∃ q,h'.get? s.heap.objs.size=some q:=let ⟨q,_,_,hq,_⟩:=dd';⟨q,hq⟩
 exact tJ I2 (by rw [e];exact cr) hs he (wT hz hd (rk.merge .nil) dd')
structure M1 (X:Cx) (o:a8) (m:Str) (apos:Pos) (e:a8) (cpos:Pos):Prop where
 base:dU o m X.env (eval o X.env)=eval o X.env
 few:((ck cpos (aR [e] X.env)).all (fun x=>!x.1) && (eI cpos (cQ [] X.env)).all (fun x=>x.1.isSome)
  && decide (([e]:List a8).length+([]:List fm).length+(if ([]:List fm).isEmpty then 0 else 1) < 30))=true
 line:(apos.endLine == cpos.line)=true
 trees:ck cpos (aR [e] X.env)=[(false,eval e X.env)]
structure M2 (X:Cx) (o:a8) (m:Str) (apos:Pos) (e f:a8) (cpos:Pos):Prop where
 base:dU o m X.env (eval o X.env)=eval o X.env
 few:((ck cpos (aR [e,f] X.env)).all (fun x=>!x.1) && (eI cpos (cQ [] X.env)).all (fun x=>x.1.isSome)
  && decide (([e,f]:List a8).length+([]:List fm).length+(if ([]:List fm).isEmpty then 0 else 1) < 30))=true
 line:(apos.endLine == cpos.line)=true
 trees:ck cpos (aR [e,f] X.env)=[(false,eval e X.env),(false,eval f X.env)]
def IsD (H:Hp) (a:ae):Prop:=(∃ kvs,Rd H a (.dK kvs))∨∃ kvs,Rd H a (.dT kvs)
theorem Cz {X:Cx}{pins:List (ae×Obj)}{σ:St}{H:Hp}{s:ao}{a:ae} (I:Inv X pins σ H s) (d:IsD H a) :
  s.TypeIs (.ref a) "dict"∧(∀ b,bx a=.ref b→∃ ob,s.heap.get? b=some ob∧ob.dict=none)∧(a == dF)=false:=by
 rcases d with ⟨kvs,e⟩ | ⟨kvs,e⟩
 ·obtain ⟨_,hd,vs,_,dd⟩:=qS I.hok e
  refine ⟨dd.typeIs,fun b q=>?_,hd⟩
  cases q
  obtain ⟨ob,_,_,h1,h2,_⟩:=dd
  exact ⟨ob,h1,h2.2.1⟩
 ·obtain ⟨_,hd,xs,_,dd⟩:=wS I.hok e
  refine ⟨dd.typeIs,fun b q=>?_,hd⟩
  cases q
  obtain ⟨ob,_,_,h1,h2,_⟩:=dd
  exact ⟨ob,h1,h2.2.1⟩
section
variable {X:Cx}{pins:List (ae×Obj)}{σ:St}{H:Hp}{s:ao}{a:ae}{y d:V}{u r:ah}{o:Option V}{A:bL}{E:ah→ao→Prop}
theorem FP {Q:ah→ao→Prop} (hu:A.units+1 < dS) (I:Inv X pins σ H s) (g:DGet H a y o) (ry:RelV y u) (rd:RelV d r) (h:∀ w' s',Inv X pins σ H s'→RelV (o.getD d) w'→Q w' s') :
  aZ (model X.prog X.w) A (call (.builtin "dict.get") [.ref a,u,r]) Q E s:=by
 rcases g with ⟨kvs,k,e,ey,l⟩ | ⟨kvs,k,b,e,ey,eb,l⟩
 ·subst ey
  obtain ⟨z,hd,vs,rel,dd⟩:=qS I.hok e
  refine call_meetsIn fP dd.typeIs iH (iA _ _ _) (meets_dict_get_default (ko X.prog X.w) a (uT ry) hd r) ⟨_,dd.mapOf,h _ _ (I.tok _) ?_⟩
  rw [l]
  exact (rel.val k).getD rd
 ·subst ey
  cases (show u=bx b from ry)
  obtain ⟨z,hd,xs,rel,dd⟩:=wS I.hok e
  refine call_meetsIn fP dd.typeIs iH (iA _ _ _) (meetsH_dict_get_default (gN (ko X.prog X.w)) a b hd r) ⟨fH hu,k,xs,uE I.hok eb,dd,h _ _ (I.tok _) ?_⟩
  rw [l]
  exact (rel.val k).getD rd
end
def Cd (td ty tx:TE):TE:=fun σ H Q=>td σ H fun x H1=>∃ a,x=.ref a∧IsD H1 a∧ty σ H1 fun y H2=>tx σ H2 fun z H3=>∃ o,DGet H3 a y o∧Q (o.getD z) H3
def EW (td ty:TE):TE:=fun σ H Q=>td σ H fun x H1=>∃ a,x=.ref a∧IsD H1 a∧ty σ H1 fun y H2=>∃ kvs k v,H2 a=some (.dK kvs)∧y=kV k∧l5 kvs k=some v∧Q v (upd H2 a (.dK (uW kvs k)))
section
variable {X:Cx}{o e f:a8}{apos cpos:Pos}{td ty tx:TE}
theorem tZ (hu:X.A.units+1 < dS) (ho:PE X o td) (he:PE X e ty) (hf:PE X f tx) (m:M2 X o "get" apos e f cpos):PE X (.Call (.Attribute o "get" apos) [e,f] [] cpos) (Cd td ty tx):=by
 intro pins s σ H Q I h
 refine wpAny_Call_method m.base m.few m.line iy fP PySem.F.type_dict_get (thn (ho pins s σ H _ I h) fun u s1 ⟨x,H1,I1,rx,a,ex,d,q1⟩=>?_)
 subst ex
 obtain rfl:u=bx a:=rx
 obtain ⟨t1,t2,_⟩:=Cz I1 d
 refine ⟨t1,t2,?_⟩
 rw [m.trees]
 refine fQ rfl (eK (dI (thn (he pins s1 σ H1 _ I1 q1) fun iv s2 ⟨y,H2,I2,ry,q2⟩ =>
  dI (thn (hf pins s2 σ H2 _ I2 q2) fun fv s3 ⟨z,H3,I3,rz,ov,g,q3⟩=>fj ?_))))
 exact FP hu I3 g ry rz fun w' s4 I4 rw'=>⟨_,H3,I4,rw',q3⟩
theorem Bj (ho:PE X o td) (he:PE X e ty) (m:M1 X o "pop" apos e cpos):PE X (.Call (.Attribute o "pop" apos) [e] [] cpos) (EW td ty):=by
 intro pins s σ H Q I h
 refine wpAny_Call_method m.base m.few m.line iy iQ PySem.F.type_dict_pop (thn (ho pins s σ H _ I h) fun u s1 ⟨x,H1,I1,rx,a,ex,d,q1⟩=>?_)
 subst ex
 obtain rfl:u=bx a:=rx
 obtain ⟨t1,t2,_⟩:=Cz I1 d
 refine ⟨t1,t2,?_⟩
 rw [m.trees]
 refine fQ rfl (eK (dI (thn (he pins s1 σ H1 _ I1 q1) fun iv s2 ⟨y,H2,I2,ry,kvs,k,v,ea,ey,l,q2⟩=>fj ?_)))
 subst ey
 exact d_pop I2 ea ry l (.inl rfl) fun w' s3 I3 rw'=>⟨v,_,I3,rw',q2⟩
end
section
variable {X:Cx}{pins:List (ae×Obj)}{σ:St}{H:Hp}{s:ao}{a:ae}{kvs:List (Key×V)}{A:bL}{E:ah→ao→Prop}
theorem BQ {Q:ah→ao→Prop} (I:Inv X pins σ H s) (e:Rd H a (.dK kvs)) (h:∀ p s',H p=none→Inv X pins σ (upd H p (.dK kvs)) s'→Q (.ref p) s'):aZ (model X.prog X.w) A (call (.type "dict") [.ref a]) Q E s:=by
 obtain ⟨z,hd,vs,rel,dd⟩:=qS I.hok e
 refine kt_call_dict hd dd (by rw [← rel.length];exact z) fun h' dd' hs=>?_
 refine h _ _ (I.hok.fresh (az _)) (I.laid (a:=s.heap.objs.size) (o:=.dK kvs) (t':=s.toks) (fun b q hq=>?_) (az _) (wT z (beq_eq_false_iff_ne.mpr (fJ (aQ I.big))) rel dd'))
 exact (hs.2 b (aQ (aK hq))).trans (ay _ hq)
end
section
variable {X:Cx}{pins:List (ae×Obj)}{σ:St}{H:Hp}{s:ao}{a:ae}{y:V}{u:ah}{A:bL}{E:ah→ao→Prop}
end
end L2
namespace Att
open PySem PySem.W PySem.Calls PyProof.Rows
theorem sv {P:Params}{h:bM}:∀ (ns:List Int) (vs:List ah),WellAll P h vs (ns.map WData.int)→IntsAre vs ns:=by
 intro ns
 induction ns with
 | nil =>
  intro vs w
  rw [bQ] at w
  cases w
  exact .nil
 | cons n ns ih =>
  intro vs w
  rw [au] at w
  cases w with
  | cons a b =>
   cases a
   exact .cons _ _ (ih _ b)
theorem zZ {l:fB}{n:Nat} (hn:l.most=some n) {P:Params}{h:bM}{args:List WData}{vals:List ah}
  (hpre:l.row.toRowW.claim.pre args=true) (hwl:WellAll P h vals args) :
  ∃ a vs ns,vals=[bx a]∧args=[WData.list (ns.map WData.int)]∧h.get? a=some { cls:=.type "list",data:=.seq vs.toArray }∧IntsAre vs ns∧ns.length≤n:=by
 have hsh:WShape.hasAll [] args [.list .int]=true:=(pre_splitW hpre).1
 have hc:l.pre.holds [] { args:=args }=true:=(pre_splitW hpre).2
 obtain ⟨d,r,rfl,h1,h2⟩:=hasAllW_cons hsh
 obtain rfl:=hasAllW_nil h2
 obtain ⟨xs,rfl,h3⟩:=hasW_list h1
 obtain ⟨ns,rfl⟩:=items_int h3
 have hlen:ns.length≤n:=by
  unfold OpenLaw.pre at hc
  have h4:(WTm.not (.lt (.lit (.int (n:Int))) (.len (.arg 0)))).holds [] { args:=[.list (ns.map .int)] }=true:=by
   have h4:=(holds_andW hc).1
   rw [hn] at h4
   exact h4
  have h5:=condW_of h4 (w_not (w_lt w_lit (w_len_list (w_arg rfl))))
  rw [af] at h5
  refine dC fun q=>?_
  have q':(n:Int) < ((ns.length:Nat):Int):=by omega
  first
   | (rw [decide_eq_true q'] at h5;exact absurd h5 (by decide))
   | (simp at h5;omega)
 cases hwl with
 | cons w1 w2 =>
  cases w2
  cases w1 with
  | list ho hall=>exact ⟨_,_,ns,rfl,rfl,ho,sv ns _ hall,hlen⟩
theorem z7 (l:fB) (args:List WData):l.row.toRowW.claim.post args (.bool true) args=true :=
 postW_of (r:=l.row.toRowW) (X:=(true == true))
  (show WShape.has [] (.bool true) .bool=true by first | rfl | decide | simp [WShape.has,WShape.arms,WShape.armsAll])
  (show (WTm.eq .res (.lit (.bool true))).value [] { args:=args,res:=some (.bool true),after:=args }=some (.bool (true == true)) from w_eq_bool (w_res rfl) w_lit) rfl
theorem attach_call {l:fB}{n:Nat}{q:aT}{loose:List Str}{XP:(Str→Option ah)→bM→Prop}{YP:bv→bM→Prop}{d:DefRec}
  (hn:l.most=some n) (hdf:d.params.defaults=[])
  (call:∀ (w:bv) (s₀ s₁:ao) (mg mb:Str→Option ah) (fa:ae) (o:Obj) (pm cd doc:ah) (a:ae) (vs:List ah) (ns:List Int),
   Ground q loose [] XP w s₀ mg mb s₁.heap→YP w s₁.heap →
   s₁.heap.get? fa=some o→o.data=.func (docDef d.name d.params d.body d.scope pm cd doc)→s₁.heap.CodeRec cd d.name→mg d.name=some (.ref fa) →
   s₁.heap.get? a=some { cls:=.type "list",data:=.seq vs.toArray }→IntsAre vs ns→ns.length≤n→s₁.gens=#[] →
   eG (model l.prog w) ik (.call (.ref fa) ⟨[.ref a],[]⟩) (fun r s'=>r=.ok (.ret (.bool true))∧OldK s₁.heap s'.heap∧s'.os=s₁.os∧fT s'.gens) s₁) :
  jt q loose XP YP l.row.toRowW d [] (fun f vs=>jq f vs):=by
 intro w s₀ s₁ mg mb G Y fa o pm cd doc dV kV ho hd hcd hD hmg hg args vals as hpre hlay hrd hwl hlo
 obtain rfl:dV=.none:=Dflts.none hD hdf
 obtain rfl:kV=.none:=Dflts.noKw hD
 obtain ⟨a,vs,ns,rfl,rfl,hobj,hints,hlen⟩:=zZ hn hpre hwl
 refine enter_call (ij (call w s₀ s₁ mg mb fa o pm cd doc a vs ns G Y ho (fd_plain hd) hcd hmg hobj hints hlen hg) fun r s' hq=>?_)
 obtain ⟨rfl,h2,h3,h4⟩:=hq
 exact ⟨.inl ⟨.bool true,.bool true,[],rfl,fun _=>rfl,.bool true,z7 l _,fun _=>⟨List.Pairwise.nil,fun _ hm=>(nomatch hm)⟩⟩,h2,h3,h4⟩
section
variable {prog:aT}{w:bv}{A:bL}{E:ah→ao→Prop}{s:ao}{K:aa}
end
end Att
namespace L2
open PySem PySem.Spec PyProof.Rows
theorem va:∀ {vs:List ah}{ns:List Int},IntsAre vs ns→Vals (ns.map V.int) vs
 | _,_,.nil=>.nil
 | _,_,.cons n t h=>.cons ⟨t,rfl⟩ (va h)
def Ed (H:Hp):Prop:=∀ b,H b=none∨∃ o xs,H b=some (.frz o (.lst xs))
theorem Bz {P:aT}{w:bv}{K:aa}{mg mb:Str→Option ah}{CX:CXT}{k:Nat}{fa a:ae}{fd:bR}{x:Str}{sp:Sp}{s₁:ao}{vs:List ah}{ns:List Int}
  (KX:K.In s₁.heap) (hns:s₁.heap.Ns ax mg) (hb:s₁.heap.Ns g7 mb) (hbb:∀ x:Str,x≠"__name__"→mb x=bS x) (hlim:s₁.heap.NoLimit) (hg:s₁.gens=#[])
  (ha:s₁.heap.get? a=some { cls:=.type "list",data:=.seq vs.toArray }) (hi:IntsAre vs ns) (hl:ns.length≤aI) (hr:Room k ik)
  (F:∀ base:bM,K.In base→base.Ns ax mg→FnOk P w K mg base CX k fa fd [x] sp) (hbind:∀ (s:ao) (u:ah),ir s fd ⟨[u],[]⟩ [(x,u)])
  (hsp:∀ H:Hp,Ed H→SqL K H a (ns.map V.int)→sp [.ref a] H (fun v _=>v=.bl true) fun _ _ _=>False)
  (hCX:∀ H e s',CX [] H s₁ (fun _ _ _=>False) e s'→False) :
  eG (model P w) ik (.call (.ref fa) ⟨[.ref a],[]⟩) (fun r s'=>r=.ok (.ret (.bool true))∧OldK s₁.heap s'.heap∧s'.os=s₁.os∧fT s'.gens) s₁:=by
 have rv:=va hi
 have lenV:=hi.length
 have core:∀ H:Hp,Ed H→SqL K H a (ns.map V.int)→HOk P w H s₁.heap→(∀ b,H b≠none→b=a)→(H a≠none→K.lookup a=none) →
   eG (model P w) ik (.call (.ref fa) ⟨[.ref a],[]⟩) (fun r s'=>r=.ok (.ret (.bool true))∧OldK s₁.heap s'.heap∧s'.os=s₁.os∧fT s'.gens) s₁:=by
  intro H hO hS hok hA hK
  have base_of:∀ {b:ae}{o:Obj},s₁.heap.get? b=some o→H b=none→(yK s₁.heap H).get? b=some o:=fun e n=>BD e n
  have noA:∀ {b:ae}{o:Obj}{es:Array DictEntry}{ep:Nat},s₁.heap.get? b=some o→o.data=.dict es ep→H b=none:=fun {b o es ep} e d=>by
   cases q:H b with
   | none=>rfl
   | some u =>
    have e':b=a:=hA b (by rw [q];simp)
    subst e'
    rw [ha] at e;cases e
    have d':Data.seq vs.toArray _=Data.dict es ep:=d
    cases d'
  have nsK:∀ {b:ae}{m:Str→Option ah},s₁.heap.Ns b m→(yK s₁.heap H).Ns b m:=fun {b m} ⟨o,es,ep,e,d,r⟩=>⟨o,es,ep,base_of e (noA e d),d,r⟩
  have hKb:K.In (yK s₁.heap H):=fun b o e=>base_of (KX b o e) (by
   cases q:H b with
   | none=>rfl
   | some u =>
    have e':b=a:=hA b (by rw [q];simp)
    subst e'
    rw [hK (by rw [q];simp)] at e;cases e)
  have hM:Mod K mg (yK s₁.heap H):=⟨hKb,nsK hns,⟨mb,nsK hb,hbb⟩,let ⟨mc,h1,h2⟩:=hlim;⟨mc,nsK h1,h2⟩⟩
  have e0:Env0 P w K mg (yK s₁.heap H) ik [] s₁ H:=⟨rfl,hM,fun b o e=>Dp e,jh (Ap _ _),trivial,fun b hb=>absurd (show b∈([]:List ae) from hb) (by simp),hok,.of_eq hg⟩
  refine ij ((F _ hKb (nsK hns)).run ik [] s₁ H ⟨[.ref a],[]⟩ [.ref a] [.ref a] _ _ hr e0 (hbind s₁ (.ref a)) (.cons rfl .nil) (hsp H hO hS)) fun r s' h=>?_
  cases r with
  | error e=>exact (hCX H e s' h).elim
  | ok fl =>
   cases fl with
   | next=>exact bC h
   | brk=>exact bC h
   | cont=>exact bC h
   | ret u =>
    obtain ⟨v,H',os,bare,un,hok',r',q⟩:=h
    have q':v=.bl true:=q
    subst q'
    obtain rfl:u=io true:=r'
    refine ⟨rfl,OldK.of_keep fun b o e=>?_,os,bare⟩
    cases q:H b with
    | none=>exact un.keep b o e q (by intro z;exact absurd (show b∈([]:List ae) from z) (by simp)) (by simp)
    | some u =>
     rcases hO b with z | ⟨ob,xs,z⟩
     ·rw [q] at z;cases z
     ·have z2:=un.frzs b ob _ z
      obtain ⟨e1,_⟩:=hok b _ z
      obtain ⟨e2,_⟩:=hok' b _ z2
      rw [e] at e1;cases e1
      exact e2
 cases hk:K.lookup a with
 | some o =>
  have e:=KX a o hk
  rw [ha] at e
  cases e
  refine core (fun _=>none) (fun _=>.inl rfl) (.inr ⟨_,vs.toArray,_,hk,rfl,rfl,rfl,by rw [aM,lenV];exact hl,by simpa using rv⟩) (fun b u z=>by have z':(none:Option HO)=some u:=z;cases z') (fun b z=>absurd rfl z) fun z=>absurd rfl z
 | none =>
  refine core (fun b=>if b=a then some (.frz { cls:=.type "list",data:=.seq vs.toArray } (.lst (ns.map V.int))) else none) (fun b=>?_) (.inl (.inr ⟨{ cls:=.type "list",data:=.seq vs.toArray },if_pos rfl⟩)) (fun b u z=>?_) (fun b z=>?_) fun _=>hk
  ·by_cases hb:b=a
   ·exact .inr ⟨_,_,if_pos hb⟩
   ·exact .inl (if_neg hb)
  ·by_cases hb:b=a
   ·have z':=(if_pos hb).symm.trans z
    cases z'
    subst hb
    exact ⟨ha,by rw [af];exact hl,vs,_,rv,ha⟩
   ·have z':=(if_neg hb).symm.trans z
    cases z'
  ·by_cases hb:b=a
   ·exact hb
   ·exact absurd (if_neg hb) z
theorem walk_of {l:fB}{n k:Nat}{q:aT}{loose:List Str}{XP:(Str→Option ah)→bM→Prop}{YP:bv→bM→Prop}{d:DefRec}{K:Params→aa}{CX:bv→CXT}{sp:bv→Sp}{x:Str}
  (hn:l.most=some n) (hn2:n≤aI) (hdf:d.params.defaults=[]) (hr:Room k ik)
  (hY:∀ (w:bv) (h:bM),YP w h→(K w.params).In h)
  (F:∀ (w:bv) (mg:Str→Option ah) (fa:ae) (h:bM),(K w.params).In h→h.Ns ax mg→mg d.name=some (.ref fa) →
   ∃ fd:bR,(∀ (s:ao) (u:ah),ir s fd ⟨[u],[]⟩ [(x,u)]) ∧
    ∀ base:bM,(K w.params).In base→base.Ns ax mg→FnOk l.prog w (K w.params) mg base (CX w) k fa fd [x] (sp w))
  (hsp:∀ (w:bv) (H:Hp) (a:ae) (ns:List Int),ns.length≤n→Ed H→SqL (K w.params) H a (ns.map V.int)→sp w [.ref a] H (fun v _=>v=.bl true) fun _ _ _=>False)
  (hCX:∀ (w:bv) (H:Hp) (s:ao) (e:ah) (s':ao),CX w [] H s (fun _ _ _=>False) e s'→False) :
  jt q loose XP YP l.row.toRowW d [] (fun f vs=>jq f vs):=by
 refine Att.attach_call hn hdf fun w s₀ s₁ mg mb fa o pm cd doc a vs ns G Y ho hd hcd hmg hobj hints hlen hg=>?_
 have KX:=hY w _ Y
 obtain ⟨fd,hb,hF⟩:=F w mg fa _ KX G.T.g hmg
 exact Bz KX G.T.g G.T.b G.T.builtins G.T.nolimit hg hobj hints (aJ hlen hn2) hr hF hb (fun H hO hS=>hsp w H a ns hlen hO hS) fun H e s'=>hCX w H s₁ e s'
def kD (s:bT) (j:Nat):bT:=match s with
 | .ClassDef _ _ _ body _ _ _ _ _ _ _=>body.getD j (.Pass ⟨0,0,0,0⟩)
 | _=>.Pass ⟨0,0,0,0⟩
def qe (s:bT):iI:=match s with
 | .FunctionDef _ a _ _ _ _ _ _ _ _=>a
 | _=>{ posonlyargs:=[],args:=[],vararg:=none,kwonlyargs:=[],kw_defaults:=[],kwarg:=none,defaults:=[] }
def nj (s:bT):List bT:=match s with
 | .FunctionDef _ _ b _ _ _ _ _ _ _=>b
 | _=>[]
def jO (s:bT):cW:=match s with
 | .FunctionDef _ _ _ _ _ _ sc _ _ _=>sc
 | _=>{ kind:=.function,names:=[],isGenerator:=false,isCoroutine:=false }
abbrev E0:XK:=fun _ _ _=>False
structure Fun (K:aa) (x qual:Str) (st:bT) (f:ae) (fd:bR):Prop where
 ex:∃ (oc:ah) (od:Option ae) (kV doc pm:ah) (an:Option ae) (cdv ct:ah) (osl:Array (Option ah)),
  fd=du x qual (qe st) (nj st) (jO st) .none kV doc pm an cdv ct∧K.lookup f=some ⟨oc,od,.func fd,osl⟩∧aG K cdv qual=true
 kp:aB K (.ref f)=true
section
variable {P:aT}{w:bv}{K:aa}{mg:Str→Option ah}{base:bM}
theorem Fun.binds {x qual:Str}{st:bT}{f:ae}{fd:bR}{ps:List Str} (F:Fun K x qual st f fd)
  (h:∀ (kV doc pm:ah) (an:Option ae) (cdv ct:ah) (us:List ah),us.length=ps.length→bindArgs (du x qual (qe st) (nj st) (jO st) .none kV doc pm an cdv ct) ⟨us,[]⟩=pure (ps.zip us)):Binds K fd ps []:=by
 obtain ⟨oc,od,kV,doc,pm,an,cdv,ct,osl,rfl,lk,hcd⟩:=F.ex
 exact .all (h kV doc pm an cdv ct)
theorem j3 {x qual:Str}{st:bT}{f:ae}{oc:ah}{od an:Option ae}{osl:Array (Option ah)}{kV doc pm cdv ct:ah} (l:K.lookup f=some ⟨oc,od,.func (du x qual (qe st) (nj st) (jO st) .none kV doc pm an cdv ct),osl⟩)
  (c:aG K cdv qual=true) (k:aB K (.ref f)=true):Fun K x qual st f (du x qual (qe st) (nj st) (jO st) .none kV doc pm an cdv ct):=⟨⟨oc,od,kV,doc,pm,an,cdv,ct,osl,rfl,l,c⟩,k⟩
end
theorem jV {A:bL}{k:Nat} (hr:Room k A):A.units+1 < dS:=a7 (jD (by decide:1≤64) _) hr.units
section
variable {X:Cx}
theorem pv (i:Nat) {x:Str}{pos:Pos} (hN:X.N[i]?=some x:=by rfl) (hv:Vis X.env.scope x:=by first | exact ba rfl | exact fL (ba rfl) | exact fL (fL rfl)) (hd:(x == ("__debug__":Str))=false:=by decide)
  (hcd:(x == ("__classdict__":Str))=false:=by decide):PE X (.Name x pos) (AF i):=yY hN hv hd hcd
theorem vL:CallR X (.builtin "len") (fun xs H Q=>∃ a kvs,xs=[V.ref a]∧H a=some (.dK kvs)∧Q (.int kvs.length) H):=by
 intro pins s σ H xs us Q I r h
 obtain ⟨a,kvs,rfl,ha,q⟩:=h
 obtain ⟨u,rfl,ru⟩:=nr r
 cases ru
 exact EJ I (.inl ha) fun t s' I'=>⟨.int kvs.length,H,I',⟨t,rfl⟩,q⟩
end
theorem EC {A B:Prop} (h:B):if false=true then A else B:=by
 rw [if_neg a6]
 exact h
theorem EB {A B:Prop} (h:A):if true=true then A else B:=by
 rw [if_pos rfl]
 exact h
theorem qm {c A B:Prop} [Decidable c] (h1:c→A) (h2:¬ c→B):if c then A else B:=by
 by_cases h:c
 ·rw [if_pos h]
  exact h1 h
 ·rw [if_neg h]
  exact h2 h
def Same (H H':Hp):Prop:=∀ b o,H b=some o→H' b=some o
theorem Same.trans {H H1 H2:Hp} (a:Same H H1) (b:Same H1 H2):Same H H2:=fun c o h=>b c o (a c o h)
theorem Same.free {H H':Hp} (e:Same H H') {l:ae} (h:H' l=Option.none):H l=Option.none:=by
 cases q:H l with
 | none=>rfl
 | some o =>
  rw [e l o q] at h
  cases h
theorem Same.seq {K:aa}{H H':Hp}{a:ae}{xs:List V} (e:Same H H') (h:SqL K H a xs):SqL K H' a xs:=by
 rcases h with (h | ⟨o,h⟩) | h
 ·exact .inl (.inl (e _ _ h))
 ·exact .inl (.inr ⟨o,e _ _ h⟩)
 ·exact .inr h
section
variable {κ:Type} [DecidableEq κ]
theorem p4:∀ {l:List κ}{k:κ},l.Nodup→¬ k∈l→(l++[k]).Nodup
 | [],k,_,_=>by simp
 | a::r,k,h,hk=>by
  obtain ⟨h1,h2⟩:=aw.mp h
  show (a::(r++[k])).Nodup
  refine aw.mpr ⟨fun m=>?_,p4 h2 fun m=>hk (ai.mpr (fL m))⟩
  rcases aX.mp m with q | q
  ·exact h1 q
  ·exact hk (ai.mpr (ba (aE.mp q).symm))
end
theorem ff:(bi == bi)=true:=rfl
def mh (cells:List (Str×ae)):List (Str×dH)→List (Str×ae)→List (Str×ae)
 | [],cs=>cs
 | (n,k)::r,cs=>mh cells r (if k == .free then (n,(cells.lookup n).getD 0)::cs else cs)
theorem rN (env:Env):∀ (names:List (Str×dH)) (cs:List (Str×ae)),(∀ y∈names,y.2=.free→∃ c,env.cells.lookup y.1=some c) →
  (forIn names cs fun (x:Str×dH) (r:List (Str×ae))=>match x with
   | (name,kind)=>if (kind == .free)=true then (do let c ← cellOf env name;pure (dA ((name,c)::r))) else pure (dA r):Sem (List (Str×ae)))=pure (mh env.cells names cs)
 | [],cs,_=>rfl
 | (n,k)::r,cs,h=>by
  rw [List.forIn_cons]
  by_cases hk:k=.free
  ·subst hk
   obtain ⟨c,hc⟩:=h (n,.free) ap rfl
   have hc:env.cells.lookup n=some c:=hc
   have ih:=rN env r ((n,c)::cs) fun y hy=>h y (ak _ hy)
   have e1:mh env.cells ((n,bi)::r) cs=mh env.cells r ((n,c)::cs):=by
    show mh env.cells r (if (bi == bi)=true then (n,(env.cells.lookup n).getD 0)::cs else cs)=_
    rw [if_pos ff,hc]
    all_goals rfl
   rw [e1,← ih]
   have e2:cellOf env n=pure c:=by
    unfold cellOf
    rw [hc]
   simp only [beq_self_eq_true,if_true,e2]
   rfl
  ·have hb:(k == bi)=false:=by simpa using hk
   have ih:=rN env r cs fun y hy=>h y (ak _ hy)
   have e1:mh env.cells ((n,k)::r) cs=mh env.cells r cs:=by
    show mh env.cells r (if (k == bi)=true then (n,(env.cells.lookup n).getD 0)::cs else cs)=_
    rw [hb,if_neg a6]
   rw [e1,← ih]
   simp only [hb]
   rfl
theorem nO {scope:cW}{env:Env} (h:∀ y∈scope.names,y.2=.free→∃ c,env.cells.lookup y.1=some c):closureFor scope env=pure (mh env.cells scope.names []):=by
 have e:=rN env scope.names [] h
 unfold closureFor
 refine Eq.trans ?_ (congrArg (fun m:Sem (List (Str×ae))=>m >>= pure) e)
 rfl
theorem t9 {cells:List (Str×ae)}{y:Str}{c:ae}:∀ (names:List (Str×dH)) (cs:List (Str×ae)),(∀ z∈names,z.2=.free→∃ c,cells.lookup z.1=some c)→(∀ z d,cs.lookup z=some d→cells.lookup z=some d) →
  (mh cells names cs).lookup y=some c→cells.lookup y=some c
 | [],cs,_,hcs,h=>hcs y c h
 | (n,k)::r,cs,hf,hcs,h=>by
  refine t9 r _ (fun z hz=>hf z (ak _ hz)) ?_ h
  by_cases hk:k=.free
  ·subst hk
   obtain ⟨d,hd⟩:=hf (n,.free) ap rfl
   have hd:cells.lookup n=some d:=hd
   intro z d' hz
   rw [if_pos ff,hd] at hz
   by_cases e:z=n
   ·subst e
    rw [bA] at hz
    simp only [beq_self_eq_true] at hz
    rw [hd]
    exact hz
   ·have hb:(z == n)=false:=by simpa using e
    rw [bA] at hz
    simp only [hb] at hz
    exact hcs z d' hz
  ·have hb:(k == bi)=false:=by simpa using hk
   rw [hb,if_neg a6]
   exact hcs
theorem tM {cells:List (Str×ae)}{y:Str}:∀ (names:List (Str×dH)) (cs:List (Str×ae)),(cs.lookup y).isSome=true→((mh cells names cs).lookup y).isSome=true
 | [],cs,h=>h
 | (n,k)::r,cs,h=>by
  refine tM r _ ?_
  by_cases hk:(k == bi)=true
  ·rw [if_pos hk,bA]
   cases z:(y == n)
   ·exact h
   ·rfl
  ·rw [if_neg hk]
   exact h
theorem rO {cells:List (Str×ae)}{y:Str}:∀ (names:List (Str×dH)) (cs:List (Str×ae)),(y,bi)∈names→((mh cells names cs).lookup y).isSome=true
 | (n,k)::r,cs,h=>by
  rcases ai.mp h with e | e
  ·cases e
   refine tM r _ ?_
   rw [if_pos ff,bA]
   simp
  ·exact rO r _ e
def blk (X:Cx) (scope:cW) (cl:List (Str×ae)) (C:ae) (Nb:List Str) (s₃:ao) (H₃:Hp) (fp:List ae):Cx where
 prog:=X.prog
 w:=X.w
 K:=X.K
 mg:=X.mg
 base:=X.base
 A:=X.A
 N:=Nb
 s₀:=s₃
 H₀:=H₃
 env:=compEnvC scope cl C X.env
 outer:=X.stack
 stack:=X.stack
 ex:=fp
 fn:=fun _=>false
 calm:=true
 pn:=[]
 xe:=fun _ _=>False
structure CompOk (N:List Str) (esc:cW) (scope:cW) (x:Str) (fr:List Str) (ix:List Nat):Prop where
 kind:scope.kind=.function
 cell:∀ y∈scope.names,y.2≠.cell
 loc:scope.names.lookup x=some .local
 nm:∀ y∈scope.names,y.2=.local→scope.names.lookup y.1=some .local
 free:∀ y∈scope.names,y.2=.free→esc.names.lookup y.1=some .cell
 nd:(x::fr).Nodup
 idx:∀ p∈fr.zip ix,N[p.2]?=some p.1
 frs:∀ y∈fr,scope.names.lookup y=some .free∧esc.names.lookup y=some .cell
 len:ix.length=fr.length
theorem cok {N:List Str}{e c:cW}{x:Str}{fr:List Str}{ix:List Nat} (h1:c.kind=.function:=by rfl) (h2:∀ y∈c.names,y.2≠.cell:=by decide +kernel) (h3:c.names.lookup x=some .local:=by rfl) (h4:∀ y∈c.names,y.2=.local→c.names.lookup y.1=some .local:=by decide +kernel) (h5:∀ y∈c.names,y.2=.free→e.names.lookup y.1=some .cell:=by decide +kernel) (h6:(x::fr).Nodup:=by decide +kernel) (h7:∀ p∈fr.zip ix,N[p.2]?=some p.1:=by decide +kernel) (h8:∀ y∈fr,c.names.lookup y=some .free∧e.names.lookup y=some .cell:=by decide +kernel) (h9:ix.length=fr.length:=by rfl):CompOk N e c x fr ix:=⟨h1,h2,h3,h4,h5,h6,h7,h8,h9⟩
def capt (ix:List Nat) (σ:St):St:=ix.map fun i=>(σ[i]?).getD none
def zQ (X:Cx) (ifs:List a8) (t:TT):Prop :=
 ∀ (pins:List (ae×Obj)) (s:ao) (σ:St) (H:Hp) (Q:Bool→Hp→Prop),Inv X pins σ H s→t σ H Q →
  aZ (model X.prog X.w) X.A (forIn ifs true fun c r=>if r=true then do let ok ← isTrue c X.env (eval c X.env);pure (dA ok) else pure (dA r)) (TP X pins σ Q) X.xe s
def tYes:TT:=fun _ H Q=>Q true H
theorem tY {X:Cx}:zQ X [] tYes:=fun pins s σ H Q I h=>aS ⟨H,I,h⟩
theorem Ba {X:Cx}{c:a8}{t:TT} (h:PT X c t):zQ X [c] t:=by
 intro pins s σ H Q I hq
 rw [List.forIn_cons]
 refine av ?_
 rw [if_pos rfl]
 refine av (thn (h pins s σ H Q I hq) fun b s1 h1=>aS ?_)
 show aZ _ _ (forIn [] b _) _ _ _
 rw [List.forIn_nil]
 exact aS h1
def yS (J:It) (tc:TT) (te:TE) (cap:St) (D:ae) (H1:Hp) (Q:VK):Prop :=
 ∃ Pv:Nat→Nat→List V→Hp→Prop,(∃ m,Pv 0 m [] (upd H1 D (.lst [])))∧∀ i m ys H2,Pv i m ys H2 →
  (J.stop i H2∧H2 D=some (.lst ys)∧Q (.ref D) H2)∨(J.go i H2∧∀ x H3,J.yld i H2 x H3→tc (some x::cap) H3 fun b H4=>if b=true then
   te (some x::cap) H4 fun v H5=>H5 D=some (.lst ys)∧ys.length < aI∧∃ m',m' < m∧Pv (i+1) m' (ys++[v]) (upd H5 D (.lst (ys++[v])))
   else ∃ m',m' < m∧Pv (i+1) m' ys H4)
def AA (wi:TI) (ix:List Nat) (tc:TT) (te:TE):TE:=fun σ H Q=>wi σ H fun J H1=>∀ D,H1 D=none→yS J tc te (capt ix σ) D H1 Q
section
variable {X:Cx}{elt iter:a8}{ifs:List a8}{x:Str}{px pos:Pos}{scope:cW}{wi:TI}{tc:TT}{te:TE}{fr:List Str}{ix:List Nat}
theorem lb {env:Env} (hk:env.scope.kind=.function):∀ {names:List (Str×dH)}{y:Str},names.lookup y=some .free→env.scope.names.lookup y=some .cell →
  (names.map fun (n,k)=>if (k == bi && env.scope.kind == .function && env.kindOf n == some .cell) then (n,d7) else (n,k)).lookup y=some .cell
 | [],_,h,_=>by simp at h
 | (n,k)::r,y,h,hc=>by
  have ih:=@lb env hk r y
  show cm y ((if (k == bi && env.scope.kind == .function && env.kindOf n == some .cell)=true then (n,d7) else (n,k))::_)=_
  cases hx:y == n with
  | true =>
   simp only [bA,hx] at h
   cases h
   have e:y=n:=by simpa using hx
   subst e
   have e2:env.kindOf y=some .cell:=hc
   rw [if_pos (by rw [hk,e2];rfl),bA]
   simp
  | false =>
   simp only [bA,hx] at h
   split
   ·simp only [bA,hx];exact ih h hc
   ·simp only [bA,hx];exact ih h hc
theorem x9 {ix:List Nat}{σ:St}{k:Nat}{v:V} (h:(capt ix σ)[k]?=some (some v)):∃ i,ix[k]?=some i∧σ[i]?=some (some v):=by
 unfold capt at h
 rw [bo] at h
 cases e:ix[k]? with
 | none=>rw [e] at h;cases h
 | some i =>
  rw [e] at h
  refine ⟨i,rfl,?_⟩
  have h2:(σ[i]?).getD none=some v:=aU h
  cases q:σ[i]? with
  | none=>rw [q] at h2;cases h2
  | some o=>rw [q] at h2;exact congrArg some h2
def EN (X:Cx) (pins:List (ae×Obj)) (C:ae):Prop:=C≠X.env.locals∧X.s₀.heap.objs.size≤C∧(∀ y c,X.env.cells.lookup y=some c→c≠C)∧∀ p∈X.pn++pins,p.1≠C
theorem vI {PR:ah→ae→iE→ao→Prop}{pins:List (ae×Obj)}{σ:St}{H2:Hp}{s2:ao}{it:ae}{fp:List ae}{tn:Nat→bM→Prop}{J:It}{Q:VK} (hc:X.calm=true) (S:CompOk X.N X.env.scope scope x fr ix)
  (ht:∀ cl C s₃ H₃ fp,zQ (blk X scope cl C (x::fr) s₃ H₃ fp) ifs tc) (he:∀ cl C s₃ H₃ fp,PE (blk X scope cl C (x::fr) s₃ H₃ fp) elt te)
  (hcells:∀ y∈scope.names,y.2=.free→∃ c,X.env.cells.lookup y.1=some c)
  (I2:Inv X pins σ H2 s2) (T:Turn X.prog X.w X.K (.Name x px) J fp it tn) (st2:tn 0 s2.heap) (f2:∀ b∈fp,vQ X pins H2 b) (q2:∀ D,H2 D=none→yS J tc te (capt ix σ) D H2 Q)
  (hfin:∀ D C H' s',Inv X pins σ H' s'→H' C=none→EN X pins C→(∃ m,s'.heap.Ns C m)→Q (.ref D) H'→PR (.ref D) C (.ok .next) s') :
  aZ (model X.prog X.w) X.A (newList []) (fun acc s₃=>aZ (model X.prog X.w) X.A (newFunctionEnv scope X.env.globals (mh X.env.cells scope.names []) [] X.env.qual none .none (some X.env)) (fun cenv s₄ =>
   eG (model X.prog X.w) X.A (.compStart (.ListComp elt [⟨.Name x px,iter,ifs,0⟩] scope pos) 0 (.ref it) acc { cenv with scope:=relabel scope X.env }) (PR acc cenv.locals) s₄) X.xe s₃) X.xe s2:=by
 refine cP ?_
 have hD:H2 s2.heap.objs.size=none:=I2.hok.fresh (az _)
 have I3:Inv X pins σ (upd H2 s2.heap.objs.size (.lst [])) { s2 with heap:=s2.heap.push { cls:=.type "list",dict:=none,data:=.seq ([]:List ah).toArray } } :=
  I2.lnew (its:=[]) (t':=s2.toks) (.nil) (bc _)
 obtain ⟨Pv,⟨m0,p0⟩,turn⟩:=q2 s2.heap.objs.size hD
 generalize hD':s2.heap.objs.size=D at *
 generalize hs3:({ s2 with heap:=s2.heap.push { cls:=.type "list",dict:=none,data:=.seq ([]:List ah).toArray } }:ao)=s3 at *
 have hk23:∀ b o,s2.heap.get? b=some o→s3.heap.get? b=some o:=fun b o e=>by rw [← hs3];exact ay _ e
 have hH3:∀ b,b≠D→(upd H2 D (.lst [])) b=H2 b:=fun b hb=>jJ hb
 have f3:∀ b∈fp,vQ X pins (upd H2 D (.lst [])) b∧b < s3.heap.objs.size:=fun b hb=>by
  obtain ⟨o,e,_⟩:=T.obj _ _ st2 b hb
  have hlt:=aK e
  refine ⟨⟨?_,(f2 b hb).2⟩,aK (hk23 b o e)⟩
  rw [hH3 b (by rw [← hD'];exact aQ hlt)]
  exact (f2 b hb).1
 have st3:tn 0 s3.heap:=T.keep _ _ _ st2 fun b hb o e=>hk23 b o e
 refine wpAny_newFunctionEnv S.cell (by intro y hy;simp at hy) (fun h4 hns4 hsb4=>?_) S.kind
 generalize hC:s3.heap.objs.size=C at *
 let X':Cx:=blk X scope (mh X.env.cells scope.names []) C (x::fr) s3 (upd H2 D (.lst [])) fp
 have clof:∀ y c,(mh X.env.cells scope.names []).lookup y=some c→X.env.cells.lookup y=some c:=fun y c e=>t9 scope.names [] hcells (fun z d hz=>by simp at hz) e
 have clhas:∀ y,(y,bi)∈scope.names→∃ c,(mh X.env.cells scope.names []).lookup y=some c:=fun y hy=>cK.mp (rO scope.names [] hy)
 have k34:∀ b o,s3.heap.get? b=some o→h4.get? b=some o:=fun b o e=>hsb4.extBut b o (by rw [← hC];exact aQ (aK e)) (ay _ e)
 have relfree:∀ (l:List (Str×dH)) y k,(l.map fun (n,k)=>if (k == bi && X.env.scope.kind == .function && X.env.kindOf n == some .cell) then (n,d7) else (n,k)).lookup y=some k→(k=.cell∨k=.free) →
   (∀ z∈l,z.2≠.cell)→(y,bi)∈l:=by
  intro l
  induction l with
  | nil=>intro y k e _ _;simp at e
  | cons z r ih =>
   intro y k e hk hn
   obtain ⟨n,kz⟩:=z
   rw [au] at e
   by_cases hy:y=n
   ·subst hy
    have:kz=.free:=by
     by_cases hkz:kz=.free
     ·exact hkz
     ·exfalso
      have hb:(kz == bi)=false:=by simpa using hkz
      simp only [hb,dy,fb,if_false,bA,beq_self_eq_true] at e
      have e':kz=k:=aU e
      rcases hk with z | z
      ·exact hn (y,kz) ap (e'.trans z)
      ·exact hkz (e'.trans z)
    rw [this]
    exact ap
   ·have hb:(y == n)=false:=by simpa using hy
    refine ak _ (ih y k ?_ hk fun z hz=>hn z (ak _ hz))
    have e:cm y ((if (kz == bi && X.env.scope.kind == .function && X.env.kindOf n == some .cell)=true then (n,d7) else (n,kz))::_)=some k:=e
    by_cases hq:(kz == bi && X.env.scope.kind == .function && X.env.kindOf n == some .cell)=true
    ·rw [if_pos hq,bA] at e
     simp only [hb] at e
     exact e
    ·rw [if_neg hq,bA] at e
     simp only [hb] at e
     exact e
 have ok':X'.Ok:=by
  refine ⟨I3.ok.mod,S.kind,I3.ok.glob,I3.ok.blt,?_,fun y z c e1 e2=>I3.ok.inj y z c (clof y c e1) (clof z c e2),fun y hy=>?_,fun y c e _=>(by cases e),fun _=>I3.ok.hd hc,I3.ok.frames,.inl rfl,fun b hb=>⟨?_,fun y c e=>(f3 b hb).1.2.2.2.2.1 y c (clof y c e)⟩,I3.bs,aJ I3.ok.bsz I3.sz,fun b o e hb=>?_,fun b hb z=>?_,I3.stack,I3.stkFree⟩
  ·show s3.heap.objs.size≤C
   rw [hC]
   exact az _
  ·rcases hy with hy | hy
   ·exact clhas y (relfree scope.names y _ hy (.inl rfl) S.cell)
   ·exact clhas y (relfree scope.names y _ hy (.inr rfl) S.cell)
  ·exact aQ (f3 b hb).2
  ·rcases (f3 b hb).1.2.2.2.1 with z | z
   ·exact I3.ok.noex b o e z
   ·exact absurd (aH (aK e) (aJ I3.ok.bsz z)) (cC _)
  ·rcases ai.mp (I3.stkSub b z) with z | z
   ·exact (f3 b hb).1.2.1 z
   ·exact (f3 b hb).1.2.2.1 z
 have capture:∀ {h':bM}{m:Str→Option ah},(∀ b o,s3.heap.get? b=some o→(∃ v,o.data=.cell v)→h'.get? b=some o)→∀ (k:Nat) (y:Str) (v:V),fr[k]?=some y→(capt ix σ)[k]?=some (some v)→∃ u,RelV v u∧F4 X'.env h' m y u:=by
  intro h' m hkc k y v hy hv
  obtain ⟨i,hix,hσ⟩:=x9 hv
  have hzip:(y,i)∈fr.zip ix:=by
   refine bN (i:=k) ?_
   rw [iJ]
   exact ⟨hy,hix⟩
  have hN:X.N[i]?=some y:=S.idx (y,i) hzip
  obtain ⟨hfr,hcell⟩:=S.frs y (bN hy)
  obtain ⟨m3,hn3,hl3⟩:=I3.loc
  obtain ⟨u,ru,l⟩:=hl3 i y v hN hσ (.inr (.inl hcell))
  refine ⟨u,ru,?_⟩
  rcases l with ⟨kd,_⟩ | ⟨_,c,ec,ic⟩
  ·have kd:X.env.scope.names.lookup y=some .local:=kd
   rw [hcell] at kd
   cases kd
  ·refine .inr ⟨.inl (lb I3.ok.kind hfr hcell),c,?_,?_⟩
   ·obtain ⟨c',e'⟩:=clhas y (cy hfr)
    have:=clof y c' e'
    rw [ec] at this
    cases this
    exact e'
   ·obtain ⟨o,ho,hd⟩:=ic
    exact ⟨o,hkc c o ho ⟨_,hd⟩,hd⟩
 have hNd:X'.N.Nodup:=S.nd
 have hx0:X'.env.scope.names.lookup x=some .local:=dG S.loc
 have lenb:∀ o:Option V,(o::capt ix σ).length=X'.N.length:=fun o=>by
  show (capt ix σ).length+1=fr.length+1
  unfold capt
  rw [af,S.len]
 have I4:Inv X' [] (none::capt ix σ) (upd H2 D (.lst [])) { s3 with heap:=h4,toks:=s3.toks+([]:List (Str×ah)).length }:=by
  refine ⟨ok',rfl,I3.bare,Un.kept k34,⟨_,hns4,fun k y v e1 e2 e3=>?_⟩,fun y c e=>?_,?_,fun y c e=>I3.freeC y c (clof y c e),fun p hp=>?_,I3.hok.kept k34,lenb none⟩
  ·cases k with
   | zero=>cases e2
   | succ k=>exact capture (fun b o e _=>k34 b o e) k y v (by have e1:(x::fr)[k+1]?=some y:=e1;simpa using e1) (by simpa using e2)
  ·obtain ⟨v,o,ho,hd⟩:=I3.cell y c (clof y c e)
   exact ⟨v,o,k34 c o ho,hd⟩
  ·exact I3.hok.fresh (by show s3.heap.objs.size≤C;rw [hC];exact az _)
  ·exact absurd (show p∈([]:List (ae×Obj)) from hp) (by simp)
 have stat:∀ {H':Hp}{b:ae},b∈fp→H' b=none→vQ X' [] H' b:=fun {H' b} hb hn=>by
  refine ⟨hn,?_,?_,.inl hb,fun y c e=>(f3 b hb).1.2.2.2.2.1 y c (clof y c e),fun p hp=>absurd (show p∈([]:List (ae×Obj)) from hp) (by simp)⟩
  ·exact aQ (f3 b hb).2
  ·intro z
   rcases ai.mp (I3.stkSub b z) with z | z
   ·exact (f3 b hb).1.2.1 z
   ·exact (f3 b hb).1.2.2.1 z
 have hch:∀ b∈fp,(b∈X.ex∨X.s₀.heap.objs.size≤b)∧b≠X.env.locals∧(∀ y c,X.env.cells.lookup y=some c→c≠b)∧∀ p∈X.pn++pins,p.1≠b:=fun b hb =>
  ⟨(f3 b hb).1.2.2.2.1,(f3 b hb).1.2.1,(f3 b hb).1.2.2.2.2.1,(f3 b hb).1.2.2.2.2.2⟩
 have fin:∀ {σ':St}{H':Hp}{s':ao},Inv X' [] σ' H' s'→Q (.ref D) H'→PR (.ref D) C (.ok .next) s':=fun {σ' H' s'} I' q'=>by
  obtain ⟨m',hn',_⟩:=I'.loc
  have J:=I3.call' (s':=s') (ch:=fp) I'.os I'.base I'.hok I'.bare hch
  refine hfin D C H' s' J I'.free ⟨?_,?_,fun y c e=>?_,fun p hp=>?_⟩ ⟨m',hn'⟩ q'
  ·rw [← hC];exact jf I3.lt
  ·rw [← hC];exact I3.sz
  ·obtain ⟨v,z⟩:=I3.cell y c e
   rw [← hC];exact aQ z.lt
  ·rw [← hC];exact aQ (aK (I3.pin p hp).1)
 have loop:eG (model X.prog X.w) X.A (.compLoop (.ListComp elt [⟨.Name x px,iter,ifs,0⟩] scope pos) 0 (.ref it) (.ref D) X'.env) (PR (.ref D) C) { s3 with heap:=h4,toks:=s3.toks+([]:List (Str×ah)).length }:=by
  refine codeAny_compLoop_tests (fun n s'=>∃ i ys o H',Inv X' [] (o::capt ix σ) H' s'∧tn i s'.heap∧(∀ b∈fp,H' b=none)∧Pv i n ys H') ?_ m0 ⟨0,[],none,_,I4,T.keep _ _ _ st3 fun b hb o e=>k34 b o e,fun b hb=>(f3 b hb).1.1,p0⟩
  rintro n s5 ⟨i,ys,o,H5,I5,st5,fr5,p5⟩
  rcases turn i n ys H5 p5 with ⟨stop,hd5,qn⟩ | ⟨go,step⟩
  ·refine bw (T.done X' rfl rfl rfl rfl i [] s5 _ H5 (fun _ _=>False) I5 (fun b hb=>stat hb (fr5 b hb)) st5 stop) (fun r s6 ⟨hr,I6⟩=>?_) fun _ _ z=>bC z
   subst hr
   exact fin I6 qn
  ·refine bw (T.item X' rfl rfl rfl rfl i [] s5 _ H5 (fun _ _=>False) I5 (fun b hb=>stat hb (fr5 b hb)) st5 go) (fun r s6 ⟨u,hr,h6⟩=>?_) fun _ _ z=>bC z
   subst hr
   dsimp only
   intro Γ p hΓ
   obtain ⟨xv,H6,I6,r6,y6,st6,fr6⟩:∃ xv H',Inv X' [] (o::capt ix σ) H' s6∧RelV xv u∧J.yld i H5 xv H'∧tn (i+1) s6.heap∧∀ b∈fp,H' b=none:=h6 Γ p hΓ
   refine (?_:aZ (model X.prog X.w) X.A (assign (.Name x px) X'.env u) _ _ s6) Γ p hΓ
   have I6':=I6.pinned (fun b hb=>stat hb (fr6 b hb)) (T.obj _ _ st6)
   refine bw (wx (i:=0) (X:=X') (pos:=px) hNd rfl (.inl hx0) (.inr hx0) _ s6 _ H6 xv u (fun σ' H'=>σ'=some xv::capt ix σ∧H'=H6) I6' r6 ⟨rfl,rfl⟩) (fun _ s7 h7=>?_) fun _ _ z=>bC z
   obtain ⟨σ7,H7,I7,rfl,rfl⟩:=h7
   refine bw (ht _ _ _ _ _ _ s7 _ H7 _ I7 (step xv H7 y6)) (fun b s8 ⟨H8,I8,q8⟩=>?_) fun _ _ z=>bC z
   have back:∀ {σ9:St}{H9:Hp}{s9:ao}{ys':List V},Inv X' ([]++sD fp s6.heap) (some xv::capt ix σ) H9 s9→(∃ m',m' < n∧Pv (i+1) m' ys' H9) →
     ∃ m,m < n∧∃ i ys o H',Inv X' [] (o::capt ix σ) H' s9∧tn i s9.heap∧(∀ b∈fp,H' b=none)∧Pv i m ys H':=fun {σ9 H9 s9 ys'} I9 h9=>by
    obtain ⟨m',hm,p9⟩:=h9
    refine ⟨m',hm,i+1,ys',_,H9,I9.unpinned,T.keep _ _ _ st6 fun b hb o e=>(I9.pin (b,o) (aP _ (aP _ (md hb e)))).1,fun b hb=>?_,p9⟩
    obtain ⟨o,e,d⟩:=T.obj _ _ st6 b hb
    exact (I9.pin (b,o) (aP _ (aP _ (md hb e)))).2.1
   cases b with
   | false =>
    rw [if_neg a6] at q8 ⊢
    exact back (σ9:=[]) I8 q8
   | true =>
    rw [if_pos rfl] at q8 ⊢
    refine bw (he _ _ _ _ _ _ s8 _ H8 _ I8 q8) (fun w9 s9 ⟨v9,H9,I9,r9,hd9,hz9,q9⟩=>?_) fun _ _ z=>bC z
    refine bw (rE (X:=X') _ s9 _ H9 (.ref D) [v9] (.ref D) [w9] (fun _ H'=>H'=upd H9 D (.lst (ys++[v9]))) I9 rfl (.cons r9 .nil) ⟨D,ys,v9,rfl,rfl,hd9,hz9,rfl⟩) (fun _ s10 h10=>?_) fun _ _ z=>bC z
    obtain ⟨_,H10,I10,_,rfl⟩:=h10
    exact back (σ9:=[]) I10 q9
 exact codeAny_compStart_list loop (T.self _ 0 _ _ _ (T.keep _ _ _ st3 fun b hb o e=>k34 b o e) loop)
theorem tf (hc:X.calm=true) (S:CompOk X.N X.env.scope scope x fr ix) (hi:PI X (.Name x px) iter wi)
  (ht:∀ cl C s₃ H₃ fp,zQ (blk X scope cl C (x::fr) s₃ H₃ fp) ifs tc) (he:∀ cl C s₃ H₃ fp,PE (blk X scope cl C (x::fr) s₃ H₃ fp) elt te)
  (hs:∀ v,bY iter X.env v=pure v:=by intro _;rfl):PE X (.ListComp elt [⟨.Name x px,iter,ifs,0⟩] scope pos) (AA wi ix tc te):=by
 intro pins s σ H Q I h
 have hcells:∀ y∈scope.names,y.2=.free→∃ c,X.env.cells.lookup y.1=some c:=fun y hy hf=>I.ok.has y.1 (.inl (S.free y hy hf))
 rw [eval_ListComp]
 refine fW (use:=none) rfl hs (nO hcells) S.kind S.nm (thn (hi pins s σ H _ I h) fun v s1 h1=>thn h1 fun itv s2 h2=>?_)
 obtain ⟨it,fp,tn,J,H2,e,I2,T,st2,f2,q2⟩:=h2
 subst e
 refine vI (PR:=fun acc C r s'=>compPost (model X.prog X.w) X.A X.xe none (EP X pins σ Q) acc C r s') hc S ht he hcells I2 T st2 f2 q2 fun D C H' s' I' hCn ⟨b1,b2,b3,b4⟩ hns q'=>?_
 obtain ⟨m',hn'⟩:=hns
 refine ⟨m',hn',fun h' hs'=>⟨.ref D,H',?_,rfl,q'⟩⟩
 exact I'.turned (t':=s'.toks) (it:=C) (fun b o hb e=>hs'.extBut b o hb e) hCn b1 (.inr b2) b3 b4
theorem sY {i:Nat}{y:Str}{py spos:Pos} (hN:X.N.Nodup) (hiy:X.N[i]?=some y) (hly:X.env.scope.names.lookup y=some .local) (hc:X.calm=true) (S:CompOk X.N X.env.scope scope x fr ix) (hi:PI X (.Name x px) iter wi)
  (ht:∀ cl C s₃ H₃ fp,zQ (blk X scope cl C (x::fr) s₃ H₃ fp) ifs tc) (he:∀ cl C s₃ H₃ fp,PE (blk X scope cl C (x::fr) s₃ H₃ fp) elt te)
  (hsw:eW (.ListComp elt [⟨.Name x px,iter,ifs,0⟩] scope pos) (some (.Name y py)) spos.line X.env=pure true:=by rfl)
  (hs:∀ v,bY iter X.env v=pure v:=by intro _;rfl):PS X (.Assign [.Name y py] (.ListComp elt [⟨.Name x px,iter,ifs,0⟩] scope pos) spos) (FV (AA wi ix tc te) (CO i)):=by
 intro pins s σ H D0 I h
 have hcells:∀ y∈scope.names,y.2=.free→∃ c,X.env.cells.lookup y.1=some c:=fun y hy hf=>I.ok.has y.1 (.inl (S.free y hy hf))
 rw [exec_Assign_Name_used _ _ _ _ hsw]
 refine av (fV (av ?_))
 show aZ _ X.A (do let _ ← comprehension (.ListComp elt [⟨.Name x px,iter,ifs,0⟩] scope pos) scope X.env _ (newList []) false (eval iter X.env) (some (assign (.Name y py) X.env))) _ _ s
 refine av (bw (fW (use:=some (assign (.Name y py) X.env)) (Q:=fun _ s'=>SP X pins D0 .next s') rfl hs (nO hcells) S.kind S.nm
  (thn (hi pins s σ H _ I h) fun v s1 h1=>thn h1 fun itv s2 h2=>?_)) (fun _ s' hq=>aS (aS hq)) fun _ _ e=>e)
 obtain ⟨it,fp,tn,J,H2,e,I2,T,st2,f2,q2⟩:=h2
 subst e
 refine vI (PR:=fun acc C r s'=>compPost (model X.prog X.w) X.A X.xe (some (assign (.Name y py) X.env)) (fun _ s'=>SP X pins D0 .next s') acc C r s') hc S ht he hcells I2 T st2 f2 q2 fun D C H' s' I' hCn ⟨b1,b2,b3,b4⟩ hns q'=>?_
 obtain ⟨m',hn'⟩:=hns
 refine wpAny_assign_Name (vd (v:=.ref D) I' hN hiy (.inl hly) rfl (fun s5 I5 sb=>?_) (.inr hly))
 obtain ⟨a5,sb,ha5⟩:=sb
 have hCa:C≠a5:=by
  rcases ha5 with z | z
  ·rw [z];exact b1
  ·exact (b3 _ _ z).symm
 refine ⟨m',hn'.sameBut sb hCa,fun h' hs'=>⟨_,H',?_,q'⟩⟩
 exact I5.turned (t':=s5.toks) (it:=C) (fun b o hb e=>hs'.extBut b o hb e) hCn b1 (.inr b2) b3 b4
end
abbrev bmV:List ah:=[.type "ValueError",.type "Exception",.type "BaseException",.type "object"]
structure Exc (K:aa) (C:ae):Prop where
 ex:cz K C bmV "ValueError.__new__"=true
 ga:aq K (.ref C) "__getattribute__"=some (some (.builtin "BaseException.__getattribute__"))
 gt:aq K (.ref C) "__getattr__"=some none
 ha:aq K (.ref C) "__class__"=some (some (.builtin "object.__class__"))
 hn:eZ K (.builtin "object.__class__") "__get__"=some (some (.builtin "getset_descriptor.__get__"))
 ht:gS K (.builtin "object.__class__")=some true
 mo:bG K C (.type "object")=some true
 mb:bG K C (.type "BaseException")=some true
theorem Exc.obj {K:aa}{C:ae}{h:bM} (Z:Exc K C) (X:K.In h):∃ bm N nm q bs hdct sn sub ab col dd k0 k1 k2 k3 k5 mN,
  h.get? C=some (excClassObj nm q C N bs bm hdct sn sub ab col dd k0 k1 k2 k3 k5 "ValueError.__new__")∧h.Ns N mN∧mN "__init__"=none∧OwnTail h bmV bm:=by
 have z:=Z.ex
 unfold cz at z
 split at z
 case h_2=>cases z
 case h_1 ddv cdv slv lk =>
  split at z
  case h_2=>cases z
  case h_1 D bm a0 a1 a2 a3 nw a5 em es =>
   have z':((((D=C∧nw="ValueError.__new__")∧cdv.hasDel=false)∧PySem.W.tailIn K bmV bm=true)∧PySem.W.nsOkIn K cdv.ns=true)∧aA K cdv.ns "__init__"=some none:=by
    simpa only [dB,beq_iff_eq,Bool.not_eq_true'] using z
   obtain ⟨⟨⟨⟨⟨eD,eN⟩,hdl⟩,tl⟩,okn⟩,ini⟩:=z'
   rcases cdv with ⟨c1,c2,c3,c4,c5,c6,c7,c8,c9,c10,c11⟩
   have em:c3=.ref D::bm:=em
   have hdl:c11=false:=hdl
   have okn:PySem.W.nsOkIn K c4=true:=okn
   have ini:aA K c4 "__init__"=some none:=ini
   subst em hdl eD eN
   have esl:slv=#[a0,a1,a2,a3,some (.builtin "ValueError.__new__"),a5]:=by
    rcases slv with ⟨l⟩
    have es:l=_:=es
    rw [es]
   subst esl
   refine ⟨bm,c4,c1,c5,c2,c6,c7,c8,c9,c10,ddv,a0,a1,a2,a3,a5,h.nsMap c4,X _ _ lk,?_,?_,PySem.W.tail_of_in X tl⟩
   ·exact .of_isNs (PySem.W.isNs_of_in X okn)
   ·exact PySem.W.nsMap_none_of_in X okn ini
def CQ (h:bM) (a C:ae):Prop:=∃ ox vs,h.get? a=some ox∧ox.cls=.ref C∧ox.data=.fields vs
def excO (C a:ae):HO:=.ext fun h=>CQ h a C
section
variable {prog:aT}{w:bv}{A:bL}{E:ah→ao→Prop}{s:ao}{K:aa}{x C:ae}{ox:Obj}
open PySem.W Builtin Builtin.ObjectAttr Builtin.Getset_descriptor in
theorem As {Q:Option ah→ao→Prop} (Z:Exc K C) (X:K.In s.heap) (I:CQ s.heap x C) (h:Q (some (.ref C)) { s with toks:=s.toks+1 }) :
  aZ (model prog w) A (getAttr? (.ref x) "__class__") Q E s:=by
 obtain ⟨hh,g,d,t,os⟩:=s
 have L0:Looks (model prog w) hh (typeOf (.ref x)) (.ref C):=by
  obtain ⟨ox,vs,hat,hcl,hdt⟩:=I
  have hat:hh.get? x=some ox:=hat
  exact hcl ▸ (Looks.ld hat).andThen .now
 have L1:=gz (M:=model prog w) X Z.ga
 have L2:=gz (M:=model prog w) X Z.gt
 have L3:Looks (model prog w) hh (Builtin.ObjectAttr.find (.ref x) (.ref C) "__class__") (.bind (.builtin "getset_descriptor.__get__") (.builtin "object.__class__")):=by
  have M1:=gz (M:=model prog w) X Z.ha
  have M2:Looks (model prog w) hh (Builtin.ObjectAttr.getOf (some (.builtin "object.__class__"))) (some (.builtin "getset_descriptor.__get__")):=looks_specialIn X Z.hn
  have M3:=looks_takesIn (M:=model prog w) X Z.ht
  refine M1.andThen (M2.andThen ?_)
  refine Looks.andThen (a:=some (.builtin "getset_descriptor.__get__",.builtin "object.__class__")) ?_ (Looks.tag .now)
  exact M3.andThen .now
 have LO:=looks_mroIn (M:=model prog w) X Z.mo
 have cget:∀ {A:bL}{tk:Nat}{R:iE→ao→Prop},R (.ok (.ret (.ref C))) ⟨hh,g,d,tk,os⟩→eG (model prog w) A (.call (.builtin "getset_descriptor.__get__") ⟨[.builtin "object.__class__",.ref x,.ref C],[]⟩) R ⟨hh,g,d,tk,os⟩:=by
  intro A tk R hq
  obtain ⟨ox,vs,hat,hcl,hdt⟩:=I
  have hat:hh.get? x=some ox:=hat
  refine codeAny_call_builtin KF.slot_gs.plain KF.entry_gs (KF.slot_gs.check _ _ _ _ _ _ _ _ KF.type_class (KF.args_gs _ _ _) ?_)
  unfold Builtin.«getset_descriptor.__get__» descrGet
  rw [dga_obj]
  refine av (aS ?_)
  unfold descrGetter descrCheckInstance descrNameAndClass isInstance
  simp only [KF.owner_class]
  repeat lk
  refine ⟨Code.quiet_builtin _ (by decide +kernel),codeAny_builtin KF.entry_class ?_⟩
  unfold Builtin.«object.__class__» shownTypeOf
  repeat lk
  exact hq
 have LB:Looks (model prog w) hh (isInstance (.ref x) (.type "BaseException")) true:=L0.andThen (looks_mroIn X Z.mb)
 have f3:=PySem.F.slot_gs_get
 have hx2:(Value.builtin "BaseException.__getattribute__" == Value.builtin "object.__getattribute__")=false:=by decide +kernel
 have cls:∀ {tk:Tok}{R:iE→ao→Prop},R (.ok (.ret (.ref C))) ⟨hh,g,d,t+1,os⟩→eG (model prog w) A (.call (.builtin "BaseException.__getattribute__") ⟨[.ref x,.str "__class__" tk],[]⟩) R ⟨hh,g,d,t+1,os⟩:=by
  intro tk R hq
  have hk:builtinKind "BaseException.__getattribute__"=some .slot:=by decide +kernel
  have hsplit:splitId "BaseException.__getattribute__"=some ("BaseException","__getattribute__"):=by decide +kernel
  have ha:=F.args_bexc_ga (.ref x) (.str "__class__" tk)
  refine codeAny_call_builtin (by decide +kernel) F.entry_bexc_ga ?_
  simp only [checkBuiltinCall,hk,hsplit]
  refine av (LB.at ?_)
  repeat (any_goals (first | assumption | wp_step))
  obtain ⟨ox,vs,hat,hcl,hdt⟩:=id I
  have hat:hh.get? x=some ox:=hat
  refine wpAny_loadPart_at hat (aS ?_)
  rw [hcl]
  clear hat hcl hdt
  refine av (L3.at ?_)
  repeat (any_goals (first | assumption | wp_step))
  refine cget ?_
  repeat (any_goals (first | assumption | wp_step))
 have f4:=PySem.F.excAttr_ValueError.ga.bind (.ref x)
 unfold getAttr? getAttrBy? getAttrBy
 refine av (wpAny_mkText (av (wpAny_attempt (dR (av (L0.at (av (L1.at ?_))))))))
 show aZ _ _ (getAttrByItsOwn _ _ _ _ _ _) _ _ _
 unfold getAttrByItsOwn
 refine av (L2.at ?_)
 repeat (any_goals (first | assumption | wp_step))
 refine cls ?_
 repeat (any_goals (first | assumption | wp_step))
end
section
variable {K:aa}{C a:ae}
open PySem.W in
theorem BB (Z:Exc K C):KitX K (.ref a) (.ref C) (fun h=>CQ h a C) where
 ty:=fun _ _ _ ⟨_,_,e,c,_⟩=>c ▸ (Looks.ld e).andThen .now
 it:=fun _ h X _=>by
  obtain ⟨bm,N,nm,q,bs,hdct,sn,sub,ab,col,dd,k0,k1,k2,k3,k5,mN,hC,_⟩:=Z.obj X
  intro A' Q' E' s' k z
  unfold isType loadHead
  exact av (wpAny_loadPart (k _ _ hC) (aS z))
 ne:=fun h tp dd its n sl X htp=>by
  obtain ⟨bm,N,nm,q,bs,hdct,sn,sub,ab,col,dd,k0,k1,k2,k3,k5,mN,hC,_⟩:=Z.obj X
  refine dg.mpr fun z=>?_
  have e:C=tp:=Value.ref.inj (beq_iff_eq.mp z)
  subst e
  rw [hC] at htp
  injection (aU htp) with _ _ z3 _
  exact nomatch z3
 ca:=fun X I k=>As Z X I k
end
def clsV:V→ah
 | .ref a=>.ref a
 | .ty n=>.type n
 | _=>.none
theorem BS {c:V}{u:ah} (r:RelV c u) (h:(∃ a,c=.ref a)∨∃ n,c=.ty n):u=clsV c:=by
 rcases h with ⟨a,rfl⟩ | ⟨n,rfl⟩ <;> exact r
section
variable {X:Cx}
def rIsi (K:aa):List V→Hp→VK→Prop:=fun xs H Q=>∃ x c t b,xs=[x,c]∧((∃ a,c=.ref a)∨∃ n,c=.ty n)∧(TyOf K H x t∨(∃ a C,x=.ref a∧t=.ref C∧H a=some (excO C a)∧Exc K C)∨(∃ a ys,x=.ref a∧t=.type "list"∧SqL K H a ys)∨∃ a ys,x=.ref a∧t=.type "tuple"∧SqT K H a ys)∧g8 K t (clsV c)=some b∧Q (.bl b) H
theorem BU:CallR X (.builtin "isinstance") (rIsi X.K):=by
 intro pins s σ H xs us Q I r h
 obtain ⟨x,c,t,b,rfl,hc,ty,e,q⟩:=h
 obtain ⟨u,v,rfl,ru,rv⟩:=Ef r
 rw [BS rv hc]
 have fin:∀ tk,EP X pins σ Q (.bool b) { s with toks:=tk }:=fun tk=>⟨.bl b,H,I.tok tk,rfl,q⟩
 rcases ty with ty | ⟨a,C,rfl,rfl,ha,Z⟩ | ⟨a,ys,rfl,rfl,hq⟩ | ⟨a,ys,rfl,rfl,hq⟩
 ·exact Am I ru ty e fin
 ·cases (show u=bx a from ru)
  obtain ⟨p,_⟩:=I.hok a _ ha
  exact bO (BB Z) I.kIn p e (fun z=>nomatch z) fin
 ·cases (show u=bx a from ru)
  obtain ⟨its,r',pl,_⟩:=I.list hq
  obtain ⟨o,h1,h2,_⟩:=pl.isList
  exact bO gA I.kIn ⟨o,h1,h2⟩ e (fun z=>nomatch z) fin
 ·cases (show u=bx a from ru)
  obtain ⟨its,r',pl,_⟩:=I.tuple hq
  obtain ⟨o,h1,h2,_⟩:=pl
  exact bO i9 I.kIn ⟨o,h1,h2⟩ e (fun z=>nomatch z) fin
end
theorem ObjOk.there {P:aT}{w:bv}{H:Hp}{h:bM}{a:ae}{o:HO} (x:ObjOk P w H h a o):∃ ob,h.get? a=some ob:=by
 cases o with
 | lst xs=>obtain ⟨_,_,_,_,e⟩:=x;exact ⟨_,e⟩
 | tup xs=>obtain ⟨_,_,_,ob,e,_⟩:=x;exact ⟨ob,e⟩
 | dK kvs=>obtain ⟨_,_,_,_,ob,_,_,e,_⟩:=x;exact ⟨ob,e⟩
 | dT kvs=>obtain ⟨_,_,_,_,ob,_,_,e,_⟩:=x;exact ⟨ob,e⟩
 | set S n=>obtain ⟨ob,_,_,_,e,_⟩:=x;exact ⟨ob,e⟩
 | ins C dx fs=>obtain ⟨_,_,_,e,_⟩:=x;exact ⟨_,e⟩
 | own y=>exact x
 | xd fs=>obtain ⟨_,⟨ob,_,_,e,_⟩,_⟩:=x;exact ⟨ob,e⟩
 | rng lo hi=>obtain ⟨_,_,_,e⟩:=x;exact ⟨_,e⟩
 | frz ob u=>obtain ⟨e,_⟩:=x;exact ⟨ob,e⟩
 | tbl ps=>exact ⟨_,show h.get? a=some _ from x⟩
 | met f y=>exact ⟨_,show h.get? a=some _ from x⟩
 | ext φ=>exact x.2.1
def CXo (P:aT) (w:bv):CXT:=fun outer H s E e s'=>∃ (a C:ae) (t:ah) (B:bM) (H':Hp),e=.ref a∧s'.os=s.os∧fT s'.gens∧Un (frs outer) [] H H' s.heap s'.heap∧HOk P w H' s'.heap ∧
 Heap.FlyingW B outer a (.ref C) t s'.heap∧(∀ b u o,H' b=some u→s'.heap.get? b=some o→B.get? b=some o) ∧
 (∀ b o,s.heap.get? b=some o→b∉frs outer→∃ o',s'.heap.get? b=some o'∧B.get? b=some o')∧E (.ref C) none H'
theorem j8 {P:aT}{w:bv}{X:Cx}:lv (CXo P w) X E0:=fun _ _ _ _ _ _ _ h=>by
 obtain ⟨_,_,_,_,_,_,_,_,_,_,_,_,_,z⟩:=h
 exact z.elim
theorem Dx {env:Env}{outer:List Env}{L b:ae} (hf:env.frame=some L) (h:b∈frs (env::outer)):b=L∨b∈frs outer:=by
 unfold frs at h ⊢
 rw [ce,hf] at h
 exact ai.mp h
theorem tH {env:Env}{outer:List Env}{L b:ae} (hf:env.frame=some L) (h:b∈frs outer):b∈frs (env::outer):=by
 unfold frs at h ⊢
 rw [ce,hf]
 exact ak _ h
section
variable {P:aT}{w:bv}{K:aa}{mg:Str→Option ah}{base:bM}{N:List Str}{qual:Str}{scope:cW}{f:ae}{cd:ah}{A:bL}{outer:List Env}{s₀:ao}{H₀:Hp}{E:XK}
theorem ka:lv (CXo P w) (xZ (CXo P w) P w K mg base N qual scope f cd A outer s₀ H₀ E) E:=by
 intro pins σ H s e s' I h
 obtain ⟨a,C,t,B,H',rfl,hos,hbare,un,hok,fl,inB,oldB,hE⟩:=h
 have hlow:∀ b o,s₀.heap.get? b=some o→b≠s₀.heap.objs.size:=fun b o e=>aQ (aK e)
 refine wpAny_leaves_onW (L:=s₀.heap.objs.size) (by exact I.ok.frames) rfl fl fun h' fl' up=>?_
 have eq1:frs (dN qual scope s₀.heap.objs.size f cd::outer)=s₀.heap.objs.size::frs outer:=rfl
 have notin:∀ b o,s₀.heap.get? b=some o→b∉frs outer→b∉frs (dN qual scope s₀.heap.objs.size f cd::outer):=fun b o e n z=>by
  rw [eq1] at z
  rcases ai.mp z with z | z
  ·exact hlow b o e z
  ·exact n z
 have ub:Un (frs outer) [] H₀ H s₀.heap s.heap:=I.base
 have old:∀ b o,s₀.heap.get? b=some o→b∉frs outer→∃ o',h'.get? b=some o'∧B.get? b=some o':=fun b o e n=>by
  obtain ⟨o1,e1⟩:=ub.there b o e (by simp)
  obtain ⟨o2,e2,e3⟩:=oldB b o1 e1 (notin b o e n)
  exact ⟨o2,fl'.1 b o2 e3,e3⟩
 refine ⟨a,C,t,B,H',rfl,hos.trans I.os,hbare,⟨fun b o e n hb _=>?_,fun b o e n hb _=>?_,fun b o e n _=>?_,fun b o e _=>?_,fun b xs e=>un.tups b xs (ub.tups b xs e),fun b o u e=>un.frzs b o u (ub.frzs b o u e),fun b ps e=>?_⟩,?_,fl',?_,old,hE⟩
 ·have e1:=ub.keep b o e n hb (by simp)
  have n1:=ub.free b o e n (by simp)
  have e2:=un.keep b o e1 n1 (notin b o e hb) (by simp)
  obtain ⟨o2,e3,e4⟩:=oldB b o e1 (notin b o e hb)
  rw [e2] at e3
  cases e3
  exact fl'.1 b o e4
 ·obtain ⟨sl,e1⟩:=ub.slot b o e n hb (by simp)
  have n1:=ub.free b o e n (by simp)
  obtain ⟨sl2,e2⟩:=un.slot b _ e1 n1 (tH rfl hb) (by simp)
  obtain ⟨_,o3,e3,hnf⟩:=fl.2.2.1.mem (show b∈(dN qual scope s₀.heap.objs.size f cd::outer).filterMap (·.frame) from tH rfl hb)
  obtain ⟨sl3,e4⟩:=up b _ e3 hnf
  rw [e2] at e3
  cases e3
  exact ⟨sl3,e4⟩
 ·obtain ⟨o1,e1⟩:=ub.there b o e (by simp)
  exact un.free b o1 e1 (ub.free b o e n (by simp)) (by simp)
 ·by_cases hb:b∈frs outer
  ·obtain ⟨_,o3,e3,hnf⟩:=fl.2.2.1.mem (show b∈(dN qual scope s₀.heap.objs.size f cd::outer).filterMap (·.frame) from tH rfl hb)
   obtain ⟨sl3,e4⟩:=up b _ e3 hnf
   exact ⟨_,e4⟩
  ·obtain ⟨o',e1,_⟩:=old b o e hb
   exact ⟨o',e1⟩
 ·obtain ⟨m1,e1⟩:=ub.tbls b ps e
  obtain ⟨m2,e2⟩:=un.tbls b _ e1
  exact ⟨m1++m2,by rw [e2,jy]⟩
 ·intro b u e
  refine (hok b u e).stay (fun c v hc q=>?_) (fun _ q=>q) fun _ _ q=>q
  rcases hc with z | z
  ·subst z
   exact fl'.1 _ _ (inB _ u v e q)
  ·exact fl'.1 _ _ (inB c _ v z q)
 ·intro b u o e q
  obtain ⟨o1,q1⟩:∃ o1,s'.heap.get? b=some o1:=by
   exact (hok b u e).there
  have z:=inB b u o1 e q1
  have z2:=fl'.1 b o1 z
  rw [z2] at q
  cases q
  exact z
def tS (X:Cx) (E:XK):Prop:=∀ (pins:List (ae×Obj)) (σ:St) (H:Hp) (s:ao) (a C:ae) (vs:List ah) (h':bM),Inv X pins σ H s→Heap.MadeExcOf s.heap h' a (.ref C) vs→E (.ref C) none H→X.xe (.ref a) { s with heap:=h' }
theorem tu:tS (xZ (CXo P w) P w K mg base N qual scope f cd A outer s₀ H₀ E) E:=by
 intro pins σ H s a C vs h₁ I mk hE
 have stk:s.heap.FunFrames base (dN qual scope s₀.heap.objs.size f cd::outer):=I.stack
 let l:List ae:=frs (dN qual scope s₀.heap.objs.size f cd::outer)
 have hin:∀ env∈(dN qual scope s₀.heap.objs.size f cd::outer),∀ b,env.frame=some b→b∈l:=fun env he b hb=>gH.mpr ⟨env,he,hb⟩
 have toB:∀ b o,s.heap.get? b=some o→b∉l→(fK s.heap l).get? b=some o:=fun b o e n=>iV l e n
 have ub:Un (frs outer) [] H₀ H s₀.heap s.heap:=I.base
 have notin:∀ b o,s₀.heap.get? b=some o→b∉frs outer→b∉l:=fun b o e n z=>by
  rcases Dx (L:=s₀.heap.objs.size) rfl z with z | z
  ·exact aQ (aK e) z
  ·exact n z
 have trkN:∀ b u,H b=some u→b∉l:=fun b u e z=>by
  rw [I.stkFree b z] at e
  cases e
 refine wpAny_leaves_madeW (L:=s₀.heap.objs.size) (base:=fK s.heap l) (h:=s.heap) (by exact I.ok.frames) rfl (fun b o e=>i8 l e) (PySem.W.funFrames_hide stk hin) mk fun h' t fl tup nt up=>?_
 have keepB:∀ b o,s.heap.get? b=some o→b∉l→h'.get? b=some o:=fun b o e n=>fl.1 b o (toB b o e n)
 have frame:∀ b o,s.heap.get? b=some o→b∈l→∃ sl,h'.get? b=some { o with slots:=sl }:=fun b o e hb=>by
  obtain ⟨_,o3,e3,hnf⟩:=stk.mem hb
  rw [e] at e3
  cases e3
  exact up b o (mk.keeps b o e) hnf
 refine ⟨a,C,.ref t,fK s.heap l,H,rfl,I.os,I.bare,⟨fun b o e n hb _=>?_,fun b o e n hb _=>?_,fun b o e n _=>ub.free b o e n (by simp),fun b o e _=>?_,ub.tups,ub.frzs,ub.tbls⟩,fun b u e=>?_,fl,fun b u o e q=>?_,fun b o e n=>?_,hE⟩
 ·exact keepB b o (ub.keep b o e n hb (by simp)) (notin b o e hb)
 ·obtain ⟨sl,e1⟩:=ub.slot b o e n hb (by simp)
  obtain ⟨sl2,e2⟩:=frame b _ e1 (tH rfl hb)
  exact ⟨sl2,e2⟩
 ·obtain ⟨o1,e1⟩:=ub.there b o e (by simp)
  by_cases hb:b∈l
  ·obtain ⟨sl2,e2⟩:=frame b _ e1 hb
   exact ⟨_,e2⟩
  ·exact ⟨o1,keepB b o1 e1 hb⟩
 ·refine (I.hok b u e).stay (fun c v hc q=>?_) (fun _ q=>q) fun _ _ q=>q
  rcases hc with z | z
  ·subst z
   exact keepB _ v q (trkN _ u e)
  ·exact keepB c v q (trkN c _ z)
 ·obtain ⟨o1,q1⟩:=(I.hok b u e).there
  have z2:=keepB b o1 q1 (trkN b u e)
  have q:h'.get? b=some o:=q
  rw [z2] at q
  cases q
  exact toB b _ q1 (trkN b u e)
 ·obtain ⟨o1,e1⟩:=ub.there b o e (by simp)
  exact ⟨o1,keepB b o1 e1 (notin b o e n),toB b o1 e1 (notin b o e n)⟩
end
section
variable {X:Cx}{C:ae}{x:Str}{np cpos pos:Pos}{e:a8}{te:TE}{E:XK}
def EV (C:ae) (E:XK) (te:TE):TS:=fun _ σ H=>te σ H fun _ H1=>E (.ref C) none H1
theorem mE (Z:Exc X.K C) (hg:Gl X x) (hm:X.mg x=some (.ref C)) (hc:X.calm=true) (ha:PE X e te) (hp:tS X E)
  (hd:(x == ("__debug__":Str))=false:=by decide) (he:aR [e] X.env=[(false,eval e X.env)]:=by rfl):PS X (.Raise (some (.Call (.Name x np) [e] [] cpos)) none pos) (EV C E te):=by
 intro pins s σ H D I h
 obtain ⟨bm,N,nm,q,bs,hdct,sn,sub,ab,col,dd,k0,k1,k2,k3,k5,mN,hC,hN,hni,T⟩:=Z.obj I.mod.kin
 refine wpAny_Raise_call_subT (C:=C) (nm:=nm) (q:=q) (N:=N) (bs:=bs) (bm:=bm) (hdct:=hdct) (sn:=sn) (sub:=sub) (ab:=ab) (col:=col) (dd:=dd) (k0:=k0) (k1:=k1) (k2:=k2) (k3:=k3) (k5:=k5)
  g9 (mN:=mN) (T.hasType g9.hasBase) (I.ok.hd hc) (by rw [he];rfl) hni (tw I hg hm ⟨rfl,?_⟩ hd)
 rw [he]
 refine eK ?_
 show aZ _ _ (spliced ((false,eval e X.env)::[])) _ _ s
 refine dI (thn (ha pins s σ H _ I h) fun u s₂ ⟨v,H2,I2,r2,q2⟩=>?_)
 refine fj ⟨rfl,?_,I2.bk _ _ hC,hN.keeps I2.bk,T.keeps I2.bk,fun h' a mk=>hp pins σ H2 s₂ a C _ h' I2 mk q2⟩
 show 1≤aI
 decide
end
section
variable {M:Model}{A:bL}{E:ah→ao→Prop}{K:aa}{C D e:ae}{oe:Obj}
end
section
variable {X:Cx}{k:Nat}{f C:ae}{fd:bR}{ps:List Str}{sp:Sp}{dvs:List V}{ds:List ah}{x m:Str}{p pos apos:Pos}{e o:a8}{es:List a8}{ta:TE}{t:TA}
end
section
variable {X:Cx}{e:a8}{te:XK→TE}{pos:Pos}
def hnd (X:Cx) (a:ae):Cx:={ X with A:=X.A.mark (some (.ref a)),calm:=false,xe:=fun _ _=>False }
end
section
variable {X:Cx}{body:List bT}{x n:Str}{np hp pos:Pos}{b₀:bT}{bs:List bT}{tb:XK→TS}{th:TS}{D:ae}{i:Nat}
def leS (a b:Str):Bool:=!eJ b.cps.toList a.cps.toList
theorem qy:∀ a:List Nat,eJ a a=false
 | []=>rfl
 | a::r=>by
  show (decide (a < a) || (a == a && eJ r r))=false
  rw [qy r]
  simp
theorem pz:∀ {a b c:List Nat},eJ a b=true→eJ b c=true→eJ a c=true
 | [],_,[],h1,h2=>by
  cases ‹List Nat› with
  | nil=>exact h1
  | cons x r=>exact absurd (show eJ (x::r) []=true from h2) (by intro z;cases z)
 | [],_,_::_,_,_=>rfl
 | a::r,[],_,h1,_=>by cases h1
 | a::r,b::t,[],_,h2=>by cases h2
 | a::r,b::t,c::u,h1,h2=>by
  have h1:(decide (a < b) || (a == b && eJ r t))=true:=h1
  have h2:(decide (b < c) || (b == c && eJ t u))=true:=h2
  show (decide (a < c) || (a == c && eJ r u))=true
  simp only [eU,decide_eq_true_eq,dB,beq_iff_eq] at h1 h2 ⊢
  rcases h1 with h1 | ⟨e1,g1⟩
  ·rcases h2 with h2 | ⟨e2,g2⟩
   ·exact .inl (by omega)
   ·exact .inl (by omega)
  ·rcases h2 with h2 | ⟨e2,g2⟩
   ·exact .inl (by omega)
   ·exact .inr ⟨e1.trans e2,pz g1 g2⟩
theorem rF:∀ a b:List Nat,eJ a b=false→eJ b a=false→a=b
 | [],[],_,_=>rfl
 | [],_::_,h,_=>by cases h
 | _::_,[],_,h=>by cases h
 | a::r,b::t,h1,h2=>by
  have h1:(decide (a < b) || (a == b && eJ r t))=false:=h1
  have h2:(decide (b < a) || (b == a && eJ t r))=false:=h2
  simp only [Bool.or_eq_false_iff,decide_eq_false_iff_not,Bool.and_eq_false_iff,beq_eq_false_iff_ne] at h1 h2
  have e:a=b:=by omega
  subst e
  rw [rF r t (h1.2.resolve_left fun z=>z rfl) (h2.2.resolve_left fun z=>z rfl)]
theorem Aj (a b:Str):leS a b=true∨leS b a=true:=by
 unfold leS
 cases h:eJ b.cps.toList a.cps.toList with
 | false=>exact .inl rfl
 | true =>
  right
  cases h2:eJ a.cps.toList b.cps.toList with
  | false=>rfl
  | true =>
   have:=pz h h2
   rw [qy] at this
   cases this
theorem By {a b:Str} (h1:leS a b=true) (h2:leS b a=true):a=b:=by
 unfold leS at h1 h2
 have e:=rF b.cps.toList a.cps.toList (by simpa using h1) (by simpa using h2)
 obtain ⟨⟨x⟩⟩:=a
 obtain ⟨⟨y⟩⟩:=b
 have e:y=x:=e
 rw [e]
theorem vt {a b c:Str} (h1:leS a b=true) (h2:leS b c=true):leS a c=true:=by
 unfold leS at *
 cases h:eJ c.cps.toList a.cps.toList with
 | false=>rfl
 | true =>
  exfalso
  have h1:eJ b.cps.toList a.cps.toList=false:=by simpa using h1
  have h2:eJ c.cps.toList b.cps.toList=false:=by simpa using h2
  cases h3:eJ b.cps.toList c.cps.toList with
  | true =>
   have:=pz h3 h
   rw [h1] at this
   cases this
  | false =>
   have e:=rF _ _ h3 h2
   rw [e,h] at h1
   cases h1
def AH (x:Str):List Str→List Str
 | []=>[x]
 | y::r=>if leS x y then x::y::r else y::AH x r
def srt:List Str→List Str
 | []=>[]
 | x::r=>AH x (srt r)
theorem rJ (x:Str):∀ l,(AH x l).Perm (x::l)
 | []=>.refl _
 | y::r=>by
  unfold AH
  split
  ·exact .refl _
  ·exact ((rJ x r).cons y).trans (.swap x y r)
theorem jZ:∀ l,(srt l).Perm l
 | []=>.refl _
 | x::r=>(rJ x (srt r)).trans ((jZ r).cons x)
theorem rW (x:Str):∀ l,l.Pairwise (fun a b=>leS a b=true)→(AH x l).Pairwise (fun a b=>leS a b=true)
 | [],_=>by simp [AH]
 | y::r,h=>by
  obtain ⟨h1,h2⟩:=cG.mp h
  unfold AH
  split
  ·rename_i hxy
   refine cG.mpr ⟨fun z hz=>?_,h⟩
   rcases ai.mp hz with rfl | hz
   ·exact hxy
   ·exact vt hxy (h1 z hz)
  ·rename_i hxy
   refine cG.mpr ⟨fun z hz=>?_,rW x r h2⟩
   rcases ai.mp ((rJ x r).mem_iff.mp hz) with rfl | hz
   ·exact (Aj z y).resolve_left hxy
   ·exact h1 z hz
theorem l6:∀ l,(srt l).Pairwise (fun a b=>leS a b=true)
 | []=>.nil
 | x::r=>rW x _ (l6 r)
theorem l9:∀ {l m:List Str},l.Perm m→l.Pairwise (fun a b=>leS a b=true)→m.Pairwise (fun a b=>leS a b=true)→l=m
 | [],m,p,_,_=>(List.nil_perm.mp p).symm
 | a::l,[],p,_,_=>absurd (List.perm_nil.mp p) (by simp)
 | a::l,b::m,p,h1,h2=>by
  obtain ⟨a1,a2⟩:=cG.mp h1
  obtain ⟨b1,b2⟩:=cG.mp h2
  have e:a=b:=by
   have ha:a∈b::m:=p.mem_iff.mp ap
   have hb:b∈a::l:=p.mem_iff.mpr ap
   rcases ai.mp ha with e | ha
   ·exact e
   ·rcases ai.mp hb with e | hb
    ·exact e.symm
    ·exact By (a1 b hb) (b1 a ha)
  subst e
  rw [l9 (List.Perm.cons_inv p) a2 b2]
theorem rQ {l m:List Str} (p:l.Perm m):srt l=srt m:=l9 ((jZ l).trans (p.trans (jZ m).symm)) (l6 l) (l6 m)
theorem jT (l:List Str):(srt l).length=l.length:=(jZ l).length_eq
theorem oB:∀ (p:Str) (l:List Str),risingS p l=true→(p::l).Pairwise (fun a b=>leS a b=true)
 | p,[],_=>List.pairwise_singleton _ _
 | p,x::r,h=>by
  have h:(!eJ x.cps.toList p.cps.toList && risingS x r)=true:=h
  rw [dB] at h
  have ih:=oB x r h.2
  refine cG.mpr ⟨fun z hz=>?_,ih⟩
  rcases ai.mp hz with rfl | hz
  ·exact h.1
  ·exact vt (show leS p x=true from h.1) ((cG.mp ih).1 z hz)
theorem qX:∀ (l:List Str),sortedS l=true→l.Pairwise (fun a b=>leS a b=true)
 | [],_=>.nil
 | x::r,h=>oB x r h
theorem Cy {l m:List Str} (p:l.Perm m) (h:sortedS l=true):l=srt m:=l9 (p.trans (jZ m).symm) (qX l h) (l6 m)
theorem sS:∀ {ss:List Str}{us:List ah},Vals (ss.map V.str) us→StrsAre us ss
 | [],_,.nil=>.nil
 | x::ss,_,.cons ⟨t,e⟩ r=>by subst e;exact .cons x t (sS r)
theorem wz:∀ {ss:List Str}{us:List ah},StrsAre us ss→Vals (ss.map V.str) us
 | _,_,.nil=>.nil
 | _,_,.cons x t r=>.cons ⟨t,rfl⟩ (wz r)
theorem ze:∀ (xs:List V) (us:List ah),xs.length=us.length→(∀ (j:Nat) x u,xs[j]?=some x→us[j]?=some u→RelV x u)→Vals xs us
 | [],[],_,_=>.nil
 | [],_::_,e,_=>by cases e
 | _::_,[],e,_=>by cases e
 | x::xs,u::us,e,h=>.cons (h 0 x u rfl rfl) (ze xs us (Nat.succ.inj e) fun j y v e1 e2=>h (j+1) y v (by simpa using e1) (by simpa using e2))
theorem call_sortedL:CallR X (.builtin "sorted") (fun xs H Q=>∃ p ss,xs=[.ref p]∧SqL X.K H p (ss.map V.str)∧ss.length < 64∧∀ l,H l=none→Q (.ref l) (upd H l (.lst ((srt ss).map V.str)))):=by
 intro pins s σ H xs us Q I r h
 obtain ⟨p,ss,rfl,hq,hz,q⟩:=h
 obtain ⟨u,rfl,ru⟩:=nr r
 cases ru
 obtain ⟨its,rv,pl,hz2⟩:=I.list hq
 have hS:=sS rv
 have hl:its.length=ss.length:=by have:=rv.length;rw [af] at this;exact this.symm
 refine sorted_strs pl.isList hS (by omega) fun out ss' h1 h2 h3=>?_
 have e:=Cy h2 h3
 subst e
 obtain ⟨ep,hat⟩:=sortedAll_at s.heap its out
 have hf:H (s.heap.objs.size+1)=none:=I.hok.fresh (gp _)
 refine ⟨.ref _,_,I.laid (t':=s.toks) (fun b o e=>sortedAll_old e) (gp _) (o:=.lst ((srt ss).map V.str)) ?_,rfl,q _ hf⟩
 refine ⟨?_,out.toList,ep,wz h1,?_⟩
 ·rw [af,jT]
  exact aJ (d9 hz) (by decide)
 ·rw [hat]
theorem mL (hc:X.calm=true):CallR X (.builtin "sorted") (fun xs H Q=>∃ p kvs ss,xs=[.ref p]∧Rd H p (.dK kvs)∧kvs.map (·.1)=ss.map am∧ss.length < 64∧∀ l,H l=none→Q (.ref l) (upd H l (.lst ((srt ss).map V.str)))):=by
 intro pins s σ H xs us Q I r h
 obtain ⟨p,kvs,ss,rfl,hq,hk,hz,q⟩:=h
 obtain ⟨u,rfl,ru⟩:=nr r
 cases ru
 obtain ⟨z,hsys,vs,rel,dd⟩:=qS I.hok hq
 obtain ⟨ep,hat⟩:=dd.dictAt
 have hlen:vs.length=ss.length:=by
  have e1:=rel.length
  have e2:=congrArg cL hk
  rw [af,af] at e2
  omega
 refine Calls.call_function_entry kind_sorted plain_sorted entry_sorted (args_sorted1 _) ?_
 unfold Builtin.«sorted»
 refine av (m:=checkCount "sorted" 1 1 _) (aS ?_)
 refine av (PySem.W.kdu_collect (A:=X.A.in1) (PySem.W.kdl_dict (knd:=ko X.prog X.w) (kvs:=vs) (ep:=ep) hsys) (I.ok.hd hc) hat (aJ (by omega) (show 64≤aI by decide)) fun h' tk acc hkp hacc=>?_)
 have hl:acc.toList.length=vs.length:=by rw [eV];exact hacc.1
 have hS:StrsAre acc.toList ss:=by
  refine sS (ze _ _ (by rw [af,hl,hlen]) fun j x u e1 e2=>?_)
  obtain ⟨k,y,e3,e4⟩:=hacc.2 j u (by rw [← Array.getElem?_toList];exact e2)
  have e5:(vs.map (·.1))[j]?=some k:=by rw [bo,e3];rfl
  rw [← rel.keys,hk,bo] at e5
  rw [bo] at e1
  cases e6:ss[j]? with
  | none=>rw [e6] at e1;cases e1
  | some z =>
   rw [e6] at e1 e5
   have e1:V.str z=x:=aU e1
   have e5:am z=k:=aU e5
   subst e1 e5
   rcases kh (k:=am z) (v:=u) e4 with ⟨i,t,q1,_⟩ | ⟨y',t,q1,q2⟩
   ·cases q1
   ·cases q1
    exact ⟨t,q2⟩
 refine av (wpAny_newList ?_ (by rw [hl];exact aJ (by omega) (show 64≤aI by decide)))
 have hoL:(h'.push (seqObj "list" acc.toList.toArray 0)).get? h'.objs.size=some (seqObj "list" acc.toList.toArray 0):=bj _ rfl
 refine av (dR (wpAny_call_entry slot_list_sort ⟨_,hoL,rfl⟩ entry_list_sort (list_sort_treeK strKind_oneLt hoL hS.keysOf (fun v₁ v₂ mH e=>keyKind_strs (by rw [← e];exact hS)) (by omega) fun st' a1 a2=>⟨_,rfl,?_⟩) (args_list_sort _)))
 refine aS ⟨_,rfl,?_⟩
 obtain ⟨ss',h1,h2,h3⟩:=sorted_out_str hS a1 a2
 have e:=Cy h2 h3
 subst e
 have I1:Inv X pins σ H { s with heap:=h',toks:=tk }:=I.kept hkp
 obtain ⟨e',hat'⟩:=sortedHeap_at (out:=(arrOf st').map (·.2)) hoL
 have hf:H h'.objs.size=none:=I1.hok.fresh (az _)
 refine ⟨.ref _,_,I1.laid (t':=tk) (fun b o e=>?_) (az _) (o:=.lst ((srt ss).map V.str)) ?_,rfl,q _ hf⟩
 ·have hlt:b < h'.objs.size:=aK e
  refine (sortedHeap_old (aQ hlt) (by rw [size_push'];exact fD hlt)).trans ?_
  exact ay _ e
 ·refine ⟨?_,((arrOf st').map (·.2)).toList,e',wz h1,?_⟩
  ·rw [af,jT]
   exact aJ (d9 hz) (by decide)
  ·exact hat'
end
def Its (x:Str):It:=⟨fun i _=>i < x.cps.size,fun i H v H'=>H'=H∧∃ c,x.cps[i]?=some c∧v=.str ⟨#[c]⟩,fun i _=>x.cps.size≤i⟩
theorem uZ {P:aT}{w:bv}{A:bL} (hh:A.handled=none) (it:ae) (x:Str) (t:Tok):Walks P w A it [it] [it] x.cps.size (SignAt x) (fun i h=>h.IsStrIter it (gJ x) x t i):=by
 unfold gJ
 split
 ·exact Walks.strAscii hh it x t
 ·exact Walks.strWide hh it x t
theorem AM {P:aT}{w:bv}{K:aa}{tg:a8} (it:ae) (x:Str) (t:Tok):Turn P w K tg (Its x) [it] it (fun i h=>i≤x.cps.size∧h.IsStrIter it (gJ x) x t i) where
 mem:=by simp
 obj:=fun i h st b hb=>by
  have e:b=it:=by simpa using hb
  subst e
  obtain ⟨_,o,e,c,d⟩:=st
  exact ⟨o,e,fun v z=>by rw [d] at z;cases z⟩
 keep:=fun i h h' st k=>by
  obtain ⟨z,o,e,c,d⟩:=st
  exact ⟨z,o,k it (by simp) o e,c,d⟩
 item:=by
  intro X hP hw hK hc i pins s σ H E I hf st hg
  subst hP hw hK
  obtain ⟨f0,f1,f2,f3,f4,f5⟩:=hf it (by simp)
  refine (uZ (I.ok.hd hc) it x t).item i s _ _ hg st.2 fun v h' tk hv st' kk=>?_
  obtain ⟨c,u,e1,e2⟩:=hv
  subst e2
  have I1:Inv X pins σ H { s with heap:=h',toks:=tk }:=I.turned (fun b o hb e=>kk b o (by simpa using hb) e) f0 f1 f3 f4 f5
  obtain ⟨o,e,cl,d⟩:=id st'
  refine ⟨_,rfl,yL (s:={ s with heap:=h',toks:=tk }) e cl d ?_ ⟨.str ⟨#[c]⟩,H,I1,⟨u,rfl⟩,⟨rfl,c,e1,rfl⟩,⟨hg,st'⟩,fun b hb=>(hf b hb).1⟩⟩
  unfold gJ
  split <;> decide
 done:=by
  intro X hP hw hK hc i pins s σ H E I hf st hg
  subst hP hw hK
  obtain ⟨f0,f1,f2,f3,f4,f5⟩:=hf it (by simp)
  have e:i=x.cps.size:=iu st.1 hg
  subst e
  exact (uZ (I.ok.hd hc) it x t).done s _ _ st.2 fun h' tk kk=>⟨rfl,I.turned (fun b o hb e=>kk b o (by simpa using hb) e) f0 f1 f3 f4 f5⟩
 self:=fun A i s Q E st h=>by
  obtain ⟨_,st⟩:=st
  unfold gJ at st
  split at st
  ·exact wpAny_pyIter_striter_ascii st h
  ·exact wpAny_pyIter_striter_wide st h
section
variable {X:Cx}{tg:a8}
def iStr (tl:TE):TI:=fun σ H R=>tl σ H fun v H1=>∃ x,v=.str x∧R (Its x) H1
theorem E9 {l:a8}{tl:TE} (hl:PE X l tl):PI X tg l (iStr tl):=by
 intro pins s σ H R I h
 refine thn (hl pins s σ H _ I h) fun v s1 ⟨y,H1,I1,r1,q1⟩=>?_
 obtain ⟨x,e,q⟩:=q1
 subst e
 obtain ⟨t,rfl⟩:=r1
 refine wpAny_pyIter_strU ?_
 refine ⟨s1.heap.objs.size,[s1.heap.objs.size],_,_,H1,rfl,I1.kept (t':=s1.toks) fun b o e=>ay _ e,AM _ x t,⟨bc _,_,bj _ rfl,rfl,rfl⟩,fun b hb=>?_,q⟩
 have e:b=s1.heap.objs.size:=by simpa using hb
 subst e
 exact I1.fpOk (az _) (I1.hok.fresh (az _))
end
section
variable {X:Cx}{pins:List (ae×Obj)}{σ:St}{H:Hp}{s:ao}{d:ae}{kvs:List (Key×V)}{ob:Obj}
theorem Inv.redo {u u':HO} (I:Inv X pins σ H s) (hd:H d=some u) (n1:∀ y,u≠.own y) (n2:∀ xs,u≠.tup xs) (n3:∀ o v,X.H₀ d≠some (.frz o v)) (n4:∀ ps,u≠.tbl ps) (ok:ObjOk X.prog X.w (upd H d u') s.heap d u'):Inv X pins σ (upd H d u') s:=by
 have ne:∀ b v,H b=some v→v≠u→b≠d:=fun b v e hv z=>by
  subst z
  rw [hd] at e
  exact hv (aU e).symm
 have nn:∀ b,H b=none→b≠d:=fun b e z=>by
  subst z
  rw [hd] at e
  cases e
 refine ⟨I.ok,I.os,I.bare,⟨I.base.keep,I.base.slot,fun b o e z hx=>?_,I.base.there,fun b xs e=>?_,fun b o v e=>?_,fun b ps e=>?_⟩,I.loc,I.cell,?_,fun y c e=>?_,fun p hp=>?_,fun b v e=>?_,I.len⟩
 ·have:=I.base.free b o e z hx
  rw [jJ (nn b this)]
  exact this
 ·have:=I.base.tups b xs e
  rw [jJ (ne b _ this fun z=>n2 xs z.symm)]
  exact this
 ·have:=I.base.frzs b o v e
  have hb:b≠d:=fun z=>by subst z;exact n3 o v e
  rw [jJ hb]
  exact this
 ·obtain ⟨m,e1⟩:=I.base.tbls b ps e
  exact ⟨m,by rw [jJ (ne b _ e1 fun z=>n4 _ z.symm)];exact e1⟩
 ·rw [jJ (nn _ I.free)]
  exact I.free
 ·rw [jJ (nn _ (I.freeC y c e))]
  exact I.freeC y c e
 ·obtain ⟨e1,z1,r1⟩:=I.pin p hp
  exact ⟨e1,by rw [jJ (nn _ z1)];exact z1,r1⟩
 ·by_cases hb:b=d
  ·subst hb
   rw [jK] at e
   cases e
   exact ok
  ·rw [jJ hb] at e
   exact (I.hok b v e).stay (fun c v _ q=>q) (fun c q=>by rw [jJ (ne c _ q fun z=>n1 _ z.symm)];exact q) fun c xs q=>by rw [jJ (ne c _ q fun z=>n2 _ z.symm)];exact q
theorem EK {P:aT}{w:bv}{H H':Hp}{h:bM} (x:ObjOk P w H h d (.dK kvs)):ObjOk P w H' h d (.dK kvs):=x
theorem Inv.freeze (I:Inv X pins σ H s) (hd:H d=some (.dK kvs)) (ho:s.heap.get? d=some ob):Inv X pins σ (upd H d (.frz ob (.dK kvs))) s :=
 I.redo hd (by intro y z;cases z) (by intro y z;cases z) (fun o v z=>by rw [I.base.frzs d o v z] at hd;cases hd) (by intro y z;cases z) ⟨ho,EK (I.hok d _ hd)⟩
theorem Inv.thaw (I:Inv X pins σ H s) (hd:H d=some (.frz ob (.dK kvs))) (n3:∀ o v,X.H₀ d≠some (.frz o v)):Inv X pins σ (upd H d (.dK kvs)) s :=
 I.redo hd (by intro y z;cases z) (by intro y z;cases z) n3 (by intro y z;cases z) (EK (show ObjOk X.prog X.w H s.heap d (.frz ob (.dK kvs)) from I.hok d _ hd).2)
end
def Itd (d:ae) (ob:Obj) (kvs:List (Key×V)):It :=
 ⟨fun i H=>i < kvs.length∧H d=some (.frz ob (.dK kvs)),fun i H v H'=>H'=H∧∃ kv,kvs[i]?=some kv∧v=kV kv.1,fun i H=>kvs.length≤i∧H d=some (.frz ob (.dK kvs))⟩
theorem CA {X:Cx}{pins:List (ae×Obj)}{σ:St}{H:Hp}{s:ao}{d:ae}{kvs:List (Key×V)}{ob:Obj}{es0:Array DictEntry}{ep:Nat} (I:Inv X pins σ H s) (hd:H d=some (.frz ob (.dK kvs))) (he:ob.data=.dict es0 ep) :
  ∃ vs,KV kvs vs∧s.heap.DictAt (ko X.prog X.w) d vs ep:=by
 obtain ⟨e,z,_,vs,rel,dd⟩:=(show ObjOk X.prog X.w H s.heap d (.frz ob (.dK kvs)) from I.hok d _ hd)
 obtain ⟨ep',o,es,e1,e2,e3,e4⟩:=dd.dictAt
 rw [e] at e1
 cases e1
 rw [he] at e3
 cases e3
 exact ⟨vs,rel,ob,_,e,e2,he,e4⟩
theorem vc {P:aT}{w:bv}{K:aa}{tg:a8} (d it:ae) (ob:Obj) (kvs:List (Key×V)) (es0:Array DictEntry) (ep:Nat) (he:ob.data=.dict es0 ep) :
  Turn P w K tg (Itd d ob kvs) [it] it (fun i h=>i≤kvs.length∧h.IsKeyIter it d i kvs.length ep) where
 mem:=by simp
 obj:=fun i h st b hb=>by
  have e:b=it:=by simpa using hb
  subst e
  obtain ⟨_,o,e,c,d⟩:=st
  exact ⟨o,e,fun v z=>by rw [d] at z;cases z⟩
 keep:=fun i h h' st k=>by
  obtain ⟨z,o,e,c,d⟩:=st
  exact ⟨z,o,k it (by simp) o e,c,d⟩
 item:=by
  intro X hP hw hK hc i pins s σ H E I hf st hg
  subst hP hw hK
  obtain ⟨f0,f1,f2,f3,f4,f5⟩:=hf it (by simp)
  obtain ⟨hi,hd⟩:=hg
  obtain ⟨vs,rel,at_⟩:=CA I hd he
  have hl:=rel.length
  have hiv:i < vs.length:=by omega
  have hit:s.heap.IsKeyIter it d i vs.length ep:=by rw [← hl];exact st.2
  refine wpAny_pyNext_dict_item (k:=vs[i].1) (v:=vs[i].2) hit at_ (by simp [hiv]) fun key h' hk it' sb=>?_
  have I1:Inv X pins σ H { s with heap:=h' }:=I.turned (t':=s.toks) (fun b o hb e=>(sb.2 b hb).trans e) f0 f1 f3 f4 f5
  have hkey:kvs[i].1=vs[i].1:=by
   have e1:(kvs.map (·.1))[i]?=(vs.map (·.1))[i]?:=by rw [rel.keys]
   rw [bo,bo,bu hi,bu hiv] at e1
   exact aU e1
  obtain ⟨o,e,cl,dt⟩:=id it'
  refine ⟨key,rfl,yL (s:={ s with heap:=h' }) e cl dt (by decide) ⟨kV kvs[i].1,H,I1,?_,⟨rfl,kvs[i],by simp [hi],rfl⟩,⟨hi,by rw [hl];exact it'⟩,fun b hb=>(hf b hb).1⟩⟩
  rw [hkey]
  have hk:uS vs[i].1 key=true:=hk
  rcases kh hk with ⟨z,t,q1,q2⟩ | ⟨z,t,q1,q2⟩
  ·rw [q1,q2];exact ⟨t,rfl⟩
  ·rw [q1,q2];exact ⟨t,rfl⟩
 done:=by
  intro X hP hw hK hc i pins s σ H E I hf st hg
  subst hP hw hK
  obtain ⟨f0,f1,f2,f3,f4,f5⟩:=hf it (by simp)
  obtain ⟨hi,hd⟩:=hg
  obtain ⟨vs,rel,at_⟩:=CA I hd he
  have hl:=rel.length
  have hit:s.heap.IsKeyIter it d i vs.length ep:=by rw [← hl];exact st.2
  exact wpAny_pyNext_dict_end (I.ok.hd hc) hit at_ (by simp;omega) fun h' eb=>⟨rfl,I.turned (t':=s.toks) (fun b o hb e=>eb b o hb e) f0 f1 f3 f4 f5⟩
 self:=fun A i s Q E st h=>by
  exact wpAny_pyIter_keyiter st.2 h
section
variable {X:Cx}{tg:a8}
def Nm (x:Str):Prop:=x.length≤100∧∀ c∈x.cps.toList,c < 16 ^ 8
theorem vn:OpR X (ci .LtE) (fun x y H Q=>∃ i j,x=.str i∧y=.str j∧Q (.bl (!decide (j.cps.toList < i.cps.toList))) H):=by
 intro pins s σ H x y v u Q I rx ry h
 obtain ⟨i,j,rfl,rfl,q⟩:=h
 obtain ⟨t,rfl⟩:=rx
 obtain ⟨t',rfl⟩:=ry
 exact PySem.P.le_str ⟨.bl _,H,I,rfl,q⟩
theorem Dw:MtR X "str.join" (fun x vs H Q=>∃ (z:Str) (p:ae) (ys:List Str),x=.str z∧vs=[.ref p]∧SqL X.K H p (ys.map V.str)∧(ys.map (·.length)).sum+ys.length * z.length≤16777216∧Q (.str (b9 z ys)) H):=by
 intro pins s σ H x vs v us Q I rx rv h
 obtain ⟨z,p,ys,rfl,rfl,hq,hz,q⟩:=h
 obtain ⟨t,rfl⟩:=rx
 obtain ⟨u,rfl,ru⟩:=rv.one
 cases ru
 obtain ⟨its,r,pl,hz2⟩:=I.list hq
 exact join_list pl.isList (by simpa using sS r) hz fun t' k=>⟨.str _,H,I.tok k,⟨t',rfl⟩,q⟩
theorem ye:CallR X (.builtin "all") (fun xs H Q=>∃ (p:ae) (bs:List Bool),xs=[.ref p]∧SqL X.K H p (bs.map V.bl)∧X.calm=true∧Q (.bl (bs.all id)) H):=by
 intro pins s σ H xs us Q I r h
 obtain ⟨p,bs,rfl,hq,hc,q⟩:=h
 obtain ⟨u,rfl,ru⟩:=nr r
 cases ru
 obtain ⟨its,rv,pl,hz2⟩:=I.list hq
 have hl:its.length=bs.length:=by have:=rv.length;rw [af] at this;exact this.symm
 have hne:p≠s.heap.objs.size:=by obtain ⟨o,ho,_⟩:=pl.isList;exact aQ (aK ho)
 refine call_all_walk (fR pl.isList ?_)
 refine ⟨s.heap.objs.size,_,_,its.toArray.size,_,_,fun i=>(bs[i]?).getD true,rfl,Walks.list (show X.A.in1.handled=none from I.ok.hd hc) _ p hne its.toArray,⟨⟨_,bj _ rfl,rfl,rfl⟩,pl.isList.push _⟩,?_,fun h' tk hk=>?_⟩
 ·intro i v s' Q' E' hP hQ
  have hP:its.toArray[i]?=some v:=hP
  have hv:its[i]?=some v:=by simpa using hP
  have hi:i < its.length:=(a9.mp hv).1
  obtain ⟨u',hu',ru'⟩:=rv.get (i:=i) (x:=.bl bs[i]) (by simp [← hl,hi])
  rw [hv] at hu'
  cases hu'
  cases ru'
  refine cO ?_
  have e:(bs[i]?).getD true=bs[i]:=by simp [← hl,hi]
  rw [← e]
  exact hQ
 ·have I1:Inv X pins σ H { s with heap:=h',toks:=tk }:=I.kept fun b o e=>hk b o (fun z=>by
   have e1:b=s.heap.objs.size:=by simpa using z
   exact absurd (aK e) (by rw [e1];exact cC _)) (ay _ e)
  refine ⟨.bl _,H,I1,rfl,?_⟩
  have e:(eC its.toArray.size).all (fun i=>(bs[i]?).getD true)=bs.all id:=by
   rw [aM,hl,b5,cE,cE]
   constructor
   ·intro z b hb
    obtain ⟨i,hi,rfl⟩:=jl.mp hb
    have:=z i (dX.mpr hi)
    simpa [hi] using this
   ·intro z i hi
    have hi:=dX.mp hi
    simpa [hi] using z bs[i] (cj hi)
  rw [e]
  exact q
def DQ:List V→List V→Bool
 | [],[]=>true
 | x::xs,y::ys=>eqV x y && DQ xs ys
 | _,_=>false
theorem xV:∀ {xs ys:List V},xs.length=ys.length→DQ xs ys=(eC xs.length).all fun i=>eqV ((xs[i]?).getD .non) ((ys[i]?).getD .non)
 | [],[],_=>rfl
 | [],_::_,h=>by cases h
 | _::_,[],h=>by cases h
 | x::xs,y::ys,h=>by
  show (eqV x y && DQ xs ys)=_
  rw [xV (Nat.succ.inj h),aC,i4,List.all_cons,List.all_map]
  rfl
theorem yJ {A:bL}{s:ao}{xs ys:List V}{us ws:List ah} (rx:Vals xs us) (ry:Vals ys ws) (hl:xs.length=ys.length) (fx:xs.all wQ=true) (fy:ys.all wQ=true) :
  ∀ j (h1:j < us.toArray.size) (h2:j < ws.toArray.size),SeqAt.EqAt A s us.toArray[j] ws.toArray[j] (eqV ((xs[j]?).getD .non) ((ys[j]?).getD .non)):=by
 intro j h1 h2
 have e1:=rx.length
 have e2:=ry.length
 have h1':j < xs.length:=by rw [e1];simpa using h1
 have h2':j < ys.length:=by rw [e2];simpa using h2
 obtain ⟨u,hu,ru⟩:=rx.get (i:=j) (x:=xs[j]) (by simp [h1'])
 obtain ⟨w,hw,rw'⟩:=ry.get (i:=j) (x:=ys[j]) (by simp [h2'])
 have e3:us.toArray[j]=u:=by
  have:us[j]?=some us.toArray[j]:=by simp [show j < us.length by simpa using h1]
  rw [hu] at this
  exact (aU this).symm
 have e4:ws.toArray[j]=w:=by
  have:ws[j]?=some ws.toArray[j]:=by simp [show j < ws.length by simpa using h2]
  rw [hw] at this
  exact (aU this).symm
 rw [e3,e4]
 have e5:(xs[j]?).getD .non=xs[j]:=by simp [h1']
 have e6:(ys[j]?).getD .non=ys[j]:=by simp [h2']
 rw [e5,e6]
 exact FE ru rw' (cE.mp fx _ (cj h1')) (cE.mp fy _ (cj h2'))
def gLst (K:aa) (n:Nat) (t:TGs):TG:=fun v σ H Q=>∃ a xs,v=.ref a∧SqL K H a xs∧xs.length=n∧t xs σ H Q
theorem Fc {es:List a8}{k:Nat}{t:TGs}{n:Nat}{pos:Pos} (hc:X.calm=true) (h:PGs X es t)
  (hn:(cn es X.env).length=n:=by rfl) (hst:(cn es X.env).findIdx? (·.1)=none:=by rfl):PG X (.Tuple es k pos) (gLst X.K n t):=by
 intro pins s σ H v u Q I r hw
 obtain ⟨a,xs,e1,hq,hl,hw⟩:=hw
 subst e1
 cases r
 obtain ⟨its,rv,ht,hz⟩:=I.list hq
 rw [assign_Tuple]
 refine av (fV ?_)
 unfold unpack
 have hsz:(cn es X.env).length=its.toArray.size:=by simp [hn,← hl,rv.length]
 rw [hsz,hst]
 refine av (dR (PySem.W.kun_itemsOf (I.ok.hd hc) ht.isList fun h' hx=>?_))
 have I1:Inv X pins σ H { s with heap:=h' }:=I.kept (t':=s.toks) fun b o e=>hx b o (aQ (aK e)) e
 exact h pins _ σ H xs _ Q I1 (by simpa using rv) hw
def PJ (X:Cx) (es:List a8) (t:St→Hp→(Hp→Prop)→Prop):Prop:=∀ (pins:List (ae×Obj)) (s:ao) (σ:St) (H:Hp) (acc:Str) (n:Nat) (Q:Hp→Prop),Inv X pins σ H s→acc.length≤2000 * n→n+es.length≤100→t σ H Q →
 Joins (model X.prog X.w) X.A X.xe (i6 es X.env) acc (fun out s1=>out.length≤aI∧∃ H',Inv X pins σ H' s1∧Q H') s
def jNil:St→Hp→(Hp→Prop)→Prop:=fun _ H Q=>Q H
def jRep (te:TE) (t:St→Hp→(Hp→Prop)→Prop):St→Hp→(Hp→Prop)→Prop:=fun σ H Q=>te σ H fun v H1=>(∃ x,v=.str x∧Nm x)∧t σ H1 Q
theorem ur:PJ X [] jNil:=fun pins s σ H acc n Q I h1 h2 h=>⟨aJ h1 (aJ (gE 2000 (show n≤100 by simpa using h2)) (by decide)),H,I,h⟩
theorem kC (a b:Str):(a++b).length=a.length+b.length:=strLen_append a b
theorem uq {c:Str}{j pos}{es:List a8}{t:St→Hp→(Hp→Prop)→Prop} (hr:PJ X es t) (hl:c.length≤2000:=by decide):PJ X (.Constant (.str c) j pos::es) t:=by
 intro pins s σ H acc n Q I h1 h2 h
 have h2:n+(es.length+1)≤100:=h2
 refine gB ⟨c,s.toks,rfl,?_,hr pins _ σ H (acc++c) (n+1) Q (I.tok _) ?_ (by omega) h⟩
 ·rw [kC]
  exact aJ (show acc.length+c.length≤2000 * 101 by omega) (by decide)
 ·rw [kC]
  omega
theorem sC {e:a8}{pos:Pos}{es:List a8}{te:TE}{t:St→Hp→(Hp→Prop)→Prop} (he:PE X e te) (hr:PJ X es t):PJ X (.FormattedValue e 114 none pos::es) (jRep te t):=by
 intro pins s σ H acc n Q I h1 h2 h
 have h2:n+(es.length+1)≤100:=h2
 refine wpAny_FormattedValue_repr (thn (he pins s σ H _ I h) fun v s1 ⟨y,H1,I1,r1,⟨x,e1,nm⟩,q1⟩=>?_)
 subst e1
 obtain ⟨tk,rfl⟩:=r1
 have hlen:(gf x).length≤1002:=aJ (PySem.StrLaws.reprText_len x nm.2) (by have:=nm.1;omega)
 have hsz:(gf x).length≤aI:=aJ hlen (by decide)
 have fin:∀ tk s2,Inv X pins σ H1 s2→∃ y t',fI (gf x) tk=.str y t'∧(acc++y).length≤aI∧Joins (model X.prog X.w) X.A X.xe (i6 es X.env) (acc++y) (fun out s1=>out.length≤aI∧∃ H',Inv X pins σ H' s1∧Q H') s2:=fun tk s2 I2=>by
  refine ⟨_,tk,rfl,?_,hr pins s2 σ H1 _ (n+1) Q I2 ?_ (by omega) q1⟩
  ·rw [kC]
   exact aJ (show acc.length+(gf x).length≤2000 * 101 by omega) (by decide)
  ·rw [kC]
   omega
 refine wpAny_pyReprObj_str ?_ hsz
 exact wpAny_formatField_str (fin _ _ (I1.tok _)) (fin _ _ ((I1.tok _).tok _)) hsz
def tFs (t:St→Hp→(Hp→Prop)→Prop):TE:=fun σ H Q=>t σ H fun H1=>∀ x,Q (.str x) H1
theorem yx {v₁ v₂:a8}{mH:List a8}{pos:Pos}{t:St→Hp→(Hp→Prop)→Prop} (h:PJ X (v₁::v₂::mH) t) (hl:(v₁::v₂::mH).length≤100:=by decide):PE X (.JoinedStr (v₁::v₂::mH) pos) (tFs t):=by
 intro pins s σ H Q I hq
 refine wpAny_JoinedStr ?_
 have:=h pins s σ H cU 0 (fun H1=>∀ x,Q (.str x) H1) I (bc _) (by omega) hq
 revert this
 generalize i6 (v₁::v₂::mH) X.env=parts
 generalize cU=acc
 intro this
 clear h hl hq I
 induction parts generalizing acc s with
 | nil =>
  obtain ⟨z,H',I',q⟩:=this
  exact ⟨z,.str acc,H',I'.tok _,⟨_,rfl⟩,q acc⟩
 | cons p ps ih =>
  refine bw this (fun v s1 ⟨y,t,e,z,k⟩=>⟨y,t,e,z,ih _ _ k⟩) fun _ _ z=>z
end
def Fn (P:aT) (w:bv) (K:aa) (mg:Str→Option ah) (base:bM) (x:Str) (k:Nat) (ps:List Str) (sp:Sp):Prop :=
 ∃ f fd,FnOk P w K mg base (CXo P w) k f fd ps sp∧mg x=some (.ref f)∧aB K (.ref f)=true∧Binds K fd ps []
def Mt (P:aT) (w:bv) (K:aa) (mg:Str→Option ah) (base:bM) (C:ae) (m:Str) (k:Nat) (ps:List Str) (sp:Sp):Prop :=
 ∃ f fd,FnOk P w K mg base (CXo P w) k f fd ps sp∧Meth K C m f∧Cls K C∧Binds K fd ps []
def MkB (P:aT) (w:bv) (K:aa) (mg:Str→Option ah) (base:bM) (x:Str) (C:ae) (k:Nat) (ps:List Str) (sp:Sp):Prop :=
 ∃ f fd,FnOk P w K mg base (CXo P w) k f fd ps sp∧mg x=some (.ref C)∧Mk K C f∧Binds K fd ps []
section
variable {X:Cx}{k:Nat}{C:ae}{ps:List Str}{sp:Sp}{E:XK}{x m:Str}{p pos apos:Pos}{e o:a8}{es:List a8}{ta:TE}{t:TA}
theorem ql (F:Fn X.prog X.w X.K X.mg X.base x k ps sp) (hr:Room k X.A) (hg:Gl X x) (hx:lv (CXo X.prog X.w) X E) (ha:PA X (e::es) t) (hdb:(x == ("__debug__":Str))=false:=by decide)
  (he:aR (e::es) X.env=(false,eval e X.env)::aR es X.env:=by rfl) (hpl:(ck pos (aR es X.env)).any (·.1)=false:=by rfl):PE X (.Call (.Name x p) (e::es) [] pos) (CJ sp [] E t):=by
 obtain ⟨f,fd,F,hm,hk,hb⟩:=F
 exact Dc F hr hg hm hk hb .nil hx ha hdb he hpl
theorem ny {pl:Sem Bool} (he:PE X o ta) (M:Mt X.prog X.w X.K X.mg X.base C m k ps sp) (hr:Room k X.A) (hx:lv (CXo X.prog X.w) X E) (ha:PA X (e::es) t)
  (hst:aR (e::es) X.env=(false,eval e X.env)::aR es X.env:=by rfl) (hpl:(ck pos (aR es X.env)).any (·.1)=false:=by rfl)
  (ht:eval (.Call (.Attribute o m apos) (e::es) [] pos) X.env=(do
   let ov ← eval o X.env
   fS apos.atName
   let (f,first) ← holding [ov] (fA ov m pl)
   il pos f first (ck pos (aR (e::es) X.env)) (eI pos (cQ [] X.env))):=by rfl):PE X (.Call (.Attribute o m apos) (e::es) [] pos) (Az C m sp [] E ta t):=by
 obtain ⟨f,fd,F,hm,c,hb⟩:=M
 exact Db (pl:=pl) he c hm F hr hb .nil hx ha hst hpl ht
theorem Cp {pl:Sem Bool} (he:PE X o ta) (M:Mt X.prog X.w X.K X.mg X.base C m k ps sp) (hr:Room k X.A) (hx:lv (CXo X.prog X.w) X E)
  (ht:eval (.Call (.Attribute o m apos) [] [] pos) X.env=(do
   let ov ← eval o X.env
   fS apos.atName
   let (f,first) ← holding [ov] (fA ov m pl)
   il pos f first (ck pos (aR [] X.env)) (eI pos (cQ [] X.env))):=by rfl):PE X (.Call (.Attribute o m apos) [] [] pos) (Az C m sp [] E ta Cc):=by
 obtain ⟨f,fd,F,hm,c,hb⟩:=M
 exact Bg (pl:=pl) he c hm F hr hb .nil hx ht
theorem Cq (M:MkB X.prog X.w X.K X.mg X.base x C k ps sp) (hr:Room (k+1) X.A) (hg:Gl X x) (hx:lv (CXo X.prog X.w) X E) (hdb:(x == ("__debug__":Str))=false:=by decide):PE X (.Call (.Name x p) [] [] pos) (Eg C sp [] E Cc):=by
 obtain ⟨f,fd,F,hm,mk,hb⟩:=M
 exact Bh mk F hr hg hm hb .nil hx hdb
theorem oi:OpR X (cR .FloorDiv) (rI (fun _ j=>0 < j∧j.natAbs.log2 < 9000) fun i j=>.int (i / j)):=opI fun i j _ _ _ _ _ hc q=>by
 have h1:(0:Int) < j:=hc.1
 exact floordiv_int (by omega) (by rw [Int.fdiv_eq_ediv_of_nonneg i (by omega)];exact q) (.inl (PyProof.noPylong_of_log2 hc.2))
end
section
variable {P:aT}{w:bv}{K:aa}{mg:Str→Option ah}{base:bM}
theorem Fun.okN {x qual:Str}{st:bT}{f:ae}{fd:bR}{N ps:List Str}{k:Nat}{sp:Sp} (F:Fun K x qual st f fd) (S:FnScope N ps (jO st)) (len:∀ vs H Q E,sp vs H Q E→vs.length=ps.length)
  (hbody:∀ (cdv:ah) (A:bL) (outer:List Env) (s:ao) (H:Hp) (vs:List V) (Q:VK) (E:XK),Room k (A.deeper (dN qual (jO st) s.heap.objs.size f cdv))→sp vs H Q E →
   ∃ t,PSs (xZ (CXo P w) P w K mg base N qual (jO st) f cdv A outer s H E).nox (nj st) t∧t { nx:=fun _ H'=>Q .non H',rt:=Q } (start N vs) H):FnOk P w K mg base (CXo P w) (k+1) f fd ps sp:=by
 obtain ⟨oc,od,kV,doc,pm,an,cdv,ct,osl,rfl,lk,hcd⟩:=F.ex
 refine EF lk hcd S len fun A outer s H vs Q E hr hsp=>?_
 obtain ⟨t,h,q⟩:=hbody cdv A outer s H vs Q E hr hsp
 exact ⟨t,h.nox,q⟩
theorem Fun.okX {x qual:Str}{st:bT}{f:ae}{fd:bR}{N ps:List Str}{k:Nat}{sp:Sp} (F:Fun K x qual st f fd) (S:FnScope N ps (jO st)) (len:∀ vs H Q E,sp vs H Q E→vs.length=ps.length)
  (hbody:∀ (cdv:ah) (A:bL) (outer:List Env) (s:ao) (H:Hp) (vs:List V) (Q:VK) (E:XK),Room k (A.deeper (dN qual (jO st) s.heap.objs.size f cdv))→sp vs H Q E →
   ∃ t,PSs (xZ (CXo P w) P w K mg base N qual (jO st) f cdv A outer s H E) (nj st) t∧t { nx:=fun _ H'=>Q .non H',rt:=Q } (start N vs) H):FnOk P w K mg base (CXo P w) (k+1) f fd ps sp:=by
 obtain ⟨oc,od,kV,doc,pm,an,cdv,ct,osl,rfl,lk,hcd⟩:=F.ex
 exact EF lk hcd S len fun A outer s H vs Q E hr hsp=>hbody cdv A outer s H vs Q E hr hsp
end
theorem zK {J:It}{tc:TT}{te:TE}{cap:St}{D:ae}{Q:VK}{H1:Hp} (n:Nat) (R:Nat→List V→Hp→Prop) (h0:R 0 [] (upd H1 D (.lst []))) (hn:n≤aI) (hD:∀ i ys H,R i ys H→H D=some (.lst ys))
  (hgo:∀ i ys H,i < n→R i ys H→J.go i H)
  (hstep:∀ i ys H x H',i < n→R i ys H→J.yld i H x H'→∀ (Kt:VK) (Kf:Hp→Prop),(∀ v H5,H5 D=some (.lst ys)→R (i+1) (ys++[v]) (upd H5 D (.lst (ys++[v])))→Kt v H5)→(∀ H4,R (i+1) ys H4→Kf H4) →
   tc (some x::cap) H' fun b H4=>if b=true then te (some x::cap) H4 Kt else Kf H4)
  (hend:∀ ys H,ys.length≤n→R n ys H→J.stop n H∧Q (.ref D) H) :
  yS J tc te cap D H1 Q:=by
 refine ⟨fun i m ys H=>i≤n∧m=n - i∧ys.length≤i∧R i ys H,⟨n,bc _,by simp,bc _,h0⟩,?_⟩
 rintro i m ys H2 ⟨hi,rfl,hl,r⟩
 by_cases hlt:i < n
 ·refine .inr ⟨hgo i ys H2 hlt r,fun x H3 y=>hstep i ys H2 x H3 hlt r y _ _ (fun v H5 e r'=>⟨e,by omega,n - (i+1),by omega,hlt,rfl,by rw [aO];simp;omega,r'⟩) fun H4 r'=>⟨n - (i+1),by omega,hlt,rfl,by omega,r'⟩⟩
 ·have e:i=n:=by omega
  subst e
  obtain ⟨h1,h2⟩:=hend ys H2 hl r
  exact .inl ⟨h1,hD i ys H2 r,h2⟩
theorem oT:bS "len"=some (.builtin "len"):=by decide +kernel
theorem uK:bS "isinstance"=some (.builtin "isinstance"):=by decide +kernel
theorem lA:bS "sorted"=some (.builtin "sorted"):=by decide +kernel
theorem FS:bS "abs"=some (.builtin "abs"):=by decide +kernel
theorem FR:bS "all"=some (.builtin "all"):=by decide +kernel
theorem FQ:bS "int"=some (.type "int"):=by decide +kernel
theorem qG:bS "str"=some (.type "str"):=by decide +kernel
end L2
namespace Fra
def Cop (a b:Int):Prop:=aL a b=1
def Low (q:Int×Int):Prop:=0 < q.2∧Cop q.1 q.2
def red (q:Int×Int):Int×Int:=(q.1 / (aL q.1 q.2:Int),q.2 / (aL q.1 q.2:Int))
theorem Cop.symm {a b:Int} (h:Cop a b):Cop b a:=by unfold Cop at *;rw [Int.gcd_comm];exact h
theorem nk {a a' b:Int} (d:a ∣ a') (h:Cop a' b):Cop a b:=Nat.Coprime.coprime_dvd_left (eE.mpr d) h
theorem tK {a b c:Int} (h1:Cop a c) (h2:Cop b c):Cop (a * b) c:=by
 unfold Cop aL at *
 rw [gs]
 exact Nat.Coprime.mul_left h1 h2
theorem zI {a b c:Int} (h:Cop a b) (d:a ∣ b * c):a ∣ c:=by
 have d':=eE.mpr d
 rw [gs] at d'
 exact eE.mp (Nat.Coprime.dvd_of_dvd_mul_left h d')
theorem zJ {a b k:Int} (h:Cop a b):Cop (a+k * b) b:=by
 unfold Cop at *
 have g1:(aL (a+k * b) b:Int) ∣ a+k * b:=eO ..
 have g2:(aL (a+k * b) b:Int) ∣ b:=cx ..
 have g3:(aL (a+k * b) b:Int) ∣ a:=by
  have:=Int.dvd_sub g1 (Int.dvd_trans g2 (Int.dvd_mul_left k b))
  have e:a+k * b - k * b=a:=by omega
  rw [e] at this
  exact this
 have g4:=Int.dvd_gcd g3 g2
 rw [h] at g4
 exact Nat.dvd_one.mp g4
theorem yI {p q:Int×Int} (hp:Low p) (hq:Low q) (h:p.1 * q.2=q.1 * p.2):p=q:=by
 obtain ⟨a,b⟩:=p
 obtain ⟨c,d⟩:=q
 obtain ⟨h1,h2⟩:=hp
 obtain ⟨h3,h4⟩:=hq
 simp only at h h1 h2 h3 h4
 have d1:b ∣ d:=zI h2.symm ⟨c,by rw [h];exact bH _ _⟩
 have d2:d ∣ b:=zI h4.symm ⟨a,by rw [← h];exact bH _ _⟩
 have e:b=d:=Int.dvd_antisymm (by omega) (by omega) d1 d2
 subst e
 have:a=c:=fg (by omega) h
 rw [this]
theorem oJ {q:Int×Int} (h:0 < q.2):Low (red q)∧(red q).1 * q.2=q.1 * (red q).2:=by
 obtain ⟨a,b⟩:=q
 simp only at h
 have hg:0 < aL a b:=bU _ (by omega)
 obtain ⟨u,hu⟩:(aL a b:Int) ∣ a:=eO ..
 obtain ⟨v,hv⟩:(aL a b:Int) ∣ b:=cx ..
 have eu:a / (aL a b:Int)=u:=iC (by omega) hu
 have ev:b / (aL a b:Int)=v:=iC (by omega) hv
 have hc:Cop u v:=by
  have e:aL ((aL a b:Int) * u) ((aL a b:Int) * v)=aL a b * aL u v:=by rw [hV];rfl
  rw [← hu,← hv] at e
  unfold Cop
  have:aL a b * aL u v=aL a b * 1:=by omega
  exact ft hg this
 have hv0:0 < v:=by
  by_cases z:0 < v
  ·exact z
  ·have:(aL a b:Int) * v≤0:=dQ (by omega) (by omega)
   omega
 unfold red
 simp only
 rw [eu,ev]
 refine ⟨⟨hv0,hc⟩,?_⟩
 show u * b=a * v
 have e1:u * b=u * ((aL a b:Int) * v):=by rw [← hv]
 have e2:a * v=(aL a b:Int) * u * v:=by rw [← hu]
 rw [e1,e2,bH (aL a b:Int) u,bg]
theorem E6 {p q:Int×Int} (hp:Low p) (hq:0 < q.2) (h:p.1 * q.2=q.1 * p.2):p=red q:=by
 obtain ⟨r1,r2⟩:=oJ hq
 refine yI hp r1 ?_
 have e:p.1 * (red q).2 * q.2=(red q).1 * p.2 * q.2:=by
  rw [dO,h,dO q.1,← r2,dO]
 exact fg (by omega) e
def addK (p q:Int×Int):Int×Int :=
 let d:Int:=aL p.2 q.2
 let t:=p.1 * (q.2 / d)+q.1 * (p.2 / d)
 let e:Int:=aL t d
 (t / e,p.2 / d * (q.2 / e))
def kT (p q:Int×Int):Int×Int:=red (p.1 * q.2+q.1 * p.2,p.2 * q.2)
theorem Ec {p q:Int×Int} (hp:Low p) (hq:Low q):addK p q=kT p q:=by
 obtain ⟨n1,b1⟩:=p
 obtain ⟨n2,b2⟩:=q
 obtain ⟨h1,h2⟩:=hp
 obtain ⟨h3,h4⟩:=hq
 simp only at h1 h2 h3 h4
 unfold addK kT
 simp only
 have hd:0 < aL b1 b2:=bU _ (by omega)
 obtain ⟨u,hu⟩:(aL b1 b2:Int) ∣ b1:=eO ..
 obtain ⟨v,hv⟩:(aL b1 b2:Int) ∣ b2:=cx ..
 have huv:Cop u v:=by
  have e:aL ((aL b1 b2:Int) * u) ((aL b1 b2:Int) * v)=aL b1 b2 * aL u v:=by rw [hV];rfl
  rw [← hu,← hv] at e
  have:aL b1 b2 * aL u v=aL b1 b2 * 1:=by omega
  exact ft hd this
 generalize hD:(aL b1 b2:Int)=d at *
 have d0:0 < d:=by omega
 subst hu
 subst hv
 rw [dL _ (by omega:d≠0),dL _ (by omega:d≠0)]
 have pos:∀ {x:Int},0 < d * x→0 < x:=fun {x} hx=>by
  by_cases z:0 < x
  ·exact z
  ·have:d * x≤0:=dQ (by omega) (by omega)
   omega
 have u0:=pos h1
 have v0:=pos h3
 have ct_u:Cop (n1 * v+n2 * u) u:=zJ (tK (nk (Int.dvd_refl _) (nk ⟨d,bH _ _⟩ h2.symm).symm) huv.symm)
 have ct_v:Cop (n1 * v+n2 * u) v:=by
  rw [Int.add_comm]
  exact zJ (tK (nk ⟨d,bH _ _⟩ h4.symm).symm huv)
 generalize hT:n1 * v+n2 * u=t at *
 have he:0 < aL t d:=bU _ (by omega)
 obtain ⟨t',ht⟩:(aL t d:Int) ∣ t:=eO ..
 obtain ⟨e',hE⟩:(aL t d:Int) ∣ d:=cx ..
 have cte:Cop t' e':=by
  have e:aL ((aL t d:Int) * t') ((aL t d:Int) * e')=aL t d * aL t' e':=by rw [hV];rfl
  rw [← ht,← hE] at e
  have:aL t d * aL t' e'=aL t d * 1:=by omega
  exact ft he this
 generalize hG:(aL t d:Int)=g at *
 have g0:0 < g:=by omega
 have e0:0 < e':=by
  by_cases z:0 < e'
  ·exact z
  ·have:g * e'≤0:=dQ (by omega) (by omega)
   omega
 have q1:t / g=t':=by rw [ht];exact dL _ (by omega)
 have q2:d * v / g=e' * v:=by
  rw [hE,bg]
  exact dL _ (by omega)
 rw [q1,q2]
 refine E6 ⟨bE u0 (bE e0 v0),?_⟩ (bE h1 h3) ?_
 ·have d1:t' ∣ t:=⟨g,by rw [ht];exact bH _ _⟩
  exact (tK (nk d1 ct_u).symm (tK cte.symm (nk d1 ct_v).symm)).symm
 ·show t' * (d * u * (d * v))=(n1 * (d * v)+n2 * (d * u)) * (u * (e' * v))
  have e1:n1 * (d * v)+n2 * (d * u)=d * t:=by
   rw [← hT,Int.mul_add,ee,ee n2]
  rw [e1]
  have e2:d * t * (u * (e' * v))=d * (g * t') * (u * (e' * v)):=by rw [← ht]
  have e3:t' * (d * u * (d * v))=t' * (d * u * (g * e' * v)):=by rw [← hE]
  rw [e2,e3]
  simp only [bg,ee,bH]
theorem yg {p q:Int×Int} (hp:Low p) (hq:Low q):Low (kT p q):=(oJ (bE hp.1 hq.1)).1
end Fra
namespace L2
open PySem PySem.Spec PyProof.Rows
abbrev fzO (o:Obj):HO:=.frz o (.own 0)
def fz (H:Hp) (cs:List (ae×Obj)):Hp:=fun b=>match cs.lookup b with
 | some o=>some (fzO o)
 | none=>H b
section
variable {H:Hp}{cs:List (ae×Obj)}{b:ae}{o:Obj}
end
section
variable {P:aT}{w:bv}{K:aa}{mg:Str→Option ah}{base:bM}{A:bL}{outer:List Env}{s s':ao}{H H2:Hp}{cs:List (ae×Obj)}
end
structure LamOk (scope:cW) (x:Str) (fr:List Str):Prop where
 kind:scope.kind=.function
 co:scope.isCoroutine=false
 gen:scope.isGenerator=false
 cell:∀ y∈scope.names,y.2≠.cell
 par:scope.names.lookup x=some .local
 frs:∀ y∈fr,scope.names.lookup y=some .free
 nd:(x::fr).Nodup
structure CloOk (scope:cW) (fr:List Str) (cl:List (Str×ae)) (cs:List (ae×Obj)) (caps:List V):Prop where
 has:∀ y,scope.names.lookup y=some .free→∃ c,cl.lookup y=some c
 inj:∀ y z c,cl.lookup y=some c→cl.lookup z=some c→y=z
 cel:∀ y c,cl.lookup y=some c→∃ o u,cs.lookup c=some o∧o.data=.cell u
 val:∀ (i:Nat) (y:Str) (v:V),fr[i]?=some y→caps[i]?=some v→∃ c o u,cl.lookup y=some c∧cs.lookup c=some o∧o.data=.cell (some u)∧RelV v u
 len:caps.length=fr.length
section
variable {P:aT}{w:bv}{K:aa}{mg:Str→Option ah}{base:bM}{CX:CXT}{k:Nat}{f c':ae}{qual x:Str}{params:iI}{body:a8}{scope:cW}{cl:List (Str×ae)}{cs:List (ae×Obj)}{pm ctv:ah}{fr:List Str}{caps:List V}{oc:Obj}
end
section
variable {X:Cx}{CX:CXT}{k i:Nat}{x:Str}{p pos:Pos}{e:a8}{es:List a8}{t:TA}{E:XK}
end
section
variable {X:Cx}{CX:CXT}{k:Nat}{f:ae}{fd:bR}{ps:List Str}{sp:Sp}{E:XK}
end
def EL (H:Hp) (P:ae) (q:Str):Prop:=∃ ps,H P=some (.tbl ps)∧TriplesOk ps.toList∧∀ pos c,codeAmong pos ps.toList=some c→∃ c' oc,c=.ref c'∧H c'=some (fzO oc)∧∃ vs tq,oc.data=.fields vs∧vs[1]?=some (.str q tq)
section
variable {X:Cx}{params:iI}{body:a8}{scope:cW}{pos:Pos}{cd P:ae}{q:Str}
structure LamTxt (K:aa) (mg:Str→Option ah) (base:bM) (cd P:ae):Prop where
 hd:∀ h:bM,K.In h→PySem.W.CodeHd h cd P
 nP:P≠ax
 bm:∃ bm o,mg "__builtins__"=some (.ref bm)∧bm≠g7∧bm≠ax∧bm≠P∧base.get? bm=some o∧o.cls=.type "module"∧o.dict=some g7∧o.data=.plain
end
end L2
set_option maxHeartbeats 4000000
namespace My
open PySem L2
abbrev Same:=L2.Same
theorem mC {H:Hp}{p:ae}{o:HO} (h:H p=none):Same H (upd H p o):=fun b u e=>by rw [jJ (jM e h)];exact e
theorem nbT {b:Bool} (h:(!b)=true):b=false:=by cases b <;> first | rfl | cases h
theorem nbF {b:Bool} (h:¬ (!b)=true):b=true:=by cases b <;> first | rfl | exact absurd rfl h
structure Ent where
 nm:Str
 th:Int
 mr:Int
 ls:Int
 held:List (Str×Int×Int)
structure BA where
 dx:ae
 dp:ae
 dt:ae
 dm:ae
 dl:ae
 dh:ae
def bf (z:BA):List (Str×V):=[(("people":Str),V.ref z.dp),("things_of",.ref z.dt),("mark_of",.ref z.dm),("loss_of",.ref z.dl),("held_of",.ref z.dh)]
theorem kQ {g f:Str}{v:V}{r:List (Str×V)} (h:¬ f=g):cm f ((g,v)::r)=cm f r:=by
 rw [bA]
 have:(f == g)=false:=by simpa using h
 rw [this]
theorem re {f:Str}{v:V}{r:List (Str×V)}:cm f ((f,v)::r)=some v:=by
 rw [bA]
 simp
theorem og (z:BA):(bf z).lookup ("people":Str)=some (V.ref z.dp):=re
theorem pT (z:BA):(bf z).lookup ("things_of":Str)=some (V.ref z.dt):=by
 unfold bf
 rw [kQ (by decide +kernel)]
 exact re
theorem tO (z:BA):(bf z).lookup ("mark_of":Str)=some (V.ref z.dm):=by
 unfold bf
 rw [kQ (by decide +kernel),kQ (by decide +kernel)]
 exact re
theorem tP (z:BA):(bf z).lookup ("loss_of":Str)=some (V.ref z.dl):=by
 unfold bf
 rw [kQ (by decide +kernel),kQ (by decide +kernel),kQ (by decide +kernel)]
 exact re
theorem nV (z:BA):(bf z).lookup ("held_of":Str)=some (V.ref z.dh):=by
 unfold bf
 rw [kQ (by decide +kernel),kQ (by decide +kernel),kQ (by decide +kernel),kQ (by decide +kernel)]
 exact re
theorem mM (z:BA) {m:Str} (h1:¬ m="people") (h2:¬ m="things_of") (h3:¬ m="mark_of") (h4:¬ m="loss_of") (h5:¬ m="held_of"):(bf z).lookup m=none:=by
 unfold bf
 rw [kQ h1,kQ h2,kQ h3,kQ h4,kQ h5]
 rfl
def HeldAt (K:aa) (H:Hp) (p:ae) (l:List (Str×Int×Int)):Prop :=
 ∃ ts:List ae,ts.length=l.length∧H p=some (.dK ((l.zip ts).map fun q=>(am q.1.1,V.ref q.2)))∧∀ q∈l.zip ts,SqT K H q.2 [.int q.1.2.1,.int q.1.2.2]
def PmAt (H:Hp) (d:ae) (S:List (Key×V)):Prop:=∃ T:List (Key×V),H d=some (.dK T)∧T.Perm S∧(S.map (·.1)).Nodup
theorem sR {k:Key}{v:V}:∀ {l:List (Key×V)},(l.map (·.1)).Nodup→(l5 l k=some v ↔ (k,v)∈l)
 | [],_=>⟨fun h=>(by cases h),fun h=>(by cases h)⟩
 | x::r,h=>by
  obtain ⟨h1,h2⟩:=aw.mp h
  have ih:=sR (k:=k) (v:=v) h2
  unfold l5 at ih ⊢
  rw [bD]
  by_cases e:x.1=k
  ·rw [decide_eq_true e]
   constructor
   ·intro q
    have q:x.2=v:=aU q
    rw [← q,← e]
    exact ap
   ·intro q
    rcases ai.mp q with q | q
    ·rw [← q];rfl
    ·exact absurd (aj.mpr ⟨(k,v),q,rfl⟩) (by rw [← e];exact h1)
  ·rw [decide_eq_false e]
   refine ih.trans ⟨fun q=>ak _ q,fun q=>?_⟩
   rcases ai.mp q with q | q
   ·exact absurd (by rw [← q]) e
   ·exact q
theorem xn {T S:List (Key×V)} (p:T.Perm S) (nd:(S.map (·.1)).Nodup) (k:Key):l5 T k=l5 S k:=by
 apply Option.ext
 intro v
 rw [sR ((p.map (·.1)).nodup_iff.mpr nd),sR nd,p.mem_iff]
theorem PmAt.keep {H H':Hp}{d:ae}{S:List (Key×V)} (h:PmAt H d S) (k:∀ o,H d=some o→H' d=some o):PmAt H' d S:=by
 obtain ⟨T,e,p,n⟩:=h
 exact ⟨T,k _ e,p,n⟩
theorem PmAt.dget {H:Hp}{d:ae}{S:List (Key×V)} (h:PmAt H d S) (x:Str):DGet H d (kV (am x)) (l5 S (am x)):=by
 obtain ⟨T,e,p,n⟩:=h
 rw [← xn p n]
 exact DGet.k e
theorem PmAt.keys {H:Hp}{d:ae}{α:Type}{L:List α}{key:α→Str}{v:α→V} (h:PmAt H d (L.map fun e=>((am (key e):Key),v e))):∃ (T:List (Key×V)) (ss:List Str),H d=some (.dK T)∧T.map (·.1)=ss.map am∧ss.Perm (L.map key):=by
 obtain ⟨T,e,p,n⟩:=h
 have q:=p.map (·.1)
 rw [aF] at q
 refine ⟨T,(T.map (·.1)).map fun k=>match k with | .inr s=>s | .inl _=>cU,e,?_,?_⟩
 ·rw [aF]
  refine ((hU _).symm.trans (bB fun k hk=>?_))
  have:=q.mem_iff.mp hk
  obtain ⟨x,_,rfl⟩:=aj.mp this
  rfl
 ·have:=q.map fun k:Key=>match k with | .inr s=>s | .inl _=>cU
  have e2:(L.map ((fun x=>x.1) ∘ fun e=>((am (key e):Key),v e))).map (fun k:Key=>match k with | .inr s=>s | .inl _=>cU)=L.map key:=by rw [aF];rfl
  rw [e2] at this
  exact this
structure BookAt (K:aa) (C:ae) (H:Hp) (b:ae) (z:BA) (ppl:List Str) (L:List (Ent×ae)):Prop where
 ob:H b=some (.ins C z.dx (bf z))
 pp:H z.dp=some (.dK (ppl.map fun n=>(am n,.bl true)))
 tt:H z.dt=some (.dK (L.map fun e=>(am e.1.nm,.int e.1.th)))
 mm:H z.dm=some (.dK (L.map fun e=>(am e.1.nm,.int e.1.mr)))
 ll:H z.dl=some (.dK (L.map fun e=>(am e.1.nm,.int e.1.ls)))
 hh:PmAt H z.dh (L.map fun e=>(am e.1.nm,.ref e.2))
 he:∀ e∈L,HeldAt K H e.2 e.1.held
 nd:(b::z.dp::z.dt::z.dm::z.dl::z.dh::L.map (·.2)).Nodup
 p6:ppl.length≤6
 h8:L.length≤8
def BFp (b:ae) (z:BA) (L:List (Ent×ae)):List ae:=b::z.dp::z.dt::z.dm::z.dl::z.dh::L.map (·.2)
theorem oI {K:aa}{H H':Hp}{t:ae}{xs:List V} (h:SqT K H t xs) (k:∀ c o,H c=some o→(∃ xs,o=.tup xs∨∃ ob,o=.frz ob (.tup xs))→H' c=some o):SqT K H' t xs:=by
 rcases h with (h | ⟨ob,h⟩) | h
 ·exact .inl (.inl (k _ _ h ⟨xs,.inl rfl⟩))
 ·exact .inl (.inr ⟨ob,k _ _ h ⟨xs,.inr ⟨ob,rfl⟩⟩⟩)
 ·exact .inr h
theorem HeldAt.keep {K:aa}{H H':Hp}{p:ae}{l:List (Str×Int×Int)} (h:HeldAt K H p l) (hp:∀ o,H p=some o→H' p=some o) (k:∀ c o,H c=some o→(∃ xs,o=.tup xs∨∃ ob,o=.frz ob (.tup xs))→H' c=some o):HeldAt K H' p l:=by
 obtain ⟨ts,e1,e2,e3⟩:=h
 exact ⟨ts,e1,hp _ e2,fun q hq=>oI (e3 q hq) k⟩
theorem BookAt.keep {K:aa}{C:ae}{H H':Hp}{b:ae}{z:BA}{ppl:List Str}{L:List (Ent×ae)} (B:BookAt K C H b z ppl L) (k:∀ c o,H c=some o→(c∈BFp b z L∨∃ xs,o=.tup xs∨∃ ob,o=.frz ob (.tup xs))→H' c=some o):BookAt K C H' b z ppl L:=by
 refine ⟨k _ _ B.ob (.inl (by simp [BFp])),k _ _ B.pp (.inl (by simp [BFp])),k _ _ B.tt (.inl (by simp [BFp])),k _ _ B.mm (.inl (by simp [BFp])),k _ _ B.ll (.inl (by simp [BFp])),B.hh.keep (fun o h=>k _ _ h (.inl (by simp [BFp]))),fun e he=>?_,B.nd,B.p6,B.h8⟩
 refine (B.he e he).keep (fun o h=>k _ _ h (.inl ?_)) fun c o h x=>k c o h (.inr x)
 unfold BFp
 simp only [ai]
 right;right;right;right;right;right
 exact aj.mpr ⟨e,he,rfl⟩
theorem BookAt.same {K:aa}{C:ae}{H H':Hp}{b:ae}{z:BA}{ppl:List Str}{L:List (Ent×ae)} (B:BookAt K C H b z ppl L) (s:Same H H'):BookAt K C H' b z ppl L:=B.keep fun c o h _=>s c o h
def lr (L:List (Ent×ae)) (n:Str):Bool:=(L.find? fun e=>decide (e.1.nm=n)).isSome
def lz (ppl:List Str) (n:Str):Bool:=(ppl.find? fun m=>decide (m=n)).isSome
theorem mz {α:Type} (l:List α) (key:α→Str) (v:α→V) (n:Str):l5 (l.map fun e=>((am (key e):Key),v e)) (am n)=(l.find? fun e=>decide (key e=n)).map v:=by
 unfold l5
 rw [dY,ib]
 have e:((fun kv:Key×V=>decide (kv.1=am n)) ∘ fun e=>((am (key e):Key),v e))=fun e=>decide (key e=n):=by
  funext x
  show decide ((am (key x):Key)=am n)=decide (key x=n)
  rw [sG]
 rw [e]
 rfl
end My
namespace L2
open PySem PySem.Spec PyProof.Rows
def Odd (u:HO):Prop:=(∃ ps,u=.tbl ps)∨∃ ob x,u=.frz ob (.own x)
def TbS (H H':Hp):Prop:=(∀ a ps,H a=some (.tbl ps)→∃ ps',H' a=some (.tbl ps'))∧∀ P q,EL H P q→EL H' P q
theorem TbS.of {H H':Hp} (k:∀ a o,H a=some o→Odd o→H' a=some o):TbS H H':=⟨fun a ps h=>⟨ps,k a _ h (.inl ⟨ps,rfl⟩)⟩,fun P q ⟨ps,h,t,g⟩=>⟨ps,k P _ h (.inl ⟨ps,rfl⟩),t,fun p c e=>by
 obtain ⟨c',oc,a1,a2,a3⟩:=g p c e
 exact ⟨c',oc,a1,k c' _ a2 (.inr ⟨oc,0,rfl⟩),a3⟩⟩⟩
theorem TbS.same {H H':Hp} (k:Same H H'):TbS H H':=.of fun a o h _=>k a o h
theorem TbS.upd {H:Hp}{d:ae}{u o:HO} (h:H d=some u) (n:¬ Odd u):TbS H (upd H d o):=.of fun a o' h' od=>by
 rw [jJ (show a≠d from fun z=>by rw [z,h] at h';cases h';exact n od)];exact h'
theorem yD {kvs:List (Key×V)}:¬ Odd (.dK kvs):=fun z=>by rcases z with ⟨_,z⟩ | ⟨_,_,z⟩ <;> cases z
theorem uB {xs:List V}:¬ Odd (.lst xs):=fun z=>by rcases z with ⟨_,z⟩ | ⟨_,_,z⟩ <;> cases z
theorem Cv {C dx:ae}{fs:List (Str×V)}:¬ Odd (.ins C dx fs):=fun z=>by rcases z with ⟨_,z⟩ | ⟨_,_,z⟩ <;> cases z
theorem Ft {ob:Obj}{kvs:List (Key×V)}:¬ Odd (.frz ob (.dK kvs)):=fun z=>by rcases z with ⟨_,z⟩ | ⟨_,_,z⟩ <;> cases z
def yh:List Str:=["rules"]
def Tab (K:aa) (P:ae) (q:Str):Prop:=∃ x∈yh,∃ c,PySem.W.tabIn K x=some (c,P)∧q=x++".<locals>.<lambda>"
inductive PV where
 | non | bl (b:Bool) | int (i:Int) | str (x:Str) | tup (l:List PV) | lst (l:List PV) | dct (l:List (Key×PV)) | ref (n:Nat) | exc (c:ae) | seq (l:List PV) | clo (a:ae) (vs:List V) (l:List PV)
inductive Cell where
 | lst (l:List PV) | dct (l:List (Key×PV)) | book (pp:List Str) (L:List My.Ent) | obj (C:ae) (fs:List (Str×PV)) | dfz (l:List (Key×PV))
structure Sto where
 nx:Nat
 cs:List (Nat×Cell)
structure Mp where
 ad:Nat→ae
 fp:Nat→List ae
 hid:List ae
def lf:List (Nat×Cell)→Nat→Option Cell
 | [],_=>none
 | (k,c)::r,n=>if k=n then some c else lf r n
def na (n:Nat) (c:Cell):List (Nat×Cell)→List (Nat×Cell)
 | []=>[]
 | (k,d)::r=>if k=n then (n,c)::r else (k,d)::na n c r
def rg (n:Nat):List (Nat×Cell)→List (Nat×Cell)
 | []=>[]
 | (k,d)::r=>if k=n then r else (k,d)::rg n r
def Sto.get (s:Sto) (n:Nat):Option Cell:=lf s.cs n
def Sto.set (s:Sto) (n:Nat) (c:Cell):Sto:=⟨s.nx,na n c s.cs⟩
def Sto.del (s:Sto) (n:Nat):Sto:=⟨s.nx,rg n s.cs⟩
def Sto.add (s:Sto) (c:Cell):Sto:=⟨s.nx+1,(s.nx,c)::s.cs⟩
theorem kB {n:Nat}{c:Cell}:∀ {l:List (Nat×Cell)},lf l n=some c→(n,c)∈l
 | (k,d)::r,h=>by
  unfold lf at h
  split at h
  ·rename_i e;cases h;subst e;exact ap
  ·exact ak _ (kB h)
theorem xz {n:Nat}{c:Cell}{q:Nat×Cell}:∀ {l:List (Nat×Cell)},(l.map (·.1)).Nodup→q∈na n c l→q=(n,c)∨(q∈l∧q.1≠n)
 | (k,d)::r,nd,h=>by
  unfold na at h
  obtain ⟨n1,n2⟩:=aw.mp (show (k::r.map (·.1)).Nodup from nd)
  split at h
  ·rename_i e
   rcases ai.mp h with h | h
   ·exact .inl h
   ·exact .inr ⟨ak _ h,fun z=>n1 (by rw [e,← z];exact aj.mpr ⟨q,h,rfl⟩)⟩
  ·rename_i e
   rcases ai.mp h with h | h
   ·subst h;exact .inr ⟨ap,e⟩
   ·rcases xz n2 h with h | ⟨h,h'⟩
    ·exact .inl h
    ·exact .inr ⟨ak _ h,h'⟩
theorem mj {n:Nat}{c:Cell}:∀ {l:List (Nat×Cell)},(na n c l).map (·.1)=l.map (·.1)
 | []=>rfl
 | (k,d)::r=>by
  unfold na
  split
  ·rename_i e;simp [e]
  ·simp [mj]
theorem pI {n:Nat}{q:Nat×Cell}:∀ {l:List (Nat×Cell)},q∈rg n l→q∈l
 | (k,d)::r,h=>by
  unfold rg at h
  split at h
  ·exact ak _ h
  ·rcases ai.mp h with h | h
   ·subst h;exact ap
   ·exact ak _ (pI h)
theorem zE {n:Nat}:∀ {l:List (Nat×Cell)},(l.map (·.1)).Nodup→((rg n l).map (·.1)).Nodup
 | [],_=>gj
 | (k,d)::r,nd=>by
  obtain ⟨n1,n2⟩:=aw.mp (show (k::r.map (·.1)).Nodup from nd)
  unfold rg
  split
  ·exact n2
  ·refine aw.mpr ⟨fun z=>n1 ?_,zE n2⟩
   obtain ⟨q,hq,e⟩:=aj.mp z
   exact aj.mpr ⟨q,pI hq,e⟩
theorem zD {n:Nat}{q:Nat×Cell}:∀ {l:List (Nat×Cell)},(l.map (·.1)).Nodup→q∈rg n l→q.1≠n
 | (k,d)::r,nd,h=>by
  obtain ⟨n1,n2⟩:=aw.mp (show (k::r.map (·.1)).Nodup from nd)
  unfold rg at h
  split at h
  ·rename_i e;intro z;exact n1 (by rw [e,← z];exact aj.mpr ⟨q,h,rfl⟩)
  ·rename_i e
   rcases ai.mp h with h | h
   ·subst h;exact e
   ·exact zD n2 h
theorem ky {n k:Nat}{c:Cell} (h:k≠n):∀ {l:List (Nat×Cell)},lf (na n c l) k=lf l k
 | []=>rfl
 | (j,d)::r=>by
  unfold na
  split
  ·rename_i e
   unfold lf
   rw [if_neg (fun z=>h z.symm),if_neg (fun z=>h (z.symm.trans e))]
  ·unfold lf
   split
   ·rfl
   ·exact ky h
theorem pC {n k:Nat} (h:k≠n):∀ {l:List (Nat×Cell)},lf (rg n l) k=lf l k
 | []=>rfl
 | (j,d)::r=>by
  unfold rg
  split
  ·rename_i e
   conv=>rhs;unfold lf
   rw [if_neg (fun z=>h (z.symm.trans e))]
  ·unfold lf
   split
   ·rfl
   ·exact pC h
def Pur (m:Mp) (s:Sto) (a:ae):Prop:=a∉m.hid∧∀ n∈s.cs.map (·.1),a∉m.fp n
def KL (K:aa) (a:ae) (xs:List V):Prop:=∃ (o:Obj) (its:Array ah) (n:Nat),K.lookup a=some o∧o.cls=.type "list"∧o.dict=none∧o.data=.seq its n∧its.size≤aI∧Vals xs its.toList
def KT' (K:aa) (a:ae) (xs:List V):Prop:=∃ (o:Obj) (its:Array ah) (n:Nat),K.lookup a=some o∧o.cls=.type "tuple"∧o.data=.seq its n∧its.size≤aI∧Vals xs its.toList
mutual
inductive Rep (K:aa) (H:Hp) (m:Mp) (s:Sto):V→PV→Prop
 | non:Rep K H m s .non .non
 | bl {b:Bool}:Rep K H m s (.bl b) (.bl b)
 | int {i:Int}:Rep K H m s (.int i) (.int i)
 | str {x:Str}:Rep K H m s (.str x) (.str x)
 | tup {a:ae}{vs:List V}{l:List PV}:(Rd H a (.tup vs)∧Pur m s a∨KT' K a vs)→Reps K H m s vs l→Rep K H m s (.ref a) (.tup l)
 | lst {a:ae}{vs:List V}{l:List PV}:H a=some (.lst vs)→Pur m s a→Reps K H m s vs l→Rep K H m s (.ref a) (.lst l)
 | seq {a:ae}{vs:List V}{l:List PV}:((∃ o,H a=some (.frz o (.lst vs)))∧Pur m s a∨KL K a vs)→Reps K H m s vs l→Rep K H m s (.ref a) (.seq l)
 | dct {a:ae}{vs:List (Key×V)}{l:List (Key×PV)}:Rd H a (.dK vs)→Pur m s a→RepKs K H m s vs l→Rep K H m s (.ref a) (.dct l)
 | ref {n:Nat}:n < s.nx→Rep K H m s (.ref (m.ad n)) (.ref n)
 | exc {a c:ae}:H a=some (excO c a)→Pur m s a→Rep K H m s (.ref a) (.exc c)
 | clo {a:ae}{vs:List V}{l:List PV}:Reps K H m s vs l→Rep K H m s (.ref a) (.clo a vs l)
inductive Reps (K:aa) (H:Hp) (m:Mp) (s:Sto):List V→List PV→Prop
 | nil:Reps K H m s [] []
 | cons {v:V}{p:PV}{vs:List V}{l:List PV}:Rep K H m s v p→Reps K H m s vs l→Reps K H m s (v::vs) (p::l)
inductive RepKs (K:aa) (H:Hp) (m:Mp) (s:Sto):List (Key×V)→List (Key×PV)→Prop
 | nil:RepKs K H m s [] []
 | cons {k:Key}{v:V}{p:PV}{vs:List (Key×V)}{l:List (Key×PV)}:Rep K H m s v p→RepKs K H m s vs l→RepKs K H m s ((k,v)::vs) ((k,p)::l)
end
structure ExtR (H:Hp) (m:Mp) (s:Sto) (H':Hp) (m':Mp) (s':Sto):Prop where
 nx:s.nx≤s'.nx
 ad:∀ n,n < s.nx→m'.ad n=m.ad n
 pu:∀ a u,Rd H a u→Pur m s a→Rd H' a u∧Pur m' s' a
 el:∀ a u,H a=some u→(∀ kvs,u≠.dK kvs)→Pur m s a→H' a=some u
structure Ext0 (H:Hp) (m:Mp) (s:Sto) (H':Hp) (m':Mp) (s':Sto):Prop extends ExtR H m s H' m' s' where
 df:∀ n l,n < s.nx→lf s.cs n=some (.dfz l)→lf s'.cs n=some (.dfz l)∧∀ o,H (m.ad n)=some o→H' (m.ad n)=some o
structure Ext (H:Hp) (m:Mp) (s:Sto) (H':Hp) (m':Mp) (s':Sto):Prop extends Ext0 H m s H' m' s' where
 hd:m'.hid=m.hid
 hk:∀ a∈m.hid,∀ o,H a=some o→(∀ ps,o≠.tbl ps)→H' a=some o
theorem Ext.refl {H:Hp}{m:Mp}{s:Sto}:Ext H m s H m s:=⟨⟨⟨az _,fun _ _=>rfl,fun _ _ h p=>⟨h,p⟩,fun _ _ h _ _=>h⟩,fun _ _ _ h=>⟨h,fun _ h=>h⟩⟩,rfl,fun _ _ _ h _=>h⟩
theorem Ext0.trans {H H1 H2:Hp}{m m1 m2:Mp}{s s1 s2:Sto} (a:Ext0 H m s H1 m1 s1) (b:Ext0 H1 m1 s1 H2 m2 s2):Ext0 H m s H2 m2 s2 :=
 ⟨⟨aJ a.nx b.nx,fun n h=>(b.ad n (aH h a.nx)).trans (a.ad n h),fun c u h p=>let ⟨h1,p1⟩:=a.pu c u h p;b.pu c u h1 p1,fun c x h n p=>b.el c x (a.el c x h n p) n (a.pu c _ (.inl h) p).2⟩,fun n l hn h=>by
  obtain ⟨h1,k1⟩:=a.df n l hn h
  obtain ⟨h2,k2⟩:=b.df n l (aH hn a.nx) h1
  rw [a.ad n hn] at k2
  exact ⟨h2,fun o h=>k2 o (k1 o h)⟩⟩
theorem Ext.trans {H H1 H2:Hp}{m m1 m2:Mp}{s s1 s2:Sto} (a:Ext H m s H1 m1 s1) (b:Ext H1 m1 s1 H2 m2 s2):Ext H m s H2 m2 s2 :=
 ⟨a.toExt0.trans b.toExt0,b.hd.trans a.hd,fun c hc o h n=>b.hk c (by rw [a.hd];exact hc) o (a.hk c hc o h n) n⟩
theorem Rd.same {H H':Hp}{a:ae}{u:HO} (k:Same H H') (h:Rd H a u):Rd H' a u:=h.elim (fun h=>.inl (k _ _ h)) fun ⟨o,h⟩=>.inr ⟨o,k _ _ h⟩
theorem Rd.ne {H:Hp}{a b:ae}{u:HO} (h:Rd H a u) (hb:H b=none):a≠b:=h.elim (fun h=>jM h hb) fun ⟨_,h⟩=>jM h hb
theorem Ext.same {H H':Hp}{m:Mp}{s:Sto} (k:Same H H'):Ext H m s H' m s:=⟨⟨⟨az _,fun _ _=>rfl,fun _ _ h p=>⟨h.same k,p⟩,fun _ _ h _ _=>k _ _ h⟩,fun _ _ _ h=>⟨h,fun o h=>k _ _ h⟩⟩,rfl,fun _ _ _ h _=>k _ _ h⟩
mutual
theorem Rep.ext0 {K:aa}{H H':Hp}{m m':Mp}{s s':Sto} (e:ExtR H m s H' m' s'):∀ {v:V}{p:PV},Rep K H m s v p→Rep K H' m' s' v p
 | _,_,.non=>.non
 | _,_,.bl=>.bl
 | _,_,.int=>.int
 | _,_,.str=>.str
 | _,_,.tup h r=>.tup (h.imp (fun z=>e.pu _ _ z.1 z.2) fun z=>z) (Reps.ext0 e r)
 | _,_,.lst h p r=>.lst (e.el _ _ h (by intro _ z;cases z) p) (e.pu _ _ (.inl h) p).2 (Reps.ext0 e r)
 | _,_,.seq h r=>.seq (h.imp (fun ⟨⟨o,z⟩,p⟩=>⟨⟨o,e.el _ _ z (by intro _ z;cases z) p⟩,(e.pu _ _ (.inl z) p).2⟩) fun z=>z) (Reps.ext0 e r)
 | _,_,.dct h p r=>.dct (e.pu _ _ h p).1 (e.pu _ _ h p).2 (RepKs.ext0 e r)
 | _,_,.ref (n:=n) h=>by rw [← e.ad _ h];exact .ref (aH h e.nx)
 | _,_,.exc h p=>.exc (e.el _ _ h (by intro _ z;cases z) p) (e.pu _ _ (.inl h) p).2
 | _,_,.clo r=>.clo (Reps.ext0 e r)
theorem Reps.ext0 {K:aa}{H H':Hp}{m m':Mp}{s s':Sto} (e:ExtR H m s H' m' s'):∀ {v:List V}{p:List PV},Reps K H m s v p→Reps K H' m' s' v p
 | _,_,.nil=>.nil
 | _,_,.cons a b=>.cons (Rep.ext0 e a) (Reps.ext0 e b)
theorem RepKs.ext0 {K:aa}{H H':Hp}{m m':Mp}{s s':Sto} (e:ExtR H m s H' m' s'):∀ {v:List (Key×V)}{p:List (Key×PV)},RepKs K H m s v p→RepKs K H' m' s' v p
 | _,_,.nil=>.nil
 | _,_,.cons a b=>.cons (Rep.ext0 e a) (RepKs.ext0 e b)
end
theorem Rep.ext {K:aa}{H H':Hp}{m m':Mp}{s s':Sto} (e:Ext H m s H' m' s') {v:V}{p:PV} (r:Rep K H m s v p):Rep K H' m' s' v p:=r.ext0 e.toExtR
theorem Reps.ext {K:aa}{H H':Hp}{m m':Mp}{s s':Sto} (e:Ext H m s H' m' s') {v:List V}{p:List PV} (r:Reps K H m s v p):Reps K H' m' s' v p:=r.ext0 e.toExtR
theorem RepKs.ext {K:aa}{H H':Hp}{m m':Mp}{s s':Sto} (e:Ext H m s H' m' s') {v:List (Key×V)}{p:List (Key×PV)} (r:RepKs K H m s v p):RepKs K H' m' s' v p:=r.ext0 e.toExtR
mutual
inductive Old (k:Nat):PV→Prop
 | non:Old k .non
 | bl {b:Bool}:Old k (.bl b)
 | int {i:Int}:Old k (.int i)
 | str {x:Str}:Old k (.str x)
 | tup {l:List PV}:Olds k l→Old k (.tup l)
 | lst {l:List PV}:Olds k l→Old k (.lst l)
 | seq {l:List PV}:Olds k l→Old k (.seq l)
 | dct {l:List (Key×PV)}:OldKs k l→Old k (.dct l)
 | ref {n:Nat}:n < k→Old k (.ref n)
 | exc {c:ae}:Old k (.exc c)
 | clo {a:ae}{vs:List V}{l:List PV}:Olds k l→Old k (.clo a vs l)
inductive Olds (k:Nat):List PV→Prop
 | nil:Olds k []
 | cons {p:PV}{l:List PV}:Old k p→Olds k l→Olds k (p::l)
inductive OldKs (k:Nat):List (Key×PV)→Prop
 | nil:OldKs k []
 | cons {q:Key}{p:PV}{l:List (Key×PV)}:Old k p→OldKs k l→OldKs k ((q,p)::l)
end
structure Sub (m:Mp) (s:Sto) (m':Mp) (s':Sto):Prop where
 pu:∀ a,Pur m s a→Pur m' s' a
 ad:∀ n,n < s'.nx→m'.ad n=m.ad n
mutual
theorem Rep.sub {K:aa}{H:Hp}{m m':Mp}{s s':Sto} (e:Sub m s m' s'):∀ {v:V}{p:PV},Old s'.nx p→Rep K H m s v p→Rep K H m' s' v p
 | _,_,_,.non=>.non
 | _,_,_,.bl=>.bl
 | _,_,_,.int=>.int
 | _,_,_,.str=>.str
 | _,_,.tup o,.tup h r=>.tup (h.imp (fun z=>⟨z.1,e.pu _ z.2⟩) fun z=>z) (Reps.sub e o r)
 | _,_,.lst o,.lst h p r=>.lst h (e.pu _ p) (Reps.sub e o r)
 | _,_,.seq o,.seq h r=>.seq (h.imp (fun z=>⟨z.1,e.pu _ z.2⟩) fun z=>z) (Reps.sub e o r)
 | _,_,.dct o,.dct h p r=>.dct h (e.pu _ p) (RepKs.sub e o r)
 | _,_,.ref o,.ref _=>by rw [← e.ad _ o];exact .ref o
 | _,_,_,.exc h p=>.exc h (e.pu _ p)
 | _,_,.clo o,.clo r=>.clo (Reps.sub e o r)
theorem Reps.sub {K:aa}{H:Hp}{m m':Mp}{s s':Sto} (e:Sub m s m' s'):∀ {v:List V}{p:List PV},Olds s'.nx p→Reps K H m s v p→Reps K H m' s' v p
 | _,_,_,.nil=>.nil
 | _,_,.cons o q,.cons a b=>.cons (Rep.sub e o a) (Reps.sub e q b)
theorem RepKs.sub {K:aa}{H:Hp}{m m':Mp}{s s':Sto} (e:Sub m s m' s'):∀ {v:List (Key×V)}{p:List (Key×PV)},OldKs s'.nx p→RepKs K H m s v p→RepKs K H m' s' v p
 | _,_,_,.nil=>.nil
 | _,_,.cons o q,.cons a b=>.cons (Rep.sub e o a) (RepKs.sub e q b)
end
mutual
theorem Rep.old {K:aa}{H:Hp}{m:Mp}{s:Sto}:∀ {v:V}{p:PV},Rep K H m s v p→Old s.nx p
 | _,_,.non=>.non
 | _,_,.bl=>.bl
 | _,_,.int=>.int
 | _,_,.str=>.str
 | _,_,.tup _ r=>.tup (Reps.old r)
 | _,_,.lst _ _ r=>.lst (Reps.old r)
 | _,_,.seq _ r=>.seq (Reps.old r)
 | _,_,.dct _ _ r=>.dct (RepKs.old r)
 | _,_,.ref h=>.ref h
 | _,_,.exc _ _=>.exc
 | _,_,.clo r=>.clo r.old
theorem Reps.old {K:aa}{H:Hp}{m:Mp}{s:Sto}:∀ {v:List V}{p:List PV},Reps K H m s v p→Olds s.nx p
 | _,_,.nil=>.nil
 | _,_,.cons a b=>.cons (Rep.old a) (Reps.old b)
theorem RepKs.old {K:aa}{H:Hp}{m:Mp}{s:Sto}:∀ {v:List (Key×V)}{p:List (Key×PV)},RepKs K H m s v p→OldKs s.nx p
 | _,_,.nil=>.nil
 | _,_,.cons a b=>.cons (Rep.old a) (RepKs.old b)
end
def RepFs (K:aa) (H:Hp) (m:Mp) (s:Sto) (fs':List (Str×V)) (fs:List (Str×PV)):Prop:=fs'.map (·.1)=fs.map (·.1)∧Reps K H m s (fs'.map (·.2)) (fs.map (·.2))
def CellOk (K:aa) (CB:ae) (H:Hp) (m:Mp) (s:Sto) (n:Nat):Cell→Prop
 | .lst l=>m.fp n=[m.ad n]∧∃ vs,H (m.ad n)=some (.lst vs)∧Reps K H m s vs l
 | .dct l=>m.fp n=[m.ad n]∧∃ vs,H (m.ad n)=some (.dK vs)∧RepKs K H m s vs l
 | .dfz l=>m.fp n=[m.ad n]∧∃ ob vs,H (m.ad n)=some (.frz ob (.dK vs))∧RepKs K H m s vs l
 | .book pp L=>∃ z L',My.BookAt K CB H (m.ad n) z pp L'∧L'.map (·.1)=L∧m.fp n=My.BFp (m.ad n) z L'
 | .obj C fs=>m.fp n=[m.ad n]∧∃ dx fs',H (m.ad n)=some (.ins C dx fs')∧RepFs K H m s fs' fs
structure SR (K:aa) (CB:ae) (H:Hp) (m:Mp) (s:Sto):Prop where
 nd:(s.cs.map (·.1)).Nodup
 lt:∀ n∈s.cs.map (·.1),n < s.nx
 ok:∀ q∈s.cs,CellOk K CB H m s q.1 q.2
 dj:∀ n∈s.cs.map (·.1),∀ k∈s.cs.map (·.1),n≠k→∀ a∈m.fp n,a∉m.fp k
 hx:∀ n∈s.cs.map (·.1),∀ a∈m.fp n,a∉m.hid
 hs:∀ a∈m.hid,H a≠none∧∀ xs o,H a≠some (.tup xs)∧H a≠some (.frz o (.tup xs))∧H a≠some (.frz o (.lst xs))∧∀ x,H a≠some (.frz o (.own x))
 tb:∀ P q,Tab K P q→P∈m.hid∧EL H P q
theorem SR.tbk {K:aa}{CB:ae}{H H':Hp}{m:Mp}{s:Sto} (S:SR K CB H m s) (e:TbS H H'):∀ P q,Tab K P q→P∈m.hid∧EL H' P q:=fun P q t=>⟨(S.tb P q t).1,e.2 P q (S.tb P q t).2⟩
theorem CellOk.kind {K:aa}{CB:ae}{H:Hp}{m:Mp}{s:Sto}{n:Nat}{c:Cell} (h:CellOk K CB H m s n c) {a:ae} (ha:a∈m.fp n):∃ o,H a=some o∧(∀ xs,o≠.tup xs)∧(∀ ob xs,o≠.frz ob (.tup xs)∧o≠.frz ob (.lst xs))∧¬ Odd o:=by
 cases c with
 | lst l=>obtain ⟨e,vs,h,_⟩:=h;rw [e,aE] at ha;subst ha;exact ⟨_,h,(by intro _ z;cases z),(fun _ _=>⟨(by intro z;cases z),(by intro z;cases z)⟩),uB⟩
 | dct l=>obtain ⟨e,vs,h,_⟩:=h;rw [e,aE] at ha;subst ha;exact ⟨_,h,(by intro _ z;cases z),(fun _ _=>⟨(by intro z;cases z),(by intro z;cases z)⟩),yD⟩
 | dfz l=>obtain ⟨e,ob,vs,h,_⟩:=h;rw [e,aE] at ha;subst ha;exact ⟨_,h,(by intro _ z;cases z),(fun _ _=>⟨(by intro z;cases z),(by intro z;cases z)⟩),Ft⟩
 | obj C fs=>obtain ⟨e,dx,vs,h,_⟩:=h;rw [e,aE] at ha;subst ha;exact ⟨_,h,(by intro _ z;cases z),(fun _ _=>⟨(by intro z;cases z),(by intro z;cases z)⟩),Cv⟩
 | book pp L =>
  obtain ⟨z,L',B,_,e⟩:=h
  rw [e] at ha
  unfold My.BFp at ha
  have d:∀ {c:ae}{kvs:List (Key×V)},H c=some (.dK kvs)→∃ o,H c=some o∧(∀ xs,o≠.tup xs)∧(∀ ob xs,o≠.frz ob (.tup xs)∧o≠.frz ob (.lst xs))∧¬ Odd o:=fun h=>⟨_,h,(by intro _ z;cases z),(fun _ _=>⟨(by intro z;cases z),(by intro z;cases z)⟩),yD⟩
  simp only [ai] at ha
  rcases ha with rfl | rfl | rfl | rfl | rfl | rfl | ha
  ·exact ⟨_,B.ob,(by intro _ z;cases z),(fun _ _=>⟨(by intro z;cases z),(by intro z;cases z)⟩),Cv⟩
  ·exact d B.pp
  ·exact d B.tt
  ·exact d B.mm
  ·exact d B.ll
  ·obtain ⟨T,e,_⟩:=B.hh
   exact d e
  ·obtain ⟨q,hq,rfl⟩:=aj.mp ha
   obtain ⟨ts,_,h2,_⟩:=B.he q hq
   exact d h2
theorem SR.pure_none {K:aa}{CB:ae}{H:Hp}{m:Mp}{s:Sto} (S:SR K CB H m s) {a:ae} (h:H a=none):Pur m s a:=⟨fun z=>(S.hs a z).1 h,fun n hn ha=>by
 obtain ⟨q,hq,rfl⟩:=aj.mp hn
 obtain ⟨o,e,_⟩:=(S.ok q hq).kind ha
 rw [h] at e;cases e⟩
theorem SR.pure_tup {K:aa}{CB:ae}{H:Hp}{m:Mp}{s:Sto} (S:SR K CB H m s) {a:ae}{xs:List V} (h:H a=some (.tup xs)):Pur m s a:=⟨fun z=>((S.hs a z).2 xs default).1 h,fun n hn ha=>by
 obtain ⟨q,hq,rfl⟩:=aj.mp hn
 obtain ⟨o,e,k,_⟩:=(S.ok q hq).kind ha
 rw [h] at e;cases e;exact k _ rfl⟩
theorem SR.pure_frz {K:aa}{CB:ae}{H:Hp}{m:Mp}{s:Sto} (S:SR K CB H m s) {a:ae}{ob:Obj}{xs:List V} (h:H a=some (.frz ob (.tup xs))∨H a=some (.frz ob (.lst xs))):Pur m s a:=⟨fun z=>h.elim (fun h=>((S.hs a z).2 xs ob).2.1 h) fun h=>((S.hs a z).2 xs ob).2.2.1 h,fun n hn ha=>by
 obtain ⟨q,hq,rfl⟩:=aj.mp hn
 obtain ⟨o,e,_,k,_⟩:=(S.ok q hq).kind ha
 rcases h with h | h <;> (rw [h] at e;cases e)
 ·exact (k _ _).1 rfl
 ·exact (k _ _).2 rfl⟩
theorem SqT.keepX {K:aa}{CB:ae}{H H':Hp}{m m':Mp}{s s':Sto} (S:SR K CB H m s) (e:ExtR H m s H' m' s') {t:ae}{xs:List V} (h:SqT K H t xs):SqT K H' t xs:=by
 rcases h with h | h
 ·exact .inl (e.pu _ _ h (h.elim (fun h=>S.pure_tup h) fun ⟨_,h⟩=>S.pure_frz (.inl h))).1
 ·exact .inr h
theorem RepFs.ext {K:aa}{H H':Hp}{m m':Mp}{s s':Sto} (e:ExtR H m s H' m' s') {a:List (Str×V)}{b:List (Str×PV)} (h:RepFs K H m s a b):RepFs K H' m' s' a b:=⟨h.1,h.2.ext0 e⟩
theorem CellOk.keep {K:aa}{CB:ae}{H H':Hp}{m m':Mp}{s s':Sto}{n:Nat}{c:Cell} (S:SR K CB H m s) (e:ExtR H m s H' m' s') (k:∀ a∈m.fp n,∀ o,H a=some o→H' a=some o) (ha:m'.ad n=m.ad n) (hf:m'.fp n=m.fp n) (h:CellOk K CB H m s n c):CellOk K CB H' m' s' n c:=by
 cases c with
 | lst l=>obtain ⟨e1,vs,h,r⟩:=h;exact ⟨by rw [ha,hf];exact e1,vs,by rw [ha];exact k _ (by rw [e1];simp) _ h,r.ext0 e⟩
 | dct l=>obtain ⟨e1,vs,h,r⟩:=h;exact ⟨by rw [ha,hf];exact e1,vs,by rw [ha];exact k _ (by rw [e1];simp) _ h,r.ext0 e⟩
 | dfz l=>obtain ⟨e1,ob,vs,h,r⟩:=h;exact ⟨by rw [ha,hf];exact e1,ob,vs,by rw [ha];exact k _ (by rw [e1];simp) _ h,r.ext0 e⟩
 | obj C fs=>obtain ⟨e1,dx,vs,h,r⟩:=h;exact ⟨by rw [ha,hf];exact e1,dx,vs,by rw [ha];exact k _ (by rw [e1];simp) _ h,RepFs.ext e r⟩
 | book pp L =>
  obtain ⟨z,L',B,e1,e2⟩:=h
  rw [e2] at k
  have kb:∀ a∈My.BFp (m.ad n) z L',∀ o,H a=some o→H' a=some o:=k
  refine ⟨z,L',?_,e1,by rw [ha,hf];exact e2⟩
  rw [ha]
  refine ⟨kb _ (by simp [My.BFp]) _ B.ob,kb _ (by simp [My.BFp]) _ B.pp,kb _ (by simp [My.BFp]) _ B.tt,kb _ (by simp [My.BFp]) _ B.mm,kb _ (by simp [My.BFp]) _ B.ll,B.hh.keep (fun o h=>kb _ (by simp [My.BFp]) _ h),fun q hq=>?_,B.nd,B.p6,B.h8⟩
  obtain ⟨ts,h1,h2,h3⟩:=B.he q hq
  refine ⟨ts,h1,kb _ ?_ _ h2,fun y hy=>(h3 y hy).keepX S e⟩
  unfold My.BFp
  simp only [ai]
  right;right;right;right;right;right
  exact aj.mpr ⟨q,hq,rfl⟩
theorem SR.same {K:aa}{CB:ae}{H H':Hp}{m:Mp}{s:Sto} (S:SR K CB H m s) (k:Same H H'):SR K CB H' m s :=
 ⟨S.nd,S.lt,fun q hq=>(S.ok q hq).keep S (Ext.same k).toExtR (fun a _ o h=>k a o h) rfl rfl,S.dj,S.hx,fun a ha=>by
  obtain ⟨h1,h2⟩:=S.hs a ha
  cases e:H a with
  | none=>exact absurd e h1
  | some o =>
   rw [k a o e]
   rw [e] at h2
   exact ⟨by simp,h2⟩,S.tbk (.same k)⟩
theorem SR.get {K:aa}{CB:ae}{H:Hp}{m:Mp}{s:Sto} (S:SR K CB H m s) {n:Nat}{c:Cell} (h:s.get n=some c):CellOk K CB H m s n c:=S.ok _ (kB h)
theorem SR.getlt {K:aa}{CB:ae}{H:Hp}{m:Mp}{s:Sto} (S:SR K CB H m s) {n:Nat}{c:Cell} (h:s.get n=some c):n < s.nx:=S.lt _ (aj.mpr ⟨_,kB h,rfl⟩)
def Mp.fput (m:Mp) (n:Nat) (f':List ae):Mp:=⟨m.ad,fun j=>if j=n then f' else m.fp j,m.hid⟩
theorem SR.hsk {K:aa}{CB:ae}{H H':Hp}{m:Mp}{s:Sto} (S:SR K CB H m s) (k:∀ a∈m.hid,∀ o,H a=some o→(∀ ps,o≠.tbl ps)→H' a=some o) (kt:TbS H H'):∀ a∈m.hid,H' a≠none∧∀ xs o,H' a≠some (.tup xs)∧H' a≠some (.frz o (.tup xs))∧H' a≠some (.frz o (.lst xs))∧∀ x,H' a≠some (.frz o (.own x)):=fun a ha=>by
 obtain ⟨h1,h2⟩:=S.hs a ha
 cases e:H a with
 | none=>exact absurd e h1
 | some o =>
  by_cases t:∃ ps,o=.tbl ps
  ·obtain ⟨ps,t⟩:=t
   rw [t] at e
   obtain ⟨ps',e'⟩:=kt.1 a ps e
   rw [e']
   exact ⟨by simp,fun _ _=>⟨by simp,by simp,by simp,by simp⟩⟩
  rw [k a ha o e fun ps z=>t ⟨ps,z⟩]
  rw [e] at h2
  exact ⟨by simp,h2⟩
theorem SR.put' {K:aa}{CB:ae}{H:Hp}{m:Mp}{s:Sto} (S:SR K CB H m s) {n:Nat}{c c':Cell} (hn:s.get n=some c) (H':Hp) (f':List ae) (k:∀ a o,H a=some o→a∉m.fp n→H' a=some o) (hnew:∀ a∈f',a∈m.fp n∨H a=none)
  (hok:ExtR H m s H' (m.fput n f') (s.set n c')→CellOk K CB H' (m.fput n f') (s.set n c') n c') :
  SR K CB H' (m.fput n f') (s.set n c')∧ExtR H m s H' (m.fput n f') (s.set n c')∧((∀ l,c≠.dfz l)→Ext H m s H' (m.fput n f') (s.set n c')):=by
 have hin:n∈s.cs.map (·.1):=aj.mpr ⟨_,kB hn,rfl⟩
 have hkd:∀ a∈m.hid,∀ o,H a=some o→(∀ ps,o≠.tbl ps)→H' a=some o:=fun a ha o h _=>k a o h fun z=>S.hx n hin a z ha
 have htb:TbS H H':=.of fun a o h od=>k a o h fun z=>by
  obtain ⟨o',e',_,_,no⟩:=(S.get hn).kind z
  rw [h] at e';cases e';exact no od
 have hx:ExtR H m s H' (m.fput n f') (s.set n c'):=by
  refine ⟨az _,fun _ _=>rfl,fun a u h p=>?_,fun a u h _ p=>k _ _ h (p.2 n hin)⟩
  have hne:∃ o,H a=some o:=h.elim (fun h=>⟨_,h⟩) fun ⟨o,h⟩=>⟨_,h⟩
  refine ⟨h.elim (fun h=>.inl (k _ _ h (p.2 n hin))) fun ⟨o,h⟩=>.inr ⟨o,k _ _ h (p.2 n hin)⟩,p.1,fun j hj hm=>?_⟩
  have hm:a∈(if j=n then f' else m.fp j):=hm
  have hj':j∈s.cs.map (·.1):=by rw [← mj (n:=n) (c:=c')];exact hj
  by_cases e:j=n
  ·simp only [e,if_pos] at hm
   rcases hnew a hm with z | z
   ·exact p.2 n hin z
   ·obtain ⟨o,ho⟩:=hne;rw [z] at ho;cases ho
  ·simp only [if_neg e] at hm
   exact p.2 j hj' hm
 refine ⟨⟨?_,?_,fun q hq=>?_,fun j hj i hi hne a ha hb=>?_,fun j hj a ha hb=>?_,S.hsk hkd htb,S.tbk htb⟩,hx,fun hnd=>⟨⟨hx,fun j l hj h=>?_⟩,rfl,hkd⟩⟩
 ·show ((na n c' s.cs).map (·.1)).Nodup
  rw [mj];exact S.nd
 ·intro j hj
  have hj':j∈s.cs.map (·.1):=by rw [← mj (n:=n) (c:=c')];exact hj
  exact S.lt j hj'
 ·rcases xz S.nd hq with rfl | ⟨hq,hne⟩
  ·exact hok hx
  ·refine (S.ok q hq).keep S hx (fun a ha o h=>k a o h (S.dj _ (aj.mpr ⟨q,hq,rfl⟩) _ hin hne a ha)) rfl ?_
   show (if q.1=n then f' else m.fp q.1)=_
   rw [if_neg hne]
 ·have ha:a∈(if j=n then f' else m.fp j):=ha
  have hb:a∈(if i=n then f' else m.fp i):=hb
  have hj':j∈s.cs.map (·.1):=by rw [← mj (n:=n) (c:=c')];exact hj
  have hi':i∈s.cs.map (·.1):=by rw [← mj (n:=n) (c:=c')];exact hi
  have none_out:∀ j∈s.cs.map (·.1),∀ a∈m.fp j,H a≠none:=fun j hj a ha z=>by
   obtain ⟨q,hq,rfl⟩:=aj.mp hj
   obtain ⟨o,e,_⟩:=(S.ok q hq).kind ha
   rw [z] at e;cases e
  by_cases e1:j=n
  ·have e2:i≠n:=fun z=>hne (e1.trans z.symm)
   simp only [e1,if_pos] at ha
   simp only [if_neg e2] at hb
   rcases hnew a ha with z | z
   ·exact S.dj _ hin _ hi' (fun z=>e2 z.symm) a z hb
   ·exact none_out i hi' a hb z
  ·simp only [if_neg e1] at ha
   by_cases e2:i=n
   ·simp only [e2,if_pos] at hb
    rcases hnew a hb with z | z
    ·exact S.dj _ hj' _ hin e1 a ha z
    ·exact none_out j hj' a ha z
   ·simp only [if_neg e2] at hb
    exact S.dj _ hj' _ hi' hne a ha hb
 ·have ha:a∈(if j=n then f' else m.fp j):=ha
  have hj':j∈s.cs.map (·.1):=by rw [← mj (n:=n) (c:=c')];exact hj
  by_cases e1:j=n
  ·rw [if_pos e1] at ha
   rcases hnew a ha with z | z
   ·exact S.hx n hin a z hb
   ·exact (S.hs a hb).1 z
  ·rw [if_neg e1] at ha
   exact S.hx j hj' a ha hb
 ·have hjn:j≠n:=fun z=>by
   subst z
   have h:s.get j=some (.dfz l):=h
   rw [hn] at h
   exact hnd l (aU h)
  refine ⟨(ky hjn).trans h,fun o ho=>?_⟩
  obtain ⟨e1,_⟩:=S.ok _ (kB h)
  exact k _ _ ho (S.dj j (aj.mpr ⟨_,kB h,rfl⟩) n hin hjn _ (by rw [e1];simp))
theorem SR.put {K:aa}{CB:ae}{H:Hp}{m:Mp}{s:Sto} (S:SR K CB H m s) {n:Nat}{c c':Cell} (hn:s.get n=some c) (hnd:∀ l,c≠.dfz l) (H':Hp) (f':List ae) (k:∀ a o,H a=some o→a∉m.fp n→H' a=some o) (hnew:∀ a∈f',a∈m.fp n∨H a=none)
  (hok:ExtR H m s H' (m.fput n f') (s.set n c')→CellOk K CB H' (m.fput n f') (s.set n c') n c'):SR K CB H' (m.fput n f') (s.set n c')∧Ext H m s H' (m.fput n f') (s.set n c') :=
 let ⟨a,_,b⟩:=S.put' hn H' f' k hnew hok;⟨a,b hnd⟩
def Mp.add (m:Mp) (n:Nat) (p:ae) (f:List ae):Mp:=⟨fun j=>if j=n then p else m.ad j,fun j=>if j=n then f else m.fp j,m.hid⟩
theorem SR.add {K:aa}{CB:ae}{H:Hp}{m:Mp}{s:Sto} (S:SR K CB H m s) {c:Cell} (H':Hp) (p:ae) (f:List ae) (k:Same H H') (hf:∀ a∈f,H a=none) (hok:Ext H m s H' (m.add s.nx p f) (s.add c)→CellOk K CB H' (m.add s.nx p f) (s.add c) s.nx c) :
  SR K CB H' (m.add s.nx p f) (s.add c)∧Ext H m s H' (m.add s.nx p f) (s.add c):=by
 have hlt:∀ j∈s.cs.map (·.1),j≠s.nx:=fun j hj=>aQ (S.lt j hj)
 have none_out:∀ j∈s.cs.map (·.1),∀ a∈m.fp j,H a≠none:=fun j hj a ha z=>by
  obtain ⟨q,hq,rfl⟩:=aj.mp hj
  obtain ⟨o,e,_⟩:=(S.ok q hq).kind ha
  rw [z] at e;cases e
 have hx:Ext H m s H' (m.add s.nx p f) (s.add c):=by
  refine ⟨⟨⟨gp _,fun j hj=>?_,fun a u h q=>⟨h.same k,q.1,fun j hj hm=>?_⟩,fun a u h _ _=>k _ _ h⟩,fun j l hj h=>⟨?_,fun o ho=>k _ _ ho⟩⟩,rfl,fun a _ o h _=>k a o h⟩
  rotate_left 2
  ·show lf ((s.nx,c)::s.cs) j=_
   unfold lf
   rw [if_neg (fun z=>aQ hj z.symm)]
   exact h
  ·show (if j=s.nx then p else m.ad j)=_
   rw [if_neg (aQ hj)]
  ·have hm:a∈(if j=s.nx then f else m.fp j):=hm
   rcases ai.mp (show j∈s.nx::s.cs.map (·.1) from hj) with e | hj
   ·rw [if_pos e] at hm
    have:=hf a hm
    rcases h with h | ⟨o,h⟩ <;> (rw [this] at h;cases h)
   ·rw [if_neg (hlt j hj)] at hm
    exact q.2 j hj hm
 have hfp:∀ j∈s.cs.map (·.1),(m.add s.nx p f).fp j=m.fp j:=fun j hj=>by
  show (if j=s.nx then f else m.fp j)=_
  rw [if_neg (hlt j hj)]
 have hfn:(m.add s.nx p f).fp s.nx=f:=by show (if s.nx=s.nx then f else _)=_;rw [if_pos rfl]
 refine ⟨⟨?_,?_,fun q hq=>?_,fun j hj i hi hne a ha hb=>?_,fun j hj a ha hb=>?_,S.hsk hx.hk (.same k),S.tbk (.same k)⟩,hx⟩
 ·exact aw.mpr ⟨fun z=>hlt _ z rfl,S.nd⟩
 ·intro j hj
  rcases ai.mp (show j∈s.nx::s.cs.map (·.1) from hj) with e | hj
  ·rw [e];exact cF _
  ·exact fD (S.lt j hj)
 ·rcases ai.mp (show q∈(s.nx,c)::s.cs from hq) with rfl | hq
  ·exact hok hx
  ·have hqm:q.1∈s.cs.map (·.1):=aj.mpr ⟨q,hq,rfl⟩
   exact (S.ok q hq).keep S hx.toExtR (fun a ha o h=>k a o h) (hx.ad _ (S.lt _ hqm)) (hfp _ hqm)
 ·rcases ai.mp (show j∈s.nx::s.cs.map (·.1) from hj) with e | hj <;> rcases ai.mp (show i∈s.nx::s.cs.map (·.1) from hi) with e' | hi
  ·exact hne (e.trans e'.symm)
  ·rw [e,hfn] at ha;rw [hfp i hi] at hb;exact none_out i hi a hb (hf a ha)
  ·rw [hfp j hj] at ha;rw [e',hfn] at hb;exact none_out j hj a ha (hf a hb)
  ·rw [hfp j hj] at ha;rw [hfp i hi] at hb;exact S.dj j hj i hi hne a ha hb
 ·rcases ai.mp (show j∈s.nx::s.cs.map (·.1) from hj) with e | hj
  ·rw [e,hfn] at ha;exact (S.hs a hb).1 (hf a ha)
  ·rw [hfp j hj] at ha;exact S.hx j hj a ha hb
theorem SR.del {K:aa}{CB:ae}{H:Hp}{m:Mp}{s:Sto} (S:SR K CB H m s) (n:Nat) (hnd:∀ l,s.get n≠some (.dfz l)):SR K CB H m (s.del n)∧Ext H m s H m (s.del n):=by
 have hin:∀ j∈(s.del n).cs.map (·.1),j∈s.cs.map (·.1):=fun j hj=>by
  obtain ⟨q,hq,rfl⟩:=aj.mp hj
  exact aj.mpr ⟨q,pI hq,rfl⟩
 have hx:Ext H m s H m (s.del n):=⟨⟨⟨az _,fun _ _=>rfl,fun a u h p=>⟨h,p.1,fun j hj=>p.2 j (hin j hj)⟩,fun _ _ h _ _=>h⟩,fun j l hj h=>⟨(pC (fun z=>hnd l (by rw [← z];exact h))).trans h,fun o h=>h⟩⟩,rfl,fun _ _ _ h _=>h⟩
 exact ⟨⟨zE S.nd,fun j hj=>S.lt j (hin j hj),fun q hq=>(S.ok q (pI hq)).keep S hx.toExtR (fun _ _ _ h=>h) rfl rfl,fun j hj i hi=>S.dj j (hin j hj) i (hin i hi),fun j hj=>S.hx j (hin j hj),S.hs,S.tb⟩,hx⟩
inductive Out (α:Type) where
 | ok (a:α) (s:Sto) | ex (c:ae) (s:Sto) | bad
def Out.bind {α β:Type} (o:Out α) (k:α→Sto→Out β):Out β:=match o with
 | .ok a s=>k a s
 | .ex c s=>.ex c s
 | .bad=>.bad
abbrev En:=List (Option PV)
abbrev XE:=En→Sto→Out PV
abbrev XT:=En→Sto→Out Bool
abbrev XA:=En→Sto→Out (List PV)
inductive SO where
 | nx (ρ:En) (s:Sto) | rt (v:PV) (s:Sto) | bk (ρ:En) (s:Sto) | ct (ρ:En) (s:Sto) | ex (c:ae) (s:Sto) | bad
abbrev XS:=En→Sto→SO
def Post {α β:Type} (K:aa) (CB:ae) (R:Hp→Mp→Sto→β→α→Prop) (E:XK) (o:Out α) (H:Hp) (m:Mp) (s:Sto) (Q:β→Hp→Prop):Prop:=match o with
 | .ok v s'=>∀ u H' m',Ext H m s H' m' s'→SR K CB H' m' s'→R H' m' s' u v→Q u H'
 | .ex c s'=>∀ H' m',Ext H m s H' m' s'→SR K CB H' m' s'→E (.ref c) none H'
 | .bad=>False
theorem Post.shift {α β:Type}{K:aa}{CB:ae}{R:Hp→Mp→Sto→β→α→Prop}{E:XK}{o:Out α}{H H1:Hp}{m m1:Mp}{s s1:Sto}{Q:β→Hp→Prop} (e:Ext H m s H1 m1 s1) (h:Post K CB R E o H m s Q):Post K CB R E o H1 m1 s1 Q:=by
 cases o with
 | ok v s'=>exact fun u H' m' x S r=>h u H' m' (e.trans x) S r
 | ex c s'=>exact fun H' m' x S=>h H' m' (e.trans x) S
 | bad=>exact h
theorem Post.bind {α β α' β':Type}{K:aa}{CB:ae}{R:Hp→Mp→Sto→β→α→Prop}{R':Hp→Mp→Sto→β'→α'→Prop}{E:XK}{o:Out α}{k:α→Sto→Out α'}{H:Hp}{m:Mp}{s:Sto}{Q:β'→Hp→Prop}{Q1:β→Hp→Prop} (h:Post K CB R' E (o.bind k) H m s Q)
  (f:∀ v s1 u H1 m1,Ext H m s H1 m1 s1→SR K CB H1 m1 s1→R H1 m1 s1 u v→Post K CB R' E (k v s1) H1 m1 s1 Q→Q1 u H1):Post K CB R E o H m s Q1:=by
 cases o with
 | ok v s1=>exact fun u H1 m1 x S r=>f v s1 u H1 m1 x S r (Post.shift x h)
 | ex c s'=>exact h
 | bad=>exact h
theorem Post.here {α β:Type}{K:aa}{CB:ae}{R:Hp→Mp→Sto→β→α→Prop}{E:XK}{v:α}{H:Hp}{m:Mp}{s:Sto}{Q:β→Hp→Prop}{u:β} (h:Post K CB R E (.ok v s) H m s Q) (S:SR K CB H m s) (r:R H m s u v):Q u H:=h u H m .refl S r
theorem Post.new {α β:Type}{K:aa}{CB:ae}{R:Hp→Mp→Sto→β→α→Prop}{E:XK}{v:α}{H:Hp}{m:Mp}{s:Sto}{Q:β→Hp→Prop}{u:β}{p:ae}{o:HO} (h:Post K CB R E (.ok v s) H m s Q) (S:SR K CB H m s) (hp:H p=none)
  (r:Ext H m s (upd H p o) m s→SR K CB (upd H p o) m s→R (upd H p o) m s u v):Q u (upd H p o):=by
 have k:Same H (upd H p o):=My.mC hp
 exact h u _ m (.same k) (S.same k) (r (.same k) (S.same k))
structure ER (K:aa) (H:Hp) (m:Mp) (s:Sto) (σ:St) (ρ:En):Prop where
 len:ρ.length=σ.length
 at_:∀ (i:Nat) (p:PV),ρ[i]?=some (some p)→∃ u,σ[i]?=some (some u)∧Rep K H m s u p
theorem ER.ext {K:aa}{H H':Hp}{m m':Mp}{s s':Sto}{σ:St}{ρ:En} (h:ER K H m s σ ρ) (e:Ext H m s H' m' s'):ER K H' m' s' σ ρ :=
 ⟨h.len,fun i p q=>let ⟨u,a,b⟩:=h.at_ i p q;⟨u,a,b.ext e⟩⟩
theorem ER.set {K:aa}{H:Hp}{m:Mp}{s:Sto}{σ:St}{ρ:En}{u:V}{p:PV} (h:ER K H m s σ ρ) (i:Nat) (r:Rep K H m s u p):ER K H m s (σ.set i (some u)) (ρ.set i (some p)):=by
 refine ⟨by simp [h.len],fun j q e=>?_⟩
 rw [List.getElem?_set] at e ⊢
 by_cases c:i=j
 ·rw [if_pos c] at e ⊢
  by_cases d:i < ρ.length
  ·rw [if_pos d] at e;rw [if_pos (by rw [← h.len];exact d)];cases e;exact ⟨u,rfl,r⟩
  ·rw [if_neg d] at e;cases e
 ·rw [if_neg c] at e ⊢;exact h.at_ j q e
theorem ER.cons {K:aa}{H:Hp}{m:Mp}{s:Sto}{σ:St}{ρ:En}{u:V}{p:PV} (h:ER K H m s σ ρ) (r:Rep K H m s u p):ER K H m s (some u::σ) (some p::ρ):=by
 refine ⟨by simp [h.len],fun j q e=>?_⟩
 cases j with
 | zero=>simp at e;subst e;exact ⟨u,rfl,r⟩
 | succ j=>exact h.at_ j q (by simpa using e)
theorem ER.start {K:aa}{H:Hp}{m:Mp}{s:Sto}:∀ {vs:List V}{ps:List PV},Reps K H m s vs ps→∀ n,ER K H m s (vs.map some++aW n none) (ps.map some++aW n none)
 | _,_,.nil,n=>⟨by simp,fun i p e=>by
   have e:(aW n (none:Option PV))[i]?=some (some p):=by simpa using e
   rw [fO] at e
   split at e <;> cases e⟩
 | _,_,.cons a b,n=>(ER.start b n).cons a
def kj (ix:List Nat) (ρ:En):En:=ix.map fun i=>(ρ[i]?).getD none
theorem ER.capt {K:aa}{H:Hp}{m:Mp}{s:Sto}{σ:St}{ρ:En} (h:ER K H m s σ ρ) (ix:List Nat):ER K H m s (capt ix σ) (kj ix ρ):=by
 refine ⟨by simp [L2.capt,kj],fun j q e=>?_⟩
 unfold kj at e
 unfold L2.capt
 rw [bo] at e ⊢
 cases c:ix[j]? with
 | none=>rw [c] at e;cases e
 | some i =>
  rw [c] at e
  have e:(ρ[i]?).getD none=some q:=aU e
  cases d:ρ[i]? with
  | none=>rw [d] at e;cases e
  | some o =>
   rw [d] at e
   have e:o=some q:=e
   subst e
   obtain ⟨u,h1,h2⟩:=h.at_ i q d
   refine ⟨u,?_,h2⟩
   show some ((σ[i]?).getD none)=_
   rw [h1];rfl
def TDE (K:aa) (CB:ae) (E:XK) (f:XE):TE:=fun σ H Q=>∃ ρ s m,ER K H m s σ ρ∧SR K CB H m s∧Post K CB (Rep K) E (f ρ s) H m s Q
def TDT (K:aa) (CB:ae) (E:XK) (f:XT):TT:=fun σ H Q=>∃ ρ s m,ER K H m s σ ρ∧SR K CB H m s∧Post K CB (fun _ _ _ u v=>u=v) E (f ρ s) H m s Q
def TDA (K:aa) (CB:ae) (E:XK) (f:XA):TA:=fun σ H Q=>∃ ρ s m,ER K H m s σ ρ∧SR K CB H m s∧Post K CB (Reps K) E (f ρ s) H m s Q
def PostS (K:aa) (CB:ae) (E:XK) (o:SO) (H:Hp) (m:Mp) (s:Sto) (D:Ends):Prop:=match o with
 | .nx ρ' s'=>∀ σ' H' m',Ext H m s H' m' s'→SR K CB H' m' s'→ER K H' m' s' σ' ρ'→D.nx σ' H'
 | .rt v s'=>∀ u H' m',Ext H m s H' m' s'→SR K CB H' m' s'→Rep K H' m' s' u v→D.rt u H'
 | .bk ρ' s'=>∀ σ' H' m',Ext H m s H' m' s'→SR K CB H' m' s'→ER K H' m' s' σ' ρ'→D.bk σ' H'
 | .ct ρ' s'=>∀ σ' H' m',Ext H m s H' m' s'→SR K CB H' m' s'→ER K H' m' s' σ' ρ'→D.ct σ' H'
 | .ex c s'=>∀ H' m',Ext H m s H' m' s'→SR K CB H' m' s'→E (.ref c) none H'
 | .bad=>False
def TDS (K:aa) (CB:ae) (E:XK) (g:XS):TS:=fun D σ H=>∃ ρ s m,ER K H m s σ ρ∧SR K CB H m s∧PostS K CB E (g ρ s) H m s D
structure DE (X:Cx) (CB:ae) (E:XK) (e:a8) (f:XE):Prop where
 pe:PE X e (TDE X.K CB E f)
structure DT (X:Cx) (CB:ae) (E:XK) (e:a8) (f:XT):Prop where
 pt:PT X e (TDT X.K CB E f)
structure DW (X:Cx) (CB:ae) (E:XK) (e:a8) (f:XT):Prop where
 pw:PW X e (TDT X.K CB E f)
structure DA (X:Cx) (CB:ae) (E:XK) (es:List a8) (f:XA):Prop where
 pa:PA X es (TDA X.K CB E f)
structure DS (X:Cx) (CB:ae) (E:XK) (st:bT) (g:XS):Prop where
 ps:PS X st (TDS X.K CB E g)
structure DSs (X:Cx) (CB:ae) (E:XK) (st:List bT) (g:XS):Prop where
 pss:PSs X st (TDS X.K CB E g)
theorem PE.mono {X:Cx}{e:a8}{t t':TE} (h:PE X e t) (k:∀ σ H Q,t' σ H Q→t σ H Q):PE X e t':=fun pins s σ H Q I q=>h pins s σ H Q I (k σ H Q q)
theorem PT.mono {X:Cx}{e:a8}{t t':TT} (h:PT X e t) (k:∀ σ H Q,t' σ H Q→t σ H Q):PT X e t':=fun pins s σ H Q I q=>h pins s σ H Q I (k σ H Q q)
theorem PW.mono {X:Cx}{e:a8}{t t':TT} (h:PW X e t) (k:∀ σ H Q,t' σ H Q→t σ H Q):PW X e t':=fun w pins s σ H Q I q=>h w pins s σ H Q I (k σ H Q q)
theorem PA.mono {X:Cx}{e:List a8}{t t':TA} (h:PA X e t) (k:∀ σ H Q,t' σ H Q→t σ H Q):PA X e t':=fun pos pins s σ H Q I q=>h pos pins s σ H Q I (k σ H Q q)
theorem PS.mono {X:Cx}{e:bT}{t t':TS} (h:PS X e t) (k:∀ D σ H,t' D σ H→t D σ H):PS X e t':=fun pins s σ H D I q=>h pins s σ H D I (k D σ H q)
theorem PSs.mono {X:Cx}{e:List bT}{t t':TS} (h:PSs X e t) (k:∀ D σ H,t' D σ H→t D σ H):PSs X e t':=fun pins s σ H D I q=>h pins s σ H D I (k D σ H q)
def xVar (i:Nat) (ρ:En) (s:Sto):Out PV:=match ρ[i]? with
 | some (some p)=>.ok p s
 | _=>.bad
def xC (p:PV) (_:En) (s:Sto):Out PV:=.ok p s
def x1 (f:XE) (F:PV→Sto→Out PV) (ρ:En) (s:Sto):Out PV:=(f ρ s).bind F
def x2 (f g:XE) (F:PV→PV→Sto→Out PV) (ρ:En) (s:Sto):Out PV:=(f ρ s).bind fun v s1=>(g ρ s1).bind fun w s2=>F v w s2
def xNil (_:En) (s:Sto):Out (List PV):=.ok [] s
def xCons (f:XE) (g:XA) (ρ:En) (s:Sto):Out (List PV):=(f ρ s).bind fun v s1=>(g ρ s1).bind fun vs s2=>.ok (v::vs) s2
section
variable {X:Cx}{CB:ae}{E:XK}{a b c e:a8}{es:List a8}{f g h:XE}{fa:XA}{p pos apos:Pos}{x:Str}
def Op2 (K:aa) (CB:ae) (E:XK) (r:R2) (F:PV→PV→Sto→Out PV):Prop:=∀ H m s v w x y Q,SR K CB H m s→Rep K H m s x v→Rep K H m s y w→Post K CB (Rep K) E (F v w s) H m s Q→r x y H Q
def Op1 (K:aa) (CB:ae) (E:XK) (r:V→Hp→VK→Prop) (F:PV→Sto→Out PV):Prop:=∀ H m s v x Q,SR K CB H m s→Rep K H m s x v→Post K CB (Rep K) E (F v s) H m s Q→r x H Q
def OpN (K:aa) (CB:ae) (E:XK) (r:List V→Hp→VK→Prop) (F:List PV→Sto→Out PV):Prop:=∀ H m s v x Q,SR K CB H m s→Reps K H m s x v→Post K CB (Rep K) E (F v s) H m s Q→r x H Q
theorem two {r:R2}{F:PV→PV→Sto→Out PV} (o:Op2 X.K CB E r F) {σ:St}{H:Hp}{Q:VK} (q:TDE X.K CB E (x2 f g F) σ H Q):tOp r (TDE X.K CB E f) (TDE X.K CB E g) σ H Q:=by
 obtain ⟨ρ,s,m,er,S,P⟩:=q
 exact ⟨ρ,s,m,er,S,P.bind fun v s1 u H1 m1 e1 S1 r1 P1=>⟨ρ,s1,m1,er.ext e1,S1,P1.bind fun w s2 u2 H2 m2 e2 S2 r2 P2=>o H2 m2 s2 v w u u2 Q S2 (r1.ext e2) r2 P2⟩⟩
theorem jI (i:Nat) (hN:X.N[i]?=some x:=by rfl) (hv:Vis X.env.scope x:=by first | exact ba rfl | exact fL (ba rfl) | exact fL (fL rfl)) (hd:(x == ("__debug__":Str))=false:=by decide)
  (hcd:(x == ("__classdict__":Str))=false:=by decide):DE X CB E (.Name x pos) (xVar i):=⟨(yY hN hv hd hcd).mono fun σ H Q ⟨ρ,s,m,er,S,P⟩=>by
 unfold xVar at P
 split at P
 ·rename_i q hq
  obtain ⟨u,h1,h2⟩:=er.at_ i q hq
  exact ⟨u,h1,P.here S h2⟩
 ·exact P.elim⟩
theorem jL {i:Int}{j:Nat}:DE X CB E (.Constant (.int i) j pos) (xC (.int i)):=⟨pe_int.mono fun σ H Q ⟨ρ,s,m,er,S,P⟩=>P.here S .int⟩
theorem EI {i:Bool}{j:Nat}:DE X CB E (.Constant (.bool i) j pos) (xC (.bl i)):=⟨pe_bl.mono fun σ H Q ⟨ρ,s,m,er,S,P⟩=>P.here S .bl⟩
theorem kY {i:Str}{j:Nat}:DE X CB E (.Constant (.str i) j pos) (xC (.str i)):=⟨pe_str.mono fun σ H Q ⟨ρ,s,m,er,S,P⟩=>P.here S .str⟩
theorem uX {op:Operator}{r:R2}{F:PV→PV→Sto→Out PV} (ho:OpR X (cR op) r) (o:Op2 X.K CB E r F) (ha:DE X CB E a f) (hb:DE X CB E b g):DE X CB E (.BinOp a op b pos) (x2 f g F):=⟨(oQ ho ha.pe hb.pe).mono fun σ H Q q=>two o q⟩
theorem de_un {op:UnaryOp}{r:V→Hp→VK→Prop}{F:PV→Sto→Out PV} (ho:UnR X (unaryOp op) r) (o:Op1 X.K CB E r F) (ha:DE X CB E a f):DE X CB E (.UnaryOp op a pos) (x1 f F):=⟨(Er ho ha.pe).mono fun σ H Q ⟨ρ,s,m,er,S,P⟩ =>
 ⟨ρ,s,m,er,S,P.bind fun v s1 u H1 m1 e1 S1 r1 P1=>o H1 m1 s1 v u Q S1 r1 P1⟩⟩
theorem de_cmp {op:gY}{r:R2}{F:PV→PV→Sto→Out PV} (ho:OpR X (ci op) r) (o:Op2 X.K CB E r F) (ha:DE X CB E a f) (hb:DE X CB E b g) (hm:cq op b=false):DE X CB E (.Compare a [op] [b] pos) (x2 f g F):=⟨(zu ho ha.pe hb.pe hm).mono fun σ H Q q=>two o q⟩
def xTr (f:XE) (ρ:En) (s:Sto):Out Bool:=(f ρ s).bind fun v s1=>match v with
 | .bl b=>.ok b s1
 | _=>.bad
theorem TDT.tst {σ:St}{H:Hp}{Q:Bool→Hp→Prop} (q:TDT X.K CB E (xTr f) σ H Q):TDE X.K CB E f σ H fun x H1=>∃ k,x=.bl k∧Q k H1:=by
 obtain ⟨ρ,s,m,er,S,P⟩:=q
 refine ⟨ρ,s,m,er,S,P.bind fun v s1 u H1 m1 e1 S1 r1 P1=>?_⟩
 cases r1 <;> first | exact P1.elim | exact ⟨_,rfl,P1.here S1 rfl⟩
theorem dt_cmp {op:gY}{r:R2}{F:PV→PV→Sto→Out PV} (ho:OpR X (ci op) r) (o:Op2 X.K CB E r F) (ha:DE X CB E a f) (hb:DE X CB E b g) (hm:cq op b=false):DT X CB E (.Compare a [op] [b] pos) (xTr (x2 f g F)):=⟨(pX ho ha.pe hb.pe hm).mono fun σ H Q q=>two o (TDT.tst q)⟩
theorem FG (h:DE X CB E e f) (he:∀ whole,isTrue e X.env whole=(do let v ← whole;fS e.pos;holding [v] (truthy v)):=by intro _;rfl):DT X CB E e (xTr f):=⟨(qE h.pe he).mono fun σ H Q q=>TDT.tst q⟩
def xChain (f g h:XE) (F G:PV→PV→Sto→Out PV) (ρ:En) (s:Sto):Out PV:=(f ρ s).bind fun v s1=>(g ρ s1).bind fun w s2=>(F v w s2).bind fun z s3=>match z with
 | .bl true=>(h ρ s3).bind fun y s4=>G w y s4
 | .bl false=>.ok (.bl false) s3
 | _=>.bad
def xNot (f:XT) (ρ:En) (s:Sto):Out Bool:=(f ρ s).bind fun b s1=>.ok (!b) s1
def xAnd (f g:XT) (ρ:En) (s:Sto):Out Bool:=(f ρ s).bind fun b s1=>if b=true then g ρ s1 else .ok false s1
def xOr (f g:XT) (ρ:En) (s:Sto):Out Bool:=(f ρ s).bind fun b s1=>if b=true then .ok true s1 else g ρ s1
variable {t u:XT}{mH:List a8}
theorem FH (h:DT X CB E a t):DT X CB E (.UnaryOp .Not a pos) (xNot t):=⟨(um h.pt).mono fun σ H Q ⟨ρ,s,m,er,S,P⟩ =>
 ⟨ρ,s,m,er,S,P.bind fun v s1 b H1 m1 e1 S1 r1 P1=>by cases r1;exact P1.here S1 rfl⟩⟩
theorem FF (h:DT X CB E a t):DW X CB E (.BoolOp .Or [a] pos) t:=⟨Ck h.pt⟩
theorem dw_or (h:DT X CB E a t) (k:DW X CB E (.BoolOp .Or (b::mH) pos) u):DW X CB E (.BoolOp .Or (a::b::mH) pos) (xOr t u):=⟨(Eo h.pt k.pw).mono fun σ H Q ⟨ρ,s,m,er,S,P⟩ =>
 ⟨ρ,s,m,er,S,P.bind fun v s1 b H1 m1 e1 S1 r1 P1=>by
  cases r1
  refine qm (fun c=>?_) fun c=>?_
  ·rw [if_pos c] at P1;exact P1.here S1 rfl
  ·rw [if_neg c] at P1;exact ⟨ρ,s1,m1,er.ext e1,S1,P1⟩⟩⟩
theorem DW.dt (h:DW X CB E a t):DT X CB E a t:=⟨h.pw.pt⟩
def xAndV (f g:XE) (ρ:En) (s:Sto):Out PV:=(f ρ s).bind fun v s1=>match v with
 | .bl true=>g ρ s1
 | .bl false=>.ok (.bl false) s1
 | _=>.bad
def xOrV (f g:XE) (ρ:En) (s:Sto):Out PV:=(f ρ s).bind fun v s1=>match v with
 | .bl true=>.ok (.bl true) s1
 | .bl false=>g ρ s1
 | _=>.bad
def xNotV (f:XE) (ρ:En) (s:Sto):Out PV:=(f ρ s).bind fun v s1=>match v with
 | .bl b=>.ok (.bl (!b)) s1
 | _=>.bad
theorem jN:DA X CB E [] xNil:=⟨pa_nil.mono fun σ H Q ⟨ρ,s,m,er,S,P⟩=>P.here S .nil⟩
theorem jH (ha:DE X CB E e f) (hr:DA X CB E es fa) (hs:aR (e::es) X.env=(false,eval e X.env)::aR es X.env:=by rfl):DA X CB E (e::es) (xCons f fa):=⟨(jR ha.pe hr.pa hs).mono fun σ H Q ⟨ρ,s,m,er,S,P⟩ =>
 ⟨ρ,s,m,er,S,P.bind fun v s1 u H1 m1 e1 S1 r1 P1=>⟨ρ,s1,m1,er.ext e1,S1,P1.bind fun w s2 u2 H2 m2 e2 S2 r2 P2=>P2.here S2 (.cons (r1.ext e2) r2)⟩⟩⟩
theorem Reps.length {K:aa}{H:Hp}{m:Mp}{s:Sto}:∀ {vs:List V}{l:List PV},Reps K H m s vs l→vs.length=l.length
 | _,_,.nil=>rfl
 | _,_,.cons _ b=>congrArg Nat.succ b.length
theorem sz5 {n:Nat} (h:n≤100000):n≤aI:=aJ h (by decide)
theorem sz6 {n:Nat} (h:n < 100000):n < aI:=aH h (by decide)
def xTup (fa:XA) (ρ:En) (s:Sto):Out PV:=(fa ρ s).bind fun vs s1=>if vs.length≤100000 then .ok (.tup vs) s1 else .bad
def xLst (fa:XA) (ρ:En) (s:Sto):Out PV:=(fa ρ s).bind fun vs s1=>if vs.length≤100000 then .ok (.lst vs) s1 else .bad
def xLstC (fa:XA) (ρ:En) (s:Sto):Out PV:=(fa ρ s).bind fun vs s1=>if vs.length≤100000 then .ok (.ref s1.nx) (s1.add (.lst vs)) else .bad
theorem qF {x1} (h:DA X CB E es fa):DE X CB E (.Tuple es x1 pos) (xTup fa):=⟨(ut h.pa).mono fun σ H Q ⟨ρ,s,m,er,S,P⟩ =>
 ⟨ρ,s,m,er,S,P.bind fun v s1 u H1 m1 e1 S1 r1 P1=>by
  split at P1
  ·rename_i hl
   exact ⟨by rw [r1.length];exact sz5 hl,fun p hp=>P1.new S1 hp fun ex S'=>.tup (.inl ⟨.inl jK,S'.pure_tup jK⟩) (r1.ext ex)⟩
  ·exact P1.elim⟩⟩
theorem mZ (h:DA X CB E es fa):DE X CB E (.List es pos) (xLst fa):=⟨(Cr h.pa).mono fun σ H Q ⟨ρ,s,m,er,S,P⟩ =>
 ⟨ρ,s,m,er,S,P.bind fun v s1 u H1 m1 e1 S1 r1 P1=>by
  split at P1
  ·rename_i hl
   exact ⟨by rw [r1.length];exact sz5 hl,fun p hp=>P1.new S1 hp fun ex S'=>.lst jK (S1.pure_none hp) (r1.ext ex)⟩
  ·exact P1.elim⟩⟩
theorem SR.newL {K:aa}{H:Hp}{m:Mp}{s:Sto}{vs:List V}{l:List PV}{p:ae} (S:SR K CB H m s) (hp:H p=none) (r:Reps K H m s vs l):SR K CB (upd H p (.lst vs)) (m.add s.nx p [p]) (s.add (.lst l))∧Ext H m s (upd H p (.lst vs)) (m.add s.nx p [p]) (s.add (.lst l)) :=
 S.add _ p [p] (My.mC hp) (fun a ha=>by rw [aE.mp ha];exact hp) fun ex=>by
  have e1:(m.add s.nx p [p]).ad s.nx=p:=by show (if s.nx=s.nx then p else _)=_;rw [if_pos rfl]
  have e2:(m.add s.nx p [p]).fp s.nx=[p]:=by show (if s.nx=s.nx then [p] else _)=_;rw [if_pos rfl]
  exact ⟨by rw [e1,e2],vs,by rw [e1];exact jK,r.ext ex⟩
theorem SR.newD {K:aa}{H H':Hp}{m:Mp}{s:Sto}{vs:List (Key×V)}{l:List (Key×PV)}{p:ae} (S:SR K CB H m s) (hp:H p=none) (k:Same H H') (hd:H' p=some (.dK vs)) (r:RepKs K H m s vs l):SR K CB H' (m.add s.nx p [p]) (s.add (.dct l))∧Ext H m s H' (m.add s.nx p [p]) (s.add (.dct l)) :=
 S.add _ p [p] k (fun a ha=>by rw [aE.mp ha];exact hp) fun ex=>by
  have e1:(m.add s.nx p [p]).ad s.nx=p:=by show (if s.nx=s.nx then p else _)=_;rw [if_pos rfl]
  have e2:(m.add s.nx p [p]).fp s.nx=[p]:=by show (if s.nx=s.nx then [p] else _)=_;rw [if_pos rfl]
  exact ⟨by rw [e1,e2],vs,by rw [e1];exact hd,r.ext ex⟩
theorem Mp.add_ad {m:Mp}{n:Nat}{p:ae}{f:List ae}:(m.add n p f).ad n=p:=by show (if n=n then p else _)=_;rw [if_pos rfl]
theorem Rep.new {K:aa}{H:Hp}{m:Mp}{s:Sto}{p:ae}{f:List ae}{c:Cell}:Rep K H (m.add s.nx p f) (s.add c) (.ref p) (.ref s.nx):=by
 have h:Rep K H (m.add s.nx p f) (s.add c) (.ref ((m.add s.nx p f).ad s.nx)) (.ref s.nx):=.ref (cF _)
 rw [Mp.add_ad] at h;exact h
theorem wE (h:DA X CB E es fa):DE X CB E (.List es pos) (xLstC fa):=⟨(Cr h.pa).mono fun σ H Q ⟨ρ,s,m,er,S,P⟩ =>
 ⟨ρ,s,m,er,S,P.bind fun v s1 u H1 m1 e1 S1 r1 P1=>by
  split at P1
  ·rename_i hl
   refine ⟨by rw [r1.length];exact sz5 hl,fun p hp=>?_⟩
   obtain ⟨S2,e2⟩:=S1.newL hp r1
   exact P1 _ _ _ e2 S2 .new
  ·exact P1.elim⟩⟩
end
def lsOf (s:Sto):PV→Option (List PV)
 | .lst l=>some l
 | .seq l=>some l
 | .ref n=>match s.get n with
  | some (.lst l)=>some l
  | _=>none
 | _=>none
def dcOf (s:Sto):PV→Option (List (Key×PV))
 | .dct l=>some l
 | .ref n=>match s.get n with
  | some (.dct l)=>some l
  | some (.dfz l)=>some l
  | _=>none
 | _=>none
def kyOf:PV→Option Key
 | .int i=>some (.inl i)
 | .str x=>some (.inr x)
 | _=>none
def toV:PV→Option V
 | .non=>some .non
 | .bl b=>some (.bl b)
 | .int i=>some (.int i)
 | .str x=>some (.str x)
 | _=>none
def toVs:List PV→Option (List V)
 | []=>some []
 | p::l=>match toV p,toVs l with
  | some v,some vs=>some (v::vs)
  | _,_=>none
def mQ (l:List (Key×PV)) (k:Key):Option PV:=(l.find? fun kv=>decide (kv.1=k)).map (·.2)
def AG (l:List (Key×PV)) (k:Key) (p:PV):List (Key×PV) :=
 if (l.any fun kv=>decide (kv.1=k))=true then l.map (fun kv=>if kv.1=k then (kv.1,p) else kv) else l++[(k,p)]
def vq (f:PV→Option PyData):List PV→Option (List PyData)
 | []=>some []
 | p::l=>match f p,vq f l with
  | some d,some ds=>some (d::ds)
  | _,_=>none
def PV.data (s:Sto):Nat→PV→Option PyData
 | 0,_=>none
 | _+1,.non=>some .none
 | _+1,.bl b=>some (.bool b)
 | _+1,.int i=>some (.int i)
 | _+1,.str x=>if bJ x=true then some (.str x) else none
 | k+1,.tup l=>(vq (PV.data s k) l).map .tuple
 | k+1,.lst l=>(vq (PV.data s k) l).map .list
 | k+1,.seq l=>(vq (PV.data s k) l).map .list
 | k+1,.ref n=>match s.get n with
  | some (.lst l)=>(vq (PV.data s k) l).map .list
  | _=>none
 | _+1,_=>none
section
variable {K:aa}{CB:ae}{H:Hp}{m:Mp}{s:Sto}{x y:V}{v w:PV}
theorem Rep.ls (S:SR K CB H m s) (r:Rep K H m s x v) {l:List PV} (e:lsOf s v=some l):∃ a vs,x=.ref a∧SqL K H a vs∧Reps K H m s vs l:=by
 cases r with
 | lst h _ q=>cases e;exact ⟨_,_,rfl,SqL.of h,q⟩
 | seq h q=>cases e;exact ⟨_,_,rfl,h.elim (fun z=>.inl (.inr z.1)) .inr,q⟩
 | ref h =>
  rename_i n
  have e:(match s.get n with | some (.lst l)=>some l | _=>none)=some l:=e
  split at e <;> cases e
  rename_i hg
  obtain ⟨_,vs,h1,h2⟩:=S.get hg
  exact ⟨_,vs,rfl,SqL.of h1,h2⟩
 | _=>cases e
theorem Rep.tp (r:Rep K H m s x (.tup l)):∃ a vs,x=.ref a∧SqT K H a vs∧Reps K H m s vs l:=by
 cases r with
 | tup h q=>exact ⟨_,_,rfl,h.elim (fun z=>.inl z.1) .inr,q⟩
theorem Rep.dc (S:SR K CB H m s) (r:Rep K H m s x v) {l:List (Key×PV)} (e:dcOf s v=some l):∃ a vs,x=.ref a∧Rd H a (.dK vs)∧RepKs K H m s vs l:=by
 cases r with
 | dct h _ q=>cases e;exact ⟨_,_,rfl,h,q⟩
 | ref h =>
  rename_i n
  have e:(match s.get n with | some (.dct l)=>some l | some (.dfz l)=>some l | _=>none)=some l:=e
  split at e <;> cases e
  ·rename_i hg
   obtain ⟨_,vs,h1,h2⟩:=S.get hg
   exact ⟨_,vs,rfl,.inl h1,h2⟩
  ·rename_i hg
   obtain ⟨_,ob,vs,h1,h2⟩:=S.get hg
   exact ⟨_,vs,rfl,.inr ⟨ob,h1⟩,h2⟩
 | _=>cases e
theorem Reps.get:∀ {vs:List V}{l:List PV}{i:Nat}{p:PV},Reps K H m s vs l→l[i]?=some p→∃ u,vs[i]?=some u∧Rep K H m s u p
 | _,_,_,_,.nil,e=>by simp at e
 | _,_,0,_,.cons a _,e=>by simp at e;subst e;exact ⟨_,rfl,a⟩
 | _,_,i+1,p,.cons _ b,e=>by
  obtain ⟨u,h1,h2⟩:=b.get (i:=i) (p:=p) (by simpa using e)
  exact ⟨u,by simpa using h1,h2⟩
theorem Reps.atI {vs:List V}{l:List PV} (r:Reps K H m s vs l) {i:Int}{p:PV} (e:L2.atI l i=some p):∃ u,L2.atI vs i=some u∧Rep K H m s u p:=by
 unfold L2.atI at e ⊢
 rw [r.length]
 cases c:ixN l.length i with
 | none=>rw [c] at e;cases e
 | some j=>rw [c] at e;exact r.get e
theorem Reps.append:∀ {vs ws:List V}{l k:List PV},Reps K H m s vs l→Reps K H m s ws k→Reps K H m s (vs++ws) (l++k)
 | _,_,_,_,.nil,q=>q
 | _,_,_,_,.cons a b,q=>.cons a (b.append q)
theorem Reps.drop:∀ {vs:List V}{l:List PV} (n:Nat),Reps K H m s vs l→Reps K H m s (vs.drop n) (l.drop n)
 | _,_,0,r=>r
 | _,_,_+1,.nil=>.nil
 | _,_,n+1,.cons _ b=>b.drop n
theorem Reps.take:∀ {vs:List V}{l:List PV} (n:Nat),Reps K H m s vs l→Reps K H m s (vs.take n) (l.take n)
 | _,_,0,_=>.nil
 | _,_,_+1,.nil=>.nil
 | _,_,n+1,.cons a b=>.cons a (b.take n)
theorem Reps.set:∀ {vs:List V}{l:List PV}{u:V}{p:PV} (i:Nat),Reps K H m s vs l→Rep K H m s u p→Reps K H m s (vs.set i u) (l.set i p)
 | _,_,_,_,_,.nil,_=>.nil
 | _,_,_,_,0,.cons _ b,r=>.cons r b
 | _,_,_,_,i+1,.cons a b,r=>.cons a (b.set i r)
theorem Reps.strs:∀ {vs:List V}{ss:List Str},Reps K H m s vs (ss.map PV.str)→vs=ss.map V.str
 | _,[],.nil=>rfl
 | _,x::ss,.cons a b=>by cases a;rw [Reps.strs (ss:=ss) b];rfl
theorem Reps.ofStrs:∀ (ss:List Str),Reps K H m s (ss.map V.str) (ss.map PV.str)
 | []=>.nil
 | _::r=>.cons .str (Reps.ofStrs r)
theorem RepKs.keys:∀ {vs:List (Key×V)}{l:List (Key×PV)},RepKs K H m s vs l→vs.map (·.1)=l.map (·.1)
 | _,_,.nil=>rfl
 | _,_,.cons _ b=>by simp [b.keys]
theorem RepKs.length {vs:List (Key×V)}{l:List (Key×PV)} (r:RepKs K H m s vs l):vs.length=l.length:=by have:=congrArg cL r.keys;simpa using this
theorem RepKs.val:∀ {vs:List (Key×V)}{l:List (Key×PV)} (k:Key),RepKs K H m s vs l→(∀ p,mQ l k=some p→∃ u,l5 vs k=some u∧Rep K H m s u p)∧(mQ l k=none→l5 vs k=none)
 | _,_,k,.nil=>⟨fun p e=>(by cases e),fun _=>rfl⟩
 | _,_,k,.cons (k:=q) (p:=p0) (v:=v0) a b=>by
  by_cases e:q=k
  ·refine ⟨fun p h=>⟨v0,qH e,?_⟩,fun h=>?_⟩
   ·unfold mQ at h;simp [e] at h;subst h;exact a
   ·unfold mQ at h;simp [e] at h
  ·rw [qI e]
   have h2:∀ {l:List (Key×PV)},mQ ((q,p0)::l) k=mQ l k:=fun {l}=>by unfold mQ;simp [e]
   rw [h2]
   exact b.val k
theorem RepKs.any {vs:List (Key×V)}{l:List (Key×PV)} (r:RepKs K H m s vs l) (k:Key):(vs.any fun kv=>decide (kv.1=k))=l.any fun kv=>decide (kv.1=k):=by
 have h:∀ {β:Type} (l:List (Key×β)),(l.any fun kv=>decide (kv.1=k))=(l.map (·.1)).any fun j=>decide (j=k):=fun l=>by rw [gQ];rfl
 rw [h,h,r.keys]
theorem RepKs.mapput:∀ {vs:List (Key×V)}{l:List (Key×PV)}{u:V}{p:PV} (k:Key),RepKs K H m s vs l→Rep K H m s u p→RepKs K H m s (vs.map fun kv=>if kv.1=k then (kv.1,u) else kv) (l.map fun kv=>if kv.1=k then (kv.1,p) else kv)
 | _,_,_,_,_,.nil,_=>.nil
 | _,_,u,p,k,.cons (k:=q) a b,r=>by
  rw [au,au]
  by_cases e:q=k
  ·rw [if_pos e,if_pos e];exact .cons r (b.mapput k r)
  ·rw [if_neg e,if_neg e];exact .cons a (b.mapput k r)
theorem RepKs.append:∀ {vs ws:List (Key×V)}{l k:List (Key×PV)},RepKs K H m s vs l→RepKs K H m s ws k→RepKs K H m s (vs++ws) (l++k)
 | _,_,_,_,.nil,q=>q
 | _,_,_,_,.cons a b,q=>.cons a (b.append q)
theorem RepKs.put {vs:List (Key×V)}{l:List (Key×PV)}{u:V}{p:PV} (k:Key) (q:RepKs K H m s vs l) (r:Rep K H m s u p):RepKs K H m s (nJ vs k u) (AG l k p):=by
 unfold nJ AG
 rw [q.any]
 split
 ·exact q.mapput k r
 ·exact q.append (.cons r .nil)
theorem qM {k:Key} (r:Rep K H m s x v) (e:kyOf v=some k):x=kV k:=by cases r <;> first | cases e;rfl | cases e
end
section
variable {X:Cx}{CB:ae}{E:XK}
theorem Reps.readss {sh:ao}{H:Hp}{m:Mp}{s:Sto}{k:Nat} (ih:∀ {v:V}{p:PV}{u:ah}{d:PyData},Rep X.K H m s v p→RelV v u→PV.data s k p=some d→(∃ as,Reads sh.heap u d as)∧d.canLay0=true∧d.depth≤k) :
  ∀ {v:List V}{p:List PV}{u:List ah}{d:List PyData},Reps X.K H m s v p→Vals v u→vq (PV.data s k) p=some d→(∃ as,ReadsAll sh.heap u.toArray.toList d as)∧ju d=true∧PyData.depthAll d≤k
 | _,_,_,_,.nil,.nil,e=>by unfold vq at e;cases e;exact ⟨⟨_,.nil⟩,rfl,bc _⟩
 | _,_,_,_,.cons a b,.cons r rs,e=>by
  unfold vq at e
  split at e <;> cases e
  rename_i h1 h2
  obtain ⟨⟨as,r1⟩,r2,r3⟩:=ih a r h1
  obtain ⟨⟨bs,q1⟩,q2,q3⟩:=Reps.readss ih b rs h2
  refine ⟨⟨_,.cons r1 (by simpa using q1)⟩,by unfold ju;rw [r2,q2];rfl,?_⟩
  unfold PyData.depthAll
  omega
theorem Rep.reads {pins:List (ae×Obj)}{σ:St}{H:Hp}{sh:ao}{m:Mp}{s:Sto} (I:Inv X pins σ H sh) (S:SR X.K CB H m s):∀ (k:Nat) {v:V}{p:PV}{u:ah}{d:PyData},Rep X.K H m s v p→RelV v u→PV.data s k p=some d →
  (∃ as,Reads sh.heap u d as)∧d.canLay0=true∧d.depth≤k
 | 0,_,p,_,_,_,_,e=>by cases p <;> (unfold PV.data at e;cases e)
 | k+1,_,_,_,_,.non,ru,e=>by cases ru;unfold PV.data at e;cases e;exact ⟨⟨_,.none⟩,rfl,bc _⟩
 | k+1,_,_,_,_,.bl,ru,e=>by cases ru;unfold PV.data at e;cases e;exact ⟨⟨_,.bool _⟩,rfl,bc _⟩
 | k+1,_,_,_,_,.int,ru,e=>by obtain ⟨t,rfl⟩:=ru;unfold PV.data at e;cases e;exact ⟨⟨_,.int _ _⟩,rfl,bc _⟩
 | k+1,_,_,_,_,.str,ru,e=>by
  obtain ⟨t,rfl⟩:=ru;unfold PV.data at e
  split at e <;> cases e
  rename_i h
  exact ⟨⟨_,.str _ _⟩,h,bc _⟩
 | k+1,_,_,_,_,.tup (l:=l) h q,ru,e=>by
  cases ru;unfold PV.data at e
  cases c:vq (PV.data s k) l with
  | none=>rw [c] at e;cases e
  | some ds =>
   rw [c] at e;cases e
   obtain ⟨its,rv,⟨o,g1,g2,n,g3⟩,_⟩:=I.tuple (h.elim (fun z=>(.inl z.1:SqT X.K H _ _)) .inr)
   obtain ⟨⟨as,r1⟩,r2,r3⟩:=Reps.readss (Rep.reads I S k) q rv c
   exact ⟨⟨_,.tuple g1 g2 g3 r1⟩,by unfold gc;exact r2,by unfold gG;omega⟩
 | k+1,_,_,_,_,.lst (l:=l) h _ q,ru,e=>by
  cases ru;unfold PV.data at e
  cases c:vq (PV.data s k) l with
  | none=>rw [c] at e;cases e
  | some ds =>
   rw [c] at e;cases e
   obtain ⟨its,rv,⟨o,n,g1,g2,_,g3⟩,_⟩:=I.list (SqL.of h)
   obtain ⟨⟨as,r1⟩,r2,r3⟩:=Reps.readss (Rep.reads I S k) q rv c
   exact ⟨⟨_,.list g1 g2 g3 r1⟩,by unfold gc;exact r2,by unfold gG;omega⟩
 | k+1,_,_,_,_,.seq (l:=l) h q,ru,e=>by
  cases ru;unfold PV.data at e
  cases c:vq (PV.data s k) l with
  | none=>rw [c] at e;cases e
  | some ds =>
   rw [c] at e;cases e
   obtain ⟨its,rv,⟨o,n,g1,g2,_,g3⟩,_⟩:=I.list (h.elim (fun z=>(.inl (.inr z.1):SqL X.K H _ _)) .inr)
   obtain ⟨⟨as,r1⟩,r2,r3⟩:=Reps.readss (Rep.reads I S k) q rv c
   exact ⟨⟨_,.list g1 g2 g3 r1⟩,by unfold gc;exact r2,by unfold gG;omega⟩
 | k+1,_,_,_,_,.dct _ _ _,_,e=>by unfold PV.data at e;cases e
 | k+1,_,_,_,_,.exc _ _,_,e=>by unfold PV.data at e;cases e
 | k+1,_,_,_,_,.clo _,_,e=>by unfold PV.data at e;cases e
 | k+1,_,_,_,_,.ref _,ru,e=>by
  cases ru;unfold PV.data at e
  split at e <;> first | cases e | skip
  rename_i l hg
  cases c:vq (PV.data s k) l with
  | none=>rw [c] at e;cases e
  | some ds =>
   rw [c] at e;cases e
   obtain ⟨_,vs,h1,q⟩:=S.get hg
   obtain ⟨its,rv,⟨o,n,g1,g2,_,g3⟩,_⟩:=I.list (SqL.of h1)
   obtain ⟨⟨as,r1⟩,r2,r3⟩:=Reps.readss (Rep.reads I S k) q rv c
   exact ⟨⟨_,.list g1 g2 g3 r1⟩,by unfold gc;exact r2,by unfold gG;omega⟩
def Bt (k:Nat) (n:Int):Prop:=n.natAbs < 2 ^ k
theorem Bt.mono {k l:Nat}{n:Int} (h:Bt k n) (hl:k≤l):Bt l n:=aH h (cM (by decide) hl)
theorem Bt.mul {k l:Nat}{n m:Int} (h:Bt k n) (g:Bt l m):Bt (k+l) (n * m):=by
 unfold Bt at *
 rw [gs,Nat.pow_add]
 by_cases z:m.natAbs=0
 ·rw [z,Nat.mul_zero];exact Nat.mul_pos (dM k) (dM l)
 ·exact aH (Nat.mul_lt_mul_of_pos_right h (Nat.pos_of_ne_zero z)) (gE _ (d9 g))
theorem Bt.neg {k:Nat}{n:Int} (h:Bt k n):Bt k (-n):=by unfold Bt at *;rw [gr];exact h
theorem Bt.div {k:Nat}{n d:Int} (h:Bt k n):Bt k (n / d):=a7 (Int.natAbs_ediv_le_natAbs n d) h
theorem Bt.dvd {k:Nat}{n d:Int} (h:Bt k n) (hn:n≠0) (hd:d ∣ n):Bt k d:=a7 (Nat.le_of_dvd (by omega) (eE.mpr hd)) h
theorem Bt.log {n:Int} (h:Bt 9000 n) (h0:0 < n):n.natAbs.log2 < 9000:=(jv (by omega)).mpr h
theorem yf {i:Int} (h:Bt 20000 i):iB i≤2 ^ 20:=by
 unfold iB
 split
 ·exact bc _
 ·rename_i z
  have z:i≠0:=by simpa using z
  have:=(jv (by omega:i.natAbs≠0)).mpr h
  omega
theorem op_mulB:OpR X (cR .Mult) (rI (fun i j=>Bt 20000 i∧Bt 20000 j) fun i j=>.int (i * j)):=opI fun _ _ _ _ _ _ _ hc q=>mul_int q (.of_bits (yf hc.1) (yf hc.2))
def CK (K:aa):R2:=fun x y H Q=>∃ l b xs zs,x=.ref l∧y=.ref b∧SqL K H l xs∧SqL K H b zs∧xs.length+zs.length≤aI∧∀ p,H p=none→Q (.ref p) (upd H p (.lst (xs++zs)))
theorem Dg:OpR X (cR .Add) (CK X.K):=by
 intro pins s σ H x y v u Q I rx ry h
 obtain ⟨l,b,xs,zs,rfl,rfl,hH,hB,hz,q⟩:=h
 cases rx
 cases ry
 obtain ⟨its,r,ht,_⟩:=I.list hH
 obtain ⟨its2,r2,ht2,_⟩:=I.list hB
 have l1:=r.length
 have l2:=r2.length
 obtain ⟨⟨cls,dd,data,sl⟩,n,ho,hc,_,hd⟩:=ht
 obtain ⟨⟨cls2,dd2,data2,sl2⟩,n2,ho2,hc2,_,hd2⟩:=ht2
 simp only at hc hd hc2 hd2
 subst hc hd hc2 hd2
 refine concat_meets ⟨_,ho,rfl⟩ ⟨_,ho2,rfl⟩ noFill_list_add seq_list_add PySem.F.slot_list_add PySem.F.entry_list_add (PySem.F.args_list_add_2 _ _) (list_addW l b its.toArray its2.toArray n n2 dd dd2 sl sl2 (by rw [aM,aM];omega)) ⟨ho,ho2,?_⟩
 have ea:its.toArray++its2.toArray=(its++its2).toArray:=by simp
 rw [ea]
 exact ⟨.ref _,_,I.lnew (t':=s.toks) (r.append r2) (by rw [aO];omega),rfl,q _ I.fresh⟩
def F0:R2:=fun x y H Q=>∃ a v,x=.ref a∧DGet H a y (some v)∧Q v H
theorem DF (hu:X.A.units+1 < dS):IxR X F0:=by
 intro value slice pins s σ H x y v u Q I rx ry h hs
 obtain ⟨a,z,rfl,g,q⟩:=h
 obtain rfl:v=bx a:=rx
 have hT:=r8 I g
 unfold gb
 refine av ?_
 rw [getitemInPython_of_ne hT.not_modules]
 refine av (wpAny_specialOf hT ia.lookup ?_)
 have fin:aZ (model X.prog X.w) X.A (subscripted slice false (.ref a) u) (fun r s₃=>aZ (model X.prog X.w) X.A (letTemporaryGo value (.ref a) r >>= fun _=>pure r) (EP X pins σ Q) X.xe s₃) X.xe s:=by
  rw [hs]
  exact wpAny_operating (bw (vG hu I g ry fun w' s3 I3 rw'=>(⟨z,H,I3,rw',q⟩:EP X pins σ Q w' s3)) (fun r s₃ h₃=>av (wpAny_letTemporaryGo (aS h₃))) fun _ _ x=>x)
 first
  | exact aS (av fin)
  | exact av (aS (av fin))
  | exact av fin
theorem Ax:CallR X (.builtin "len") (fun xs H Q=>∃ a kvs,xs=[V.ref a]∧Rd H a (.dK kvs)∧Q (.int kvs.length) H):=by
 intro pins s σ H xs us Q I r h
 obtain ⟨a,kvs,rfl,ha,q⟩:=h
 obtain ⟨u,rfl,ru⟩:=nr r
 cases ru
 exact EJ I ha fun t s' I'=>⟨.int kvs.length,H,I',⟨t,rfl⟩,q⟩
def F1 (K:aa) (CB:ae) (neg:Bool):R2:=fun x y H Q=>∃ m s v w d e,SR K CB H m s∧Rep K H m s x v∧Rep K H m s y w∧PV.data s 12 v=some d∧PV.data s 12 w=some e∧Q (.bl (if neg then !eA d e else eA d e)) H
theorem Fm {CB:ae} (hu:X.A.units+12 < dS):OpR X (ci .Eq) (F1 X.K CB false):=by
 intro pins s σ H x y v u Q I rx ry h
 obtain ⟨m,t,p,q,d,e,S,r1,r2,e1,e2,k⟩:=h
 obtain ⟨⟨as,a1⟩,a2,a3⟩:=r1.reads I S 12 rx e1
 obtain ⟨⟨bs,b1⟩,b2,b3⟩:=r2.reads I S 12 ry e2
 exact SeqAt.rcAt_reads a1 b1 a2 b2 (by omega) _ _ _ _ ⟨.bl _,H,I,rfl,k⟩
theorem Fj {CB:ae} (hu:X.A.units+12 < dS):OpR X (ci .NotEq) (F1 X.K CB true):=by
 intro pins s σ H x y v u Q I rx ry h
 obtain ⟨m,t,p,q,d,e,S,r1,r2,e1,e2,k⟩:=h
 obtain ⟨⟨as,a1⟩,a2,a3⟩:=r1.reads I S 12 rx e1
 obtain ⟨⟨bs,b1⟩,b2,b3⟩:=r2.reads I S 12 ry e2
 exact SeqAt.rcNeAt_reads a1 b1 a2 b2 (by omega) _ _ _ _ ⟨.bl _,H,I,rfl,k⟩
end
def su (i j:Int):Prop:=(Bt 20000 i∧Bt 20000 j)∨CMul i j
def AD (j:Int):Prop:=0 < j∧Bt 9000 j
noncomputable instance (i j:Int):Decidable (su i j):=cN _
noncomputable instance (j:Int):Decidable (AD j):=cN _
def fAdd (v w:PV) (s:Sto):Out PV:=match v,w with
 | .int i,.int j=>.ok (.int (i+j)) s
 | .str x,.str y=>if x.length+y.length≤100000 then .ok (.str (x++y)) s else .bad
 | v,w=>match lsOf s v,lsOf s w with
  | some l,some k=>if l.length+k.length≤100000 then .ok (.lst (l++k)) s else .bad
  | _,_=>.bad
def fSub (v w:PV) (s:Sto):Out PV:=match v,w with
 | .int i,.int j=>.ok (.int (i - j)) s
 | _,_=>.bad
def fMul (v w:PV) (s:Sto):Out PV:=match v,w with
 | .int i,.int j=>if su i j then .ok (.int (i * j)) s else .bad
 | .lst l,.int k=>if -(2 ^ 63)≤k∧k < 2 ^ 63∧l.length * k.toNat≤100000 then .ok (.lst (aW k.toNat l).flatten) s else .bad
 | _,_=>.bad
def fDiv (v w:PV) (s:Sto):Out PV:=match v,w with
 | .int i,.int j=>if AD j then .ok (.int (i / j)) s else .bad
 | _,_=>.bad
def fMod (v w:PV) (s:Sto):Out PV:=match v,w with
 | .int i,.int j=>if 0 < j then .ok (.int (i % j)) s else .bad
 | _,_=>.bad
def fPow (v w:PV) (s:Sto):Out PV:=match v,w with
 | .int i,.int j=>if 0≤j∧j≤1000000∧i.natAbs < 2 ^ 64 then .ok (.int (i ^ j.toNat)) s else .bad
 | _,_=>.bad
def fCmp (p:Int→Int→Bool) (v w:PV) (s:Sto):Out PV:=match v,w with
 | .int i,.int j=>.ok (.bl (p i j)) s
 | _,_=>.bad
abbrev fLt:=fCmp fun i j=>decide (i < j)
abbrev fGt:=fCmp fun i j=>decide (j < i)
abbrev fGe:=fCmp fun i j=>decide (j≤i)
def fEqN (neg:Bool) (v w:PV) (s:Sto):Out PV:=match PV.data s 12 v,PV.data s 12 w with
 | some d,some e=>.ok (.bl (if neg then !eA d e else eA d e)) s
 | _,_=>.bad
abbrev fEq:=fEqN false
abbrev fNe:=fEqN true
def PV.isNon:PV→Bool
 | .non=>true
 | _=>false
def fIs (v w:PV) (s:Sto):Out PV:=match w with
 | .non=>.ok (.bl v.isNon) s
 | _=>.bad
def fIsnt (v w:PV) (s:Sto):Out PV:=match w with
 | .non=>.ok (.bl (!v.isNon)) s
 | _=>.bad
def FT (neg b:Bool):Bool:=if neg then !b else b
def lQ (neg:Bool) (v w:PV) (s:Sto):Out PV:=match dcOf s w with
 | some l=>match kyOf v with
  | some k=>.ok (.bl (FT neg (mQ l k).isSome)) s
  | none=>.bad
 | none=>match toV v with
  | none=>.bad
  | some x=>match w with
   | .tup l=>match toVs l with
    | some zs=>.ok (.bl (FT neg (inV x zs))) s
    | none=>.bad
   | w=>match lsOf s w with
    | some l=>match toVs l with
     | some zs=>.ok (.bl (FT neg (inV x zs))) s
     | none=>.bad
    | none=>.bad
def fIx (v w:PV) (s:Sto):Out PV:=match v with
 | .tup l=>match w with
  | .int i=>match atI l i with
   | some p=>.ok p s
   | none=>.bad
  | _=>.bad
 | .str x=>match w with
  | .int i=>match atI x.cps.toList i with
   | some c=>if x.length≤100000 then .ok (.str ⟨#[c]⟩) s else .bad
   | none=>.bad
  | _=>.bad
 | v=>match lsOf s v with
  | some l=>match w with
   | .int i=>match atI l i with
    | some p=>.ok p s
    | none=>.bad
   | _=>.bad
  | none=>match dcOf s v with
   | some l=>match kyOf w with
    | some k=>match mQ l k with
     | some p=>.ok p s
     | none=>.bad
    | none=>.bad
   | none=>.bad
def fNeg (v:PV) (s:Sto):Out PV:=match v with
 | .int i=>.ok (.int (-i)) s
 | _=>.bad
section
variable {X:Cx}{CB:ae}{E:XK}
theorem o_add:Op2 X.K CB E (fun x y H Q=>rI0 (fun i j=>V.int (i+j)) x y H Q∨(∃ i j,x=V.str i∧y=V.str j∧i.length+j.length≤aI∧Q (V.str (i++j)) H)∨CK X.K x y H Q) fAdd:=by
 intro H m s v w x y Q S rx ry P
 unfold fAdd at P
 split at P
 ·cases rx;cases ry;exact .inl ⟨_,_,rfl,rfl,P.here S .int⟩
 ·cases rx;cases ry
  split at P
  ·rename_i h;exact .inr (.inl ⟨_,_,rfl,rfl,sz5 h,P.here S .str⟩)
  ·exact P.elim
 ·split at P
  ·rename_i l k h1 h2
   split at P
   ·rename_i h
    obtain ⟨a,vs,rfl,q1,r1⟩:=rx.ls S h1
    obtain ⟨b,ws,rfl,q2,r2⟩:=ry.ls S h2
    exact .inr (.inr ⟨a,b,vs,ws,rfl,rfl,q1,q2,by rw [r1.length,r2.length];exact sz5 h,fun p hp=>P.new S hp fun ex S'=>.lst jK (S.pure_none hp) ((r1.append r2).ext ex)⟩)
   ·exact P.elim
  ·exact P.elim
theorem Dh:OpR X (cR .Add) (fun x y H Q=>rI0 (fun i j=>V.int (i+j)) x y H Q∨(∃ i j,x=V.str i∧y=V.str j∧i.length+j.length≤aI∧Q (V.str (i++j)) H)∨CK X.K x y H Q):=op_add.or (op_add_str.or Dg)
theorem o_sub:Op2 X.K CB E (rI0 fun i j=>V.int (i - j)) fSub:=by
 intro H m s v w x y Q S rx ry P
 unfold fSub at P
 split at P
 ·cases rx;cases ry;exact ⟨_,_,rfl,rfl,P.here S .int⟩
 ·exact P.elim
theorem Reps.rep {K:aa}{H:Hp}{m:Mp}{s:Sto}{vs:List V}{l:List PV} (r:Reps K H m s vs l):∀ n,Reps K H m s (aW n vs).flatten (aW n l).flatten
 | 0=>.nil
 | n+1=>by rw [cB,cB,b8,b8];exact r.append (r.rep n)
theorem o_mul:Op2 X.K CB E (fun x y H Q=>(rI (fun i j=>Bt 20000 i∧Bt 20000 j) (fun i j=>V.int (i * j)) x y H Q∨rI CMul (fun i j=>V.int (i * j)) x y H Q)∨FW x y H Q) fMul:=by
 intro H m s v w x y Q S rx ry P
 unfold fMul at P
 split at P
 ·cases rx;cases ry
  split at P
  ·rename_i h
   rcases h with h | h
   ·exact .inl (.inl ⟨_,_,rfl,rfl,h,P.here S .int⟩)
   ·exact .inl (.inr ⟨_,_,rfl,rfl,h,P.here S .int⟩)
  ·exact P.elim
 ·split at P
  ·rename_i h
   cases rx with
   | lst h1 _ r1 =>
    cases ry
    exact .inr ⟨_,_,_,rfl,rfl,h1,h.1,h.2.1,by rw [r1.length];exact sz5 h.2.2,fun p hp=>P.new S hp fun ex S'=>.lst jK (S.pure_none hp) ((r1.rep _).ext ex)⟩
  ·exact P.elim
 ·exact P.elim
theorem De:OpR X (cR .Mult) (fun x y H Q=>(rI (fun i j=>Bt 20000 i∧Bt 20000 j) (fun i j=>V.int (i * j)) x y H Q∨rI CMul (fun i j=>V.int (i * j)) x y H Q)∨FW x y H Q):=(op_mulB.or Fk).or Fh
theorem o_div:Op2 X.K CB E (rI (fun _ j=>0 < j∧j.natAbs.log2 < 9000) fun i j=>V.int (i / j)) fDiv:=by
 intro H m s v w x y Q S rx ry P
 unfold fDiv at P
 split at P
 ·cases rx;cases ry
  split at P
  ·rename_i h;exact ⟨_,_,rfl,rfl,⟨h.1,h.2.log h.1⟩,P.here S .int⟩
  ·exact P.elim
 ·exact P.elim
theorem o_mod:Op2 X.K CB E (rI (fun _ j=>0 < j) fun i j=>V.int (i % j)) fMod:=by
 intro H m s v w x y Q S rx ry P
 unfold fMod at P
 split at P
 ·cases rx;cases ry
  split at P
  ·rename_i h;exact ⟨_,_,rfl,rfl,h,P.here S .int⟩
  ·exact P.elim
 ·exact P.elim
theorem o_pow:Op2 X.K CB E (rI CPow fun i j=>V.int (i ^ j.toNat)) fPow:=by
 intro H m s v w x y Q S rx ry P
 unfold fPow at P
 split at P
 ·cases rx;cases ry
  split at P
  ·rename_i h;exact ⟨_,_,rfl,rfl,h,P.here S .int⟩
  ·exact P.elim
 ·exact P.elim
theorem CM {p:Int→Int→Bool}:Op2 X.K CB E (rI0 fun i j=>V.bl (p i j)) (fCmp p):=by
 intro H m s v w x y Q S rx ry P
 unfold fCmp at P
 split at P
 ·cases rx;cases ry;exact ⟨_,_,rfl,rfl,P.here S .bl⟩
 ·exact P.elim
theorem Ey {neg:Bool}:Op2 X.K CB E (F1 X.K CB neg) (fEqN neg):=by
 intro H m s v w x y Q S rx ry P
 unfold fEqN at P
 split at P
 ·rename_i d e h1 h2;exact ⟨m,s,v,w,d,e,S,rx,ry,h1,h2,P.here S .bl⟩
 ·exact P.elim
theorem o_ix:Op2 X.K CB E (fun x y H Q=>(FX X.K x y H Q∨FY x y H Q)∨(FZ X.K x y H Q∨F0 x y H Q)) fIx:=by
 intro H m s v w x y Q S rx ry P
 unfold fIx at P
 split at P
 ·split at P
  ·split at P
   ·rename_i p hp
    cases ry
    obtain ⟨a,vs,rfl,q,r⟩:=rx.tp
    obtain ⟨u,e,ru⟩:=r.atI hp
    exact .inl (.inl ⟨a,vs,_,u,rfl,rfl,q,e,P.here S ru⟩)
   ·exact P.elim
  ·exact P.elim
 ·split at P
  ·split at P
   ·rename_i c hc
    split at P
    ·rename_i hl
     cases rx;cases ry
     exact .inl (.inr ⟨_,_,c,rfl,rfl,sz5 hl,hc,P.here S .str⟩)
    ·exact P.elim
   ·exact P.elim
  ·exact P.elim
 ·split at P
  ·rename_i l hl
   split at P
   ·split at P
    ·rename_i p hp
     cases ry
     obtain ⟨a,vs,rfl,q,r⟩:=rx.ls S hl
     obtain ⟨u,e,ru⟩:=r.atI hp
     exact .inr (.inl ⟨a,vs,_,u,rfl,rfl,q,e,P.here S ru⟩)
    ·exact P.elim
   ·exact P.elim
  ·split at P
   ·rename_i l hl
    split at P
    ·rename_i k hk
     split at P
     ·rename_i p hp
      obtain ⟨a,vs,rfl,q,r⟩:=rx.dc S hl
      obtain ⟨u,e,ru⟩:=(r.val k).1 p hp
      exact .inr (.inr ⟨a,u,rfl,.inl ⟨vs,k,q,qM ry hk,e.symm⟩,P.here S ru⟩)
     ·exact P.elim
    ·exact P.elim
   ·exact P.elim
theorem ix_U (hu:X.A.units+1 < dS):IxR X (fun x y H Q=>(FX X.K x y H Q∨FY x y H Q)∨(FZ X.K x y H Q∨F0 x y H Q)):=(ix_tup.or Fz).or (ix_list.or (DF hu))
theorem o_neg:Op1 X.K CB E (rU fun i=>V.int (-i)) fNeg:=by
 intro H m s v x Q S rx P
 unfold fNeg at P
 split at P
 ·cases rx;exact ⟨_,rfl,P.here S .int⟩
 ·exact P.elim
variable {a b c e:a8}{es:List a8}{f g h:XE}{fa:XA}{p pos apos cpos:Pos}{x:Str}
theorem kI (ha:DE X CB E a f) (hb:DE X CB E b g):DE X CB E (.BinOp a .Add b pos) (x2 f g fAdd):=uX Dh o_add ha hb
theorem uH (ha:DE X CB E a f) (hb:DE X CB E b g):DE X CB E (.BinOp a .Sub b pos) (x2 f g fSub):=uX Fg o_sub ha hb
theorem mY (ha:DE X CB E a f) (hb:DE X CB E b g):DE X CB E (.BinOp a .Mult b pos) (x2 f g fMul):=uX De o_mul ha hb
theorem y8 (ha:DE X CB E a f) (hb:DE X CB E b g):DE X CB E (.BinOp a .FloorDiv b pos) (x2 f g fDiv):=uX oi o_div ha hb
theorem sI (ha:DE X CB E a f) (hb:DE X CB E b g):DE X CB E (.BinOp a .Mod b pos) (x2 f g fMod):=uX Cu o_mod ha hb
theorem sH (ha:DE X CB E a f) (hb:DE X CB E b g):DE X CB E (.BinOp a .Pow b pos) (x2 f g fPow):=uX Fi o_pow ha hb
theorem CF (ha:DE X CB E a f):DE X CB E (.UnaryOp .USub a pos) (x1 f fNeg):=de_un Ca o_neg ha
theorem j5 (hu:X.A.units+1 < dS) (ha:DE X CB E a f) (hb:DE X CB E b g) (hs:zP b):DE X CB E (.Subscript a b pos) (x2 f g fIx):=⟨(nX (ix_U hu) ha.pe hb.pe hs).mono fun σ H Q q=>two o_ix q⟩
structure CmpR (X:Cx) (CB:ae) (E:XK) (op:gY) (F:PV→PV→Sto→Out PV):Prop where
 ex:∃ r,OpR X (ci op) r∧Op2 X.K CB E r F
theorem c_lt:CmpR X CB E .Lt fLt:=⟨_,Eu,CM⟩
theorem c_gt:CmpR X CB E .Gt fGt:=⟨_,Ew,CM⟩
theorem c_ge:CmpR X CB E .GtE fGe:=⟨_,CL,CM⟩
theorem D8 (hu:X.A.units+12 < dS):CmpR X CB E .Eq fEq:=⟨_,Fm hu,Ey⟩
theorem F2 (hu:X.A.units+12 < dS):CmpR X CB E .NotEq fNe:=⟨_,Fj hu,Ey⟩
theorem EH {op:gY}{F:PV→PV→Sto→Out PV} (r:CmpR X CB E op F) (ha:DE X CB E a f) (hb:DE X CB E b g) (hm:cq op b=false):DE X CB E (.Compare a [op] [b] pos) (x2 f g F):=let ⟨_,r1,r2⟩:=r.ex;L2.de_cmp r1 r2 ha hb hm
theorem qQ {op:gY}{F:PV→PV→Sto→Out PV} (r:CmpR X CB E op F) (ha:DE X CB E a f) (hb:DE X CB E b g) (hm:cq op b=false):DT X CB E (.Compare a [op] [b] pos) (xTr (x2 f g F)):=let ⟨_,r1,r2⟩:=r.ex;L2.dt_cmp r1 r2 ha hb hm
abbrev XO':=En→Sto→Out (Option Int)
def TDO (K:aa) (CB:ae) (E:XK) (f:XO'):TO:=fun σ H Q=>∃ ρ s m,ER K H m s σ ρ∧SR K CB H m s∧Post K CB (fun _ _ _ u v=>u=v) E (f ρ s) H m s Q
structure DO (X:Cx) (CB:ae) (E:XK) (e:Option a8) (f:XO'):Prop where
 po:PO X e (TDO X.K CB E f)
def xNoP (_:En) (s:Sto):Out (Option Int):=.ok none s
def xPart (f:XE) (ρ:En) (s:Sto):Out (Option Int):=(f ρ s).bind fun v s1=>match v with
 | .int i=>.ok (some i) s1
 | _=>.bad
theorem PO.mono {e:Option a8}{t t':TO} (h:PO X e t) (k:∀ σ H Q,t' σ H Q→t σ H Q):PO X e t':=fun pins s σ H Q I q=>h pins s σ H Q I (k σ H Q q)
theorem wC:DO X CB E none xNoP:=⟨po_none.mono fun σ H Q ⟨ρ,s,m,er,S,P⟩=>P.here S rfl⟩
theorem rf (h:DE X CB E e f):DO X CB E (some e) (xPart f):=⟨(zo h.pe).mono fun σ H Q ⟨ρ,s,m,er,S,P⟩=>⟨ρ,s,m,er,S,P.bind fun v s1 u H1 m1 e1 S1 r1 P1=>by
 cases r1 <;> first | exact P1.elim | exact ⟨_,rfl,P1.here S1 rfl⟩⟩⟩
def uI (l:List PV) (lo hi:Option Int):List PV:=(l.drop (HT.sIx l.length 0 lo)).take (HT.sIx l.length l.length hi - HT.sIx l.length 0 lo)
def fSl (v:PV) (lo hi:Option Int) (s:Sto):Out PV:=match v with
 | .tup l=>if HT.sIx l.length 0 lo=0∧HT.sIx l.length l.length hi=l.length then .bad else .ok (.tup (uI l lo hi)) s
 | v=>match lsOf s v with
  | some l=>.ok (.lst (uI l lo hi)) s
  | none=>.bad
def xSl (f:XE) (lo hi:XO') (ρ:En) (s:Sto):Out PV:=(f ρ s).bind fun v s1=>(lo ρ s1).bind fun l s2=>(hi ρ s2).bind fun u s3=>fSl v l u s3
theorem Reps.cut {K:aa}{H:Hp}{m:Mp}{s:Sto}{vs:List V}{l:List PV} (r:Reps K H m s vs l) (lo hi:Option Int):Reps K H m s (zH vs lo hi) (uI l lo hi):=by
 unfold zH uI;rw [r.length];exact (r.drop _).take _
theorem AE {lo hi:Option a8}{fl fh:XO'}{p2:Pos} (ha:DE X CB E a f) (hl:DO X CB E lo fl) (hh:DO X CB E hi fh):DE X CB E (.Subscript a (.Slice lo hi none p2) pos) (xSl f fl fh) :=
 ⟨(Bf (sl_list.or E1) ha.pe hl.po hh.po).mono fun σ H Q ⟨ρ,s,m,er,S,P⟩=>⟨ρ,s,m,er,S,P.bind fun v s1 u H1 m1 e1 S1 r1 P1=>⟨ρ,s1,m1,er.ext e1,S1,P1.bind fun l s2 l' H2 m2 e2 S2 r2 P2=>by
  cases r2
  refine ⟨ρ,s2,m2,(er.ext e1).ext e2,S2,P2.bind fun k s3 k' H3 m3 e3 S3 r3 P3=>?_⟩
  cases r3
  have r1:=(r1.ext e2).ext e3
  unfold fSl at P3
  split at P3
  ·split at P3
   ·exact P3.elim
   ·rename_i hn
    obtain ⟨a,vs,rfl,q,r⟩:=r1.tp
    exact .inr ⟨a,vs,rfl,q,by rw [r.length];exact hn,fun p hp=>P3.new S3 hp fun ex S'=>.tup (.inl ⟨.inl jK,S'.pure_tup jK⟩) ((r.cut _ _).ext ex)⟩
  ·split at P3
   ·rename_i l hl
    obtain ⟨a,vs,rfl,q,r⟩:=r1.ls S3 hl
    exact .inl ⟨a,vs,rfl,q,fun p hp=>P3.new S3 hp fun ex S'=>.lst jK (S3.pure_none hp) ((r.cut _ _).ext ex)⟩
   ·exact P3.elim⟩⟩⟩
def xB (fa:XA) (F:List PV→Sto→Out PV) (ρ:En) (s:Sto):Out PV:=(fa ρ s).bind F
theorem nOf {r:List V→Hp→VK→Prop}{F:List PV→Sto→Out PV} (o:OpN X.K CB E r F) {σ:St}{H:Hp}{Q:VK} (q:TDE X.K CB E (xB fa F) σ H Q):tCB r (TDA X.K CB E fa) σ H Q:=by
 obtain ⟨ρ,s,m,er,S,P⟩:=q
 exact ⟨ρ,s,m,er,S,P.bind fun v s1 u H1 m1 e1 S1 r1 P1=>o H1 m1 s1 v u Q S1 r1 P1⟩
structure BltR (X:Cx) (CB:ae) (E:XK) (fv:ah) (F:List PV→Sto→Out PV):Prop where
 ex:∃ r,CallR X fv r∧OpN X.K CB E r F
theorem kU {id:String}{F:List PV→Sto→Out PV} (r:BltR X CB E (.builtin id) F) (hg:Gl X x) (hm:X.mg x=none) (hv:bS x=some (.builtin id)) (ha:DA X CB E (e::es) fa) (hn:x≠"__name__":=by decide) (hdb:(x == ("__debug__":Str))=false:=by decide)
  (hs:aR (e::es) X.env=(false,eval e X.env)::aR es X.env:=by rfl) (hpl:(ck pos (aR es X.env)).any (·.1)=false:=by rfl):DE X CB E (.Call (.Name x p) (e::es) [] pos) (xB fa F) :=
 let ⟨_,r1,r2⟩:=r.ex;⟨(lR r1 hg hm hv ha.pa hn hdb hs hpl).mono fun σ H Q q=>nOf r2 q⟩
theorem mn {T:String}{F:List PV→Sto→Out PV} (r:BltR X CB E (.type T) F) (hg:Gl X x) (hm:X.mg x=none) (hv:bS x=some (.type T)) (ha:DA X CB E (e::es) fa) (hn:x≠"__name__":=by decide) (hdb:(x == ("__debug__":Str))=false:=by decide)
  (hs:aR (e::es) X.env=(false,eval e X.env)::aR es X.env:=by rfl) (hpl:(ck pos (aR es X.env)).any (·.1)=false:=by rfl):DE X CB E (.Call (.Name x p) (e::es) [] pos) (xB fa F) :=
 let ⟨_,r1,r2⟩:=r.ex;⟨(mV r1 hg hm hv ha.pa hn hdb hs hpl).mono fun σ H Q q=>nOf r2 q⟩
def fLen (vs:List PV) (s:Sto):Out PV:=match vs with
 | [.tup l]=>.ok (.int l.length) s
 | [.str x]=>if x.length≤100000 then .ok (.int x.length) s else .bad
 | [v]=>match lsOf s v with
  | some l=>.ok (.int l.length) s
  | none=>match dcOf s v with
   | some l=>.ok (.int l.length) s
   | none=>.bad
 | _=>.bad
theorem b_len:BltR X CB E (.builtin "len") fLen:=⟨_,call_len_seq.or (call_len_str.or Ax),by
 intro H m s v x Q S rx P
 unfold fLen at P
 split at P
 ·cases rx with
  | cons r n =>
   cases n
   obtain ⟨a,vs,rfl,q,r⟩:=r.tp
   rw [← r.length] at P
   exact .inl ⟨a,vs,rfl,.inr q,P.here S .int⟩
 ·cases rx with
  | cons r n =>
   cases n;cases r
   split at P
   ·rename_i h;exact .inr (.inl ⟨_,rfl,sz5 h,P.here S .int⟩)
   ·exact P.elim
 ·cases rx with
  | cons r n =>
   cases n
   split at P
   ·rename_i l hl
    obtain ⟨a,vs,rfl,q,r⟩:=r.ls S hl
    rw [← r.length] at P
    exact .inl ⟨a,vs,rfl,.inl q,P.here S .int⟩
   ·split at P
    ·rename_i l hl
     obtain ⟨a,vs,rfl,q,r⟩:=r.dc S hl
     rw [← r.length] at P
     exact .inr (.inr ⟨a,vs,rfl,q,P.here S .int⟩)
    ·exact P.elim
 ·exact P.elim⟩
def fAbs (vs:List PV) (s:Sto):Out PV:=match vs with
 | [.int i]=>.ok (.int (if i < 0 then -i else i)) s
 | _=>.bad
theorem b_abs:BltR X CB E (.builtin "abs") fAbs:=⟨_,BW,by
 intro H m s v x Q S rx P
 unfold fAbs at P
 split at P
 ·cases rx with
  | cons r n=>cases n;cases r;exact ⟨_,rfl,P.here S .int⟩
 ·exact P.elim⟩
def fInt (vs:List PV) (s:Sto):Out PV:=match vs with
 | [.int i]=>.ok (.int i) s
 | [.bl b]=>.ok (.int (if b=true then 1 else 0)) s
 | _=>.bad
theorem b_int:BltR X CB E (.type "int") fInt:=⟨_,Ay,by
 intro H m s v x Q S rx P
 unfold fInt at P
 split at P
 ·cases rx with
  | cons r n=>cases n;cases r;exact .inl ⟨_,rfl,P.here S .int⟩
 ·cases rx with
  | cons r n=>cases n;cases r;exact .inr ⟨_,rfl,P.here S .int⟩
 ·exact P.elim⟩
def fTuple (vs:List PV) (s:Sto):Out PV:=match vs with
 | [v]=>match lsOf s v with
  | some l=>.ok (.tup l) s
  | none=>.bad
 | _=>.bad
theorem b_tuple:BltR X CB E (.type "tuple") fTuple:=⟨_,uJ,by
 intro H m s v x Q S rx P
 unfold fTuple at P
 split at P
 ·cases rx with
  | cons r n =>
   cases n
   split at P
   ·rename_i l hl
    obtain ⟨a,vs,rfl,q,r⟩:=r.ls S hl
    exact ⟨a,vs,rfl,.inl ⟨q,fun p hp=>P.new S hp fun ex S'=>.tup (.inl ⟨.inl jK,S'.pure_tup jK⟩) (r.ext ex)⟩⟩
   ·exact P.elim
 ·exact P.elim⟩
def fList (vs:List PV) (s:Sto):Out PV:=match vs with
 | [.tup l]=>.ok (.lst l) s
 | [v]=>match lsOf s v with
  | some l=>.ok (.lst l) s
  | none=>.bad
 | _=>.bad
theorem b_list:BltR X CB E (.type "list") fList:=⟨_,wl,by
 intro H m s v x Q S rx P
 unfold fList at P
 split at P
 ·cases rx with
  | cons r n =>
   cases n
   obtain ⟨a,vs,rfl,q,r⟩:=r.tp
   exact ⟨a,vs,rfl,.inr q,fun p hp=>P.new S hp fun ex S'=>.lst jK (S.pure_none hp) (r.ext ex)⟩
 ·cases rx with
  | cons r n =>
   cases n
   split at P
   ·rename_i l hl
    obtain ⟨a,vs,rfl,q,r⟩:=r.ls S hl
    exact ⟨a,vs,rfl,.inl q,fun p hp=>P.new S hp fun ex S'=>.lst jK (S.pure_none hp) (r.ext ex)⟩
   ·exact P.elim
 ·exact P.elim⟩
def oO:List PV→Option (List Str)
 | []=>some []
 | .str x::l=>(oO l).map (x::·)
 | _=>none
theorem rA:∀ {l:List PV}{ss:List Str},oO l=some ss→l=ss.map PV.str
 | [],_,e=>by cases e;rfl
 | p::l,ss,e=>by
  unfold oO at e
  split at e
  ·rename_i h;cases h
  ·rename_i x l' h
   cases h
   cases c:oO l with
   | none=>rw [c] at e;cases e
   | some t=>rw [c] at e;cases e;rw [rA c];rfl
  ·cases e
theorem m8 (ss:List Str):oO (ss.map PV.str)=some ss:=by
 induction ss with
 | nil=>rfl
 | cons x r ih=>rw [au];unfold oO;rw [ih];rfl
def keysOf:List (Key×PV)→Option (List Str)
 | []=>some []
 | (.inr x,_)::l=>(keysOf l).map (x::·)
 | _=>none
theorem vv:∀ {l:List (Key×PV)}{ss:List Str},keysOf l=some ss→l.map (·.1)=ss.map am
 | [],_,e=>by cases e;rfl
 | p::l,ss,e=>by
  unfold keysOf at e
  split at e
  ·rename_i h;cases h
  ·rename_i x _ l' h
   cases h
   cases c:keysOf l with
   | none=>rw [c] at e;cases e
   | some t=>rw [c] at e;cases e;rw [au,vv c];rfl
  ·cases e
def jU (vs:List PV) (s:Sto):Out PV:=match vs with
 | [v]=>match lsOf s v with
  | some l=>match oO l with
   | some ss=>if ss.length < 64 then .ok (.lst ((srt ss).map PV.str)) s else .bad
   | none=>.bad
  | none=>match dcOf s v with
   | some l=>match keysOf l with
    | some ss=>if ss.length < 64 then .ok (.lst ((srt ss).map PV.str)) s else .bad
    | none=>.bad
   | none=>.bad
 | _=>.bad
theorem b_sorted (hc:X.calm=true):BltR X CB E (.builtin "sorted") jU:=⟨_,call_sortedL.or (mL hc),by
 intro H m s v x Q S rx P
 unfold jU at P
 split at P
 ·cases rx with
  | cons r n =>
   cases n
   split at P
   ·rename_i l hl
    split at P
    ·rename_i ss hs
     split at P
     ·rename_i h64
      obtain ⟨a,vs,rfl,q,r⟩:=r.ls S hl
      have e:=rA hs
      subst e
      rw [r.strs] at q
      exact .inl ⟨a,ss,rfl,q,h64,fun p hp=>P.new S hp fun ex S'=>.lst jK (S.pure_none hp) (.ofStrs _)⟩
     ·exact P.elim
    ·exact P.elim
   ·split at P
    ·rename_i l hl
     split at P
     ·rename_i ss hs
      split at P
      ·rename_i h64
       obtain ⟨a,vs,rfl,q,r⟩:=r.dc S hl
       exact .inr ⟨a,vs,ss,rfl,q,r.keys.trans (vv hs),h64,fun p hp=>P.new S hp fun ex S'=>.lst jK (S.pure_none hp) (.ofStrs _)⟩
      ·exact P.elim
     ·exact P.elim
    ·exact P.elim
 ·exact P.elim⟩
def wU:List PV→Option (List Bool)
 | []=>some []
 | .bl x::l=>(wU l).map (x::·)
 | _=>none
theorem qq {K:aa}{H:Hp}{m:Mp}{s:Sto}:∀ {vs:List V}{l:List PV}{bs:List Bool},Reps K H m s vs l→wU l=some bs→vs=bs.map V.bl
 | _,_,_,.nil,e=>by cases e;rfl
 | _,_,_,.cons (l:=l) a b,e=>by
  unfold wU at e
  split at e
  ·rename_i h;cases h
  ·rename_i h
   cases h
   cases a
   cases c:wU l with
   | none=>rw [c] at e;cases e
   | some t=>rw [c] at e;cases e;rw [qq b c];rfl
  ·cases e
def fAll (vs:List PV) (s:Sto):Out PV:=match vs with
 | [v]=>match lsOf s v with
  | some l=>match wU l with
   | some bs=>.ok (.bl (bs.all id)) s
   | none=>.bad
  | none=>.bad
 | _=>.bad
theorem b_all (hc:X.calm=true):BltR X CB E (.builtin "all") fAll:=⟨_,ye,by
 intro H m s v x Q S rx P
 unfold fAll at P
 split at P
 ·cases rx with
  | cons r n =>
   cases n
   split at P
   ·rename_i l hl
    split at P
    ·rename_i bs hb
     obtain ⟨a,vs,rfl,q,r⟩:=r.ls S hl
     have e:=qq r hb
     subst e
     exact ⟨a,bs,rfl,q,hc,P.here S .bl⟩
    ·exact P.elim
   ·exact P.elim
 ·exact P.elim⟩
def xJoin (f:XE) (fa:XA) (ρ:En) (s:Sto):Out PV:=(f ρ s).bind fun v s1=>match v with
 | .str z=>(fa ρ s1).bind fun vs s2=>match vs with
  | [w]=>match lsOf s2 w with
   | some l=>match oO l with
    | some ys=>if (ys.map (·.length)).sum+ys.length * z.length≤16777216 then .ok (.str (b9 z ys)) s2 else .bad
    | none=>.bad
   | none=>.bad
  | _=>.bad
 | _=>.bad
theorem nU (ho:DE X CB E a f) (ha:DA X CB E (e::es) fa)
  (hbase:dU a "join" X.env (eval a X.env)=eval a X.env:=by rfl)
  (hfew:((ck cpos (aR (e::es) X.env)).all (fun x=>!x.1) && (eI cpos (cQ [] X.env)).all (fun x=>x.1.isSome)
   && decide ((e::es).length+([]:List fm).length+(if ([]:List fm).isEmpty then 0 else 1) < 30))=true:=by rfl)
  (hline:(apos.endLine == cpos.line)=true:=by rfl) (hs:aR (e::es) X.env=(false,eval e X.env)::aR es X.env:=by rfl) (hplain:(ck cpos (aR es X.env)).any (·.1)=false:=by rfl) :
  DE X CB E (.Call (.Attribute a "join" apos) (e::es) [] cpos) (xJoin f fa) :=
 ⟨(Es PySem.F.plainAttrs_str PySem.F.slot_str_join PySem.F.type_str_join Dw ho.pe ha.pa hbase hfew hline hs hplain).mono fun σ H Q ⟨ρ,s,m,er,S,P⟩=>⟨ρ,s,m,er,S,P.bind fun v s1 u H1 m1 e1 S1 r1 P1=>by
  split at P1
  ·cases r1
   refine ⟨rfl,ρ,s1,m1,er.ext e1,S1,P1.bind fun vs s2 us H2 m2 e2 S2 r2 P2=>?_⟩
   split at P2
   ·cases r2 with
    | cons r n =>
     cases n
     split at P2
     ·rename_i l hl
      split at P2
      ·rename_i ys hy
       split at P2
       ·rename_i hz
        obtain ⟨b,vs,rfl,q,r⟩:=r.ls S2 hl
        have e:=rA hy
        subst e
        rw [r.strs] at q
        exact ⟨_,b,ys,rfl,rfl,q,hz,P2.here S2 .str⟩
       ·exact P2.elim
      ·exact P2.elim
     ·exact P2.elim
   ·exact P2.elim
  ·exact P1.elim⟩⟩
def xAppend (f:XE) (fa:XA) (ρ:En) (s:Sto):Out PV:=(f ρ s).bind fun v s1=>match v with
 | .ref n=>match s1.get n with
  | some (.lst _)=>(fa ρ s1).bind fun vs s2=>match vs with
   | [w]=>match s2.get n with
    | some (.lst l)=>if l.length < 100000 then .ok .non (s2.set n (.lst (l++[w]))) else .bad
    | _=>.bad
   | _=>.bad
  | _=>.bad
 | _=>.bad
theorem SR.putL {K:aa}{H:Hp}{m:Mp}{s:Sto}{n:Nat}{l l':List PV}{vs':List V} (S:SR K CB H m s) (hn:s.get n=some (.lst l)) (r:Reps K H m s vs' l') :
  SR K CB (upd H (m.ad n) (.lst vs')) (m.fput n [m.ad n]) (s.set n (.lst l'))∧Ext H m s (upd H (m.ad n) (.lst vs')) (m.fput n [m.ad n]) (s.set n (.lst l')):=by
 obtain ⟨e1,vs,h1,_⟩:=S.get hn
 refine S.put hn (by intro _ z;cases z) _ _ (fun a o h ha=>?_) (fun a ha=>.inl (by rw [e1];exact ha)) fun ex=>⟨by show (if n=n then [m.ad n] else m.fp n)=_;rw [if_pos rfl];rfl,vs',jK,r.ext0 ex⟩
 rw [e1,aE] at ha
 rw [jJ ha];exact h
theorem SR.putD {K:aa}{H:Hp}{m:Mp}{s:Sto}{n:Nat}{l l':List (Key×PV)}{vs':List (Key×V)} (S:SR K CB H m s) (hn:s.get n=some (.dct l)) (r:RepKs K H m s vs' l') :
  SR K CB (upd H (m.ad n) (.dK vs')) (m.fput n [m.ad n]) (s.set n (.dct l'))∧Ext H m s (upd H (m.ad n) (.dK vs')) (m.fput n [m.ad n]) (s.set n (.dct l')):=by
 obtain ⟨e1,vs,h1,_⟩:=S.get hn
 refine S.put hn (by intro _ z;cases z) _ _ (fun a o h ha=>?_) (fun a ha=>.inl (by rw [e1];exact ha)) fun ex=>⟨by show (if n=n then [m.ad n] else m.fp n)=_;rw [if_pos rfl];rfl,vs',jK,r.ext0 ex⟩
 rw [e1,aE] at ha
 rw [jJ ha];exact h
theorem rM (ho:DE X CB E a f) (ha:DA X CB E (e::es) fa)
  (hbase:dU a "append" X.env (eval a X.env)=eval a X.env:=by rfl)
  (hfew:((ck cpos (aR (e::es) X.env)).all (fun x=>!x.1) && (eI cpos (cQ [] X.env)).all (fun x=>x.1.isSome)
   && decide ((e::es).length+([]:List fm).length+(if ([]:List fm).isEmpty then 0 else 1) < 30))=true:=by rfl)
  (hline:(apos.endLine == cpos.line)=true:=by rfl) (hs:aR (e::es) X.env=(false,eval e X.env)::aR es X.env:=by rfl) (hplain:(ck cpos (aR es X.env)).any (·.1)=false:=by rfl) :
  DE X CB E (.Call (.Attribute a "append" apos) (e::es) [] cpos) (xAppend f fa) :=
 ⟨(Es PySem.F.plainAttrs_list jc PySem.F.type_list_append rE ho.pe ha.pa hbase hfew hline hs hplain).mono fun σ H Q ⟨ρ,s,m,er,S,P⟩=>⟨ρ,s,m,er,S,P.bind fun v s1 u H1 m1 e1 S1 r1 P1=>by
  split at P1
  ·split at P1
   ·rename_i n _ _ hg
    obtain ⟨_,vs0,h0,_⟩:=S1.get hg
    cases r1 with
    | ref hn =>
    refine ⟨.inl ⟨rfl,vs0,SqL.of h0⟩,ρ,s1,m1,er.ext e1,S1,P1.bind fun vs s2 us H2 m2 e2 S2 r2 P2=>?_⟩
    split at P2
    ·cases r2 with
     | cons r n' =>
      cases n'
      split at P2
      ·rename_i l hg2
       split at P2
       ·rename_i hl
        obtain ⟨f1,vs1,h1,q1⟩:=S2.get hg2
        obtain ⟨S3,e3⟩:=S2.putL hg2 (q1.append (.cons r .nil))
        rw [← e2.ad _ hn]
        exact ⟨_,vs1,_,rfl,rfl,h1,by rw [q1.length];exact sz6 hl,P2 _ _ _ e3 S3 .non⟩
       ·exact P2.elim
      ·exact P2.elim
    ·exact P2.elim
   ·exact P1.elim
  ·exact P1.elim⟩⟩
def xGet (f g h:XE) (ρ:En) (s:Sto):Out PV:=(f ρ s).bind fun v s1=>match dcOf s1 v with
 | some _=>(g ρ s1).bind fun w s2=>(h ρ s2).bind fun z s3=>match dcOf s3 v with
  | some l=>match kyOf w with
   | some k=>.ok ((mQ l k).getD z) s3
   | none=>.bad
  | none=>.bad
 | none=>.bad
theorem FN (hu:X.A.units+1 < dS) (ho:DE X CB E a f) (he:DE X CB E b g) (hf:DE X CB E c h) (mm:M2 X a "get" apos b c cpos):DE X CB E (.Call (.Attribute a "get" apos) [b,c] [] cpos) (xGet f g h) :=
 ⟨(tZ hu ho.pe he.pe hf.pe mm).mono fun σ H Q ⟨ρ,s,m,er,S,P⟩=>⟨ρ,s,m,er,S,P.bind fun v s1 u H1 m1 e1 S1 r1 P1=>by
  split at P1
  ·rename_i l0 hl0
   obtain ⟨a,vs0,rfl,q0,_⟩:=r1.dc S1 hl0
   refine ⟨a,rfl,.inl ⟨vs0,q0⟩,ρ,s1,m1,er.ext e1,S1,P1.bind fun w s2 u2 H2 m2 e2 S2 r2 P2=>⟨ρ,s2,m2,(er.ext e1).ext e2,S2,P2.bind fun z s3 u3 H3 m3 e3 S3 r3 P3=>?_⟩⟩
   split at P3
   ·rename_i l hl
    split at P3
    ·rename_i k hk
     obtain ⟨a',vs,ea,q,r⟩:=((r1.ext e2).ext e3).dc S3 hl
     cases ea
     refine ⟨l5 vs k,.inl ⟨vs,k,q,qM (r2.ext e3) hk,rfl⟩,?_⟩
     obtain ⟨v1,v2⟩:=r.val k
     cases cc:mQ l k with
     | none=>rw [v2 cc];rw [cc] at P3;exact P3.here S3 r3
     | some p=>obtain ⟨u,e,ru⟩:=v1 p cc;rw [e];rw [cc] at P3;exact P3.here S3 ru
    ·exact P3.elim
   ·exact P3.elim
  ·exact P1.elim⟩⟩
def xNewD (_:En) (s:Sto):Out PV:=.ok (.ref s.nx) (s.add (.dct []))
theorem zF:DE X CB E (.Dict [] [] pos) xNewD:=⟨pe_dnewK.mono fun σ H Q ⟨ρ,s,m,er,S,P⟩ p hp=>by
 obtain ⟨S2,e2⟩:=S.newD hp (My.mC hp) jK .nil
 exact P _ _ _ e2 S2 .new⟩
end
def Out.so {α:Type} (o:Out α) (k:α→Sto→SO):SO:=match o with
 | .ok a s=>k a s
 | .ex c s=>.ex c s
 | .bad=>.bad
def SO.noex:SO→SO
 | .ex _ _=>.bad
 | o=>o
theorem PostS.shift {K:aa}{CB:ae}{E:XK}{o:SO}{H H1:Hp}{m m1:Mp}{s s1:Sto}{D:Ends} (e:Ext H m s H1 m1 s1) (h:PostS K CB E o H m s D):PostS K CB E o H1 m1 s1 D:=by
 cases o with
 | nx=>exact fun σ' H' m' x=>h σ' H' m' (e.trans x)
 | rt=>exact fun σ' H' m' x=>h σ' H' m' (e.trans x)
 | bk=>exact fun σ' H' m' x=>h σ' H' m' (e.trans x)
 | ct=>exact fun σ' H' m' x=>h σ' H' m' (e.trans x)
 | ex=>exact fun H' m' x=>h H' m' (e.trans x)
 | bad=>exact h
theorem Post.so {α β:Type}{K:aa}{CB:ae}{R:Hp→Mp→Sto→β→α→Prop}{E:XK}{o:Out α}{k:α→Sto→SO}{H:Hp}{m:Mp}{s:Sto}{D:Ends}{Q1:β→Hp→Prop} (h:PostS K CB E (o.so k) H m s D)
  (f:∀ v s1 u H1 m1,Ext H m s H1 m1 s1→SR K CB H1 m1 s1→R H1 m1 s1 u v→PostS K CB E (k v s1) H1 m1 s1 D→Q1 u H1):Post K CB R E o H m s Q1:=by
 cases o with
 | ok v s1=>exact fun u H1 m1 x S r=>f v s1 u H1 m1 x S r (PostS.shift x h)
 | ex c s'=>exact h
 | bad=>exact h
theorem PostS.next {K:aa}{CB:ae}{E:XK}{ρ:En}{H:Hp}{m:Mp}{s:Sto}{D:Ends}{σ:St} (h:PostS K CB E (.nx ρ s) H m s D) (S:SR K CB H m s) (er:ER K H m s σ ρ):D.nx σ H:=h σ H m .refl S er
theorem PostS.noex {K:aa}{CB:ae}{E:XK}{o:SO}{H:Hp}{m:Mp}{s:Sto}{D:Ends} (h:PostS K CB E o.noex H m s D):PostS K CB E0 o H m s D:=by
 cases o <;> first | exact h | exact bC h
def xSet (i:Nat) (f:XE) (ρ:En) (s:Sto):SO:=(f ρ s).so fun v s1=>.nx (ρ.set i (some v)) s1
def xRet (f:XE) (ρ:En) (s:Sto):SO:=(f ρ s).so fun v s1=>.rt v s1
def xRetN (_:En) (s:Sto):SO:=.rt .non s
def xDo (f:XE) (ρ:En) (s:Sto):SO:=(f ρ s).so fun _ s1=>.nx ρ s1
def xIf (t:XT) (g h:XS) (ρ:En) (s:Sto):SO:=(t ρ s).so fun b s1=>if b=true then g ρ s1 else h ρ s1
def xEnd (ρ:En) (s:Sto):SO:=.nx ρ s
def xSeq (g h:XS) (ρ:En) (s:Sto):SO:=match g ρ s with
 | .nx ρ' s'=>h ρ' s'
 | o=>o
section
variable {X:Cx}{CB:ae}{E:XK}{a b c e:a8}{es:List a8}{f g h:XE}{fa:XA}{t:XT}{p pos pos' apos cpos:Pos}{x:Str}{st:bT}{mH sts sts':List bT}{u v:XS}
theorem PS.nox {t:TS} (h:PS X.nox st t):PS X st t:=fun pins s σ H D I hw=>bw (h pins s σ H D (I.wish _) hw) (fun _ _ q=>q.unwish) fun _ _ z=>bC z
theorem j4 (i:Nat) (hN:X.N.Nodup) (hi:X.N[i]?=some x) (hx:Loc X.env.scope x) (he:DE X CB E e f) (hs:eW e (some (.Name x pos')) pos.line X.env=pure false:=by rfl)
  (hf:X.fn x=true∨X.env.scope.names.lookup x=some .local:=by first | exact .inl rfl | exact .inr rfl | assumption):DS X CB E (.Assign [.Name x pos'] e pos) (xSet i f) :=
 ⟨(nK hN hi hx he.pe hs hf).mono fun D σ H ⟨ρ,s,m,er,S,P⟩=>⟨ρ,s,m,er,S,Post.so P fun v s1 u H1 m1 e1 S1 r1 P1=>P1.next S1 ((er.ext e1).set i r1)⟩⟩
theorem kE (he:DE X CB E e f):DS X CB E (.Return (some e) pos) (xRet f) :=
 ⟨(mG he.pe).mono fun D σ H ⟨ρ,s,m,er,S,P⟩=>⟨ρ,s,m,er,S,Post.so P fun v s1 u H1 m1 e1 S1 r1 P1=>P1 u H1 m1 .refl S1 r1⟩⟩
theorem qR (he:DE X CB E e f) (hs:eW e none pos.line X.env=pure false:=by rfl):DS X CB E (.Expr e pos) (xDo f) :=
 ⟨(kP he.pe hs).mono fun D σ H ⟨ρ,s,m,er,S,P⟩=>⟨ρ,s,m,er,S,Post.so P fun v s1 u H1 m1 e1 S1 r1 P1=>P1.next S1 (er.ext e1)⟩⟩
theorem uV (hc:DT X CB E c t) (ha:DSs X CB E sts u) (hb:DSs X CB E sts' v):DS X CB E (.If c sts sts' pos) (xIf t u v) :=
 ⟨(qL hc.pt ha.pss hb.pss).mono fun D σ H ⟨ρ,s,m,er,S,P⟩=>⟨ρ,s,m,er,S,Post.so P fun v s1 u H1 m1 e1 S1 r1 P1=>by
  cases r1
  refine qm (fun c=>?_) fun c=>?_
  ·rw [if_pos c] at P1;exact ⟨ρ,s1,m1,er.ext e1,S1,P1⟩
  ·rw [if_neg c] at P1;exact ⟨ρ,s1,m1,er.ext e1,S1,P1⟩⟩⟩
theorem oM:DSs X CB E [] xEnd:=⟨pss_nil.mono fun D σ H ⟨ρ,s,m,er,S,P⟩=>P.next S er⟩
theorem jX (h:DS X CB E st u):DSs X CB E [st] u:=⟨jY h.ps⟩
theorem jP (h:DS X CB E st u) (k:DSs X CB E mH v):DSs X CB E (st::mH) (xSeq u v) :=
 ⟨(jS h.ps k.pss).mono fun D σ H ⟨ρ,s,m,er,S,P⟩=>⟨ρ,s,m,er,S,by
  unfold xSeq at P
  cases c:u ρ s with
  | nx ρ' s'=>rw [c] at P;exact fun σ' H' m' x S' er'=>⟨ρ',s',m',er',S',PostS.shift x P⟩
  | rt=>rw [c] at P;exact P
  | bk=>rw [c] at P;exact P
  | ct=>rw [c] at P;exact P
  | ex=>rw [c] at P;exact P
  | bad=>rw [c] at P;exact P⟩⟩
abbrev XG:=PV→En→Sto→Option En
abbrev XGs:=List PV→En→Sto→Option En
def TDG (K:aa) (CB:ae) (h:XG):TG:=fun v σ H Q=>∃ ρ s m q ρ',ER K H m s σ ρ∧SR K CB H m s∧Rep K H m s v q∧h q ρ s=some ρ'∧∀ σ',ER K H m s σ' ρ'→Q σ' H
def TDGs (K:aa) (CB:ae) (h:XGs):TGs:=fun v σ H Q=>∃ ρ s m q ρ',ER K H m s σ ρ∧SR K CB H m s∧Reps K H m s v q∧h q ρ s=some ρ'∧∀ σ',ER K H m s σ' ρ'→Q σ' H
structure DG (X:Cx) (CB:ae) (tg:a8) (h:XG):Prop where
 pg:PG X tg (TDG X.K CB h)
structure DGs (X:Cx) (CB:ae) (tg:List a8) (h:XGs):Prop where
 pgs:PGs X tg (TDGs X.K CB h)
theorem PG.mono {tg:a8}{t t':TG} (h:PG X tg t) (k:∀ v σ H Q,t' v σ H Q→t v σ H Q):PG X tg t':=fun pins s σ H v u Q I r q=>h pins s σ H v u Q I r (k v σ H Q q)
theorem PGs.mono {tg:List a8}{t t':TGs} (h:PGs X tg t) (k:∀ v σ H Q,t' v σ H Q→t v σ H Q):PGs X tg t':=fun pins s σ H v u Q I r q=>h pins s σ H v u Q I r (k v σ H Q q)
theorem PG.or {tg:a8}{t t':TG} (h:PG X tg t) (h':PG X tg t'):PG X tg (fun v σ H Q=>t v σ H Q∨t' v σ H Q):=fun pins s σ H v u Q I r q=>q.elim (h pins s σ H v u Q I r) (h' pins s σ H v u Q I r)
def yName (i:Nat) (q:PV) (ρ:En) (_:Sto):Option En:=some (ρ.set i (some q))
def yNil (q:List PV) (ρ:En) (_:Sto):Option En:=match q with
 | []=>some ρ
 | _=>none
def yCons (h:XG) (k:XGs) (q:List PV) (ρ:En) (s:Sto):Option En:=match q with
 | p::r=>(h p ρ s).bind fun ρ'=>k r ρ' s
 | []=>none
def yTup (n:Nat) (k:XGs) (q:PV) (ρ:En) (s:Sto):Option En:=match q with
 | .tup l=>if l.length=n then k l ρ s else none
 | q=>match lsOf s q with
  | some l=>if l.length=n then k l ρ s else none
  | none=>none
theorem ke (i:Nat) (hN:X.N.Nodup) (hi:X.N[i]?=some x) (hx:Loc X.env.scope x) (hf:X.fn x=true∨X.env.scope.names.lookup x=some .local:=by first | exact .inl rfl | exact .inr rfl | assumption):DG X CB (.Name x pos) (yName i) :=
 ⟨(wx hN hi hx hf).mono fun v σ H Q ⟨ρ,s,m,q,ρ',er,S,r,e,k⟩=>by cases e;exact k _ (er.set i r)⟩
theorem wD:DGs X CB [] yNil:=⟨pgs_nil.mono fun v σ H Q ⟨ρ,s,m,q,ρ',er,S,r,e,k⟩=>by
 unfold yNil at e
 split at e <;> cases e
 cases r
 exact ⟨rfl,k _ er⟩⟩
theorem lU {h:XG}{k:XGs} (h1:DG X CB e h) (h2:DGs X CB es k) (hs:(cn (e::es) X.env).map (·.2)=assign e X.env::(cn es X.env).map (·.2):=by rfl):DGs X CB (e::es) (yCons h k) :=
 ⟨(Bd h1.pg h2.pgs hs).mono fun v σ H Q ⟨ρ,s,m,q,ρ',er,S,r,e,kk⟩=>by
  unfold yCons at e
  split at e
  ·rename_i p r'
   cases r with
   | cons a b =>
    cases c:h p ρ s with
    | none=>rw [c] at e;cases e
    | some ρ1 =>
     rw [c] at e
     exact ⟨_,_,rfl,ρ,s,m,p,ρ1,er,S,a,c,fun σ1 er1=>⟨ρ1,s,m,r',ρ',er1,S,b,e,kk⟩⟩
  ·cases e⟩
theorem y4 {k:XGs}{n k0:Nat} (hc:X.calm=true) (h:DGs X CB es k) (hn:(cn es X.env).length=n:=by rfl) (hst:(cn es X.env).findIdx? (·.1)=none:=by rfl):DG X CB (.Tuple es k0 pos) (yTup n k) :=
 ⟨((Fa hc h.pgs hn hst).or (Fc hc h.pgs hn hst)).mono fun v σ H Q ⟨ρ,s,m,q,ρ',er,S,r,e,kk⟩=>by
  unfold yTup at e
  split at e
  ·split at e
   ·rename_i hl
    obtain ⟨a,vs,rfl,q1,r1⟩:=r.tp
    exact .inl ⟨a,vs,rfl,q1,r1.length.trans hl,ρ,s,m,_,ρ',er,S,r1,e,kk⟩
   ·cases e
  ·split at e
   ·rename_i l hl0
    split at e
    ·rename_i hl
     obtain ⟨a,vs,rfl,q1,r1⟩:=r.ls S hl0
     exact .inr ⟨a,vs,rfl,q1,r1.length.trans hl,ρ,s,m,_,ρ',er,S,r1,e,kk⟩
    ·cases e
   ·cases e⟩
def xAsg (f:XE) (h:XG) (ρ:En) (s:Sto):SO:=(f ρ s).so fun v s1=>match h v ρ s1 with
 | some ρ'=>.nx ρ' s1
 | none=>.bad
theorem CD {h:XG}{tg:a8} (he:DE X CB E e f) (hg:DG X CB tg h) (hs:fX [tg] e pos.line X.env=pure false:=by rfl) (hw:fY [tg] e X.env=pure none:=by rfl)
  (h1:(cn [tg] X.env).map (·.2)=[assign tg X.env]:=by rfl):DS X CB E (.Assign [tg] e pos) (xAsg f h) :=
 ⟨(Cn he.pe hg.pg hs hw h1).mono fun D σ H ⟨ρ,s,m,er,S,P⟩=>⟨ρ,s,m,er,S,Post.so P fun v s1 u H1 m1 e1 S1 r1 P1=>by
  split at P1
  ·rename_i ρ' hρ
   exact ⟨ρ,s1,m1,v,ρ',er.ext e1,S1,r1,hρ,fun σ' er'=>P1.next S1 er'⟩
  ·exact P1.elim⟩⟩
def xPar (i j:Nat) (fa:XA) (ρ:En) (s:Sto):SO:=(fa ρ s).so fun vs s1=>match vs with
 | [v,w]=>.nx ((ρ.set i (some v)).set j (some w)) s1
 | _=>.bad
theorem FI {i j:Nat}{y:Str}{px py pt:Pos}{kt k2 pt2} (hc:X.calm=true) (hN:X.N.Nodup) (hi:X.N[i]?=some x) (hj:X.N[j]?=some y) (hij:i≠j) (hx:X.env.scope.names.lookup x=some .local) (hy:X.env.scope.names.lookup y=some .local) (ha:DA X CB E [a,b] fa)
  (hw:fY [.Tuple [.Name x px,.Name y py] kt pt] (.Tuple [a,b] k2 pt2) X.env=pure (some [x,y])) (hs:fX [.Tuple [.Name x px,.Name y py] kt pt] (.Tuple [a,b] k2 pt2) pos.line X.env=pure false:=by rfl):DS X CB E (.Assign [.Tuple [.Name x px,.Name y py] kt pt] (.Tuple [a,b] k2 pt2) pos) (xPar i j fa) :=
 ⟨(E8 hc hN hi hj hij hx hy ha.pa hw hs).mono fun D σ H ⟨ρ,s,m,er,S,P⟩=>⟨ρ,s,m,er,S,Post.so P fun v s1 u H1 m1 e1 S1 r1 P1=>by
  split at P1
  ·cases r1 with
   | cons a b =>
    cases b with
    | cons b c=>cases c;exact ⟨_,_,rfl,P1.next S1 (((er.ext e1).set i a).set j b)⟩
  ·exact P1.elim⟩⟩
def lc (o i v:PV) (s:Sto):Option Sto:=match o with
 | .ref n=>match s.get n with
  | some (.lst l)=>match i with
   | .int k=>match ixN l.length k with
    | some j=>some (s.set n (.lst (l.set j v)))
    | none=>none
   | _=>none
  | some (.dct l)=>match kyOf i with
   | some k=>if l.length < 100000 then some (s.set n (.dct (AG l k v))) else none
   | none=>none
  | _=>none
 | _=>none
def xPut (fo fi fv:XE) (ρ:En) (s:Sto):SO:=(fv ρ s).so fun v s1=>(fo ρ s1).so fun o s2=>(fi ρ s2).so fun i s3=>match lc o i v s3 with
 | some s4=>.nx ρ s4
 | none=>.bad
def El:V→V→V→Hp→(Hp→Prop)→Prop:=fun o i v H Q=>∃ a H',o=.ref a∧DPut H a i v H'∧Q H'
theorem AX (hu:X.A.units+1 < dS):PSet X El:=by
 intro pins s σ H o i v ov iv u Q I ro ri rv h
 obtain ⟨a,H',rfl,g,q⟩:=h
 obtain rfl:ov=bx a:=ro
 exact vF hu I g ri rv fun s4 I4=>⟨H',I4,q⟩
theorem PSet.or {t t':EM} (h:PSet X t) (h':PSet X t'):PSet X (fun o i v H Q=>t o i v H Q∨t' o i v H Q):=fun pins s σ H o i v ov iv u Q I r1 r2 r3 q=>q.elim (h pins s σ H o i v ov iv u Q I r1 r2 r3) (h' pins s σ H o i v ov iv u Q I r1 r2 r3)
theorem E7 {K:aa}{H:Hp}{m:Mp}{s s':Sto}{o i v:PV}{xo xi xv:V} (S:SR K CB H m s) (ro:Rep K H m s xo o) (ri:Rep K H m s xi i) (rv:Rep K H m s xv v) (e:lc o i v s=some s') {Q:Hp→Prop} (hq:∀ H' m',Ext H m s H' m' s'→SR K CB H' m' s'→Q H'):Ek xo xi xv H Q∨El xo xi xv H Q:=by
 unfold lc at e
 split at e
 ·split at e
  ·rename_i l hg
   split at e
   ·split at e
    ·rename_i j hj
     cases e
     cases ro;cases ri
     obtain ⟨_,vs,h1,q1⟩:=S.get hg
     obtain ⟨S2,e2⟩:=S.putL hg (q1.set j rv)
     exact .inl ⟨_,vs,_,j,rfl,rfl,h1,by rw [q1.length];exact hj,hq _ _ e2 S2⟩
    ·cases e
   ·cases e
  ·rename_i l hg
   split at e
   ·rename_i k hk
    split at e
    ·rename_i hl
     cases e
     cases ro
     obtain ⟨_,vs,h1,q1⟩:=S.get hg
     obtain ⟨S2,e2⟩:=S.putD hg (q1.put k rv)
     exact .inr ⟨_,_,rfl,.inl ⟨vs,k,h1,qM ri hk,by rw [q1.length];exact sz6 hl,rfl⟩,hq _ _ e2 S2⟩
    ·cases e
   ·cases e
  ·cases e
 ·cases e
theorem uG {tpos:Pos} (hu:X.A.units+1 < dS) (ho:DE X CB E a f) (hi:DE X CB E b g) (hv:DE X CB E e h) (hs:fX [gi a b tpos] e pos.line X.env=pure false:=by rfl) (hw:fY [gi a b tpos] e X.env=pure none:=by rfl)
  (h1:(cn [gi a b tpos] X.env).map (·.2)=[assign (gi a b tpos) X.env]:=by rfl)
  (ha:∀ v,assign (.Subscript a b tpos) X.env v=(do
   let ov ← holding [v] (eval a X.env)
   let iv ← holding [v,ov] (eval b X.env)
   fS tpos
   holding [v,ov,iv] (setItem ov iv v)
   release [v,ov,iv] []):=by intro _;rfl):DS X CB E (.Assign [.Subscript a b tpos] e pos) (xPut f g h) :=
 ⟨(Cn hv.pe (Fb ho.pe hi.pe (set_list.or (AX hu)) ha) hs hw h1).mono fun D σ H ⟨ρ,s,m,er,S,P⟩=>⟨ρ,s,m,er,S,Post.so P fun v s1 u H1 m1 e1 S1 r1 P1 =>
  ⟨ρ,s1,m1,er.ext e1,S1,Post.so P1 fun o s2 uo H2 m2 e2 S2 r2 P2=>⟨ρ,s2,m2,(er.ext e1).ext e2,S2,Post.so P2 fun i s3 ui H3 m3 e3 S3 r3 P3=>by
   split at P3
   ·rename_i s4 h4
    exact E7 S3 (r2.ext e3) r3 ((r1.ext e2).ext e3) h4 fun H' m' x S'=>P3 σ H' m' x S' ((((er.ext e1).ext e2).ext e3).ext x)
   ·exact P3.elim⟩⟩⟩⟩
def m6 (K:aa) (CB:ae) (J:It) (l:List PV) (H0:Hp) (m0:Mp) (s0:Sto):Prop:=∀ i H m s,Ext0 H0 m0 s0 H m s→SR K CB H m s →
 (∀ q,l[i]?=some q→J.go i H∧∀ x H',J.yld i H x H'→Ext H m s H' m s∧SR K CB H' m s∧Rep K H' m s x q)∧(l.length≤i→J.stop i H)
def TDI (K:aa) (CB:ae) (E:XK) (f:XA):TI:=fun σ H R=>∃ ρ s m,ER K H m s σ ρ∧SR K CB H m s∧match f ρ s with
 | .ok l s'=>∀ J H' m',Ext H m s H' m' s'→SR K CB H' m' s'→m6 K CB J l H' m' s'→R J H'
 | .ex c s'=>∀ H' m',Ext H m s H' m' s'→SR K CB H' m' s'→E (.ref c) none H'
 | .bad=>False
structure DI (X:Cx) (CB:ae) (E:XK) (tg e:a8) (f:XA):Prop where
 pi:PI X tg e (TDI X.K CB E f)
theorem PI.mono {tg:a8}{t t':TI} (h:PI X tg e t) (k:∀ σ H R,t' σ H R→t σ H R):PI X tg e t':=fun pins s σ H R I q=>h pins s σ H R I (k σ H R q)
end
section
variable {X:Cx}{CB:ae}{E:XK}{a b c e tg:a8}{es:List a8}{f g h:XE}{fa fi:XA}{t:XT}{p pos pos' apos cpos:Pos}{x:Str}{st:bT}{mH sts sts':List bT}{u v:XS}
def xIter (f:XE) (ρ:En) (s:Sto):Out (List PV):=(f ρ s).bind fun v s1=>match v with
 | .lst l=>.ok l s1
 | .seq l=>.ok l s1
 | .tup l=>.ok l s1
 | _=>.bad
theorem EA {K:aa}{H0:Hp}{m0:Mp}{s0:Sto}{b:ae}{q:PV}{l:List PV} (r:Rep K H0 m0 s0 (.ref b) q) (hl:∀ s,lsOf s q=some l):m6 K CB (Itl K b) l H0 m0 s0:=by
 intro i H m s ex S
 obtain ⟨b',vs,e,hq,rs⟩:=(r.ext0 ex.toExtR).ls S (hl s)
 cases e
 refine ⟨fun q' hq'=>?_,fun hi=>⟨vs,hq,by rw [rs.length];exact hi⟩⟩
 obtain ⟨u,hu,ru⟩:=rs.get hq'
 refine ⟨⟨vs,u,hq,hu⟩,fun x H' ⟨e1,e2⟩=>?_⟩
 subst e1
 have e3:=e2 vs hq
 rw [hu] at e3
 cases e3
 exact ⟨.refl,S,ru⟩
theorem iterT {K:aa}{H0:Hp}{m0:Mp}{s0:Sto}{b:ae}{l:List PV} (r:Rep K H0 m0 s0 (.ref b) (.tup l)):m6 K CB (Itt K b) l H0 m0 s0:=by
 intro i H m s ex S
 obtain ⟨b',vs,e,hq,rs⟩:=(r.ext0 ex.toExtR).tp
 cases e
 refine ⟨fun q' hq'=>?_,fun hi=>⟨vs,hq,by rw [rs.length];exact hi⟩⟩
 obtain ⟨u,hu,ru⟩:=rs.get hq'
 refine ⟨⟨vs,u,hq,hu⟩,fun x H' ⟨e1,e2⟩=>?_⟩
 subst e1
 have e3:=e2 vs hq
 rw [hu] at e3
 cases e3
 exact ⟨.refl,S,ru⟩
def iLT (K:aa) (tl:TE):TI:=fun σ H R=>tl σ H fun x H1=>(∃ a,x=.ref a∧(∃ xs,SqL K H1 a xs)∧R (Itl K a) H1)∨(∃ a,x=.ref a∧(∃ xs,SqT K H1 a xs)∧R (Itt K a) H1)
theorem pi_lt {tl:TE} (hl:PE X e tl):PI X tg e (iLT X.K tl):=by
 intro pins s σ H R I h
 refine thn (hl pins s σ H _ I h) fun v s1 ⟨x,H1,I1,r1,q1⟩=>?_
 rcases q1 with ⟨a,e,⟨xs,hq⟩,q⟩ | ⟨a,e,⟨xs,hq⟩,q⟩
 ·subst e
  cases r1
  obtain ⟨its,rv,p,hz⟩:=I1.list hq
  refine fR p.isList ?_
  refine ⟨s1.heap.objs.size,[s1.heap.objs.size],_,_,H1,rfl,I1.kept (t':=s1.toks) fun b o e=>ay _ e,vb a _,⟨_,bj _ rfl,rfl,rfl⟩,fun b hb=>?_,q⟩
  have e:b=s1.heap.objs.size:=by simpa using hb
  subst e
  exact I1.fpOk (az _) (I1.hok.fresh (az _))
 ·subst e
  cases r1
  obtain ⟨its,rv,p,hz⟩:=I1.tuple hq
  refine wpAny_pyIter_tuple (show s1.heap.IsTuple a its.toArray from p) ?_
  refine ⟨s1.heap.objs.size,[s1.heap.objs.size],_,_,H1,rfl,I1.kept (t':=s1.toks) fun b o e=>ay _ e,yi a _,⟨_,bj _ rfl,rfl,rfl⟩,fun b hb=>?_,q⟩
  have e:b=s1.heap.objs.size:=by simpa using hb
  subst e
  exact I1.fpOk (az _) (I1.hok.fresh (az _))
theorem TDI.bind {σ:St}{H:Hp}{R:It→Hp→Prop}{F:PV→Sto→Out (List PV)} (q:TDI X.K CB E (fun ρ s=>(f ρ s).bind F) σ H R) {Q:VK} (k:∀ v s1 u H1 m1,SR X.K CB H1 m1 s1→Rep X.K H1 m1 s1 u v→(match F v s1 with
  | .ok l s'=>∀ J H' m',Ext H1 m1 s1 H' m' s'→SR X.K CB H' m' s'→m6 X.K CB J l H' m' s'→R J H'
  | .ex c s'=>∀ H' m',Ext H1 m1 s1 H' m' s'→SR X.K CB H' m' s'→E (.ref c) none H'
  | .bad=>False)→Q u H1):TDE X.K CB E f σ H Q:=by
 obtain ⟨ρ,s,m,er,S,P⟩:=q
 refine ⟨ρ,s,m,er,S,?_⟩
 cases c:f ρ s with
 | ok v s1 =>
  simp only [c,Out.bind] at P
  refine fun u H1 m1 e1 S1 r1=>k v s1 u H1 m1 S1 r1 ?_
  cases d:F v s1 with
  | ok l s'=>rw [d] at P;exact fun J H' m' x=>P J H' m' (e1.trans x)
  | ex c' s'=>rw [d] at P;exact fun H' m' x=>P H' m' (e1.trans x)
  | bad=>rw [d] at P;exact P
 | ex c' s'=>simp only [c,Out.bind] at P;exact P
 | bad=>simp only [c,Out.bind] at P
theorem nA (hl:DE X CB E e f):DI X CB E tg e (xIter f):=⟨(pi_lt hl.pe).mono fun σ H R q=>TDI.bind q fun v s1 u H1 m1 S1 r1 P=>by
 cases r1 with
 | lst h1 h2 h3=>exact .inl ⟨_,rfl,⟨_,SqL.of h1⟩,P _ _ _ .refl S1 (EA (.lst h1 h2 h3) fun _=>rfl)⟩
 | seq h1 h3=>exact .inl ⟨_,rfl,⟨_,h1.elim (fun z=>.inl (.inr z.1)) .inr⟩,P _ _ _ .refl S1 (EA (.seq h1 h3) fun _=>rfl)⟩
 | tup h1 h3=>exact .inr ⟨_,rfl,⟨_,h1.elim (fun z=>.inl z.1) .inr⟩,P _ _ _ .refl S1 (iterT (.tup h1 h3))⟩
 | _=>exact P.elim⟩
def strP (x:Str):List PV:=x.cps.toList.map fun c=>PV.str ⟨#[c]⟩
def xIterS (f:XE) (ρ:En) (s:Sto):Out (List PV):=(f ρ s).bind fun v s1=>match v with
 | .str x=>.ok (strP x) s1
 | _=>.bad
def qk (lo:Int) (n:Nat):List PV:=(eC n).map fun (k:Nat)=>PV.int (lo+k)
def xRng1 (fa:XA) (ρ:En) (s:Sto):Out (List PV):=(fa ρ s).bind fun vs s1=>match vs with
 | [.int j]=>if -(2 ^ 62)≤j∧j < 2 ^ 62 then .ok (qk 0 j.toNat) s1 else .bad
 | _=>.bad
theorem iterR {K:aa}{lo:Int}{n:Nat}{H0:Hp}{m0:Mp}{s0:Sto}:m6 K CB (Itr lo n) (qk lo n) H0 m0 s0:=by
 intro i H m s ex S
 refine ⟨fun q hq=>?_,fun hi=>?_⟩
 ·unfold qk at hq
  rw [bo] at hq
  by_cases hi:i < n
  ·rw [jw hi] at hq
   cases hq
   exact ⟨hi,fun x H' ⟨e1,e2⟩=>by subst e1 e2;exact ⟨.refl,S,.int⟩⟩
  ·rw [ji (by simpa using hi)] at hq;cases hq
 ·unfold qk at hi;rw [af,List.length_range] at hi;exact hi
theorem TDI.bindA {σ:St}{H:Hp}{R:It→Hp→Prop}{F:List PV→Sto→Out (List PV)} (q:TDI X.K CB E (fun ρ s=>(fa ρ s).bind F) σ H R) {Q:List V→Hp→Prop} (k:∀ v s1 u H1 m1,SR X.K CB H1 m1 s1→Reps X.K H1 m1 s1 u v→(match F v s1 with
  | .ok l s'=>∀ J H' m',Ext H1 m1 s1 H' m' s'→SR X.K CB H' m' s'→m6 X.K CB J l H' m' s'→R J H'
  | .ex c s'=>∀ H' m',Ext H1 m1 s1 H' m' s'→SR X.K CB H' m' s'→E (.ref c) none H'
  | .bad=>False)→Q u H1):TDA X.K CB E fa σ H Q:=by
 obtain ⟨ρ,s,m,er,S,P⟩:=q
 refine ⟨ρ,s,m,er,S,?_⟩
 cases c:fa ρ s with
 | ok v s1 =>
  simp only [c,Out.bind] at P
  refine fun u H1 m1 e1 S1 r1=>k v s1 u H1 m1 S1 r1 ?_
  cases d:F v s1 with
  | ok l s'=>rw [d] at P;exact fun J H' m' x=>P J H' m' (e1.trans x)
  | ex c' s'=>rw [d] at P;exact fun H' m' x=>P H' m' (e1.trans x)
  | bad=>rw [d] at P;exact P
 | ex c' s'=>simp only [c,Out.bind] at P;exact P
 | bad=>simp only [c,Out.bind] at P
theorem mX (hg:Gl X "range") (hm:X.mg "range"=none) (ha:DA X CB E [a] fa) (hs:aR [a] X.env=[(false,eval a X.env)]:=by rfl):DI X CB E tg (.Call (.Name "range" p) [a] [] pos) (xRng1 fa) :=
 ⟨(z8 hg hm ha.pa hs).mono fun σ H R q=>TDI.bindA q fun v s1 u H1 m1 S1 r1 P=>by
  split at P
  ·rename_i l s' hF
   split at hF
   ·split at hF <;> cases hF
    rename_i hj
    cases r1 with
    | cons r n=>cases n;cases r;exact ⟨_,rfl,hj.1,hj.2,P _ _ _ .refl S1 iterR⟩
   ·cases hF
  ·rename_i hF
   split at hF
   ·split at hF <;> cases hF
   ·cases hF
  ·exact P.elim⟩
def xM:Key→PV
 | .inl i=>.int i
 | .inr x=>.str x
def xIterD (f:XE) (ρ:En) (s:Sto):Out (List PV):=(f ρ s).bind fun v s1=>match v with
 | .dct l=>.ok (l.map fun kv=>xM kv.1) s1
 | _=>.bad
def iDict (tl:TE):TI:=fun σ H R=>tl σ H fun x H1=>∃ d kvs,x=.ref d∧((H1 d=some (.dK kvs)∧∀ ob,R (Itd d ob kvs) (upd H1 d (.frz ob (.dK kvs))))∨∃ ob,H1 d=some (.frz ob (.dK kvs))∧R (Itd d ob kvs) H1)
theorem zr {tl:TE} (hl:PE X e tl):PI X tg e (iDict tl):=by
 intro pins s σ H R I h
 refine thn (hl pins s σ H _ I h) fun v s1 ⟨x,H1,I1,r1,q1⟩=>?_
 obtain ⟨d,kvs,e,q1⟩:=q1
 subst e
 cases r1
 have hd:Rd H1 d (.dK kvs):=q1.elim (fun z=>.inl z.1) fun ⟨ob,z,_⟩=>.inr ⟨ob,z⟩
 obtain ⟨z,hsys,vs,rel,dd⟩:=qS I1.hok hd
 obtain ⟨ep,at_⟩:=dd.dictAt
 obtain ⟨ob,es,ho,hex,hdat,hrest⟩:=id at_
 refine wpAny_pyIter_dict hsys at_ ?_
 have hl:=rel.length
 have I2:Inv X pins σ H1 { s1 with heap:=s1.heap.push { cls:=.type "dict_keyiterator",data:=.fields #[.ref d,.int 0 0,.int vs.length 0,.int ep 0] } }:=I1.kept (t':=s1.toks) fun b o e=>ay _ e
 have hne:s1.heap.objs.size≠d:=fun z=>by
  have:=aK ho
  rw [z] at this
  exact cC _ this
 have st2:(0≤kvs.length∧(s1.heap.push { cls:=.type "dict_keyiterator",data:=.fields #[.ref d,.int 0 0,.int vs.length 0,.int ep 0] }).IsKeyIter s1.heap.objs.size d 0 kvs.length ep):=by
  refine ⟨bc _,{ cls:=.type "dict_keyiterator",data:=.fields #[.ref d,.int 0 0,.int vs.length 0,.int ep 0] },bj _ rfl,rfl,?_⟩
  rw [hl]
  rfl
 rcases q1 with ⟨hd1,q⟩ | ⟨ob',hd1,q⟩
 ·refine ⟨s1.heap.objs.size,[s1.heap.objs.size],_,Itd d ob kvs,_,rfl,I2.freeze hd1 (ay _ ho),vc d _ ob kvs es ep hdat,st2,fun b hb=>?_,q ob⟩
  have e:b=s1.heap.objs.size:=by simpa using hb
  subst e
  refine I1.fpOk (az _) ?_
  rw [jJ hne]
  exact I1.hok.fresh (az _)
 ·have e0:ob'=ob:=by
   obtain ⟨e1,_⟩:=(show ObjOk X.prog X.w H1 s1.heap d (.frz ob' (.dK kvs)) from I1.hok d _ hd1)
   rw [ho] at e1
   exact (aU e1).symm
  subst e0
  refine ⟨s1.heap.objs.size,[s1.heap.objs.size],_,Itd d ob' kvs,_,rfl,I2,vc d _ ob' kvs es ep hdat,st2,fun b hb=>?_,q⟩
  have e:b=s1.heap.objs.size:=by simpa using hb
  subst e
  exact I1.fpOk (az _) (I1.hok.fresh (az _))
theorem Fy {K:aa}{H:Hp}{m:Mp}{s:Sto} (k:Key):Rep K H m s (kV k) (xM k):=by
 cases k with
 | inl i=>exact .int
 | inr x=>exact .str
theorem RepKs.get:∀ {K:aa}{H:Hp}{m:Mp}{s:Sto}{vs:List (Key×V)}{l:List (Key×PV)}{i:Nat}{q:Key×PV},RepKs K H m s vs l→l[i]?=some q→∃ w,vs[i]?=some w∧w.1=q.1
 | _,_,_,_,_,_,_,_,.nil,e=>by simp at e
 | _,_,_,_,_,_,0,_,.cons _ _,e=>by simp at e;subst e;exact ⟨_,rfl,rfl⟩
 | _,_,_,_,_,_,i+1,q,.cons _ b,e=>by
  obtain ⟨w,h1,h2⟩:=b.get (i:=i) (q:=q) (by simpa using e)
  exact ⟨w,by simpa using h1,h2⟩
theorem CN {K:aa}{H0:Hp}{m0:Mp}{s0:Sto}{d:ae}{ob:Obj}{kvs:List (Key×V)}{l:List (Key×PV)} (hd:∀ H m s,Ext0 H0 m0 s0 H m s→SR K CB H m s→H d=some (.frz ob (.dK kvs))) (r:RepKs K H0 m0 s0 kvs l):m6 K CB (Itd d ob kvs) (l.map fun kv=>xM kv.1) H0 m0 s0:=by
 intro i H m s ex S
 have h:=hd H m s ex S
 refine ⟨fun q hq=>?_,fun hi=>⟨by rw [r.length];simpa using hi,h⟩⟩
 rw [bo] at hq
 cases c:l[i]? with
 | none=>rw [c] at hq;cases hq
 | some kv =>
  rw [c] at hq
  cases hq
  obtain ⟨w,h1,h2⟩:=r.get c
  refine ⟨⟨(a9.mp h1).1,h⟩,fun x H' ⟨e1,kv',e2,e3⟩=>?_⟩
  subst e1 e3
  rw [h1] at e2
  cases e2
  rw [h2]
  exact ⟨.refl,S,Fy _⟩
theorem Ext.freeze {K:aa}{H:Hp}{m:Mp}{s:Sto}{d:ae}{ob:Obj}{kvs:List (Key×V)} (S:SR K CB H m s) (hd:H d=some (.dK kvs)) (hp:Pur m s d):Ext H m s (upd H d (.frz ob (.dK kvs))) m s:=by
 refine ⟨⟨⟨az _,fun _ _=>rfl,fun a u h p=>⟨?_,p⟩,fun a u h n p=>?_⟩,fun j l hj h=>⟨h,fun o ho=>?_⟩⟩,rfl,fun a ha o h _=>?_⟩
 ·by_cases e:a=d
  ·subst e
   rcases h with h | ⟨o,h⟩
   ·rw [hd] at h;cases h;exact .inr ⟨ob,jK⟩
   ·rw [hd] at h;cases h
  ·exact h.elim (fun h=>.inl (by rw [jJ e];exact h)) fun ⟨o,h⟩=>.inr ⟨o,by rw [jJ e];exact h⟩
 ·rw [jJ (wL h hd (n _))];exact h
 ·obtain ⟨e1,_⟩:=S.ok _ (kB h)
  rw [jJ (show m.ad j≠d from fun z=>hp.2 j (aj.mpr ⟨_,kB h,rfl⟩) (by rw [e1,z];simp))];exact ho
 ·rw [jJ (show a≠d from fun z=>hp.1 (by rw [← z];exact ha))];exact h
theorem SR.freezeP {K:aa}{H:Hp}{m:Mp}{s:Sto}{d:ae}{ob:Obj}{kvs:List (Key×V)} (S:SR K CB H m s) (hd:H d=some (.dK kvs)) (hp:Pur m s d):SR K CB (upd H d (.frz ob (.dK kvs))) m s:=by
 refine ⟨S.nd,S.lt,fun q hq=>(S.ok q hq).keep S (Ext.freeze S hd hp).toExtR (fun a ha o h=>?_) rfl rfl,S.dj,S.hx,S.hsk (Ext.freeze S hd hp).hk (.upd hd yD),S.tbk (.upd hd yD)⟩
 have:a≠d:=fun z=>hp.2 q.1 (aj.mpr ⟨q,hq,rfl⟩) (z ▸ ha)
 rw [jJ this];exact h
theorem DR (hl:DE X CB E e f):DI X CB E tg e (xIterD f):=⟨(zr hl.pe).mono fun σ H R q=>TDI.bind q fun v s1 u H1 m1 S1 r1 P=>by
 cases r1 with
 | dct h1 h2 h3 =>
  rename_i d vs l
  rcases h1 with h1 | ⟨ob,h1⟩
  ·refine ⟨d,vs,rfl,.inl ⟨h1,fun ob=>P _ _ m1 (.freeze S1 h1 h2) (S1.freezeP h1 h2) (CN (fun H m s ex S=>ex.el _ _ jK (by intro _ z;cases z) h2) (h3.ext (.freeze S1 h1 h2)))⟩⟩
  ·exact ⟨d,vs,rfl,.inr ⟨ob,h1,P _ _ m1 .refl S1 (CN (fun H m s ex S=>ex.el _ _ h1 (by intro _ z;cases z) h2) h3)⟩⟩
 | _=>exact P.elim⟩
def kM (body:PV→XS):List PV→XS
 | [],ρ,s=>.nx ρ s
 | q::l,ρ,s=>match body q ρ s with
  | .nx ρ' s'=>kM body l ρ' s'
  | .ct ρ' s'=>kM body l ρ' s'
  | .bk ρ' s'=>.nx ρ' s'
  | o=>o
def j9 (y:XG) (u:XS) (q:PV) (ρ:En) (s:Sto):SO:=match y q ρ s with
 | some ρ'=>u ρ' s
 | none=>.bad
def xFor (fi:XA) (y:XG) (body:XS) (ρ:En) (s:Sto):SO:=((fi ρ s).so fun l s1=>kM (j9 y body) l ρ s1).noex
theorem BJ {y:XG}{J:It}{l:List PV}{H1:Hp}{m1:Mp}{s1:Sto}{σ:St}{ρ:En}{D:Ends} (S1:SR X.K CB H1 m1 s1) (er:ER X.K H1 m1 s1 σ ρ) (it:m6 X.K CB J l H1 m1 s1) (P:PostS X.K CB E0 (kM (j9 y u) l ρ s1) H1 m1 s1 D) :
  ∃ W:Nat→Nat→St→Hp→Prop,(∃ m,W 0 m σ H1)∧∀ i m σ H,W i m σ H →
   (J.stop i H∧D.nx σ H)∨(J.go i H∧∃ N:St→Hp→Prop,(∀ σ' H',N σ' H'→∃ m',m' < m∧W (i+1) m' σ' H')∧∀ x H',J.yld i H x H'→(TDG X.K CB y) x σ H' fun σ2 H2=>(TDS X.K CB E0 u) { D with nx:=N,ct:=N,bk:=D.nx } σ2 H2):=by
 refine ⟨fun i k σ' H'=>∃ ρ' s' m',ER X.K H' m' s' σ' ρ'∧SR X.K CB H' m' s'∧Ext H1 m1 s1 H' m' s'∧i≤l.length∧k=l.length - i∧PostS X.K CB E0 (kM (j9 y u) (l.drop i) ρ' s') H' m' s' D,⟨l.length,ρ,s1,m1,er,S1,.refl,bc _,rfl,P⟩,?_⟩
 rintro i k σ' H' ⟨ρ',s',m',er',S',ex',hi',rfl,P'⟩
 obtain ⟨it1,it2⟩:=it i H' m' s' ex'.toExt0 S'
 by_cases hlt:i < l.length
 ·right
  have hq:l[i]?=some l[i]:=bu hlt
  obtain ⟨go,yl⟩:=it1 _ hq
  rw [cg hlt] at P'
  refine ⟨go,fun σ2 H2=>∃ ρ2 s2 m2,ER X.K H2 m2 s2 σ2 ρ2∧SR X.K CB H2 m2 s2∧Ext H1 m1 s1 H2 m2 s2∧PostS X.K CB E0 (kM (j9 y u) (l.drop (i+1)) ρ2 s2) H2 m2 s2 D,fun σ2 H2 ⟨ρ2,s2,m2,a1,a2,a3,a4⟩=>⟨l.length - (i+1),by omega,ρ2,s2,m2,a1,a2,a3,hlt,rfl,a4⟩,fun x H2 hy=>?_⟩
  obtain ⟨e2,S2,r2⟩:=yl x H2 hy
  unfold kM at P'
  have hbo:j9 y u l[i] ρ' s'=match y l[i] ρ' s' with | some ρ'=>u ρ' s' | none=>.bad:=rfl
  rw [hbo] at P'
  cases hyq:y l[i] ρ' s' with
  | none=>rw [hyq] at P';exact P'.elim
  | some ρ2 =>
   rw [hyq] at P'
   have P':=PostS.shift e2 P'
   dsimp only at P'
   refine ⟨ρ',s',m',l[i],ρ2,er'.ext e2,S2,r2,hyq,fun σ2 er2=>⟨ρ2,s',m',er2,S2,?_⟩⟩
   cases cb:u ρ2 s' with
   | nx ρ3 s3=>rw [cb] at P';exact fun σ3 H3 m3 e3 S3 er3=>⟨ρ3,s3,m3,er3,S3,(ex'.trans e2).trans e3,PostS.shift e3 P'⟩
   | ct ρ3 s3=>rw [cb] at P';exact fun σ3 H3 m3 e3 S3 er3=>⟨ρ3,s3,m3,er3,S3,(ex'.trans e2).trans e3,PostS.shift e3 P'⟩
   | bk ρ3 s3=>rw [cb] at P';exact P'
   | rt v3 s3=>rw [cb] at P';exact P'
   | ex c3 s3=>rw [cb] at P';exact P'
   | bad=>rw [cb] at P';exact P'
 ·left
  have hle:l.length≤i:=dC hlt
  rw [dZ hle] at P'
  exact ⟨it2 hle,P'.next S' er'⟩
theorem me {y:XG} (hc:X.calm=true) (hi:DI X.nox CB E0 tg e fi) (hg:DG X.nox CB tg y) (hb:DSs X.nox CB E0 sts u) (hs:∀ x,bY e X.env x=pure x:=by intro _;rfl):DS X CB E (.For tg e sts [] pos) (xFor fi y u) :=
 ⟨PS.nox ((Cm (X:=X.nox) fC hc hi.pi hg.pg hb.pss hs).mono fun D σ H ⟨ρ,s,m,er,S,P⟩=>by
  have P:=PostS.noex P
  refine ⟨ρ,s,m,er,S,?_⟩
  cases c:fi ρ s with
  | bad=>rw [c] at P;exact P
  | ex c' s'=>rw [c] at P;exact P
  | ok l s1 =>
   rw [c] at P
   intro J H1 m1 e1 S1 it
   exact BJ (X:=X.nox) S1 (er.ext e1) it (PostS.shift e1 P))⟩
def kL (c:XT) (b:XS):Nat→XS
 | 0,_,_=>.bad
 | n+1,ρ,s=>(c ρ s).so fun t s1=>if t=true then (match b ρ s1 with
  | .nx ρ' s'=>kL c b n ρ' s'
  | .ct ρ' s'=>kL c b n ρ' s'
  | .bk ρ' s'=>.nx ρ' s'
  | o=>o) else .nx ρ s1
open Classical in
def uf (c:XT) (b:XS) (ρ:En) (s:Sto):SO:=if h:∃ n,kL c b n ρ s≠.bad then (kL c b h.choose ρ s).noex else .bad
theorem BL {c:a8} (hc:DT X.nox CB E0 c t) (hb:DSs X.nox CB E0 sts u):DS X CB E (.While c sts [] pos) (uf t u) :=
 ⟨PS.nox ((xF (X:=X.nox) fC hc.pt hb.pss).mono fun D σ H ⟨ρ,s,m,er,S,P⟩=>by
  unfold uf at P
  split at P
  ·rename_i h
   have P:=PostS.noex P
   refine ⟨fun n σ' H'=>∃ ρ' s' m',ER X.K H' m' s' σ' ρ'∧SR X.K CB H' m' s'∧PostS X.K CB E0 (kL t u n ρ' s') H' m' s' D,⟨_,ρ,s,m,er,S,P⟩,?_⟩
   rintro n σ' H' ⟨ρ',s',m',er',S',P'⟩
   cases n with
   | zero=>exact P'.elim
   | succ n =>
    refine ⟨ρ',s',m',er',S',Post.so P' fun b s1 b' H1 m1 e1 S1 r1 P1=>?_⟩
    cases r1
    refine qm (fun cb=>?_) fun cb=>?_
    ·rw [if_pos cb] at P1
     refine ⟨fun σ2 H2=>∃ ρ2 s2 m2,ER X.K H2 m2 s2 σ2 ρ2∧SR X.K CB H2 m2 s2∧PostS X.K CB E0 (kL t u n ρ2 s2) H2 m2 s2 D,fun σ2 H2 q=>⟨n,cF _,q⟩,ρ',s1,m1,er'.ext e1,S1,?_⟩
     cases cu:u ρ' s1 with
     | nx ρ3 s3=>rw [cu] at P1;exact fun σ3 H3 m3 e3 S3 er3=>⟨ρ3,s3,m3,er3,S3,PostS.shift e3 P1⟩
     | ct ρ3 s3=>rw [cu] at P1;exact fun σ3 H3 m3 e3 S3 er3=>⟨ρ3,s3,m3,er3,S3,PostS.shift e3 P1⟩
     | bk ρ3 s3=>rw [cu] at P1;exact P1
     | rt v3 s3=>rw [cu] at P1;exact P1
     | ex c3 s3=>rw [cu] at P1;exact P1
     | bad=>rw [cu] at P1;exact P1
    ·rw [if_neg cb] at P1
     exact P1.next S1 (er'.ext e1)
  ·exact P.elim)⟩
theorem oV {c:XT}{b:XS}:∀ {n:Nat}{ρ:En}{s:Sto},kL c b n ρ s≠.bad→kL c b (n+1) ρ s=kL c b n ρ s
 | 0,_,_,h=>absurd rfl h
 | n+1,ρ,s,h=>by
  unfold kL at h ⊢
  cases hc:c ρ s with
  | ok t s1 =>
   rw [hc] at h
   simp only [Out.so] at h ⊢
   by_cases ht:t=true
   ·rw [if_pos ht] at h ⊢
    rw [if_pos ht]
    cases hb:b ρ s1 with
    | nx ρ' s'=>rw [hb] at h;exact oV h
    | ct ρ' s'=>rw [hb] at h;exact oV h
    | _=>rfl
   ·rw [if_neg ht,if_neg ht]
  | ex=>rfl
  | bad=>rfl
theorem uY {c:XT}{b:XS}{n k:Nat}{ρ:En}{s:Sto} (h:kL c b n ρ s≠.bad):kL c b (n+k) ρ s=kL c b n ρ s:=by
 induction k with
 | zero=>rfl
 | succ k ih=>rw [← Nat.add_assoc,oV (by rw [ih];exact h),ih]
theorem zR {c:XT}{b:XS}{n:Nat}{ρ:En}{s:Sto}{o:SO} (h:kL c b n ρ s=o) (ho:o≠.bad):uf c b ρ s=o.noex:=by
 have hx:∃ n,kL c b n ρ s≠.bad:=⟨n,by rw [h];exact ho⟩
 unfold uf
 rw [dif_pos hx]
 have h1:=uY (k:=n) hx.choose_spec
 have h2:=uY (k:=hx.choose) (show kL c b n ρ s≠.bad by rw [h];exact ho)
 rw [Nat.add_comm] at h2
 rw [← h1,h2,h]
end
def kK (c:XT) (e:XE) (cap:En):List PV→Sto→Out (List PV)
 | [],s=>.ok [] s
 | q::l,s=>match c (some q::cap) s with
  | .ok true s1=>match e (some q::cap) s1 with
   | .ok v s2=>match kK c e cap l s2 with
    | .ok vs s3=>.ok (v::vs) s3
    | _=>.bad
   | _=>.bad
  | .ok false s1=>kK c e cap l s1
  | _=>.bad
theorem mf {c:XT}{e:XE}{cap:En}{q:PV}{l:List PV}{s:Sto}:kK c e cap (q::l) s=match c (some q::cap) s with
  | .ok true s1=>match e (some q::cap) s1 with
   | .ok v s2=>match kK c e cap l s2 with
    | .ok vs s3=>.ok (v::vs) s3
    | _=>.bad
   | _=>.bad
  | .ok false s1=>kK c e cap l s1
  | _=>.bad:=rfl
theorem qT {c:XT}{e:XE}{cap:En}:∀ {l:List PV}{s s':Sto}{k:ae},kK c e cap l s≠.ex k s'
 | [],_,_,_,h=>by cases h
 | q::l,s,s',k,h=>by
  unfold kK at h
  split at h
  ·split at h
   ·split at h <;> cases h
   ·cases h
  ·exact qT h
  ·cases h
def nZ (_:En) (s:Sto):Out Bool:=.ok true s
def l4 (fi:XA) (ix:List Nat) (c:XT) (e:XE) (ρ:En) (s:Sto):Out PV:=(fi ρ s).bind fun l s1=>if l.length≤100000 then (kK c e (kj ix ρ) l s1).bind fun vs s2=>.ok (.lst vs) s2 else .bad
structure DIfs (X:Cx) (CB:ae) (ifs:List a8) (t:XT):Prop where
 pifs:zQ X ifs (TDT X.K CB E0 t)
section
variable {X:Cx}{CB:ae}{E:XK}{a b c e elt iter tg:a8}{es ifs:List a8}{f g h:XE}{fa fi:XA}{t:XT}{p px pos pos' apos cpos:Pos}{x:Str}{st:bT}{mH sts sts':List bT}{u v:XS}{scope:cW}{fr:List Str}{ix:List Nat}
theorem lT:DIfs X CB [] nZ:=⟨fun pins s σ H Q I ⟨ρ,s',m,er,S,P⟩=>tY pins s σ H Q I (P.here S rfl)⟩
theorem BN (h:DT X CB E0 c t):DIfs X CB [c] t:=⟨Ba h.pt⟩
def Mp.hide (m:Mp) (d:ae):Mp:=⟨m.ad,m.fp,d::m.hid⟩
def Mp.bare (m:Mp) (l:List ae):Mp:=⟨m.ad,m.fp,l⟩
theorem Ext0.hide {H:Hp}{m:Mp}{s:Sto}{d:ae}{o:HO} (hd:H d=none):Ext0 H m s (upd H d o) (m.hide d) s :=
 ⟨⟨az _,fun _ _=>rfl,fun a u h p=>⟨h.same (My.mC hd),fun z=>(ai.mp z).elim (h.ne hd) p.1,p.2⟩,fun a u h _ _=>My.mC hd _ _ h⟩,fun j l _ h=>⟨h,fun o ho=>My.mC hd _ _ ho⟩⟩
theorem SR.hide {K:aa}{H:Hp}{m:Mp}{s:Sto}{d:ae}{xs:List V} (S:SR K CB H m s) (hd:H d=none):SR K CB (upd H d (.lst xs)) (m.hide d) s:=by
 have k:=My.mC (o:=.lst xs) hd
 have S1:=S.same k
 have e0:Ext0 H m s (upd H d (.lst xs)) (m.hide d) s:=Ext0.hide hd
 have hne:∀ n∈s.cs.map (·.1),∀ a∈m.fp n,a≠d:=fun n hn a ha z=>by
  obtain ⟨q,hq,rfl⟩:=aj.mp hn
  obtain ⟨o,e,_⟩:=(S.ok q hq).kind ha
  rw [z,hd] at e;cases e
 refine ⟨S.nd,S.lt,fun q hq=>?_,S.dj,fun n hn a ha hb=>(ai.mp hb).elim (hne n hn a ha) (S.hx n hn a ha),fun a ha=>?_,fun P q t=>⟨ak _ (S1.tb P q t).1,(S1.tb P q t).2⟩⟩
 ·have:=S.ok q hq
  cases c:q.2 with
  | lst l=>rw [c] at this;obtain ⟨a1,vs,a2,a3⟩:=this;exact ⟨a1,vs,k _ _ a2,a3.ext0 e0.toExtR⟩
  | dct l=>rw [c] at this;obtain ⟨a1,vs,a2,a3⟩:=this;exact ⟨a1,vs,k _ _ a2,a3.ext0 e0.toExtR⟩
  | dfz l=>rw [c] at this;obtain ⟨a1,ob,vs,a2,a3⟩:=this;exact ⟨a1,ob,vs,k _ _ a2,a3.ext0 e0.toExtR⟩
  | obj C fs=>rw [c] at this;obtain ⟨a1,dx,vs,a2,a3,a4⟩:=this;exact ⟨a1,dx,vs,k _ _ a2,a3,a4.ext0 e0.toExtR⟩
  | book pp L =>
   have:=S1.ok q hq
   rw [c] at this
   exact this
 ·rcases ai.mp ha with rfl | ha
  ·rw [jK];exact ⟨by simp,fun _ _=>⟨by simp,by simp,by simp,by simp⟩⟩
  ·exact S1.hs a ha
theorem Ext0.redo {K:aa}{H:Hp}{m:Mp}{s:Sto}{d:ae}{o u0:HO} (S:SR K CB H m s) (hd:d∈m.hid) (hu:H d=some u0) (hno:¬ Odd u0):Ext0 H m s (upd H d o) m s:=by
 have ne:∀ a,Pur m s a→a≠d:=fun a p z=>p.1 (z ▸ hd)
 refine ⟨⟨az _,fun _ _=>rfl,fun a u h p=>⟨?_,p⟩,fun a u h _ p=>by rw [jJ (ne a p)];exact h⟩,fun j l _ h=>⟨h,fun o ho=>?_⟩⟩
 rotate_left
 ·obtain ⟨e1,_⟩:=S.ok _ (kB h)
  rw [jJ (show m.ad j≠d from fun z=>S.hx j (aj.mpr ⟨_,kB h,rfl⟩) (m.ad j) (by rw [e1];simp) (by rw [z];exact hd))];exact ho
 exact h.elim (fun h=>.inl (by rw [jJ (ne a p)];exact h)) fun ⟨o,h⟩=>.inr ⟨o,by rw [jJ (ne a p)];exact h⟩
theorem SR.redo {K:aa}{H:Hp}{m:Mp}{s:Sto}{d:ae}{xs ys:List V} (S:SR K CB H m s) (hd:d∈m.hid) (hl:H d=some (.lst xs)):SR K CB (upd H d (.lst ys)) m s:=by
 have e0:Ext0 H m s (upd H d (.lst ys)) m s:=Ext0.redo S hd hl uB
 have nt:∀ (t:ae) (us:List V),SqT K H t us→SqT K (upd H d (.lst ys)) t us:=fun t us h=>by
  rcases h with h | h
  ·refine .inl (e0.pu _ _ h ?_).1
   exact h.elim (fun h=>S.pure_tup h) fun ⟨_,h⟩=>S.pure_frz (.inl h)
  ·exact .inr h
 refine ⟨S.nd,S.lt,fun q hq=>?_,S.dj,S.hx,fun a ha=>?_,S.tbk (.upd hl uB)⟩
 ·have hn:q.1∈s.cs.map (·.1):=aj.mpr ⟨q,hq,rfl⟩
  have kp:∀ a∈m.fp q.1,∀ o,H a=some o→upd H d (.lst ys) a=some o:=fun a ha o h=>by
   rw [jJ (show a≠d from fun z=>S.hx _ hn a ha (by rw [z];exact hd))];exact h
  have:=S.ok q hq
  cases c:q.2 with
  | lst l=>rw [c] at this;obtain ⟨a1,vs,a2,a3⟩:=this;exact ⟨a1,vs,kp _ (by rw [a1];simp) _ a2,a3.ext0 e0.toExtR⟩
  | dct l=>rw [c] at this;obtain ⟨a1,vs,a2,a3⟩:=this;exact ⟨a1,vs,kp _ (by rw [a1];simp) _ a2,a3.ext0 e0.toExtR⟩
  | dfz l=>rw [c] at this;obtain ⟨a1,ob,vs,a2,a3⟩:=this;exact ⟨a1,ob,vs,kp _ (by rw [a1];simp) _ a2,a3.ext0 e0.toExtR⟩
  | obj C fs=>rw [c] at this;obtain ⟨a1,dx,vs,a2,a3,a4⟩:=this;exact ⟨a1,dx,vs,kp _ (by rw [a1];simp) _ a2,a3,a4.ext0 e0.toExtR⟩
  | book pp L =>
   rw [c] at this
   obtain ⟨z,L',B,e1,e2⟩:=this
   rw [e2] at kp
   have kb:∀ a∈My.BFp (m.ad q.1) z L',∀ o,H a=some o→upd H d (.lst ys) a=some o:=kp
   refine ⟨z,L',⟨kb _ (by simp [My.BFp]) _ B.ob,kb _ (by simp [My.BFp]) _ B.pp,kb _ (by simp [My.BFp]) _ B.tt,kb _ (by simp [My.BFp]) _ B.mm,kb _ (by simp [My.BFp]) _ B.ll,B.hh.keep (fun o h=>kb _ (by simp [My.BFp]) _ h),fun q' hq'=>?_,B.nd,B.p6,B.h8⟩,e1,e2⟩
   obtain ⟨ts,h1,h2,h3⟩:=B.he q' hq'
   refine ⟨ts,h1,kb _ ?_ _ h2,fun y hy=>nt _ _ (h3 y hy)⟩
   unfold My.BFp
   simp only [ai]
   right;right;right;right;right;right
   exact aj.mpr ⟨q',hq',rfl⟩
 ·by_cases e:a=d
  ·subst e;rw [jK];exact ⟨by simp,fun _ _=>⟨by simp,by simp,by simp,by simp⟩⟩
  ·rw [jJ e];exact S.hs a ha
theorem Ext0.show {H:Hp}{m:Mp}{s:Sto}{d:ae}{l:List ae} (hm:m.hid=d::l):Ext0 H m s H (m.bare l) s :=
 ⟨⟨az _,fun _ _=>rfl,fun a u h p=>⟨h,fun z=>p.1 (by rw [hm];exact ak _ z),p.2⟩,fun a u h _ _=>h⟩,fun j l _ h=>⟨h,fun o h=>h⟩⟩
theorem SR.show {K:aa}{H:Hp}{m:Mp}{s:Sto}{d:ae}{l:List ae}{u0:HO} (S:SR K CB H m s) (hm:m.hid=d::l) (hu:H d=some u0) (hno:¬ Odd u0):SR K CB H (m.bare l) s:=by
 have e0:Ext0 H m s H (m.bare l) s:=Ext0.show hm
 refine ⟨S.nd,S.lt,fun q hq=>?_,S.dj,fun n hn a ha hb=>S.hx n hn a ha (by rw [hm];exact ak _ hb),fun a ha=>S.hs a (by rw [hm];exact ak _ ha),fun P q t=>⟨?_,(S.tb P q t).2⟩⟩
 rotate_left
 ·obtain ⟨h1,ps,h2,_⟩:=S.tb P q t
  rw [hm] at h1
  rcases ai.mp h1 with z | z
  ·rw [z,hu] at h2;cases h2;exact absurd (.inl ⟨_,rfl⟩) hno
  ·exact z
 have:=S.ok q hq
 cases c:q.2 with
 | lst l=>rw [c] at this;obtain ⟨a1,vs,a2,a3⟩:=this;exact ⟨a1,vs,a2,a3.ext0 e0.toExtR⟩
 | dct l=>rw [c] at this;obtain ⟨a1,vs,a2,a3⟩:=this;exact ⟨a1,vs,a2,a3.ext0 e0.toExtR⟩
 | dfz l=>rw [c] at this;obtain ⟨a1,ob,vs,a2,a3⟩:=this;exact ⟨a1,ob,vs,a2,a3.ext0 e0.toExtR⟩
 | obj C fs=>rw [c] at this;obtain ⟨a1,dx,vs,a2,a3,a4⟩:=this;exact ⟨a1,dx,vs,a2,a3,a4.ext0 e0.toExtR⟩
 | book pp L=>rw [c] at this;exact this
theorem ER.ext0 {K:aa}{H H':Hp}{m m':Mp}{s s':Sto}{σ:St}{ρ:En} (h:ER K H m s σ ρ) (e:ExtR H m s H' m' s'):ER K H' m' s' σ ρ :=
 ⟨h.len,fun i p q=>let ⟨u,a,b⟩:=h.at_ i p q;⟨u,a,b.ext0 e⟩⟩
structure Cmp (K:aa) (CB:ae) (D:ae) (H1:Hp) (m1:Mp) (s1:Sto) (cap:St) (ρ:En) (ys:List V) (done:List PV) (H2:Hp) (m2:Mp) (s2:Sto):Prop where
 hid:m2.hid=D::m1.hid
 at_:H2 D=some (.lst ys)
 sr:SR K CB H2 m2 s2
 er:ER K H2 m2 s2 cap ρ
 rs:Reps K H2 m2 s2 ys done
 ex:Ext H1 m1 s1 H2 (m2.bare m1.hid) s2
 e0:Ext0 H1 m1 s1 H2 m2 s2
theorem Cmp.start {K:aa}{D:ae}{H1:Hp}{m1:Mp}{s1:Sto}{cap:St}{ρ:En} (S:SR K CB H1 m1 s1) (er:ER K H1 m1 s1 cap ρ) (hD:H1 D=none):Cmp K CB D H1 m1 s1 cap ρ [] [] (upd H1 D (.lst [])) (m1.hide D) s1 :=
 ⟨rfl,jK,S.hide hD,er.ext0 (Ext0.hide hD).toExtR,.nil,Ext.same (My.mC hD),Ext0.hide hD⟩
theorem Ext.into {K:aa}{D:ae}{H1 H2 H5:Hp}{m1 m2 m5:Mp}{s1 s2 s5:Sto} (hid:m2.hid=D::m1.hid) (S2:SR K CB H2 m2 s2) (hD:H1 D=none) (a:Ext H1 m1 s1 H2 (m2.bare m1.hid) s2) (b:Ext H2 m2 s2 H5 m5 s5):Ext H1 m1 s1 H5 (m5.bare m1.hid) s5:=by
 have pr:∀ c u,Rd H1 c u→Pur m1 s1 c→Rd H2 c u∧Pur m2 s2 c:=fun c u h p=>by
  obtain ⟨h1,p1⟩:=a.pu c u h p
  refine ⟨h1,fun z=>?_,p1.2⟩
  rw [hid] at z
  exact (ai.mp z).elim (h.ne hD) p.1
 refine ⟨⟨⟨aJ a.nx b.nx,fun n h=>(b.ad n (aH h a.nx)).trans (a.ad n h),fun c u h p=>?_,fun c u h n p=>?_⟩,fun j l hj h=>?_⟩,rfl,fun c hc o h n=>?_⟩
 ·obtain ⟨h1,p1⟩:=pr c u h p
  obtain ⟨h2,p2⟩:=b.pu c u h1 p1
  exact ⟨h2,p.1,p2.2⟩
 ·obtain ⟨_,p1⟩:=pr c _ (.inl h) p
  exact b.el c u (a.el c u h n p) n p1
 ·obtain ⟨h1,k1⟩:=a.df j l hj h
  obtain ⟨h2,k2⟩:=b.df j l (aH hj a.nx) h1
  have e:m2.ad j=m1.ad j:=a.ad j hj
  rw [e] at k2
  exact ⟨h2,fun o h=>k2 o (k1 o h)⟩
 ·exact b.hk c (by rw [hid];exact ak _ hc) o (a.hk c hc o h n) n
theorem Cmp.step {K:aa}{D:ae}{H1 H2 H5:Hp}{m1 m2 m5:Mp}{s1 s2 s5:Sto}{cap:St}{ρ:En}{ys:List V}{done:List PV} (C:Cmp K CB D H1 m1 s1 cap ρ ys done H2 m2 s2) (hD:H1 D=none) (b:Ext H2 m2 s2 H5 m5 s5) (S5:SR K CB H5 m5 s5):Cmp K CB D H1 m1 s1 cap ρ ys done H5 m5 s5 :=
 ⟨b.hd.trans C.hid,b.hk D (by rw [C.hid];exact ap) _ C.at_ (by intro _ z;cases z),S5,C.er.ext b,C.rs.ext b,Ext.into C.hid C.sr hD C.ex b,C.e0.trans b.toExt0⟩
theorem Cmp.push {K:aa}{D:ae}{H1 H2:Hp}{m1 m2:Mp}{s1 s2:Sto}{cap:St}{ρ:En}{ys:List V}{done:List PV}{v:V}{q:PV} (C:Cmp K CB D H1 m1 s1 cap ρ ys done H2 m2 s2) (hD:H1 D=none) (r:Rep K H2 m2 s2 v q):Cmp K CB D H1 m1 s1 cap ρ (ys++[v]) (done++[q]) (upd H2 D (.lst (ys++[v]))) m2 s2:=by
 have hm:D∈m2.hid:=by rw [C.hid];exact ap
 have e0:Ext0 H2 m2 s2 (upd H2 D (.lst (ys++[v]))) m2 s2:=Ext0.redo C.sr hm C.at_ uB
 refine ⟨C.hid,jK,C.sr.redo hm C.at_,C.er.ext0 e0.toExtR,(C.rs.append (.cons r .nil)).ext0 e0.toExtR,⟨⟨⟨C.ex.nx,C.ex.ad,fun c u h p=>?_,fun c u h n p=>?_⟩,fun j l hj h=>⟨(C.ex.df j l hj h).1,fun o ho=>?_⟩⟩,rfl,fun c hc o h n=>?_⟩,C.e0.trans e0⟩
 ·obtain ⟨h1,p1⟩:=C.ex.pu c u h p
  have ne:=h.ne hD
  exact ⟨h1.elim (fun h=>.inl (by rw [jJ ne];exact h)) fun ⟨o,h⟩=>.inr ⟨o,by rw [jJ ne];exact h⟩,p1⟩
 ·rw [jJ (jM h hD)];exact C.ex.el c u h n p
 ·rw [jJ (jM ho hD)];exact (C.ex.df j l hj h).2 o ho
 ·rw [jJ (jM h hD)];exact C.ex.hk c hc o h n
theorem Cmp.done {K:aa}{D:ae}{H1 H2:Hp}{m1 m2:Mp}{s1 s2:Sto}{cap:St}{ρ:En}{ys:List V}{done:List PV} (C:Cmp K CB D H1 m1 s1 cap ρ ys done H2 m2 s2):SR K CB H2 (m2.bare m1.hid) s2∧(D∉m1.hid→Rep K H2 (m2.bare m1.hid) s2 (.ref D) (.lst done)):=by
 refine ⟨C.sr.show C.hid C.at_ uB,fun hn=>.lst C.at_ ⟨hn,fun n hh z=>C.sr.hx n hh D z (by rw [C.hid];exact ap)⟩ (C.rs.ext0 (Ext0.show C.hid).toExtR)⟩
theorem x6 {σ:St}{H1:Hp}{m1:Mp}{s1:Sto}{ρ:En}{J:It}{l:List PV}{D:ae}{Q:VK}{t:XT} (S1:SR X.K CB H1 m1 s1) (er:ER X.K H1 m1 s1 σ ρ) (it:m6 X.K CB J l H1 m1 s1) (hD:H1 D=none) (hlen:l.length≤100000)
  (P:Post X.K CB (Rep X.K) E ((kK t f (kj ix ρ) l s1).bind fun vs s2=>.ok (.lst vs) s2) H1 m1 s1 Q):yS J (TDT X.K CB E0 t) (TDE X.K CB E0 f) (capt ix σ) D H1 Q:=by
 refine ⟨fun i k ys H2=>∃ done m2 s2,Cmp X.K CB D H1 m1 s1 (capt ix σ) (kj ix ρ) ys done H2 m2 s2∧i≤l.length∧ys.length≤i∧k=l.length - i∧(kK t f (kj ix ρ) l s1).bind (fun vs s2=>.ok (PV.lst vs) s2)=(kK t f (kj ix ρ) (l.drop i) s2).bind fun vs s2=>.ok (.lst (done++vs)) s2,⟨l.length,[],m1.hide D,s1,Cmp.start S1 (er.capt ix) hD,bc _,bc _,rfl,?_⟩,?_⟩
 ·simp
 rintro i k ys H2 ⟨done,m2,s2,C,hi,hy,rfl,eq⟩
 obtain ⟨it1,it2⟩:=it i H2 m2 s2 C.e0 C.sr
 by_cases hlt:i < l.length
 ·right
  have hq:l[i]?=some l[i]:=bu hlt
  obtain ⟨go,yl⟩:=it1 _ hq
  refine ⟨go,fun x H3 hyl=>?_⟩
  obtain ⟨e3,S3,r3⟩:=yl x H3 hyl
  have C3:=C.step hD e3 S3
  rw [cg hlt] at eq
  rw [eq] at P
  rw [mf] at P eq
  refine ⟨some l[i]::kj ix ρ,s2,m2,C3.er.cons r3,S3,?_⟩
  cases ct:t (some l[i]::kj ix ρ) s2 with
  | bad=>rw [ct] at P;exact P.elim
  | ex c3 s3=>rw [ct] at P;exact P.elim
  | ok bt s3 =>
   rw [ct] at P eq
   intro b4 H4 m4 e4 S4 hb
   subst hb
   have C4:=C3.step hD e4 S4
   cases b4 with
   | false =>
    exact EC ⟨l.length - (i+1),by omega,done,m4,s3,C4,hlt,by omega,rfl,eq⟩
   | true =>
    refine EB ⟨some l[i]::kj ix ρ,s3,m4,C4.er.cons (r3.ext e4),S4,?_⟩
    dsimp only at P eq
    cases cf:f (some l[i]::kj ix ρ) s3 with
    | bad=>rw [cf] at P;exact P.elim
    | ex c5 s5=>rw [cf] at P;exact P.elim
    | ok v s5 =>
     rw [cf] at eq
     intro w H5 m5 e5 S5 r5
     have C5:=C4.step hD e5 S5
     refine ⟨C5.at_,a7 (aJ hy (aJ hi hlen)) (by decide),l.length - (i+1),by omega,done++[v],m5,s5,C5.push hD r5,hlt,by simp;omega,rfl,?_⟩
     rw [eq]
     dsimp only
     cases hh:kK t f (kj ix ρ) (l.drop (i+1)) s5 with
     | ok vs s6=>simp [Out.bind]
     | ex c6 s6=>exact absurd hh qT
     | bad=>rfl
 ·left
  have hle:l.length≤i:=dC hlt
  rw [dZ hle] at eq
  rw [eq] at P
  unfold kK at P
  obtain ⟨S2',rd⟩:=C.done
  refine ⟨it2 hle,C.at_,P (.ref D) H2 (m2.bare m1.hid) C.ex S2' ?_⟩
  rw [bZ]
  exact rd fun z=>(S1.hs D z).1 hD
theorem tL {σ:St}{H:Hp}{Q:VK}{t:XT} (q:TDE X.K CB E (l4 fi ix t f) σ H Q):AA (TDI X.K CB E fi) ix (TDT X.K CB E0 t) (TDE X.K CB E0 f) σ H Q:=by
 obtain ⟨ρ,s,m,er,S,P⟩:=q
 refine ⟨ρ,s,m,er,S,?_⟩
 unfold l4 at P
 cases c:fi ρ s with
 | bad=>rw [c] at P;exact P
 | ex c' s'=>rw [c] at P;exact P
 | ok l s1 =>
  rw [c] at P
  dsimp only [Out.bind] at P
  split at P
  ·rename_i hlen
   intro J H1 m1 e1 S1 it D hD
   exact x6 S1 (er.ext e1) it hD hlen (Post.shift e1 P)
  ·exact P.elim
theorem rh (hc:X.calm=true) (S:CompOk X.N X.env.scope scope x fr ix) (hi:DI X CB E (.Name x px) iter fi)
  (ht:∀ cl C s₃ H₃ fp,DIfs (blk X scope cl C (x::fr) s₃ H₃ fp) CB ifs t) (he:∀ cl C s₃ H₃ fp,DE (blk X scope cl C (x::fr) s₃ H₃ fp) CB E0 elt f)
  (hs:∀ v,bY iter X.env v=pure v:=by intro _;rfl):DE X CB E (.ListComp elt [⟨.Name x px,iter,ifs,0⟩] scope pos) (l4 fi ix t f) :=
 ⟨(tf hc S hi.pi (fun cl C s₃ H₃ fp=>(ht cl C s₃ H₃ fp).pifs) (fun cl C s₃ H₃ fp=>(he cl C s₃ H₃ fp).pe) hs).mono fun σ H Q q=>tL q⟩
theorem tI {i:Nat}{y:Str}{py spos:Pos} (hN:X.N.Nodup) (hiy:X.N[i]?=some y) (hly:X.env.scope.names.lookup y=some .local) (hc:X.calm=true) (S:CompOk X.N X.env.scope scope x fr ix) (hi:DI X CB E (.Name x px) iter fi)
  (ht:∀ cl C s₃ H₃ fp,DIfs (blk X scope cl C (x::fr) s₃ H₃ fp) CB ifs t) (he:∀ cl C s₃ H₃ fp,DE (blk X scope cl C (x::fr) s₃ H₃ fp) CB E0 elt f)
  (hsw:eW (.ListComp elt [⟨.Name x px,iter,ifs,0⟩] scope pos) (some (.Name y py)) spos.line X.env=pure true:=by rfl)
  (hs:∀ v,bY iter X.env v=pure v:=by intro _;rfl):DS X CB E (.Assign [.Name y py] (.ListComp elt [⟨.Name x px,iter,ifs,0⟩] scope pos) spos) (xSet i (l4 fi ix t f)) :=
 ⟨(sY hN hiy hly hc S hi.pi (fun cl C s₃ H₃ fp=>(ht cl C s₃ H₃ fp).pifs) (fun cl C s₃ H₃ fp=>(he cl C s₃ H₃ fp).pe) hsw hs).mono fun D σ H ⟨ρ,s,m,er,S,P⟩ =>
  tL ⟨ρ,s,m,er,S,Post.so P fun v s1 u H1 m1 e1 S1 r1 P1=>P1.next S1 ((er.ext e1).set i r1)⟩⟩
end
abbrev XF:=List PV→Sto→Out PV
def spD (K:aa) (CB:ae) (n:Nat) (D:XF):Sp:=fun vs H Q E=>vs.length=n∧∃ ps s m,Reps K H m s vs ps∧SR K CB H m s∧Post K CB (Rep K) E (D ps s) H m s Q
def xCall (n:Nat) (D:XF) (fa:XA) (ρ:En) (s:Sto):Out PV:=(fa ρ s).bind fun vs s1=>if vs.length=n then D vs s1 else .bad
def fnD (N:Nat) (g:XS) (vs:List PV) (s:Sto):Out PV:=match g (vs.map some++aW (N - vs.length) none) s with
 | .nx _ s'=>.ok .non s'
 | .rt v s'=>.ok v s'
 | .ex c s'=>.ex c s'
 | _=>.bad
section
variable {X:Cx}{CB:ae}{E:XK}{a b c e elt iter tg:a8}{es ifs:List a8}{f g h:XE}{fa fi:XA}{t:XT}{p px py pos pos' apos cpos:Pos}{x y:Str}{st:bT}{mH sts sts':List bT}{u v:XS}{scope:cW}{fr:List Str}{ix:List Nat}{n k:Nat}{D:XF}{ps:List Str}
theorem kl (F:Fn X.prog X.w X.K X.mg X.base x k ps (spD X.K CB n D)) (hr:Room k X.A) (hg:Gl X x) (hx:lv (CXo X.prog X.w) X E) (ha:DA X CB E (e::es) fa) (hdb:(x == ("__debug__":Str))=false:=by decide)
  (he:aR (e::es) X.env=(false,eval e X.env)::aR es X.env:=by rfl) (hpl:(ck pos (aR es X.env)).any (·.1)=false:=by rfl):DE X CB E (.Call (.Name x p) (e::es) [] pos) (xCall n D fa) :=
 ⟨(ql F hr hg hx ha.pa hdb he hpl).mono fun σ H Q ⟨ρ,s,m,er,S,P⟩=>⟨ρ,s,m,er,S,P.bind fun v s1 u H1 m1 e1 S1 r1 P1=>by
  split at P1
  ·rename_i hl
   rw [bZ]
   exact ⟨by rw [r1.length];exact hl,v,s1,m1,r1,S1,P1⟩
  ·exact P1.elim⟩⟩
def xBM (n:Nat) (D:XF) (f:XE) (fa:XA) (ρ:En) (s:Sto):Out PV:=(f ρ s).bind fun o s1=>match o with
 | .ref k=>match s1.get k with
  | some (.book _ _)=>(fa ρ s1).bind fun vs s2=>if vs.length+1=n then D (.ref k::vs) s2 else .bad
  | _=>.bad
 | _=>.bad
theorem sw {pl:Sem Bool}{m:Str} (ho:DE X CB E a f) (M:Mt X.prog X.w X.K X.mg X.base CB m k ps (spD X.K CB n D)) (hno:∀ z,(My.bf z).lookup m=none) (hr:Room k X.A) (hx:lv (CXo X.prog X.w) X E) (ha:DA X CB E (e::es) fa)
  (hst:aR (e::es) X.env=(false,eval e X.env)::aR es X.env:=by rfl) (hpl:(ck pos (aR es X.env)).any (·.1)=false:=by rfl)
  (ht:eval (.Call (.Attribute a m apos) (e::es) [] pos) X.env=(do
   let ov ← eval a X.env
   fS apos.atName
   let (f,first) ← holding [ov] (fA ov m pl)
   il pos f first (ck pos (aR (e::es) X.env)) (eI pos (cQ [] X.env))):=by rfl):DE X CB E (.Call (.Attribute a m apos) (e::es) [] pos) (xBM n D f fa) :=
 ⟨(ny (pl:=pl) ho.pe M hr hx ha.pa hst hpl ht).mono fun σ H Q ⟨ρ,s,m,er,S,P⟩=>⟨ρ,s,m,er,S,P.bind fun v s1 u H1 m1 e1 S1 r1 P1=>by
  split at P1
  ·split at P1
   ·rename_i hg
    obtain ⟨z,L',B,_,_⟩:=S1.get hg
    cases r1 with
    | ref hn =>
    refine ⟨_,_,_,rfl,B.ob,hno z,ρ,s1,m1,er.ext e1,S1,P1.bind fun vs s2 us H2 m2 e2 S2 r2 P2=>?_⟩
    split at P2
    ·rename_i hl
     rw [bZ]
     refine ⟨by rw [aC,r2.length];exact hl,_,s2,m2,.cons ?_ r2,S2,P2⟩
     exact (Rep.ref hn).ext e2
    ·exact P2.elim
   ·exact P1.elim
  ·exact P1.elim⟩⟩
theorem y9 {pl:Sem Bool}{m:Str} (ho:DE X CB E a f) (M:Mt X.prog X.w X.K X.mg X.base CB m k ps (spD X.K CB n D)) (hno:∀ z,(My.bf z).lookup m=none) (hr:Room k X.A) (hx:lv (CXo X.prog X.w) X E)
  (ht:eval (.Call (.Attribute a m apos) [] [] pos) X.env=(do
   let ov ← eval a X.env
   fS apos.atName
   let (f,first) ← holding [ov] (fA ov m pl)
   il pos f first (ck pos (aR [] X.env)) (eI pos (cQ [] X.env))):=by rfl):DE X CB E (.Call (.Attribute a m apos) [] [] pos) (xBM n D f xNil) :=
 ⟨(Cp (pl:=pl) ho.pe M hr hx ht).mono fun σ H Q ⟨ρ,s,m,er,S,P⟩=>⟨ρ,s,m,er,S,P.bind fun v s1 u H1 m1 e1 S1 r1 P1=>by
  split at P1
  ·split at P1
   ·rename_i hg
    obtain ⟨z,L',B,_,_⟩:=S1.get hg
    cases r1 with
    | ref hn =>
    refine ⟨_,_,_,rfl,B.ob,hno z,?_⟩
    simp only [xNil,Out.bind] at P1
    split at P1
    ·rename_i hl
     exact ⟨hl,_,s1,m1,.cons (.ref hn) .nil,S1,P1⟩
    ·exact P1.elim
   ·exact P1.elim
  ·exact P1.elim⟩⟩
def xBook (_:En) (s:Sto):Out PV:=.ok (.ref s.nx) (s.add (.book [] []))
def wH (K:aa) (C:ae):Sp:=fun vs H Q _=>∃ (p dx:ae),vs=[.ref p]∧H p=some (.ins C dx [])∧∀ z H',(∀ c∈[z.dp,z.dt,z.dm,z.dl,z.dh],H c=none)→My.BookAt K C H' p z [] []→(∀ c o,H c=some o→c≠p→H' c=some o)→Q .non H'
theorem zG (M:MkB X.prog X.w X.K X.mg X.base x CB k ps (wH X.K CB)) (hr:Room (k+1) X.A) (hg:Gl X x) (hx:lv (CXo X.prog X.w) X E) (hdb:(x == ("__debug__":Str))=false:=by decide):DE X CB E (.Call (.Name x p) [] [] pos) xBook :=
 ⟨(Cq M hr hg hx hdb).mono fun σ H Q ⟨ρ,s,m,er,S,P⟩ b dx hb hdx hne=>by
  refine ⟨b,dx,rfl,jK,fun z H' hz B kp=>⟨rfl,?_⟩⟩
  have hk:Same H H':=fun c o h=>by
   have h1:c≠b:=jM h hb
   have h2:c≠dx:=jM h hdx
   exact kp c o (by rw [jJ h1,jJ h2];exact h) h1
  have hzn:∀ c∈[z.dp,z.dt,z.dm,z.dl,z.dh],H c=none:=fun c hc=>by
   have h:=hz c hc
   have n1:c≠b:=fun e=>by rw [e,jK] at h;cases h
   have n2:c≠dx:=fun e=>by rw [jJ n1,e,jK] at h;cases h
   rw [jJ n1,jJ n2] at h;exact h
  obtain ⟨S2,e2⟩:=S.add (c:=.book [] []) H' b (My.BFp b z []) hk (fun a ha=>by
   unfold My.BFp at ha
   rcases ai.mp ha with rfl | ha
   ·exact hb
   ·exact hzn a (by simpa using ha)) fun ex=>by
    refine ⟨z,[],?_,rfl,?_⟩
    ·rw [Mp.add_ad];exact B
    ·rw [Mp.add_ad];show (if s.nx=s.nx then _ else _)=_;rw [if_pos rfl]
  exact P _ _ _ e2 S2 .new⟩
theorem ni {P:aT}{w:bv}{K:aa}{mg:Str→Option ah}{base:bM}{qual:Str}{fa:ae}{fd:bR}{N:List Str} (F:Fun K x qual st fa fd) (S:FnScope N ps (jO st)) (hps:ps.length=n)
  (hb:∀ (cdv:ah) (A:bL) (outer:List Env) (s:ao) (H:Hp) (E:XK),Room k (A.deeper (dN qual (jO st) s.heap.objs.size fa cdv))→DSs (xZ (CXo P w) P w K mg base N qual (jO st) fa cdv A outer s H E) CB E (nj st) u) :
  FnOk P w K mg base (CXo P w) (k+1) fa fd ps (spD K CB n (fnD N.length u)):=by
 refine F.okX S (fun vs H Q E h=>by rw [hps];exact h.1) (fun cdv A outer s H vs Q E hr h=>?_)
 obtain ⟨hl,ps',s',m,r,S',P'⟩:=h
 refine ⟨_,(hb cdv A outer s H E hr).pss,ps'.map some++aW (N.length - ps'.length) none,s',m,?_,S',?_⟩
 ·unfold start
  rw [r.length]
  exact ER.start r _
 ·unfold fnD at P'
  cases cc:u (ps'.map some++aW (N.length - ps'.length) none) s' with
  | nx ρ1 s1=>rw [cc] at P';exact fun σ' H' m' x S1 er=>P' .non H' m' x S1 .non
  | rt v1 s1=>rw [cc] at P';exact fun u' H' m' x S1 r1=>P' u' H' m' x S1 r1
  | ex c1 s1=>rw [cc] at P';exact P'
  | bk=>rw [cc] at P';exact P'.elim
  | ct=>rw [cc] at P';exact P'.elim
  | bad=>rw [cc] at P';exact P'.elim
open Classical in
def Sto.only (s:Sto) (n:Nat):Sto:=⟨s.nx,s.cs.filter fun q=>decide (q.1 < n)⟩
def xOnly (f:XE) (ρ:En) (s:Sto):Out PV:=(f ρ s).bind fun v s1=>.ok v (s1.only s.nx)
def frz1 (v:PV) (s:Sto):Out PV:=match v with
 | .ref n=>match s.get n with
  | some (.lst l)=>.ok (.lst l) (s.del n)
  | some (.dct l)=>.ok (.dct l) (s.del n)
  | _=>.bad
 | _=>.bad
def xFrz (f:XE) (ρ:En) (s:Sto):Out PV:=(f ρ s).bind frz1
theorem SR.frz {K:aa}{H:Hp}{m:Mp}{s s':Sto}{x:V}{v w:PV} (S:SR K CB H m s) (r:Rep K H m s x v) (e:frz1 v s=.ok w s'):SR K CB H m s'∧Ext H m s H m s'∧Rep K H m s' x w:=by
 unfold frz1 at e
 split at e
 ·rename_i n
  have pu:∀ c,s.get n=some c→m.fp n=[m.ad n]→Pur m (s.del n) (m.ad n):=fun c hg e1=>by
   have hin:n∈s.cs.map (·.1):=aj.mpr ⟨_,kB hg,rfl⟩
   refine ⟨S.hx n hin _ (by rw [e1];simp),fun j hj z=>?_⟩
   obtain ⟨q,hq,rfl⟩:=aj.mp hj
   have hne:=zD S.nd hq
   exact S.dj n hin q.1 (aj.mpr ⟨q,pI hq,rfl⟩) (fun z=>hne z.symm) _ (by rw [e1];simp) z
  split at e
  ·rename_i l hg
   cases e
   cases r
   obtain ⟨e1,vs,h1,h2⟩:=S.get hg
   have hnd:∀ l,s.get n≠some (.dfz l):=fun l z=>by rw [hg] at z;cases z
   exact ⟨(S.del n hnd).1,(S.del n hnd).2,.lst h1 (pu _ hg e1) (h2.ext (S.del n hnd).2)⟩
  ·rename_i l hg
   cases e
   cases r
   obtain ⟨e1,vs,h1,h2⟩:=S.get hg
   have hnd:∀ l,s.get n≠some (.dfz l):=fun l z=>by rw [hg] at z;cases z
   exact ⟨(S.del n hnd).1,(S.del n hnd).2,.dct (.inl h1) (pu _ hg e1) (h2.ext (S.del n hnd).2)⟩
  ·cases e
 ·cases e
theorem y7 (h:DE X CB E e f):DE X CB E e (xFrz f):=⟨h.pe.mono fun σ H Q ⟨ρ,s,m,er,S,P⟩=>⟨ρ,s,m,er,S,P.bind fun v s1 u H1 m1 e1 S1 r1 P1=>by
 cases cc:frz1 v s1 with
 | ok w s2 =>
  rw [cc] at P1
  obtain ⟨S2,e2,r2⟩:=S1.frz r1 cc
  exact P1 u H1 m1 e2 S2 r2
 | ex c' s' =>
  exfalso
  unfold frz1 at cc
  split at cc
  ·split at cc <;> cases cc
  ·cases cc
 | bad=>rw [cc] at P1;exact P1.elim⟩⟩
theorem Da {tt:TE} (h:PE X e tt):PE X e (fun σ H Q=>∃ d kvs0,H d=some (.dK kvs0)∧tt σ H (fun v H'=>∃ ob kvs,H' d=some (.frz ob (.dK kvs))∧Q v (upd H' d (.dK kvs)))):=by
 intro pins s σ H Q I ⟨d,kvs0,hd,q⟩
 have n3:∀ o v,X.H₀ d≠some (.frz o v):=fun o v z=>by rw [I.base.frzs d o v z] at hd;cases hd
 refine thn (h pins s σ H _ I q) fun u s1 ⟨v,H1,I1,r1,ob,kvs,e1,q1⟩=>?_
 exact ⟨v,_,I1.thaw e1 n3,r1,q1⟩
theorem SR.freezeC {K:aa}{H:Hp}{m:Mp}{s:Sto}{n:Nat}{l:List (Key×PV)} (S:SR K CB H m s) (hg:s.get n=some (.dct l)):∃ vs,H (m.ad n)=some (.dK vs)∧∀ ob,∃ m',m'.ad=m.ad∧SR K CB (upd H (m.ad n) (.frz ob (.dK vs))) m' (s.set n (.dfz l))∧Ext H m s (upd H (m.ad n) (.frz ob (.dK vs))) m' (s.set n (.dfz l))∧RepKs K (upd H (m.ad n) (.frz ob (.dK vs))) m' (s.set n (.dfz l)) vs l:=by
 obtain ⟨e1,vs,h1,r1⟩:=S.get hg
 refine ⟨vs,h1,fun ob=>⟨m.fput n [m.ad n],rfl,?_⟩⟩
 have:=S.put (c':=.dfz l) hg (by intro _ z;cases z) (upd H (m.ad n) (.frz ob (.dK vs))) [m.ad n] (fun a o h ha=>by
  rw [e1,aE] at ha
  rw [jJ ha];exact h) (fun a ha=>.inl (by rw [e1];exact ha)) fun ex=>⟨by show (if n=n then [m.ad n] else m.fp n)=_;rw [if_pos rfl];rfl,ob,vs,jK,r1.ext0 ex⟩
 exact ⟨this.1,this.2,r1.ext this.2⟩
theorem ExtR.trans {H H1 H2:Hp}{m m1 m2:Mp}{s s1 s2:Sto} (a:ExtR H m s H1 m1 s1) (b:ExtR H1 m1 s1 H2 m2 s2):ExtR H m s H2 m2 s2 :=
 ⟨aJ a.nx b.nx,fun n h=>(b.ad n (aH h a.nx)).trans (a.ad n h),fun c u h p=>let ⟨h1,p1⟩:=a.pu c u h p;b.pu c u h1 p1,fun c x h n p=>b.el c x (a.el c x h n p) n (a.pu c _ (.inl h) p).2⟩
theorem SR.thawC {K:aa}{H H1:Hp}{m m1:Mp}{s s1:Sto}{n:Nat}{l:List (Key×PV)} (h0:∀ l,s.get n≠some (.dfz l)) (hn:n < s.nx) (e:Ext H m s H1 m1 s1) (S:SR K CB H1 m1 s1) (hg:s1.get n=some (.dfz l)) :
  ∃ ob vs,H1 (m.ad n)=some (.frz ob (.dK vs))∧∃ m2,SR K CB (upd H1 (m.ad n) (.dK vs)) m2 (s1.set n (.dct l))∧Ext H m s (upd H1 (m.ad n) (.dK vs)) m2 (s1.set n (.dct l))∧ExtR H1 m1 s1 (upd H1 (m.ad n) (.dK vs)) m2 (s1.set n (.dct l)):=by
 have ea:m1.ad n=m.ad n:=e.ad n hn
 have hin:n∈s1.cs.map (·.1):=aj.mpr ⟨_,kB hg,rfl⟩
 obtain ⟨e1,ob,vs,h1,r1⟩:=S.get hg
 rw [ea] at e1 h1
 refine ⟨ob,vs,h1,m1.fput n [m.ad n],?_⟩
 obtain ⟨S2,x2,_⟩:=S.put' (c':=.dct l) hg (upd H1 (m.ad n) (.dK vs)) [m.ad n] (fun a o h ha=>by
  rw [e1,aE] at ha
  rw [jJ ha];exact h) (fun a ha=>.inl (by rw [e1];exact ha)) fun ex=>⟨by show (if n=n then [m.ad n] else m1.fp n)=[m1.ad n];rw [if_pos rfl,ea],vs,by show upd H1 (m.ad n) (.dK vs) (m1.ad n)=_;rw [ea];exact jK,r1.ext0 ex⟩
 refine ⟨S2,⟨⟨e.toExtR.trans x2,fun j l' hj h=>?_⟩,e.hd,fun a ha o h n0=>?_⟩,x2⟩
 ·have hjn:j≠n:=fun z=>h0 l' (by rw [← z];exact h)
  obtain ⟨g1,g2⟩:=e.df j l' hj h
  refine ⟨(ky hjn).trans g1,fun o ho=>?_⟩
  obtain ⟨e3,_⟩:=S.ok _ (kB g1)
  have hne:m.ad j≠m.ad n:=fun z=>S.dj j (aj.mpr ⟨_,kB g1,rfl⟩) n hin hjn (m1.ad j) (by rw [e3];simp) (by rw [e1,e.ad j hj,z];simp)
  rw [jJ hne];exact g2 o ho
 ·have ha':a∈m1.hid:=by rw [e.hd];exact ha
  have hne:a≠m.ad n:=fun z=>S.hx n hin a (by rw [e1,z];simp) ha'
  rw [jJ hne];exact e.hk a ha o h n0
def thw (n:Nat) (s:Sto):Option Sto:=match s.get n with
 | some (.dfz l)=>some (s.set n (.dct l))
 | _=>none
def ug (j:Nat) (ix:List Nat) (c:XT) (e:XE) (ρ:En) (s:Sto):Out PV:=match ρ[j]? with
 | some (some (.ref n))=>match s.get n with
  | some (.dct l)=>if l.length≤100000 then (kK c e (kj ix ρ) (l.map fun kv=>xM kv.1) (s.set n (.dfz l))).bind fun vs s2=>match thw n s2 with
    | some s3=>.ok (.lst vs) s3
    | none=>.bad
   else .bad
  | _=>.bad
 | _=>.bad
theorem pV {s:Sto}{n:Nat}{c c':Cell} (h:s.get n=some c):(s.set n c').get n=some c':=by
 have:∀ {l:List (Nat×Cell)},lf l n=some c→lf (na n c' l) n=some c':=by
  intro l
  induction l with
  | nil=>intro h;cases h
  | cons q r ih =>
   intro h
   obtain ⟨k,d⟩:=q
   unfold na
   split
   ·unfold lf;rw [if_pos rfl]
   ·rename_i hk
    unfold lf at h ⊢
    rw [if_neg hk] at h ⊢
    exact ih h
 exact this h
theorem iterC {K:aa}{H1:Hp}{m1:Mp}{s1:Sto}{n:Nat}{ob:Obj}{vs:List (Key×V)}{l:List (Key×PV)} (S1:SR K CB H1 m1 s1) (hg:s1.get n=some (.dfz l)) {d:ae} (ea:m1.ad n=d) (h1:H1 d=some (.frz ob (.dK vs))) (r:RepKs K H1 m1 s1 vs l):m6 K CB (Itd d ob vs) (l.map fun kv=>xM kv.1) H1 m1 s1 :=
 CN (fun H m s ex S=>by
  have:=(ex.df n l (S1.getlt hg) hg).2
  rw [ea] at this
  exact this _ h1) r
theorem BO (j:Nat) (hc:X.calm=true) (hN:X.N[j]?=some y) (hv:Vis X.env.scope y) (S:CompOk X.N X.env.scope scope x fr ix)
  (ht:∀ cl C s₃ H₃ fp,DIfs (blk X scope cl C (x::fr) s₃ H₃ fp) CB ifs t) (he:∀ cl C s₃ H₃ fp,DE (blk X scope cl C (x::fr) s₃ H₃ fp) CB E0 elt f)
  (hs:∀ v,bY (.Name y py) X.env v=pure v:=by intro _;rfl) (hd:(y == ("__debug__":Str))=false:=by decide) (hcd:(y == ("__classdict__":Str))=false:=by decide):DE X CB E (.ListComp elt [⟨.Name x px,.Name y py,ifs,0⟩] scope pos) (ug j ix t f) :=
 ⟨(Da (tf hc S (zr (yY hN hv hd hcd)) (fun cl C s₃ H₃ fp=>(ht cl C s₃ H₃ fp).pifs) (fun cl C s₃ H₃ fp=>(he cl C s₃ H₃ fp).pe) hs)).mono fun σ H Q ⟨ρ,s,m,er,S,P⟩=>by
  unfold ug at P
  split at P
  ·rename_i n hρ
   split at P
   ·rename_i l hg
    split at P
    ·rename_i hlen
     obtain ⟨u,hu,ru⟩:=er.at_ j _ hρ
     cases ru with
     | ref hn =>
     obtain ⟨vs,h1,hf⟩:=S.freezeC hg
     refine ⟨m.ad n,vs,h1,_,hu,m.ad n,vs,rfl,.inl ⟨h1,fun ob D hD=>?_⟩⟩
     obtain ⟨m1,ea,S1,e1,r1⟩:=hf ob
     have hg1:(s.set n (.dfz l)).get n=some (.dfz l):=pV hg
     have ea':m1.ad n=m.ad n:=by rw [ea]
     refine x6 (E:=E0) (t:=t) (f:=f) S1 (er.ext e1) (iterC S1 hg1 ea' jK r1) hD (by simpa using hlen) ?_
     cases cc:kK t f (kj ix ρ) (l.map fun kv=>xM kv.1) (s.set n (.dfz l)) with
     | bad=>rw [cc] at P;exact P.elim
     | ex c' s'=>exact absurd cc qT
     | ok vs2 s2 =>
      rw [cc] at P
      intro u2 H2 m2 e2 S2 r2
      simp only [Out.bind] at P
      unfold thw at P
      split at P
      ·rename_i s3 h3
       split at h3 <;> cases h3
       rename_i l2 hg2
       obtain ⟨ob',vs',q1,m3,S3,e3,x3⟩:=SR.thawC (fun l' z=>by rw [hg] at z;cases z) hn (e1.trans e2) S2 hg2
       exact ⟨ob',vs',q1,P u2 _ m3 e3 S3 (r2.ext0 x3)⟩
      ·exact P.elim
    ·exact P.elim
   ·exact P.elim
  ·exact P.elim⟩
end
def erH (H:Hp) (d:ae):Hp:=fun b=>if b=d then none else H b
theorem oS {H:Hp}{a d:ae} (h:a≠d):erH H d a=H a:=by unfold erH;rw [if_neg h]
theorem xU {H:Hp}{d:ae}:erH H d d=none:=by unfold erH;rw [if_pos rfl]
section
variable {X:Cx}{CB:ae}{E:XK}{a b c e elt iter tg:a8}{es ifs:List a8}{f g h:XE}{fa fi:XA}{t:XT}{p px py pos pos' apos cpos:Pos}{x y:Str}{st:bT}{mH sts sts':List bT}{u v:XS}{n k:Nat}{D:XF}{ps:List Str}
theorem SR.hideD {K:aa}{H:Hp}{m:Mp}{s:Sto}{d:ae}{xs:List (Key×V)} (S:SR K CB H m s) (hd:H d=none):SR K CB (upd H d (.dK xs)) (m.hide d) s:=by
 have k:=My.mC (o:=.dK xs) hd
 have S1:=S.same k
 have e0:Ext0 H m s (upd H d (.dK xs)) (m.hide d) s:=Ext0.hide hd
 have hne:∀ n∈s.cs.map (·.1),∀ a∈m.fp n,a≠d:=fun n hn a ha z=>by
  obtain ⟨q,hq,rfl⟩:=aj.mp hn
  obtain ⟨o,e,_⟩:=(S.ok q hq).kind ha
  rw [z,hd] at e;cases e
 refine ⟨S.nd,S.lt,fun q hq=>(S.ok q hq).keep S e0.toExtR (fun a _ o h=>k a o h) rfl rfl,S.dj,fun n hn a ha hb=>(ai.mp hb).elim (hne n hn a ha) (S.hx n hn a ha),fun a ha=>?_,fun P q t=>⟨ak _ (S1.tb P q t).1,(S1.tb P q t).2⟩⟩
 rcases ai.mp ha with rfl | ha
 ·rw [jK];exact ⟨by simp,fun _ _=>⟨by simp,by simp,by simp,by simp⟩⟩
 ·exact S1.hs a ha
theorem DH {K:aa}{H H2:Hp}{m m2:Mp}{s s2:Sto}{d:ae}{xs:List (Key×V)} (S:SR K CB H m s) (hd:H d=none) (e:Ext (upd H d (.dK xs)) (m.hide d) s H2 m2 s2) (S2:SR K CB H2 m2 s2) :
  SR K CB (erH H2 d) (m2.bare m.hid) s2∧Ext H m s (erH H2 d) (m2.bare m.hid) s2∧ExtR H2 m2 s2 (erH H2 d) (m2.bare m.hid) s2∧H2 d=some (.dK xs):=by
 have hh:m2.hid=d::m.hid:=e.hd
 have hin:d∈m2.hid:=by rw [hh];exact ap
 have hD:H2 d=some (.dK xs):=e.hk d ap _ jK (by intro _ z;cases z)
 have tbE:TbS H2 (erH H2 d):=.of fun a o h od=>by
  rw [oS (show a≠d from fun z=>by rw [z,hD] at h;cases h;exact yD od)];exact h
 have x2:ExtR H2 m2 s2 (erH H2 d) (m2.bare m.hid) s2:=by
  have ne:∀ a,Pur m2 s2 a→a≠d:=fun a p z=>p.1 (by rw [z];exact hin)
  refine ⟨az _,fun _ _=>rfl,fun a u h p=>⟨?_,fun z=>p.1 (by rw [hh];exact ak _ z),p.2⟩,fun a u h _ p=>by rw [oS (ne a p)];exact h⟩
  exact h.elim (fun h=>.inl (by rw [oS (ne a p)];exact h)) fun ⟨o,h⟩=>.inr ⟨o,by rw [oS (ne a p)];exact h⟩
 have fne:∀ n∈s2.cs.map (·.1),∀ a∈m2.fp n,a≠d:=fun n hn a ha z=>S2.hx n hn a ha (by rw [z];exact hin)
 have dn:d∉m.hid:=fun z=>(S.hs d z).1 hd
 have h2:∀ a∈m.hid,a≠d:=fun a ha z=>dn (by rw [← z];exact ha)
 refine ⟨⟨S2.nd,S2.lt,fun q hq=>(S2.ok q hq).keep S2 x2 (fun a ha o h=>by rw [oS (fne q.1 (aj.mpr ⟨q,hq,rfl⟩) a ha)];exact h) rfl rfl,S2.dj,fun n hn a ha hb=>S2.hx n hn a ha (by rw [hh];exact ak _ hb),fun a ha=>?_,fun P q t=>⟨?_,tbE.2 P q (S2.tb P q t).2⟩⟩,?_,x2,hD⟩
 ·rw [oS (h2 a ha)];exact S2.hs a (by rw [hh];exact ak _ ha)
 ·obtain ⟨h1,ps,h3,_⟩:=S2.tb P q t
  rw [hh] at h1
  rcases ai.mp h1 with z | z
  ·rw [z,hD] at h3;cases h3
  ·exact z
 ·have e1:=(Ext0.hide (m:=m) (s:=s) (o:=.dK xs) hd).trans e.toExt0
  refine ⟨⟨e1.toExtR.trans x2,fun j l hj h=>⟨(e1.df j l hj h).1,fun o ho=>?_⟩⟩,rfl,fun a ha o h n0=>?_⟩
  ·rw [oS (jM ho hd)];exact (e1.df j l hj h).2 o ho
  ·rw [oS (h2 a ha)];exact e.hk a (ak _ ha) o (My.mC hd _ _ h) n0
def xDisp (f g:XE) (ρ:En) (s:Sto):Out PV:=match f ρ s with
 | .ok v s1=>match g ρ s1 with
  | .ok w s2=>match kyOf v with
   | some k=>.ok (.ref s2.nx) (s2.add (.dct [(k,w)]))
   | none=>.bad
  | _=>.bad
 | _=>.bad
theorem D4 (hk:DE X CB E a f) (hv:DE X CB E b g):DE X CB E (.Dict [some a] [b] pos) (xDisp f g) :=
 ⟨(zt (xG hk.pe hv.pe zn) rfl rfl (by simp) (by simp)).mono fun σ H Q ⟨ρ,s,m,er,S,P⟩ p0 hp=>by
  have e0:Ext0 H m s (upd H p0 (.dK [])) (m.hide p0) s:=Ext0.hide hp
  have hm:SR X.K CB (upd H p0 (.dK [])) (m.hide p0) s:=S.hideD hp
  refine ⟨ρ,s,m.hide p0,er.ext0 e0.toExtR,hm,?_⟩
  unfold xDisp at P
  cases c1:f ρ s with
  | bad=>rw [c1] at P;exact P.elim
  | ex c' s'=>rw [c1] at P;exact P.elim
  | ok v s1 =>
   rw [c1] at P
   intro u1 H1 m1 e1 S1 r1
   refine ⟨ρ,s1,m1,(er.ext0 e0.toExtR).ext e1,S1,?_⟩
   dsimp only at P
   cases c2:g ρ s1 with
   | bad=>rw [c2] at P;exact P.elim
   | ex c' s'=>rw [c2] at P;exact P.elim
   | ok w s2 =>
    rw [c2] at P
    intro u2 H2 m2 e2 S2 r2
    dsimp only at P
    split at P
    ·rename_i k hk
     obtain ⟨S3,e3,x3,hD⟩:=DH S hp (e1.trans e2) S2
     have ek:u1=kV k:=qM r1 hk
     refine ⟨hD,[(k,u2)],by rw [ek];rfl,by simp,?_⟩
     have hk':Same (erH H2 p0) (upd H2 p0 (.dK [(k,u2)])):=fun c o h=>by
      have hne:c≠p0:=fun z=>by rw [z,xU] at h;cases h
      rw [jJ hne];rw [oS hne] at h;exact h
     obtain ⟨S4,e4⟩:=S3.newD (l:=[(k,w)]) xU hk' jK (.cons (r2.ext0 x3) .nil)
     exact P _ _ _ (e3.trans e4) S4 .new
    ·exact P.elim⟩
def xIfe (t:XT) (f g:XE) (ρ:En) (s:Sto):Out PV:=(t ρ s).bind fun b s1=>if b=true then f ρ s1 else g ρ s1
theorem FM (hc:DT X CB E c t) (ha:DE X CB E a f) (hb:DE X CB E b g):DE X CB E (.IfExp c a b pos) (xIfe t f g) :=
 ⟨(Bi hc.pt ha.pe hb.pe).mono fun σ H Q ⟨ρ,s,m,er,S,P⟩=>⟨ρ,s,m,er,S,P.bind fun v s1 b H1 m1 e1 S1 r1 P1=>by
  cases r1
  refine qm (fun c=>?_) fun c=>?_
  ·rw [if_pos c] at P1;exact ⟨ρ,s1,m1,er.ext e1,S1,P1⟩
  ·rw [if_neg c] at P1;exact ⟨ρ,s1,m1,er.ext e1,S1,P1⟩⟩⟩
inductive Ty5 where
 | int | bool | str | tuple | list
def Ty5.nm:Ty5→String
 | .int=>"int" | .bool=>"bool" | .str=>"str" | .tuple=>"tuple" | .list=>"list"
inductive Ty7 where
 | int | bool | str | tuple | list | non | dict
def Ty7.nm:Ty7→String
 | .int=>"int" | .bool=>"bool" | .str=>"str" | .tuple=>"tuple" | .list=>"list" | .non=>"NoneType" | .dict=>"dict"
def Ez:Ty7→Ty5→Bool
 | .int,.int=>true | .bool,.bool=>true | .bool,.int=>true | .str,.str=>true | .tuple,.tuple=>true | .list,.list=>true
 | _,_=>false
theorem DD (K:aa):∀ (t:Ty7) (u:Ty5),g8 K (.type t.nm) (.type u.nm)=some (Ez t u)
 | .int,.int=>by kernel_rfl
 | .int,.bool=>by kernel_rfl
 | .int,.str=>by kernel_rfl
 | .int,.tuple=>by kernel_rfl
 | .int,.list=>by kernel_rfl
 | .bool,.int=>by kernel_rfl
 | .bool,.bool=>by kernel_rfl
 | .bool,.str=>by kernel_rfl
 | .bool,.tuple=>by kernel_rfl
 | .bool,.list=>by kernel_rfl
 | .str,.int=>by kernel_rfl
 | .str,.bool=>by kernel_rfl
 | .str,.str=>by kernel_rfl
 | .str,.tuple=>by kernel_rfl
 | .str,.list=>by kernel_rfl
 | .tuple,.int=>by kernel_rfl
 | .tuple,.bool=>by kernel_rfl
 | .tuple,.str=>by kernel_rfl
 | .tuple,.tuple=>by kernel_rfl
 | .tuple,.list=>by kernel_rfl
 | .list,.int=>by kernel_rfl
 | .list,.bool=>by kernel_rfl
 | .list,.str=>by kernel_rfl
 | .list,.tuple=>by kernel_rfl
 | .list,.list=>by kernel_rfl
 | .non,.int=>by kernel_rfl
 | .non,.bool=>by kernel_rfl
 | .non,.str=>by kernel_rfl
 | .non,.tuple=>by kernel_rfl
 | .non,.list=>by kernel_rfl
 | .dict,.int=>by kernel_rfl
 | .dict,.bool=>by kernel_rfl
 | .dict,.str=>by kernel_rfl
 | .dict,.tuple=>by kernel_rfl
 | .dict,.list=>by kernel_rfl
def tyOf (s:Sto):PV→Option Ty7
 | .int _=>some .int
 | .bl _=>some .bool
 | .str _=>some .str
 | .non=>some .non
 | .tup _=>some .tuple
 | v=>match lsOf s v with
  | some _=>some .list
  | none=>none
def xIsiT (T:Ty5) (f:XE) (ρ:En) (s:Sto):Out PV:=(f ρ s).bind fun v s1=>match tyOf s1 v with
 | some k=>.ok (.bl (Ez k T)) s1
 | none=>.bad
theorem D2 (T:Ty5) (hx:x=(T.nm:String)) (hgi:Gl X "isinstance") (hmi:X.mg "isinstance"=none) (ha:DE X CB E a f) (hg:Gl X x) (hm:X.mg x=none) (hv:bS x=some (.type T.nm)) (hn:x≠"__name__") (hd:(x == ("__debug__":Str))=false)
  (hs:aR [a,.Name x px] X.env=(false,eval a X.env)::aR [.Name x px] X.env:=by rfl) (hpl:(ck pos (aR [.Name x px] X.env)).any (·.1)=false:=by rfl):DE X CB E (.Call (.Name "isinstance" p) [a,.Name x px] [] pos) (xIsiT T f) :=
 ⟨(lR BU hgi hmi uK (jR ha.pe (jR (Dd (v:=.ty T.nm) hg hm hv rfl hn hd) pa_nil) hs) (by decide) (by decide) hs hpl).mono fun σ H Q ⟨ρ,s,m,er,S,P⟩=>⟨ρ,s,m,er,S,P.bind fun v s1 u H1 m1 e1 S1 r1 P1=>by
  split at P1
  ·rename_i k hk
   refine ⟨u,.ty T.nm,.type k.nm,Ez k T,rfl,.inr ⟨_,rfl⟩,?_,DD _ k T,P1.here S1 .bl⟩
   cases r1 with
   | non=>cases hk;exact .inl .non
   | bl=>cases hk;exact .inl (.bl _)
   | int=>cases hk;exact .inl (.int _)
   | str=>cases hk;exact .inl (.str _)
   | tup h1 h2=>cases hk;exact .inr (.inr (.inr ⟨_,_,rfl,rfl,h1.elim (fun z=>.inl z.1) .inr⟩))
   | lst h1 h2 h3=>cases hk;exact .inr (.inr (.inl ⟨_,_,rfl,rfl,SqL.of h1⟩))
   | seq h1 h3=>cases hk;exact .inr (.inr (.inl ⟨_,_,rfl,rfl,h1.elim (fun z=>.inl (.inr z.1)) .inr⟩))
   | dct h1 h2 h3=>cases hk
   | exc h1 h2=>cases hk
   | clo h1=>cases hk
   | ref h1 =>
    rename_i n
    have hk:(match lsOf s1 (.ref n) with | some _=>some Ty7.list | none=>none)=some k:=hk
    split at hk <;> cases hk
    rename_i l hl
    obtain ⟨b,vs,eb,q,_⟩:=(Rep.ref h1).ls S1 hl
    cases eb
    exact .inr (.inr (.inl ⟨_,vs,rfl,rfl,q⟩))
  ·exact P1.elim⟩⟩
def nY:List (Key×PV)→Sto→Option (List (Key×PV)×Sto)
 | [],s=>some ([],s)
 | (k,v)::r,s=>match frz1 v s with
  | .ok w s1=>match nY r s1 with
   | some (r',s2)=>some ((k,w)::r',s2)
   | none=>none
  | _=>none
def EE (v:PV) (s:Sto):Out PV:=match frz1 v s with
 | .ok (.dct l) s1=>match nY l s1 with
  | some (l',s2)=>.ok (.dct l') s2
  | none=>.bad
 | _=>.bad
def CH (f:XE) (ρ:En) (s:Sto):Out PV:=(f ρ s).bind EE
theorem xR {K:aa}{H:Hp}{m:Mp}:∀ {l l':List (Key×PV)}{vs:List (Key×V)}{s s':Sto},SR K CB H m s→RepKs K H m s vs l→nY l s=some (l',s')→SR K CB H m s'∧Ext H m s H m s'∧RepKs K H m s' vs l'
 | [],_,_,_,_,S,r,e=>by cases e;cases r;exact ⟨S,.refl,.nil⟩
 | (k,v)::l,l',_,s,s',S,.cons r1 r2,e=>by
  unfold nY at e
  split at e
  ·rename_i w s1 h1
   split at e
   ·rename_i r' s2 h2
    cases e
    obtain ⟨S1,x1,q1⟩:=S.frz r1 h1
    obtain ⟨S2,x2,q2⟩:=xR S1 (r2.ext x1) h2
    exact ⟨S2,x1.trans x2,.cons (q1.ext x2) q2⟩
   ·cases e
  ·cases e
theorem D3 (h:DE X CB E e f):DE X CB E e (CH f):=⟨h.pe.mono fun σ H Q ⟨ρ,s,m,er,S,P⟩=>⟨ρ,s,m,er,S,P.bind fun v s1 u H1 m1 e1 S1 r1 P1=>by
 unfold EE at P1
 split at P1
 ·rename_i l s2 h2
  obtain ⟨S2,x2,r2⟩:=S1.frz r1 h2
  split at P1
  ·rename_i l' s3 h3
   cases r2 with
   | dct g1 g2 g3 =>
    obtain ⟨S3,x3,r3⟩:=xR S2 g3 h3
    exact P1 _ H1 m1 (x2.trans x3) S3 (.dct g1 (x3.pu _ _ g1 g2).2 r3)
  ·exact P1.elim
 ·exact P1.elim⟩⟩
end
section
variable {prog:aT}{w:bv}{A:bL}{R:iE→ao→Prop}{I:ae}{fp wr:List ae}{G:Array GenState→Array GenState→Prop}{n:Nat}{P:Nat→ah→Prop}{St:Nat→ao→Prop}
end
section
variable {prog:aT}{w:bv}{A:bL}{E:ah→ao→Prop}{s:ao}
end
section
variable {X:Cx}{x y:Str}{p q pos pos2:Pos}{e:a8}{te:TE}
end
theorem vk {α:Type}:∀ l:List α,(eC l.length).filterMap (fun k=>l[k]?)=l
 | []=>rfl
 | x::l=>by
  rw [aC,i4,ce,gI]
  have e:((fun k=>(x::l)[k]?) ∘ Nat.succ)=fun k=>l[k]?:=by funext k;simp
  rw [e,vk l]
  simp
theorem xS {α β:Type}{f g:α→Option β}:∀ {l:List α},(∀ x∈l,f x=g x)→l.filterMap f=l.filterMap g
 | [],_=>rfl
 | x::l,h=>by rw [ce,ce,h x ap,xS fun y hy=>h y (ak _ hy)]
theorem Bb (its:List ah):jz its.toArray none none (some (-1))=its.reverse.toArray:=by
 unfold jz ez sliceRange
 simp only [Option.getD_some,aM]
 have h0:¬ ((-1:Int) > 0):=by decide
 simp only [h0,if_false]
 have hc:(if ((its.length:Int) - 1 > -1) then ((its.length:Int) - 1 - -1 - -1 - 1) / - -1 else 0).toNat=its.length:=by
  have e1:(- -1:Int)=1:=by decide
  rw [e1,Int.ediv_one]
  split <;> omega
 rw [hc,gI]
 conv=>rhs;rw [← vk its.reverse,dE]
 congr 1
 refine xS fun k hk=>?_
 have hk:=dX.mp hk
 rw [List.getElem?_reverse hk]
 show its.toArray[((its.length:Int) - 1+-1 * (k:Int)).toNat]?=_
 have e:((its.length:Int) - 1+-1 * (k:Int)).toNat=its.length - 1 - k:=by omega
 rw [e]
 simp
section
variable {X:Cx}{e st:a8}{te:TE}{ts:TO}{pos p2:Pos}
def tRev (K:aa) (te:TE) (ts:TO):TE:=fun σ H Q=>te σ H fun x H1=>ts σ H1 fun u H2=>u=some (-1)∧∃ a xs,x=.ref a∧SqL K H2 a xs∧∀ p,H2 p=none→Q (.ref p) (upd H2 p (.lst xs.reverse))
theorem Fd (he:PE X e te) (hs:PO X (some st) ts):PE X (.Subscript e (.Slice none none (some st) p2) pos) (tRev X.K te ts):=by
 intro pins s σ H Q I h
 refine jd (thn (he pins s σ H _ I h) fun v s1 ⟨x,H1,I1,r1,q1⟩=>?_)
 refine wpAny_Slice ?_
 rw [jp]
 refine aS (aS ?_)
 refine thn (hs pins s1 σ H1 _ I1 q1) fun vs s2 ⟨u,H2,I2,ps,eu,a,xs,ex,hq,q2⟩=>?_
 subst eu ex
 cases r1
 have I3:Inv X pins σ H2 { s2 with heap:=s2.heap.push { cls:=.type "slice",data:=.fields #[.none,.none,vs] } }:=I2.kept (t':=s2.toks) fun b ob q=>ay _ q
 obtain ⟨its,r,ht,hz⟩:=I3.list hq
 have hlen:=r.length
 show aZ (model X.prog X.w) X.A (gb e (.Slice none none (some st) p2) (.ref a) (.ref s2.heap.objs.size)) _ _ _
 refine tail_any (ops:=[.ref a,.ref s2.heap.objs.size]) ht.isList.typeIs ii.lookup ?_ (by with_unfolding_all rfl)
 refine jo ht.isList (hZ _ .none .none vs) .none .none ps (by decide) ?_ (by rw [aM] <;> omega)
 rw [Bb]
 refine ⟨.ref _,_,I3.laid (t':=s2.toks) (o:=.lst xs.reverse) (fun b ob q=>ay _ q) (az _) ?_,rfl,q2 _ (I3.hok.fresh (az _))⟩
 exact ⟨by rw [dE];exact hz,_,0,r.reverse,bj _ rfl⟩
end
section
variable {X:Cx}{CB:ae}{E:XK}{a b c e st:a8}{es:List a8}{f g h:XE}{fa:XA}{t:XT}{p q p2 pos pos2:Pos}{x y:Str}
theorem Reps.reverse {K:aa}{H:Hp}{m:Mp}{s:Sto}:∀ {vs:List V}{l:List PV},Reps K H m s vs l→Reps K H m s vs.reverse l.reverse
 | _,_,.nil=>.nil
 | _,_,.cons r t=>by
  rw [de,de]
  exact t.reverse.append (.cons r .nil)
def FU (f:XE) (ρ:En) (s:Sto):Out PV:=(f ρ s).bind fun v s1=>match lsOf s1 v with
 | some l=>.ok (.lst l.reverse) s1
 | none=>.bad
theorem FK (ha:DE X CB E a f) (hs:DE X CB E st (x1 (xC (.int 1)) fNeg)):DE X CB E (.Subscript a (.Slice none none (some st) p2) pos) (FU f) :=
 ⟨(Fd ha.pe (zo hs.pe)).mono fun σ H Q ⟨ρ,s,m,er,S,P⟩=>⟨ρ,s,m,er,S,P.bind fun v s1 u H1 m1 e1 S1 r1 P1=>by
  split at P1
  ·rename_i l hl
   refine ⟨ρ,s1,m1,er.ext e1,S1,?_⟩
   intro u2 H2 m2 e2 S2 r2
   cases r2
   have r1':=r1.ext e2
   have hl':lsOf s1 v=some l:=hl
   obtain ⟨a,vs,rfl,q,r⟩:=r1'.ls S2 hl'
   refine ⟨-1,rfl,rfl,a,vs,rfl,q,fun p hp=>(Post.shift e2 P1).new S2 hp fun ex S'=>.lst jK (S2.pure_none hp) (r.reverse.ext ex)⟩
  ·exact P1.elim⟩⟩
end
section
variable {prog:aT}{w:bv}{A:bL}{R:iE→ao→Prop}{s:ao}
theorem yO {elt target iter:a8}{ifs:List a8}{scope:cW}{pos:Pos}{it acc:ah}{env:Env} (I:Nat→ao→Prop)
  (turn:∀ n s,I n s→aZ (model prog w) A (pyNext it) (fun r s₁=>match r with
   | none=>R (.ok .next) s₁
   | some v=>aZ (model prog w) A (gv target it v) (fun _ s₀=>aZ (model prog w) A (assign target env v) (fun _ s₂ =>
     aZ (model prog w) A (forIn ifs true fun c r=>if r=true then do let ok ← isTrue c env (eval c env);pure (dA ok) else pure (dA r)) (fun ok s₃ =>
      if ok=true then aZ (model prog w) A (eval elt env) (fun x s₄ =>
       aZ (model prog w) A (call (.builtin "list.append") [acc,x]) (fun _ s₅=>∃ m,m < n∧I m s₅) (iU (model prog w) A env fun e s'=>R (.error e) s') s₄) (iU (model prog w) A env fun e s'=>R (.error e) s') s₃
      else ∃ m,m < n∧I m s₃) (iU (model prog w) A env fun e s'=>R (.error e) s') s₂) (iU (model prog w) A env fun e s'=>R (.error e) s') s₀) (iU (model prog w) A env fun e s'=>R (.error e) s') s₁) (iU (model prog w) A env fun e s'=>R (.error e) s') s)
  (n:Nat) (h:I n s) :
  eG (model prog w) A (.compLoop (.ListComp elt [⟨target,iter,ifs,0⟩] scope pos) 0 it acc env) R s:=by
 refine codeAny_loop rfl I (fun n s hI=>?_) n h
 show aZ _ A ((compTurn (.ListComp elt [⟨target,iter,ifs,0⟩] scope pos) 0 it acc env).onRaise (fun x=>do noteFrame x env;theTreesLotGoes x)) _ _ s
 refine wpAny_noted ?_
 rw [compTurn_list]
 refine av (fV (av (bw (turn n s hI) (fun r s₁ h₁=>?_) fun _ _ h'=>h')))
 cases r with
 | none=>exact aS h₁
 | some v =>
  refine av (bw h₁ (fun _ s₀ h₀=>?_) fun _ _ h'=>h')
  refine av (bw h₀ (fun _ s₂ h₂=>av (bw h₂ (fun ok s₃ h₃=>?_) fun _ _ h'=>h')) fun _ _ h'=>h')
  cases ok with
  | false=>exact aS ⟨rfl,h₃⟩
  | true =>
   exact av (av (bw h₃ (fun x s₄ h₄=>av (bw h₄ (fun _ s₅ h₅=>aS (aS ⟨rfl,h₅⟩)) fun _ _ h'=>h')) fun _ _ h'=>h'))
end
structure CompOkG (N:List Str) (esc:cW) (scope:cW) (xs fr:List Str) (ix:List Nat):Prop where
 kind:scope.kind=.function
 cell:∀ y∈scope.names,y.2≠.cell
 nm:∀ y∈scope.names,y.2=.local→scope.names.lookup y.1=some .local
 free:∀ y∈scope.names,y.2=.free→esc.names.lookup y.1=some .cell
 nd:(xs++fr).Nodup
 idx:∀ p∈fr.zip ix,N[p.2]?=some p.1
 frs:∀ y∈fr,scope.names.lookup y=some .free∧esc.names.lookup y=some .cell
 len:ix.length=fr.length
def zd (J:It) (gt:TG) (k:Nat) (tc:TT) (te:TE) (cap:St) (D:ae) (H1:Hp) (Q:VK):Prop :=
 ∃ Pv:Nat→Nat→List V→St→Hp→Prop,(∃ m,Pv 0 m [] (aW k none++cap) (upd H1 D (.lst [])))∧∀ i m ys σ2 H2,Pv i m ys σ2 H2 →
  (J.stop i H2∧H2 D=some (.lst ys)∧Q (.ref D) H2)∨(J.go i H2∧∀ x H3,J.yld i H2 x H3→gt x σ2 H3 fun σ3 H3'=>tc σ3 H3' fun b H4=>if b=true then
   te σ3 H4 fun v H5=>H5 D=some (.lst ys)∧ys.length < aI∧∃ m',m' < m∧Pv (i+1) m' (ys++[v]) σ3 (upd H5 D (.lst (ys++[v])))
   else ∃ m',m' < m∧Pv (i+1) m' ys σ3 H4)
def Ce (wi:TI) (ix:List Nat) (gt:TG) (k:Nat) (tc:TT) (te:TE):TE:=fun σ H Q=>wi σ H fun J H1=>∀ D,H1 D=none→zd J gt k tc te (capt ix σ) D H1 Q
section
variable {X:Cx}{elt iter tg:a8}{ifs:List a8}{pos:Pos}{scope:cW}{wi:TI}{tc:TT}{te:TE}{gt:TG}{xs fr:List Str}{ix:List Nat}
theorem yP {PR:ah→ae→iE→ao→Prop}{pins:List (ae×Obj)}{σ:St}{H2:Hp}{s2:ao}{it:ae}{fp:List ae}{tn:Nat→bM→Prop}{J:It}{Q:VK} (hc:X.calm=true) (S:CompOkG X.N X.env.scope scope xs fr ix)
  (hg:∀ cl C s₃ H₃ fp,PG (blk X scope cl C (xs++fr) s₃ H₃ fp) tg gt) (ht:∀ cl C s₃ H₃ fp,zQ (blk X scope cl C (xs++fr) s₃ H₃ fp) ifs tc) (he:∀ cl C s₃ H₃ fp,PE (blk X scope cl C (xs++fr) s₃ H₃ fp) elt te)
  (hcells:∀ y∈scope.names,y.2=.free→∃ c,X.env.cells.lookup y.1=some c)
  (I2:Inv X pins σ H2 s2) (T:Turn X.prog X.w X.K tg J fp it tn) (st2:tn 0 s2.heap) (f2:∀ b∈fp,vQ X pins H2 b) (q2:∀ D,H2 D=none→zd J gt xs.length tc te (capt ix σ) D H2 Q)
  (hfin:∀ D C H' s',Inv X pins σ H' s'→H' C=none→EN X pins C→(∃ m,s'.heap.Ns C m)→Q (.ref D) H'→PR (.ref D) C (.ok .next) s') :
  aZ (model X.prog X.w) X.A (newList []) (fun acc s₃=>aZ (model X.prog X.w) X.A (newFunctionEnv scope X.env.globals (mh X.env.cells scope.names []) [] X.env.qual none .none (some X.env)) (fun cenv s₄ =>
   eG (model X.prog X.w) X.A (.compStart (.ListComp elt [⟨tg,iter,ifs,0⟩] scope pos) 0 (.ref it) acc { cenv with scope:=relabel scope X.env }) (PR acc cenv.locals) s₄) X.xe s₃) X.xe s2:=by
 refine cP ?_
 have hD:H2 s2.heap.objs.size=none:=I2.hok.fresh (az _)
 have I3:Inv X pins σ (upd H2 s2.heap.objs.size (.lst [])) { s2 with heap:=s2.heap.push { cls:=.type "list",dict:=none,data:=.seq ([]:List ah).toArray } } :=
  I2.lnew (its:=[]) (t':=s2.toks) (.nil) (bc _)
 obtain ⟨Pv,⟨m0,p0⟩,turn⟩:=q2 s2.heap.objs.size hD
 generalize hD':s2.heap.objs.size=D at *
 generalize hs3:({ s2 with heap:=s2.heap.push { cls:=.type "list",dict:=none,data:=.seq ([]:List ah).toArray } }:ao)=s3 at *
 have hk23:∀ b o,s2.heap.get? b=some o→s3.heap.get? b=some o:=fun b o e=>by rw [← hs3];exact ay _ e
 have hH3:∀ b,b≠D→(upd H2 D (.lst [])) b=H2 b:=fun b hb=>jJ hb
 have f3:∀ b∈fp,vQ X pins (upd H2 D (.lst [])) b∧b < s3.heap.objs.size:=fun b hb=>by
  obtain ⟨o,e,_⟩:=T.obj _ _ st2 b hb
  have hlt:=aK e
  refine ⟨⟨?_,(f2 b hb).2⟩,aK (hk23 b o e)⟩
  rw [hH3 b (by rw [← hD'];exact aQ hlt)]
  exact (f2 b hb).1
 have st3:tn 0 s3.heap:=T.keep _ _ _ st2 fun b hb o e=>hk23 b o e
 refine wpAny_newFunctionEnv S.cell (by intro y hy;simp at hy) (fun h4 hns4 hsb4=>?_) S.kind
 generalize hC:s3.heap.objs.size=C at *
 let X':Cx:=blk X scope (mh X.env.cells scope.names []) C (xs++fr) s3 (upd H2 D (.lst [])) fp
 have clof:∀ y c,(mh X.env.cells scope.names []).lookup y=some c→X.env.cells.lookup y=some c:=fun y c e=>t9 scope.names [] hcells (fun z d hz=>by simp at hz) e
 have clhas:∀ y,(y,bi)∈scope.names→∃ c,(mh X.env.cells scope.names []).lookup y=some c:=fun y hy=>cK.mp (rO scope.names [] hy)
 have k34:∀ b o,s3.heap.get? b=some o→h4.get? b=some o:=fun b o e=>hsb4.extBut b o (by rw [← hC];exact aQ (aK e)) (ay _ e)
 have relfree:∀ (l:List (Str×dH)) y k,(l.map fun (n,k)=>if (k == bi && X.env.scope.kind == .function && X.env.kindOf n == some .cell) then (n,d7) else (n,k)).lookup y=some k→(k=.cell∨k=.free) →
   (∀ z∈l,z.2≠.cell)→(y,bi)∈l:=by
  intro l
  induction l with
  | nil=>intro y k e _ _;simp at e
  | cons z r ih =>
   intro y k e hk hn
   obtain ⟨n,kz⟩:=z
   rw [au] at e
   by_cases hy:y=n
   ·subst hy
    have:kz=.free:=by
     by_cases hkz:kz=.free
     ·exact hkz
     ·exfalso
      have hb:(kz == bi)=false:=by simpa using hkz
      simp only [hb,dy,fb,if_false,bA,beq_self_eq_true] at e
      have e':kz=k:=aU e
      rcases hk with z | z
      ·exact hn (y,kz) ap (e'.trans z)
      ·exact hkz (e'.trans z)
    rw [this]
    exact ap
   ·have hb:(y == n)=false:=by simpa using hy
    refine ak _ (ih y k ?_ hk fun z hz=>hn z (ak _ hz))
    have e:cm y ((if (kz == bi && X.env.scope.kind == .function && X.env.kindOf n == some .cell)=true then (n,d7) else (n,kz))::_)=some k:=e
    by_cases hq:(kz == bi && X.env.scope.kind == .function && X.env.kindOf n == some .cell)=true
    ·rw [if_pos hq,bA] at e
     simp only [hb] at e
     exact e
    ·rw [if_neg hq,bA] at e
     simp only [hb] at e
     exact e
 have ok':X'.Ok:=by
  refine ⟨I3.ok.mod,S.kind,I3.ok.glob,I3.ok.blt,?_,fun y z c e1 e2=>I3.ok.inj y z c (clof y c e1) (clof z c e2),fun y hy=>?_,fun y c e _=>(by cases e),fun _=>I3.ok.hd hc,I3.ok.frames,.inl rfl,fun b hb=>⟨?_,fun y c e=>(f3 b hb).1.2.2.2.2.1 y c (clof y c e)⟩,I3.bs,aJ I3.ok.bsz I3.sz,fun b o e hb=>?_,fun b hb z=>?_,I3.stack,I3.stkFree⟩
  ·show s3.heap.objs.size≤C
   rw [hC]
   exact az _
  ·rcases hy with hy | hy
   ·exact clhas y (relfree scope.names y _ hy (.inl rfl) S.cell)
   ·exact clhas y (relfree scope.names y _ hy (.inr rfl) S.cell)
  ·exact aQ (f3 b hb).2
  ·rcases (f3 b hb).1.2.2.2.1 with z | z
   ·exact I3.ok.noex b o e z
   ·exact absurd (aH (aK e) (aJ I3.ok.bsz z)) (cC _)
  ·rcases ai.mp (I3.stkSub b z) with z | z
   ·exact (f3 b hb).1.2.1 z
   ·exact (f3 b hb).1.2.2.1 z
 have capture:∀ {h':bM}{m:Str→Option ah},(∀ b o,s3.heap.get? b=some o→(∃ v,o.data=.cell v)→h'.get? b=some o)→∀ (k:Nat) (y:Str) (v:V),fr[k]?=some y→(capt ix σ)[k]?=some (some v)→∃ u,RelV v u∧F4 X'.env h' m y u:=by
  intro h' m hkc k y v hy hv
  obtain ⟨i,hix,hσ⟩:=x9 hv
  have hzip:(y,i)∈fr.zip ix:=by
   refine bN (i:=k) ?_
   rw [iJ]
   exact ⟨hy,hix⟩
  have hN:X.N[i]?=some y:=S.idx (y,i) hzip
  obtain ⟨hfr,hcell⟩:=S.frs y (bN hy)
  obtain ⟨m3,hn3,hl3⟩:=I3.loc
  obtain ⟨u,ru,l⟩:=hl3 i y v hN hσ (.inr (.inl hcell))
  refine ⟨u,ru,?_⟩
  rcases l with ⟨kd,_⟩ | ⟨_,c,ec,ic⟩
  ·have kd:X.env.scope.names.lookup y=some .local:=kd
   rw [hcell] at kd
   cases kd
  ·refine .inr ⟨.inl (lb I3.ok.kind hfr hcell),c,?_,?_⟩
   ·obtain ⟨c',e'⟩:=clhas y (cy hfr)
    have:=clof y c' e'
    rw [ec] at this
    cases this
    exact e'
   ·obtain ⟨o,ho,hd⟩:=ic
    exact ⟨o,hkc c o ho ⟨_,hd⟩,hd⟩
 have hNd:X'.N.Nodup:=S.nd
 have lenb:(aW xs.length none++capt ix σ).length=X'.N.length:=by
  show _=(xs++fr).length
  unfold capt
  rw [aO,aO,cZ,af,S.len]
 have I4:Inv X' [] (aW xs.length none++capt ix σ) (upd H2 D (.lst [])) { s3 with heap:=h4,toks:=s3.toks+([]:List (Str×ah)).length }:=by
  refine ⟨ok',rfl,I3.bare,Un.kept k34,⟨_,hns4,fun k y v e1 e2 e3=>?_⟩,fun y c e=>?_,?_,fun y c e=>I3.freeC y c (clof y c e),fun p hp=>?_,I3.hok.kept k34,lenb⟩
  ·have e1:(xs++fr)[k]?=some y:=e1
   by_cases hk:k < xs.length
   ·rw [fk (by rw [cZ];exact hk),fO,if_pos hk] at e2
    cases e2
   ·have hk:xs.length≤k:=dC hk
    rw [dw hk] at e1
    rw [dw (by rw [cZ];exact hk),cZ] at e2
    exact capture (fun b o e _=>k34 b o e) (k - xs.length) y v e1 e2
  ·obtain ⟨v,o,ho,hd⟩:=I3.cell y c (clof y c e)
   exact ⟨v,o,k34 c o ho,hd⟩
  ·exact I3.hok.fresh (by show s3.heap.objs.size≤C;rw [hC];exact az _)
  ·exact absurd (show p∈([]:List (ae×Obj)) from hp) (by simp)
 have stat:∀ {H':Hp}{b:ae},b∈fp→H' b=none→vQ X' [] H' b:=fun {H' b} hb hn=>by
  refine ⟨hn,?_,?_,.inl hb,fun y c e=>(f3 b hb).1.2.2.2.2.1 y c (clof y c e),fun p hp=>absurd (show p∈([]:List (ae×Obj)) from hp) (by simp)⟩
  ·exact aQ (f3 b hb).2
  ·intro z
   rcases ai.mp (I3.stkSub b z) with z | z
   ·exact (f3 b hb).1.2.1 z
   ·exact (f3 b hb).1.2.2.1 z
 have hch:∀ b∈fp,(b∈X.ex∨X.s₀.heap.objs.size≤b)∧b≠X.env.locals∧(∀ y c,X.env.cells.lookup y=some c→c≠b)∧∀ p∈X.pn++pins,p.1≠b:=fun b hb =>
  ⟨(f3 b hb).1.2.2.2.1,(f3 b hb).1.2.1,(f3 b hb).1.2.2.2.2.1,(f3 b hb).1.2.2.2.2.2⟩
 have fin:∀ {σ':St}{H':Hp}{s':ao},Inv X' [] σ' H' s'→Q (.ref D) H'→PR (.ref D) C (.ok .next) s':=fun {σ' H' s'} I' q'=>by
  obtain ⟨m',hn',_⟩:=I'.loc
  have J:=I3.call' (s':=s') (ch:=fp) I'.os I'.base I'.hok I'.bare hch
  refine hfin D C H' s' J I'.free ⟨?_,?_,fun y c e=>?_,fun p hp=>?_⟩ ⟨m',hn'⟩ q'
  ·rw [← hC];exact jf I3.lt
  ·rw [← hC];exact I3.sz
  ·obtain ⟨v,z⟩:=I3.cell y c e
   rw [← hC];exact aQ z.lt
  ·rw [← hC];exact aQ (aK (I3.pin p hp).1)
 have loop:eG (model X.prog X.w) X.A (.compLoop (.ListComp elt [⟨tg,iter,ifs,0⟩] scope pos) 0 (.ref it) (.ref D) X'.env) (PR (.ref D) C) { s3 with heap:=h4,toks:=s3.toks+([]:List (Str×ah)).length }:=by
  refine yO (fun n s'=>∃ i ys σ5 H',Inv X' [] σ5 H' s'∧tn i s'.heap∧(∀ b∈fp,H' b=none)∧Pv i n ys σ5 H') ?_ m0 ⟨0,[],_,_,I4,T.keep _ _ _ st3 fun b hb o e=>k34 b o e,fun b hb=>(f3 b hb).1.1,p0⟩
  rintro n s5 ⟨i,ys,σ5,H5,I5,st5,fr5,p5⟩
  rcases turn i n ys σ5 H5 p5 with ⟨stop,hd5,qn⟩ | ⟨go,step⟩
  ·refine bw (T.done X' rfl rfl rfl rfl i [] s5 _ H5 (fun _ _=>False) I5 (fun b hb=>stat hb (fr5 b hb)) st5 stop) (fun r s6 ⟨hr,I6⟩=>?_) fun _ _ z=>bC z
   subst hr
   exact fin I6 qn
  ·refine bw (T.item X' rfl rfl rfl rfl i [] s5 _ H5 (fun _ _=>False) I5 (fun b hb=>stat hb (fr5 b hb)) st5 go) (fun r s6 ⟨u,hr,h6⟩=>?_) fun _ _ z=>bC z
   subst hr
   dsimp only
   refine bw h6 (fun _ s6' h6'=>?_) fun _ _ z=>bC z
   obtain ⟨xv,H6,I6,r6,y6,st6,fr6⟩:=h6'
   have I6':=I6.pinned (fun b hb=>stat hb (fr6 b hb)) (T.obj _ _ st6)
   refine bw (hg _ _ _ _ _ _ s6' _ H6 xv u _ I6' r6 (step xv H6 y6)) (fun _ s7 h7=>?_) fun _ _ z=>bC z
   obtain ⟨σ7,H7,I7,q7⟩:=h7
   refine bw (ht _ _ _ _ _ _ s7 _ H7 _ I7 q7) (fun b s8 ⟨H8,I8,q8⟩=>?_) fun _ _ z=>bC z
   have back:∀ {H9:Hp}{s9:ao}{ys':List V},Inv X' ([]++sD fp s6'.heap) σ7 H9 s9→(∃ m',m' < n∧Pv (i+1) m' ys' σ7 H9) →
     ∃ m,m < n∧∃ i ys σ5 H',Inv X' [] σ5 H' s9∧tn i s9.heap∧(∀ b∈fp,H' b=none)∧Pv i m ys σ5 H':=fun {H9 s9 ys'} I9 h9=>by
    obtain ⟨m',hm,p9⟩:=h9
    refine ⟨m',hm,i+1,ys',_,H9,I9.unpinned,T.keep _ _ _ st6 fun b hb o e=>(I9.pin (b,o) (aP _ (aP _ (md hb e)))).1,fun b hb=>?_,p9⟩
    obtain ⟨o,e,d⟩:=T.obj _ _ st6 b hb
    exact (I9.pin (b,o) (aP _ (aP _ (md hb e)))).2.1
   cases b with
   | false =>
    rw [if_neg a6] at q8 ⊢
    exact back I8 q8
   | true =>
    rw [if_pos rfl] at q8 ⊢
    refine bw (he _ _ _ _ _ _ s8 _ H8 _ I8 q8) (fun w9 s9 ⟨v9,H9,I9,r9,hd9,hz9,q9⟩=>?_) fun _ _ z=>bC z
    refine bw (rE (X:=X') _ s9 _ H9 (.ref D) [v9] (.ref D) [w9] (fun _ H'=>H'=upd H9 D (.lst (ys++[v9]))) I9 rfl (.cons r9 .nil) ⟨D,ys,v9,rfl,rfl,hd9,hz9,rfl⟩) (fun _ s10 h10=>?_) fun _ _ z=>bC z
    obtain ⟨_,H10,I10,_,rfl⟩:=h10
    exact back I10 q9
 exact codeAny_compStart_list loop (T.self _ 0 _ _ _ (T.keep _ _ _ st3 fun b hb o e=>k34 b o e) loop)
theorem Bk (hc:X.calm=true) (S:CompOkG X.N X.env.scope scope xs fr ix) (hi:PI X tg iter wi)
  (hg:∀ cl C s₃ H₃ fp,PG (blk X scope cl C (xs++fr) s₃ H₃ fp) tg gt) (ht:∀ cl C s₃ H₃ fp,zQ (blk X scope cl C (xs++fr) s₃ H₃ fp) ifs tc) (he:∀ cl C s₃ H₃ fp,PE (blk X scope cl C (xs++fr) s₃ H₃ fp) elt te)
  (hs:∀ v,bY iter X.env v=pure v:=by intro _;rfl):PE X (.ListComp elt [⟨tg,iter,ifs,0⟩] scope pos) (Ce wi ix gt xs.length tc te):=by
 intro pins s σ H Q I h
 have hcells:∀ y∈scope.names,y.2=.free→∃ c,X.env.cells.lookup y.1=some c:=fun y hy hf=>I.ok.has y.1 (.inl (S.free y hy hf))
 rw [eval_ListComp]
 refine fW (use:=none) rfl hs (nO hcells) S.kind S.nm (thn (hi pins s σ H _ I h) fun v s1 h1=>thn h1 fun itv s2 h2=>?_)
 obtain ⟨it,fp,tn,J,H2,e,I2,T,st2,f2,q2⟩:=h2
 subst e
 refine yP (PR:=fun acc C r s'=>compPost (model X.prog X.w) X.A X.xe none (EP X pins σ Q) acc C r s') hc S hg ht he hcells I2 T st2 f2 q2 fun D C H' s' I' hCn ⟨b1,b2,b3,b4⟩ hns q'=>?_
 obtain ⟨m',hn'⟩:=hns
 refine ⟨m',hn',fun h' hs'=>⟨.ref D,H',?_,rfl,q'⟩⟩
 exact I'.turned (t':=s'.toks) (it:=C) (fun b o hb e=>hs'.extBut b o hb e) hCn b1 (.inr b2) b3 b4
end
def wK (q:PV) (s:Sto):Option (PV×PV):=match q with
 | .tup [p1,p2]=>some (p1,p2)
 | _=>none
def y2:XG:=yTup 2 (yCons (yName 0) (yCons (yName 1) yNil))
theorem y2_of {q p1 p2:PV}{s:Sto}{cap:En} (h:wK q s=some (p1,p2)):y2 q (none::none::cap) s=some (some p1::some p2::cap):=by
 unfold wK at h
 split at h
 ·cases h;rfl
 ·cases h
def lP (c:XT) (e:XE) (cap:En):List PV→Sto→Out (List PV)
 | [],s=>.ok [] s
 | q::l,s=>match wK q s with
  | none=>.bad
  | some p=>match c (some p.1::some p.2::cap) s with
   | .ok true s1=>match e (some p.1::some p.2::cap) s1 with
    | .ok v s2=>match lP c e cap l s2 with
     | .ok vs s3=>.ok (v::vs) s3
     | _=>.bad
    | _=>.bad
   | .ok false s1=>lP c e cap l s1
   | _=>.bad
theorem se {c:XT}{e:XE}{cap:En}{q:PV}{l:List PV}{s:Sto}:lP c e cap (q::l) s=match wK q s with
  | none=>.bad
  | some p=>match c (some p.1::some p.2::cap) s with
   | .ok true s1=>match e (some p.1::some p.2::cap) s1 with
    | .ok v s2=>match lP c e cap l s2 with
     | .ok vs s3=>.ok (v::vs) s3
     | _=>.bad
    | _=>.bad
   | .ok false s1=>lP c e cap l s1
   | _=>.bad:=rfl
theorem vJ {c:XT}{e:XE}{cap:En}:∀ {l:List PV}{s s':Sto}{k:ae},lP c e cap l s≠.ex k s'
 | [],_,_,_,h=>by cases h
 | q::l,s,s',k,h=>by
  unfold lP at h
  split at h
  ·cases h
  ·split at h
   ·split at h
    ·split at h <;> cases h
    ·cases h
   ·exact vJ h
   ·cases h
def sA (fi:XA) (ix:List Nat) (c:XT) (e:XE) (ρ:En) (s:Sto):Out PV:=(fi ρ s).bind fun l s1=>if l.length≤100000 then (lP c e (kj ix ρ) l s1).bind fun vs s2=>.ok (.lst vs) s2 else .bad
section
variable {X:Cx}{CB:ae}{E:XK}{elt iter tg:a8}{ifs:List a8}{f:XE}{fi:XA}{t:XT}{pos:Pos}{scope:cW}{xs fr:List Str}{ix:List Nat}
theorem ER.weak2 {K:aa}{H:Hp}{m:Mp}{s:Sto}{σ:St}{p1 p2:PV}{cap:En} (h:ER K H m s σ (some p1::some p2::cap)):ER K H m s σ (none::none::cap) :=
 ⟨h.len,fun i p q=>by
  match i,q with
  | 0,q=>cases q
  | 1,q=>cases q
  | i+2,q=>exact h.at_ (i+2) p q⟩
theorem ER.none2 {K:aa}{H:Hp}{m:Mp}{s:Sto}{σ:St}{cap:En} (h:ER K H m s σ cap):ER K H m s (aW 2 none++σ) (none::none::cap) :=
 ⟨by have:=h.len;simp at this ⊢;omega,fun i p q=>by
  match i,q with
  | 0,q=>cases q
  | 1,q=>cases q
  | i+2,q=>exact h.at_ i p q⟩
theorem Cmp.env {K:aa}{D:ae}{H1 H2:Hp}{m1 m2:Mp}{s1 s2:Sto}{cap cap':St}{ρ ρ':En}{ys:List V}{done:List PV} (C:Cmp K CB D H1 m1 s1 cap ρ ys done H2 m2 s2) (er:ER K H2 m2 s2 cap' ρ'):Cmp K CB D H1 m1 s1 cap' ρ' ys done H2 m2 s2:=⟨C.hid,C.at_,C.sr,er,C.rs,C.ex,C.e0⟩
theorem Au {σ:St}{H1:Hp}{m1:Mp}{s1:Sto}{ρ:En}{J:It}{l:List PV}{D:ae}{Q:VK}{t:XT} (S1:SR X.K CB H1 m1 s1) (er:ER X.K H1 m1 s1 σ ρ) (it:m6 X.K CB J l H1 m1 s1) (hD:H1 D=none) (hlen:l.length≤100000)
  (P:Post X.K CB (Rep X.K) E ((lP t f (kj ix ρ) l s1).bind fun vs s2=>.ok (.lst vs) s2) H1 m1 s1 Q):zd J (TDG X.K CB y2) 2 (TDT X.K CB E0 t) (TDE X.K CB E0 f) (capt ix σ) D H1 Q:=by
 refine ⟨fun i k ys σ2 H2=>∃ done m2 s2,Cmp X.K CB D H1 m1 s1 σ2 (none::none::kj ix ρ) ys done H2 m2 s2∧i≤l.length∧ys.length≤i∧k=l.length - i∧(lP t f (kj ix ρ) l s1).bind (fun vs s2=>.ok (PV.lst vs) s2)=(lP t f (kj ix ρ) (l.drop i) s2).bind fun vs s2=>.ok (.lst (done++vs)) s2,⟨l.length,[],m1.hide D,s1,(Cmp.start S1 (er.capt ix) hD).env ((er.capt ix).none2.ext0 (Ext0.hide hD).toExtR),bc _,bc _,rfl,?_⟩,?_⟩
 ·simp
 rintro i k ys σ2 H2 ⟨done,m2,s2,C,hi,hy,rfl,eq⟩
 obtain ⟨it1,it2⟩:=it i H2 m2 s2 C.e0 C.sr
 by_cases hlt:i < l.length
 ·right
  have hq:l[i]?=some l[i]:=bu hlt
  obtain ⟨go,yl⟩:=it1 _ hq
  refine ⟨go,fun x H3 hyl=>?_⟩
  obtain ⟨e3,S3,r3⟩:=yl x H3 hyl
  have C3:=C.step hD e3 S3
  rw [cg hlt] at eq
  rw [eq] at P
  rw [se] at P eq
  cases hp:wK l[i] s2 with
  | none=>rw [hp] at P;exact P.elim
  | some pq =>
   obtain ⟨p1,p2⟩:=pq
   rw [hp] at P eq
   dsimp only at P eq
   refine ⟨_,s2,m2,l[i],_,C3.er,S3,r3,y2_of hp,fun σ3 er3=>?_⟩
   have C3:=C3.env er3
   refine ⟨_,s2,m2,er3,S3,?_⟩
   cases ct:t (some p1::some p2::kj ix ρ) s2 with
   | bad=>rw [ct] at P;exact P.elim
   | ex c3 s3=>rw [ct] at P;exact P.elim
   | ok bt s3 =>
    rw [ct] at P eq
    intro b4 H4 m4 e4 S4 hb
    subst hb
    have C4:=C3.step hD e4 S4
    cases b4 with
    | false =>
     exact EC ⟨l.length - (i+1),by omega,done,m4,s3,C4.env C4.er.weak2,hlt,by omega,rfl,eq⟩
    | true =>
     refine EB ⟨_,s3,m4,C4.er,S4,?_⟩
     dsimp only at P eq
     cases cf:f (some p1::some p2::kj ix ρ) s3 with
     | bad=>rw [cf] at P;exact P.elim
     | ex c5 s5=>rw [cf] at P;exact P.elim
     | ok v s5 =>
      rw [cf] at eq
      intro w H5 m5 e5 S5 r5
      have C5:=C4.step hD e5 S5
      refine ⟨C5.at_,a7 (aJ hy (aJ hi hlen)) (by decide),l.length - (i+1),by omega,done++[v],m5,s5,(C5.push hD r5).env (C5.push hD r5).er.weak2,hlt,by simp;omega,rfl,?_⟩
      rw [eq]
      dsimp only
      cases hh:lP t f (kj ix ρ) (l.drop (i+1)) s5 with
      | ok vs s6=>simp [Out.bind]
      | ex c6 s6=>exact absurd hh vJ
      | bad=>rfl
 ·left
  have hle:l.length≤i:=dC hlt
  rw [dZ hle] at eq
  rw [eq] at P
  unfold lP at P
  obtain ⟨S2',rd⟩:=C.done
  refine ⟨it2 hle,C.at_,P (.ref D) H2 (m2.bare m1.hid) C.ex S2' ?_⟩
  rw [bZ]
  exact rd fun z=>(S1.hs D z).1 hD
theorem xm {σ:St}{H:Hp}{Q:VK}{t:XT} (q:TDE X.K CB E (sA fi ix t f) σ H Q):Ce (TDI X.K CB E fi) ix (TDG X.K CB y2) 2 (TDT X.K CB E0 t) (TDE X.K CB E0 f) σ H Q:=by
 obtain ⟨ρ,s,m,er,S,P⟩:=q
 refine ⟨ρ,s,m,er,S,?_⟩
 unfold sA at P
 cases c:fi ρ s with
 | bad=>rw [c] at P;exact P
 | ex c' s'=>rw [c] at P;exact P
 | ok l s1 =>
  rw [c] at P
  dsimp only [Out.bind] at P
  split at P
  ·rename_i hlen
   intro J H1 m1 e1 S1 it D hD
   exact Au S1 (er.ext e1) it hD hlen (Post.shift e1 P)
  ·exact P.elim
variable {x1' x2':Str}{q1 q2 q3:Pos}{kt:Nat}
theorem DU {cl:List (Str×ae)}{C:ae}{s₃:ao}{H₃:Hp}{fp:List ae} (hN:([x1',x2']++fr).Nodup) (h1:scope.names.lookup x1'=some .local) (h2:scope.names.lookup x2'=some .local):DG (blk X scope cl C ([x1',x2']++fr) s₃ H₃ fp) CB (.Tuple [.Name x1' q1,.Name x2' q2] kt q3) y2 :=
 y4 rfl (lU (ke 0 hN rfl (.inl (dG h1)) (.inr (dG h1))) (lU (ke 1 hN rfl (.inl (dG h2)) (.inr (dG h2))) wD))
theorem BP (hc:X.calm=true) (S:CompOkG X.N X.env.scope scope [x1',x2'] fr ix) (h1:scope.names.lookup x1'=some .local) (h2:scope.names.lookup x2'=some .local) (hi:DI X CB E (.Tuple [.Name x1' q1,.Name x2' q2] kt q3) iter fi)
  (ht:∀ cl C s₃ H₃ fp,DIfs (blk X scope cl C ([x1',x2']++fr) s₃ H₃ fp) CB ifs t) (he:∀ cl C s₃ H₃ fp,DE (blk X scope cl C ([x1',x2']++fr) s₃ H₃ fp) CB E0 elt f)
  (hs:∀ v,bY iter X.env v=pure v:=by intro _;rfl):DE X CB E (.ListComp elt [⟨.Tuple [.Name x1' q1,.Name x2' q2] kt q3,iter,ifs,0⟩] scope pos) (sA fi ix t f) :=
 ⟨(Bk hc S hi.pi (fun cl C s₃ H₃ fp=>(DU (CB:=CB) S.nd h1 h2).pg) (fun cl C s₃ H₃ fp=>(ht cl C s₃ H₃ fp).pifs) (fun cl C s₃ H₃ fp=>(he cl C s₃ H₃ fp).pe) hs).mono fun σ H Q q=>xm q⟩
def fMax (vs:List PV) (s:Sto):Out PV:=match vs with
 | [.int i,.int j]=>.ok (.int (if j > i then j else i)) s
 | _=>.bad
theorem b_max (hc:X.calm=true):BltR X CB E (.builtin "max") fMax:=⟨_,Aw hc,by
 intro H m s v x Q S rx P
 unfold fMax at P
 split at P
 ·cases rx with
  | cons r n=>cases n with
   | cons r2 n2=>cases n2;cases r;cases r2;exact ⟨_,_,rfl,P.here S .int⟩
 ·exact P.elim⟩
end
def NOw (u:HO):Prop:=∀ o x,u≠.frz o (.own x)
section
variable {K:aa}{CB:ae}{H H':Hp}{m:Mp}{s:Sto}
mutual
theorem Rep.now (k:∀ a u,H a=some u→NOw u→H' a=some u):∀ {v:V}{p:PV},Rep K H m s v p→Rep K H' m s v p
 | _,_,.non=>.non
 | _,_,.bl=>.bl
 | _,_,.int=>.int
 | _,_,.str=>.str
 | _,_,.tup h r=>.tup (h.imp (fun z=>⟨z.1.imp (fun h=>k _ _ h (by intro _ _ z;cases z)) fun ⟨o,h⟩=>⟨o,k _ _ h (by intro _ _ z;cases z)⟩,z.2⟩) fun z=>z) (Reps.now k r)
 | _,_,.lst h p r=>.lst (k _ _ h (by intro _ _ z;cases z)) p (Reps.now k r)
 | _,_,.seq h r=>.seq (h.imp (fun ⟨⟨o,z⟩,p⟩=>⟨⟨o,k _ _ z (by intro _ _ z;cases z)⟩,p⟩) fun z=>z) (Reps.now k r)
 | _,_,.dct h p r=>.dct (h.imp (fun h=>k _ _ h (by intro _ _ z;cases z)) fun ⟨o,h⟩=>⟨o,k _ _ h (by intro _ _ z;cases z)⟩) p (RepKs.now k r)
 | _,_,.ref h=>.ref h
 | _,_,.exc h p=>.exc (k _ _ h (by intro _ _ z;cases z)) p
 | _,_,.clo r=>.clo (Reps.now k r)
theorem Reps.now (k:∀ a u,H a=some u→NOw u→H' a=some u):∀ {v:List V}{p:List PV},Reps K H m s v p→Reps K H' m s v p
 | _,_,.nil=>.nil
 | _,_,.cons a b=>.cons (Rep.now k a) (Reps.now k b)
theorem RepKs.now (k:∀ a u,H a=some u→NOw u→H' a=some u):∀ {v:List (Key×V)}{p:List (Key×PV)},RepKs K H m s v p→RepKs K H' m s v p
 | _,_,.nil=>.nil
 | _,_,.cons a b=>.cons (Rep.now k a) (RepKs.now k b)
end
variable {cs:List (ae×Obj)}
end
def Fro (H H':Hp):Prop:=∀ a o u,H a=some (.frz o u)→H' a=some (.frz o u)
structure CloC (P:aT) (w:bv) (K:aa) (mg:Str→Option ah) (base:bM) (k:Nat) (CB f:ae) (vs:List V) (H:Hp) (dr:List PV→PV→Sto→Out PV):Prop where
 ex:∃ of fd0 fd ps sp,H f=some (fzO of)∧of.data=.func fd0∧FnOk P w K mg base (CXo P w) k f fd ps sp∧Binds K fd ps [] ∧
  ∀ H' m s v p l Q,Fro H H'→SR K CB H' m s→Reps K H' m s vs l→Rep K H' m s v p→Post K CB (Rep K) E0 (dr l p s) H' m s Q→sp [v] H' Q E0
open Classical in
section
variable {X:Cx}{CB:ae}{E:XK}{k i:Nat}{x:Str}{p pos:Pos}{e:a8}{g:XE}{f:ae}{vs:List V}{dr:List PV→PV→Sto→Out PV}
end
open Classical in
section
variable {X:Cx}{CB:ae}{E:XK}{k kb:Nat}{fn y q:Str}{p pos lpos:Pos}{g:XE}{params:iI}{body:a8}{scope:cW}{fr:List Str}{ix:List Nat}{cd P:ae}{D:ae→List V→(List PV→PV→Sto→Out PV)→XF}{pn:Str}
end
def sx (fi:XA) (ix:List Nat) (c:XT) (e:XE) (ρ:En) (s:Sto):Out PV:=(fi ρ s).bind fun l s1=>if l.length≤100000 then (kK c e (kj ix ρ) l s1).bind fun vs s2=>.ok (.ref s2.nx) (s2.add (.lst vs)) else .bad
section
variable {X:Cx}{CB:ae}{E:XK}{a b c e elt iter tg:a8}{es ifs:List a8}{f g h:XE}{fa fi:XA}{t:XT}{p px pos pos' apos cpos:Pos}{x:Str}{st:bT}{mH sts sts':List bT}{u v:XS}{scope:cW}{fr:List Str}{ix:List Nat}
theorem Cmp.cell {K:aa}{D:ae}{H1 H2:Hp}{m1 m2:Mp}{s1 s2:Sto}{cap:St}{ρ:En}{ys:List V}{done:List PV} (C:Cmp K CB D H1 m1 s1 cap ρ ys done H2 m2 s2) (hD:H1 D=none) (hn:D∉m1.hid) :
  SR K CB H2 ((m2.bare m1.hid).add s2.nx D [D]) (s2.add (.lst done))∧Ext H1 m1 s1 H2 ((m2.bare m1.hid).add s2.nx D [D]) (s2.add (.lst done)):=by
 have S:=C.sr
 have hin:D∈m2.hid:=by rw [C.hid];exact ap
 have hlt:∀ j∈s2.cs.map (·.1),j≠s2.nx:=fun j hj=>aQ (S.lt j hj)
 have hfp:∀ j∈s2.cs.map (·.1),((m2.bare m1.hid).add s2.nx D [D]).fp j=m2.fp j:=fun j hj=>if_neg (hlt j hj)
 have hfn:((m2.bare m1.hid).add s2.nx D [D]).fp s2.nx=[D]:=if_pos rfl
 have had:((m2.bare m1.hid).add s2.nx D [D]).ad s2.nx=D:=if_pos rfl
 have nD:∀ j∈s2.cs.map (·.1),D∉m2.fp j:=fun j hj z=>S.hx j hj D z hin
 have hk:∀ {j:Nat},j∈(s2.add (.lst done)).cs.map (·.1)→j=s2.nx∨j∈s2.cs.map (·.1):=fun {j} hj=>ai.mp (show j∈s2.nx::s2.cs.map (·.1) from hj)
 have hsub:∀ a,a∈m1.hid→a∈m2.hid:=fun a ha=>by rw [C.hid];exact ak _ ha
 have pur:∀ a,a≠D→a∉m1.hid→(∀ n∈s2.cs.map (·.1),a∉m2.fp n)→Pur ((m2.bare m1.hid).add s2.nx D [D]) (s2.add (.lst done)) a:=fun a h1 h2 h3=>⟨h2,fun j hj ha=>by
  rcases hk hj with rfl | hj
  ·rw [hfn,aE] at ha;exact h1 ha
  ·rw [hfp j hj] at ha;exact h3 j hj ha⟩
 have x:ExtR H2 m2 s2 H2 ((m2.bare m1.hid).add s2.nx D [D]) (s2.add (.lst done)):=⟨gp _,fun j hj=>if_neg (aQ hj),fun a u h p=>⟨h,pur a (fun z=>p.1 (z ▸ hin)) (fun z=>p.1 (hsub a z)) p.2⟩,fun a u h _ _=>h⟩
 have e1:s1.nx≤s2.nx:=C.ex.nx
 refine ⟨⟨?_,?_,fun q hq=>?_,fun j hj i hi hne a ha hb=>?_,fun j hj a ha hb=>?_,fun a ha=>S.hs a (hsub a ha),fun P q t=>⟨?_,(S.tb P q t).2⟩⟩,⟨⟨⟨Nat.le_succ_of_le e1,fun n hn=>?_,fun a u h p=>?_,C.ex.el⟩,fun n l hn h=>?_⟩,rfl,C.ex.hk⟩⟩
 ·exact aw.mpr ⟨fun z=>hlt _ z rfl,S.nd⟩
 ·intro j hj
  rcases hk hj with rfl | hj
  ·exact cF _
  ·exact fD (S.lt j hj)
 ·rcases ai.mp (show q∈(s2.nx,Cell.lst done)::s2.cs from hq) with rfl | hq
  ·exact ⟨by rw [hfn,had],ys,by rw [had];exact C.at_,C.rs.ext0 x⟩
  ·have hqm:q.1∈s2.cs.map (·.1):=aj.mpr ⟨q,hq,rfl⟩
   exact (S.ok q hq).keep S x (fun a _ o h=>h) (x.ad _ (S.lt _ hqm)) (hfp _ hqm)
 ·rcases hk hj with e | hj <;> rcases hk hi with e' | hi
  ·exact hne (e.trans e'.symm)
  ·rw [e,hfn,aE] at ha;rw [hfp i hi,ha] at hb;exact nD i hi hb
  ·rw [e',hfn,aE] at hb;rw [hfp j hj,hb] at ha;exact nD j hj ha
  ·rw [hfp j hj] at ha;rw [hfp i hi] at hb;exact S.dj j hj i hi hne a ha hb
 ·have hb:a∈m1.hid:=hb
  rcases hk hj with e | hj
  ·rw [e,hfn,aE] at ha;rw [ha] at hb;exact hn hb
  ·rw [hfp j hj] at ha;exact S.hx j hj a ha (hsub a hb)
 ·obtain ⟨h1,ps,h2,_⟩:=S.tb P q t
  rw [C.hid] at h1
  rcases ai.mp h1 with z | z
  ·rw [z,C.at_] at h2;cases h2
  ·exact z
 ·have:n≠s2.nx:=aQ (aH hn e1)
  exact (if_neg this).trans (C.ex.ad n hn)
 ·obtain ⟨h1,p1⟩:=C.ex.pu a u h p
  exact ⟨h1,pur a (h.ne hD) p1.1 p1.2⟩
 ·obtain ⟨h1,h2⟩:=C.ex.df n l hn h
  refine ⟨?_,h2⟩
  show lf ((s2.nx,Cell.lst done)::s2.cs) n=_
  unfold lf
  rw [if_neg (fun z=>aQ (aH hn e1) z.symm)]
  exact h1
theorem At {σ:St}{H1:Hp}{m1:Mp}{s1:Sto}{ρ:En}{J:It}{l:List PV}{D:ae}{Q:VK}{t:XT} (S1:SR X.K CB H1 m1 s1) (er:ER X.K H1 m1 s1 σ ρ) (it:m6 X.K CB J l H1 m1 s1) (hD:H1 D=none) (hlen:l.length≤100000)
  (P:Post X.K CB (Rep X.K) E ((kK t f (kj ix ρ) l s1).bind fun vs s2=>.ok (.ref s2.nx) (s2.add (.lst vs))) H1 m1 s1 Q):yS J (TDT X.K CB E0 t) (TDE X.K CB E0 f) (capt ix σ) D H1 Q:=by
 refine ⟨fun i k ys H2=>∃ done m2 s2,Cmp X.K CB D H1 m1 s1 (capt ix σ) (kj ix ρ) ys done H2 m2 s2∧i≤l.length∧ys.length≤i∧k=l.length - i∧(kK t f (kj ix ρ) l s1).bind (fun vs s2=>.ok (PV.ref s2.nx) (s2.add (.lst vs)))=(kK t f (kj ix ρ) (l.drop i) s2).bind fun vs s2=>.ok (.ref s2.nx) (s2.add (.lst (done++vs))),⟨l.length,[],m1.hide D,s1,Cmp.start S1 (er.capt ix) hD,bc _,bc _,rfl,?_⟩,?_⟩
 ·simp
 rintro i k ys H2 ⟨done,m2,s2,C,hi,hy,rfl,eq⟩
 obtain ⟨it1,it2⟩:=it i H2 m2 s2 C.e0 C.sr
 by_cases hlt:i < l.length
 ·right
  have hq:l[i]?=some l[i]:=bu hlt
  obtain ⟨go,yl⟩:=it1 _ hq
  refine ⟨go,fun x H3 hyl=>?_⟩
  obtain ⟨e3,S3,r3⟩:=yl x H3 hyl
  have C3:=C.step hD e3 S3
  rw [cg hlt] at eq
  rw [eq] at P
  rw [mf] at P eq
  refine ⟨some l[i]::kj ix ρ,s2,m2,C3.er.cons r3,S3,?_⟩
  cases ct:t (some l[i]::kj ix ρ) s2 with
  | bad=>rw [ct] at P;exact P.elim
  | ex c3 s3=>rw [ct] at P;exact P.elim
  | ok bt s3 =>
   rw [ct] at P eq
   intro b4 H4 m4 e4 S4 hb
   subst hb
   have C4:=C3.step hD e4 S4
   cases b4 with
   | false =>
    exact EC ⟨l.length - (i+1),by omega,done,m4,s3,C4,hlt,by omega,rfl,eq⟩
   | true =>
    refine EB ⟨some l[i]::kj ix ρ,s3,m4,C4.er.cons (r3.ext e4),S4,?_⟩
    dsimp only at P eq
    cases cf:f (some l[i]::kj ix ρ) s3 with
    | bad=>rw [cf] at P;exact P.elim
    | ex c5 s5=>rw [cf] at P;exact P.elim
    | ok v s5 =>
     rw [cf] at eq
     intro w H5 m5 e5 S5 r5
     have C5:=C4.step hD e5 S5
     refine ⟨C5.at_,a7 (aJ hy (aJ hi hlen)) (by decide),l.length - (i+1),by omega,done++[v],m5,s5,C5.push hD r5,hlt,by simp;omega,rfl,?_⟩
     rw [eq]
     dsimp only
     cases hh:kK t f (kj ix ρ) (l.drop (i+1)) s5 with
     | ok vs s6=>simp [Out.bind]
     | ex c6 s6=>exact absurd hh qT
     | bad=>rfl
 ·left
  have hle:l.length≤i:=dC hlt
  rw [dZ hle] at eq
  rw [eq] at P
  unfold kK at P
  obtain ⟨S2',x2'⟩:=C.cell hD fun z=>(S1.hs D z).1 hD
  have P:Post X.K CB (Rep X.K) E (.ok (.ref s2.nx) (s2.add (.lst (done++[])))) H1 m1 s1 Q:=P
  rw [bZ] at P
  refine ⟨it2 hle,C.at_,?_⟩
  have P:=P (.ref D) H2 ((m2.bare m1.hid).add s2.nx D [D]) x2' S2'
  have e0:((m2.bare m1.hid).add s2.nx D [D]).ad s2.nx=D:=if_pos rfl
  refine P ?_
  have r:=Rep.ref (K:=X.K) (H:=H2) (m:=(m2.bare m1.hid).add s2.nx D [D]) (s:=s2.add (.lst done)) (n:=s2.nx) (cF _)
  rw [e0] at r
  exact r
theorem xl {σ:St}{H:Hp}{Q:VK}{t:XT} (q:TDE X.K CB E (sx fi ix t f) σ H Q):AA (TDI X.K CB E fi) ix (TDT X.K CB E0 t) (TDE X.K CB E0 f) σ H Q:=by
 obtain ⟨ρ,s,m,er,S,P⟩:=q
 refine ⟨ρ,s,m,er,S,?_⟩
 unfold sx at P
 cases c:fi ρ s with
 | bad=>rw [c] at P;exact P
 | ex c' s'=>rw [c] at P;exact P
 | ok l s1 =>
  rw [c] at P
  dsimp only [Out.bind] at P
  split at P
  ·rename_i hlen
   intro J H1 m1 e1 S1 it D hD
   exact At S1 (er.ext e1) it hD hlen (Post.shift e1 P)
  ·exact P.elim
theorem xk {i:Nat}{y:Str}{py spos:Pos} (hN:X.N.Nodup) (hiy:X.N[i]?=some y) (hly:X.env.scope.names.lookup y=some .local) (hc:X.calm=true) (S:CompOk X.N X.env.scope scope x fr ix) (hi:DI X CB E (.Name x px) iter fi)
  (ht:∀ cl C s₃ H₃ fp,DIfs (blk X scope cl C (x::fr) s₃ H₃ fp) CB ifs t) (he:∀ cl C s₃ H₃ fp,DE (blk X scope cl C (x::fr) s₃ H₃ fp) CB E0 elt f)
  (hsw:eW (.ListComp elt [⟨.Name x px,iter,ifs,0⟩] scope pos) (some (.Name y py)) spos.line X.env=pure true:=by rfl)
  (hs:∀ v,bY iter X.env v=pure v:=by intro _;rfl):DS X CB E (.Assign [.Name y py] (.ListComp elt [⟨.Name x px,iter,ifs,0⟩] scope pos) spos) (xSet i (sx fi ix t f)) :=
 ⟨(sY hN hiy hly hc S hi.pi (fun cl C s₃ H₃ fp=>(ht cl C s₃ H₃ fp).pifs) (fun cl C s₃ H₃ fp=>(he cl C s₃ H₃ fp).pe) hsw hs).mono fun D σ H ⟨ρ,s,m,er,S,P⟩ =>
  xl ⟨ρ,s,m,er,S,Post.so P fun v s1 u H1 m1 e1 S1 r1 P1=>P1.next S1 ((er.ext e1).set i r1)⟩⟩
theorem BV:CallR X (.builtin "any") (fun xs H Q=>∃ (p:ae) (bs:List Bool),xs=[.ref p]∧SqL X.K H p (bs.map V.bl)∧X.calm=true∧Q (.bl (bs.any id)) H):=by
 intro pins s σ H xs us Q I r h
 obtain ⟨p,bs,rfl,hq,hc,q⟩:=h
 obtain ⟨u,rfl,ru⟩:=nr r
 cases ru
 obtain ⟨its,rv,pl,hz2⟩:=I.list hq
 have hl:its.length=bs.length:=by have:=rv.length;rw [af] at this;exact this.symm
 have hne:p≠s.heap.objs.size:=by obtain ⟨o,ho,_⟩:=pl.isList;exact aQ (aK ho)
 refine call_any_walk (fR pl.isList ?_)
 refine ⟨s.heap.objs.size,_,_,its.toArray.size,_,_,fun i=>(bs[i]?).getD false,rfl,Walks.list (show X.A.in1.handled=none from I.ok.hd hc) _ p hne its.toArray,⟨⟨_,bj _ rfl,rfl,rfl⟩,pl.isList.push _⟩,?_,fun h' tk hk=>?_⟩
 ·intro i v s' Q' E' hP hQ
  have hP:its.toArray[i]?=some v:=hP
  have hv:its[i]?=some v:=by simpa using hP
  have hi:i < its.length:=(a9.mp hv).1
  obtain ⟨u',hu',ru'⟩:=rv.get (i:=i) (x:=.bl bs[i]) (by simp [← hl,hi])
  rw [hv] at hu'
  cases hu'
  cases ru'
  refine cO ?_
  have e:(bs[i]?).getD false=bs[i]:=by simp [← hl,hi]
  rw [← e]
  exact hQ
 ·have I1:Inv X pins σ H { s with heap:=h',toks:=tk }:=I.kept fun b o e=>hk b o (fun z=>by
   have e1:b=s.heap.objs.size:=by simpa using z
   exact absurd (aK e) (by rw [e1];exact cC _)) (ay _ e)
  refine ⟨.bl _,H,I1,rfl,?_⟩
  have e:(eC its.toArray.size).any (fun i=>(bs[i]?).getD false)=bs.any id:=by
   rw [aM,hl,b5,cT,cT]
   constructor
   ·rintro ⟨i,hi,z⟩
    have hi:=dX.mp hi
    exact ⟨bs[i],cj hi,by simpa [hi] using z⟩
   ·rintro ⟨b,hb,z⟩
    obtain ⟨i,hi,rfl⟩:=jl.mp hb
    exact ⟨i,dX.mpr hi,by simpa [hi] using z⟩
  rw [e]
  exact q
def fAny (vs:List PV) (s:Sto):Out PV:=match vs with
 | [v]=>match lsOf s v with
  | some l=>match wU l with
   | some bs=>.ok (.bl (bs.any id)) s
   | none=>.bad
  | none=>.bad
 | _=>.bad
theorem b_any (hc:X.calm=true):BltR X CB E (.builtin "any") fAny:=⟨_,BV,by
 intro H m s v x Q S rx P
 unfold fAny at P
 split at P
 ·cases rx with
  | cons r n =>
   cases n
   split at P
   ·rename_i l hl
    split at P
    ·rename_i bs hb
     obtain ⟨a,vs,rfl,q,r⟩:=r.ls S hl
     have e:=qq r hb
     subst e
     exact ⟨a,bs,rfl,q,hc,P.here S .bl⟩
    ·exact P.elim
   ·exact P.elim
 ·exact P.elim⟩
def kn (i:Int):Str:=ac (toString i)
theorem Av:CallR X (.type "str") (fun xs H Q=>(∃ i,xs=[.int i]∧i.natAbs.log2 < 1920∧Q (.str (kn i)) H)∨∃ x,xs=[.str x]∧Q (.str x) H):=by
 intro pins s σ H xs us Q I r h
 rcases h with ⟨i,rfl,hz,q⟩ | ⟨x,rfl,q⟩
 ·obtain ⟨u,rfl,t,rfl⟩:=nr r
  exact PySem.P.str_of_int hz ⟨.str _,H,I.tok _,⟨_,rfl⟩,q⟩
 ·obtain ⟨u,rfl,t,rfl⟩:=nr r
  exact PySem.P.str_of_str ⟨.str _,H,I,⟨_,rfl⟩,q⟩
def PJx (X:Cx) (es:List a8) (t:St→Hp→Str→(Str→Hp→Prop)→Prop):Prop:=∀ (pins:List (ae×Obj)) (s:ao) (σ:St) (H:Hp) (acc:Str) (Q:Str→Hp→Prop),Inv X pins σ H s→t σ H acc Q →
 Joins (model X.prog X.w) X.A X.xe (i6 es X.env) acc (fun out s1=>out.length≤aI∧∃ H',Inv X pins σ H' s1∧Q out H') s
theorem C9:PJx X [] (fun _ H acc Q=>acc.length≤aI∧Q acc H):=fun pins s σ H acc Q I h=>⟨h.1,H,I,h.2⟩
theorem C8 {c:Str}{j pos}{es:List a8}{t:St→Hp→Str→(Str→Hp→Prop)→Prop} (hr:PJx X es t):PJx X (.Constant (.str c) j pos::es) (fun σ H acc Q=>(acc++c).length≤aI∧t σ H (acc++c) Q):=fun pins s σ H acc Q I h =>
 gB ⟨c,s.toks,rfl,h.1,hr pins _ σ H (acc++c) Q (I.tok _) h.2⟩
theorem zp {e:a8}{pos:Pos}{es:List a8}{te:TE}{t:St→Hp→Str→(Str→Hp→Prop)→Prop} (he:PE X e te) (hr:PJx X es t):PJx X (.FormattedValue e (-1) none pos::es) (fun σ H acc Q=>te σ H fun v H1=>∃ i,v=.int i∧i.natAbs.log2 < 1920∧(acc++kn i).length≤aI∧t σ H1 (acc++kn i) Q):=by
 intro pins s σ H acc Q I h
 refine wpAny_FormattedValue_plain (thn (he pins s σ H _ I h) fun v s1 ⟨y,H1,I1,r1,i,e1,hz,hl,q1⟩=>?_)
 subst e1
 obtain ⟨tk,rfl⟩:=r1
 exact wpAny_formatField_int hz ⟨kn i,_,rfl,hl,hr pins _ σ H1 _ Q ((I1.tok _).tok _) q1⟩
theorem Fe {v₁ v₂:a8}{mH:List a8}{pos:Pos}{t:St→Hp→Str→(Str→Hp→Prop)→Prop} (h:PJx X (v₁::v₂::mH) t):PE X (.JoinedStr (v₁::v₂::mH) pos) (fun σ H Q=>t σ H cU fun x H1=>Q (.str x) H1):=by
 intro pins s σ H Q I hq
 refine wpAny_JoinedStr ?_
 have:=h pins s σ H cU (fun x H1=>Q (.str x) H1) I hq
 revert this
 generalize i6 (v₁::v₂::mH) X.env=parts
 generalize cU=acc
 intro this
 clear h hq I
 induction parts generalizing acc s with
 | nil =>
  obtain ⟨z,H',I',q⟩:=this
  exact ⟨z,.str acc,H',I'.tok _,⟨_,rfl⟩,q⟩
 | cons p ps ih =>
  refine bw this (fun v s1 ⟨y,t,e,z,k⟩=>⟨y,t,e,z,ih _ _ k⟩) fun _ _ z=>z
end
section
variable {X:Cx}{CB:ae}{E:XK}{a b e:a8}{f g:XE}{pos p1 p2 p3:Pos}
def oa (vs:List PV) (s:Sto):Out PV:=match vs with
 | [.int i]=>if i.natAbs.log2 < 1920 then .ok (.str (kn i)) s else .bad
 | [.str x]=>.ok (.str x) s
 | _=>.bad
theorem b_str:BltR X CB E (.type "str") oa:=⟨_,Av,by
 intro H m s v x Q S rx P
 unfold oa at P
 split at P
 ·split at P
  ·rename_i hz
   cases rx with
   | cons r n=>cases n;cases r;exact .inl ⟨_,rfl,hz,P.here S .str⟩
  ·exact P.elim
 ·cases rx with
  | cons r n=>cases n;cases r;exact .inr ⟨_,rfl,P.here S .str⟩
 ·exact P.elim⟩
def Ee (f:XE) (c:Str) (g:XE) (ρ:En) (s:Sto):Out PV:=(f ρ s).bind fun v s1=>match v with
 | .int i=>if i.natAbs.log2 < 1920∧c.length≤100 then (g ρ s1).bind fun w s2=>match w with
  | .int j=>if j.natAbs.log2 < 1920 then .ok (.str (kn i++c++kn j)) s2 else .bad
  | _=>.bad
  else .bad
 | _=>.bad
theorem rL (x:Str):cU++x=x:=by
 obtain ⟨c⟩:=x
 show (⟨#[]++c⟩:Str)=⟨c⟩
 rw [Array.empty_append]
theorem nc {i:Int} (h:i.natAbs.log2 < 1920):(kn i).length≤1921:=by
 have e:=int_text_length_le (k:=1920) (by decide) h
 unfold kn
 rw [PySem.ofString_length]
 exact e
theorem FO {c:Str}{j} (ha:DE X CB E a f) (hb:DE X CB E b g):DE X CB E (.JoinedStr [.FormattedValue a (-1) none p1,.Constant (.str c) j p2,.FormattedValue b (-1) none p3] pos) (Ee f c g) :=
 ⟨(Fe (zp ha.pe (C8 (zp hb.pe C9)))).mono fun σ H Q ⟨ρ,s,m,er,S,P⟩=>⟨ρ,s,m,er,S,by
  refine P.bind fun v s1 u H1 m1 e1 S1 r1 P1=>?_
  split at P1
  ·rename_i i
   split at P1
   ·rename_i hc
    cases r1
    have n1:=nc hc.1
    have sz:(10000:Nat)≤aI:=by decide
    refine ⟨i,rfl,hc.1,by rw [rL];omega,by rw [rL,kC];have:=hc.2;omega,ρ,s1,m1,er.ext e1,S1,P1.bind fun w s2 u2 H2 m2 e2 S2 r2 P2=>?_⟩
    split at P2
    ·rename_i j
     split at P2
     ·rename_i hj
      cases r2
      have n2:=nc hj
      have nn:(kn i++c++kn j).length≤aI:=by rw [kC,kC];have:=hc.2;omega
      rw [rL]
      exact ⟨j,rfl,hj,nn,nn,P2.here S2 .str⟩
     ·exact P2.elim
    ·exact P2.elim
   ·exact P1.elim
  ·exact P1.elim⟩⟩
def uU (v w:PV) (s:Sto):Out PV:=match v,w with
 | .tup (x::l),.tup (y::k)=>if l.length+k.length≤1000 then .ok (.tup ((x::l)++(y::k))) s else .bad
 | _,_=>.bad
theorem Fs:Op2 X.K CB E (Em X.K) uU:=by
 intro H m s v w x y Q S rx ry P
 unfold uU at P
 split at P
 ·split at P
  ·rename_i x0 l y0 k hz
   obtain ⟨a1,xs,rfl,q1,r1⟩:=rx.tp
   obtain ⟨a2,ys,rfl,q2,r2⟩:=ry.tp
   have l1:=r1.length
   have l2:=r2.length
   rw [aC] at l1 l2
   have sz:(1002:Nat)≤aI:=by decide
   refine ⟨a1,a2,xs,ys,rfl,rfl,q1,q2,fun z=>?_,by omega,fun z=>?_,fun z p hp=>?_⟩
   ·rw [z] at l1;cases l1
   ·rw [z] at l2;cases l2
   ·exact P.new S hp fun ex S'=>.tup (.inl ⟨.inl jK,S'.pure_tup jK⟩) ((r1.append r2).ext ex)
  ·exact P.elim
 ·exact P.elim
theorem D5 (ha:DE X CB E a f) (hb:DE X CB E b g):DE X CB E (.BinOp a .Add b pos) (x2 f g uU):=uX Df Fs ha hb
def rDC:List V→Hp→VK→Prop:=fun xs H Q=>∃ a kvs,xs=[.ref a]∧Rd H a (.dK kvs)∧∀ p,H p=none→Q (.ref p) (upd H p (.dK kvs))
theorem rj:CallR X (.type "dict") rDC:=by
 intro pins s σ H xs us Q I r h
 obtain ⟨a,kvs,rfl,ha,q⟩:=h
 obtain ⟨u,rfl,rx⟩:=nr r
 cases rx
 exact BQ I ha fun p s' hp I'=>⟨.ref p,_,I',rfl,q p hp⟩
theorem rl:bS "dict"=some (.type "dict"):=by decide +kernel
end
end L2
namespace My
open PySem L2
def top (i:Nat):bT:=PySem.Challenge.pw_wholeowners_k71_shown.main.body.getD i (.Pass ⟨0,0,0,0⟩)
structure Adr where
 OwnError:ae
 NoName:ae
 Twice:ae
 TooMany:ae
 NoHolder:ae
 NoHouse:ae
 NoLoss:ae
 NoShare:ae
 NoText:ae
 Whole:ae
 Book:ae
 ZERO:ae
 ONE:ae
 HALF:ae
 t8:Tok
 t6:Tok
 u8:Tok
 kx:ae→ae→Bool
def Tup2 (K:aa) (a:ae) (i j:Int):Prop:=∃ (o:Obj) (its:Array ah) (n:Nat),K.lookup a=some o∧o.cls=.type "tuple"∧o.data=.seq its n∧its.size≤aI∧Vals [.int i,.int j] its.toList
structure Txt (K:aa) (mg:Str→Option ah) (a:Adr):Prop where
 b_len:mg "len"=none
 b_range:mg "range"=none
 b_all:mg "all"=none
 b_int:mg "int"=none
 b_abs:mg "abs"=none
 b_sorted:mg "sorted"=none
 b_tuple:mg "tuple"=none
 b_list:mg "list"=none
 b_str:mg "str"=none
 b_bool:mg "bool"=none
 b_isinstance:mg "isinstance"=none
 b_ValueError:mg "ValueError"=none
 b_any:mg "any"=none
 b_set:mg "set"=none
 b_max:mg "max"=none
 c_OwnError:mg "OwnError"=some (.ref a.OwnError)
 c_NoName:mg "NoName"=some (.ref a.NoName)
 c_Twice:mg "Twice"=some (.ref a.Twice)
 c_TooMany:mg "TooMany"=some (.ref a.TooMany)
 c_NoHolder:mg "NoHolder"=some (.ref a.NoHolder)
 c_NoHouse:mg "NoHouse"=some (.ref a.NoHouse)
 c_NoLoss:mg "NoLoss"=some (.ref a.NoLoss)
 c_NoShare:mg "NoShare"=some (.ref a.NoShare)
 x_OwnError:Exc K a.OwnError
 x_NoName:Exc K a.NoName
 x_Twice:Exc K a.Twice
 x_TooMany:Exc K a.TooMany
 x_NoHolder:Exc K a.NoHolder
 x_NoHouse:Exc K a.NoHouse
 x_NoLoss:Exc K a.NoLoss
 x_NoShare:Exc K a.NoShare
 g_LONGEST_NAME:mg "LONGEST_NAME"=some (.int 8 a.t8)
 g_MOST_PERSONS:mg "MOST_PERSONS"=some (.int 6 a.t6)
 g_MOST_HOUSES:mg "MOST_HOUSES"=some (.int 8 a.u8)
 g_ZERO:mg "ZERO"=some (.ref a.ZERO)
 g_ONE:mg "ONE"=some (.ref a.ONE)
 zero:Tup2 K a.ZERO 0 1
 one:Tup2 K a.ONE 1 1
 cl:Cls K a.Book
 nA_people:NoAttr K a.Book "people"
 nA_things_of:NoAttr K a.Book "things_of"
 nA_mark_of:NoAttr K a.Book "mark_of"
 nA_loss_of:NoAttr K a.Book "loss_of"
 nA_held_of:NoAttr K a.Book "held_of"
theorem Txt.r_LONGEST_NAME {K:aa}{mg:Str→Option ah}{a:Adr} (T:Txt K mg a):RelV (.int 8) (.int 8 a.t8):=⟨_,rfl⟩
theorem Txt.r_MOST_PERSONS {K:aa}{mg:Str→Option ah}{a:Adr} (T:Txt K mg a):RelV (.int 6) (.int 6 a.t6):=⟨_,rfl⟩
theorem Txt.r_MOST_HOUSES {K:aa}{mg:Str→Option ah}{a:Adr} (T:Txt K mg a):RelV (.int 8) (.int 8 a.u8):=⟨_,rfl⟩
theorem Txt.r_ZERO {K:aa}{mg:Str→Option ah}{a:Adr} (T:Txt K mg a):RelV (.ref a.ZERO) (.ref a.ZERO):=rfl
theorem Txt.r_ONE {K:aa}{mg:Str→Option ah}{a:Adr} (T:Txt K mg a):RelV (.ref a.ONE) (.ref a.ONE):=rfl
theorem zA {A:bL}{k:Nat} (hr:Room k A):A.units+12 < dS:=a7 (jD (by decide:12≤64) _) hr.units
theorem yesT {te:TE}{cap:St}{H:Hp}{Kt:VK}{Kf:Hp→Prop} (h:te cap H Kt):tYes cap H fun b H4=>if b=true then te cap H4 Kt else Kf H4:=by
 show if true=true then te cap H Kt else Kf H
 rw [if_pos rfl]
 exact h
theorem vj (c:Nat):(!decide ((⟨#[c]⟩:Str).cps.toList < (ac "a").cps.toList))=decide (97≤c):=by
 show (!decide ([c] < [97]))=decide (97≤c)
 rw [b5]
 simp [jj]
theorem zW (c:Nat):(!decide ((ac "z").cps.toList < (⟨#[c]⟩:Str).cps.toList))=decide (c≤122):=by
 show (!decide ([122] < [c]))=decide (c≤122)
 rw [b5]
 simp [jj]
theorem uh {x:Str}{i c:Nat}{g:Nat→V} (hc:x.cps[i]?=some c):(x.cps.toList.take i).map g++[g c]=(x.cps.toList.take (i+1)).map g:=by
 have hc:x.cps.toList[i]?=some c:=by simpa using hc
 rw [bX,hc,aD]
 rfl
section
variable {P:aT}{w:bv}{K:aa}{mg:Str→Option ah}{base:bM}{a:Adr}{f:ae}{fd:bR}
abbrev pQ:bT:=top 20
theorem yq:FnScope ["text"] ["text"] (jO pQ):=fsc
def low (c:Nat):Bool:=decide (97≤c) && decide (c≤122)
def qz (x:Str):Bool:=decide (1≤x.length) && decide (x.length≤8) && x.cps.toList.all low
def sU:Sp:=fun vs H Q _=>∃ x,vs=[.str x]∧Nm x∧∀ H',Same H H'→Q (.bl (qz x)) H'
theorem yB (F:Fun K "is_name" "is_name" pQ f fd) (T:Txt K mg a):FnOk P w K mg base (CXo P w) 1 f fd ["text"] sU:=by
 refine F.okN yq (fun vs H Q E h=>?_) (fun cdv A outer s H vs Q E hr h=>?_)
 ·obtain ⟨x,rfl,_⟩:=h
  rfl
 ·obtain ⟨x,rfl,nm,k⟩:=h
  have hu:=jV hr
  refine ⟨_,(@jY _ _ _ (@mG _ _ _ _ (@Ff _ _ _ _ _ _ _ (xH Ev Ev pe_int (@lR _ _ _ _ _ _ _ _ _ call_len_str rfl T.b_len oT (@jR _ _ _ _ _ (pv 0) pa_nil (by rfl)) (by decide) (by decide) (by rfl) (by rfl)) (nR rfl T.g_LONGEST_NAME T.r_LONGEST_NAME)) (@Co _ _ _ _ _ (@lR _ _ _ _ _ _ _ _ _ ye rfl T.b_all FR (@jR _ _ _ _ _ (tf (fr:=[]) (ix:=[]) rfl (by exact (show CompOk ["text"] (jO pQ) _ _ _ _ from cok)) (E9 (pv 0)) (fun _ _ _ _ _=>tY) (fun _ _ _ _ _=>(xH vn vn pe_str (pv 0) pe_str))) pa_nil (by rfl)) (by decide) (by decide) (by rfl) (by rfl)))))),?_⟩
  have hlen:x.length≤aI:=aJ nm.1 (by decide)
  refine ⟨_,rfl,_,rfl,hlen,_,_,rfl,rfl,_,rfl,qm (fun h=>?_) (fun h=>?_)⟩
  ·have h1:(1:Int)≤(x.length:Int):=of_decide_eq_true h
   refine ⟨_,_,rfl,rfl,_,rfl,qm (fun h=>?_) (fun h=>?_)⟩
   ·have h2:(x.length:Int)≤8:=of_decide_eq_true h
    refine ⟨_,rfl,x,rfl,fun D hD=>?_⟩
    refine zK (J:=Its x) x.cps.size (fun i ys H'=>H'=upd H D (.lst ys)∧ys=(x.cps.toList.take i).map fun c=>V.bl (low c)) ⟨rfl,rfl⟩ hlen (fun i ys H' r=>by rw [r.1];exact jK) (fun i ys H' hi _=>hi) ?_ ?_
    ·rintro i ys H' v H'' hi ⟨rfl,rfl⟩ ⟨rfl,c,hc,rfl⟩ Kt Kf k1 k2
     have fin:∀ b,b=low c→Kt (V.bl b) (upd H D (.lst ((x.cps.toList.take i).map fun c=>V.bl (low c)))):=fun b hb=>by
      refine k1 _ _ jK ⟨by rw [CT],?_⟩
      rw [hb,uh hc]
     refine yesT ⟨_,rfl,_,_,rfl,rfl,_,rfl,qm (fun h=>?_) (fun h=>?_)⟩
     ·refine ⟨_,_,rfl,rfl,fin _ ?_⟩
      rw [vj] at h
      rw [zW]
      unfold low
      rw [h,fF]
     ·refine fin _ ?_
      rw [vj] at h
      unfold low
      rw [dg.mpr h,dy]
    ·rintro ys H' hl ⟨rfl,rfl⟩
     have e:List.take x.cps.size x.cps.toList=x.cps.toList:=List.take_of_length_le (by simp)
     rw [e]
     refine ⟨az _,D,x.cps.toList.map low,rfl,SqL.of (by rw [jK,aF];rfl),rfl,?_⟩
     have e2:(x.cps.toList.map low).all id=qz x:=by
      have h1:1≤x.length:=by omega
      have h2:x.length≤8:=by omega
      unfold qz
      rw [decide_eq_true h1,decide_eq_true h2,List.all_map,fF,fF]
      rfl
     rw [e2]
     exact k _ (mC hD)
   ·have h2:¬ x.length≤8:=fun z=>h (decide_eq_true (by omega))
    have e2:false=qz x:=by unfold qz;rw [decide_eq_false h2,Bool.and_false,dy]
    show Q (.bl false) H
    rw [e2]
    exact k _ fun _ _ z=>z
  ·have h2:¬ 1≤x.length:=fun z=>h (decide_eq_true (by omega))
   have e2:false=qz x:=by unfold qz;rw [decide_eq_false h2,dy,dy]
   refine ⟨_,rfl,EC ?_⟩
   show Q (.bl false) H
   rw [e2]
   exact k _ fun _ _ z=>z
abbrev oX:bT:=top 21
theorem vV:FnScope ["number"] ["number"] (jO oX):=fsc
def om (a:Adr):Sp:=fun vs H Q E=>∃ n,vs=[.int n]∧(n < 0→E (.ref a.NoLoss) none H)∧(0≤n→Q .non H)
theorem wc (F:Fun K "need_loss" "need_loss" oX f fd) (T:Txt K mg a):FnOk P w K mg base (CXo P w) 1 f fd ["number"] (om a):=by
 refine F.okX vV (fun vs H Q E h=>?_) (fun cdv A outer s H vs Q E hr h=>?_)
 ·obtain ⟨x,rfl,_⟩:=h
  rfl
 ·obtain ⟨n,rfl,k1,k2⟩:=h
  have hu:=jV hr
  refine ⟨_,(@jY _ _ _ (@qL _ _ _ _ _ _ _ _ (@pX _ _ _ _ _ _ _ _ Eu (pv 0) pe_int (k9 _)) (@jY _ _ _ (mE T.x_NoLoss rfl T.c_NoLoss rfl pe_str tu)) pss_nil)),?_⟩
  refine ⟨_,rfl,_,_,rfl,rfl,_,rfl,qm (fun h=>?_) (fun h=>?_)⟩
  ·exact k1 (of_decide_eq_true h)
  ·exact k2 (Int.not_lt.mp fun z=>h (decide_eq_true z))
abbrev pk:bT:=kD (top 22) 0
theorem vZ:FnScope ["self"] ["self"] (jO pk):=fsc
theorem A8 (dp dt dm dl dh dx:ae):mD "held_of" (.ref dh) (mD "loss_of" (.ref dl) (mD "mark_of" (.ref dm) (mD "things_of" (.ref dt) (mD "people" (.ref dp) []))))=bf ⟨dx,dp,dt,dm,dl,dh⟩:=by
 simp only [mD,if_neg (show ¬ ((ac "people")=ac "things_of") by decide +kernel),if_neg (show ¬ ((ac "people")=ac "mark_of") by decide +kernel),if_neg (show ¬ ((ac "people")=ac "loss_of") by decide +kernel),if_neg (show ¬ ((ac "people")=ac "held_of") by decide +kernel),if_neg (show ¬ ((ac "things_of")=ac "mark_of") by decide +kernel),if_neg (show ¬ ((ac "things_of")=ac "loss_of") by decide +kernel),if_neg (show ¬ ((ac "things_of")=ac "held_of") by decide +kernel),if_neg (show ¬ ((ac "mark_of")=ac "loss_of") by decide +kernel),if_neg (show ¬ ((ac "mark_of")=ac "held_of") by decide +kernel),if_neg (show ¬ ((ac "loss_of")=ac "held_of") by decide +kernel)]
 rfl
structure IniAt (C:ae) (H0 H:Hp) (p dx:ae) (fs:List (Str×V)) (ds:List ae):Prop where
 ob:H p=some (.ins C dx fs)
 dd:∀ c∈ds,H c=some (.dK [])
 fr:∀ c∈ds,H0 c=none
 nd:(p::ds).Nodup
 kp:∀ c o,H0 c=some o→c≠p→H c=some o
 len:fs.length≤ds.length
theorem IniAt.at_ {C:ae}{H0 H:Hp}{p dx d:ae}{fs:List (Str×V)}{ds:List ae} (I:IniAt C H0 H p dx fs ds) (h:H d=none):(upd H d (.dK [])) p=some (.ins C dx fs):=by
 rw [jJ (jM I.ob h)]
 exact I.ob
theorem IniAt.step {C:ae}{H0 H:Hp}{p dx d:ae}{fs:List (Str×V)}{ds:List ae}{f:Str} (I:IniAt C H0 H p dx fs ds) (h:H d=none) :
  IniAt C H0 (upd (upd H d (.dK [])) p (.ins C dx (mD f (.ref d) fs))) p dx (mD f (.ref d) fs) (ds++[d]):=by
 have n1:p≠d:=jM I.ob h
 obtain ⟨m1,m2⟩:=aw.mp I.nd
 have m3:d∉ds:=fun z=>by rw [I.dd d z] at h;cases h
 refine ⟨jK,fun c hc=>?_,fun c hc=>?_,?_,fun c o e hc=>?_,?_⟩
 ·rcases aX.mp hc with hc | hc
  ·have c1:c≠p:=fun z=>m1 (by rw [← z];exact hc)
   have c2:c≠d:=fun z=>m3 (by rw [← z];exact hc)
   rw [jJ c1,jJ c2]
   exact I.dd c hc
  ·rw [aE.mp hc,jJ n1.symm,jK]
 ·rcases aX.mp hc with hc | hc
  ·exact I.fr c hc
  ·rw [aE.mp hc]
   cases q:H0 d with
   | none=>rfl
   | some o=>rw [I.kp d o q n1.symm] at h;cases h
 ·refine aw.mpr ⟨fun z=>?_,p4 m2 m3⟩
  rcases aX.mp z with z | z
  ·exact m1 z
  ·exact n1 (aE.mp z)
 ·rw [jJ hc,jJ (fun z=>by rw [z] at e;rw [I.kp d o e (z ▸ hc)] at h;cases h)]
  exact I.kp c o e hc
 ·rw [aO]
  exact aJ (pB _ _ _) (Nat.add_le_add_right I.len 1)
def wp (K:aa) (C:ae):Sp:=fun vs H Q _=>∃ (p dx:ae),vs=[.ref p]∧H p=some (.ins C dx [])∧∀ z H',(∀ c∈[z.dp,z.dt,z.dm,z.dl,z.dh],H c=none)→BookAt K C H' p z [] []→(∀ c o,H c=some o→c≠p→H' c=some o)→Q .non H'
theorem zw (F:Fun K "__init__" "Book.__init__" pk f fd) (T:Txt K mg a):FnOk P w K mg base (CXo P w) 1 f fd ["self"] (wp K a.Book):=by
 refine F.okN vZ (fun vs H Q E h=>?_) (fun cdv A outer s H vs Q E hr h=>?_)
 ·obtain ⟨p,dx,rfl,_⟩:=h
  rfl
 ·obtain ⟨p,dx,rfl,hp,k⟩:=h
  have hu:=jV hr
  refine ⟨_,(@jS _ _ _ _ _ (oP (pv 0) pe_dnewK rfl) (@jS _ _ _ _ _ (oP (pv 0) pe_dnewK rfl) (@jS _ _ _ _ _ (oP (pv 0) pe_dnewK rfl) (@jS _ _ _ _ _ (oP (pv 0) pe_dnewK rfl) (@jY _ _ _ (oP (pv 0) pe_dnewK rfl)))))),?_⟩
  have I0:IniAt a.Book H H p dx [] []:=⟨hp,by simp,by simp,by simp,fun c o e _=>e,az _⟩
  intro dp h1
  refine ⟨_,rfl,p,_,dx,_,rfl,I0.at_ h1,T.cl,T.nA_people,a7 I0.len (show 0 < 1000 by decide),?_⟩
  have I1:=I0.step (f:="people") h1
  intro dt h2
  refine ⟨_,rfl,p,_,dx,_,rfl,I1.at_ h2,T.cl,T.nA_things_of,a7 I1.len (show 1 < 1000 by decide),?_⟩
  have I2:=I1.step (f:="things_of") h2
  intro dm h3
  refine ⟨_,rfl,p,_,dx,_,rfl,I2.at_ h3,T.cl,T.nA_mark_of,a7 I2.len (show 2 < 1000 by decide),?_⟩
  have I3:=I2.step (f:="mark_of") h3
  intro dl h4
  refine ⟨_,rfl,p,_,dx,_,rfl,I3.at_ h4,T.cl,T.nA_loss_of,a7 I3.len (show 3 < 1000 by decide),?_⟩
  have I4:=I3.step (f:="loss_of") h4
  intro dh h5
  refine ⟨_,rfl,p,_,dx,_,rfl,I4.at_ h5,T.cl,T.nA_held_of,a7 I4.len (show 4 < 1000 by decide),?_⟩
  have I5:=I4.step (f:="held_of") h5
  refine k ⟨dx,dp,dt,dm,dl,dh⟩ _ (fun c hc=>I5.fr c (by simpa using hc)) ⟨?_,I5.dd dp (by simp),I5.dd dt (by simp),I5.dd dm (by simp),I5.dd dl (by simp),⟨[],I5.dd dh (by simp),.nil,gj⟩,fun e he=>(by cases he),I5.nd,bc _,bc _⟩ I5.kp
  rw [← A8]
  exact I5.ob
abbrev mx:bT:=kD (top 22) 1
theorem ra:FnScope ["self","name"] ["self","name"] (jO mx):=fsc
def nu (K:aa) (C:ae):Sp:=fun vs H Q _=>∃ b z ppl L x,vs=[.ref b,.str x]∧BookAt K C H b z ppl L∧Q (.bl (lr L x)) H
theorem w8 (F:Fun K "is_house" "Book.is_house" mx f fd) (T:Txt K mg a):FnOk P w K mg base (CXo P w) 1 f fd ["self","name"] (nu K a.Book):=by
 refine F.okN ra (fun vs H Q E h=>?_) (fun cdv A outer s H vs Q E hr h=>?_)
 ·obtain ⟨b,z,ppl,L,x,rfl,_⟩:=h
  rfl
 ·obtain ⟨b,z,ppl,L,x,rfl,B,k⟩:=h
  have hu:=jV hr
  refine ⟨_,(@jY _ _ _ (@mG _ _ _ _ (Cs (Ct hu (pv 1) (kq (pv 0) rfl))))),?_⟩
  refine ⟨_,rfl,_,rfl,b,_,_,_,_,rfl,B.ob,T.cl,T.nA_held_of,nV z,_,_,rfl,B.hh.dget x,?_⟩
  rw [mz,cJ]
  exact k
abbrev lY:bT:=kD (top 22) 2
theorem qr:FnScope ["self","name"] ["self","name"] (jO lY):=fsc
def oo (K:aa) (C:ae):Sp:=fun vs H Q _=>∃ b z ppl L x,vs=[.ref b,.str x]∧BookAt K C H b z ppl L∧Q (.bl (lz ppl x || lr L x)) H
theorem we (F:Fun K "is_holder" "Book.is_holder" lY f fd) (T:Txt K mg a) (M_is_house:Mt P w K mg base a.Book "is_house" 1 ["self","name"] (nu K a.Book)):FnOk P w K mg base (CXo P w) 2 f fd ["self","name"] (oo K a.Book):=by
 refine F.okN qr (fun vs H Q E h=>?_) (fun cdv A outer s H vs Q E hr h=>?_)
 ·obtain ⟨b,z,ppl,L,x,rfl,_⟩:=h
  rfl
 ·obtain ⟨b,z,ppl,L,x,rfl,B,k⟩:=h
  have hu:=jV hr
  refine ⟨_,(@jY _ _ _ (@mG _ _ _ _ (@pe_or _ _ _ _ _ _ _ (Cs (Ct hu (pv 1) (kq (pv 0) rfl))) (@Co _ _ _ _ _ (ny (pv 0) M_is_house (hr.mono (by first | decide | omega)) j8 (@jR _ _ _ _ _ (pv 1) pa_nil (by rfl))))))),?_⟩
  refine ⟨_,rfl,_,rfl,b,_,_,_,_,rfl,B.ob,T.cl,T.nA_people,og z,_,_,rfl,DGet.k (k:=am x) B.pp,_,rfl,qm (fun h=>?_) (fun h=>?_)⟩
  ·rw [mz (key:=fun n=>n),cJ] at h
   unfold lz at k
   rw [h] at k
   exact k
  ·rw [mz (key:=fun n=>n),cJ] at h
   unfold lz at k
   rw [dg.mpr h] at k
   exact ⟨_,rfl,b,_,_,rfl,B.ob,mM z (by decide +kernel) (by decide +kernel) (by decide +kernel) (by decide +kernel) (by decide +kernel),_,rfl,b,z,ppl,L,x,rfl,B,k⟩
abbrev lB:bT:=kD (top 22) 3
theorem qh:FnScope ["self","name"] ["self","name"] (jO lB):=fsc
def km (K:aa) (a:Adr):Sp:=fun vs H Q E=>∃ b z ppl L x,vs=[.ref b,.str x]∧BookAt K a.Book H b z ppl L∧Nm x∧(lr L x=true→Q .non H)∧(lr L x=false→E (.ref a.NoHouse) none H)
theorem uu (F:Fun K "need_house" "Book.need_house" lB f fd) (T:Txt K mg a) (M_is_house:Mt P w K mg base a.Book "is_house" 1 ["self","name"] (nu K a.Book)):FnOk P w K mg base (CXo P w) 2 f fd ["self","name"] (km K a):=by
 refine F.okX qh (fun vs H Q E h=>?_) (fun cdv A outer s H vs Q E hr h=>?_)
 ·obtain ⟨b,z,ppl,L,x,rfl,_⟩:=h
  rfl
 ·obtain ⟨b,z,ppl,L,x,rfl,B,nm,k1,k2⟩:=h
  have hu:=jV hr
  refine ⟨_,(@jY _ _ _ (@qL _ _ _ _ _ _ _ _ (um (qE (ny (pv 0) M_is_house (hr.mono (by first | decide | omega)) ka (@jR _ _ _ _ _ (pv 1) pa_nil (by rfl))))) (@jY _ _ _ (mE T.x_NoHouse rfl T.c_NoHouse rfl (yx (uq (sC (pv 1) ur))) tu)) pss_nil)),?_⟩
  refine ⟨_,rfl,b,_,_,rfl,B.ob,mM z (by decide +kernel) (by decide +kernel) (by decide +kernel) (by decide +kernel) (by decide +kernel),_,rfl,b,z,ppl,L,x,rfl,B,_,rfl,qm (fun h=>?_) (fun h=>?_)⟩
  ·exact ⟨_,rfl,⟨x,rfl,nm⟩,fun y=>k2 (nbT h)⟩
  ·exact k1 (nbF h)
abbrev lj:bT:=kD (top 22) 4
theorem pG:FnScope ["self","name"] ["self","name"] (jO lj):=fsc
def lC (K:aa) (a:Adr):Sp:=fun vs H Q E=>∃ b z ppl L x,vs=[.ref b,.str x]∧BookAt K a.Book H b z ppl L∧Nm x∧((lz ppl x || lr L x)=true→Q .non H)∧((lz ppl x || lr L x)=false→E (.ref a.NoHolder) none H)
theorem sP (F:Fun K "need_holder" "Book.need_holder" lj f fd) (T:Txt K mg a) (M_is_holder:Mt P w K mg base a.Book "is_holder" 2 ["self","name"] (oo K a.Book)):FnOk P w K mg base (CXo P w) 3 f fd ["self","name"] (lC K a):=by
 refine F.okX pG (fun vs H Q E h=>?_) (fun cdv A outer s H vs Q E hr h=>?_)
 ·obtain ⟨b,z,ppl,L,x,rfl,_⟩:=h
  rfl
 ·obtain ⟨b,z,ppl,L,x,rfl,B,nm,k1,k2⟩:=h
  have hu:=jV hr
  refine ⟨_,(@jY _ _ _ (@qL _ _ _ _ _ _ _ _ (um (qE (ny (pv 0) M_is_holder (hr.mono (by first | decide | omega)) ka (@jR _ _ _ _ _ (pv 1) pa_nil (by rfl))))) (@jY _ _ _ (mE T.x_NoHolder rfl T.c_NoHolder rfl (yx (uq (sC (pv 1) ur))) tu)) pss_nil)),?_⟩
  refine ⟨_,rfl,b,_,_,rfl,B.ob,mM z (by decide +kernel) (by decide +kernel) (by decide +kernel) (by decide +kernel) (by decide +kernel),_,rfl,b,z,ppl,L,x,rfl,B,_,rfl,qm (fun h=>?_) (fun h=>?_)⟩
  ·exact ⟨_,rfl,⟨x,rfl,nm⟩,fun y=>k2 (nbT h)⟩
  ·exact k1 (nbF h)
abbrev kX:bT:=kD (top 22) 5
theorem oH:FnScope ["self","name"] ["self","name"] (jO kX):=fsc
def nM (a:Adr) (ppl:List Str) (L:List (Ent×ae)) (x:Str):Option ae:=if qz x=false then some a.NoName else if (lz ppl x || lr L x)=true then some a.Twice else none
def oW (K:aa) (a:Adr):Sp:=fun vs H Q E=>∃ b z ppl L x,vs=[.ref b,.str x]∧BookAt K a.Book H b z ppl L∧Nm x∧(nM a ppl L x=none→∀ H',Same H H'→Q .non H')∧(∀ c,nM a ppl L x=some c→∀ H',Same H H'→E (.ref c) none H')
theorem w6 (F:Fun K "need_new_name" "Book.need_new_name" kX f fd) (T:Txt K mg a) (F_is_name:Fn P w K mg base "is_name" 1 ["text"] sU) (M_is_holder:Mt P w K mg base a.Book "is_holder" 2 ["self","name"] (oo K a.Book)):FnOk P w K mg base (CXo P w) 3 f fd ["self","name"] (oW K a):=by
 refine F.okX oH (fun vs H Q E h=>?_) (fun cdv A outer s H vs Q E hr h=>?_)
 ·obtain ⟨b,z,ppl,L,x,rfl,_⟩:=h
  rfl
 ·obtain ⟨b,z,ppl,L,x,rfl,B,nm,k1,k2⟩:=h
  have hu:=jV hr
  refine ⟨_,(@jS _ _ _ _ _ (@qL _ _ _ _ _ _ _ _ (um (qE (@ql _ _ _ _ _ _ _ _ _ _ _ F_is_name (hr.mono (by first | decide | omega)) rfl ka (@jR _ _ _ _ _ (pv 1) pa_nil (by rfl)) (by decide) (by rfl) (by rfl)))) (@jY _ _ _ (mE T.x_NoName rfl T.c_NoName rfl (yx (uq (sC (pv 1) ur))) tu)) pss_nil) (@jY _ _ _ (@qL _ _ _ _ _ _ _ _ (qE (ny (pv 0) M_is_holder (hr.mono (by first | decide | omega)) ka (@jR _ _ _ _ _ (pv 1) pa_nil (by rfl)))) (@jY _ _ _ (mE T.x_Twice rfl T.c_Twice rfl (yx (uq (sC (pv 1) ur))) tu)) pss_nil))),?_⟩
  refine ⟨_,rfl,x,rfl,nm,fun H1 s1=>⟨_,rfl,qm (fun h=>?_) (fun h=>?_)⟩⟩
  ·refine ⟨_,rfl,⟨x,rfl,nm⟩,fun y=>k2 _ ?_ H1 s1⟩
   have h:qz x=false:=nbT h
   unfold nM
   rw [if_pos h]
  ·have h:qz x=true:=nbF h
   have B1:=B.same s1
   refine ⟨_,rfl,b,_,_,rfl,B1.ob,mM z (by decide +kernel) (by decide +kernel) (by decide +kernel) (by decide +kernel) (by decide +kernel),_,rfl,b,z,ppl,L,x,rfl,B1,_,rfl,qm (fun h2=>?_) (fun h2=>?_)⟩
   ·refine ⟨_,rfl,⟨x,rfl,nm⟩,fun y=>k2 _ ?_ H1 s1⟩
    unfold nM
    rw [if_neg (by rw [h];decide),if_pos h2]
   ·refine k1 ?_ H1 s1
    unfold nM
    rw [if_neg (by rw [h];decide),if_neg h2]
end
mutual
inductive D where
 | i (n:Int)
 | s (x:Str)
 | l (xs:DL)
 | t (xs:DL)
inductive DL where
 | nil
 | cons (x:D) (xs:DL)
end
mutual
def DAt (K:aa) (H:Hp):D→V→Prop
 | .i n,v=>v=.int n
 | .s x,v=>v=.str x
 | .l xs,v=>∃ a vs,v=.ref a∧SqL K H a vs∧DLAt K H xs vs
 | .t xs,v=>∃ a vs,v=.ref a∧SqT K H a vs∧DLAt K H xs vs
def DLAt (K:aa) (H:Hp):DL→List V→Prop
 | .nil,vs=>vs=[]
 | .cons x xs,vs=>∃ v r,vs=v::r∧DAt K H x v∧DLAt K H xs r
end
theorem A1 {K:aa}{H H':Hp}{a:ae}{xs:List V} (s:Same H H') (h:SqL K H a xs):SqL K H' a xs:=Same.seq s h
theorem xA {K:aa}{H H':Hp}{a:ae}{xs:List V} (s:Same H H') (h:SqT K H a xs):SqT K H' a xs:=oI h fun c o e _=>s c o e
mutual
theorem DAt.same {K:aa}{H H':Hp} (s:Same H H'):∀ (d:D) (v:V),DAt K H d v→DAt K H' d v
 | .i n,v,h=>h
 | .s x,v,h=>h
 | .l xs,v,h=>by
  obtain ⟨a,vs,e,q,r⟩:=h
  exact ⟨a,vs,e,A1 s q,DLAt.same s xs vs r⟩
 | .t xs,v,h=>by
  obtain ⟨a,vs,e,q,r⟩:=h
  exact ⟨a,vs,e,xA s q,DLAt.same s xs vs r⟩
theorem DLAt.same {K:aa}{H H':Hp} (s:Same H H'):∀ (d:DL) (vs:List V),DLAt K H d vs→DLAt K H' d vs
 | .nil,vs,h=>h
 | .cons x xs,vs,h=>by
  obtain ⟨v,r,e,h1,h2⟩:=h
  exact ⟨v,r,e,DAt.same s x v h1,DLAt.same s xs r h2⟩
end
def kc (l:List (Str×Int×Int)) (n:Str):Str×Int×Int:=(l.find? fun q=>decide (q.1=n)).getD (n,0,1)
def kN (L:List (Ent×ae)) (n:Str):Option (Ent×ae):=L.find? fun e=>decide (e.1.nm=n)
theorem mW {L:List (Ent×ae)}{n:Str}{e:Ent×ae} (h:kN L n=some e):e∈L:=dD h
section
variable {P:aT}{w:bv}{K:aa}{mg:Str→Option ah}{base:bM}{a:Adr}{f:ae}{fd:bR}
abbrev nG:bT:=kD (top 22) 6
theorem sM:FnScope ["self","name"] ["self","name"] (jO nG):=fsc
def pY (a:Adr) (ppl:List Str) (L:List (Ent×ae)) (x:Str):Option ae:=match nM a ppl L x with
 | some c=>some c
 | none=>if 6≤ppl.length then some a.TooMany else none
def vi (K:aa) (a:Adr):Sp:=fun vs H Q E=>∃ b z ppl L x,vs=[.ref b,.str x]∧BookAt K a.Book H b z ppl L∧Nm x ∧
 (pY a ppl L x=none→∀ H',BookAt K a.Book H' b z (ppl++[x]) L→(∀ c o,H c=some o→c≠z.dp→H' c=some o)→Q .non H')∧(∀ c,pY a ppl L x=some c→∀ H',Same H H'→E (.ref c) none H')
theorem rR {ppl:List Str}{L:List (Ent×ae)}{x:Str} (h:nM a ppl L x=none):qz x=true∧lz ppl x=false∧lr L x=false:=by
 unfold nM at h
 split at h
 ·cases h
 ·split at h
  ·cases h
  ·rename_i h1 h2
   have h2:¬ (lz ppl x || lr L x)=true:=h2
   refine ⟨by simpa using h1,?_,?_⟩
   ·cases q:lz ppl x with
    | false=>rfl
    | true=>rw [q] at h2;exact absurd rfl h2
   ·cases q:lr L x with
    | false=>rfl
    | true=>rw [q,Bool.or_true] at h2;exact absurd rfl h2
theorem Ab (F:Fun K "person" "Book.person" nG f fd) (T:Txt K mg a) (M_need_new_name:Mt P w K mg base a.Book "need_new_name" 3 ["self","name"] (oW K a)):FnOk P w K mg base (CXo P w) 4 f fd ["self","name"] (vi K a):=by
 refine F.okX sM (fun vs H Q E h=>?_) (fun cdv A outer s H vs Q E hr h=>?_)
 ·obtain ⟨b,z,ppl,L,x,rfl,_⟩:=h
  rfl
 ·obtain ⟨b,z,ppl,L,x,rfl,B,nm,k1,k2⟩:=h
  have hu:=jV hr
  refine ⟨_,(@jS _ _ _ _ _ (@kP _ _ _ _ (ny (pv 0) M_need_new_name (hr.mono (by first | decide | omega)) ka (@jR _ _ _ _ _ (pv 1) pa_nil (by rfl))) (by rfl)) (@jS _ _ _ _ _ (@qL _ _ _ _ _ _ _ _ (@pX _ _ _ _ _ _ _ _ CL (@lR _ _ _ _ _ _ _ _ _ vL rfl T.b_len oT (@jR _ _ _ _ _ (kq (pv 0) rfl) pa_nil (by rfl)) (by decide) (by decide) (by rfl) (by rfl)) (nR rfl T.g_MOST_PERSONS T.r_MOST_PERSONS) (k9 _)) (@jY _ _ _ (mE T.x_TooMany rfl T.c_TooMany rfl pe_str tu)) pss_nil) (@jY _ _ _ (lZ hu (kq (pv 0) rfl) (pv 1) pe_bl rfl)))),?_⟩
  refine ⟨_,rfl,b,_,_,rfl,B.ob,mM z (by decide +kernel) (by decide +kernel) (by decide +kernel) (by decide +kernel) (by decide +kernel),_,rfl,b,z,ppl,L,x,rfl,B,nm,fun hd H1 s1=>?_,fun c hc H1 s1=>?_⟩
  ·have B1:=B.same s1
   refine ⟨_,rfl,b,_,_,_,_,rfl,B1.ob,T.cl,T.nA_people,og z,_,_,rfl,B1.pp,_,_,rfl,rfl,_,rfl,qm (fun h=>?_) (fun h=>?_)⟩
   ·refine k2 _ ?_ H1 s1
    unfold pY
    rw [hd]
    have h:(6:Int)≤((ppl.map fun n=>((am n:Key),V.bl true)).length:Int):=of_decide_eq_true h
    rw [af] at h
    exact if_pos (by omega)
   ·have h:¬ (6:Int)≤((ppl.map fun n=>((am n:Key),V.bl true)).length:Int):=fun z=>h (decide_eq_true z)
    rw [af] at h
    have hl:ppl.length < 6:=by omega
    have hno:l5 (ppl.map fun n=>((am n:Key),V.bl true)) (am x)=none:=by
     rw [mz (key:=fun n=>n)]
     have:=(rR hd).2.1
     unfold lz at this
     rw [fM]
     exact di.mp this |> dz.mp
    refine ⟨_,rfl,b,_,_,_,_,rfl,B1.ob,T.cl,T.nA_people,og z,_,rfl,_,_,rfl,DPut.k (k:=am x) B1.pp (by rw [af];exact aH hl (by decide)),?_⟩
    have hdue:pY a ppl L x=none:=by
     unfold pY
     rw [hd]
     exact if_neg (by omega)
    refine k1 hdue _ ?_ fun c o e hc=>by rw [jJ hc];exact s1 c o e
    obtain ⟨hb,hr1⟩:=aw.mp B1.nd
    obtain ⟨hp,hr2⟩:=aw.mp hr1
    have ne:∀ c,c∈z.dt::z.dm::z.dl::z.dh::L.map (·.2)→c≠z.dp:=fun c hc e=>hp (e ▸ hc)
    refine ⟨?_,?_,?_,?_,?_,?_,fun e he=>?_,B1.nd,by rw [aO];simp;omega,B1.h8⟩
    ·rw [jJ (fun e=>hb (by rw [e];simp))];exact B1.ob
    ·rw [jK,oh _ hno,aD];rfl
    ·rw [jJ (ne _ (by simp))];exact B1.tt
    ·rw [jJ (ne _ (by simp))];exact B1.mm
    ·rw [jJ (ne _ (by simp))];exact B1.ll
    ·exact B1.hh.keep fun o h=>by rw [jJ (ne _ (by simp))];exact h
    ·refine (B1.he e he).keep (fun o h=>?_) fun c o h x=>?_
     ·rw [jJ (ne _ (by simp only [ai];right;right;right;right;exact aj.mpr ⟨e,he,rfl⟩))];exact h
     ·rw [jJ (wL h B1.pp (by rcases x with ⟨xs,rfl | ⟨ob,rfl⟩⟩ <;> intro z <;> cases z))];exact h
  ·refine k2 c ?_ H1 s1
   unfold pY
   rw [hc]
abbrev oy:bT:=kD (top 22) 7
theorem ul:FnScope ["self","name","owner","things","mark","loss"] ["self","name","owner","things","mark","loss"] (jO oy):=fsc
def oj (a:Adr) (ppl:List Str) (L:List (Ent×ae)) (x o:Str) (l:Int):Option ae:=match nM a ppl L x with
 | some c=>some c
 | none=>if (lz ppl o || lr L o)=false then some a.NoHolder else if l < 0 then some a.NoLoss else if 8≤L.length then some a.TooMany else none
def xw (K:aa) (a:Adr):Sp:=fun vs H Q E=>∃ b z ppl L x o t m l,vs=[.ref b,.str x,.str o,.int t,.int m,.int l]∧BookAt K a.Book H b z ppl L∧Nm x∧Nm o ∧
 (oj a ppl L x o l=none→∀ p H',H p=none→BookAt K a.Book H' b z ppl (L++[(⟨x,t,m,l,[(o,1,1)]⟩,p)])→(∀ c u,H c=some u→c∉[z.dt,z.dm,z.dl,z.dh]→H' c=some u)→Q .non H')∧(∀ c,oj a ppl L x o l=some c→∀ H',Same H H'→E (.ref c) none H')
theorem mq {L:List (Ent×ae)}{x:Str} (v:Ent×ae→V) (h:lr L x=false):l5 (L.map fun e=>((am e.1.nm:Key),v e)) (am x)=none:=by
 rw [mz (key:=fun e:Ent×ae=>e.1.nm)]
 unfold lr at h
 rw [fM]
 exact di.mp h |> dz.mp
theorem Bp (F:Fun K "house" "Book.house" oy f fd) (T:Txt K mg a) (M_need_new_name:Mt P w K mg base a.Book "need_new_name" 3 ["self","name"] (oW K a)) (M_need_holder:Mt P w K mg base a.Book "need_holder" 3 ["self","name"] (lC K a))
  (F_need_loss:Fn P w K mg base "need_loss" 1 ["number"] (om a)):FnOk P w K mg base (CXo P w) 4 f fd ["self","name","owner","things","mark","loss"] (xw K a):=by
 refine F.okX ul (fun vs H Q E h=>?_) (fun cdv A outer s H vs Q E hr h=>?_)
 ·obtain ⟨b,z,ppl,L,x,o,t,m,l,rfl,_⟩:=h
  rfl
 ·obtain ⟨b,z,ppl,L,x,o,t,m,l,rfl,B,nm,no,k1,k2⟩:=h
  have hu:=jV hr
  refine ⟨_,(@jS _ _ _ _ _ (@kP _ _ _ _ (ny (pv 0) M_need_new_name (hr.mono (by first | decide | omega)) ka (@jR _ _ _ _ _ (pv 1) pa_nil (by rfl))) (by rfl)) (@jS _ _ _ _ _ (@kP _ _ _ _ (ny (pv 0) M_need_holder (hr.mono (by first | decide | omega)) ka (@jR _ _ _ _ _ (pv 2) pa_nil (by rfl))) (by rfl)) (@jS _ _ _ _ _ (@kP _ _ _ _ (@ql _ _ _ _ _ _ _ _ _ _ _ F_need_loss (hr.mono (by first | decide | omega)) rfl ka (@jR _ _ _ _ _ (pv 5) pa_nil (by rfl)) (by decide) (by rfl) (by rfl)) (by rfl)) (@jS _ _ _ _ _ (@qL _ _ _ _ _ _ _ _ (@pX _ _ _ _ _ _ _ _ CL (@lR _ _ _ _ _ _ _ _ _ vL rfl T.b_len oT (@jR _ _ _ _ _ (kq (pv 0) rfl) pa_nil (by rfl)) (by decide) (by decide) (by rfl) (by rfl)) (nR rfl T.g_MOST_HOUSES T.r_MOST_HOUSES) (k9 _)) (@jY _ _ _ (mE T.x_TooMany rfl T.c_TooMany rfl pe_str tu)) pss_nil) (@jS _ _ _ _ _ (lZ hu (kq (pv 0) rfl) (pv 1) (pv 3) rfl) (@jS _ _ _ _ _ (lZ hu (kq (pv 0) rfl) (pv 1) (pv 4) rfl) (@jS _ _ _ _ _ (lZ hu (kq (pv 0) rfl) (pv 1) (pv 5) rfl) (@jY _ _ _ (lZ hu (kq (pv 0) rfl) (pv 1) (zt (xG (pv 2) (nR rfl T.g_ONE T.r_ONE) zn) rfl rfl (by decide) (by decide)) rfl))))))))),?_⟩
  refine ⟨_,rfl,b,_,_,rfl,B.ob,mM z (by decide +kernel) (by decide +kernel) (by decide +kernel) (by decide +kernel) (by decide +kernel),_,rfl,b,z,ppl,L,x,rfl,B,nm,fun hd H1 s1=>?_,fun c hc H1 s1=>?_⟩
  ·have B1:=B.same s1
   refine ⟨_,rfl,b,_,_,rfl,B1.ob,mM z (by decide +kernel) (by decide +kernel) (by decide +kernel) (by decide +kernel) (by decide +kernel),_,rfl,b,z,ppl,L,o,rfl,B1,no,fun ho=>?_,fun ho=>?_⟩
   ·refine ⟨_,rfl,l,rfl,fun hl=>?_,fun hl=>?_⟩
    ·refine k2 _ ?_ H1 s1
     unfold oj
     rw [hd]
     show (if (lz ppl o || lr L o)=false then some a.NoHolder else _)=_
     rw [if_neg (by rw [ho];decide),if_pos hl]
    ·obtain ⟨Th,eh,ph,nh⟩:=B1.hh
     have lTh:Th.length=L.length:=by rw [ph.length_eq,af]
     refine ⟨_,rfl,b,_,_,_,_,rfl,B1.ob,T.cl,T.nA_held_of,nV z,_,_,rfl,eh,_,_,rfl,rfl,_,rfl,qm (fun h=>?_) (fun h=>?_)⟩
     ·refine k2 _ ?_ H1 s1
      have h:(8:Int)≤(Th.length:Int):=of_decide_eq_true h
      rw [lTh] at h
      unfold oj
      rw [hd]
      show (if (lz ppl o || lr L o)=false then some a.NoHolder else _)=_
      rw [if_neg (by rw [ho];decide),if_neg (by omega),if_pos (by omega)]
     ·have h:¬ (8:Int)≤(Th.length:Int):=fun z=>h (decide_eq_true z)
      rw [lTh] at h
      have hl8:L.length < 8:=by omega
      have hdue:oj a ppl L x o l=none:=by
       unfold oj
       rw [hd]
       show (if (lz ppl o || lr L o)=false then some a.NoHolder else _)=_
       rw [if_neg (by rw [ho];decide),if_neg (by omega),if_neg (by omega)]
      have hx:=(rR hd).2.2
      have sz:∀ {v:Ent×ae→V},(L.map fun e=>((am e.1.nm:Key),v e)).length < aI:=fun {v}=>by rw [af];exact aH hl8 (by decide)
      obtain ⟨hb,r1⟩:=aw.mp B1.nd
      obtain ⟨hp,r2⟩:=aw.mp r1
      obtain ⟨ht,r3⟩:=aw.mp r2
      obtain ⟨hm,r4⟩:=aw.mp r3
      obtain ⟨hll,r5⟩:=aw.mp r4
      obtain ⟨hh,r6⟩:=aw.mp r5
      refine ⟨_,rfl,_,rfl,b,_,_,_,_,rfl,B1.ob,T.cl,T.nA_things_of,pT z,_,rfl,_,_,rfl,DPut.k (k:=am x) B1.tt sz,?_⟩
      have b_t:b≠z.dt:=fun e=>hb (by rw [e];simp)
      have b_m:b≠z.dm:=fun e=>hb (by rw [e];simp)
      have b_l:b≠z.dl:=fun e=>hb (by rw [e];simp)
      have b_h:b≠z.dh:=fun e=>hb (by rw [e];simp)
      have p_t:z.dp≠z.dt:=fun e=>hp (by rw [e];simp)
      have p_m:z.dp≠z.dm:=fun e=>hp (by rw [e];simp)
      have p_l:z.dp≠z.dl:=fun e=>hp (by rw [e];simp)
      have p_h:z.dp≠z.dh:=fun e=>hp (by rw [e];simp)
      have t_m:z.dt≠z.dm:=fun e=>ht (by rw [e];simp)
      have t_l:z.dt≠z.dl:=fun e=>ht (by rw [e];simp)
      have t_h:z.dt≠z.dh:=fun e=>ht (by rw [e];simp)
      have m_l:z.dm≠z.dl:=fun e=>hm (by rw [e];simp)
      have m_h:z.dm≠z.dh:=fun e=>hm (by rw [e];simp)
      have l_h:z.dl≠z.dh:=fun e=>hll (by rw [e];simp)
      refine ⟨_,rfl,_,rfl,b,_,_,_,_,rfl,(by rw [jJ b_t];exact B1.ob),T.cl,T.nA_mark_of,tO z,_,rfl,_,_,rfl,DPut.k (k:=am x) (by rw [jJ t_m.symm];exact B1.mm) sz,?_⟩
      refine ⟨_,rfl,_,rfl,b,_,_,_,_,rfl,(by rw [jJ b_m,jJ b_t];exact B1.ob),T.cl,T.nA_loss_of,tP z,_,rfl,_,_,rfl,DPut.k (k:=am x) (by rw [jJ m_l.symm,jJ t_l.symm];exact B1.ll) sz,?_⟩
      intro p hpn
      have e0:∀ c,c≠z.dt→c≠z.dm→c≠z.dl→∀ A B C,(upd (upd (upd H1 z.dt A) z.dm B) z.dl C) c=H1 c:=fun c c1 c2 c3 A B C=>by rw [jJ c3,jJ c2,jJ c1]
      have q_t:p≠z.dt:=fun e=>by rw [e,jJ t_l,jJ t_m,jK] at hpn;cases hpn
      have q_m:p≠z.dm:=fun e=>by rw [e,jJ m_l,jK] at hpn;cases hpn
      have q_l:p≠z.dl:=fun e=>by rw [e,jK] at hpn;cases hpn
      have hp1:H1 p=none:=by rw [e0 p q_t q_m q_l] at hpn;exact hpn
      have hp0:H p=none:=s1.free hp1
      have q_h:p≠z.dh:=fun e=>by rw [e,eh] at hp1;cases hp1
      have q_b:p≠b:=fun e=>by rw [e,B1.ob] at hp1;cases hp1
      have q_p:p≠z.dp:=fun e=>by rw [e,B1.pp] at hp1;cases hp1
      refine ⟨_,rfl,jK,[(am o,.ref a.ONE)],rfl,(show 1≤15 by decide),_,rfl,b,_,_,_,_,rfl,(by rw [jJ q_b.symm,jJ q_b.symm,e0 b b_t b_m b_l];exact B1.ob),T.cl,T.nA_held_of,nV z,_,rfl,_,_,rfl,DPut.k (k:=am x) (by rw [jJ q_h.symm,jJ q_h.symm,e0 z.dh t_h.symm m_h.symm l_h.symm];exact eh) (by rw [lTh];exact aH hl8 (by decide)),?_⟩
      have far:∀ c,c≠p→c≠z.dh→c≠z.dt→c≠z.dm→c≠z.dl→∀ A B C D E F,(upd (upd (upd (upd (upd (upd H1 z.dt A) z.dm B) z.dl C) p D) p E) z.dh F) c=H1 c:=fun c c1 c2 c3 c4 c5 A B C D E F=>by rw [jJ c2,jJ c1,jJ c1,jJ c5,jJ c4,jJ c3]
      refine k1 hdue p _ hp0 ?_ fun c u e hc=>?_
      ·refine ⟨?_,?_,?_,?_,?_,?_,fun e he=>?_,?_,B1.p6,by rw [aO];exact hl8⟩
       ·rw [far b q_b.symm b_h b_t b_m b_l];exact B1.ob
       ·rw [far z.dp q_p.symm p_h p_t p_m p_l];exact B1.pp
       ·rw [jJ t_h,jJ q_t.symm,jJ q_t.symm,jJ t_l,jJ t_m,jK,oh _ (mq _ hx),aD];rfl
       ·rw [jJ m_h,jJ q_m.symm,jJ q_m.symm,jJ m_l,jK,oh _ (mq _ hx),aD];rfl
       ·rw [jJ l_h,jJ q_l.symm,jJ q_l.symm,jK,oh _ (mq _ hx),aD];rfl
       ·have hv:l5 Th (am x)=none:=by rw [xn ph nh];exact mq _ hx
        refine ⟨_,jK,?_,?_⟩
        ·rw [oh _ hv,aD]
         exact ph.append_right _
        ·rw [aD,aD,au,bQ]
         refine p4 nh fun hq=>?_
         obtain ⟨kv,hkv,ekv⟩:=aj.mp hq
         have e1:=(sR (k:=kv.1) (v:=kv.2) nh).mpr hkv
         rw [ekv,mq _ hx] at e1
         cases e1
       ·rcases aX.mp he with he | he
        ·have he2:e.2∈L.map (·.2):=aj.mpr ⟨e,he,rfl⟩
         have d1:e.2≠z.dh:=fun q=>hh (q ▸ he2)
         have d2:e.2≠z.dt:=fun q=>ht (by rw [← q];simp only [ai];right;right;right;exact he2)
         have d3:e.2≠z.dm:=fun q=>hm (by rw [← q];simp only [ai];right;right;exact he2)
         have d4:e.2≠z.dl:=fun q=>hll (by rw [← q];simp only [ai];right;exact he2)
         have d5:e.2≠p:=fun q=>by
          obtain ⟨ts,_,q2,_⟩:=B1.he e he
          rw [q,hp1] at q2
          cases q2
         refine (B1.he e he).keep (fun u h=>?_) fun c u h y=>?_
         ·rw [far e.2 d5 d1 d2 d3 d4];exact h
         ·have nt:∀ {q:ae}{kv:List (Key×V)},H1 q=some (.dK kv)→c≠q:=fun hq=>wL h hq (by rcases y with ⟨xs,rfl | ⟨ob,rfl⟩⟩ <;> intro z <;> cases z)
          rw [far c (jM h hp1) (nt eh) (nt B1.tt) (nt B1.mm) (nt B1.ll)];exact h
        ·rw [aE.mp he]
         refine ⟨[a.ONE],rfl,?_,fun q hq=>?_⟩
         ·rw [jJ q_h,jK];rfl
         ·rw [aE.mp hq]
          exact .inr T.one
       ·have hpL:p∉L.map (·.2):=fun hq=>by
         obtain ⟨e,he,rfl⟩:=aj.mp hq
         obtain ⟨ts,_,q2,_⟩:=B1.he e he
         rw [hp1] at q2
         cases q2
        have:=p4 (k:=p) B1.nd (by
         intro hq
         simp only [ai] at hq
         rcases hq with e | e | e | e | e | e | e
         ·exact q_b e
         ·exact q_p e
         ·exact q_t e
         ·exact q_m e
         ·exact q_l e
         ·exact q_h e
         ·exact hpL e)
        rw [aD]
        exact this
      ·have e1:=s1 c u e
       have c0:c≠p:=jM e1 hp1
       simp only [ai,b6,or_false,not_or] at hc
       rw [far c c0 hc.2.2.2 hc.1 hc.2.1 hc.2.2.1]
       exact e1
   ·refine k2 _ ?_ H1 s1
    unfold oj
    rw [hd]
    exact if_pos ho
  ·refine k2 c ?_ H1 s1
   unfold oj
   rw [hc]
def PairAt (K:aa) (H:Hp) (q:Str×Int×Int) (v:V):Prop:=∃ t u,v=.ref t∧SqT K H t [.str q.1,.ref u]∧SqT K H u [.int q.2.1,.int q.2.2]
theorem PairAt.keep {K:aa}{H H':Hp}{q:Str×Int×Int}{v:V} (h:PairAt K H q v) (k:∀ c o,H c=some o→(∃ xs,o=.tup xs∨∃ ob,o=.frz ob (.tup xs))→H' c=some o):PairAt K H' q v:=by
 obtain ⟨t,u,e,h1,h2⟩:=h
 exact ⟨t,u,e,oI h1 k,oI h2 k⟩
theorem CU {H:Hp}{p:ae}{xs:List V}{o':HO} (hp:H p=some (.lst xs)):∀ c o,H c=some o→(∃ xs,o=.tup xs∨∃ ob,o=.frz ob (.tup xs))→(upd H p o') c=some o:=fun c o h x=>by
 rw [jJ (wL h hp (by rcases x with ⟨xs,rfl | ⟨ob,rfl⟩⟩ <;> intro z <;> cases z))]
 exact h
theorem AJ {l:List (Str×Int×Int)}{ts:List ae} (hl:ts.length=l.length) {n:Str} (hn:n∈l.map (·.1)):∃ q,(l.zip ts).find? (fun q=>decide (q.1.1=n))=some q∧q∈l.zip ts∧q.1=kc l n∧(kc l n).1=n:=by
 have e:(l.zip ts).map (·.1)=l:=gZ (by omega)
 cases h:(l.zip ts).find? (fun q=>decide (q.1.1=n)) with
 | none =>
  exfalso
  rw [bW] at h
  rw [← e,aF] at hn
  obtain ⟨q,hq,e2⟩:=aj.mp hn
  exact h q hq (decide_eq_true e2)
 | some q =>
  have e2:l.find? (fun q=>decide (q.1=n))=some q.1:=by
   rw [← e,dY]
   show ((l.zip ts).find? (fun q=>decide (q.1.1=n))).map (·.1)=some q.1
   rw [h]
   rfl
  have e3:kc l n=q.1:=by unfold kc;rw [e2];rfl
  exact ⟨q,rfl,dD h,e3.symm,by rw [e3];simpa using eS h⟩
def sT (K:aa) (C:ae):Sp:=fun vs H Q _=>∃ b z ppl L,vs=[.ref b]∧BookAt K C H b z ppl L∧∀ l,H l=none→Q (.ref l) (upd H l (.lst ((srt ppl).map V.str)))
abbrev mS:bT:=kD (top 22) 12
theorem sj:FnScope ["self"] ["self"] (jO mS):=fsc
theorem yA (F:Fun K "persons" "Book.persons" mS f fd) (T:Txt K mg a):FnOk P w K mg base (CXo P w) 1 f fd ["self"] (sT K a.Book):=by
 refine F.okN sj (fun vs H Q E h=>?_) (fun cdv A outer s H vs Q E hr h=>?_)
 ·obtain ⟨b,z,ppl,L,rfl,_⟩:=h
  rfl
 ·obtain ⟨b,z,ppl,L,rfl,B,k⟩:=h
  have hu:=jV hr
  refine ⟨_,(@jY _ _ _ (@mG _ _ _ _ (@lR _ _ _ _ _ _ _ _ _ (mL rfl) rfl T.b_sorted lA (@jR _ _ _ _ _ (kq (pv 0) rfl) pa_nil (by rfl)) (by decide) (by decide) (by rfl) (by rfl)))),?_⟩
  exact ⟨_,rfl,b,_,_,_,_,rfl,B.ob,T.cl,T.nA_people,og z,_,_,ppl,rfl,.inl B.pp,by rw [aF];rfl,a7 B.p6 (by decide),k⟩
def rB (K:aa) (C:ae):Sp:=fun vs H Q _=>∃ b z ppl L,vs=[.ref b]∧BookAt K C H b z ppl L∧∀ l,H l=none→Q (.ref l) (upd H l (.lst ((srt (L.map (·.1.nm))).map V.str)))
abbrev nH:bT:=kD (top 22) 13
theorem sN:FnScope ["self"] ["self"] (jO nH):=fsc
theorem Ac (F:Fun K "houses" "Book.houses" nH f fd) (T:Txt K mg a):FnOk P w K mg base (CXo P w) 1 f fd ["self"] (rB K a.Book):=by
 refine F.okN sN (fun vs H Q E h=>?_) (fun cdv A outer s H vs Q E hr h=>?_)
 ·obtain ⟨b,z,ppl,L,rfl,_⟩:=h
  rfl
 ·obtain ⟨b,z,ppl,L,rfl,B,k⟩:=h
  have hu:=jV hr
  refine ⟨_,(@jY _ _ _ (@mG _ _ _ _ (@lR _ _ _ _ _ _ _ _ _ (mL rfl) rfl T.b_sorted lA (@jR _ _ _ _ _ (kq (pv 0) rfl) pa_nil (by rfl)) (by decide) (by decide) (by rfl) (by rfl)))),?_⟩
  obtain ⟨Th,ss,eh,ek,ps⟩:=B.hh.keys
  rw [← rQ ps] at k
  exact ⟨_,rfl,b,_,_,_,_,rfl,B.ob,T.cl,T.nA_held_of,nV z,_,_,ss,rfl,.inl eh,ek,by rw [ps.length_eq,af];exact a7 B.h8 (by decide),k⟩
abbrev rD:bT:=kD (top 22) 15
theorem yr:FnScope ["self","house"] ["self","house"] (jO rD):=fsc
def Eh (K:aa) (a:Adr):Sp:=fun vs H Q E=>∃ b z ppl L x,vs=[.ref b,.str x]∧BookAt K a.Book H b z ppl L∧Nm x∧(∀ e,kN L x=some e→∀ t,H t=none→Q (.ref t) (upd H t (.tup [.int e.1.th,.int e.1.mr,.int e.1.ls])))∧(kN L x=none→E (.ref a.NoHouse) none H)
theorem sB {L:List (Ent×ae)}{x:Str}{e:Ent×ae} (v:Ent×ae→V) (h:kN L x=some e):l5 (L.map fun e=>((am e.1.nm:Key),v e)) (am x)=some (v e):=by
 rw [mz (key:=fun e:Ent×ae=>e.1.nm)]
 unfold kN at h
 rw [h]
 rfl
theorem ok_of (F:Fun K "of" "Book.of" rD f fd) (T:Txt K mg a) (M_need_house:Mt P w K mg base a.Book "need_house" 2 ["self","name"] (km K a)):FnOk P w K mg base (CXo P w) 3 f fd ["self","house"] (Eh K a):=by
 refine F.okX yr (fun vs H Q E h=>?_) (fun cdv A outer s H vs Q E hr h=>?_)
 ·obtain ⟨b,z,ppl,L,x,rfl,_⟩:=h
  rfl
 ·obtain ⟨b,z,ppl,L,x,rfl,B,nm,k1,k2⟩:=h
  have hu:=jV hr
  refine ⟨_,(@jS _ _ _ _ _ (@kP _ _ _ _ (ny (pv 0) M_need_house (hr.mono (by first | decide | omega)) ka (@jR _ _ _ _ _ (pv 1) pa_nil (by rfl))) (by rfl)) (@jY _ _ _ (@mG _ _ _ _ (@ut _ _ _ _ _ (@jR _ _ _ _ _ (@nS _ _ _ _ _ _ hu (kq (pv 0) rfl) (pv 1) (fun _ _=>rfl)) (@jR _ _ _ _ _ (@nS _ _ _ _ _ _ hu (kq (pv 0) rfl) (pv 1) (fun _ _=>rfl)) (@jR _ _ _ _ _ (@nS _ _ _ _ _ _ hu (kq (pv 0) rfl) (pv 1) (fun _ _=>rfl)) pa_nil (by rfl)) (by rfl)) (by rfl)))))),?_⟩
  refine ⟨_,rfl,b,_,_,rfl,B.ob,mM z (by decide +kernel) (by decide +kernel) (by decide +kernel) (by decide +kernel) (by decide +kernel),_,rfl,b,z,ppl,L,x,rfl,B,nm,fun h=>?_,fun h=>k2 ?_⟩
  ·cases he:kN L x with
   | none=>unfold lr at h;unfold kN at he;rw [he] at h;cases h
   | some e =>
    refine ⟨_,rfl,b,_,_,_,_,rfl,B.ob,T.cl,T.nA_things_of,pT z,_,rfl,_,_,rfl,?_,_,rfl,b,_,_,_,_,rfl,B.ob,T.cl,T.nA_mark_of,tO z,_,rfl,_,_,rfl,?_,_,rfl,b,_,_,_,_,rfl,B.ob,T.cl,T.nA_loss_of,tP z,_,rfl,_,_,rfl,?_,(show 3≤aI by decide),fun t ht=>k1 e he t ht⟩
    ·have:=DGet.k (k:=am x) B.tt;rw [sB _ he] at this;exact this
    ·have:=DGet.k (k:=am x) B.mm;rw [sB _ he] at this;exact this
    ·have:=DGet.k (k:=am x) B.ll;rw [sB _ he] at this;exact this
  ·unfold lr at h
   unfold kN
   exact di.mp h |> dz.mp
abbrev ma:bT:=kD (top 22) 14
theorem sc_Book_shares:FnScope ["self","house","held"] ["self","house"] (jO ma):=fsc
def vh (K:aa) (a:Adr):Sp:=fun vs H Q E=>∃ b z ppl L x,vs=[.ref b,.str x]∧BookAt K a.Book H b z ppl L∧Nm x ∧
 (∀ e,kN L x=some e→e.1.held.length < 64∧∀ l ys H',H l=none→Same H H'→H' l=some (.lst ys)→eX (PairAt K H') ((srt (e.1.held.map (·.1))).map (kc e.1.held)) ys→Q (.ref l) H')∧(kN L x=none→E (.ref a.NoHouse) none H)
theorem Aa (F:Fun K "shares" "Book.shares" ma f fd) (T:Txt K mg a) (M_need_house:Mt P w K mg base a.Book "need_house" 2 ["self","name"] (km K a)):FnOk P w K mg base (CXo P w) 3 f fd ["self","house"] (vh K a):=by
 refine F.okX sc_Book_shares (fun vs H Q E h=>?_) (fun cdv A outer s H vs Q E hr h=>?_)
 ·obtain ⟨b,z,ppl,L,x,rfl,_⟩:=h
  rfl
 ·obtain ⟨b,z,ppl,L,x,rfl,B,nm,k1,k2⟩:=h
  have hu:=jV hr
  refine ⟨_,(@jS _ _ _ _ _ (@kP _ _ _ _ (ny (pv 0) M_need_house (hr.mono (by first | decide | omega)) ka (@jR _ _ _ _ _ (pv 1) pa_nil (by rfl))) (by rfl)) (@jS _ _ _ _ _ (@nK _ _ (2) _ _ _ _ sc_Book_shares.nd rfl (fL rfl) (@nS _ _ _ _ _ _ hu (kq (pv 0) rfl) (pv 1) (fun _ _=>rfl)) (by rfl) (by first | exact .inl rfl | exact .inr rfl | assumption)) (@jY _ _ _ (@mG _ _ _ _ (tf (fr:=["held"]) (ix:=[2]) rfl (by exact (show CompOk ["self","house","held"] (jO ma) _ _ _ _ from cok)) (zq (@lR _ _ _ _ _ _ _ _ _ (mL rfl) rfl T.b_sorted lA (@jR _ _ _ _ _ (pv 2) pa_nil (by rfl)) (by decide) (by decide) (by rfl) (by rfl))) (fun _ _ _ _ _=>tY) (fun _ _ _ _ _=>(ut (jR (pv 0) (jR (nS hu (pv 1) (pv 0) (fun _ _=>rfl)) pa_nil))))))))),?_⟩
  refine ⟨_,rfl,b,_,_,rfl,B.ob,mM z (by decide +kernel) (by decide +kernel) (by decide +kernel) (by decide +kernel) (by decide +kernel),_,rfl,b,z,ppl,L,x,rfl,B,nm,fun h=>?_,fun h=>k2 ?_⟩
  ·cases he:kN L x with
   | none=>unfold lr at h;unfold kN at he;rw [he] at h;cases h
   | some e =>
    obtain ⟨h64,k1⟩:=k1 e he
    obtain ⟨ts,hl,hd,hts⟩:=B.he e (mW he)
    have hkeys:(((e.1.held.zip ts).map fun q=>((am q.1.1:Key),V.ref q.2)).map (·.1))=(e.1.held.map (·.1)).map am:=by
     rw [aF,aF]
     have e1:(e.1.held.zip ts).map (·.1)=e.1.held:=gZ (by omega)
     conv=>rhs;rw [← e1,aF]
     rfl
    refine ⟨_,rfl,b,_,_,_,_,rfl,B.ob,T.cl,T.nA_held_of,nV z,_,rfl,_,.ref e.2,rfl,?_,_,rfl,e.2,_,e.1.held.map (·.1),rfl,.inl hd,hkeys,by rw [af];exact h64,fun l hl0=>?_⟩
    ·have:=B.hh.dget x;rw [sB _ he] at this;exact this
    ·refine ⟨l,rfl,⟨_,SqL.of jK⟩,fun D hD=>?_⟩
     have lD:l≠D:=jM jK hD
     have hD0:H D=none:=by rw [jJ lD.symm] at hD;exact hD
     have hDp:e.2≠D:=jM hd hD0
     refine zK (J:=Itl K l) (srt (e.1.held.map (·.1))).length (fun i ys H'=>Same H H'∧H' D=some (.lst ys)∧H' l=some (.lst ((srt (e.1.held.map (·.1))).map V.str))∧eX (PairAt K H') (((srt (e.1.held.map (·.1))).take i).map (kc e.1.held)) ys)
      ⟨?_,jK,?_,.nil⟩ ?_ (fun i ys H' r=>r.2.1) (fun i ys H' hi r=>⟨_,.str ((srt (e.1.held.map (·.1)))[i]),SqL.of r.2.2.1,by simp [hi]⟩) ?_ ?_
     ·exact (mC hl0).trans (mC hD)
     ·rw [jJ lD,jK]
     ·rw [jT,af];exact aJ (d9 h64) (by decide)
     ·rintro i ys Hx v H' hi ⟨s1,h1,h2,h3⟩ ⟨rfl,hy⟩ Kt Kf q1 q2
      have hv:=hy _ (SqL.of h2)
      have ev:v=.str ((srt (e.1.held.map (·.1)))[i]):=by
       rw [bo,bu hi] at hv
       exact (aU hv).symm
      subst ev
      have hmem:(srt (e.1.held.map (·.1)))[i]∈e.1.held.map (·.1):=(jZ _).mem_iff.mp (cj hi)
      obtain ⟨q,f1,f2,f3,f4⟩:=AJ hl hmem
      have hval:l5 ((e.1.held.zip ts).map fun q=>((am q.1.1:Key),V.ref q.2)) (am ((srt (e.1.held.map (·.1)))[i]))=some (.ref q.2):=by
       rw [mz (key:=fun q:(Str×Int×Int)×ae=>q.1.1),f1]
       rfl
      refine yesT ⟨_,rfl,_,rfl,_,rfl,e.2,.ref q.2,rfl,?_,(show 2≤aI by decide),fun p hp=>?_⟩
      ·have:=DGet.k (k:=am ((srt (e.1.held.map (·.1)))[i])) (s1 _ _ hd);rw [hval] at this;exact this
      ·have pD:D≠p:=jM h1 hp
       have pl:l≠p:=jM h2 hp
       refine q1 _ _ (by rw [jJ pD];exact h1) ⟨?_,jK,?_,?_⟩
       ·intro c o hc
        rw [jJ (fun z=>by rw [z] at hc;rw [hD0] at hc;cases hc),jJ (jM (s1 c o hc) hp)]
        exact s1 c o hc
       ·rw [jJ lD,jJ pl];exact h2
       ·have kp:∀ c o,H' c=some o→(∃ xs,o=.tup xs∨∃ ob,o=.frz ob (.tup xs))→(upd (upd H' p (.tup [.str ((srt (e.1.held.map (·.1)))[i]),.ref q.2])) D (.lst (ys++[.ref p]))) c=some o:=fun c o hc x=>by
         rw [CU (xs:=ys) (by rw [jJ pD];exact h1) c o (by rw [jJ (jM hc hp)];exact hc) x]
        have e5:((srt (e.1.held.map (·.1))).take (i+1)).map (kc e.1.held)=((srt (e.1.held.map (·.1))).take i).map (kc e.1.held)++[kc e.1.held ((srt (e.1.held.map (·.1)))[i])]:=by
         rw [bX,bu hi,aD]
         rfl
        rw [e5]
        refine iX (eX.mapP h3 fun q v hq=>hq.keep kp) ⟨p,q.2,rfl,?_,?_⟩
        ·refine SqT.of ?_
         rw [jJ pD.symm,jK,f4]
        ·rw [← f3]
         exact oI (hts q f2) fun c o hc x=>kp c o (s1 c o hc) x
     ·rintro ys H' hy ⟨s1,h1,h2,h3⟩
      refine ⟨⟨_,SqL.of h2,by rw [af];exact az _⟩,k1 D ys H' hD0 s1 h1 ?_⟩
      rw [cD] at h3
      exact h3
  ·unfold lr at h
   unfold kN
   exact di.mp h |> dz.mp
end
end My
namespace L2
open PySem PySem.Spec PyProof.Rows
section
variable {X:Cx}
def rEqT (K:aa):R2:=fun x y H Q=>∃ p q xs ys,x=.ref p∧y=.ref q∧SqT K H p xs∧SqT K H q ys∧xs.length=ys.length∧xs.all wQ=true∧ys.all wQ=true∧Q (.bl (DQ xs ys)) H
theorem Fl (hu:X.A.units < dS):OpR X (ci .Eq) (rEqT X.K):=by
 intro pins s σ H x y v u Q I rx ry h
 obtain ⟨p,q,xs,ys,rfl,rfl,hp,hq,hl,fx,fy,k⟩:=h
 cases rx
 cases ry
 obtain ⟨its,r,pl,_⟩:=I.tuple hp
 obtain ⟨its2,r2,pl2,_⟩:=I.tuple hq
 have e1:=r.length
 have e2:=r2.length
 refine SeqAt.eq_tupleAt pl pl2 hu (yJ r r2 hl fx fy) ⟨.bl _,H,I,rfl,?_⟩
 have e3:its.toArray.size=its2.toArray.size:=by simp;omega
 rw [e3,Nat.min_self,beq_self_eq_true,Bool.and_true,aM,← e2,← hl,← xV hl]
 exact k
end
end L2
namespace My
open PySem L2 Fra
theorem xP (x y:Int) (h:0 < y):aL y (x % y)=aL x y:=by
 have e:x % y=x - (x / y) * y:=by rw [Int.emod_def,bH]
 rw [e,Int.gcd_comm,Int.gcd_sub_mul_right_left]
theorem BG {x:Int} (h:0≤x):(aL x 0:Int)=x:=by rw [Int.gcd_zero_right];omega
structure Sz (q:Int×Int):Prop where
 low:Low q
 bt:Bt 8900 q.1
 bb:Bt 8900 q.2
def FrAt (K:aa) (H:Hp) (p:ae) (q:Int×Int):Prop:=SqT K H p [.int q.1,.int q.2]
theorem FrAt.same {K:aa}{H H':Hp}{p:ae}{q:Int×Int} (h:FrAt K H p q) (s:Same H H'):FrAt K H' p q:=xA s h
section
variable {P:aT}{w:bv}{K:aa}{mg:Str→Option ah}{base:bM}{a:Adr}{f:ae}{fd:bR}
abbrev lX:bT:=top 12
theorem sc_common_divisor:FnScope ["number","other","rest"] ["number","other"] (jO lX):=fsc
def Cg:Sp:=fun vs H Q _=>∃ n m,vs=[.int n,.int m]∧0 < m∧Q (.int (aL n m)) H
theorem Fq (F:Fun K "common_divisor" "common_divisor" lX f fd) (T:Txt K mg a):FnOk P w K mg base (CXo P w) 1 f fd ["number","other"] Cg:=by
 refine F.okN sc_common_divisor (fun vs H Q E h=>?_) (fun cdv A outer s H vs Q E hr h=>?_)
 ·obtain ⟨n,m,rfl,_⟩:=h
  rfl
 ·obtain ⟨n,m,rfl,hm,k⟩:=h
  have hu:=jV hr
  refine ⟨_,(@jS _ _ _ _ _ (xF fC (@pX _ _ _ _ _ _ _ _ op_ne (pv 1) pe_int (k9 _)) (@jS _ _ _ _ _ (@nK _ _ (2) _ _ _ _ sc_common_divisor.nd rfl (ba rfl) (@oQ _ _ _ _ _ _ _ _ Cu (pv 0) (pv 1)) (by rfl) (by first | exact .inl rfl | exact .inr rfl | assumption)) (@jS _ _ _ _ _ (@nK _ _ (0) _ _ _ _ sc_common_divisor.nd rfl (ba rfl) (pv 1) (by rfl) (by first | exact .inl rfl | exact .inr rfl | assumption)) (@jY _ _ _ (@nK _ _ (1) _ _ _ _ sc_common_divisor.nd rfl (ba rfl) (pv 2) (by rfl) (by first | exact .inl rfl | exact .inr rfl | assumption)))))) (@jY _ _ _ (@mG _ _ _ _ (pv 0)))),?_⟩
  refine ⟨fun c σ H'=>H'=H∧∃ x y v,σ=[some (.int x),some (.int y),v]∧0≤y∧c=y.toNat∧aL x y=aL n m∧(y=0→0≤x),⟨_,rfl,n,m,_,rfl,by omega,rfl,rfl,by omega⟩,?_⟩
  rintro c σ H' ⟨rfl,x,y,v,rfl,hy,rfl,hg,hx⟩
  refine ⟨_,rfl,rfl,_,rfl,qm (fun h=>?_) (fun h=>?_)⟩
  ·have hy0:0 < y:=by
    have:¬ (V.int y=V.int 0):=of_decide_eq_false (nbT h)
    have:y≠0:=fun z=>this (by rw [z])
    omega
   refine ⟨fun σ' H''=>H''=H'∧∃ v',σ'=[some (.int y),some (.int (x % y)),v'],?_,?_⟩
   ·rintro σ' H'' ⟨rfl,v',rfl⟩
    have m0:=cY x (show y≠0 by omega)
    have m1:=cH x hy0
    exact ⟨(x % y).toNat,by omega,rfl,_,_,_,rfl,m0,rfl,(xP x y hy0).trans hg,fun _=>hy⟩
   ·exact ⟨_,rfl,_,rfl,_,_,rfl,rfl,hy0,_,rfl,_,rfl,rfl,_,rfl⟩
  ·have hy0:y=0:=V.int.inj (of_decide_eq_true (nbF h))
   subst hy0
   refine ⟨_,rfl,?_⟩
   rw [BG (hx rfl) |>.symm,hg]
   exact k
abbrev yW:bT:=top 13
theorem sc_plus:FnScope ["first","second","common","top","shared"] ["first","second"] (jO yW):=fsc
def qW (K:aa):Sp:=fun vs H Q _=>∃ p1 p2 q1 q2,vs=[.ref p1,.ref p2]∧FrAt K H p1 q1∧FrAt K H p2 q2∧Sz q1∧Sz q2∧∀ x,H x=none→Q (.ref x) (upd H x (.tup [.int (kT q1 q2).1,.int (kT q1 q2).2]))
theorem Dm (F:Fun K "plus" "plus" yW f fd) (T:Txt K mg a) (F_common_divisor:Fn P w K mg base "common_divisor" 1 ["number","other"] Cg):FnOk P w K mg base (CXo P w) 2 f fd ["first","second"] (qW K):=by
 refine F.okN sc_plus (fun vs H Q E h=>?_) (fun cdv A outer s H vs Q E hr h=>?_)
 ·obtain ⟨p1,p2,q1,q2,rfl,_⟩:=h
  rfl
 ·obtain ⟨p1,p2,⟨t1,b1⟩,⟨t2,b2⟩,rfl,h1,h2,s1,s2,k⟩:=h
  have hu:=jV hr
  refine ⟨_,(@jS _ _ _ _ _ (@nK _ _ (2) _ _ _ _ sc_plus.nd rfl (ba rfl) (@ql _ _ _ _ _ _ _ _ _ _ _ F_common_divisor (hr.mono (by first | decide | omega)) rfl j8 (@jR _ _ _ _ _ (@nX _ _ _ _ _ _ _ ix_tup (pv 0) pe_int (fun _ _=>rfl)) (@jR _ _ _ _ _ (@nX _ _ _ _ _ _ _ ix_tup (pv 1) pe_int (fun _ _=>rfl)) pa_nil (by rfl)) (by rfl)) (by decide) (by rfl) (by rfl)) (by rfl) (by first | exact .inl rfl | exact .inr rfl | assumption)) (@jS _ _ _ _ _ (@nK _ _ (3) _ _ _ _ sc_plus.nd rfl (ba rfl) (@oQ _ _ _ _ _ _ _ _ op_add (@oQ _ _ _ _ _ _ _ _ op_mulB (@nX _ _ _ _ _ _ _ ix_tup (pv 0) pe_int (fun _ _=>rfl)) (@oQ _ _ _ _ _ _ _ _ oi (@nX _ _ _ _ _ _ _ ix_tup (pv 1) pe_int (fun _ _=>rfl)) (pv 2))) (@oQ _ _ _ _ _ _ _ _ op_mulB (@nX _ _ _ _ _ _ _ ix_tup (pv 1) pe_int (fun _ _=>rfl)) (@oQ _ _ _ _ _ _ _ _ oi (@nX _ _ _ _ _ _ _ ix_tup (pv 0) pe_int (fun _ _=>rfl)) (pv 2)))) (by rfl) (by first | exact .inl rfl | exact .inr rfl | assumption)) (@jS _ _ _ _ _ (@nK _ _ (4) _ _ _ _ sc_plus.nd rfl (ba rfl) (@ql _ _ _ _ _ _ _ _ _ _ _ F_common_divisor (hr.mono (by first | decide | omega)) rfl j8 (@jR _ _ _ _ _ (pv 3) (@jR _ _ _ _ _ (pv 2) pa_nil (by rfl)) (by rfl)) (by decide) (by rfl) (by rfl)) (by rfl) (by first | exact .inl rfl | exact .inr rfl | assumption)) (@jY _ _ _ (@mG _ _ _ _ (@ut _ _ _ _ _ (@jR _ _ _ _ _ (@oQ _ _ _ _ _ _ _ _ oi (pv 3) (pv 4)) (@jR _ _ _ _ _ (@oQ _ _ _ _ _ _ _ _ op_mulB (@oQ _ _ _ _ _ _ _ _ oi (@nX _ _ _ _ _ _ _ ix_tup (pv 0) pe_int (fun _ _=>rfl)) (pv 2)) (@oQ _ _ _ _ _ _ _ _ oi (@nX _ _ _ _ _ _ _ ix_tup (pv 1) pe_int (fun _ _=>rfl)) (pv 4))) pa_nil (by rfl)) (by rfl)))))))),?_⟩
  rw [← Ec s1.low s2.low] at k
  have b10:0 < b1:=s1.low.1
  have b20:0 < b2:=s2.low.1
  have hd:0 < aL b1 b2:=bU _ (by omega)
  have hd0:(0:Int) < (aL b1 b2:Int):=by omega
  have bd:Bt 8900 (aL b1 b2:Int):=s1.bb.dvd (show b1≠0 by omega) (eO ..)
  have ld:=(bd.mono (by decide)).log hd0
  refine ⟨_,rfl,p1,_,1,_,rfl,rfl,h1,kr (j:=1) rfl,_,rfl,p2,_,1,_,rfl,rfl,h2,kr (j:=1) rfl,b1,b2,rfl,b20,?_⟩
  refine ⟨_,rfl,p1,_,0,_,rfl,rfl,h1,kr (j:=0) rfl,_,rfl,p2,_,1,_,rfl,rfl,h2,kr (j:=1) rfl,_,rfl,_,_,rfl,rfl,⟨hd0,ld⟩,_,_,rfl,rfl,⟨s1.bt.mono (by decide),(s2.bb.div).mono (by decide)⟩,?_⟩
  refine ⟨_,rfl,p2,_,0,_,rfl,rfl,h2,kr (j:=0) rfl,_,rfl,p1,_,1,_,rfl,rfl,h1,kr (j:=1) rfl,_,rfl,_,_,rfl,rfl,⟨hd0,ld⟩,_,_,rfl,rfl,⟨s2.bt.mono (by decide),(s1.bb.div).mono (by decide)⟩,_,_,rfl,rfl,?_⟩
  have he:0 < aL (t1 * (b2 / (aL b1 b2:Int))+t2 * (b1 / (aL b1 b2:Int))) (aL b1 b2:Int):=bU _ (by omega)
  have he0:(0:Int) < (aL (t1 * (b2 / (aL b1 b2:Int))+t2 * (b1 / (aL b1 b2:Int))) (aL b1 b2:Int):Int):=by omega
  have be:Bt 8900 (aL (t1 * (b2 / (aL b1 b2:Int))+t2 * (b1 / (aL b1 b2:Int))) (aL b1 b2:Int):Int):=bd.dvd (by omega) (cx ..)
  have le:=(be.mono (by decide)).log he0
  refine ⟨_,rfl,_,rfl,_,_,rfl,hd0,?_⟩
  refine ⟨_,rfl,_,rfl,_,_,rfl,rfl,⟨he0,le⟩,_,rfl,p1,_,1,_,rfl,rfl,h1,kr (j:=1) rfl,_,rfl,_,_,rfl,rfl,⟨hd0,ld⟩,_,rfl,p2,_,1,_,rfl,rfl,h2,kr (j:=1) rfl,_,rfl,_,_,rfl,rfl,⟨he0,le⟩,_,_,rfl,rfl,⟨(s1.bb.div).mono (by decide),(s2.bb.div).mono (by decide)⟩,(show 2≤aI by decide),fun x hx=>?_⟩
  exact k x hx
abbrev wv:bT:=top 14
theorem A0:FnScope ["first","second"] ["first","second"] (jO wv):=fsc
def xu (K:aa):Sp:=fun vs H Q _=>∃ p1 p2 q1 q2,vs=[.ref p1,.ref p2]∧FrAt K H p1 q1∧FrAt K H p2 q2∧Sz q1∧Sz q2∧∀ x H',H x=none→Same H H'→H' x=some (.tup [.int (kT q1 (-q2.1,q2.2)).1,.int (kT q1 (-q2.1,q2.2)).2])→Q (.ref x) H'
theorem Sz.neg {q:Int×Int} (h:Sz q):Sz (-q.1,q.2):=⟨⟨h.low.1,by have:=h.low.2;unfold Cop aL at *;simp only [gr];exact this⟩,h.bt.neg,h.bb⟩
theorem Bo (F:Fun K "minus" "minus" wv f fd) (T:Txt K mg a) (F_plus:Fn P w K mg base "plus" 2 ["first","second"] (qW K)):FnOk P w K mg base (CXo P w) 3 f fd ["first","second"] (xu K):=by
 refine F.okN A0 (fun vs H Q E h=>?_) (fun cdv A outer s H vs Q E hr h=>?_)
 ·obtain ⟨p1,p2,q1,q2,rfl,_⟩:=h
  rfl
 ·obtain ⟨p1,p2,⟨t1,b1⟩,⟨t2,b2⟩,rfl,h1,h2,s1,s2,k⟩:=h
  have hu:=jV hr
  refine ⟨_,(@jY _ _ _ (@mG _ _ _ _ (@ql _ _ _ _ _ _ _ _ _ _ _ F_plus (hr.mono (by first | decide | omega)) rfl j8 (@jR _ _ _ _ _ (pv 0) (@jR _ _ _ _ _ (@ut _ _ _ _ _ (@jR _ _ _ _ _ (@Er _ _ _ _ _ _ Ca (@nX _ _ _ _ _ _ _ ix_tup (pv 1) pe_int (fun _ _=>rfl))) (@jR _ _ _ _ _ (@nX _ _ _ _ _ _ _ ix_tup (pv 1) pe_int (fun _ _=>rfl)) pa_nil (by rfl)) (by rfl))) pa_nil (by rfl)) (by rfl)) (by decide) (by rfl) (by rfl)))),?_⟩
  refine ⟨_,rfl,_,rfl,p2,_,0,_,rfl,rfl,h2,kr (j:=0) rfl,_,rfl,_,rfl,p2,_,1,_,rfl,rfl,h2,kr (j:=1) rfl,(show 2≤aI by decide),fun y hy=>?_⟩
  have sy:=mC (o:=.tup [.int (-t2),.int b2]) hy
  refine ⟨p1,y,(t1,b1),(-t2,b2),rfl,h1.same sy,SqT.of jK,s1,s2.neg,fun x hx=>?_⟩
  refine k x _ (sy.free hx) (sy.trans (mC hx)) jK
abbrev qj:bT:=top 15
theorem wZ:FnScope ["first","second"] ["first","second"] (jO qj):=fsc
def tU (K:aa):Sp:=fun vs H Q _=>∃ p1 p2 q1 q2,vs=[.ref p1,.ref p2]∧FrAt K H p1 q1∧FrAt K H p2 q2∧Sz q1∧Sz q2∧Q (.bl (decide (q1.1 * q2.2 > q2.1 * q1.2))) H
theorem Bq (F:Fun K "is_above" "is_above" qj f fd) (T:Txt K mg a):FnOk P w K mg base (CXo P w) 1 f fd ["first","second"] (tU K):=by
 refine F.okN wZ (fun vs H Q E h=>?_) (fun cdv A outer s H vs Q E hr h=>?_)
 ·obtain ⟨p1,p2,q1,q2,rfl,_⟩:=h
  rfl
 ·obtain ⟨p1,p2,⟨t1,b1⟩,⟨t2,b2⟩,rfl,h1,h2,s1,s2,k⟩:=h
  have hu:=jV hr
  refine ⟨_,(@jY _ _ _ (@mG _ _ _ _ (@zu _ _ _ _ _ _ _ _ Ew (@oQ _ _ _ _ _ _ _ _ op_mulB (@nX _ _ _ _ _ _ _ ix_tup (pv 0) pe_int (fun _ _=>rfl)) (@nX _ _ _ _ _ _ _ ix_tup (pv 1) pe_int (fun _ _=>rfl))) (@oQ _ _ _ _ _ _ _ _ op_mulB (@nX _ _ _ _ _ _ _ ix_tup (pv 1) pe_int (fun _ _=>rfl)) (@nX _ _ _ _ _ _ _ ix_tup (pv 0) pe_int (fun _ _=>rfl))) (k9 _)))),?_⟩
  refine ⟨_,rfl,p1,_,0,_,rfl,rfl,h1,kr (j:=0) rfl,_,rfl,p2,_,1,_,rfl,rfl,h2,kr (j:=1) rfl,_,_,rfl,rfl,⟨s1.bt.mono (by decide),s2.bb.mono (by decide)⟩,_,rfl,p2,_,0,_,rfl,rfl,h2,kr (j:=0) rfl,_,rfl,p1,_,1,_,rfl,rfl,h1,kr (j:=1) rfl,_,_,rfl,rfl,⟨s2.bt.mono (by decide),s1.bb.mono (by decide)⟩,_,_,rfl,rfl,?_⟩
  exact k
end
structure Two (q1 q2:Int×Int):Prop where
 p1:0 < q1.2
 p2:0 < q2.2
 t1:Bt 9000 q1.1
 t2:Bt 9000 q2.1
 b1:Bt 9000 q1.2
 b2:Bt 9000 q2.2
 bb:Bt 9000 (q1.2 * q2.2)
abbrev Hl:=List (Str×Int×Int)
def jW (l:Hl) (n:Str):Int×Int:=(kc l n).2
def lK (l:Hl) (n:Str) (q:Int×Int):Hl:=if (l.any fun x=>decide (x.1=n))=true then l.map (fun x=>if x.1=n then (n,q) else x) else l++[(n,q)]
def qp (l:Hl) (n:Str):Hl:=l.filter fun x=>decide (x.1≠n)
def HeldZ (K:aa) (H:Hp) (p:ae) (l:Hl) (z:List ((Str×Int×Int)×ae)):Prop :=
 z.map (·.1)=l∧H p=some (.dK (z.map fun q=>(am q.1.1,V.ref q.2)))∧∀ q∈z,FrAt K H q.2 q.1.2
theorem HeldAt.toZ {K:aa}{H:Hp}{p:ae}{l:Hl} (h:HeldAt K H p l):∃ z,HeldZ K H p l z:=by
 obtain ⟨ts,hl,hd,ht⟩:=h
 exact ⟨l.zip ts,gZ (by omega),hd,ht⟩
theorem rq {α β:Type}:∀ z:List (α×β),(z.map (·.1)).zip (z.map (·.2))=z
 | []=>rfl
 | x::r=>congrArg (x::·) (rq r)
theorem HeldZ.held {K:aa}{H:Hp}{p:ae}{l:Hl}{z:List ((Str×Int×Int)×ae)} (h:HeldZ K H p l z):HeldAt K H p l:=by
 obtain ⟨rfl,hd,ht⟩:=h
 refine ⟨z.map (·.2),by rw [af,af],?_,?_⟩
 ·rw [rq];exact hd
 ·rw [rq];exact ht
theorem wP {K:aa}{H:Hp}{p x:ae}{q:Int×Int}{kvs:List (Key×V)}{o:HO} (hp:H p=some (.dK kvs)) (h:FrAt K H x q):FrAt K (upd H p o) x q :=
 oI h fun c u e y=>by
  rw [jJ (wL e hp (by rcases y with ⟨xs,rfl | ⟨ob,rfl⟩⟩ <;> intro z <;> cases z))]
  exact e
theorem HeldZ.val {K:aa}{H:Hp}{p:ae}{l:Hl}{z:List ((Str×Int×Int)×ae)} (h:HeldZ K H p l z) (n:Str) :
  (n∉l.map (·.1)∧l5 (z.map fun q=>((am q.1.1:Key),V.ref q.2)) (am n)=none∧jW l n=(0,1))∨(n∈l.map (·.1)∧∃ x,l5 (z.map fun q=>((am q.1.1:Key),V.ref q.2)) (am n)=some (.ref x)∧FrAt K H x (jW l n)):=by
 obtain ⟨rfl,hd,ht⟩:=h
 rw [mz (key:=fun q:(Str×Int×Int)×ae=>q.1.1)]
 unfold jW kc
 rw [dY]
 have e:((fun q:Str×Int×Int=>decide (q.1=n)) ∘ fun x:(Str×Int×Int)×ae=>x.1)=fun x=>decide (x.1.1=n):=rfl
 rw [e]
 cases hf:z.find? (fun x=>decide (x.1.1=n)) with
 | none =>
  left
  refine ⟨fun hn=>?_,rfl,rfl⟩
  rw [bW] at hf
  rw [aF] at hn
  obtain ⟨q,hq,e2⟩:=aj.mp hn
  exact hf q hq (decide_eq_true e2)
 | some q =>
  right
  have hq:=dD hf
  refine ⟨?_,q.2,rfl,ht q hq⟩
  rw [aF]
  exact aj.mpr ⟨q,hq,by simpa using eS hf⟩
theorem HeldZ.put {K:aa}{H:Hp}{p x:ae}{l:Hl}{z:List ((Str×Int×Int)×ae)}{n:Str}{q:Int×Int} (h:HeldZ K H p l z) (hx:FrAt K H x q) :
  ∃ z',HeldZ K (upd H p (.dK (nJ (z.map fun q=>((am q.1.1:Key),V.ref q.2)) (am n) (.ref x)))) p (lK l n q) z':=by
 obtain ⟨rfl,hd,ht⟩:=h
 refine ⟨if (z.any fun y=>decide (y.1.1=n))=true then z.map (fun y=>if y.1.1=n then ((n,q),x) else y) else z++[((n,q),x)],?_,?_,?_⟩
 ·unfold lK
  rw [gQ]
  by_cases hb:(z.any fun y=>decide (y.1.1=n))=true
  ·rw [if_pos hb,if_pos (by exact hb),aF,aF]
   refine bB fun y _=>?_
   show (if y.1.1=n then ((n,q),x) else y).1=if y.1.1=n then (n,q) else y.1
   by_cases e:y.1.1=n
   ·rw [if_pos e,if_pos e]
   ·rw [if_neg e,if_neg e]
  ·rw [if_neg hb,if_neg (by exact hb),aD]
   rfl
 ·rw [jK]
  unfold nJ
  rw [gQ]
  have eb:((fun kv:Key×V=>decide (kv.1=am n)) ∘ fun q:(Str×Int×Int)×ae=>((am q.1.1:Key),V.ref q.2))=fun y=>decide (y.1.1=n):=by
   funext y
   show decide ((am y.1.1:Key)=am n)=_
   rw [sG]
  rw [eb]
  by_cases hb:(z.any fun y=>decide (y.1.1=n))=true
  ·rw [if_pos hb,if_pos hb,aF,aF]
   congr 2
   refine bB fun y _=>?_
   show (if (am y.1.1:Key)=am n then ((am y.1.1:Key),V.ref x) else ((am y.1.1:Key),V.ref y.2))=((am (if y.1.1=n then ((n,q),x) else y).1.1:Key),V.ref (if y.1.1=n then ((n,q),x) else y).2)
   by_cases e:y.1.1=n
   ·rw [if_pos (by rw [e]),if_pos e,e]
   ·rw [if_neg (fun w=>e (fU w)),if_neg e]
  ·rw [if_neg hb,if_neg hb,aD]
   rfl
 ·intro y hy
  refine wP hd ?_
  by_cases hb:(z.any fun y=>decide (y.1.1=n))=true
  ·rw [if_pos hb] at hy
   obtain ⟨u,hu,rfl⟩:=aj.mp hy
   by_cases e:u.1.1=n
   ·rw [if_pos e];exact hx
   ·rw [if_neg e];exact ht u hu
  ·rw [if_neg hb] at hy
   rcases aX.mp hy with hy | hy
   ·exact ht y hy
   ·rw [aE.mp hy];exact hx
theorem HeldZ.drop {K:aa}{H:Hp}{p:ae}{l:Hl}{z:List ((Str×Int×Int)×ae)}{n:Str} (h:HeldZ K H p l z) :
  ∃ z',HeldZ K (upd H p (.dK (uW (z.map fun q=>((am q.1.1:Key),V.ref q.2)) (am n)))) p (qp l n) z':=by
 obtain ⟨rfl,hd,ht⟩:=h
 refine ⟨z.filter (fun y=>decide (y.1.1≠n)),?_,?_,fun y hy=>wP hd (ht y (dJ.mp hy).1)⟩
 ·unfold qp
  rw [eT]
  rfl
 ·rw [jK]
  unfold uW
  rw [eT]
  have eb:((fun kv:Key×V=>decide (kv.1≠am n)) ∘ fun q:(Str×Int×Int)×ae=>((am q.1.1:Key),V.ref q.2))=fun y=>decide (y.1.1≠n):=by
   funext y
   show decide ((am y.1.1:Key)≠am n)=_
   rw [b5,decide_eq_true_iff,decide_eq_true_iff]
   exact ⟨fun h w=>h (by rw [w]),fun h w=>h (fU w)⟩
  rw [eb]
theorem pS (l:Hl) (n:Str):kc l n=(n,jW l n):=by
 unfold jW kc
 cases h:l.find? fun q=>decide (q.1=n) with
 | none=>rfl
 | some q =>
  have:q.1=n:=by simpa using eS h
  show q=(n,q.2)
  rw [← this]
theorem kH (l:Hl) (n m:Str) (q:Int×Int):jW (lK l n q) m=if m=n then q else jW l m:=by
 unfold jW kc lK
 by_cases hb:(l.any fun x=>decide (x.1=n))=true
 ·rw [if_pos hb]
  induction l with
  | nil=>cases hb
  | cons x r ih =>
   rw [au,bD,bD]
   by_cases e:x.1=n
   ·rw [if_pos e]
    by_cases em:m=n
    ·subst em
     rw [if_pos rfl,decide_eq_true (show m=m from rfl)]
     rfl
    ·rw [if_neg em]
     have e1:decide ((n,q).1=m)=false:=decide_eq_false fun z=>em z.symm
     have e2:decide (x.1=m)=false:=decide_eq_false fun z=>em (z.symm.trans e)
     rw [e1,e2]
     by_cases hr:(r.any fun x=>decide (x.1=n))=true
     ·have:=ih hr
      rw [if_neg em] at this
      exact this
     ·have er:r.map (fun x=>if x.1=n then (n,q) else x)=r:=by
       conv=>rhs;rw [← hU r]
       refine bB fun y hy=>if_neg fun z=>hr (cT.mpr ⟨y,hy,decide_eq_true z⟩)
      show (Option.getD ((r.map fun x=>if x.1=n then (n,q) else x).find? fun q=>decide (q.1=m)) (m,0,1)).2=_
      rw [er]
   ·rw [if_neg e]
    have hr:(r.any fun x=>decide (x.1=n))=true:=by
     rw [gF,decide_eq_false e,Bool.false_or] at hb
     exact hb
    by_cases em:x.1=m
    ·rw [decide_eq_true em]
     have:¬ m=n:=fun z=>e (em.trans z)
     rw [if_neg this]
    ·rw [decide_eq_false em]
     exact ih hr
 ·rw [if_neg hb,fw]
  by_cases em:m=n
  ·subst em
   rw [if_pos rfl]
   have:l.find? (fun q=>decide (q.1=m))=none:=by
    rw [bW]
    intro x hx z
    exact hb (cT.mpr ⟨x,hx,z⟩)
   rw [this,Option.none_or,bD,decide_eq_true (show (m,q).1=m from rfl)]
   rfl
  ·rw [if_neg em]
   have:[(n,q)].find? (fun q=>decide (q.1=m))=none:=by
    rw [bD,decide_eq_false (show ¬ (n,q).1=m from fun z=>em z.symm)]
    rfl
   rw [this,Option.or_none]
theorem vz (l:Hl) (n m:Str):jW (qp l n) m=if m=n then (0,1) else jW l m:=by
 unfold jW kc qp
 rw [List.find?_filter]
 by_cases em:m=n
 ·subst em
  rw [if_pos rfl]
  have:l.find? (fun a=>decide (decide (a.1≠m)=true∧decide (a.1=m)=true))=none:=by
   rw [bW]
   intro x hx z
   have z:=of_decide_eq_true z
   exact of_decide_eq_true z.1 (of_decide_eq_true z.2)
  rw [this]
  rfl
 ·rw [if_neg em]
  have:(fun a:Str×Int×Int=>decide (decide (a.1≠n)=true∧decide (a.1=m)=true))=fun a=>decide (a.1=m):=by
   funext x
   rw [b5]
   simp only [decide_eq_true_iff]
   exact ⟨fun h=>h.2,fun h=>⟨fun z=>em (h.symm.trans z),h⟩⟩
  rw [this]
theorem kA (l:Hl) (n:Str) (q:Int×Int):(lK l n q).map (·.1)=if n∈l.map (·.1) then l.map (·.1) else l.map (·.1)++[n]:=by
 unfold lK
 by_cases hb:(l.any fun x=>decide (x.1=n))=true
 ·have:n∈l.map (·.1):=by
   obtain ⟨x,hx,e⟩:=cT.mp hb
   exact aj.mpr ⟨x,hx,of_decide_eq_true e⟩
  rw [if_pos hb,if_pos this,aF]
  refine bB fun x _=>?_
  show (if x.1=n then (n,q) else x).1=x.1
  by_cases e:x.1=n
  ·rw [if_pos e,e]
  ·rw [if_neg e]
 ·have:¬ n∈l.map (·.1):=fun z=>by
   obtain ⟨x,hx,e⟩:=aj.mp z
   exact hb (cT.mpr ⟨x,hx,decide_eq_true e⟩)
  rw [if_neg hb,if_neg this,aD]
  rfl
theorem uC {l:Hl} (n:Str) (q:Int×Int) (h:(l.map (·.1)).Nodup):((lK l n q).map (·.1)).Nodup:=by
 rw [kA]
 by_cases hn:n∈l.map (·.1)
 ·rw [if_pos hn];exact h
 ·rw [if_neg hn];exact p4 h hn
theorem tm (l:Hl) (n:Str):(qp l n).map (·.1)=(l.map (·.1)).filter fun x=>decide (x≠n):=by
 unfold qp
 rw [eT]
 rfl
theorem Dv {l:Hl} (n:Str) (h:(l.map (·.1)).Nodup):((qp l n).map (·.1)).Nodup:=by
 rw [tm]
 exact h.filter _
theorem wA (l:Hl) (n:Str) (q:Int×Int):(lK l n q).length≤l.length+1:=by
 have:=congrArg cL (kA l n q)
 rw [af] at this
 rw [this]
 split
 ·rw [af];omega
 ·rw [aO,af];exact az _
theorem xL (l:Hl) (n:Str):(qp l n).length≤l.length:=eB _ _
def qu (l:Hl) (o1 o2:Str) (q:Int×Int):Hl :=
 let r:=kT (jW l o1) (-q.1,q.2)
 let l1:=if r=(0,1) then qp l o1 else lK l o1 r
 lK l1 o2 (kT (jW l1 o2) q)
def uR (l:Hl) (o1 o2:Str) (q:Int×Int):Hl :=
 let l1:=lK l o1 (kT (jW l o1) (-q.1,q.2))
 lK l1 o2 (kT (jW l1 o2) q)
def pW {β:Type} (L:List (Ent×β)) (h:Str) (g:Ent→Ent):List (Ent×β):=L.map fun x=>if x.1.nm=h then (g x.1,x.2) else x
theorem kF {β γ:Type}{L:List (Ent×β)}{h:Str}{g:Ent→Ent} (v:Ent×β→γ) (hv:∀ x,v (g x.1,x.2)=v x):(pW L h g).map v=L.map v:=by
 unfold pW
 rw [aF]
 refine bB fun x _=>?_
 show v (if x.1.nm=h then (g x.1,x.2) else x)=v x
 by_cases e:x.1.nm=h
 ·rw [if_pos e,hv]
 ·rw [if_neg e]
theorem xx {β:Type}{L:List (Ent×β)}{h:Str}{g:Ent→Ent}{y:Ent×β} (hy:y∈pW L h g):∃ x∈L,(x.1.nm=h∧y=(g x.1,x.2))∨(¬ x.1.nm=h∧y=x):=by
 unfold pW at hy
 obtain ⟨x,hx,rfl⟩:=aj.mp hy
 refine ⟨x,hx,?_⟩
 by_cases e:x.1.nm=h
 ·rw [if_pos e];exact .inl ⟨e,rfl⟩
 ·rw [if_neg e];exact .inr ⟨e,rfl⟩
theorem y1 {α β:Type}{key:α→β}:∀ {l:List α}{x y:α},(l.map key).Nodup→x∈l→y∈l→key x=key y→x=y
 | [],_,_,_,hx,_,_=>by cases hx
 | z::r,x,y,h,hx,hy,e=>by
  obtain ⟨h1,h2⟩:=aw.mp h
  rcases ai.mp hx with ex | hx'
  ·rcases ai.mp hy with ey | hy'
   ·exact ex.trans ey.symm
   ·rw [ex] at e
    exact absurd (aj.mpr ⟨y,hy',e.symm⟩) h1
  ·rcases ai.mp hy with ey | hy'
   ·rw [ey] at e
    exact absurd (aj.mpr ⟨x,hx',e⟩) h1
   ·exact y1 h2 hx' hy' e
theorem xO {L:List (Ent×ae)}{h:Str}{e:Ent×ae} (he:kN L h=some e):e.1.nm=h:=by
 unfold kN at he
 simpa using eS he
theorem vx {L:List (Ent×ae)}{h:Str}{e x:Ent×ae} (nd:(L.map (·.1.nm)).Nodup) (he:kN L h=some e) (hx:x∈L) (hn:x.1.nm=h):x=e :=
 y1 (key:=fun x:Ent×ae=>x.1.nm) nd hx (mW he) (hn.trans (xO he).symm)
theorem BookAt.reheld {K:aa}{C:ae}{H H':Hp}{b:ae}{z:BA}{ppl:List Str}{L:List (Ent×ae)}{h:Str}{e:Ent×ae}{g:Ent→Ent} (B:BookAt K C H b z ppl L) (nd:(L.map (·.1.nm)).Nodup) (he:kN L h=some e)
  (hg:∀ x,g x={ x with held:=(g x).held }) (hH:HeldAt K H' e.2 (g e.1).held) (kp:∀ c o,H c=some o→c≠e.2→H' c=some o):BookAt K C H' b z ppl (pW L h g):=by
 have hem:=mW he
 have e2:e.2∈L.map (·.2):=aj.mpr ⟨e,hem,rfl⟩
 obtain ⟨n1,r1⟩:=aw.mp B.nd
 obtain ⟨n2,r2⟩:=aw.mp r1
 obtain ⟨n3,r3⟩:=aw.mp r2
 obtain ⟨n4,r4⟩:=aw.mp r3
 obtain ⟨n5,r5⟩:=aw.mp r4
 obtain ⟨n6,r6⟩:=aw.mp r5
 have g1:∀ x,(g x).nm=x.nm:=fun x=>by rw [hg x]
 have g2:∀ x,(g x).th=x.th:=fun x=>by rw [hg x]
 have g3:∀ x,(g x).mr=x.mr:=fun x=>by rw [hg x]
 have g4:∀ x,(g x).ls=x.ls:=fun x=>by rw [hg x]
 refine ⟨kp _ _ B.ob fun q=>n1 (q ▸ by simp only [ai];right;right;right;right;right;exact e2),kp _ _ B.pp fun q=>n2 (q ▸ by simp only [ai];right;right;right;right;exact e2),?_,?_,?_,?_,?_,?_,B.p6,by unfold pW;rw [af];exact B.h8⟩
 ·rw [kF (v:=fun e=>((am e.1.nm:Key),V.int e.1.th)) fun x=>by rw [g1,g2]]
  exact kp _ _ B.tt fun q=>n3 (q ▸ by simp only [ai];right;right;right;exact e2)
 ·rw [kF (v:=fun e=>((am e.1.nm:Key),V.int e.1.mr)) fun x=>by rw [g1,g3]]
  exact kp _ _ B.mm fun q=>n4 (q ▸ by simp only [ai];right;right;exact e2)
 ·rw [kF (v:=fun e=>((am e.1.nm:Key),V.int e.1.ls)) fun x=>by rw [g1,g4]]
  exact kp _ _ B.ll fun q=>n5 (q ▸ by simp only [ai];right;exact e2)
 ·rw [kF (v:=fun e=>((am e.1.nm:Key),V.ref e.2)) fun x=>by rw [g1]]
  exact B.hh.keep fun o h=>kp _ _ h fun q=>n6 (q ▸ e2)
 ·intro y hy
  obtain ⟨x,hx,⟨hn,rfl⟩ | ⟨hn,rfl⟩⟩:=xx hy
  ·rw [vx nd he hx hn]
   exact hH
  ·have hy2:y.2≠e.2:=fun q=>hn (by rw [y1 (key:=fun x:Ent×ae=>x.2) r6 hx hem q];exact xO he)
   obtain ⟨kvs,hk⟩:∃ kvs,H e.2=some (.dK kvs):=by
    obtain ⟨ts,_,q,_⟩:=B.he e hem
    exact ⟨_,q⟩
   refine (B.he y hx).keep (fun o ho=>kp _ _ ho hy2) fun c o ho x=>kp c o ho fun q=>?_
   rw [q,hk] at ho
   cases ho
   rcases x with ⟨xs,z | ⟨ob,z⟩⟩ <;> cases z
 ·rw [kF (v:=fun e=>e.2) fun x=>rfl]
  exact B.nd
theorem BookAt.renum {K:aa}{C:ae}{H H':Hp}{b:ae}{z:BA}{ppl:List Str}{L:List (Ent×ae)}{h:Str}{g:Ent→Ent}{d:ae} (B:BookAt K C H b z ppl L) (hd:d=z.dt∨d=z.dm∨d=z.dl)
  (g1:∀ x,(g x).nm=x.nm) (g2:∀ x,(g x).held=x.held)
  (tt:H' z.dt=some (.dK ((pW L h g).map fun e=>(am e.1.nm,.int e.1.th)))) (mm:H' z.dm=some (.dK ((pW L h g).map fun e=>(am e.1.nm,.int e.1.mr)))) (ll:H' z.dl=some (.dK ((pW L h g).map fun e=>(am e.1.nm,.int e.1.ls))))
  (kp:∀ c o,H c=some o→c≠d→H' c=some o):BookAt K C H' b z ppl (pW L h g):=by
 obtain ⟨n1,r1⟩:=aw.mp B.nd
 obtain ⟨n2,r2⟩:=aw.mp r1
 obtain ⟨n3,r3⟩:=aw.mp r2
 obtain ⟨n4,r4⟩:=aw.mp r3
 obtain ⟨n5,r5⟩:=aw.mp r4
 obtain ⟨n6,r6⟩:=aw.mp r5
 obtain ⟨kvs,hk⟩:∃ kvs,H d=some (.dK kvs):=by
  rcases hd with rfl | rfl | rfl
  ·exact ⟨_,B.tt⟩
  ·exact ⟨_,B.mm⟩
  ·exact ⟨_,B.ll⟩
 refine ⟨kp _ _ B.ob fun q=>n1 ?_,kp _ _ B.pp fun q=>n2 ?_,tt,mm,ll,?_,?_,?_,B.p6,by unfold pW;rw [af];exact B.h8⟩
 ·rcases hd with e | e | e <;> (rw [q,e];simp)
 ·rcases hd with e | e | e <;> (rw [q,e];simp)
 ·rw [kF (v:=fun e=>((am e.1.nm:Key),V.ref e.2)) fun x=>by rw [g1]]
  refine B.hh.keep fun o h=>kp _ _ h fun q=>?_
  rcases hd with e | e | e
  ·exact n3 (by rw [← e,← q];simp)
  ·exact n4 (by rw [← e,← q];simp)
  ·exact n5 (by rw [← e,← q];simp)
 ·intro y hy
  have:∃ x∈L,x.2=y.2∧x.1.held=y.1.held:=by
   obtain ⟨x,hx,⟨hn,rfl⟩ | ⟨hn,rfl⟩⟩:=xx hy
   ·exact ⟨x,hx,rfl,(g2 _).symm⟩
   ·exact ⟨y,hx,rfl,rfl⟩
  obtain ⟨x,hx,e1,e2⟩:=this
  rw [← e1,← e2]
  have hx2:x.2∈L.map (·.2):=aj.mpr ⟨x,hx,rfl⟩
  refine (B.he x hx).keep (fun o ho=>kp _ _ ho fun q=>?_) fun c o ho w=>kp c o ho fun q=>?_
  ·rcases hd with e | e | e
   ·exact n3 (by rw [← e,← q];simp only [ai];right;right;right;exact hx2)
   ·exact n4 (by rw [← e,← q];simp only [ai];right;right;exact hx2)
   ·exact n5 (by rw [← e,← q];simp only [ai];right;exact hx2)
  ·rw [q,hk] at ho
   cases ho
   rcases w with ⟨xs,z | ⟨ob,z⟩⟩ <;> cases z
 ·rw [kF (v:=fun e=>e.2) fun x=>rfl]
  exact B.nd
theorem BookAt.ne {K:aa}{C:ae}{H:Hp}{b:ae}{z:BA}{ppl:List Str}{L:List (Ent×ae)} (B:BookAt K C H b z ppl L):z.dt≠z.dm∧z.dt≠z.dl∧z.dm≠z.dl:=by
 obtain ⟨n1,r1⟩:=aw.mp B.nd
 obtain ⟨n2,r2⟩:=aw.mp r1
 obtain ⟨n3,r3⟩:=aw.mp r2
 obtain ⟨n4,r4⟩:=aw.mp r3
 exact ⟨fun q=>n3 (by rw [q];simp),fun q=>n3 (by rw [q];simp),fun q=>n4 (by rw [q];simp)⟩
theorem ww {L:List (Ent×ae)}{h:Str}{g:Ent→Ent}{n:Int} (v:Ent→Int) (hh:lr L h=true) (g1:∀ x,(g x).nm=x.nm) (hv:∀ x,v (g x)=n) :
  nJ (L.map fun e=>((am e.1.nm:Key),V.int (v e.1))) (am h) (.int n)=(pW L h g).map fun e=>((am e.1.nm:Key),V.int (v e.1)):=by
 have hs:(l5 (L.map fun e=>((am e.1.nm:Key),V.int (v e.1))) (am h)).isSome=true:=by
  rw [mz (key:=fun e:Ent×ae=>e.1.nm),cJ]
  exact hh
 unfold nJ
 rw [qJ,if_pos hs]
 unfold pW
 rw [aF,aF]
 refine bB fun x _=>?_
 show (if (am x.1.nm:Key)=am h then ((am x.1.nm:Key),V.int n) else ((am x.1.nm:Key),V.int (v x.1)))=((am (if x.1.nm=h then (g x.1,x.2) else x).1.nm:Key),V.int (v (if x.1.nm=h then (g x.1,x.2) else x).1))
 by_cases e:x.1.nm=h
 ·rw [if_pos (by rw [e]),if_pos e,g1,hv]
 ·rw [if_neg (fun w=>e (fU w)),if_neg e]
section
variable {P:aT}{w:bv}{K:aa}{mg:Str→Option ah}{base:bM}{a:Adr}{f:ae}{fd:bR}
def qD (K:aa) (a:Adr) (ad:BA→ae) (g:Int→Ent→Ent) (neg:Bool):Sp:=fun vs H Q E=>∃ b z ppl L h n,vs=[.ref b,.str h,.int n]∧BookAt K a.Book H b z ppl L∧Nm h ∧
 (lr L h=false→E (.ref a.NoHouse) none H)∧(lr L h=true→neg=true→n < 0→E (.ref a.NoLoss) none H) ∧
 (lr L h=true→(neg=true→0≤n)→∀ H',BookAt K a.Book H' b z ppl (pW L h (g n))→(∀ c o,H c=some o→c≠ad z→H' c=some o)→Q .non H')
abbrev nF:bT:=kD (top 22) 9
theorem sL:FnScope ["self","house","number"] ["self","house","number"] (jO nF):=fsc
theorem z9 (F:Fun K "things" "Book.things" nF f fd) (T:Txt K mg a) (M_need_house:Mt P w K mg base a.Book "need_house" 2 ["self","name"] (km K a)):FnOk P w K mg base (CXo P w) 3 f fd ["self","house","number"] (qD K a (·.dt) (fun n x=>{ x with th:=n }) false):=by
 refine F.okX sL (fun vs H Q E h=>?_) (fun cdv A outer s H vs Q E hr h=>?_)
 ·obtain ⟨b,z,ppl,L,h,n,rfl,_⟩:=h
  rfl
 ·obtain ⟨b,z,ppl,L,h,n,rfl,B,nm,k1,k2,k3⟩:=h
  have hu:=jV hr
  refine ⟨_,(@jS _ _ _ _ _ (@kP _ _ _ _ (ny (pv 0) M_need_house (hr.mono (by first | decide | omega)) ka (@jR _ _ _ _ _ (pv 1) pa_nil (by rfl))) (by rfl)) (@jY _ _ _ (lZ hu (kq (pv 0) rfl) (pv 1) (pv 2) rfl))),?_⟩
  refine ⟨_,rfl,b,_,_,rfl,B.ob,mM z (by decide +kernel) (by decide +kernel) (by decide +kernel) (by decide +kernel) (by decide +kernel),_,rfl,b,z,ppl,L,h,rfl,B,nm,fun hh=>?_,fun hh=>k1 hh⟩
  refine ⟨_,rfl,_,rfl,b,_,_,_,_,rfl,B.ob,T.cl,T.nA_things_of,pT z,_,rfl,z.dt,_,rfl,DPut.k (k:=am h) B.tt ?_,?_⟩
  ·rw [af];exact a7 B.h8 (by decide)
  ·have hb:=B.renum (h:=h) (g:=fun x=>{ x with th:=n }) (H':=upd H z.dt (.dK (nJ (L.map fun e=>((am e.1.nm:Key),V.int e.1.th)) (am h) (.int n)))) (.inl rfl) (fun _=>rfl) (fun _=>rfl) ?_ ?_ ?_ (fun c o hc hn=>by rw [jJ hn];exact hc)
   ·exact k3 hh (fun z=>by cases z) _ hb fun c o hc hn=>by rw [jJ hn];exact hc
   ·rw [jK,ww (g:=fun x=>{ x with th:=n }) (fun x=>x.th) hh (fun _=>rfl) (fun _=>rfl)]
   ·rw [jJ (B.ne.1.symm),kF (v:=fun e=>((am e.1.nm:Key),V.int e.1.mr)) fun x=>rfl]
    exact B.mm
   ·rw [jJ (B.ne.2.1.symm),kF (v:=fun e=>((am e.1.nm:Key),V.int e.1.ls)) fun x=>rfl]
    exact B.ll
abbrev pf:bT:=kD (top 22) 10
theorem vX:FnScope ["self","house","number"] ["self","house","number"] (jO pf):=fsc
theorem Dn (F:Fun K "mark" "Book.mark" pf f fd) (T:Txt K mg a) (M_need_house:Mt P w K mg base a.Book "need_house" 2 ["self","name"] (km K a)):FnOk P w K mg base (CXo P w) 3 f fd ["self","house","number"] (qD K a (·.dm) (fun n x=>{ x with mr:=n }) false):=by
 refine F.okX vX (fun vs H Q E h=>?_) (fun cdv A outer s H vs Q E hr h=>?_)
 ·obtain ⟨b,z,ppl,L,h,n,rfl,_⟩:=h
  rfl
 ·obtain ⟨b,z,ppl,L,h,n,rfl,B,nm,k1,k2,k3⟩:=h
  have hu:=jV hr
  refine ⟨_,(@jS _ _ _ _ _ (@kP _ _ _ _ (ny (pv 0) M_need_house (hr.mono (by first | decide | omega)) ka (@jR _ _ _ _ _ (pv 1) pa_nil (by rfl))) (by rfl)) (@jY _ _ _ (lZ hu (kq (pv 0) rfl) (pv 1) (pv 2) rfl))),?_⟩
  refine ⟨_,rfl,b,_,_,rfl,B.ob,mM z (by decide +kernel) (by decide +kernel) (by decide +kernel) (by decide +kernel) (by decide +kernel),_,rfl,b,z,ppl,L,h,rfl,B,nm,fun hh=>?_,fun hh=>k1 hh⟩
  refine ⟨_,rfl,_,rfl,b,_,_,_,_,rfl,B.ob,T.cl,T.nA_mark_of,tO z,_,rfl,z.dm,_,rfl,DPut.k (k:=am h) B.mm ?_,?_⟩
  ·rw [af];exact a7 B.h8 (by decide)
  ·have hb:=B.renum (h:=h) (g:=fun x=>{ x with mr:=n }) (H':=upd H z.dm (.dK (nJ (L.map fun e=>((am e.1.nm:Key),V.int e.1.mr)) (am h) (.int n)))) (.inr (.inl rfl)) (fun _=>rfl) (fun _=>rfl) ?_ ?_ ?_ (fun c o hc hn=>by rw [jJ hn];exact hc)
   ·exact k3 hh (fun z=>by cases z) _ hb fun c o hc hn=>by rw [jJ hn];exact hc
   ·rw [jJ (B.ne.1),kF (v:=fun e=>((am e.1.nm:Key),V.int e.1.th)) fun x=>rfl]
    exact B.tt
   ·rw [jK,ww (g:=fun x=>{ x with mr:=n }) (fun x=>x.mr) hh (fun _=>rfl) (fun _=>rfl)]
   ·rw [jJ (B.ne.2.2.symm),kF (v:=fun e=>((am e.1.nm:Key),V.int e.1.ls)) fun x=>rfl]
    exact B.ll
abbrev pj:bT:=kD (top 22) 11
theorem vY:FnScope ["self","house","number"] ["self","house","number"] (jO pj):=fsc
theorem Do (F:Fun K "loss" "Book.loss" pj f fd) (T:Txt K mg a) (M_need_house:Mt P w K mg base a.Book "need_house" 2 ["self","name"] (km K a)) (F_need_loss:Fn P w K mg base "need_loss" 1 ["number"] (om a)):FnOk P w K mg base (CXo P w) 3 f fd ["self","house","number"] (qD K a (·.dl) (fun n x=>{ x with ls:=n }) true):=by
 refine F.okX vY (fun vs H Q E h=>?_) (fun cdv A outer s H vs Q E hr h=>?_)
 ·obtain ⟨b,z,ppl,L,h,n,rfl,_⟩:=h
  rfl
 ·obtain ⟨b,z,ppl,L,h,n,rfl,B,nm,k1,k2,k3⟩:=h
  have hu:=jV hr
  refine ⟨_,(@jS _ _ _ _ _ (@kP _ _ _ _ (ny (pv 0) M_need_house (hr.mono (by first | decide | omega)) ka (@jR _ _ _ _ _ (pv 1) pa_nil (by rfl))) (by rfl)) (@jS _ _ _ _ _ (@kP _ _ _ _ (@ql _ _ _ _ _ _ _ _ _ _ _ F_need_loss (hr.mono (by first | decide | omega)) rfl ka (@jR _ _ _ _ _ (pv 2) pa_nil (by rfl)) (by decide) (by rfl) (by rfl)) (by rfl)) (@jY _ _ _ (lZ hu (kq (pv 0) rfl) (pv 1) (pv 2) rfl)))),?_⟩
  refine ⟨_,rfl,b,_,_,rfl,B.ob,mM z (by decide +kernel) (by decide +kernel) (by decide +kernel) (by decide +kernel) (by decide +kernel),_,rfl,b,z,ppl,L,h,rfl,B,nm,fun hh=>?_,fun hh=>k1 hh⟩
  refine ⟨_,rfl,n,rfl,fun hl=>k2 hh rfl hl,fun hn0=>?_⟩
  refine ⟨_,rfl,_,rfl,b,_,_,_,_,rfl,B.ob,T.cl,T.nA_loss_of,tP z,_,rfl,z.dl,_,rfl,DPut.k (k:=am h) B.ll ?_,?_⟩
  ·rw [af];exact a7 B.h8 (by decide)
  ·have hb:=B.renum (h:=h) (g:=fun x=>{ x with ls:=n }) (H':=upd H z.dl (.dK (nJ (L.map fun e=>((am e.1.nm:Key),V.int e.1.ls)) (am h) (.int n)))) (.inr (.inr rfl)) (fun _=>rfl) (fun _=>rfl) ?_ ?_ ?_ (fun c o hc hn=>by rw [jJ hn];exact hc)
   ·exact k3 hh (fun _=>hn0) _ hb fun c o hc hn=>by rw [jJ hn];exact hc
   ·rw [jJ (B.ne.2.1),kF (v:=fun e=>((am e.1.nm:Key),V.int e.1.th)) fun x=>rfl]
    exact B.tt
   ·rw [jJ (B.ne.2.2),kF (v:=fun e=>((am e.1.nm:Key),V.int e.1.mr)) fun x=>rfl]
    exact B.mm
   ·rw [jK,ww (g:=fun x=>{ x with ls:=n }) (fun x=>x.ls) hh (fun _=>rfl) (fun _=>rfl)]
end
theorem EG (i j:Int):DQ [V.int i,V.int j] [V.int 0,V.int 1]=decide ((i,j)=((0:Int),(1:Int))):=by
 show (eqV (.int i) (.int 0) && (eqV (.int j) (.int 1) && true))=_
 have e1:∀ i j:Int,eqV (.int i) (.int j)=decide (i=j):=fun i j=>rfl
 rw [e1,e1,Bool.and_true,b5,dB,decide_eq_true_iff,decide_eq_true_iff,decide_eq_true_iff,Prod.mk.injEq]
theorem bt0 (k:Nat):Bt k 0:=dM k
theorem bt1 {k:Nat} (h:k≠0):Bt k 1:=Nat.one_lt_two_pow h
theorem sz0:Sz (0,1):=⟨⟨by decide,(rfl:aL 0 1=1)⟩,bt0 _,bt1 (by decide)⟩
theorem HeldZ.same {K:aa}{H H':Hp}{p:ae}{l:Hl}{z:List ((Str×Int×Int)×ae)} (h:HeldZ K H p l z) (s:Same H H'):HeldZ K H' p l z :=
 ⟨h.1,s _ _ h.2.1,fun q hq=>(h.2.2 q hq).same s⟩
theorem HeldZ.get {K:aa}{H:Hp}{p:ae}{l:Hl}{z:List ((Str×Int×Int)×ae)} (h:HeldZ K H p l z) {o:ae} (ho:FrAt K H o (0,1)) (n:Str) :
  ∃ x,(l5 (z.map fun q=>((am q.1.1:Key),V.ref q.2)) (am n)).getD (.ref o)=.ref x∧FrAt K H x (jW l n):=by
 rcases h.val n with ⟨_,hv,hg⟩ | ⟨_,x,hv,hx⟩
 ·exact ⟨o,by rw [hv];rfl,by rw [hg];exact ho⟩
 ·exact ⟨x,by rw [hv];rfl,hx⟩
def mB (l:Hl) (o:Str) (q:Int×Int):Prop:=¬ 0 < q.1∨q.1 * (jW l o).2 > (jW l o).1 * q.2
instance (l:Hl) (o:Str) (q:Int×Int):Decidable (mB l o q):=by unfold mB;infer_instance
section
variable {P:aT}{w:bv}{K:aa}{mg:Str→Option ah}{base:bM}{a:Adr}{f:ae}{fd:bR}
abbrev pd:bT:=kD (top 22) 8
theorem sc_Book_sale:FnScope ["self","house","one","other","share","held","rest"] ["self","house","one","other","share"] (jO pd):=fsc
structure SaleOk (l:Hl) (o1:Str) (q:Int×Int):Prop where
 len:l.length < 1000
 sz:∀ n,Sz (jW l n)
 rs:¬ mB l o1 q→Sz (kT (jW l o1) (-q.1,q.2))
def zh (K:aa) (a:Adr):Sp:=fun vs H Q E=>∃ b z ppl L h o1 o2 sp q,vs=[.ref b,.str h,.str o1,.str o2,.ref sp]∧BookAt K a.Book H b z ppl L∧(L.map (·.1.nm)).Nodup∧Nm h∧Nm o1∧Nm o2∧FrAt K H sp q∧Sz q ∧
 (∀ e,kN L h=some e→SaleOk e.1.held o1 q) ∧
 (lr L h=false→E (.ref a.NoHouse) none H) ∧
 (lr L h=true→(lz ppl o1 || lr L o1)=false→E (.ref a.NoHolder) none H) ∧
 (lr L h=true→(lz ppl o1 || lr L o1)=true→(lz ppl o2 || lr L o2)=false→E (.ref a.NoHolder) none H) ∧
 (∀ e,kN L h=some e→(lz ppl o1 || lr L o1)=true→(lz ppl o2 || lr L o2)=true→mB e.1.held o1 q→E (.ref a.NoShare) none H) ∧
 (∀ e,kN L h=some e→(lz ppl o1 || lr L o1)=true→(lz ppl o2 || lr L o2)=true→¬ mB e.1.held o1 q→∀ H',BookAt K a.Book H' b z ppl (pW L h fun x=>{ x with held:=qu x.held o1 o2 q })→(∀ c o,H c=some o→c≠e.2→H' c=some o)→Q .non H')
theorem Dl (F:Fun K "sale" "Book.sale" pd f fd) (T:Txt K mg a) (M_need_house:Mt P w K mg base a.Book "need_house" 2 ["self","name"] (km K a)) (M_need_holder:Mt P w K mg base a.Book "need_holder" 3 ["self","name"] (lC K a))
  (F_is_above:Fn P w K mg base "is_above" 1 ["first","second"] (tU K)) (F_minus:Fn P w K mg base "minus" 3 ["first","second"] (xu K)) (F_plus:Fn P w K mg base "plus" 2 ["first","second"] (qW K)) :
  FnOk P w K mg base (CXo P w) 4 f fd ["self","house","one","other","share"] (zh K a):=by
 refine F.okX sc_Book_sale (fun vs H Q E h=>?_) (fun cdv A outer s H vs Q E hr h=>?_)
 ·obtain ⟨b,z,ppl,L,h,o1,o2,sp,q,rfl,_⟩:=h
  rfl
 ·obtain ⟨b,z,ppl,L,h,o1,o2,sp,q,rfl,B,nd,nh,n1,n2,hq,sq,hok,k1,k2,k3,k4,k5⟩:=h
  have hu:=jV hr
  refine ⟨_,(@jS _ _ _ _ _ (@kP _ _ _ _ (ny (pv 0) M_need_house (hr.mono (by first | decide | omega)) ka (@jR _ _ _ _ _ (pv 1) pa_nil (by rfl))) (by rfl)) (@jS _ _ _ _ _ (@kP _ _ _ _ (ny (pv 0) M_need_holder (hr.mono (by first | decide | omega)) ka (@jR _ _ _ _ _ (pv 2) pa_nil (by rfl))) (by rfl)) (@jS _ _ _ _ _ (@kP _ _ _ _ (ny (pv 0) M_need_holder (hr.mono (by first | decide | omega)) ka (@jR _ _ _ _ _ (pv 3) pa_nil (by rfl))) (by rfl)) (@jS _ _ _ _ _ (@nK _ _ (5) _ _ _ _ sc_Book_sale.nd rfl (ba rfl) (@nS _ _ _ _ _ _ hu (kq (pv 0) rfl) (pv 1) (fun _ _=>rfl)) (by rfl) (by first | exact .inl rfl | exact .inr rfl | assumption)) (@jS _ _ _ _ _ (@qL _ _ _ _ _ _ _ _ (PW.pt (Eo (um (qE (@ql _ _ _ _ _ _ _ _ _ _ _ F_is_above (hr.mono (by first | decide | omega)) rfl ka (@jR _ _ _ _ _ (pv 4) (@jR _ _ _ _ _ (nR rfl T.g_ZERO T.r_ZERO) pa_nil (by rfl)) (by rfl)) (by decide) (by rfl) (by rfl)))) (Ck (qE (@ql _ _ _ _ _ _ _ _ _ _ _ F_is_above (hr.mono (by first | decide | omega)) rfl ka (@jR _ _ _ _ _ (pv 4) (@jR _ _ _ _ _ (@tZ _ _ _ _ _ _ _ _ _ hu (pv 5) (pv 2) (nR rfl T.g_ZERO T.r_ZERO) ⟨rfl,rfl,rfl,rfl⟩) pa_nil (by rfl)) (by rfl)) (by decide) (by rfl) (by rfl)))))) (@jY _ _ _ (mE T.x_NoShare rfl T.c_NoShare rfl (yx (sC (pv 2) (uq (sC (pv 1) ur)))) tu)) pss_nil) (@jS _ _ _ _ _ (@nK _ _ (6) _ _ _ _ sc_Book_sale.nd rfl (ba rfl) (@ql _ _ _ _ _ _ _ _ _ _ _ F_minus (hr.mono (by first | decide | omega)) rfl ka (@jR _ _ _ _ _ (@nS _ _ _ _ _ _ hu (pv 5) (pv 2) (fun _ _=>rfl)) (@jR _ _ _ _ _ (pv 4) pa_nil (by rfl)) (by rfl)) (by decide) (by rfl) (by rfl)) (by rfl) (by first | exact .inl rfl | exact .inr rfl | assumption)) (@jS _ _ _ _ _ (@qL _ _ _ _ _ _ _ _ (@pX _ _ _ _ _ _ _ _ (Fl (Nat.lt_of_succ_lt hu)) (pv 6) (nR rfl T.g_ZERO T.r_ZERO) (k9 _)) (@jY _ _ _ (@kP _ _ _ _ (Bj (pv 5) (pv 2) ⟨rfl,rfl,rfl,rfl⟩) (by rfl))) (@jY _ _ _ (lZ hu (pv 5) (pv 2) (pv 6) rfl))) (@jY _ _ _ (lZ hu (pv 5) (pv 3) (@ql _ _ _ _ _ _ _ _ _ _ _ F_plus (hr.mono (by first | decide | omega)) rfl ka (@jR _ _ _ _ _ (@tZ _ _ _ _ _ _ _ _ _ hu (pv 5) (pv 3) (nR rfl T.g_ZERO T.r_ZERO) ⟨rfl,rfl,rfl,rfl⟩) (@jR _ _ _ _ _ (pv 4) pa_nil (by rfl)) (by rfl)) (by decide) (by rfl) (by rfl)) rfl))))))))),?_⟩
  have bn:∀ {m:Str},¬ m="people"→¬ m="things_of"→¬ m="mark_of"→¬ m="loss_of"→¬ m="held_of"→(bf z).lookup m=none:=fun a b c d e=>mM z a b c d e
  refine ⟨_,rfl,b,_,_,rfl,B.ob,mM z (by decide +kernel) (by decide +kernel) (by decide +kernel) (by decide +kernel) (by decide +kernel),_,rfl,b,z,ppl,L,h,rfl,B,nh,fun hh=>?_,fun hh=>k1 hh⟩
  refine ⟨_,rfl,b,_,_,rfl,B.ob,mM z (by decide +kernel) (by decide +kernel) (by decide +kernel) (by decide +kernel) (by decide +kernel),_,rfl,b,z,ppl,L,o1,rfl,B,n1,fun h1=>?_,fun h1=>k2 hh h1⟩
  refine ⟨_,rfl,b,_,_,rfl,B.ob,mM z (by decide +kernel) (by decide +kernel) (by decide +kernel) (by decide +kernel) (by decide +kernel),_,rfl,b,z,ppl,L,o2,rfl,B,n2,fun h2=>?_,fun h2=>k3 hh h1 h2⟩
  cases he:kN L h with
  | none=>unfold lr at hh;unfold kN at he;rw [he] at hh;cases hh
  | some e =>
  have hem:=mW he
  have ok:=hok e he
  obtain ⟨zz,Z⟩:=(B.he e hem).toZ
  have hval:=B.hh.dget h
  rw [sB _ he] at hval
  have zeroFr:∀ H,FrAt K H a.ZERO (0,1):=fun H=>.inr T.zero
  refine ⟨_,rfl,b,_,_,_,_,rfl,B.ob,T.cl,T.nA_held_of,nV z,_,rfl,_,_,rfl,hval,?_⟩
  refine ⟨_,rfl,sp,a.ZERO,q,(0,1),rfl,hq,zeroFr H,sq,sz0,_,rfl,qm (fun h3=>?_) (fun h3=>?_)⟩
  ·have h3:=of_decide_eq_false (nbT h3)
   exact EB ⟨_,rfl,⟨o1,rfl,n1⟩,_,rfl,⟨h,rfl,nh⟩,fun y=>k4 e he h1 h2 (.inl (by simp only at h3;omega))⟩
  have q0:0 < q.1:=by have:=of_decide_eq_true (nbF h3);simp only at this;omega
  obtain ⟨x0,hx0,fx0⟩:=Z.get (zeroFr H) o1
  refine ⟨_,rfl,_,rfl,e.2,rfl,.inl ⟨_,.inl Z.2.1⟩,_,rfl,_,DGet.k (k:=am o1) Z.2.1,?_⟩
  rw [hx0]
  refine ⟨sp,x0,q,_,rfl,hq,fx0,sq,ok.sz o1,_,rfl,qm (fun h4=>?_) (fun h4=>?_)⟩
  ·have h4:=of_decide_eq_true h4
   exact ⟨_,rfl,⟨o1,rfl,n1⟩,_,rfl,⟨h,rfl,nh⟩,fun y=>k4 e he h1 h2 (.inr h4)⟩
  have h4:¬ q.1 * (jW e.1.held o1).2 > (jW e.1.held o1).1 * q.2:=fun z=>h4 (decide_eq_true z)
  have ntm:¬ mB e.1.held o1 q:=fun z=>z.elim (fun y=>y q0) h4
  rcases Z.val o1 with ⟨_,_,hg⟩ | ⟨hn,x,hv,hx⟩
  ·exfalso
   rw [hg] at h4
   simp only at h4
   omega
  have hget:DGet H e.2 (.str o1) (some (.ref x)):=by
   have:=DGet.k (k:=am o1) Z.2.1
   rw [hv] at this
   exact this
  refine ⟨_,rfl,_,rfl,e.2,_,rfl,hget,_,rfl,x,sp,_,_,rfl,hx,hq,ok.sz o1,sq,fun r H1 hr0 s1 hr1=>?_⟩
  have Z1:=Z.same s1
  have fin:∀ H2 l1 z2,HeldZ K H2 e.2 l1 z2→qu e.1.held o1 o2 q=lK l1 o2 (kT (jW l1 o2) q)→(∀ c o,H c=some o→c≠e.2→H2 c=some o)→Sz (jW l1 o2)→l1.length≤e.1.held.length→FrAt K H2 sp q →
    Ei (AF 5) (AF 3) (CJ (qW K) [] E (CI (Cd (AF 5) (AF 3) (tC (V.ref a.ZERO))) (CI (AF 4) Cc))) { nx:=fun x H'=>Q V.non H',rt:=Q } [some (V.ref b),some (V.str h),some (V.str o1),some (V.str o2),some (V.ref sp),some (V.ref e.2),some (V.ref r)] H2:=by
   intro H2 l1 z2 Z2 es kp szl len fq
   obtain ⟨y,hy,fy⟩:=Z2.get (zeroFr H2) o2
   refine ⟨_,rfl,e.2,rfl,.inl ⟨_,.inl Z2.2.1⟩,_,rfl,_,DGet.k (k:=am o2) Z2.2.1,?_⟩
   rw [hy]
   refine ⟨_,rfl,y,sp,_,_,rfl,fy,fq,szl,sq,fun t ht=>?_⟩
   have st:=mC (o:=.tup [.int (kT (jW l1 o2) q).1,.int (kT (jW l1 o2) q).2]) ht
   have Z3:=Z2.same st
   refine ⟨_,rfl,_,rfl,e.2,_,rfl,DPut.k (k:=am o2) Z3.2.1 ?_,?_⟩
   ·rw [af,← af (f:=(·.1)),Z2.1]
    exact a7 len (d8 ok.len (by decide))
   ·obtain ⟨z4,Z4⟩:=Z3.put (n:=o2) (x:=t) (q:=kT (jW l1 o2) q) (SqT.of jK)
    have kp':∀ c o,H c=some o→c≠e.2→(upd (upd H2 t (.tup [.int (kT (jW l1 o2) q).1,.int (kT (jW l1 o2) q).2])) e.2 (.dK (nJ (z2.map fun q=>((am q.1.1:Key),V.ref q.2)) (am o2) (.ref t)))) c=some o:=fun c o hc hn=>by
     rw [jJ hn]
     exact st c o (kp c o hc hn)
    refine k5 e he h1 h2 ntm _ (B.reheld nd he (fun x=>rfl) ?_ kp') kp'
    show HeldAt K _ e.2 (qu e.1.held o1 o2 q)
    rw [es]
    exact Z4.held
  refine ⟨_,rfl,r,a.ZERO,_,_,rfl,rfl,SqT.of hr1,.inr T.zero,rfl,rfl,rfl,_,rfl,qm (fun h5=>?_) (fun h5=>?_)⟩
  ·rw [EG] at h5
   have h5:kT (jW e.1.held o1) (-q.1,q.2)=(0,1):=of_decide_eq_true h5
   refine ⟨_,rfl,e.2,rfl,.inl ⟨_,.inl Z1.2.1⟩,_,rfl,_,am o1,.ref x,Z1.2.1,rfl,hv,?_⟩
   obtain ⟨z2,Z2⟩:=Z1.drop (n:=o1)
   refine fin _ _ z2 Z2 ?_ (fun c o hc hn=>by rw [jJ hn];exact s1 c o hc) ?_ (xL _ _) (wP Z1.2.1 (hq.same s1))
   ·unfold qu
    simp only [h5,if_true]
   ·rw [vz]
    by_cases e2:o2=o1
    ·rw [if_pos e2];exact sz0
    ·rw [if_neg e2];exact ok.sz o2
  ·rw [EG] at h5
   have h5:¬ kT (jW e.1.held o1) (-q.1,q.2)=(0,1):=fun z=>h5 (decide_eq_true z)
   refine ⟨_,rfl,_,rfl,_,rfl,e.2,_,rfl,DPut.k (k:=am o1) Z1.2.1 ?_,?_⟩
   ·rw [af,← af (f:=(·.1)),Z.1]
    exact d8 ok.len (by decide)
   ·obtain ⟨z2,Z2⟩:=Z1.put (n:=o1) (x:=r) (q:=kT (jW e.1.held o1) (-q.1,q.2)) (SqT.of hr1)
    refine fin _ _ z2 Z2 ?_ (fun c o hc hn=>by rw [jJ hn];exact s1 c o hc) ?_ ?_ (wP Z1.2.1 (hq.same s1))
    ·unfold qu
     simp only [h5,if_false]
    ·rw [kH]
     by_cases e2:o2=o1
     ·rw [if_pos e2];exact ok.rs ntm
     ·rw [if_neg e2];exact ok.sz o2
    ·have:=congrArg cL (kA e.1.held o1 (kT (jW e.1.held o1) (-q.1,q.2)))
     rw [if_pos hn,af,af] at this
     exact jh this
end
def kO (L:List Ent) (n:Str):Option Ent:=L.find? fun e=>decide (e.nm=n)
def lS (L:List Ent) (n:Str):Bool:=(kO L n).isSome
def uP (L:List Ent) (h:Str) (g:Ent→Ent):List Ent:=L.map fun x=>if x.nm=h then g x else x
theorem vy (L:List (Ent×ae)) (n:Str):(kN L n).map (·.1)=kO (L.map (·.1)) n:=by
 unfold kN kO
 rw [dY];rfl
theorem kG (L:List (Ent×ae)) (n:Str):lr L n=lS (L.map (·.1)) n:=by
 unfold lS;rw [← vy];unfold lr kN;rw [cJ]
theorem xy (L:List (Ent×ae)) (h:Str) (g:Ent→Ent):(pW L h g).map (·.1)=uP (L.map (·.1)) h g:=by
 unfold pW uP
 rw [aF,aF]
 refine bB fun x _=>?_
 show (if x.1.nm=h then (g x.1,x.2) else x).1=if x.1.nm=h then g x.1 else x.1
 split <;> rfl
def ng (a:Adr) (pp:List Str) (L:List Ent) (x:Str):Option ae:=if qz x=false then some a.NoName else if (lz pp x || lS L x)=true then some a.Twice else none
def nQ (a:Adr) (pp:List Str) (L:List Ent) (x:Str):Option ae:=match ng a pp L x with
 | some c=>some c
 | none=>if 6≤pp.length then some a.TooMany else none
def qb (a:Adr) (pp:List Str) (L:List Ent) (x o:Str) (l:Int):Option ae:=match ng a pp L x with
 | some c=>some c
 | none=>if (lz pp o || lS L o)=false then some a.NoHolder else if l < 0 then some a.NoLoss else if 8≤L.length then some a.TooMany else none
theorem tj (a:Adr) (pp:List Str) (L:List (Ent×ae)) (x:Str):nM a pp L x=ng a pp (L.map (·.1)) x:=by unfold nM ng;rw [kG]
theorem sZ (a:Adr) (pp:List Str) (L:List (Ent×ae)) (x:Str):pY a pp L x=nQ a pp (L.map (·.1)) x:=by unfold pY nQ;rw [tj];try (cases ng a pp (L.map (·.1)) x <;> rfl)
theorem tE (a:Adr) (pp:List Str) (L:List (Ent×ae)) (x o:Str) (l:Int):oj a pp L x o l=qb a pp (L.map (·.1)) x o l:=by unfold oj qb;rw [tj,kG,af];try (cases ng a pp (L.map (·.1)) x <;> rfl)
noncomputable instance (x:Str):Decidable (Nm x):=cN _
def ku (vs:List PV) (s:Sto) (k:Nat→List Str→List Ent→List PV→Out PV):Out PV:=match vs with
 | .ref n::r=>match s.get n with
  | some (.book pp L)=>k n pp L r
  | _=>.bad
 | _=>.bad
def lW (a:Adr) (vs:List PV) (s:Sto):Out PV:=ku vs s fun n pp L r=>match r with
 | [.str x]=>if Nm x then (match nQ a pp L x with
  | none=>.ok .non (s.set n (.book (pp++[x]) L))
  | some c=>.ex c s) else .bad
 | _=>.bad
def rm (a:Adr) (vs:List PV) (s:Sto):Out PV:=ku vs s fun n pp L r=>match r with
 | [.str x,.str o,.int t,.int m,.int l]=>if Nm x∧Nm o then (match qb a pp L x o l with
  | none=>.ok .non (s.set n (.book pp (L++[⟨x,t,m,l,[(o,1,1)]⟩])))
  | some c=>.ex c s) else .bad
 | _=>.bad
def m7 (_:Adr) (vs:List PV) (s:Sto):Out PV:=ku vs s fun _ pp _ r=>match r with
 | []=>.ok (.lst ((srt pp).map .str)) s
 | _=>.bad
def pN (_:Adr) (vs:List PV) (s:Sto):Out PV:=ku vs s fun _ _ L r=>match r with
 | []=>.ok (.lst ((srt (L.map (·.nm))).map .str)) s
 | _=>.bad
def frP (q:Int×Int):PV:=.tup [.int q.1,.int q.2]
def Et (q:Str×Int×Int):PV:=.tup [.str q.1,frP q.2]
def wt (l:List (Str×Int×Int)):PV:=.lst ((srt (l.map (·.1))).map fun n=>Et (kc l n))
def nq (a:Adr) (vs:List PV) (s:Sto):Out PV:=ku vs s fun _ _ L r=>match r with
 | [.str x]=>if Nm x then (match kO L x with
  | none=>.ex a.NoHouse s
  | some e=>if e.held.length < 64 then .ok (wt e.held) s else .bad) else .bad
 | _=>.bad
def AI (a:Adr) (vs:List PV) (s:Sto):Out PV:=ku vs s fun _ _ L r=>match r with
 | [.str x]=>if Nm x then (match kO L x with
  | none=>.ex a.NoHouse s
  | some e=>.ok (.tup [.int e.th,.int e.mr,.int e.ls]) s) else .bad
 | _=>.bad
def yR (_:Adr) (vs:List PV) (s:Sto):Out PV:=ku vs s fun _ _ L r=>match r with
 | [.str x]=>.ok (.bl (lS L x)) s
 | _=>.bad
def wm (a:Adr) (vs:List PV) (s:Sto):Out PV:=ku vs s fun _ _ L r=>match r with
 | [.str x]=>if Nm x then (if lS L x=true then .ok .non s else .ex a.NoHouse s) else .bad
 | _=>.bad
def uO (a:Adr) (vs:List PV) (s:Sto):Out PV:=ku vs s fun _ pp L r=>match r with
 | [.str x]=>if Nm x then (if (lz pp x || lS L x)=true then .ok .non s else .ex a.NoHolder s) else .bad
 | _=>.bad
structure SaleE (L:List Ent) (h o1 o2:Str) (q:Int×Int):Prop where
 nd:(L.map (·.nm)).Nodup
 nm:Nm h∧Nm o1∧Nm o2
 sz:Sz q
 ok:∀ e,kO L h=some e→SaleOk e.held o1 q
noncomputable instance (L:List Ent) (h o1 o2:Str) (q:Int×Int):Decidable (SaleE L h o1 o2 q):=cN _
def uN (a:Adr) (vs:List PV) (s:Sto):Out PV:=ku vs s fun n pp L r=>match r with
 | [.str h,.str o1,.str o2,.tup [.int t,.int b]]=>if SaleE L h o1 o2 (t,b) then (match kO L h with
  | none=>.ex a.NoHouse s
  | some e=>if (lz pp o1 || lS L o1)=false then .ex a.NoHolder s else if (lz pp o2 || lS L o2)=false then .ex a.NoHolder s
   else if mB e.held o1 (t,b) then .ex a.NoShare s else .ok .non (s.set n (.book pp (uP L h fun x=>{ x with held:=qu x.held o1 o2 (t,b) })))) else .bad
 | _=>.bad
section
variable {K:aa}{H:Hp}{m:Mp}{s:Sto}{a:Adr}
theorem Ep {CB:ae} (S:SR K CB H m s) {n:Nat}{pp pp':List Str}{L:List Ent}{L' L2:List (Ent×ae)}{z:BA}{H':Hp} (hg:s.get n=some (.book pp L)) (eF:m.fp n=BFp (m.ad n) z L') (B':BookAt K CB H' (m.ad n) z pp' L2)
  (k:∀ a o,H a=some o→a∉BFp (m.ad n) z L'→H' a=some o) (hnew:∀ a∈BFp (m.ad n) z L2,a∈BFp (m.ad n) z L'∨H a=none) :
  SR K CB H' (m.fput n (BFp (m.ad n) z L2)) (s.set n (.book pp' (L2.map (·.1))))∧Ext H m s H' (m.fput n (BFp (m.ad n) z L2)) (s.set n (.book pp' (L2.map (·.1)))) :=
 S.put hg (by intro _ z;cases z) H' _ (by rw [eF];exact k) (by rw [eF];exact hnew) fun _=>⟨z,L2,B',rfl,by show (if n=n then _ else _)=_;rw [if_pos rfl];rfl⟩
theorem onB {CB:ae} (S:SR K CB H m s) {xs:List V}{vs:List PV}{k:Nat→List Str→List Ent→List PV→Out PV}{E:XK}{Q:VK} (r:Reps K H m s xs vs) (P:Post K CB (Rep K) E (ku vs s k) H m s Q) :
  ∃ n pp L z L' us ys,s.get n=some (.book pp L)∧BookAt K CB H (m.ad n) z pp L'∧L'.map (·.1)=L∧m.fp n=BFp (m.ad n) z L'∧xs=.ref (m.ad n)::us∧Reps K H m s us ys∧Post K CB (Rep K) E (k n pp L ys) H m s Q:=by
 unfold ku at P
 split at P
 ·rename_i n r'
  split at P
  ·rename_i pp L hg
   obtain ⟨z,L',B,e1,e2⟩:=S.get hg
   cases r with
   | cons r1 r2 =>
    cases r1
    exact ⟨n,pp,L,z,L',_,_,hg,B,e1,e2,rfl,r2,P⟩
  ·exact P.elim
 ·exact P.elim
theorem DJ {L:List (Ent×ae)}{b:ae}{z:BA}{e:Ent×ae} (h:e∈L):e.2∈BFp b z L:=by
 unfold BFp
 simp only [ai]
 right;right;right;right;right;right
 exact aj.mpr ⟨e,h,rfl⟩
theorem AY (L:List (Ent×ae)) (h:Str) (g:Ent→Ent):(pW L h g).map (·.2)=L.map (·.2):=by
 unfold pW
 rw [aF]
 refine bB fun x _=>?_
 show (if x.1.nm=h then (g x.1,x.2) else x).2=x.2
 split <;> rfl
theorem zi (b:ae) (z:BA) (L:List (Ent×ae)) (h:Str) (g:Ent→Ent):BFp b z (pW L h g)=BFp b z L:=by unfold BFp;rw [AY]
theorem pZ {us:List V}{x:Str} (r:Reps K H m s us [.str x]):us=[.str x]:=by
 cases r with
 | cons a b=>cases a;cases b;rfl
theorem yn (vs:List V) (H:Hp) (Q:VK) (E:XK) (h:spD K a.Book 2 (lW a) vs H Q E):vi K a vs H Q E:=by
 obtain ⟨_,ps,s,m,r,S,P⟩:=h
 obtain ⟨n,pp,L,z,L',us,ys,hg,B,e1,e2,rfl,r',P⟩:=onB S r P
 split at P
 ·split at P
  ·rename_i x hx
   cases pZ r'
   refine ⟨_,z,pp,L',x,rfl,B,hx,fun hd H' B' k=>?_,fun c hd H' k=>?_⟩
   ·rw [sZ,e1] at hd
    rw [hd] at P
    obtain ⟨S2,x2⟩:=Ep S hg e2 B' (fun c o h hc=>k c o h fun z=>hc (by rw [z];simp [BFp])) (fun c hc=>.inl hc)
    rw [e1] at S2 x2
    exact P _ _ _ x2 S2 .non
   ·rw [sZ,e1] at hd
    rw [hd] at P
    exact P _ m (.same k) (S.same k)
  ·exact P.elim
 ·exact P.elim
theorem zU (vs:List V) (H:Hp) (Q:VK) (E:XK) (h:spD K a.Book 6 (rm a) vs H Q E):xw K a vs H Q E:=by
 obtain ⟨_,ps,s,m,r,S,P⟩:=h
 obtain ⟨n,pp,L,z,L',us,ys,hg,B,e1,e2,rfl,r',P⟩:=onB S r P
 split at P
 ·split at P
  ·rename_i x o t mm l hx
   cases r' with
   | cons q1 r'=>cases r' with
    | cons q2 r'=>cases r' with
     | cons q3 r'=>cases r' with
      | cons q4 r'=>cases r' with
       | cons q5 r' =>
        cases r';cases q1;cases q2;cases q3;cases q4;cases q5
        refine ⟨_,z,pp,L',x,o,t,mm,l,rfl,B,hx.1,hx.2,fun hd p H' hp B' k=>?_,fun c hd H' k=>?_⟩
        ·rw [tE,e1] at hd
         rw [hd] at P
         obtain ⟨S2,x2⟩:=Ep S hg e2 B' (fun c o h hc=>k c o h fun z=>hc (by unfold BFp;simp only [ai,b6,or_false] at z ⊢;rcases z with z | z | z | z <;> simp [z])) (fun c hc=>by
          unfold BFp at hc ⊢
          rw [aD] at hc
          simp only [ai,aX,au,bQ,b6,or_false] at hc ⊢
          rcases hc with h | h | h | h | h | h | h | h
          ·exact .inl (.inl h)
          ·exact .inl (.inr (.inl h))
          ·exact .inl (.inr (.inr (.inl h)))
          ·exact .inl (.inr (.inr (.inr (.inl h))))
          ·exact .inl (.inr (.inr (.inr (.inr (.inl h)))))
          ·exact .inl (.inr (.inr (.inr (.inr (.inr (.inl h))))))
          ·exact .inl (.inr (.inr (.inr (.inr (.inr (.inr h))))))
          ·rw [h];exact .inr hp)
         rw [aD,e1] at S2 x2
         exact P _ _ _ x2 S2 .non
        ·rw [tE,e1] at hd
         rw [hd] at P
         exact P _ m (.same k) (S.same k)
  ·exact P.elim
 ·exact P.elim
theorem wY (vs:List V) (H:Hp) (Q:VK) (E:XK) (h:spD K a.Book 1 (m7 a) vs H Q E):sT K a.Book vs H Q E:=by
 obtain ⟨_,ps,s,m,r,S,P⟩:=h
 obtain ⟨n,pp,L,z,L',us,ys,hg,B,e1,e2,rfl,r',P⟩:=onB S r P
 split at P
 ·cases r'
  exact ⟨_,z,pp,L',rfl,B,fun l hl=>P.new S hl fun ex S'=>.lst jK (S.pure_none hl) (.ofStrs _)⟩
 ·exact P.elim
theorem yo (vs:List V) (H:Hp) (Q:VK) (E:XK) (h:spD K a.Book 1 (pN a) vs H Q E):rB K a.Book vs H Q E:=by
 obtain ⟨_,ps,s,m,r,S,P⟩:=h
 obtain ⟨n,pp,L,z,L',us,ys,hg,B,e1,e2,rfl,r',P⟩:=onB S r P
 split at P
 ·cases r'
  refine ⟨_,z,pp,L',rfl,B,fun l hl=>P.new S hl fun ex S'=>.lst jK (S.pure_none hl) ?_⟩
  rw [← e1,aF]
  exact .ofStrs _
 ·exact P.elim
theorem qo {L':List (Ent×ae)}{L:List Ent}{x:Str} (e:L'.map (·.1)=L):(∀ q,kN L' x=some q→kO L x=some q.1)∧(kN L' x=none→kO L x=none):=by
 have:=vy L' x
 rw [e] at this
 refine ⟨fun q h=>?_,fun h=>?_⟩ <;> (rw [h] at this;exact this.symm)
theorem vm:∀ {l:List (Str×Int×Int)}{vs:List V}{m:Mp}{s:Sto}{CB:ae}{H:Hp},SR K CB H m s→eX (PairAt K H) l vs→Reps K H m s vs (l.map Et)
 | _,_,_,_,_,_,_,.nil=>.nil
 | _,_,m,s,CB,H,S,.cons r t=>by
  obtain ⟨p,q,rfl,h1,h2⟩:=r
  have tp:∀ {c:ae}{xs:List V},SqT K H c xs→(Rd H c (.tup xs)∧Pur m s c∨KT' K c xs):=fun h=>h.elim (fun z=>.inl ⟨z,z.elim (fun z=>S.pure_tup z) fun ⟨_,z⟩=>S.pure_frz (.inl z)⟩) .inr
  exact .cons (.tup (tp h1) (.cons .str (.cons (.tup (tp h2) (.cons .int (.cons .int .nil))) .nil))) (vm S t)
theorem ym (vs:List V) (H:Hp) (Q:VK) (E:XK) (h:spD K a.Book 2 (nq a) vs H Q E):vh K a vs H Q E:=by
 obtain ⟨_,ps,s,m,r,S,P⟩:=h
 obtain ⟨n,pp,L,z,L',us,ys,hg,B,e1,e2,rfl,r',P⟩:=onB S r P
 split at P
 ·split at P
  ·rename_i x hx
   cases pZ r'
   obtain ⟨f1,f2⟩:=qo (x:=x) e1
   refine ⟨_,z,pp,L',x,rfl,B,hx,fun e he=>?_,fun he=>?_⟩
   ·rw [f1 e he] at P
    dsimp only at P
    split at P
    ·rename_i h64
     refine ⟨h64,fun l ys' H' hl k h' pr=>?_⟩
     have S':=S.same k
     refine P _ H' m (.same k) S' (.lst h' ?_ ?_)
     ·have:=S.pure_none hl;exact this
     ·have:=vm (m:=m) (s:=s) S' pr
      rw [aF] at this
      exact this
    ·exact P.elim
   ·rw [f2 he] at P
    exact P H m .refl S
  ·exact P.elim
 ·exact P.elim
theorem EZ (vs:List V) (H:Hp) (Q:VK) (E:XK) (h:spD K a.Book 2 (AI a) vs H Q E):Eh K a vs H Q E:=by
 obtain ⟨_,ps,s,m,r,S,P⟩:=h
 obtain ⟨n,pp,L,z,L',us,ys,hg,B,e1,e2,rfl,r',P⟩:=onB S r P
 split at P
 ·split at P
  ·rename_i x hx
   cases pZ r'
   obtain ⟨f1,f2⟩:=qo (x:=x) e1
   refine ⟨_,z,pp,L',x,rfl,B,hx,fun e he t ht=>?_,fun he=>?_⟩
   ·rw [f1 e he] at P
    exact P.new S ht fun ex S'=>.tup (.inl ⟨.inl jK,S'.pure_tup jK⟩) (.cons .int (.cons .int (.cons .int .nil)))
   ·rw [f2 he] at P
    exact P H m .refl S
  ·exact P.elim
 ·exact P.elim
theorem vR (vs:List V) (H:Hp) (Q:VK) (E:XK) (h:spD K a.Book 2 (yR a) vs H Q E):nu K a.Book vs H Q E:=by
 obtain ⟨_,ps,s,m,r,S,P⟩:=h
 obtain ⟨n,pp,L,z,L',us,ys,hg,B,e1,e2,rfl,r',P⟩:=onB S r P
 split at P
 ·rename_i x
  cases pZ r'
  refine ⟨_,z,pp,L',x,rfl,B,?_⟩
  rw [kG,e1]
  exact P.here S .bl
 ·exact P.elim
theorem sJ (vs:List V) (H:Hp) (Q:VK) (E:XK) (h:spD K a.Book 2 (wm a) vs H Q E):km K a vs H Q E:=by
 obtain ⟨_,ps,s,m,r,S,P⟩:=h
 obtain ⟨n,pp,L,z,L',us,ys,hg,B,e1,e2,rfl,r',P⟩:=onB S r P
 split at P
 ·split at P
  ·rename_i x hx
   cases pZ r'
   refine ⟨_,z,pp,L',x,rfl,B,hx,fun h=>?_,fun h=>?_⟩
   ·rw [kG,e1] at h;rw [if_pos h] at P;exact P.here S .non
   ·rw [kG,e1] at h;rw [if_neg (by rw [h];decide)] at P;exact P H m .refl S
  ·exact P.elim
 ·exact P.elim
theorem sg (vs:List V) (H:Hp) (Q:VK) (E:XK) (h:spD K a.Book 2 (uO a) vs H Q E):lC K a vs H Q E:=by
 obtain ⟨_,ps,s,m,r,S,P⟩:=h
 obtain ⟨n,pp,L,z,L',us,ys,hg,B,e1,e2,rfl,r',P⟩:=onB S r P
 split at P
 ·split at P
  ·rename_i x hx
   cases pZ r'
   refine ⟨_,z,pp,L',x,rfl,B,hx,fun h=>?_,fun h=>?_⟩
   ·rw [kG,e1] at h;rw [if_pos h] at P;exact P.here S .non
   ·rw [kG,e1] at h;rw [if_neg (by rw [h];decide)] at P;exact P H m .refl S
  ·exact P.elim
 ·exact P.elim
theorem AR (vs:List V) (H:Hp) (Q:VK) (E:XK) (h:spD K a.Book 5 (uN a) vs H Q E):zh K a vs H Q E:=by
 obtain ⟨_,ps,s,m,r,S,P⟩:=h
 obtain ⟨n,pp,L,z,L',us,ys,hg,B,e1,e2,rfl,r',P⟩:=onB S r P
 split at P
 ·split at P
  ·rename_i h o1 o2 t b hs
   cases r' with
   | cons q1 r'=>cases r' with
    | cons q2 r'=>cases r' with
     | cons q3 r'=>cases r' with
      | cons q4 r' =>
       cases r';cases q1;cases q2;cases q3
       obtain ⟨p,ws,rfl,ht,rw'⟩:=q4.tp
       cases rw' with
       | cons w1 w2=>cases w2 with
        | cons w2 w3 =>
         cases w3;cases w1;cases w2
         obtain ⟨f1,f2⟩:=qo (x:=h) e1
         have hh:lr L' h=(kO L h).isSome:=by rw [kG,e1];rfl
         have h1:(lz pp o1 || lr L' o1)=(lz pp o1 || lS L o1):=by rw [kG,e1]
         have h2:(lz pp o2 || lr L' o2)=(lz pp o2 || lS L o2):=by rw [kG,e1]
         refine ⟨_,z,pp,L',h,o1,o2,p,(t,b),rfl,B,by rw [show L'.map (fun x=>x.1.nm)=L.map (·.nm) by rw [← e1,aF];rfl];exact hs.nd,hs.nm.1,hs.nm.2.1,hs.nm.2.2,ht,hs.sz,fun e he=>hs.ok _ (f1 e he),fun q=>?_,fun q g1=>?_,fun q g1 g2=>?_,fun e he g1 g2 g3=>?_,fun e he g1 g2 g3 H' B' k=>?_⟩
         ·rw [hh] at q
          cases c:kO L h with
          | none=>rw [c] at P;exact P H m .refl S
          | some e=>rw [c] at q;cases q
         ·rw [hh] at q
          cases c:kO L h with
          | none=>rw [c] at q;cases q
          | some e=>rw [c] at P;dsimp only at P;rw [if_pos (by rw [← h1];exact g1)] at P;exact P H m .refl S
         ·rw [hh] at q
          cases c:kO L h with
          | none=>rw [c] at q;cases q
          | some e=>rw [c] at P;dsimp only at P;rw [if_neg (by rw [← h1,g1];decide),if_pos (by rw [← h2];exact g2)] at P;exact P H m .refl S
         ·rw [f1 e he] at P
          dsimp only at P
          rw [if_neg (by rw [← h1,g1];decide),if_neg (by rw [← h2,g2];decide),if_pos g3] at P
          exact P H m .refl S
         ·rw [f1 e he] at P
          dsimp only at P
          rw [if_neg (by rw [← h1,g1];decide),if_neg (by rw [← h2,g2];decide),if_neg g3] at P
          obtain ⟨S2,x2⟩:=Ep S hg e2 B' (fun c o hc hn=>k c o hc fun z=>hn (by rw [z];exact DJ (mW he))) (fun c hc=>.inl (by rw [zi] at hc;exact hc))
          rw [xy,e1] at S2 x2
          exact P _ _ _ x2 S2 .non
  ·exact P.elim
 ·exact P.elim
def wV (a:Adr) (g:Int→Ent→Ent) (neg:Bool) (vs:List PV) (s:Sto):Out PV:=ku vs s fun n pp L r=>match r with
 | [.str h,.int v]=>if Nm h then (if lS L h=true then (if neg=true∧v < 0 then .ex a.NoLoss s else .ok .non (s.set n (.book pp (uP L h (g v))))) else .ex a.NoHouse s) else .bad
 | _=>.bad
theorem wo {ad:BA→ae}{g:Int→Ent→Ent}{neg:Bool} (had:∀ b z L,ad z∈BFp b z L) (vs:List V) (H:Hp) (Q:VK) (E:XK) (h:spD K a.Book 3 (wV a g neg) vs H Q E):qD K a ad g neg vs H Q E:=by
 obtain ⟨_,ps,s,m,r,S,P⟩:=h
 obtain ⟨n,pp,L,z,L',us,ys,hg,B,e1,e2,rfl,r',P⟩:=onB S r P
 split at P
 ·split at P
  ·rename_i h v hx
   cases r' with
   | cons q1 r'=>cases r' with
    | cons q2 r' =>
     cases r';cases q1;cases q2
     refine ⟨_,z,pp,L',h,v,rfl,B,hx,fun hh=>?_,fun hh hn hv=>?_,fun hh hv H' B' k=>?_⟩
     ·rw [kG,e1] at hh;rw [if_neg (by rw [hh];decide)] at P;exact P H m .refl S
     ·rw [kG,e1] at hh;rw [if_pos hh,if_pos ⟨hn,hv⟩] at P;exact P H m .refl S
     ·rw [kG,e1] at hh
      rw [if_pos hh,if_neg (fun y=>absurd (hv y.1) (by have:=y.2;omega))] at P
      obtain ⟨S2,x2⟩:=Ep S hg e2 B' (fun c o h hc=>k c o h fun y=>hc (by rw [y];exact had _ _ _)) (fun c hc=>.inl (by rw [zi] at hc;exact hc))
      rw [xy,e1] at S2 x2
      exact P _ _ _ x2 S2 .non
  ·exact P.elim
 ·exact P.elim
noncomputable abbrev ue (a:Adr):XF:=wV a (fun n x=>{ x with th:=n }) false
noncomputable abbrev za (a:Adr):XF:=wV a (fun n x=>{ x with mr:=n }) false
noncomputable abbrev zc (a:Adr):XF:=wV a (fun n x=>{ x with ls:=n }) true
theorem yk (vs:List V) (H:Hp) (Q:VK) (E:XK) (h:spD K a.Book 3 (ue a) vs H Q E):qD K a (·.dt) (fun n x=>{ x with th:=n }) false vs H Q E:=wo (fun b z L=>by simp [BFp]) vs H Q E h
theorem AT (vs:List V) (H:Hp) (Q:VK) (E:XK) (h:spD K a.Book 3 (za a) vs H Q E):qD K a (·.dm) (fun n x=>{ x with mr:=n }) false vs H Q E:=wo (fun b z L=>by simp [BFp]) vs H Q E h
theorem AU (vs:List V) (H:Hp) (Q:VK) (E:XK) (h:spD K a.Book 3 (zc a) vs H Q E):qD K a (·.dl) (fun n x=>{ x with ls:=n }) true vs H Q E:=wo (fun b z L=>by simp [BFp]) vs H Q E h
theorem Mt.imp {P:aT}{w:bv}{mg:Str→Option ah}{base:bM}{C:ae}{mm:Str}{k:Nat}{ps:List Str}{sp sp':Sp} (M:Mt P w K mg base C mm k ps sp) (h:∀ vs H Q E,sp' vs H Q E→sp vs H Q E):Mt P w K mg base C mm k ps sp' :=
 let ⟨f,fd,F,b⟩:=M;⟨f,fd,F.imp h,b⟩
theorem Fn.imp {P:aT}{w:bv}{mg:Str→Option ah}{base:bM}{x:Str}{k:Nat}{ps:List Str}{sp sp':Sp} (M:Fn P w K mg base x k ps sp) (h:∀ vs H Q E,sp' vs H Q E→sp vs H Q E):Fn P w K mg base x k ps sp' :=
 let ⟨f,fd,F,b⟩:=M;⟨f,fd,F.imp h,b⟩
noncomputable instance (q:Int×Int):Decidable (Sz q):=cN _
def CG (_:Adr) (vs:List PV) (s:Sto):Out PV:=match vs with
 | [.tup [.int t,.int b],.tup [.int t',.int b']]=>if Sz (t,b)∧Sz (t',b') then .ok (frP (kT (t,b) (t',b'))) s else .bad
 | _=>.bad
def tT (_:Adr) (vs:List PV) (s:Sto):Out PV:=match vs with
 | [.tup [.int t,.int b],.tup [.int t',.int b']]=>if Sz (t,b)∧Sz (t',b') then .ok (.bl (decide (t * b' > t' * b))) s else .bad
 | _=>.bad
theorem AB {x:V}{t b:Int} (r:Rep K H m s x (.tup [.int t,.int b])):∃ p,x=.ref p∧FrAt K H p (t,b):=by
 obtain ⟨p,ws,rfl,ht,rw'⟩:=r.tp
 cases rw' with
 | cons w1 w2=>cases w2 with
  | cons w2 w3=>cases w3;cases w1;cases w2;exact ⟨p,rfl,ht⟩
theorem AS (vs:List V) (H:Hp) (Q:VK) (E:XK) (h:spD K a.Book 2 (CG a) vs H Q E):qW K vs H Q E:=by
 obtain ⟨_,ps,s,m,r,S,P⟩:=h
 unfold CG at P
 split at P
 ·split at P
  ·rename_i hz
   cases r with
   | cons r1 r=>cases r with
    | cons r2 r =>
     cases r
     obtain ⟨p1,rfl,h1⟩:=AB r1
     obtain ⟨p2,rfl,h2⟩:=AB r2
     exact ⟨p1,p2,_,_,rfl,h1,h2,hz.1,hz.2,fun x hx=>P.new S hx fun ex S'=>.tup (.inl ⟨.inl jK,S'.pure_tup jK⟩) (.cons .int (.cons .int .nil))⟩
  ·exact P.elim
 ·exact P.elim
theorem zV (vs:List V) (H:Hp) (Q:VK) (E:XK) (h:spD K a.Book 2 (tT a) vs H Q E):tU K vs H Q E:=by
 obtain ⟨_,ps,s,m,r,S,P⟩:=h
 unfold tT at P
 split at P
 ·split at P
  ·rename_i hz
   cases r with
   | cons r1 r=>cases r with
    | cons r2 r =>
     cases r
     obtain ⟨p1,rfl,h1⟩:=AB r1
     obtain ⟨p2,rfl,h2⟩:=AB r2
     exact ⟨p1,p2,_,_,rfl,h1,h2,hz.1,hz.2,P.here S .bl⟩
  ·exact P.elim
 ·exact P.elim
theorem noF (m:Str) (h1:¬ m="people") (h2:¬ m="things_of") (h3:¬ m="mark_of") (h4:¬ m="loss_of") (h5:¬ m="held_of") (z:BA):(bf z).lookup m=none:=mM z h1 h2 h3 h4 h5
theorem vo (z:BA):(bf z).lookup ("person":Str)=none:=noF "person" (by decide +kernel) (by decide +kernel) (by decide +kernel) (by decide +kernel) (by decide +kernel) z
theorem Bu (z:BA):(bf z).lookup ("house":Str)=none:=noF "house" (by decide +kernel) (by decide +kernel) (by decide +kernel) (by decide +kernel) (by decide +kernel) z
theorem Ds (z:BA):(bf z).lookup ("sale":Str)=none:=noF "sale" (by decide +kernel) (by decide +kernel) (by decide +kernel) (by decide +kernel) (by decide +kernel) z
theorem yC (z:BA):(bf z).lookup ("persons":Str)=none:=noF "persons" (by decide +kernel) (by decide +kernel) (by decide +kernel) (by decide +kernel) (by decide +kernel) z
theorem Ag (z:BA):(bf z).lookup ("houses":Str)=none:=noF "houses" (by decide +kernel) (by decide +kernel) (by decide +kernel) (by decide +kernel) (by decide +kernel) z
theorem Af (z:BA):(bf z).lookup ("shares":Str)=none:=noF "shares" (by decide +kernel) (by decide +kernel) (by decide +kernel) (by decide +kernel) (by decide +kernel) z
theorem no_of (z:BA):(bf z).lookup ("of":Str)=none:=noF "of" (by decide +kernel) (by decide +kernel) (by decide +kernel) (by decide +kernel) (by decide +kernel) z
theorem Ae (z:BA):(bf z).lookup ("things":Str)=none:=noF "things" (by decide +kernel) (by decide +kernel) (by decide +kernel) (by decide +kernel) (by decide +kernel) z
theorem Dt (z:BA):(bf z).lookup ("mark":Str)=none:=noF "mark" (by decide +kernel) (by decide +kernel) (by decide +kernel) (by decide +kernel) (by decide +kernel) z
theorem Du (z:BA):(bf z).lookup ("loss":Str)=none:=noF "loss" (by decide +kernel) (by decide +kernel) (by decide +kernel) (by decide +kernel) (by decide +kernel) z
theorem Dr (z:BA):(bf z).lookup ("twin":Str)=none:=noF "twin" (by decide +kernel) (by decide +kernel) (by decide +kernel) (by decide +kernel) (by decide +kernel) z
end
theorem w5 (z:BA) (d:ae):mD "people" (.ref d) (bf z)=bf { z with dp:=d }:=by
 simp only [bf,mD,if_pos]
theorem w4 (z:BA) (d:ae):mD "things_of" (.ref d) (bf z)=bf { z with dt:=d }:=by
 simp only [bf,mD,if_neg (show ¬ ((ac "people")=ac "things_of") by decide +kernel),if_pos]
theorem z5 (z:BA) (d:ae):mD "mark_of" (.ref d) (bf z)=bf { z with dm:=d }:=by
 simp only [bf,mD,if_neg (show ¬ ((ac "people")=ac "mark_of") by decide +kernel),if_neg (show ¬ ((ac "things_of")=ac "mark_of") by decide +kernel),if_pos]
theorem z6 (z:BA) (d:ae):mD "loss_of" (.ref d) (bf z)=bf { z with dl:=d }:=by
 simp only [bf,mD,if_neg (show ¬ ((ac "people")=ac "loss_of") by decide +kernel),if_neg (show ¬ ((ac "things_of")=ac "loss_of") by decide +kernel),if_neg (show ¬ ((ac "mark_of")=ac "loss_of") by decide +kernel),if_pos]
theorem qP {H3:Hp}{b2 d C dx:ae}{fs fs':List (Str×V)}{o:HO} (ob:H3 b2=some (.ins C dx fs)) (hd:H3 d=none):(upd (upd H3 d o) b2 (.ins C dx fs')) b2=some (.ins C dx fs')∧(∀ c u,H3 c=some u→c≠b2→(upd (upd H3 d o) b2 (.ins C dx fs')) c=some u)∧(upd (upd H3 d o) b2 (.ins C dx fs')) d=some o∧d≠b2:=by
 have db:d≠b2:=(jM ob hd).symm
 refine ⟨jK,fun c u e hc=>?_,?_,db⟩
 ·rw [jJ hc,jJ (jM e hd)];exact e
 ·rw [jJ db,jK]
def upF (g:Str→ae) (n:Str) (p:ae) (m:Str):ae:=if m=n then p else g m
theorem EQ {g:Str→ae}{n m:Str}{p:ae} (h:m≠n):upF g n p m=g m:=if_neg h
theorem yT {g:Str→ae}{n:Str}{p:ae}:upF g n p n=p:=if_pos rfl
def TwF (f:Str→ae) (n:Str):Key×V:=(am n,.ref (f n))
def TwR (K:aa) (H8:Hp) (b b2 dh:ae) (ns:List Str) (L:List (Ent×ae)) (j:Nat) (σ:St) (H':Hp):Prop :=
 ∃ (v:Option V) (f:Str→ae),σ=[some (.ref b),some (.ref b2),v]∧(∀ c o,H8 c=some o→c≠dh→H' c=some o)∧H' dh=some (.dK ((ns.take j).map (TwF f)))∧(∀ n∈ns.take j,H8 (f n)=none∧∀ e∈L,e.1.nm=n→HeldAt K H' (f n) e.1.held)∧((ns.take j).map f).Nodup
theorem EO {f:Str→ae}{l:List Str}{n:Str} (h:n∉l):l5 (l.map (TwF f)) (am n)=none:=by
 have e:=mz l (fun m=>m) (fun m=>V.ref (f m)) n
 have e2:l.map (TwF f)=l.map fun m=>((am m:Key),V.ref (f m)):=rfl
 rw [e2,e]
 have:l.find? (fun m=>decide (m=n))=none:=by
  rw [bW]
  intro x hx z
  exact h (of_decide_eq_true z ▸ hx)
 rw [this]
 rfl
section
variable {P:aT}{w:bv}{K:aa}{mg:Str→Option ah}{base:bM}{a:Adr}{f:ae}{fd:bR}
abbrev pc:bT:=kD (top 22) 16
theorem sc_Book_twin:FnScope ["self","book","house"] ["self"] (jO pc):=fsc
def zg (K:aa) (C:ae):Sp:=fun vs H Q _=>∃ b z ppl L,vs=[.ref b]∧BookAt K C H b z ppl L ∧
 ∀ b2 z2 L2 H',L2.map (·.1)=L.map (·.1)→BookAt K C H' b2 z2 ppl L2→Same H H'→(∀ c∈BFp b2 z2 L2,H c=none)→Q (.ref b2) H'
theorem Dk (F:Fun K "twin" "Book.twin" pc f fd) (T:Txt K mg a) (Dct:mg "dict"=none) (M_Book:MkB P w K mg base "Book" a.Book 1 ["self"] (wp K a.Book)) (M_houses:Mt P w K mg base a.Book "houses" 1 ["self"] (rB K a.Book)) :
  FnOk P w K mg base (CXo P w) 3 f fd ["self"] (zg K a.Book):=by
 refine F.okN sc_Book_twin (fun vs H Q E h=>?_) (fun cdv A outer s H vs Q E hr h=>?_)
 ·obtain ⟨b,z,ppl,L,rfl,_⟩:=h
  rfl
 ·obtain ⟨b,z,ppl,L,rfl,B,k⟩:=h
  have hu:=jV hr
  refine ⟨_,(@jS _ _ _ _ _ (@nK _ _ (1) _ _ _ _ sc_Book_twin.nd rfl (ba rfl) (Cq M_Book (hr.mono (by first | decide | omega)) rfl j8) (by rfl) (by first | exact .inl rfl | exact .inr rfl | assumption)) (@jS _ _ _ _ _ (oP (pv 1) (@mV _ _ _ _ _ _ _ _ _ rj rfl Dct rl (@jR _ _ _ _ _ (kq (pv 0) rfl) pa_nil (by rfl)) (by decide) (by decide) (by rfl) (by rfl)) rfl) (@jS _ _ _ _ _ (oP (pv 1) (@mV _ _ _ _ _ _ _ _ _ rj rfl Dct rl (@jR _ _ _ _ _ (kq (pv 0) rfl) pa_nil (by rfl)) (by decide) (by decide) (by rfl) (by rfl)) rfl) (@jS _ _ _ _ _ (oP (pv 1) (@mV _ _ _ _ _ _ _ _ _ rj rfl Dct rl (@jR _ _ _ _ _ (kq (pv 0) rfl) pa_nil (by rfl)) (by decide) (by decide) (by rfl) (by rfl)) rfl) (@jS _ _ _ _ _ (oP (pv 1) (@mV _ _ _ _ _ _ _ _ _ rj rfl Dct rl (@jR _ _ _ _ _ (kq (pv 0) rfl) pa_nil (by rfl)) (by decide) (by decide) (by rfl) (by rfl)) rfl) (@jS _ _ _ _ _ (Cm fC rfl (zq (Cp (pv 0) M_houses (hr.mono (by first | decide | omega)) j8)) (wx (i:=2) sc_Book_twin.nd rfl (ba rfl)) (@jY _ _ _ (lZ hu (kq (pv 1) rfl) (pv 2) (@mV _ _ _ _ _ _ _ _ _ rj rfl Dct rl (@jR _ _ _ _ _ (@nS _ _ _ _ _ _ hu (kq (pv 0) rfl) (pv 2) (fun _ _=>rfl)) pa_nil (by rfl)) (by decide) (by decide) (by rfl) (by rfl)) rfl))) (@jY _ _ _ (@mG _ _ _ _ (pv 1))))))))),?_⟩
  intro b2 dx nb ndx nex
  refine ⟨b2,dx,rfl,jK,fun z2 H3 fz BK kp=>⟨rfl,?_⟩⟩
  have s3:Same H H3:=fun c o e=>by
   refine kp c o ?_ (jM e nb)
   rw [jJ (jM e nb),jJ (jM e ndx)]
   exact e
  have B3:=B.same s3
  have noM:∀ {x:Str},¬ x="people"→¬ x="things_of"→¬ x="mark_of"→¬ x="loss_of"→¬ x="held_of"→(bf z).lookup x=none:=fun h1 h2 h3 h4 h5=>mM z h1 h2 h3 h4 h5
  have hb0:H b2=none:=nb
  have few:∀ z:BA,(bf z).length < 1000:=fun z=>(show 5 < 1000 by decide)
  refine ⟨_,rfl,b,_,_,_,_,rfl,B3.ob,T.cl,T.nA_people,og z,z.dp,_,rfl,.inl B3.pp,fun d1 hd1=>?_⟩
  refine ⟨_,rfl,b2,_,_,_,rfl,(by rw [jJ (jM BK.ob hd1)];exact BK.ob),T.cl,T.nA_people,few _,?_⟩
  rw [w5]
  obtain ⟨ob4,kp4,e1,n1⟩:=qP (o:=.dK (ppl.map fun n=>(am n,.bl true))) (fs':=bf { z2 with dp:=d1 }) BK.ob hd1
  generalize upd (upd H3 d1 (.dK (ppl.map fun n=>(am n,.bl true)))) b2 (.ins a.Book z2.dx (bf { z2 with dp:=d1 }))=H4 at ob4 kp4 e1 ⊢
  have s4:Same H H4:=fun c o e=>kp4 c o (s3 _ _ e) (jM e hb0)
  have B4:=B.same s4
  refine ⟨_,rfl,b,_,_,_,_,rfl,B4.ob,T.cl,T.nA_things_of,pT z,z.dt,_,rfl,.inl B4.tt,fun d2 hd2=>?_⟩
  refine ⟨_,rfl,b2,_,_,_,rfl,(by rw [jJ (jM ob4 hd2)];exact ob4),T.cl,T.nA_things_of,few _,?_⟩
  rw [w4]
  obtain ⟨ob5,kp5,e2,n2⟩:=qP (o:=.dK (L.map fun e=>(am e.1.nm,.int e.1.th))) (fs':=bf { z2 with dp:=d1,dt:=d2 }) ob4 hd2
  generalize upd (upd H4 d2 (.dK (L.map fun e=>(am e.1.nm,.int e.1.th)))) b2 (.ins a.Book z2.dx (bf { z2 with dp:=d1,dt:=d2 }))=H5 at ob5 kp5 e2 ⊢
  have s5:Same H H5:=fun c o e=>kp5 c o (s4 _ _ e) (jM e hb0)
  have B5:=B.same s5
  refine ⟨_,rfl,b,_,_,_,_,rfl,B5.ob,T.cl,T.nA_mark_of,tO z,z.dm,_,rfl,.inl B5.mm,fun d3 hd3=>?_⟩
  refine ⟨_,rfl,b2,_,_,_,rfl,(by rw [jJ (jM ob5 hd3)];exact ob5),T.cl,T.nA_mark_of,few _,?_⟩
  rw [z5]
  obtain ⟨ob6,kp6,e3,n3⟩:=qP (o:=.dK (L.map fun e=>(am e.1.nm,.int e.1.mr))) (fs':=bf { z2 with dp:=d1,dt:=d2,dm:=d3 }) ob5 hd3
  generalize upd (upd H5 d3 (.dK (L.map fun e=>(am e.1.nm,.int e.1.mr)))) b2 (.ins a.Book z2.dx (bf { z2 with dp:=d1,dt:=d2,dm:=d3 }))=H6 at ob6 kp6 e3 ⊢
  have s6:Same H H6:=fun c o e=>kp6 c o (s5 _ _ e) (jM e hb0)
  have B6:=B.same s6
  refine ⟨_,rfl,b,_,_,_,_,rfl,B6.ob,T.cl,T.nA_loss_of,tP z,z.dl,_,rfl,.inl B6.ll,fun d4 hd4=>?_⟩
  refine ⟨_,rfl,b2,_,_,_,rfl,(by rw [jJ (jM ob6 hd4)];exact ob6),T.cl,T.nA_loss_of,few _,?_⟩
  rw [z6]
  obtain ⟨ob7,kp7,e4,n4⟩:=qP (o:=.dK (L.map fun e=>(am e.1.nm,.int e.1.ls))) (fs':=bf { z2 with dp:=d1,dt:=d2,dm:=d3,dl:=d4 }) ob6 hd4
  generalize upd (upd H6 d4 (.dK (L.map fun e=>(am e.1.nm,.int e.1.ls)))) b2 (.ins a.Book z2.dx (bf { z2 with dp:=d1,dt:=d2,dm:=d3,dl:=d4 }))=H7 at ob7 kp7 e4 ⊢
  have s7:Same H H7:=fun c o e=>kp7 c o (s6 _ _ e) (jM e hb0)
  have B7:=B.same s7
  obtain ⟨T0,eh0,ph0,_⟩:=BK.hh
  have eT0:T0=[]:=List.Perm.eq_nil ph0
  rw [eT0] at eh0
  obtain ⟨nd1,_⟩:=aw.mp BK.nd
  have hbh:z2.dh≠b2:=fun q=>nd1 (by rw [← q];simp)
  have c1:H7 d1=_:=kp7 _ _ (kp6 _ _ (kp5 _ _ e1 n1) n1) n1
  have c2:H7 d2=_:=kp7 _ _ (kp6 _ _ e2 n2) n2
  have c3:H7 d3=_:=kp7 _ _ e3 n3
  have ch4:=kp4 _ _ eh0 hbh
  have ch5:=kp5 _ _ ch4 hbh
  have ch6:=kp6 _ _ ch5 hbh
  have ch:H7 z2.dh=some (.dK []):=kp7 _ _ ch6 hbh
  have d12:d1≠d2:=jM e1 hd2
  have d13:d1≠d3:=jM (kp5 _ _ e1 n1) hd3
  have d14:d1≠d4:=jM (kp6 _ _ (kp5 _ _ e1 n1) n1) hd4
  have d23:d2≠d3:=jM e2 hd3
  have d24:d2≠d4:=jM (kp6 _ _ e2 n2) hd4
  have d34:d3≠d4:=jM e3 hd4
  have h1:z2.dh≠d1:=jM eh0 hd1
  have h2:z2.dh≠d2:=jM ch4 hd2
  have h3:z2.dh≠d3:=jM ch5 hd3
  have h4:z2.dh≠d4:=jM ch6 hd4
  have f1:H d1=none:=s3.free hd1
  have f2:H d2=none:=s4.free hd2
  have f3:H d3=none:=s5.free hd3
  have f4:H d4=none:=s6.free hd4
  have fh:H z2.dh=none:=by
   have:=fz z2.dh (by simp)
   cases q:H z2.dh with
   | none=>rfl
   | some o =>
    rw [jJ (jM q nb),jJ (jM q ndx),q] at this
    cases this
  clear kp4 kp5 kp6 kp7 ob4 ob5 ob6 hd1 hd2 hd3 hd4 e1 e2 e3 s3 s4 s5 s6 B3 B4 B5 B6 kp fz eh0 ch4 ch5 ch6 ph0 eT0
  refine ⟨_,rfl,b,_,_,rfl,B7.ob,noM (by decide +kernel) (by decide +kernel) (by decide +kernel) (by decide +kernel) (by decide +kernel),b,z,ppl,L,rfl,B7,fun hl hhl=>?_⟩
  have t8:=mC (o:=.lst ((srt (L.map (·.1.nm))).map V.str)) hhl
  have ehl:(upd H7 hl (.lst ((srt (L.map (·.1.nm))).map V.str))) hl=_:=jK
  have s8:=s7.trans t8
  have hlh:hl≠z2.dh:=(jM ch hhl).symm
  have ob8:=t8 _ _ ob7
  have c1:=t8 _ _ c1
  have c2:=t8 _ _ c2
  have c3:=t8 _ _ c3
  have c4:=t8 _ _ e4
  have ch8:=t8 _ _ ch
  generalize upd H7 hl (.lst ((srt (L.map (·.1.nm))).map V.str))=H8 at ehl s8 ob8 c1 c2 c3 c4 ch8 ⊢
  clear t8 hhl ch e4 s7 B7 ob7
  obtain ⟨_,_,_,nd0⟩:=B.hh
  have ndL:(L.map (·.1.nm)).Nodup:=by
   rw [aF] at nd0
   exact List.pairwise_map.mpr ((List.pairwise_map.mp nd0).imp fun {x y} h e=>h (congrArg am e))
  have pns:(srt (L.map (·.1.nm))).Perm (L.map (·.1.nm)):=jZ _
  have ndn:(srt (L.map (·.1.nm))).Nodup:=pns.nodup_iff.mpr ndL
  have lns:(srt (L.map (·.1.nm))).length≤8:=by rw [jT,af];exact B.h8
  generalize srt (L.map (·.1.nm))=ns at ehl pns ndn lns
  have B8:=B.same s8
  have bd8:∀ c,c∈BFp b z L→c≠z2.dh:=fun c hc q=>by
   have:=q ▸ hc
   unfold BFp at this
   simp only [ai] at this
   have live:∀ {o:HO},H z2.dh=some o→False:=fun e=>by rw [fh] at e;cases e
   rcases this with e | e | e | e | e | e | e
   ·exact live (e ▸ B.ob)
   ·exact live (e ▸ B.pp)
   ·exact live (e ▸ B.tt)
   ·exact live (e ▸ B.mm)
   ·exact live (e ▸ B.ll)
   ·obtain ⟨T1,e1,_⟩:=B.hh
    exact live (e ▸ e1)
   ·obtain ⟨x,hx,e⟩:=aj.mp e
    obtain ⟨ts,_,e1,_⟩:=B.he x hx
    exact live (e ▸ e1)
  refine ⟨hl,rfl,⟨_,SqL.of ehl⟩,BI (K:=K) (a:=hl) (xs:=ns.map V.str) (TwR K H8 b b2 z2.dh ns L)
   ⟨none,fun _=>0,rfl,fun c o e _=>e,ch8,fun n hn=>(by cases hn),gj⟩ (fun i σ H' _ ⟨_,_,_,h,_⟩=>SqL.of (h _ _ ehl hlh)) ?_ ?_⟩
  ·rintro j v σ H' hv ⟨v0,g,rfl,kp,edh,hf,ndf⟩
   rw [bo] at hv
   obtain ⟨n,hn,rfl⟩:=cA.mp hv
   obtain ⟨hj,en⟩:=a9.mp hn
   have BH:BookAt K a.Book H' b z ppl L:=B8.keep fun c o h x=>kp c o h (by
    rcases x with x | x
    ·exact bd8 c x
    ·intro q
     rw [q,ch8] at h
     cases h
     rcases x with ⟨xs,y | ⟨ob,y⟩⟩ <;> cases y)
   have hnL:n∈L.map (·.1.nm):=pns.mem_iff.mp (en ▸ cj hj)
   obtain ⟨e,he⟩:∃ e,kN L n=some e:=by
    obtain ⟨x,hx,ex⟩:=aj.mp hnL
    exact cK.mp (fu.mpr ⟨x,hx,decide_eq_true ex⟩)
   have hem:=mW he
   obtain ⟨ts,l1,hkv,htup⟩:=BH.he e hem
   have hget:DGet H' z.dh (.str n) (some (.ref e.2)):=by
    have:=BH.hh.dget n
    rw [sB _ he] at this
    exact this
   have nin:n∉ns.take j:=fun hq=>by
    have h0:=ndn
    rw [← gd j ns,bz] at h0
    refine h0.2.2 n hq n ?_ rfl
    rw [cg hj,en]
    exact ap
   have hb2':=kp _ _ ob8 hbh.symm
   refine ⟨_,rfl,b,_,_,_,_,rfl,BH.ob,T.cl,T.nA_held_of,nV z,_,rfl,z.dh,_,rfl,hget,e.2,_,rfl,.inl hkv,fun p hp=>?_⟩
   have tp:=mC (o:=.dK ((e.1.held.zip ts).map fun q=>(am q.1.1,V.ref q.2))) hp
   have pdh:p≠z2.dh:=(jM edh hp).symm
   refine ⟨_,rfl,b2,_,_,_,_,rfl,tp _ _ hb2',T.cl,T.nA_held_of,nV _,_,rfl,z2.dh,_,rfl,DPut.k (k:=am n) (tp _ _ edh) (by rw [af,bP];exact aH (show min j ns.length < 9 by omega) (by decide)),?_⟩
   rw [oh _ (EO nin)]
   have hp8:H8 p=none:=by
    cases q:H8 p with
    | none=>rfl
    | some o=>rw [kp p o q pdh] at hp;cases hp
   have tk:ns.take (j+1)=ns.take j++[n]:=by rw [bX,hn];rfl
   have gne:∀ m∈ns.take j,upF g n p m=g m:=fun m hm=>EQ fun q=>nin (by rw [← q];exact hm)
   refine ⟨_,upF g n p,rfl,fun c o h hc=>?_,?_,fun m hm=>?_,?_⟩
   ·rw [jJ hc]
    exact tp _ _ (kp c o h hc)
   ·rw [jK,tk,aD]
    have e1:(ns.take j).map (TwF (upF g n p))=(ns.take j).map (TwF g):=bB fun m hm=>by unfold TwF;rw [gne m hm]
    have e2:[n].map (TwF (upF g n p))=[(am n,V.ref p)]:=by rw [au,bQ];unfold TwF;rw [yT]
    rw [e1,e2]
   ·have keepH:∀ {q:ae}{l:Hl},q≠z2.dh→HeldAt K H' q l→HeldAt K (upd (upd H' p (.dK ((e.1.held.zip ts).map fun q=>(am q.1.1,V.ref q.2)))) z2.dh (.dK ((ns.take j).map (TwF g)++[(am n,V.ref p)]))) q l:=fun {q l} hq h=>by
     refine h.keep (fun o e=>?_) fun c o e x=>?_
     ·rw [jJ hq];exact tp _ _ e
     ·rw [jJ (fun z=>by rw [z,edh] at e;cases e;rcases x with ⟨xs,y | ⟨ob,y⟩⟩ <;> cases y)];exact tp _ _ e
    rw [tk] at hm
    rcases aX.mp hm with hm | hm
    ·rw [gne m hm]
     obtain ⟨a1,a2⟩:=hf m hm
     refine ⟨a1,fun x hx ex=>keepH (fun q=>?_) (a2 x hx ex)⟩
     rw [q,ch8] at a1
     cases a1
    ·have em:m=n:=aE.mp hm
     subst em
     rw [yT]
     refine ⟨hp8,fun x hx ex=>?_⟩
     rw [vx ndL he hx ex]
     refine ⟨ts,l1,by rw [jJ pdh,jK],fun q hq=>?_⟩
     refine oI (htup q hq) fun c o e y=>?_
     rw [jJ (fun z=>by rw [z,edh] at e;cases e;rcases y with ⟨xs,y | ⟨ob,y⟩⟩ <;> cases y)]
     exact tp _ _ e
   ·rw [tk,aD]
    have e1:(ns.take j).map (upF g n p)=(ns.take j).map g:=bB gne
    have e2:[n].map (upF g n p)=[p]:=by rw [au,bQ,yT]
    rw [e1,e2]
    refine p4 ndf fun hq=>?_
    obtain ⟨m,hm,em⟩:=aj.mp hq
    obtain ⟨_,a2⟩:=hf m hm
    have hmL:m∈L.map (·.1.nm):=pns.mem_iff.mp (gk hm)
    obtain ⟨x,hx,ex⟩:=aj.mp hmL
    obtain ⟨_,_,q2,_⟩:=a2 x hx ex
    rw [em,hp] at q2
    cases q2
  ·rintro σ H' ⟨v0,g,rfl,kp,edh,hf,ndf⟩
   rw [af,cD] at edh hf ndf
   have em:(L.map fun e=>(e.1,g e.1.nm)).map (·.2)=(L.map (·.1.nm)).map g:=by rw [aF,aF];rfl
   have nL:∀ x∈L.map (·.1.nm),x∈ns:=fun x hx=>pns.mem_iff.mpr hx
   have freeG:∀ c,c∈(L.map (·.1.nm)).map g→H8 c=none:=fun c hc=>by
    obtain ⟨x,hx,rfl⟩:=aj.mp hc
    exact (hf x (nL x hx)).1
   have gL:∀ {c:ae}{o:HO},H8 c=some o→c∉(L.map (·.1.nm)).map g:=fun {c o} e hc=>by
    rw [freeG c hc] at e
    cases e
   have bh:b2≠z2.dh:=hbh.symm
   refine ⟨_,rfl,k b2 { z2 with dp:=d1,dt:=d2,dm:=d3,dl:=d4 } (L.map fun e=>(e.1,g e.1.nm)) H' (by rw [aF];rfl) ⟨kp _ _ ob8 bh,kp _ _ c1 h1.symm,?_,?_,?_,?_,?_,?_,B.p6,by rw [af];exact B.h8⟩ (fun c o e=>kp c o (s8 _ _ e) (jM e fh)) ?_⟩
   ·rw [aF];exact kp _ _ c2 h2.symm
   ·rw [aF];exact kp _ _ c3 h3.symm
   ·rw [aF];exact kp _ _ c4 h4.symm
   ·refine ⟨_,edh,?_,?_⟩
    ·have:=pns.map (TwF g)
     rw [aF] at this ⊢
     exact this
    ·rw [aF,aF]
     rw [aF] at nd0
     exact nd0
   ·intro e he
    obtain ⟨x,hx,rfl⟩:=aj.mp he
    exact (hf x.1.nm (nL _ (aj.mpr ⟨x,hx,rfl⟩))).2 x hx rfl
   ·rw [em]
    have ndg:((L.map (·.1.nm)).map g).Nodup:=(pns.map g).nodup_iff.mp ndf
    refine aw.mpr ⟨?_,aw.mpr ⟨?_,aw.mpr ⟨?_,aw.mpr ⟨?_,aw.mpr ⟨?_,aw.mpr ⟨?_,ndg⟩⟩⟩⟩⟩⟩
    ·simp only [ai,not_or]
     exact ⟨n1.symm,n2.symm,n3.symm,n4.symm,bh,gL ob8⟩
    ·simp only [ai,not_or]
     exact ⟨d12,d13,d14,h1.symm,gL c1⟩
    ·simp only [ai,not_or]
     exact ⟨d23,d24,h2.symm,gL c2⟩
    ·simp only [ai,not_or]
     exact ⟨d34,h3.symm,gL c3⟩
    ·simp only [ai,not_or]
     exact ⟨h4.symm,gL c4⟩
    ·exact gL ch8
   ·intro c hc
    have hc:c∈b2::d1::d2::d3::d4::z2.dh::(L.map fun e=>(e.1,g e.1.nm)).map (·.2):=hc
    rw [em] at hc
    simp only [ai] at hc
    rcases hc with rfl | rfl | rfl | rfl | rfl | rfl | hc
    ·exact hb0
    ·exact f1
    ·exact f2
    ·exact f3
    ·exact f4
    ·exact fh
    ·exact s8.free (freeG c hc)
def uM (_:Adr) (vs:List PV) (s:Sto):Out PV:=ku vs s fun _ pp L r=>match r with
 | []=>.ok (.ref s.nx) (s.add (.book pp L))
 | _=>.bad
theorem AQ (vs:List V) (H:Hp) (Q:VK) (E:XK) (h:spD K a.Book 1 (uM a) vs H Q E):zg K a.Book vs H Q E:=by
 obtain ⟨_,ps,s,m,r,S,P⟩:=h
 obtain ⟨n,pp,L,z,L',us,ys,hg,B,e1,e2,rfl,r',P⟩:=onB S r P
 split at P
 ·cases r'
  refine ⟨_,z,pp,L',rfl,B,fun b2 z2 M2 H' eM B2 k fr=>?_⟩
  obtain ⟨S2,x2⟩:=S.add (c:=.book pp L) H' b2 (BFp b2 z2 M2) k fr fun _=>⟨z2,M2,(by show BookAt K a.Book H' (if _=_ then b2 else _) z2 pp M2;rw [if_pos rfl];exact B2),eM.trans e1,(by show (if _=_ then _ else _)=BFp (if _=_ then b2 else _) z2 M2;rw [if_pos rfl,if_pos rfl])⟩
  have:=P (.ref ((m.add s.nx b2 (BFp b2 z2 M2)).ad s.nx)) _ _ x2 S2 (.ref (cF _))
  have ea:(m.add s.nx b2 (BFp b2 z2 M2)).ad s.nx=b2:=by show (if _=_ then b2 else _)=_;rw [if_pos rfl]
  rw [ea] at this
  exact this
 ·exact P.elim
end
def Sm (x:Str):Prop:=x.length≤9∧∀ c∈x.cps.toList,c < 128
theorem Sm.nm {x:Str} (h:Sm x):Nm x:=⟨aJ h.1 (by decide),fun c hc=>d8 (h.2 c hc) (by decide)⟩
theorem pM (x y:Str):(x++y).cps.toList=x.cps.toList++y.cps.toList:=PyProof.Rows.cps_toList_append x y
theorem xN:∀ (ys:List Str),(∀ y∈ys,y.length≤1∧∀ c∈y.cps.toList,(97≤c∧c≤122))→(gn (ac "") ys).length≤ys.length∧∀ c∈(gn (ac "") ys).cps.toList,(97≤c∧c≤122)
 | [],_=>⟨az _,fun c hc=>by cases hc⟩
 | [x],h=>⟨(h x (by simp)).1,(h x (by simp)).2⟩
 | x::y::r,h=>by
  obtain ⟨i1,i2⟩:=xN (y::r) fun z hz=>h z (ak _ hz)
  obtain ⟨j1,j2⟩:=h x ap
  have e:gn (ac "") (x::y::r)=x++ac ""++gn (ac "") (y::r):=rfl
  rw [e]
  refine ⟨?_,fun c hc=>?_⟩
  ·rw [kC,kC]
   have:(ac "").length=0:=rfl
   rw [aC]
   omega
  ·rw [pM,pM] at hc
   rcases aX.mp hc with hc | hc
   ·rcases aX.mp hc with hc | hc
    ·exact j2 c hc
    ·cases hc
   ·exact i2 c hc
theorem BE {ys:List Str} (h:∀ y∈ys,y.length≤1∧∀ c∈y.cps.toList,(97≤c∧c≤122)):(b9 (ac "") ys).length≤ys.length∧∀ c∈(b9 (ac "") ys).cps.toList,(97≤c∧c≤122):=by
 have e:b9 (ac "") ys=gn (ac "") ys:=iN _ _
 rw [e]
 exact xN ys h
theorem Dy:∀ j,j < 26→(ac "abcdefghijklmnopqrstuvwxyz").cps.toList[j]?=some (97+j):=by decide +kernel
theorem Cw {i:Int} (h0:0≤i) (h1:i < 26):atI (ac "abcdefghijklmnopqrstuvwxyz").cps.toList i=some (97+i.toNat):=by
 have e:i=(i.toNat:Int):=by omega
 have:=kr (Dy i.toNat (by omega))
 rw [← e] at this
 exact this
theorem AN {ys:List Str} (h:∀ y∈ys,y.length≤1):(ys.map (·.length)).sum≤ys.length:=by
 induction ys with
 | nil=>exact az _
 | cons y r ih =>
  have:=ih fun z hz=>h z (ak _ hz)
  have:=h y ap
  simp only [au,List.sum_cons,aC]
  omega
def Wd (r:Int) (j:Nat) (w:Str):Prop:=Sm w∧qz w=true∧w.cps.toList.head?=some (97+((r+7 * (0+(j:Int))) % 26).toNat)
def shown (l:List (Str×Int×Int)):List (Str×Int×Int):=((srt (l.map (·.1))).map (kc l)).filter fun q=>decide (0 < q.2.1)
structure FrB (k:Nat) (v:Int) (q:Int×Int):Prop where
 low:Low q
 nn:0≤q.1
 le:q.1≤v * q.2
 bb:Bt k q.2
theorem zl {q:Int×Int} (h:0 < q.2):(red q).2 ∣ q.2:=by
 obtain ⟨v,hv⟩:(aL q.1 q.2:Int) ∣ q.2:=cx ..
 have hg:0 < aL q.1 q.2:=bU _ (by omega)
 refine ⟨(aL q.1 q.2:Int),?_⟩
 unfold red
 simp only
 rw [Int.ediv_mul_cancel (cx ..)]
theorem qU {p q:Int×Int} (hp:0 < p.2) (hq:0 < q.2):(kT p q).1 * (p.2 * q.2)=(p.1 * q.2+q.1 * p.2) * (kT p q).2:=(oJ (q:=(p.1 * q.2+q.1 * p.2,p.2 * q.2)) (bE hp hq)).2
theorem zO {k l:Nat}{p q:Int×Int} (hp:0 < p.2) (hq:0 < q.2) (bp:Bt k p.2) (bq:Bt l q.2):Bt (k+l) (kT p q).2 :=
 (bp.mul bq).dvd (Int.ne_of_gt (bE hp hq)) (zl (q:=(p.1 * q.2+q.1 * p.2,p.2 * q.2)) (bE hp hq))
theorem pR {a b d:Int} (hd:0 < d) (h:a * d≤b * d):a≤b:=fc h hd
theorem wn {k:Nat}{v:Int}{g q:Int×Int} (hg:FrB k v g) (hq:Low q) (q0:0 < q.1) (h:q.1 * g.2≤g.1 * q.2) (bq:Bt 94 q.2):FrB (k+94) v (kT g (-q.1,q.2)):=by
 have g0:=hg.low.1
 have p0:=hq.1
 have lq:Low (-q.1,q.2):=⟨hq.1,by have:=hq.2;unfold Cop aL at *;simp only [gr];exact this⟩
 have lo:=yg hg.low lq
 have D0:0 < g.2 * q.2:=bE g0 p0
 have ev:=qU (p:=g) (q:=(-q.1,q.2)) g0 p0
 simp only at ev
 generalize hr:kT g (-q.1,q.2)=r at *
 have r0:=lo.1
 refine ⟨lo,?_,?_,?_⟩
 ·refine pR D0 ?_
  rw [ev,Int.zero_mul]
  refine iK ?_ (bK r0)
  rw [ig];omega
 ·refine pR D0 ?_
  rw [ev]
  have h1:g.1 * q.2+-q.1 * g.2≤v * g.2 * q.2:=by
   have a1:g.1 * q.2≤v * g.2 * q.2:=aY hg.le (bK p0)
   have a2:0≤q.1 * g.2:=iK (bK q0) (bK g0)
   rw [ig];omega
  have h2:=aY h1 (bK r0)
  have e:v * g.2 * q.2 * r.2=v * r.2 * (g.2 * q.2):=by simp only [bg,ee,bH]
  rw [← e]
  exact h2
 ·rw [← hr]
  exact zO g0 p0 hg.bb bq
theorem Eb {k:Nat}{v:Int}{g q:Int×Int} (hg:FrB k v g) (hq:Low q) (q0:0 < q.1) (h:q.1≤v * q.2) (bq:Bt 94 q.2):FrB (k+94) (2 * v) (kT g q)∧0 < (kT g q).1:=by
 have g0:=hg.low.1
 have p0:=hq.1
 have lo:=yg hg.low hq
 have D0:0 < g.2 * q.2:=bE g0 p0
 have ev:=qU (p:=g) (q:=q) g0 p0
 have bt:=zO (p:=g) (q:=q) g0 p0 hg.bb bq
 generalize hr:kT g q=r at *
 have r0:=lo.1
 have pos:0 < r.1:=by
  have a1:0≤g.1 * q.2:=iK hg.nn (bK p0)
  have a2:0 < q.1 * g.2:=bE q0 g0
  have a3:0 < (g.1 * q.2+q.1 * g.2) * r.2:=bE (by omega) r0
  rw [← ev] at a3
  by_cases z:0 < r.1
  ·exact z
  ·have:=dP (show r.1≤0 by omega) (bK D0)
   omega
 refine ⟨⟨lo,bK pos,?_,bt⟩,pos⟩
 refine pR D0 ?_
 rw [ev]
 have h1:g.1 * q.2+q.1 * g.2≤2 * v * g.2 * q.2:=by
  have a1:g.1 * q.2≤v * g.2 * q.2:=aY hg.le (bK p0)
  have a2:q.1 * g.2≤v * q.2 * g.2:=aY h (bK g0)
  have e1:v * q.2 * g.2=v * g.2 * q.2:=dO ..
  have e2:2 * v * g.2 * q.2=2 * (v * g.2 * q.2):=by rw [bg 2,bg 2]
  rw [e2]
  omega
 have h2:=aY h1 (bK r0)
 have e:2 * v * g.2 * q.2 * r.2=2 * v * r.2 * (g.2 * q.2):=by simp only [bg,ee,bH]
 rw [← e]
 exact h2
theorem zv {k:Nat}{v:Int}{g q:Int×Int} (hg:FrB k v g) (hq:Low q) (h:q.1 * g.2≤g.1 * q.2):q.1≤v * q.2:=by
 refine pR hg.low.1 (ei h ?_)
 have:=aY hg.le (bK hq.1)
 rw [dO]
 exact this
def FrC (c:Nat) (q:Int×Int):Prop:=FrB (192 * c+2) (2 ^ c:Nat) q
theorem FrC.top {c:Nat}{q:Int×Int} (h:FrC c q):Bt (193 * c+2) q.1:=by
 have h1:=h.le
 have h0:=h.nn
 have hb:Bt (c+1) ((2 ^ c:Nat):Int):=by
  unfold Bt
  rw [Int.natAbs_natCast,Nat.pow_succ]
  have:=dM c
  omega
 have h2:q.1.natAbs≤(((2 ^ c:Nat):Int) * q.2).natAbs:=by omega
 unfold Bt
 refine a7 h2 ?_
 rw [gs,Int.natAbs_natCast]
 have hb2:q.2.natAbs < 2 ^ (192 * c+2):=h.bb
 have:2 ^ c * q.2.natAbs < 2 ^ c * 2 ^ (192 * c+2):=Nat.mul_lt_mul_of_pos_left hb2 (dM c)
 rw [← Nat.pow_add] at this
 have e:c+(192 * c+2)=193 * c+2:=by omega
 rw [e] at this
 exact this
theorem FrC.sz {c:Nat}{q:Int×Int} (h:FrC c q) (hc:c≤45):Sz q:=⟨h.low,h.top.mono (by omega),h.bb.mono (by omega)⟩
theorem FrC.mono {c d:Nat}{q:Int×Int} (h:FrC c q) (hc:c≤d):FrC d q:=by
 refine ⟨h.low,h.nn,ei h.le ?_,h.bb.mono (by omega)⟩
 refine aY ?_ (bK h.low.1)
 exact gW.mpr (cM (by decide) hc)
theorem frc0 (c:Nat):FrC c (0,1):=⟨⟨by decide,(rfl:aL 0 1=1)⟩,Int.le_refl _,by rw [jx];exact Int.natCast_nonneg _,bt1 (by omega)⟩
theorem frc1 (c:Nat):FrC c (1,1):=⟨⟨by decide,(rfl:aL 1 1=1)⟩,by decide,by rw [jx];exact gW.mpr (dM c),bt1 (by omega)⟩
structure ShOk (q:Int×Int):Prop where
 low:Low q
 bt:Bt 200 q.1
 bb:Bt 94 q.2
theorem ShOk.sz {q:Int×Int} (h:ShOk q):Sz q:=⟨h.low,h.bt.mono (by decide),h.bb.mono (by decide)⟩
theorem wB {l:Hl}{n:Str} (h:n∉l.map (·.1)):jW l n=(0,1):=by
 unfold jW kc
 have:l.find? (fun q=>decide (q.1=n))=none:=by
  rw [bW]
  intro x hx z
  exact h (aj.mpr ⟨x,hx,of_decide_eq_true z⟩)
 rw [this]
 rfl
def rv (q:Int×Int):Rat:=Rat.divInt q.1 q.2
theorem Cj {p q:Int×Int} (hp:0 < p.2) (hq:0 < q.2):rv (kT p q)=rv p+rv q:=by
 have h:=qU hp hq
 have h2:0 < (kT p q).2:=(oJ (q:=(p.1 * q.2+q.1 * p.2,p.2 * q.2)) (bE hp hq)).1.1
 unfold rv
 rw [Rat.divInt_add_divInt _ _ (by omega) (by omega),Rat.divInt_eq_divInt_iff (by omega) (by have:=bE hp hq;omega)]
 exact h
theorem E4 (q:Int×Int):rv (-q.1,q.2)=-rv q:=by
 unfold rv
 rw [Rat.neg_divInt]
def qt:List Rat→Rat
 | []=>0
 | x::l=>x+qt l
theorem xr:∀ l m:List Rat,qt (l++m)=qt l+qt m
 | [],m=>by show qt m=0+qt m;rw [Rat.zero_add]
 | x::l,m=>by show x+qt (l++m)=x+qt l+qt m;rw [xr l m,Rat.add_assoc]
theorem xq {f g:Str→Rat}{o:Str} (h:∀ n,n≠o→f n=g n):∀ ns:List Str,ns.Nodup→qt (ns.map f)=if o∈ns then qt (ns.map g)+(f o - g o) else qt (ns.map g)
 | [],_=>rfl
 | n::ns,nd=>by
  obtain ⟨n1,n2⟩:=aw.mp nd
  have ih:=xq h ns n2
  show f n+qt (ns.map f)=_
  by_cases e:n=o
  ·subst e
   rw [if_neg n1] at ih
   rw [if_pos ap,ih]
   show f n+qt (ns.map g)=g n+qt (ns.map g)+(f n - g n)
   grind
  ·have m:o∈n::ns ↔ o∈ns:=⟨fun z=>(ai.mp z).resolve_left fun q=>e q.symm,ak _⟩
   by_cases z:o∈ns
   ·rw [if_pos z] at ih
    rw [if_pos (m.mpr z),ih,h n e]
    show g n+(qt (ns.map g)+(f o - g o))=g n+qt (ns.map g)+(f o - g o)
    rw [Rat.add_assoc]
   ·rw [if_neg z] at ih
    rw [if_neg (fun q=>z (m.mp q)),ih,h n e]
    rfl
def Cf (l:Hl):Rat:=qt ((l.map (·.1)).map fun n=>rv (jW l n))
theorem xt {l:Hl} (nd:(l.map (·.1)).Nodup) (o:Str) (q:Int×Int):Cf (lK l o q)=Cf l+(rv q - rv (jW l o)):=by
 have h:∀ n,n≠o→rv (jW (lK l o q) n)=rv (jW l n):=fun n hn=>by rw [kH,if_neg hn]
 have ho:rv (jW (lK l o q) o)=rv q:=by rw [kH,if_pos rfl]
 have u:=xq h (l.map (·.1)) nd
 unfold Cf
 rw [kA]
 by_cases z:o∈l.map (·.1)
 ·rw [if_pos z] at u ⊢
  rw [u,ho]
 ·rw [if_neg z] at u ⊢
  rw [aD,xr,u,wB z]
  show _+(rv (jW (lK l o q) o)+0)=_
  have:rv (0,1)=0:=Rat.zero_divInt 1
  rw [ho,this]
  grind
structure On (D:Int) (q:Int×Int) (u:Int):Prop where
 low:Low q
 ev:q.1 * D=u * q.2
theorem On.add {D:Int}{p q:Int×Int}{u v:Int} (h:On D p u) (g:On D q v):On D (kT p q) (u+v):=by
 have p0:=h.low.1
 have q0:=g.low.1
 have ev:=qU p0 q0
 have pq:0 < p.2 * q.2:=bE p0 q0
 refine ⟨(oJ (q:=(p.1 * q.2+q.1 * p.2,p.2 * q.2)) pq).1,fg (a:=p.2 * q.2) (by omega) ?_⟩
 generalize kT p q=r at ev ⊢
 have e1:=h.ev
 have e2:=g.ev
 calc r.1 * D * (p.2 * q.2)=(r.1 * (p.2 * q.2)) * D:=by rw [bg,bH D,← bg]
  _=((p.1 * q.2+q.1 * p.2) * r.2) * D:=by rw [ev]
  _=((p.1 * D) * q.2+(q.1 * D) * p.2) * r.2:=by
   rw [bg,bH r.2 D,← bg,Int.add_mul (p.1 * q.2)]
   congr 2
   ·rw [bg,bH q.2,← bg]
   ·rw [bg,bH p.2,← bg]
  _=((u * p.2) * q.2+(v * q.2) * p.2) * r.2:=by rw [e1,e2]
  _=(u+v) * r.2 * (p.2 * q.2):=by
   have a1:u * p.2 * q.2=u * (p.2 * q.2):=bg ..
   have a2:v * q.2 * p.2=v * (p.2 * q.2):=by rw [bg,bH q.2]
   rw [a1,a2,← Int.add_mul,bg,bH (p.2 * q.2),← bg]
theorem On.neg {D:Int}{q:Int×Int}{u:Int} (h:On D q u):On D (-q.1,q.2) (-u) :=
 ⟨⟨h.low.1,by have:=h.low.2;unfold Cop aL at *;simp only [gr];exact this⟩,by show -q.1 * D=-u * q.2;rw [ig,ig,h.ev]⟩
theorem On.scale {D:Int}{q:Int×Int}{u:Int} (h:On D q u) (k:Int):On (D * k) q (u * k) :=
 ⟨h.low,by rw [← bg,h.ev,bg,bH q.2,← bg]⟩
theorem Di (D:Int):On D (0,1) 0:=⟨⟨by decide,rfl⟩,by simp⟩
theorem Fo (D:Int):On D (1,1) D:=⟨⟨by decide,rfl⟩,by show 1 * D=D * 1;omega⟩
theorem Dj {q:Int×Int} (h:Low q):On q.2 q q.1:=⟨h,rfl⟩
structure HR (c:Nat) (hl hm:Hl):Prop where
 q:∀ n,jW hl n=jW hm n
 nm:∀ n,n∈hl.map (·.1) ↔ 0 < (jW hl n).1
 n1:(hl.map (·.1)).Nodup
 n2:(hm.map (·.1)).Nodup
 l1:hl.length≤c+1
 l2:hm.length≤c+1
 fr:∀ n,FrC c (jW hl n)
 ex:∃ n,0 < (jW hl n).1
 sm:∀ n∈hm.map (·.1),Sm n
 one:Cf hm=1
 dv:∃ (D:Int) (U:Str→Int),0 < D∧Bt (94 * c+1) D∧∀ n,On D (jW hm n) (U n)
theorem HR.mono {c d:Nat}{hl hm:Hl} (h:HR c hl hm) (hc:c≤d):HR d hl hm:=⟨h.q,h.nm,h.n1,h.n2,aJ h.l1 (by omega),aJ h.l2 (by omega),fun n=>(h.fr n).mono hc,h.ex,h.sm,h.one,let ⟨D,U,d1,d2,d3⟩:=h.dv;⟨D,U,d1,d2.mono (by omega),d3⟩⟩
theorem FA (c:Nat) {o:Str} (ho:Sm o):HR c [(o,1,1)] [(o,1,1)]:=by
 have g:∀ n,jW [(o,1,1)] n=if n=o then (1,1) else (0,1):=fun n=>by
  unfold jW kc
  rw [bD]
  by_cases e:o=n
  ·rw [show decide ((o,((1:Int),(1:Int))).1=n)=true from decide_eq_true e,if_pos e.symm];rfl
  ·rw [show decide ((o,((1:Int),(1:Int))).1=n)=false from decide_eq_false e,if_neg fun z=>e z.symm];rfl
 refine ⟨fun _=>rfl,fun n=>?_,by simp,by simp,by simp,by simp,fun n=>?_,⟨o,by rw [g,if_pos rfl];decide⟩,fun n hn=>by rw [aE.mp hn];exact ho,by
  show rv (jW [(o,1,1)] o)+0=1
  rw [g,if_pos rfl,Rat.add_zero]
  exact Rat.divInt_self' (by decide),1,fun n=>if n=o then 1 else 0,by decide,bt1 (by omega),fun n=>by
   rw [g]
   by_cases e:n=o
   ·rw [if_pos e];show On 1 (1,1) (if n=o then 1 else 0);rw [if_pos e];exact Fo 1
   ·rw [if_neg e];show On 1 (0,1) (if n=o then 1 else 0);rw [if_neg e];exact Di 1⟩
 ·rw [g]
  by_cases e:n=o
  ·rw [if_pos e];simp [e]
  ·rw [if_neg e];simp [e]
 ·rw [g]
  by_cases e:n=o
  ·rw [if_pos e];exact frc1 c
  ·rw [if_neg e];exact frc0 c
theorem HR.had {c:Nat}{hl hm:Hl} (h:HR c hl hm) {n:Str} (h0:0 < (jW hm n).1):n∈hm.map (·.1):=by
 by_cases z:n∈hm.map (·.1)
 ·exact z
 ·rw [wB z] at h0
  exact absurd h0 (by decide)
theorem HR.shown {c:Nat}{hl hm:Hl} (h:HR c hl hm):shown hm=(srt (hl.map (·.1))).map (kc hl):=by
 unfold My.shown
 have e1:(fun n=>kc hm n)=fun n=>(n,jW hm n):=funext fun n=>pS hm n
 have e2:(fun n=>kc hl n)=fun n=>(n,jW hm n):=funext fun n=>by rw [pS hl n,h.q]
 show (List.map (fun n=>kc hm n) _).filter _=List.map (fun n=>kc hl n) _
 rw [e1,e2,eT]
 congr 1
 refine l9 ?_ ((l6 _).filter _) (l6 _)
 refine (List.perm_ext_iff_of_nodup (((jZ _).nodup_iff.mpr h.n2).filter _) ((jZ _).nodup_iff.mpr h.n1)).mpr fun n=>?_
 rw [dJ,(jZ _).mem_iff,(jZ _).mem_iff,h.nm,h.q]
 show (n∈_∧decide (0 < (jW hm n).1)=true) ↔ _
 rw [decide_eq_true_iff]
 exact ⟨fun z=>z.2,fun z=>⟨h.had z,z⟩⟩
theorem Bx {q:Int×Int} (h:Low q) (h0:q.1=0):q=(0,1):=by
 obtain ⟨t,b⟩:=q
 obtain ⟨h1,h2⟩:=h
 simp only at h0 h1 h2
 subst h0
 have e:b=1:=by
  have:aL 0 b=1:=h2
  rw [Int.gcd_zero_left] at this
  omega
 rw [e]
theorem HR.sale {c:Nat}{hl hm:Hl} (h:HR c hl hm) {o1 o2:Str}{q:Int×Int} (hq:ShOk q) (so:Sm o2) (nt:¬ mB hl o1 q):HR (c+1) (qu hl o1 o2 q) (uR hm o1 o2 q):=by
 have q0:0 < q.1:=by by_cases z:0 < q.1;exact z;exact absurd (.inl z) nt
 have hle:q.1 * (jW hl o1).2≤(jW hl o1).1 * q.2:=by
  by_cases z:q.1 * (jW hl o1).2 > (jW hl o1).1 * q.2
  ·exact absurd (.inr z) nt
  ·omega
 have R:=wn (h.fr o1) hq.low q0 hle hq.bb
 have qv:=zv (h.fr o1) hq.low hle
 have o1in:o1∈hl.map (·.1):=by
  rw [h.nm]
  by_cases z:0 < (jW hl o1).1
  ·exact z
  ·have a1:(jW hl o1).1 * q.2≤0:=dP (by omega) (bK hq.low.1)
   have a2:0 < q.1 * (jW hl o1).2:=bE q0 (h.fr o1).low.1
   omega
 have o1im:o1∈hm.map (·.1):=h.had (by rw [← h.q];exact (h.nm o1).mp o1in)
 generalize hr:kT (jW hl o1) (-q.1,q.2)=r at *
 have key:∃ l1 m1:Hl,qu hl o1 o2 q=lK l1 o2 (kT (jW l1 o2) q)∧uR hm o1 o2 q=lK m1 o2 (kT (jW m1 o2) q)∧(∀ n,jW l1 n=jW m1 n)∧(∀ n,n∈l1.map (·.1) ↔ 0 < (jW l1 n).1)∧(l1.map (·.1)).Nodup∧(m1.map (·.1)).Nodup∧l1.length≤c+1∧m1.length≤c+1∧(∀ n,FrB (192 * c+2+94) (2 ^ c:Nat) (jW l1 n))∧(∀ n∈m1.map (·.1),Sm n)∧Cf m1+rv q=1∧∃ (D:Int) (U:Str→Int),0 < D∧Bt (94 * (c+1)+1) D∧On D q (U cU)∧∀ n,∃ u,On D (jW m1 n) u:=by
  have gm:∀ n,jW (lK hm o1 r) n=if n=o1 then r else jW hl n:=fun n=>by rw [kH,h.q]
  have lm:(lK hm o1 r).length≤c+1:=by
   have:=congrArg cL (kA hm o1 r)
   rw [if_pos o1im,af,af] at this
   rw [this];exact h.l2
  have fr1:∀ n,FrB (192 * c+2+94) (2 ^ c:Nat) (if n=o1 then r else jW hl n):=fun n=>by
   by_cases e:n=o1
   ·rw [if_pos e];exact R
   ·rw [if_neg e];exact ⟨(h.fr n).low,(h.fr n).nn,(h.fr n).le,(h.fr n).bb.mono (by omega)⟩
  have em:uR hm o1 o2 q=lK (lK hm o1 r) o2 (kT (jW (lK hm o1 r) o2) q):=by
   unfold uR
   simp only [← h.q o1,hr]
  have smm:∀ n∈(lK hm o1 r).map (·.1),Sm n:=fun n hn=>by
   rw [kA,if_pos o1im] at hn
   exact h.sm n hn
  have one1:Cf (lK hm o1 r)+rv q=1:=by
   rw [xt h.n2,h.one,← hr,Cj (q:=(-q.1,q.2)) (h.fr o1).low.1 hq.low.1,E4,h.q]
   grind
  have dv1:∃ (D:Int) (U:Str→Int),0 < D∧Bt (94 * (c+1)+1) D∧On D q (U cU)∧∀ n,∃ u,On D (jW (lK hm o1 r) n) u:=by
   obtain ⟨D,U,d1,d2,d3⟩:=h.dv
   have oq:On (D * q.2) q (q.1 * D):=by rw [bH D];exact (Dj hq.low).scale D
   refine ⟨D * q.2,fun _=>q.1 * D,bE d1 hq.low.1,(d2.mul hq.bb).mono (by omega),oq,fun n=>?_⟩
   rw [kH]
   by_cases e:n=o1
   ·rw [if_pos e,← hr,h.q]
    exact ⟨_,((d3 o1).scale q.2).add oq.neg⟩
   ·rw [if_neg e]
    exact ⟨_,(d3 n).scale q.2⟩
  by_cases rz:r=(0,1)
  ·have gl:∀ n,jW (qp hl o1) n=if n=o1 then r else jW hl n:=fun n=>by rw [vz,rz]
   refine ⟨qp hl o1,lK hm o1 r,?_,em,fun n=>by rw [gl,gm],fun n=>?_,Dv _ h.n1,uC _ _ h.n2,aJ (xL _ _) h.l1,lm,fun n=>by rw [gl];exact fr1 n,smm,one1,dv1⟩
   ·unfold qu
    simp only [hr,rz,if_true]
   ·rw [tm,dJ,gl,h.nm,decide_eq_true_iff]
    by_cases e:n=o1
    ·rw [if_pos e,rz]
     exact ⟨fun z=>absurd e z.2,fun z=>absurd z (by decide)⟩
    ·rw [if_neg e]
     exact ⟨fun z=>z.1,fun z=>⟨z,e⟩⟩
  ·have gl:∀ n,jW (lK hl o1 r) n=if n=o1 then r else jW hl n:=fun n=>kH ..
   have rp:0 < r.1:=by
    have:=R.nn
    by_cases z:r.1=0
    ·exact absurd (Bx R.low z) rz
    ·omega
   refine ⟨lK hl o1 r,lK hm o1 r,?_,em,fun n=>by rw [gl,gm],fun n=>?_,uC _ _ h.n1,uC _ _ h.n2,?_,lm,fun n=>by rw [gl];exact fr1 n,smm,one1,dv1⟩
   ·unfold qu
    simp only [hr,rz,if_false]
   ·rw [kA,if_pos o1in,gl,h.nm]
    by_cases e:n=o1
    ·rw [if_pos e]
     exact ⟨fun _=>rp,fun _=>by rw [e];exact (h.nm o1).mp o1in⟩
    ·rw [if_neg e]
   ·have:=congrArg cL (kA hl o1 r)
    rw [if_pos o1in,af,af] at this
    rw [this];exact h.l1
 obtain ⟨l1,m1,es,em,gq,nm1,nd1,nd2,len1,len2,fr1,sm1,one1,D1,U1,d1,d2,oq,dm⟩:=key
 obtain ⟨U,up⟩:=Eb (fr1 o2) hq.low q0 qv hq.bb
 have ev:(2 * ((2 ^ c:Nat):Int))=((2 ^ (c+1):Nat):Int):=by rw [Nat.pow_succ,Int.natCast_mul,bH];rfl
 rw [es,em]
 refine ⟨fun n=>?_,fun n=>?_,uC _ _ nd1,uC _ _ nd2,aJ (wA _ _ _) (by omega),aJ (wA _ _ _) (by omega),fun n=>?_,⟨o2,by rw [kH,if_pos rfl];exact up⟩,fun n hn=>?_,?_,?_⟩
 ·rw [kH,kH,gq,gq]
 ·rw [kH,kA]
  by_cases e:n=o2
  ·rw [if_pos e]
   refine ⟨fun _=>up,fun _=>?_⟩
   rw [e]
   by_cases z:o2∈l1.map (·.1)
   ·rw [if_pos z];exact z
   ·rw [if_neg z];exact aP _ (aE.mpr rfl)
  ·rw [if_neg e,← nm1]
   by_cases z:o2∈l1.map (·.1)
   ·rw [if_pos z]
   ·rw [if_neg z,aX]
    exact ⟨fun y=>y.elim id fun y=>absurd (aE.mp y) e,fun y=>.inl y⟩
 ·rw [kH]
  by_cases e:n=o2
  ·rw [if_pos e]
   unfold FrC
   rw [← ev]
   exact ⟨U.low,U.nn,U.le,U.bb.mono (by omega)⟩
  ·rw [if_neg e]
   have:=fr1 n
   refine ⟨this.low,this.nn,ei this.le ?_,this.bb.mono (by omega)⟩
   exact aY (gW.mpr (cM (by decide) (by omega))) (bK this.low.1)
 ·rw [kA] at hn
  by_cases z:o2∈m1.map (·.1)
  ·rw [if_pos z] at hn;exact sm1 n hn
  ·rw [if_neg z] at hn
   rcases aX.mp hn with y | y
   ·exact sm1 n y
   ·rw [aE.mp y];exact so
 ·rw [xt nd2,Cj (by rw [← gq];exact (fr1 o2).low.1) hq.low.1]
  grind
 ·have:∀ n,∃ u,On D1 (jW (lK m1 o2 (kT (jW m1 o2) q)) n) u:=fun n=>by
   rw [kH]
   by_cases e:n=o2
   ·rw [if_pos e]
    obtain ⟨u,hu⟩:=dm o2
    exact ⟨_,hu.add oq⟩
   ·rw [if_neg e];exact dm n
  exact ⟨D1,fun n=>Classical.choose (this n),d1,d2,fun n=>Classical.choose_spec (this n)⟩
theorem HR.saleOk {c:Nat}{hl hm:Hl} (h:HR c hl hm) (hc:c≤44) {o1:Str}{q:Int×Int} (hq:ShOk q):SaleOk hl o1 q:=by
 refine ⟨a7 h.l1 (by omega),fun n=>(h.fr n).sz (by omega),fun nt=>?_⟩
 have q0:0 < q.1:=by by_cases z:0 < q.1;exact z;exact absurd (.inl z) nt
 have hle:q.1 * (jW hl o1).2≤(jW hl o1).1 * q.2:=by
  by_cases z:q.1 * (jW hl o1).2 > (jW hl o1).1 * q.2
  ·exact absurd (.inr z) nt
  ·omega
 have R:=wn (h.fr o1) hq.low q0 hle hq.bb
 refine FrC.sz (c:=c+1) ⟨R.low,R.nn,ei R.le ?_,R.bb.mono (by omega)⟩ (by omega)
 exact aY (gW.mpr (cM (by decide) (by omega))) (bK R.low.1)
section
variable {P:aT}{w:bv}{K:aa}{mg:Str→Option ah}{base:bM}{a:Adr}{f:ae}{fd:bR}
abbrev oY:bT:=top 30
theorem sc__law_take:FnScope ["_law_purse_here","_law_many","_law_at","_law_found"] ["_law_purse_here","_law_many"] (jO oY):=fsc
def pE (a:Adr):XS:=(xSeq (xSet 2 (xB (xCons (x2 (x2 (xVar 0) (xC (.int 0)) fIx) (xC (.int 0)) fEq) xNil) fInt)) (xSeq (xSet 3 (x2 (x2 (xVar 0) (xVar 2) fIx) (xVar 1) fMod)) (xSeq (xPut (xVar 0) (xVar 2) (x2 (x2 (xVar 0) (xVar 2) fIx) (xVar 1) fDiv)) (xRet (xVar 3)))))
def jQ (a:Adr):XF:=(fnD 4 (pE a))
theorem wf (F:Fun K "_law_take" "_law_take" oY f fd) (T:Txt K mg a):FnOk P w K mg base (CXo P w) 1 f fd ["_law_purse_here","_law_many"] (spD K a.Book 2 (jQ a)) :=
 ni F sc__law_take rfl fun cdv A outer s H E hr=>(jP (j4 2 sc__law_take.nd rfl (ba rfl) (mn b_int rfl T.b_int FQ (jH (EH (D8 (zA hr)) (j5 (jV hr) (jI 0) jL (fun _ _=>rfl)) jL (k9 _)) jN))) (jP (j4 3 sc__law_take.nd rfl (ba rfl) (sI (j5 (jV hr) (jI 0) (jI 2) (fun _ _=>rfl)) (jI 1))) (jP (uG (jV hr) (jI 0) (jI 2) (y8 (j5 (jV hr) (jI 0) (jI 2) (fun _ _=>rfl)) (jI 1))) (jX (kE (jI 3))))))
abbrev mR:bT:=top 31
theorem sc__law_divisor:FnScope ["_law_one","_law_other"] ["_law_one","_law_other"] (jO mR):=fsc
def k8 (a:Adr) :XS:=(xPar 0 1 (xCons (xVar 1) (xCons (x2 (xVar 0) (xVar 1) fMod) xNil)))
def oU (a:Adr):XS:=(xSeq (uf (xTr (x2 (xVar 1) (xC (.int 0)) fNe)) (k8 a)) (xRet (xB (xCons (xVar 0) xNil) fAbs)))
def k7 (a:Adr):XF:=(fnD 2 (oU a))
theorem sk (F:Fun K "_law_divisor" "_law_divisor" mR f fd) (T:Txt K mg a):FnOk P w K mg base (CXo P w) 1 f fd ["_law_one","_law_other"] (spD K a.Book 2 (k7 a)) :=
 ni F sc__law_divisor rfl fun cdv A outer s H E hr=>(jP (BL (qQ (F2 (zA hr)) (jI 1) jL (k9 _)) (jX (FI (i:=0) (j:=1) rfl sc__law_divisor.nd rfl rfl (by decide) rfl rfl (jH (jI 1) (jH (sI (jI 0) (jI 1)) jN)) rfl))) (jX (kE (kU b_abs rfl T.b_abs FS (jH (jI 0) jN)))))
abbrev nE:bT:=top 32
theorem sc__law_lowest:FnScope ["_law_top","_law_bottom","_law_share"] ["_law_top","_law_bottom"] (jO nE):=fsc
def qd (a:Adr):XS:=(xSeq (xSet 2 (xCall 2 (k7 a) (xCons (xVar 0) (xCons (xVar 1) xNil)))) (xRet (xTup (xCons (x2 (xVar 0) (xVar 2) fDiv) (xCons (x2 (xVar 1) (xVar 2) fDiv) xNil)))))
def kf (a:Adr):XF:=(fnD 3 (qd a))
theorem sQ (F:Fun K "_law_lowest" "_law_lowest" nE f fd) (T:Txt K mg a) (F__law_divisor:Fn P w K mg base "_law_divisor" 1 ["_law_one","_law_other"] (spD K a.Book 2 (k7 a))):FnOk P w K mg base (CXo P w) 2 f fd ["_law_top","_law_bottom"] (spD K a.Book 2 (kf a)) :=
 ni F sc__law_lowest rfl fun cdv A outer s H E hr=>(jP (j4 2 sc__law_lowest.nd rfl (ba rfl) (kl F__law_divisor (hr.mono (by decide)) rfl ka (jH (jI 0) (jH (jI 1) jN)))) (jX (kE (qF (jH (y8 (jI 0) (jI 2)) (jH (y8 (jI 1) (jI 2)) jN))))))
abbrev oZ:bT:=top 33
theorem vW:FnScope ["_law_one","_law_other"] ["_law_one","_law_other"] (jO oZ):=fsc
def rY (a:Adr):XS:=(xRet (xCall 2 (kf a) (xCons (x2 (x2 (x2 (xVar 0) (xC (.int 0)) fIx) (x2 (xVar 1) (xC (.int 1)) fIx) fMul) (x2 (x2 (xVar 1) (xC (.int 0)) fIx) (x2 (xVar 0) (xC (.int 1)) fIx) fMul) fAdd) (xCons (x2 (x2 (xVar 0) (xC (.int 1)) fIx) (x2 (xVar 1) (xC (.int 1)) fIx) fMul) xNil))))
def lx (a:Adr):XF:=(fnD 2 (rY a))
theorem wg (F:Fun K "_law_plus" "_law_plus" oZ f fd) (T:Txt K mg a) (F__law_lowest:Fn P w K mg base "_law_lowest" 2 ["_law_top","_law_bottom"] (spD K a.Book 2 (kf a))):FnOk P w K mg base (CXo P w) 3 f fd ["_law_one","_law_other"] (spD K a.Book 2 (lx a)) :=
 ni F vW rfl fun cdv A outer s H E hr=>(jX (kE (kl F__law_lowest (hr.mono (by decide)) rfl ka (jH (kI (mY (j5 (jV hr) (jI 0) jL (fun _ _=>rfl)) (j5 (jV hr) (jI 1) jL (fun _ _=>rfl))) (mY (j5 (jV hr) (jI 1) jL (fun _ _=>rfl)) (j5 (jV hr) (jI 0) jL (fun _ _=>rfl)))) (jH (mY (j5 (jV hr) (jI 0) jL (fun _ _=>rfl)) (j5 (jV hr) (jI 1) jL (fun _ _=>rfl))) jN)))))
abbrev ot:bT:=top 34
theorem uk:FnScope ["_law_one","_law_other"] ["_law_one","_law_other"] (jO ot):=fsc
def qA (a:Adr):XS:=(xRet (xCall 2 (kf a) (xCons (x2 (x2 (xVar 0) (xC (.int 0)) fIx) (x2 (xVar 1) (xC (.int 0)) fIx) fMul) (xCons (x2 (x2 (xVar 0) (xC (.int 1)) fIx) (x2 (xVar 1) (xC (.int 1)) fIx) fMul) xNil))))
def kJ (a:Adr):XF:=(fnD 2 (qA a))
theorem uw (F:Fun K "_law_times" "_law_times" ot f fd) (T:Txt K mg a) (F__law_lowest:Fn P w K mg base "_law_lowest" 2 ["_law_top","_law_bottom"] (spD K a.Book 2 (kf a))):FnOk P w K mg base (CXo P w) 3 f fd ["_law_one","_law_other"] (spD K a.Book 2 (kJ a)) :=
 ni F uk rfl fun cdv A outer s H E hr=>(jX (kE (kl F__law_lowest (hr.mono (by decide)) rfl ka (jH (mY (j5 (jV hr) (jI 0) jL (fun _ _=>rfl)) (j5 (jV hr) (jI 1) jL (fun _ _=>rfl))) (jH (mY (j5 (jV hr) (jI 0) jL (fun _ _=>rfl)) (j5 (jV hr) (jI 1) jL (fun _ _=>rfl))) jN)))))
abbrev ou:bT:=top 29
theorem sc__law_purse:FnScope ["_law_script","_law_cells","_law_number","_law_found","_law_k","_law_cell"] ["_law_script"] (jO ou):=fsc
def mT (a:Adr) :XS:=(xSeq (xSet 5 (x2 (xVar 1) (x2 (xVar 4) (xB (xCons (xVar 1) xNil) fLen) fMod) fIx)) (xSeq (xSet 2 (x2 (x2 (x2 (x2 (x2 (xVar 2) (xVar 2) fMul) (xVar 5) fAdd) (x2 (xC (.int 48271)) (xVar 4) fMul) fAdd) (xC (.int 7)) fAdd) (xC (.int 2147483629)) fMod)) (xSet 3 (x2 (x2 (xVar 3) (xC (.int 2147483587)) fMul) (x2 (x2 (xVar 2) (xVar 2) fMul) (xC (.int 2147483587)) fMod) fAdd))))
def oz (a:Adr):XS:=(xSeq (xSet 1 (x2 (xSl (xVar 0) xNoP (xPart (xC (.int 63)))) (xLst (xCons (xC (.int 1)) xNil)) fAdd)) (xSeq (xSet 2 (xC (.int 5))) (xSeq (xSet 3 (xC (.int 1))) (xSeq (xFor (xRng1 (xCons (xC (.int 200)) xNil)) (yName 4) (mT a)) (xSeq (xIf (xTr (x2 (x2 (xVar 1) (xC (.int 0)) fIx) (x2 (xC (.int 10)) (xC (.int 18)) fPow) fGe)) (xRet (xLstC (xCons (x2 (x2 (xVar 1) (xC (.int 0)) fIx) (x2 (xC (.int 10)) (xC (.int 18)) fPow) fSub) (xCons (xVar 3) xNil)))) xEnd) (xRet (xLstC (xCons (xC (.int 0)) (xCons (xVar 3) xNil)))))))))
def la (a:Adr):XF:=(fnD 6 (oz a))
theorem ux (F:Fun K "_law_purse" "_law_purse" ou f fd) (T:Txt K mg a):FnOk P w K mg base (CXo P w) 1 f fd ["_law_script"] (spD K a.Book 1 (la a)) :=
 ni F sc__law_purse rfl fun cdv A outer s H E hr=>(jP (j4 1 sc__law_purse.nd rfl (ba rfl) (kI (AE (jI 0) wC (rf jL)) (mZ (jH jL jN)))) (jP (j4 2 sc__law_purse.nd rfl (ba rfl) jL) (jP (j4 3 sc__law_purse.nd rfl (ba rfl) jL) (jP (me rfl (mX rfl T.b_range (jH jL jN)) (ke 4 sc__law_purse.nd rfl (ba rfl)) (jP (j4 5 sc__law_purse.nd rfl (ba rfl) (j5 (jV hr) (jI 1) (sI (jI 4) (kU b_len rfl T.b_len oT (jH (jI 1) jN))) (fun _ _=>rfl))) (jP (j4 2 sc__law_purse.nd rfl (ba rfl) (sI (kI (kI (kI (mY (jI 2) (jI 2)) (jI 5)) (mY jL (jI 4))) jL) jL)) (jX (j4 3 sc__law_purse.nd rfl (ba rfl) (kI (mY (jI 3) jL) (sI (mY (jI 2) (jI 2)) jL))))))) (jP (uV (qQ c_ge (j5 (jV hr) (jI 1) jL (fun _ _=>rfl)) (sH jL jL) (k9 _)) (jX (kE (wE (jH (uH (j5 (jV hr) (jI 1) jL (fun _ _=>rfl)) (sH jL jL)) (jH (jI 3) jN))))) oM) (jX (kE (wE (jH jL (jH (jI 3) jN))))))))))
abbrev mI:bT:=top 36
theorem sc__law_names:FnScope ["_law_purse_here","_law_letters","_law_first","_law_found","_law_k","_law_long","_law_tail"] ["_law_purse_here"] (jO mI):=fsc
def kZ (a:Adr) :XS:=(xSeq (xSet 5 (xCall 2 (jQ a) (xCons (xVar 0) (xCons (xC (.int 8)) xNil)))) (xSeq (xSet 6 (xJoin (xC (.str "")) (xCons (l4 (xRng1 (xCons (xVar 5) xNil)) [1,0] nZ (x2 (xVar 1) (xCall 2 (jQ a) (xCons (xVar 2) (xCons (xC (.int 26)) xNil))) fIx)) xNil))) (xDo (xAppend (xVar 3) (xCons (x2 (x2 (xVar 1) (x2 (x2 (xVar 2) (x2 (xC (.int 7)) (xVar 4) fMul) fAdd) (xC (.int 26)) fMod) fIx) (xVar 6) fAdd) xNil)))))
def qB (a:Adr):XS:=(xSeq (xSet 1 (xC (.str "abcdefghijklmnopqrstuvwxyz"))) (xSeq (xSet 2 (xCall 2 (jQ a) (xCons (xVar 0) (xCons (xC (.int 26)) xNil)))) (xSeq (xSet 3 (xLstC xNil)) (xSeq (xFor (xRng1 (xCons (xC (.int 14)) xNil)) (yName 4) (kZ a)) (xRet (xFrz (xVar 3)))))))
def lL (a:Adr):XF:=(fnD 7 (qB a))
theorem uy (F:Fun K "_law_names" "_law_names" mI f fd) (T:Txt K mg a) (F__law_take:Fn P w K mg base "_law_take" 1 ["_law_purse_here","_law_many"] (spD K a.Book 2 (jQ a))):FnOk P w K mg base (CXo P w) 2 f fd ["_law_purse_here"] (spD K a.Book 1 (lL a)) :=
 ni F sc__law_names rfl fun cdv A outer s H E hr=>(jP (j4 1 sc__law_names.nd rfl (fL rfl) kY) (jP (j4 2 sc__law_names.nd rfl (ba rfl) (kl F__law_take (hr.mono (by decide)) rfl ka (jH (jI 0) (jH jL jN)))) (jP (j4 3 sc__law_names.nd rfl (ba rfl) (wE jN)) (jP (me rfl (mX rfl T.b_range (jH jL jN)) (ke 4 sc__law_names.nd rfl (ba rfl)) (jP (j4 5 sc__law_names.nd rfl (ba rfl) (kl F__law_take (hr.mono (by decide)) rfl j8 (jH (jI 0) (jH jL jN)))) (jP (j4 6 sc__law_names.nd rfl (ba rfl) (nU kY (jH (rh (fr:=["_law_letters","_law_purse_here"]) (ix:=[1,0]) rfl (by exact (show CompOk ["_law_purse_here","_law_letters","_law_first","_law_found","_law_k","_law_long","_law_tail"] (jO mI) _ _ _ _ from cok)) (mX rfl T.b_range (jH (jI 5) jN)) (fun _ _ _ _ _=>lT) (fun _ _ _ _ _=>(j5 (jV hr) (jI 1) (kl F__law_take (hr.mono (by decide)) rfl j8 (jH (jI 2) (jH jL jN))) (fun _ _=>rfl)))) jN))) (jX (qR (rM (jI 3) (jH (kI (j5 (jV hr) (jI 1) (sI (kI (jI 2) (mY jL (jI 4))) jL) (fun _ _=>rfl)) (jI 6)) jN))))))) (jX (kE (y7 (jI 3))))))))
abbrev pb:bT:=top 37
theorem sc__law_part:FnScope ["_law_purse_here","_law_bottom"] ["_law_purse_here"] (jO pb):=fsc
def rZ (a:Adr):XS:=(xSeq (xSet 1 (x2 (xLst (xCons (xC (.int 2)) (xCons (xC (.int 3)) (xCons (xC (.int 4)) (xCons (xC (.int 5)) (xCons (xC (.int 7)) (xCons (xC (.int 10)) (xCons (xC (.int 100)) (xCons (x2 (xC (.int 10)) (xC (.int 9)) fPow) xNil))))))))) (xCall 2 (jQ a) (xCons (xVar 0) (xCons (xC (.int 8)) xNil))) fIx)) (xRet (xCall 2 (kf a) (xCons (x2 (xC (.int 1)) (xCall 2 (jQ a) (xCons (xVar 0) (xCons (xVar 1) xNil))) fAdd) (xCons (xVar 1) xNil)))))
def ly (a:Adr):XF:=(fnD 2 (rZ a))
theorem wj (F:Fun K "_law_part" "_law_part" pb f fd) (T:Txt K mg a) (F__law_lowest:Fn P w K mg base "_law_lowest" 2 ["_law_top","_law_bottom"] (spD K a.Book 2 (kf a))) (F__law_take:Fn P w K mg base "_law_take" 1 ["_law_purse_here","_law_many"] (spD K a.Book 2 (jQ a))):FnOk P w K mg base (CXo P w) 3 f fd ["_law_purse_here"] (spD K a.Book 1 (ly a)) :=
 ni F sc__law_part rfl fun cdv A outer s H E hr=>(jP (j4 1 sc__law_part.nd rfl (ba rfl) (j5 (jV hr) (mZ (jH jL (jH jL (jH jL (jH jL (jH jL (jH jL (jH jL (jH (sH jL jL) jN))))))))) (kl F__law_take (hr.mono (by decide)) rfl ka (jH (jI 0) (jH jL jN))) (fun _ _=>rfl))) (jX (kE (kl F__law_lowest (hr.mono (by decide)) rfl ka (jH (kI jL (kl F__law_take (hr.mono (by decide)) rfl ka (jH (jI 0) (jH (jI 1) jN)))) (jH (jI 1) jN))))))
abbrev mJ:bT:=top 38
theorem sc__law_built:FnScope ["_law_purse_here","_law_words","_law_book","_law_people","_law_houses","_law_entries","_law_name","_law_k","_law_owner","_law_house","_law_held","_law_having","_law_one","_law_other","_law_share"] ["_law_purse_here"] (jO mJ):=fsc
def lI (a:Adr) :XS:=(xDo (xBM 2 (lW a) (xVar 2) (xCons (xVar 6) xNil)))
def lH (a:Adr) :XS:=(xSeq (xSet 8 (x2 (x2 (xVar 3) (xSl (xVar 4) xNoP (xPart (xVar 7))) fAdd) (xCall 2 (jQ a) (xCons (xVar 0) (xCons (x2 (xB (xCons (xVar 3) xNil) fLen) (xVar 7) fAdd) xNil))) fIx)) (xSeq (xDo (xBM 6 (rm a) (xVar 2) (xCons (x2 (xVar 4) (xVar 7) fIx) (xCons (xVar 8) (xCons (x2 (xCall 2 (jQ a) (xCons (xVar 0) (xCons (xC (.int 100)) xNil))) (xC (.int 30)) fSub) (xCons (x2 (xCall 2 (jQ a) (xCons (xVar 0) (xCons (xC (.int 60)) xNil))) (xC (.int 10)) fSub) (xCons (xCall 2 (jQ a) (xCons (xVar 0) (xCons (xC (.int 40)) xNil))) xNil))))))) (xPut (xVar 5) (x2 (xVar 4) (xVar 7) fIx) (xDisp (xVar 8) (xTup (xCons (xC (.int 1)) (xCons (xC (.int 1)) xNil)))))))
def k6 (a:Adr) :XS:=(xSeq (xSet 11 (xB (xCons (ug 10 [10] (xTr (x2 (x2 (x2 (xVar 1) (xVar 0) fIx) (xC (.int 0)) fIx) (xC (.int 0)) fGt)) (xVar 0)) xNil) jU)) (xSeq (xSet 12 (x2 (xVar 11) (xCall 2 (jQ a) (xCons (xVar 0) (xCons (xB (xCons (xVar 11) xNil) fLen) xNil))) fIx)) (xSeq (xSet 13 (x2 (x2 (xVar 3) (xVar 4) fAdd) (xCall 2 (jQ a) (xCons (xVar 0) (xCons (x2 (xB (xCons (xVar 3) xNil) fLen) (xB (xCons (xVar 4) xNil) fLen) fAdd) xNil))) fIx)) (xSeq (xSet 14 (xCall 2 (kJ a) (xCons (x2 (xVar 10) (xVar 12) fIx) (xCons (xCall 1 (ly a) (xCons (xVar 0) xNil)) xNil)))) (xIf (xTr (x2 (x2 (xVar 14) (xC (.int 1)) fIx) (x2 (xC (.int 10)) (xC (.int 28)) fPow) fLt)) (xSeq (xDo (xBM 5 (uN a) (xVar 2) (xCons (xVar 9) (xCons (xVar 12) (xCons (xVar 13) (xCons (xVar 14) xNil)))))) (xSeq (xPut (xVar 10) (xVar 12) (xCall 2 (lx a) (xCons (x2 (xVar 10) (xVar 12) fIx) (xCons (xTup (xCons (x1 (x2 (xVar 14) (xC (.int 0)) fIx) fNeg) (xCons (x2 (xVar 14) (xC (.int 1)) fIx) xNil))) xNil)))) (xPut (xVar 10) (xVar 13) (xCall 2 (lx a) (xCons (xGet (xVar 10) (xVar 13) (xTup (xCons (xC (.int 0)) (xCons (xC (.int 1)) xNil)))) (xCons (xVar 14) xNil)))))) xEnd)))))
def lG (a:Adr) :XS:=(xSeq (xSet 10 (x2 (xVar 5) (xVar 9) fIx)) (xFor (xRng1 (xCons (xCall 2 (jQ a) (xCons (xVar 0) (xCons (xC (.int 6)) xNil))) xNil)) (yName 7) (k6 a)))
def oA (a:Adr):XS:=(xSeq (xSet 1 (xCall 1 (lL a) (xCons (xVar 0) xNil))) (xSeq (xSet 2 xBook) (xSeq (xSet 3 (xSl (xVar 1) xNoP (xPart (x2 (xLst (xCons (xC (.int 2)) (xCons (xC (.int 3)) (xCons (xC (.int 1)) (xCons (xC (.int 4)) (xCons (xC (.int 6)) (xCons (xC (.int 2)) (xCons (xC (.int 3)) (xCons (xC (.int 5)) xNil))))))))) (xCall 2 (jQ a) (xCons (xVar 0) (xCons (xC (.int 8)) xNil))) fIx)))) (xSeq (xSet 4 (xSl (xVar 1) (xPart (xC (.int 6))) (xPart (x2 (xC (.int 6)) (x2 (xLst (xCons (xC (.int 3)) (xCons (xC (.int 4)) (xCons (xC (.int 2)) (xCons (xC (.int 5)) (xCons (xC (.int 6)) (xCons (xC (.int 1)) (xCons (xC (.int 8)) (xCons (xC (.int 0)) xNil))))))))) (xCall 2 (jQ a) (xCons (xVar 0) (xCons (xC (.int 8)) xNil))) fIx) fAdd)))) (xSeq (xSet 5 xNewD) (xSeq (xFor (xIter (xVar 3)) (yName 6) (lI a)) (xSeq (xFor (xRng1 (xCons (xB (xCons (xVar 4) xNil) fLen) xNil)) (yName 7) (lH a)) (xSeq (xFor (xIter (xVar 4)) (yName 9) (lG a)) (xRet (xLst (xCons (xVar 2) (xCons (xB (xCons (xVar 3) xNil) jU) (xCons (CH (xVar 5)) xNil)))))))))))))
def mP (a:Adr):XF:=(fnD 15 (oA a))
theorem uA (F:Fun K "_law_built" "_law_built" mJ f fd) (T:Txt K mg a) (F__law_names:Fn P w K mg base "_law_names" 2 ["_law_purse_here"] (spD K a.Book 1 (lL a))) (M_Book:MkB P w K mg base "Book" a.Book 1 ["self"] (wH K a.Book)) (M_person:Mt P w K mg base a.Book "person" 4 ["self","name"] (spD K a.Book 2 (lW a))) (M_house:Mt P w K mg base a.Book "house" 4 ["self","name","owner","things","mark","loss"] (spD K a.Book 6 (rm a))) (F__law_take:Fn P w K mg base "_law_take" 1 ["_law_purse_here","_law_many"] (spD K a.Book 2 (jQ a))) (F__law_times:Fn P w K mg base "_law_times" 3 ["_law_one","_law_other"] (spD K a.Book 2 (kJ a))) (F__law_part:Fn P w K mg base "_law_part" 3 ["_law_purse_here"] (spD K a.Book 1 (ly a))) (M_sale:Mt P w K mg base a.Book "sale" 4 ["self","house","one","other","share"] (spD K a.Book 5 (uN a))) (F__law_plus:Fn P w K mg base "_law_plus" 3 ["_law_one","_law_other"] (spD K a.Book 2 (lx a))):FnOk P w K mg base (CXo P w) 5 f fd ["_law_purse_here"] (spD K a.Book 1 (mP a)) :=
 ni F sc__law_built rfl fun cdv A outer s H E hr=>(jP (j4 1 sc__law_built.nd rfl (ba rfl) (kl F__law_names (hr.mono (by decide)) rfl ka (jH (jI 0) jN))) (jP (j4 2 sc__law_built.nd rfl (ba rfl) (zG M_Book (hr.mono (by decide)) rfl ka)) (jP (j4 3 sc__law_built.nd rfl (ba rfl) (AE (jI 1) wC (rf (j5 (jV hr) (mZ (jH jL (jH jL (jH jL (jH jL (jH jL (jH jL (jH jL (jH jL jN))))))))) (kl F__law_take (hr.mono (by decide)) rfl ka (jH (jI 0) (jH jL jN))) (fun _ _=>rfl))))) (jP (j4 4 sc__law_built.nd rfl (ba rfl) (AE (jI 1) (rf jL) (rf (kI jL (j5 (jV hr) (mZ (jH jL (jH jL (jH jL (jH jL (jH jL (jH jL (jH jL (jH jL jN))))))))) (kl F__law_take (hr.mono (by decide)) rfl ka (jH (jI 0) (jH jL jN))) (fun _ _=>rfl)))))) (jP (j4 5 sc__law_built.nd rfl (ba rfl) zF) (jP (me rfl (nA (jI 3)) (ke 6 sc__law_built.nd rfl (ba rfl)) (jX (qR (sw (jI 2) M_person vo (hr.mono (by decide)) j8 (jH (jI 6) jN))))) (jP (me rfl (mX rfl T.b_range (jH (kU b_len rfl T.b_len oT (jH (jI 4) jN)) jN)) (ke 7 sc__law_built.nd rfl (ba rfl)) (jP (j4 8 sc__law_built.nd rfl (ba rfl) (j5 (jV hr) (kI (jI 3) (AE (jI 4) wC (rf (jI 7)))) (kl F__law_take (hr.mono (by decide)) rfl j8 (jH (jI 0) (jH (kI (kU b_len rfl T.b_len oT (jH (jI 3) jN)) (jI 7)) jN))) (fun _ _=>rfl))) (jP (qR (sw (jI 2) M_house Bu (hr.mono (by decide)) j8 (jH (j5 (jV hr) (jI 4) (jI 7) (fun _ _=>rfl)) (jH (jI 8) (jH (uH (kl F__law_take (hr.mono (by decide)) rfl j8 (jH (jI 0) (jH jL jN))) jL) (jH (uH (kl F__law_take (hr.mono (by decide)) rfl j8 (jH (jI 0) (jH jL jN))) jL) (jH (kl F__law_take (hr.mono (by decide)) rfl j8 (jH (jI 0) (jH jL jN))) jN))))))) (jX (uG (jV hr) (jI 5) (j5 (jV hr) (jI 4) (jI 7) (fun _ _=>rfl)) (D4 (jI 8) (qF (jH jL (jH jL jN))))))))) (jP (me rfl (nA (jI 4)) (ke 9 sc__law_built.nd rfl (ba rfl)) (jP (j4 10 sc__law_built.nd rfl (fL rfl) (j5 (jV hr) (jI 5) (jI 9) (fun _ _=>rfl))) (jX (me rfl (mX rfl T.b_range (jH (kl F__law_take (hr.mono (by decide)) rfl j8 (jH (jI 0) (jH jL jN))) jN)) (ke 7 sc__law_built.nd rfl (ba rfl)) (jP (j4 11 sc__law_built.nd rfl (ba rfl) (kU (b_sorted rfl) rfl T.b_sorted lA (jH (BO (fr:=["_law_held"]) (ix:=[10]) 10 rfl rfl (fL (ba rfl)) (by exact (show CompOk ["_law_purse_here","_law_words","_law_book","_law_people","_law_houses","_law_entries","_law_name","_law_k","_law_owner","_law_house","_law_held","_law_having","_law_one","_law_other","_law_share"] (jO mJ) _ _ _ _ from cok)) (fun _ _ _ _ _=>(BN (qQ c_gt (j5 (jV hr) (j5 (jV hr) (jI 1) (jI 0) (fun _ _=>rfl)) jL (fun _ _=>rfl)) jL (k9 _)))) (fun _ _ _ _ _=>(jI 0))) jN))) (jP (j4 12 sc__law_built.nd rfl (ba rfl) (j5 (jV hr) (jI 11) (kl F__law_take (hr.mono (by decide)) rfl j8 (jH (jI 0) (jH (kU b_len rfl T.b_len oT (jH (jI 11) jN)) jN))) (fun _ _=>rfl))) (jP (j4 13 sc__law_built.nd rfl (ba rfl) (j5 (jV hr) (kI (jI 3) (jI 4)) (kl F__law_take (hr.mono (by decide)) rfl j8 (jH (jI 0) (jH (kI (kU b_len rfl T.b_len oT (jH (jI 3) jN)) (kU b_len rfl T.b_len oT (jH (jI 4) jN))) jN))) (fun _ _=>rfl))) (jP (j4 14 sc__law_built.nd rfl (ba rfl) (kl F__law_times (hr.mono (by decide)) rfl j8 (jH (j5 (jV hr) (jI 10) (jI 12) (fun _ _=>rfl)) (jH (kl F__law_part (hr.mono (by decide)) rfl j8 (jH (jI 0) jN)) jN)))) (jX (uV (qQ c_lt (j5 (jV hr) (jI 14) jL (fun _ _=>rfl)) (sH jL jL) (k9 _)) (jP (qR (sw (jI 2) M_sale Ds (hr.mono (by decide)) j8 (jH (jI 9) (jH (jI 12) (jH (jI 13) (jH (jI 14) jN)))))) (jP (uG (jV hr) (jI 10) (jI 12) (kl F__law_plus (hr.mono (by decide)) rfl j8 (jH (j5 (jV hr) (jI 10) (jI 12) (fun _ _=>rfl)) (jH (qF (jH (CF (j5 (jV hr) (jI 14) jL (fun _ _=>rfl))) (jH (j5 (jV hr) (jI 14) jL (fun _ _=>rfl)) jN))) jN)))) (jX (uG (jV hr) (jI 10) (jI 13) (kl F__law_plus (hr.mono (by decide)) rfl j8 (jH (FN (jV hr) (jI 10) (jI 13) (qF (jH jL (jH jL jN))) ⟨rfl,rfl,rfl,rfl⟩) (jH (jI 14) jN))))))) oM)))))))))) (jX (kE (mZ (jH (jI 2) (jH (kU (b_sorted rfl) rfl T.b_sorted lA (jH (jI 3) jN)) (jH (D3 (jI 5)) jN))))))))))))))
end
end My
namespace L2
open PySem
def sem:=al @fnD.eq_1 <| al @xSeq.eq_1 <| al @xSet.eq_1 <| al @xRet.eq_1 <| al @xRetN.eq_1 <| al @xDo.eq_1 <| al @xIf.eq_1 <| al @xEnd.eq_1 <| al @xPut.eq_1 <| al @xPar.eq_1 <| al @xAsg.eq_1 <| al @x1.eq_1 <| al @x2.eq_1 <| al @xVar.eq_1 <| al @xC.eq_1 <| al @xB.eq_1 <| al @xCall.eq_1 <| al @xBM.eq_1 <| al @xCons.eq_1 <| al @xNil.eq_1 <| al @xTup.eq_1 <| al @xLst.eq_1 <| al @xLstC.eq_1 <| al @xTr.eq_1 <| al @xNot.eq_1 <| al @xAnd.eq_1 <| al @xOr.eq_1 <| al @xAndV.eq_1 <| al @xOrV.eq_1 <| al @xNotV.eq_1 <| al @xSl.eq_1 <| al @xNoP.eq_1 <| al @xPart.eq_1 <| al @xIter.eq_1 <| al @xRng1.eq_1 <| al @xIterS.eq_1 <| al @xIterD.eq_1 <| al @xFor.eq_1 <| al @xFrz.eq_1 <| al @frz1.eq_1 <| al @frz1.eq_2 <| al @xAppend.eq_1 <| al @xGet.eq_1 <| al @xJoin.eq_1 <| al @xNewD.eq_1 <| al @xDisp.eq_1 <| al @xIsiT.eq_1 <| al @xIfe.eq_1 <| al @xChain.eq_1 <| al @xBook.eq_1 <| al @Out.bind.eq_1 <| al @Out.bind.eq_2 <| al @Out.bind.eq_3 <| al @Out.so.eq_1 <| al @Out.so.eq_2 <| al @Out.so.eq_3 <| al @SO.noex.eq_1 <| al @SO.noex.eq_2 <| al @fAdd.eq_1 <| al @fAdd.eq_2 <| al @fAdd.eq_3 <| al @fSub.eq_1 <| al @fSub.eq_2 <| al @fMul.eq_1 <| al @fMul.eq_2 <| al @fMul.eq_3 <| al @fDiv.eq_1 <| al @fDiv.eq_2 <| al @fMod.eq_1 <| al @fMod.eq_2 <| al @fPow.eq_1 <| al @fPow.eq_2 <| al @fCmp.eq_1 <| al @fCmp.eq_2 <| al @fEqN.eq_1 <| al @fIs.eq_1 <| al @fIs.eq_2 <| al @fIsnt.eq_1 <| al @fIsnt.eq_2 <| al @fIx.eq_1 <| al @fIx.eq_2 <| al @fIx.eq_3 <| al @fIx.eq_4 <| al @fIx.eq_5 <| al @fNeg.eq_1 <| al @fNeg.eq_2 <| al @fSl.eq_1 <| al @fSl.eq_2 <| al @fLen.eq_1 <| al @fLen.eq_2 <| al @fLen.eq_3 <| al @fLen.eq_4 <| al @fAbs.eq_1 <| al @fAbs.eq_2 <| al @fInt.eq_1 <| al @fInt.eq_2 <| al @fInt.eq_3 <| al @fTuple.eq_1 <| al @fTuple.eq_2 <| al @fList.eq_1 <| al @fList.eq_2 <| al @fList.eq_3 <| al @fAll.eq_1 <| al @fAll.eq_2 <| al @lsOf.eq_1 <| al @lsOf.eq_2 <| al @lsOf.eq_3 <| al @lsOf.eq_4 <| al @dcOf.eq_1 <| al @dcOf.eq_2 <| al @dcOf.eq_3 <| al @kyOf.eq_1 <| al @kyOf.eq_2 <| al @kyOf.eq_3 <| al @toV.eq_1 <| al @toV.eq_2 <| al @toV.eq_3 <| al @toV.eq_4 <| al @toV.eq_5 <| al @toVs.eq_1 <| al @toVs.eq_2 <| al @yName.eq_1 <| al @yNil.eq_1 <| al @yNil.eq_2 <| al @yCons.eq_1 <| al @yCons.eq_2 <| al @yTup.eq_1 <| al @yTup.eq_2 <| @xOnly.eq_1
end L2
namespace My
open PySem L2 Fra
theorem p8 {body:PV→XS} (l:List PV) (I:Nat→En→Sto→Prop) (h:∀ k q ρ s,l[k]?=some q→I k ρ s→∃ ρ' s',body q ρ s=.nx ρ' s'∧I (k+1) ρ' s') {ρ:En}{s:Sto} (h0:I 0 ρ s):∃ ρ' s',kM body l ρ s=.nx ρ' s'∧I l.length ρ' s':=by
 have main:∀ (r:List PV) (k:Nat) (ρ:En) (s:Sto),k≤l.length→l.drop k=r→I k ρ s→∃ ρ' s',kM body r ρ s=.nx ρ' s'∧I l.length ρ' s':=by
  intro r
  induction r with
  | nil =>
   intro k ρ s hk e hI
   have:k=l.length:=iu hk (jn.mp e)
   subst this
   exact ⟨ρ,s,rfl,hI⟩
  | cons q r ih =>
   intro k ρ s hk e hI
   have hq:l[k]?=some q:=by
    have:=congrArg List.head? e
    rw [List.head?_drop] at this
    simpa using this
   obtain ⟨ρ',s',h1,h2⟩:=h k q ρ s hq hI
   have e2:l.drop (k+1)=r:=by
    rw [← List.tail_drop,e];rfl
   obtain ⟨ρ2,s2,h3,h4⟩:=ih (k+1) ρ' s' ((a9.mp hq).1) e2 h2
   refine ⟨ρ2,s2,?_,h4⟩
   unfold kM
   rw [h1]
   exact h3
 exact main l 0 ρ s (bc _) rfl h0
theorem tX (n:Nat):(qk 0 n).length=n:=by simp [qk]
theorem A5 {n k:Nat}{q:PV} (h:(qk 0 n)[k]?=some q):k < n∧q=.int (k:Int):=by
 unfold qk at h
 rw [bo] at h
 by_cases hk:k < n
 ·rw [jw hk] at h
  cases h
  exact ⟨hk,by simp⟩
 ·rw [ji (by simpa using hk)] at h;cases h
theorem pH {body:PV→XS} (n:Nat) (I:Nat→En→Sto→Prop) (h:∀ (k:Nat) ρ s,k < n→I k ρ s→∃ ρ' s',body (.int (k:Int)) ρ s=.nx ρ' s'∧I (k+1) ρ' s') {ρ:En}{s:Sto} (h0:I 0 ρ s):∃ ρ' s',kM body (qk 0 n) ρ s=.nx ρ' s'∧I n ρ' s':=by
 have:=p8 (qk 0 n) I (fun k q ρ s hq hI=>by obtain ⟨h1,h2⟩:=A5 hq;rw [h2];exact h k ρ s h1 hI) h0
 rw [tX] at this
 exact this
theorem lV (s:Sto) (i:Int):PV.data s 12 (.int i)=some (.int i):=rfl
theorem oK (i j:Int):eA (.int i) (.int j)=(i == j):=by unfold eA;rfl
def IsPurse (s:Sto) (p:Nat):Prop:=∃ x y,s.get p=some (.lst [.int x,.int y])
theorem qV (a:Adr) (s:Sto) (p:Nat) (n:Int) (h:IsPurse s p) (h0:0 < n) (h1:Bt 9000 n):∃ r x y,0≤r∧r < n∧jQ a [.ref p,.int n] s=.ok (.int r) (s.set p (.lst [.int x,.int y])):=by
 obtain ⟨x,y,h⟩:=h
 have hd:AD n:=⟨h0,h1⟩
 by_cases hx:x=0
 ·refine ⟨y % n,x,y / n,cY _ (by omega),cH _ h0,?_⟩
  subst hx
  simp [sem,lQ,jU,lc,jQ,pE,h,atI,ixN,lV,oK,hd,h0]
 ·refine ⟨x % n,x / n,y,cY _ (by omega),cH _ h0,?_⟩
  simp [sem,lQ,jU,lc,jQ,pE,h,atI,ixN,lV,oK,hd,h0,hx]
theorem zN {l:List Int}{i:Int} (h0:0≤i) (h1:i < l.length):∃ x,atI (l.map PV.int) i=some (.int x):=by
 obtain ⟨j,rfl⟩:∃ j:Nat,i=j:=⟨i.toNat,by omega⟩
 have hj:j < l.length:=by omega
 exact ⟨l[j],kr (by simp [hj])⟩
theorem BR (l:List Int) (lo hi:Option Int):∃ k:List Int,uI (l.map PV.int) lo hi=k.map PV.int∧k.length≤l.length:=by
 refine ⟨(l.drop (HT.sIx l.length 0 lo)).take (HT.sIx l.length l.length hi - HT.sIx l.length 0 lo),?_,?_⟩
 ·unfold uI;simp [fE,List.map_drop]
 ·rw [bP,fN];omega
theorem A9 (a:Adr) (s:Sto) (l:List Int) (hl:l.length≤63):∃ x y,la a [.seq (l.map .int)] s=.ok (.ref s.nx) (s.add (.lst [.int x,.int y])):=by
 obtain ⟨c,hc,hlen⟩:=BR l none (some 63)
 have hsz:c.length≤99999:=by omega
 have e1:c.map PV.int++[PV.int 1]=(c++[1]).map PV.int:=by simp
 have hpos:(0:Int) < (c.length:Int)+1:=by omega
 have h2:2≤aI:=by decide
 obtain ⟨ρ',s',hloop,rfl,v,w,k,z,rfl,_⟩:=pH (body:=j9 (yName 4) (mT a)) 200
  (fun _ ρ t=>t=s∧∃ v w k z,ρ=[some (.seq (l.map .int)),some (.lst ((c++[1]).map .int)),some (.int v),some (.int w),k,z]∧0≤v∧v < 2147483629)
  (fun k ρ t hk hI=>by
   obtain ⟨rfl,v,w,k',z,rfl,h0,h1⟩:=hI
   obtain ⟨x,hx⟩:=zN (l:=c++[1]) (i:=(k:Int) % ((c.length:Int)+1)) (cY _ (by omega)) (by have:=cH (k:Int) hpos;simpa using this)
   have m1:su v v:=.inr (.inl ⟨by omega,by omega⟩)
   have m2:su 48271 (k:Int):=.inr (.inl ⟨by decide,by decide⟩)
   have m3:su w 2147483587:=.inr (.inr ⟨by decide,by decide⟩)
   have b0:=cY (v * v+x+48271 * (k:Int)+7) (show (2147483629:Int)≠0 by decide)
   have b1:=cH (v * v+x+48271 * (k:Int)+7) (show (0:Int) < 2147483629 by decide)
   have m4:su ((v * v+x+48271 * (k:Int)+7) % 2147483629) ((v * v+x+48271 * (k:Int)+7) % 2147483629):=.inr (.inl ⟨by omega,by omega⟩)
   refine ⟨_,_,?_,rfl,(v * v+x+48271 * (k:Int)+7) % 2147483629,w * 2147483587+((v * v+x+48271 * (k:Int)+7) % 2147483629) * ((v * v+x+48271 * (k:Int)+7) % 2147483629) % 2147483587,some (.int k),some (.int x),rfl,b0,b1⟩
   simp only [aD,au,bQ] at hx
   simp [sem,lQ,jU,lc,j9,mT,hx,m1,m2,m3,m4,hpos]) ⟨rfl,5,1,none,none,rfl,by decide,by decide⟩
 obtain ⟨x0,hx0⟩:=zN (l:=c++[1]) (i:=0) (by omega) (by simp)
 simp only [aD,au,bQ] at hx0 hloop
 by_cases h18:(1000000000000000000:Int)≤x0
 ·refine ⟨x0 - 1000000000000000000,w,?_⟩
  simp [sem,lQ,jU,lc,la,oz,hc,hsz,hloop,hx0,h18,h2]
 ·refine ⟨0,w,?_⟩
  simp [sem,lQ,jU,lc,la,oz,hc,hsz,hloop,hx0,h18,h2]
theorem wk (a:Adr) (s:Sto):∀ (k:Nat) (t b:Int),0≤b→b.toNat≤k→∃ n t',kL (xTr (x2 (xVar 1) (xC (.int 0)) fNe)) (k8 a) n [some (.int t),some (.int b)] s=.nx [some (.int t'),some (.int 0)] s∧t'.natAbs=aL t b:=by
 intro k
 induction k with
 | zero =>
  intro t b h0 hk
  have:b=0:=by omega
  subst this
  refine ⟨1,t,?_,by simp [aL]⟩
  unfold kL
  simp [sem,lQ,jU,lc,lV,oK]
 | succ k ih =>
  intro t b h0 hk
  by_cases hb:b=0
  ·subst hb
   refine ⟨1,t,?_,by simp [aL]⟩
   unfold kL
   simp [sem,lQ,jU,lc,lV,oK]
  ·have hp:0 < b:=by omega
   have m0:=cY t hb
   have m1:=cH t hp
   obtain ⟨n,t',h1,h2⟩:=ih b (t % b) m0 (by omega)
   refine ⟨n+1,t',?_,by rw [h2];exact xP t b hp⟩
   have hs:k8 a [some (.int t),some (.int b)] s=.nx [some (.int b),some (.int (t % b))] s:=by simp [sem,lQ,jU,lc,k8,hp]
   unfold kL
   simp [sem,lQ,jU,lc,lV,oK,hb,hs,h1]
theorem yN (a:Adr) (s:Sto) (t b:Int) (hb:0≤b):k7 a [.int t,.int b] s=.ok (.int (aL t b)) s:=by
 obtain ⟨n,t',h1,h2⟩:=wk a s b.toNat t b hb (az _)
 have hw:=zR h1 (by simp)
 simp [sem,lQ,jU,lc,k7,oU,hw]
 rw [← h2]
 split <;> omega
theorem rG (a:Adr) (s:Sto) (t b:Int) (hb:0 < b) (hB:Bt 9000 b):kf a [.int t,.int b] s=.ok (frP (red (t,b))) s:=by
 have hg:0 < aL t b:=bU _ (by omega)
 have hd:AD (aL t b:Int):=⟨by omega,hB.dvd (by omega) (cx ..)⟩
 have e:=yN a s t b (by omega)
 simp [sem,lQ,jU,lc,kf,qd,e,hd,frP,red]
theorem at0 (x y:PV):atI [x,y] 0=some x:=rfl
theorem at1 (x y:PV):atI [x,y] 1=some y:=rfl
structure Two' (p q:Int×Int):Prop where
 p0:0 < p.2
 q0:0 < q.2
 b:Bt 4400 p.2∧Bt 4400 q.2
 t:Bt 9000 p.1∧Bt 9000 q.1
theorem p7 {i j:Int} (h:Bt 9000 i) (g:Bt 9000 j):su i j:=.inl ⟨h.mono (by decide),g.mono (by decide)⟩
theorem xJ (a:Adr) (s:Sto) (p q:Int×Int) (h:Two' p q):lx a [frP p,frP q] s=.ok (frP (kT p q)) s:=by
 have b1:Bt 9000 p.2:=h.b.1.mono (by decide)
 have b2:Bt 9000 q.2:=h.b.2.mono (by decide)
 have e:=rG a s (p.1 * q.2+q.1 * p.2) (p.2 * q.2) (bE h.p0 h.q0) ((h.b.1.mul h.b.2).mono (by decide))
 simp [sem,lQ,jU,lc,lx,rY,frP,at0,at1,p7 h.t.1 b2,p7 h.t.2 b1,p7 b1 b2,e,kT]
theorem Ah (a:Adr) (s:Sto) (p q:Int×Int) (h:Two' p q):kJ a [frP p,frP q] s=.ok (frP (red (p.1 * q.1,p.2 * q.2))) s:=by
 have b1:Bt 9000 p.2:=h.b.1.mono (by decide)
 have b2:Bt 9000 q.2:=h.b.2.mono (by decide)
 have e:=rG a s (p.1 * q.1) (p.2 * q.2) (bE h.p0 h.q0) ((h.b.1.mul h.b.2).mono (by decide))
 simp [sem,lQ,jU,lc,kJ,qA,frP,at0,at1,p7 h.t.1 h.t.2,p7 b1 b2,e]
theorem kR (s:Sto) (c:Cell) (k:Nat):(s.add c).get k=if s.nx=k then some c else s.get k:=by
 show lf ((s.nx,c)::s.cs) k=_
 unfold lf;rfl
theorem sW (s:Sto) (c d:Cell) {p:Nat} (h:s.nx≠p):(s.add d).set p c=(s.set p c).add d:=by
 unfold Sto.set Sto.add
 simp [na,h]
theorem qi (s:Sto) (c d:Cell):(s.add d).set s.nx c=s.add c:=by
 unfold Sto.set Sto.add
 simp [na]
theorem wu (s:Sto) (n:Nat) (c d:Cell):(s.set n c).set n d=s.set n d:=by
 have:∀ l,na n d (na n c l)=na n d l:=by
  intro l
  induction l with
  | nil=>rfl
  | cons q r ih =>
   obtain ⟨k,e⟩:=q
   by_cases h:k=n
   ·simp [na,h]
   ·simp [na,h,ih]
 unfold Sto.set
 simp [this]
def Sto.bump (s:Sto):Sto:=⟨s.nx+1,s.cs⟩
theorem zC (s:Sto) (d:Cell):(s.add d).del s.nx=Sto.bump s:=by
 unfold Sto.del Sto.add Sto.bump
 simp [rg]
def pst (s:Sto) (p:Nat) (x y:Int):Sto:=s.set p (.lst [.int x,.int y])
theorem wJ (s:Sto) (p:Nat) (x y:Int):(pst s p x y).nx=s.nx:=rfl
theorem IsPurse.pst {s:Sto}{p:Nat} (h:IsPurse s p) (x y:Int):IsPurse (pst s p x y) p:=let ⟨_,_,h⟩:=h;⟨x,y,pV h⟩
theorem IsPurse.add {s:Sto}{p:Nat} (h:IsPurse s p) (c:Cell) (hp:p < s.nx):IsPurse (s.add c) p:=by
 obtain ⟨x,y,h⟩:=h
 exact ⟨x,y,by rw [kR,if_neg (by omega)];exact h⟩
theorem zm (s:Sto) (p:Nat) (x y x' y':Int) (d:Cell) (hp:p < s.nx):((pst s p x y).add d).set p (.lst [.int x',.int y'])=(pst s p x' y').add d:=by
 rw [sW _ _ _ (by rw [wJ];omega)]
 unfold pst
 rw [wu]
theorem D7 {c:XT}{e:XE}{cap:En} (l:List PV) (I:Nat→List PV→Sto→Prop) (h:∀ k q vs s,l[k]?=some q→I k vs s→(∃ s1,c (some q::cap) s=.ok false s1∧I (k+1) vs s1)∨(∃ s1 v s2,c (some q::cap) s=.ok true s1∧e (some q::cap) s1=.ok v s2∧I (k+1) (vs++[v]) s2)) {s:Sto} (h0:I 0 [] s) :
  ∃ vs s',kK c e cap l s=.ok vs s'∧I l.length vs s':=by
 have main:∀ (r:List PV) (k:Nat) (vs:List PV) (s:Sto),k≤l.length→l.drop k=r→I k vs s→∃ ws s',kK c e cap r s=.ok ws s'∧I l.length (vs++ws) s':=by
  intro r
  induction r with
  | nil =>
   intro k vs s hk e hI
   have:k=l.length:=iu hk (jn.mp e)
   subst this
   exact ⟨[],s,rfl,by simpa using hI⟩
  | cons q r ih =>
   intro k vs s hk e' hI
   have hq:l[k]?=some q:=by
    have:=congrArg List.head? e'
    rw [List.head?_drop] at this
    simpa using this
   have e2:l.drop (k+1)=r:=by rw [← List.tail_drop,e'];rfl
   have hk':k+1≤l.length:=(a9.mp hq).1
   rcases h k q vs s hq hI with ⟨s1,h1,h2⟩ | ⟨s1,v,s2,h1,h2,h3⟩
   ·obtain ⟨ws,s',h3,h4⟩:=ih (k+1) vs s1 hk' e2 h2
    exact ⟨ws,s',by rw [mf,h1];exact h3,h4⟩
   ·obtain ⟨ws,s',h4,h5⟩:=ih (k+1) (vs++[v]) s2 hk' e2 h3
    refine ⟨v::ws,s',by rw [mf,h1];simp [h2,h4],by simpa using h5⟩
 obtain ⟨ws,s',h1,h2⟩:=main l 0 [] s (bc _) rfl h0
 exact ⟨ws,s',h1,by simpa using h2⟩
theorem vH {c:XT}{e:XE}{cap:En}{s:Sto} (p:PV→Bool) (f:PV→PV):∀ (l:List PV),(∀ q∈l,c (some q::cap) s=.ok (p q) s)→(∀ q∈l,p q=true→e (some q::cap) s=.ok (f q) s)→kK c e cap l s=.ok ((l.filter p).map f) s
 | [],_,_=>rfl
 | q::l,h1,h2=>by
  rw [mf,h1 q ap]
  have ih:=vH p f l (fun x hx=>h1 x (ak _ hx)) (fun x hx=>h2 x (ak _ hx))
  cases hp:p q with
  | false=>simp [ih,hp]
  | true=>simp [ih,hp,h2 q ap hp]
theorem pK {n:Int} (h0:0 < n) (h1:n < 2 ^ 64):Bt 9000 n:=by
 have:Bt 64 n:=by unfold Bt;omega
 exact this.mono (by decide)
theorem rT:(ac "abcdefghijklmnopqrstuvwxyz").length≤100000:=by decide
theorem AO (c:Nat):(⟨#[c]⟩:Str).length=1:=rfl
theorem CS (r:Int) (k:Nat) (m0:0≤(r+7 * (k:Int)) % 26) (m1:(r+7 * (k:Int)) % 26 < 26) {t:Str} (g2:∀ c∈t.cps.toList,97≤c∧c≤122) (hl:t.length≤7):Wd r k (⟨#[97+((r+7 * (k:Int)) % 26).toNat]⟩++t):=by
 have l1:(⟨#[97+((r+7 * (k:Int)) % 26).toNat]⟩:Str).length=1:=rfl
 have lw:(⟨#[97+((r+7 * (k:Int)) % 26).toNat]⟩++t:Str).length=1+t.length:=by rw [kC,l1]
 have cw:∀ c∈(⟨#[97+((r+7 * (k:Int)) % 26).toNat]⟩++t:Str).cps.toList,97≤c∧c≤122:=fun c hc=>by
  rw [pM] at hc
  rcases aX.mp hc with hc | hc
  ·have:c=97+((r+7 * (k:Int)) % 26).toNat:=by simpa using hc
   omega
  ·exact g2 c hc
 refine ⟨⟨by omega,fun c hc=>by have:=cw c hc;omega⟩,?_,?_⟩
 ·unfold qz
  rw [decide_eq_true (by omega),decide_eq_true (by omega),fF,fF]
  refine cE.mpr fun c hc=>?_
  have:=cw c hc
  unfold low
  rw [decide_eq_true this.1,decide_eq_true this.2]
  rfl
 ·rw [pM]
  simp
theorem yE (a:Adr) (s:Sto) (p:Nat) (hp:p < s.nx) (hP:IsPurse s p) (fst:Int) (hf0:0≤fst) (k:Nat) (hk:k < 14) (x y:Int) (ws:List Str) (hw:ws.length=k) (u v w:Option PV) :
  ∃ x' y' nw u' v' w',Wd fst k nw∧j9 (yName 4) (kZ a) (.int (k:Int)) [some (.ref p),some (.str "abcdefghijklmnopqrstuvwxyz"),some (.int fst),some (.ref s.nx),u,v,w] ((pst s p x y).add (.lst (ws.map .str))) =
   .nx [some (.ref p),some (.str "abcdefghijklmnopqrstuvwxyz"),some (.int fst),some (.ref s.nx),u',v',w'] ((pst s p x' y').add (.lst ((ws++[nw]).map .str))):=by
 have q1:∀ x y,IsPurse ((pst s p x y).add (.lst (ws.map .str))) p:=fun x y=>(hP.pst x y).add _ (by rw [wJ];exact hp)
 obtain ⟨r,xa,ya,r0,r1,e1⟩:=qV a _ p 8 (q1 x y) (by decide) (pK (by decide) (by decide))
 rw [zm _ _ _ _ _ _ _ hp] at e1
 obtain ⟨vs,t2,hc,ys,xb,yb,rfl,rfl,hyl,hy⟩:=D7 (c:=nZ) (e:=x2 (xVar 1) (xCall 2 (jQ a) (xCons (xVar 2) (xCons (xC (.int 26)) xNil))) fIx) (cap:=[some (.str "abcdefghijklmnopqrstuvwxyz"),some (.ref p)]) (qk 0 r.toNat)
  (fun i vs t=>∃ ys x y,vs=ys.map PV.str∧t=(pst s p x y).add (.lst (ws.map .str))∧ys.length=i∧∀ z∈ys,z.length≤1∧∀ c∈z.cps.toList,97≤c∧c≤122)
  (fun i q vs t hq hI=>by
   obtain ⟨ys,x,y,rfl,rfl,hl,hy⟩:=hI
   obtain ⟨b,x',y',b0,b1,e⟩:=qV a _ p 26 (q1 x y) (by decide) (pK (by decide) (by decide))
   rw [zm _ _ _ _ _ _ _ hp] at e
   refine .inr ⟨_,.str ⟨#[97+b.toNat]⟩,_,rfl,?_,ys++[⟨#[97+b.toNat]⟩],x',y',by simp,rfl,by simp [hl],fun z hz=>?_⟩
   ·simp [sem,lQ,jU,lc,e,Cw b0 b1,rT]
   ·rcases aX.mp hz with hz | hz
    ·exact hy z hz
    ·rw [aE.mp hz]
     exact ⟨az _,fun c hc=>by simp at hc;omega⟩) (s:=(pst s p xa ya).add (.lst (ws.map .str))) ⟨[],xa,ya,rfl,rfl,rfl,fun z hz=>by cases hz⟩
 rw [tX] at hyl
 obtain ⟨g1,g2⟩:=BE hy
 have m0:=cY (fst+7 * (k:Int)) (show (26:Int)≠0 by decide)
 have m1:=cH (fst+7 * (k:Int)) (show (0:Int) < 26 by decide)
 have hmul:su 7 (k:Int):=.inr (.inl ⟨by decide,by decide⟩)
 have hlen:(qk 0 r.toNat).length≤100000:=by rw [tX];omega
 have hsum:=AN fun z hz=>(hy z hz).1
 have hj:(ys.map (·.length)).sum+ys.length * (ac "").length≤16777216:=by
  have:(ac "").length=0:=rfl
  rw [this];omega
 have hcat:(⟨#[97+((fst+7 * (k:Int)) % 26).toNat]⟩:Str).length+(b9 (ac "") ys).length≤100000:=by rw [AO];omega
 have hws:ws.length < 100000:=by omega
 have hr1:(-4611686018427387904:Int)≤r:=by omega
 have hr2:r < (4611686018427387904:Int):=by omega
 refine ⟨xb,yb,⟨#[97+((fst+7 * (k:Int)) % 26).toNat]⟩++b9 (ac "") ys,some (.int k),some (.int r),some (.str (b9 (ac "") ys)),?_,?_⟩
 ·exact CS fst k m0 m1 g2 (by omega)
 ·simp [sem,lQ,jU,lc,j9,kZ,e1,l4,kj,hlen,hc,m8,hj,hmul,Cw m0 m1,rT,hcat,kR,wJ,hw,hr1,hr2,show k < 100000 by omega,show ∀ c,((pst s p xb yb).add (.lst (ws.map .str))).set s.nx c=(pst s p xb yb).add c from fun c=>qi (pst s p xb yb) c _]
theorem Bv (a:Adr) (s:Sto) (p:Nat) (hp:p < s.nx) (hP:IsPurse s p):∃ (x y:Int) (ws:List Str) (fst:Int),ws.length=14∧0≤fst∧(∀ j w,ws[j]?=some w→Wd fst j w)∧lL a [.ref p] s=.ok (.lst (ws.map .str)) (Sto.bump (pst s p x y)):=by
 obtain ⟨fst,x0,y0,f0,f1,e0⟩:=qV a s p 26 hP (by decide) (pK (by decide) (by decide))
 obtain ⟨ρ',s',hl,x,y,ws,u,v,w,rfl,rfl,hw,hWd⟩:=pH (body:=j9 (yName 4) (kZ a)) 14
  (fun k ρ t=>∃ (x y:Int) (ws:List Str) (u v w:Option PV),ρ=[some (.ref p),some (.str "abcdefghijklmnopqrstuvwxyz"),some (.int fst),some (.ref s.nx),u,v,w]∧t=(pst s p x y).add (.lst (ws.map .str))∧ws.length=k∧∀ j w,ws[j]?=some w→Wd fst j w)
  (fun k ρ t hk hI=>by
   obtain ⟨x,y,ws,u,v,w,rfl,rfl,hw,hWd⟩:=hI
   obtain ⟨x',y',nw,u',v',w',h1,h2⟩:=yE a s p hp hP fst f0 k hk x y ws hw u v w
   refine ⟨_,_,h2,x',y',ws++[nw],u',v',w',rfl,rfl,by simp [hw],fun j z hz=>?_⟩
   by_cases hj:j < ws.length
   ·rw [fk hj] at hz;exact hWd j z hz
   ·have ej:j=k:=by
     have:=(a9.mp hz).1
     simp at this
     omega
    subst ej
    rw [dw (by omega),hw,Nat.sub_self] at hz
    cases hz
    exact h1) (ρ:=[some (.ref p),some (.str "abcdefghijklmnopqrstuvwxyz"),some (.int fst),some (.ref s.nx),none,none,none]) (s:=(pst s p x0 y0).add (.lst (([]:List Str).map .str))) ⟨x0,y0,[],none,none,none,rfl,rfl,rfl,fun j w h=>by simp at h⟩
 refine ⟨x,y,ws,fst,hw,f0,hWd,?_⟩
 have e0':jQ a [.ref p,.int 26] s=.ok (.int fst) (pst s p x0 y0):=e0
 have hl':kM (j9 (yName 4) (kZ a)) (qk 0 14) [some (.ref p),some (.str "abcdefghijklmnopqrstuvwxyz"),some (.int fst),some (.ref s.nx),none,none,none] ((pst s p x0 y0).add (.lst []))=_:=hl
 have hd:((pst s p x y).add (.lst (ws.map .str))).del s.nx=Sto.bump (pst s p x y):=zC (pst s p x y) _
 simp [sem,lQ,jU,lc,lL,qB,e0',wJ,hl',kR,hd]
def stk (nx:Nat) (pre:List (Nat×Cell)) (s:Sto) (p:Nat) (x y:Int):Sto:=⟨nx,pre++(pst s p x y).cs⟩
theorem n9 (k:Nat) (c:Cell) (r:List (Nat×Cell)) (n:Nat):lf ((k,c)::r) n=if k=n then some c else lf r n:=rfl
theorem pP (k:Nat) (d:Cell) (r:List (Nat×Cell)) (n:Nat) (c:Cell):na n c ((k,d)::r)=if k=n then (n,c)::r else (k,d)::na n c r:=rfl
theorem vE (k:Nat) (d:Cell) (r:List (Nat×Cell)) (n:Nat):rg n ((k,d)::r)=if k=n then r else (k,d)::rg n r:=rfl
theorem qO {pre l:List (Nat×Cell)}{n:Nat} (h:∀ q∈pre,q.1≠n):lf (pre++l) n=lf l n:=by
 induction pre with
 | nil=>rfl
 | cons q r ih =>
  obtain ⟨k,c⟩:=q
  show lf ((k,c)::(r++l)) n=_
  rw [n9,if_neg (h (k,c) ap)]
  exact ih fun x hx=>h x (ak _ hx)
theorem tW {pre l:List (Nat×Cell)}{n:Nat}{c:Cell} (h:∀ q∈pre,q.1≠n):na n c (pre++l)=pre++na n c l:=by
 induction pre with
 | nil=>rfl
 | cons q r ih =>
  obtain ⟨k,d⟩:=q
  show na n c ((k,d)::(r++l))=_
  rw [pP,if_neg (h (k,d) ap),ih fun x hx=>h x (ak _ hx)]
  rfl
theorem xY {pre l:List (Nat×Cell)}{n:Nat} (h:∀ q∈pre,q.1≠n):rg n (pre++l)=pre++rg n l:=by
 induction pre with
 | nil=>rfl
 | cons q r ih =>
  obtain ⟨k,d⟩:=q
  show rg n ((k,d)::(r++l))=_
  rw [vE,if_neg (h (k,d) ap),ih fun x hx=>h x (ak _ hx)]
  rfl
theorem ve {nx:Nat}{pre:List (Nat×Cell)}{s:Sto}{p:Nat} (hP:IsPurse s p) (h:∀ q∈pre,q.1≠p) (x y:Int):IsPurse (stk nx pre s p x y) p:=by
 obtain ⟨x',y',e⟩:=hP.pst x y
 exact ⟨x',y',by show lf (pre++_) p=_;rw [qO h];exact e⟩
theorem CZ (nx:Nat) (pre:List (Nat×Cell)) (s:Sto) (p:Nat) (x y x' y':Int) (h:∀ q∈pre,q.1≠p):(stk nx pre s p x y).set p (.lst [.int x',.int y'])=stk nx pre s p x' y':=by
 unfold stk Sto.set
 simp only
 rw [tW h]
 have:=wu s p (.lst [.int x,.int y]) (.lst [.int x',.int y'])
 unfold pst
 congr 1
 rw [← this]
 rfl
theorem pF (a:Adr) {nx:Nat}{pre:List (Nat×Cell)}{s:Sto}{p:Nat} (hP:IsPurse s p) (h:∀ q∈pre,q.1≠p) (n:Int) (h0:0 < n) (h1:n < 2 ^ 64) (x y:Int):∃ r x' y',0≤r∧r < n∧jQ a [.ref p,.int n] (stk nx pre s p x y)=.ok (.int r) (stk nx pre s p x' y'):=by
 obtain ⟨r,x',y',r0,r1,e⟩:=qV a _ p n (ve hP h x y) h0 (pK h0 h1)
 rw [CZ _ _ _ _ _ _ _ _ h] at e
 exact ⟨r,x',y',r0,r1,e⟩
theorem at8 (l:List Int) (hl:l.length=8) {r:Int} (h0:0≤r) (h1:r < 8):∃ v∈l,atI (l.map PV.int) r=some (.int v):=by
 obtain ⟨j,rfl⟩:∃ j:Nat,r=j:=⟨r.toNat,by omega⟩
 have hj:j < l.length:=by omega
 exact ⟨l[j],cj hj,kr (by simp [hj])⟩
structure Part (q:Int×Int):Prop where
 low:Low q
 pos:0 < q.1
 le:q.1≤q.2
 bb:q.2≤1000000000
theorem A6 {t b:Int} (h0:0 < t) (h1:t≤b) (hb:b≤1000000000):Part (red (t,b)):=by
 have b0:0 < b:=by omega
 obtain ⟨lo,ev⟩:=oJ (q:=(t,b)) b0
 simp only at ev
 have dv:=zl (q:=(t,b)) b0
 generalize red (t,b)=q at *
 have q0:=lo.1
 have p1:0 < q.1:=by
  by_cases z:0 < q.1
  ·exact z
  ·have a1:q.1 * b≤0:=dP (by omega) (by omega)
   have a2:0 < t * q.2:=bE h0 q0
   omega
 refine ⟨lo,p1,?_,ei (Int.le_of_dvd b0 dv) hb⟩
 refine fc ?_ b0
 rw [ev]
 have:=aY h1 (bK q0)
 rw [bH q.2 b]
 exact this
theorem Bl (a:Adr) {nx:Nat}{pre:List (Nat×Cell)}{s:Sto}{p:Nat} (hP:IsPurse s p) (h:∀ q∈pre,q.1≠p) (x y:Int):∃ q x' y',Part q∧ly a [.ref p] (stk nx pre s p x y)=.ok (frP q) (stk nx pre s p x' y'):=by
 obtain ⟨r,xa,ya,r0,r1,e1⟩:=pF a (nx:=nx) hP h 8 (by decide) (by decide) x y
 obtain ⟨b,hb,eb⟩:=at8 [2,3,4,5,7,10,100,1000000000] rfl r0 r1
 have hb':0 < b∧b≤1000000000:=by
  simp at hb
  rcases hb with h | h | h | h | h | h | h | h <;> omega
 obtain ⟨t,xb,yb,t0,t1,e2⟩:=pF a (nx:=nx) hP h b hb'.1 (by omega) xa ya
 have e3:=rG a (stk nx pre s p xb yb) (1+t) b hb'.1 (pK hb'.1 (by omega))
 refine ⟨red (1+t,b),xb,yb,A6 (by omega) (by omega) hb'.2,?_⟩
 simp only [au,bQ] at eb
 simp [sem,lQ,jU,lc,ly,rZ,e1,e2,e3,eb]
def hP (l:Hl):List (Key×PV):=l.map fun q=>(am q.1,frP q.2)
def lu (n:Nat):List (Str×Hl)→List (Nat×Cell)
 | []=>[]
 | (_,l)::r=>(n+r.length,.dct (hP l))::lu n r
def my (n:Nat):List (Str×Hl)→List (Key×PV)
 | []=>[]
 | (h,_)::r=>my n r++[(am h,.ref (n+r.length))]
def kS (M:List (Str×Hl)):List (Key×PV):=M.map fun m=>(am m.1,.dct (hP m.2))
theorem rP {n:Nat}:∀ {R:List (Str×Hl)},∀ q∈lu n R,n≤q.1∧q.1 < n+R.length
 | [],q,h=>by cases h
 | (_,l)::r,q,h=>by
  rcases ai.mp h with rfl | h
  ·simp
  ·have:=rP q h
   simp;omega
theorem vB:∀ (A B:List (Key×PV)) (s:Sto),nY (A++B) s=match nY A s with
  | some (A',s1)=>match nY B s1 with
   | some (B',s2)=>some (A'++B',s2)
   | none=>none
  | none=>none
 | [],B,s=>by
  simp only [cv,nY]
  cases nY B s with
  | none=>rfl
  | some q=>rfl
 | (k,v)::A,B,s=>by
  simp only [cS,nY]
  cases h:frz1 v s with
  | ok w s1 =>
   simp only
   rw [vB A B s1]
   cases nY A s1 with
   | none=>rfl
   | some q =>
    obtain ⟨A',s2⟩:=q
    simp only
    cases nY B s2 with
    | none=>rfl
    | some q=>rfl
  | ex=>rfl
  | bad=>rfl
theorem xQ (n nx:Nat):∀ (R:List (Str×Hl)) (pre tail:List (Nat×Cell)),(∀ q∈pre,n+R.length≤q.1)→nY (my n R) ⟨nx,pre++(lu n R++tail)⟩=some (kS R.reverse,⟨nx,pre++tail⟩)
 | [],pre,tail,_=>rfl
 | (h,l)::r,pre,tail,hp=>by
  have ih:=xQ n nx r (pre++[(n+r.length,.dct (hP l))]) tail (fun q hq=>by
   rcases aX.mp hq with hq | hq
   ·have:=hp q hq;simp at this;omega
   ·rw [aE.mp hq];exact az _)
  have e1:pre++(lu n ((h,l)::r)++tail)=pre++[(n+r.length,Cell.dct (hP l))]++(lu n r++tail):=by simp [lu]
  rw [e1]
  show nY (my n r++_) _=_
  rw [vB,ih]
  have hne:∀ q∈pre,q.1≠n+r.length:=fun q hq=>by have:=hp q hq;simp at this;omega
  have hg:(⟨nx,pre++[(n+r.length,Cell.dct (hP l))]++tail⟩:Sto).get (n+r.length)=some (.dct (hP l)):=by
   show lf (pre++[_]++tail) _=_
   rw [bI,qO hne]
   simp [lf]
  have hd:(⟨nx,pre++[(n+r.length,Cell.dct (hP l))]++tail⟩:Sto).del (n+r.length)=⟨nx,pre++tail⟩:=by
   unfold Sto.del
   simp only
   rw [bI,xY hne]
   simp [rg]
  simp only [nY,frz1,hg,hd]
  simp [kS]
def uL (n:Nat) (R:List (Str×Hl)) (pp:List Str) (L:List Ent):List (Nat×Cell):=lu (n+3) R++[(n+2,.dct (my (n+3) R)),(n+1,.book pp L)]
def bst (s:Sto) (p:Nat) (R:List (Str×Hl)) (pp:List Str) (L:List Ent) (x y:Int):Sto:=stk (s.nx+3+R.length) (uL s.nx R pp L) s p x y
theorem zM {n p:Nat} (hp:p < n) (R:List (Str×Hl)) (pp:List Str) (L:List Ent):∀ q∈uL n R pp L,q.1≠p:=fun q hq=>by
 unfold uL at hq
 rcases aX.mp hq with hq | hq
 ·have:=rP q hq;omega
 ·simp at hq
  rcases hq with rfl | rfl <;> (simp;omega)
theorem pJ {n k:Nat} (R:List (Str×Hl)) (h:k < n):∀ q∈lu n R,q.1≠k:=fun q hq=>by have:=rP q hq;omega
theorem ol (s:Sto) (p:Nat) (R:List (Str×Hl)) (pp:List Str) (L:List Ent) (x y:Int):(bst s p R pp L x y).get (s.nx+1)=some (.book pp L):=by
 show lf (uL s.nx R pp L++_) (s.nx+1)=_
 unfold uL
 rw [bI,qO (pJ R (by omega))]
 simp [lf]
theorem uc (s:Sto) (p:Nat) (R:List (Str×Hl)) (pp:List Str) (L:List Ent) (x y:Int):(bst s p R pp L x y).get (s.nx+2)=some (.dct (my (s.nx+3) R)):=by
 show lf (uL s.nx R pp L++_) (s.nx+2)=_
 unfold uL
 rw [bI,qO (pJ R (by omega))]
 simp [lf]
theorem ua (s:Sto) (p:Nat) (R:List (Str×Hl)) (pp pp':List Str) (L L':List Ent) (x y:Int):(bst s p R pp L x y).set (s.nx+1) (.book pp' L')=bst s p R pp' L' x y:=by
 unfold bst stk Sto.set uL
 simp only
 rw [bI,tW (pJ R (by omega))]
 simp [na]
theorem vg (n:Nat) (h:Str) (l:Hl) (pr:List (Str×Hl)) (tl:List (Nat×Cell)):∀ post:List (Str×Hl),lf (lu n (post++(h,l)::pr)++tl) (n+pr.length)=some (.dct (hP l))
 | []=>by
  show lf ((n+pr.length,Cell.dct (hP l))::_) _=_
  rw [n9,if_pos rfl]
 | (g,m)::post=>by
  show lf ((n+(post++(h,l)::pr).length,Cell.dct (hP m))::(lu n (post++(h,l)::pr)++tl)) _=_
  rw [n9,if_neg (by simp;omega)]
  exact vg n h l pr tl post
theorem vf (n:Nat) (h:Str) (l l':Hl) (pr:List (Str×Hl)) (tl:List (Nat×Cell)):∀ post:List (Str×Hl),na (n+pr.length) (.dct (hP l')) (lu n (post++(h,l)::pr)++tl)=lu n (post++(h,l')::pr)++tl
 | []=>by
  show na _ _ ((n+pr.length,Cell.dct (hP l))::_)=_
  rw [pP,if_pos rfl]
  rfl
 | (g,m)::post=>by
  show na _ _ ((n+(post++(h,l)::pr).length,Cell.dct (hP m))::(lu n (post++(h,l)::pr)++tl))=(n+(post++(h,l')::pr).length,Cell.dct (hP m))::(lu n (post++(h,l')::pr)++tl)
  rw [pP,if_neg (by simp;omega),vf n h l l' pr tl post]
  simp
theorem vD (n:Nat) (h:Str) (l l':Hl) (pr:List (Str×Hl)):∀ post:List (Str×Hl),my n (post++(h,l)::pr)=my n (post++(h,l')::pr)
 | []=>rfl
 | (g,m)::post=>by
  show my n (post++(h,l)::pr)++_=my n (post++(h,l')::pr)++_
  rw [vD n h l l' pr post]
  simp
theorem oG (n:Nat):∀ R:List (Str×Hl),(my n R).map (·.1)=R.reverse.map fun m=>am m.1
 | []=>rfl
 | (h,l)::r=>by simp [my,oG n r]
theorem pL (s:Sto) (p:Nat) (h:Str) (l:Hl) (post pr:List (Str×Hl)) (pp:List Str) (L:List Ent) (x y:Int):(bst s p (post++(h,l)::pr) pp L x y).get (s.nx+3+pr.length)=some (.dct (hP l)):=by
 show lf (uL s.nx _ pp L++_) _=_
 unfold uL
 rw [bI]
 exact vg (s.nx+3) h l pr _ post
theorem BY (s:Sto) (p:Nat) (h:Str) (l l':Hl) (post pr:List (Str×Hl)) (pp:List Str) (L:List Ent) (x y:Int):(bst s p (post++(h,l)::pr) pp L x y).set (s.nx+3+pr.length) (.dct (hP l'))=bst s p (post++(h,l')::pr) pp L x y:=by
 unfold bst stk Sto.set uL
 simp only
 rw [bI,vf (s.nx+3) h l l' pr _ post,vD (s.nx+3) h l l' pr post]
 simp
theorem zS {l:List (Key×PV)}{k:Key} (h:k∉l.map (·.1)):mQ l k=none:=by
 unfold mQ
 rw [fM,bW]
 intro q hq z
 exact h (aj.mpr ⟨q,hq,of_decide_eq_true z⟩)
theorem xE {l:List (Key×PV)}{k:Key} (v:PV) (h:k∉l.map (·.1)):AG l k v=l++[(k,v)]:=by
 unfold AG
 rw [if_neg]
 intro z
 obtain ⟨q,hq,e⟩:=cT.mp z
 exact h (aj.mpr ⟨q,hq,of_decide_eq_true e⟩)
theorem AL {l k:List (Key×PV)}{q:Key} (h:q∉l.map (·.1)):mQ (l++k) q=mQ k q:=by
 unfold mQ
 rw [fw]
 have:l.find? (fun kv=>decide (kv.1=q))=none:=by
  rw [bW]
  intro z hz e
  exact h (aj.mpr ⟨z,hz,of_decide_eq_true e⟩)
 rw [this];rfl
theorem xW (n:Nat) (h:Str) (l:Hl) (pr:List (Str×Hl)) (hn:h∉pr.map (·.1)):∀ post:List (Str×Hl),mQ (my n (post++(h,l)::pr)) (am h)=some (.ref (n+pr.length))
 | []=>by
  show mQ (my n pr++_) _=_
  rw [AL]
  ·simp [mQ]
  ·rw [oG]
   intro z
   obtain ⟨m,hm,e⟩:=aj.mp z
   cases e
   exact hn (aj.mpr ⟨m,by simpa using hm,rfl⟩)
 | (g,m)::post=>by
  show mQ (my n (post++(h,l)::pr)++_) _=_
  have ih:=xW n h l pr hn post
  unfold mQ at ih ⊢
  rw [fw]
  cases hf:(my n (post++(h,l)::pr)).find? (fun kv=>decide (kv.1=am h)) with
  | none=>rw [hf] at ih;cases ih
  | some q=>rw [hf] at ih;exact ih
theorem wO (l:Hl) (n:Str) (h:n∈l.map (·.1)):mQ (hP l) (am n)=some (frP (jW l n)):=by
 unfold mQ hP jW kc
 rw [dY,ib]
 have e:((fun kv:Key×PV=>decide (kv.1=am n)) ∘ fun q:Str×Int×Int=>((am q.1:Key),frP q.2))=fun q=>decide (q.1=n):=by
  funext q
  show decide ((am q.1:Key)=am n)=_
  rw [sG]
 rw [e]
 cases hf:l.find? (fun q=>decide (q.1=n)) with
 | none =>
  exfalso
  rw [bW] at hf
  obtain ⟨q,hq,e⟩:=aj.mp h
  exact hf q hq (decide_eq_true e)
 | some q=>rfl
theorem DK (l:Hl):(hP l).map (·.1)=l.map fun q=>am q.1:=by unfold hP;rw [aF];rfl
theorem FC (l:Hl) (n:Str):(mQ (hP l) (am n)).getD (.tup [.int 0,.int 1])=frP (jW l n):=by
 by_cases h:n∈l.map (·.1)
 ·rw [wO l n h];rfl
 ·rw [zS,wB h]
  ·rfl
  ·rw [DK]
   intro z
   obtain ⟨q,hq,e⟩:=aj.mp z
   cases e
   exact h (aj.mpr ⟨q,hq,rfl⟩)
theorem FB (l:Hl) (n:Str) (q:Int×Int):AG (hP l) (am n) (frP q)=hP (lK l n q):=by
 unfold AG lK hP
 rw [gQ]
 have e:((fun kv:Key×PV=>decide (kv.1=am n)) ∘ fun q:Str×Int×Int=>((am q.1:Key),frP q.2))=fun q=>decide (q.1=n):=by
  funext q
  show decide ((am q.1:Key)=am n)=_
  rw [sG]
 rw [e]
 split
 ·rw [aF,aF]
  refine bB fun z _=>?_
  show (if (am z.1:Key)=am n then ((am z.1:Key),frP q) else (am z.1,frP z.2))=_
  by_cases hz:z.1=n
  ·simp [hz]
  ·simp [hz]
 ·simp
theorem yw (a:Adr) (s:Sto) (p:Nat) (R:List (Str×Hl)) (pp:List Str) (L:List Ent) (x y:Int) (w:Str) (hn:Nm w) (hd:nQ a pp L w=none):lW a [.ref (s.nx+1),.str w] (bst s p R pp L x y)=.ok .non (bst s p R (pp++[w]) L x y):=by
 simp [lW,ku,ol,hn,hd,ua]
theorem Ao (a:Adr) (s:Sto) (p:Nat) (R:List (Str×Hl)) (pp:List Str) (L:List Ent) (x y:Int) (w o:Str) (t m l:Int) (hn:Nm w∧Nm o) (hd:qb a pp L w o l=none) :
  rm a [.ref (s.nx+1),.str w,.str o,.int t,.int m,.int l] (bst s p R pp L x y)=.ok .non (bst s p R pp (L++[⟨w,t,m,l,[(o,1,1)]⟩]) x y):=by
 simp [rm,ku,ol,hn,hd,ua]
theorem C7 (s:Sto) (p:Nat) (R:List (Str×Hl)) (pp:List Str) (L:List Ent) (x y:Int) (w o:Str) (hw:w∉R.map (·.1)) (hR:R.length≤8) :
  lc (.ref (s.nx+2)) (.str w) (.ref (s.nx+3+R.length)) ((bst s p R pp L x y).add (.dct [(am o,.tup [.int 1,.int 1])]))=some (bst s p ((w,[(o,1,1)])::R) pp L x y):=by
 have hnx:(bst s p R pp L x y).nx=s.nx+3+R.length:=rfl
 have hg:((bst s p R pp L x y).add (.dct [(am o,.tup [.int 1,.int 1])])).get (s.nx+2)=some (.dct (my (s.nx+3) R)):=by
  rw [kR,if_neg (by rw [hnx];omega),uc]
 have hk:(am w:Key)∉(my (s.nx+3) R).map (·.1):=by
  rw [oG]
  intro z
  obtain ⟨m,hm,e⟩:=aj.mp z
  cases e
  exact hw (aj.mpr ⟨m,by simpa using hm,rfl⟩)
 have hl:(my (s.nx+3) R).length < 100000:=by
  have:=congrArg cL (oG (s.nx+3) R)
  simp at this
  omega
 simp only [lc,hg,kyOf,hl,if_true,xE _ hk]
 congr 1
 rw [sW _ _ _ (by rw [hnx];omega)]
 unfold bst stk Sto.set Sto.add uL
 simp only
 rw [bI,tW (pJ R (by omega))]
 simp [na,lu,my,hP,frP]
 omega
structure Words (pp hs:List Str):Prop where
 nd:(pp++hs).Nodup
 sm:∀ w∈pp++hs,Sm w
 nm:∀ w∈pp++hs,qz w=true
 p1:1≤pp.length
 p6:pp.length≤6
 h8:hs.length≤8
theorem qN (pp:List Str) (w:Str):lz pp w=true ↔ w∈pp:=by
 unfold lz
 rw [fu]
 constructor
 ·rintro ⟨x,hx,e⟩
  have:=of_decide_eq_true e
  subst this
  exact hx
 ·intro h
  exact ⟨w,h,decide_eq_true rfl⟩
theorem n8 (L:List Ent) (w:Str):lS L w=true ↔ w∈L.map (·.nm):=by
 unfold lS kO
 rw [fu]
 constructor
 ·rintro ⟨x,hx,e⟩
  exact aj.mpr ⟨x,hx,of_decide_eq_true e⟩
 ·intro h
  obtain ⟨x,hx,e⟩:=aj.mp h
  exact ⟨x,hx,decide_eq_true e⟩
theorem vp (a:Adr) {pp:List Str}{L:List Ent}{w:Str} (h1:qz w=true) (h2:w∉pp) (h3:w∉L.map (·.nm)):ng a pp L w=none:=by
 unfold ng
 have e1:lz pp w=false:=by rw [dg];exact fun z=>h2 ((qN _ _).mp z)
 have e2:lS L w=false:=by rw [dg];exact fun z=>h3 ((n8 _ _).mp z)
 rw [if_neg (by rw [h1];decide),e1,e2]
 rfl
theorem ud {ws:List Str}{r:Int} (h0:0≤r) (h1:r < ws.length):∃ w∈ws,atI (ws.map PV.str) r=some (.str w):=by
 obtain ⟨j,rfl⟩:∃ j:Nat,r=j:=⟨r.toNat,by omega⟩
 have hj:j < ws.length:=by omega
 exact ⟨ws[j],cj hj,kr (by simp [hj])⟩
def fr0 (p n:Nat) (wd:Option PV) (pp hs:List Str):En:=[some (.ref p),wd,some (.ref (n+1)),some (.lst (pp.map .str)),some (.lst (hs.map .str)),some (.ref (n+2))]
theorem wa (a:Adr) (s:Sto) (p:Nat) (x y:Int) {pp hs:List Str} (W:Words pp hs) (wd o6 o7 o8 o9 o10 o11 o12 o13 o14:Option PV) :
  ∃ o,kM (j9 (yName 6) (lI a)) (pp.map .str) (fr0 p s.nx wd pp hs++[o6,o7,o8,o9,o10,o11,o12,o13,o14]) (bst s p [] [] [] x y)=.nx (fr0 p s.nx wd pp hs++[o,o7,o8,o9,o10,o11,o12,o13,o14]) (bst s p [] pp [] x y):=by
 obtain ⟨e',s',h1,rfl,o,rfl⟩:=p8 (body:=j9 (yName 6) (lI a)) (pp.map .str) (fun k ρ t=>t=bst s p [] (pp.take k) [] x y∧∃ o,ρ=fr0 p s.nx wd pp hs++[o,o7,o8,o9,o10,o11,o12,o13,o14])
  (fun k q ρ t hq hI=>by
   obtain ⟨rfl,o,rfl⟩:=hI
   rw [bo] at hq
   cases hw:pp[k]? with
   | none=>rw [hw] at hq;cases hq
   | some w =>
    rw [hw] at hq
    cases hq
    have hk:k < pp.length:=(a9.mp hw).1
    have hmem:w∈pp:=bN hw
    have e1:pp.take (k+1)=pp.take k++[w]:=by rw [bX,hw];rfl
    have nd:pp.Nodup:=(bz.mp W.nd).1
    have hnot:w∉pp.take k:=fun z=>by
     have:(pp.take (k+1)).Nodup:=nd.sublist (dW _ _)
     rw [e1] at this
     exact (bz.mp this).2.2 w z w ap rfl
    have hd:nQ a (pp.take k) [] w=none:=by
     unfold nQ
     rw [vp a (W.nm w (bV _ hmem)) hnot (by simp)]
     simp only
     rw [if_neg]
     rw [bP]
     have:=W.p6
     omega
    have hdo:=yw a s p [] (pp.take k) [] x y w (W.sm w (bV _ hmem)).nm hd
    refine ⟨_,_,?_,rfl,some (.str w),rfl⟩
    simp [sem,lQ,jU,lc,j9,lI,fr0,ol,hdo,e1]) (ρ:=fr0 p s.nx wd pp hs++[o6,o7,o8,o9,o10,o11,o12,o13,o14]) (s:=bst s p [] [] [] x y) ⟨rfl,o6,rfl⟩
 rw [af,cD] at h1
 exact ⟨o,h1⟩
inductive Pairs (N:List Str) (c:Nat):List Ent→List (Str×Hl)→Prop
 | nil:Pairs N c [] []
 | cons {e:Ent}{m:Str×Hl}{L:List Ent}{M:List (Str×Hl)}:e.nm=m.1→HR c e.held m.2→(∀ n∈m.2.map (·.1),n∈N)→0≤e.ls→Pairs N c L M→Pairs N c (e::L) (m::M)
theorem Pairs.names {N:List Str}{c:Nat}{L:List Ent}{M:List (Str×Hl)} (h:Pairs N c L M):L.map (·.nm)=M.map (·.1):=by
 induction h with
 | nil=>rfl
 | cons h1 _ _ _ _ ih=>rw [au,au,h1,ih]
theorem Pairs.app {N:List Str}{c:Nat}{L L':List Ent}{M M':List (Str×Hl)} (h:Pairs N c L M) (h':Pairs N c L' M'):Pairs N c (L++L') (M++M'):=by
 induction h with
 | nil=>exact h'
 | cons h1 h2 h3 h4 _ ih=>exact .cons h1 h2 h3 h4 ih
structure Half (pp hs:List Str) (k:Nat) (R:List (Str×Hl)) (L:List Ent):Prop where
 ln:L.map (·.nm)=hs.take k
 pr:Pairs (pp++hs) 0 L R.reverse
theorem Half.rn {pp hs:List Str}{k:Nat}{R:List (Str×Hl)}{L:List Ent} (h:Half pp hs k R L):R.reverse.map (·.1)=hs.take k:=by rw [← h.pr.names,h.ln]
theorem x4 (ws:List PV) (k:Nat) (hk:k≤ws.length):uI ws none (some (k:Int))=ws.take k:=by
 unfold uI
 simp [HT.sIx]
 have:min k ws.length=k:=by omega
 split
 ·omega
 ·omega
theorem nl (a:Adr) (s:Sto) (p:Nat) (hp:p < s.nx) (hP:IsPurse s p) (R:List (Str×Hl)) (pp:List Str) (L:List Ent) (n:Int) (h0:0 < n) (h1:n < 2 ^ 64) (x y:Int):∃ r x' y',0≤r∧r < n∧jQ a [.ref p,.int n] (bst s p R pp L x y)=.ok (.int r) (bst s p R pp L x' y'):=pF a hP (zM hp R pp L) n h0 h1 x y
theorem Bm (a:Adr) (s:Sto) (p:Nat) (hp:p < s.nx) (hP:IsPurse s p) (R:List (Str×Hl)) (pp:List Str) (L:List Ent) (x y:Int):∃ q x' y',Part q∧ly a [.ref p] (bst s p R pp L x y)=.ok (frP q) (bst s p R pp L x' y'):=Bl a hP (zM hp R pp L) x y
theorem xj (a:Adr) (s:Sto) (p:Nat) (hp:p < s.nx) (hP:IsPurse s p) (x y:Int) {pp hs:List Str} (W:Words pp hs) (wd o6 o7 o8 o9 o10 o11 o12 o13 o14:Option PV) :
  ∃ x' y' R L o o',Half pp hs hs.length R L∧kM (j9 (yName 7) (lH a)) (qk 0 hs.length) (fr0 p s.nx wd pp hs++[o6,o7,o8,o9,o10,o11,o12,o13,o14]) (bst s p [] pp [] x y)=.nx (fr0 p s.nx wd pp hs++[o6,o,o',o9,o10,o11,o12,o13,o14]) (bst s p R pp L x' y'):=by
 obtain ⟨e',s',h1,x',y',R,L,o,o',rfl,rfl,hH⟩:=pH (body:=j9 (yName 7) (lH a)) hs.length (fun k ρ t=>∃ x y R L o o',t=bst s p R pp L x y∧ρ=fr0 p s.nx wd pp hs++[o6,o,o',o9,o10,o11,o12,o13,o14]∧Half pp hs k R L)
  (fun k ρ t hk hI=>by
   obtain ⟨x,y,R,L,o,o',rfl,rfl,hH⟩:=hI
   have hlen:R.length=k:=by
    have:=congrArg cL hH.rn
    simp at this
    omega
   have hLl:L.length=k:=by
    have:=congrArg cL hH.ln
    simp at this
    omega
   obtain ⟨r,xa,ya,r0,r1,e1⟩:=nl a s p hp hP R pp L ((pp.length:Int)+(k:Int)) (by have:=W.p1;omega) (by have:=W.p6;have:=W.h8;omega) x y
   obtain ⟨ow,how,eow⟩:=ud (ws:=pp++hs.take k) r0 (by rw [aO,bP];omega)
   obtain ⟨t1,xb,yb,t10,t11,e2⟩:=nl a s p hp hP R pp L 100 (by decide) (by decide) xa ya
   obtain ⟨t2,xc,yc,t20,t21,e3⟩:=nl a s p hp hP R pp L 60 (by decide) (by decide) xb yb
   obtain ⟨t3,xd,yd,t30,t31,e4⟩:=nl a s p hp hP R pp L 40 (by decide) (by decide) xc yc
   have hw:hs[k]?=some hs[k]:=bu hk
   have eh:atI (hs.map PV.str) (k:Int)=some (.str hs[k]):=kr (by simp [hk])
   have hmem:hs[k]∈hs:=cj hk
   have hin:hs[k]∈pp++hs:=aP _ hmem
   have ndh:hs.Nodup:=(bz.mp W.nd).2.1
   have e5:hs.take (k+1)=hs.take k++[hs[k]]:=by rw [bX,hw];rfl
   have hnot:hs[k]∉hs.take k:=fun z=>by
    have:(hs.take (k+1)).Nodup:=ndh.sublist (dW _ _)
    rw [e5] at this
    exact (bz.mp this).2.2 _ z _ ap rfl
   have hnp:hs[k]∉pp:=fun z=>(bz.mp W.nd).2.2 _ z _ hmem rfl
   have how':ow∈pp++hs:=by
    rcases aX.mp how with h | h
    ·exact bV _ h
    ·exact aP _ (gk h)
   have hd:qb a pp L hs[k] ow t3=none:=by
    unfold qb
    rw [vp a (W.nm _ hin) hnp (by rw [hH.ln];exact hnot)]
    simp only
    have hh:(lz pp ow || lS L ow)=true:=by
     rw [eU,qN,n8,hH.ln]
     exact aX.mp how
    rw [if_neg (by rw [hh];decide),if_neg (by omega),if_neg]
    have:=W.h8
    omega
   have hdo:=Ao a s p R pp L xd yd hs[k] ow (t1 - 30) (t2 - 10) t3 ⟨(W.sm _ hin).nm,(W.sm _ how').nm⟩ hd
   have hput:=C7 s p R pp (L++[⟨hs[k],t1 - 30,t2 - 10,t3,[(ow,1,1)]⟩]) xd yd hs[k] ow (by
    intro z
    obtain ⟨m,hm,e⟩:=aj.mp z
    refine hnot ?_
    rw [← hH.rn,← e]
    exact aj.mpr ⟨m,by simpa using hm,rfl⟩) (by have:=W.h8;omega)
   have ecut:uI (hs.map PV.str) none (some (k:Int))=(hs.take k).map PV.str:=by
    rw [x4 _ _ (by simp;omega),fE]
   have eow':atI (pp.map PV.str++List.take k (hs.map PV.str)) r=some (.str ow):=by
    rw [← fE,← aD]
    exact eow
   have hnx:∀ L x y,(bst s p R pp L x y).nx=s.nx+3+R.length:=fun _ _ _=>rfl
   have ecat:pp.map PV.str++(hs.take k).map PV.str=(pp++hs.take k).map PV.str:=by simp
   have hsz:pp.length+min k hs.length≤100000:=by have:=W.p6;have:=W.h8;omega
   refine ⟨_,_,?_,xd,yd,(hs[k],[(ow,1,1)])::R,L++[⟨hs[k],t1 - 30,t2 - 10,t3,[(ow,1,1)]⟩],some (.int k),some (.str ow),rfl,rfl,?_⟩
   ·simp [sem,lQ,jU,j9,lH,fr0,ol,e1,e2,e3,e4,eow',eh,hdo,hput,ecut,hsz,hnx]
   ·refine ⟨?_,?_⟩
    ·rw [aD,hH.ln,e5]
     rfl
    ·rw [de]
     exact hH.pr.app (.cons rfl (FA 0 (W.sm _ how')) (fun n hn=>by cases aE.mp hn;exact how') t30 .nil)) (ρ:=fr0 p s.nx wd pp hs++[o6,o7,o8,o9,o10,o11,o12,o13,o14]) (s:=bst s p [] pp [] x y) ⟨x,y,[],[],o7,o8,rfl,rfl,⟨by simp,.nil⟩⟩
 exact ⟨x',y',R,L,o,o',hH,h1⟩
def tF (l:Hl):List Str:=(l.map (·.1)).filter fun n=>decide (0 < (jW l n).1)
theorem havN_srt {l:Hl}{n:Str}:n∈srt (tF l) ↔ n∈l.map (·.1)∧0 < (jW l n).1:=by
 rw [(jZ _).mem_iff]
 unfold tF
 rw [dJ,decide_eq_true_iff]
theorem zY {n:Nat}{c:Cell}:∀ (l:List (Nat×Cell)),lf l n=some c→na n c l=l:=by
 intro l
 induction l with
 | nil=>intro h;cases h
 | cons q r ih =>
  obtain ⟨k,d⟩:=q
  intro h
  rw [n9] at h
  rw [pP]
  by_cases e:k=n
  ·rw [if_pos e] at h ⊢
   cases h
   rw [e]
  ·rw [if_neg e] at h ⊢
   rw [ih h]
theorem AW {t:Sto}{n:Nat}{c:Cell} (h:t.get n=some c):t.set n c=t:=by
 unfold Sto.set
 rw [zY _ h]
theorem Aq {ρ:En}{t:Sto}{n:Nat}{l:Hl} (hρ:ρ[10]?=some (some (.ref n))) (hg:t.get n=some (.dct (hP l))) (hl:l.length≤100000) :
  ug 10 [10] (xTr (x2 (x2 (x2 (xVar 1) (xVar 0) fIx) (xC (.int 0)) fIx) (xC (.int 0)) fGt)) (xVar 0) ρ t=.ok (.lst ((tF l).map .str)) t:=by
 have hg1:(t.set n (.dfz (hP l))).get n=some (.dfz (hP l)):=pV hg
 have hlen:(hP l).length≤100000:=by unfold hP;simpa using hl
 have ek:((hP l).map fun kv=>xM kv.1)=(l.map (·.1)).map PV.str:=by unfold hP;simp [xM]
 have hc:kK (xTr (x2 (x2 (x2 (xVar 1) (xVar 0) fIx) (xC (.int 0)) fIx) (xC (.int 0)) fGt)) (xVar 0) (kj [10] ρ) ((l.map (·.1)).map PV.str) (t.set n (.dfz (hP l)))=.ok (((((l.map (·.1)).map PV.str).filter fun q=>match q with
   | .str w=>decide (0 < (jW l w).1)
   | _=>false)).map id) (t.set n (.dfz (hP l))):=by
  refine vH _ _ _ (fun q hq=>?_) (fun q hq _=>?_)
  ·obtain ⟨w,hw,rfl⟩:=aj.mp hq
   have hv:=wO l w hw
   simp [sem,lQ,jU,lc,kj,hρ,hg1,hv,frP,at0,fGt]
  ·simp [xVar]
 unfold ug
 rw [hρ]
 simp only
 rw [hg]
 simp only
 rw [if_pos hlen,ek,hc]
 simp only [Out.bind,thw,hg1,wu,AW hg]
 congr 2
 unfold tF
 rw [hU,eT]
 rfl
def shr (g q:Int×Int):Int×Int:=red (g.1 * q.1,g.2 * q.2)
theorem E2 {c:Nat} (hc:c≤11) {g q:Int×Int} (hg:FrC c g) (g0:0 < g.1) (hq:Part q) (hb:(shr g q).2 < 10 ^ 28):ShOk (shr g q)∧0 < (shr g q).1∧(shr g q).1 * g.2≤g.1 * (shr g q).2:=by
 have q2:0 < q.2:=hq.low.1
 have g2:0 < g.2:=hg.low.1
 obtain ⟨lo,ev⟩:=oJ (q:=(g.1 * q.1,g.2 * q.2)) (bE g2 q2)
 simp only at ev
 change Low (shr g q) at lo
 change (shr g q).1 * (g.2 * q.2)=g.1 * q.1 * (shr g q).2 at ev
 generalize shr g q=r at *
 have r2:0 < r.2:=lo.1
 have p1:0 < g.1 * q.1 * r.2:=bE (bE g0 hq.pos) r2
 have r1:0 < r.1:=by
  rcases Int.lt_trichotomy 0 r.1 with h | h | h
  ·exact h
  ·rw [← h,Int.zero_mul] at ev;omega
  ·have:=Int.mul_neg_of_neg_of_pos h (bE g2 q2);omega
 have le1:r.1 * g.2≤g.1 * r.2:=by
  refine fc (a:=q.2) ?_ q2
  have e1:r.1 * g.2 * q.2=g.1 * r.2 * q.1:=by
   rw [bg,ev,bg,bg,bH q.1]
  rw [e1]
  exact Int.mul_le_mul_of_nonneg_left hq.le (bK (bE g0 r2))
 have bb:Bt 94 r.2:=by unfold Bt;omega
 refine ⟨⟨lo,?_,bb⟩,r1,le1⟩
 have hv:=zv hg lo le1
 have hp:((2 ^ c:Nat):Int)≤2048:=by
  have:2 ^ c≤2 ^ 11:=cM (by decide) hc
  omega
 have:r.1≤2048 * r.2:=ei hv (aY hp (bK r2))
 unfold Bt
 omega
theorem ET {c:Nat} (hc:c≤11) {g q:Int×Int} (hg:FrC c g) (hq:Part q):Two' g q:=by
 have q2:=hq.low.1
 have h1:=hq.bb
 have h2:=hq.le
 have h3:=hq.pos
 refine ⟨hg.low.1,q2,⟨hg.bb.mono (by omega),?_⟩,hg.top.mono (by omega),?_⟩
 ·have:Bt 30 q.2:=by unfold Bt;omega
  exact this.mono (by decide)
 ·have:Bt 30 q.1:=by unfold Bt;omega
  exact this.mono (by decide)
theorem FrB.top {c k:Nat} (hc:c≤11) (hk:k≤3000) {g:Int×Int} (hg:FrB k (2 ^ c:Nat) g):Bt 4000 g.1:=by
 have hp:((2 ^ c:Nat):Int)≤2048:=by
  have:2 ^ c≤2 ^ 11:=cM (by decide) hc
  omega
 have h2:=hg.low.1
 have:g.1≤2048 * g.2:=ei hg.le (aY hp (bK h2))
 have b:Bt (12+k) (2048 * g.2):=Bt.mul (by unfold Bt;decide:Bt 12 2048) hg.bb
 have b2:Bt 4000 (2048 * g.2):=b.mono (by omega)
 have h0:=hg.nn
 unfold Bt at b2 ⊢
 omega
theorem Cb {c k:Nat} (hc:c≤11) (hk:k≤3000) {g q:Int×Int} (hg:FrB k (2 ^ c:Nat) g) (hq:ShOk q):Two' g q :=
 ⟨hg.low.1,hq.low.1,⟨hg.bb.mono (by omega),hq.bb.mono (by omega)⟩,(hg.top hc hk).mono (by omega),hq.bt.mono (by omega)⟩
theorem CV {g q:Int×Int} (h:Two' g q):Two' g (-q.1,q.2):=⟨h.p0,h.q0,h.b,h.t.1,h.t.2.neg⟩
theorem xT {A B:List Ent}{e:Ent} (hn:e.nm∉A.map (·.nm)):kO (A++e::B) e.nm=some e:=by
 unfold kO
 rw [fw,bW.mpr]
 ·simp
 ·intro x hx z
  exact hn (aj.mpr ⟨x,hx,of_decide_eq_true z⟩)
theorem pO {A B:List Ent}{e:Ent} (g:Ent→Ent) (h1:e.nm∉A.map (·.nm)) (h2:e.nm∉B.map (·.nm)):uP (A++e::B) e.nm g=A++g e::B:=by
 have no:∀ {l:List Ent},e.nm∉l.map (·.nm)→l.map (fun x=>if x.nm=e.nm then g x else x)=l:=fun {l} h=>by
  conv=>rhs;rw [← hU l]
  refine bB fun x hx=>?_
  rw [if_neg fun z=>h (aj.mpr ⟨x,hx,z⟩)]
  rfl
 unfold uP
 rw [aD,au,if_pos rfl,no h1,no h2]
theorem xD (s:Sto) (p:Nat) (h:Str) (l:Hl) (post pr:List (Str×Hl)) (pp:List Str) (L:List Ent) (x y:Int) (o:Str) (q:Int×Int) (hl:l.length < 1000) :
  lc (.ref (s.nx+3+pr.length)) (.str o) (frP q) (bst s p (post++(h,l)::pr) pp L x y)=some (bst s p (post++(h,lK l o q)::pr) pp L x y):=by
 have hlen:(hP l).length < 100000:=by unfold hP;rw [af];omega
 simp only [lc,pL,kyOf,hlen,if_true,FB,BY]
theorem A2 (a:Adr) (s:Sto) (p:Nat) (R:List (Str×Hl)) (pp:List Str) (A B:List Ent) (e:Ent) (x y:Int) (o1 o2:Str) (q:Int×Int) (nd:((A++e::B).map (·.nm)).Nodup) (hn:Nm e.nm∧Nm o1∧Nm o2) (hz:Sz q) (ok:SaleOk e.held o1 q)
  (h1:(lz pp o1 || lS (A++e::B) o1)=true) (h2:(lz pp o2 || lS (A++e::B) o2)=true) (nt:¬ mB e.held o1 q) :
  uN a [.ref (s.nx+1),.str e.nm,.str o1,.str o2,frP q] (bst s p R pp (A++e::B) x y)=.ok .non (bst s p R pp (A++{ e with held:=qu e.held o1 o2 q }::B) x y):=by
 rw [aD,au] at nd
 have n1:e.nm∉A.map (·.nm):=fun z=>(bz.mp nd).2.2 _ z _ ap rfl
 have n2:e.nm∉B.map (·.nm):=(aw.mp (bz.mp nd).2.1).1
 have hS:SaleE (A++e::B) e.nm o1 o2 q:=⟨by rw [aD,au];exact nd,hn,hz,fun e' he=>by rw [xT n1] at he;cases he;exact ok⟩
 obtain ⟨t,b⟩:=q
 simp [uN,ku,ol,hS,xT n1,nt,frP,ua,pO _ n1 n2]
 rw [eU] at h1 h2
 rw [if_neg (by intro z;rcases h1 with h | h <;> simp_all),if_neg (by intro z;rcases h2 with h | h <;> simp_all)]
theorem z0 (a:Adr) (s:Sto) (p:Nat) (hp:p < s.nx) (hP:IsPurse s p) {pp hs:List Str} (W:Words pp hs) (post pr:List (Str×Hl)) (A B:List Ent) (e:Ent) (l:Hl) (x y:Int) {c:Nat} (hc:c≤4)
  (hln:(A++e::B).map (·.nm)=hs) (hr:HR c e.held l) (hN:∀ n∈l.map (·.1),n∈pp++hs) (wd o6 o7 o8 o11 o12 o13 o14:Option PV) :
  ∃ x' y' hl' l' u1 u2 u3 u4,k6 a (fr0 p s.nx wd pp hs++[o6,o7,o8,some (.str e.nm),some (.ref (s.nx+3+pr.length)),o11,o12,o13,o14]) (bst s p (post++(e.nm,l)::pr) pp (A++e::B) x y)
  =.nx (fr0 p s.nx wd pp hs++[o6,o7,o8,some (.str e.nm),some (.ref (s.nx+3+pr.length)),u1,u2,u3,u4]) (bst s p (post++(e.nm,l')::pr) pp (A++{ e with held:=hl' }::B) x' y')∧HR (c+1) hl' l'∧∀ n∈l'.map (·.1),n∈pp++hs:=by
 have hav:=Aq (ρ:=fr0 p s.nx wd pp hs++[o6,o7,o8,some (.str e.nm),some (.ref (s.nx+3+pr.length)),o11,o12,o13,o14]) rfl (pL s p e.nm l post pr pp (A++e::B) x y) (by have:=hr.l2;omega)
 have hne:srt (tF l)≠[]:=by
  obtain ⟨n,hn⟩:=hr.ex
  rw [hr.q] at hn
  intro z
  have:n∈srt (tF l):=havN_srt.mpr ⟨hr.had hn,hn⟩
  rw [z] at this
  cases this
 have hlt:(tF l).length≤5:=by
  unfold tF
  refine aJ (eB _ _) ?_
  rw [af]
  have:=hr.l2
  omega
 have hpos:0 < (tF l).length:=by
  rw [← jT]
  exact List.length_pos_iff.mpr hne
 obtain ⟨r,xa,ya,r0,r1,e1⟩:=nl a s p hp hP (post++(e.nm,l)::pr) pp (A++e::B) ((tF l).length:Int) (by omega) (by omega) x y
 obtain ⟨w1,hw1,ew1⟩:=ud (ws:=srt (tF l)) r0 (by rw [jT];exact r1)
 obtain ⟨w1in,w1pos⟩:=havN_srt.mp hw1
 obtain ⟨r',xb,yb,r0',r1',e2⟩:=nl a s p hp hP (post++(e.nm,l)::pr) pp (A++e::B) ((pp.length:Int)+(hs.length:Int)) (by have:=W.p1;omega) (by have:=W.p6;have:=W.h8;omega) xa ya
 obtain ⟨w2,hw2,ew2⟩:=ud (ws:=pp++hs) r0' (by rw [aO];omega)
 obtain ⟨q,xc,yc,hq,e3⟩:=Bm a s p hp hP (post++(e.nm,l)::pr) pp (A++e::B) xb yb
 have fr1:FrC c (jW l w1):=by rw [← hr.q];exact hr.fr w1
 have e4:=Ah a (bst s p (post++(e.nm,l)::pr) pp (A++e::B) xc yc) (jW l w1) q (ET (by omega) fr1 hq)
 have hv:=wO l w1 w1in
 have hg:=fun x y=>pL s p e.nm l post pr pp (A++e::B) x y
 have sz1:pp.length+hs.length≤100000:=by have:=W.p6;have:=W.h8;omega
 have sz2:(tF l).length < 64:=by omega
 have ew2':atI (pp.map PV.str++hs.map PV.str) r'=some (.str w2):=by rw [← aD];exact ew2
 have hcom:∀ k:Nat→Prop,True:=fun _=>trivial
 by_cases hb:(shr (jW l w1) q).2 < 10 ^ 28
 ·obtain ⟨ok,sp,sl⟩:=E2 (by omega) fr1 w1pos hq hb
  have hb':(shr (jW l w1) q).2 < 10000000000000000000000000000:=hb
  change kJ a [frP (jW l w1),frP q] _=.ok (frP (shr (jW l w1) q)) _ at e4
  generalize shr (jW l w1) q=sh at *
  have nt:¬ mB e.held w1 sh:=by
   intro z
   rcases z with z | z
   ·exact z sp
   ·rw [hr.q] at z;omega
  have nde:((A++e::B).map (·.nm)).Nodup:=by rw [hln];exact (bz.mp W.nd).2.1
  have hin:∀ n∈pp++hs,(lz pp n || lS (A++e::B) n)=true:=fun n hn=>by
   rw [eU,qN,n8,hln]
   exact aX.mp hn
  have ein:e.nm∈pp++hs:=aP _ (by rw [← hln];simp)
  have e5:=A2 a s p (post++(e.nm,l)::pr) pp A B e xc yc w1 w2 sh nde ⟨(W.sm _ ein).nm,(W.sm _ (hN _ w1in)).nm,(W.sm _ hw2).nm⟩ ok.sz (hr.saleOk (by omega) ok) (hin _ (hN _ w1in)) (hin _ hw2) nt
  have R1:=wn fr1 ok.low sp sl ok.bb
  have e6:=xJ a (bst s p (post++(e.nm,l)::pr) pp (A++{ e with held:=qu e.held w1 w2 sh }::B) xc yc) (jW l w1) (-sh.1,sh.2) (CV (Cb (c:=c) (by omega) (by omega) fr1 ok))
  have hp1:=xD s p e.nm l post pr pp (A++{ e with held:=qu e.held w1 w2 sh }::B) xc yc w1 (kT (jW l w1) (-sh.1,sh.2)) (by have:=hr.l2;omega)
  generalize hl1:lK l w1 (kT (jW l w1) (-sh.1,sh.2))=l1 at *
  have g1:FrB (192 * c+2+94) (2 ^ c:Nat) (jW l1 w2):=by
   rw [← hl1,kH]
   by_cases z:w2=w1
   ·rw [if_pos z];exact R1
   ·rw [if_neg z,← hr.q]
    have f2:=hr.fr w2
    exact ⟨f2.low,f2.nn,f2.le,f2.bb.mono (by omega)⟩
  have e7:=xJ a (bst s p (post++(e.nm,l1)::pr) pp (A++{ e with held:=qu e.held w1 w2 sh }::B) xc yc) (jW l1 w2) sh (Cb (by omega) (by omega) g1 ok)
  have hl1n:l1.length < 1000:=by rw [← hl1];have:=wA l w1 (kT (jW l w1) (-sh.1,sh.2));have:=hr.l2;omega
  have hp2:=xD s p e.nm l1 post pr pp (A++{ e with held:=qu e.held w1 w2 sh }::B) xc yc w2 (kT (jW l1 w2) sh) hl1n
  have hg2:=pL s p e.nm l post pr pp (A++{ e with held:=qu e.held w1 w2 sh }::B) xc yc
  have hg3:=pL s p e.nm l1 post pr pp (A++{ e with held:=qu e.held w1 w2 sh }::B) xc yc
  have hget:=FC l1 w2
  have hlw:uR l w1 w2 sh=lK l1 w2 (kT (jW l1 w2) sh):=by unfold uR;simp only [hl1]
  refine ⟨xc,yc,qu e.held w1 w2 sh,uR l w1 w2 sh,some (.lst ((srt (tF l)).map .str)),some (.str w1),some (.str w2),some (.tup [.int sh.1,.int sh.2]),?_,hr.sale ok (W.sm _ hw2) nt,?_⟩
  ·unfold k6
   simp only [xSeq,xSet,xB,xCons,xNil,hav]
   simp only [frP] at e3 e4 hv e5 e6 hp1 e7 hp2 hget
   simp [sem,lQ,jU,fr0,m8,sz2,jT,e1,ew1,sz1,e2,ew2',hg,hv,e3,e4,at0,at1,fLt,hb',ol,e5,hg2,e6,hp1,hg3,hget,e7,hp2,hlw]
  ·intro n hn
   have h1:∀ n∈l1.map (·.1),n∈pp++hs:=fun n hn=>by
    rw [← hl1,kA,if_pos w1in] at hn
    exact hN n hn
   rw [hlw,kA] at hn
   split at hn
   ·exact h1 n hn
   ·rcases aX.mp hn with h | h
    ·exact h1 n h
    ·rw [aE.mp h];exact hw2
 ·refine ⟨xc,yc,e.held,l,some (.lst ((srt (tF l)).map .str)),some (.str w1),some (.str w2),some (.tup [.int (shr (jW l w1) q).1,.int (shr (jW l w1) q).2]),?_,hr.mono (by omega),hN⟩
  change kJ a [frP (jW l w1),frP q] _=.ok (frP (shr (jW l w1) q)) _ at e4
  have hb'':¬ (shr (jW l w1) q).2 < 10000000000000000000000000000:=hb
  unfold k6
  simp only [xSeq,xSet,xB,xCons,xNil,hav]
  simp only [frP] at e3 e4 hv
  simp [sem,lQ,jU,lc,fr0,m8,sz2,jT,e1,ew1,sz1,e2,ew2',hg,hv,e3,e4,at1,fLt,hb'']
theorem yt (a:Adr) (s:Sto) (p:Nat) (hp:p < s.nx) (hP:IsPurse s p) {pp hs:List Str} (W:Words pp hs) (post pr:List (Str×Hl)) (A B:List Ent) (e:Ent) (l:Hl) (x y:Int)
  (hln:(A++e::B).map (·.nm)=hs) (hnp:e.nm∉pr.map (·.1)) (hr:HR 0 e.held l) (hN:∀ n∈l.map (·.1),n∈pp++hs) (wd o6 o7 o8 o9 o10 o11 o12 o13 o14:Option PV) :
  ∃ x' y' hl' l' u7 u9 u10 u1 u2 u3 u4,j9 (yName 9) (lG a) (.str e.nm) (fr0 p s.nx wd pp hs++[o6,o7,o8,o9,o10,o11,o12,o13,o14]) (bst s p (post++(e.nm,l)::pr) pp (A++e::B) x y)
  =.nx (fr0 p s.nx wd pp hs++[o6,u7,o8,u9,u10,u1,u2,u3,u4]) (bst s p (post++(e.nm,l')::pr) pp (A++{ e with held:=hl' }::B) x' y')∧HR 5 hl' l'∧∀ n∈l'.map (·.1),n∈pp++hs:=by
 have hv:=xW (s.nx+3) e.nm l pr hnp post
 have hg:=uc s p (post++(e.nm,l)::pr) pp (A++e::B) x y
 obtain ⟨r,xa,ya,r0,r1,e1⟩:=nl a s p hp hP (post++(e.nm,l)::pr) pp (A++e::B) 6 (by decide) (by decide) x y
 obtain ⟨j,rfl⟩:∃ j:Nat,r=j:=⟨r.toNat,by omega⟩
 obtain ⟨e',s',h1,x',y',hl',l',u7,u1,u2,u3,u4,rfl,rfl,hR,hN'⟩:=pH (body:=j9 (yName 7) (k6 a)) j (fun k ρ t=>∃ x y hl l u7 u1 u2 u3 u4,t=bst s p (post++(e.nm,l)::pr) pp (A++{ e with held:=hl }::B) x y∧ρ=fr0 p s.nx wd pp hs++[o6,u7,o8,some (.str e.nm),some (.ref (s.nx+3+pr.length)),u1,u2,u3,u4]∧HR k hl l∧∀ n∈l.map (·.1),n∈pp++hs)
  (fun k ρ t hk hI=>by
   obtain ⟨x,y,hl,l,u7,u1,u2,u3,u4,rfl,rfl,hr,hN⟩:=hI
   obtain ⟨x',y',hl',l',v1,v2,v3,v4,h1,h2,h3⟩:=z0 a s p hp hP W post pr A B { e with held:=hl } l x y (c:=k) (by omega) (by rw [← hln];simp) hr hN wd o6 (some (.int k)) o8 u1 u2 u3 u4
   refine ⟨_,_,?_,x',y',hl',l',some (.int k),v1,v2,v3,v4,rfl,rfl,h2,h3⟩
   rw [← h1]
   rfl) (ρ:=fr0 p s.nx wd pp hs++[o6,o7,o8,some (.str e.nm),some (.ref (s.nx+3+pr.length)),o11,o12,o13,o14]) (s:=bst s p (post++(e.nm,l)::pr) pp (A++e::B) xa ya) ⟨xa,ya,e.held,l,o7,o11,o12,o13,o14,rfl,rfl,hr,hN⟩
 refine ⟨x',y',hl',l',u7,some (.str e.nm),some (.ref (s.nx+3+pr.length)),u1,u2,u3,u4,?_,hR.mono (by omega),hN'⟩
 simp only [fr0,cS,cv] at h1
 have hj:(j:Int) < 4611686018427387904:=by omega
 simp [sem,lQ,jU,lc,j9,lG,fr0,hg,hv,e1,h1,hj]
theorem yu (a:Adr) (s:Sto) (p:Nat) (hp:p < s.nx) (hP:IsPurse s p) {pp hs:List Str} (W:Words pp hs) (wd o6 o8:Option PV):∀ (B:List Ent) (M:List (Str×Hl)),Pairs (pp++hs) 0 B M→∀ (A:List Ent) (pr:List (Str×Hl)) (x y:Int) (o7 o9 o10 o11 o12 o13 o14:Option PV),Pairs (pp++hs) 5 A pr.reverse→(A++B).map (·.nm)=hs →
  ∃ x' y' R L u7 u9 u10 u1 u2 u3 u4,kM (j9 (yName 9) (lG a)) ((B.map (·.nm)).map .str) (fr0 p s.nx wd pp hs++[o6,o7,o8,o9,o10,o11,o12,o13,o14]) (bst s p (M.reverse++pr) pp (A++B) x y)
  =.nx (fr0 p s.nx wd pp hs++[o6,u7,o8,u9,u10,u1,u2,u3,u4]) (bst s p R pp L x' y')∧Pairs (pp++hs) 5 L R.reverse∧L.map (·.nm)=hs:=by
 intro B M hB
 induction hB with
 | nil =>
  intro A pr x y o7 o9 o10 o11 o12 o13 o14 hA hn
  refine ⟨x,y,pr,A,o7,o9,o10,o11,o12,o13,o14,?_,hA,by simpa using hn⟩
  ·simp [kM]
 | @cons e m B M h1 h2 h3 h4 _ ih =>
  intro A pr x y o7 o9 o10 o11 o12 o13 o14 hA hn
  obtain ⟨h,l⟩:=m
  simp only at h1 h2 h3
  subst h1
  have hnp:e.nm∉pr.map (·.1):=by
   intro z
   have z2:e.nm∈A.map (·.nm):=by
    rw [hA.names]
    obtain ⟨m,hm,e⟩:=aj.mp z
    exact aj.mpr ⟨m,by simpa using hm,e⟩
   have nd:((A++e::B).map (·.nm)).Nodup:=by rw [hn];exact (bz.mp W.nd).2.1
   rw [aD,au] at nd
   exact (bz.mp nd).2.2 _ z2 _ ap rfl
  obtain ⟨xa,ya,hl',l',u7,u9,u10,u1,u2,u3,u4,g1,g2,g3⟩:=yt a s p hp hP W M.reverse pr A B e l x y hn hnp h2 h3 wd o6 o7 o8 o9 o10 o11 o12 o13 o14
  obtain ⟨xb,yb,R,L,v7,v9,v10,v1,v2,v3,v4,k1,k2,k3⟩:=ih (A++[{ e with held:=hl' }]) ((e.nm,l')::pr) xa ya u7 u9 u10 u1 u2 u3 u4 (by
   rw [de]
   exact hA.app (.cons rfl g2 g3 h4 .nil)) (by rw [← hn];simp)
  refine ⟨xb,yb,R,L,v7,v9,v10,v1,v2,v3,v4,?_,k2,k3⟩
  have er:((e.nm,l)::M).reverse++pr=M.reverse++(e.nm,l)::pr:=by simp
  have ea:A++{ e with held:=hl' }::B=(A++[{ e with held:=hl' }])++B:=by simp
  rw [er,au,au]
  unfold kM
  rw [g1]
  simp only
  rw [ea]
  exact k1
theorem j6 {f g:XS}{ρ ρ':En}{s s':Sto} (h:f ρ s=.nx ρ' s'):xSeq f g ρ s=g ρ' s':=by unfold xSeq;rw [h]
theorem oR {N:Nat}{g:XS}{vs:List PV}{s s':Sto}{v:PV} (h:g (vs.map some++aW (N - vs.length) none) s=.rt v s'):fnD N g vs s=.ok v s':=by unfold fnD;rw [h]
theorem p62:(2:Int) ^ 62=4611686018427387904:=by decide
theorem lo62 (n:Nat):-(2 ^ 62)≤(n:Int):=by
 rw [p62]
 have:(-4611686018427387904:Int)≤n:=by omega
 exact this
theorem hi62 {n:Nat} (hn:n < 1000000):(n:Int) < 2 ^ 62:=by
 rw [p62]
 have:(n:Int) < 4611686018427387904:=by omega
 exact this
theorem BZ {α β:Type} (v:α) (s:Sto) (f:α→Sto→Out β):(Out.ok v s).bind f=f v s:=rfl
theorem C2 {fa:XA}{ρ:En}{s s1:Sto}{j:Int} (h:fa ρ s=.ok [.int j] s1):xRng1 fa ρ s=if -(2 ^ 62)≤j∧j < 2 ^ 62 then Out.ok (qk 0 j.toNat) s1 else Out.bad:=by
 unfold xRng1
 rw [h,BZ]
theorem zk {fa:XA}{ρ:En}{s s1:Sto}{n:Nat} (h:fa ρ s=.ok [.int n] s1) (hn:n < 1000000):xRng1 fa ρ s=.ok (qk 0 n) s1:=by
 rw [C2 h,if_pos ⟨lo62 n,hi62 hn⟩,Int.toNat_natCast]
theorem nN {fi:XA}{y:XG}{body:XS}{ρ ρ':En}{s s1 s':Sto}{l:List PV} (h1:fi ρ s=.ok l s1) (h2:kM (j9 y body) l ρ s1=.nx ρ' s'):xFor fi y body ρ s=.nx ρ' s':=by
 unfold xFor
 rw [h1]
 simp only [Out.so]
 rw [h2]
 rfl
theorem wX {ws:List Str}{fst:Int} (hl:ws.length=14) (hW:∀ j w,ws[j]?=some w→Wd fst j w):ws.Nodup:=by
 rw [List.nodup_iff_pairwise_ne,List.pairwise_iff_getElem]
 intro i j hi hj hij e
 have h1:=(hW i _ (bu hi)).2.2
 have h2:=(hW j _ (bu hj)).2.2
 rw [e,h2] at h1
 have:=aU h1
 omega
theorem AK {ws:List Str}{fst:Int} (hl:ws.length=14) (hW:∀ j w,ws[j]?=some w→Wd fst j w) {P Q:Nat} (p1:1≤P) (p6:P≤6) (q8:Q≤8):Words (ws.take P) ((ws.drop 6).take Q):=by
 have sub:(ws.take P++(ws.drop 6).take Q).Sublist ws:=by
  conv=>rhs;rw [← gd 6 ws]
  refine List.Sublist.append ?_ (dW _ _)
  have:ws.take P=(ws.take 6).take P:=by rw [List.take_take,Nat.min_eq_left p6]
  rw [this]
  exact dW _ _
 have all:∀ w∈ws.take P++(ws.drop 6).take Q,Sm w∧qz w=true:=fun w hw=>by
  obtain ⟨j,hj⟩:=List.getElem?_of_mem (sub.subset hw)
  exact ⟨(hW j w hj).1,(hW j w hj).2.1⟩
 refine ⟨(wX hl hW).sublist sub,fun w hw=>(all w hw).1,fun w hw=>(all w hw).2,?_,?_,?_⟩
 ·rw [bP];omega
 ·rw [bP];omega
 ·rw [bP,fN];omega
theorem D6 (ws:List PV) (hl:ws.length=14) (k:Nat) (hk:k≤8):uI ws (some 6) (some (6+(k:Int)))=(ws.drop 6).take k:=by
 unfold uI
 simp [HT.sIx,hl]
 have h:¬ (6+(k:Int) < 0):=by omega
 rw [if_neg h]
 omega
def kst (s:Sto) (p n:Nat) (pp:List Str) (L:List Ent) (x y:Int):Sto:=stk n [(s.nx+1,.book pp L)] s p x y
theorem DN (s:Sto) (p:Nat) (R:List (Str×Hl)) (pp:List Str) (L:List Ent) (x y:Int):EE (.ref (s.nx+2)) (bst s p R pp L x y)=.ok (.dct (kS R.reverse)) (kst s p (s.nx+3+R.length) pp L x y):=by
 have ed:(bst s p R pp L x y).del (s.nx+2)=⟨s.nx+3+R.length,[]++(lu (s.nx+3) R++([(s.nx+1,.book pp L)]++(pst s p x y).cs))⟩:=by
  unfold bst stk Sto.del uL
  simp only [cv]
  rw [bI,xY (pJ R (by omega)),cS,vE,if_pos rfl]
 unfold EE frz1
 simp only [uc]
 rw [ed,xQ (s.nx+3) (s.nx+3+R.length) R [] _ (fun q hq=>by cases hq)]
 rfl
theorem BX (a:Adr) (s:Sto) (p:Nat) (hp:p < s.nx) (hP:IsPurse s p):∃ n pp hs L M x y,s.nx+1 < n∧Words pp hs∧Pairs (pp++hs) 5 L M∧L.map (·.nm)=hs ∧
  mP a [.ref p] s=.ok (.lst [.ref (s.nx+1),.lst ((srt pp).map .str),.dct (kS M)]) (kst s p n pp L x y):=by
 obtain ⟨x,y,ws,fst,hl,f0,hW,e0⟩:=Bv a s p hp hP
 have hne:∀ q∈[(s.nx+1,Cell.book [] [])],q.1≠p:=fun q hq=>by cases aE.mp hq;exact fun z=>by simp only at z;omega
 obtain ⟨r1,xa,ya,r10,r11,e1⟩:=pF a (nx:=s.nx+2) (pre:=[(s.nx+1,.book [] [])]) hP hne 8 (by decide) (by decide) x y
 obtain ⟨P,hPm,eP⟩:=at8 [2,3,1,4,6,2,3,5] rfl r10 r11
 obtain ⟨r2,xb,yb,r20,r21,e2⟩:=pF a (nx:=s.nx+2) (pre:=[(s.nx+1,.book [] [])]) hP hne 8 (by decide) (by decide) xa ya
 obtain ⟨Q,hQm,eQ⟩:=at8 [3,4,2,5,6,1,8,0] rfl r20 r21
 obtain ⟨i,rfl⟩:∃ i:Nat,P=i:=⟨P.toNat,by simp at hPm;omega⟩
 obtain ⟨j,rfl⟩:∃ j:Nat,Q=j:=⟨Q.toNat,by simp at hQm;omega⟩
 have i1:1≤i∧i≤6:=by simp at hPm;omega
 have j1:j≤8:=by simp at hQm;omega
 have W:=AK hl hW i1.1 i1.2 j1
 have c1:uI (ws.map PV.str) none (some (i:Int))=(ws.take i).map PV.str:=by rw [x4 _ _ (by simp;omega),fE]
 have c2:uI (ws.map PV.str) (some 6) (some (6+(j:Int)))=((ws.drop 6).take j).map PV.str:=by rw [D6 _ (by simp [hl]) _ j1,fE,List.map_drop]
 generalize ws.take i=pp at *
 generalize (ws.drop 6).take j=hs at *
 have h0:∀ x y,(stk (s.nx+2) [(s.nx+1,.book [] [])] s p x y).add (.dct [])=bst s p [] [] [] x y:=fun _ _=>rfl
 have n1:∀ x y,(Sto.bump (pst s p x y)).nx=s.nx+1:=fun _ _=>rfl
 have n2:∀ x y,(stk (s.nx+2) [(s.nx+1,.book [] [])] s p x y).nx=s.nx+2:=fun _ _=>rfl
 have h00:∀ x y,(Sto.bump (pst s p x y)).add (.book [] [])=stk (s.nx+2) [(s.nx+1,.book [] [])] s p x y:=fun _ _=>rfl
 obtain ⟨o6,l1⟩:=wa a s p xb yb W (some (.lst (ws.map .str))) none none none none none none none none none
 obtain ⟨xc,yc,R,L,o7,o8,hH,l2⟩:=xj a s p hp hP xb yb W (some (.lst (ws.map .str))) o6 none none none none none none none none
 have hln:L.map (·.nm)=hs:=by have:=hH.ln;rwa [cD] at this
 obtain ⟨xd,yd,R',L',u7,u9,u10,u1,u2,u3,u4,l3,hPr,hn⟩:=yu a s p hp hP W (some (.lst (ws.map .str))) o6 o8 L R.reverse hH.pr [] [] xc yc o7 none none none none none none .nil (by simpa using hln)
 rw [List.reverse_reverse,bZ,cv,hln] at l3
 refine ⟨s.nx+3+R'.length,pp,hs,L',R'.reverse,xd,yd,by omega,W,hPr,hn,?_⟩
 have fz:=DN s p R' pp L' xd yd
 simp only [fr0,cS,cv] at l1 l2 l3
 have hpl:pp.length < 64:=by have:=W.p6;omega
 simp at eP eQ
 have hgo:oA a [some (.ref p),none,none,none,none,none,none,none,none,none,none,none,none,none,none] s=.rt (.lst [.ref (s.nx+1),.lst ((srt pp).map .str),.dct (kS R'.reverse)]) (kst s p (s.nx+3+R'.length) pp L' xd yd):=by
  unfold oA
  rw [j6 (ρ':=[some (.ref p),some (.lst (ws.map .str)),none,none,none,none,none,none,none,none,none,none,none,none,none]) (s':=Sto.bump (pst s p x y)) (by simp [sem,lQ,jU,lc,e0])]
  rw [j6 (ρ':=[some (.ref p),some (.lst (ws.map .str)),some (.ref (s.nx+1)),none,none,none,none,none,none,none,none,none,none,none,none]) (s':=stk (s.nx+2) [(s.nx+1,.book [] [])] s p x y) (by simp [sem,lQ,jU,lc,n1,h00])]
  rw [j6 (ρ':=[some (.ref p),some (.lst (ws.map .str)),some (.ref (s.nx+1)),some (.lst (pp.map .str)),none,none,none,none,none,none,none,none,none,none,none]) (s':=stk (s.nx+2) [(s.nx+1,.book [] [])] s p xa ya) (by simp [sem,lQ,jU,lc,e1,eP,c1])]
  rw [j6 (ρ':=[some (.ref p),some (.lst (ws.map .str)),some (.ref (s.nx+1)),some (.lst (pp.map .str)),some (.lst (hs.map .str)),none,none,none,none,none,none,none,none,none,none]) (s':=stk (s.nx+2) [(s.nx+1,.book [] [])] s p xb yb) (by simp [sem,lQ,jU,lc,e2,eQ,c2])]
  rw [j6 (ρ':=[some (.ref p),some (.lst (ws.map .str)),some (.ref (s.nx+1)),some (.lst (pp.map .str)),some (.lst (hs.map .str)),some (.ref (s.nx+2)),none,none,none,none,none,none,none,none,none]) (s':=bst s p [] [] [] xb yb) (by simp [sem,lQ,jU,lc,n2,h0])]
  rw [j6 (nN (l:=pp.map .str) (s1:=bst s p [] [] [] xb yb) (by simp [sem,lQ,jU,lc]) l1)]
  rw [j6 (nN (l:=qk 0 hs.length) (s1:=bst s p [] pp [] xb yb) (zk (n:=hs.length) (by simp [sem,lQ,jU,lc]) (by have:=W.h8;omega)) l2)]
  rw [j6 (nN (l:=hs.map .str) (s1:=bst s p R pp L xc yc) (by simp [sem,lQ,jU,lc]) l3)]
  simp [sem,lQ,jU,lc,m8,hpl,CH,fz]
 exact oR hgo
section
variable {P:aT}{w:bv}{K:aa}{mg:Str→Option ah}{base:bM}{a:Adr}{f:ae}{fd:bR}
abbrev mU:bT:=top 24
theorem sc_rows_of:FnScope ["book","houses","rows","house"] ["book"] (jO mU):=fsc
def nB (a:Adr) :XS:=(xSet 2 (x2 (xVar 2) (sA (xIter (xBM 2 (nq a) (xVar 0) (xCons (xVar 3) xNil))) [3] nZ (xTup (xCons (xC (.str "share")) (xCons (xVar 2) (xCons (xVar 0) (xCons (xVar 1) xNil)))))) fAdd))
def vA (a:Adr):XS:=(xSeq (xSet 1 (xBM 1 (pN a) (xVar 0) xNil)) (xSeq (xSet 2 (l4 (xIter (xBM 1 (m7 a) (xVar 0) xNil)) [] nZ (xTup (xCons (xC (.str "person")) (xCons (xVar 0) xNil))))) (xSeq (xSet 2 (x2 (xVar 2) (l4 (xIter (xVar 1)) [0] nZ (x2 (xTup (xCons (xC (.str "house")) (xCons (xVar 0) xNil))) (xBM 2 (AI a) (xVar 1) (xCons (xVar 0) xNil)) uU)) fAdd)) (xSeq (xFor (xIter (xVar 1)) (yName 3) (nB a)) (xRet (xVar 2))))))
def pU (a:Adr):XF:=(fnD 4 (vA a))
theorem yz (F:Fun K "rows_of" "rows_of" mU f fd) (T:Txt K mg a) (M_houses:Mt P w K mg base a.Book "houses" 1 ["self"] (spD K a.Book 1 (pN a))) (M_persons:Mt P w K mg base a.Book "persons" 1 ["self"] (spD K a.Book 1 (m7 a))) (M_of:Mt P w K mg base a.Book "of" 3 ["self","house"] (spD K a.Book 2 (AI a))) (M_shares:Mt P w K mg base a.Book "shares" 3 ["self","house"] (spD K a.Book 2 (nq a))):FnOk P w K mg base (CXo P w) 4 f fd ["book"] (spD K a.Book 1 (pU a)) :=
 ni F sc_rows_of rfl fun cdv A outer s H E hr=>(jP (j4 1 sc_rows_of.nd rfl (ba rfl) (y9 (jI 0) M_houses Ag (hr.mono (by decide)) ka)) (jP (tI (fr:=[]) (ix:=[]) (i:=2) sc_rows_of.nd rfl rfl rfl (by exact (show CompOk ["book","houses","rows","house"] (jO mU) _ _ _ _ from cok)) (nA (y9 (jI 0) M_persons yC (hr.mono (by decide)) ka)) (fun _ _ _ _ _=>lT) (fun _ _ _ _ _=>(qF (jH kY (jH (jI 0) jN))))) (jP (j4 2 sc_rows_of.nd rfl (ba rfl) (kI (jI 2) (rh (fr:=["book"]) (ix:=[0]) rfl (by exact (show CompOk ["book","houses","rows","house"] (jO mU) _ _ _ _ from cok)) (nA (jI 1)) (fun _ _ _ _ _=>lT) (fun _ _ _ _ _=>(D5 (qF (jH kY (jH (jI 0) jN))) (sw (jI 1) M_of no_of (hr.mono (by decide)) j8 (jH (jI 0) jN))))))) (jP (me rfl (nA (jI 1)) (ke 3 sc_rows_of.nd rfl (fL rfl)) (jX (j4 2 sc_rows_of.nd rfl (ba rfl) (kI (jI 2) (BP (fr:=["house"]) (ix:=[3]) rfl (by exact (show CompOkG ["book","houses","rows","house"] (jO mU) _ _ _ _ from ⟨rfl,by decide +kernel,by decide +kernel,by decide +kernel,by decide +kernel,by decide +kernel,by decide +kernel,rfl⟩)) rfl rfl (nA (sw (jI 0) M_shares Af (hr.mono (by decide)) j8 (jH (jI 3) jN))) (fun _ _ _ _ _=>lT) (fun _ _ _ _ _=>(qF (jH kY (jH (jI 2) (jH (jI 0) (jH (jI 1) jN))))))))))) (jX (kE (jI 2)))))))
abbrev nC:bT:=top 25
theorem sc_shown_share:FnScope ["share","top","bottom"] ["share"] (jO nC):=fsc
def qc (a:Adr):XS:=(xSeq (xSet 1 (x2 (xVar 0) (xC (.int 0)) fIx)) (xSeq (xSet 2 (x2 (xVar 0) (xC (.int 1)) fIx)) (xRet (xIfe (xTr (x2 (xVar 2) (xC (.int 1)) fEq)) (xB (xCons (xVar 1) xNil) oa) (Ee (xVar 1) "/" (xVar 2))))))
def mi (a:Adr):XF:=(fnD 3 (qc a))
theorem sO (F:Fun K "shown_share" "shown_share" nC f fd) (T:Txt K mg a):FnOk P w K mg base (CXo P w) 1 f fd ["share"] (spD K a.Book 1 (mi a)) :=
 ni F sc_shown_share rfl fun cdv A outer s H E hr=>(jP (j4 1 sc_shown_share.nd rfl (ba rfl) (j5 (jV hr) (jI 0) jL (fun _ _=>rfl))) (jP (j4 2 sc_shown_share.nd rfl (ba rfl) (j5 (jV hr) (jI 0) jL (fun _ _=>rfl))) (jX (kE (FM (qQ (D8 (zA hr)) (jI 2) jL (k9 _)) (mn b_str rfl T.b_str qG (jH (jI 1) jN)) (FO (jI 1) (jI 2)))))))
abbrev nv:bT:=top 26
theorem vU:FnScope ["row"] ["row"] (jO nv):=fsc
def rX (a:Adr):XS:=(xSeq (xIf (xTr (x2 (x2 (xVar 0) (xC (.int 0)) fIx) (xC (.str "share")) fEq)) (xRet (xJoin (xC (.str " ")) (xCons (xLst (xCons (x2 (xVar 0) (xC (.int 0)) fIx) (xCons (x2 (xVar 0) (xC (.int 1)) fIx) (xCons (x2 (xVar 0) (xC (.int 2)) fIx) (xCons (xCall 1 (mi a) (xCons (x2 (xVar 0) (xC (.int 3)) fIx) xNil)) xNil))))) xNil))) xEnd) (xRet (xJoin (xC (.str " ")) (xCons (l4 (xIter (xVar 0)) [] nZ (xB (xCons (xVar 0) xNil) oa)) xNil))))
def ms (a:Adr):XF:=(fnD 1 (rX a))
theorem wb (F:Fun K "shown_row" "shown_row" nv f fd) (T:Txt K mg a) (F_shown_share:Fn P w K mg base "shown_share" 1 ["share"] (spD K a.Book 1 (mi a))):FnOk P w K mg base (CXo P w) 2 f fd ["row"] (spD K a.Book 1 (ms a)) :=
 ni F vU rfl fun cdv A outer s H E hr=>(jP (uV (qQ (D8 (zA hr)) (j5 (jV hr) (jI 0) jL (fun _ _=>rfl)) kY (k9 _)) (jX (kE (nU kY (jH (mZ (jH (j5 (jV hr) (jI 0) jL (fun _ _=>rfl)) (jH (j5 (jV hr) (jI 0) jL (fun _ _=>rfl)) (jH (j5 (jV hr) (jI 0) jL (fun _ _=>rfl)) (jH (kl F_shown_share (hr.mono (by decide)) rfl ka (jH (j5 (jV hr) (jI 0) jL (fun _ _=>rfl)) jN)) jN))))) jN)))) oM) (jX (kE (nU kY (jH (rh (fr:=[]) (ix:=[]) rfl (by exact (show CompOk ["row"] (jO nv) _ _ _ _ from cok)) (nA (jI 0)) (fun _ _ _ _ _=>lT) (fun _ _ _ _ _=>(mn b_str rfl T.b_str qG (jH (jI 0) jN)))) jN)))))
abbrev sX:bT:=top 27
theorem AZ:FnScope ["book"] ["book"] (jO sX):=fsc
def zB (a:Adr):XS:=(xRet (xJoin (xC (.str "\n")) (xCons (l4 (xIter (xCall 1 (pU a) (xCons (xVar 0) xNil))) [] nZ (xCall 1 (ms a) (xCons (xVar 0) xNil))) xNil)))
def nW (a:Adr):XF:=(fnD 1 (zB a))
theorem Bn (F:Fun K "shown" "shown" sX f fd) (T:Txt K mg a) (F_shown_row:Fn P w K mg base "shown_row" 2 ["row"] (spD K a.Book 1 (ms a))) (F_rows_of:Fn P w K mg base "rows_of" 4 ["book"] (spD K a.Book 1 (pU a))):FnOk P w K mg base (CXo P w) 5 f fd ["book"] (spD K a.Book 1 (nW a)) :=
 ni F AZ rfl fun cdv A outer s H E hr=>(jX (kE (nU kY (jH (rh (fr:=[]) (ix:=[]) rfl (by exact (show CompOk ["book"] (jO sX) _ _ _ _ from cok)) (nA (kl F_rows_of (hr.mono (by decide)) rfl ka (jH (jI 0) jN))) (fun _ _ _ _ _=>lT) (fun _ _ _ _ _=>(kl F_shown_row (hr.mono (by decide)) rfl j8 (jH (jI 0) jN)))) jN))))
abbrev mv:bT:=top 39
theorem sc__law_numbered:FnScope ["_law_purse_here","_law_book","_law_people","_law_entries","_law_numbers","_law_house","_law_most","_law_found"] ["_law_purse_here"] (jO mv):=fsc
def ki (a:Adr) :XS:=(xSeq (xSet 6 (x2 (xLst (xCons (xC (.int 10)) (xCons (xC (.int 1000)) (xCons (x2 (xC (.int 10)) (xC (.int 12)) fPow) (xCons (x2 (xC (.int 10)) (xC (.int 20)) fPow) xNil))))) (xCall 2 (jQ a) (xCons (xVar 0) (xCons (xC (.int 4)) xNil))) fIx)) (xSeq (xSet 7 (xLst (xCons (x2 (xCall 2 (jQ a) (xCons (xVar 0) (xCons (x2 (xC (.int 2)) (xVar 6) fMul) xNil))) (xVar 6) fSub) (xCons (x2 (xCall 2 (jQ a) (xCons (xVar 0) (xCons (x2 (xC (.int 2)) (xVar 6) fMul) xNil))) (xVar 6) fSub) (xCons (xCall 2 (jQ a) (xCons (xVar 0) (xCons (xVar 6) xNil))) xNil))))) (xSeq (xDo (xBM 3 (ue a) (xVar 1) (xCons (xVar 5) (xCons (x2 (xVar 7) (xC (.int 0)) fIx) xNil)))) (xSeq (xDo (xBM 3 (za a) (xVar 1) (xCons (xVar 5) (xCons (x2 (xVar 7) (xC (.int 1)) fIx) xNil)))) (xSeq (xDo (xBM 3 (zc a) (xVar 1) (xCons (xVar 5) (xCons (x2 (xVar 7) (xC (.int 2)) fIx) xNil)))) (xPut (xVar 4) (xVar 5) (xVar 7)))))))
def oE (a:Adr):XS:=(xSeq (xAsg (xCall 1 (mP a) (xCons (xVar 0) xNil)) (yTup 3 (yCons (yName 1) (yCons (yName 2) (yCons (yName 3) yNil))))) (xSeq (xSet 4 xNewD) (xSeq (xFor (xIterD (xVar 3)) (yName 5) (ki a)) (xRet (xLst (xCons (xVar 1) (xCons (xVar 2) (xCons (xVar 3) (xCons (xFrz (xVar 4)) xNil)))))))))
def lh (a:Adr):XF:=(fnD 8 (oE a))
theorem rb (F:Fun K "_law_numbered" "_law_numbered" mv f fd) (T:Txt K mg a) (F__law_built:Fn P w K mg base "_law_built" 5 ["_law_purse_here"] (spD K a.Book 1 (mP a))) (M_things:Mt P w K mg base a.Book "things" 3 ["self","house","number"] (spD K a.Book 3 (ue a))) (M_mark:Mt P w K mg base a.Book "mark" 3 ["self","house","number"] (spD K a.Book 3 (za a))) (M_loss:Mt P w K mg base a.Book "loss" 3 ["self","house","number"] (spD K a.Book 3 (zc a))) (F__law_take:Fn P w K mg base "_law_take" 1 ["_law_purse_here","_law_many"] (spD K a.Book 2 (jQ a))):FnOk P w K mg base (CXo P w) 6 f fd ["_law_purse_here"] (spD K a.Book 1 (lh a)) :=
 ni F sc__law_numbered rfl fun cdv A outer s H E hr=>(jP (CD (kl F__law_built (hr.mono (by decide)) rfl ka (jH (jI 0) jN)) (y4 rfl (lU (ke 1 sc__law_numbered.nd rfl (ba rfl)) (lU (ke 2 sc__law_numbered.nd rfl (ba rfl)) (lU (ke 3 sc__law_numbered.nd rfl (ba rfl)) wD))))) (jP (j4 4 sc__law_numbered.nd rfl (ba rfl) zF) (jP (me rfl (DR (jI 3)) (ke 5 sc__law_numbered.nd rfl (ba rfl)) (jP (j4 6 sc__law_numbered.nd rfl (ba rfl) (j5 (jV hr) (mZ (jH jL (jH jL (jH (sH jL jL) (jH (sH jL jL) jN))))) (kl F__law_take (hr.mono (by decide)) rfl j8 (jH (jI 0) (jH jL jN))) (fun _ _=>rfl))) (jP (j4 7 sc__law_numbered.nd rfl (ba rfl) (mZ (jH (uH (kl F__law_take (hr.mono (by decide)) rfl j8 (jH (jI 0) (jH (mY jL (jI 6)) jN))) (jI 6)) (jH (uH (kl F__law_take (hr.mono (by decide)) rfl j8 (jH (jI 0) (jH (mY jL (jI 6)) jN))) (jI 6)) (jH (kl F__law_take (hr.mono (by decide)) rfl j8 (jH (jI 0) (jH (jI 6) jN))) jN))))) (jP (qR (sw (jI 1) M_things Ae (hr.mono (by decide)) j8 (jH (jI 5) (jH (j5 (jV hr) (jI 7) jL (fun _ _=>rfl)) jN)))) (jP (qR (sw (jI 1) M_mark Dt (hr.mono (by decide)) j8 (jH (jI 5) (jH (j5 (jV hr) (jI 7) jL (fun _ _=>rfl)) jN)))) (jP (qR (sw (jI 1) M_loss Du (hr.mono (by decide)) j8 (jH (jI 5) (jH (j5 (jV hr) (jI 7) jL (fun _ _=>rfl)) jN)))) (jX (uG (jV hr) (jI 4) (jI 5) (jI 7))))))))) (jX (kE (mZ (jH (jI 1) (jH (jI 2) (jH (jI 3) (jH (y7 (jI 4)) jN))))))))))
abbrev mw:bT:=top 40
theorem qZ:FnScope ["_law_share"] ["_law_share"] (jO mw):=fsc
def oF (a:Adr):XS:=(xSeq (xIf (xTr (x2 (x2 (xVar 0) (xC (.int 1)) fIx) (xC (.int 1)) fEq)) (xRet (xB (xCons (x2 (xVar 0) (xC (.int 0)) fIx) xNil) oa)) xEnd) (xRet (x2 (x2 (xB (xCons (x2 (xVar 0) (xC (.int 0)) fIx) xNil) oa) (xC (.str "/")) fAdd) (xB (xCons (x2 (xVar 0) (xC (.int 1)) fIx) xNil) oa) fAdd)))
def li (a:Adr):XF:=(fnD 1 (oF a))
theorem rc (F:Fun K "_law_fraction" "_law_fraction" mw f fd) (T:Txt K mg a):FnOk P w K mg base (CXo P w) 1 f fd ["_law_share"] (spD K a.Book 1 (li a)) :=
 ni F qZ rfl fun cdv A outer s H E hr=>(jP (uV (qQ (D8 (zA hr)) (j5 (jV hr) (jI 0) jL (fun _ _=>rfl)) jL (k9 _)) (jX (kE (mn b_str rfl T.b_str qG (jH (j5 (jV hr) (jI 0) jL (fun _ _=>rfl)) jN)))) oM) (jX (kE (kI (kI (mn b_str rfl T.b_str qG (jH (j5 (jV hr) (jI 0) jL (fun _ _=>rfl)) jN)) kY) (mn b_str rfl T.b_str qG (jH (j5 (jV hr) (jI 0) jL (fun _ _=>rfl)) jN))))))
abbrev lJ:bT:=top 41
theorem sc__law_lines:FnScope ["_law_people","_law_entries","_law_numbers","_law_lines_here","_law_house","_law_row","_law_held","_law_name"] ["_law_people","_law_entries","_law_numbers"] (jO lJ):=fsc
def lF (a:Adr) :XS:=(xSeq (xSet 5 (l4 (xIter (x2 (xVar 2) (xVar 4) fIx)) [] nZ (xB (xCons (xVar 0) xNil) oa))) (xDo (xAppend (xVar 3) (xCons (xJoin (xC (.str " ")) (xCons (x2 (xLst (xCons (xC (.str "house")) (xCons (xVar 4) xNil))) (xVar 5) fAdd) xNil)) xNil))))
def kg (a:Adr) :XS:=(xIf (xTr (x2 (x2 (x2 (xVar 6) (xVar 7) fIx) (xC (.int 0)) fIx) (xC (.int 0)) fGt)) (xSeq (xSet 5 (xLst (xCons (xC (.str "share")) (xCons (xVar 4) (xCons (xVar 7) (xCons (xCall 1 (li a) (xCons (x2 (xVar 6) (xVar 7) fIx) xNil)) xNil)))))) (xDo (xAppend (xVar 3) (xCons (xJoin (xC (.str " ")) (xCons (xVar 5) xNil)) xNil)))) xEnd)
def lE (a:Adr) :XS:=(xSeq (xSet 6 (x2 (xVar 1) (xVar 4) fIx)) (xFor (xIter (xB (xCons (xVar 6) xNil) jU)) (yName 7) (kg a)))
def qC (a:Adr):XS:=(xSeq (xSet 3 (sx (xIter (xVar 0)) [] nZ (x2 (xC (.str "person ")) (xVar 0) fAdd))) (xSeq (xFor (xIter (xB (xCons (xVar 1) xNil) jU)) (yName 4) (lF a)) (xSeq (xFor (xIter (xB (xCons (xVar 1) xNil) jU)) (yName 4) (lE a)) (xRet (xFrz (xVar 3))))))
def mO (a:Adr):XF:=(fnD 8 (qC a))
theorem uz (F:Fun K "_law_lines" "_law_lines" lJ f fd) (T:Txt K mg a) (F__law_fraction:Fn P w K mg base "_law_fraction" 1 ["_law_share"] (spD K a.Book 1 (li a))):FnOk P w K mg base (CXo P w) 2 f fd ["_law_people","_law_entries","_law_numbers"] (spD K a.Book 3 (mO a)) :=
 ni F sc__law_lines rfl fun cdv A outer s H E hr=>(jP (xk (fr:=[]) (ix:=[]) (i:=3) sc__law_lines.nd rfl rfl rfl (by exact (show CompOk ["_law_people","_law_entries","_law_numbers","_law_lines_here","_law_house","_law_row","_law_held","_law_name"] (jO lJ) _ _ _ _ from cok)) (nA (jI 0)) (fun _ _ _ _ _=>lT) (fun _ _ _ _ _=>(kI kY (jI 0)))) (jP (me rfl (nA (kU (b_sorted rfl) rfl T.b_sorted lA (jH (jI 1) jN))) (ke 4 sc__law_lines.nd rfl (ba rfl)) (jP (tI (fr:=[]) (ix:=[]) (i:=5) sc__law_lines.nd rfl rfl rfl (by exact (show CompOk ["_law_people","_law_entries","_law_numbers","_law_lines_here","_law_house","_law_row","_law_held","_law_name"] (jO lJ) _ _ _ _ from cok)) (nA (j5 (jV hr) (jI 2) (jI 4) (fun _ _=>rfl))) (fun _ _ _ _ _=>lT) (fun _ _ _ _ _=>(mn b_str rfl T.b_str qG (jH (jI 0) jN)))) (jX (qR (rM (jI 3) (jH (nU kY (jH (kI (mZ (jH kY (jH (jI 4) jN))) (jI 5)) jN)) jN)))))) (jP (me rfl (nA (kU (b_sorted rfl) rfl T.b_sorted lA (jH (jI 1) jN))) (ke 4 sc__law_lines.nd rfl (ba rfl)) (jP (j4 6 sc__law_lines.nd rfl (ba rfl) (j5 (jV hr) (jI 1) (jI 4) (fun _ _=>rfl))) (jX (me rfl (nA (kU (b_sorted rfl) rfl T.b_sorted lA (jH (jI 6) jN))) (ke 7 sc__law_lines.nd rfl (ba rfl)) (jX (uV (qQ c_gt (j5 (jV hr) (j5 (jV hr) (jI 6) (jI 7) (fun _ _=>rfl)) jL (fun _ _=>rfl)) jL (k9 _)) (jP (j4 5 sc__law_lines.nd rfl (ba rfl) (mZ (jH kY (jH (jI 4) (jH (jI 7) (jH (kl F__law_fraction (hr.mono (by decide)) rfl j8 (jH (j5 (jV hr) (jI 6) (jI 7) (fun _ _=>rfl)) jN)) jN)))))) (jX (qR (rM (jI 3) (jH (nU kY (jH (jI 5) jN)) jN))))) oM)))))) (jX (kE (y7 (jI 3)))))))
abbrev uQ:bT:=top 42
theorem sc_law:FnScope ["_law_script","_law_book","_law_people","_law_entries","_law_numbers","_law_due","_law_one","_law_k","_law_found","_law_other","_law_name"] ["_law_script"] (jO uQ):=fsc
def wF (a:Adr) :XS:=(xSeq (xSet 8 (xCall 1 (nW a) (xCons (xVar 6) xNil))) (xIf (xOr (xNot (xTr (xIsiT .str (xVar 8)))) (xTr (x2 (xVar 8) (xVar 5) fNe))) (xRet (xC (.bl false))) xEnd))
def qg (a:Adr) :XS:=(xFor (xRng1 (xCons (xC (.int 2)) xNil)) (yName 7) (wF a))
def tQ (a:Adr) :XS:=(xDo (xBM 2 (lW a) (xVar 9) (xCons (xVar 10) xNil)))
def ED (a:Adr):XS:=(xSeq (xAsg (xCall 1 (lh a) (xCons (xCall 1 (la a) (xCons (xVar 0) xNil)) xNil)) (yTup 4 (yCons (yName 1) (yCons (yName 2) (yCons (yName 3) (yCons (yName 4) yNil)))))) (xSeq (xSet 5 (xJoin (xC (.str "\n")) (xCons (xCall 3 (mO a) (xCons (xVar 2) (xCons (xVar 3) (xCons (xVar 4) xNil)))) xNil))) (xSeq (xFor (xIter (xLst (xCons (xVar 1) (xCons (xBM 1 (uM a) (xVar 1) xNil) xNil)))) (yName 6) (qg a)) (xSeq (xSet 9 xBook) (xSeq (xIf (xTr (x2 (xCall 1 (nW a) (xCons (xVar 9) xNil)) (xC (.str "")) fNe)) (xRet (xC (.bl false))) xEnd) (xSeq (xFor (xIter (FU (xVar 2))) (yName 10) (tQ a)) (xRet (x2 (xCall 1 (nW a) (xCons (xVar 9) xNil)) (xJoin (xC (.str "\n")) (xCons (l4 (xIter (xVar 2)) [] nZ (x2 (xC (.str "person ")) (xVar 0) fAdd)) xNil)) fEq))))))))
def wW (a:Adr):XF:=(fnD 11 (ED a))
theorem Fp (F:Fun K "law" "law" uQ f fd) (T:Txt K mg a) (F__law_numbered:Fn P w K mg base "_law_numbered" 6 ["_law_purse_here"] (spD K a.Book 1 (lh a))) (M_Book:MkB P w K mg base "Book" a.Book 1 ["self"] (wH K a.Book)) (F__law_purse:Fn P w K mg base "_law_purse" 1 ["_law_script"] (spD K a.Book 1 (la a))) (F__law_lines:Fn P w K mg base "_law_lines" 2 ["_law_people","_law_entries","_law_numbers"] (spD K a.Book 3 (mO a))) (M_twin:Mt P w K mg base a.Book "twin" 3 ["self"] (spD K a.Book 1 (uM a))) (F_shown:Fn P w K mg base "shown" 5 ["book"] (spD K a.Book 1 (nW a))) (M_person:Mt P w K mg base a.Book "person" 4 ["self","name"] (spD K a.Book 2 (lW a))):FnOk P w K mg base (CXo P w) 7 f fd ["_law_script"] (spD K a.Book 1 (wW a)) :=
 ni F sc_law rfl fun cdv A outer s H E hr=>(jP (CD (kl F__law_numbered (hr.mono (by decide)) rfl ka (jH (kl F__law_purse (hr.mono (by decide)) rfl ka (jH (jI 0) jN)) jN)) (y4 rfl (lU (ke 1 sc_law.nd rfl (ba rfl)) (lU (ke 2 sc_law.nd rfl (ba rfl)) (lU (ke 3 sc_law.nd rfl (ba rfl)) (lU (ke 4 sc_law.nd rfl (ba rfl)) wD)))))) (jP (j4 5 sc_law.nd rfl (ba rfl) (nU kY (jH (kl F__law_lines (hr.mono (by decide)) rfl ka (jH (jI 2) (jH (jI 3) (jH (jI 4) jN)))) jN))) (jP (me rfl (nA (mZ (jH (jI 1) (jH (y9 (jI 1) M_twin Dr (hr.mono (by decide)) j8) jN)))) (ke 6 sc_law.nd rfl (ba rfl)) (jX (me rfl (mX rfl T.b_range (jH jL jN)) (ke 7 sc_law.nd rfl (ba rfl)) (jP (j4 8 sc_law.nd rfl (ba rfl) (kl F_shown (hr.mono (by decide)) rfl j8 (jH (jI 6) jN))) (jX (uV (DW.dt (dw_or (FH (FG (D2 .str rfl rfl T.b_isinstance (jI 8) rfl T.b_str qG (by decide) (by decide)))) (FF (qQ (F2 (zA hr)) (jI 8) (jI 5) (k9 _))))) (jX (kE EI)) oM)))))) (jP (j4 9 sc_law.nd rfl (ba rfl) (zG M_Book (hr.mono (by decide)) rfl ka)) (jP (uV (qQ (F2 (zA hr)) (kl F_shown (hr.mono (by decide)) rfl ka (jH (jI 9) jN)) kY (k9 _)) (jX (kE EI)) oM) (jP (me rfl (nA (FK (jI 2) (CF jL))) (ke 10 sc_law.nd rfl (ba rfl)) (jX (qR (sw (jI 9) M_person vo (hr.mono (by decide)) j8 (jH (jI 10) jN))))) (jX (kE (EH (D8 (zA hr)) (kl F_shown (hr.mono (by decide)) rfl ka (jH (jI 9) jN)) (nU kY (jH (rh (fr:=[]) (ix:=[]) rfl (by exact (show CompOk ["_law_script","_law_book","_law_people","_law_entries","_law_numbers","_law_due","_law_one","_law_k","_law_found","_law_other","_law_name"] (jO uQ) _ _ _ _ from cok)) (nA (jI 2)) (fun _ _ _ _ _=>lT) (fun _ _ _ _ _=>(kI kY (jI 0)))) jN)) (k9 _))))))))))
end
theorem oN {fi:XA}{ix:List Nat}{c:XT}{e:XE}{ρ:En}{s s1 s2:Sto}{l vs:List PV} (h1:fi ρ s=.ok l s1) (hl:l.length≤100000) (h2:kK c e (kj ix ρ) l s1=.ok vs s2):l4 fi ix c e ρ s=.ok (.lst vs) s2:=by
 unfold l4
 rw [h1]
 simp only [Out.bind,hl,if_true]
 rw [h2]
theorem nI {f:XE}{ρ:En}{s s':Sto}{v:PV} (h:f ρ s=.ok v s'):xRet f ρ s=.rt v s':=by
 unfold xRet
 rw [h]
 rfl
theorem Ci {f g:XS}{ρ:En}{s s':Sto}{v:PV} (h:f ρ s=.rt v s'):xSeq f g ρ s=.rt v s':=by unfold xSeq;rw [h]
theorem lN {f:XE}{i:Nat}{ρ:En}{s s':Sto}{v:PV} (h:f ρ s=.ok v s'):xSet i f ρ s=.nx (ρ.set i (some v)) s':=by
 unfold xSet
 rw [h]
 rfl
theorem AC {f:XE}{ρ:En}{s s':Sto}{v:PV} (h:f ρ s=.ok v s'):xDo f ρ s=.nx ρ s':=by unfold xDo;rw [h];rfl
theorem wN {t:XT}{A:XS}{ρ:En}{s s1:Sto} (h:t ρ s=.ok false s1):xIf t A xEnd ρ s=.nx ρ s1:=by unfold xIf;rw [h];rfl
theorem y3 {t:XT}{A B:XS}{ρ:En}{s s1:Sto} (h:t ρ s=.ok true s1):xIf t A B ρ s=A ρ s1:=by unfold xIf;rw [h];rfl
abbrev LS (U:List Str):PV:=.lst (U.map .str)
theorem x5 {c:XT}{e:XE}{cap:En}{s:Sto}{α:Type} (A:α→PV) (p:α→Bool) (f:α→PV):∀ (l:List α),(∀ q∈l,c (some (A q)::cap) s=.ok (p q) s)→(∀ q∈l,p q=true→e (some (A q)::cap) s=.ok (f q) s)→kK c e cap (l.map A) s=.ok ((l.filter p).map f) s
 | [],_,_=>rfl
 | q::l,h1,h2=>by
  have ih:=x5 A p f l (fun x hx=>h1 x (ak _ hx)) (fun x hx=>h2 x (ak _ hx))
  rw [au,mf,h1 q ap]
  cases hp:p q with
  | false=>simp [ih,hp]
  | true=>simp [ih,hp,h2 q ap hp]
theorem mF {e:XE}{cap:En}{s:Sto}{α:Type} (A:α→PV) (f:α→PV) (l:List α) (h:∀ q∈l,e (some (A q)::cap) s=.ok (f q) s):kK nZ e cap (l.map A) s=.ok (l.map f) s:=by
 have:=x5 (c:=nZ) A (fun _=>true) f l (fun _ _=>rfl) (fun q hq _=>h q hq)
 rw [List.filter_eq_self.mpr (fun _ _=>rfl)] at this
 exact this
theorem vK {e:XE}{cap:En}{s:Sto}{α:Type} (A B:α→PV) (f:α→PV):∀ (l:List α),(∀ q∈l,e (some (A q)::some (B q)::cap) s=.ok (f q) s)→lP nZ e cap (l.map fun q=>.tup [A q,B q]) s=.ok (l.map f) s
 | [],_=>rfl
 | q::l,h=>by
  have ih:=vK A B f l fun x hx=>h x (ak _ hx)
  rw [au,se]
  have hp2:wK (.tup [A q,B q]) s=some (A q,B q):=rfl
  rw [hp2]
  simp [nZ,ih,h q ap]
theorem zT (U:List Str):oO (U.map PV.str)=some U:=m8 U
theorem wR (s:Sto) {x y:Str} (h:bJ x=true) (g:bJ y=true):fEq (.str x) (.str y) s=.ok (.bl (x == y)) s:=by
 have e1:PV.data s 12 (.str x)=some (.str x):=by unfold PV.data;rw [if_pos h]
 have e2:PV.data s 12 (.str y)=some (.str y):=by unfold PV.data;rw [if_pos g]
 unfold fEq fEqN
 rw [e1,e2]
 unfold eA
 rfl
theorem ne_str (s:Sto) {x:Str} (h:bJ x=true):fNe (.str x) (.str x) s=.ok (.bl false) s:=by
 have e:PV.data s 12 (.str x)=some (.str x):=by unfold PV.data;rw [if_pos h]
 unfold fNe fEqN
 rw [e]
 unfold eA
 simp
theorem j7 (s:String):bJ (ac s)=true:=by
 rw [Str.ofString_eq_toList]
 unfold bJ
 rw [← gX,cE]
 intro c hc
 have hc:c∈s.toList.map Char.toNat:=hc
 obtain ⟨d,_,rfl⟩:=aj.mp hc
 refine decide_eq_true ?_
 rcases d.valid with h | h
 ·exact d8 h (by decide)
 ·exact h.2
theorem sE (i:Int):bJ (kn i)=true:=j7 _
theorem uv {x y:Str} (h:bJ x=true) (g:bJ y=true):bJ (x++y)=true:=by
 unfold bJ at *
 rw [← gX,cE] at *
 intro c hc
 rw [pM] at hc
 rcases aX.mp hc with z | z
 ·exact h c z
 ·exact g c z
theorem tz (sep:Str) (l:List Str):b9 sep l=gn sep l:=iN _ _
theorem wy {sep:Str} (hs:bJ sep=true):∀ l:List Str,(∀ x∈l,bJ x=true)→bJ (b9 sep l)=true:=by
 intro l
 rw [tz]
 induction l with
 | nil=>intro _;exact j7 ""
 | cons x r ih =>
  intro h
  cases r with
  | nil=>exact h x ap
  | cons y r=>exact uv (uv (h x ap) hs) (ih fun z hz=>h z (ak _ hz))
theorem xK {sep:Str}{k:Nat} (hs:sep.length≤1):∀ l:List Str,(∀ x∈l,x.length≤k)→(b9 sep l).length≤(k+1) * l.length:=by
 intro l
 rw [tz]
 induction l with
 | nil=>intro _;exact bc _
 | cons x r ih =>
  intro h
  have hx:=h x ap
  cases r with
  | nil =>
   show x.length≤(k+1) * 1
   omega
  | cons y r =>
   have ih:=ih fun z hz=>h z (ak _ hz)
   show (x++sep++gn sep (y::r)).length≤_
   rw [kC,kC]
   have e:(k+1) * (x::y::r).length=(k+1) * (y::r).length+(k+1):=by rw [aC (a:=x),jg]
   omega
theorem zf {k:Nat}:∀ l:List Str,(∀ x∈l,x.length≤k)→(l.map (·.length)).sum≤k * l.length
 | [],_=>bc _
 | x::r,h=>by
  have h1:=h x ap
  have h2:=zf r fun z hz=>h z (ak _ hz)
  rw [au,List.sum_cons,aC,jg]
  omega
theorem nT {sep:Str}{e:XE}{ρ:En}{s s':Sto}{l:List Str}{k:Nat} (he:e ρ s=.ok (LS l) s') (hs:sep.length≤1) (hk:∀ x∈l,x.length≤k) (hb:(k+1) * l.length≤16777216):xJoin (xC (.str sep)) (xCons e xNil) ρ s=.ok (.str (b9 sep l)) s':=by
 have h1:=zf l hk
 have h2:(l.map (·.length)).sum+l.length * sep.length≤16777216:=by
  have:l.length * sep.length≤l.length * 1:=gE _ hs
  have e:(k+1) * l.length=k * l.length+l.length:=Nat.succ_mul ..
  omega
 unfold xJoin
 simp only [xC,xCons,xNil,he,Out.bind,lsOf,zT]
 rw [if_pos h2]
def lM (q:Int×Int):Str:=if q.2=1 then kn q.1 else kn q.1++ac "/"++kn q.2
def uF (h:Str) (e:Ent):Str:=b9 (ac " ") [ac "house",h,kn e.th,kn e.mr,kn e.ls]
def C0 (h:Str) (q:Str×Int×Int):Str:=b9 (ac " ") [ac "share",h,q.1,lM q.2]
def oC (n:Str):Str:=ac "person "++n
theorem Be (n:Str):b9 (ac " ") [ac "person",n]=oC n:=by
 rw [tz]
 show ac "person"++ac " "++n=ac "person "++n
 congr 1
abbrev Shw (i:Int):Prop:=i.natAbs.log2 < 1920
theorem yV {k:Nat} (hk:k < 1920) {i:Int} (h:Bt k i):Shw i:=by
 show i.natAbs.log2 < 1920
 by_cases z:i.natAbs=0
 ·rw [z];decide
 ·rw [jv z]
  exact d8 h (Nat.pow_lt_pow_right (by decide) hk)
structure ShwQ (q:Int×Int):Prop where
 t:Shw q.1
 b:Shw q.2
theorem zX {q:Int×Int} (h:ShwQ q):(lM q).length≤3900:=by
 have h1:=nc h.t
 have h2:=nc h.b
 unfold lM
 split
 ·omega
 ·rw [kC,kC]
  have:(ac "/").length=1:=rfl
  omega
theorem AV (q:Int×Int):bJ (lM q)=true:=by
 unfold lM
 split
 ·exact sE _
 ·exact uv (uv (sE _) (j7 _)) (sE _)
theorem sK (a:Adr) (t:Sto) {q:Int×Int} (h:ShwQ q):mi a [frP q] t=.ok (.str (lM q)) t:=by
 have i0:fIx (frP q) (.int 0) t=.ok (.int q.1) t:=by simp [fIx,lsOf,frP,at0]
 have i1:fIx (frP q) (.int 1) t=.ok (.int q.2) t:=by simp [fIx,lsOf,frP,at1]
 have e1:fEq (.int q.2) (.int 1) t=.ok (.bl (q.2 == 1)) t:=by
  unfold fEq fEqN
  rw [lV,lV]
  simp only [oK]
  rfl
 have s1:oa [.int q.1] t=.ok (.str (kn q.1)) t:=by
  unfold oa
  simp only
  rw [if_pos h.t]
 refine oR ?_
 unfold qc
 refine (j6 (ρ':=[some (frP q),some (.int q.1),none]) (s':=t) (lN (by simp only [x2,xVar,xC,Out.bind,au,bQ,cS,ag,i0]))).trans ?_
 refine (j6 (ρ':=[some (frP q),some (.int q.1),some (.int q.2)]) (s':=t) (lN (by simp only [x2,xVar,xC,Out.bind,ag,i1]))).trans ?_
 refine nI ?_
 unfold lM
 by_cases z:q.2=1
 ·have zb:(q.2 == 1)=true:=by simpa using z
  rw [zb] at e1
  rw [if_pos z]
  simp only [xIfe,xTr,x2,xVar,xC,xB,xCons,xNil,Out.bind,ag,ar,e1,if_true,s1]
 ·have zb:(q.2 == 1)=false:=by simpa using z
  rw [zb] at e1
  rw [if_neg z]
  have f2:Ee (xVar 1) (ac "/") (xVar 2) [some (frP q),some (.int q.1),some (.int q.2)] t=.ok (.str (kn q.1++ac "/"++kn q.2)) t:=by
   unfold Ee
   simp only [xVar,Out.bind,ag,ar]
   rw [if_pos ⟨h.t,by decide⟩,if_pos h.b]
  simp only [xIfe,xTr,x2,xVar,xC,Out.bind,ag,ar,e1,fb,if_false]
  exact f2
inductive Row where
 | per (n:Str)
 | hou (h:Str) (e:Ent)
 | sha (h:Str) (q:Str×Int×Int)
def lg:Row→PV
 | .per n=>.tup [.str (ac "person"),.str n]
 | .hou h e=>.tup [.str (ac "house"),.str h,.int e.th,.int e.mr,.int e.ls]
 | .sha h q=>.tup [.str (ac "share"),.str h,.str q.1,frP q.2]
def qx:Row→Str
 | .per n=>oC n
 | .hou h e=>uF h e
 | .sha h q=>C0 h q
def tR:Row→Prop
 | .per n=>Sm n
 | .hou h e=>Sm h∧Shw e.th∧Shw e.mr∧Shw e.ls
 | .sha h q=>Sm h∧Sm q.1∧ShwQ q.2
theorem wI {x:Str} (h:Sm x):bJ x=true:=by
 unfold bJ
 rw [← gX,cE]
 intro c hc
 exact decide_eq_true (d8 (h.2 c hc) (by decide))
theorem E5 {r:Row} (h:tR r):bJ (qx r)=true:=by
 have sp:=j7 " "
 cases r with
 | per n=>exact uv (j7 _) (wI h)
 | hou n e =>
  refine wy sp _ fun x hx=>?_
  simp only [ai,b6,or_false] at hx
  rcases hx with rfl | rfl | rfl | rfl | rfl
  ·exact j7 _
  ·exact wI h.1
  ·exact sE _
  ·exact sE _
  ·exact sE _
 | sha n q =>
  refine wy sp _ fun x hx=>?_
  simp only [ai,b6,or_false] at hx
  rcases hx with rfl | rfl | rfl | rfl
  ·exact j7 _
  ·exact wI h.1
  ·exact wI h.2.1
  ·exact AV _
theorem rK {h:Str}{e:Ent} (o:tR (.hou h e)):∀ x∈[ac "house",h,kn e.th,kn e.mr,kn e.ls],x.length≤1921:=fun x hx=>by
 simp only [ai,b6,or_false] at hx
 rcases hx with rfl | rfl | rfl | rfl | rfl
 ·decide
 ·have:=o.1.1;omega
 ·exact nc o.2.1
 ·exact nc o.2.2.1
 ·exact nc o.2.2.2
theorem rC {h:Str}{q:Str×Int×Int} (o:tR (.sha h q)):∀ x∈[ac "share",h,q.1,lM q.2],x.length≤3900:=fun x hx=>by
 simp only [ai,b6,or_false] at hx
 rcases hx with rfl | rfl | rfl | rfl
 ·decide
 ·have:=o.1.1;omega
 ·have:=o.2.1.1;omega
 ·exact zX o.2.2
theorem zj {r:Row} (h:tR r):(qx r).length≤16000:=by
 have l1:(ac " ").length≤1:=by decide
 cases r with
 | per n =>
  show (ac "person "++n).length≤_
  rw [kC]
  have:(ac "person ").length=7:=rfl
  have:=(show Sm n from h).1
  omega
 | hou n e=>exact aJ (xK l1 _ (rK h)) (show (1921+1) * 5≤16000 by decide)
 | sha n q=>exact aJ (xK l1 _ (rC h)) (show (3900+1) * 4≤16000 by decide)
theorem vT (a:Adr) (t:Sto) {r:Row} (h:tR r):ms a [lg r] t=.ok (.str (qx r)) t:=by
 have l1:(ac " ").length≤1:=by decide
 have st:∀ x:Str,oa [.str x] t=.ok (.str x) t:=fun _=>rfl
 have si:∀ {i:Int},Shw i→oa [.int i] t=.ok (.str (kn i)) t:=fun {i} h=>by
  unfold oa
  simp only
  rw [if_pos h]
 refine oR ?_
 unfold rX
 cases r with
 | per n =>
  have q:=wR t (j7 "person") (j7 "share")
  have qf:(ac "person" == ac "share")=false:=by decide +kernel
  rw [qf] at q
  have i0:fIx (lg (.per n)) (.int 0) t=.ok (.str (ac "person")) t:=rfl
  refine (j6 (wN (s1:=t) ?_)).trans (nI ?_)
  ·show xTr _ [some (lg (.per n))] t=_
   simp only [xTr,x2,xVar,xC,Out.bind,ag,i0,q]
  ·have c:=mF (s:=t) (cap:=[]) (e:=xB (xCons (xVar 0) xNil) oa) PV.str PV.str [ac "person",n] (fun x _=>by simp only [xB,xCons,xVar,xNil,Out.bind,ag,st])
   have d:l4 (xIter (xVar 0)) [] nZ (xB (xCons (xVar 0) xNil) oa) [some (lg (.per n))] t=.ok (LS [ac "person",n]) t:=oN (l:=[ac "person",n].map .str) (s1:=t) rfl (show (2:Nat)≤100000 by decide) c
   refine (nT (k:=9) d l1 (fun x hx=>?_) (show (9+1) * 2≤16777216 by decide)).trans ?_
   ·simp only [ai,b6,or_false] at hx
    rcases hx with rfl | z
    ·decide
    ·rw [z];exact (show Sm n from h).1
   ·rw [Be];rfl
 | hou n e =>
  have q:=wR t (j7 "house") (j7 "share")
  have qf:(ac "house" == ac "share")=false:=by decide +kernel
  rw [qf] at q
  have i0:fIx (lg (.hou n e)) (.int 0) t=.ok (.str (ac "house")) t:=rfl
  refine (j6 (wN (s1:=t) ?_)).trans (nI ?_)
  ·show xTr _ [some (lg (.hou n e))] t=_
   simp only [xTr,x2,xVar,xC,Out.bind,ag,i0,q]
  ·have c:=mF (s:=t) (cap:=[]) (e:=xB (xCons (xVar 0) xNil) oa) (fun p:PV×Str=>p.1) (fun p=>.str p.2) [(.str (ac "house"),ac "house"),(.str n,n),(.int e.th,kn e.th),(.int e.mr,kn e.mr),(.int e.ls,kn e.ls)] (fun p hp=>by
    simp only [ai,b6,or_false] at hp
    rcases hp with rfl | rfl | rfl | rfl | rfl
    ·simp only [xB,xCons,xVar,xNil,Out.bind,ag,st]
    ·simp only [xB,xCons,xVar,xNil,Out.bind,ag,st]
    ·simp only [xB,xCons,xVar,xNil,Out.bind,ag,si h.2.1]
    ·simp only [xB,xCons,xVar,xNil,Out.bind,ag,si h.2.2.1]
    ·simp only [xB,xCons,xVar,xNil,Out.bind,ag,si h.2.2.2])
   have d:l4 (xIter (xVar 0)) [] nZ (xB (xCons (xVar 0) xNil) oa) [some (lg (.hou n e))] t=.ok (LS [ac "house",n,kn e.th,kn e.mr,kn e.ls]) t:=oN (l:=[(.str (ac "house")),(.str n),(.int e.th),(.int e.mr),(.int e.ls)]) (s1:=t) rfl (show (5:Nat)≤100000 by decide) c
   exact nT (k:=1921) d l1 (rK h) (show (1921+1) * 5≤16777216 by decide)
 | sha n q =>
  have q0:=wR t (j7 "share") (j7 "share")
  have qf:(ac "share" == ac "share")=true:=by decide +kernel
  rw [qf] at q0
  have i0:fIx (lg (.sha n q)) (.int 0) t=.ok (.str (ac "share")) t:=rfl
  have i1:fIx (lg (.sha n q)) (.int 1) t=.ok (.str n) t:=rfl
  have i2:fIx (lg (.sha n q)) (.int 2) t=.ok (.str q.1) t:=rfl
  have i3:fIx (lg (.sha n q)) (.int 3) t=.ok (frP q.2) t:=rfl
  have e4:=sK a t h.2.2
  refine Ci ?_
  show xIf _ _ _ [some (lg (.sha n q))] t=_
  rw [y3 (s1:=t) (by simp only [xTr,x2,xVar,xC,Out.bind,ag,i0,q0])]
  refine nI ?_
  refine nT (k:=3900) (l:=[ac "share",n,q.1,lM q.2]) ?_ l1 (rC h) (show (3900+1) * 4≤16777216 by decide)
  simp only [xLst,xCons,xNil,xVar,x2,xC,xCall,Out.bind,ag,i0,i1,i2,i3,aC,aV,if_true,e4,show (0+1+1+1+1:Nat)≤100000 by decide]
  rfl
def ent (L:List Ent) (h:Str):Ent:=(kO L h).getD ⟨h,0,0,0,[]⟩
def m9 (L:List Ent) (h:Str):List Row:=((srt ((ent L h).held.map (·.1))).map (kc (ent L h).held)).map (Row.sha h)
def mK (pp:List Str) (L:List Ent):List Row:=(srt pp).map Row.per++(srt (L.map (·.nm))).map (fun h=>Row.hou h (ent L h))++((srt (L.map (·.nm))).map (m9 L)).flatten
structure EntOk (e:Ent):Prop where
 nm:Sm e.nm
 len:e.held.length≤12
 th:Shw e.th
 mr:Shw e.mr
 ls:Shw e.ls
 sh:∀ n∈e.held.map (·.1),Sm n∧ShwQ (jW e.held n)
structure Bok (t:Sto) (nb:Nat) (pp:List Str) (L:List Ent):Prop where
 g:t.get nb=some (.book pp L)
 ps:∀ n∈pp,Sm n
 p6:pp.length≤6
 l8:L.length≤8
 en:∀ e∈L,EntOk e
section
variable {t:Sto}{nb:Nat}{pp:List Str}{L:List Ent}
theorem Bok.find (B:Bok t nb pp L) {h:Str} (hh:h∈L.map (·.nm)):kO L h=some (ent L h)∧(ent L h).nm=h∧ent L h∈L:=by
 obtain ⟨x,hx,ex⟩:=aj.mp hh
 obtain ⟨e,he⟩:∃ e,kO L h=some e:=cK.mp (fu.mpr ⟨x,hx,decide_eq_true ex⟩)
 have e1:ent L h=e:=by unfold ent;rw [he];rfl
 rw [e1]
 unfold kO at he
 exact ⟨by unfold kO;exact he,of_decide_eq_true (eS (p:=fun e:Ent=>decide (e.nm=h)) he),dD he⟩
theorem Bok.rows_ok (B:Bok t nb pp L):∀ r∈mK pp L,tR r:=fun r hr=>by
 unfold mK at hr
 rcases aX.mp hr with hr | hr
 ·rcases aX.mp hr with hr | hr
  ·obtain ⟨n,hn,rfl⟩:=aj.mp hr
   exact B.ps n ((jZ _).mem_iff.mp hn)
  ·obtain ⟨h,hh,rfl⟩:=aj.mp hr
   obtain ⟨_,e1,e2⟩:=B.find ((jZ _).mem_iff.mp hh)
   have o:=B.en _ e2
   exact ⟨by rw [← e1];exact o.nm,o.th,o.mr,o.ls⟩
 ·obtain ⟨l,hl,hr⟩:=List.mem_flatten.mp hr
  obtain ⟨h,hh,rfl⟩:=aj.mp hl
  obtain ⟨_,e1,e2⟩:=B.find ((jZ _).mem_iff.mp hh)
  have o:=B.en _ e2
  unfold m9 at hr
  obtain ⟨q,hq,rfl⟩:=aj.mp hr
  obtain ⟨n,hn,rfl⟩:=aj.mp hq
  have hn:=(jZ _).mem_iff.mp hn
  rw [pS]
  exact ⟨by rw [← e1];exact o.nm,(o.sh n hn).1,(o.sh n hn).2⟩
theorem wq (B:Bok t nb pp L):∀ (l:List Str),(∀ h∈l,h∈L.map (·.nm))→((l.map (m9 L)).flatten).length≤12 * l.length
 | [],_=>bc _
 | h::l,hl=>by
  have ih:=wq B l fun x hx=>hl x (ak _ hx)
  obtain ⟨_,_,e2⟩:=B.find (hl h ap)
  have:=(B.en _ e2).len
  rw [au,b8,aO,aC,jg]
  have:(m9 L h).length≤12:=by unfold m9;rw [af,af,jT,af];exact this
  omega
theorem Bok.rows_len (B:Bok t nb pp L):(mK pp L).length≤200:=by
 have h1:=wq B (srt (L.map (·.nm))) fun h hh=>(jZ _).mem_iff.mp hh
 have h2:(srt (L.map (·.nm))).length=L.length:=by rw [jT,af]
 have p6:=B.p6
 have l8:=B.l8
 unfold mK
 rw [aO,aO,af,af,jT]
 omega
theorem Bok.rows (B:Bok t nb pp L) (a:Adr):pU a [.ref nb] t=.ok (.lst ((mK pp L).map lg)) t:=by
 have p6:=B.p6
 have l8:=B.l8
 have ad:∀ (A C:List PV),A.length+C.length≤100000→fAdd (.lst A) (.lst C) t=.ok (.lst (A++C)) t:=fun A C h=>by simp [fAdd,lsOf,h]
 have hpe:m7 a [.ref nb] t=.ok (LS (srt pp)) t:=by simp [m7,ku,B.g]
 have hho:pN a [.ref nb] t=.ok (LS (srt (L.map (·.nm)))) t:=by simp [pN,ku,B.g]
 have sub:∀ h∈srt (L.map (·.nm)),h∈L.map (·.nm):=fun h hh=>(jZ _).mem_iff.mp hh
 have hl:(srt (L.map (·.nm))).length=L.length:=by rw [jT,af]
 have lim:=wq B
 have hro:mK pp L=(srt pp).map Row.per++(srt (L.map (·.nm))).map (fun h=>Row.hou h (ent L h))++((srt (L.map (·.nm))).map (m9 L)).flatten:=rfl
 rw [hro]
 generalize srt (L.map (·.nm))=H at *
 have n2:(0+1+1:Nat)≤100000:=by decide
 have n4:(0+1+1+1+1:Nat)≤100000:=by decide
 have c1:=mF (s:=t) (cap:=[]) (e:=xTup (xCons (xC (.str (ac "person"))) (xCons (xVar 0) xNil))) PV.str (fun n=>lg (.per n)) (srt pp) (fun n _=>by
  simp only [xTup,xCons,xNil,xC,xVar,Out.bind,ag,aC,aV,n2,if_true]
  rfl)
 have c2:=mF (s:=t) (cap:=[some (.ref nb)]) (e:=x2 (xTup (xCons (xC (.str (ac "house"))) (xCons (xVar 0) xNil))) (xBM 2 (AI a) (xVar 1) (xCons (xVar 0) xNil)) uU) PV.str (fun h=>lg (.hou h (ent L h))) H (fun h hh=>by
  obtain ⟨f1,f2,f3⟩:=B.find (sub h hh)
  have hsm:Nm h:=by rw [← f2];exact (B.en _ f3).nm.nm
  have eo:AI a [.ref nb,.str h] t=.ok (.tup [.int (ent L h).th,.int (ent L h).mr,.int (ent L h).ls]) t:=by simp [AI,ku,B.g,f1,hsm]
  have ca:uU (.tup [.str (ac "house"),.str h]) (.tup [.int (ent L h).th,.int (ent L h).mr,.int (ent L h).ls]) t=.ok (lg (.hou h (ent L h))) t:=rfl
  simp only [x2,xTup,xCons,xNil,xC,xVar,xBM,Out.bind,ag,ar,aC,aV,n2,if_true,B.g,eo,ca])
 obtain ⟨ρ',s',hlo,rfl,o3,rfl⟩:=p8 (body:=j9 (yName 3) (nB a)) (H.map .str)
  (fun k ρ s=>t=s∧∃ o3,ρ=[some (.ref nb),some (LS H),some (.lst (((srt pp).map Row.per++H.map (fun h=>Row.hou h (ent L h))++((H.take k).map (m9 L)).flatten).map lg)),o3])
  (fun k q ρ s hq hI=>by
   obtain ⟨rfl,o3,rfl⟩:=hI
   rw [bo] at hq
   obtain ⟨h,hh,rfl⟩:=cA.mp hq
   have hin:=bN hh
   obtain ⟨f1,f2,f3⟩:=B.find (sub h hin)
   have hsm:Nm h:=by rw [← f2];exact (B.en _ f3).nm.nm
   have hl64:(ent L h).held.length < 64:=by have:=(B.en _ f3).len;omega
   have es:nq a [.ref nb,.str h] t=.ok (wt (ent L h).held) t:=by simp [nq,ku,B.g,f1,hsm,hl64]
   have c3:=vK (s:=t) (cap:=[some (.str h)]) (e:=xTup (xCons (xC (.str (ac "share"))) (xCons (xVar 2) (xCons (xVar 0) (xCons (xVar 1) xNil))))) (fun q:Str×Int×Int=>PV.str q.1) (fun q=>frP q.2) (fun q=>lg (.sha h q)) ((srt ((ent L h).held.map (·.1))).map (kc (ent L h).held)) (fun q _=>by
    simp only [xTup,xCons,xNil,xC,xVar,Out.bind,ag,ar,aC,aV,n4,if_true]
    rfl)
   have ev:((srt ((ent L h).held.map (·.1))).map (kc (ent L h).held)).map (fun q=>lg (.sha h q))=(m9 L h).map lg:=by unfold m9;rw [aF,aF,aF];rfl
   rw [ev] at c3
   have slen:(m9 L h).length≤12:=by unfold m9;rw [af,af,jT,af];exact (B.en _ f3).len
   have d3:sA (xIter (xBM 2 (nq a) (xVar 0) (xCons (xVar 3) xNil))) [3] nZ (xTup (xCons (xC (.str (ac "share"))) (xCons (xVar 2) (xCons (xVar 0) (xCons (xVar 1) xNil))))) [some (.ref nb),some (LS H),some (.lst (((srt pp).map Row.per++H.map (fun h=>Row.hou h (ent L h))++((H.take k).map (m9 L)).flatten).map lg)),some (.str h)] t=.ok (.lst ((m9 L h).map lg)) t:=by
    have hit:xIter (xBM 2 (nq a) (xVar 0) (xCons (xVar 3) xNil)) [some (.ref nb),some (LS H),some (.lst (((srt pp).map Row.per++H.map (fun h=>Row.hou h (ent L h))++((H.take k).map (m9 L)).flatten).map lg)),some (.str h)] t=.ok (((srt ((ent L h).held.map (·.1))).map (kc (ent L h).held)).map fun q=>.tup [.str q.1,frP q.2]) t:=by
     simp only [xIter,xBM,xCons,xNil,xVar,Out.bind,ag,ar,B.g,aC,aV,if_true,es,wt]
     rw [aF]
     rfl
    unfold sA
    rw [hit]
    simp only [Out.bind]
    rw [if_pos (by rw [af,af,jT,af];omega)]
    have c3':lP nZ (xTup (xCons (xC (.str (ac "share"))) (xCons (xVar 2) (xCons (xVar 0) (xCons (xVar 1) xNil))))) (kj [3] [some (.ref nb),some (LS H),some (.lst (((srt pp).map Row.per++H.map (fun h=>Row.hou h (ent L h))++((H.take k).map (m9 L)).flatten).map lg)),some (.str h)]) _ t=_:=c3
    rw [c3']
   have et:(H.take (k+1)).map (m9 L)=(H.take k).map (m9 L)++[m9 L h]:=by rw [bX,hh,aD];rfl
   have lk:=lim (H.take k) fun x hx=>sub x (gk hx)
   have lt:(H.take k).length≤8:=by rw [bP];omega
   have a3:=ad (((srt pp).map Row.per++H.map (fun h=>Row.hou h (ent L h))++((H.take k).map (m9 L)).flatten).map lg) ((m9 L h).map lg) (by
    rw [af,af,aO,aO,af,af,jT]
    omega)
   refine ⟨_,_,?_,rfl,some (.str h),rfl⟩
   rw [et,gw,b8,g5,bZ,← bI,aD (l₂:=m9 L h)]
   show nB a [some (.ref nb),some (LS H),some (.lst (((srt pp).map Row.per++H.map (fun h=>Row.hou h (ent L h))++((H.take k).map (m9 L)).flatten).map lg)),some (.str h)] t=_
   unfold nB
   refine (lN (v:=.lst (((srt pp).map Row.per++H.map (fun h=>Row.hou h (ent L h))++((H.take k).map (m9 L)).flatten).map lg++(m9 L h).map lg)) (s':=t) ?_).trans rfl
   simp only [x2,xVar,d3,Out.bind,ag,ar,a3]) (ρ:=[some (.ref nb),some (LS H),some (.lst (((srt pp).map Row.per++H.map (fun h=>Row.hou h (ent L h))++((H.take 0).map (m9 L)).flatten).map lg)),none]) (s:=t) ⟨rfl,none,rfl⟩
 rw [af,cD] at hlo
 have d1:l4 (xIter (xBM 1 (m7 a) (xVar 0) xNil)) [] nZ (xTup (xCons (xC (.str (ac "person"))) (xCons (xVar 0) xNil))) [some (.ref nb),some (LS H),none,none] t=.ok (.lst ((srt pp).map fun n=>lg (.per n))) t:=oN (l:=(srt pp).map .str) (s1:=t) (by simp only [xIter,xBM,xVar,xNil,Out.bind,ag,B.g,aV,je,if_true,hpe]) (by rw [af,jT];omega) c1
 have d2:l4 (xIter (xVar 1)) [0] nZ (x2 (xTup (xCons (xC (.str (ac "house"))) (xCons (xVar 0) xNil))) (xBM 2 (AI a) (xVar 1) (xCons (xVar 0) xNil)) uU) [some (.ref nb),some (LS H),some (.lst ((srt pp).map fun n=>lg (.per n))),none] t=.ok (.lst (H.map fun h=>lg (.hou h (ent L h)))) t:=oN (l:=H.map .str) (s1:=t) rfl (by rw [af];omega) c2
 have a2:=ad ((srt pp).map fun n=>lg (.per n)) (H.map fun h=>lg (.hou h (ent L h))) (by rw [af,af,jT];omega)
 have em:((srt pp).map fun n=>lg (.per n))++(H.map fun h=>lg (.hou h (ent L h)))=((srt pp).map Row.per++H.map (fun h=>Row.hou h (ent L h))++((H.take 0).map (m9 L)).flatten).map lg:=by
  rw [List.take_zero,bQ,g5,bZ,aD,aF,aF]
  rfl
 rw [em] at a2
 refine oR ?_
 unfold vA
 refine (j6 (ρ':=[some (.ref nb),some (LS H),none,none]) (s':=t) (lN ?_)).trans ?_
 ·simp only [xBM,xVar,xNil,Out.bind,au,bQ,cS,ag,B.g,aV,je,if_true,hho]
 refine (j6 (lN d1)).trans ?_
 refine (j6 (ρ':=[some (.ref nb),some (LS H),some (.lst (((srt pp).map Row.per++H.map (fun h=>Row.hou h (ent L h))++((H.take 0).map (m9 L)).flatten).map lg)),none]) (s':=t) (lN ?_)).trans ?_
 ·simp only [jF,jE]
  simp only [x2,xVar,d2,Out.bind,ag,ar,a2]
 refine (j6 (nN (l:=H.map .str) (s1:=t) rfl hlo)).trans ?_
 exact nI rfl
theorem Bok.shown (B:Bok t nb pp L) (a:Adr):nW a [.ref nb] t=.ok (.str (b9 (ac "\n") ((mK pp L).map qx))) t:=by
 have hr:=B.rows a
 have ok:=B.rows_ok
 have len:=B.rows_len
 generalize mK pp L=R at *
 have c:=mF (s:=t) (cap:=[]) (e:=xCall 1 (ms a) (xCons (xVar 0) xNil)) lg (fun r=>.str (qx r)) R (fun r hr=>by
  have:=vT a t (ok r hr)
  simp only [xCall,xCons,xVar,xNil,Out.bind,ag,aC,aV,if_true,this])
 have em:R.map (fun r=>PV.str (qx r))=(R.map qx).map .str:=by rw [aF];rfl
 rw [em] at c
 refine oR ?_
 unfold zB
 refine nI (nT (k:=16000) (l:=R.map qx) (s':=t) ?_ (by decide) (fun x hx=>?_) (by rw [af];omega))
 ·refine oN (l:=R.map lg) (s1:=t) ?_ (by rw [af];omega) c
  simp only [xIter,xCall,xCons,xVar,xNil,Out.bind,au,bQ,cS,ag,aC,aV,if_true,hr]
 ·obtain ⟨r,hr,rfl⟩:=aj.mp hx
  exact zj (ok r hr)
end
def lk (M:List (Str×Hl)) (h:Str):Hl:=((M.find? fun m=>decide (m.1=h)).map (·.2)).getD []
theorem yy {N:List Str}{c:Nat}{L:List Ent}{M:List (Str×Hl)} (P:Pairs N c L M) {h:Str} (hh:h∈M.map (·.1)):∃ e,kO L h=some e∧HR c e.held (lk M h)∧mQ (kS M) (am h)=some (.dct (hP (lk M h))):=by
 induction P with
 | nil=>cases hh
 | @cons e m L M h1 h2 h3 h4 P ih =>
  by_cases z:m.1=h
  ·refine ⟨e,?_,?_,?_⟩
   ·unfold kO
    rw [bD,decide_eq_true (by rw [h1];exact z)]
   ·have:lk (m::M) h=m.2:=by unfold lk;rw [bD,decide_eq_true z];rfl
    rw [this]
    exact h2
   ·have:lk (m::M) h=m.2:=by unfold lk;rw [bD,decide_eq_true z];rfl
    rw [this]
    unfold kS
    simp [mQ,z]
  ·have e1:lk (m::M) h=lk M h:=by unfold lk;rw [bD,decide_eq_false z]
   rw [au,ai] at hh
   obtain ⟨e',g1,g2,g3⟩:=ih (hh.resolve_left fun y=>z y.symm)
   refine ⟨e',?_,?_,?_⟩
   ·unfold kO
    rw [bD,decide_eq_false (by rw [h1];exact z)]
    exact g1
   ·rw [e1];exact g2
   ·rw [e1,← g3]
    unfold kS
    simp [mQ,z]
theorem rV:∀ M:List (Str×Hl),keysOf (kS M)=some (M.map (·.1))
 | []=>rfl
 | m::M=>by
  have:=rV M
  unfold kS at this ⊢
  rw [au]
  unfold keysOf
  rw [this]
  rfl
def kW (L:List Ent):List (Key×PV):=L.map fun e=>(am e.nm,.lst [.int e.th,.int e.mr,.int e.ls])
structure Nst (p nb nd:Nat) (pp:List Str) (L:List Ent) (D:List (Key×PV)) (t:Sto):Prop where
 g:t.get nb=some (.book pp L)
 ps:IsPurse t p
 d:t.get nd=some (.dct D)
 hp:p < t.nx
 hn:nb < t.nx
 hd:nd < t.nx
 n1:p≠nb
 n2:nd≠nb
 n3:p≠nd
section
variable {p nb nd:Nat}{pp:List Str}{L:List Ent}{D:List (Key×PV)}{t:Sto}
theorem Nst.purse (h:Nst p nb nd pp L D t) (x y:Int):Nst p nb nd pp L D (t.set p (.lst [.int x,.int y])) :=
 ⟨(ky fun z=>h.n1 z.symm).trans h.g,let ⟨_,_,e⟩:=h.ps;⟨x,y,pV e⟩,(ky fun z=>h.n3 z.symm).trans h.d,h.hp,h.hn,h.hd,h.n1,h.n2,h.n3⟩
theorem Nst.book (h:Nst p nb nd pp L D t) (L':List Ent):Nst p nb nd pp L' D (t.set nb (.book pp L')) :=
 ⟨pV h.g,let ⟨x,y,e⟩:=h.ps;⟨x,y,(ky h.n1).trans e⟩,(ky h.n2).trans h.d,h.hp,h.hn,h.hd,h.n1,h.n2,h.n3⟩
theorem Nst.dict (h:Nst p nb nd pp L D t) (D':List (Key×PV)):Nst p nb nd pp L D' (t.set nd (.dct D')) :=
 ⟨(ky fun z=>h.n2 z.symm).trans h.g,let ⟨x,y,e⟩:=h.ps;⟨x,y,(ky h.n3).trans e⟩,pV h.d,h.hp,h.hn,h.hd,h.n1,h.n2,h.n3⟩
theorem Nst.take (h:Nst p nb nd pp L D t) (a:Adr) {n:Int} (h0:0 < n) (h1:Bt 200 n):∃ r x y,0≤r∧r < n∧jQ a [.ref p,.int n] t=.ok (.int r) (t.set p (.lst [.int x,.int y])):=qV a t p n h.ps h0 (h1.mono (by decide))
theorem yZ (h:Nst p nb nd pp L D t) (a:Adr) {n:Str} (hn:Nm n) (hh:n∈L.map (·.nm)) (g:Int→Ent→Ent) (neg:Bool) (v:Int) (hv:neg=true→0≤v):wV a g neg [.ref nb,.str n,.int v] t=.ok .non (t.set nb (.book pp (uP L n (g v)))):=by
 have h1:lS L n=true:=by rw [n8];exact hh
 have h2:¬ (neg=true∧v < 0):=fun z=>by have:=hv z.1;have:=z.2;omega
 simp only [wV,ku,h.g]
 rw [if_pos hn,if_pos h1,if_neg h2]
theorem Nst.step (a:Adr) {A B:List Ent}{e:Ent} (h:Nst p nb nd pp (A++e::B) (kW A) t) (nd':((A++e::B).map (·.nm)).Nodup) (hnm:Sm e.nm) (hA:A.length≤8) (o2 o3 o6 o7:Option PV) :
  ∃ e' u6 u7 t',e'.nm=e.nm∧e'.held=e.held∧Shw e'.th∧Shw e'.mr∧(Shw e'.ls∧0≤e'.ls)∧ki a [some (.ref p),some (.ref nb),o2,o3,some (.ref nd),some (.str e.nm),o6,o7] t=.nx [some (.ref p),some (.ref nb),o2,o3,some (.ref nd),some (.str e.nm),u6,u7] t'∧Nst p nb nd pp (A++e'::B) (kW (A++[e'])) t':=by
 have s200:∀ {i:Int},-(10 ^ 21)≤i→i≤10 ^ 21→Bt 200 i:=fun {i} h1 h2=>by
  have:Bt 71 i:=by unfold Bt;omega
  exact this.mono (by decide)
 have shw:∀ {i:Int},-(10 ^ 21)≤i→i≤10 ^ 21→Shw i:=fun {i} h1 h2=>yV (k:=200) (by decide) (s200 h1 h2)
 rw [aD,au] at nd'
 have n1:e.nm∉A.map (·.nm):=fun z=>(bz.mp nd').2.2 _ z _ ap rfl
 have n2:e.nm∉B.map (·.nm):=(aw.mp (bz.mp nd').2.1).1
 obtain ⟨r,xa,ya,r0,r1,e1⟩:=h.take a (n:=4) (by decide) (s200 (by decide) (by decide))
 obtain ⟨m,hm,em⟩:∃ m:Int,(0 < m∧m≤10 ^ 20)∧atI [PV.int 10,.int 1000,.int (10 ^ 12),.int (10 ^ 20)] r=some (.int m):=by
  obtain ⟨j,rfl⟩:∃ j:Nat,r=j:=⟨r.toNat,by omega⟩
  have hj:j < 4:=by omega
  match j,hj with
  | 0,_=>exact ⟨10,by decide,rfl⟩
  | 1,_=>exact ⟨1000,by decide,rfl⟩
  | 2,_=>exact ⟨10 ^ 12,by decide,rfl⟩
  | 3,_=>exact ⟨10 ^ 20,by decide,rfl⟩
 have H1:=h.purse xa ya
 generalize t.set p (.lst [.int xa,.int ya])=t1 at *
 obtain ⟨v1,xb,yb,b0,b1,e2⟩:=H1.take a (n:=2 * m) (by omega) (s200 (by omega) (by omega))
 have H2:=H1.purse xb yb
 generalize t1.set p (.lst [.int xb,.int yb])=t2 at *
 obtain ⟨v2,xc,yc,c0,c1,e3⟩:=H2.take a (n:=2 * m) (by omega) (s200 (by omega) (by omega))
 have H3:=H2.purse xc yc
 generalize t2.set p (.lst [.int xc,.int yc])=t3 at *
 obtain ⟨v3,xd,yd,d0,d1,e4⟩:=H3.take a (n:=m) (by omega) (s200 (by omega) (by omega))
 have H4:=H3.purse xd yd
 generalize t3.set p (.lst [.int xd,.int yd])=t4 at *
 have mid:∀ (x:Ent),x.nm=e.nm→x.nm∈(A++x::B).map (·.nm):=fun x _=>by simp
 have e5:=yZ H4 a hnm.nm (by simp) (fun n x=>{ x with th:=n }) false (v1 - m) (fun z=>by cases z)
 rw [pO _ n1 n2] at e5
 have H5:=H4.book (A++{ e with th:=v1 - m }::B)
 generalize t4.set nb (.book pp (A++{ e with th:=v1 - m }::B))=t5 at *
 have e6:=yZ H5 a (n:=e.nm) hnm.nm (by simp) (fun n x=>{ x with mr:=n }) false (v2 - m) (fun z=>by cases z)
 rw [pO (e:={ e with th:=v1 - m }) _ n1 n2] at e6
 have H6:=H5.book (A++{ e with th:=v1 - m,mr:=v2 - m }::B)
 generalize t5.set nb (.book pp (A++{ e with th:=v1 - m,mr:=v2 - m }::B))=t6 at *
 have e7:=yZ H6 a (n:=e.nm) hnm.nm (by simp) (fun n x=>{ x with ls:=n }) true v3 (fun _=>d0)
 rw [pO (e:={ e with th:=v1 - m,mr:=v2 - m }) _ n1 n2] at e7
 have H7:=H6.book (A++{ e with th:=v1 - m,mr:=v2 - m,ls:=v3 }::B)
 generalize t6.set nb (.book pp (A++{ e with th:=v1 - m,mr:=v2 - m,ls:=v3 }::B))=t7 at *
 have hk:(am e.nm:Key)∉(kW A).map (·.1):=fun z=>by
  obtain ⟨q,hq,z⟩:=aj.mp z
  obtain ⟨x,hx,rfl⟩:=aj.mp hq
  have z:(am x.nm:Key)=am e.nm:=z
  exact n1 (aj.mpr ⟨x,hx,fU z⟩)
 have hl:(kW A).length < 100000:=by unfold kW;rw [af];omega
 have e8:lc (.ref nd) (.str e.nm) (.lst [.int (v1 - m),.int (v2 - m),.int v3]) t7=some (t7.set nd (.dct (kW A++[(am e.nm,.lst [.int (v1 - m),.int (v2 - m),.int v3])]))):=by
  simp only [lc,H7.d,kyOf,hl,if_true,xE _ hk]
 have H8:=H7.dict (kW A++[(am e.nm,.lst [.int (v1 - m),.int (v2 - m),.int v3])])
 refine ⟨{ e with th:=v1 - m,mr:=v2 - m,ls:=v3 },some (.int m),some (.lst [.int (v1 - m),.int (v2 - m),.int v3]),_,rfl,rfl,shw (by show _≤v1 - m;omega) (by show v1 - m≤_;omega),shw (by show _≤v2 - m;omega) (by show v2 - m≤_;omega),⟨shw (by show _≤v3;omega) (by show v3≤_;omega),d0⟩,?_,by unfold kW at H8 ⊢;rw [aD];exact H8⟩
 have n4:(0+1+1+1+1:Nat)≤100000:=by decide
 have n3:(0+1+1+1:Nat)≤100000:=by decide
 have pw1:fPow (.int 10) (.int 12) t=.ok (.int (10 ^ 12)) t:=by simp [fPow]
 have pw2:fPow (.int 10) (.int 20) t=.ok (.int (10 ^ 20)) t:=by simp [fPow]
 have ix:fIx (.lst [.int 10,.int 1000,.int (10 ^ 12),.int (10 ^ 20)]) (.int r) t1=.ok (.int m) t1:=by unfold fIx;simp only [lsOf,em]
 have mo:su 2 m:=p7 ((s200 (i:=2) (by decide) (by decide)).mono (by decide)) ((s200 (i:=m) (by omega) (by omega)).mono (by decide))
 have ml:∀ s:Sto,fMul (.int 2) (.int m) s=.ok (.int (2 * m)) s:=fun s=>by simp [fMul,mo]
 have sb:∀ (v:Int) (s:Sto),fSub (.int v) (.int m) s=.ok (.int (v - m)) s:=fun v s=>by simp [fSub]
 have j0:∀ s:Sto,fIx (.lst [.int (v1 - m),.int (v2 - m),.int v3]) (.int 0) s=.ok (.int (v1 - m)) s:=fun s=>rfl
 have j1:∀ s:Sto,fIx (.lst [.int (v1 - m),.int (v2 - m),.int v3]) (.int 1) s=.ok (.int (v2 - m)) s:=fun s=>rfl
 have j2:∀ s:Sto,fIx (.lst [.int (v1 - m),.int (v2 - m),.int v3]) (.int 2) s=.ok (.int v3) s:=fun s=>rfl
 unfold ki
 refine (j6 (ρ':=[some (.ref p),some (.ref nb),o2,o3,some (.ref nd),some (.str e.nm),some (.int m),o7]) (s':=t1) (lN ?_)).trans ?_
 ·simp only [x2,xLst,xCons,xNil,xC,xCall,xVar,Out.bind,ag,ar,aC,aV,n4,if_true,pw1,pw2,e1,ix]
 refine (j6 (ρ':=[some (.ref p),some (.ref nb),o2,o3,some (.ref nd),some (.str e.nm),some (.int m),some (.lst [.int (v1 - m),.int (v2 - m),.int v3])]) (s':=t4) (lN ?_)).trans ?_
 ·simp only [x2,xLst,xCons,xNil,xC,xCall,xVar,Out.bind,ag,ar,aC,aV,n3,if_true,ml,e2,e3,e4,sb]
 refine (j6 (AC (s':=t5) (v:=.non) ?_)).trans ?_
 ·simp only [xBM,xCons,xNil,xC,x2,xVar,Out.bind,ag,ar,aC,aV,H4.g,if_true,j0]
  exact e5
 refine (j6 (AC (s':=t6) (v:=.non) ?_)).trans ?_
 ·simp only [xBM,xCons,xNil,xC,x2,xVar,Out.bind,ag,ar,aC,aV,H5.g,if_true,j1]
  exact e6
 refine (j6 (AC (s':=t7) (v:=.non) ?_)).trans ?_
 ·simp only [xBM,xCons,xNil,xC,x2,xVar,Out.bind,ag,ar,aC,aV,H6.g,if_true,j2]
  exact e7
 unfold xPut
 simp only [xVar,Out.so,ag,ar,e8]
 rfl
theorem Nst.loop (a:Adr) (o2 o3:Option PV):∀ (B A:List Ent) (t:Sto) (o5 o6 o7:Option PV),Nst p nb nd pp (A++B) (kW A) t→((A++B).map (·.nm)).Nodup→(∀ e∈B,Sm e.nm)→A.length+B.length≤8 →
  ∃ B' u5 u6 u7 t',B'.map (·.nm)=B.map (·.nm)∧B'.map (·.held)=B.map (·.held)∧(∀ e∈B',Shw e.th∧Shw e.mr∧Shw e.ls∧0≤e.ls)∧kM (j9 (yName 5) (ki a)) ((B.map (·.nm)).map .str) [some (.ref p),some (.ref nb),o2,o3,some (.ref nd),o5,o6,o7] t=.nx [some (.ref p),some (.ref nb),o2,o3,some (.ref nd),u5,u6,u7] t'∧Nst p nb nd pp (A++B') (kW (A++B')) t'
 | [],A,t,o5,o6,o7,h,_,_,_=>⟨[],o5,o6,o7,t,rfl,rfl,(fun e he=>by cases he),rfl,by rw [bZ] at h ⊢;exact h⟩
 | e::B,A,t,o5,o6,o7,h,nd',hs,hl=>by
  rw [aC] at hl
  obtain ⟨e',u6,u7,t1,q1,q2,q3,q4,q5,g1,g2⟩:=h.step a nd' (hs e ap) (by omega) o2 o3 o6 o7
  have ea:A++e'::B=(A++[e'])++B:=by simp
  rw [ea] at g2
  obtain ⟨B',v5,v6,v7,t2,r1,r2,r3,r4,r5⟩:=Nst.loop a o2 o3 B (A++[e']) t1 (some (.str e.nm)) u6 u7 g2 (by
   rw [aD,aD,au,bQ,q1]
   rw [aD,au] at nd'
   simpa using nd') (fun x hx=>hs x (ak _ hx)) (by rw [aO,ge];omega)
  refine ⟨e'::B',v5,v6,v7,t2,by rw [au,au,r1,q1],by rw [au,au,r2,q2],fun x hx=>?_,?_,?_⟩
  ·rcases ai.mp hx with rfl | hx
   ·exact ⟨q3,q4,q5.1,q5.2⟩
   ·exact r3 x hx
  ·rw [au,au]
   unfold kM
   have hb:j9 (yName 5) (ki a) (.str e.nm) [some (.ref p),some (.ref nb),o2,o3,some (.ref nd),o5,o6,o7] t=ki a [some (.ref p),some (.ref nb),o2,o3,some (.ref nd),some (.str e.nm),o6,o7] t:=rfl
   rw [hb,g1]
   exact r4
  ·have:A++e'::B'=(A++[e'])++B':=by simp
   rw [this]
   exact r5
end
theorem DP (a:Adr) (t:Sto) {q:Int×Int} (h:ShwQ q):li a [frP q] t=.ok (.str (lM q)) t:=by
 have i0:fIx (frP q) (.int 0) t=.ok (.int q.1) t:=by simp [fIx,lsOf,frP,at0]
 have i1:fIx (frP q) (.int 1) t=.ok (.int q.2) t:=by simp [fIx,lsOf,frP,at1]
 have e1:fEq (.int q.2) (.int 1) t=.ok (.bl (q.2 == 1)) t:=by
  unfold fEq fEqN
  rw [lV,lV]
  simp only [oK]
  rfl
 have s1:oa [.int q.1] t=.ok (.str (kn q.1)) t:=by
  unfold oa
  simp only
  rw [if_pos h.t]
 have s2:oa [.int q.2] t=.ok (.str (kn q.2)) t:=by
  unfold oa
  simp only
  rw [if_pos h.b]
 have n1:=nc h.t
 have n2:=nc h.b
 have l1:(ac "/").length=1:=rfl
 have a1:fAdd (.str (kn q.1)) (.str (ac "/")) t=.ok (.str (kn q.1++ac "/")) t:=by
  show (if (kn q.1).length+(ac "/").length≤100000 then Out.ok (PV.str (kn q.1++ac "/")) t else Out.bad)=_
  rw [if_pos (by omega)]
 have a2:fAdd (.str (kn q.1++ac "/")) (.str (kn q.2)) t=.ok (.str (kn q.1++ac "/"++kn q.2)) t:=by
  show (if (kn q.1++ac "/").length+(kn q.2).length≤100000 then Out.ok (PV.str (kn q.1++ac "/"++kn q.2)) t else Out.bad)=_
  rw [if_pos (by rw [kC];omega)]
 refine oR ?_
 unfold oF lM
 by_cases z:q.2=1
 ·have zb:(q.2 == 1)=true:=by simpa using z
  rw [zb] at e1
  rw [if_pos z]
  refine Ci ?_
  show xIf _ _ _ [some (frP q)] t=_
  rw [y3 (s1:=t) (by simp only [xTr,x2,xVar,xC,Out.bind,ag,i1,e1])]
  exact nI (by simp only [xB,xCons,xNil,x2,xVar,xC,Out.bind,ag,i0,s1])
 ·have zb:(q.2 == 1)=false:=by simpa using z
  rw [zb] at e1
  rw [if_neg z]
  refine (j6 (wN (s1:=t) ?_)).trans (nI ?_)
  ·show xTr _ [some (frP q)] t=_
   simp only [xTr,x2,xVar,xC,Out.bind,ag,i1,e1]
  ·show x2 _ _ _ [some (frP q)] t=_
   simp only [xB,xCons,xNil,x2,xVar,xC,Out.bind,ag,i0,i1,s1,s2,a1,a2]
theorem zx:∀ l:Hl,keysOf (hP l)=some (l.map (·.1))
 | []=>rfl
 | q::l=>by
  have:=zx l
  unfold hP at this ⊢
  rw [au]
  unfold keysOf
  rw [this]
  rfl
theorem Dq {L:List Ent}{h:Str}{e:Ent} (he:kO L h=some e):mQ (kW L) (am h)=some (.lst [.int e.th,.int e.mr,.int e.ls]):=by
 unfold mQ kW
 rw [dY,ib]
 have ef:((fun kv:Key×PV=>decide (kv.1=am h)) ∘ fun e:Ent=>((am e.nm:Key),PV.lst [.int e.th,.int e.mr,.int e.ls]))=fun e=>decide (e.nm=h):=by
  funext x
  show decide ((am x.nm:Key)=am h)=_
  rw [sG]
 rw [ef]
 unfold kO at he
 rw [he]
 rfl
theorem sf {e:XE}{ρ:En}{t:Sto}{X:List Str}{x:Str} (h3:ρ[3]?=some (some (.ref t.nx))) (he:e ρ (t.add (.lst (X.map .str)))=.ok (.str x) (t.add (.lst (X.map .str)))) (hl:X.length < 1000):xDo (xAppend (xVar 3) (xCons e xNil)) ρ (t.add (.lst (X.map .str)))=.nx ρ (t.add (.lst ((X++[x]).map .str))):=by
 have hl':(X.map PV.str).length < 100000:=by rw [af];omega
 simp only [xDo,xAppend,xVar,h3,xCons,xNil,he,Out.bind,Out.so,kR,if_true,hl',qi,aD,au,bQ]
section
variable {t:Sto}{nb:Nat}{pp:List Str}{L:List Ent}{M:List (Str×Hl)}
theorem BC (a:Adr) {h:Str}{e:Ent} (o:tR (.hou h e)) (he:kO L h=some e) {X:List Str} (hX:X.length < 1000) (o0 o1 o5 o6 o7:Option PV) :
  lF a [o0,o1,some (.dct (kW L)),some (.ref t.nx),some (.str h),o5,o6,o7] (t.add (.lst (X.map .str)))=.nx [o0,o1,some (.dct (kW L)),some (.ref t.nx),some (.str h),some (LS [kn e.th,kn e.mr,kn e.ls]),o6,o7] (t.add (.lst ((X++[uF h e]).map .str))):=by
 generalize hs:t.add (.lst (X.map .str))=s
 have iv:fIx (.dct (kW L)) (.str h) s=.ok (.lst [.int e.th,.int e.mr,.int e.ls]) s:=by simp [fIx,lsOf,dcOf,kyOf,Dq he]
 have si:∀ {i:Int},Shw i→oa [.int i] s=.ok (.str (kn i)) s:=fun {i} h=>by
  unfold oa
  simp only
  rw [if_pos h]
 have c:=mF (s:=s) (cap:=[]) (e:=xB (xCons (xVar 0) xNil) oa) (fun i:Int=>PV.int i) (fun i=>.str (kn i)) [e.th,e.mr,e.ls] (fun i hi=>by
  have hi':Shw i:=by
   simp only [ai,b6,or_false] at hi
   rcases hi with rfl | rfl | rfl
   ·exact o.2.1
   ·exact o.2.2.1
   ·exact o.2.2.2
  simp only [xB,xCons,xVar,xNil,Out.bind,ag,si hi'])
 have d:l4 (xIter (x2 (xVar 2) (xVar 4) fIx)) [] nZ (xB (xCons (xVar 0) xNil) oa) [o0,o1,some (.dct (kW L)),some (.ref t.nx),some (.str h),o5,o6,o7] s=.ok (LS [kn e.th,kn e.mr,kn e.ls]) s:=oN (l:=[.int e.th,.int e.mr,.int e.ls]) (s1:=s) (by simp only [xIter,x2,xVar,Out.bind,ag,ar,iv]) (show (3:Nat)≤100000 by decide) c
 have n2:(0+1+1:Nat)≤100000:=by decide
 have ad:fAdd (.lst [.str (ac "house"),.str h]) (LS [kn e.th,kn e.mr,kn e.ls]) s=.ok (LS [ac "house",h,kn e.th,kn e.mr,kn e.ls]) s:=rfl
 unfold lF
 refine (j6 (lN d)).trans ?_
 simp only [jF,jE]
 rw [← hs] at ad ⊢
 refine sf rfl (nT (k:=1921) (l:=[ac "house",h,kn e.th,kn e.mr,kn e.ls]) ?_ (by decide) (rK o) (show (1921+1) * 5≤16777216 by decide)) hX
 simp only [x2,xLst,xCons,xNil,xC,xVar,Out.bind,ag,ar,aC,aV,n2,if_true,ad]
def qw (h:Str) (l:Hl) (ns:List Str):List Str:=((ns.map (kc l)).filter fun q=>decide (0 < q.2.1)).map (C0 h)
theorem tV (a:Adr) {h:Str} (hh:Sm h) (l:Hl) (hs:∀ n∈l.map (·.1),Sm n∧ShwQ (jW l n)) (o0 o1 o2:Option PV):∀ (ns:List Str) (X:List Str) (o5 o7:Option PV),(∀ n∈ns,n∈l.map (·.1))→X.length+ns.length < 1000 →
  ∃ u5 u7,kM (j9 (yName 7) (kg a)) (ns.map .str) [o0,o1,o2,some (.ref t.nx),some (.str h),o5,some (.dct (hP l)),o7] (t.add (.lst (X.map .str)))=.nx [o0,o1,o2,some (.ref t.nx),some (.str h),u5,some (.dct (hP l)),u7] (t.add (.lst ((X++qw h l ns).map .str)))
 | [],X,o5,o7,_,_=>⟨o5,o7,by simp [kM,qw]⟩
 | n::ns,X,o5,o7,hn,hX=>by
  rw [aC] at hX
  have hin:=hn n ap
  obtain ⟨sn,sq⟩:=hs n hin
  have hv:=wO l n hin
  have hb:j9 (yName 7) (kg a) (.str n) [o0,o1,o2,some (.ref t.nx),some (.str h),o5,some (.dct (hP l)),o7] (t.add (.lst (X.map .str)))=kg a [o0,o1,o2,some (.ref t.nx),some (.str h),o5,some (.dct (hP l)),some (.str n)] (t.add (.lst (X.map .str))):=rfl
  have i1:∀ s:Sto,fIx (.dct (hP l)) (.str n) s=.ok (frP (jW l n)) s:=fun s=>by simp [fIx,lsOf,dcOf,kyOf,hv]
  have i0:∀ s:Sto,fIx (frP (jW l n)) (.int 0) s=.ok (.int (jW l n).1) s:=fun s=>by simp [fIx,lsOf,frP,at0]
  have gt:∀ s:Sto,fGt (.int (jW l n).1) (.int 0) s=.ok (.bl (decide (0 < (jW l n).1))) s:=fun s=>by simp [fGt,fCmp]
  have ex:qw h l (n::ns)=(if 0 < (jW l n).1 then [C0 h (n,jW l n)] else [])++qw h l ns:=by
   unfold qw
   rw [au,g6,pS]
   by_cases z:0 < (jW l n).1
   ·rw [if_pos (decide_eq_true z),if_pos z,au];rfl
   ·rw [if_neg (by simpa using z),if_neg z];rfl
  rw [au]
  by_cases z:0 < (jW l n).1
  ·have fe:=DP a (t.add (.lst (X.map .str))) sq
   have n4:(0+1+1+1+1:Nat)≤100000:=by decide
   have st:kg a [o0,o1,o2,some (.ref t.nx),some (.str h),o5,some (.dct (hP l)),some (.str n)] (t.add (.lst (X.map .str)))=.nx [o0,o1,o2,some (.ref t.nx),some (.str h),some (LS [ac "share",h,n,lM (jW l n)]),some (.dct (hP l)),some (.str n)] (t.add (.lst ((X++[C0 h (n,jW l n)]).map .str))):=by
    unfold kg
    rw [y3 (s1:=t.add (.lst (X.map .str))) (by
     simp only [xTr,x2,xVar,xC,Out.bind,ag,ar,i1,i0,gt,decide_eq_true z])]
    refine (j6 (ρ':=[o0,o1,o2,some (.ref t.nx),some (.str h),some (LS [ac "share",h,n,lM (jW l n)]),some (.dct (hP l)),some (.str n)]) (s':=t.add (.lst (X.map .str))) (lN ?_)).trans ?_
    ·simp only [xLst,xCons,xNil,xC,xVar,xCall,x2,Out.bind,ag,ar,aC,aV,i1,if_true,fe,n4]
     rfl
    ·exact sf rfl (nT (k:=3900) (l:=[ac "share",h,n,lM (jW l n)]) rfl (by decide) (rC (q:=(n,jW l n)) ⟨hh,sn,sq⟩) (show (3900+1) * 4≤16777216 by decide)) (by omega)
   obtain ⟨u5,u7,ih⟩:=tV a hh l hs o0 o1 o2 ns (X++[C0 h (n,jW l n)]) (some (LS [ac "share",h,n,lM (jW l n)])) (some (.str n)) (fun x hx=>hn x (ak _ hx)) (by rw [aO,ge];omega)
   refine ⟨u5,u7,?_⟩
   unfold kM
   rw [hb,st,ex,if_pos z,← bI]
   exact ih
  ·have st:kg a [o0,o1,o2,some (.ref t.nx),some (.str h),o5,some (.dct (hP l)),some (.str n)] (t.add (.lst (X.map .str)))=.nx [o0,o1,o2,some (.ref t.nx),some (.str h),o5,some (.dct (hP l)),some (.str n)] (t.add (.lst (X.map .str))):=by
    unfold kg
    exact wN (by simp only [xTr,x2,xVar,xC,Out.bind,ag,ar,i1,i0,gt,decide_eq_false z])
   obtain ⟨u5,u7,ih⟩:=tV a hh l hs o0 o1 o2 ns X o5 (some (.str n)) (fun x hx=>hn x (ak _ hx)) (by omega)
   refine ⟨u5,u7,?_⟩
   unfold kM
   rw [hb,st,ex,if_neg z,cv]
   exact ih
end
theorem Pairs.renum {N:List Str}{c:Nat}{L:List Ent}{M:List (Str×Hl)} (P:Pairs N c L M):∀ L':List Ent,L'.map (·.nm)=L.map (·.nm)→L'.map (·.held)=L.map (·.held)→(∀ e∈L',0≤e.ls)→Pairs N c L' M:=by
 induction P with
 | nil =>
  intro L' h1 _ _
  cases L' with
  | nil=>exact .nil
  | cons x r=>cases h1
 | @cons e m L M a1 a2 a3 a4 P ih =>
  intro L' h1 h2 h3
  cases L' with
  | nil=>cases h1
  | cons x r =>
   rw [au,au,List.cons.injEq] at h1 h2
   exact .cons (h1.1.trans a1) (by rw [h2.1];exact a2) a3 (h3 x ap) (ih r h1.2 h2.2 fun y hy=>h3 y (ak _ hy))
structure Wnm (pp hs:List Str) (L:List Ent) (M:List (Str×Hl)):Prop where
 w:Words pp hs
 p:Pairs (pp++hs) 5 L M
 n:L.map (·.nm)=hs
 s:∀ e∈L,Shw e.th∧Shw e.mr∧Shw e.ls
section
variable {t:Sto}{nb:Nat}{pp hs:List Str}{L:List Ent}{M:List (Str×Hl)}
theorem CC {q:Int×Int} (h:FrC 5 q):ShwQ q:=⟨yV (k:=193 * 5+2) (by decide) h.top,yV (k:=192 * 5+2) (by decide) h.bb⟩
theorem Wnm.ent_ok (W:Wnm pp hs L M):∀ e∈L,EntOk e:=by
 have key:∀ {L:List Ent}{M:List (Str×Hl)},Pairs (pp++hs) 5 L M→∀ e∈L,∃ l,HR 5 e.held l:=by
  intro L M P
  induction P with
  | nil=>intro e he;cases he
  | cons a1 a2 a3 a4 P ih =>
   intro x hx
   rcases ai.mp hx with rfl | hx
   ·exact ⟨_,a2⟩
   ·exact ih x hx
 intro e he
 obtain ⟨l,R⟩:=key W.p e he
 obtain ⟨s1,s2,s3⟩:=W.s e he
 have hn:e.nm∈hs:=by rw [← W.n];exact aj.mpr ⟨e,he,rfl⟩
 refine ⟨W.w.sm _ (aP _ hn),by have:=R.l1;omega,s1,s2,s3,fun n hn=>⟨R.sm n (R.had (by rw [← R.q];exact (R.nm n).mp hn)),CC (R.fr n)⟩⟩
theorem Wnm.bok (W:Wnm pp hs L M) (hg:t.get nb=some (.book pp L)):Bok t nb pp L :=
 ⟨hg,fun n hn=>W.w.sm n (bV _ hn),W.w.p6,by have:=W.w.h8;rw [← W.n,af] at this;exact this,W.ent_ok⟩
theorem Wnm.lines (W:Wnm pp hs L M) (a:Adr) (t:Sto):mO a [LS (srt pp),.dct (kS M),.dct (kW L)] t=.ok (LS ((mK pp L).map qx)) (Sto.bump t):=by
 have B:Bok (t.add (.book pp L)) t.nx pp L:=W.bok (by rw [kR,if_pos rfl])
 have p6:=W.w.p6
 have h8:=W.w.h8
 have nmM:M.map (·.1)=hs:=by rw [← W.p.names,W.n]
 have hso:∀ s:Sto,jU [.dct (kS M)] s=.ok (LS (srt hs)) s:=fun s=>by
  have:hs.length < 64:=by omega
  simp [jU,lsOf,dcOf,rV,nmM,this]
 have ent_at:∀ h∈hs,kO L h=some (ent L h)∧tR (.hou h (ent L h))∧HR 5 (ent L h).held (lk M h)∧mQ (kS M) (am h)=some (.dct (hP (lk M h))):=fun h hh=>by
  obtain ⟨f1,f2,f3⟩:=B.find (h:=h) (by rw [W.n];exact hh)
  obtain ⟨e,g1,g2,g3⟩:=yy W.p (h:=h) (by rw [nmM];exact hh)
  rw [f1] at g1
  cases g1
  have o:=W.ent_ok _ f3
  exact ⟨f1,⟨W.w.sm h (aP _ hh),o.th,o.mr,o.ls⟩,g2,g3⟩
 have sub:∀ h∈srt hs,h∈hs:=fun h hh=>(jZ hs).mem_iff.mp hh
 have hl:(srt hs).length=hs.length:=jT hs
 have er:(mK pp L).map qx=(srt pp).map oC++(srt hs).map (fun h=>uF h (ent L h))++((srt hs).map fun h=>qw h (lk M h) (srt ((lk M h).map (·.1)))).flatten:=by
  unfold mK
  rw [W.n,aD,aD,aF,aF,List.map_flatten,aF]
  congr 2
  refine bB fun h hh=>?_
  obtain ⟨_,_,R,_⟩:=ent_at h (sub h hh)
  show (m9 L h).map qx=_
  unfold m9 qw
  rw [aF]
  have:=R.shown
  unfold My.shown at this
  rw [this]
  rfl
 rw [er]
 generalize srt hs=H at *
 have c1:=mF (s:=t) (cap:=[]) (e:=x2 (xC (.str (ac "person "))) (xVar 0) fAdd) PV.str (fun n=>.str (oC n)) (srt pp) (fun n hn=>by
  have:=(W.w.sm n (bV _ ((jZ pp).mem_iff.mp hn))).1
  have l7:(ac "person ").length=7:=rfl
  have e:fAdd (.str (ac "person ")) (.str n) t=.ok (.str (oC n)) t:=by
   show (if (ac "person ").length+n.length≤100000 then Out.ok (PV.str (ac "person "++n)) t else Out.bad)=_
   rw [if_pos (by omega)]
   rfl
  simp only [x2,xC,xVar,Out.bind,ag,e])
 have em:(srt pp).map (fun n=>PV.str (oC n))=((srt pp).map oC).map .str:=by rw [aF];rfl
 rw [em] at c1
 have d1:sx (xIter (xVar 0)) [] nZ (x2 (xC (.str (ac "person "))) (xVar 0) fAdd) [some (LS (srt pp)),some (.dct (kS M)),some (.dct (kW L)),none,none,none,none,none] t=.ok (.ref t.nx) (t.add (.lst (((srt pp).map oC).map .str))):=by
  unfold sx
  have hit:xIter (xVar 0) [some (LS (srt pp)),some (.dct (kS M)),some (.dct (kW L)),none,none,none,none,none] t=.ok ((srt pp).map .str) t:=rfl
  rw [hit]
  simp only [Out.bind]
  rw [if_pos (by rw [af,jT];omega)]
  have c1':kK nZ (x2 (xC (.str (ac "person "))) (xVar 0) fAdd) (kj [] [some (LS (srt pp)),some (.dct (kS M)),some (.dct (kW L)),none,none,none,none,none]) ((srt pp).map .str) t=_:=c1
  rw [c1']
 obtain ⟨ρ2,s2,lo2,rfl,o4,o5,rfl⟩:=p8 (body:=j9 (yName 4) (lF a)) (H.map .str)
  (fun k ρ s=>t.add (.lst (((srt pp).map oC++(H.take k).map (fun h=>uF h (ent L h))).map .str))=s∧∃ o4 o5,ρ=[some (LS (srt pp)),some (.dct (kS M)),some (.dct (kW L)),some (.ref t.nx),o4,o5,none,none])
  (fun k q ρ s hq hI=>by
   obtain ⟨rfl,o4,o5,rfl⟩:=hI
   rw [bo] at hq
   obtain ⟨h,hh,rfl⟩:=cA.mp hq
   obtain ⟨f1,ro,_,_⟩:=ent_at h (sub h (bN hh))
   have st:=BC (t:=t) a ro f1 (X:=(srt pp).map oC++(H.take k).map (fun h=>uF h (ent L h))) (by rw [aO,af,af,jT,bP];omega) (some (LS (srt pp))) (some (.dct (kS M))) o5 none none
   have et:(H.take (k+1)).map (fun h=>uF h (ent L h))=(H.take k).map (fun h=>uF h (ent L h))++[uF h (ent L h)]:=by rw [bX,hh,aD];rfl
   refine ⟨_,_,st,?_,some (.str h),_,rfl⟩
   rw [et,bI]) (ρ:=[some (LS (srt pp)),some (.dct (kS M)),some (.dct (kW L)),some (.ref t.nx),none,none,none,none]) (s:=t.add (.lst (((srt pp).map oC).map .str))) ⟨by simp,none,none,rfl⟩
 rw [af,cD] at lo2
 have slim:∀ k,(((H.take k).map fun h=>qw h (lk M h) (srt ((lk M h).map (·.1)))).flatten).length≤6 * k∧k≤H.length∨H.length < k:=by
  intro k
  induction k with
  | zero=>exact .inl ⟨bc _,bc _⟩
  | succ k ih =>
   by_cases z:k < H.length
   ·refine .inl ⟨?_,z⟩
    rcases ih with ih | ih
    ·obtain ⟨h,hh⟩:∃ h,H[k]?=some h:=⟨_,bu z⟩
     obtain ⟨_,_,R,_⟩:=ent_at h (sub h (bN hh))
     rw [bX,hh,aD,gw,aO]
     have:(qw h (lk M h) (srt ((lk M h).map (·.1)))).length≤6:=by
      unfold qw
      rw [af]
      refine aJ (eB _ _) ?_
      rw [af,jT,af]
      exact R.l2
     simp only [Option.toList_some,au,bQ,b8,g5,bZ]
     omega
    ·omega
   ·exact .inr (by omega)
 obtain ⟨ρ3,s3,lo3,rfl,u4,u5,u6,u7,rfl⟩:=p8 (body:=j9 (yName 4) (lE a)) (H.map .str)
  (fun k ρ s=>t.add (.lst (((srt pp).map oC++H.map (fun h=>uF h (ent L h))++((H.take k).map fun h=>qw h (lk M h) (srt ((lk M h).map (·.1)))).flatten).map .str))=s∧∃ o4 o5 o6 o7,ρ=[some (LS (srt pp)),some (.dct (kS M)),some (.dct (kW L)),some (.ref t.nx),o4,o5,o6,o7])
  (fun k q ρ s hq hI=>by
   obtain ⟨rfl,o4,o5,o6,o7,rfl⟩:=hI
   rw [bo] at hq
   obtain ⟨h,hh,rfl⟩:=cA.mp hq
   have hk:k < H.length:=(a9.mp hh).1
   have hin:=sub h (bN hh)
   obtain ⟨f1,ro,R,hv⟩:=ent_at h hin
   have hx:((srt pp).map oC++H.map (fun h=>uF h (ent L h))++((H.take k).map fun h=>qw h (lk M h) (srt ((lk M h).map (·.1)))).flatten).length+(srt ((lk M h).map (·.1))).length < 1000:=by
    rw [aO,aO,af,af,jT,jT,af]
    have:=R.l2
    rcases slim k with z | z
    ·omega
    ·omega
   obtain ⟨v5,v7,lp⟩:=tV (t:=t) a (W.w.sm h (aP _ hin)) (lk M h) (fun n hn=>⟨R.sm n hn,by rw [← R.q];exact CC (R.fr n)⟩) (some (LS (srt pp))) (some (.dct (kS M))) (some (.dct (kW L))) (srt ((lk M h).map (·.1))) ((srt pp).map oC++H.map (fun h=>uF h (ent L h))++((H.take k).map fun h=>qw h (lk M h) (srt ((lk M h).map (·.1)))).flatten) o5 o7 (fun n hn=>(jZ _).mem_iff.mp hn) hx
   have et:((H.take (k+1)).map fun h=>qw h (lk M h) (srt ((lk M h).map (·.1)))).flatten=((H.take k).map fun h=>qw h (lk M h) (srt ((lk M h).map (·.1)))).flatten++qw h (lk M h) (srt ((lk M h).map (·.1))):=by rw [bX,hh,aD,gw];simp
   generalize hXe:(srt pp).map oC++H.map (fun h=>uF h (ent L h))++((H.take k).map fun h=>qw h (lk M h) (srt ((lk M h).map (·.1)))).flatten=X at *
   refine ⟨[some (LS (srt pp)),some (.dct (kS M)),some (.dct (kW L)),some (.ref t.nx),some (.str h),v5,some (.dct (hP (lk M h))),v7],t.add (.lst ((X++qw h (lk M h) (srt ((lk M h).map (·.1)))).map .str)),?_,?_,some (.str h),v5,some (.dct (hP (lk M h))),v7,rfl⟩
   ·show lE a [some (LS (srt pp)),some (.dct (kS M)),some (.dct (kW L)),some (.ref t.nx),some (.str h),o5,o6,o7] (t.add (.lst (X.map .str)))=_
    unfold lE
    have iv:∀ s:Sto,fIx (.dct (kS M)) (.str h) s=.ok (.dct (hP (lk M h))) s:=fun s=>by simp [fIx,lsOf,dcOf,kyOf,hv]
    have so:∀ s:Sto,jU [.dct (hP (lk M h))] s=.ok (LS (srt ((lk M h).map (·.1)))) s:=fun s=>by
     have:(lk M h).length < 64:=by have:=R.l2;omega
     simp [jU,lsOf,dcOf,zx,this]
    refine (j6 (ρ':=[some (LS (srt pp)),some (.dct (kS M)),some (.dct (kW L)),some (.ref t.nx),some (.str h),o5,some (.dct (hP (lk M h))),o7]) (s':=t.add (.lst (X.map .str))) (lN ?_)).trans ?_
    ·simp only [x2,xVar,Out.bind,ag,ar,iv]
    ·exact nN (l:=(srt ((lk M h).map (·.1))).map .str) (s1:=t.add (.lst (X.map .str))) (by simp only [xIter,xB,xCons,xNil,xVar,Out.bind,ag,ar,so]) lp
   ·rw [et,← bI,hXe]) (ρ:=[some (LS (srt pp)),some (.dct (kS M)),some (.dct (kW L)),some (.ref t.nx),o4,o5,none,none]) (s:=t.add (.lst (((srt pp).map oC++H.map (fun h=>uF h (ent L h))).map .str))) ⟨by simp,o4,o5,none,none,rfl⟩
 rw [af,cD] at lo3
 refine oR ?_
 unfold qC
 refine (j6 (ρ':=[some (LS (srt pp)),some (.dct (kS M)),some (.dct (kW L)),some (.ref t.nx),none,none,none,none]) (lN d1)).trans ?_
 refine (j6 (nN (l:=H.map .str) (s1:=t.add (.lst (((srt pp).map oC).map .str))) (by simp only [xIter,xB,xCons,xNil,xVar,Out.bind,ag,ar,hso]) lo2)).trans ?_
 refine (j6 (nN (l:=H.map .str) (by simp only [xIter,xB,xCons,xNil,xVar,Out.bind,ag,ar,hso]) lo3)).trans ?_
 refine nI ?_
 simp [xFrz,xVar,frz1,Out.bind,kR,zC]
theorem DC (s:Sto) (p n:Nat) (pp:List Str) (L:List Ent) (x y:Int):(kst s p n pp L x y).get (s.nx+1)=some (.book pp L):=by
 show lf ((s.nx+1,Cell.book pp L)::_) _=_
 rw [n9,if_pos rfl]
theorem DV {s:Sto}{n k:Nat} (h:k≠n):(s.del n).get k=s.get k:=pC h
theorem xf (a:Adr) (s:Sto) (hs0:s.nx=1) (hP:IsPurse s 0):∃ pp hs L M nb t',Wnm pp hs L M∧t'.get nb=some (.book pp L)∧nb < t'.nx∧lh a [.ref 0] s=.ok (.lst [.ref nb,LS (srt pp),.dct (kS M),.dct (kW L)]) t':=by
 obtain ⟨n,pp,hs,L,M,x,y,hn,Wd,Pr,Nm,e1⟩:=BX a s 0 (by omega) hP
 have g0:=DC s 0 n pp L x y
 have hpu:IsPurse (kst s 0 n pp L x y) 0:=ve hP (fun q hq=>by cases aE.mp hq;exact fun z=>by simp only at z;omega) x y
 have hnx:(kst s 0 n pp L x y).nx=n:=rfl
 have hne:(0:Nat)≠s.nx+1:=by omega
 have nmM:M.map (·.1)=hs:=by rw [← Pr.names,Nm]
 have ek:((kS M).map fun kv=>xM kv.1)=hs.map PV.str:=by
  rw [← nmM]
  unfold kS
  simp [xM]
 generalize kst s 0 n pp L x y=t at *
 generalize s.nx+1=nb at *
 have H0:Nst 0 nb t.nx pp ([]++L) (kW []) (t.add (.dct [])):=by
  refine ⟨by rw [kR,if_neg (by omega)];exact g0,?_,by rw [kR,if_pos rfl];rfl,?_,?_,?_,hne,by omega,by omega⟩
  ·obtain ⟨x,y,e⟩:=hpu
   exact ⟨x,y,by rw [kR,if_neg (by omega)];exact e⟩
  ·show 0 < t.nx+1;omega
  ·show nb < t.nx+1;omega
  ·show t.nx < t.nx+1;omega
 obtain ⟨L',u5,u6,u7,t',q1,q2,q3,q4,q5⟩:=Nst.loop a (some (LS (srt pp))) (some (.dct (kS M))) L [] _ none none none H0 (by rw [cv,Nm];exact (bz.mp Wd.nd).2.1) (fun e he=>Wd.sm _ (aP _ (by rw [← Nm];exact aj.mpr ⟨e,he,rfl⟩))) (by
  have:=congrArg cL Nm
  rw [af] at this
  have:=Wd.h8
  rw [aV]
  omega)
 rw [cv] at q5
 refine ⟨pp,hs,L',M,nb,t'.del t.nx,⟨Wd,Pr.renum L' q1 q2 fun e he=>(q3 e he).2.2.2,q1.trans Nm,fun e he=>⟨(q3 e he).1,(q3 e he).2.1,(q3 e he).2.2.1⟩⟩,(DV (fun z=>q5.n2 z.symm)).trans q5.g,q5.hn,oR ?_⟩
 unfold oE
 refine (j6 (ρ':=[some (.ref 0),some (.ref nb),some (LS (srt pp)),some (.dct (kS M)),none,none,none,none]) (s':=t) (by simp [sem,lQ,jU,lc,e1])).trans ?_
 refine (j6 (ρ':=[some (.ref 0),some (.ref nb),some (LS (srt pp)),some (.dct (kS M)),some (.ref t.nx),none,none,none]) (s':=t.add (.dct [])) (by simp [sem,lQ,jU,lc])).trans ?_
 rw [Nm] at q4
 refine (j6 (nN (l:=hs.map .str) (s1:=t.add (.dct [])) (by simp [sem,lQ,jU,lc,ek]) q4)).trans ?_
 refine nI ?_
 have fz:frz1 (.ref t.nx) t'=.ok (.dct (kW L')) (t'.del t.nx):=by simp only [frz1,q5.d]
 have n4:(0+1+1+1+1:Nat)≤100000:=by decide
 simp only [xLst,xCons,xNil,xFrz,xVar,Out.bind,ag,ar,fz,aC,aV,n4,if_true]
theorem Bok.text_ok (B:Bok t nb pp L):bJ (b9 (ac "\n") ((mK pp L).map qx))=true:=wy (j7 _) _ fun x hx=>by
 obtain ⟨r,hr,rfl⟩:=aj.mp hx
 exact E5 (B.rows_ok r hr)
theorem A4 {u:XS}{i:Nat} (n:Nat) (I:En→Sto→Prop) (h:∀ (k:Nat) ρ s,k < n→I ρ s→∃ ρ1 ρ' s',yName i (.int (k:Int)) ρ s=some ρ1∧u ρ1 s=.nx ρ' s'∧I ρ' s') {ρ:En}{s:Sto} (h0:I ρ s):∃ ρ' s',kM (j9 (yName i) u) (qk 0 n) ρ s=.nx ρ' s'∧I ρ' s' :=
 pH n (fun _=>I) (fun k ρ s hk hI=>by
  obtain ⟨ρ1,ρ',s',e1,e2,e3⟩:=h k ρ s hk hI
  refine ⟨ρ',s',?_,e3⟩
  unfold j9
  rw [e1]
  exact e2) h0
theorem xp (a:Adr) {n:Nat}{D:Str} (hD:bJ D=true) (hs:nW a [.ref n] t=.ok (.str D) t) (o0 o1 o2 o3 o4 o7 o8 o9 o10:Option PV):∃ u7 u8,qg a [o0,o1,o2,o3,o4,some (.str D),some (.ref n),o7,o8,o9,o10] t=.nx [o0,o1,o2,o3,o4,some (.str D),some (.ref n),u7,u8,o9,o10] t:=by
 obtain ⟨ρ',s',hlo,rfl,u7,u8,rfl⟩:=A4 (i:=7) (u:=wF a) 2
  (fun ρ s=>t=s∧∃ u7 u8,ρ=[o0,o1,o2,o3,o4,some (.str D),some (.ref n),u7,u8,o9,o10])
  (fun k ρ s hk hI=>by
   obtain ⟨rfl,u7,u8,rfl⟩:=hI
   refine ⟨[o0,o1,o2,o3,o4,some (.str D),some (.ref n),some (.int k),u8,o9,o10],[o0,o1,o2,o3,o4,some (.str D),some (.ref n),some (.int k),some (.str D),o9,o10],t,rfl,?_,rfl,some (.int k),some (.str D),rfl⟩
   unfold wF
   refine (j6 (ρ':=[o0,o1,o2,o3,o4,some (.str D),some (.ref n),some (.int k),some (.str D),o9,o10]) (s':=t) (lN ?_)).trans ?_
   ·simp only [xCall,xCons,xNil,xVar,Out.bind,ag,ar,aC,aV,if_true,hs]
   ·refine wN ?_
    have nd:=ne_str t hD
    have ty:tyOf t (.str D)=some .str:=rfl
    simp only [xOr,xNot,xTr,xIsiT,x2,xVar,Out.bind,ag,ar,ty,Ez,nd]
    rfl) (ρ:=[o0,o1,o2,o3,o4,some (.str D),some (.ref n),o7,o8,o9,o10]) (s:=t) ⟨rfl,o7,o8,rfl⟩
 refine ⟨u7,u8,?_⟩
 unfold qg
 exact nN (l:=qk 0 2) (s1:=t) (zk (n:=2) (by simp only [xCons,xC,xNil,Out.bind];rfl) (by decide)) hlo
theorem x2_at {f g:XE}{F:PV→PV→Sto→Out PV}{ρ:En}{s s1 s2:Sto}{v w:PV} (h1:f ρ s=.ok v s1) (h2:g ρ s1=.ok w s2):x2 f g F ρ s=F v w s2:=by unfold x2;rw [h1];simp only [Out.bind];rw [h2]
theorem Fu (a:Adr) (l:List Int) (hl:l.length≤63):∃ s',wW a [.seq (l.map .int)] ⟨0,[]⟩=.ok (.bl true) s':=by
 obtain ⟨x0,y0,e0⟩:=A9 a ⟨0,[]⟩ l hl
 have hP:IsPurse ((⟨0,[]⟩:Sto).add (.lst [.int x0,.int y0])) 0:=⟨x0,y0,rfl⟩
 have nx1:((⟨0,[]⟩:Sto).add (.lst [.int x0,.int y0])).nx=1:=rfl
 generalize (⟨0,[]⟩:Sto).add (.lst [.int x0,.int y0])=s1 at *
 obtain ⟨pp,hs,L,M,nb,t0,W,hg,hnb,e1⟩:=xf a s1 nx1 hP
 have e2:=W.lines a t0
 have hg1:(Sto.bump t0).get nb=some (.book pp L):=hg
 have hn1:nb < (Sto.bump t0).nx:=fD hnb
 generalize Sto.bump t0=t1 at *
 have B1:=W.bok hg1
 have len:=B1.rows_len
 have tok:=B1.text_ok
 have hlen:∀ x∈(mK pp L).map qx,x.length≤16000:=fun x hx=>by
  obtain ⟨r,hr,rfl⟩:=aj.mp hx
  exact zj (B1.rows_ok r hr)
 have etw:uM a [.ref nb] t1=.ok (.ref t1.nx) (t1.add (.book pp L)):=by simp [uM,ku,hg1]
 have B2:Bok (t1.add (.book pp L)) nb pp L:=W.bok (by rw [kR,if_neg (by omega)];exact hg1)
 have B3:Bok (t1.add (.book pp L)) t1.nx pp L:=W.bok (by rw [kR,if_pos rfl])
 generalize t1.add (.book pp L)=t2 at *
 have s2:=B2.shown a
 have s3:=B3.shown a
 generalize hD:b9 (ac "\n") ((mK pp L).map qx)=D at *
 obtain ⟨u7,u8,w1⟩:=xp a tok s2 (some (.seq (l.map .int))) (some (.ref nb)) (some (LS (srt pp))) (some (.dct (kS M))) (some (.dct (kW L))) none none none none
 obtain ⟨v7,v8,w2⟩:=xp a tok s3 (some (.seq (l.map .int))) (some (.ref nb)) (some (LS (srt pp))) (some (.dct (kS M))) (some (.dct (kW L))) u7 u8 none none
 have p6:=W.w.p6
 have smp:∀ n∈pp,Sm n:=fun n hn=>W.w.sm n (bV _ hn)
 have B4:Bok (t2.add (.book [] [])) t2.nx [] []:=⟨by rw [kR,if_pos rfl],fun n hn=>(by cases hn),by decide,by decide,fun e he=>(by cases he)⟩
 have s4:=B4.shown a
 have e4:b9 (ac "\n") ((mK [] []).map qx)=ac "":=by rw [tz];rfl
 rw [e4] at s4
 have ne4:=ne_str (t2.add (.book [] [])) (j7 "")
 obtain ⟨ρ5,t5,lo5,rfl,o10,rfl⟩:=p8 (body:=j9 (yName 10) (tQ a)) ((srt pp).reverse.map .str)
  (fun k ρ s=>t2.add (.book ((srt pp).reverse.take k) [])=s∧∃ o10,ρ=[some (.seq (l.map .int)),some (.ref nb),some (LS (srt pp)),some (.dct (kS M)),some (.dct (kW L)),some (.str D),some (.ref t1.nx),v7,v8,some (.ref t2.nx),o10])
  (fun k q ρ s hq hI=>by
   obtain ⟨rfl,o10,rfl⟩:=hI
   rw [bo] at hq
   obtain ⟨w,hw,rfl⟩:=cA.mp hq
   obtain ⟨hk,ew⟩:=a9.mp hw
   have hin:w∈pp:=(jZ pp).mem_iff.mp (List.mem_reverse.mp (bN hw))
   have ndr:(srt pp).reverse.Nodup:=(List.reverse_perm _).nodup_iff.mpr ((jZ pp).nodup_iff.mpr (bz.mp W.w.nd).1)
   have hno:w∉(srt pp).reverse.take k:=fun z=>by
    rw [← gd k (srt pp).reverse,bz] at ndr
    refine ndr.2.2 w z w ?_ rfl
    rw [cg hk,ew]
    exact ap
   have hdu:nQ a ((srt pp).reverse.take k) [] w=none:=by
    have h1:qz w=true:=W.w.nm w (bV _ hin)
    have h2:(lz ((srt pp).reverse.take k) w || lS [] w)=false:=by
     rw [dg]
     intro z
     rw [eU,qN,n8] at z
     rcases z with z | z
     ·exact hno z
     ·cases z
    have h3:¬ 6≤((srt pp).reverse.take k).length:=by
     rw [dE,jT] at hk
     rw [bP,dE,jT];omega
    unfold nQ ng
    simp only [h1,h2,h3,Bool.true_eq_false,fb,if_false]
   have eg:(t2.add (.book ((srt pp).reverse.take k) [])).get t2.nx=some (.book ((srt pp).reverse.take k) []):=by rw [kR,if_pos rfl]
   have ep:lW a [.ref t2.nx,.str w] (t2.add (.book ((srt pp).reverse.take k) []))=.ok .non (t2.add (.book ((srt pp).reverse.take k++[w]) [])):=by
    simp only [lW,ku,eg,hdu]
    rw [if_pos (smp w hin).nm,qi]
   have et:(srt pp).reverse.take (k+1)=(srt pp).reverse.take k++[w]:=by rw [bX,hw];rfl
   refine ⟨[some (.seq (l.map .int)),some (.ref nb),some (LS (srt pp)),some (.dct (kS M)),some (.dct (kW L)),some (.str D),some (.ref t1.nx),v7,v8,some (.ref t2.nx),some (.str w)],t2.add (.book ((srt pp).reverse.take k++[w]) []),?_,by rw [et],some (.str w),rfl⟩
   show tQ a [some (.seq (l.map .int)),some (.ref nb),some (LS (srt pp)),some (.dct (kS M)),some (.dct (kW L)),some (.str D),some (.ref t1.nx),v7,v8,some (.ref t2.nx),some (.str w)] _=_
   unfold tQ
   refine AC (v:=.non) ?_
   simp only [xBM,xCons,xNil,xVar,Out.bind,ag,ar,eg,aC,aV,if_true]
   exact ep) (ρ:=[some (.seq (l.map .int)),some (.ref nb),some (LS (srt pp)),some (.dct (kS M)),some (.dct (kW L)),some (.str D),some (.ref t1.nx),v7,v8,some (.ref t2.nx),none]) (s:=t2.add (.book [] [])) ⟨by rw [List.take_zero],none,rfl⟩
 rw [af,cD] at lo5
 have B6:Bok (t2.add (.book (srt pp).reverse [])) t2.nx (srt pp).reverse []:=⟨by rw [kR,if_pos rfl],fun n hn=>smp n ((jZ pp).mem_iff.mp (List.mem_reverse.mp hn)),by rw [dE,jT];exact p6,by decide,fun e he=>(by cases he)⟩
 have s6:=B6.shown a
 have tok6:=B6.text_ok
 have er:(mK (srt pp).reverse []).map qx=(srt pp).map oC:=by
  unfold mK
  have:srt (srt pp).reverse=srt pp:=rQ ((List.reverse_perm _).trans (jZ pp))
  rw [this]
  simp [srt,qx]
 rw [er] at s6 tok6
 have c7:=mF (s:=t2.add (.book (srt pp).reverse [])) (cap:=[]) (e:=x2 (xC (.str (ac "person "))) (xVar 0) fAdd) PV.str (fun n=>.str (oC n)) (srt pp) (fun n hn=>by
  have:=(smp n ((jZ pp).mem_iff.mp hn)).1
  have l7:(ac "person ").length=7:=rfl
  have e:fAdd (.str (ac "person ")) (.str n) (t2.add (.book (srt pp).reverse []))=.ok (.str (oC n)) (t2.add (.book (srt pp).reverse [])):=by
   show (if (ac "person ").length+n.length≤100000 then Out.ok (PV.str (ac "person "++n)) _ else Out.bad)=_
   rw [if_pos (by omega)]
   rfl
  simp only [x2,xC,xVar,Out.bind,ag,e])
 have em:(srt pp).map (fun n=>PV.str (oC n))=((srt pp).map oC).map .str:=by rw [aF];rfl
 rw [em] at c7
 have eqd:=wR (t2.add (.book (srt pp).reverse [])) tok6 tok6
 rw [beq_self_eq_true] at eqd
 have n2:(0+1+1:Nat)≤100000:=by decide
 refine ⟨t2.add (.book (srt pp).reverse []),oR ?_⟩
 unfold ED
 refine (j6 (ρ':=[some (.seq (l.map .int)),some (.ref nb),some (LS (srt pp)),some (.dct (kS M)),some (.dct (kW L)),none,none,none,none,none,none]) (s':=t0) (by simp [sem,lQ,jU,lc,e0,e1])).trans ?_
 refine (j6 (ρ':=[some (.seq (l.map .int)),some (.ref nb),some (LS (srt pp)),some (.dct (kS M)),some (.dct (kW L)),some (.str D),none,none,none,none,none]) (s':=t1) (lN ?_)).trans ?_
 ·rw [← hD]
  refine nT (k:=16000) (l:=(mK pp L).map qx) ?_ (by decide) hlen (by rw [af];omega)
  simp only [xCall,xCons,xNil,xVar,Out.bind,ag,ar,aC,aV,if_true,e2]
 refine (j6 (nN (ρ':=[some (.seq (l.map .int)),some (.ref nb),some (LS (srt pp)),some (.dct (kS M)),some (.dct (kW L)),some (.str D),some (.ref t1.nx),v7,v8,none,none]) (s':=t2) (l:=[.ref nb,.ref t1.nx]) (s1:=t2) ?_ ?_)).trans ?_
 ·simp only [xIter,xLst,xCons,xNil,xVar,xBM,Out.bind,ag,ar,hg1,aV,je,if_true,etw,aC,n2]
 ·have hb:∀ (n:Nat) (o6 o7 o8:Option PV),j9 (yName 6) (qg a) (.ref n) [some (.seq (l.map .int)),some (.ref nb),some (LS (srt pp)),some (.dct (kS M)),some (.dct (kW L)),some (.str D),o6,o7,o8,none,none] t2=qg a [some (.seq (l.map .int)),some (.ref nb),some (LS (srt pp)),some (.dct (kS M)),some (.dct (kW L)),some (.str D),some (.ref n),o7,o8,none,none] t2:=fun n o6 o7 o8=>by
   generalize qg a=u
   rfl
  unfold kM
  rw [hb,w1]
  show kM _ [.ref t1.nx] _ _=_
  unfold kM
  rw [hb,w2]
  rfl
 refine (j6 (ρ':=[some (.seq (l.map .int)),some (.ref nb),some (LS (srt pp)),some (.dct (kS M)),some (.dct (kW L)),some (.str D),some (.ref t1.nx),v7,v8,some (.ref t2.nx),none]) (s':=t2.add (.book [] [])) (lN rfl)).trans ?_
 refine (j6 (wN (s1:=t2.add (.book [] [])) ?_)).trans ?_
 ·simp only [xTr,x2,xCall,xCons,xNil,xVar,xC,Out.bind,ag,ar,aC,aV,if_true,s4,ne4]
 refine (j6 (nN (l:=(srt pp).reverse.map .str) (s1:=t2.add (.book [] [])) ?_ lo5)).trans ?_
 ·simp only [xIter,FU,xVar,Out.bind,ag,ar,lsOf,List.map_reverse]
 refine nI ?_
 have dq:xJoin (xC (.str (ac "\n"))) (xCons (l4 (xIter (xVar 2)) [] nZ (x2 (xC (.str (ac "person "))) (xVar 0) fAdd)) xNil) [some (.seq (l.map .int)),some (.ref nb),some (LS (srt pp)),some (.dct (kS M)),some (.dct (kW L)),some (.str D),some (.ref t1.nx),v7,v8,some (.ref t2.nx),o10] (t2.add (.book (srt pp).reverse []))=.ok (.str (b9 (ac "\n") ((srt pp).map oC))) (t2.add (.book (srt pp).reverse [])) :=
  nT (k:=16) (oN (l:=(srt pp).map .str) (s1:=t2.add (.book (srt pp).reverse [])) rfl (by rw [af,jT];omega) c7) (by decide) (fun x hx=>by
   obtain ⟨n,hn,rfl⟩:=aj.mp hx
   have:=(smp n ((jZ pp).mem_iff.mp hn)).1
   show (ac "person "++n).length≤16
   rw [kC]
   have l7:(ac "person ").length=7:=rfl
   omega) (by rw [af,jT];omega)
 have sq:xCall 1 (nW a) (xCons (xVar 9) xNil) [some (.seq (l.map .int)),some (.ref nb),some (LS (srt pp)),some (.dct (kS M)),some (.dct (kW L)),some (.str D),some (.ref t1.nx),v7,v8,some (.ref t2.nx),o10] (t2.add (.book (srt pp).reverse []))=.ok (.str (b9 (ac "\n") ((srt pp).map oC))) (t2.add (.book (srt pp).reverse [])):=by
  simp only [xCall,xCons,xNil,xVar,Out.bind,ag,ar,aC,aV,if_true,s6]
 exact (x2_at sq dq).trans eqd
end
theorem DB {K:aa}{a:Adr}{H:Hp}{c:ae}{ns:List Int}{Q:VK}{E:XK} (hl:ns.length≤63) (ht:aA K ax "rules"=some none) (hO:Ed H) (hS:SqL K H c (ns.map V.int)) (k:∀ v H',v=.bl true→Q v H'):spD K a.Book 1 (wW a) [.ref c] H Q E:=by
 obtain ⟨s',e⟩:=Fu a ns hl
 have S0:SR K a.Book H ⟨fun _=>c,fun _=>[],[]⟩ ⟨0,[]⟩:=by
  refine ⟨gj,(by intro n hn;cases hn),(by intro q hq;cases hq),(by intro n hn;cases hn),(by intro n hn;cases hn),(by intro z hz;cases hz),fun P q t=>?_⟩
  obtain ⟨x,hx,c',h1,h2⟩:=t
  simp only [yh,aE] at hx
  subst hx
  unfold PySem.W.tabIn at h1
  rw [ht] at h1
  cases h1
 have R0:∀ (l:List Int),Reps K H ⟨fun _=>c,fun _=>[],[]⟩ ⟨0,[]⟩ (l.map V.int) (l.map PV.int):=fun l=>by
  induction l with
  | nil=>exact .nil
  | cons x r ih=>exact .cons .int ih
 have pu:Pur (⟨fun _=>c,fun _=>[],[]⟩:Mp) ⟨0,[]⟩ c:=⟨(by intro z;cases z),by intro n hn;cases hn⟩
 have hr:Rep K H ⟨fun _=>c,fun _=>[],[]⟩ ⟨0,[]⟩ (.ref c) (.seq (ns.map .int)):=by
  refine .seq ?_ (R0 ns)
  rcases hS with (h | h) | h
  ·rcases hO c with z | ⟨o,xs,z⟩
   ·rw [z] at h;cases h
   ·rw [z] at h;cases h
  ·exact .inl ⟨h,pu⟩
  ·exact .inr h
 refine ⟨rfl,[.seq (ns.map .int)],⟨0,[]⟩,_,.cons hr .nil,S0,?_⟩
 rw [e]
 intro u H' m' _ _ r
 cases r
 exact k _ _ rfl
open PyProof.Rows
def FL (K:aa) (f:ae) (x q:Str) (st:bT) (oc:ah) (od:Option ae) (kV dc pm:ah) (an:Option ae) (cd ct:ah) (sl:Array (Option ah)):Prop:=K.lookup f=some ⟨oc,od,.func (du x q (qe st) (nj st) (jO st) .none kV dc pm an cd ct),sl⟩
theorem mkF {P:aT}{w:bv}{K:aa}{mg:Str→Option ah}{base:bM}{x:Str}{k:Nat}{ps:List Str}{sp:Sp}{f:ae}{fd:bR} (h:FnOk P w K mg base (CXo P w) k f fd ps sp) (m:mg x=some (.ref f)) (hk:aB K (.ref f)=true) (b:Binds K fd ps []):Fn P w K mg base x k ps sp:=⟨f,fd,h,m,hk,b⟩
theorem mkM {P:aT}{w:bv}{K:aa}{mg:Str→Option ah}{base:bM}{C:ae}{x:Str}{k:Nat}{ps:List Str}{sp:Sp}{f:ae}{fd:bR} (h:FnOk P w K mg base (CXo P w) k f fd ps sp) (a:aq K (.ref C) x=some (some (.ref f))) (i:bF K (.ref f)=true) (hk:aB K (.ref f)=true) (c:Cls K C) (b:Binds K fd ps []):Mt P w K mg base C x k ps sp:=⟨f,fd,h,⟨a,i,hk⟩,c,b⟩
theorem all_mk {l:fB}{w:bv}{K:aa}{h:bM}{mg:Str→Option ah}{fa:ae} (X:K.In h) (G:h.Ns ax mg) (hfa:mg "law"=some (.ref fa))
  {X_OwnError X_NoName X_Twice X_TooMany X_NoHolder X_NoHouse X_NoLoss X_NoShare BK ZR ON f0 f1 f2 f3 f4 f5 f6 f7 f8 f9 f10 f11 f12 f13 f14 f15 f16 f17 f18 f19 f20 f21 f22 f23 f24 f25 f26 f27 f28 f29 f30 f31 f32 f33 f34 f35 f36 f37 f38 f39:ae}{od0 an0 od1 an1 od2 an2 od3 an3 od4 an4 od5 an5 od6 an6 od7 an7 od8 an8 od9 an9 od10 an10 od11 an11 od12 an12 od13 an13 od14 an14 od15 an15 od16 an16 od17 an17 od18 an18 od19 an19 od20 an20 od21 an21 od22 an22 od23 an23 od24 an24 od25 an25 od26 an26 od27 an27 od28 an28 od29 an29 od30 an30 od31 an31 od32 an32 od33 an33 od34 an34 od35 an35 od36 an36 od37 an37 od38 an38 od39 an39 odz odo:Option ae}{sl0 sl1 sl2 sl3 sl4 sl5 sl6 sl7 sl8 sl9 sl10 sl11 sl12 sl13 sl14 sl15 sl16 sl17 sl18 sl19 sl20 sl21 sl22 sl23 sl24 sl25 sl26 sl27 sl28 sl29 sl30 sl31 sl32 sl33 sl34 sl35 sl36 sl37 sl38 sl39 slz slo:Array (Option ah)}{oc0 kV0 dc0 pm0 cd0 ct0 oc1 kV1 dc1 pm1 cd1 ct1 oc2 kV2 dc2 pm2 cd2 ct2 oc3 kV3 dc3 pm3 cd3 ct3 oc4 kV4 dc4 pm4 cd4 ct4 oc5 kV5 dc5 pm5 cd5 ct5 oc6 kV6 dc6 pm6 cd6 ct6 oc7 kV7 dc7 pm7 cd7 ct7 oc8 kV8 dc8 pm8 cd8 ct8 oc9 kV9 dc9 pm9 cd9 ct9 oc10 kV10 dc10 pm10 cd10 ct10 oc11 kV11 dc11 pm11 cd11 ct11 oc12 kV12 dc12 pm12 cd12 ct12 oc13 kV13 dc13 pm13 cd13 ct13 oc14 kV14 dc14 pm14 cd14 ct14 oc15 kV15 dc15 pm15 cd15 ct15 oc16 kV16 dc16 pm16 cd16 ct16 oc17 kV17 dc17 pm17 cd17 ct17 oc18 kV18 dc18 pm18 cd18 ct18 oc19 kV19 dc19 pm19 cd19 ct19 oc20 kV20 dc20 pm20 cd20 ct20 oc21 kV21 dc21 pm21 cd21 ct21 oc22 kV22 dc22 pm22 cd22 ct22 oc23 kV23 dc23 pm23 cd23 ct23 oc24 kV24 dc24 pm24 cd24 ct24 oc25 kV25 dc25 pm25 cd25 ct25 oc26 kV26 dc26 pm26 cd26 ct26 oc27 kV27 dc27 pm27 cd27 ct27 oc28 kV28 dc28 pm28 cd28 ct28 oc29 kV29 dc29 pm29 cd29 ct29 oc30 kV30 dc30 pm30 cd30 ct30 oc31 kV31 dc31 pm31 cd31 ct31 oc32 kV32 dc32 pm32 cd32 ct32 oc33 kV33 dc33 pm33 cd33 ct33 oc34 kV34 dc34 pm34 cd34 ct34 oc35 kV35 dc35 pm35 cd35 ct35 oc36 kV36 dc36 pm36 cd36 ct36 oc37 kV37 dc37 pm37 cd37 ct37 oc38 kV38 dc38 pm38 cd38 ct38 oc39 kV39 dc39 pm39 cd39 ct39:ah}{tz0 tz1 to0 to1 tl tp th:Tok}{nz no:Nat}
  (jaa:aA K ax "OwnError"=some (some (.ref X_OwnError)))
  (jab:aA K ax "NoName"=some (some (.ref X_NoName)))
  (jac:aA K ax "Twice"=some (some (.ref X_Twice)))
  (jad:aA K ax "TooMany"=some (some (.ref X_TooMany)))
  (jae:aA K ax "NoHolder"=some (some (.ref X_NoHolder)))
  (jaf:aA K ax "NoHouse"=some (some (.ref X_NoHouse)))
  (jag:aA K ax "NoLoss"=some (some (.ref X_NoLoss)))
  (jah:aA K ax "NoShare"=some (some (.ref X_NoShare)))
  (jai:aA K ax "Book"=some (some (.ref BK)))
  (jaj:aA K ax "ZERO"=some (some (.ref ZR)))
  (jak:aA K ax "ONE"=some (some (.ref ON)))
  (jal:K.lookup ZR=some ⟨.type "tuple",odz,.seq #[.int 0 tz0,.int 1 tz1] nz,slz⟩)
  (jam:K.lookup ON=some ⟨.type "tuple",odo,.seq #[.int 1 to0,.int 1 to1] no,slo⟩)
  (jan:aA K ax "LONGEST_NAME"=some (some (.int 8 tl)))
  (jao:aA K ax "MOST_PERSONS"=some (some (.int 6 tp)))
  (jap:aA K ax "MOST_HOUSES"=some (some (.int 8 th)))
  (jaq:aA K ax "len"=some none)
  (jar:aA K ax "range"=some none)
  (jas:aA K ax "all"=some none)
  (jat:aA K ax "int"=some none)
  (jau:aA K ax "abs"=some none)
  (jav:aA K ax "sorted"=some none)
  (jaw:aA K ax "tuple"=some none)
  (jax:aA K ax "list"=some none)
  (jay:aA K ax "str"=some none)
  (jaz:aA K ax "bool"=some none)
  (ja0:aA K ax "isinstance"=some none)
  (ja1:aA K ax "ValueError"=some none)
  (ja2:aA K ax "any"=some none)
  (ja3:aA K ax "set"=some none)
  (ja4:aA K ax "max"=some none)
  (ja5:aA K ax "dict"=some none)
  (ja6:d6 K BK cU=true)
  (ja7:e9 K BK=true)
  (ja8:gx K BK=true)
  (ja9:aq K (.ref BK) "__setattr__"=some (some (.builtin "object.__setattr__")))
  (jba:gU K BK=true)
  (jbb:aB K (.ref BK)=true)
  (jbc:aq K (.ref BK) "people"=some none)
  (jbd:aq K (.ref BK) "things_of"=some none)
  (jbe:aq K (.ref BK) "mark_of"=some none)
  (jbf:aq K (.ref BK) "loss_of"=some none)
  (jbg:aq K (.ref BK) "held_of"=some none)
  (jbh:eZ K (.builtin "object.__class__") "__get__"=some (some (.builtin "getset_descriptor.__get__")))
  (jbi:gS K (.builtin "object.__class__")=some true)
  (jbj:cz K X_OwnError bmV "ValueError.__new__"=true)
  (jbk:aq K (.ref X_OwnError) "__getattribute__"=some (some (.builtin "BaseException.__getattribute__")))
  (jbl:aq K (.ref X_OwnError) "__getattr__"=some none)
  (jbm:aq K (.ref X_OwnError) "__class__"=some (some (.builtin "object.__class__")))
  (jbn:bG K X_OwnError (.type "object")=some true)
  (jbo:bG K X_OwnError (.type "BaseException")=some true)
  (jbp:cz K X_NoName bmV "ValueError.__new__"=true)
  (jbq:aq K (.ref X_NoName) "__getattribute__"=some (some (.builtin "BaseException.__getattribute__")))
  (jbr:aq K (.ref X_NoName) "__getattr__"=some none)
  (jbs:aq K (.ref X_NoName) "__class__"=some (some (.builtin "object.__class__")))
  (jbt:bG K X_NoName (.type "object")=some true)
  (jbu:bG K X_NoName (.type "BaseException")=some true)
  (jbv:cz K X_Twice bmV "ValueError.__new__"=true)
  (jbw:aq K (.ref X_Twice) "__getattribute__"=some (some (.builtin "BaseException.__getattribute__")))
  (jbx:aq K (.ref X_Twice) "__getattr__"=some none)
  (jby:aq K (.ref X_Twice) "__class__"=some (some (.builtin "object.__class__")))
  (jbz:bG K X_Twice (.type "object")=some true)
  (jb0:bG K X_Twice (.type "BaseException")=some true)
  (jb1:cz K X_TooMany bmV "ValueError.__new__"=true)
  (jb2:aq K (.ref X_TooMany) "__getattribute__"=some (some (.builtin "BaseException.__getattribute__")))
  (jb3:aq K (.ref X_TooMany) "__getattr__"=some none)
  (jb4:aq K (.ref X_TooMany) "__class__"=some (some (.builtin "object.__class__")))
  (jb5:bG K X_TooMany (.type "object")=some true)
  (jb6:bG K X_TooMany (.type "BaseException")=some true)
  (jb7:cz K X_NoHolder bmV "ValueError.__new__"=true)
  (jb8:aq K (.ref X_NoHolder) "__getattribute__"=some (some (.builtin "BaseException.__getattribute__")))
  (jb9:aq K (.ref X_NoHolder) "__getattr__"=some none)
  (jca:aq K (.ref X_NoHolder) "__class__"=some (some (.builtin "object.__class__")))
  (jcb:bG K X_NoHolder (.type "object")=some true)
  (jcc:bG K X_NoHolder (.type "BaseException")=some true)
  (jcd:cz K X_NoHouse bmV "ValueError.__new__"=true)
  (jce:aq K (.ref X_NoHouse) "__getattribute__"=some (some (.builtin "BaseException.__getattribute__")))
  (jcf:aq K (.ref X_NoHouse) "__getattr__"=some none)
  (jcg:aq K (.ref X_NoHouse) "__class__"=some (some (.builtin "object.__class__")))
  (jch:bG K X_NoHouse (.type "object")=some true)
  (jci:bG K X_NoHouse (.type "BaseException")=some true)
  (jcj:cz K X_NoLoss bmV "ValueError.__new__"=true)
  (jck:aq K (.ref X_NoLoss) "__getattribute__"=some (some (.builtin "BaseException.__getattribute__")))
  (jcl:aq K (.ref X_NoLoss) "__getattr__"=some none)
  (jcm:aq K (.ref X_NoLoss) "__class__"=some (some (.builtin "object.__class__")))
  (jcn:bG K X_NoLoss (.type "object")=some true)
  (jco:bG K X_NoLoss (.type "BaseException")=some true)
  (jcp:cz K X_NoShare bmV "ValueError.__new__"=true)
  (jcq:aq K (.ref X_NoShare) "__getattribute__"=some (some (.builtin "BaseException.__getattribute__")))
  (jcr:aq K (.ref X_NoShare) "__getattr__"=some none)
  (jcs:aq K (.ref X_NoShare) "__class__"=some (some (.builtin "object.__class__")))
  (jct:bG K X_NoShare (.type "object")=some true)
  (jcu:bG K X_NoShare (.type "BaseException")=some true)
  (jcv:aA K ax "is_name"=some (some (.ref f0)))
  (jcw:FL K f0 "is_name" "is_name" pQ oc0 od0 kV0 dc0 pm0 an0 cd0 ct0 sl0)
  (jcx:aG K cd0 "is_name"=true)
  (jcy:aB K (.ref f0)=true)
  (jcz:aA K ax "need_loss"=some (some (.ref f1)))
  (jc0:FL K f1 "need_loss" "need_loss" oX oc1 od1 kV1 dc1 pm1 an1 cd1 ct1 sl1)
  (jc1:aG K cd1 "need_loss"=true)
  (jc2:aB K (.ref f1)=true)
  (jc3:aA K ax "common_divisor"=some (some (.ref f2)))
  (jc4:FL K f2 "common_divisor" "common_divisor" lX oc2 od2 kV2 dc2 pm2 an2 cd2 ct2 sl2)
  (jc5:aG K cd2 "common_divisor"=true)
  (jc6:aB K (.ref f2)=true)
  (jc7:aA K ax "plus"=some (some (.ref f3)))
  (jc8:FL K f3 "plus" "plus" yW oc3 od3 kV3 dc3 pm3 an3 cd3 ct3 sl3)
  (jc9:aG K cd3 "plus"=true)
  (jda:aB K (.ref f3)=true)
  (jdb:aA K ax "minus"=some (some (.ref f4)))
  (jdc:FL K f4 "minus" "minus" wv oc4 od4 kV4 dc4 pm4 an4 cd4 ct4 sl4)
  (jdd:aG K cd4 "minus"=true)
  (jde:aB K (.ref f4)=true)
  (jdf:aA K ax "is_above"=some (some (.ref f5)))
  (jdg:FL K f5 "is_above" "is_above" qj oc5 od5 kV5 dc5 pm5 an5 cd5 ct5 sl5)
  (jdh:aG K cd5 "is_above"=true)
  (jdi:aB K (.ref f5)=true)
  (jdj:aq K (.ref BK) "__init__"=some (some (.ref f6)))
  (jdk:bF K (.ref f6)=true)
  (jdl:FL K f6 "__init__" "Book.__init__" pk oc6 od6 kV6 dc6 pm6 an6 cd6 ct6 sl6)
  (jdm:aG K cd6 "Book.__init__"=true)
  (jdn:aB K (.ref f6)=true)
  (jdo:aq K (.ref BK) "is_house"=some (some (.ref f7)))
  (jdp:bF K (.ref f7)=true)
  (jdq:FL K f7 "is_house" "Book.is_house" mx oc7 od7 kV7 dc7 pm7 an7 cd7 ct7 sl7)
  (jdr:aG K cd7 "Book.is_house"=true)
  (jds:aB K (.ref f7)=true)
  (jdt:aq K (.ref BK) "is_holder"=some (some (.ref f8)))
  (jdu:bF K (.ref f8)=true)
  (jdv:FL K f8 "is_holder" "Book.is_holder" lY oc8 od8 kV8 dc8 pm8 an8 cd8 ct8 sl8)
  (jdw:aG K cd8 "Book.is_holder"=true)
  (jdx:aB K (.ref f8)=true)
  (jdy:aq K (.ref BK) "need_house"=some (some (.ref f9)))
  (jdz:bF K (.ref f9)=true)
  (jd0:FL K f9 "need_house" "Book.need_house" lB oc9 od9 kV9 dc9 pm9 an9 cd9 ct9 sl9)
  (jd1:aG K cd9 "Book.need_house"=true)
  (jd2:aB K (.ref f9)=true)
  (jd3:aq K (.ref BK) "need_holder"=some (some (.ref f10)))
  (jd4:bF K (.ref f10)=true)
  (jd5:FL K f10 "need_holder" "Book.need_holder" lj oc10 od10 kV10 dc10 pm10 an10 cd10 ct10 sl10)
  (jd6:aG K cd10 "Book.need_holder"=true)
  (jd7:aB K (.ref f10)=true)
  (jd8:aq K (.ref BK) "need_new_name"=some (some (.ref f11)))
  (jd9:bF K (.ref f11)=true)
  (jea:FL K f11 "need_new_name" "Book.need_new_name" kX oc11 od11 kV11 dc11 pm11 an11 cd11 ct11 sl11)
  (jeb:aG K cd11 "Book.need_new_name"=true)
  (jec:aB K (.ref f11)=true)
  (jed:aq K (.ref BK) "person"=some (some (.ref f12)))
  (jee:bF K (.ref f12)=true)
  (jef:FL K f12 "person" "Book.person" nG oc12 od12 kV12 dc12 pm12 an12 cd12 ct12 sl12)
  (jeg:aG K cd12 "Book.person"=true)
  (jeh:aB K (.ref f12)=true)
  (jei:aq K (.ref BK) "house"=some (some (.ref f13)))
  (jej:bF K (.ref f13)=true)
  (jek:FL K f13 "house" "Book.house" oy oc13 od13 kV13 dc13 pm13 an13 cd13 ct13 sl13)
  (jel:aG K cd13 "Book.house"=true)
  (jem:aB K (.ref f13)=true)
  (jen:aq K (.ref BK) "sale"=some (some (.ref f14)))
  (jeo:bF K (.ref f14)=true)
  (jep:FL K f14 "sale" "Book.sale" pd oc14 od14 kV14 dc14 pm14 an14 cd14 ct14 sl14)
  (jeq:aG K cd14 "Book.sale"=true)
  (jer:aB K (.ref f14)=true)
  (jes:aq K (.ref BK) "persons"=some (some (.ref f15)))
  (jet:bF K (.ref f15)=true)
  (jeu:FL K f15 "persons" "Book.persons" mS oc15 od15 kV15 dc15 pm15 an15 cd15 ct15 sl15)
  (jev:aG K cd15 "Book.persons"=true)
  (jew:aB K (.ref f15)=true)
  (jex:aq K (.ref BK) "houses"=some (some (.ref f16)))
  (jey:bF K (.ref f16)=true)
  (jez:FL K f16 "houses" "Book.houses" nH oc16 od16 kV16 dc16 pm16 an16 cd16 ct16 sl16)
  (je0:aG K cd16 "Book.houses"=true)
  (je1:aB K (.ref f16)=true)
  (je2:aq K (.ref BK) "of"=some (some (.ref f17)))
  (je3:bF K (.ref f17)=true)
  (je4:FL K f17 "of" "Book.of" rD oc17 od17 kV17 dc17 pm17 an17 cd17 ct17 sl17)
  (je5:aG K cd17 "Book.of"=true)
  (je6:aB K (.ref f17)=true)
  (je7:aq K (.ref BK) "shares"=some (some (.ref f18)))
  (je8:bF K (.ref f18)=true)
  (je9:FL K f18 "shares" "Book.shares" ma oc18 od18 kV18 dc18 pm18 an18 cd18 ct18 sl18)
  (jfa:aG K cd18 "Book.shares"=true)
  (jfb:aB K (.ref f18)=true)
  (jfc:aq K (.ref BK) "twin"=some (some (.ref f19)))
  (jfd:bF K (.ref f19)=true)
  (jfe:FL K f19 "twin" "Book.twin" pc oc19 od19 kV19 dc19 pm19 an19 cd19 ct19 sl19)
  (jff:aG K cd19 "Book.twin"=true)
  (jfg:aB K (.ref f19)=true)
  (jfh:aq K (.ref BK) "things"=some (some (.ref f20)))
  (jfi:bF K (.ref f20)=true)
  (jfj:FL K f20 "things" "Book.things" nF oc20 od20 kV20 dc20 pm20 an20 cd20 ct20 sl20)
  (jfk:aG K cd20 "Book.things"=true)
  (jfl:aB K (.ref f20)=true)
  (jfm:aq K (.ref BK) "mark"=some (some (.ref f21)))
  (jfn:bF K (.ref f21)=true)
  (jfo:FL K f21 "mark" "Book.mark" pf oc21 od21 kV21 dc21 pm21 an21 cd21 ct21 sl21)
  (jfp:aG K cd21 "Book.mark"=true)
  (jfq:aB K (.ref f21)=true)
  (jfr:aq K (.ref BK) "loss"=some (some (.ref f22)))
  (jfs:bF K (.ref f22)=true)
  (jft:FL K f22 "loss" "Book.loss" pj oc22 od22 kV22 dc22 pm22 an22 cd22 ct22 sl22)
  (jfu:aG K cd22 "Book.loss"=true)
  (jfv:aB K (.ref f22)=true)
  (jfw:aA K ax "_law_take"=some (some (.ref f23)))
  (jfx:FL K f23 "_law_take" "_law_take" oY oc23 od23 kV23 dc23 pm23 an23 cd23 ct23 sl23)
  (jfy:aG K cd23 "_law_take"=true)
  (jfz:aB K (.ref f23)=true)
  (jf0:aA K ax "_law_divisor"=some (some (.ref f24)))
  (jf1:FL K f24 "_law_divisor" "_law_divisor" mR oc24 od24 kV24 dc24 pm24 an24 cd24 ct24 sl24)
  (jf2:aG K cd24 "_law_divisor"=true)
  (jf3:aB K (.ref f24)=true)
  (jf4:aA K ax "_law_lowest"=some (some (.ref f25)))
  (jf5:FL K f25 "_law_lowest" "_law_lowest" nE oc25 od25 kV25 dc25 pm25 an25 cd25 ct25 sl25)
  (jf6:aG K cd25 "_law_lowest"=true)
  (jf7:aB K (.ref f25)=true)
  (jf8:aA K ax "_law_plus"=some (some (.ref f26)))
  (jf9:FL K f26 "_law_plus" "_law_plus" oZ oc26 od26 kV26 dc26 pm26 an26 cd26 ct26 sl26)
  (jga:aG K cd26 "_law_plus"=true)
  (jgb:aB K (.ref f26)=true)
  (jgc:aA K ax "_law_times"=some (some (.ref f27)))
  (jgd:FL K f27 "_law_times" "_law_times" ot oc27 od27 kV27 dc27 pm27 an27 cd27 ct27 sl27)
  (jge:aG K cd27 "_law_times"=true)
  (jgf:aB K (.ref f27)=true)
  (jgg:aA K ax "_law_purse"=some (some (.ref f28)))
  (jgh:FL K f28 "_law_purse" "_law_purse" ou oc28 od28 kV28 dc28 pm28 an28 cd28 ct28 sl28)
  (jgi:aG K cd28 "_law_purse"=true)
  (jgj:aB K (.ref f28)=true)
  (jgk:aA K ax "_law_names"=some (some (.ref f29)))
  (jgl:FL K f29 "_law_names" "_law_names" mI oc29 od29 kV29 dc29 pm29 an29 cd29 ct29 sl29)
  (jgm:aG K cd29 "_law_names"=true)
  (jgn:aB K (.ref f29)=true)
  (jgo:aA K ax "_law_part"=some (some (.ref f30)))
  (jgp:FL K f30 "_law_part" "_law_part" pb oc30 od30 kV30 dc30 pm30 an30 cd30 ct30 sl30)
  (jgq:aG K cd30 "_law_part"=true)
  (jgr:aB K (.ref f30)=true)
  (jgs:aA K ax "_law_built"=some (some (.ref f31)))
  (jgt:FL K f31 "_law_built" "_law_built" mJ oc31 od31 kV31 dc31 pm31 an31 cd31 ct31 sl31)
  (jgu:aG K cd31 "_law_built"=true)
  (jgv:aB K (.ref f31)=true)
  (jgw:aA K ax "rows_of"=some (some (.ref f32)))
  (jgx:FL K f32 "rows_of" "rows_of" mU oc32 od32 kV32 dc32 pm32 an32 cd32 ct32 sl32)
  (jgy:aG K cd32 "rows_of"=true)
  (jgz:aB K (.ref f32)=true)
  (jg0:aA K ax "shown_share"=some (some (.ref f33)))
  (jg1:FL K f33 "shown_share" "shown_share" nC oc33 od33 kV33 dc33 pm33 an33 cd33 ct33 sl33)
  (jg2:aG K cd33 "shown_share"=true)
  (jg3:aB K (.ref f33)=true)
  (jg4:aA K ax "shown_row"=some (some (.ref f34)))
  (jg5:FL K f34 "shown_row" "shown_row" nv oc34 od34 kV34 dc34 pm34 an34 cd34 ct34 sl34)
  (jg6:aG K cd34 "shown_row"=true)
  (jg7:aB K (.ref f34)=true)
  (jg8:aA K ax "shown"=some (some (.ref f35)))
  (jg9:FL K f35 "shown" "shown" sX oc35 od35 kV35 dc35 pm35 an35 cd35 ct35 sl35)
  (jha:aG K cd35 "shown"=true)
  (jhb:aB K (.ref f35)=true)
  (jhc:aA K ax "_law_numbered"=some (some (.ref f36)))
  (jhd:FL K f36 "_law_numbered" "_law_numbered" mv oc36 od36 kV36 dc36 pm36 an36 cd36 ct36 sl36)
  (jhe:aG K cd36 "_law_numbered"=true)
  (jhf:aB K (.ref f36)=true)
  (jhg:aA K ax "_law_fraction"=some (some (.ref f37)))
  (jhh:FL K f37 "_law_fraction" "_law_fraction" mw oc37 od37 kV37 dc37 pm37 an37 cd37 ct37 sl37)
  (jhi:aG K cd37 "_law_fraction"=true)
  (jhj:aB K (.ref f37)=true)
  (jhk:aA K ax "_law_lines"=some (some (.ref f38)))
  (jhl:FL K f38 "_law_lines" "_law_lines" lJ oc38 od38 kV38 dc38 pm38 an38 cd38 ct38 sl38)
  (jhm:aG K cd38 "_law_lines"=true)
  (jhn:aB K (.ref f38)=true)
  (jho:aA K ax "law"=some (some (.ref f39)))
  (jhp:FL K f39 "law" "law" uQ oc39 od39 kV39 dc39 pm39 an39 cd39 ct39 sl39)
  (jhq:aG K cd39 "law"=true)
  (jhr:aB K (.ref f39)=true)
  (jhs:aA K ax "rules"=some none)
   :∃ (a:Adr) (fd:bR),aA K ax "rules"=some none∧(∀ (s:ao) (v:ah),ir s fd ⟨[v],[]⟩ [("_law_script",v)])∧∀ base:bM,K.In base→base.Ns ax mg→FnOk l.prog w K mg base (CXo l.prog w) 7 fa fd ["_law_script"] (spD K a.Book 1 (wW a)):=by
 have e:=hfa.symm.trans (aN X G jho)
 cases e
 let a:Adr:=⟨X_OwnError,X_NoName,X_Twice,X_TooMany,X_NoHolder,X_NoHouse,X_NoLoss,X_NoShare,BK,BK,BK,ZR,ON,BK,tl,tp,th,fun _ _=>false⟩
 have E_OwnError:Exc K X_OwnError:=⟨jbj,jbk,jbl,jbm,jbh,jbi,jbn,jbo⟩
 have E_NoName:Exc K X_NoName:=⟨jbp,jbq,jbr,jbs,jbh,jbi,jbt,jbu⟩
 have E_Twice:Exc K X_Twice:=⟨jbv,jbw,jbx,jby,jbh,jbi,jbz,jb0⟩
 have E_TooMany:Exc K X_TooMany:=⟨jb1,jb2,jb3,jb4,jbh,jbi,jb5,jb6⟩
 have E_NoHolder:Exc K X_NoHolder:=⟨jb7,jb8,jb9,jca,jbh,jbi,jcb,jcc⟩
 have E_NoHouse:Exc K X_NoHouse:=⟨jcd,jce,jcf,jcg,jbh,jbi,jch,jci⟩
 have E_NoLoss:Exc K X_NoLoss:=⟨jcj,jck,jcl,jcm,jbh,jbi,jcn,jco⟩
 have E_NoShare:Exc K X_NoShare:=⟨jcp,jcq,jcr,jcs,jbh,jbi,jct,jcu⟩
 have T:Txt K mg a:=⟨br X G jaq,br X G jar,br X G jas,br X G jat,br X G jau,br X G jav,br X G jaw,br X G jax,br X G jay,br X G jaz,br X G ja0,br X G ja1,br X G ja2,br X G ja3,br X G ja4,aN X G jaa,aN X G jab,aN X G jac,aN X G jad,aN X G jae,aN X G jaf,aN X G jag,aN X G jah,E_OwnError,E_NoName,E_Twice,E_TooMany,E_NoHolder,E_NoHouse,E_NoLoss,E_NoShare,aN X G jan,aN X G jao,aN X G jap,aN X G jaj,aN X G jak,
  ⟨_,_,_,jal,rfl,rfl,(show 2≤aI by decide),.cons ⟨_,rfl⟩ (.cons ⟨_,rfl⟩ .nil)⟩,⟨_,_,_,jam,rfl,rfl,(show 2≤aI by decide),.cons ⟨_,rfl⟩ (.cons ⟨_,rfl⟩ .nil)⟩,⟨ja6,ja7,ja8,ja9⟩,jbc,jbd,jbe,jbf,jbg⟩
 have U0:=j3 jcw jcx jcy
 have B0:=U0.binds (ps:=["text"]) fun _ _ _ _ _ _ us hl=>match us,hl with | [_],_=>rfl
 have U1:=j3 jc0 jc1 jc2
 have B1:=U1.binds (ps:=["number"]) fun _ _ _ _ _ _ us hl=>match us,hl with | [_],_=>rfl
 have U2:=j3 jc4 jc5 jc6
 have B2:=U2.binds (ps:=["number","other"]) fun _ _ _ _ _ _ us hl=>match us,hl with | [_,_],_=>rfl
 have U3:=j3 jc8 jc9 jda
 have B3:=U3.binds (ps:=["first","second"]) fun _ _ _ _ _ _ us hl=>match us,hl with | [_,_],_=>rfl
 have U4:=j3 jdc jdd jde
 have B4:=U4.binds (ps:=["first","second"]) fun _ _ _ _ _ _ us hl=>match us,hl with | [_,_],_=>rfl
 have U5:=j3 jdg jdh jdi
 have B5:=U5.binds (ps:=["first","second"]) fun _ _ _ _ _ _ us hl=>match us,hl with | [_,_],_=>rfl
 have U6:=j3 jdl jdm jdn
 have B6:=U6.binds (ps:=["self"]) fun _ _ _ _ _ _ us hl=>match us,hl with | [_],_=>rfl
 have U7:=j3 jdq jdr jds
 have B7:=U7.binds (ps:=["self","name"]) fun _ _ _ _ _ _ us hl=>match us,hl with | [_,_],_=>rfl
 have U8:=j3 jdv jdw jdx
 have B8:=U8.binds (ps:=["self","name"]) fun _ _ _ _ _ _ us hl=>match us,hl with | [_,_],_=>rfl
 have U9:=j3 jd0 jd1 jd2
 have B9:=U9.binds (ps:=["self","name"]) fun _ _ _ _ _ _ us hl=>match us,hl with | [_,_],_=>rfl
 have U10:=j3 jd5 jd6 jd7
 have B10:=U10.binds (ps:=["self","name"]) fun _ _ _ _ _ _ us hl=>match us,hl with | [_,_],_=>rfl
 have U11:=j3 jea jeb jec
 have B11:=U11.binds (ps:=["self","name"]) fun _ _ _ _ _ _ us hl=>match us,hl with | [_,_],_=>rfl
 have U12:=j3 jef jeg jeh
 have B12:=U12.binds (ps:=["self","name"]) fun _ _ _ _ _ _ us hl=>match us,hl with | [_,_],_=>rfl
 have U13:=j3 jek jel jem
 have B13:=U13.binds (ps:=["self","name","owner","things","mark","loss"]) fun _ _ _ _ _ _ us hl=>match us,hl with | [_,_,_,_,_,_],_=>rfl
 have U14:=j3 jep jeq jer
 have B14:=U14.binds (ps:=["self","house","one","other","share"]) fun _ _ _ _ _ _ us hl=>match us,hl with | [_,_,_,_,_],_=>rfl
 have U15:=j3 jeu jev jew
 have B15:=U15.binds (ps:=["self"]) fun _ _ _ _ _ _ us hl=>match us,hl with | [_],_=>rfl
 have U16:=j3 jez je0 je1
 have B16:=U16.binds (ps:=["self"]) fun _ _ _ _ _ _ us hl=>match us,hl with | [_],_=>rfl
 have U17:=j3 je4 je5 je6
 have B17:=U17.binds (ps:=["self","house"]) fun _ _ _ _ _ _ us hl=>match us,hl with | [_,_],_=>rfl
 have U18:=j3 je9 jfa jfb
 have B18:=U18.binds (ps:=["self","house"]) fun _ _ _ _ _ _ us hl=>match us,hl with | [_,_],_=>rfl
 have U19:=j3 jfe jff jfg
 have B19:=U19.binds (ps:=["self"]) fun _ _ _ _ _ _ us hl=>match us,hl with | [_],_=>rfl
 have U20:=j3 jfj jfk jfl
 have B20:=U20.binds (ps:=["self","house","number"]) fun _ _ _ _ _ _ us hl=>match us,hl with | [_,_,_],_=>rfl
 have U21:=j3 jfo jfp jfq
 have B21:=U21.binds (ps:=["self","house","number"]) fun _ _ _ _ _ _ us hl=>match us,hl with | [_,_,_],_=>rfl
 have U22:=j3 jft jfu jfv
 have B22:=U22.binds (ps:=["self","house","number"]) fun _ _ _ _ _ _ us hl=>match us,hl with | [_,_,_],_=>rfl
 have U23:=j3 jfx jfy jfz
 have B23:=U23.binds (ps:=["_law_purse_here","_law_many"]) fun _ _ _ _ _ _ us hl=>match us,hl with | [_,_],_=>rfl
 have U24:=j3 jf1 jf2 jf3
 have B24:=U24.binds (ps:=["_law_one","_law_other"]) fun _ _ _ _ _ _ us hl=>match us,hl with | [_,_],_=>rfl
 have U25:=j3 jf5 jf6 jf7
 have B25:=U25.binds (ps:=["_law_top","_law_bottom"]) fun _ _ _ _ _ _ us hl=>match us,hl with | [_,_],_=>rfl
 have U26:=j3 jf9 jga jgb
 have B26:=U26.binds (ps:=["_law_one","_law_other"]) fun _ _ _ _ _ _ us hl=>match us,hl with | [_,_],_=>rfl
 have U27:=j3 jgd jge jgf
 have B27:=U27.binds (ps:=["_law_one","_law_other"]) fun _ _ _ _ _ _ us hl=>match us,hl with | [_,_],_=>rfl
 have U28:=j3 jgh jgi jgj
 have B28:=U28.binds (ps:=["_law_script"]) fun _ _ _ _ _ _ us hl=>match us,hl with | [_],_=>rfl
 have U29:=j3 jgl jgm jgn
 have B29:=U29.binds (ps:=["_law_purse_here"]) fun _ _ _ _ _ _ us hl=>match us,hl with | [_],_=>rfl
 have U30:=j3 jgp jgq jgr
 have B30:=U30.binds (ps:=["_law_purse_here"]) fun _ _ _ _ _ _ us hl=>match us,hl with | [_],_=>rfl
 have U31:=j3 jgt jgu jgv
 have B31:=U31.binds (ps:=["_law_purse_here"]) fun _ _ _ _ _ _ us hl=>match us,hl with | [_],_=>rfl
 have U32:=j3 jgx jgy jgz
 have B32:=U32.binds (ps:=["book"]) fun _ _ _ _ _ _ us hl=>match us,hl with | [_],_=>rfl
 have U33:=j3 jg1 jg2 jg3
 have B33:=U33.binds (ps:=["share"]) fun _ _ _ _ _ _ us hl=>match us,hl with | [_],_=>rfl
 have U34:=j3 jg5 jg6 jg7
 have B34:=U34.binds (ps:=["row"]) fun _ _ _ _ _ _ us hl=>match us,hl with | [_],_=>rfl
 have U35:=j3 jg9 jha jhb
 have B35:=U35.binds (ps:=["book"]) fun _ _ _ _ _ _ us hl=>match us,hl with | [_],_=>rfl
 have U36:=j3 jhd jhe jhf
 have B36:=U36.binds (ps:=["_law_purse_here"]) fun _ _ _ _ _ _ us hl=>match us,hl with | [_],_=>rfl
 have U37:=j3 jhh jhi jhj
 have B37:=U37.binds (ps:=["_law_share"]) fun _ _ _ _ _ _ us hl=>match us,hl with | [_],_=>rfl
 have U38:=j3 jhl jhm jhn
 have B38:=U38.binds (ps:=["_law_people","_law_entries","_law_numbers"]) fun _ _ _ _ _ _ us hl=>match us,hl with | [_,_,_],_=>rfl
 have U39:=j3 jhp jhq jhr
 have B39:=U39.binds (ps:=["_law_script"]) fun _ _ _ _ _ _ us hl=>match us,hl with | [_],_=>rfl
 refine ⟨a,du "law" "law" (qe uQ) (nj uQ) (jO uQ) .none kV39 dc39 pm39 an39 cd39 ct39,jhs,fun s v=>.of_eq rfl,fun base _ _=>?_⟩
 have MF:=@mkF l.prog w K mg base
 have MM:=@mkM l.prog w K mg base
 have RF_is_name:=MF (yB U0 T ) (aN X G jcv) jcy B0
 have RF_need_loss:=MF (wc U1 T ) (aN X G jcz) jc2 B1
 have RF_common_divisor:=MF (Fq U2 T ) (aN X G jc3) jc6 B2
 have RF_plus:=MF (Dm U3 T RF_common_divisor) (aN X G jc7) jda B3
 have F_plus:=Fn.imp RF_plus (AS (a:=a))
 have RF_minus:=MF (Bo U4 T RF_plus) (aN X G jdb) jde B4
 have RF_is_above:=MF (Bq U5 T ) (aN X G jdf) jdi B5
 have F_is_above:=Fn.imp RF_is_above (zV (a:=a))
 have M_Book:MkB l.prog w K mg base "Book" a.Book 1 ["self"] (wH K a.Book):=⟨_,_,zw U6 T ,aN X G jai,⟨jba,jdj,jdk,jbb⟩,B6⟩
 have RM_Book:MkB l.prog w K mg base "Book" a.Book 1 ["self"] (wp K a.Book):=⟨_,_,zw U6 T ,aN X G jai,⟨jba,jdj,jdk,jbb⟩,B6⟩
 have RM_is_house:=MM (w8 U7 T ) jdo jdp jds T.cl B7
 have M_is_house:=Mt.imp RM_is_house (vR (a:=a))
 have RM_is_holder:=MM (we U8 T RM_is_house) jdt jdu jdx T.cl B8
 have RM_need_house:=MM (uu U9 T RM_is_house) jdy jdz jd2 T.cl B9
 have M_need_house:=Mt.imp RM_need_house (sJ (a:=a))
 have RM_need_holder:=MM (sP U10 T RM_is_holder) jd3 jd4 jd7 T.cl B10
 have M_need_holder:=Mt.imp RM_need_holder (sg (a:=a))
 have RM_need_new_name:=MM (w6 U11 T RF_is_name RM_is_holder) jd8 jd9 jec T.cl B11
 have RM_person:=MM (Ab U12 T RM_need_new_name) jed jee jeh T.cl B12
 have M_person:=Mt.imp RM_person (yn (a:=a))
 have RM_house:=MM (Bp U13 T RM_need_new_name RM_need_holder RF_need_loss) jei jej jem T.cl B13
 have M_house:=Mt.imp RM_house (zU (a:=a))
 have RM_sale:=MM (Dl U14 T RM_need_house RM_need_holder RF_is_above RF_minus RF_plus) jen jeo jer T.cl B14
 have M_sale:=Mt.imp RM_sale (AR (a:=a))
 have RM_persons:=MM (yA U15 T ) jes jet jew T.cl B15
 have M_persons:=Mt.imp RM_persons (wY (a:=a))
 have RM_houses:=MM (Ac U16 T ) jex jey je1 T.cl B16
 have M_houses:=Mt.imp RM_houses (yo (a:=a))
 have RM_of:=MM (ok_of U17 T RM_need_house) je2 je3 je6 T.cl B17
 have M_of:=Mt.imp RM_of (EZ (a:=a))
 have RM_shares:=MM (Aa U18 T RM_need_house) je7 je8 jfb T.cl B18
 have M_shares:=Mt.imp RM_shares (ym (a:=a))
 have RM_twin:=MM (Dk U19 T (br X G ja5) RM_Book RM_houses) jfc jfd jfg T.cl B19
 have M_twin:=Mt.imp RM_twin (AQ (a:=a))
 have RM_things:=MM (z9 U20 T RM_need_house) jfh jfi jfl T.cl B20
 have M_things:=Mt.imp RM_things (yk (a:=a))
 have RM_mark:=MM (Dn U21 T RM_need_house) jfm jfn jfq T.cl B21
 have M_mark:=Mt.imp RM_mark (AT (a:=a))
 have RM_loss:=MM (Do U22 T RM_need_house RF_need_loss) jfr jfs jfv T.cl B22
 have M_loss:=Mt.imp RM_loss (AU (a:=a))
 have F__law_take:=MF (wf U23 T ) (aN X G jfw) jfz B23
 have F__law_divisor:=MF (sk U24 T ) (aN X G jf0) jf3 B24
 have F__law_lowest:=MF (sQ U25 T F__law_divisor) (aN X G jf4) jf7 B25
 have F__law_plus:=MF (wg U26 T F__law_lowest) (aN X G jf8) jgb B26
 have F__law_times:=MF (uw U27 T F__law_lowest) (aN X G jgc) jgf B27
 have F__law_purse:=MF (ux U28 T ) (aN X G jgg) jgj B28
 have F__law_names:=MF (uy U29 T F__law_take) (aN X G jgk) jgn B29
 have F__law_part:=MF (wj U30 T F__law_lowest F__law_take) (aN X G jgo) jgr B30
 have F__law_built:=MF (uA U31 T F__law_names M_Book M_person M_house F__law_take F__law_times F__law_part M_sale F__law_plus) (aN X G jgs) jgv B31
 have F_rows_of:=MF (yz U32 T M_houses M_persons M_of M_shares) (aN X G jgw) jgz B32
 have F_shown_share:=MF (sO U33 T ) (aN X G jg0) jg3 B33
 have F_shown_row:=MF (wb U34 T F_shown_share) (aN X G jg4) jg7 B34
 have F_shown:=MF (Bn U35 T F_shown_row F_rows_of) (aN X G jg8) jhb B35
 have F__law_numbered:=MF (rb U36 T F__law_built M_things M_mark M_loss F__law_take) (aN X G jhc) jhf B36
 have F__law_fraction:=MF (rc U37 T ) (aN X G jhg) jhj B37
 have F__law_lines:=MF (uz U38 T F__law_fraction) (aN X G jhk) jhn B38
 exact Fp U39 T F__law_numbered M_Book F__law_purse F__law_lines M_twin F_shown M_person
def Ch (K:aa):Sp:=fun vs H Q E=>∃ (c:ae) (ns:List Int),vs=[.ref c]∧ns.length≤63∧Ed H∧SqL K H c (ns.map V.int)∧(∀ v H',v=.bl true→Q v H')
theorem FD {K:aa}{a:Adr} (ht:aA K ax "rules"=some none) (vs:List V) (H:Hp) (Q:VK) (E:XK) (h:Ch K vs H Q E):spD K a.Book 1 (wW a) vs H Q E:=by
 obtain ⟨c,ns,rfl,hl,hO,hS,k⟩:=h
 exact DB hl ht hO hS k
theorem walk {l:fB}{q:aT}{loose:List Str}{XP:(Str→Option ah)→bM→Prop}{YP:bv→bM→Prop}{d:DefRec}{K:Params→aa} (hn:l.most=some 63) (hdf:d.params.defaults=[])
  (hY:∀ (w:bv) (h:bM),YP w h→(K w.params).In h)
  (F:∀ (w:bv) (mg:Str→Option ah) (fa:ae) (h:bM),(K w.params).In h→h.Ns ax mg→mg d.name=some (.ref fa) →
   ∃ (a:Adr) (fd:bR),aA (K w.params) ax "rules"=some none∧(∀ (s:ao) (u:ah),ir s fd ⟨[u],[]⟩ [("_law_script",u)])∧∀ base:bM,(K w.params).In base→base.Ns ax mg→FnOk l.prog w (K w.params) mg base (CXo l.prog w) 7 fa fd ["_law_script"] (spD (K w.params) a.Book 1 (wW a))) :
  jt q loose XP YP l.row.toRowW d [] (fun f vs=>jq f vs) :=
 L2.walk_of (n:=63) (k:=7) (x:="_law_script") (CX:=fun w=>CXo l.prog w) (sp:=fun w=>Ch (K w.params)) hn (by decide) hdf ⟨rfl,by decide,by decide⟩ hY
  (fun w mg fa h X G hm=>let ⟨a,fd,h0,h1,h2⟩:=F w mg fa h X G hm;⟨fd,h1,fun base b1 b2=>(h2 base b1 b2).imp (FD h0)⟩)
  (fun _ _ c ns hl hO hS=>⟨c,ns,rfl,hl,hO,hS,fun _ _ e=>e⟩) fun _ _ _ _ _ z=>by
  obtain ⟨_,_,_,_,_,_,_,_,_,_,_,_,_,z⟩:=z
  exact z
end My
def PySem.W.Fast.tw15210906074297612722:Unit:=()
def PySem.W.Fast.tw2150758432810171240:Unit:=()
def PySem.W.Fast.tw16767212520779431255:Unit:=()
def PySem.W.Fast.tw2180018656580899643:Unit:=()
def PySem.W.Fast.tw11972294844759533037:Unit:=()
def PySem.W.Fast.tw10129149114361592659:Unit:=()
def PySem.W.Fast.tw1709528533560572626:Unit:=()
def PySem.W.Fast.tw16838665590507095723:Unit:=()
def PySem.W.Fast.tw15975036913265729821:Unit:=()
def PySem.W.Fast.tw16729736827709194585:Unit:=()
def PySem.W.Fast.tw3174402670709791302:Unit:=()
def PySem.W.Fast.tw17400228425216380588:Unit:=()
def PySem.W.Fast.tw14278384659289980130:Unit:=()
def PySem.W.Fast.tw12784245945548505091:Unit:=()
def PySem.W.Fast.tw6219472471616703666:Unit:=()
def PySem.W.Fast.tw15802098428448224326:Unit:=()
def PySem.W.Fast.tw14871830721385337701:Unit:=()
def PySem.W.Fast.tw13718614557887721622:Unit:=()
def PySem.W.Fast.tw5158213075403041706:Unit:=()
def PySem.W.Fast.tw14883279894428138165:Unit:=()
def PySem.W.Fast.tw10319710697937739247:Unit:=()
def PySem.W.Fast.tw14583177974953897860:Unit:=()
def PySem.W.Fast.tw15617541741449297233:Unit:=()
def PySem.W.Fast.tw326861883984334843:Unit:=()
def PySem.W.Fast.tw10540497238652538060:Unit:=()
def PySem.W.Fast.tw6113277583440244797:Unit:=()
def PySem.W.Fast.tw4870120836565931083:Unit:=()
def PySem.W.Fast.tw13817002670552492831:Unit:=()
def PySem.W.Fast.tw4082587519050930321:Unit:=()
def PySem.W.Fast.tw700931076736923301:Unit:=()
def PySem.W.Fast.tw12861290029128999824:Unit:=()
def PySem.W.Fast.tw7068299438282053920:Unit:=()
def PySem.W.Fast.tw17129356242907071310:Unit:=()
def PySem.W.Fast.tw7352052761999680573:Unit:=()
def PySem.W.Fast.tw12728700186928152733:Unit:=()
def PySem.W.Fast.tw7572059669694868649:Unit:=()
def PySem.W.Fast.tw138546380047523948:Unit:=()
def PySem.W.Fast.tw13934737535742356680:Unit:=()
def PySem.W.Fast.tw18424276739880246324:Unit:=()
def PySem.W.Fast.tw3597459599919964586:Unit:=()
def PySem.W.Fast.tw15863752044461573338:Unit:=()
def PySem.W.Fast.tw6132299399526773373:Unit:=()
def PySem.W.Fast.tw16365982145089708877:Unit:=()
def PySem.W.Fast.tw4746325575054128289:Unit:=()
def PySem.W.Fast.tw2779466703557491691:Unit:=()
def PySem.W.Fast.tw4517716568763563987:Unit:=()
def PySem.W.Fast.tw2333347174268396173:Unit:=()
def PySem.W.Fast.tw12410074382901034792:Unit:=()
def PySem.W.Fast.tw8760892422125696099:Unit:=()
def PySem.W.Fast.tw1366791371006270559:Unit:=()
def PySem.W.Fast.tw13240990946491091231:Unit:=()
def PySem.W.Fast.tw7637036989273395018:Unit:=()
def PySem.W.Fast.tw8059304794970495818:Unit:=()
def PySem.W.Fast.tw4986977406487514833:Unit:=()
def PySem.W.Fast.tw1193901562665229457:Unit:=()
def PySem.W.Fast.tw4552874499012413874:Unit:=()
def PySem.W.Fast.tw8993851072579822411:Unit:=()
def PySem.W.Fast.tw9079167557761121957:Unit:=()
open PySem.W
set_option maxRecDepth 100000 in
set_option maxHeartbeats 0 in
theorem PySem.Challenge.cw_wholeowners_k71_shown_holds : PySem.Challenge.rw_wholeowners_k71_shown.Holds := by
 w_on;o_law;k_head;(case hw=>w_witness2)
 k_fill
 refine My.walk (l:=PySem.Challenge.rw_wholeowners_k71_shown) rfl rfl (fun w h Y=>PySem.W.kIn_of Y) ?F
 case F =>
  intro w mg fa h KX G hmg
  refine' My.all_mk KX G hmg ?jaa ?jab ?jac ?jad ?jae ?jaf ?jag ?jah ?jai ?jaj ?jak ?jal ?jam ?jan ?jao ?jap ?jaq ?jar ?jas ?jat ?jau ?jav ?jaw ?jax ?jay ?jaz ?ja0 ?ja1 ?ja2 ?ja3 ?ja4 ?ja5 ?ja6 ?ja7 ?ja8 ?ja9 ?jba ?jbb ?jbc ?jbd ?jbe ?jbf ?jbg ?jbh ?jbi ?jbj ?jbk ?jbl ?jbm ?jbn ?jbo ?jbp ?jbq ?jbr ?jbs ?jbt ?jbu ?jbv ?jbw ?jbx ?jby ?jbz ?jb0 ?jb1 ?jb2 ?jb3 ?jb4 ?jb5 ?jb6 ?jb7 ?jb8 ?jb9 ?jca ?jcb ?jcc ?jcd ?jce ?jcf ?jcg ?jch ?jci ?jcj ?jck ?jcl ?jcm ?jcn ?jco ?jcp ?jcq ?jcr ?jcs ?jct ?jcu ?jcv ?jcw ?jcx ?jcy ?jcz ?jc0 ?jc1 ?jc2 ?jc3 ?jc4 ?jc5 ?jc6 ?jc7 ?jc8 ?jc9 ?jda ?jdb ?jdc ?jdd ?jde ?jdf ?jdg ?jdh ?jdi ?jdj ?jdk ?jdl ?jdm ?jdn ?jdo ?jdp ?jdq ?jdr ?jds ?jdt ?jdu ?jdv ?jdw ?jdx ?jdy ?jdz ?jd0 ?jd1 ?jd2 ?jd3 ?jd4 ?jd5 ?jd6 ?jd7 ?jd8 ?jd9 ?jea ?jeb ?jec ?jed ?jee ?jef ?jeg ?jeh ?jei ?jej ?jek ?jel ?jem ?jen ?jeo ?jep ?jeq ?jer ?jes ?jet ?jeu ?jev ?jew ?jex ?jey ?jez ?je0 ?je1 ?je2 ?je3 ?je4 ?je5 ?je6 ?je7 ?je8 ?je9 ?jfa ?jfb ?jfc ?jfd ?jfe ?jff ?jfg ?jfh ?jfi ?jfj ?jfk ?jfl ?jfm ?jfn ?jfo ?jfp ?jfq ?jfr ?jfs ?jft ?jfu ?jfv ?jfw ?jfx ?jfy ?jfz ?jf0 ?jf1 ?jf2 ?jf3 ?jf4 ?jf5 ?jf6 ?jf7 ?jf8 ?jf9 ?jga ?jgb ?jgc ?jgd ?jge ?jgf ?jgg ?jgh ?jgi ?jgj ?jgk ?jgl ?jgm ?jgn ?jgo ?jgp ?jgq ?jgr ?jgs ?jgt ?jgu ?jgv ?jgw ?jgx ?jgy ?jgz ?jg0 ?jg1 ?jg2 ?jg3 ?jg4 ?jg5 ?jg6 ?jg7 ?jg8 ?jg9 ?jha ?jhb ?jhc ?jhd ?jhe ?jhf ?jhg ?jhh ?jhi ?jhj ?jhk ?jhl ?jhm ?jhn ?jho ?jhp ?jhq ?jhr ?jhs
  (case jaa=>k_is)
  (case jab=>k_is)
  (case jac=>k_is)
  (case jad=>k_is)
  (case jae=>k_is)
  (case jaf=>k_is)
  (case jag=>k_is)
  (case jah=>k_is)
  (case jai=>k_is)
  (case jaj=>k_is)
  (case jak=>k_is)
  (case jal=>k_is)
  (case jam=>k_is)
  (case jan=>k_is)
  (case jao=>k_is)
  (case jap=>k_is)
  (case jaq=>k_is)
  (case jar=>k_is)
  (case jas=>k_is)
  (case jat=>k_is)
  (case jau=>k_is)
  (case jav=>k_is)
  (case jaw=>k_is)
  (case jax=>k_is)
  (case jay=>k_is)
  (case jaz=>k_is)
  (case ja0=>k_is)
  (case ja1=>k_is)
  (case ja2=>k_is)
  (case ja3=>k_is)
  (case ja4=>k_is)
  (case ja5=>k_is)
  (case ja6=>k_is)
  (case ja7=>k_is)
  (case ja8=>k_is)
  (case ja9=>k_is)
  (case jba=>k_is)
  (case jbb=>k_is)
  (case jbc=>k_is)
  (case jbd=>k_is)
  (case jbe=>k_is)
  (case jbf=>k_is)
  (case jbg=>k_is)
  (case jbh=>k_is)
  (case jbi=>k_is)
  (case jbj=>k_exc)
  (case jbk=>k_is)
  (case jbl=>k_is)
  (case jbm=>k_is)
  (case jbn=>k_is)
  (case jbo=>k_is)
  (case jbp=>k_exc)
  (case jbq=>k_is)
  (case jbr=>k_is)
  (case jbs=>k_is)
  (case jbt=>k_is)
  (case jbu=>k_is)
  (case jbv=>k_exc)
  (case jbw=>k_is)
  (case jbx=>k_is)
  (case jby=>k_is)
  (case jbz=>k_is)
  (case jb0=>k_is)
  (case jb1=>k_exc)
  (case jb2=>k_is)
  (case jb3=>k_is)
  (case jb4=>k_is)
  (case jb5=>k_is)
  (case jb6=>k_is)
  (case jb7=>k_exc)
  (case jb8=>k_is)
  (case jb9=>k_is)
  (case jca=>k_is)
  (case jcb=>k_is)
  (case jcc=>k_is)
  (case jcd=>k_exc)
  (case jce=>k_is)
  (case jcf=>k_is)
  (case jcg=>k_is)
  (case jch=>k_is)
  (case jci=>k_is)
  (case jcj=>k_exc)
  (case jck=>k_is)
  (case jcl=>k_is)
  (case jcm=>k_is)
  (case jcn=>k_is)
  (case jco=>k_is)
  (case jcp=>k_exc)
  (case jcq=>k_is)
  (case jcr=>k_is)
  (case jcs=>k_is)
  (case jct=>k_is)
  (case jcu=>k_is)
  (case jcv=>k_is)
  (case jcw=>unfold My.FL;k_is)
  (case jcx=>k_is)
  (case jcy=>k_is)
  (case jcz=>k_is)
  (case jc0=>unfold My.FL;k_is)
  (case jc1=>k_is)
  (case jc2=>k_is)
  (case jc3=>k_is)
  (case jc4=>unfold My.FL;k_is)
  (case jc5=>k_is)
  (case jc6=>k_is)
  (case jc7=>k_is)
  (case jc8=>unfold My.FL;k_is)
  (case jc9=>k_is)
  (case jda=>k_is)
  (case jdb=>k_is)
  (case jdc=>unfold My.FL;k_is)
  (case jdd=>k_is)
  (case jde=>k_is)
  (case jdf=>k_is)
  (case jdg=>unfold My.FL;k_is)
  (case jdh=>k_is)
  (case jdi=>k_is)
  (case jdj=>k_is)
  (case jdk=>k_is)
  (case jdl=>unfold My.FL;k_is)
  (case jdm=>k_is)
  (case jdn=>k_is)
  (case jdo=>k_is)
  (case jdp=>k_is)
  (case jdq=>unfold My.FL;k_is)
  (case jdr=>k_is)
  (case jds=>k_is)
  (case jdt=>k_is)
  (case jdu=>k_is)
  (case jdv=>unfold My.FL;k_is)
  (case jdw=>k_is)
  (case jdx=>k_is)
  (case jdy=>k_is)
  (case jdz=>k_is)
  (case jd0=>unfold My.FL;k_is)
  (case jd1=>k_is)
  (case jd2=>k_is)
  (case jd3=>k_is)
  (case jd4=>k_is)
  (case jd5=>unfold My.FL;k_is)
  (case jd6=>k_is)
  (case jd7=>k_is)
  (case jd8=>k_is)
  (case jd9=>k_is)
  (case jea=>unfold My.FL;k_is)
  (case jeb=>k_is)
  (case jec=>k_is)
  (case jed=>k_is)
  (case jee=>k_is)
  (case jef=>unfold My.FL;k_is)
  (case jeg=>k_is)
  (case jeh=>k_is)
  (case jei=>k_is)
  (case jej=>k_is)
  (case jek=>unfold My.FL;k_is)
  (case jel=>k_is)
  (case jem=>k_is)
  (case jen=>k_is)
  (case jeo=>k_is)
  (case jep=>unfold My.FL;k_is)
  (case jeq=>k_is)
  (case jer=>k_is)
  (case jes=>k_is)
  (case jet=>k_is)
  (case jeu=>unfold My.FL;k_is)
  (case jev=>k_is)
  (case jew=>k_is)
  (case jex=>k_is)
  (case jey=>k_is)
  (case jez=>unfold My.FL;k_is)
  (case je0=>k_is)
  (case je1=>k_is)
  (case je2=>k_is)
  (case je3=>k_is)
  (case je4=>unfold My.FL;k_is)
  (case je5=>k_is)
  (case je6=>k_is)
  (case je7=>k_is)
  (case je8=>k_is)
  (case je9=>unfold My.FL;k_is)
  (case jfa=>k_is)
  (case jfb=>k_is)
  (case jfc=>k_is)
  (case jfd=>k_is)
  (case jfe=>unfold My.FL;k_is)
  (case jff=>k_is)
  (case jfg=>k_is)
  (case jfh=>k_is)
  (case jfi=>k_is)
  (case jfj=>unfold My.FL;k_is)
  (case jfk=>k_is)
  (case jfl=>k_is)
  (case jfm=>k_is)
  (case jfn=>k_is)
  (case jfo=>unfold My.FL;k_is)
  (case jfp=>k_is)
  (case jfq=>k_is)
  (case jfr=>k_is)
  (case jfs=>k_is)
  (case jft=>unfold My.FL;k_is)
  (case jfu=>k_is)
  (case jfv=>k_is)
  (case jfw=>k_is)
  (case jfx=>unfold My.FL;k_is)
  (case jfy=>k_is)
  (case jfz=>k_is)
  (case jf0=>k_is)
  (case jf1=>unfold My.FL;k_is)
  (case jf2=>k_is)
  (case jf3=>k_is)
  (case jf4=>k_is)
  (case jf5=>unfold My.FL;k_is)
  (case jf6=>k_is)
  (case jf7=>k_is)
  (case jf8=>k_is)
  (case jf9=>unfold My.FL;k_is)
  (case jga=>k_is)
  (case jgb=>k_is)
  (case jgc=>k_is)
  (case jgd=>unfold My.FL;k_is)
  (case jge=>k_is)
  (case jgf=>k_is)
  (case jgg=>k_is)
  (case jgh=>unfold My.FL;k_is)
  (case jgi=>k_is)
  (case jgj=>k_is)
  (case jgk=>k_is)
  (case jgl=>unfold My.FL;k_is)
  (case jgm=>k_is)
  (case jgn=>k_is)
  (case jgo=>k_is)
  (case jgp=>unfold My.FL;k_is)
  (case jgq=>k_is)
  (case jgr=>k_is)
  (case jgs=>k_is)
  (case jgt=>unfold My.FL;k_is)
  (case jgu=>k_is)
  (case jgv=>k_is)
  (case jgw=>k_is)
  (case jgx=>unfold My.FL;k_is)
  (case jgy=>k_is)
  (case jgz=>k_is)
  (case jg0=>k_is)
  (case jg1=>unfold My.FL;k_is)
  (case jg2=>k_is)
  (case jg3=>k_is)
  (case jg4=>k_is)
  (case jg5=>unfold My.FL;k_is)
  (case jg6=>k_is)
  (case jg7=>k_is)
  (case jg8=>k_is)
  (case jg9=>unfold My.FL;k_is)
  (case jha=>k_is)
  (case jhb=>k_is)
  (case jhc=>k_is)
  (case jhd=>unfold My.FL;k_is)
  (case jhe=>k_is)
  (case jhf=>k_is)
  (case jhg=>k_is)
  (case jhh=>unfold My.FL;k_is)
  (case jhi=>k_is)
  (case jhj=>k_is)
  (case jhk=>k_is)
  (case jhl=>unfold My.FL;k_is)
  (case jhm=>k_is)
  (case jhn=>k_is)
  (case jho=>k_is)
  (case jhp=>unfold My.FL;k_is)
  (case jhq=>k_is)
  (case jhr=>k_is)
  (case jhs=>k_is)

