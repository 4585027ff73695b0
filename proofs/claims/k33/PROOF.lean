import PyProof.Rows.All
import Wide.All
import OpenK.AllK
import Wide.FinOn
import Lean
import PyProof.EqAt
import PyProof.EqKinds
import PyProof.TupleCall
import KE.KLam
import KE.KNest
import KE.KNestM
import PySem.Challenge.RW_wholeowners_k33_no_holder_no_house
open PySem.W renaming Frag→aa,kitOne→ao,findIn→av,nsIn→aw,keepIn→az,codeIn→aG,mg_of→aJ,mroIn→bj,mg_none_of→bD,kia_one→bN,tabIn→bS,isFn→bV,emptyDict→cx,excIn→cL,kla_obj→cT,instObj→cU,fnOf→dS,plainGet→e8,callWith_K→fH,specialIn→fO,hasDictIn→fP,OpenLaw→ge,hideAll→gr,tabObj→gH,lookIn→gI,plainGet_of→gP,plainOver→g9,methodObj→hJ,looks_findIn→hV,kitx_list→hX,codeHdIn→ij,takesIn→iB,takerIn→iC,makesIn→iD,Looks→iO,cellsFrom_some→je,methodCall_KW→jj,looks_mroIn→jt,hideAll_get→jw,callWith_K0→jx,of_hideAll→jJ,kitx_tuple→jK,kitx_dict→jU,handedIn→j6,WalkO→j7
open PySem renaming Addr→ae,Value→af,Shared→al,mainGlobals→au,wpAny_bind→aB,starEach→aK,sizeLine→aP,Program→aV,wpAny_pure→aX,wpAny→ba,Expr→bh,World→bz,Around→bH,bootBuiltins→bJ,Heap→bK,Stmt→bM,mem_of_lookup→bO,compareOp→bP,FuncData→bR,wpAny_mono→ce,backTo→cj,wpAny_Call_Name_kw→cr,assignEach→cG,behindInMarks→cI,wpAny_truthy_bool→de,keywordEach→dg,foldedSetIterable→di,Scope→du,wpAny_holding→dz,cLine→dC,builtinsNs→dM,wpAny_passesOwn→dQ,binaryOp→dR,NameKind→dU,rawInt→dX,wpAny_newObj_type→d8,sysModules→en,codeAny_mono→eA,attributeBase→eS,wpAny_execs_nil→eU,tupleKind_room_in1→eZ,swapsWith→fe,wpAny_pyIter_list→fm,codeAny→ft,backToKw→fu,Paired→fI,sliceBounds→fM,Spec→fN,Keyword→fX,getMethod→gc,standAt→gB,swapsWithSole→gF,swappedStores→gG,scanBound→gN,reprText→gO,codeAny_builtin→gX,strIterType→ig,codeAny_call_builtin→ii,valueAt→im,tupleKind→io,getItem→ip,codeAmong→iq,TriplesOk→ir,Arguments→iw,wpAny_execs_cons→iA,wpAny_standAt→iG,CmpOp→iH,wpAny_call→iL,callerA→iU,callWith→iV,BindsTo→i5,IsPart→jg,sizeLine_eq→ji,letOwnedTupleGo→jr,Within→js,bindName→jH,atKey→jI,Result→jM,GenState→jN,wpAny_comprehension_free→j0,call→j3,assignInOrder→j4,bindL→kh,bindC→ki
open List renaming getElem?_cons_zero→ag,getElem?_cons_succ→ah,mem_cons_of_mem→ai,mem_cons→aj,mem_map→am,length_cons→ap,length_map→aq,mem_cons_self→ar,mem_singleton→ay,map_cons→aD,length_nil→aH,mem_append_right→aL,mem_append→aM,nodup_cons→aS,length_append→aT,size_toArray→aU,map_append→aW,replicate→aY,getElem?_eq_some_iff→aZ,map_map→a7,getElem?_map→bv,getElem?_eq_getElem→bB,lookup_cons→bF,find?_cons→bI,map_congr_left→bQ,nodup_append→bT,not_mem_nil→bX,append_assoc→bZ,append_nil→cg,length_take→ci,mem_filter→ck,find?_eq_none→cm,mem_append_left→cn,map_nil→cy,lookup→cz,cons_append→cC,mem_of_getElem?→cF,replicate_succ→cM,filter_eq_self→cN,getElem_mem→cO,any_eq_true→cP,pairwise_cons→cQ,length_filter_le→cR,nil_append→cW,flatten_cons→cY,all_eq_true→dw,length→dF,range→dG,filter_map→dI,take_add_one→dO,filterMap_cons→eg,any_cons→eo,take_sublist→eV,reverse_cons→eW,nodup_nil→eX,mem_range→eY,take_length→fj,getElem?_set_ne→fE,all_map→fL,getElem?_append_right→fR,find?_map→fS,mem_of_find?_eq_some→fU,getElem?_append_left→fV,drop_eq_getElem_cons→fW,map_id→fZ,find?_append→gb,map_take→gf,length_drop→gu,drop_eq_nil_of_le→gD,any_map→gE,foldl_cons→gK,find?_some→gL,length_singleton→gM,reverse_reverse→gT,length_reverse→gY,length_pos_iff→gZ,all_cons→ia,mem_filterMap→ie,getElem?_set→iy,map_fst_zip→iJ,filter_cons→iK,of_mem_zip→iQ,length_set→iR,perm_ext_iff_of_nodup→jc,getElem?_replicate→jv,range_succ_eq_map→jE,getElem?_set_self→jF,getElem?_eq_none→jR,cons_lt_cons_iff→jS,mem_iff_getElem→jW,drop_eq_nil_iff→jX,getElem?_range→ka,foldl→kq,filter_filter→kr
open And renaming intro→ak
open PySem.Heap renaming get?_push_of_some→ax,lt_size→aI,get?_push_size→bg,SameBut→iu,get?_update_other→jz,FlyingW→jA
open Nat renaming lt_of_lt_of_le→aA,le_refl→aC,le_trans→aN,ne_of_lt→aQ,lt_of_le_of_lt→bi,zero_le→bA,lt_irrefl→cD,le_of_lt→cE,pow_le_pow_right→cH,lt_succ_self→dA,two_pow_pos→eE,le_succ→eR,lt_trans→e9,eq_of_mul_eq_mul_left→fY,le_of_not_lt→gA,lt_succ_of_lt→iE,le_antisymm→i7,zero_add→jP,le_of_eq→jQ,mul_le_mul_left→km,add_le_add_left→ko
open Sum renaming inr→aE,inl→iz
open PySem.Str renaming ofString→aF,empty→fw,join→jf
open Int renaming gcd→aO,mul_le_mul_of_nonneg_right→aR,mul_assoc→bc,le_of_lt→br,mul_comm→bC,mul_pos→bG,gcd_pos_of_ne_zero_right→bW,gcd_dvd_right→cK,emod_lt_of_pos→cS,emod_nonneg→dJ,le_of_mul_le_mul_right→d6,le_trans→d9,mul_ediv_cancel_left→eB,mul_right_comm→eI,mul_nonpos_of_nonpos_of_nonneg→eJ,mul_nonpos_of_nonneg_of_nonpos→eK,mul_nonneg→fb,mul_left_comm→fc,natAbs_dvd_natAbs→fk,gcd_dvd_left→fD,eq_of_mul_eq_mul_right→fT,natAbs_neg→gU,natAbs_mul→gW,ofNat_le→iF,gcd_mul_left→iN,neg_mul→iS,ediv_eq_of_eq_mul_right→jd,mul_neg_of_neg_of_pos→jo,mul_one→ke,add_mul→kf
open Option.some renaming inj→a8
open Bool renaming false_ne_true→a9,eq_iff_iff→bL,eq_false_iff→bU,and_eq_true→bY,or_eq_true→cX,true_and→dL,false_and→dW,false_eq_true→eG,false_or→gi,or_eq_false_iff→jY
open PySem.Value renaming ref→bo,str→gk,int→gQ,type→iW,none→iX,bool→iY,float→jL
open False renaming elim→bu
open Or renaming inl→bw,inr→eM
open PySem.NameKind renaming free→bE,cell→fQ
open PySem.F renaming called_set→cA,excBase_ValueError→fJ,slot_dict_get→gw,slot_dict_getitem→iP,plainAttrs_dict→i9,args_dict_get_3→ja,entry_dict_get→jh,slot_dict_pop→jm,slot_list_append→jO
open PySem.PyData renaming strOk→cB,canLay0→db,canLayAll0→eL,eqv→fK,depth→ib
open True renaming intro→cJ
open Option renaming isSome_map→cV,isSome_eq_false_iff→dP,isNone_iff_eq_none→dZ,isSome_iff_exists→ee,map_eq_some_iff→eO,map_eq_none_iff→gs,getD_none→kl
open Classical renaming propDecidable→cZ,choose_spec→gp,choose→jT
open PyProof.Rows renaming slot_tuple_getitem→dD,envOfC→dY,callWith_type1→fg,AllBare→gC,callWith_builtin1→gS,subscriptTail→iI,assignInOrder_cons→iM
open PySem.Calls renaming spliced_cons→dE,spliced_nil→eT,evalArgs_plain→fB,callWith_builtin→gz,Name_function_global→i0,Constant_str→j9
open PySem.Builtin.Slice renaming slicePlaces→dH,sliceAdjust→fC,sliceApplied→hZ
open PySem.Builtin.Tuple renaming tupleExact→dN
open PySem.Spec renaming ltCps→fA
open PySem.Builtin.List renaming listTooLong→fF
open Array renaming length_toList→fG,toList_append→jZ,append_assoc→kg
open ForInStep renaming yield→gh
open Rat renaming add_assoc→gj,zero_divInt→iT,divInt_eq_divInt_iff→jq,zero_add→jG
open Ne renaming symm→gn
open PySem.Txt renaming join→gv
open PyProof.Rows.F renaming plain_set_update_loop→gJ,entry_set_update_loop→jV
open PySem.Expr renaming Subscript→gR
open PySem.PassesOwn renaming never→ik
open PySem.Obj renaming mapSeq→il
open PySem.SeqAt renaming eqv_refl→iZ,EqAt→j8
open PySem.Paired renaming length→i8,snoc→jy
open PySem.Builtin.Int renaming intBits→jb
open PySem.SeqAt.EqAt renaming str_int→jk,int_str→jl
open PySem.Around renaming under→jn,under_plainId→jC,frames_deeper→jD
open Sum.inr renaming inj→jp
open PySem.W.Looks renaming ld→ju
open PySem.Code renaming isFrame→jB,quiet_builtin→kj
open PySem.Walks renaming list→j5
noncomputable section
set_option Elab.async false
set_option linter.all false
set_option maxRecDepth 100000
namespace L2
open PySem PySem.Spec PyProof.Rows
abbrev Key:=Sum Int Str
def wy:Key→af→Bool
 | .inl k,v=>Value.isInt k v
 | .inr x,v=>Value.isStrOf x v
def keyH (w:bz):Key→Int
 | .inl k=>hashInt k
 | .inr x=>hashStr w x
theorem lh:∀ {k:Key}{v:af},wy k v=true→(∃ i t,k=iz i∧v=gQ i t)∨(∃ x t,k=aE x∧v=gk x t)
 | .inl i,v,h=>by
  obtain ⟨t,e⟩:=Value.isInt_shape (k:=i) (v:=v) h
  exact .inl ⟨i,t,rfl,e⟩
 | .inr x,v,h=>by
  obtain ⟨t,e⟩:=Value.isStrOf_shape (x:=x) (v:=v) h
  exact .inr ⟨x,t,rfl,e⟩
theorem Cp (i:Int) (t:Tok):wy (.inl i) (.int i t)=true:=by simp [wy,Value.isInt]
theorem Co (x:Str) (t:Tok):wy (.inr x) (.str x t)=true:=by simp [wy,Value.isStrOf]
theorem Ic (a b:Int):decide ((iz a:Key)=iz b)=(a == b):=by
 by_cases e:a=b
 ·subst e;simp
 ·have h:¬ (iz a:Key)=iz b:=fun q=>e (Sum.inl.inj q)
  rw [decide_eq_false h]
  exact (beq_eq_false_iff_ne.mpr e).symm
theorem wm (a b:Str):decide ((aE a:Key)=aE b)=decide (a=b):=by
 by_cases e:a=b
 ·subst e;simp
 ·have h:¬ (aE a:Key)=aE b:=fun q=>e (jp q)
  rw [decide_eq_false h,decide_eq_false e]
theorem Ib (a:Int) (b:Str):decide ((iz a:Key)=aE b)=false:=decide_eq_false (fun q=>nomatch q)
theorem Ia (a:Str) (b:Int):decide ((aE a:Key)=iz b)=false:=decide_eq_false (fun q=>nomatch q)
def lj (prog:aV) (w:bz):PySem.KeyKind prog w Key where
 is:=wy
 hash:=keyH w
 inj:=fun v a b ha hb=>by
  rcases lh ha with ⟨i,t,rfl,rfl⟩ | ⟨x,t,rfl,rfl⟩
  ·rcases lh hb with ⟨j,u,rfl,e⟩ | ⟨y,u,rfl,e⟩
   ·injection e with e1 _;rw [e1]
   ·exact nomatch e
  ·rcases lh hb with ⟨j,u,rfl,e⟩ | ⟨y,u,rfl,e⟩
   ·exact nomatch e
   ·injection e with e1 _;rw [e1]
 byValue:=fun k v h=>by
  rcases lh h with ⟨i,t,rfl,rfl⟩ | ⟨x,t,rfl,rfl⟩ <;> rfl
 pyHash:=fun hv h=>by
  rcases lh hv with ⟨i,t,rfl,rfl⟩ | ⟨x,t,rfl,rfl⟩
  ·exact wpAny_pyHash_int h
  ·exact wpAny_pyHash_str h
 eqBool:=fun hu hv h=>by
  rcases lh hu with ⟨i,t,rfl,rfl⟩ | ⟨x,t,rfl,rfl⟩
  ·rcases lh hv with ⟨j,u,rfl,rfl⟩ | ⟨y,u,rfl,rfl⟩
   ·rw [Ic] at h;exact wpAny_eqBool_int h
   ·rw [Ib] at h;exact jl i t y u _ _ _ _ h
  ·rcases lh hv with ⟨j,u,rfl,rfl⟩ | ⟨y,u,rfl,rfl⟩
   ·rw [Ia] at h;exact jk x t j u _ _ _ _ h
   ·rw [wm] at h;exact wpAny_eqBool_str h
 «strs»:=fun k x t v h=>by
  rcases lh h with ⟨i,u,rfl,e⟩ | ⟨y,u,rfl,e⟩
  ·exact nomatch e
  ·injection e with e1 _
   subst e1
   cases v <;> rfl
theorem yR (prog:aV) (w:bz) (i:Int) (t:Tok):(lj prog w).is (.inl i) (.int i t)=true:=Cp i t
theorem yQ (prog:aV) (w:bz) (x:Str) (t:Tok):(lj prog w).is (.inr x) (.str x t)=true:=Co x t
inductive V where
 | non | bl (b:Bool) | int (i:Int) | str (x:Str) | byt (b:Array UInt8) | flt (b:UInt64) | ref (a:ae) | ty (n:String)
 deriving DecidableEq
def RelV:V→af→Prop
 | .non,u=>u=iX
 | .bl b,u=>u=iY b
 | .int i,u=>∃ t,u=gQ i t
 | .str x,u=>∃ t,u=gk x t
 | .byt b,u=>∃ t,u=Value.bytes b t
 | .flt b,u=>∃ t,u=jL b t
 | .ref a,u=>u=bo a
 | .ty n,u=>u=iW n
abbrev Vals:List V→List af→Prop:=fI RelV
theorem Vals.length {xs:List V}{us:List af} (r:Vals xs us):xs.length=us.length:=i8 r
theorem Vals.get:∀ {xs:List V}{us:List af}{i:Nat}{x:V},Vals xs us→xs[i]?=some x→∃ u,us[i]?=some u∧RelV x u
 | _,_,_,_,.nil,e=>by simp at e
 | _,_,0,_,.cons r _,e=>by simp at e;subst e;exact ⟨_,rfl,r⟩
 | _,_,i+1,x,.cons _ t,e=>by
  obtain ⟨u,h1,h2⟩:=Vals.get (i:=i) (x:=x) t (by simpa using e)
  exact ⟨u,by simpa using h1,h2⟩
theorem Vals.set {x:V}{u:af} (r:RelV x u):∀ {xs:List V}{us:List af} (i:Nat),Vals xs us→Vals (xs.set i x) (us.set i u)
 | _,_,_,.nil=>.nil
 | _,_,0,.cons _ t=>.cons r t
 | _,_,i+1,.cons q t=>.cons q (Vals.set r i t)
theorem Vals.append:∀ {xs ys:List V}{us ws:List af},Vals xs us→Vals ys ws→Vals (xs++ys) (us++ws)
 | _,_,_,_,.nil,s=>s
 | _,_,_,_,.cons r t,s=>.cons r (Vals.append t s)
theorem Vals.take:∀ {xs:List V}{us:List af} (n:Nat),Vals xs us→Vals (xs.take n) (us.take n)
 | _,_,0,_=>.nil
 | _,_,_+1,.nil=>.nil
 | _,_,n+1,.cons r t=>.cons r (Vals.take n t)
theorem Vals.drop:∀ {xs:List V}{us:List af} (n:Nat),Vals xs us→Vals (xs.drop n) (us.drop n)
 | _,_,0,r=>r
 | _,_,_+1,.nil=>.nil
 | _,_,n+1,.cons _ t=>Vals.drop n t
def RelO:Option V→Option af→Prop
 | some v,some u=>RelV v u
 | none,none=>True
 | _,_=>False
def KV {κ:Type}:List (κ×V)→List (κ×af)→Prop:=fI fun (p:κ×V) (q:κ×af)=>p.1=q.1∧RelV p.2 q.2
def kV:Key→V
 | .inl i=>.int i
 | .inr x=>.str x
inductive HO where
 /-- a list -/
 | lst (xs:List V)
 /-- a tuple (never changes) -/
 | tup (xs:List V)
 /-- a dict whose keys are ints and texts;one whose keys are tuples of ints and texts (the empty one is both) -/
 | dK (kvs:List (Key×V)) | dT (kvs:List (List Key×V))
 /-- a set of ints: its members,its size -/
 | set (S:Int→Bool) (n:Nat)
 /-- an instance of the class at C,its dict at dx,its attributes -/
 | ins (C dx:ae) (fs:List (Str×V))
 /-- the dict of the instance at x -/
 | own (x:ae)
 /-- the dict of an exception -/
 | xd (fs:List (Str×V))
 /-- a bound method,f of x -/
 | met (f x:ae)
 /-- a range object lo,lo+1,.. below hi -/
 | rng (lo hi:Int)
 /-- a thing that is known to the object (the script;a dict while a loop walks it): read,never written while it is so -/
 | frz (o:Obj) (u:HO)
 /-- a code object's table -/
 | tbl (ps:Array af)
 /-- any other thing,by what is true of its one object (a def of one's own: SetO a S n:=HO.ext fun h=>..) -/
 | ext (φ:bK→Prop)
abbrev Hp:=ae→Option HO
def upd (H:Hp) (a:ae) (o:HO):Hp:=fun b=>if b=a then some o else H b
theorem kD {H:Hp}{a:ae}{o:HO}:upd H a o a=some o:=by unfold upd;rw [if_pos rfl]
theorem kA {H:Hp}{a b:ae}{o:HO} (h:b≠a):upd H a o b=H b:=by unfold upd;rw [if_neg h]
theorem Fj {H:Hp}{a:ae}{o u:HO}:upd (upd H a o) a u=upd H a u:=by
 funext b;unfold upd;split <;> rfl
theorem Ao {H:Hp}{a b:ae}{o u:HO} (h:H a=some o) (h':H b=some u) (d:o≠u):a≠b:=by
 intro e;subst e;rw [h] at h';exact d (a8 h')
theorem kH {H:Hp}{a b:ae}{o:HO} (h:H a=some o) (h':H b=none):a≠b:=by
 intro e;subst e;rw [h] at h';cases h'
section
variable (P:aV) (w:bz)
def ObjOk (H:Hp) (h:bK) (a:ae):HO→Prop
 | .lst xs=>xs.length≤aP∧∃ (its:List af) (n:Nat),Vals xs its∧h.get? a=some { cls:=.type "list",data:=.seq its.toArray n }
 | .tup xs=>xs.length≤aP∧∃ its:List af,Vals xs its∧IsTup h a its.toArray
 | .dK kvs=>kvs.length≤aP∧(a == en)=false∧∃ vs,KV kvs vs∧h.DictOf (lj P w) a vs
 | .dT kvs=>kvs.length≤aP∧(a == en)=false∧∃ xs:List (List Key×ae×af),
   fI (fun (p:List Key×V) (q:List Key×ae×af)=>p.1=q.1∧H q.2.1=some (.tup (p.1.map kV))∧RelV p.2 q.2.2) kvs xs ∧
   ∃ o es ep,h.get? a=some o∧o.ExactDict∧o.data=.dict es ep∧es.toList=xs.map (entryOfKey (io (lj P w)))∧(xs.map (·.1)).Nodup
 | .set S n=>h.SetOf (intKind P w) a S n
 | .ins C dx fs=>H dx=some (.own a)∧fs.length≤1000∧dx≠a∧h.get? a=some (cU C dx) ∧
   ∃ mA,h.Ns1 dx mA∧(∀ f,RelO (fs.lookup f) (mA f))∧js mA (fs.map (·.1))
 | .own _=>∃ o,h.get? a=some o
 | .xd fs=>∃ mA,h.Ns1 a mA∧∀ f,RelO (fs.lookup f) (mA f)
 | .rng lo hi=>∃ t u v,h.get? a=some { cls:=.type "range",data:=.fields #[.int lo t,.int hi u,.int 1 v] }
 | .frz o u=>h.get? a=some o∧ObjOk H h a u
 | .tbl ps=>h.get? a=some { cls:=.none,data:=.fields ps }
 | .met f x=>h.get? a=some (hJ (.ref f) (.ref x))
 | .ext φ=>φ h∧(∃ o,h.get? a=some o)∧∀ h1 h2:bK,φ h1→(∀ o,h1.get? a=some o→h2.get? a=some o)→φ h2
def HOk (H:Hp) (h:bK):Prop:=∀ a o,H a=some o→ObjOk P w H h a o
end
section
variable {P:aV}{w:bz}{H H':Hp}{h h':bK}{a:ae}{o:HO}
theorem ObjOk.lt (x:ObjOk P w H h a o):a < h.objs.size:=by
 cases o with
 | lst xs=>obtain ⟨_,_,_,_,e⟩:=x;exact aI e
 | tup xs=>obtain ⟨_,_,_,p⟩:=x;exact p.lt
 | dK kvs=>obtain ⟨_,_,_,_,o,_,_,e,_⟩:=x;exact aI e
 | dT kvs=>obtain ⟨_,_,_,_,o,_,_,e,_⟩:=x;exact aI e
 | set S n=>obtain ⟨o,_,_,_,e,_⟩:=x;exact aI e
 | ins C dx fs=>obtain ⟨_,_,_,e,_⟩:=x;exact aI e
 | own y=>obtain ⟨_,e⟩:=x;exact aI e
 | xd fs=>obtain ⟨_,⟨_,_,_,e,_⟩,_⟩:=x;exact aI e
 | rng lo hi=>obtain ⟨_,_,_,e⟩:=x;exact aI e
 | frz ob u=>obtain ⟨e,_⟩:=x;exact aI e
 | tbl ps=>exact aI (show h.get? a=some _ from x)
 | met f y=>exact aI (show h.get? a=some _ from x)
 | ext φ=>obtain ⟨_,⟨_,e⟩,_⟩:=x;exact aI e
theorem fI.mapP {α β:Type}{F G:α→β→Prop}:∀ {l₁:List α}{l₂:List β},fI F l₁ l₂→(∀ a b,F a b→G a b)→fI G l₁ l₂
 | _,_,.nil,_=>.nil
 | _,_,.cons r t,f=>.cons (f _ _ r) (fI.mapP t f)
theorem ObjOk.stay (x:ObjOk P w H h a o) (k:∀ b u,(b=a∨H b=some (.own a))→h.get? b=some u→h'.get? b=some u)
  (ho:∀ b,H b=some (.own a)→H' b=some (.own a)) (ht:∀ b xs,H b=some (.tup xs)→H' b=some (.tup xs)):ObjOk P w H' h' a o:=by
 induction o with
 | lst xs=>obtain ⟨z,its,n,r,e⟩:=x;exact ⟨z,its,n,r,k _ _ (.inl rfl) e⟩
 | tup xs=>obtain ⟨z,its,r,ob,e,c⟩:=x;exact ⟨z,its,r,ob,k _ _ (.inl rfl) e,c⟩
 | dK kvs=>obtain ⟨z,y,vs,r,ob,es,ep,e,c⟩:=x;exact ⟨z,y,vs,r,ob,es,ep,k _ _ (.inl rfl) e,c⟩
 | dT kvs =>
  obtain ⟨z,y,xs,r,ob,es,ep,e,c⟩:=x
  exact ⟨z,y,xs,fI.mapP r fun p q z=>⟨z.1,ht _ _ z.2.1,z.2.2⟩,ob,es,ep,k _ _ (.inl rfl) e,c⟩
 | set S n=>obtain ⟨ob,es,ep,t,e,c⟩:=x;exact ⟨ob,es,ep,t,k _ _ (.inl rfl) e,c⟩
 | ins C dx fs =>
  obtain ⟨d,z,ne,e,mA,⟨od,es,ep,e2,c⟩,r⟩:=x
  exact ⟨ho _ d,z,ne,k _ _ (.inl rfl) e,mA,⟨od,es,ep,k _ _ (.inr d) e2,c⟩,r⟩
 | own y=>obtain ⟨ob,e⟩:=x;exact ⟨ob,k _ _ (.inl rfl) e⟩
 | xd fs=>obtain ⟨mA,⟨od,es,ep,e,c⟩,r⟩:=x;exact ⟨mA,⟨od,es,ep,k _ _ (.inl rfl) e,c⟩,r⟩
 | rng lo hi=>obtain ⟨t,u,v,e⟩:=x;exact ⟨t,u,v,k _ _ (.inl rfl) e⟩
 | frz ob u ih=>obtain ⟨e,q⟩:=x;exact ⟨k _ _ (.inl rfl) e,ih q⟩
 | tbl ps =>
  have e:h.get? a=some { cls:=.none,data:=.fields ps }:=x
  show h'.get? a=some { cls:=.none,data:=.fields ps }
  exact k a _ (.inl rfl) e
 | met f y =>
  have e:h.get? a=some (hJ (.ref f) (.ref y)):=x
  show h'.get? a=some (hJ (.ref f) (.ref y))
  exact k a _ (.inl rfl) e
 | ext φ=>obtain ⟨p,⟨o,e⟩,st⟩:=x;exact ⟨st _ _ p fun o q=>k _ _ (.inl rfl) q,⟨o,k _ _ (.inl rfl) e⟩,st⟩
theorem HOk.lt (x:HOk P w H h) (e:H a=some o):a < h.objs.size:=(x a o e).lt
theorem HOk.fresh (x:HOk P w H h) (e:h.objs.size≤a):H a=none:=by
 cases q:H a with
 | none=>rfl
 | some u=>exact absurd (aA (x.lt q) e) (cD _)
theorem HOk.kept (x:HOk P w H h) (k:∀ b u,h.get? b=some u→h'.get? b=some u):HOk P w H h':=fun a o e =>
 (x a o e).stay (fun b u _ q=>k b u q) (fun _ q=>q) fun _ _ q=>q
theorem HOk.laid (x:HOk P w H h) (k:∀ b u,h.get? b=some u→h'.get? b=some u) (hp:h.objs.size≤a) (new:ObjOk P w (upd H a o) h' a o):HOk P w (upd H a o) h':=fun b u e=>by
 have hn:=x.fresh hp
 by_cases hb:b=a
 ·subst hb;rw [kD] at e;cases e;exact new
 ·rw [kA hb] at e
  exact (x b u e).stay (fun c v _ q=>k c v q) (fun c q=>by rw [kA (kH q hn)];exact q) fun c xs q=>by rw [kA (kH q hn)];exact q
end
def Rd (H:Hp) (a:ae) (u:HO):Prop:=H a=some u∨∃ o,H a=some (.frz o u)
theorem Rd.ok {P:aV}{w:bz}{H:Hp}{h:bK}{a:ae}{u:HO} (r:Rd H a u) (x:HOk P w H h):ObjOk P w H h a u:=by
 rcases r with r | ⟨o,r⟩
 ·exact x a u r
 ·obtain ⟨_,q⟩:=x a _ r
  exact q
def Mut:Option HO→Prop
 | some (.lst _)=>True
 | some (.dK _)=>True
 | some (.dT _)=>True
 | some (.set _ _)=>True
 | some (.ins _ _ _)=>True
 | some (.ext _)=>True
 | _=>False
section
variable {P:aV}{w:bz}{H:Hp}{h h':bK}{x e:ae}{o':HO}
theorem HOk.write (ok:HOk P w H h) (mu:Mut (H x)) (he:e=x∨H e=some (.own x)) (k:∀ b u,b≠e→h.get? b=some u→h'.get? b=some u) (heo:∃ u,h'.get? e=some u)
  (new:ObjOk P w (upd H x o') h' x o'):HOk P w (upd H x o') h':=fun b u q=>by
 have nown:∀ c y,H c=some (.own y)→c≠x:=fun c y r z=>by subst z;rw [r] at mu;exact mu
 have ntup:∀ c xs,H c=some (.tup xs)→c≠x:=fun c xs r z=>by subst z;rw [r] at mu;exact mu
 by_cases hb:b=x
 ·subst hb;rw [kD] at q;cases q;exact new
 ·rw [kA hb] at q
  by_cases hbe:b=e
  ·have q':H b=some (.own x):=by
    rcases he with z | z
    ·exact absurd (hbe.trans z) hb
    ·rw [hbe];exact z
   rw [q] at q';cases q'
   obtain ⟨v,hv⟩:=heo
   exact ⟨v,by rw [hbe];exact hv⟩
  ·refine (ok b u q).stay (fun c v hc r=>k c v ?_ r) (fun c r=>by rw [kA (nown c b r)];exact r) fun c xs r=>by rw [kA (ntup c xs r)];exact r
   rcases hc with rfl | hc
   ·exact hbe
   ·rintro rfl
    rcases he with z | z
    ·exact nown c b hc z
    ·rw [hc] at z;cases z;exact hb rfl
end
structure Un (fs ex:List ae) (H H':Hp) (h h':bK):Prop where
 keep:∀ b o,h.get? b=some o→H b=none→b∉fs→b∉ex→h'.get? b=some o
 slot:∀ b o,h.get? b=some o→H b=none→b∈fs→b∉ex→∃ sl,h'.get? b=some { o with slots:=sl }
 free:∀ b o,h.get? b=some o→H b=none→b∉ex→H' b=none
 there:∀ b o,h.get? b=some o→b∉ex→∃ o',h'.get? b=some o'
 tups:∀ b xs,H b=some (.tup xs)→H' b=some (.tup xs)
 frzs:∀ b o u,H b=some (.frz o u)→H' b=some (.frz o u)
 tbls:∀ b ps,H b=some (.tbl ps)→∃ more,H' b=some (.tbl (ps++more))
section
variable {fs fs' ex ex':List ae}{H H1 H2:Hp}{h h1 h2 h':bK}{a x e:ae}{o:HO}
theorem Un.any (u:Un fs ex H H1 h h1) {b:ae}{ob:Obj} (q:h.get? b=some ob) (n:H b=none) (hx:b∉ex):∃ sl,h1.get? b=some { ob with slots:=sl }:=by
 by_cases hb:b∈fs
 ·exact u.slot b ob q n hb hx
 ·exact ⟨ob.slots,u.keep b ob q n hb hx⟩
theorem Un.kept (k:∀ b u,h.get? b=some u→h'.get? b=some u):Un fs ex H H h h' :=
 ⟨fun b ob q _ _ _=>k b ob q,fun b ob q _ _ _=>⟨ob.slots,k b ob q⟩,fun _ _ _ n _=>n,fun b ob q _=>⟨ob,k b ob q⟩,fun _ _ q=>q,fun _ _ _ q=>q,fun _ ps q=>⟨#[],by rw [q];simp⟩⟩
theorem Un.refl:Un fs ex H H h h:=Un.kept fun _ _ q=>q
theorem Un.laid (k:∀ b u,h.get? b=some u→h'.get? b=some u) (hp:h.objs.size≤a) (hn:H a=none):Un fs ex H (upd H a o) h h' where
 keep:=fun b u q _ _ _=>k b u q
 slot:=fun b u q _ _ _=>⟨u.slots,k b u q⟩
 free:=fun b u q n _=>by rw [kA (aQ (aA (aI q) hp))];exact n
 there:=fun b u q _=>⟨u,k b u q⟩
 tups:=fun b xs q=>by rw [kA (kH q hn)];exact q
 frzs:=fun b u xs q=>by rw [kA (kH q hn)];exact q
 tbls:=fun b ps q=>⟨#[],by rw [kA (kH q hn),q];simp⟩
theorem Un.write (mu:Mut (H x)) (he:e=x∨H e=some (.own x)) (k:∀ b u,b≠e→h.get? b=some u→h'.get? b=some u) (heo:∃ u,h'.get? e=some u):Un fs ex H (upd H x o) h h':=by
 have hx:∀ b,H b=none→b≠x:=fun b n z=>by subst z;rw [n] at mu;exact mu
 have hb:∀ b,H b=none→b≠e:=fun b n z=>by
  subst z
  rcases he with r | r
  ·exact hx b n r
  ·rw [n] at r;cases r
 have hm:∀ b u,H b=some u→¬ Mut (some u)→b≠x:=fun b u q nm z=>by subst z;rw [q] at mu;exact nm mu
 refine ⟨fun b u q n _ _=>k b u (hb b n) q,fun b u q n _ _=>⟨u.slots,k b u (hb b n) q⟩,fun b u q n _=>by rw [kA (hx b n)];exact n,fun b u q _=>?_,
  fun b xs q=>by rw [kA (hm b _ q fun z=>z)];exact q,fun b u xs q=>by rw [kA (hm b _ q fun z=>z)];exact q,fun b ps q=>⟨#[],by rw [kA (hm b _ q fun z=>z),q];simp⟩⟩
 by_cases hbe:b=e
 ·subst hbe;exact heo
 ·exact ⟨u,k b u hbe q⟩
end
def trk (h:bK) (H:Hp):List ae:=(dG h.objs.size).filter fun a=>(H a).isSome
def yf (h:bK) (H:Hp):bK:=gr h (trk h H)
theorem Cu (h:bK) (H:Hp):(yf h H).objs.size=h.objs.size:=PySem.W.hideAll_size _ _
theorem zq {h:bK}{H:Hp}{b:ae}{o:Obj} (e:h.get? b=some o) (n:H b=none):(yf h H).get? b=some o :=
 jw _ e fun hm=>by
  have q:(H b).isSome=true:=(ck.mp hm).2
  rw [n] at q;simp at q
theorem FV {h:bK}{H:Hp}{b:ae}{o:Obj} (e:(yf h H).get? b=some o):h.get? b=some o∧H b=none:=by
 have e':h.get? b=some o:=jJ (trk h H) e
 refine ⟨e',?_⟩
 cases q:H b with
 | none=>rfl
 | some x =>
  have hm:b∈trk h H:=ck.mpr ⟨eY.mpr (aI e'),by simp [q]⟩
  have z:(yf h H).get? b=none:=PySem.W.hideAll_none (trk h H) hm
  rw [z] at e;cases e
def Gz (g h:bK) (L:ae):List (ae×Obj):=(dG h.objs.size).filterMap fun a=>if a=L∨(g.get? a).isSome=true then none else (h.get? a).map fun o=>(a,o)
def lK (g h:bK) (L d:ae):List (ae×Obj):=(Gz g h L).filter fun p=>decide (p.1≠d)
structure Mod (K:aa) (mg:Str→Option af) (base:bK):Prop where
 kin:K.In base
 glob:base.Ns au mg
 blt:∃ mb,base.Ns dM mb∧∀ x:Str,x≠"__name__"→mb x=bJ x
 nolimit:base.NoLimit
structure Cx where
 prog:aV
 w:bz
 K:aa
 mg:Str→Option af
 base:bK
 A:bH
 N:List Str
 s₀:al
 H₀:Hp
 env:Env
 outer:List Env
 stack:List Env
 ex:List ae
 fn:Str→Bool
 calm:Bool
 pn:List (ae×Obj)
 xe:af→al→Prop
def frs (l:List Env):List ae:=l.filterMap (·.frame)
abbrev Cx.fs (X:Cx):List ae:=frs X.outer
def Vis (sc:du) (x:Str):Prop:=sc.names.lookup x=some .local∨sc.names.lookup x=some .cell∨sc.names.lookup x=some .free
def Loc (sc:du) (x:Str):Prop:=sc.names.lookup x=some .local∨sc.names.lookup x=some .cell
def Look (env:Env) (h:bK) (m:Str→Option af) (x:Str) (u:af):Prop :=
 (env.kindOf x=some .local∧m x=some u)∨((env.kindOf x=some .cell∨env.kindOf x=some .free)∧∃ c,env.cells.lookup x=some c∧h.IsCell c (some u))
structure Cx.Ok (X:Cx):Prop where
 mod:Mod X.K X.mg X.base
 kind:X.env.scope.kind=.function
 glob:X.env.globals=au
 blt:X.env.builtins=dM
 above:X.s₀.heap.objs.size≤X.env.locals
 inj:∀ x y c,X.env.cells.lookup x=some c→X.env.cells.lookup y=some c→x=y
 has:∀ x,(X.env.kindOf x=some .cell∨X.env.kindOf x=some .free)→∃ c,X.env.cells.lookup x=some c
 cab:∀ x c,X.fn x=true→X.env.cells.lookup x=some c→X.s₀.heap.objs.size≤c
 hd:X.calm=true→X.A.handled=none
 frames:X.A.frames=some X.stack
 stk:X.stack=X.outer∨(X.stack=X.env::X.outer∧X.env.frame=some X.env.locals)
 exf:∀ b∈X.ex,b≠X.env.locals∧∀ x c,X.env.cells.lookup x=some c→c≠b
 bs:∀ b o,X.base.get? b=some o→X.s₀.heap.get? b=some o∧X.H₀ b=none
 bsz:X.base.objs.size≤X.s₀.heap.objs.size
 noex:∀ b o,X.base.get? b=some o→b∉X.ex
 exfs:∀ b∈X.ex,b∉X.fs
 funs:X.s₀.heap.FunFrames X.base X.outer
 frf:∀ b∈X.fs,X.H₀ b=none
structure Inv (X:Cx) (pins:List (ae×Obj)) (σ:List (Option V)) (H:Hp) (s:al):Prop where
 ok:X.Ok
 os:s.os=X.s₀.os
 bare:gC s.gens
 base:Un X.fs X.ex X.H₀ H X.s₀.heap s.heap
 loc:∃ m,s.heap.Ns X.env.locals m∧∀ (i:Nat) (x:Str) (v:V),X.N[i]?=some x→σ[i]?=some (some v)→Vis X.env.scope x→∃ u,RelV v u∧Look X.env s.heap m x u
 cell:∀ x c,X.env.cells.lookup x=some c→∃ v,s.heap.IsCell c v
 free:H X.env.locals=none
 freeC:∀ x c,X.env.cells.lookup x=some c→H c=none
 pin:∀ p∈X.pn++pins,s.heap.get? p.1=some p.2∧H p.1=none∧p.1≠X.env.locals∧p.1∉X.fs∧∀ v,p.2.data≠.cell v
 hok:HOk X.prog X.w H s.heap
 len:σ.length=X.N.length
section
variable {X:Cx}{pins:List (ae×Obj)}{σ:List (Option V)}{H H':Hp}{s:al}{h':bK}
theorem Cx.Ok.nofr (ok:X.Ok) {b:ae}{o:Obj} (e:X.base.get? b=some o):b∉X.fs:=fun hb=>by
 have:=(ok.funs.mem hb).1
 rw [e] at this;cases this
theorem Inv.bs (I:Inv X pins σ H s):∀ b o,X.base.get? b=some o→s.heap.get? b=some o∧H b=none:=fun b o e =>
 ⟨I.base.keep b o (I.ok.bs b o e).1 (I.ok.bs b o e).2 (I.ok.nofr e) (I.ok.noex b o e),I.base.free b o (I.ok.bs b o e).1 (I.ok.bs b o e).2 (I.ok.noex b o e)⟩
theorem Inv.bk (I:Inv X pins σ H s):∀ b o,X.base.get? b=some o→s.heap.get? b=some o:=fun b o e=>(I.bs b o e).1
theorem Inv.mod (I:Inv X pins σ H s):Mod X.K X.mg X.base:=I.ok.mod
theorem Inv.kIn (I:Inv X pins σ H s):X.K.In s.heap:=I.ok.mod.kin.keeps I.bk
theorem Inv.lt (I:Inv X pins σ H s):X.env.locals < s.heap.objs.size:=let ⟨_,hn,_⟩:=I.loc;hn.lt
theorem Inv.sz (I:Inv X pins σ H s):X.s₀.heap.objs.size≤s.heap.objs.size:=aN I.ok.above (cE I.lt)
theorem Inv.nofs (I:Inv X pins σ H s) {a:ae} (h:s.heap.objs.size≤a):a∉X.fs:=fun hb=>by
 obtain ⟨_,o,ho,_⟩:=I.ok.funs.mem hb
 exact absurd (aA (aI ho) (aN I.sz h)) (cD _)
theorem Inv.cne (I:Inv X pins σ H s):∀ x c,X.env.cells.lookup x=some c→c≠X.env.locals:=fun x c e z=>by
 obtain ⟨v,o,ho,hd⟩:=I.cell x c e
 obtain ⟨m,⟨o',es,ep,ho',hd',_⟩,_⟩:=I.loc
 rw [z,ho'] at ho;cases ho;rw [hd'] at hd;cases hd
theorem Inv.funs (I:Inv X pins σ H s):s.heap.FunFrames X.base X.outer:=by
 have all:∀ (l:List Env),(∀ b∈frs l,b∈X.fs)→X.s₀.heap.FunFrames X.base l→s.heap.FunFrames X.base l:=by
  intro l
  induction l with
  | nil=>intro _ _;trivial
  | cons env r ih =>
   intro hs hl
   obtain ⟨hk,⟨L,o,hf,hn,ho,hd⟩,hr⟩:=hl
   have hL:L∈X.fs:=hs L (by unfold frs;rw [eg,hf];exact ar)
   obtain ⟨sl,e⟩:=I.base.slot L o ho (I.ok.frf L hL) hL fun z=>I.ok.exfs L z hL
   exact ⟨hk,⟨L,_,hf,hn,e,hd⟩,ih (fun b hb=>hs b (by unfold frs;rw [eg,hf];exact ai _ hb)) hr⟩
 exact all X.outer (fun _ hb=>hb) I.ok.funs
theorem Inv.stack (I:Inv X pins σ H s):s.heap.FunFrames X.base X.stack:=by
 rcases I.ok.stk with e | ⟨e,hf⟩
 ·rw [e];exact I.funs
 ·rw [e]
  obtain ⟨m,hn,_⟩:=I.loc
  refine .cons (by rw [I.ok.kind];decide) hf hn ?_ I.funs
  exact Heap.get?_none_of_le (aN I.ok.bsz I.ok.above)
theorem Inv.stkSub (I:Inv X pins σ H s):∀ b∈frs X.stack,b∈X.env.locals::X.fs:=fun b hb=>by
 rcases I.ok.stk with e | ⟨e,hf⟩
 ·rw [e] at hb;exact ai _ hb
 ·rw [e] at hb
  unfold frs at hb
  rw [eg,hf] at hb
  exact hb
theorem Inv.stkFree (I:Inv X pins σ H s):∀ b∈frs X.stack,H b=none:=fun b hb=>by
 rcases aj.mp (I.stkSub b hb) with e | hb
 ·rw [e];exact I.free
 ·obtain ⟨_,o,ho,_⟩:=I.ok.funs.mem hb
  exact I.base.free b o ho (I.ok.frf b hb) fun z=>I.ok.exfs b z hb
theorem Inv.step {g':Array jN}{t':Nat}{d':Drawn}{ch:List ae} (I:Inv X pins σ H s)
  (hch:∀ b∈ch,(b∈X.ex∨X.s₀.heap.objs.size≤b)∧b≠X.env.locals∧(∀ x c,X.env.cells.lookup x=some c→c≠b)∧∀ p∈X.pn++pins,p.1≠b)
  (keep:∀ b o,b≠X.env.locals→b∉X.fs→b∉ch→s.heap.get? b=some o→H b=none→h'.get? b=some o)
  (slot:∀ b o,b≠X.env.locals→b∈X.fs→b∉ch→s.heap.get? b=some o→H b=none→∃ sl,h'.get? b=some { o with slots:=sl }) (free:∀ b o,b∉ch→s.heap.get? b=some o→H b=none→H' b=none)
  (there:∀ b o,b∉ch→s.heap.get? b=some o→∃ o',h'.get? b=some o')
  (tups:∀ b xs,H b=some (.tup xs)→H' b=some (.tup xs)) (frzs:∀ b o u,H b=some (.frz o u)→H' b=some (.frz o u)) (tbls:∀ b ps,H b=some (.tbl ps)→∃ more,H' b=some (.tbl (ps++more)))
  (ns:∀ m,s.heap.Ns X.env.locals m→h'.Ns X.env.locals m) (hok:HOk X.prog X.w H' h') (hg:gC g') :
  Inv X pins σ H' { s with heap:=h',gens:=g',drawn:=d',toks:=t' }:=by
 have neL:∀ b o,X.s₀.heap.get? b=some o→b≠X.env.locals:=fun b o e=>aQ (aA (aI e) I.ok.above)
 have neC:∀ b o,X.s₀.heap.get? b=some o→b∉X.ex→b∉ch:=fun b o e hx hb=>by
  rcases (hch b hb).1 with z | z
  ·exact hx z
  ·exact absurd (aA (aI e) z) (cD _)
 have cellK:∀ x c,X.env.cells.lookup x=some c→∀ v,s.heap.IsCell c v→h'.IsCell c v:=fun x c e v ⟨o,ho,hd⟩=>by
  have nch:c∉ch:=fun z=>(hch c z).2.2.1 x c e rfl
  by_cases hc:c∈X.fs
  ·obtain ⟨sl,q⟩:=slot c o (I.cne x c e) hc nch ho (I.freeC x c e)
   exact ⟨_,q,hd⟩
  ·exact ⟨o,keep c o (I.cne x c e) hc nch ho (I.freeC x c e),hd⟩
 refine ⟨I.ok,I.os,hg,⟨fun b o e n hb hx=>?_,fun b o e n hb hx=>?_,fun b o e n hx=>?_,fun b o e hx=>?_,fun b xs e=>tups b xs (I.base.tups b xs e),fun b o xs e=>frzs b o xs (I.base.frzs b o xs e),fun b ps e=>?_⟩,?_,fun x c e=>?_,?_,fun x c e=>?_,fun p hp=>?_,hok,I.len⟩
 ·exact keep b o (neL b o e) hb (neC b o e hx) (I.base.keep b o e n hb hx) (I.base.free b o e n hx)
 ·obtain ⟨sl,e1⟩:=I.base.slot b o e n hb hx
  obtain ⟨sl',e2⟩:=slot b _ (neL b o e) hb (neC b o e hx) e1 (I.base.free b o e n hx)
  exact ⟨sl',e2⟩
 ·obtain ⟨o',e1⟩:=I.base.there b o e hx
  exact free b o' (neC b o e hx) e1 (I.base.free b o e n hx)
 ·obtain ⟨o',e1⟩:=I.base.there b o e hx
  exact there b o' (neC b o e hx) e1
 ·obtain ⟨m1,e1⟩:=I.base.tbls b ps e
  obtain ⟨m2,e2⟩:=tbls b _ e1
  exact ⟨m1++m2,by rw [e2,kg]⟩
 ·obtain ⟨m,hn,hl⟩:=I.loc
  refine ⟨m,ns m hn,fun i x v e1 e2 e3=>?_⟩
  obtain ⟨u,r,l⟩:=hl i x v e1 e2 e3
  refine ⟨u,r,?_⟩
  rcases l with l | ⟨k,c,e,z⟩
  ·exact .inl l
  ·exact .inr ⟨k,c,e,cellK x c e _ z⟩
 ·obtain ⟨v,z⟩:=I.cell x c e
  exact ⟨v,cellK x c e v z⟩
 ·obtain ⟨m,⟨o,_,_,ho,_⟩,_⟩:=I.loc
  exact free _ o (fun z=>(hch _ z).2.1 rfl) ho I.free
 ·obtain ⟨v,o,ho,hd⟩:=I.cell x c e
  exact free c o (fun z=>(hch c z).2.2.1 x c e rfl) ho (I.freeC x c e)
 ·obtain ⟨e,n,ne,nf,d⟩:=I.pin p hp
  have nch:p.1∉ch:=fun z=>(hch p.1 z).2.2.2 p hp rfl
  exact ⟨keep p.1 p.2 ne nf nch e n,free p.1 p.2 nch e n,ne,nf,d⟩
theorem Inv.un {t':Nat} (I:Inv X pins σ H s) (u:Un X.fs [] H H' s.heap h') (hok:HOk X.prog X.w H' h'):Inv X pins σ H' { s with heap:=h',toks:=t' }:=by
 obtain ⟨m,⟨o,es,ep,ho,r⟩,_⟩:=id I.loc
 obtain ⟨sl,hL⟩:=u.any ho I.free (by simp)
 exact I.step (g':=s.gens) (d':=s.drawn) (ch:=[]) (fun _ z=>nomatch z) (fun b o _ hb _ e n=>u.keep b o e n hb (by simp)) (fun b o _ hb _ e n=>u.slot b o e n hb (by simp)) (fun b o _ e n=>u.free b o e n (by simp)) (fun b o _ e=>u.there b o e (by simp)) u.tups u.frzs u.tbls (fun m' hm=>by
  obtain ⟨o',es',ep',ho',r'⟩:=hm
  rw [ho] at ho';cases ho'
  exact ⟨_,es',ep',hL,r'⟩) hok I.bare
theorem Inv.call {g':Array jN}{t':Nat}{d':Drawn}{ch:List ae} (I:Inv X pins σ H s) (u:Un (frs X.stack) ch H H' s.heap h') (hok:HOk X.prog X.w H' h') (hg:gC g')
  (hch:∀ b∈ch,(b∈X.ex∨X.s₀.heap.objs.size≤b)∧b≠X.env.locals∧(∀ x c,X.env.cells.lookup x=some c→c≠b)∧∀ p∈X.pn++pins,p.1≠b) :
  Inv X pins σ H' { s with heap:=h',gens:=g',drawn:=d',toks:=t' }:=by
 obtain ⟨m,⟨o,es,ep,ho,r⟩,_⟩:=id I.loc
 obtain ⟨sl,hL⟩:=u.any ho I.free fun z=>(hch _ z).2.1 rfl
 exact I.step (ch:=ch) hch (fun b o hL hb hc e n=>u.keep b o e n (fun z=>(aj.mp (I.stkSub b z)).elim hL hb) hc) (fun b o _ _ hc e n=>u.any e n hc) (fun b o hc e n=>u.free b o e n hc) (fun b o hc e=>u.there b o e hc) u.tups u.frzs u.tbls (fun m' hm=>by
  obtain ⟨o',es',ep',ho',r'⟩:=hm
  rw [ho] at ho';cases ho'
  exact ⟨_,es',ep',hL,r'⟩) hok hg
theorem Inv.turned {t':Nat}{it:ae} (I:Inv X pins σ H s) (k:∀ b o,b≠it→s.heap.get? b=some o→h'.get? b=some o) (hn:H it=none) (hL:it≠X.env.locals)
  (h1:it∈X.ex∨X.s₀.heap.objs.size≤it) (h2:∀ x c,X.env.cells.lookup x=some c→c≠it) (h3:∀ p∈X.pn++pins,p.1≠it):Inv X pins σ H { s with heap:=h',toks:=t' }:=by
 have nit:∀ b u,H b=some u→b≠it:=fun b u e z=>by rw [z,hn] at e;cases e
 refine I.step (g':=s.gens) (d':=s.drawn) (ch:=[it]) (fun b hb=>?_) (fun b o _ _ hc e _=>k b o (fun z=>hc (by simp [z])) e) (fun b o _ _ hc e _=>⟨o.slots,k b o (fun z=>hc (by simp [z])) e⟩) (fun _ _ _ _ n=>n)
  (fun b o hc e=>⟨o,k b o (fun z=>hc (by simp [z])) e⟩) (fun _ _ e=>e) (fun _ _ _ e=>e) (fun b ps e=>⟨#[],by rw [e];simp⟩) (fun m hm=>?_) (fun b u e=>?_) I.bare
 ·have e:b=it:=by simpa using hb
  subst e
  exact ⟨h1,hL,h2,h3⟩
 ·obtain ⟨o,es,ep,ho,r⟩:=hm
  exact ⟨o,es,ep,k _ o (gn hL) ho,r⟩
 ·refine (I.hok b u e).stay (fun c v hc q=>k c v ?_ q) (fun _ q=>q) fun _ _ q=>q
  rcases hc with z | z
  ·rw [z];exact nit b u e
  ·exact nit c _ z
theorem Inv.tok (I:Inv X pins σ H s) (t:Nat):Inv X pins σ H { s with toks:=t }:=I.un (h':=s.heap) (t':=t) Un.refl I.hok
theorem Inv.kept {t':Nat} (I:Inv X pins σ H s) (k:∀ b u,s.heap.get? b=some u→h'.get? b=some u):Inv X pins σ H { s with heap:=h',toks:=t' }:=I.un (Un.kept k) (I.hok.kept k)
theorem Inv.laid {a:ae}{o:HO}{t':Nat} (I:Inv X pins σ H s) (k:∀ b u,s.heap.get? b=some u→h'.get? b=some u) (hp:s.heap.objs.size≤a) (new:ObjOk X.prog X.w (upd H a o) h' a o) :
  Inv X pins σ (upd H a o) { s with heap:=h',toks:=t' }:=I.un (Un.laid k hp (I.hok.fresh hp)) (I.hok.laid k hp new)
theorem Inv.write {x e:ae}{o:HO}{t':Nat} (I:Inv X pins σ H s) (mu:Mut (H x)) (he:e=x∨H e=some (.own x)) (k:∀ b u,b≠e→s.heap.get? b=some u→h'.get? b=some u) (heo:∃ u,h'.get? e=some u)
  (new:ObjOk X.prog X.w (upd H x o) h' x o):Inv X pins σ (upd H x o) { s with heap:=h',toks:=t' }:=I.un (Un.write mu he k heo) (I.hok.write mu he k heo new)
theorem Inv.pins_of {pins':List (ae×Obj)} (I:Inv X pins σ H s) (h:∀ p∈pins',s.heap.get? p.1=some p.2∧H p.1=none∧p.1≠X.env.locals∧p.1∉X.fs∧∀ v,p.2.data≠.cell v):Inv X pins' σ H s :=
 ⟨I.ok,I.os,I.bare,I.base,I.loc,I.cell,I.free,I.freeC,fun p hp=>(aM.mp hp).elim (fun z=>I.pin p (cn _ z)) (h p),I.hok,I.len⟩
theorem vE {N:List Str} (hN:N.Nodup) {i j:Nat}{x:Str} (a:N[i]?=some x) (b:N[j]?=some x):i=j:=by
 obtain ⟨h1,e1⟩:=aZ.mp a
 obtain ⟨h2,e2⟩:=aZ.mp b
 exact (List.getElem_inj hN).mp (e1.trans e2.symm)
theorem wL {M:Model}{A:bH}{E:af→al→Prop}{i:Nat}{x:Str}{v:V}{u:af}{Q:Unit→al→Prop} (I:Inv X pins σ H s) (hN:X.N.Nodup) (hi:X.N[i]?=some x) (hx:Loc X.env.scope x) (r:RelV v u)
  (h:∀ s',Inv X pins (σ.set i (some v)) H s'→(∃ a,iu a s.heap s'.heap∧(a=X.env.locals∨X.env.cells.lookup x=some a))→Q () s') (hf:X.fn x=true∨X.env.scope.names.lookup x=some .local:=by first | exact .inl rfl | exact .inr rfl | assumption):ba M A (storeName X.env x u) Q E s:=by
 obtain ⟨m,hn,hl⟩:=id I.loc
 have hcls:(X.env.scope.kind == .class || (X.env.scope.kind == .module && X.env.locals != X.env.globals))=false:=by rw [I.ok.kind];rfl
 have hiσ:i < σ.length:=by rw [I.len];exact (aZ.mp hi).1
 have cne:=I.cne
 have tracked:∀ {a:ae}{h':bK},(∃ o,s.heap.get? a=some o∧H a=none)→iu a s.heap h'→HOk X.prog X.w H h':=fun {a h'} ha hs b ob e=>by
  obtain ⟨_,_,hfree⟩:=ha
  refine (I.hok b ob e).stay (fun c w' hc q=>(hs.2 c ?_).trans q) (fun _ q=>q) fun _ _ q=>q
  rintro rfl
  rcases hc with rfl | hc
  ·rw [hfree] at e;cases e
  ·rw [hfree] at hc;cases hc
 rcases hx with hk | hk
 ·refine wpAny_storeName_local hk hn (fun h' hn' hs=>?_) hcls
  obtain ⟨oL,_,_,hoL,_⟩:=id hn
  refine h _ ⟨I.ok,I.os,I.bare,⟨fun b o e n hb hx=>?_,fun b o e n hb hx=>?_,I.base.free,fun b o e hx=>?_,I.base.tups,I.base.frzs,I.base.tbls⟩,⟨_,hn',fun j y v' e1 e2 e3=>?_⟩,fun y c e=>?_,I.free,I.freeC,fun p hp=>?_,tracked ⟨oL,hoL,I.free⟩ hs,by simpa using I.len⟩ ⟨_,hs,.inl rfl⟩
  ·exact (hs.2 b (aQ (aA (aI e) I.ok.above))).trans (I.base.keep b o e n hb hx)
  ·obtain ⟨sl,e1⟩:=I.base.slot b o e n hb hx
   exact ⟨sl,(hs.2 b (aQ (aA (aI e) I.ok.above))).trans e1⟩
  ·obtain ⟨o',e1⟩:=I.base.there b o e hx
   exact ⟨o',(hs.2 b (aQ (aA (aI e) I.ok.above))).trans e1⟩
  ·by_cases hj:j=i
   ·subst hj
    rw [hi] at e1;cases e1
    rw [jF hiσ] at e2
    cases e2
    exact ⟨u,r,.inl ⟨hk,by simp⟩⟩
   ·rw [fE (gn hj)] at e2
    obtain ⟨u',r',q⟩:=hl j y v' e1 e2 e3
    refine ⟨u',r',?_⟩
    rcases q with ⟨k,e⟩ | ⟨k,c,e,z⟩
    ·refine .inl ⟨k,?_⟩
     have:y≠x:=fun e=>hj (vE hN e1 (e ▸ hi))
     simp [this,e]
    ·exact .inr ⟨k,c,e,z.sameBut hs (cne y c e)⟩
  ·obtain ⟨w',z⟩:=I.cell y c e
   exact ⟨w',z.sameBut hs (cne y c e)⟩
  ·obtain ⟨e,n,ne,nf,d⟩:=I.pin p hp
   exact ⟨(hs.2 p.1 ne).trans e,n,ne,nf,d⟩
 ·have hfn:X.fn x=true:=by
   rcases hf with z | z
   ·exact z
   ·rw [z] at hk;cases hk
  obtain ⟨c,hc⟩:=I.ok.has x (.inl hk)
  obtain ⟨w',z⟩:=I.cell x c hc
  refine wpAny_storeName_cell I.ok.kind hk hc z (fun h' hc' hs=>?_)
  obtain ⟨oc,hoc,hocd⟩:=id z
  refine h { s with heap:=h' } ⟨I.ok,I.os,I.bare,⟨fun b o e n hb hx=>?_,fun b o e n hb hx=>?_,I.base.free,fun b o e hx=>?_,I.base.tups,I.base.frzs,I.base.tbls⟩,⟨m,hn.sameBut hs (gn (cne x c hc)),fun j y v' e1 e2 e3=>?_⟩,fun y c' e=>?_,I.free,I.freeC,fun p hp=>?_,tracked ⟨oc,hoc,I.freeC x c hc⟩ hs,by simpa using I.len⟩ ⟨c,hs,.inr hc⟩
  ·exact (hs.2 b (aQ (aA (aI e) (I.ok.cab x c hfn hc)))).trans (I.base.keep b o e n hb hx)
  ·obtain ⟨sl,e1⟩:=I.base.slot b o e n hb hx
   exact ⟨sl,(hs.2 b (aQ (aA (aI e) (I.ok.cab x c hfn hc)))).trans e1⟩
  ·obtain ⟨o',e1⟩:=I.base.there b o e hx
   exact ⟨o',(hs.2 b (aQ (aA (aI e) (I.ok.cab x c hfn hc)))).trans e1⟩
  ·by_cases hj:j=i
   ·subst hj
    rw [hi] at e1;cases e1
    rw [jF hiσ] at e2
    cases e2
    exact ⟨u,r,.inr ⟨.inl hk,c,hc,hc'⟩⟩
   ·rw [fE (gn hj)] at e2
    obtain ⟨u',r',q⟩:=hl j y v' e1 e2 e3
    refine ⟨u',r',?_⟩
    rcases q with q | ⟨k,c',e,z'⟩
    ·exact .inl q
    ·refine .inr ⟨k,c',e,z'.sameBut hs ?_⟩
     rintro rfl
     exact hj (vE hN e1 (I.ok.inj _ _ _ e hc ▸ hi))
  ·by_cases hcc:c'=c
   ·subst hcc;exact ⟨_,hc'⟩
   ·obtain ⟨w2,z2⟩:=I.cell y c' e
    exact ⟨w2,z2.sameBut hs hcc⟩
  ·obtain ⟨e,n,ne,nf,d⟩:=I.pin p hp
   refine ⟨(hs.2 p.1 ?_).trans e,n,ne,nf,d⟩
   intro q
   rw [q,hoc] at e
   have q':oc=p.2:=a8 e
   exact d w' (by rw [← q'];exact hocd)
theorem qF {M:Model}{A:bH}{E:af→al→Prop}{i:Nat}{x:Str}{v:V}{u:af}{Q:Unit→al→Prop} (I:Inv X pins σ H s) (hN:X.N.Nodup) (hi:X.N[i]?=some x) (hx:Loc X.env.scope x) (r:RelV v u)
  (h:∀ s',Inv X pins (σ.set i (some v)) H s'→Q () s') (hf:X.fn x=true∨X.env.scope.names.lookup x=some .local:=by first | exact .inl rfl | exact .inr rfl | assumption):ba M A (storeName X.env x u) Q E s :=
 wL I hN hi hx r (fun s' I' _=>h s' I') hf
theorem Inv.call' {s':al}{ch:List ae} (I:Inv X pins σ H s) (ho:s'.os=s.os) (u:Un (frs X.stack) ch H H' s.heap s'.heap) (hok:HOk X.prog X.w H' s'.heap) (hg:gC s'.gens)
  (hch:∀ b∈ch,(b∈X.ex∨X.s₀.heap.objs.size≤b)∧b≠X.env.locals∧(∀ x c,X.env.cells.lookup x=some c→c≠b)∧∀ p∈X.pn++pins,p.1≠b):Inv X pins σ H' s':=by
 obtain ⟨h',g',d',t',o'⟩:=s'
 have e:o'=s.os:=ho
 subst e
 exact I.call (g':=g') (t':=t') (d':=d') u hok hg hch
end
abbrev XK:=af→Option ae→Hp→Prop
abbrev St:=List (Option V)
abbrev VK:=V→Hp→Prop
abbrev TE:=St→Hp→VK→Prop
abbrev TT:=St→Hp→(Bool→Hp→Prop)→Prop
abbrev TA:=St→Hp→(List V→Hp→Prop)→Prop
structure Ends where
 nx:St→Hp→Prop
 rt:VK
 bk:St→Hp→Prop:=fun _ _=>False
 ct:St→Hp→Prop:=fun _ _=>False
abbrev TS:=Ends→St→Hp→Prop
def EP (X:Cx) (pins:List (ae×Obj)) (σ:St) (Q:VK) (u:af) (s':al):Prop:=∃ v H',Inv X pins σ H' s'∧RelV v u∧Q v H'
def TP (X:Cx) (pins:List (ae×Obj)) (σ:St) (Q:Bool→Hp→Prop) (b:Bool) (s':al):Prop:=∃ H',Inv X pins σ H' s'∧Q b H'
def AP (X:Cx) (pins:List (ae×Obj)) (σ:St) (Q:List V→Hp→Prop) (us:List af) (s':al):Prop:=∃ vs H',Inv X pins σ H' s'∧Vals vs us∧Q vs H'
def SP (X:Cx) (pins:List (ae×Obj)) (D:Ends) (f:Flow) (s':al):Prop :=
 match f with
 | .next=>∃ σ' H',Inv X pins σ' H' s'∧D.nx σ' H'
 | .brk=>∃ σ' H',Inv X pins σ' H' s'∧D.bk σ' H'
 | .cont=>∃ σ' H',Inv X pins σ' H' s'∧D.ct σ' H'
 | .ret u=>∃ v σ' H',Inv X pins σ' H' s'∧RelV v u∧D.rt v H'
def PE (X:Cx) (e:bh) (t:TE):Prop :=
 ∀ (pins:List (ae×Obj)) (s:al) (σ:St) (H:Hp) (Q:VK),Inv X pins σ H s→t σ H Q→ba (model X.prog X.w) X.A (eval e X.env) (EP X pins σ Q) X.xe s
def PT (X:Cx) (e:bh) (t:TT):Prop :=
 ∀ (pins:List (ae×Obj)) (s:al) (σ:St) (H:Hp) (Q:Bool→Hp→Prop),Inv X pins σ H s→t σ H Q→ba (model X.prog X.w) X.A (isTrue e X.env (eval e X.env)) (TP X pins σ Q) X.xe s
def PW (X:Cx) (e:bh) (t:TT):Prop :=
 ∀ (whole:Sem af) (pins:List (ae×Obj)) (s:al) (σ:St) (H:Hp) (Q:Bool→Hp→Prop),Inv X pins σ H s→t σ H Q→ba (model X.prog X.w) X.A (isTrue e X.env whole) (TP X pins σ Q) X.xe s
theorem PW.pt {X:Cx}{e:bh}{t:TT} (h:PW X e t):PT X e t:=h _
def PA (X:Cx) (es:List bh) (t:TA):Prop :=
 ∀ (pos:Pos) (pins:List (ae×Obj)) (s:al) (σ:St) (H:Hp) (Q:List V→Hp→Prop),Inv X pins σ H s→t σ H Q→ba (model X.prog X.w) X.A (spliced (cj pos (aK es X.env))) (AP X pins σ Q) X.xe s
def PS (X:Cx) (st:bM) (t:TS):Prop :=
 ∀ (pins:List (ae×Obj)) (s:al) (σ:St) (H:Hp) (D:Ends),Inv X pins σ H s→t D σ H→ba (model X.prog X.w) X.A (exec st X.env) (SP X pins D) X.xe s
def PSs (X:Cx) (st:List bM) (t:TS):Prop :=
 ∀ (pins:List (ae×Obj)) (s:al) (σ:St) (H:Hp) (D:Ends),Inv X pins σ H s→t D σ H→ba (model X.prog X.w) X.A (execs st X.env) (SP X pins D) X.xe s
theorem thn {α:Type}{t:Sem α}{Q Q':α→al→Prop}{M:Model}{A:bH}{E:af→al→Prop}{s:al} (h:ba M A t Q E s) (hQ:∀ a s,Q a s→Q' a s):ba M A t Q' E s:=ce h hQ fun _ _ x=>x
section
variable {X:Cx}
def CW (i:Nat):TE:=fun σ H Q=>∃ v,σ[i]?=some (some v)∧Q v H
def tC (v:V):TE:=fun _ H Q=>Q v H
theorem yt {i:Nat}{x:Str}{pos:Pos} (hN:X.N[i]?=some x) (hv:Vis X.env.scope x) (hd:(x == ("__debug__":Str))=false:=by decide) (hcd:(x == ("__classdict__":Str))=false:=by decide):PE X (.Name x pos) (CW i):=by
 intro pins s σ H Q I h
 obtain ⟨v,e,h⟩:=h
 obtain ⟨m,hn,hl⟩:=I.loc
 obtain ⟨u,r,l⟩:=hl i x v hN e hv
 have fin:EP X pins σ Q u s:=⟨v,H,I,r,h⟩
 rcases l with ⟨hk,hm⟩ | ⟨hk,c,hc,hcell⟩
 ·exact wpAny_Name (wpAny_loadName_local I.ok.kind hk hn hm fin) hd
 ·rcases hk with hk | hk
  ·exact wpAny_Name (wpAny_loadName_cell I.ok.kind hk hc hcell fin) hd
  ·exact wpAny_Name (wpAny_loadName_free I.ok.kind hk hc hcell fin hcd) hd
theorem pe_int {i j pos}:PE X (.Constant (.int i) j pos) (tC (.int i)):=fun _ _ _ H _ I h=>wpAny_Constant_int ⟨.int i,H,I.tok _,⟨_,rfl⟩,h⟩
theorem pe_bl {b j pos}:PE X (.Constant (.bool b) j pos) (tC (.bl b)):=fun _ _ _ H _ I h=>Constant_bool ⟨.bl b,H,I,rfl,h⟩
theorem pe_non {j pos}:PE X (.Constant .none j pos) (tC .non):=fun _ _ _ H _ I h=>Constant_none ⟨.non,H,I,rfl,h⟩
theorem pe_str {x j pos}:PE X (.Constant (.str x) j pos) (tC (.str x)):=fun _ _ _ H _ I h=>j9 ⟨.str x,H,I.tok _,⟨_,rfl⟩,h⟩
def Gl (X:Cx) (x:Str):Prop:=X.env.kindOf x=some .globalImplicit
theorem qc {E:af→al→Prop}{pins:List (ae×Obj)}{s:al}{σ:St}{H:Hp}{x:Str}{u:af}{pos:Pos}{Q:af→al→Prop} (I:Inv X pins σ H s) (hg:Gl X x) (hm:X.mg x=some u) (h:Q u s)
  (hd:(x == ("__debug__":Str))=false:=by decide):ba (model X.prog X.w) X.A (eval (.Name x pos) X.env) Q E s :=
 i0 I.ok.kind hg (Calls.loadGlobal_global (by rw [I.ok.glob];exact I.mod.glob.keeps I.bk) hm h) hd
theorem ur {E:af→al→Prop}{pins:List (ae×Obj)}{s:al}{σ:St}{H:Hp}{x:Str}{u:af}{pos:Pos}{Q:af→al→Prop} (I:Inv X pins σ H s) (hg:Gl X x) (hm:X.mg x=none) (hv:bJ x=some u) (h:Q u s)
  (hn:x≠"__name__":=by decide) (hd:(x == ("__debug__":Str))=false:=by decide):ba (model X.prog X.w) X.A (eval (.Name x pos) X.env) Q E s:=by
 obtain ⟨mb,h1,h2⟩:=I.mod.blt
 exact i0 I.ok.kind hg (Calls.loadGlobal_builtin (by rw [I.ok.glob];exact I.mod.glob.keeps I.bk) hm (by rw [I.ok.blt];exact h1.keeps I.bk) ((h2 x hn).trans hv) h) hd
theorem nJ {x:Str}{v:V}{u:af}{pos:Pos} (hg:Gl X x) (hm:X.mg x=some u) (r:RelV v u) (hd:(x == ("__debug__":Str))=false:=by decide):PE X (.Name x pos) (tC v) :=
 fun _ _ _ H _ I h=>qc I hg hm ⟨v,H,I,r,h⟩ hd
theorem FM {x:Str}{v:V}{u:af}{pos:Pos} (hg:Gl X x) (hm:X.mg x=none) (hv:bJ x=some u) (r:RelV v u) (hn:x≠"__name__":=by decide) (hd:(x == ("__debug__":Str))=false:=by decide):PE X (.Name x pos) (tC v) :=
 fun _ _ _ H _ I h=>ur I hg hm hv ⟨v,H,I,r,h⟩ hn hd
variable {a b:bh}{ta tb:TE}{pos:Pos}
def PC (X:Cx) (op:iH) (a b:bh) (t:TE):Prop :=
 ∀ (pins:List (ae×Obj)) (s:al) (σ:St) (H:Hp) (Q:VK),Inv X pins σ H s→t σ H Q →
  ba (model X.prog X.w) X.A (eval a X.env) (fun v s₁=>ba (model X.prog X.w) X.A (eval b X.env) (fun u s₂=>ba (model X.prog X.w) X.A (bP op v u) (EP X pins σ Q) X.xe s₂) X.xe s₁) X.xe s
theorem D8 (b:bh) {op:iH} (h:op≠.In) (h2:op≠.NotIn):cI op b=false:=by
 have e1:(op == CmpOp.In)=false:=by cases op <;> first | rfl | exact absurd rfl h
 have e2:(op == CmpOp.NotIn)=false:=by cases op <;> first | rfl | exact absurd rfl h2
 cases b <;> simp [cI,e1,e2]
def tB (t:TE):TT:=fun σ H Q=>t σ H fun x H1=>∃ c,x=.bl c∧Q c H1
theorem EK {op:iH}{t:TE} (h:PC X op a b t) (h1:cI op b=false:=by first | exact D8 _ (by decide) (by decide) | rfl):PE X (.Compare a [op] [b] pos) t:=fun pins s σ H Q I hw=>wpAny_Compare1 (h pins s σ H Q I hw) h1
theorem sA {e:bh}{t:TE} (h:PE X e t) (he:∀ whole,isTrue e X.env whole=(do let v ← whole;gB e.pos;holding [v] (truthy v)):=by intro _;rfl):PT X e (tB t):=by
 intro pins s σ H Q I hw
 refine isTrue_plain (thn (h pins s σ H _ I hw) fun v s1 ⟨x,H1,I1,r1,q1⟩=>?_) (he _)
 obtain ⟨d,rfl,q⟩:=q1
 cases r1
 exact de ⟨H1,I1,q⟩
variable {tA tB':TT}{lK:List bh}
def tAnd (t u:TT):TT:=fun σ H Q=>t σ H fun c H1=>if c=true then u σ H1 Q else Q false H1
def tOr (t u:TT):TT:=fun σ H Q=>t σ H fun c H1=>if c=true then Q true H1 else u σ H1 Q
def tNot (t:TT):TT:=fun σ H Q=>t σ H fun c H1=>Q (!c) H1
theorem FD (ha:PT X a tA):PW X (.BoolOp .And [a] pos) tA:=by
 intro wh pins s σ H Q I h
 refine isTrue_and (thn (ha pins s σ H Q I h) fun c s1 e=>?_)
 cases c with
 | true=>exact isTrue_and_nil e
 | false=>exact e
theorem EH (ha:PT X a tA):PW X (.BoolOp .Or [a] pos) tA:=by
 intro wh pins s σ H Q I h
 refine isTrue_or (thn (ha pins s σ H Q I h) fun c s1 e=>?_)
 cases c with
 | false=>exact isTrue_or_nil e
 | true=>exact e
theorem Ht (ha:PT X a tA) (hb:PW X (.BoolOp .And (b::lK) pos) tB'):PW X (.BoolOp .And (a::b::lK) pos) (tAnd tA tB'):=by
 intro wh pins s σ H Q I h
 refine isTrue_and (thn (ha pins s σ H _ I h) fun c s1 ⟨H1,I1,q1⟩=>?_)
 cases c with
 | true=>exact hb wh pins s1 σ H1 Q I1 q1
 | false=>exact ⟨H1,I1,q1⟩
theorem GL (ha:PT X a tA) (hb:PW X (.BoolOp .Or (b::lK) pos) tB'):PW X (.BoolOp .Or (a::b::lK) pos) (tOr tA tB'):=by
 intro wh pins s σ H Q I h
 refine isTrue_or (thn (ha pins s σ H _ I h) fun c s1 ⟨H1,I1,q1⟩=>?_)
 cases c with
 | true=>exact ⟨H1,I1,q1⟩
 | false=>exact hb wh pins s1 σ H1 Q I1 q1
theorem vS (ha:PT X a tA):PT X (.UnaryOp .Not a pos) (tNot tA):=by
 intro pins s σ H Q I h
 exact isTrue_not (ha pins s σ H (fun c H1=>Q (!c) H1) I h)
def tAndV (ta tb:TE):TE:=fun σ H Q=>ta σ H fun x H1=>∃ c,x=.bl c∧if c=true then tb σ H1 Q else Q (.bl false) H1
def tOrV (ta tb:TE):TE:=fun σ H Q=>ta σ H fun x H1=>∃ c,x=.bl c∧if c=true then Q (.bl true) H1 else tb σ H1 Q
theorem AN {op}{t:TE} (h:PE X a t):PE X (.BoolOp op [a] pos) t:=fun pins s σ H Q I hw=>BoolOp_one (h pins s σ H Q I hw)
theorem EL (ha:PE X a ta) (hb:PE X (.BoolOp .And (b::lK) pos) tb):PE X (.BoolOp .And (a::b::lK) pos) (tAndV ta tb):=by
 intro pins s σ H Q I h
 refine BoolOp_and (thn (ha pins s σ H _ I h) fun v s1 ⟨x,H1,I1,r1,q1⟩=>?_)
 obtain ⟨c,rfl,q1⟩:=q1
 cases r1
 refine de ?_
 cases c with
 | true=>exact hb pins s1 σ H1 Q I1 q1
 | false=>exact ⟨.bl false,H1,I1,rfl,q1⟩
theorem GN (ha:PE X a ta) (hb:PE X (.BoolOp .Or (b::lK) pos) tb):PE X (.BoolOp .Or (a::b::lK) pos) (tOrV ta tb):=by
 intro pins s σ H Q I h
 refine BoolOp_or (thn (ha pins s σ H _ I h) fun v s1 ⟨x,H1,I1,r1,q1⟩=>?_)
 obtain ⟨c,rfl,q1⟩:=q1
 cases r1
 refine de ?_
 cases c with
 | false=>exact hb pins s1 σ H1 Q I1 q1
 | true=>exact ⟨.bl true,H1,I1,rfl,q1⟩
end
def SqL (K:aa) (H:Hp) (a:ae) (xs:List V):Prop :=
 Rd H a (.lst xs) ∨
  ∃ (o:Obj) (its:Array af) (n:Nat),K.lookup a=some o∧o.cls=.type "list"∧o.dict=none∧o.data=.seq its n∧its.size≤aP∧Vals xs its.toList
def SqT (K:aa) (H:Hp) (a:ae) (xs:List V):Prop :=
 Rd H a (.tup xs) ∨
  ∃ (o:Obj) (its:Array af) (n:Nat),K.lookup a=some o∧o.cls=.type "tuple"∧o.data=.seq its n∧its.size≤aP∧Vals xs its.toList
def absV:af→Option V
 | .none=>some .non
 | .bool b=>some (.bl b)
 | .int i _=>some (.int i)
 | .str x _=>some (.str x)
 | .bytes b _=>some (.byt b)
 | .float b _=>some (.flt b)
 | .ref a=>some (.ref a)
 | .type n=>some (.ty n)
 | _=>none
theorem RelV.abs {x:V}{u:af} (r:RelV x u):absV u=some x:=by
 cases x with
 | non=>cases r;rfl
 | bl _=>cases r;rfl
 | int _=>obtain ⟨t,rfl⟩:=r;rfl
 | str _=>obtain ⟨t,rfl⟩:=r;rfl
 | byt _=>obtain ⟨t,rfl⟩:=r;rfl
 | flt _=>obtain ⟨t,rfl⟩:=r;rfl
 | ref _=>cases r;rfl
 | ty _=>cases r;rfl
theorem RelV.inj {x y:V}{u:af} (r:RelV x u) (q:RelV y u):x=y:=a8 (r.abs.symm.trans q.abs)
theorem Vals.inj:∀ {xs ys:List V}{us:List af},Vals xs us→Vals ys us→xs=ys
 | _,_,_,.nil,.nil=>rfl
 | _,_,_,.cons r t,.cons r' t'=>by rw [r.inj r',Vals.inj t t']
section
variable {X:Cx}{pins:List (ae×Obj)}{σ:St}{H:Hp}{s:al}{a:ae}{xs ys:List V}
theorem SqL.of {K:aa} (h:H a=some (.lst xs)):SqL K H a xs:=.inl (.inl h)
theorem SqT.of {K:aa} (h:H a=some (.tup xs)):SqT K H a xs:=.inl (.inl h)
theorem Inv.list (I:Inv X pins σ H s) (h:SqL X.K H a xs):∃ its:List af,Vals xs its∧PlainL s.heap a its.toArray∧xs.length≤aP:=by
 rcases h with h | ⟨o,its,n,hk,hc,hd,hs,hz,r⟩
 ·obtain ⟨z,its,n,r,e⟩:=h.ok I.hok
  exact ⟨its,r,⟨_,n,e,rfl,rfl,rfl⟩,z⟩
 ·refine ⟨its.toList,r,⟨o,n,I.kIn a o hk,hc,hd,by simpa using hs⟩,?_⟩
  have e:=r.length
  simp only [fG] at e
  omega
theorem Inv.tuple (I:Inv X pins σ H s) (h:SqT X.K H a xs):∃ its:List af,Vals xs its∧IsTup s.heap a its.toArray∧xs.length≤aP:=by
 rcases h with h | ⟨o,its,n,hk,hc,hs,hz,r⟩
 ·obtain ⟨z,its,r,p⟩:=h.ok I.hok
  exact ⟨its,r,p,z⟩
 ·refine ⟨its.toList,r,⟨o,I.kIn a o hk,hc,n,by simpa using hs⟩,?_⟩
  have e:=r.length
  simp only [fG] at e
  omega
theorem Inv.list_inj (I:Inv X pins σ H s) (h:SqL X.K H a xs) (h':SqL X.K H a ys):xs=ys:=by
 obtain ⟨its,r,⟨o,n,e,_,_,d⟩,_⟩:=I.list h
 obtain ⟨its',r',⟨o',n',e',_,_,d'⟩,_⟩:=I.list h'
 rw [e] at e';cases e'
 rw [d] at d'
 injection d' with d1 _
 have:its=its':=by simpa using congrArg Array.toList d1
 subst this
 exact r.inj r'
theorem Inv.tuple_inj (I:Inv X pins σ H s) (h:SqT X.K H a xs) (h':SqT X.K H a ys):xs=ys:=by
 obtain ⟨its,r,⟨o,e,_,n,d⟩,_⟩:=I.tuple h
 obtain ⟨its',r',⟨o',e',_,n',d'⟩,_⟩:=I.tuple h'
 rw [e] at e';cases e'
 rw [d] at d'
 injection d' with d1 _
 have:its=its':=by simpa using congrArg Array.toList d1
 subst this
 exact r.inj r'
end
abbrev Cx.wish (X:Cx) (E:af→al→Prop):Cx:={ X with xe:=E }
abbrev Cx.nox (X:Cx):Cx:=X.wish fun _ _=>False
theorem Cx.Ok.wish {X:Cx} (ok:X.Ok) (E:af→al→Prop):(X.wish E).Ok :=
 ⟨ok.mod,ok.kind,ok.glob,ok.blt,ok.above,ok.inj,ok.has,ok.cab,ok.hd,ok.frames,ok.stk,ok.exf,ok.bs,ok.bsz,ok.noex,ok.exfs,ok.funs,ok.frf⟩
theorem Cx.Ok.unwish {X:Cx}{E:af→al→Prop} (ok:(X.wish E).Ok):X.Ok :=
 ⟨ok.mod,ok.kind,ok.glob,ok.blt,ok.above,ok.inj,ok.has,ok.cab,ok.hd,ok.frames,ok.stk,ok.exf,ok.bs,ok.bsz,ok.noex,ok.exfs,ok.funs,ok.frf⟩
section
variable {X:Cx}{pins:List (ae×Obj)}{σ:St}{H:Hp}{s:al}{E:af→al→Prop}
theorem Inv.wish (I:Inv X pins σ H s) (E:af→al→Prop):Inv (X.wish E) pins σ H s:=⟨I.ok.wish E,I.os,I.bare,I.base,I.loc,I.cell,I.free,I.freeC,I.pin,I.hok,I.len⟩
theorem Inv.unwish (I:Inv (X.wish E) pins σ H s):Inv X pins σ H s:=⟨I.ok.unwish,I.os,I.bare,I.base,I.loc,I.cell,I.free,I.freeC,I.pin,I.hok,I.len⟩
theorem SP.unwish {D:Ends}{f:Flow}{s':al} (h:SP (X.wish E) pins D f s'):SP X pins D f s':=by
 cases f with
 | next=>obtain ⟨σ',H',I,q⟩:=h;exact ⟨σ',H',I.unwish,q⟩
 | brk=>obtain ⟨σ',H',I,q⟩:=h;exact ⟨σ',H',I.unwish,q⟩
 | cont=>obtain ⟨σ',H',I,q⟩:=h;exact ⟨σ',H',I.unwish,q⟩
 | ret u=>obtain ⟨v,σ',H',I,r,q⟩:=h;exact ⟨v,σ',H',I.unwish,r,q⟩
theorem PSs.nox {st:List bM}{t:TS} (h:PSs X.nox st t):PSs X st t:=fun pins s σ H D I hw =>
 ce (h pins s σ H D (I.wish _) hw) (fun _ _ q=>q.unwish) fun _ _ z=>bu z
end
section
variable {X:Cx}{st:bM}{lK:List bM}{t u:TS}{e:bh}{te:TE}{pos:Pos}
def tNext:TS:=fun D σ H=>D.nx σ H
def tSeq (t u:TS):TS:=fun D σ H=>t { D with nx:=u D } σ H
theorem pss_nil:PSs X [] tNext:=fun _ _ σ H _ I h=>eU ⟨σ,H,I,h⟩
theorem kN (h1:PS X st t) (h2:PSs X lK u):PSs X (st::lK) (tSeq t u):=by
 intro pins s σ H D I h
 refine iA (thn (h1 pins s σ H { D with nx:=u D } I h) fun f s1 q=>?_)
 cases f with
 | next =>
  obtain ⟨σ',H',I',q⟩:=q
  exact h2 pins s1 σ' H' D I' q
 | ret v=>exact q
 | brk=>exact q
 | cont=>exact q
theorem kT (h1:PS X st t):PSs X [st] t:=by
 intro pins s σ H D I h
 refine iA (thn (h1 pins s σ H D I h) fun f s1 q=>?_)
 cases f with
 | next=>exact eU q
 | ret v=>exact q
 | brk=>exact q
 | cont=>exact q
theorem Inv.quiet {pins:List (ae×Obj)}{σ:St}{H:Hp}{s:al} (I:Inv X pins σ H s):interactive X.env=false:=by simp [interactive,I.ok.kind]
def GE (te:TE):TS:=fun D σ H=>te σ H fun _ H1=>D.nx σ H1
theorem nc (he:PE X e te) (hs:fe e none pos.line X.env=pure false:=by rfl):PS X (.Expr e pos) (GE te):=by
 intro pins s σ H D I h
 exact wpAny_Expr_any (thn (he pins s σ H _ I h) fun v s1 ⟨x,H1,I1,r1,q1⟩=>⟨σ,H1,I1,q1⟩) I.quiet hs
def tRet (te:TE):TS:=fun D σ H=>te σ H D.rt
theorem nY (he:PE X e te):PS X (.Return (some e) pos) (tRet te):=by
 intro pins s σ H D I h
 exact wpAny_Return_some (thn (he pins s σ H _ I h) fun v s1 ⟨x,H1,I1,r1,q1⟩=>⟨x,σ,H1,I1,r1,q1⟩)
def tIfS (c:TT) (t u:TS):TS:=fun D σ H=>c σ H fun b H1=>if b=true then t D σ H1 else u D σ H1
theorem sG {c:bh}{a b:List bM}{tc:TT} (hc:PT X c tc) (ha:PSs X a t) (hb:PSs X b u):PS X (.If c a b pos) (tIfS tc t u):=by
 intro pins s σ H D I h
 refine wpAny_If (thn (hc pins s σ H _ I h) fun d s1 ⟨H1,I1,q1⟩=>?_)
 cases d with
 | true=>exact ha pins s1 σ H1 D I1 q1
 | false=>exact hb pins s1 σ H1 D I1 q1
abbrev TG:=V→St→Hp→(St→Hp→Prop)→Prop
abbrev TGs:=List V→St→Hp→(St→Hp→Prop)→Prop
def PG (X:Cx) (target:bh) (t:TG):Prop :=
 ∀ (pins:List (ae×Obj)) (s:al) (σ:St) (H:Hp) (v:V) (u:af) (Q:St→Hp→Prop),Inv X pins σ H s→RelV v u→t v σ H Q →
  ba (model X.prog X.w) X.A (assign target X.env u) (fun _ s'=>∃ σ' H',Inv X pins σ' H' s'∧Q σ' H') X.xe s
def PGs (X:Cx) (ts:List bh) (t:TGs):Prop :=
 ∀ (pins:List (ae×Obj)) (s:al) (σ:St) (H:Hp) (vs:List V) (us:List af) (Q:St→Hp→Prop),Inv X pins σ H s→Vals vs us→t vs σ H Q →
  ba (model X.prog X.w) X.A (j4 ((cG ts X.env).map (·.2)) us) (fun _ s'=>∃ σ' H',Inv X pins σ' H' s'∧Q σ' H') X.xe s
abbrev G9:=V→V→V→Hp→(Hp→Prop)→Prop
def PSet (X:Cx) (t:G9):Prop :=
 ∀ (pins:List (ae×Obj)) (s:al) (σ:St) (H:Hp) (o i v:V) (ov iv u:af) (Q:Hp→Prop),Inv X pins σ H s→RelV o ov→RelV i iv→RelV v u→t o i v H Q →
  ba (model X.prog X.w) X.A (setItem ov iv u) (fun _ s'=>∃ H',Inv X pins σ H' s'∧Q H') X.xe s
def Fc (i:Nat):TG:=fun v σ H Q=>Q (σ.set i (some v)) H
theorem A8 {i:Nat}{x:Str} (hN:X.N.Nodup) (hi:X.N[i]?=some x) (hx:Loc X.env.scope x) (hf:X.fn x=true∨X.env.scope.names.lookup x=some .local:=by first | exact .inl rfl | exact .inr rfl | assumption):PG X (.Name x pos) (Fc i):=by
 intro pins s σ H v u Q I r h
 exact wpAny_assign_Name (qF I hN hi hx r (fun s' I'=>⟨_,H,I',h⟩) hf)
def gNil:TGs:=fun vs σ H Q=>vs=[]∧Q σ H
def gCons (t:TG) (u:TGs):TGs:=fun vs σ H Q=>∃ v r,vs=v::r∧t v σ H fun σ' H'=>u r σ' H' Q
theorem pgs_nil:PGs X [] gNil:=by
 intro pins s σ H vs us Q I r h
 obtain ⟨e,h⟩:=h
 subst e
 cases r
 exact assignInOrder_nil ⟨σ,H,I,h⟩
theorem DN {e:bh}{es:List bh}{t:TG}{u:TGs} (h1:PG X e t) (h2:PGs X es u)
  (hs:(cG (e::es) X.env).map (·.2)=assign e X.env::(cG es X.env).map (·.2):=by rfl):PGs X (e::es) (gCons t u):=by
 intro pins s σ H vs us Q I r h
 obtain ⟨v,vr,e1,h⟩:=h
 subst e1
 cases r with
 | cons r rr =>
  rw [hs]
  refine iM (thn (h1 pins s σ H _ _ _ I r h) fun _ s1 ⟨σ1,H1,I1,q1⟩=>?_)
  exact h2 pins s1 σ1 H1 _ _ Q I1 rr q1
def gTup (K:aa) (n:Nat) (t:TGs):TG:=fun v σ H Q=>∃ a xs,v=.ref a∧SqT K H a xs∧xs.length=n∧t xs σ H Q
theorem HA {es:List bh}{k:Nat}{t:TGs}{n:Nat} (hc:X.calm=true) (h:PGs X es t)
  (hn:(cG es X.env).length=n:=by rfl) (hst:(cG es X.env).findIdx? (·.1)=none:=by rfl):PG X (.Tuple es k pos) (gTup X.K n t):=by
 intro pins s σ H v u Q I r hw
 obtain ⟨a,xs,e1,hq,hl,hw⟩:=hw
 subst e1
 cases r
 obtain ⟨its,rv,ht,hz⟩:=I.tuple hq
 refine assign_Tuple_tuple (I.ok.hd hc) ht (by simp [hn,← hl,rv.length]) hst fun h' hx=>?_
 have I1:Inv X pins σ H { s with heap:=h' }:=I.kept (t':=s.toks) fun b o e=>hx b o (aQ (aI e)) e
 exact h pins _ σ H xs _ Q I1 (by simpa using rv) hw
def gSub (to ti:TE) (t:G9):TG:=fun v σ H Q=>to σ H fun o H1=>ti σ H1 fun i H2=>t o i v H2 fun H3=>Q σ H3
theorem HB {o i:bh}{to ti:TE}{t:G9} (ho:PE X o to) (hi:PE X i ti) (hs:PSet X t)
  (ha:∀ v,assign (.Subscript o i pos) X.env v=(do
   let ov ← holding [v] (eval o X.env)
   let iv ← holding [v,ov] (eval i X.env)
   gB pos
   holding [v,ov,iv] (setItem ov iv v)
   release [v,ov,iv] []):=by intro _;rfl):PG X (.Subscript o i pos) (gSub to ti t):=by
 intro pins s σ H v u Q I r h
 rw [ha]
 refine aB (dz (thn (ho pins s σ H _ I h) fun ov s1 ⟨x,H1,I1,r1,q1⟩=>?_))
 refine aB (dz (thn (hi pins s1 σ H1 _ I1 q1) fun iv s2 ⟨y,H2,I2,r2,q2⟩=>?_))
 refine aB (iG (aB (dz (thn (hs pins s2 σ H2 x y v ov iv u _ I2 r1 r2 r q2) fun _ s3 ⟨H3,I3,q3⟩=>?_))))
 exact wpAny_release ⟨σ,H3,I3,q3⟩
def II (te:TE) (g:TG):TS:=fun D σ H=>te σ H fun x H1=>g x σ H1 D.nx
theorem EI {tg e:bh}{te:TE}{g:TG} (he:PE X e te) (hg:PG X tg g) (hs:gF [tg] e pos.line X.env=pure false:=by rfl) (hw:gG [tg] e X.env=pure none:=by rfl)
  (h1:(cG [tg] X.env).map (·.2)=[assign tg X.env]:=by rfl):PS X (.Assign [tg] e pos) (II te g):=by
 intro pins s σ H D I h
 refine wpAny_Assign_stores (thn (he pins s σ H _ I h) fun v s1 ⟨x,H1,I1,r1,q1⟩=>?_) hs hw
 rw [h1]
 exact thn (hg pins s1 σ H1 x v _ I1 r1 q1) fun _ s2 q=>q
theorem pk {i:Nat}{x:Str}{e:bh}{te:TE}{pos':Pos} (hN:X.N.Nodup) (hi:X.N[i]?=some x) (hx:Loc X.env.scope x) (he:PE X e te) (hs:fe e (some (.Name x pos')) pos.line X.env=pure false:=by rfl) (hf:X.fn x=true∨X.env.scope.names.lookup x=some .local:=by first | exact .inl rfl | exact .inr rfl | assumption) :
  PS X (.Assign [.Name x pos'] e pos) (II te (Fc i)):=by
 intro pins s σ H D I h
 refine wpAny_Assign_Name (thn (he pins s σ H _ I h) fun v s1 ⟨y,H1,I1,r1,q1⟩=>?_) hs
 exact qF I1 hN hi hx r1 (fun s2 I2=>⟨_,H1,I2,q1⟩) hf
def tPar (i j:Nat) (ta:TA):TS:=fun D σ H=>ta σ H fun vs H1=>∃ v w,vs=[v,w]∧D.nx ((σ.set i (some v)).set j (some w)) H1
theorem Hw {i j:Nat}{x y:Str}{a b:bh}{ta:TA}{px py pt:Pos}{kt k2 pt2} (hc:X.calm=true) (hN:X.N.Nodup) (hi:X.N[i]?=some x) (hj:X.N[j]?=some y) (hij:i≠j)
  (hx:X.env.scope.names.lookup x=some .local) (hy:X.env.scope.names.lookup y=some .local) (ha:PA X [a,b] ta)
  (hw:gG [.Tuple [.Name x px,.Name y py] kt pt] (.Tuple [a,b] k2 pt2) X.env=pure (some [x,y]))
  (hs:gF [.Tuple [.Name x px,.Name y py] kt pt] (.Tuple [a,b] k2 pt2) pos.line X.env=pure false:=by rfl) :
  PS X (.Assign [.Tuple [.Name x px,.Name y py] kt pt] (.Tuple [a,b] k2 pt2) pos) (tPar i j ta):=by
 intro pins s σ H D I h
 rw [exec_Assign_arm]
 refine aB (iG ?_)
 rw [hs]
 refine aB (aX ?_)
 rw [if_neg (by decide)]
 refine aB (Tuple_ (thn (ha _ pins s σ H _ I h) fun us s1 ⟨vs,H1,I1,r1,q1⟩=>?_))
 obtain ⟨v,w,e1,q1⟩:=q1
 subst e1
 obtain ⟨u1,u2,rfl,rv,rw'⟩:∃ u1 u2,us=[u1,u2]∧RelV v u1∧RelV w u2:=by
  cases r1 with
  | cons p q =>
   cases q with
   | cons p' q' =>
    cases q'
    exact ⟨_,_,rfl,p,p'⟩
 refine d8 ?_ (by show 2≤aP;decide)
 have I2:Inv X pins σ H1 { s1 with heap:=s1.heap.push { cls:=.type "tuple",data:=.seq [u1,u2].toArray } }:=I1.kept (t':=s1.toks) fun b o e=>ax _ e
 rw [hw]
 refine aB (aX ?_)
 show ba (model X.prog X.w) X.A (do rule "assign.swapped-stores";let items ← unpackItems (.ref s1.heap.objs.size) 2 none;j4 [fun v=>jH X.env y v,fun v=>jH X.env x v] items.reverse;pure Flow.next) _ _ _
 refine aB (wpAny_rule (aB (unpackItems_tuple (items:=#[u1,u2]) (I.ok.hd hc) (IsTup.new s1.heap _) fun h' hx'=>?_)))
 have I3:=I2.kept (h':=h') (t':=s1.toks) fun b o e=>hx' b o (aQ (aI e)) e
 show ba _ _ (j4 [fun v=>jH X.env y v,fun v=>jH X.env x v] [u2,u1] >>= fun _=>pure Flow.next) _ _ _
 refine aB (iM (wpAny_bindName (qF I3 hN hj (.inl hy) rw' (fun s2 I4=>?_) (.inr hy))))
 refine iM (wpAny_bindName (qF I4 hN hi (.inl hx) rv (fun s3 I5=>assignInOrder_nil (aX ?_)) (.inr hx)))
 rw [List.set_comm _ _ (gn hij)] at I5
 exact ⟨_,H1,I5,q1⟩
def Hd (c:TT) (tb:TS):TS:=fun D σ H=>∃ W:Nat→St→Hp→Prop,(∃ m,W m σ H)∧∀ m σ H,W m σ H →
 c σ H fun b H1=>if b=true then ∃ N:St→Hp→Prop,(∀ σ' H',N σ' H'→∃ m',m' < m∧W m' σ' H')∧tb { D with nx:=N,ct:=N,bk:=D.nx } σ H1 else D.nx σ H1
theorem zj {c:bh}{body:List bM}{tc:TT}{tb:TS} (hp:PassesOwn (model X.prog X.w) X.A X.env X.xe) (hc:PT X c tc) (hb:PSs X body tb):PS X (.While c body [] pos) (Hd tc tb):=by
 intro pins s σ H D I h
 obtain ⟨W,⟨m0,w0⟩,turn⟩:=h
 refine wpAny_While (codeAny_whileLoop (fun n s'=>∃ σ' H',Inv X pins σ' H' s'∧W n σ' H') ?_ m0 ⟨σ,H,I,w0⟩)
 rintro n s1 ⟨σ1,H1,I1,w1⟩
 refine dQ hp (thn (hc pins s1 σ1 H1 _ I1 (turn n σ1 H1 w1)) fun b s2 ⟨H2,I2,q2⟩=>?_)
 cases b with
 | true =>
  obtain ⟨N,hN,q2⟩:=q2
  rw [if_pos rfl]
  refine dQ hp (thn (hb pins s2 σ1 H2 _ I2 q2) fun f s3 q3=>?_)
  cases f with
  | next =>
   obtain ⟨σ3,H3,I3,n3⟩:=q3
   obtain ⟨m',hm,w3⟩:=hN σ3 H3 n3
   exact ⟨m',hm,σ3,H3,I3,w3⟩
  | cont =>
   obtain ⟨σ3,H3,I3,n3⟩:=q3
   obtain ⟨m',hm,w3⟩:=hN σ3 H3 n3
   exact ⟨m',hm,σ3,H3,I3,w3⟩
  | brk=>exact q3
  | ret v=>exact q3
 | false =>
  rw [if_neg a9]
  exact eU ⟨σ1,H2,I2,q2⟩
end
structure It where
 go:Nat→Hp→Prop
 yld:Nat→Hp→V→Hp→Prop
 stop:Nat→Hp→Prop
def AF (X:Cx) (pins:List (ae×Obj)) (H:Hp) (b:ae):Prop :=
 H b=none∧b≠X.env.locals∧b∉X.fs∧(b∈X.ex∨X.s₀.heap.objs.size≤b)∧(∀ x c,X.env.cells.lookup x=some c→c≠b)∧∀ p∈X.pn++pins,p.1≠b
theorem Inv.fpOk {X:Cx}{pins:List (ae×Obj)}{σ:St}{H H':Hp}{s:al}{b:ae} (I:Inv X pins σ H s) (hb:s.heap.objs.size≤b) (hn:H' b=none):AF X pins H' b:=by
 refine ⟨hn,Nat.ne_of_gt (aA I.lt hb),I.nofs hb,.inr (aN I.sz hb),fun x c e z=>?_,fun p hp z=>?_⟩
 ·obtain ⟨v,q⟩:=I.cell x c e
  exact absurd (aA q.lt (by rw [z];exact hb)) (cD _)
 ·exact absurd (aA (aI (I.pin p hp).1) (by rw [z];exact hb)) (cD _)
structure Turn (P:aV) (w:bz) (K:aa) (tg:bh) (J:It) (fp:List ae) (it:ae) (tn:Nat→bK→Prop):Prop where
 mem:it∈fp
 obj:∀ i h,tn i h→∀ b∈fp,∃ o,h.get? b=some o∧∀ v,o.data≠.cell v
 keep:∀ i h h',tn i h→(∀ b∈fp,∀ o,h.get? b=some o→h'.get? b=some o)→tn i h'
 item:∀ (X:Cx),X.prog=P→X.w=w→X.K=K→X.calm=true→∀ (i:Nat) (pins:List (ae×Obj)) (s:al) (σ:St) (H:Hp) (E:af→al→Prop),Inv X pins σ H s→(∀ b∈fp,AF X pins H b)→tn i s.heap→J.go i H →
  ba (model P w) X.A (pyNext (.ref it)) (fun r s1=>∃ u,r=some u ∧
   ba (model P w) X.A (jr tg (.ref it) u) (fun _ s2=>∃ x H',Inv X pins σ H' s2∧RelV x u∧J.yld i H x H'∧tn (i+1) s2.heap∧∀ b∈fp,H' b=none) E s1) E s
 done:∀ (X:Cx),X.prog=P→X.w=w→X.K=K→X.calm=true→∀ (i:Nat) (pins:List (ae×Obj)) (s:al) (σ:St) (H:Hp) (E:af→al→Prop),Inv X pins σ H s→(∀ b∈fp,AF X pins H b)→tn i s.heap→J.stop i H →
  ba (model P w) X.A (pyNext (.ref it)) (fun r s1=>r=none∧Inv X pins σ H s1) E s
 self:∀ (A:bH) (i:Nat) (s:al) (Q:af→al→Prop) (E:af→al→Prop),tn i s.heap→Q (.ref it) s→ba (model P w) A (pyIter (.ref it)) Q E s
abbrev TI:=St→Hp→(It→Hp→Prop)→Prop
def PIE (X:Cx) (pins:List (ae×Obj)) (σ:St) (tg:bh) (R:It→Hp→Prop) (itv:af) (s2:al):Prop :=
 ∃ (it:ae) (fp:List ae) (tn:Nat→bK→Prop) (J:It) (H':Hp),itv=.ref it∧Inv X pins σ H' s2∧Turn X.prog X.w X.K tg J fp it tn∧tn 0 s2.heap∧(∀ b∈fp,AF X pins H' b)∧R J H'
def PI (X:Cx) (tg iter:bh) (wi:TI):Prop :=
 ∀ (pins:List (ae×Obj)) (s:al) (σ:St) (H:Hp) (R:It→Hp→Prop),Inv X pins σ H s→wi σ H R →
  ba (model X.prog X.w) X.A (eval iter X.env) (fun v s1=>ba (model X.prog X.w) X.A (pyIter v) (PIE X pins σ tg R) X.xe s1) X.xe s
theorem Au {M:Model}{A:bH}{E:af→al→Prop}{s:al}{tg:bh}{it:ae}{u:af}{o:Obj}{n:String}{vs:Array af}{Q:Unit→al→Prop} (ho:s.heap.get? it=some o) (hc:o.cls=.type n) (hd:o.data=.fields vs)
  (hn:["enumerate","zip","dict_itemiterator","dict_reverseitemiterator","odict_iterator","itertools.zip_longest","itertools.pairwise"].contains n=false) (hQ:Q () s):ba M A (jr tg (.ref it) u) Q E s:=by
 unfold jr
 cases tg <;> first
  | exact aX hQ
  | (cases u <;> first
    | exact aX hQ
    | (refine aB (wpAny_load ho ?_)
       rw [hc,hd]
       show ba M A (if (["enumerate","zip","dict_itemiterator","dict_reverseitemiterator","odict_iterator","itertools.zip_longest","itertools.pairwise"].contains n && vs[0]? == some (dX _))=true then _ else _) Q E s
       rw [if_neg (by intro h;rw [hn,dW] at h;cases h)]
       exact aX hQ))
def Itl (K:aa) (a:ae):It :=
 ⟨fun i H=>∃ xs x,SqL K H a xs∧xs[i]?=some x,fun i H x H'=>H'=H∧∀ xs,SqL K H a xs→xs[i]?=some x,fun i H=>∃ xs,SqL K H a xs∧xs.length≤i⟩
def Itt (K:aa) (a:ae):It :=
 ⟨fun i H=>∃ xs x,SqT K H a xs∧xs[i]?=some x,fun i H x H'=>H'=H∧∀ xs,SqT K H a xs→xs[i]?=some x,fun i H=>∃ xs,SqT K H a xs∧xs.length≤i⟩
def Itr (lo:Int) (n:Nat):It:=⟨fun i _=>i < n,fun i H x H'=>H'=H∧x=.int (lo+i),fun i _=>n≤i⟩
theorem wJ {P:aV}{w:bz}{K:aa}{tg:bh} (a it:ae):Turn P w K tg (Itl K a) [it] it (fun i h=>h.IsListIter it a i) where
 mem:=by simp
 obj:=fun i h st b hb=>by
  have e:b=it:=by simpa using hb
  subst e
  obtain ⟨o,e,c,d⟩:=st
  exact ⟨o,e,fun v z=>by rw [d] at z;cases z⟩
 keep:=fun i h h' st k=>st.at fun o e=>k it (by simp) o e
 item:=by
  intro X hP hw hK hc i pins s σ H E I hf st hg
  subst hP hw hK
  obtain ⟨xs,x,hq,hx⟩:=hg
  obtain ⟨its,rv,p,hz⟩:=I.list hq
  obtain ⟨u,hu,ru⟩:=rv.get hx
  obtain ⟨f0,f1,f2,f3,f4,f5⟩:=hf it (by simp)
  refine wpAny_pyNext_list_item st p.isList (x:=u) (by simpa using hu) fun h' st' sb=>?_
  have I1:Inv X pins σ H { s with heap:=h' }:=I.turned (t':=s.toks) (fun b o hb e=>(sb.2 b hb).trans e) f0 f1 f3 f4 f5
  obtain ⟨o,e,c,d⟩:=id st'
  exact ⟨u,rfl,Au (s:={ s with heap:=h' }) e c d (by decide) ⟨x,H,I1,ru,⟨rfl,fun ys hy=>by rw [I.list_inj hy hq];exact hx⟩,st',fun b hb=>(hf b hb).1⟩⟩
 done:=by
  intro X hP hw hK hc i pins s σ H E I hf st hg
  subst hP hw hK
  obtain ⟨xs,hq,hx⟩:=hg
  obtain ⟨its,rv,p,hz⟩:=I.list hq
  obtain ⟨f0,f1,f2,f3,f4,f5⟩:=hf it (by simp)
  have hl:=rv.length
  exact wpAny_pyNext_list_end (I.ok.hd hc) st p.isList (by simp;omega) fun h' eb=>⟨rfl,I.turned (t':=s.toks) (fun b o hb e=>eb b o hb e) f0 f1 f3 f4 f5⟩
 self:=fun _ _ _ _ _ st h=>wpAny_pyIter_listiter st h
theorem zR {P:aV}{w:bz}{K:aa}{tg:bh} (a it:ae):Turn P w K tg (Itt K a) [it] it (fun i h=>h.IsTupleIter it a i) where
 mem:=by simp
 obj:=fun i h st b hb=>by
  have e:b=it:=by simpa using hb
  subst e
  obtain ⟨o,e,c,d⟩:=st
  exact ⟨o,e,fun v z=>by rw [d] at z;cases z⟩
 keep:=fun i h h' st k=>st.at fun o e=>k it (by simp) o e
 item:=by
  intro X hP hw hK hc i pins s σ H E I hf st hg
  subst hP hw hK
  obtain ⟨xs,x,hq,hx⟩:=hg
  obtain ⟨its,rv,p,hz⟩:=I.tuple hq
  obtain ⟨u,hu,ru⟩:=rv.get hx
  obtain ⟨f0,f1,f2,f3,f4,f5⟩:=hf it (by simp)
  refine wpAny_pyNext_tuple_item st (show s.heap.IsTuple a its.toArray from p) (x:=u) (by simpa using hu) fun h' st' sb=>?_
  have I1:Inv X pins σ H { s with heap:=h' }:=I.turned (t':=s.toks) (fun b o hb e=>(sb.2 b hb).trans e) f0 f1 f3 f4 f5
  obtain ⟨o,e,c,d⟩:=id st'
  exact ⟨u,rfl,Au (s:={ s with heap:=h' }) e c d (by decide) ⟨x,H,I1,ru,⟨rfl,fun ys hy=>by rw [I.tuple_inj hy hq];exact hx⟩,st',fun b hb=>(hf b hb).1⟩⟩
 done:=by
  intro X hP hw hK hc i pins s σ H E I hf st hg
  subst hP hw hK
  obtain ⟨xs,hq,hx⟩:=hg
  obtain ⟨its,rv,p,hz⟩:=I.tuple hq
  obtain ⟨f0,f1,f2,f3,f4,f5⟩:=hf it (by simp)
  have hl:=rv.length
  exact wpAny_pyNext_tuple_end (I.ok.hd hc) st (show s.heap.IsTuple a its.toArray from p) (by simp;omega) fun h' eb=>⟨rfl,I.turned (t':=s.toks) (fun b o hb e=>eb b o hb e) f0 f1 f3 f4 f5⟩
 self:=fun _ _ _ _ _ st h=>wpAny_pyIter_tupleiter st h
theorem zS {P:aV}{w:bz}{K:aa}{tg:bh} (it:ae) (lo:Int) (n:Nat):Turn P w K tg (Itr lo n) [it] it (fun i h=>IsRangeIter h it (lo+(i:Nat) * 1) ((n:Int) - (i:Nat)) 1) where
 mem:=by simp
 obj:=fun i h st b hb=>by
  have e:b=it:=by simpa using hb
  subst e
  exact ⟨_,st,fun v z=>by
   have z':Data.fields _=Data.cell v:=z
   cases z'⟩
 keep:=fun i h h' st k=>k it (by simp) _ st
 item:=by
  intro X hP hw hK hc i pins s σ H E I hf st hg
  subst hP hw hK
  obtain ⟨f0,f1,f2,f3,f4,f5⟩:=hf it (by simp)
  have W:=Walks.range (prog:=X.prog) (w:=X.w) (I.ok.hd hc) it lo 1 n
  refine W.item i s _ _ hg st fun v h' tk hv st' kk=>?_
  obtain ⟨t,rfl⟩:=hv
  have I1:Inv X pins σ H { s with heap:=h',toks:=tk }:=I.turned (fun b o hb e=>kk b o (by simpa using hb) e) f0 f1 f3 f4 f5
  refine ⟨_,rfl,Au (s:={ s with heap:=h',toks:=tk }) (n:="range_iterator") st' rfl rfl (by decide) ⟨.int (lo+i),H,I1,⟨t,?_⟩,⟨rfl,rfl⟩,st',fun b hb=>(hf b hb).1⟩⟩
  rw [ke]
 done:=by
  intro X hP hw hK hc i pins s σ H E I hf st hg
  subst hP hw hK
  obtain ⟨f0,f1,f2,f3,f4,f5⟩:=hf it (by simp)
  exact wpAny_pyNext_range_end (I.ok.hd hc) st (by have:n≤i:=hg;omega) fun h' eb=>⟨rfl,I.turned (t':=s.toks) (fun b o hb e=>eb b o hb e) f0 f1 f3 f4 f5⟩
 self:=fun _ _ _ _ _ st h=>wpAny_pyIter_rangeiter st h
section
variable {X:Cx}{tg:bh}
def iList (K:aa) (tl:TE):TI:=fun σ H R=>tl σ H fun x H1=>∃ a,x=.ref a∧(∃ xs,SqL K H1 a xs)∧R (Itl K a) H1
theorem FG {l:bh}{tl:TE} (hl:PE X l tl):PI X tg l (iList X.K tl):=by
 intro pins s σ H R I h
 refine thn (hl pins s σ H _ I h) fun v s1 ⟨x,H1,I1,r1,q1⟩=>?_
 obtain ⟨a,e,⟨xs,hq⟩,q⟩:=q1
 subst e
 cases r1
 obtain ⟨its,rv,p,hz⟩:=I1.list hq
 refine fm p.isList ?_
 refine ⟨s1.heap.objs.size,[s1.heap.objs.size],_,_,H1,rfl,I1.kept (t':=s1.toks) fun b o e=>ax _ e,wJ a _,⟨_,bg _ rfl,rfl,rfl⟩,fun b hb=>?_,q⟩
 have e:b=s1.heap.objs.size:=by simpa using hb
 subst e
 exact I1.fpOk (aC _) (I1.hok.fresh (aC _))
theorem Dz {pins:List (ae×Obj)}{σ:St}{H:Hp}{s:al}{R:It→Hp→Prop}{E:af→al→Prop}{lo hi:Int}{t u v:Tok}{tk:Nat} (I:Inv X pins σ H s) (h1:-(2 ^ 62)≤lo) (h2:lo < 2 ^ 62) (h3:-(2 ^ 62)≤hi) (h4:hi < 2 ^ 62)
  (q:R (Itr lo (hi - lo).toNat) H):ba (model X.prog X.w) X.A (pyIter (.ref s.heap.objs.size)) (PIE X pins σ tg R) E { s with heap:=s.heap.push { cls:=.type "range",data:=.fields #[.int lo t,.int hi u,.int 1 v] },toks:=tk }:=by
 refine wpAny_pyIter_range (IsRange.new ..) (small_one h1 h2 h3 h4) ?_
 have I1:Inv X pins σ H { s with heap:=s.heap.push { cls:=.type "range",data:=.fields #[.int lo t,.int hi u,.int 1 v] },toks:=tk }:=I.kept fun b o e=>ax _ e
 refine ⟨(s.heap.push { cls:=.type "range",data:=.fields #[.int lo t,.int hi u,.int 1 v] }).objs.size,[(s.heap.push { cls:=.type "range",data:=.fields #[.int lo t,.int hi u,.int 1 v] }).objs.size],_,_,H,rfl,
  I1.kept (t':=tk) fun b o e=>ax _ e,zS _ lo (hi - lo).toNat,?_,fun b hb=>?_,q⟩
 ·have e1:lo+((0:Nat):Int) * 1=lo:=by simp
  have e2:(((hi - lo).toNat:Nat):Int) - ((0:Nat):Int)=Builtin.Range.rangeSize lo hi 1:=by rw [rangeSize_one];split <;> omega
  show IsRangeIter _ _ (lo+((0:Nat):Int) * 1) ((((hi - lo).toNat:Nat):Int) - ((0:Nat):Int)) 1
  rw [e1,e2]
  exact bg _ rfl
 ·have e:b=(s.heap.push { cls:=.type "range",data:=.fields #[.int lo t,.int hi u,.int 1 v] }).objs.size:=by simpa using hb
  subst e
  exact I1.fpOk (aC _) (I1.hok.fresh (aC _))
def iRng1 (ta:TA):TI:=fun σ H R=>ta σ H fun vs H1=>∃ j:Int,vs=[.int j]∧-(2 ^ 62)≤j∧j < 2 ^ 62∧R (Itr 0 j.toNat) H1
theorem BU {a:bh}{ta:TA}{p pos:Pos} (hg:Gl X "range") (hm:X.mg "range"=none) (ha:PA X [a] ta) (hs:aK [a] X.env=[(false,eval a X.env)]:=by rfl):PI X tg (.Call (.Name "range" p) [a] [] pos) (iRng1 ta):=by
 intro pins s σ H R I h
 refine Call_ (ur I hg hm boot_range (fg (thn (ha pos pins s σ H _ I h) fun us s1 ⟨vs,H1,I1,r1,q1⟩=>?_) hs rfl))
 obtain ⟨j,e,q1,q2,q⟩:=q1
 subst e
 cases r1 with
 | cons r rr =>
  cases rr
  obtain ⟨t,rfl⟩:=r
  exact call_range_1 (Dz I1 (by omega) (by omega) q1 q2 (by simpa using q))
def tFor (wi:TI) (g:TG) (tb:TS):TS:=fun D σ H=>wi σ H fun J H1=>∃ W:Nat→Nat→St→Hp→Prop,(∃ m,W 0 m σ H1)∧∀ i m σ H,W i m σ H →
 (J.stop i H∧D.nx σ H)∨(J.go i H∧∃ N:St→Hp→Prop,(∀ σ' H',N σ' H'→∃ m',m' < m∧W (i+1) m' σ' H')∧∀ x H',J.yld i H x H'→g x σ H' fun σ2 H2=>tb { D with nx:=N,ct:=N,bk:=D.nx } σ2 H2)
def vW (fp:List ae) (h:bK):List (ae×Obj):=fp.filterMap fun b=>(h.get? b).map fun o=>(b,o)
theorem pT {fp:List ae}{h:bK}{b:ae}{o:Obj} (hb:b∈fp) (e:h.get? b=some o):(b,o)∈vW fp h:=ie.mpr ⟨b,hb,by rw [e];rfl⟩
theorem Ce {fp:List ae}{h:bK}{p:ae×Obj} (hp:p∈vW fp h):p.1∈fp∧h.get? p.1=some p.2:=by
 obtain ⟨b,hb,e⟩:=ie.mp hp
 cases q:h.get? b with
 | none=>rw [q] at e;cases e
 | some o =>
  rw [q] at e
  have e':(b,o)=p:=a8 e
  subst e'
  exact ⟨hb,q⟩
theorem Inv.pinned {pins:List (ae×Obj)}{σ:St}{H:Hp}{s:al}{fp:List ae} (I:Inv X pins σ H s) (hf:∀ b∈fp,AF X pins H b) (ho:∀ b∈fp,∃ o,s.heap.get? b=some o∧∀ v,o.data≠.cell v):Inv X (pins++vW fp s.heap) σ H s :=
 I.pins_of fun p hp=>(aM.mp hp).elim (fun z=>I.pin p (aL _ z)) fun z=>by
  obtain ⟨hb,e⟩:=Ce z
  obtain ⟨f0,f1,f2,_⟩:=hf p.1 hb
  obtain ⟨o,e',d⟩:=ho p.1 hb
  rw [e] at e';cases e'
  exact ⟨e,f0,f1,f2,d⟩
theorem Inv.unpinned {pins pl:List (ae×Obj)}{σ:St}{H:Hp}{s:al} (I:Inv X (pins++pl) σ H s):Inv X pins σ H s:=I.pins_of fun p hp=>I.pin p (aL _ (cn _ hp))
theorem Hy {iter:bh}{body:List bM}{wi:TI}{g:TG}{tb:TS}{pos:Pos} (hp:PassesOwn (model X.prog X.w) X.A X.env X.xe) (hc:X.calm=true) (hi:PI X tg iter wi) (hg:PG X tg g) (hb:PSs X body tb)
  (hs:∀ x,di iter X.env x=pure x:=by intro _;rfl):PS X (.For tg iter body [] pos) (tFor wi g tb):=by
 intro pins s σ H D I h
 refine wpAny_For (thn (hi pins s σ H _ I h) fun v s1 h1=>thn h1 fun itv s2 h2=>?_) hs
 obtain ⟨it,fp,tn,J,H2,e,I2,T,st2,f2,W,⟨m0,w0⟩,turn⟩:=h2
 subst e
 have stat:∀ {H':Hp},(∀ b∈fp,H' b=none)→∀ b∈fp,AF X pins H' b:=fun hn b hb=>⟨hn b hb,(f2 b hb).2⟩
 refine codeAny_forLoop_any (fun n s'=>∃ i σ' H',Inv X pins σ' H' s'∧tn i s'.heap∧(∀ b∈fp,H' b=none)∧W i n σ' H') ?_ m0 ⟨0,σ,H2,I2,st2,fun b hb=>(f2 b hb).1,w0⟩
 rintro n s3 ⟨i,σ3,H3,I3,st3,fr3,w3⟩
 rcases turn i n σ3 H3 w3 with ⟨stop,qn⟩ | ⟨go,N,hN,step⟩
 ·refine dQ hp (thn (T.done X rfl rfl rfl hc i pins s3 σ3 H3 X.xe I3 (stat fr3) st3 stop) fun r s4 ⟨hr,I4⟩=>?_)
  subst hr
  exact eU ⟨σ3,H3,I4,qn⟩
 ·refine dQ hp (thn (T.item X rfl rfl rfl hc i pins s3 σ3 H3 X.xe I3 (stat fr3) st3 go) fun r s4 ⟨u,hr,h4⟩=>?_)
  subst hr
  refine dQ hp (thn h4 fun _ s5 ⟨x,H5,I5,r5,y5,st5,fr5⟩=>?_)
  have I5':=I5.pinned (stat fr5) (T.obj _ _ st5)
  refine dQ hp (thn (hg _ s5 σ3 H5 x u _ I5' r5 (step x H5 y5)) fun _ s6 ⟨σ6,H6,I6,q6⟩=>?_)
  refine dQ hp (thn (hb _ s6 σ6 H6 _ I6 q6) fun f s7 q7=>?_)
  have again:∀ {σ7:St}{H7:Hp},Inv X (pins++vW fp s5.heap) σ7 H7 s7→N σ7 H7→∃ m,m < n∧∃ i σ' H',Inv X pins σ' H' s7∧tn i s7.heap∧(∀ b∈fp,H' b=none)∧W i m σ' H':=fun {σ7 H7} I7 n7=>by
   obtain ⟨m',hm,w7⟩:=hN σ7 H7 n7
   refine ⟨m',hm,i+1,σ7,H7,I7.unpinned,T.keep _ _ _ st5 fun b hb o e=>(I7.pin (b,o) (aL _ (aL _ (pT hb e)))).1,fun b hb=>?_,w7⟩
   obtain ⟨o,e,d⟩:=T.obj _ _ st5 b hb
   exact (I7.pin (b,o) (aL _ (aL _ (pT hb e)))).2.1
  cases f with
  | next=>obtain ⟨σ7,H7,I7,n7⟩:=q7;exact again I7 n7
  | cont=>obtain ⟨σ7,H7,I7,n7⟩:=q7;exact again I7 n7
  | brk=>obtain ⟨σ7,H7,I7,q7⟩:=q7;exact ⟨σ7,H7,I7.unpinned,q7⟩
  | ret v=>obtain ⟨x7,σ7,H7,I7,r7,q7⟩:=q7;exact ⟨x7,σ7,H7,I7.unpinned,r7,q7⟩
end
abbrev R2:=V→V→Hp→VK→Prop
def OpR (X:Cx) (f:af→af→Sem af) (r:R2):Prop :=
 ∀ (pins:List (ae×Obj)) (s:al) (σ:St) (H:Hp) (x y:V) (v u:af) (Q:VK),Inv X pins σ H s→RelV x v→RelV y u→r x y H Q →
  ba (model X.prog X.w) X.A (f v u) (EP X pins σ Q) X.xe s
def UnR (X:Cx) (f:af→Sem af) (r:V→Hp→VK→Prop):Prop :=
 ∀ (pins:List (ae×Obj)) (s:al) (σ:St) (H:Hp) (x:V) (v:af) (Q:VK),Inv X pins σ H s→RelV x v→r x H Q →
  ba (model X.prog X.w) X.A (f v) (EP X pins σ Q) X.xe s
def CallR (X:Cx) (f:af) (r:List V→Hp→VK→Prop):Prop :=
 ∀ (pins:List (ae×Obj)) (s:al) (σ:St) (H:Hp) (xs:List V) (us:List af) (Q:VK),Inv X pins σ H s→Vals xs us→r xs H Q →
  ba (model X.prog X.w) X.A (call f us) (EP X pins σ Q) X.xe s
def tOp (r:R2) (ta tb:TE):TE:=fun σ H Q=>ta σ H fun x H1=>tb σ H1 fun y H2=>r x y H2 Q
def tUn (r:V→Hp→VK→Prop) (ta:TE):TE:=fun σ H Q=>ta σ H fun x H1=>r x H1 Q
def rI (C:Int→Int→Prop) (g:Int→Int→V):R2:=fun x y H Q=>∃ i j,x=.int i∧y=.int j∧C i j∧Q (g i j) H
def rI0 (g:Int→Int→V):R2:=fun x y H Q=>∃ i j,x=.int i∧y=.int j∧Q (g i j) H
def rU (g:Int→V):V→Hp→VK→Prop:=fun x H Q=>∃ i,x=.int i∧Q (g i) H
section
variable {X:Cx}{a b c:bh}{ta tb tc:TE}{pos:Pos}
theorem IS (ha:PE X a ta) (hb:PE X b tb) {pins:List (ae×Obj)}{s:al}{σ:St}{H:Hp}{R:V→V→Hp→Prop} (I:Inv X pins σ H s)
  (h:ta σ H fun x H1=>tb σ H1 fun y H2=>R x y H2) {Q:af→al→Prop}{f:af→af→Sem af}
  (hf:∀ v u s2 x y H2,Inv X pins σ H2 s2→RelV x v→RelV y u→R x y H2→ba (model X.prog X.w) X.A (f v u) Q X.xe s2) :
  ba (model X.prog X.w) X.A (eval a X.env) (fun v s₁=>ba (model X.prog X.w) X.A (eval b X.env) (fun u s₂=>ba (model X.prog X.w) X.A (f v u) Q X.xe s₂) X.xe s₁) X.xe s:=by
 refine thn (ha pins s σ H _ I h) fun v s1 ⟨x,H1,I1,r1,q1⟩=>?_
 refine thn (hb pins s1 σ H1 _ I1 q1) fun u s2 ⟨y,H2,I2,r2,q2⟩=>?_
 exact hf v u s2 x y H2 I2 r1 r2 q2
theorem qf {op:Operator}{r:R2} (ho:OpR X (dR op) r) (ha:PE X a ta) (hb:PE X b tb):PE X (.BinOp a op b pos) (tOp r ta tb):=by
 intro pins s σ H Q I h
 exact wpAny_BinOp (IS ha hb I h fun v u s2 x y H2 I2 rx ry q=>ho pins s2 σ H2 x y v u Q I2 rx ry q)
theorem GM {op:UnaryOp}{r:V→Hp→VK→Prop} (ho:UnR X (unaryOp op) r) (ha:PE X a ta):PE X (.UnaryOp op a pos) (tUn r ta):=by
 intro pins s σ H Q I h
 exact UnaryOp_ (thn (ha pins s σ H _ I h) fun v s1 ⟨x,H1,I1,r1,q1⟩=>ho pins s1 σ H1 x v Q I1 r1 q1)
theorem opI {f:af→af→Sem af}{C:Int→Int→Prop}{g:Int→Int→Int}
  (rule:∀ (i j:Int) (t u:Tok) (s:al) (Q:af→al→Prop) (E:af→al→Prop),C i j→Q (.int (g i j) s.toks) { s with toks:=s.toks+1 }→ba (model X.prog X.w) X.A (f (.int i t) (.int j u)) Q E s) :
  OpR X f (rI C fun i j=>.int (g i j)):=by
 intro pins s σ H x y v u Q I rx ry h
 obtain ⟨i,j,rfl,rfl,hc,q⟩:=h
 obtain ⟨t,rfl⟩:=rx
 obtain ⟨t',rfl⟩:=ry
 exact rule i j t t' s _ _ hc ⟨.int (g i j),H,I.tok _,⟨_,rfl⟩,q⟩
theorem opI0 {f:af→af→Sem af}{g:Int→Int→Int}
  (rule:∀ (i j:Int) (t u:Tok) (s:al) (Q:af→al→Prop) (E:af→al→Prop),Q (.int (g i j) s.toks) { s with toks:=s.toks+1 }→ba (model X.prog X.w) X.A (f (.int i t) (.int j u)) Q E s) :
  OpR X f (rI0 fun i j=>.int (g i j)):=by
 intro pins s σ H x y v u Q I rx ry h
 obtain ⟨i,j,rfl,rfl,q⟩:=h
 obtain ⟨t,rfl⟩:=rx
 obtain ⟨t',rfl⟩:=ry
 exact rule i j t t' s _ _ ⟨.int (g i j),H,I.tok _,⟨_,rfl⟩,q⟩
theorem GS {f:af→af→Sem af}{g:Int→Int→Bool}
  (rule:∀ (i j:Int) (t u:Tok) (s:al) (Q:af→al→Prop) (E:af→al→Prop),Q (.bool (g i j)) s→ba (model X.prog X.w) X.A (f (.int i t) (.int j u)) Q E s) :
  OpR X f (rI0 fun i j=>.bl (g i j)):=by
 intro pins s σ H x y v u Q I rx ry h
 obtain ⟨i,j,rfl,rfl,q⟩:=h
 obtain ⟨t,rfl⟩:=rx
 obtain ⟨t',rfl⟩:=ry
 exact rule i j t t' s _ _ ⟨.bl (g i j),H,I,rfl,q⟩
def CPow (i j:Int):Prop:=0≤j∧j≤1000000∧i.natAbs < 2 ^ 64
def CMul (i j:Int):Prop:=(-(2 ^ 64) < i∧i < 2 ^ 64)∨(-(2 ^ 64) < j∧j < 2 ^ 64)
theorem CMul.ok {i j:Int} (h:CMul i j):IntMulOk i j:=by
 rcases h with ⟨h1,h2⟩ | ⟨h1,h2⟩
 ·exact .of_left (intBits_le_64 h1 h2)
 ·exact .of_right (intBits_le_64 h1 h2)
theorem op_add:OpR X (dR .Add) (rI0 fun i j=>.int (i+j)):=opI0 fun _ _ _ _ _ _ _ q=>add_int q
theorem HI:OpR X (dR .Sub) (rI0 fun i j=>.int (i - j)):=opI0 fun _ _ _ _ _ _ _ q=>sub_int q
theorem HM:OpR X (dR .Mult) (rI CMul fun i j=>.int (i * j)):=opI fun _ _ _ _ _ _ _ hc q=>mul_int q hc.ok
theorem EN:OpR X (dR .Mod) (rI (fun _ j=>0 < j) fun i j=>.int (i % j)):=opI fun i j _ _ _ _ _ hc q=>by
 have h1:(0:Int) < j:=hc
 exact mod_int' (by omega) (by rw [Int.fmod_eq_emod_of_nonneg i (by omega)];exact q)
theorem HK:OpR X (dR .Pow) (rI CPow fun i j=>.int (i ^ j.toNat)):=opI fun _ _ _ _ _ _ _ hc q=>pow_int_small hc.1 hc.2.1 hc.2.2 q
theorem unI {f:af→Sem af}{g:Int→Int}
  (rule:∀ (i:Int) (t:Tok) (s:al) (Q:af→al→Prop) (E:af→al→Prop),Q (.int (g i) s.toks) { s with toks:=s.toks+1 }→ba (model X.prog X.w) X.A (f (.int i t)) Q E s) :
  UnR X f (rU fun i=>.int (g i)):=by
 intro pins s σ H x v Q I rx h
 obtain ⟨i,rfl,q⟩:=h
 obtain ⟨t,rfl⟩:=rx
 exact rule i t s _ _ ⟨.int (g i),H,I.tok _,⟨_,rfl⟩,q⟩
theorem Ey:UnR X (unaryOp .USub) (rU fun i=>.int (-i)):=unI fun _ _ _ _ _ q=>neg_int q
def scal:V→V→Bool
 | .non,.non=>true | .non,.int _=>true | .int _,.non=>true | .non,.bl _=>true | .bl _,.non=>true | .non,.str _=>true | .str _,.non=>true
 | .int _,.int _=>true | .bl _,.bl _=>true | .str _,.str _=>true | .byt _,.byt _=>true
 | .int _,.str _=>true | .str _,.int _=>true | .bl _,.str _=>true | .str _,.bl _=>true
 | _,_=>false
def rNe:R2:=fun x y H Q=>scal x y=true∧Q (.bl (!decide (x=y))) H
theorem Gi {i j:Int}:decide (V.int i=V.int j)=(i == j):=by
 rw [bL]
 simp
theorem Iy {i j:Bool}:decide (V.bl i=V.bl j)=(i == j):=by
 rw [bL]
 simp
theorem Gh {i j:Str}:decide (V.str i=V.str j)=(i == j):=by
 rw [bL]
 simp
theorem Gj {i j:Array UInt8}:decide (V.byt i=V.byt j)=(i.toList == j.toList):=by
 rw [bL]
 cases i
 cases j
 simp
theorem mH {pins:List (ae×Obj)}{σ:St}{H:Hp}{s:al}{Q:VK}{k k':Bool} (I:Inv X pins σ H s) (q:Q (.bl k) H) (e:k=k'):EP X pins σ Q (.bool k') s:=by
 subst e
 exact ⟨.bl k,H,I,rfl,q⟩
theorem op_ne:OpR X (bP .NotEq) rNe:=by
 intro pins s σ H x y v u Q I rx ry h
 obtain ⟨hs,q⟩:=h
 cases x with
 | non =>
  cases rx
  cases y with
  | non=>cases ry;exact PySem.EqNone.ne_none_none (mH I q (by simp))
  | bl j=>cases ry;exact PySem.EqNone.ne_none_bool (mH I q (by simp))
  | int j=>obtain ⟨t',rfl⟩:=ry;exact PySem.EqNone.ne_none_int (mH I q (by simp))
  | str j=>obtain ⟨t',rfl⟩:=ry;exact PySem.EqNone.ne_none_str (mH I q (by simp))
  | _=>exact absurd (show false=true from hs) a9
 | bl i =>
  cases rx
  cases y with
  | non=>cases ry;exact PySem.EqNone.ne_bool_none (mH I q (by simp))
  | bl j=>cases ry;exact ne_bool (mH I q (congrArg not Iy))
  | str j=>obtain ⟨t',rfl⟩:=ry;exact PySem.EqMixed.ne_bool_str (mH I q (by simp))
  | _=>exact absurd (show false=true from hs) a9
 | int i =>
  obtain ⟨t,rfl⟩:=rx
  cases y with
  | non=>cases ry;exact PySem.EqNone.ne_int_none (mH I q (by simp))
  | int j=>obtain ⟨t',rfl⟩:=ry;exact ne_int (mH I q (congrArg not Gi))
  | str j=>obtain ⟨t',rfl⟩:=ry;exact PySem.EqMixed.ne_int_str (mH I q (by simp))
  | _=>exact absurd (show false=true from hs) a9
 | str i =>
  obtain ⟨t,rfl⟩:=rx
  cases y with
  | non=>cases ry;exact PySem.EqNone.ne_str_none (mH I q (by simp))
  | bl j=>cases ry;exact PySem.EqMixed.ne_str_bool (mH I q (by simp))
  | int j=>obtain ⟨t',rfl⟩:=ry;exact PySem.EqMixed.ne_str_int (mH I q (by simp))
  | str j=>obtain ⟨t',rfl⟩:=ry;exact ne_str (mH I q (congrArg not Gh))
  | _=>exact absurd (show false=true from hs) a9
 | byt i =>
  obtain ⟨t,rfl⟩:=rx
  cases y with
  | byt j=>obtain ⟨t',rfl⟩:=ry;exact PySem.W.ne_bytes (mH I q (congrArg not Gj))
  | _=>exact absurd (show false=true from hs) a9
 | _=>cases y <;> exact absurd (show false=true from hs) a9
theorem GP:OpR X (bP .Lt) (rI0 fun i j=>.bl (decide (i < j))):=GS fun _ _ _ _ _ _ _ q=>lt_int q
theorem GQ:OpR X (bP .LtE) (rI0 fun i j=>.bl (decide (i≤j))):=GS fun _ _ _ _ _ _ _ q=>le_int q
theorem GR:OpR X (bP .Gt) (rI0 fun i j=>.bl (decide (j < i))):=GS fun _ _ _ _ _ _ _ q=>gt_int q
theorem E8:OpR X (bP .GtE) (rI0 fun i j=>.bl (decide (j≤i))):=GS fun _ _ _ _ _ _ _ q=>ge_int q
theorem FN:OpR X (bP .IsNot) (fun x y H Q=>y=.non∧Q (.bl (!decide (x=.non))) H):=by
 intro pins s σ H x y v u Q I rx ry h
 obtain ⟨rfl,q⟩:=h
 cases ry
 refine isnot_none_gen (mH I q ?_)
 cases x <;> first
  | (cases rx;rfl)
  | (obtain ⟨t,rfl⟩:=rx;rfl)
theorem OpR.or {f:af→af→Sem af}{r r':R2} (h:OpR X f r) (h':OpR X f r'):OpR X f (fun x y H Q=>r x y H Q∨r' x y H Q):=by
 intro pins s σ H x y v u Q I rx ry q
 rcases q with q | q
 ·exact h pins s σ H x y v u Q I rx ry q
 ·exact h' pins s σ H x y v u Q I rx ry q
theorem lG (b:bh) {op:iH} (h:op≠.In:=by decide) (h2:op≠.NotIn:=by decide):cI op b=false:=by
 have e1:(op == CmpOp.In)=false:=by cases op <;> first | rfl | exact absurd rfl h
 have e2:(op == CmpOp.NotIn)=false:=by cases op <;> first | rfl | exact absurd rfl h2
 cases b <;> simp [cI,e1,e2]
theorem Ba {op:iH}{r:R2} (ho:OpR X (bP op) r) (ha:PE X a ta) (hb:PE X b tb) (hm:cI op b=false):PE X (.Compare a [op] [b] pos) (tOp r ta tb):=by
 intro pins s σ H Q I h
 exact wpAny_Compare1 (IS ha hb I h fun v u s2 x y H2 I2 rx ry q=>ho pins s2 σ H2 x y v u Q I2 rx ry q) hm
def tTest (t:TE):TT:=fun σ H Q=>t σ H fun x H'=>∃ k,x=.bl k∧Q k H'
theorem rm {op:iH}{r:R2} (ho:OpR X (bP op) r) (ha:PE X a ta) (hb:PE X b tb) (hm:cI op b=false):PT X (.Compare a [op] [b] pos) (tTest (tOp r ta tb)):=by
 intro pins s σ H Q I h
 refine wpAny_isTrue_Compare1 (thn (ha pins s σ H _ I h) fun v s1 ⟨x,H1,I1,r1,q1⟩=>thn (hb pins s1 σ H1 _ I1 q1) fun u s2 ⟨y,H2,I2,r2,q2⟩ =>
  thn (ho pins s2 σ H2 x y v u _ I2 r1 r2 q2) fun c s3 ⟨z,H3,I3,r3,k,e,q3⟩=>?_) hm
 subst e
 cases r3
 exact de ⟨H3,I3,q3⟩
def Hh (r r':R2) (ta tb tc:TE):TE:=fun σ H Q=>ta σ H fun x H1=>tb σ H1 fun y H2=>r x y H2 fun z H3=>∃ k,z=.bl k ∧
 (if k=true then tc σ H3 fun w' H4=>r' y w' H4 Q else Q (.bl false) H3)
theorem zl {op op':iH}{r r':R2} (ho:OpR X (bP op) r) (ho':OpR X (bP op') r') (ha:PE X a ta) (hb:PE X b tb) (hc:PE X c tc)
  (hm:lastMarks [op,op'] [b,c]=false:=by with_unfolding_all rfl):PE X (.Compare a [op,op'] [b,c] pos) (Hh r r' ta tb tc):=by
 intro pins s σ H Q I h
 refine Compare_chain (thn (ha pins s σ H _ I h) fun v s1 ⟨x,H1,I1,r1,q1⟩=>chain_link (thn (hb pins s1 σ H1 _ I1 q1) fun u s2 ⟨y,H2,I2,r2,q2⟩ =>
  thn (ho pins s2 σ H2 x y v u _ I2 r1 r2 q2) fun d s3 ⟨z,H3,I3,r3,k,e,q3⟩=>?_)) hm
 subst e
 cases r3
 refine de ?_
 cases k with
 | false=>exact ite_ff ⟨.bl false,H3,I3,rfl,q3⟩
 | true=>exact ite_tt (chain_last (thn (hc pins s3 σ H3 _ I3 q3) fun w' s4 ⟨z',H4,I4,r4,q4⟩=>ho' pins s4 σ H4 y z' u w' Q I4 r2 r4 q4))
theorem uq:(aP:Nat) < 2 ^ 63:=by rw [ji];decide
theorem op_add_str:OpR X (dR .Add) (fun x y H Q=>∃ i j,x=.str i∧y=.str j∧i.length+j.length≤aP∧Q (.str (i++j)) H):=by
 intro pins s σ H x y v u Q I rx ry h
 obtain ⟨i,j,rfl,rfl,hz,q⟩:=h
 obtain ⟨t,rfl⟩:=rx
 obtain ⟨t',rfl⟩:=ry
 exact add_str (fun t' tk=>⟨.str (i++j),H,I.tok _,⟨_,rfl⟩,q⟩) hz
theorem oW {x:V}{us:List af} (r:Vals [x] us):∃ u,us=[u]∧RelV x u:=by
 cases r with
 | cons r1 r2=>cases r2;exact ⟨_,rfl,r1⟩
theorem GC {x y:V}{us:List af} (r:Vals [x,y] us):∃ u w',us=[u,w']∧RelV x u∧RelV y w':=by
 cases r with
 | cons r1 r2 =>
  cases r2 with
  | cons r3 r4=>cases r4;exact ⟨_,_,rfl,r1,r3⟩
theorem Eu:CallR X (.builtin "abs") (fun xs H Q=>∃ i,xs=[.int i]∧Q (.int (if i < 0 then -i else i)) H):=by
 intro pins s σ H xs us Q I r h
 obtain ⟨i,rfl,q⟩:=h
 obtain ⟨u,rfl,t,rfl⟩:=oW r
 exact call_abs_int fun u tk=>⟨.int (if i < 0 then -i else i),H,I.tok _,⟨_,rfl⟩,q⟩
theorem CG (hc:X.calm=true):CallR X (.builtin "max") (fun xs H Q=>∃ i j,xs=[.int i,.int j]∧Q (.int (if j > i then j else i)) H):=by
 intro pins s σ H xs us Q I r h
 obtain ⟨i,j,rfl,q⟩:=h
 obtain ⟨u,w',rfl,⟨t,rfl⟩,⟨t',rfl⟩⟩:=GC r
 refine max_two_ints (I.ok.hd hc) fun h' tk k=>⟨_,H,I.kept k,?_,q⟩
 by_cases hj:j > i
 ·rw [if_pos hj,if_pos hj];exact ⟨_,rfl⟩
 ·rw [if_neg hj,if_neg hj];exact ⟨_,rfl⟩
theorem CI:CallR X (.type "int") (fun xs H Q=>(∃ i,xs=[.int i]∧Q (.int i) H)∨∃ k,xs=[.bl k]∧Q (.int (if k then 1 else 0)) H):=by
 intro pins s σ H xs us Q I r h
 rcases h with ⟨i,rfl,q⟩ | ⟨k,rfl,q⟩
 ·obtain ⟨u,rfl,t,rfl⟩:=oW r
  exact call_int_int ⟨.int i,H,I,⟨_,rfl⟩,q⟩
 ·obtain ⟨u,rfl,r1⟩:=oW r
  cases r1
  exact call_int_bool ⟨.int (if k then 1 else 0),H,I.tok _,⟨_,rfl⟩,q⟩
end
structure ObjM (h:bK) (x dx C:ae) (mA:Str→Option af):Prop where
 obj:h.get? x=some (cU C dx)
 ns:h.Ns1 dx mA
 ne:dx≠x
theorem Cj {h:bK}{dx:ae}{mA:Str→Option af} (n:h.Ns1 dx mA):∃ od,h.get? dx=some od∧∀ name,gI name od=some (mA name):=by
 obtain ⟨o,es,ep,ho,hd,hk,_,hm⟩:=n
 refine ⟨o,ho,fun name=>?_⟩
 have e:=hm name
 unfold nsFind findBy at e
 rw [← Array.find?_toList] at e
 unfold gI
 rw [hd]
 dsimp only
 split
 ·rename_i y q
  rw [q] at e
  exact congrArg some e
 ·rename_i q
  rw [q] at e
  have a:es.toList.any (·.refKey)=false:=by
   rw [List.any_eq_false]
   intro y hy
   obtain ⟨z,t,hkey⟩:=hk y (Array.mem_toList_iff.mp hy)
   simp [DictEntry.refKey,hkey]
  have a':¬ es.toList.any (·.refKey)=true:=by rw [a];exact a9
  rw [if_neg a']
  exact congrArg some e
theorem ObjM.look {h:bK}{x dx C:ae}{mA:Str→Option af} (I:ObjM h x dx C mA):∃ od,PySem.W.InstAt h x (cU C dx) C (some od)∧∀ name,gI name od=some (mA name) :=
 let ⟨od,ho,hl⟩:=Cj I.ns
 ⟨od,⟨I.obj,rfl,rfl,ho⟩,hl⟩
section
variable {prog:aV}{w:bz}{A:bH}{E:af→al→Prop}{s:al}{K:aa}{x dx C f:ae}{mA:Str→Option af}{name:Str}{v:af}
theorem Gb {expr:Bool}{Q:af→al→Prop} (X:K.In s.heap) (I:ObjM s.heap x dx C mA) (hg:e8 K C name=true) (hh:fP K C=true)
  (ha:av K (.ref C) name=some none) (hv:mA name=some v) (hv':j6 v=true) (h:Q v { s with toks:=s.toks+1 }) :
  ba (model prog w) A (getAttr (.ref x) name expr) Q E s:=by
 obtain ⟨od,J,hl⟩:=I.look
 exact PySem.W.get_value X J (gP hg).1 (PySem.W.findObj_own hh ha rfl (by rw [hl,hv])) hv' h
theorem Ei {pl:Sem Bool}{Q:af×List af→al→Prop} (X:K.In s.heap) (I:ObjM s.heap x dx C mA) (hg:e8 K C name=true)
  (hf:av K (.ref C) name=some (some (.ref f))) (ht:bV K (.ref f)=true) (hv:mA name=none) (h:Q (.ref f,[.ref x]) s) :
  ba (model prog w) A (gc (.ref x) name pl) Q E s:=by
 obtain ⟨od,J,hl⟩:=I.look
 exact PySem.W.method_fn X J (gP hg).1 (gP hg).2 hf (beq_iff_eq.mp ht) (by show (gI name od).map (·.isSome)=some false;rw [hl,hv];rfl) h
theorem Fu {ns:List Str}{Q:Unit→al→Prop} (X:K.In s.heap) (I:ObjM s.heap x dx C mA)
  (hs:av K (.ref C) "__setattr__"=some (some (.builtin "object.__setattr__"))) (hp:g9 K C=true) (ht:iC K C name=some none) (hh:fP K C=true)
  (hw:js mA ns) (hsz:ns.length≤aP)
  (h:∀ h',ObjM h' x dx C (fun y=>if y=name then some v else mA y)→iu dx s.heap h'→Q () { s with heap:=h',toks:=s.toks+2 }) :
  ba (model prog w) A (setAttr (.ref x) name v) Q E s:=by
 obtain ⟨od,J,hl⟩:=I.look
 refine PySem.W.set_plain X J hs (PySem.W.osa_open (s:={ s with toks:=s.toks+1 }) (r:=none) X J hp ht fun b=>?_)
 obtain ⟨cd,hc,hd'⟩:=PySem.W.any_some hh
 have hx:s.heap.get? x=some ⟨.ref C,some dx,.plain,#[]⟩:=I.obj
 refine aB (aX (aB (aB (wpAny_loadPart hx (aB (PySem.W.Looks.here (s:={ s with toks:=s.toks+1 }) (PySem.W.looks_clsIn X hc) ?_))))))
 rw [hd']
 refine aX (a:=some dx) (aB (aX (aB ?_)))
 refine wpAny_nsSet1 (s:={ s with toks:=s.toks+1 }) I.ns fun h' hn2 hs2=>?_
 obtain ⟨oD,esD,epD,hoD,hdD,hcD⟩:=hn2.count (PySem.Within.cons name v hw)
 refine aB (wpAny_lookBehind hoD (by rw [hdD];exact pastItsLine_dict (aN hcD (by rw [ap];omega))) ?_)
 exact aX (h _ ⟨(hs2.2 _ (gn I.ne)).trans I.obj,hn2,I.ne⟩ hs2)
theorem Ec {R:jM→al→Prop}{vs:List af}{kw:List (Str×af)} (X:K.In s.heap) (hm:iD K C=true)
  (hi:av K (.ref C) "__init__"=some (some (.ref f))) (hf:PySem.W.typeIn K (.ref f)=some (.type "function"))
  (h:ft (model prog w) (A.under (.builtin "type.__call__" ⟨.ref C::vs,kw⟩)) (.call (.ref f) ⟨.ref (s.heap.objs.size+1)::vs,kw⟩) (PySem.W.InitBack (s.heap.objs.size+1) R)
   {s with heap:=(s.heap.push cx).push (cU C s.heap.objs.size) }) :
  ft (model prog w) A (.call (.ref C) ⟨vs,kw⟩) R s:=by
 obtain ⟨hh,g,d,t,os⟩:=s
 exact PySem.W.make_core (PySem.W.makes_of X hm) (hV X hi) (fun self=>PySem.W.bind_fn X self hf) (.inl rfl) h
end
def pS (f:Str) (v:V):List (Str×V)→List (Str×V)
 | []=>[(f,v)]
 | (g,x)::r=>if g=f then (g,v)::r else (g,x)::pS f v r
theorem tX (f g:Str) (v:V):∀ fs:List (Str×V),(pS f v fs).lookup g=if g=f then some v else fs.lookup g
 | []=>by
  show cz g [(f,v)]=_
  by_cases h:g=f
  ·have hb:(g == f)=true:=beq_iff_eq.mpr h
   simp only [cz,hb,if_pos h]
  ·have hb:(g == f)=false:=beq_eq_false_iff_ne.mpr h
   simp only [cz,hb,if_neg h]
 | (k,x)::r=>by
  have ih:=tX f g v r
  rw [show pS f v ((k,x)::r)=(if k=f then (k,v)::r else (k,x)::pS f v r) from rfl]
  by_cases hk:k=f
  ·rw [if_pos hk]
   by_cases h:g=k
   ·have hb:(g == k)=true:=beq_iff_eq.mpr h
    simp only [cz,hb,if_pos (h.trans hk)]
   ·have hb:(g == k)=false:=beq_eq_false_iff_ne.mpr h
    simp only [cz,hb,if_neg (fun e:g=f=>h (e.trans hk.symm))]
  ·rw [if_neg hk]
   by_cases h:g=k
   ·have hb:(g == k)=true:=beq_iff_eq.mpr h
    simp only [cz,hb,if_neg (fun e:g=f=>hk (h.symm.trans e))]
   ·have hb:(g == k)=false:=beq_eq_false_iff_ne.mpr h
    simp only [cz,hb]
    exact ih
theorem tN (f:Str) (v:V):∀ fs:List (Str×V),f∈(pS f v fs).map (·.1)∧∀ g,g∈fs.map (·.1)→g∈(pS f v fs).map (·.1)
 | []=>⟨by simp [pS],fun g h=>by simp at h⟩
 | (k,x)::r=>by
  obtain ⟨i1,i2⟩:=tN f v r
  rw [show pS f v ((k,x)::r)=(if k=f then (k,v)::r else (k,x)::pS f v r) from rfl]
  by_cases hk:k=f
  ·rw [if_pos hk]
   subst hk
   exact ⟨by simp,fun g h=>by simpa using h⟩
  ·rw [if_neg hk]
   refine ⟨?_,fun g h=>?_⟩
   ·rw [aD]
    exact ai _ i1
   ·rw [aD] at h ⊢
    rcases aj.mp h with e | e
    ·exact aj.mpr (.inl e)
    ·exact ai _ (i2 g e)
theorem qz (f:Str) (v:V):∀ fs:List (Str×V),(pS f v fs).length≤fs.length+1
 | []=>by simp [pS]
 | (k,x)::r=>by
  have ih:=qz f v r
  rw [show pS f v ((k,x)::r)=(if k=f then (k,v)::r else (k,x)::pS f v r) from rfl]
  by_cases hk:k=f
  ·rw [if_pos hk,ap,ap];omega
  ·rw [if_neg hk,ap,ap];omega
theorem RelO.some_of {v:V}{o:Option af} (r:RelO (some v) o):∃ u,o=some u∧RelV v u:=by
 cases o with
 | none=>exact (show False from r).elim
 | some u=>exact ⟨u,rfl,r⟩
theorem RelO.none_of {o:Option af} (r:RelO none o):o=none:=by
 cases o with
 | none=>rfl
 | some u=>exact (show False from r).elim
theorem Cw {v:V}{u:af} (r:RelV v u):j6 u=true:=by
 cases v with
 | non=>cases (show u=iX from r);rfl
 | bl b=>cases (show u=iY b from r);rfl
 | int i=>obtain ⟨t,e⟩:=(show ∃ t,u=gQ i t from r);cases e;rfl
 | str x=>obtain ⟨t,e⟩:=(show ∃ t,u=gk x t from r);cases e;rfl
 | byt b=>obtain ⟨t,e⟩:=(show ∃ t,u=Value.bytes b t from r);cases e;rfl
 | flt b=>obtain ⟨t,e⟩:=(show ∃ t,u=jL b t from r);cases e;rfl
 | ref a=>cases (show u=bo a from r);rfl
 | ty n=>cases (show u=iW n from r);rfl
section
variable {P:aV}{w:bz}{H H':Hp}{h h':bK}{a C dx:ae}{fs fs':List (Str×V)}
theorem u6 (hok:HOk P w H h) (e:H a=some (.ins C dx fs)):∃ mA,ObjM h a dx C mA∧(∀ f,RelO (fs.lookup f) (mA f))∧js mA (fs.map (·.1))∧fs.length≤1000∧H dx=some (.own a):=by
 obtain ⟨d,z,ne,ob,mA,n,r,q⟩:=(show ObjOk P w H h a (.ins C dx fs) from hok a _ e)
 exact ⟨mA,⟨ob,n,ne⟩,r,q,z,d⟩
end
structure Cls (K:aa) (C:ae):Prop where
 pg:e8 K C fw=true
 hd:fP K C=true
 po:g9 K C=true
 sa:av K (.ref C) "__setattr__"=some (some (.builtin "object.__setattr__"))
theorem Cls.get {K:aa}{C:ae} (c:Cls K C) (f:Str):e8 K C f=true:=c.pg
def NoAttr (K:aa) (C:ae) (f:Str):Prop:=av K (.ref C) f=some none
theorem NoAttr.taker {K:aa}{C:ae}{f:Str} (n:NoAttr K C f):iC K C f=some none:=by
 unfold iC
 rw [show av K (.ref C) f=some none from n]
 rfl
structure Con (K:aa) (C:ae) (f:Str) (v:V) (u:af):Prop where
 at_:av K (.ref C) f=some (some u)
 rel:RelV v u
 get:fO K u "__get__"=some none
 cp:PySem.W.copiedNames.contains f=false
structure Meth (K:aa) (C:ae) (m:Str) (f:ae):Prop where
 at_:av K (.ref C) m=some (some (.ref f))
 fn:bV K (.ref f)=true
 kp:az K (.ref f)=true
section
variable {X:Cx}{pins:List (ae×Obj)}{σ:St}{H:Hp}{s:al}{a C dx:ae}{fs:List (Str×V)}{f:Str}{v:V}{A:bH}{E:af→al→Prop}
theorem Av {b:Bool}{Q:af→al→Prop} (I:Inv X pins σ H s) (e:H a=some (.ins C dx fs)) (c:Cls X.K C) (n:NoAttr X.K C f) (l:fs.lookup f=some v)
  (h:∀ u s',Inv X pins σ H s'→RelV v u→Q u s'):ba (model X.prog X.w) A (getAttr (.ref a) f b) Q E s:=by
 obtain ⟨mA,O,r,_,_,_⟩:=u6 I.hok e
 obtain ⟨u,hu,ru⟩:=RelO.some_of (v:=v) (o:=mA f) (by rw [← l];exact r f)
 exact Gb I.kIn O (c.get f) c.hd n hu (Cw ru) (h u _ (I.tok _) ru)
theorem vd {m:Str}{g:ae}{pl:Sem Bool}{Q:af×List af→al→Prop} (I:Inv X pins σ H s) (e:H a=some (.ins C dx fs)) (c:Cls X.K C) (k:Meth X.K C m g) (l:fs.lookup m=none)
  (h:Q (.ref g,[.ref a]) s):ba (model X.prog X.w) A (gc (.ref a) m pl) Q E s:=by
 obtain ⟨mA,O,r,_,_,_⟩:=u6 I.hok e
 have hn:mA m=none:=RelO.none_of (by rw [← l];exact r m)
 exact Ei I.kIn O (c.get m) k.at_ k.fn hn h
theorem zZ {y:V}{u:af}{Q:Unit→al→Prop} (I:Inv X pins σ H s) (e:H a=some (.ins C dx fs)) (c:Cls X.K C) (n:NoAttr X.K C f) (hl:fs.length < 1000) (ry:RelV y u)
  (h:∀ s',Inv X pins σ (upd H a (.ins C dx (pS f y fs))) s'→Q () s'):ba (model X.prog X.w) A (setAttr (.ref a) f u) Q E s:=by
 obtain ⟨mA,O,r,wi,_,ho⟩:=u6 I.hok e
 have hz:(fs.map (·.1)).length≤aP:=by rw [aq,ji];omega
 refine Fu I.kIn O c.sa c.po n.taker c.hd wi hz fun h' O' sb=>h _ ?_
 have hd:∃ o,h'.get? dx=some o:=let ⟨o,_,_,e',_⟩:=O'.ns;⟨o,e'⟩
 refine I.write (x:=a) (e:=dx) (by rw [e];exact cJ) (.inr ho) (fun b q hb z=>(sb.2 b hb).trans z) hd ?_
 refine ⟨by rw [kA O.ne];exact ho,?_,O.ne,O'.obj,_,O'.ns,fun g=>?_,fun g hg=>?_⟩
 ·have:=qz f y fs;omega
 ·show RelO ((pS f y fs).lookup g) (if g=f then some u else mA g)
  rw [tX]
  by_cases q:g=f
  ·rw [if_pos q,if_pos q];exact ry
  ·rw [if_neg q,if_neg q];exact r g
 ·by_cases q:g=f
  ·rw [q];exact (tN f y fs).1
  ·refine (tN f y fs).2 g (wi g fun z=>hg ?_)
   show (if g=f then some u else mA g)=none
   rw [if_neg q];exact z
theorem Inv.made (I:Inv X pins σ H s):Inv X pins σ (upd (upd H s.heap.objs.size (.own (s.heap.objs.size+1))) (s.heap.objs.size+1) (.ins C s.heap.objs.size []))
  {s with heap:=(s.heap.push cx).push (cU C s.heap.objs.size) }:=by
 have e1:(s.heap.push cx).get? s.heap.objs.size=some cx:=bg s.heap rfl
 have e2:((s.heap.push cx).push (cU C s.heap.objs.size)).get? (s.heap.objs.size+1)=some (cU C s.heap.objs.size):=by
  have:=bg (s.heap.push cx) (o:=cU C s.heap.objs.size) rfl
  rwa [Heap.size_push] at this
 have e3:(s.heap.push cx).Ns s.heap.objs.size (fun _=>none):=⟨cx,#[],_,e1,rfl,(fun e he=>absurd he (by simp)),fun _=>rfl⟩
 have I1:=I.laid (a:=s.heap.objs.size) (o:=.own (s.heap.objs.size+1)) (h':=s.heap.push cx) (t':=s.toks) (fun b u q=>ax _ q) (aC _) ⟨_,e1⟩
 refine I1.laid (a:=s.heap.objs.size+1) (o:=.ins C s.heap.objs.size []) (t':=s.toks) (fun b u q=>ax _ q) (jQ (Heap.size_push _ _)) ?_
 have ne:s.heap.objs.size≠s.heap.objs.size+1:=aQ (dA _)
 refine ⟨by rw [kA ne,kD],bA _,ne,e2,fun _=>none,(Heap.Ns1.of_empty e3).at fun o q=>ax _ q,fun _=>cJ,fun y hy=>absurd rfl hy⟩
theorem Gy {prog:aV}{w:bz}{env:Env}{e:bh}{f:Str}{pos:Pos}{s:al}{Q:af→al→Prop} (hb:eS e f env (eval e env)=eval e env)
  (h:ba (model prog w) A (eval e env) (fun o s₁=>ba (model prog w) A (getAttr o f true) Q E s₁) E s):ba (model prog w) A (eval (.Attribute e f pos) env) Q E s :=
 Attribute_any_ h (by rw [arm_eval_Attribute,hb])
end
def tFld (K:aa) (ta:TE) (f:Str):TE:=fun σ H Q=>ta σ H fun x H1=>∃ a C dx fs v,x=.ref a∧H1 a=some (.ins C dx fs)∧Cls K C∧NoAttr K C f∧fs.lookup f=some v∧Q v H1
def sFld (K:aa) (ta tv:TE) (f:Str):TS:=fun D σ H=>tv σ H fun y H1=>ta σ H1 fun x H2=>∃ a C dx fs,x=.ref a∧H2 a=some (.ins C dx fs)∧Cls K C∧NoAttr K C f∧fs.length < 1000 ∧
 D.nx σ (upd H2 a (.ins C dx (pS f y fs)))
section
variable {X:Cx}{o e value:bh}{f:Str}{pos pos' tpos:Pos}{ta tv:TE}
theorem mG (he:PE X e ta) (hb:eS e f X.env (eval e X.env)=eval e X.env):PE X (.Attribute e f pos) (tFld X.K ta f):=by
 intro pins s σ H Q I h
 refine Gy hb (thn (he pins s σ H _ I h) fun u s1 ⟨x,H1,I1,rx,a,C,dx,fs,v,ex,ea,c,n,l,q⟩=>?_)
 subst ex
 obtain rfl:u=bo a:=rx
 exact Av I1 ea c n l fun u' s2 I2 ru=>⟨v,H1,I2,ru,q⟩
theorem vT (ha:PE X o ta) (hv:PE X value tv) (hs:fe value (some (.Attribute o f pos')) pos.line X.env=pure false):PS X (.Assign [.Attribute o f pos'] value pos) (sFld X.K ta tv f):=by
 intro pins s σ H D I h
 refine plainObj_wpAny_Assign_Attribute (thn (hv pins s σ H _ I h) fun u s1 ⟨y,H1,I1,ry,q⟩=>thn (ha pins s1 σ H1 _ I1 q) fun ov s2 ⟨x,H2,I2,rx,a,C,dx,fs,ex,ea,c,n,l,q2⟩=>?_) hs
 subst ex
 obtain rfl:ov=bo a:=rx
 exact zZ I2 ea c n l ry fun s3 I3=>⟨σ,_,I3,q2⟩
end
section
variable {X:Cx}{pins:List (ae×Obj)}{σ:St}{H:Hp}{s:al}{A:bH}{E:af→al→Prop}{Q:af→al→Prop}{c:af}{b:Bool}
inductive TyOf (K:aa) (H:Hp):V→af→Prop where
 | non:TyOf K H .non (.type "NoneType")
 | bl (x:Bool):TyOf K H (.bl x) (.type "bool")
 | int (i:Int):TyOf K H (.int i) (.type "int")
 | str (x:Str):TyOf K H (.str x) (.type "str")
 | flt (x:UInt64):TyOf K H (.flt x) (.type "float")
 | lst {a:ae}{xs:List V} (e:H a=some (.lst xs)):TyOf K H (.ref a) (.type "list")
 | frz {a:ae}{o:Obj}{xs:List V} (e:H a=some (.frz o (.lst xs))):TyOf K H (.ref a) (.type "list")
 | tup {a:ae}{xs:List V} (e:H a=some (.tup xs)):TyOf K H (.ref a) (.type "tuple")
 | dK {a:ae}{kvs:List (Key×V)} (e:H a=some (.dK kvs)):TyOf K H (.ref a) (.type "dict")
 | dT {a:ae}{kvs:List (List Key×V)} (e:H a=some (.dT kvs)):TyOf K H (.ref a) (.type "dict")
 | ins {a C dx:ae}{fs:List (Str×V)} (e:H a=some (.ins C dx fs)) (cl:Cls K C) (ha:av K (.ref C) "__class__"=some (some (.builtin "object.__class__")))
   (hn:fO K (.builtin "object.__class__") "__get__"=some (some (.builtin "getset_descriptor.__get__"))) (htk:iB K (.builtin "object.__class__")=some true)
   (hm:bj K C (.type "object")=some true):TyOf K H (.ref a) (.ref C)
theorem Cq {x:V}{u t:af} (I:Inv X pins σ H s) (rx:RelV x u) (ty:TyOf X.K H x t) (e:ao X.K t c=some b) (h:∀ tk,Q (.bool b) { s with toks:=tk }) :
  ba (model X.prog X.w) A (call (.builtin "isinstance") [u,c]) Q E s:=by
 cases ty with
 | non=>cases (show u=iX from rx);exact bN PySem.W.kitx_none I.kIn cJ e (fun z=>nomatch z) h
 | bl y=>cases (show u=iY y from rx);exact bN PySem.W.kitx_bool I.kIn cJ e (fun z=>nomatch z) h
 | int i=>obtain ⟨t,q⟩:=(show ∃ t,u=gQ i t from rx);cases q;exact bN PySem.W.kitx_int I.kIn cJ e (fun z=>nomatch z) h
 | str y=>obtain ⟨t,q⟩:=(show ∃ t,u=gk y t from rx);cases q;exact bN PySem.W.kitx_str I.kIn cJ e (fun z=>nomatch z) h
 | flt y=>obtain ⟨t,q⟩:=(show ∃ t,u=jL y t from rx);cases q;exact bN PySem.W.kitx_float I.kIn cJ e (fun z=>nomatch z) h
 | @lst a xs ea =>
  cases (show u=bo a from rx)
  obtain ⟨_,_,n,_,h1⟩:=(show ObjOk X.prog X.w H s.heap a (.lst xs) from I.hok a _ ea)
  exact bN hX I.kIn ⟨_,h1,rfl⟩ e (fun z=>nomatch z) h
 | @frz a ob xs ea =>
  cases (show u=bo a from rx)
  obtain ⟨_,_,_,n,_,h1⟩:=(show ObjOk X.prog X.w H s.heap a (.frz ob (.lst xs)) from I.hok a _ ea)
  exact bN hX I.kIn ⟨_,h1,rfl⟩ e (fun z=>nomatch z) h
 | @tup a xs ea =>
  cases (show u=bo a from rx)
  obtain ⟨_,_,_,p⟩:=(show ObjOk X.prog X.w H s.heap a (.tup xs) from I.hok a _ ea)
  obtain ⟨o,h1,h2,_⟩:=p
  exact bN jK I.kIn ⟨o,h1,h2⟩ e (fun z=>nomatch z) h
 | @dK a kvs ea =>
  cases (show u=bo a from rx)
  obtain ⟨_,_,vs,_,p⟩:=(show ObjOk X.prog X.w H s.heap a (.dK kvs) from I.hok a _ ea)
  obtain ⟨o,es,ep,h1,h2,_⟩:=p
  exact bN jU I.kIn ⟨o,h1,h2.1⟩ e (fun z=>nomatch z) h
 | @dT a kvs ea =>
  cases (show u=bo a from rx)
  obtain ⟨_,_,xs,_,o,es,ep,h1,h2,_⟩:=(show ObjOk X.prog X.w H s.heap a (.dT kvs) from I.hok a _ ea)
  exact bN jU I.kIn ⟨o,h1,h2.1⟩ e (fun z=>nomatch z) h
 | @ins a C dx fs ea cl ha hn htk hm =>
  cases (show u=bo a from rx)
  obtain ⟨mA,O,_⟩:=u6 I.hok ea
  obtain ⟨od,J,_⟩:=O.look
  exact bN (PySem.W.kitx_own (cl.get _) cl.hd ha hn htk hm) I.kIn J e (fun z=>nomatch z) h
end
structure Room (k:Nat) (A:bH):Prop where
 hd:A.handled=none
 dp:A.depth+3 * k+5 < recursionLimit
 un:A.units+16 * k+200 < dC
theorem Room.mono {j k:Nat}{A:bH} (r:Room k A) (h:j≤k):Room j A:=⟨r.hd,by have:=r.dp;omega,by have:=r.un;omega⟩
theorem Room.deeper {k:Nat}{A:bH} (r:Room (k+1) A) (env:Env):Room k (A.deeper env) :=
 ⟨r.hd,by have:=r.dp;show A.depth+1+3 * k+5 < _;omega,by have:=r.un;show A.units+3+16 * k+200 < _;omega⟩
theorem As {A:bH}{C:ae}{us:List af}{kw:List (Str×af)}:(A.under (.builtin "type.__call__" ⟨.ref C::us,kw⟩)).depth=A.depth+1:=by
 first | rfl | simp [jn,Code.weight,Code.isCreation,Code.isGuard,Code.isCaller,Code.frames,jB,guardIds]
theorem Ar {A:bH}{C:ae}{us:List af}{kw:List (Str×af)}:(A.under (.builtin "type.__call__" ⟨.ref C::us,kw⟩)).units=A.units+1:=by
 first | rfl | simp [jn,Code.cUnits,Code.frames,jB]
theorem Room.make {k:Nat}{A:bH} (r:Room (k+1) A) (C:ae) (us:List af) (kw:List (Str×af)):Room k (A.under (.builtin "type.__call__" ⟨.ref C::us,kw⟩)) :=
 ⟨r.hd,by have:=r.dp;rw [As];omega,by have:=r.un;rw [Ar];omega⟩
theorem Room.depth {k:Nat}{A:bH} (r:Room k A):A.depth < recursionLimit:=by have:=r.dp;omega
theorem Room.units {k:Nat}{A:bH} (r:Room k A):A.units+64 < dC:=by have:=r.un;omega
def CY:TA:=fun _ H Q=>Q [] H
def E6 (ta:TE) (tr:TA):TA:=fun σ H Q=>ta σ H fun x H1=>tr σ H1 fun xs H2=>Q (x::xs) H2
section
variable {X:Cx}{e:bh}{es:List bh}{te:TE}{t:TA}{pos:Pos}
theorem pa_nil:PA X [] CY:=fun _ _ _ _ H Q I h=>eT ⟨[],H,I,.nil,h⟩
theorem kJ (ha:PE X e te) (hr:PA X es t) (hs:aK (e::es) X.env=(false,eval e X.env)::aK es X.env:=by rfl):PA X (e::es) (E6 te t):=by
 intro pos pins s σ H Q I h
 rw [hs]
 show ba _ _ (spliced ((false,eval e X.env)::cj pos (aK es X.env))) _ _ s
 refine dE (thn (ha pins s σ H _ I h) fun u s1 ⟨x,H1,I1,r1,q1⟩=>?_)
 exact thn (hr pos pins s1 σ H1 _ I1 q1) fun us s2 ⟨xs,H2,I2,r2,q2⟩=>⟨x::xs,H2,I2,.cons r1 r2,q2⟩
def tTup (t:TA):TE:=fun σ H Q=>t σ H fun xs H1=>xs.length≤aP∧∀ p,H1 p=none→Q (.ref p) (upd H1 p (.tup xs))
def tLst (t:TA):TE:=fun σ H Q=>t σ H fun xs H1=>xs.length≤aP∧∀ p,H1 p=none→Q (.ref p) (upd H1 p (.lst xs))
theorem vX {x1} (h:PA X es t):PE X (.Tuple es x1 pos) (tTup t):=by
 intro pins s σ H Q I hq
 refine wpAny_Tuple_spliced (thn (h pos pins s σ H _ I hq) fun us s1 ⟨xs,H1,I1,r,z,q⟩=>⟨by rw [← r.length];exact z,?_⟩)
 have hf:H1 s1.heap.objs.size=none:=I1.hok.fresh (aC _)
 refine ⟨.ref s1.heap.objs.size,upd H1 s1.heap.objs.size (.tup xs),I1.laid (t':=s1.toks) (fun b u e=>ax _ e) (aC _) ?_,rfl,q _ hf⟩
 exact ⟨z,us,r,⟨_,bg _ rfl,rfl,_,rfl⟩⟩
theorem EJ (h:PA X es t):PE X (.List es pos) (tLst t):=by
 intro pins s σ H Q I hq
 refine wpAny_List_spliced (thn (h pos pins s σ H _ I hq) fun us s1 ⟨xs,H1,I1,r,z,q⟩=>⟨by rw [← r.length];exact z,?_⟩)
 have hf:H1 s1.heap.objs.size=none:=I1.hok.fresh (aC _)
 refine ⟨.ref s1.heap.objs.size,upd H1 s1.heap.objs.size (.lst xs),I1.laid (t':=s1.toks) (fun b u e=>ax _ e) (aC _) ?_,rfl,q _ hf⟩
 exact ⟨z,us,0,r,bg _ rfl⟩
end
abbrev Sp:=List V→Hp→VK→XK→Prop
abbrev CXT:=List Env→Hp→al→XK→af→al→Prop
structure Env0 (P:aV) (w:bz) (K:aa) (mg:Str→Option af) (base:bK) (A:bH) (outer:List Env) (s:al) (H:Hp):Prop where
 frames:A.frames=some outer
 mod:Mod K mg base
 bs:∀ b o,base.get? b=some o→s.heap.get? b=some o∧H b=none
 bsz:base.objs.size≤s.heap.objs.size
 funs:s.heap.FunFrames base outer
 frf:∀ b∈frs outer,H b=none
 hok:HOk P w H s.heap
 bare:gC s.gens
def CE (outer:List Env) (P:aV) (w:bz) (H:Hp) (s:al) (Q:VK) (u:af) (s':al):Prop :=
 ∃ v H',s'.os=s.os∧gC s'.gens∧Un (frs outer) [] H H' s.heap s'.heap∧HOk P w H' s'.heap∧RelV v u∧Q v H'
def CR (CX:CXT) (outer:List Env) (P:aV) (w:bz) (H:Hp) (s:al) (Q:VK) (E:XK) (r:jM) (s':al):Prop :=
 match r with
 | .ok (.ret u)=>CE outer P w H s Q u s'
 | .ok _=>False
 | .error e=>CX outer H s E e s'
structure FnOk (P:aV) (w:bz) (K:aa) (mg:Str→Option af) (base:bK) (CX:CXT) (k:Nat) (f:ae) (fd:bR) (ps:List Str) (sp:Sp):Prop where
 len:∀ vs H Q E,sp vs H Q E→vs.length=ps.length
 run:∀ (A:bH) (outer:List Env) (s:al) (H:Hp) (args:Args) (us:List af) (vs:List V) (Q:VK) (E:XK),Room k A→Env0 P w K mg base A outer s H→i5 s fd args (ps.zip us)→Vals vs us→sp vs H Q E →
  ft (model P w) A (.call (.ref f) args) (CR CX outer P w H s Q E) s
theorem FnOk.imp {P:aV}{w:bz}{K:aa}{mg:Str→Option af}{base:bK}{CX:CXT}{k:Nat}{f:ae}{fd:bR}{ps:List Str}{sp sp':Sp} (F:FnOk P w K mg base CX k f fd ps sp)
  (h:∀ vs H Q E,sp' vs H Q E→sp vs H Q E):FnOk P w K mg base CX k f fd ps sp' :=
 ⟨fun vs H Q E q=>F.len vs H Q E (h _ _ _ _ q),fun A outer s H args us vs Q E hr he hb hv hs=>F.run A outer s H args us vs Q E hr he hb hv (h _ _ _ _ hs)⟩
theorem Env0.make {P:aV}{w:bz}{K:aa}{mg:Str→Option af}{base:bK}{A:bH}{outer:List Env}{s:al}{H:Hp} (e:Env0 P w K mg base A outer s H) (C:ae) (us:List af) (kw:List (Str×af)) :
  Env0 P w K mg base (A.under (.builtin "type.__call__" ⟨.ref C::us,kw⟩)) outer s H:=⟨by first | exact e.frames | (simpa [jn,Code.envs,jB,pushEnvs] using e.frames),e.mod,e.bs,e.bsz,e.funs,e.frf,e.hok,e.bare⟩
section
variable {X:Cx}{pins:List (ae×Obj)}{σ:St}{H:Hp}{s s':al}
theorem Inv.env0 (I:Inv X pins σ H s):Env0 X.prog X.w X.K X.mg X.base X.A X.stack s H :=
 ⟨I.ok.frames,I.ok.mod,I.bs,aN I.ok.bsz I.sz,I.stack,I.stkFree,I.hok,I.bare⟩
theorem Inv.after {Q:VK}{u:af} (I:Inv X pins σ H s) (h:CE X.stack X.prog X.w H s Q u s'):EP X pins σ Q u s':=by
 obtain ⟨v,H',os,bare,un,hok,r,q⟩:=h
 obtain ⟨hh,g,d,t,os'⟩:=s'
 obtain rfl:os'=s.os:=os
 exact ⟨v,H',I.call (h':=hh) (g':=g) (d':=d) (t':=t) (ch:=[]) un hok bare (fun b z=>absurd z (by simp)),r,q⟩
end
def zT (sp:Sp) (dvs:List V) (E:XK) (t:TA):TE:=fun σ H Q=>t σ H fun vs H1=>sp (vs++dvs) H1 Q E
def CM (C:ae) (m:Str) (sp:Sp) (dvs:List V) (E:XK) (ta:TE) (t:TA):TE:=fun σ H Q=>ta σ H fun x H1=>∃ a dx fs,x=.ref a∧H1 a=some (.ins C dx fs)∧fs.lookup m=none ∧
 t σ H1 fun vs H2=>sp (x::(vs++dvs)) H2 Q E
def GD (C:ae) (sp:Sp) (dvs:List V) (E:XK) (t:TA):TE:=fun σ H Q=>t σ H fun vs H1=>∀ x dx,H1 x=none→H1 dx=none→dx≠x →
 sp (.ref x::(vs++dvs)) (upd (upd H1 dx (.own x)) x (.ins C dx [])) (fun v H2=>v=.non∧Q (.ref x) H2) E
def Binds (K:aa) (fd:bR) (ps:List Str) (ds:List af):Prop :=
 ∀ (s:al) (us:List af),K.In s.heap→(us++ds).length=ps.length→i5 s fd ⟨us,[]⟩ (ps.zip (us++ds))
theorem Binds.all {K:aa}{fd:bR}{ps:List Str} (h:∀ us:List af,us.length=ps.length→bindArgs fd ⟨us,[]⟩=pure (ps.zip us)):Binds K fd ps []:=fun s us _ hl=>by
 rw [cg] at hl ⊢
 exact .of_eq (h us hl)
def mJ (CX:CXT) (X:Cx) (E:XK):Prop:=∀ (pins:List (ae×Obj)) (σ:St) (H:Hp) (s:al) (e:af) (s':al),Inv X pins σ H s→CX X.stack H s E e s'→X.xe e s'
section
variable {X:Cx}{CX:CXT}{k:Nat}{f C:ae}{fd:bR}{ps:List Str}{sp:Sp}{dvs:List V}{ds:List af}{E:XK}{x m:Str}{p pos apos:Pos}{e o:bh}{es:List bh}{ta:TE}{t:TA}
theorem yq {pins:List (ae×Obj)}{σ:St}{H:Hp}{s:al}{Q:VK}{us:List af}{vs:List V} (F:FnOk X.prog X.w X.K X.mg X.base CX k f fd ps sp) (hr:Room k X.A) (hb:Binds X.K fd ps ds) (hd:Vals dvs ds) (hx:mJ CX X E)
  (I:Inv X pins σ H s) (r:Vals vs us) (h:sp (vs++dvs) H Q E):ba (model X.prog X.w) X.A (call (.ref f) us) (EP X pins σ Q) X.xe s:=by
 have r2:Vals (vs++dvs) (us++ds):=r.append hd
 have hl:(us++ds).length=ps.length:=by rw [← r2.length];exact F.len _ _ _ _ h
 refine iL (eA (F.run X.A X.stack s H ⟨us,[]⟩ (us++ds) (vs++dvs) Q E hr I.env0 (hb s us I.kIn hl) r2 h) fun r s' hq=>?_)
 cases r with
 | error e=>exact hx pins σ H s e s' I hq
 | ok fl =>
  cases fl with
  | ret u=>exact I.after hq
  | next=>exact bu hq
  | brk=>exact bu hq
  | cont=>exact bu hq
theorem FK (F:FnOk X.prog X.w X.K X.mg X.base CX k f fd ps sp) (hr:Room k X.A) (hg:Gl X x) (hm:X.mg x=some (.ref f)) (hk:az X.K (.ref f)=true) (hb:Binds X.K fd ps ds) (hd:Vals dvs ds) (hx:mJ CX X E)
  (ha:PA X (e::es) t) (hdb:(x == ("__debug__":Str))=false:=by decide) (he:aK (e::es) X.env=(false,eval e X.env)::aK es X.env:=by rfl) (hpl:(cj pos (aK es X.env)).any (·.1)=false:=by rfl) :
  PE X (.Call (.Name x p) (e::es) [] pos) (zT sp dvs E t):=by
 intro pins s σ H Q I h
 refine cr (qc I hg hm ?_ hdb)
 refine fH (h₀:=X.base) I.ok.mod.kin hk (thn (ha pos pins s σ H _ I h) fun us s1 ⟨vs,H1,I1,r,q⟩=>⟨I1.kIn,?_⟩) he hpl
 exact yq F hr hb hd hx I1 r q
theorem FJ {pl:Sem Bool} (he:PE X o ta) (c:Cls X.K C) (hm:Meth X.K C m f) (F:FnOk X.prog X.w X.K X.mg X.base CX k f fd ps sp) (hr:Room k X.A) (hb:Binds X.K fd ps ds) (hd:Vals dvs ds) (hx:mJ CX X E) (ha:PA X (e::es) t)
  (hst:aK (e::es) X.env=(false,eval e X.env)::aK es X.env:=by rfl) (hpl:(cj pos (aK es X.env)).any (·.1)=false:=by rfl)
  (ht:eval (.Call (.Attribute o m apos) (e::es) [] pos) X.env=(do
   let ov ← eval o X.env
   gB apos.atName
   let (f,first) ← holding [ov] (gc ov m pl)
   iV pos f first (cj pos (aK (e::es) X.env)) (fu pos (dg [] X.env))):=by rfl) :
  PE X (.Call (.Attribute o m apos) (e::es) [] pos) (CM C m sp dvs E ta t):=by
 intro pins s σ H Q I h
 refine jj (pl:=pl) (thn (he pins s σ H _ I h) fun u s1 ⟨x,H1,I1,rx,a,dx,fs,ex,ea,l,q⟩=>?_) ht
 subst ex
 obtain rfl:u=bo a:=rx
 refine vd I1 ea c hm l ?_
 refine fH (first:=[.ref a]) (h₀:=X.base) I.ok.mod.kin hm.kp (thn (ha pos pins s1 σ H1 _ I1 q) fun us s2 ⟨vs,H2,I2,r,q2⟩=>⟨I2.kIn,?_⟩) hst hpl
 exact yq (us:=.ref a::us) (vs:=.ref a::vs) F hr hb hd hx I2 (.cons rfl r) q2
theorem DR {pl:Sem Bool} (he:PE X o ta) (c:Cls X.K C) (hm:Meth X.K C m f) (F:FnOk X.prog X.w X.K X.mg X.base CX k f fd ps sp) (hr:Room k X.A) (hb:Binds X.K fd ps ds) (hd:Vals dvs ds) (hx:mJ CX X E)
  (ht:eval (.Call (.Attribute o m apos) [] [] pos) X.env=(do
   let ov ← eval o X.env
   gB apos.atName
   let (f,first) ← holding [ov] (gc ov m pl)
   iV pos f first (cj pos (aK [] X.env)) (fu pos (dg [] X.env))):=by rfl) :
  PE X (.Call (.Attribute o m apos) [] [] pos) (CM C m sp dvs E ta CY):=by
 intro pins s σ H Q I h
 refine jj (pl:=pl) (thn (he pins s σ H _ I h) fun u s1 ⟨x,H1,I1,rx,a,dx,fs,ex,ea,l,q⟩=>?_) ht
 subst ex
 obtain rfl:u=bo a:=rx
 refine vd I1 ea c hm l ?_
 exact jx (first:=[.ref a]) I1.kIn hm.kp (yq (us:=[.ref a]) (vs:=[.ref a]) F hr hb hd hx I1 (.cons rfl .nil) q)
structure Mk (K:aa) (C f:ae):Prop where
 makes:iD K C=true
 init:av K (.ref C) "__init__"=some (some (.ref f))
 fn:bV K (.ref f)=true
 kp:az K (.ref C)=true
theorem Dt {pins:List (ae×Obj)}{σ:St}{H:Hp}{s:al}{Q:VK}{us:List af}{vs:List V} (M:Mk X.K C f) (F:FnOk X.prog X.w X.K X.mg X.base CX k f fd ps sp) (hr:Room (k+1) X.A) (hb:Binds X.K fd ps ds) (hd:Vals dvs ds)
  (hx:mJ CX X E) (I:Inv X pins σ H s) (r:Vals vs us)
  (h:∀ x dx,H x=none→H dx=none→dx≠x→sp (.ref x::(vs++dvs)) (upd (upd H dx (.own x)) x (.ins C dx [])) (fun v H2=>v=.non∧Q (.ref x) H2) E) :
  ba (model X.prog X.w) X.A (call (.ref C) us) (EP X pins σ Q) X.xe s:=by
 have hq:=h (s.heap.objs.size+1) s.heap.objs.size (I.hok.fresh (eR _)) (I.hok.fresh (aC _)) (aQ (dA _))
 have I2:=Inv.made (C:=C) I
 have r2:Vals (V.ref (s.heap.objs.size+1)::(vs++dvs)) (bo (s.heap.objs.size+1)::(us++ds)):=.cons rfl (r.append hd)
 have hl:(bo (s.heap.objs.size+1)::us++ds).length=ps.length:=by
  have e:=r2.length
  rw [F.len _ _ _ _ hq] at e
  exact e.symm
 refine iL (Ec (f:=f) I.kIn M.makes M.init (beq_iff_eq.mp M.fn) (eA (F.run _ X.stack _ _ ⟨bo (s.heap.objs.size+1)::us,[]⟩ (bo (s.heap.objs.size+1)::(us++ds)) _ _ E (hr.make C us [])
  (I2.env0.make C us []) (hb _ (bo (s.heap.objs.size+1)::us) I2.kIn hl) r2 hq) fun r s' hq'=>?_))
 cases r with
 | error e=>exact hx pins σ _ _ e s' I2 hq'
 | ok fl =>
  cases fl with
  | ret u =>
   obtain ⟨v,H',I3,rv,ev,q3⟩:=I2.after hq'
   subst ev
   exact ⟨rv,⟨V.ref (s.heap.objs.size+1),H',I3,rfl,q3⟩⟩
  | next=>exact bu hq'
  | brk=>exact bu hq'
  | cont=>exact bu hq'
theorem DU (M:Mk X.K C f) (F:FnOk X.prog X.w X.K X.mg X.base CX k f fd ps sp) (hr:Room (k+1) X.A) (hg:Gl X x) (hm:X.mg x=some (.ref C)) (hb:Binds X.K fd ps ds) (hd:Vals dvs ds) (hx:mJ CX X E)
  (hdb:(x == ("__debug__":Str))=false:=by decide):PE X (.Call (.Name x p) [] [] pos) (GD C sp dvs E CY):=by
 intro pins s σ H Q I h
 refine cr (qc I hg hm ?_ hdb)
 exact jx I.kIn M.kp (Dt (us:=[]) M F hr hb hd hx I .nil h)
end
section
variable {X:Cx}{CX:CXT}{k:Nat}{f C:ae}{fd:bR}{ps ks:List Str}{sp:Sp}{E:XK}{x m:Str}{p pos apos kpos:Pos}{e o:bh}{es:List bh}{kws:List fX}{te ta:TE}{t tk:TA}{nm:Option Str}
structure KBinds (K:aa) (fd:bR) (ps ks:List Str) (g:List af→List af→List af) (gV:List V→List V→List V):Prop where
 to:∀ (s:al) (us ws:List af),K.In s.heap→(g us ws).length=ps.length→i5 s fd ⟨us,ks.zip ws⟩ (ps.zip (g us ws))
 rel:∀ {vs:List V}{us:List af}{zs:List V}{ws:List af},Vals vs us→Vals zs ws→Vals (gV vs zs) (g us ws)
variable {g:List af→List af→List af}{gV:List V→List V→List V}
end
structure FnScope (N P:List Str) (sc:du):Prop where
 kind:sc.kind=.function
 co:sc.isCoroutine=false
 gen:sc.isGenerator=false
 nd:N.Nodup
 pre:N.take P.length=P
 par:∀ x∈P,sc.names.lookup x=some .local∨sc.names.lookup x=some .cell
 nofree:∀ y∈sc.names,y.2≠.free
theorem fsc {N P:List Str}{sc:du} (h1:sc.kind=.function:=by rfl) (h2:sc.isCoroutine=false:=by rfl) (h3:sc.isGenerator=false:=by rfl) (h4:N.Nodup:=by decide +kernel) (h5:N.take P.length=P:=by rfl) (h6:∀ x∈P,sc.names.lookup x=some .local∨sc.names.lookup x=some .cell:=by decide +kernel) (h7:∀ y∈sc.names,y.2≠.free:=by decide +kernel):FnScope N P sc:=⟨h1,h2,h3,h4,h5,h6,h7⟩
theorem xy {kindOf:Str→Option dU}{x:Str}:∀ {binds:List (Str×af)}{m:Str→Option af},(∀ v,(x,v)∉binds)→kh kindOf binds m x=m x
 | [],_,_=>rfl
 | (n,v)::r,m,h=>by
  unfold kh
  rw [xy fun w hw=>h w (ai _ hw)]
  split
  ·have:x≠n:=by rintro rfl;exact h v ar
   simp [this]
  ·rfl
theorem xA {kindOf:Str→Option dU}{x:Str}:∀ {binds:List (Str×af)}{m:Str→Option af},(∀ v,(x,v)∉binds)→ki kindOf binds m x=m x
 | [],_,_=>rfl
 | (n,v)::r,m,h=>by
  unfold ki
  rw [xA fun w hw=>h w (ai _ hw)]
  split
  ·rfl
  ·have:x≠n:=by rintro rfl;exact h v ar
   simp [this]
theorem xz {kindOf:Str→Option dU}{x:Str}{v:af}:∀ {P:List Str}{vs:List af}{i:Nat}{m:Str→Option af},P.Nodup→P[i]?=some x→vs[i]?=some v→kindOf x=some .local →
  kh kindOf (P.zip vs) m x=some v
 | [],_,_,_,_,h,_,_=>by simp at h
 | _::_,[],_,_,_,_,h,_=>by simp at h
 | p::P,w::vs,0,m,nd,h1,h2,hk=>by
  simp at h1 h2;subst h1;subst h2
  show kh kindOf ((p,w)::P.zip vs) m p=_
  unfold kh
  rw [xy fun v hv=>(aS.mp nd).1 (iQ hv).1,if_pos hk]
  simp
 | p::P,w::vs,i+1,m,nd,h1,h2,hk=>by
  show kh kindOf ((p,w)::P.zip vs) m x=_
  unfold kh
  exact xz (i:=i) (aS.mp nd).2 (by simpa using h1) (by simpa using h2) hk
theorem xD {kindOf:Str→Option dU}{x:Str}{v:af}:∀ {P:List Str}{vs:List af}{i:Nat}{m:Str→Option af},P.Nodup→P[i]?=some x→vs[i]?=some v→kindOf x≠some .local →
  ki kindOf (P.zip vs) m x=some v
 | [],_,_,_,_,h,_,_=>by simp at h
 | _::_,[],_,_,_,_,h,_=>by simp at h
 | p::P,w::vs,0,m,nd,h1,h2,hk=>by
  simp at h1 h2;subst h1;subst h2
  show ki kindOf ((p,w)::P.zip vs) m p=_
  unfold ki
  rw [xA fun v hv=>(aS.mp nd).1 (iQ hv).1,if_neg hk]
  simp
 | p::P,w::vs,i+1,m,nd,h1,h2,hk=>by
  show ki kindOf ((p,w)::P.zip vs) m x=_
  unfold ki
  exact xD (i:=i) (aS.mp nd).2 (by simpa using h1) (by simpa using h2) hk
def start (N:List Str) (vs:List V):St:=vs.map some++aY (N.length - vs.length) none
def xr (CX:CXT) (P:aV) (w:bz) (K:aa) (mg:Str→Option af) (base:bK) (N:List Str) (qual:Str) (scope:du) (f:ae) (cd:af) (A:bH) (outer:List Env) (s:al) (H:Hp) (E:XK):Cx where
 prog:=P
 w:=w
 K:=K
 mg:=mg
 base:=base
 A:=A.deeper (dY qual scope s.heap.objs.size f cd)
 N:=N
 s₀:=s
 H₀:=H
 env:=dY qual scope s.heap.objs.size f cd
 outer:=outer
 stack:=dY qual scope s.heap.objs.size f cd::outer
 ex:=[]
 calm:=true
 fn:=fun _=>true
 pn:=[]
 xe:=fun e s'=>ba (model P w) (A.deeper (dY qual scope s.heap.objs.size f cd)) (leaving (dY qual scope s.heap.objs.size f cd) e) (fun _ s''=>CX outer H s E e s'') (fun e' s''=>CX outer H s E e' s'') s'
theorem zK {sc:du}{n:Nat}{x:Str} (h:sc.names.lookup x=some .cell):∃ c,(cellsFrom n sc.names []).lookup x=some c:=by
 have q:=je sc.names n [] (.inl h)
 exact ee.mp q
theorem Cs {CX:CXT}{P:aV}{w:bz}{K:aa}{mg:Str→Option af}{base:bK}{N ps:List Str}{qual:Str}{scope:du}{f:ae}{cd:af}{A:bH}{outer:List Env}{s s1:al}{H:Hp}{E:XK}{us:List af}{vs:List V}
  (S:FnScope N ps scope) (hd:A.handled=none) (e0:Env0 P w K mg base A outer s H) (hl:vs.length=ps.length) (r:Vals vs us)
  (x:InCallC s s.heap.objs.size (kh (dY qual scope s.heap.objs.size f cd).kindOf (ps.zip us) fun _=>none) (cellsFrom (s.heap.objs.size+1) scope.names []) (ki (dY qual scope s.heap.objs.size f cd).kindOf (ps.zip us) fun _=>none) s1) :
  Inv (xr CX P w K mg base N qual scope f cd A outer s H E) [] (start N vs) H s1:=by
 have hpl:ps.length≤N.length:=by have:=congrArg dF S.pre;rw [ci] at this;omega
 obtain ⟨h1,tk,rfl,hk⟩:=x.done
 have noA:∀ b:ae,b∉(xr CX P w K mg base N qual scope f cd A outer s H E).ex:=fun b z=>absurd (show b∈([]:List ae) from z) (by simp)
 refine ⟨⟨e0.mod,S.kind,rfl,rfl,aC _,fun y z c h1 h2=>?_,fun y hy=>?_,fun y c _ h=>?_,fun _=>hd,jD e0.frames,.inr ⟨rfl,rfl⟩,fun b z=>absurd z (noA b),e0.bs,e0.bsz,fun b _ _=>noA b,fun b z=>absurd z (noA b),e0.funs,e0.frf⟩,
  rfl,e0.bare,Un.kept hk,⟨_,x.toInCall.ns,fun i y v h1 h2 h3=>?_⟩,fun y c h=>⟨_,x.cell y c h⟩,e0.hok.fresh (aC _),fun y c h=>?_,fun p hp=>absurd (show p∈([]:List (ae×Obj)) from hp) (by simp),e0.hok.kept hk,?_⟩
 ·exact name_of_addr x.apart (bO h1) (bO h2)
 ·have hy:scope.names.lookup y=some .cell∨scope.names.lookup y=some .free:=hy
  rcases hy with hy | hy
  ·exact zK hy
  ·exact absurd rfl (S.nofree _ (bO hy))
 ·exact cE (x.above y c (bO h))
 ·have hi:i < vs.length:=by
   unfold start at h2
   by_cases hi:i < vs.length
   ·exact hi
   ·rw [fR (by simpa using hi)] at h2
    rw [jv] at h2
    split at h2 <;> cases h2
  have ha:vs[i]?=some v:=by
   unfold start at h2
   rw [fV (by simpa using hi),bv] at h2
   cases e:vs[i]? with
   | none=>rw [e] at h2;cases h2
   | some a=>rw [e] at h2;cases h2;rfl
  obtain ⟨u,hu,rv⟩:=r.get ha
  have hp:ps[i]?=some y:=by
   rw [← S.pre,List.getElem?_take_of_lt (by omega)];exact h1
  have ndP:ps.Nodup:=by rw [← S.pre];exact S.nd.sublist (eV _ _)
  refine ⟨u,rv,?_⟩
  rcases S.par y (cF hp) with k | k
  ·exact .inl ⟨k,xz ndP hp hu k⟩
  ·obtain ⟨c,e⟩:=zK (n:=s.heap.objs.size+1) k
   refine .inr ⟨.inl k,c,e,?_⟩
   have q:=x.cell y c e
   rw [xD ndP hp hu (by show scope.names.lookup y≠_;rw [k];decide)] at q
   exact q
 ·exact e0.hok.fresh (cE (x.above y c (bO h)))
 ·unfold start
  show _=N.length
  rw [aT,aq,List.length_replicate]
  omega
theorem Fd {CX:CXT}{P:aV}{w:bz}{K:aa}{mg:Str→Option af}{base:bK}{k:Nat}{f:ae}{name qual:Str}{params:iw}{body:List bM}{scope:du}{dV kV doc pm cdv ct oc:af}{an od:Option ae}
  {osl:Array (Option af)}{N ps:List Str}{sp:Sp} (lk:K.lookup f=some ⟨oc,od,.func (dS name qual params body scope dV kV doc pm an cdv ct),osl⟩) (hcd:aG K cdv qual=true) (S:FnScope N ps scope)
  (len:∀ vs H Q E,sp vs H Q E→vs.length=ps.length)
  (hbody:∀ (A:bH) (outer:List Env) (s:al) (H:Hp) (vs:List V) (Q:VK) (E:XK),Room k (A.deeper (dY qual scope s.heap.objs.size f cdv))→sp vs H Q E →
   ∃ t,PSs (xr CX P w K mg base N qual scope f cdv A outer s H E) body t∧t { nx:=fun _ H'=>Q .non H',rt:=Q } (start N vs) H) :
  FnOk P w K mg base CX (k+1) f (dS name qual params body scope dV kV doc pm an cdv ct) ps sp:=by
 refine ⟨len,fun A outer s H args us vs Q E hr e0 hb r hsp=>?_⟩
 have hl:=len _ _ _ _ hsp
 have KX:K.In s.heap:=e0.mod.kin.keeps fun b o e=>(e0.bs b o e).1
 have lim:s.heap.NoLimit:=e0.mod.nolimit.keeps fun b o e=>(e0.bs b o e).1
 have hkind:∀ y∈ps.zip us,scope.names.lookup y.1=some .local∨(scope.names.lookup y.1=some .cell∧((cellsFrom (s.heap.objs.size+1) scope.names []).lookup y.1).isSome=true):=fun ⟨n,v⟩ hy=>by
  rcases S.par n (iQ hy).1 with q | q
  ·exact .inl q
  ·exact .inr ⟨q,je _ _ _ (.inl q)⟩
 refine codeAny_call_function hr.depth (KX _ _ lk) rfl S.co S.gen rfl (PySem.W.codeRec_of KX hcd) (hb _ _ _ _ ?_)
 refine wpAny_newFunctionEnv_cells S.kind hkind fun env he s1 x=>?_
 subst he
 refine ⟨lim.keeps x.toInCall.keep,codeAny_func ?_⟩
 obtain ⟨t,ht,hq⟩:=hbody A outer s H vs Q E (hr.deeper _) hsp
 have I:Inv (xr CX P w K mg base N qual scope f cdv A outer s H E) [] (start N vs) H s1:=Cs S hr.hd e0 hl r x
 refine ce (ht [] s1 (start N vs) H _ I hq) (fun fl s' hs=>?_) fun e s' hs=>hs
 have fin:∀ {σ':St}{H':Hp}{v:V}{u:af},Inv (xr CX P w K mg base N qual scope f cdv A outer s H E) [] σ' H' s'→RelV v u→Q v H'→CE outer P w H s Q u s' :=
  fun {σ' H' v u} J rv q=>⟨v,H',J.os,J.bare,J.base,J.hok,rv,q⟩
 cases fl with
 | ret u =>
  obtain ⟨v,σ',H',J,rv,q⟩:=hs
  exact fin J rv q
 | next =>
  obtain ⟨σ',H',J,q⟩:=hs
  exact fin (v:=V.non) (u:=iX) J rfl q
 | brk =>
  obtain ⟨_,_,_,q⟩:=hs
  exact bu q
 | cont =>
  obtain ⟨_,_,_,q⟩:=hs
  exact bu q
section
variable {X:Cx}{x:Str}{p pos:Pos}{e:bh}{es:List bh}{t:TA}{id T:String}{r:List V→Hp→VK→Prop}
def tCB (r:List V→Hp→VK→Prop) (t:TA):TE:=fun σ H Q=>t σ H fun vs H1=>r vs H1 Q
theorem mC (hc:CallR X (.builtin id) r) (hg:Gl X x) (hm:X.mg x=none) (hv:bJ x=some (.builtin id)) (ha:PA X (e::es) t) (hn:x≠"__name__":=by decide) (hdb:(x == ("__debug__":Str))=false:=by decide)
  (he:aK (e::es) X.env=(false,eval e X.env)::aK es X.env:=by rfl) (hpl:(cj pos (aK es X.env)).any (·.1)=false:=by rfl):PE X (.Call (.Name x p) (e::es) [] pos) (tCB r t):=by
 intro pins s σ H Q I h
 refine cr (ur I hg hm hv ?_ hn hdb)
 exact gS (thn (ha pos pins s σ H _ I h) fun us s1 ⟨vs,H1,I1,r1,q1⟩=>hc pins s1 σ H1 vs us Q I1 r1 q1) he hpl
theorem BW (hc:CallR X (.type T) r) (hg:Gl X x) (hm:X.mg x=none) (hv:bJ x=some (.type T)) (ha:PA X (e::es) t) (hn:x≠"__name__":=by decide) (hdb:(x == ("__debug__":Str))=false:=by decide)
  (he:aK (e::es) X.env=(false,eval e X.env)::aK es X.env:=by rfl) (hpl:(cj pos (aK es X.env)).any (·.1)=false:=by rfl):PE X (.Call (.Name x p) (e::es) [] pos) (tCB r t):=by
 intro pins s σ H Q I h
 refine cr (ur I hg hm hv ?_ hn hdb)
 exact fg (thn (ha pos pins s σ H _ I h) fun us s1 ⟨vs,H1,I1,r1,q1⟩=>hc pins s1 σ H1 vs us Q I1 r1 q1) he hpl
end
end L2
namespace HT
open PySem PyProof.Rows
section
open PySem.SeqAt
open PySem.AutoSeq1 (wpAny_loadPart')
open PySem.MeetsSeq PySem.MeetsSeq2 PySem.MeetsSeq3
end
section
variable {prog:aV}{w:bz}{A:bH}{E:af→al→Prop}{s:al}
def sIx (n d:Nat):Option Int→Nat
 | none=>d
 | some v=>if v < 0 then (v+(n:Int)).toNat else min v.toNat n
theorem Hm (n d:Nat) (hd:d≤n) (o:Option Int):sIx n d o≤n:=by
 cases o with
 | none=>exact hd
 | some v =>
  show (if v < 0 then (v+(n:Int)).toNat else min v.toNat n)≤n
  by_cases hv:v < 0
  ·rw [if_pos hv];omega
  ·rw [if_neg hv];exact Nat.min_le_right _ _
theorem Br (v:Int) (n d:Nat):(if v < 0 then max (v+(n:Int)) 0 else min v (n:Int))=((sIx n d (some v):Nat):Int):=by
 show (if v < 0 then max (v+(n:Int)) 0 else min v (n:Int))=(((if v < 0 then (v+(n:Int)).toNat else min v.toNat n):Nat):Int)
 by_cases hv:v < 0
 ·simp only [if_pos hv];omega
 ·simp only [if_neg hv];omega
theorem AB (lo hi:Option Int) (n:Nat):fC lo hi 1 (n:Int)=(((sIx n 0 lo:Nat):Int),((sIx n n hi:Nat):Int)):=by
 have h1:¬ ((1:Int) < 0):=by omega
 unfold fC
 simp only [h1,if_false]
 refine Prod.ext ?_ ?_
 ·cases lo with
  | none=>rfl
  | some v=>exact Br v n 0
 ·cases hi with
  | none=>rfl
  | some v=>exact Br v n n
theorem Ad (i j:Nat):dH (i:Int) (j:Int) 1=j - i:=by
 unfold dH
 have h1:(1:Int) > 0:=by omega
 simp only [h1,if_true,Int.ediv_one]
 split <;> omega
theorem uM {v:af}{o:Option Int}{Q:Option Int→al→Prop} (p:jg v o) (h:Q o s):ba (model prog w) A (Builtin.Slice.slicePartIndex v) Q E s:=by
 cases p with
 | none=>exact slicePart_none h
 | int i t=>exact slicePart_int h
theorem sT {sl:ae}{vl vu:af}{lo hi:Option Int}{n:Nat}{Q:Int×Int×Nat→al→Prop} (hs:s.heap.IsSliceOf sl vl vu .none) (pl:jg vl lo) (pu:jg vu hi)
  (h:Q (((sIx n 0 lo:Nat):Int),1,sIx n n hi - sIx n 0 lo) s):ba (model prog w) A (hZ (.ref sl) (pure (n:Int))) Q E s:=by
 obtain ⟨os,hos,hcs,hds⟩:=id hs
 unfold hZ Builtin.Slice.sliceFields
 refine aB (aB (wpAny_field hos hds (x:=vl) rfl (aB (wpAny_field hos hds (x:=vu) rfl (aB (wpAny_field hos hds (x:=.none) rfl (aX ?_)))))))
 refine aB (slicePart_none ?_)
 show ba _ _ (if ((1:Int) == 0)=true then _ else _) _ _ s
 rw [if_neg (by decide)]
 refine aB (uM pl (aB (uM pu (aB (aX ?_)))))
 show ba _ _ (match fC lo hi 1 (n:Int) with | (lo,hi)=>pure (lo,(1:Int),dH lo hi 1)) _ _ s
 rw [AB lo hi n]
 show ba _ _ (pure (((sIx n 0 lo:Nat):Int),(1:Int),dH ((sIx n 0 lo:Nat):Int) ((sIx n n hi:Nat):Int) 1)) _ _ s
 rw [Ad]
 exact aX h
theorem DM (xs:Array af) (i k:Nat):((dG k).filterMap fun (m:Nat)=>xs[((i:Int)+(m:Int) * 1).toNat]?).toArray=((xs.toList.drop i).take k).toArray:=by
 have e:(fun (m:Nat)=>xs[((i:Int)+(m:Int) * 1).toNat]?)=fun m=>xs[i+m]?:=by
  funext m
  have:((i:Int)+(m:Int) * 1).toNat=i+m:=by omega
  rw [this]
 rw [e]
 have:=pick_run xs i k
 rw [List.filterMap_map] at this
 have e2:((fun x=>xs[x]?) ∘ fun x=>i+x)=fun m=>xs[i+m]?:=rfl
 rw [e2] at this
 rw [this]
theorem getItem_tuple_cut {t sl:ae}{items:Array af}{vl vu:af}{lo hi:Option Int}{Q:af→al→Prop} (ht:IsTup s.heap t items) (hs:s.heap.IsSliceOf sl vl vu .none) (pl:jg vl lo) (pu:jg vu hi)
  (hw:¬ (sIx items.size 0 lo=0∧sIx items.size items.size hi=items.size))
  (h:Q (.ref s.heap.objs.size) { s with heap:=s.heap.push { cls:=.type "tuple",data:=.seq ((items.toList.drop (sIx items.size 0 lo)).take (sIx items.size items.size hi - sIx items.size 0 lo)).toArray } })
  (hsz:items.size≤aP):ba (model prog w) A (ip (.ref t) (.ref sl)) Q E s:=by
 have htake:sizeOk (.seq ((items.toList.drop (sIx items.size 0 lo)).take (sIx items.size items.size hi - sIx items.size 0 lo)).toArray):=by
  show ((items.toList.drop (sIx items.size 0 lo)).take (sIx items.size items.size hi - sIx items.size 0 lo)).toArray.size≤aP
  rw [aU,ci,gu,fG]
  omega
 have hj:sIx items.size items.size hi≤items.size:=Hm _ _ (aC _) hi
 obtain ⟨os,hos,hcs,hds⟩:=id hs
 have hTs:s.TypeIs (.ref sl) "slice":=⟨os,hos,hcs⟩
 unfold ip
 try with_reducible refine dz ?_
 first | refine aB (aX ?_) | skip
 refine aB (wpAny_sequenceKey ht.typeIs (by decide) ?_)
 refine aB (wpAny_callSpecial?_slot (name:=aF "__getitem__") ht.typeIs dD
  (wpAny_call_entry dD ht.typeIs entry_tuple_getitem ?_ (args_tuple_getitem _ _)))
 show ba _ _ (Builtin.Tuple.tupleItemsOf (.ref t) >>= _) _ _ s
 refine aB (tupleItemsOf_ ht ?_)
 refine aB (wpAny_typeOf hTs ?_)
 rw [if_pos (by decide)]
 refine aB (sT hs pl pu ?_)
 have hno:¬ ((((sIx items.size 0 lo:Nat):Int) == 0 && (1:Int) == 1 && (sIx items.size items.size hi - sIx items.size 0 lo) == items.size)=true):=by
  intro q
  rw [bY,bY] at q
  have q1:((sIx items.size 0 lo:Nat):Int)=0:=eq_of_beq q.1.1
  have q2:sIx items.size items.size hi - sIx items.size 0 lo=items.size:=eq_of_beq q.2
  exact hw ⟨by omega,by omega⟩
 show ba _ _ (if (((sIx items.size 0 lo:Nat):Int) == 0 && (1:Int) == 1 && (sIx items.size items.size hi - sIx items.size 0 lo) == items.size)=true then _ else _) _ _ s
 rw [if_neg hno,DM]
 first
  | exact aB (m:=dN _) (d8 (aX ⟨_,rfl,aX h⟩) htake)
  | exact aB (m:=dN _) (d8 (aB (aX (aX ⟨_,rfl,aX h⟩))) htake)
  | exact aB (aB (m:=dN _) (d8 (aX (aX ⟨_,rfl,aX h⟩)) htake))
  | exact aB (aB (m:=dN _) (d8 (aX ⟨_,rfl,aX h⟩) htake))
end
end HT
namespace L2
open PySem PySem.Spec PyProof.Rows
abbrev TO:=St→Hp→(Option Int→Hp→Prop)→Prop
def PO (X:Cx) (e:Option bh) (t:TO):Prop :=
 ∀ (pins:List (ae×Obj)) (s:al) (σ:St) (H:Hp) (Q:Option Int→Hp→Prop),Inv X pins σ H s→t σ H Q →
  ba (model X.prog X.w) X.A (evalPart e X.env) (fun u s'=>∃ o H',Inv X pins σ H' s'∧jg u o∧Q o H') X.xe s
def Fm:TO:=fun _ H Q=>Q none H
def tPart (t:TE):TO:=fun σ H Q=>t σ H fun x H1=>∃ i,x=.int i∧Q (some i) H1
section
variable {X:Cx}{e:bh}{te:TE}{lo hi:Option bh}{tl th:TO}{pos p2:Pos}
theorem po_none:PO X none Fm:=by
 intro pins s σ H Q I h
 rw [evalPart_none]
 exact aX ⟨none,H,I,.none,h⟩
theorem FF (h:PE X e te):PO X (some e) (tPart te):=by
 intro pins s σ H Q I hw
 rw [evalPart_some]
 refine thn (h pins s σ H _ I hw) fun u s1 ⟨x,H1,I1,r1,q1⟩=>?_
 obtain ⟨i,rfl,q⟩:=q1
 obtain ⟨t,rfl⟩:=r1
 exact ⟨some i,H1,I1,.int i t,q⟩
def SlR (X:Cx) (r:V→Option Int→Option Int→Hp→VK→Prop):Prop :=
 ∀ (pins:List (ae×Obj)) (s:al) (σ:St) (H:Hp) (x:V) (v vl vu:af) (lo hi:Option Int) (sl:ae) (Q:VK),Inv X pins σ H s→RelV x v→s.heap.IsSliceOf sl vl vu .none→jg vl lo→jg vu hi→r x lo hi H Q →
  ∃ T id,typeLookup (.type T) "__getitem__"=pure (some (.builtin id))∧s.TypeIs v T∧ba (model X.prog X.w) X.A (ip v (.ref sl)) (EP X pins σ Q) X.xe s
theorem SlR.or {r r':V→Option Int→Option Int→Hp→VK→Prop} (h:SlR X r) (h':SlR X r'):SlR X (fun x lo hi H Q=>r x lo hi H Q∨r' x lo hi H Q):=by
 intro pins s σ H x v vl vu lo hi sl Q I rx hs pl pu q
 rcases q with q | q
 ·exact h pins s σ H x v vl vu lo hi sl Q I rx hs pl pu q
 ·exact h' pins s σ H x v vl vu lo hi sl Q I rx hs pl pu q
def tSl (r:V→Option Int→Option Int→Hp→VK→Prop) (te:TE) (tl th:TO):TE:=fun σ H Q=>te σ H fun x H1=>tl σ H1 fun l H2=>th σ H2 fun u H3=>r x l u H3 Q
theorem DQ {r:V→Option Int→Option Int→Hp→VK→Prop} (hr:SlR X r) (he:PE X e te) (hl:PO X lo tl) (hu:PO X hi th):PE X (.Subscript e (.Slice lo hi none p2) pos) (tSl r te tl th):=by
 intro pins s σ H Q I h
 refine Subscript_ (thn (he pins s σ H _ I h) fun v s1 ⟨x,H1,I1,r1,q1⟩=>?_)
 refine wpAny_Slice (thn (hl pins s1 σ H1 _ I1 q1) fun vl s2 ⟨l,H2,I2,pl,q2⟩=>thn (hu pins s2 σ H2 _ I2 q2) fun vu s3 ⟨u,H3,I3,pu,q3⟩=>?_)
 rw [evalPart_none]
 refine aX ?_
 have I4:Inv X pins σ H3 { s3 with heap:=s3.heap.push { cls:=.type "slice",data:=.fields #[vl,vu,.none] } }:=I3.kept (t':=s3.toks) fun b ob q=>ax _ q
 obtain ⟨T,id,hT,ht,hg⟩:=hr pins { s3 with heap:=s3.heap.push { cls:=.type "slice",data:=.fields #[vl,vu,.none] } } σ H3 x v vl vu l u s3.heap.objs.size Q I4 r1 (Heap.IsSliceOf.new ..) pl pu q3
 show ba (model X.prog X.w) X.A (iI e (.Slice lo hi none p2) v (.ref s3.heap.objs.size)) (EP X pins σ Q) X.xe { s3 with heap:=s3.heap.push { cls:=.type "slice",data:=.fields #[vl,vu,.none] } }
 exact tail_any (ops:=[.ref s3.heap.objs.size,v]) ht hT hg (by with_unfolding_all rfl)
def Bo (xs:List V) (lo hi:Option Int):List V:=(xs.drop (HT.sIx xs.length 0 lo)).take (HT.sIx xs.length xs.length hi - HT.sIx xs.length 0 lo)
theorem ua (xs:List V) (lo hi:Option Int):(Bo xs lo hi).length≤xs.length:=by
 unfold Bo
 rw [ci,gu]
 omega
def rSlT (K:aa):V→Option Int→Option Int→Hp→VK→Prop:=fun x lo hi H Q=>∃ a xs,x=.ref a∧SqT K H a xs ∧
 ¬ (HT.sIx xs.length 0 lo=0∧HT.sIx xs.length xs.length hi=xs.length)∧∀ p,H p=none→Q (.ref p) (upd H p (.tup (Bo xs lo hi)))
theorem Hj:SlR X (rSlT X.K):=by
 intro pins s σ H x v vl vu lo hi sl Q I rx hs pl pu h
 obtain ⟨a,xs,rfl,hx,hw,q⟩:=h
 cases rx
 obtain ⟨its,r,ht,hz⟩:=I.tuple hx
 have hlen:its.toArray.size=xs.length:=by rw [aU];exact r.length.symm
 refine ⟨"tuple",_,dD.lookup,ht.typeIs,?_⟩
 refine HT.getItem_tuple_cut ht hs pl pu (by rw [hlen];exact hw) ?_ (by rw [hlen];exact hz)
 rw [hlen]
 refine ⟨.ref s.heap.objs.size,_,I.laid (t':=s.toks) (o:=.tup (Bo xs lo hi)) (fun b ob q=>ax _ q) (aC _) ?_,rfl,q _ (I.hok.fresh (aC _))⟩
 exact ⟨aN (ua xs lo hi) hz,_,(r.drop (HT.sIx xs.length 0 lo)).take (HT.sIx xs.length xs.length hi - HT.sIx xs.length 0 lo),IsTup.new _ _⟩
end
def ixN (n:Nat) (i:Int):Option Nat:=if 0≤i then (if i < n then some i.toNat else none) else if -(n:Int)≤i then some (i+n).toNat else none
def atI {α:Type} (xs:List α) (i:Int):Option α:=(ixN xs.length i).bind fun j=>xs[j]?
theorem Be {n:Nat}{i:Int}{j:Nat} (h:ixN n i=some j):seqIndex? i n=some j∧j < n∧-(n:Int)≤i∧i < n:=by
 unfold ixN at h
 by_cases h0:0≤i
 ·rw [if_pos h0] at h
  by_cases h1:i < n
  ·rw [if_pos h1] at h
   have e:i.toNat=j:=a8 h
   exact ⟨by rw [seqIndex_of h0 h1,e],by omega,by omega,h1⟩
  ·rw [if_neg h1] at h;cases h
 ·rw [if_neg h0] at h
  by_cases h1:-(n:Int)≤i
  ·rw [if_pos h1] at h
   have e:(i+n).toNat=j:=a8 h
   exact ⟨by rw [seqIndex_neg (by omega) h1,e],by omega,h1,by omega⟩
  ·rw [if_neg h1] at h;cases h
theorem yn {α:Type}{xs:List α}{i:Int}{v:α} (h:atI xs i=some v):∃ j,seqIndex? i xs.length=some j∧xs[j]?=some v∧j < xs.length∧-(xs.length:Int)≤i∧i < xs.length:=by
 unfold atI at h
 cases e:ixN xs.length i with
 | none=>rw [e] at h;cases h
 | some j =>
  rw [e] at h
  obtain ⟨h1,h2,h3,h4⟩:=Be e
  exact ⟨j,h1,h,h2,h3,h4⟩
theorem lp {α:Type}{xs:List α}{j:Nat}{v:α} (h:xs[j]?=some v):atI xs (j:Int)=some v:=by
 have hj:j < xs.length:=(aZ.mp h).1
 have e:ixN xs.length (j:Int)=some j:=by
  unfold ixN
  rw [if_pos (by omega),if_pos (by omega)];simp
 unfold atI;rw [e];exact h
def BB (b:bh):Prop:=∀ o i,subscripted b false o i=operate [o,i] (ip o i)
def IxR (X:Cx) (r:R2):Prop :=
 ∀ (value slice:bh) (pins:List (ae×Obj)) (s:al) (σ:St) (H:Hp) (x y:V) (v u:af) (Q:VK),Inv X pins σ H s→RelV x v→RelV y u→r x y H Q →
  subscripted slice false v u=operate [v,u] (ip v u)→ba (model X.prog X.w) X.A (iI value slice v u) (EP X pins σ Q) X.xe s
def MtR (X:Cx) (id:String) (r:V→List V→Hp→VK→Prop):Prop :=
 ∀ (pins:List (ae×Obj)) (s:al) (σ:St) (H:Hp) (x:V) (xs:List V) (v:af) (us:List af) (Q:VK),Inv X pins σ H s→RelV x v→Vals xs us→r x xs H Q →
  ba (model X.prog X.w) X.A (call (.builtin id) (v::us)) (EP X pins σ Q) X.xe s
section
variable {X:Cx}{a b:bh}{ta tb:TE}{pos:Pos}
theorem IxR.or {r r':R2} (h:IxR X r) (h':IxR X r'):IxR X (fun x y H Q=>r x y H Q∨r' x y H Q):=by
 intro value slice pins s σ H x y v u Q I rx ry q hs
 rcases q with q | q
 ·exact h value slice pins s σ H x y v u Q I rx ry q hs
 ·exact h' value slice pins s σ H x y v u Q I rx ry q hs
theorem oX {r:R2} (hr:IxR X r) (ha:PE X a ta) (hb:PE X b tb) (hs:BB b):PE X (.Subscript a b pos) (tOp r ta tb):=by
 intro pins s σ H Q I h
 exact Subscript_ (IS ha hb I h fun v u s2 x y H2 I2 rx ry q=>hr a b pins s2 σ H2 x y v u Q I2 rx ry q (hs _ _))
def IM (K:aa):R2:=fun x y H Q=>∃ p xs i v,x=.ref p∧y=.int i∧SqL K H p xs∧atI xs i=some v∧Q v H
def IK (K:aa):R2:=fun x y H Q=>∃ p xs i v,x=.ref p∧y=.int i∧SqT K H p xs∧atI xs i=some v∧Q v H
def IL:R2:=fun x y H Q=>∃ z i c,x=.str z∧y=.int i∧z.length≤aP∧atI z.cps.toList i=some c∧Q (.str ⟨#[c]⟩) H
theorem ix_list:IxR X (IM X.K):=by
 intro value slice pins s σ H x y v u Q I rx ry h hs
 obtain ⟨p,xs,i,z,rfl,rfl,hq,he,q⟩:=h
 cases rx
 obtain ⟨t,rfl⟩:=ry
 obtain ⟨its,r,pl,hz⟩:=I.list hq
 obtain ⟨j,h1,h2,h3,h4,h5⟩:=yn he
 obtain ⟨w,ew,rw'⟩:=r.get h2
 have hl:=r.length
 have hn:=uq
 have fin:EP X pins σ Q w s:=⟨z,H,I,rw',q⟩
 by_cases h0:0≤i
 ·have hj:i.toNat=j:=by
   rw [seqIndex_of h0 h5] at h1
   exact a8 h1
  exact item_listR pl.isList h0 (by omega) (by rw [hj];simpa using ew) fin hs
 ·have hj:(i+(its.toArray.size:Int)).toNat=j:=by
   rw [seqIndex_neg (by omega) h4] at h1
   rw [aU,← hl]
   exact a8 h1
  exact subscriptTail_builtinR (x:=w) pl.isList.typeIs slot_list_getitem.lookup
   (wpAny_getItem_list_neg (Q:=fun r s'=>r=w∧EP X pins σ Q r s') pl.isList (by omega) (by rw [aU] <;> omega) (by omega) (by rw [hj];simpa using ew) ⟨rfl,fin⟩) hs
theorem ix_tup:IxR X (IK X.K):=by
 intro value slice pins s σ H x y v u Q I rx ry h hs
 obtain ⟨p,xs,i,z,rfl,rfl,hq,he,q⟩:=h
 cases rx
 obtain ⟨t,rfl⟩:=ry
 obtain ⟨its,r,pl,hz⟩:=I.tuple hq
 obtain ⟨j,h1,h2,h3,h4,h5⟩:=yn he
 obtain ⟨w,ew,rw'⟩:=r.get h2
 have hl:=r.length
 have hn:=uq
 have fin:EP X pins σ Q w s:=⟨z,H,I,rw',q⟩
 exact subscriptTail_builtinR (x:=w) pl.typeIs dD.lookup
  (getItem_tuple (j:=j) (Q:=fun r s'=>r=w∧EP X pins σ Q r s') pl (by omega) (by omega) (by rw [aU,← hl];exact h1) (by simpa using ew) ⟨rfl,fin⟩) hs
theorem Ig:IxR X IL:=by
 intro value slice pins s σ H x y v u Q I rx ry h hs
 obtain ⟨z,i,c,rfl,rfl,hz,he,q⟩:=h
 obtain ⟨t,rfl⟩:=rx
 obtain ⟨t',rfl⟩:=ry
 obtain ⟨j,h1,h2,h3,h4,h5⟩:=yn he
 have hl:z.cps.toList.length=z.length:=by simp [Str.length]
 rw [hl] at h1 h4 h5
 have hn:=uq
 exact tail_any (typeIs_str s z t) slot_str_getitem.lookup (getItem_str (c:=c) (by
  have e1:decide (i < -(2 ^ 63:Int))=false:=decide_eq_false (by omega)
  have e2:decide (i ≥ 2 ^ 63)=false:=decide_eq_false (by omega)
  rw [e1,e2,Bool.or_false]) (by rw [h1];simpa using h2) ⟨.str ⟨#[c]⟩,H,I.tok _,⟨_,rfl⟩,q⟩) hs
theorem Aq (its:List af) (n j:Nat) (u:af):il (·.setIfInBounds j u) { cls:=.type "list",data:=.seq its.toArray n }={ cls:=.type "list",data:=.seq (its.set j u).toArray n }:=by
 simp [il]
theorem Inv.lst {pins:List (ae×Obj)}{σ:St}{H:Hp}{s:al}{p:ae}{xs:List V} (I:Inv X pins σ H s) (h:H p=some (.lst xs)) :
  ∃ (its:List af) (n:Nat),Vals xs its∧s.heap.get? p=some { cls:=.type "list",data:=.seq its.toArray n }∧xs.length≤aP:=by
 obtain ⟨z,its,n,r,e⟩:=I.hok p _ h
 exact ⟨its,n,r,e,z⟩
theorem Inv.lstUpd {pins:List (ae×Obj)}{σ:St}{H:Hp}{s:al}{p:ae}{xs ys:List V}{its its':List af}{n n':Nat}{f:Obj→Obj} (I:Inv X pins σ H s) (h:H p=some (.lst xs))
  (ho:s.heap.get? p=some { cls:=.type "list",data:=.seq its.toArray n }) (hf:f { cls:=.type "list",data:=.seq its.toArray n }={ cls:=.type "list",data:=.seq its'.toArray n' }) (r:Vals ys its') (hz:ys.length≤aP) (t:Nat) :
  Inv X pins σ (upd H p (.lst ys)) { s with heap:=s.heap.update p f,toks:=t }:=by
 have e:(s.heap.update p f).get? p=some { cls:=.type "list",data:=.seq its'.toArray n' }:=by
  rw [Heap.get?_update_self f ho (by rw [hf] <;> rfl),hf]
 refine I.write (x:=p) (e:=p) (by rw [h];trivial) (.inl rfl) (fun b u hb q=>(jz _ _ (gn hb)).trans q) ⟨_,e⟩ ?_
 exact ⟨hz,its',n',r,e⟩
def GJ:V→V→V→Hp→(Hp→Prop)→Prop:=fun o i v H Q=>∃ p xs k j,o=.ref p∧i=.int k∧H p=some (.lst xs)∧ixN xs.length k=some j∧Q (upd H p (.lst (xs.set j v)))
theorem set_list:PSet X GJ:=by
 intro pins s σ H o i v ov iv u Q I ro ri rv h
 obtain ⟨p,xs,k,j,rfl,rfl,hp,hj,q⟩:=h
 cases ro
 obtain ⟨t,rfl⟩:=ri
 obtain ⟨its,n,r,ho,hz⟩:=I.lst hp
 obtain ⟨h1,h2,h3,h4⟩:=Be hj
 have hl:=r.length
 have hn:=uq
 have I':Inv X pins σ (upd H p (.lst (xs.set j v))) { s with heap:=s.heap.update p (il (·.setIfInBounds j u)) } :=
  I.lstUpd hp ho (Aq its n j u) (r.set rv j) (by rw [iR];exact hz) s.toks
 by_cases h0:0≤k
 ·have hk:k.toNat=j:=by
   rw [seqIndex_of h0 h4] at h1
   exact a8 h1
  exact PySem.W.ki_setAt ho h0 (by omega) (by rw [aU,← hl];exact h4) (by rw [hk];exact ⟨_,I',q⟩)
 ·have hk:(k+(its.toArray.size:Int)).toNat=j:=by
   rw [seqIndex_neg (by omega) h3] at h1
   rw [aU,← hl]
   exact a8 h1
  exact PySem.W.ki_setBack ho (by omega) (by rw [aU,← hl];exact h3) (by omega) (by rw [hk];exact ⟨_,I',q⟩)
theorem xH (lo hi:Option Int) (n:Nat):(fM lo hi none n).1=((HT.sIx n 0 lo:Nat):Int)∧(fM lo hi none n).2.1=((HT.sIx n n hi:Nat):Int)∧(fM lo hi none n).2.2=1:=by
 refine ⟨?_,?_,rfl⟩
 ·cases lo with
  | none=>simp [fM,HT.sIx]
  | some i =>
   simp only [fM,HT.sIx,kl,show (1:Int) > 0 by decide,if_true]
   by_cases h:i < 0
   ·simp only [h,if_true] <;> omega
   ·simp only [h,if_false] <;> omega
 ·cases hi with
  | none=>simp [fM,HT.sIx]
  | some i =>
   simp only [fM,HT.sIx,kl,show (1:Int) > 0 by decide,if_true]
   by_cases h:i < 0
   ·simp only [h,if_true] <;> omega
   ·simp only [h,if_false] <;> omega
theorem vN (its:List af) (lo hi:Option Int):slicePick its.toArray lo hi none=((its.drop (HT.sIx its.length 0 lo)).take (HT.sIx its.length its.length hi - HT.sIx its.length 0 lo)).toArray:=by
 obtain ⟨h1,h2,h3⟩:=xH lo hi its.toArray.size
 unfold slicePick
 rw [h1,h2,h3]
 simp only [sliceRange_one,pick_run,aU] <;> rfl
def rSlL (K:aa):V→Option Int→Option Int→Hp→VK→Prop:=fun x lo hi H Q=>∃ a xs,x=.ref a∧SqL K H a xs∧∀ p,H p=none→Q (.ref p) (upd H p (.lst (Bo xs lo hi)))
theorem sl_list:SlR X (rSlL X.K):=by
 intro pins s σ H x v vl vu lo hi sl Q I rx hs pl pu h
 obtain ⟨a,xs,rfl,hx,q⟩:=h
 cases rx
 obtain ⟨its,r,ht,hz⟩:=I.list hx
 have hlen:=r.length
 refine ⟨"list",_,slot_list_getitem.lookup,ht.isList.typeIs,?_⟩
 refine wpAny_getItem_list_slice ht.isList hs pl pu .none (by simp) ?_ (by rw [aU] <;> omega)
 rw [vN,← hlen]
 refine ⟨.ref s.heap.objs.size,_,I.laid (t':=s.toks) (o:=.lst (Bo xs lo hi)) (fun b ob q=>ax _ q) (aC _) ?_,rfl,q _ (I.hok.fresh (aC _))⟩
 exact ⟨aN (ua xs lo hi) hz,_,0,(r.drop (HT.sIx xs.length 0 lo)).take (HT.sIx xs.length xs.length hi - HT.sIx xs.length 0 lo),bg _ rfl⟩
def pU:V→Bool
 | .non=>true
 | .bl _=>true
 | .int _=>true
 | .str _=>true
 | _=>false
def eqV:V→V→Bool
 | .non,.non=>true
 | .bl a,.bl b=>a == b
 | .bl a,.int b=>(if a then 1 else 0) == b
 | .int a,.bl b=>a == (if b then 1 else 0)
 | .int a,.int b=>a == b
 | .str a,.str b=>a == b
 | _,_=>false
theorem EX {A:bH}{s:al}{y x:V}{u v:af} (ry:RelV y u) (rx:RelV x v) (fy:pU y=true) (fx:pU x=true):j8 A s u v (eqV y x):=by
 cases y with
 | non =>
  cases ry
  cases x with
  | non=>cases rx;exact SeqAt.EqAt.same _
  | bl b=>cases rx;exact SeqAt.EqAt.none_bool b
  | int b=>obtain ⟨t,rfl⟩:=rx;exact SeqAt.EqAt.none_int b t
  | str b=>obtain ⟨t,rfl⟩:=rx;exact SeqAt.EqAt.none_str b t
  | _=>exact absurd (show false=true from fx) a9
 | bl a =>
  cases ry
  cases x with
  | non=>cases rx;exact SeqAt.EqAt.bool_none a
  | bl b=>cases rx;exact SeqAt.EqAt.bool_bool a b
  | int b=>obtain ⟨t,rfl⟩:=rx;exact SeqAt.EqAt.bool_int a b t
  | str b=>obtain ⟨t,rfl⟩:=rx;exact SeqAt.EqAt.bool_str a b t
  | _=>exact absurd (show false=true from fx) a9
 | int a =>
  obtain ⟨t',rfl⟩:=ry
  cases x with
  | non=>cases rx;exact SeqAt.EqAt.int_none a t'
  | bl b=>cases rx;exact SeqAt.EqAt.int_bool a t' b
  | int b=>obtain ⟨t,rfl⟩:=rx;exact SeqAt.EqAt.int_int a t' b t
  | str b=>obtain ⟨t,rfl⟩:=rx;exact jl a t' b t
  | _=>exact absurd (show false=true from fx) a9
 | str a =>
  obtain ⟨t',rfl⟩:=ry
  cases x with
  | non=>cases rx;exact SeqAt.EqAt.str_none a t'
  | bl b=>cases rx;exact SeqAt.EqAt.str_bool a t' b
  | int b=>obtain ⟨t,rfl⟩:=rx;exact jk a t' b t
  | str b=>obtain ⟨t,rfl⟩:=rx;exact SeqAt.EqAt.str_str a t' b t
  | _=>exact absurd (show false=true from fx) a9
 | _=>exact absurd (show false=true from fy) a9
def eqU (x:V) (u:af):Bool:=match u with
 | .none=>eqV .non x
 | .bool b=>eqV (.bl b) x
 | .int i _=>eqV (.int i) x
 | .str z _=>eqV (.str z) x
 | _=>false
theorem EW {x y:V}{u:af} (r:RelV y u) (f:pU y=true):eqU x u=eqV y x:=by
 cases y with
 | non=>cases r;rfl
 | bl b=>cases r;rfl
 | int i=>obtain ⟨t,rfl⟩:=r;rfl
 | str z=>obtain ⟨t,rfl⟩:=r;rfl
 | _=>exact absurd (show false=true from f) a9
theorem tD {x:V}:∀ {xs:List V}{us:List af},Vals xs us→xs.all pU=true→us.any (eqU x)=xs.any fun y=>eqV y x
 | _,_,.nil,_=>rfl
 | y::xs,u::us,.cons r t,f=>by
  rw [ia,bY] at f
  rw [eo,eo,EW r f.1,tD t f.2]
theorem qJ {A:bH}{s:al}{x:V}{v:af} (rx:RelV x v) (fx:pU x=true):∀ {xs:List V}{us:List af},Vals xs us→xs.all pU=true→∀ u∈us,j8 A s u v (eqU x u)
 | _,_,.nil,_=>fun u hu=>by cases hu
 | y::xs,u::us,.cons r t,f=>fun u' hu=>by
  rw [ia,bY] at f
  rcases aj.mp hu with rfl | hu
  ·rw [EW r f.1];exact EX r rx f.1 fx
  ·exact qJ rx fx t f.2 u' hu
def inV (x:V) (xs:List V):Bool:=xs.any fun y=>eqV y x
def rIn (K:aa) (neg:Bool):R2:=fun x y H Q=>∃ p xs,y=.ref p∧(SqL K H p xs∨SqT K H p xs)∧pU x=true∧xs.all pU=true∧Q (.bl (if neg then !inV x xs else inV x xs)) H
theorem BY:OpR X (bP .In) (rIn X.K false):=by
 intro pins s σ H x y v u Q I rx ry h
 obtain ⟨p,xs,rfl,hq,fx,fs,q⟩:=h
 cases ry
 rcases hq with hq | hq
 ·obtain ⟨its,r,pl,hz⟩:=I.list hq
  refine SeqAt.in_listAt (eqU x) pl.isList (fun w hw=>qJ rx fx r fs w (by simpa using hw)) ⟨.bl _,H,I,rfl,?_⟩
  rw [show its.toArray.any (eqU x)=its.any (eqU x) by simp,tD r fs]
  exact q
 ·obtain ⟨its,r,pl,hz⟩:=I.tuple hq
  refine SeqAt.in_tupleAt (eqU x) pl (fun w hw=>qJ rx fx r fs w (by simpa using hw)) ⟨.bl _,H,I,rfl,?_⟩
  rw [show its.toArray.any (eqU x)=its.any (eqU x) by simp,tD r fs]
  exact q
theorem xM:OpR X (bP .NotIn) (rIn X.K true):=by
 intro pins s σ H x y v u Q I rx ry h
 obtain ⟨p,xs,rfl,hq,fx,fs,q⟩:=h
 cases ry
 rcases hq with hq | hq
 ·obtain ⟨its,r,pl,hz⟩:=I.list hq
  refine SeqAt.notIn_listAt (eqU x) pl.isList (fun w hw=>qJ rx fx r fs w (by simpa using hw)) ⟨.bl _,H,I,rfl,?_⟩
  rw [show its.toArray.any (eqU x)=its.any (eqU x) by simp,tD r fs]
  exact q
 ·obtain ⟨its,r,pl,hz⟩:=I.tuple hq
  refine SeqAt.notIn_tupleAt (eqU x) pl (fun w hw=>qJ rx fx r fs w (by simpa using hw)) ⟨.bl _,H,I,rfl,?_⟩
  rw [show its.toArray.any (eqU x)=its.any (eqU x) by simp,tD r fs]
  exact q
theorem call_len_seq:CallR X (.builtin "len") (fun xs H Q=>∃ p ys,xs=[.ref p]∧(SqL X.K H p ys∨SqT X.K H p ys)∧Q (.int ys.length) H):=by
 intro pins s σ H xs us Q I r h
 obtain ⟨p,ys,rfl,hq,q⟩:=h
 obtain ⟨u,rfl,rx⟩:=oW r
 cases rx
 have hn:=uq
 rcases hq with hq | hq
 ·obtain ⟨its,r',pl,hz⟩:=I.list hq
  have hlen:=r'.length
  exact Calls.call_len_list pl.isList (by simp only [aU] <;> omega) ⟨.int ys.length,H,I.tok _,⟨s.toks+1,by rw [aU,hlen]⟩,q⟩
 ·obtain ⟨its,r',pl,hz⟩:=I.tuple hq
  have hlen:=r'.length
  exact len_tuple pl (by simp only [aU] <;> omega) ⟨.int ys.length,H,I.tok _,⟨s.toks+1,by rw [aU,hlen]⟩,q⟩
theorem call_len_str:CallR X (.builtin "len") (fun xs H Q=>∃ z,xs=[.str z]∧z.length≤aP∧Q (.int z.length) H):=by
 intro pins s σ H xs us Q I r h
 obtain ⟨z,rfl,hz,q⟩:=h
 obtain ⟨u,rfl,t,rfl⟩:=oW r
 have hn:=uq
 exact len_str (by omega) ⟨.int z.length,H,I.tok _,⟨_,rfl⟩,q⟩
theorem CallR.or {f:af}{r r':List V→Hp→VK→Prop} (h:CallR X f r) (h':CallR X f r'):CallR X f (fun xs H Q=>r xs H Q∨r' xs H Q):=by
 intro pins s σ H xs us Q I rs q
 rcases q with q | q
 ·exact h pins s σ H xs us Q I rs q
 ·exact h' pins s σ H xs us Q I rs q
theorem xU:CallR X (.type "list") (fun xs H Q=>∃ p ys,xs=[.ref p]∧(SqL X.K H p ys∨SqT X.K H p ys)∧∀ l,H l=none→Q (.ref l) (upd H l (.lst ys))):=by
 intro pins s σ H xs us Q I r h
 obtain ⟨p,ys,rfl,hq,q⟩:=h
 obtain ⟨u,rfl,rx⟩:=oW r
 cases rx
 have fin:∀ (its:List af),Vals ys its→ys.length≤aP→∀ (h':bK) (c':Nat),(∀ b o',s.heap.get? b=some o'→h'.get? b=some o') →
   h'.get? s.heap.objs.size=some { cls:=.type "list",dict:=none,data:=.seq its.toArray c',slots:=#[] }→EP X pins σ Q (.ref s.heap.objs.size) { s with heap:=h' }:=fun its r' hz h' c' kp e =>
  ⟨.ref s.heap.objs.size,_,I.laid (t':=s.toks) kp (aC _) (show ObjOk X.prog X.w _ h' _ (.lst ys) from ⟨hz,its,c',r',e⟩),rfl,q _ (I.hok.fresh (aC _))⟩
 rcases hq with hq | hq
 ·obtain ⟨its,r',pl,hz⟩:=I.list hq
  have hlen:=r'.length
  obtain ⟨o,ho,hc,n,hd⟩:=pl.isList
  exact call_list_seq p (.inl rfl) ho hc hd (fun h' c' kp e=>fin its r' hz h' c' kp e) (by simp only [aU] <;> omega)
 ·obtain ⟨its,r',pl,hz⟩:=I.tuple hq
  have hlen:=r'.length
  obtain ⟨o,ho,hc,n,hd⟩:=pl
  exact call_list_seq p (.inr rfl) ho hc hd (fun h' c' kp e=>fin its r' hz h' c' kp e) (by simp only [aU] <;> omega)
theorem wq:CallR X (.type "tuple") (fun xs H Q=>∃ p ys,xs=[.ref p]∧((SqL X.K H p ys∧∀ l,H l=none→Q (.ref l) (upd H l (.tup ys)))∨(SqT X.K H p ys∧Q (.ref p) H))):=by
 intro pins s σ H xs us Q I r h
 obtain ⟨p,ys,rfl,h⟩:=h
 obtain ⟨u,rfl,rx⟩:=oW r
 cases rx
 rcases h with ⟨hq,q⟩ | ⟨hq,q⟩
 ·obtain ⟨its,r',pl,hz⟩:=I.list hq
  have hlen:=r'.length
  refine call_tuple_list pl.isList (fun h' kp=>?_) (by simp only [aU] <;> omega)
  have I1:Inv X pins σ H { s with heap:=h' }:=I.kept (t':=s.toks) kp
  have I2:Inv X pins σ (upd H h'.objs.size (.tup ys)) { s with heap:=h'.push { cls:=.type "tuple",data:=.seq its.toArray } } :=
   I1.laid (t':=s.toks) (fun b o e=>ax _ e) (aC _) (show ObjOk X.prog X.w _ _ _ (.tup ys) from ⟨hz,its,r',IsTup.new _ _⟩)
  exact ⟨.ref h'.objs.size,_,I2,rfl,q _ (I1.hok.fresh (aC _))⟩
 ·obtain ⟨its,r',pl,hz⟩:=I.tuple hq
  exact call_tuple_same pl ⟨.ref p,H,I,rfl,q⟩
def tyV (K:aa) (T:String) (x:V) (H:Hp):Prop:=match x with
 | .str _=>T="str"
 | .int _=>T="int"
 | .ref p=>(T="list"∧∃ xs,SqL K H p xs)∨(T="tuple"∧∃ o,K.lookup p=some o∧o.cls=.type "tuple"∧o.dict=none) ∨
   (T="dict"∧((∃ kvs,H p=some (.dK kvs))∨∃ kvs,H p=some (.dT kvs)))∨(T="set"∧∃ S n,H p=some (.set S n))
 | _=>False
theorem Hb {pins:List (ae×Obj)}{σ:St}{H:Hp}{s:al}{T:String}{x:V}{v:af} (I:Inv X pins σ H s) (r:RelV x v) (ty:tyV X.K T x H) :
  s.TypeIs v T∧∀ a,v=.ref a→∃ ob,s.heap.get? a=some ob∧ob.dict=none:=by
 cases x with
 | str z =>
  obtain ⟨t,rfl⟩:=r
  cases (show T="str" from ty)
  exact ⟨typeIs_str s z t,fun _ e=>nomatch e⟩
 | int i =>
  obtain ⟨t,rfl⟩:=r
  cases (show T="int" from ty)
  exact ⟨typeIs_int s i t,fun _ e=>nomatch e⟩
 | ref p =>
  cases r
  rcases ty with ⟨rfl,xs,hq⟩ | ⟨rfl,o,hk,hc,hd⟩ | ⟨rfl,hk⟩ | ⟨rfl,S,n,hk⟩
  ·obtain ⟨its,_,pl,_⟩:=I.list hq
   refine ⟨pl.isList.typeIs,fun a e=>?_⟩
   cases e
   obtain ⟨o,n,e,c,hd,_⟩:=pl
   exact ⟨o,e,hd⟩
  ·refine ⟨⟨o,I.kIn p o hk,hc⟩,fun a e=>?_⟩
   cases e
   exact ⟨o,I.kIn _ o hk,hd⟩
  ·have z:∃ o,s.heap.get? p=some o∧o.ExactDict:=by
    rcases hk with ⟨kvs,hk⟩ | ⟨kvs,hk⟩
    ·obtain ⟨_,_,_,_,o,_,_,e,ex,_⟩:=I.hok p _ hk
     exact ⟨o,e,ex⟩
    ·obtain ⟨_,_,_,_,o,_,_,e,ex,_⟩:=I.hok p _ hk
     exact ⟨o,e,ex⟩
   obtain ⟨o,e,ex⟩:=z
   refine ⟨⟨o,e,ex.1⟩,fun a e2=>?_⟩
   cases e2
   exact ⟨o,e,ex.2.1⟩
  ·obtain ⟨o,_,_,_,e,ex,_⟩:=I.hok p _ hk
   refine ⟨⟨o,e,ex.1⟩,fun a e2=>?_⟩
   cases e2
   exact ⟨o,e,ex.2.1⟩
 | _=>exact bu ty
def tBM (K:aa) (T:String) (r:V→List V→Hp→VK→Prop) (to:TE) (t:TA):TE:=fun σ H Q=>to σ H fun x H1=>tyV K T x H1∧t σ H1 fun xs H2=>r x xs H2 Q
variable {o e:bh}{es:List bh}{to:TE}{t:TA}{name:Str}{apos cpos:Pos}{T id:String}{r:V→List V→Hp→VK→Prop}
theorem GO (pa:PlainAttrs T) (slot:Slot T name id) (hty:typeOf (.builtin id)=pure (.type "method_descriptor")) (hm:MtR X id r) (ho:PE X o to) (ha:PA X (e::es) t)
  (hbase:eS o name X.env (eval o X.env)=eval o X.env:=by rfl)
  (hfew:((cj cpos (aK (e::es) X.env)).all (fun x=>!x.1) && (fu cpos (dg [] X.env)).all (fun x=>x.1.isSome)
   && decide ((e::es).length+([]:List fX).length+(if ([]:List fX).isEmpty then 0 else 1) < 30))=true:=by rfl)
  (hline:(apos.endLine == cpos.line)=true:=by rfl) (hs:aK (e::es) X.env=(false,eval e X.env)::aK es X.env:=by rfl) (hplain:(cj cpos (aK es X.env)).any (·.1)=false:=by rfl) :
  PE X (.Call (.Attribute o name apos) (e::es) [] cpos) (tBM X.K T r to t):=by
 intro pins s σ H Q I h
 refine wpAny_Call_method_late hbase hfew hline rfl (thn (ho pins s σ H _ I h) fun v s1 ⟨x,H1,I1,r1,ty,q1⟩=>?_)
 obtain ⟨h1,h2⟩:=Hb I1 r1 ty
 refine ⟨T,id,pa,slot,hty,h1,h2,?_⟩
 have hA:=ha cpos pins s1 σ H1 _ I1 q1
 rw [hs] at hA ⊢
 refine gz (by show (false || (cj cpos (aK es X.env)).any (·.1))=false;rw [hplain] <;> rfl) (fB ?_)
 exact thn hA fun us s2 ⟨vs,H2,I2,r2,q2⟩=>hm pins s2 σ H2 x vs v us Q I2 r1 r2 q2
end
def MtM (X:Cx) (id:String) (r:V→List V→Hp→VK→Prop):Prop :=
 ∀ (pins:List (ae×Obj)) (s:al) (σ:St) (H:Hp) (x:V) (xs:List V) (v:af) (us:List af) (Q:VK),Inv X pins σ H s→RelV x v→Vals xs us→r x xs H Q →
  ba (model X.prog X.w) X.A (call (.builtin id) (v::us)) (EP X pins σ Q) X.xe s
theorem Vals.one:∀ {x:V}{us:List af},Vals [x] us→∃ u,us=[u]∧RelV x u
 | _,_,.cons r .nil=>⟨_,rfl,r⟩
theorem Vals.rep {xs:List V}{us:List af} (h:Vals xs us):∀ k:Nat,Vals (aY k xs).flatten (aY k us).flatten
 | 0=>.nil
 | k+1=>by
  rw [cM,cM,cY,cY]
  exact Vals.append h (Vals.rep h k)
theorem xk (its:List af):∀ (k:Nat) (acc:List af),
  kq (fun x1 x2=>x1++x2) acc.toArray (aY k its.toArray)=(acc++(aY k its).flatten).toArray
 | 0,acc=>by simp
 | k+1,acc=>by
  have e:acc.toArray++its.toArray=(acc++its).toArray:=by simp
  have e2:(acc++its)++(aY k its).flatten=acc++(aY (k+1) its).flatten:=by
   rw [cM,cY,bZ]
  rw [← e2,← xk its k (acc++its),← e,cM,gK]
section
variable {X:Cx}{pins:List (ae×Obj)}{σ:St}{H:Hp}{s:al}{l b:ae}{xs ys zs:List V}
theorem Inv.lset {its its':List af}{n:Nat}{f:Array af→Array af}{t':Nat} (I:Inv X pins σ H s) (hH:H l=some (.lst xs))
  (e:s.heap.get? l=some { cls:=.type "list",data:=.seq its.toArray n }) (hf:f its.toArray=its'.toArray) (hv:Vals ys its') (hz:ys.length≤aP) :
  Inv X pins σ (upd H l (.lst ys)) { s with heap:=s.heap.update l (il f),toks:=t' }:=by
 have q:=PySem.IsL.update e f
 rw [hf] at q
 refine I.write (x:=l) (e:=l) (by rw [hH];exact trivial) (.inl rfl) (fun b' u hb hu=>(jz s.heap (il f) (gn hb)).trans hu) ⟨_,q⟩ ?_
 exact ⟨hz,its',_,hv,q⟩
theorem Inv.lnew {its:List af}{t':Nat} (I:Inv X pins σ H s) (hv:Vals ys its) (hz:ys.length≤aP) :
  Inv X pins σ (upd H s.heap.objs.size (.lst ys)) { s with heap:=s.heap.push { cls:=.type "list",data:=.seq its.toArray },toks:=t' } :=
 I.laid (fun _ _ q=>ax _ q) (aC _) ⟨hz,its,0,hv,bg _ rfl⟩
theorem Inv.fresh (I:Inv X pins σ H s):H s.heap.objs.size=none:=I.hok.fresh (aC _)
theorem Inv.lstM (I:Inv X pins σ H s) (hH:H l=some (.lst xs)):xs.length≤aP∧∃ (its:List af) (n:Nat),Vals xs its∧xs.length=its.length∧s.heap.get? l=some { cls:=.type "list",data:=.seq its.toArray n }:=by
 obtain ⟨z,its,n,r,e⟩:=I.hok l _ hH
 exact ⟨z,its,n,r,r.length,e⟩
theorem D7 {n:Nat} (h:n≤aP):fF n=false:=by
 unfold fF
 exact decide_eq_false (by omega)
def FB:V→List V→Hp→VK→Prop:=fun x vs H Q=>∃ l xs y,x=.ref l∧vs=[y]∧H l=some (.lst xs)∧xs.length < aP∧Q .non (upd H l (.lst (xs++[y])))
theorem wW:MtM X "list.append" FB:=by
 intro pins s σ H x vs v us Q I rx rv h
 obtain ⟨l,xs,y,rfl,rfl,hH,hz,q⟩:=h
 cases rx
 obtain ⟨u,rfl,ru⟩:=rv.one
 obtain ⟨z,its,n,r,hl,e⟩:=I.lstM hH
 refine call_meets jO ⟨_,e,rfl⟩ F.entry_list_append (F.args_list_append_2 _ _) (PySem.list_append l its.toArray n u (by rw [aU];omega)) ⟨e,?_⟩
 refine ⟨.non,_,I.lset (its':=its++[u]) hH e (by simp) (r.append (.cons ru .nil)) ?_,rfl,q⟩
 rw [aT,gM]
 omega
def IJ:R2:=fun x y H Q=>∃ l k xs,x=.ref l∧y=.int k∧H l=some (.lst xs)∧-(2 ^ 63)≤k∧k < 2 ^ 63∧xs.length * k.toNat≤aP ∧
 ∀ p,H p=none→Q (.ref p) (upd H p (.lst (aY k.toNat xs).flatten))
theorem F2 {α:Type} (xs:List α) (k:Nat):(aY k xs).flatten.length=k * xs.length:=by
 induction k with
 | zero=>simp
 | succ k ih=>rw [cM,cY,aT,ih,Nat.succ_mul,Nat.add_comm]
theorem HJ:OpR X (dR .Mult) IJ:=by
 intro pins s σ H x y v u Q I rx ry h
 obtain ⟨l,k,xs,rfl,rfl,hH,h1,h2,hz,q⟩:=h
 cases rx
 obtain ⟨t,rfl⟩:=ry
 obtain ⟨z,its,n,r,hl,e⟩:=I.lstM hH
 have hlen:its.toArray.size * k.toNat≤aP:=by rw [aU,← hl];exact hz
 have hcap:¬ its.toArray.size * k.toNat > (2 ^ 63 - 1) / 8:=by
  have:(aP:Nat)≤(2 ^ 63 - 1) / 8:=by decide
  omega
 have hfit:¬ (!Builtin.List.listFitsIndex k)=true:=by
  rw [fitsIndex_both h1 h2]
  exact a9
 have hlong:¬ fF (its.toArray.size * k.toNat)=true:=by
  rw [D7 hlen]
  exact a9
 have hnew:kq (fun x1 x2=>x1++x2) #[] (aY (if its.toArray.isEmpty=true then 0 else k.toNat) its.toArray)=(aY k.toNat its).flatten.toArray:=by
  have f0:∀ m:Nat,kq (fun x1 x2=>x1++x2) #[] (aY m its.toArray)=(aY m its).flatten.toArray:=fun m=>by
   have:=xk its m []
   rw [cW] at this
   exact this
  rw [f0]
  cases its with
  | nil=>simp
  | cons a r'=>rw [if_neg (by simp)]
 refine wpAny_binaryOp_repeat_ref (T:="list") (U:="int") (by decide) ⟨_,e,rfl⟩ (fun s'=>typeIs_int s' k t) noFill_list_mul F.fills_int_mul F.slot_int_rmul repeat_list F.slot_int_index.lookup
  (call_meets F.slot_int_rmul (typeIs_int s k t) F.entry_int_rmul (F.args_int_rmul_2 _ _) (int___rmul___int_list k t l its.toArray n)
   ⟨e,rfl,⟨_,e,rfl⟩,call_meets F.slot_list_mul ⟨_,e,rfl⟩ F.entry_list_mul (F.args_list_mul_2 _ _) (AutoListH.list___mul___list_int_3 l its.toArray n k t hfit hcap hlong) ⟨e,?_⟩⟩)
 rw [hnew]
 exact ⟨.ref _,_,I.lnew (t':=s.toks) (r.rep k.toNat) (by rw [F2,Nat.mul_comm];exact hz),rfl,q _ I.fresh⟩
end
section
variable {prog:aV}{w:bz}{A:bH}{E:af→al→Prop}{s:al}
set_option maxRecDepth 100000 in
end
section
variable {X:Cx}
end
open PySem PySem.Spec PyProof.Rows
section
variable {κ:Type} [DecidableEq κ]
def nB (kvs:List (κ×V)) (k:κ):Option V:=(kvs.find? fun kv=>decide (kv.1=k)).map (·.2)
def qi (kvs:List (κ×V)) (k:κ) (v:V):List (κ×V) :=
 if (kvs.any fun kv=>decide (kv.1=k))=true then kvs.map (fun kv=>if kv.1=k then (kv.1,v) else kv) else kvs++[(k,v)]
def wA (kvs:List (κ×V)) (k:κ):List (κ×V):=kvs.filter fun kv=>decide (kv.1≠k)
theorem sB {p:κ×V}{r:List (κ×V)}{k:κ} (e:p.1=k):nB (p::r) k=some p.2:=by simp [nB,bI,e]
theorem sC {p:κ×V}{r:List (κ×V)}{k:κ} (e:¬ p.1=k):nB (p::r) k=nB r k:=by simp [nB,bI,e]
theorem vy (k:κ):∀ kvs:List (κ×V),(kvs.any fun kv=>decide (kv.1=k))=(nB kvs k).isSome
 | []=>rfl
 | p::r=>by
  rw [eo]
  by_cases e:p.1=k
  ·simp only [sB e,decide_eq_true e,Bool.true_or,Option.isSome_some]
  ·rw [sC e,decide_eq_false e,gi];exact vy k r
theorem qy (kvs:List (κ×V)) (k:κ) (v:V):(qi kvs k v).length≤kvs.length+1:=by
 unfold qi
 split
 ·rw [aq];omega
 ·rw [aT,ap,aH];omega
theorem qI {kvs:List (κ×V)}{k:κ} (v:V) (h:nB kvs k=none):qi kvs k v=kvs++[(k,v)]:=by
 unfold qi
 rw [vy,h]
 exact if_neg (by decide)
theorem RelO.isSome_eq {o:Option V}{u:Option af} (r:RelO o u):o.isSome=u.isSome:=by
 cases o with
 | none=>cases u with
  | none=>rfl
  | some _=>exact (show False from r).elim
 | some _=>cases u with
  | none=>exact (show False from r).elim
  | some _=>rfl
theorem RelO.getD {o:Option V}{u:Option af}{d:V}{d':af} (r:RelO o u) (rd:RelV d d'):RelV (o.getD d) (u.getD d'):=by
 cases o with
 | none=>cases u with
  | none=>exact rd
  | some _=>exact (show False from r).elim
 | some _=>cases u with
  | none=>exact (show False from r).elim
  | some _=>exact r
theorem KV.val {kvs:List (κ×V)}{vs:List (κ×af)} (r:KV kvs vs) (k:κ):RelO (nB kvs k) (im vs k):=by
 unfold KV at r
 induction r with
 | nil=>exact cJ
 | @cons p q ps qs h t ih =>
  obtain ⟨h1,h2⟩:=h
  by_cases e:p.1=k
  ·have e':q.1=k:=h1.symm.trans e
   have b:im (q::qs) k=some q.2:=by simp [im,bI,e']
   rw [sB e,b];exact h2
  ·have e':¬ q.1=k:=fun z=>e (h1.trans z)
   have b:im (q::qs) k=im qs k:=by simp [im,bI,e']
   rw [sC e,b];exact ih
theorem KV.any {kvs:List (κ×V)}{vs:List (κ×af)} (r:KV kvs vs) (k:κ):(kvs.any fun kv=>decide (kv.1=k))=vs.any fun kv=>decide (kv.1=k):=by
 unfold KV at r
 induction r with
 | nil=>rfl
 | cons h t ih=>rw [eo,eo,ih,h.1]
theorem KV.repl {kvs:List (κ×V)}{vs:List (κ×af)} (r:KV kvs vs) (k:κ) {y:V}{u:af} (ry:RelV y u) :
  KV (kvs.map fun kv=>if kv.1=k then (kv.1,y) else kv) (vs.map fun kv=>if kv.1=k then (kv.1,u) else kv):=by
 unfold KV at r ⊢
 induction r with
 | nil=>exact .nil
 | @cons p q ps qs h t ih =>
  rw [aD,aD]
  refine .cons ?_ ih
  obtain ⟨h1,h2⟩:=h
  by_cases e:p.1=k
  ·rw [if_pos e,if_pos (h1.symm.trans e)];exact ⟨h1,ry⟩
  ·rw [if_neg e,if_neg (fun z=>e (h1.trans z))];exact ⟨h1,h2⟩
theorem KV.put {kvs:List (κ×V)}{vs:List (κ×af)} (r:KV kvs vs) (k:κ) {y:V}{u:af} (ry:RelV y u):KV (qi kvs k y) (stored vs k u):=by
 unfold qi stored
 rw [r.any k]
 by_cases e:(vs.any fun kv=>decide (kv.1=k))=true
 ·rw [if_pos e,if_pos e];exact r.repl k ry
 ·rw [if_neg e,if_neg e];exact jy r ⟨rfl,ry⟩
theorem KV.drop {kvs:List (κ×V)}{vs:List (κ×af)} (r:KV kvs vs) (k:κ):KV (wA kvs k) (without vs k):=by
 unfold KV at r ⊢
 unfold wA without
 induction r with
 | nil=>exact .nil
 | @cons p q ps qs h t ih =>
  obtain ⟨h1,h2⟩:=h
  rw [iK,iK]
  by_cases e:p.1=k
  ·have a:¬ decide (p.1≠k)=true:=by simp [e]
   have b:¬ decide (q.1≠k)=true:=by simp [h1.symm.trans e]
   rw [if_neg a,if_neg b];exact ih
  ·have e':¬ q.1=k:=fun z=>e (h1.trans z)
   have a:decide (p.1≠k)=true:=by simp [e]
   have b:decide (q.1≠k)=true:=by simp [e']
   rw [if_pos a,if_pos b];exact .cons ⟨h1,h2⟩ ih
theorem KV.keys {kvs:List (κ×V)}{vs:List (κ×af)} (r:KV kvs vs):kvs.map (·.1)=vs.map (·.1):=by
 unfold KV at r
 induction r with
 | nil=>rfl
 | cons h t ih=>rw [aD,aD,ih,h.1]
theorem KV.length {kvs:List (κ×V)}{vs:List (κ×af)} (r:KV kvs vs):kvs.length=vs.length:=i8 r
theorem El (kvs:List (κ×V)) (k:κ):(wA kvs k).length≤kvs.length:=cR _ _
end
theorem uZ {P:aV}{w:bz}{k:Key}{u:af} (r:RelV (kV k) u):(lj P w).is k u=true:=by
 cases k with
 | inl i=>obtain ⟨t,e⟩:=(show ∃ t,u=gQ i t from r);subst e;exact yR P w i t
 | inr x=>obtain ⟨t,e⟩:=(show ∃ t,u=gk x t from r);subst e;exact yQ P w x t
theorem w4 {P:aV}{w:bz}:∀ {ks:List Key}{us:List af},Vals (ks.map kV) us→ItemsAre (lj P w) ks us
 | [],_,r=>by rw [cy] at r;cases r;exact .nil
 | k::ks,_,r=>by
  rw [aD] at r
  cases r with
  | cons h t=>exact .cons (uZ h) (w4 t)
abbrev KT (H:Hp):List (List Key×V)→List (List Key×ae×af)→Prop:=fI fun p q=>p.1=q.1∧H q.2.1=some (.tup (p.1.map kV))∧RelV p.2 q.2.2
theorem KT.val {H:Hp}{kvs:List (List Key×V)}{xs:List (List Key×ae×af)} (r:KT H kvs xs) (k:List Key):RelO (nB kvs k) ((jI xs k).map (·.2)):=by
 induction r with
 | nil=>exact cJ
 | @cons p q ps qs h t ih =>
  obtain ⟨h1,_,h2⟩:=h
  by_cases e:p.1=k
  ·have e':q.1=k:=h1.symm.trans e
   have b:jI (q::qs) k=some q.2:=by simp [jI,bI,e']
   rw [sB e,b];exact h2
  ·have e':¬ q.1=k:=fun z=>e (h1.trans z)
   have b:jI (q::qs) k=jI qs k:=by simp [jI,bI,e']
   rw [sC e,b];exact ih
theorem KT.repl {H:Hp}{kvs:List (List Key×V)}{xs:List (List Key×ae×af)} (r:KT H kvs xs) (k:List Key) {y:V}{u:af} (ry:RelV y u) :
  KT H (kvs.map fun kv=>if kv.1=k then (kv.1,y) else kv) (xs.map (putAt k u)):=by
 induction r with
 | nil=>exact .nil
 | @cons p q ps qs h t ih =>
  rw [aD,aD]
  refine .cons ?_ ih
  obtain ⟨h1,h2,h3⟩:=h
  unfold putAt
  by_cases e:p.1=k
  ·rw [if_pos e,if_pos (h1.symm.trans e)];exact ⟨h1,h2,ry⟩
  ·rw [if_neg e,if_neg (fun z=>e (h1.trans z))];exact ⟨h1,h2,h3⟩
theorem KT.put {H:Hp}{kvs:List (List Key×V)}{xs:List (List Key×ae×af)} (r:KT H kvs xs) (k:List Key) {b:ae}{y:V}{u:af} (hb:H b=some (.tup (k.map kV))) (ry:RelV y u) :
  KT H (qi kvs k y) (storedH xs k b u):=by
 have e:(kvs.any fun kv=>decide (kv.1=k))=(jI xs k).isSome:=by
  rw [vy,(r.val k).isSome_eq,cV]
 unfold qi storedH
 rw [e]
 by_cases q:(jI xs k).isSome=true
 ·rw [if_pos q,if_pos q];exact r.repl k ry
 ·rw [if_neg q,if_neg q];exact jy r ⟨rfl,hb,ry⟩
theorem KT.keeps {H H':Hp}{kvs:List (List Key×V)}{xs:List (List Key×ae×af)} (r:KT H kvs xs) (ht:∀ b ys,H b=some (.tup ys)→H' b=some (.tup ys)):KT H' kvs xs :=
 fI.mapP r fun _ _ z=>⟨z.1,ht _ _ z.2.1,z.2.2⟩
section
variable {P:aV}{w:bz}{H:Hp}{h:bK}{a:ae}
theorem GI {u:HO} (ok:HOk P w H h) (e:Rd H a u):ObjOk P w H h a u:=e.ok ok
theorem sM {kvs:List (Key×V)} (ok:HOk P w H h) (e:Rd H a (.dK kvs)):kvs.length≤aP∧(a == en)=false∧∃ vs,KV kvs vs∧h.DictOf (lj P w) a vs :=
 show ObjOk P w H h a (.dK kvs) from GI ok e
theorem Fe {kvs:List (Key×V)} (ok:HOk P w H h) (e:H a=some (.dK kvs)):kvs.length≤aP∧(a == en)=false∧∃ vs,KV kvs vs∧h.DictOf (lj P w) a vs:=sM ok (.inl e)
theorem ut {ks:List Key} (ok:HOk P w H h) (e:H a=some (.tup (ks.map kV))):(io (lj P w)).is h ks a:=by
 obtain ⟨_,its,r,o,h1,h2,n,h3⟩:=(show ObjOk P w H h a (.tup (ks.map kV)) from ok a _ e)
 exact ⟨o,its.toArray,n,h1,h2,h3,by simpa using w4 r⟩
theorem wz {kvs:List (List Key×V)} (ok:HOk P w H h) (e:Rd H a (.dT kvs)):kvs.length≤aP∧(a == en)=false ∧
  ∃ xs,KT H kvs xs∧h.DictOfH (io (lj P w)) a xs:=by
 obtain ⟨z,y,xs,r,o,es,ep,h1,h2,h3,h4,h5⟩:=(show ObjOk P w H h a (.dT kvs) from GI ok e)
 refine ⟨z,y,xs,r,o,es,ep,h1,h2,h3,h4,fun x hx=>?_,h5⟩
 have all:∀ {l:List (List Key×V)}{m:List (List Key×ae×af)},KT H l m→∀ x∈m,(io (lj P w)).is h x.1 x.2.1:=by
  intro l m q
  induction q with
  | nil=>intro x hx;exact nomatch hx
  | @cons p q ps qs hq t ih =>
   intro x hx
   rcases aj.mp hx with e | hx
   ·subst e
    exact ut ok (by rw [← hq.1];exact hq.2.1)
   ·exact ih x hx
 exact all r x hx
theorem dt_of {kvs:List (List Key×V)} (ok:HOk P w H h) (e:H a=some (.dT kvs)):kvs.length≤aP∧(a == en)=false ∧
  ∃ xs,KT H kvs xs∧h.DictOfH (io (lj P w)) a xs:=wz ok (.inl e)
end
def DGet (H:Hp) (a:ae) (y:V) (r:Option V):Prop :=
 (∃ kvs k,Rd H a (.dK kvs)∧y=kV k∧r=nB kvs k)∨∃ kvs k b,Rd H a (.dT kvs)∧y=.ref b∧H b=some (.tup (k.map kV))∧r=nB kvs k
def DPut (H:Hp) (a:ae) (y v:V) (H':Hp):Prop :=
 (∃ kvs k,H a=some (.dK kvs)∧y=kV k∧kvs.length < aP∧H'=upd H a (.dK (qi kvs k v))) ∨
 ∃ kvs k b,H a=some (.dT kvs)∧y=.ref b∧H b=some (.tup (k.map kV))∧kvs.length < aP∧H'=upd H a (.dT (qi kvs k v))
theorem DGet.k {H:Hp}{a:ae}{kvs:List (Key×V)}{k:Key} (e:H a=some (.dK kvs)):DGet H a (kV k) (nB kvs k):=.inl ⟨kvs,k,.inl e,rfl,rfl⟩
theorem DPut.k {H:Hp}{a:ae}{kvs:List (Key×V)}{k:Key}{v:V} (e:H a=some (.dK kvs)) (hl:kvs.length < aP):DPut H a (kV k) v (upd H a (.dK (qi kvs k v))):=.inl ⟨kvs,k,e,rfl,hl,rfl⟩
section
variable {X:Cx}{pins:List (ae×Obj)}{σ:St}{H:Hp}{s:al}{a:ae}{y v:V}{u r:af}{o:Option V}{A:bH}{E:af→al→Prop}
theorem Inv.big (I:Inv X pins σ H s):en < s.heap.objs.size:=by
 have h:au < s.heap.objs.size:=(I.mod.glob.keeps I.bk).lt
 exact e9 (by decide) h
theorem xq {Q:af→al→Prop} (hu:A.units+1 < dC) (I:Inv X pins σ H s) (g:DGet H a y (some v)) (ry:RelV y u) (h:∀ w' s',Inv X pins σ H s'→RelV v w'→Q w' s') :
  ba (model X.prog X.w) A (ip (.ref a) u) Q E s:=by
 rcases g with ⟨kvs,k,e,ey,l⟩ | ⟨kvs,k,b,e,ey,eb,l⟩
 ·subst ey
  obtain ⟨z,hd,vs,rel,dd⟩:=sM I.hok e
  obtain ⟨w',hw,rw'⟩:=RelO.some_of (v:=v) (o:=im vs k) (by rw [l];exact rel.val k)
  exact wpAny_getItem_of (uZ ry) dd.mapOf hw (h w' _ (I.tok _) rw')
 ·subst ey
  cases (show u=bo b from ry)
  obtain ⟨z,hd,xs,rel,dd⟩:=wz I.hok e
  obtain ⟨w',hw,rw'⟩:=RelO.some_of (v:=v) (o:=(jI xs k).map (·.2)) (by rw [l];exact rel.val k)
  obtain ⟨p,hp,hp2⟩:=eO.mp hw
  refine wpAny_getItem_heap (eZ hu) (ut I.hok eb) dd hp ?_
  rw [hp2]
  exact h w' _ (I.tok _) rw'
theorem d_in {Q:af→al→Prop} (hu:A.units+1 < dC) (I:Inv X pins σ H s) (g:DGet H a y o) (ry:RelV y u) (h:∀ s',Inv X pins σ H s'→Q (.bool o.isSome) s') :
  ba (model X.prog X.w) A (bP .In u (.ref a)) Q E s:=by
 rcases g with ⟨kvs,k,e,ey,l⟩ | ⟨kvs,k,b,e,ey,eb,l⟩
 ·subst ey
  obtain ⟨z,hd,vs,rel,dd⟩:=sM I.hok e
  refine wpAny_in_of (uZ ry) hd dd.mapOf ?_
  rw [← (rel.val k).isSome_eq,← l]
  exact h _ (I.tok _)
 ·subst ey
  cases (show u=bo b from ry)
  obtain ⟨z,hd,xs,rel,dd⟩:=wz I.hok e
  refine wpAny_in_heap (eZ hu) (ut I.hok eb) hd dd ?_
  have q:=(rel.val k).isSome_eq
  rw [cV] at q
  rw [← q,← l]
  exact h _ (I.tok _)
theorem Gu {Q:af→al→Prop} (hu:A.units+1 < dC) (I:Inv X pins σ H s) (g:DGet H a y o) (ry:RelV y u) (h:∀ s',Inv X pins σ H s'→Q (.bool (!o.isSome)) s') :
  ba (model X.prog X.w) A (bP .NotIn u (.ref a)) Q E s:=by
 rcases g with ⟨kvs,k,e,ey,l⟩ | ⟨kvs,k,b,e,ey,eb,l⟩
 ·subst ey
  obtain ⟨z,hd,vs,rel,dd⟩:=sM I.hok e
  refine wpAny_notIn_of (uZ ry) hd dd.mapOf ?_
  rw [← (rel.val k).isSome_eq,← l]
  exact h _ (I.tok _)
 ·subst ey
  cases (show u=bo b from ry)
  obtain ⟨z,hd,xs,rel,dd⟩:=wz I.hok e
  refine wpAny_notIn_heap (eZ hu) (ut I.hok eb) hd dd ?_
  have q:=(rel.val k).isSome_eq
  rw [cV] at q
  rw [← q,← l]
  exact h _ (I.tok _)
theorem vm {h':bK}{t':Nat}{ob:HO} (I:Inv X pins σ H s) (mu:Mut (H a)) (hs:iu a s.heap h') (he:∃ q,h'.get? a=some q) (new:ObjOk X.prog X.w (upd H a ob) h' a ob) :
  Inv X pins σ (upd H a ob) { s with heap:=h',toks:=t' } :=
 I.write (x:=a) (e:=a) mu (.inl rfl) (fun b q hb z=>(hs.2 b hb).trans z) he new
theorem AS {P:aV}{w:bz}{H':Hp}{h':bK}{kvs:List (Key×V)}{vs:List (Key×af)} (z:kvs.length≤aP) (hd:(a == en)=false) (rel:KV kvs vs) (dd:h'.DictOf (lj P w) a vs) :
  ObjOk P w H' h' a (.dK kvs):=⟨z,hd,vs,rel,dd⟩
theorem xp {H':Hp}{Q:Unit→al→Prop} (hu:A.units+1 < dC) (I:Inv X pins σ H s) (g:DPut H a y v H') (ry:RelV y u) (rv:RelV v r) (h:∀ s',Inv X pins σ H' s'→Q () s') :
  ba (model X.prog X.w) A (setItem (.ref a) u r) Q E s:=by
 rcases g with ⟨kvs,k,e,ey,l,eH⟩ | ⟨kvs,k,b,e,ey,eb,l,eH⟩
 ·subst ey eH
  obtain ⟨z,hd,vs,rel,dd⟩:=Fe I.hok e
  have hz:vs.length≤aP:=by rw [← rel.length];exact z
  have hl:(qi kvs k v).length≤aP:=by have:=qy kvs k v;omega
  refine wpAny_setItem_pairs (hsz:=hz) (uZ ry) dd fun h' dd' hs=>h _ ?_
  have he:∃ q,h'.get? a=some q:=let ⟨q,_,_,hq,_⟩:=dd';⟨q,hq⟩
  exact vm I (by rw [e];exact cJ) hs he (AS hl hd (rel.put k rv) dd')
 ·subst ey eH
  cases (show u=bo b from ry)
  obtain ⟨z,hd,xs,rel,dd⟩:=dt_of I.hok e
  have hz:xs.length≤aP:=by rw [← i8 rel];exact z
  have hl:(qi kvs k v).length≤aP:=by have:=qy kvs k v;omega
  refine wpAny_setItem_heap (hsz:=hz) (eZ hu) (ut I.hok eb) dd fun h' dd' hs=>h _ ?_
  obtain ⟨q,es,ep,hq,h2,h3,h4,_,h5⟩:=dd'
  refine vm I (by rw [e];exact cJ) hs ⟨q,hq⟩ ⟨hl,hd,_,(rel.put k eb rv).keeps fun c ys ec=>?_,q,es,ep,hq,h2,h3,h4,h5⟩
  rw [kA (Ao ec e (fun z=>nomatch z))]
  exact ec
end
section
variable {X:Cx}{pins:List (ae×Obj)}{σ:St}{H:Hp}{s:al}{a:ae}{kvs:List (Key×V)}{k:Key}{u:af}{A:bH}{E:af→al→Prop}
theorem d_pop {v:V}{more:List af}{Q:af→al→Prop} (I:Inv X pins σ H s) (e:H a=some (.dK kvs)) (ry:RelV (kV k) u) (l:nB kvs k=some v) (hm:more=[]∨∃ x,more=[x])
  (h:∀ w' s',Inv X pins σ (upd H a (.dK (wA kvs k))) s'→RelV v w'→Q w' s'):ba (model X.prog X.w) A (call (.builtin "dict.pop") (.ref a::u::more)) Q E s:=by
 obtain ⟨z,hd,vs,rel,dd⟩:=Fe I.hok e
 obtain ⟨w',hw,rw'⟩:=RelO.some_of (v:=v) (o:=im vs k) (by rw [← l];exact rel.val k)
 have hp:(keyPart u).isSome=true:=by
  cases k with
  | inl i=>obtain ⟨t,q⟩:=(show ∃ t,u=gQ i t from ry);subst q;rfl
  | inr x=>obtain ⟨t,q⟩:=(show ∃ t,u=gk x t from ry);subst q;rfl
 have ha:argsOk "dict.pop" ⟨.ref a::u::more,[]⟩:=by
  rcases hm with q | ⟨x,q⟩
  ·subst q;exact PySem.F.args_dict_pop_2 _ _
  ·subst q;exact PySem.F.args_dict_pop_3 _ _ _
 refine call_meetsIn jm dd.typeIs PySem.F.entry_dict_pop ha (meets_dict_pop_there (lj X.prog X.w) a (uZ ry) more hm hp)
  ⟨vs,w',dd,by rw [← rel.length];exact z,hw,fun h' dd' hs=>h w' _ ?_ rw'⟩
 have he:∃ q,h'.get? a=some q:=let ⟨q,_,_,hq,_⟩:=dd';⟨q,hq⟩
 exact vm I (by rw [e];exact cJ) hs he (AS (aN (El kvs k) z) hd (rel.drop k) dd')
theorem G5 {Q:af→al→Prop} (I:Inv X pins σ H s) (e:Rd H a (.dK kvs)) (h:∀ t s',Inv X pins σ H s'→Q (.int kvs.length t) s'):ba (model X.prog X.w) A (call (.builtin "len") [.ref a]) Q E s:=by
 obtain ⟨z,hd,vs,rel,dd⟩:=sM I.hok e
 refine call_len_dict hd dd (by rw [← rel.length];rw [ji] at z;omega) ?_
 rw [← rel.length]
 exact h _ _ (I.tok _)
end
def NoSl (i:bh):Prop:=∀ ov iv,subscripted i false ov iv=operate [ov,iv] (ip ov iv)
theorem Fq {prog:aV}{w:bz}{A:bH}{E:af→al→Prop}{s:al}{env:Env}{value slice:bh}{pos:Pos}{T id:String}{Q:af→al→Prop}
  (hl:typeLookup (.type T) "__getitem__"=pure (some (.builtin id))) (hs:NoSl slice)
  (h:ba (model prog w) A (eval value env) (fun o s₁=>ba (model prog w) A (eval slice env) (fun i s₂=>s₂.TypeIs o T∧ba (model prog w) A (ip o i) Q E s₂) E s₁) E s) :
  ba (model prog w) A (eval (.Subscript value slice pos) env) Q E s:=by
 refine Subscript_ (ce h (fun o s₁ h₁=>ce h₁ (fun i s₂ h₂=>?_) fun _ _ x=>x) fun _ _ x=>x)
 obtain ⟨hT,h₂⟩:=h₂
 unfold iI
 refine aB ?_
 rw [getitemInPython_of_ne hT.not_modules]
 refine aB (wpAny_specialOf hT hl ?_)
 have fin:ba (model prog w) A (subscripted slice false o i) (fun r s₃=>ba (model prog w) A (letTemporaryGo value o r >>= fun _=>pure r) Q E s₃) E s₂:=by
  rw [hs o i]
  exact wpAny_operating (ce h₂ (fun r s₃ h₃=>aB (wpAny_letTemporaryGo (aX h₃))) fun _ _ x=>x)
 first
  | exact aX (aB fin)
  | exact aB (aX (aB fin))
  | exact aB fin
theorem t9 {X:Cx}{pins:List (ae×Obj)}{σ:St}{H:Hp}{s:al}{a:ae}{y:V}{o:Option V} (I:Inv X pins σ H s) (g:DGet H a y o):s.TypeIs (.ref a) "dict":=by
 rcases g with ⟨kvs,k,e,_,_⟩ | ⟨kvs,k,b,e,_,_,_⟩
 ·obtain ⟨_,_,vs,_,dd⟩:=sM I.hok e
  exact dd.typeIs
 ·obtain ⟨_,_,xs,_,dd⟩:=wz I.hok e
  exact dd.typeIs
def tDGet (td ty:TE):TE:=fun σ H Q=>td σ H fun x H1=>ty σ H1 fun y H2=>∃ a v,x=.ref a∧DGet H2 a y (some v)∧Q v H2
def tDIn (ty td:TE):TE:=fun σ H Q=>ty σ H fun y H1=>td σ H1 fun x H2=>∃ a o,x=.ref a∧DGet H2 a y o∧Q (.bl o.isSome) H2
def GH (td ty tv:TE):TS:=fun D σ H=>tv σ H fun v H1=>td σ H1 fun x H2=>ty σ H2 fun y H3=>∃ a H4,x=.ref a∧DPut H3 a y v H4∧D.nx σ H4
section
variable {X:Cx}{o i e value:bh}{pos pos' tpos:Pos}{td ty tv:TE}
theorem qb (hu:X.A.units+1 < dC) (ho:PE X o td) (hi:PE X i ty) (hs:NoSl i):PE X (.Subscript o i pos) (tDGet td ty):=by
 intro pins s σ H Q I h
 refine Fq iP.lookup hs (thn (ho pins s σ H _ I h) fun u s1 ⟨x,H1,I1,rx,q1⟩=>thn (hi pins s1 σ H1 _ I1 q1) fun iv s2 ⟨y,H2,I2,ry,a,v,ex,g,q2⟩=>?_)
 subst ex
 obtain rfl:u=bo a:=rx
 exact ⟨t9 I2 g,xq hu I2 g ry fun w' s3 I3 rw'=>⟨v,H2,I3,rw',q2⟩⟩
theorem EM (hu:X.A.units+1 < dC) (hi:PE X i ty) (ho:PE X o td):PC X .In i o (tDIn ty td):=by
 intro pins s σ H Q I h
 refine thn (hi pins s σ H _ I h) fun iv s1 ⟨y,H1,I1,ry,q1⟩=>thn (ho pins s1 σ H1 _ I1 q1) fun u s2 ⟨x,H2,I2,rx,a,ov,ex,g,q2⟩=>?_
 subst ex
 obtain rfl:u=bo a:=rx
 exact d_in hu I2 g ry fun s3 I3=>⟨.bl ov.isSome,H2,I3,rfl,q2⟩
theorem qa (hu:X.A.units+1 < dC) (ho:PE X o td) (hi:PE X i ty) (hv:PE X value tv) (hs:fe value (some (.Subscript o i pos')) pos.line X.env=pure false) :
  PS X (.Assign [.Subscript o i pos'] value pos) (GH td ty tv):=by
 intro pins s σ H D I h
 refine wpAny_Assign_Subscript (thn (hv pins s σ H _ I h) fun r s1 ⟨v,H1,I1,rv,q1⟩=>thn (ho pins s1 σ H1 _ I1 q1) fun u s2 ⟨x,H2,I2,rx,q2⟩=>thn (hi pins s2 σ H2 _ I2 q2) fun iv s3 ⟨y,H3,I3,ry,a,H4,ex,g,q3⟩=>?_) hs
 subst ex
 obtain rfl:u=bo a:=rx
 exact xp hu I3 g ry rv fun s4 I4=>⟨σ,H4,I4,q3⟩
theorem zF {P:aV}{w:bz}{H:Hp} (h:bK) (hb:en < h.objs.size):ObjOk P w H (h.push { cls:=.type "dict",data:=.dict #[] }) h.objs.size (.dK []) :=
 ⟨bA _,beq_eq_false_iff_ne.mpr (gn (aQ hb)),[],.nil,Heap.DictOf.new h⟩
def Hg:TE:=fun _ H Q=>∀ p,H p=none→Q (.ref p) (upd H p (.dK []))
theorem pe_dnewK:PE X (.Dict [] [] pos) Hg:=fun pins s σ H Q I h =>
 wpAny_Dict_empty ⟨.ref s.heap.objs.size,_,I.laid (a:=s.heap.objs.size) (o:=.dK []) (t':=s.toks) (fun _ _ q=>ax _ q) (aC _) (zF s.heap I.big),rfl,h _ (I.hok.fresh (aC _))⟩
end
def AH:List (TE×TE)→St→Hp→(List (V×V)→Hp→Prop)→Prop
 | [],_,H,Q=>Q [] H
 | (tk,tv)::r,σ,H,Q=>tk σ H fun x H1=>tv σ H1 fun y H2=>AH r σ H2 fun ps H3=>Q ((x,y)::ps) H3
abbrev VV:List (V×V)→List (af×af)→Prop:=fI fun p q=>RelV p.1 q.1∧RelV p.2 q.2
def PPs (X:Cx) (pos:Pos) (keys:List (Option bh)) (values:List bh) (trs:List (TE×TE)):Prop :=
 ∀ (pins:List (ae×Obj)) (s:al) (σ:St) (H:Hp) (Q:List (V×V)→Hp→Prop),Inv X pins σ H s→AH trs σ H Q →
  ba (model X.prog X.w) X.A (evalPairs (pairTrees keys values X.env pos)) (fun vs s'=>∃ ps H',Inv X pins σ H' s'∧VV ps vs∧Q ps H') X.xe s
theorem A7 {X:Cx}{pos:Pos}:PPs X pos [] [] []:=fun pins s σ H Q I h=>pairTrees_nil_walk ⟨[],H,I,.nil,h⟩
theorem zk {X:Cx}{pos:Pos}{k v:bh}{ks:List (Option bh)}{vs:List bh}{tk tv:TE}{trs:List (TE×TE)} (hk:PE X k tk) (hv:PE X v tv) (hr:PPs X pos ks vs trs) :
  PPs X pos (some k::ks) (v::vs) ((tk,tv)::trs):=fun pins s σ H Q I h =>
 pairTrees_cons_walk (thn (hk pins s σ H _ I h) fun u s1 ⟨x,H1,I1,rx,q1⟩=>thn (hv pins s1 σ H1 _ I1 q1) fun w2 s2 ⟨y,H2,I2,ry,q2⟩ =>
  thn (hr pins s2 σ H2 _ I2 q2) fun ws s3 ⟨ps,H3,I3,rel,q3⟩=>⟨(x,y)::ps,H3,I3,.cons ⟨rx,ry⟩ rel,q3⟩)
def wl (kvs more:List (Key×V)):List (Key×V):=more.foldl (fun acc kv=>qi acc kv.1 kv.2) kvs
theorem KV.merge:∀ {more:List (Key×V)}{rs:List (Key×af)}{kvs:List (Key×V)}{vs:List (Key×af)},KV more rs→KV kvs vs→KV (wl kvs more) (merged vs rs):=by
 intro more rs kvs vs r
 unfold KV at r
 induction r generalizing kvs vs with
 | nil=>intro q;exact q
 | @cons p q ps qs h t ih =>
  intro r0
  have e:KV (qi kvs p.1 p.2) (stored vs q.1 q.2):=by
   have:=r0.put p.1 h.2
   rw [← h.1];exact this
  exact ih e
theorem rD:∀ (more kvs:List (Key×V)),(wl kvs more).length≤kvs.length+more.length
 | [],kvs=>by show kvs.length≤kvs.length+0;omega
 | p::r,kvs=>by
  have h1:=rD r (qi kvs p.1 p.2)
  have h2:=qy kvs p.1 p.2
  show (wl (qi kvs p.1 p.2) r).length≤_
  rw [ap];omega
theorem vp {P:aV}{w:bz}:∀ {kvs:List (Key×V)}{ws:List (af×af)},VV (kvs.map fun kv=>(kV kv.1,kv.2)) ws→∃ rs,Carries (lj P w) ws rs∧KV kvs rs
 | [],_,r=>by rw [cy] at r;cases r;exact ⟨[],cJ,.nil⟩
 | p::kvs,_,r=>by
  rw [aD] at r
  cases r with
  | @cons a b as bs h t =>
   obtain ⟨rs,c,q⟩:=vp (P:=P) (w:=w) t
   obtain ⟨b1,b2⟩:=b
   exact ⟨(p.1,b2)::rs,⟨uZ h.1,rfl,c⟩,.cons ⟨rfl,h.2⟩ q⟩
def tDisp (trs:List (TE×TE)):TE:=fun σ H Q=>∀ p,H p=none→AH trs σ (upd H p (.dK [])) fun ps H2=>H2 p=some (.dK [])∧∃ kvs:List (Key×V),ps=kvs.map (fun kv=>(kV kv.1,kv.2))∧kvs.length≤15∧Q (.ref p) (upd H2 p (.dK (wl [] kvs)))
theorem A9 {X:Cx}{pos:Pos}{keys:List (Option bh)}{values:List bh}{trs:List (TE×TE)} (h:PPs X pos keys values trs) (hall:keys.all (·.isSome)=true) (hl:keys.length=values.length) (h0:keys≠[])
  (h15:keys.length≤15):PE X (.Dict keys values pos) (tDisp trs):=by
 intro pins s σ H Q I q
 have hn:=I.hok.fresh (aC s.heap.objs.size)
 have I1:=I.laid (a:=s.heap.objs.size) (o:=.dK []) (h':=s.heap.push { cls:=.type "dict",data:=.dict #[] }) (t':=s.toks) (fun _ _ q=>ax _ q) (aC _) (zF s.heap I.big)
 refine wpAny_Dict_walk (knd:=lj X.prog X.w) hall hl h0 h15 (thn (h pins _ σ _ _ I1 (q _ hn)) fun ws s2 ⟨ps,H2,I2,rel,e,kvs,ep,lk,q2⟩=>?_)
 subst ep
 obtain ⟨rs,c,rk⟩:=vp (P:=X.prog) (w:=X.w) rel
 obtain ⟨z,hd,vs0,r0,dd⟩:=Fe I2.hok e
 cases r0
 refine ⟨rs,c,dd,fun h' dd' hs=>⟨.ref s.heap.objs.size,_,?_,rfl,q2⟩⟩
 have hz:(wl [] kvs).length≤aP:=by
  have h1:=rD kvs []
  rw [aH] at h1
  rw [ji];omega
 have he:∃ q,h'.get? s.heap.objs.size=some q:=let ⟨q,_,_,hq,_⟩:=dd';⟨q,hq⟩
 exact vm I2 (by rw [e];exact cJ) hs he (AS hz hd (rk.merge .nil) dd')
structure M1 (X:Cx) (o:bh) (m:Str) (apos:Pos) (e:bh) (cpos:Pos):Prop where
 base:eS o m X.env (eval o X.env)=eval o X.env
 few:((cj cpos (aK [e] X.env)).all (fun x=>!x.1) && (fu cpos (dg [] X.env)).all (fun x=>x.1.isSome)
  && decide (([e]:List bh).length+([]:List fX).length+(if ([]:List fX).isEmpty then 0 else 1) < 30))=true
 line:(apos.endLine == cpos.line)=true
 trees:cj cpos (aK [e] X.env)=[(false,eval e X.env)]
structure M2 (X:Cx) (o:bh) (m:Str) (apos:Pos) (e f:bh) (cpos:Pos):Prop where
 base:eS o m X.env (eval o X.env)=eval o X.env
 few:((cj cpos (aK [e,f] X.env)).all (fun x=>!x.1) && (fu cpos (dg [] X.env)).all (fun x=>x.1.isSome)
  && decide (([e,f]:List bh).length+([]:List fX).length+(if ([]:List fX).isEmpty then 0 else 1) < 30))=true
 line:(apos.endLine == cpos.line)=true
 trees:cj cpos (aK [e,f] X.env)=[(false,eval e X.env),(false,eval f X.env)]
def IsD (H:Hp) (a:ae):Prop:=(∃ kvs,Rd H a (.dK kvs))∨∃ kvs,Rd H a (.dT kvs)
theorem EU {X:Cx}{pins:List (ae×Obj)}{σ:St}{H:Hp}{s:al}{a:ae} (I:Inv X pins σ H s) (d:IsD H a) :
  s.TypeIs (.ref a) "dict"∧(∀ b,bo a=.ref b→∃ ob,s.heap.get? b=some ob∧ob.dict=none)∧(a == en)=false:=by
 rcases d with ⟨kvs,e⟩ | ⟨kvs,e⟩
 ·obtain ⟨_,hd,vs,_,dd⟩:=sM I.hok e
  refine ⟨dd.typeIs,fun b q=>?_,hd⟩
  cases q
  obtain ⟨ob,_,_,h1,h2,_⟩:=dd
  exact ⟨ob,h1,h2.2.1⟩
 ·obtain ⟨_,hd,xs,_,dd⟩:=wz I.hok e
  refine ⟨dd.typeIs,fun b q=>?_,hd⟩
  cases q
  obtain ⟨ob,_,_,h1,h2,_⟩:=dd
  exact ⟨ob,h1,h2.2.1⟩
section
variable {X:Cx}{pins:List (ae×Obj)}{σ:St}{H:Hp}{s:al}{a:ae}{y d:V}{u r:af}{o:Option V}{A:bH}{E:af→al→Prop}
theorem IC {Q:af→al→Prop} (hu:A.units+1 < dC) (I:Inv X pins σ H s) (g:DGet H a y o) (ry:RelV y u) (rd:RelV d r) (h:∀ w' s',Inv X pins σ H s'→RelV (o.getD d) w'→Q w' s') :
  ba (model X.prog X.w) A (call (.builtin "dict.get") [.ref a,u,r]) Q E s:=by
 rcases g with ⟨kvs,k,e,ey,l⟩ | ⟨kvs,k,b,e,ey,eb,l⟩
 ·subst ey
  obtain ⟨z,hd,vs,rel,dd⟩:=sM I.hok e
  refine call_meetsIn gw dd.typeIs jh (ja _ _ _) (meets_dict_get_default (lj X.prog X.w) a (uZ ry) hd r) ⟨_,dd.mapOf,h _ _ (I.tok _) ?_⟩
  rw [l]
  exact (rel.val k).getD rd
 ·subst ey
  cases (show u=bo b from ry)
  obtain ⟨z,hd,xs,rel,dd⟩:=wz I.hok e
  refine call_meetsIn gw dd.typeIs jh (ja _ _ _) (meetsH_dict_get_default (io (lj X.prog X.w)) a b hd r) ⟨eZ hu,k,xs,ut I.hok eb,dd,h _ _ (I.tok _) ?_⟩
  rw [l]
  exact (rel.val k).getD rd
end
def EB (td ty tx:TE):TE:=fun σ H Q=>td σ H fun x H1=>∃ a,x=.ref a∧IsD H1 a∧ty σ H1 fun y H2=>tx σ H2 fun z H3=>∃ o,DGet H3 a y o∧Q (o.getD z) H3
def Hf (td ty:TE):TE:=fun σ H Q=>td σ H fun x H1=>∃ a,x=.ref a∧IsD H1 a∧ty σ H1 fun y H2=>∃ kvs k v,H2 a=some (.dK kvs)∧y=kV k∧nB kvs k=some v∧Q v (upd H2 a (.dK (wA kvs k)))
section
variable {X:Cx}{o e f:bh}{apos cpos:Pos}{td ty tx:TE}
theorem vD (hu:X.A.units+1 < dC) (ho:PE X o td) (he:PE X e ty) (hf:PE X f tx) (m:M2 X o "get" apos e f cpos):PE X (.Call (.Attribute o "get" apos) [e,f] [] cpos) (EB td ty tx):=by
 intro pins s σ H Q I h
 refine wpAny_Call_method m.base m.few m.line i9 gw PySem.F.type_dict_get (thn (ho pins s σ H _ I h) fun u s1 ⟨x,H1,I1,rx,a,ex,d,q1⟩=>?_)
 subst ex
 obtain rfl:u=bo a:=rx
 obtain ⟨t1,t2,_⟩:=EU I1 d
 refine ⟨t1,t2,?_⟩
 rw [m.trees]
 refine gz rfl (fB (dE (thn (he pins s1 σ H1 _ I1 q1) fun iv s2 ⟨y,H2,I2,ry,q2⟩ =>
  dE (thn (hf pins s2 σ H2 _ I2 q2) fun fv s3 ⟨z,H3,I3,rz,ov,g,q3⟩=>eT ?_))))
 exact IC hu I3 g ry rz fun w' s4 I4 rw'=>⟨_,H3,I4,rw',q3⟩
theorem DV (ho:PE X o td) (he:PE X e ty) (m:M1 X o "pop" apos e cpos):PE X (.Call (.Attribute o "pop" apos) [e] [] cpos) (Hf td ty):=by
 intro pins s σ H Q I h
 refine wpAny_Call_method m.base m.few m.line i9 jm PySem.F.type_dict_pop (thn (ho pins s σ H _ I h) fun u s1 ⟨x,H1,I1,rx,a,ex,d,q1⟩=>?_)
 subst ex
 obtain rfl:u=bo a:=rx
 obtain ⟨t1,t2,_⟩:=EU I1 d
 refine ⟨t1,t2,?_⟩
 rw [m.trees]
 refine gz rfl (fB (dE (thn (he pins s1 σ H1 _ I1 q1) fun iv s2 ⟨y,H2,I2,ry,kvs,k,v,ea,ey,l,q2⟩=>eT ?_)))
 subst ey
 exact d_pop I2 ea ry l (.inl rfl) fun w' s3 I3 rw'=>⟨v,_,I3,rw',q2⟩
end
section
variable {X:Cx}{pins:List (ae×Obj)}{σ:St}{H:Hp}{s:al}{a:ae}{kvs:List (Key×V)}{A:bH}{E:af→al→Prop}
end
section
variable {X:Cx}{pins:List (ae×Obj)}{σ:St}{H:Hp}{s:al}{a:ae}{y:V}{u:af}{A:bH}{E:af→al→Prop}
end
end L2
namespace Att
open PySem PySem.W PySem.Calls PyProof.Rows
theorem ug {P:Params}{h:bK}:∀ (ns:List Int) (vs:List af),WellAll P h vs (ns.map WData.int)→IntsAre vs ns:=by
 intro ns
 induction ns with
 | nil =>
  intro vs w
  rw [cy] at w
  cases w
  exact .nil
 | cons n ns ih =>
  intro vs w
  rw [aD] at w
  cases w with
  | cons a b =>
   cases a
   exact .cons _ _ (ih _ b)
theorem BO {l:ge}{n:Nat} (hn:l.most=some n) {P:Params}{h:bK}{args:List WData}{vals:List af}
  (hpre:l.row.toRowW.claim.pre args=true) (hwl:WellAll P h vals args) :
  ∃ a vs ns,vals=[bo a]∧args=[WData.list (ns.map WData.int)]∧h.get? a=some { cls:=.type "list",data:=.seq vs.toArray }∧IntsAre vs ns∧ns.length≤n:=by
 have hsh:WShape.hasAll [] args [.list .int]=true:=(pre_splitW hpre).1
 have hc:l.pre.holds [] { args:=args }=true:=(pre_splitW hpre).2
 obtain ⟨d,r,rfl,h1,h2⟩:=hasAllW_cons hsh
 obtain rfl:=hasAllW_nil h2
 obtain ⟨xs,rfl,h3⟩:=hasW_list h1
 obtain ⟨ns,rfl⟩:=items_int h3
 have hlen:ns.length≤n:=by
  unfold OpenLaw.pre at hc
  have h4:(WTm.not (.lt (.lit (.int (n:Int))) (.len (.arg 0)))).holds [] { args:=[.list (ns.map .int)] }=true:=by
   have h4:=(holds_andW hc).1
   rw [hn] at h4
   exact h4
  have h5:=condW_of h4 (w_not (w_lt w_lit (w_len_list (w_arg rfl))))
  rw [aq] at h5
  refine gA fun q=>?_
  have q':(n:Int) < ((ns.length:Nat):Int):=by omega
  first
   | (rw [decide_eq_true q'] at h5;exact absurd h5 (by decide))
   | (simp at h5;omega)
 cases hwl with
 | cons w1 w2 =>
  cases w2
  cases w1 with
  | list ho hall=>exact ⟨_,_,ns,rfl,rfl,ho,ug ns _ hall,hlen⟩
theorem BS (l:ge) (args:List WData):l.row.toRowW.claim.post args (.bool true) args=true :=
 postW_of (r:=l.row.toRowW) (X:=(true == true))
  (show WShape.has [] (.bool true) .bool=true by first | rfl | decide | simp [WShape.has,WShape.arms,WShape.armsAll])
  (show (WTm.eq .res (.lit (.bool true))).value [] { args:=args,res:=some (.bool true),after:=args }=some (.bool (true == true)) from w_eq_bool (w_res rfl) w_lit) rfl
theorem attach_call {l:ge}{n:Nat}{q:aV}{loose:List Str}{XP:(Str→Option af)→bK→Prop}{YP:bz→bK→Prop}{d:DefRec}
  (hn:l.most=some n) (hdf:d.params.defaults=[])
  (call:∀ (w:bz) (s₀ s₁:al) (mg mb:Str→Option af) (fa:ae) (o:Obj) (pm cd doc:af) (a:ae) (vs:List af) (ns:List Int),
   Ground q loose [] XP w s₀ mg mb s₁.heap→YP w s₁.heap →
   s₁.heap.get? fa=some o→o.data=.func (docDef d.name d.params d.body d.scope pm cd doc)→s₁.heap.CodeRec cd d.name→mg d.name=some (.ref fa) →
   s₁.heap.get? a=some { cls:=.type "list",data:=.seq vs.toArray }→IntsAre vs ns→ns.length≤n→s₁.gens=#[] →
   ft (model l.prog w) iU (.call (.ref fa) ⟨[.ref a],[]⟩) (fun r s'=>r=.ok (.ret (.bool true))∧OldK s₁.heap s'.heap∧s'.os=s₁.os∧gC s'.gens) s₁) :
  j7 q loose XP YP l.row.toRowW d [] (fun f vs=>j3 f vs):=by
 intro w s₀ s₁ mg mb G Y fa o pm cd doc dV kV ho hd hcd hD hmg hg args vals as hpre hlay hrd hwl hlo
 obtain rfl:dV=.none:=Dflts.none hD hdf
 obtain rfl:kV=.none:=Dflts.noKw hD
 obtain ⟨a,vs,ns,rfl,rfl,hobj,hints,hlen⟩:=BO hn hpre hwl
 refine enter_call (eA (call w s₀ s₁ mg mb fa o pm cd doc a vs ns G Y ho (fd_plain hd) hcd hmg hobj hints hlen hg) fun r s' hq=>?_)
 obtain ⟨rfl,h2,h3,h4⟩:=hq
 exact ⟨.inl ⟨.bool true,.bool true,[],rfl,fun _=>rfl,.bool true,BS l _,fun _=>⟨List.Pairwise.nil,fun _ hm=>(nomatch hm)⟩⟩,h2,h3,h4⟩
section
variable {prog:aV}{w:bz}{A:bH}{E:af→al→Prop}{s:al}{K:aa}
end
end Att
namespace L2
open PySem PySem.Spec PyProof.Rows
theorem wH:∀ {vs:List af}{ns:List Int},IntsAre vs ns→Vals (ns.map V.int) vs
 | _,_,.nil=>.nil
 | _,_,.cons n t h=>.cons ⟨t,rfl⟩ (wH h)
def mn (s:bM) (j:Nat):bM:=match s with
 | .ClassDef _ _ _ body _ _ _ _ _ _ _=>body.getD j (.Pass ⟨0,0,0,0⟩)
 | _=>.Pass ⟨0,0,0,0⟩
def rL (s:bM):iw:=match s with
 | .FunctionDef _ a _ _ _ _ _ _ _ _=>a
 | _=>{ posonlyargs:=[],args:=[],vararg:=none,kwonlyargs:=[],kw_defaults:=[],kwarg:=none,defaults:=[] }
def ng (s:bM):List bM:=match s with
 | .FunctionDef _ _ b _ _ _ _ _ _ _=>b
 | _=>[]
def kC (s:bM):du:=match s with
 | .FunctionDef _ _ _ _ _ _ sc _ _ _=>sc
 | _=>{ kind:=.function,names:=[],isGenerator:=false,isCoroutine:=false }
abbrev E0:XK:=fun _ _ _=>False
structure Fun (K:aa) (x qual:Str) (st:bM) (f:ae) (fd:bR):Prop where
 ex:∃ (oc:af) (od:Option ae) (kV doc pm:af) (an:Option ae) (cdv ct:af) (osl:Array (Option af)),
  fd=dS x qual (rL st) (ng st) (kC st) .none kV doc pm an cdv ct∧K.lookup f=some ⟨oc,od,.func fd,osl⟩∧aG K cdv qual=true
 kp:az K (.ref f)=true
section
variable {P:aV}{w:bz}{K:aa}{mg:Str→Option af}{base:bK}
theorem Fun.binds {x qual:Str}{st:bM}{f:ae}{fd:bR}{ps:List Str} (F:Fun K x qual st f fd)
  (h:∀ (kV doc pm:af) (an:Option ae) (cdv ct:af) (us:List af),us.length=ps.length→bindArgs (dS x qual (rL st) (ng st) (kC st) .none kV doc pm an cdv ct) ⟨us,[]⟩=pure (ps.zip us)):Binds K fd ps []:=by
 obtain ⟨oc,od,kV,doc,pm,an,cdv,ct,osl,rfl,lk,hcd⟩:=F.ex
 exact .all (h kV doc pm an cdv ct)
theorem kR {x qual:Str}{st:bM}{f:ae}{oc:af}{od an:Option ae}{osl:Array (Option af)}{kV doc pm cdv ct:af} (l:K.lookup f=some ⟨oc,od,.func (dS x qual (rL st) (ng st) (kC st) .none kV doc pm an cdv ct),osl⟩)
  (c:aG K cdv qual=true) (k:az K (.ref f)=true):Fun K x qual st f (dS x qual (rL st) (ng st) (kC st) .none kV doc pm an cdv ct):=⟨⟨oc,od,kV,doc,pm,an,cdv,ct,osl,rfl,l,c⟩,k⟩
end
theorem kP {A:bH}{k:Nat} (hr:Room k A):A.units+1 < dC:=bi (ko (by decide:1≤64) _) hr.units
section
variable {X:Cx}
theorem pv (i:Nat) {x:Str}{pos:Pos} (hN:X.N[i]?=some x:=by rfl) (hv:Vis X.env.scope x:=by first | exact bw rfl | exact eM (bw rfl) | exact eM (eM rfl)) (hd:(x == ("__debug__":Str))=false:=by decide)
  (hcd:(x == ("__classdict__":Str))=false:=by decide):PE X (.Name x pos) (CW i):=yt hN hv hd hcd
theorem xx:CallR X (.builtin "len") (fun xs H Q=>∃ a kvs,xs=[V.ref a]∧H a=some (.dK kvs)∧Q (.int kvs.length) H):=by
 intro pins s σ H xs us Q I r h
 obtain ⟨a,kvs,rfl,ha,q⟩:=h
 obtain ⟨u,rfl,ru⟩:=oW r
 cases ru
 exact G5 I (.inl ha) fun t s' I'=>⟨.int kvs.length,H,I',⟨t,rfl⟩,q⟩
end
theorem F7 {A B:Prop} (h:B):if false=true then A else B:=by
 rw [if_neg a9]
 exact h
theorem F6 {A B:Prop} (h:A):if true=true then A else B:=by
 rw [if_pos rfl]
 exact h
theorem rW {c A B:Prop} [Decidable c] (h1:c→A) (h2:¬ c→B):if c then A else B:=by
 by_cases h:c
 ·rw [if_pos h]
  exact h1 h
 ·rw [if_neg h]
  exact h2 h
def Same (H H':Hp):Prop:=∀ b o,H b=some o→H' b=some o
theorem Same.trans {H H1 H2:Hp} (a:Same H H1) (b:Same H1 H2):Same H H2:=fun c o h=>b c o (a c o h)
theorem Same.free {H H':Hp} (e:Same H H') {l:ae} (h:H' l=Option.none):H l=Option.none:=by
 cases q:H l with
 | none=>rfl
 | some o =>
  rw [e l o q] at h
  cases h
theorem Same.seq {K:aa}{H H':Hp}{a:ae}{xs:List V} (e:Same H H') (h:SqL K H a xs):SqL K H' a xs:=by
 rcases h with (h | ⟨o,h⟩) | h
 ·exact .inl (.inl (e _ _ h))
 ·exact .inl (.inr ⟨o,e _ _ h⟩)
 ·exact .inr h
section
variable {κ:Type} [DecidableEq κ]
theorem sY:∀ {l:List κ}{k:κ},l.Nodup→¬ k∈l→(l++[k]).Nodup
 | [],k,_,_=>by simp
 | a::r,k,h,hk=>by
  obtain ⟨h1,h2⟩:=aS.mp h
  show (a::(r++[k])).Nodup
  refine aS.mpr ⟨fun m=>?_,sY h2 fun m=>hk (aj.mpr (eM m))⟩
  rcases aM.mp m with q | q
  ·exact h1 q
  ·exact hk (aj.mpr (bw (ay.mp q).symm))
end
theorem ff:(bE == bE)=true:=rfl
def l7 (cells:List (Str×ae)):List (Str×dU)→List (Str×ae)→List (Str×ae)
 | [],cs=>cs
 | (n,k)::r,cs=>l7 cells r (if k == .free then (n,(cells.lookup n).getD 0)::cs else cs)
theorem tS (env:Env):∀ (names:List (Str×dU)) (cs:List (Str×ae)),(∀ y∈names,y.2=.free→∃ c,env.cells.lookup y.1=some c) →
  (forIn names cs fun (x:Str×dU) (r:List (Str×ae))=>match x with
   | (name,kind)=>if (kind == .free)=true then (do let c ← cellOf env name;pure (gh ((name,c)::r))) else pure (gh r):Sem (List (Str×ae)))=pure (l7 env.cells names cs)
 | [],cs,_=>rfl
 | (n,k)::r,cs,h=>by
  rw [List.forIn_cons]
  by_cases hk:k=.free
  ·subst hk
   obtain ⟨c,hc⟩:=h (n,.free) ar rfl
   have hc:env.cells.lookup n=some c:=hc
   have ih:=tS env r ((n,c)::cs) fun y hy=>h y (ai _ hy)
   have e1:l7 env.cells ((n,bE)::r) cs=l7 env.cells r ((n,c)::cs):=by
    show l7 env.cells r (if (bE == bE)=true then (n,(env.cells.lookup n).getD 0)::cs else cs)=_
    rw [if_pos ff,hc]
    all_goals rfl
   rw [e1,← ih]
   have e2:cellOf env n=pure c:=by
    unfold cellOf
    rw [hc]
   simp only [beq_self_eq_true,if_true,e2]
   rfl
  ·have hb:(k == bE)=false:=by simpa using hk
   have ih:=tS env r cs fun y hy=>h y (ai _ hy)
   have e1:l7 env.cells ((n,k)::r) cs=l7 env.cells r cs:=by
    show l7 env.cells r (if (k == bE)=true then (n,(env.cells.lookup n).getD 0)::cs else cs)=_
    rw [hb,if_neg a9]
   rw [e1,← ih]
   simp only [hb]
   rfl
theorem oO {scope:du}{env:Env} (h:∀ y∈scope.names,y.2=.free→∃ c,env.cells.lookup y.1=some c):closureFor scope env=pure (l7 env.cells scope.names []):=by
 have e:=tS env scope.names [] h
 unfold closureFor
 refine Eq.trans ?_ (congrArg (fun m:Sem (List (Str×ae))=>m >>= pure) e)
 rfl
theorem zJ {cells:List (Str×ae)}{y:Str}{c:ae}:∀ (names:List (Str×dU)) (cs:List (Str×ae)),(∀ z∈names,z.2=.free→∃ c,cells.lookup z.1=some c)→(∀ z d,cs.lookup z=some d→cells.lookup z=some d) →
  (l7 cells names cs).lookup y=some c→cells.lookup y=some c
 | [],cs,_,hcs,h=>hcs y c h
 | (n,k)::r,cs,hf,hcs,h=>by
  refine zJ r _ (fun z hz=>hf z (ai _ hz)) ?_ h
  by_cases hk:k=.free
  ·subst hk
   obtain ⟨d,hd⟩:=hf (n,.free) ar rfl
   have hd:cells.lookup n=some d:=hd
   intro z d' hz
   rw [if_pos ff,hd] at hz
   by_cases e:z=n
   ·subst e
    rw [bF] at hz
    simp only [beq_self_eq_true] at hz
    rw [hd]
    exact hz
   ·have hb:(z == n)=false:=by simpa using e
    rw [bF] at hz
    simp only [hb] at hz
    exact hcs z d' hz
  ·have hb:(k == bE)=false:=by simpa using hk
   rw [hb,if_neg a9]
   exact hcs
theorem vo {cells:List (Str×ae)}{y:Str}:∀ (names:List (Str×dU)) (cs:List (Str×ae)),(cs.lookup y).isSome=true→((l7 cells names cs).lookup y).isSome=true
 | [],cs,h=>h
 | (n,k)::r,cs,h=>by
  refine vo r _ ?_
  by_cases hk:(k == bE)=true
  ·rw [if_pos hk,bF]
   cases z:(y == n)
   ·exact h
   ·rfl
  ·rw [if_neg hk]
   exact h
theorem rc {cells:List (Str×ae)}{y:Str}:∀ (names:List (Str×dU)) (cs:List (Str×ae)),(y,bE)∈names→((l7 cells names cs).lookup y).isSome=true
 | (n,k)::r,cs,h=>by
  rcases aj.mp h with e | e
  ·cases e
   refine vo r _ ?_
   rw [if_pos ff,bF]
   simp
  ·exact rc r _ e
def blk (X:Cx) (scope:du) (cl:List (Str×ae)) (C:ae) (Nb:List Str) (s₃:al) (H₃:Hp) (fp:List ae):Cx where
 prog:=X.prog
 w:=X.w
 K:=X.K
 mg:=X.mg
 base:=X.base
 A:=X.A
 N:=Nb
 s₀:=s₃
 H₀:=H₃
 env:=compEnvC scope cl C X.env
 outer:=X.stack
 stack:=X.stack
 ex:=fp
 fn:=fun _=>false
 calm:=true
 pn:=[]
 xe:=fun _ _=>False
structure CompOk (N:List Str) (esc:du) (scope:du) (x:Str) (fr:List Str) (ix:List Nat):Prop where
 kind:scope.kind=.function
 cell:∀ y∈scope.names,y.2≠.cell
 loc:scope.names.lookup x=some .local
 nm:∀ y∈scope.names,y.2=.local→scope.names.lookup y.1=some .local
 free:∀ y∈scope.names,y.2=.free→esc.names.lookup y.1=some .cell
 nd:(x::fr).Nodup
 idx:∀ p∈fr.zip ix,N[p.2]?=some p.1
 frs:∀ y∈fr,scope.names.lookup y=some .free∧esc.names.lookup y=some .cell
 len:ix.length=fr.length
theorem cok {N:List Str}{e c:du}{x:Str}{fr:List Str}{ix:List Nat} (h1:c.kind=.function:=by rfl) (h2:∀ y∈c.names,y.2≠.cell:=by decide +kernel) (h3:c.names.lookup x=some .local:=by rfl) (h4:∀ y∈c.names,y.2=.local→c.names.lookup y.1=some .local:=by decide +kernel) (h5:∀ y∈c.names,y.2=.free→e.names.lookup y.1=some .cell:=by decide +kernel) (h6:(x::fr).Nodup:=by decide +kernel) (h7:∀ p∈fr.zip ix,N[p.2]?=some p.1:=by decide +kernel) (h8:∀ y∈fr,c.names.lookup y=some .free∧e.names.lookup y=some .cell:=by decide +kernel) (h9:ix.length=fr.length:=by rfl):CompOk N e c x fr ix:=⟨h1,h2,h3,h4,h5,h6,h7,h8,h9⟩
def capt (ix:List Nat) (σ:St):St:=ix.map fun i=>(σ[i]?).getD none
def E4 (X:Cx) (ifs:List bh) (t:TT):Prop :=
 ∀ (pins:List (ae×Obj)) (s:al) (σ:St) (H:Hp) (Q:Bool→Hp→Prop),Inv X pins σ H s→t σ H Q →
  ba (model X.prog X.w) X.A (forIn ifs true fun c r=>if r=true then do let ok ← isTrue c X.env (eval c X.env);pure (gh ok) else pure (gh r)) (TP X pins σ Q) X.xe s
def tYes:TT:=fun _ H Q=>Q true H
theorem vC {X:Cx}:E4 X [] tYes:=fun pins s σ H Q I h=>aX ⟨H,I,h⟩
theorem DK {X:Cx}{c:bh}{t:TT} (h:PT X c t):E4 X [c] t:=by
 intro pins s σ H Q I hq
 rw [List.forIn_cons]
 refine aB ?_
 rw [if_pos rfl]
 refine aB (thn (h pins s σ H Q I hq) fun b s1 h1=>aX ?_)
 show ba _ _ (forIn [] b _) _ _ _
 rw [List.forIn_nil]
 exact aX h1
def AG (J:It) (tc:TT) (te:TE) (cap:St) (D:ae) (H1:Hp) (Q:VK):Prop :=
 ∃ Pv:Nat→Nat→List V→Hp→Prop,(∃ m,Pv 0 m [] (upd H1 D (.lst [])))∧∀ i m ys H2,Pv i m ys H2 →
  (J.stop i H2∧H2 D=some (.lst ys)∧Q (.ref D) H2)∨(J.go i H2∧∀ x H3,J.yld i H2 x H3→tc (some x::cap) H3 fun b H4=>if b=true then
   te (some x::cap) H4 fun v H5=>H5 D=some (.lst ys)∧ys.length < aP∧∃ m',m' < m∧Pv (i+1) m' (ys++[v]) (upd H5 D (.lst (ys++[v])))
   else ∃ m',m' < m∧Pv (i+1) m' ys H4)
def CN (wi:TI) (ix:List Nat) (tc:TT) (te:TE):TE:=fun σ H Q=>wi σ H fun J H1=>∀ D,H1 D=none→AG J tc te (capt ix σ) D H1 Q
section
variable {X:Cx}{elt iter:bh}{ifs:List bh}{x:Str}{px pos:Pos}{scope:du}{wi:TI}{tc:TT}{te:TE}{fr:List Str}{ix:List Nat}
theorem nK {env:Env} (hk:env.scope.kind=.function):∀ {names:List (Str×dU)}{y:Str},names.lookup y=some .free→env.scope.names.lookup y=some .cell →
  (names.map fun (n,k)=>if (k == bE && env.scope.kind == .function && env.kindOf n == some .cell) then (n,fQ) else (n,k)).lookup y=some .cell
 | [],_,h,_=>by simp at h
 | (n,k)::r,y,h,hc=>by
  have ih:=@nK env hk r y
  show cz y ((if (k == bE && env.scope.kind == .function && env.kindOf n == some .cell)=true then (n,fQ) else (n,k))::_)=_
  cases hx:y == n with
  | true =>
   simp only [bF,hx] at h
   cases h
   have e:y=n:=by simpa using hx
   subst e
   have e2:env.kindOf y=some .cell:=hc
   rw [if_pos (by rw [hk,e2];rfl),bF]
   simp
  | false =>
   simp only [bF,hx] at h
   split
   ·simp only [bF,hx];exact ih h hc
   ·simp only [bF,hx];exact ih h hc
theorem Es {ix:List Nat}{σ:St}{k:Nat}{v:V} (h:(capt ix σ)[k]?=some (some v)):∃ i,ix[k]?=some i∧σ[i]?=some (some v):=by
 unfold capt at h
 rw [bv] at h
 cases e:ix[k]? with
 | none=>rw [e] at h;cases h
 | some i =>
  rw [e] at h
  refine ⟨i,rfl,?_⟩
  have h2:(σ[i]?).getD none=some v:=a8 h
  cases q:σ[i]? with
  | none=>rw [q] at h2;cases h2
  | some o=>rw [q] at h2;exact congrArg some h2
def BlkAt (X:Cx) (pins:List (ae×Obj)) (C:ae):Prop:=C≠X.env.locals∧X.s₀.heap.objs.size≤C∧(∀ y c,X.env.cells.lookup y=some c→c≠C)∧∀ p∈X.pn++pins,p.1≠C
theorem xu {PR:af→ae→jM→al→Prop}{pins:List (ae×Obj)}{σ:St}{H2:Hp}{s2:al}{it:ae}{fp:List ae}{tn:Nat→bK→Prop}{J:It}{Q:VK} (hc:X.calm=true) (S:CompOk X.N X.env.scope scope x fr ix)
  (ht:∀ cl C s₃ H₃ fp,E4 (blk X scope cl C (x::fr) s₃ H₃ fp) ifs tc) (he:∀ cl C s₃ H₃ fp,PE (blk X scope cl C (x::fr) s₃ H₃ fp) elt te)
  (hcells:∀ y∈scope.names,y.2=.free→∃ c,X.env.cells.lookup y.1=some c)
  (I2:Inv X pins σ H2 s2) (T:Turn X.prog X.w X.K (.Name x px) J fp it tn) (st2:tn 0 s2.heap) (f2:∀ b∈fp,AF X pins H2 b) (q2:∀ D,H2 D=none→AG J tc te (capt ix σ) D H2 Q)
  (hfin:∀ D C H' s',Inv X pins σ H' s'→H' C=none→BlkAt X pins C→(∃ m,s'.heap.Ns C m)→Q (.ref D) H'→PR (.ref D) C (.ok .next) s') :
  ba (model X.prog X.w) X.A (newList []) (fun acc s₃=>ba (model X.prog X.w) X.A (newFunctionEnv scope X.env.globals (l7 X.env.cells scope.names []) [] X.env.qual none .none (some X.env)) (fun cenv s₄ =>
   ft (model X.prog X.w) X.A (.compStart (.ListComp elt [⟨.Name x px,iter,ifs,0⟩] scope pos) 0 (.ref it) acc { cenv with scope:=relabel scope X.env }) (PR acc cenv.locals) s₄) X.xe s₃) X.xe s2:=by
 refine d8 ?_
 have hD:H2 s2.heap.objs.size=none:=I2.hok.fresh (aC _)
 have I3:Inv X pins σ (upd H2 s2.heap.objs.size (.lst [])) { s2 with heap:=s2.heap.push { cls:=.type "list",dict:=none,data:=.seq ([]:List af).toArray } } :=
  I2.lnew (its:=[]) (t':=s2.toks) (.nil) (bA _)
 obtain ⟨Pv,⟨m0,p0⟩,turn⟩:=q2 s2.heap.objs.size hD
 generalize hD':s2.heap.objs.size=D at *
 generalize hs3:({ s2 with heap:=s2.heap.push { cls:=.type "list",dict:=none,data:=.seq ([]:List af).toArray } }:al)=s3 at *
 have hk23:∀ b o,s2.heap.get? b=some o→s3.heap.get? b=some o:=fun b o e=>by rw [← hs3];exact ax _ e
 have hH3:∀ b,b≠D→(upd H2 D (.lst [])) b=H2 b:=fun b hb=>kA hb
 have f3:∀ b∈fp,AF X pins (upd H2 D (.lst [])) b∧b < s3.heap.objs.size:=fun b hb=>by
  obtain ⟨o,e,_⟩:=T.obj _ _ st2 b hb
  have hlt:=aI e
  refine ⟨⟨?_,(f2 b hb).2⟩,aI (hk23 b o e)⟩
  rw [hH3 b (by rw [← hD'];exact aQ hlt)]
  exact (f2 b hb).1
 have st3:tn 0 s3.heap:=T.keep _ _ _ st2 fun b hb o e=>hk23 b o e
 refine wpAny_newFunctionEnv S.cell (by intro y hy;simp at hy) (fun h4 hns4 hsb4=>?_) S.kind
 generalize hC:s3.heap.objs.size=C at *
 let X':Cx:=blk X scope (l7 X.env.cells scope.names []) C (x::fr) s3 (upd H2 D (.lst [])) fp
 have clof:∀ y c,(l7 X.env.cells scope.names []).lookup y=some c→X.env.cells.lookup y=some c:=fun y c e=>zJ scope.names [] hcells (fun z d hz=>by simp at hz) e
 have clhas:∀ y,(y,bE)∈scope.names→∃ c,(l7 X.env.cells scope.names []).lookup y=some c:=fun y hy=>ee.mp (rc scope.names [] hy)
 have k34:∀ b o,s3.heap.get? b=some o→h4.get? b=some o:=fun b o e=>hsb4.extBut b o (by rw [← hC];exact aQ (aI e)) (ax _ e)
 have relfree:∀ (l:List (Str×dU)) y k,(l.map fun (n,k)=>if (k == bE && X.env.scope.kind == .function && X.env.kindOf n == some .cell) then (n,fQ) else (n,k)).lookup y=some k→(k=.cell∨k=.free) →
   (∀ z∈l,z.2≠.cell)→(y,bE)∈l:=by
  intro l
  induction l with
  | nil=>intro y k e _ _;simp at e
  | cons z r ih =>
   intro y k e hk hn
   obtain ⟨n,kz⟩:=z
   rw [aD] at e
   by_cases hy:y=n
   ·subst hy
    have:kz=.free:=by
     by_cases hkz:kz=.free
     ·exact hkz
     ·exfalso
      have hb:(kz == bE)=false:=by simpa using hkz
      simp only [hb,dW,eG,if_false,bF,beq_self_eq_true] at e
      have e':kz=k:=a8 e
      rcases hk with z | z
      ·exact hn (y,kz) ar (e'.trans z)
      ·exact hkz (e'.trans z)
    rw [this]
    exact ar
   ·have hb:(y == n)=false:=by simpa using hy
    refine ai _ (ih y k ?_ hk fun z hz=>hn z (ai _ hz))
    have e:cz y ((if (kz == bE && X.env.scope.kind == .function && X.env.kindOf n == some .cell)=true then (n,fQ) else (n,kz))::_)=some k:=e
    by_cases hq:(kz == bE && X.env.scope.kind == .function && X.env.kindOf n == some .cell)=true
    ·rw [if_pos hq,bF] at e
     simp only [hb] at e
     exact e
    ·rw [if_neg hq,bF] at e
     simp only [hb] at e
     exact e
 have ok':X'.Ok:=by
  refine ⟨I3.ok.mod,S.kind,I3.ok.glob,I3.ok.blt,?_,fun y z c e1 e2=>I3.ok.inj y z c (clof y c e1) (clof z c e2),fun y hy=>?_,fun y c e _=>(by cases e),fun _=>I3.ok.hd hc,I3.ok.frames,.inl rfl,fun b hb=>⟨?_,fun y c e=>(f3 b hb).1.2.2.2.2.1 y c (clof y c e)⟩,I3.bs,aN I3.ok.bsz I3.sz,fun b o e hb=>?_,fun b hb z=>?_,I3.stack,I3.stkFree⟩
  ·show s3.heap.objs.size≤C
   rw [hC]
   exact aC _
  ·rcases hy with hy | hy
   ·exact clhas y (relfree scope.names y _ hy (.inl rfl) S.cell)
   ·exact clhas y (relfree scope.names y _ hy (.inr rfl) S.cell)
  ·exact aQ (f3 b hb).2
  ·rcases (f3 b hb).1.2.2.2.1 with z | z
   ·exact I3.ok.noex b o e z
   ·exact absurd (aA (aI e) (aN I3.ok.bsz z)) (cD _)
  ·rcases aj.mp (I3.stkSub b z) with z | z
   ·exact (f3 b hb).1.2.1 z
   ·exact (f3 b hb).1.2.2.1 z
 have capture:∀ {h':bK}{m:Str→Option af},(∀ b o,s3.heap.get? b=some o→(∃ v,o.data=.cell v)→h'.get? b=some o)→∀ (k:Nat) (y:Str) (v:V),fr[k]?=some y→(capt ix σ)[k]?=some (some v)→∃ u,RelV v u∧Look X'.env h' m y u:=by
  intro h' m hkc k y v hy hv
  obtain ⟨i,hix,hσ⟩:=Es hv
  have hzip:(y,i)∈fr.zip ix:=by
   refine cF (i:=k) ?_
   rw [List.getElem?_zip_eq_some]
   exact ⟨hy,hix⟩
  have hN:X.N[i]?=some y:=S.idx (y,i) hzip
  obtain ⟨hfr,hcell⟩:=S.frs y (cF hy)
  obtain ⟨m3,hn3,hl3⟩:=I3.loc
  obtain ⟨u,ru,l⟩:=hl3 i y v hN hσ (.inr (.inl hcell))
  refine ⟨u,ru,?_⟩
  rcases l with ⟨kd,_⟩ | ⟨_,c,ec,ic⟩
  ·have kd:X.env.scope.names.lookup y=some .local:=kd
   rw [hcell] at kd
   cases kd
  ·refine .inr ⟨.inl (nK I3.ok.kind hfr hcell),c,?_,?_⟩
   ·obtain ⟨c',e'⟩:=clhas y (bO hfr)
    have:=clof y c' e'
    rw [ec] at this
    cases this
    exact e'
   ·obtain ⟨o,ho,hd⟩:=ic
    exact ⟨o,hkc c o ho ⟨_,hd⟩,hd⟩
 have hNd:X'.N.Nodup:=S.nd
 have hx0:X'.env.scope.names.lookup x=some .local:=lookup_relabel_local S.loc
 have lenb:∀ o:Option V,(o::capt ix σ).length=X'.N.length:=fun o=>by
  show (capt ix σ).length+1=fr.length+1
  unfold capt
  rw [aq,S.len]
 have I4:Inv X' [] (none::capt ix σ) (upd H2 D (.lst [])) { s3 with heap:=h4,toks:=s3.toks+([]:List (Str×af)).length }:=by
  refine ⟨ok',rfl,I3.bare,Un.kept k34,⟨_,hns4,fun k y v e1 e2 e3=>?_⟩,fun y c e=>?_,?_,fun y c e=>I3.freeC y c (clof y c e),fun p hp=>?_,I3.hok.kept k34,lenb none⟩
  ·cases k with
   | zero=>cases e2
   | succ k=>exact capture (fun b o e _=>k34 b o e) k y v (by have e1:(x::fr)[k+1]?=some y:=e1;simpa using e1) (by simpa using e2)
  ·obtain ⟨v,o,ho,hd⟩:=I3.cell y c (clof y c e)
   exact ⟨v,o,k34 c o ho,hd⟩
  ·exact I3.hok.fresh (by show s3.heap.objs.size≤C;rw [hC];exact aC _)
  ·exact absurd (show p∈([]:List (ae×Obj)) from hp) (by simp)
 have stat:∀ {H':Hp}{b:ae},b∈fp→H' b=none→AF X' [] H' b:=fun {H' b} hb hn=>by
  refine ⟨hn,?_,?_,.inl hb,fun y c e=>(f3 b hb).1.2.2.2.2.1 y c (clof y c e),fun p hp=>absurd (show p∈([]:List (ae×Obj)) from hp) (by simp)⟩
  ·exact aQ (f3 b hb).2
  ·intro z
   rcases aj.mp (I3.stkSub b z) with z | z
   ·exact (f3 b hb).1.2.1 z
   ·exact (f3 b hb).1.2.2.1 z
 have hch:∀ b∈fp,(b∈X.ex∨X.s₀.heap.objs.size≤b)∧b≠X.env.locals∧(∀ y c,X.env.cells.lookup y=some c→c≠b)∧∀ p∈X.pn++pins,p.1≠b:=fun b hb =>
  ⟨(f3 b hb).1.2.2.2.1,(f3 b hb).1.2.1,(f3 b hb).1.2.2.2.2.1,(f3 b hb).1.2.2.2.2.2⟩
 have fin:∀ {σ':St}{H':Hp}{s':al},Inv X' [] σ' H' s'→Q (.ref D) H'→PR (.ref D) C (.ok .next) s':=fun {σ' H' s'} I' q'=>by
  obtain ⟨m',hn',_⟩:=I'.loc
  have J:=I3.call' (s':=s') (ch:=fp) I'.os I'.base I'.hok I'.bare hch
  refine hfin D C H' s' J I'.free ⟨?_,?_,fun y c e=>?_,fun p hp=>?_⟩ ⟨m',hn'⟩ q'
  ·rw [← hC];exact Nat.ne_of_gt I3.lt
  ·rw [← hC];exact I3.sz
  ·obtain ⟨v,z⟩:=I3.cell y c e
   rw [← hC];exact aQ z.lt
  ·rw [← hC];exact aQ (aI (I3.pin p hp).1)
 have loop:ft (model X.prog X.w) X.A (.compLoop (.ListComp elt [⟨.Name x px,iter,ifs,0⟩] scope pos) 0 (.ref it) (.ref D) X'.env) (PR (.ref D) C) { s3 with heap:=h4,toks:=s3.toks+([]:List (Str×af)).length }:=by
  refine codeAny_compLoop_tests (fun n s'=>∃ i ys o H',Inv X' [] (o::capt ix σ) H' s'∧tn i s'.heap∧(∀ b∈fp,H' b=none)∧Pv i n ys H') ?_ m0 ⟨0,[],none,_,I4,T.keep _ _ _ st3 fun b hb o e=>k34 b o e,fun b hb=>(f3 b hb).1.1,p0⟩
  rintro n s5 ⟨i,ys,o,H5,I5,st5,fr5,p5⟩
  rcases turn i n ys H5 p5 with ⟨stop,hd5,qn⟩ | ⟨go,step⟩
  ·refine ce (T.done X' rfl rfl rfl rfl i [] s5 _ H5 (fun _ _=>False) I5 (fun b hb=>stat hb (fr5 b hb)) st5 stop) (fun r s6 ⟨hr,I6⟩=>?_) fun _ _ z=>bu z
   subst hr
   exact fin I6 qn
  ·refine ce (T.item X' rfl rfl rfl rfl i [] s5 _ H5 (fun _ _=>False) I5 (fun b hb=>stat hb (fr5 b hb)) st5 go) (fun r s6 ⟨u,hr,h6⟩=>?_) fun _ _ z=>bu z
   subst hr
   dsimp only
   intro Γ p hΓ
   obtain ⟨xv,H6,I6,r6,y6,st6,fr6⟩:∃ xv H',Inv X' [] (o::capt ix σ) H' s6∧RelV xv u∧J.yld i H5 xv H'∧tn (i+1) s6.heap∧∀ b∈fp,H' b=none:=h6 Γ p hΓ
   refine (?_:ba (model X.prog X.w) X.A (assign (.Name x px) X'.env u) _ _ s6) Γ p hΓ
   have I6':=I6.pinned (fun b hb=>stat hb (fr6 b hb)) (T.obj _ _ st6)
   refine ce (A8 (i:=0) (X:=X') (pos:=px) hNd rfl (.inl hx0) (.inr hx0) _ s6 _ H6 xv u (fun σ' H'=>σ'=some xv::capt ix σ∧H'=H6) I6' r6 ⟨rfl,rfl⟩) (fun _ s7 h7=>?_) fun _ _ z=>bu z
   obtain ⟨σ7,H7,I7,rfl,rfl⟩:=h7
   refine ce (ht _ _ _ _ _ _ s7 _ H7 _ I7 (step xv H7 y6)) (fun b s8 ⟨H8,I8,q8⟩=>?_) fun _ _ z=>bu z
   have back:∀ {σ9:St}{H9:Hp}{s9:al}{ys':List V},Inv X' ([]++vW fp s6.heap) (some xv::capt ix σ) H9 s9→(∃ m',m' < n∧Pv (i+1) m' ys' H9) →
     ∃ m,m < n∧∃ i ys o H',Inv X' [] (o::capt ix σ) H' s9∧tn i s9.heap∧(∀ b∈fp,H' b=none)∧Pv i m ys H':=fun {σ9 H9 s9 ys'} I9 h9=>by
    obtain ⟨m',hm,p9⟩:=h9
    refine ⟨m',hm,i+1,ys',_,H9,I9.unpinned,T.keep _ _ _ st6 fun b hb o e=>(I9.pin (b,o) (aL _ (aL _ (pT hb e)))).1,fun b hb=>?_,p9⟩
    obtain ⟨o,e,d⟩:=T.obj _ _ st6 b hb
    exact (I9.pin (b,o) (aL _ (aL _ (pT hb e)))).2.1
   cases b with
   | false =>
    rw [if_neg a9] at q8 ⊢
    exact back (σ9:=[]) I8 q8
   | true =>
    rw [if_pos rfl] at q8 ⊢
    refine ce (he _ _ _ _ _ _ s8 _ H8 _ I8 q8) (fun w9 s9 ⟨v9,H9,I9,r9,hd9,hz9,q9⟩=>?_) fun _ _ z=>bu z
    refine ce (wW (X:=X') _ s9 _ H9 (.ref D) [v9] (.ref D) [w9] (fun _ H'=>H'=upd H9 D (.lst (ys++[v9]))) I9 rfl (.cons r9 .nil) ⟨D,ys,v9,rfl,rfl,hd9,hz9,rfl⟩) (fun _ s10 h10=>?_) fun _ _ z=>bu z
    obtain ⟨_,H10,I10,_,rfl⟩:=h10
    exact back (σ9:=[]) I10 q9
 exact codeAny_compStart_list loop (T.self _ 0 _ _ _ (T.keep _ _ _ st3 fun b hb o e=>k34 b o e) loop)
theorem uS (hc:X.calm=true) (S:CompOk X.N X.env.scope scope x fr ix) (hi:PI X (.Name x px) iter wi)
  (ht:∀ cl C s₃ H₃ fp,E4 (blk X scope cl C (x::fr) s₃ H₃ fp) ifs tc) (he:∀ cl C s₃ H₃ fp,PE (blk X scope cl C (x::fr) s₃ H₃ fp) elt te)
  (hs:∀ v,di iter X.env v=pure v:=by intro _;rfl):PE X (.ListComp elt [⟨.Name x px,iter,ifs,0⟩] scope pos) (CN wi ix tc te):=by
 intro pins s σ H Q I h
 have hcells:∀ y∈scope.names,y.2=.free→∃ c,X.env.cells.lookup y.1=some c:=fun y hy hf=>I.ok.has y.1 (.inl (S.free y hy hf))
 rw [eval_ListComp]
 refine j0 (use:=none) rfl hs (oO hcells) S.kind S.nm (thn (hi pins s σ H _ I h) fun v s1 h1=>thn h1 fun itv s2 h2=>?_)
 obtain ⟨it,fp,tn,J,H2,e,I2,T,st2,f2,q2⟩:=h2
 subst e
 refine xu (PR:=fun acc C r s'=>compPost (model X.prog X.w) X.A X.xe none (EP X pins σ Q) acc C r s') hc S ht he hcells I2 T st2 f2 q2 fun D C H' s' I' hCn ⟨b1,b2,b3,b4⟩ hns q'=>?_
 obtain ⟨m',hn'⟩:=hns
 refine ⟨m',hn',fun h' hs'=>⟨.ref D,H',?_,rfl,q'⟩⟩
 exact I'.turned (t':=s'.toks) (it:=C) (fun b o hb e=>hs'.extBut b o hb e) hCn b1 (.inr b2) b3 b4
theorem Ac {i:Nat}{y:Str}{py spos:Pos} (hN:X.N.Nodup) (hiy:X.N[i]?=some y) (hly:X.env.scope.names.lookup y=some .local) (hc:X.calm=true) (S:CompOk X.N X.env.scope scope x fr ix) (hi:PI X (.Name x px) iter wi)
  (ht:∀ cl C s₃ H₃ fp,E4 (blk X scope cl C (x::fr) s₃ H₃ fp) ifs tc) (he:∀ cl C s₃ H₃ fp,PE (blk X scope cl C (x::fr) s₃ H₃ fp) elt te)
  (hsw:fe (.ListComp elt [⟨.Name x px,iter,ifs,0⟩] scope pos) (some (.Name y py)) spos.line X.env=pure true:=by rfl)
  (hs:∀ v,di iter X.env v=pure v:=by intro _;rfl):PS X (.Assign [.Name y py] (.ListComp elt [⟨.Name x px,iter,ifs,0⟩] scope pos) spos) (II (CN wi ix tc te) (Fc i)):=by
 intro pins s σ H D0 I h
 have hcells:∀ y∈scope.names,y.2=.free→∃ c,X.env.cells.lookup y.1=some c:=fun y hy hf=>I.ok.has y.1 (.inl (S.free y hy hf))
 rw [exec_Assign_Name_used _ _ _ _ hsw]
 refine aB (iG (aB ?_))
 show ba _ X.A (do let _ ← comprehension (.ListComp elt [⟨.Name x px,iter,ifs,0⟩] scope pos) scope X.env _ (newList []) false (eval iter X.env) (some (assign (.Name y py) X.env))) _ _ s
 refine aB (ce (j0 (use:=some (assign (.Name y py) X.env)) (Q:=fun _ s'=>SP X pins D0 .next s') rfl hs (oO hcells) S.kind S.nm
  (thn (hi pins s σ H _ I h) fun v s1 h1=>thn h1 fun itv s2 h2=>?_)) (fun _ s' hq=>aX (aX hq)) fun _ _ e=>e)
 obtain ⟨it,fp,tn,J,H2,e,I2,T,st2,f2,q2⟩:=h2
 subst e
 refine xu (PR:=fun acc C r s'=>compPost (model X.prog X.w) X.A X.xe (some (assign (.Name y py) X.env)) (fun _ s'=>SP X pins D0 .next s') acc C r s') hc S ht he hcells I2 T st2 f2 q2 fun D C H' s' I' hCn ⟨b1,b2,b3,b4⟩ hns q'=>?_
 obtain ⟨m',hn'⟩:=hns
 refine wpAny_assign_Name (wL (v:=.ref D) I' hN hiy (.inl hly) rfl (fun s5 I5 sb=>?_) (.inr hly))
 obtain ⟨a5,sb,ha5⟩:=sb
 have hCa:C≠a5:=by
  rcases ha5 with z | z
  ·rw [z];exact b1
  ·exact (b3 _ _ z).symm
 refine ⟨m',hn'.sameBut sb hCa,fun h' hs'=>⟨_,H',?_,q'⟩⟩
 exact I5.turned (t':=s5.toks) (it:=C) (fun b o hb e=>hs'.extBut b o hb e) hCn b1 (.inr b2) b3 b4
end
abbrev bmV:List af:=[.type "ValueError",.type "Exception",.type "BaseException",.type "object"]
structure Exc (K:aa) (C:ae):Prop where
 ex:cL K C bmV "ValueError.__new__"=true
 ga:av K (.ref C) "__getattribute__"=some (some (.builtin "BaseException.__getattribute__"))
 gt:av K (.ref C) "__getattr__"=some none
 ha:av K (.ref C) "__class__"=some (some (.builtin "object.__class__"))
 hn:fO K (.builtin "object.__class__") "__get__"=some (some (.builtin "getset_descriptor.__get__"))
 ht:iB K (.builtin "object.__class__")=some true
 mo:bj K C (.type "object")=some true
 mb:bj K C (.type "BaseException")=some true
theorem Exc.obj {K:aa}{C:ae}{h:bK} (Z:Exc K C) (X:K.In h):∃ bm N nm q bs hdct sn sub ab col dd k0 k1 k2 k3 k5 mN,
  h.get? C=some (excClassObj nm q C N bs bm hdct sn sub ab col dd k0 k1 k2 k3 k5 "ValueError.__new__")∧h.Ns N mN∧mN "__init__"=none∧OwnTail h bmV bm:=by
 have z:=Z.ex
 unfold cL at z
 split at z
 case h_2=>cases z
 case h_1 ddv cdv slv lk =>
  split at z
  case h_2=>cases z
  case h_1 D bm a0 a1 a2 a3 nw a5 em es =>
   have z':((((D=C∧nw="ValueError.__new__")∧cdv.hasDel=false)∧PySem.W.tailIn K bmV bm=true)∧PySem.W.nsOkIn K cdv.ns=true)∧aw K cdv.ns "__init__"=some none:=by
    simpa only [bY,beq_iff_eq,Bool.not_eq_true'] using z
   obtain ⟨⟨⟨⟨⟨eD,eN⟩,hdl⟩,tl⟩,okn⟩,ini⟩:=z'
   rcases cdv with ⟨c1,c2,c3,c4,c5,c6,c7,c8,c9,c10,c11⟩
   have em:c3=.ref D::bm:=em
   have hdl:c11=false:=hdl
   have okn:PySem.W.nsOkIn K c4=true:=okn
   have ini:aw K c4 "__init__"=some none:=ini
   subst em hdl eD eN
   have esl:slv=#[a0,a1,a2,a3,some (.builtin "ValueError.__new__"),a5]:=by
    rcases slv with ⟨l⟩
    have es:l=_:=es
    rw [es]
   subst esl
   refine ⟨bm,c4,c1,c5,c2,c6,c7,c8,c9,c10,ddv,a0,a1,a2,a3,a5,h.nsMap c4,X _ _ lk,?_,?_,PySem.W.tail_of_in X tl⟩
   ·exact .of_isNs (PySem.W.isNs_of_in X okn)
   ·exact PySem.W.nsMap_none_of_in X okn ini
def CT (h:bK) (a C:ae):Prop:=∃ ox vs,h.get? a=some ox∧ox.cls=.ref C∧ox.data=.fields vs
def Bh (C a:ae):HO:=.ext fun h=>CT h a C
theorem Gd {P:aV}{w:bz}{H:Hp}{h:bK}{C a:ae} (I:CT h a C):ObjOk P w H h a (Bh C a):=by
 refine ⟨I,?_,fun h1 h2 p k=>?_⟩
 ·obtain ⟨ox,_,e,_⟩:=I
  exact ⟨ox,e⟩
 ·obtain ⟨ox,vs,e,c,d⟩:=p
  exact ⟨ox,vs,k _ e,c,d⟩
section
variable {prog:aV}{w:bz}{A:bH}{E:af→al→Prop}{s:al}{K:aa}{x C:ae}{ox:Obj}
open PySem.W Builtin Builtin.ObjectAttr Builtin.Getset_descriptor in
theorem Cz {Q:Option af→al→Prop} (Z:Exc K C) (X:K.In s.heap) (I:CT s.heap x C) (h:Q (some (.ref C)) { s with toks:=s.toks+1 }) :
  ba (model prog w) A (getAttr? (.ref x) "__class__") Q E s:=by
 obtain ⟨hh,g,d,t,os⟩:=s
 have L0:iO (model prog w) hh (typeOf (.ref x)) (.ref C):=by
  obtain ⟨ox,vs,hat,hcl,hdt⟩:=I
  have hat:hh.get? x=some ox:=hat
  exact hcl ▸ (ju hat).andThen .now
 have L1:=hV (M:=model prog w) X Z.ga
 have L2:=hV (M:=model prog w) X Z.gt
 have L3:iO (model prog w) hh (Builtin.ObjectAttr.find (.ref x) (.ref C) "__class__") (.bind (.builtin "getset_descriptor.__get__") (.builtin "object.__class__")):=by
  have M1:=hV (M:=model prog w) X Z.ha
  have M2:iO (model prog w) hh (Builtin.ObjectAttr.getOf (some (.builtin "object.__class__"))) (some (.builtin "getset_descriptor.__get__")):=looks_specialIn X Z.hn
  have M3:=looks_takesIn (M:=model prog w) X Z.ht
  refine M1.andThen (M2.andThen ?_)
  refine Looks.andThen (a:=some (.builtin "getset_descriptor.__get__",.builtin "object.__class__")) ?_ (Looks.tag .now)
  exact M3.andThen .now
 have LO:=jt (M:=model prog w) X Z.mo
 have cget:∀ {A:bH}{tk:Nat}{R:jM→al→Prop},R (.ok (.ret (.ref C))) ⟨hh,g,d,tk,os⟩→ft (model prog w) A (.call (.builtin "getset_descriptor.__get__") ⟨[.builtin "object.__class__",.ref x,.ref C],[]⟩) R ⟨hh,g,d,tk,os⟩:=by
  intro A tk R hq
  obtain ⟨ox,vs,hat,hcl,hdt⟩:=I
  have hat:hh.get? x=some ox:=hat
  refine ii KF.slot_gs.plain KF.entry_gs (KF.slot_gs.check _ _ _ _ _ _ _ _ KF.type_class (KF.args_gs _ _ _) ?_)
  unfold Builtin.«getset_descriptor.__get__» descrGet
  rw [dga_obj]
  refine aB (aX ?_)
  unfold descrGetter descrCheckInstance descrNameAndClass isInstance
  simp only [KF.owner_class]
  repeat lk
  refine ⟨kj _ (by decide +kernel),gX KF.entry_class ?_⟩
  unfold Builtin.«object.__class__» shownTypeOf
  repeat lk
  exact hq
 have LB:iO (model prog w) hh (isInstance (.ref x) (.type "BaseException")) true:=L0.andThen (jt X Z.mb)
 have f3:=PySem.F.slot_gs_get
 have hx2:(Value.builtin "BaseException.__getattribute__" == Value.builtin "object.__getattribute__")=false:=by decide +kernel
 have cls:∀ {tk:Tok}{R:jM→al→Prop},R (.ok (.ret (.ref C))) ⟨hh,g,d,t+1,os⟩→ft (model prog w) A (.call (.builtin "BaseException.__getattribute__") ⟨[.ref x,.str "__class__" tk],[]⟩) R ⟨hh,g,d,t+1,os⟩:=by
  intro tk R hq
  have hk:builtinKind "BaseException.__getattribute__"=some .slot:=by decide +kernel
  have hsplit:splitId "BaseException.__getattribute__"=some ("BaseException","__getattribute__"):=by decide +kernel
  have ha:=F.args_bexc_ga (.ref x) (.str "__class__" tk)
  refine ii (by decide +kernel) F.entry_bexc_ga ?_
  simp only [checkBuiltinCall,hk,hsplit]
  refine aB (LB.at ?_)
  repeat (any_goals (first | assumption | wp_step))
  obtain ⟨ox,vs,hat,hcl,hdt⟩:=id I
  have hat:hh.get? x=some ox:=hat
  refine wpAny_loadPart_at hat (aX ?_)
  rw [hcl]
  clear hat hcl hdt
  refine aB (L3.at ?_)
  repeat (any_goals (first | assumption | wp_step))
  refine cget ?_
  repeat (any_goals (first | assumption | wp_step))
 have f4:=PySem.F.excAttr_ValueError.ga.bind (.ref x)
 unfold getAttr? getAttrBy? getAttrBy
 refine aB (wpAny_mkText (aB (wpAny_attempt (dz (aB (L0.at (aB (L1.at ?_))))))))
 show ba _ _ (getAttrByItsOwn _ _ _ _ _ _) _ _ _
 unfold getAttrByItsOwn
 refine aB (L2.at ?_)
 repeat (any_goals (first | assumption | wp_step))
 refine cls ?_
 repeat (any_goals (first | assumption | wp_step))
end
section
variable {K:aa}{C a:ae}
open PySem.W in
theorem Eg (Z:Exc K C):KitX K (.ref a) (.ref C) (fun h=>CT h a C) where
 ty:=fun _ _ _ ⟨_,_,e,c,_⟩=>c ▸ (ju e).andThen .now
 it:=fun _ h X _=>by
  obtain ⟨bm,N,nm,q,bs,hdct,sn,sub,ab,col,dd,k0,k1,k2,k3,k5,mN,hC,_⟩:=Z.obj X
  intro A' Q' E' s' k z
  unfold isType loadHead
  exact aB (wpAny_loadPart (k _ _ hC) (aX z))
 ne:=fun h tp dd its n sl X htp=>by
  obtain ⟨bm,N,nm,q,bs,hdct,sn,sub,ab,col,dd,k0,k1,k2,k3,k5,mN,hC,_⟩:=Z.obj X
  refine bU.mpr fun z=>?_
  have e:C=tp:=Value.ref.inj (beq_iff_eq.mp z)
  subst e
  rw [hC] at htp
  injection (a8 htp) with _ _ z3 _
  exact nomatch z3
 ca:=fun X I k=>Cz Z X I k
end
def G7:V→af
 | .ref a=>.ref a
 | .ty n=>.type n
 | _=>.none
theorem Er {c:V}{u:af} (r:RelV c u) (h:(∃ a,c=.ref a)∨∃ n,c=.ty n):u=G7 c:=by
 rcases h with ⟨a,rfl⟩ | ⟨n,rfl⟩ <;> exact r
section
variable {X:Cx}
def rIsi (K:aa):List V→Hp→VK→Prop:=fun xs H Q=>∃ x c t b,xs=[x,c]∧((∃ a,c=.ref a)∨∃ n,c=.ty n)∧(TyOf K H x t∨(∃ a C,x=.ref a∧t=.ref C∧H a=some (Bh C a)∧Exc K C)∨(∃ a ys,x=.ref a∧t=.type "list"∧SqL K H a ys)∨∃ a ys,x=.ref a∧t=.type "tuple"∧SqT K H a ys)∧ao K t (G7 c)=some b∧Q (.bl b) H
theorem zL:CallR X (.builtin "isinstance") (rIsi X.K):=by
 intro pins s σ H xs us Q I r h
 obtain ⟨x,c,t,b,rfl,hc,ty,e,q⟩:=h
 obtain ⟨u,v,rfl,ru,rv⟩:=GC r
 rw [Er rv hc]
 have fin:∀ tk,EP X pins σ Q (.bool b) { s with toks:=tk }:=fun tk=>⟨.bl b,H,I.tok tk,rfl,q⟩
 rcases ty with ty | ⟨a,C,rfl,rfl,ha,Z⟩ | ⟨a,ys,rfl,rfl,hq⟩ | ⟨a,ys,rfl,rfl,hq⟩
 ·exact Cq I ru ty e fin
 ·cases (show u=bo a from ru)
  obtain ⟨p,_⟩:=I.hok a _ ha
  exact bN (Eg Z) I.kIn p e (fun z=>nomatch z) fin
 ·cases (show u=bo a from ru)
  obtain ⟨its,r',pl,_⟩:=I.list hq
  obtain ⟨o,h1,h2,_⟩:=pl.isList
  exact bN hX I.kIn ⟨o,h1,h2⟩ e (fun z=>nomatch z) fin
 ·cases (show u=bo a from ru)
  obtain ⟨its,r',pl,_⟩:=I.tuple hq
  obtain ⟨o,h1,h2,_⟩:=pl
  exact bN jK I.kIn ⟨o,h1,h2⟩ e (fun z=>nomatch z) fin
end
theorem ObjOk.there {P:aV}{w:bz}{H:Hp}{h:bK}{a:ae}{o:HO} (x:ObjOk P w H h a o):∃ ob,h.get? a=some ob:=by
 cases o with
 | lst xs=>obtain ⟨_,_,_,_,e⟩:=x;exact ⟨_,e⟩
 | tup xs=>obtain ⟨_,_,_,ob,e,_⟩:=x;exact ⟨ob,e⟩
 | dK kvs=>obtain ⟨_,_,_,_,ob,_,_,e,_⟩:=x;exact ⟨ob,e⟩
 | dT kvs=>obtain ⟨_,_,_,_,ob,_,_,e,_⟩:=x;exact ⟨ob,e⟩
 | set S n=>obtain ⟨ob,_,_,_,e,_⟩:=x;exact ⟨ob,e⟩
 | ins C dx fs=>obtain ⟨_,_,_,e,_⟩:=x;exact ⟨_,e⟩
 | own y=>exact x
 | xd fs=>obtain ⟨_,⟨ob,_,_,e,_⟩,_⟩:=x;exact ⟨ob,e⟩
 | rng lo hi=>obtain ⟨_,_,_,e⟩:=x;exact ⟨_,e⟩
 | frz ob u=>obtain ⟨e,_⟩:=x;exact ⟨ob,e⟩
 | tbl ps=>exact ⟨_,show h.get? a=some _ from x⟩
 | met f y=>exact ⟨_,show h.get? a=some _ from x⟩
 | ext φ=>exact x.2.1
def CXo (P:aV) (w:bz):CXT:=fun outer H s E e s'=>∃ (a C:ae) (t:af) (B:bK) (H':Hp),e=.ref a∧s'.os=s.os∧gC s'.gens∧Un (frs outer) [] H H' s.heap s'.heap∧HOk P w H' s'.heap ∧
 jA B outer a (.ref C) t s'.heap∧(∀ b u o,H' b=some u→s'.heap.get? b=some o→B.get? b=some o) ∧
 (∀ b o,s.heap.get? b=some o→b∉frs outer→∃ o',s'.heap.get? b=some o'∧B.get? b=some o')∧E (.ref C) none H'
theorem kU {P:aV}{w:bz}{X:Cx}:mJ (CXo P w) X E0:=fun _ _ _ _ _ _ _ h=>by
 obtain ⟨_,_,_,_,_,_,_,_,_,_,_,_,_,z⟩:=h
 exact z.elim
theorem F0 {env:Env}{outer:List Env}{L b:ae} (hf:env.frame=some L) (h:b∈frs (env::outer)):b=L∨b∈frs outer:=by
 unfold frs at h ⊢
 rw [eg,hf] at h
 exact aj.mp h
theorem vi {env:Env}{outer:List Env}{L b:ae} (hf:env.frame=some L) (h:b∈frs outer):b∈frs (env::outer):=by
 unfold frs at h ⊢
 rw [eg,hf]
 exact ai _ h
section
variable {P:aV}{w:bz}{K:aa}{mg:Str→Option af}{base:bK}{N:List Str}{qual:Str}{scope:du}{f:ae}{cd:af}{A:bH}{outer:List Env}{s₀:al}{H₀:Hp}{E:XK}
theorem kW:mJ (CXo P w) (xr (CXo P w) P w K mg base N qual scope f cd A outer s₀ H₀ E) E:=by
 intro pins σ H s e s' I h
 obtain ⟨a,C,t,B,H',rfl,hos,hbare,un,hok,fl,inB,oldB,hE⟩:=h
 have hlow:∀ b o,s₀.heap.get? b=some o→b≠s₀.heap.objs.size:=fun b o e=>aQ (aI e)
 refine wpAny_leaves_onW (L:=s₀.heap.objs.size) (by exact I.ok.frames) rfl fl fun h' fl' up=>?_
 have eq1:frs (dY qual scope s₀.heap.objs.size f cd::outer)=s₀.heap.objs.size::frs outer:=rfl
 have notin:∀ b o,s₀.heap.get? b=some o→b∉frs outer→b∉frs (dY qual scope s₀.heap.objs.size f cd::outer):=fun b o e n z=>by
  rw [eq1] at z
  rcases aj.mp z with z | z
  ·exact hlow b o e z
  ·exact n z
 have ub:Un (frs outer) [] H₀ H s₀.heap s.heap:=I.base
 have old:∀ b o,s₀.heap.get? b=some o→b∉frs outer→∃ o',h'.get? b=some o'∧B.get? b=some o':=fun b o e n=>by
  obtain ⟨o1,e1⟩:=ub.there b o e (by simp)
  obtain ⟨o2,e2,e3⟩:=oldB b o1 e1 (notin b o e n)
  exact ⟨o2,fl'.1 b o2 e3,e3⟩
 refine ⟨a,C,t,B,H',rfl,hos.trans I.os,hbare,⟨fun b o e n hb _=>?_,fun b o e n hb _=>?_,fun b o e n _=>?_,fun b o e _=>?_,fun b xs e=>un.tups b xs (ub.tups b xs e),fun b o u e=>un.frzs b o u (ub.frzs b o u e),fun b ps e=>?_⟩,?_,fl',?_,old,hE⟩
 ·have e1:=ub.keep b o e n hb (by simp)
  have n1:=ub.free b o e n (by simp)
  have e2:=un.keep b o e1 n1 (notin b o e hb) (by simp)
  obtain ⟨o2,e3,e4⟩:=oldB b o e1 (notin b o e hb)
  rw [e2] at e3
  cases e3
  exact fl'.1 b o e4
 ·obtain ⟨sl,e1⟩:=ub.slot b o e n hb (by simp)
  have n1:=ub.free b o e n (by simp)
  obtain ⟨sl2,e2⟩:=un.slot b _ e1 n1 (vi rfl hb) (by simp)
  obtain ⟨_,o3,e3,hnf⟩:=fl.2.2.1.mem (show b∈(dY qual scope s₀.heap.objs.size f cd::outer).filterMap (·.frame) from vi rfl hb)
  obtain ⟨sl3,e4⟩:=up b _ e3 hnf
  rw [e2] at e3
  cases e3
  exact ⟨sl3,e4⟩
 ·obtain ⟨o1,e1⟩:=ub.there b o e (by simp)
  exact un.free b o1 e1 (ub.free b o e n (by simp)) (by simp)
 ·by_cases hb:b∈frs outer
  ·obtain ⟨_,o3,e3,hnf⟩:=fl.2.2.1.mem (show b∈(dY qual scope s₀.heap.objs.size f cd::outer).filterMap (·.frame) from vi rfl hb)
   obtain ⟨sl3,e4⟩:=up b _ e3 hnf
   exact ⟨_,e4⟩
  ·obtain ⟨o',e1,_⟩:=old b o e hb
   exact ⟨o',e1⟩
 ·obtain ⟨m1,e1⟩:=ub.tbls b ps e
  obtain ⟨m2,e2⟩:=un.tbls b _ e1
  exact ⟨m1++m2,by rw [e2,kg]⟩
 ·intro b u e
  refine (hok b u e).stay (fun c v hc q=>?_) (fun _ q=>q) fun _ _ q=>q
  rcases hc with z | z
  ·subst z
   exact fl'.1 _ _ (inB _ u v e q)
  ·exact fl'.1 _ _ (inB c _ v z q)
 ·intro b u o e q
  obtain ⟨o1,q1⟩:∃ o1,s'.heap.get? b=some o1:=by
   exact (hok b u e).there
  have z:=inB b u o1 e q1
  have z2:=fl'.1 b o1 z
  rw [z2] at q
  cases q
  exact z
def vx (X:Cx) (E:XK):Prop:=∀ (pins:List (ae×Obj)) (σ:St) (H:Hp) (s:al) (a C:ae) (vs:List af) (h':bK),Inv X pins σ H s→Heap.MadeExcOf s.heap h' a (.ref C) vs→E (.ref C) none H→X.xe (.ref a) { s with heap:=h' }
theorem uW:vx (xr (CXo P w) P w K mg base N qual scope f cd A outer s₀ H₀ E) E:=by
 intro pins σ H s a C vs h₁ I mk hE
 have stk:s.heap.FunFrames base (dY qual scope s₀.heap.objs.size f cd::outer):=I.stack
 let l:List ae:=frs (dY qual scope s₀.heap.objs.size f cd::outer)
 have hin:∀ env∈(dY qual scope s₀.heap.objs.size f cd::outer),∀ b,env.frame=some b→b∈l:=fun env he b hb=>ie.mpr ⟨env,he,hb⟩
 have toB:∀ b o,s.heap.get? b=some o→b∉l→(gr s.heap l).get? b=some o:=fun b o e n=>jw l e n
 have ub:Un (frs outer) [] H₀ H s₀.heap s.heap:=I.base
 have notin:∀ b o,s₀.heap.get? b=some o→b∉frs outer→b∉l:=fun b o e n z=>by
  rcases F0 (L:=s₀.heap.objs.size) rfl z with z | z
  ·exact aQ (aI e) z
  ·exact n z
 have trkN:∀ b u,H b=some u→b∉l:=fun b u e z=>by
  rw [I.stkFree b z] at e
  cases e
 refine wpAny_leaves_madeW (L:=s₀.heap.objs.size) (base:=gr s.heap l) (h:=s.heap) (by exact I.ok.frames) rfl (fun b o e=>jJ l e) (PySem.W.funFrames_hide stk hin) mk fun h' t fl tup nt up=>?_
 have keepB:∀ b o,s.heap.get? b=some o→b∉l→h'.get? b=some o:=fun b o e n=>fl.1 b o (toB b o e n)
 have frame:∀ b o,s.heap.get? b=some o→b∈l→∃ sl,h'.get? b=some { o with slots:=sl }:=fun b o e hb=>by
  obtain ⟨_,o3,e3,hnf⟩:=stk.mem hb
  rw [e] at e3
  cases e3
  exact up b o (mk.keeps b o e) hnf
 refine ⟨a,C,.ref t,gr s.heap l,H,rfl,I.os,I.bare,⟨fun b o e n hb _=>?_,fun b o e n hb _=>?_,fun b o e n _=>ub.free b o e n (by simp),fun b o e _=>?_,ub.tups,ub.frzs,ub.tbls⟩,fun b u e=>?_,fl,fun b u o e q=>?_,fun b o e n=>?_,hE⟩
 ·exact keepB b o (ub.keep b o e n hb (by simp)) (notin b o e hb)
 ·obtain ⟨sl,e1⟩:=ub.slot b o e n hb (by simp)
  obtain ⟨sl2,e2⟩:=frame b _ e1 (vi rfl hb)
  exact ⟨sl2,e2⟩
 ·obtain ⟨o1,e1⟩:=ub.there b o e (by simp)
  by_cases hb:b∈l
  ·obtain ⟨sl2,e2⟩:=frame b _ e1 hb
   exact ⟨_,e2⟩
  ·exact ⟨o1,keepB b o1 e1 hb⟩
 ·refine (I.hok b u e).stay (fun c v hc q=>?_) (fun _ q=>q) fun _ _ q=>q
  rcases hc with z | z
  ·subst z
   exact keepB _ v q (trkN _ u e)
  ·exact keepB c v q (trkN c _ z)
 ·obtain ⟨o1,q1⟩:=(I.hok b u e).there
  have z2:=keepB b o1 q1 (trkN b u e)
  have q:h'.get? b=some o:=q
  rw [z2] at q
  cases q
  exact toB b _ q1 (trkN b u e)
 ·obtain ⟨o1,e1⟩:=ub.there b o e (by simp)
  exact ⟨o1,keepB b o1 e1 (notin b o e n),toB b o1 e1 (notin b o e n)⟩
end
section
variable {X:Cx}{C:ae}{x:Str}{np cpos pos:Pos}{e:bh}{te:TE}{E:XK}
def He (C:ae) (E:XK) (te:TE):TS:=fun _ σ H=>te σ H fun _ H1=>E (.ref C) none H1
theorem nI (Z:Exc X.K C) (hg:Gl X x) (hm:X.mg x=some (.ref C)) (hc:X.calm=true) (ha:PE X e te) (hp:vx X E)
  (hd:(x == ("__debug__":Str))=false:=by decide) (he:aK [e] X.env=[(false,eval e X.env)]:=by rfl):PS X (.Raise (some (.Call (.Name x np) [e] [] cpos)) none pos) (He C E te):=by
 intro pins s σ H D I h
 obtain ⟨bm,N,nm,q,bs,hdct,sn,sub,ab,col,dd,k0,k1,k2,k3,k5,mN,hC,hN,hni,T⟩:=Z.obj I.mod.kin
 refine wpAny_Raise_call_subT (C:=C) (nm:=nm) (q:=q) (N:=N) (bs:=bs) (bm:=bm) (hdct:=hdct) (sn:=sn) (sub:=sub) (ab:=ab) (col:=col) (dd:=dd) (k0:=k0) (k1:=k1) (k2:=k2) (k3:=k3) (k5:=k5)
  fJ (mN:=mN) (T.hasType fJ.hasBase) (I.ok.hd hc) (by rw [he];rfl) hni (qc I hg hm ⟨rfl,?_⟩ hd)
 rw [he]
 refine fB ?_
 show ba _ _ (spliced ((false,eval e X.env)::[])) _ _ s
 refine dE (thn (ha pins s σ H _ I h) fun u s₂ ⟨v,H2,I2,r2,q2⟩=>?_)
 refine eT ⟨rfl,?_,I2.bk _ _ hC,hN.keeps I2.bk,T.keeps I2.bk,fun h' a mk=>hp pins σ H2 s₂ a C _ h' I2 mk q2⟩
 show 1≤aP
 decide
end
section
variable {M:Model}{A:bH}{E:af→al→Prop}{K:aa}{C D e:ae}{oe:Obj}
theorem yT {h:bK}{g:Array jN}{d:Drawn}{t:Nat}{os:OsState}{Q:Bool→al→Prop} (ZC:Exc K C) (ZD:Exc K D) (X:K.In h) (sub:bj K C (.ref D)=some true)
  (he:h.get? e=some oe) (hcls:oe.cls=.ref C) (hq:Q true ⟨h,g,d,t,os⟩):ba M A (excMatches (.ref e) (.ref D)) Q E ⟨h,g,d,t,os⟩:=by
 have L0:iO M h (typeOf (.ref e)) (.ref C):=hcls ▸ (ju he).andThen .now
 have L1:iO M h (isSubtype (.ref C) (.ref D)) true:=jt X sub
 obtain ⟨bm,N,nm,q,bs,hdct,sn,sb,ab,col,dd,k0,k1,k2,k3,k5,mN,hD,hN,hni,T⟩:=ZD.obj X
 have hcB:(bo D::bm).contains (.type "BaseException")=true:=by rw [List.contains_cons,T.hasType fJ.hasBase,Bool.or_true]
 have f:=tc_notTuple
 unfold excMatches
 repeat (first | with_reducible refine wpAny_loadPart_at hD ?_ | (with_reducible refine wpAny_isSubtype_exc hD ?_;rw [hcB]) | with_reducible refine L0.at ?_ | with_reducible refine L1.at ?_ | wp_step)
 first
  | exact hq
  | (rw [hcls]
     refine L1.at ?_
     repeat wp_step
     exact hq)
end
def XO (X:Cx) (pins:List (ae×Obj)) (σ:St) (E:XK):af→al→Prop:=fun e s'=>∃ H1 s1,Inv X pins σ H1 s1∧CXo X.prog X.w X.stack H1 s1 E e s'
def PEx (X:Cx) (e:bh) (t:XK→TE):Prop:=∀ (pins:List (ae×Obj)) (s:al) (σ:St) (H:Hp) (Q:VK) (E:XK),Inv X pins σ H s→t E σ H Q→ba (model X.prog X.w) X.A (eval e X.env) (EP X pins σ Q) (XO X pins σ E) s
def PSx (X:Cx) (st:bM) (t:XK→TS):Prop:=∀ (pins:List (ae×Obj)) (s:al) (σ:St) (H:Hp) (D:Ends) (E:XK),Inv X pins σ H s→t E D σ H→ba (model X.prog X.w) X.A (exec st X.env) (SP X pins D) (XO X pins σ E) s
def PSxs (X:Cx) (st:List bM) (t:XK→TS):Prop:=∀ (pins:List (ae×Obj)) (s:al) (σ:St) (H:Hp) (D:Ends) (E:XK),Inv X pins σ H s→t E D σ H→ba (model X.prog X.w) X.A (execs st X.env) (SP X pins D) (XO X pins σ E) s
section
variable {X:Cx}{k:Nat}{f C:ae}{fd:bR}{ps:List Str}{sp:Sp}{dvs:List V}{ds:List af}{x m:Str}{p pos apos:Pos}{e o:bh}{es:List bh}{ta:TE}{t:TA}
theorem Fw {pins:List (ae×Obj)}{σ:St}{H:Hp}{s:al}{Q:VK}{E:XK}{us:List af}{vs:List V} (F:FnOk X.prog X.w X.K X.mg X.base (CXo X.prog X.w) k f fd ps sp) (hr:Room k X.A) (hb:Binds X.K fd ps ds) (hd:Vals dvs ds)
  (I:Inv X pins σ H s) (r:Vals vs us) (h:sp (vs++dvs) H Q E):ba (model X.prog X.w) X.A (call (.ref f) us) (EP X pins σ Q) (XO X pins σ E) s:=by
 have r2:Vals (vs++dvs) (us++ds):=r.append hd
 have hl:(us++ds).length=ps.length:=by rw [← r2.length];exact F.len _ _ _ _ h
 refine iL (eA (F.run X.A X.stack s H ⟨us,[]⟩ (us++ds) (vs++dvs) Q E hr I.env0 (hb s us I.kIn hl) r2 h) fun r s' hq=>?_)
 cases r with
 | error e=>exact ⟨H,s,I,hq⟩
 | ok fl =>
  cases fl with
  | ret u=>exact I.after hq
  | next=>exact bu hq
  | brk=>exact bu hq
  | cont=>exact bu hq
theorem DP (F:FnOk X.prog X.w X.K X.mg X.base (CXo X.prog X.w) k f fd ps sp) (hr:Room k X.A) (hg:Gl X x) (hm:X.mg x=some (.ref f)) (hk:az X.K (.ref f)=true) (hb:Binds X.K fd ps ds) (hd:Vals dvs ds)
  (ha:PA X.nox (e::es) t) (hdb:(x == ("__debug__":Str))=false:=by decide) (he:aK (e::es) X.env=(false,eval e X.env)::aK es X.env:=by rfl) (hpl:(cj pos (aK es X.env)).any (·.1)=false:=by rfl) :
  PEx X (.Call (.Name x p) (e::es) [] pos) (fun E=>zT sp dvs E t):=by
 intro pins s σ H Q E I h
 refine cr (qc I hg hm ?_ hdb)
 refine fH (h₀:=X.base) I.ok.mod.kin hk (ce (ha pos pins s σ H _ (I.wish _) h) (fun us s1 ⟨vs,H1,I1,r,q⟩=>⟨I1.unwish.kIn,?_⟩) fun _ _ z=>bu z) he hpl
 exact Fw F hr hb hd I1.unwish r q
end
section
variable {X:Cx}{e:bh}{te:XK→TE}{pos:Pos}
def hnd (X:Cx) (a:ae):Cx:={ X with A:=X.A.mark (some (.ref a)),calm:=false,xe:=fun _ _=>False }
def tTry (K:aa) (D:ae) (i:Nat) (tb:XK→TS) (th:TS):TS:=fun Dn σ H=>tb (fun cls _ H'=>∃ C,cls=.ref C∧Exc K C∧bj K C (.ref D)=some true ∧
  ∀ a,H' a=none→th { nx:=fun σ' H''=>Dn.nx (σ'.set i none) H'',rt:=Dn.rt,bk:=fun σ' H''=>Dn.bk (σ'.set i none) H'',ct:=fun σ' H''=>Dn.ct (σ'.set i none) H'' } (σ.set i (some (.ref a))) (upd H' a (Bh C a))) Dn σ H
theorem Inv.hnd {pins:List (ae×Obj)}{σ:St}{H:Hp}{s:al}{a:ae} (I:Inv X pins σ H s):Inv (L2.hnd X a) pins σ H s :=
 ⟨⟨I.ok.mod,I.ok.kind,I.ok.glob,I.ok.blt,I.ok.above,I.ok.inj,I.ok.has,I.ok.cab,fun z=>Bool.noConfusion (show false=true from z),I.ok.frames,I.ok.stk,I.ok.exf,I.ok.bs,I.ok.bsz,I.ok.noex,I.ok.exfs,I.ok.funs,I.ok.frf⟩,I.os,I.bare,I.base,I.loc,I.cell,I.free,I.freeC,I.pin,I.hok,I.len⟩
theorem Inv.unhnd {pins:List (ae×Obj)}{σ:St}{H:Hp}{s:al}{a:ae} (ok:X.Ok) (I:Inv (L2.hnd X a) pins σ H s):Inv X pins σ H s :=
 ⟨ok,I.os,I.bare,I.base,I.loc,I.cell,I.free,I.freeC,I.pin,I.hok,I.len⟩
theorem vc {M:Model}{A:bH}{E:af→al→Prop}{i:Nat}{n:Str}{pos:Pos}{pins:List (ae×Obj)}{σ:St}{H:Hp}{s:al}{Q:Unit→al→Prop} (I:Inv X pins σ H s) (hN:X.N.Nodup) (hi:X.N[i]?=some n) (hl:X.env.scope.names.lookup n=some .local)
  (h:∀ s',Inv X pins (σ.set i none) H s'→Q () s'):ba M A (do jH X.env n .none;unbindBehindTheSuite X.env n pos) Q E s:=by
 obtain ⟨m,hn,hm⟩:=id I.loc
 refine wpAny_nameGoes_keeps hl hn (by rw [I.ok.kind];rfl) fun h' v hn' hs=>h _ ?_
 obtain ⟨oL,_,_,hoL,_⟩:=id hn
 have hk:∀ b o,b≠X.env.locals→s.heap.get? b=some o→h'.get? b=some o:=fun b o hb e=>(hs.2 b hb).trans e
 have low:∀ b o,X.s₀.heap.get? b=some o→b≠X.env.locals:=fun b o e=>aQ (aA (aI e) I.ok.above)
 refine ⟨I.ok,I.os,I.bare,⟨fun b o e z hb hx=>hk b o (low b o e) (I.base.keep b o e z hb hx),fun b o e z hb hx=>?_,I.base.free,fun b o e hx=>?_,I.base.tups,I.base.frzs,I.base.tbls⟩,⟨_,hn',fun j y v' e1 e2 e3=>?_⟩,fun y c e=>?_,I.free,I.freeC,fun p hp=>?_,fun b u e=>?_,by simpa using I.len⟩
 ·obtain ⟨sl,e1⟩:=I.base.slot b o e z hb hx
  exact ⟨sl,hk b _ (low b o e) e1⟩
 ·obtain ⟨o',e1⟩:=I.base.there b o e hx
  exact ⟨o',hk b o' (low b o e) e1⟩
 ·have hj:j≠i:=fun z=>by
   subst z
   rw [iy] at e2
   simp only [if_true] at e2
   split at e2 <;> cases e2
  rw [fE (gn hj)] at e2
  obtain ⟨u,r,l⟩:=hm j y v' e1 e2 e3
  refine ⟨u,r,?_⟩
  rcases l with ⟨kd,e⟩ | ⟨kd,c,e,z⟩
  ·refine .inl ⟨kd,?_⟩
   have hy:y≠n:=fun z=>hj (vE hN e1 (z ▸ hi))
   simp only [if_neg hy]
   exact e
  ·exact .inr ⟨kd,c,e,z.sameBut hs (I.cne y c e)⟩
 ·obtain ⟨w',z⟩:=I.cell y c e
  exact ⟨w',z.sameBut hs (I.cne y c e)⟩
 ·obtain ⟨e,z,ne,nf,d⟩:=I.pin p hp
  exact ⟨hk _ _ ne e,z,ne,nf,d⟩
 ·refine (I.hok b u e).stay (fun c v hc q=>hk c v ?_ q) (fun _ q=>q) fun _ _ q=>q
  rintro rfl
  rcases hc with hc | hc
  ·rw [← hc,I.free] at e;cases e
  ·rw [I.free] at hc;cases hc
end
theorem flown {P:aV}{w:bz}{stk:List Env}{H H':Hp}{h0 h1 h2 B:bK}{a C:ae}{t:af} (un:Un (frs stk) [] H H' h0 h1) (hok:HOk P w H' h1) (fl:jA B stk a (.ref C) t h1)
  (inB:∀ b u o,H' b=some u→h1.get? b=some o→B.get? b=some o) (oldB:∀ b o,h0.get? b=some o→b∉frs stk→∃ o',h1.get? b=some o'∧B.get? b=some o') (st:B.StaysIn h2) (up:h1.UpToSlots h2) :
  Un (frs stk) [] H H' h0 h2∧HOk P w H' h2:=by
 have frame:∀ b o,h1.get? b=some o→b∈frs stk→∃ sl,h2.get? b=some { o with slots:=sl }:=fun b o e hb=>by
  obtain ⟨_,o3,e3,hnf⟩:=fl.2.2.1.mem (show b∈stk.filterMap (·.frame) from hb)
  rw [e] at e3
  cases e3
  exact up b o e hnf
 refine ⟨⟨fun b o e n hb hx=>?_,fun b o e n hb hx=>?_,un.free,fun b o e hx=>?_,un.tups,un.frzs,un.tbls⟩,fun b u e=>?_⟩
 ·have e2:=un.keep b o e n hb hx
  obtain ⟨o2,e3,e4⟩:=oldB b o e hb
  rw [e2] at e3
  cases e3
  exact st b _ e4
 ·obtain ⟨sl,e1⟩:=un.slot b o e n hb hx
  obtain ⟨sl2,e2⟩:=frame b _ e1 hb
  exact ⟨sl2,e2⟩
 ·by_cases hb:b∈frs stk
  ·obtain ⟨o1,e1⟩:=un.there b o e hx
   obtain ⟨sl2,e2⟩:=frame b _ e1 hb
   exact ⟨_,e2⟩
  ·obtain ⟨o2,e3,e4⟩:=oldB b o e hb
   exact ⟨o2,st b _ e4⟩
 ·refine (hok b u e).stay (fun c v hc q=>?_) (fun _ q=>q) fun _ _ q=>q
  rcases hc with z | z
  ·subst z
   exact st _ _ (inB _ u v e q)
  ·exact st _ _ (inB c _ v z q)
section
variable {X:Cx}{body:List bM}{x n:Str}{np hp pos:Pos}{b₀:bM}{bs:List bM}{tb:XK→TS}{th:TS}{D:ae}{i:Nat}
theorem Hv (hc:X.calm=true) (hst:X.stack=X.env::X.outer) (hf:X.env.frame=some X.env.locals) (hex:X.ex=[]) (hb:PSxs X body tb) (hg:Gl X x) (hm:X.mg x=some (.ref D)) (ZD:Exc X.K D)
  (hN:X.N.Nodup) (hi:X.N[i]?=some n) (hl:X.env.scope.names.lookup n=some .local) (hh:∀ a,PSs (hnd X a) (b₀::bs) th) (hd:(x == ("__debug__":Str))=false:=by decide) :
  PS X (.Try body [.ExceptHandler (some (.Name x np)) (some n) (b₀::bs) hp] [] [] pos) (tTry X.K D i tb th):=by
 intro pins s σ H Dn I h
 refine wpAny_Try_except (ce (hb pins s σ H Dn _ I h) (fun fl s1 q1=>?_) fun e s1 q1=>?_)
 ·cases fl with
  | next=>exact eU q1
  | brk=>exact q1
  | cont=>exact q1
  | ret v=>exact q1
 ·obtain ⟨H1,s2,J,a,C,t,B,H',rfl,hos,hbare,un,hok,fl,inB,oldB,C',eC,ZC,sub,hth⟩:=q1
  cases eC
  have hfrm:X.A.frames=some (X.env::X.outer):=by rw [← hst];exact J.ok.frames
  have ha:s2.heap.get? a=none:=by
   cases q:s2.heap.get? a with
   | none=>rfl
   | some o =>
    exfalso
    by_cases hb:a∈frs X.stack
    ·obtain ⟨_,o3,e3,hnf⟩:=fl.2.2.1.mem (show a∈X.stack.filterMap (·.frame) from hb)
     obtain ⟨oe,vs,e4,_,e5,_⟩:=fl.first
     rw [e4] at e3
     cases e3
     exact hnf vs e5
    ·obtain ⟨o',_,e⟩:=oldB a o q hb
     rw [fl.2.1] at e
     cases e
  have inv:∀ {h2:bK}{tk:Nat},B.StaysIn h2→s1.heap.UpToSlots h2→Inv X pins σ H' { s1 with heap:=h2,toks:=tk }:=fun {h2 tk} st up=>by
   obtain ⟨u2,ok2⟩:=flown un hok fl inB oldB st up
   exact J.call' (s':={ s1 with heap:=h2,toks:=tk }) (ch:=[]) hos u2 ok2 hbare (fun b z=>absurd z (by simp))
  have haH:H' a=none:=by
   cases q:H' a with
   | none=>rfl
   | some u =>
    exfalso
    obtain ⟨oe,e4,_⟩:=fl.there
    have:=inB a u oe q e4
    rw [fl.2.1] at this
    cases this
  have fl1:jA B (X.env::X.outer) a (.ref C) t s1.heap:=by rw [← hst];exact fl
  refine wpAny_looks_onW hfrm hf fl1 fun h4 held4 up4=>?_
  refine wpAny_landsW held4 fun h5 fl5 up5=>?_
  have I5:Inv X pins σ H' { s1 with heap:=h5 }:=inv (tk:=s1.toks) fl5.1 (up4.trans up5)
  have I5h:Inv (hnd X a) pins σ H' { s1 with heap:=h5 }:=I5.hnd
  refine wpAny_handleBy_cons (codeAny_handlers_test (qc (X:=hnd X a) I5h hg hm ?_ hd)) (by intro z;cases z)
  obtain ⟨oe,e4,ecls⟩:=fl5.there
  refine yT ZC ZD I5.kIn sub e4 ecls (codeAny_handlers_suite_as ?_)
  refine lands_againW fl5 fun h6 fl6 up6=>?_
  have I6:Inv X pins σ H' { s1 with heap:=h6 }:=inv (tk:=s1.toks) fl6.1 ((up4.trans up5).trans up6)
  have nea:∀ b o,s2.heap.get? b=some o→b≠a:=fun b o e z=>by rw [z,ha] at e;cases e
  have I7:Inv X pins σ (upd H' a (Bh C a)) { s1 with heap:=h6 }:=by
   refine ⟨I6.ok,I6.os,I6.bare,⟨I6.base.keep,I6.base.slot,fun b o e z hx=>?_,I6.base.there,fun b xs e=>?_,fun b o u e=>?_,fun b ps e=>?_⟩,I6.loc,I6.cell,?_,fun y c e=>?_,fun p hp=>?_,fun b u e=>?_,I6.len⟩
   ·obtain ⟨o',e'⟩:=J.base.there b o e hx
    rw [kA (nea b o' e')]
    exact I6.base.free b o e z hx
   ·rw [kA (kH (I6.base.tups b xs e) haH)]
    exact I6.base.tups b xs e
   ·rw [kA (kH (I6.base.frzs b o u e) haH)]
    exact I6.base.frzs b o u e
   ·obtain ⟨m1,e1⟩:=I6.base.tbls b ps e
    exact ⟨m1,by rw [kA (kH e1 haH)];exact e1⟩
   ·obtain ⟨m,⟨o,_,_,ho,_⟩,_⟩:=J.loc
    rw [kA (nea _ o ho)]
    exact I6.free
   ·obtain ⟨v,o,ho,_⟩:=J.cell y c e
    rw [kA (nea _ o ho)]
    exact I6.freeC y c e
   ·obtain ⟨e1,z1,r1⟩:=I6.pin p hp
    refine ⟨e1,?_,r1⟩
    rw [kA (nea _ _ (J.pin p hp).1)]
    exact z1
   ·by_cases hb:b=a
    ·subst hb
     rw [kD] at e
     cases e
     obtain ⟨oe,vs,e7,c7,d7,_⟩:=fl6.first
     exact Gd ⟨oe,vs,e7,c7,d7⟩
    ·rw [kA hb] at e
     exact (I6.hok b u e).stay (fun c v _ q=>q) (fun c q=>by rw [kA (kH q haH)];exact q) fun c xs q=>by rw [kA (kH q haH)];exact q
  refine qF (v:=.ref a) I7 hN hi (.inl hl) rfl (fun s8 I8=>?_) (.inr hl)
  refine ce (hh a pins s8 _ _ _ I8.hnd (hth a haH)) (fun fl9 s9 q9=>?_) fun _ _ z=>bu z
  have ok:=I8.ok
  cases fl9 with
  | next =>
   obtain ⟨σ9,H9,I9,q9⟩:=q9
   exact vc (I9.unhnd ok) hN hi hl fun s10 I10=>⟨_,H9,I10,q9⟩
  | brk =>
   obtain ⟨σ9,H9,I9,q9⟩:=q9
   exact vc (I9.unhnd ok) hN hi hl fun s10 I10=>⟨_,H9,I10,q9⟩
  | cont =>
   obtain ⟨σ9,H9,I9,q9⟩:=q9
   exact vc (I9.unhnd ok) hN hi hl fun s10 I10=>⟨_,H9,I10,q9⟩
  | ret v =>
   obtain ⟨y,σ9,H9,I9,r9,q9⟩:=q9
   exact vc (I9.unhnd ok) hN hi hl fun s10 I10=>⟨y,_,H9,I10,r9,q9⟩
theorem DF {st:bM}{t:XK→TS} (h:PSx X st t):PSxs X [st] t:=by
 intro pins s σ H Dn E I hq
 refine iA (thn (h pins s σ H Dn E I hq) fun f s1 q=>?_)
 cases f with
 | next=>exact eU q
 | brk=>exact q
 | cont=>exact q
 | ret v=>exact q
def leS (a b:Str):Bool:=!fA b.cps.toList a.cps.toList
theorem sg:∀ a:List Nat,fA a a=false
 | []=>rfl
 | a::r=>by
  show (decide (a < a) || (a == a && fA r r))=false
  rw [sg r]
  simp
theorem qx:∀ {a b c:List Nat},fA a b=true→fA b c=true→fA a c=true
 | [],_,[],h1,h2=>by
  cases ‹List Nat› with
  | nil=>exact h1
  | cons x r=>exact absurd (show fA (x::r) []=true from h2) (by intro z;cases z)
 | [],_,_::_,_,_=>rfl
 | a::r,[],_,h1,_=>by cases h1
 | a::r,b::t,[],_,h2=>by cases h2
 | a::r,b::t,c::u,h1,h2=>by
  have h1:(decide (a < b) || (a == b && fA r t))=true:=h1
  have h2:(decide (b < c) || (b == c && fA t u))=true:=h2
  show (decide (a < c) || (a == c && fA r u))=true
  simp only [cX,decide_eq_true_eq,bY,beq_iff_eq] at h1 h2 ⊢
  rcases h1 with h1 | ⟨e1,g1⟩
  ·rcases h2 with h2 | ⟨e2,g2⟩
   ·exact .inl (by omega)
   ·exact .inl (by omega)
  ·rcases h2 with h2 | ⟨e2,g2⟩
   ·exact .inl (by omega)
   ·exact .inr ⟨e1.trans e2,qx g1 g2⟩
theorem tL:∀ a b:List Nat,fA a b=false→fA b a=false→a=b
 | [],[],_,_=>rfl
 | [],_::_,h,_=>by cases h
 | _::_,[],_,h=>by cases h
 | a::r,b::t,h1,h2=>by
  have h1:(decide (a < b) || (a == b && fA r t))=false:=h1
  have h2:(decide (b < a) || (b == a && fA t r))=false:=h2
  simp only [jY,decide_eq_false_iff_not,Bool.and_eq_false_iff,beq_eq_false_iff_ne] at h1 h2
  have e:a=b:=by omega
  subst e
  rw [tL r t (h1.2.resolve_left fun z=>z rfl) (h2.2.resolve_left fun z=>z rfl)]
theorem Ck (a b:Str):leS a b=true∨leS b a=true:=by
 unfold leS
 cases h:fA b.cps.toList a.cps.toList with
 | false=>exact .inl rfl
 | true =>
  right
  cases h2:fA a.cps.toList b.cps.toList with
  | false=>rfl
  | true =>
   have:=qx h h2
   rw [sg] at this
   cases this
theorem Ef {a b:Str} (h1:leS a b=true) (h2:leS b a=true):a=b:=by
 unfold leS at h1 h2
 have e:=tL b.cps.toList a.cps.toList (by simpa using h1) (by simpa using h2)
 obtain ⟨⟨x⟩⟩:=a
 obtain ⟨⟨y⟩⟩:=b
 have e:y=x:=e
 rw [e]
theorem wY {a b c:Str} (h1:leS a b=true) (h2:leS b c=true):leS a c=true:=by
 unfold leS at *
 cases h:fA c.cps.toList a.cps.toList with
 | false=>rfl
 | true =>
  exfalso
  have h1:fA b.cps.toList a.cps.toList=false:=by simpa using h1
  have h2:fA c.cps.toList b.cps.toList=false:=by simpa using h2
  cases h3:fA b.cps.toList c.cps.toList with
  | true =>
   have:=qx h3 h
   rw [h1] at this
   cases this
  | false =>
   have e:=tL _ _ h3 h2
   rw [e,h] at h1
   cases h1
def C0 (x:Str):List Str→List Str
 | []=>[x]
 | y::r=>if leS x y then x::y::r else y::C0 x r
def srt:List Str→List Str
 | []=>[]
 | x::r=>C0 x (srt r)
theorem tO (x:Str):∀ l,(C0 x l).Perm (x::l)
 | []=>.refl _
 | y::r=>by
  unfold C0
  split
  ·exact .refl _
  ·exact ((tO x r).cons y).trans (.swap x y r)
theorem kX:∀ l,(srt l).Perm l
 | []=>.refl _
 | x::r=>(tO x (srt r)).trans ((kX r).cons x)
theorem t4 (x:Str):∀ l,l.Pairwise (fun a b=>leS a b=true)→(C0 x l).Pairwise (fun a b=>leS a b=true)
 | [],_=>by simp [C0]
 | y::r,h=>by
  obtain ⟨h1,h2⟩:=cQ.mp h
  unfold C0
  split
  ·rename_i hxy
   refine cQ.mpr ⟨fun z hz=>?_,h⟩
   rcases aj.mp hz with rfl | hz
   ·exact hxy
   ·exact wY hxy (h1 z hz)
  ·rename_i hxy
   refine cQ.mpr ⟨fun z hz=>?_,t4 x r h2⟩
   rcases aj.mp ((tO x r).mem_iff.mp hz) with rfl | hz
   ·exact (Ck z y).resolve_left hxy
   ·exact h1 z hz
theorem pO:∀ l,(srt l).Pairwise (fun a b=>leS a b=true)
 | []=>.nil
 | x::r=>t4 x _ (pO r)
theorem oF:∀ {l m:List Str},l.Perm m→l.Pairwise (fun a b=>leS a b=true)→m.Pairwise (fun a b=>leS a b=true)→l=m
 | [],m,p,_,_=>(List.nil_perm.mp p).symm
 | a::l,[],p,_,_=>absurd (List.perm_nil.mp p) (by simp)
 | a::l,b::m,p,h1,h2=>by
  obtain ⟨a1,a2⟩:=cQ.mp h1
  obtain ⟨b1,b2⟩:=cQ.mp h2
  have e:a=b:=by
   have ha:a∈b::m:=p.mem_iff.mp ar
   have hb:b∈a::l:=p.mem_iff.mpr ar
   rcases aj.mp ha with e | ha
   ·exact e
   ·rcases aj.mp hb with e | hb
    ·exact e.symm
    ·exact Ef (a1 b hb) (b1 a ha)
  subst e
  rw [oF (List.Perm.cons_inv p) a2 b2]
theorem yH {l m:List Str} (p:l.Perm m):srt l=srt m:=oF ((kX l).trans (p.trans (kX m).symm)) (pO l) (pO m)
theorem kO (l:List Str):(srt l).length=l.length:=(kX l).length_eq
theorem pR:∀ (p:Str) (l:List Str),risingS p l=true→(p::l).Pairwise (fun a b=>leS a b=true)
 | p,[],_=>List.pairwise_singleton _ _
 | p,x::r,h=>by
  have h:(!fA x.cps.toList p.cps.toList && risingS x r)=true:=h
  rw [bY] at h
  have ih:=pR x r h.2
  refine cQ.mpr ⟨fun z hz=>?_,ih⟩
  rcases aj.mp hz with rfl | hz
  ·exact h.1
  ·exact wY (show leS p x=true from h.1) ((cQ.mp ih).1 z hz)
theorem sS:∀ (l:List Str),sortedS l=true→l.Pairwise (fun a b=>leS a b=true)
 | [],_=>.nil
 | x::r,h=>pR x r h
theorem ET {l m:List Str} (p:l.Perm m) (h:sortedS l=true):l=srt m:=oF (p.trans (kX m).symm) (sS l h) (pO m)
theorem uJ:∀ {ss:List Str}{us:List af},Vals (ss.map V.str) us→StrsAre us ss
 | [],_,.nil=>.nil
 | x::ss,_,.cons ⟨t,e⟩ r=>by subst e;exact .cons x t (uJ r)
theorem x8:∀ {ss:List Str}{us:List af},StrsAre us ss→Vals (ss.map V.str) us
 | _,_,.nil=>.nil
 | _,_,.cons x t r=>.cons ⟨t,rfl⟩ (x8 r)
theorem A0:∀ (xs:List V) (us:List af),xs.length=us.length→(∀ (j:Nat) x u,xs[j]?=some x→us[j]?=some u→RelV x u)→Vals xs us
 | [],[],_,_=>.nil
 | [],_::_,e,_=>by cases e
 | _::_,[],e,_=>by cases e
 | x::xs,u::us,e,h=>.cons (h 0 x u rfl rfl) (A0 xs us (Nat.succ.inj e) fun j y v e1 e2=>h (j+1) y v (by simpa using e1) (by simpa using e2))
theorem call_sortedL:CallR X (.builtin "sorted") (fun xs H Q=>∃ p ss,xs=[.ref p]∧SqL X.K H p (ss.map V.str)∧ss.length < 64∧∀ l,H l=none→Q (.ref l) (upd H l (.lst ((srt ss).map V.str)))):=by
 intro pins s σ H xs us Q I r h
 obtain ⟨p,ss,rfl,hq,hz,q⟩:=h
 obtain ⟨u,rfl,ru⟩:=oW r
 cases ru
 obtain ⟨its,rv,pl,hz2⟩:=I.list hq
 have hS:=uJ rv
 have hl:its.length=ss.length:=by have:=rv.length;rw [aq] at this;exact this.symm
 refine sorted_strs pl.isList hS (by omega) fun out ss' h1 h2 h3=>?_
 have e:=ET h2 h3
 subst e
 obtain ⟨ep,hat⟩:=sortedAll_at s.heap its out
 have hf:H (s.heap.objs.size+1)=none:=I.hok.fresh (eR _)
 refine ⟨.ref _,_,I.laid (t':=s.toks) (fun b o e=>sortedAll_old e) (eR _) (o:=.lst ((srt ss).map V.str)) ?_,rfl,q _ hf⟩
 refine ⟨?_,out.toList,ep,x8 h1,?_⟩
 ·rw [aq,kO]
  exact aN (cE hz) (by decide)
 ·rw [hat]
theorem nS (hc:X.calm=true):CallR X (.builtin "sorted") (fun xs H Q=>∃ p kvs ss,xs=[.ref p]∧Rd H p (.dK kvs)∧kvs.map (·.1)=ss.map aE∧ss.length < 64∧∀ l,H l=none→Q (.ref l) (upd H l (.lst ((srt ss).map V.str)))):=by
 intro pins s σ H xs us Q I r h
 obtain ⟨p,kvs,ss,rfl,hq,hk,hz,q⟩:=h
 obtain ⟨u,rfl,ru⟩:=oW r
 cases ru
 obtain ⟨z,hsys,vs,rel,dd⟩:=sM I.hok hq
 obtain ⟨ep,hat⟩:=dd.dictAt
 have hlen:vs.length=ss.length:=by
  have e1:=rel.length
  have e2:=congrArg dF hk
  rw [aq,aq] at e2
  omega
 refine Calls.call_function_entry kind_sorted plain_sorted entry_sorted (args_sorted1 _) ?_
 unfold Builtin.«sorted»
 refine aB (m:=checkCount "sorted" 1 1 _) (aX ?_)
 refine aB (PySem.W.kdu_collect (A:=X.A.in1) (PySem.W.kdl_dict (knd:=lj X.prog X.w) (kvs:=vs) (ep:=ep) hsys) (I.ok.hd hc) hat (aN (by omega) (show 64≤aP by decide)) fun h' tk acc hkp hacc=>?_)
 have hl:acc.toList.length=vs.length:=by rw [fG];exact hacc.1
 have hS:StrsAre acc.toList ss:=by
  refine uJ (A0 _ _ (by rw [aq,hl,hlen]) fun j x u e1 e2=>?_)
  obtain ⟨k,y,e3,e4⟩:=hacc.2 j u (by rw [← Array.getElem?_toList];exact e2)
  have e5:(vs.map (·.1))[j]?=some k:=by rw [bv,e3];rfl
  rw [← rel.keys,hk,bv] at e5
  rw [bv] at e1
  cases e6:ss[j]? with
  | none=>rw [e6] at e1;cases e1
  | some z =>
   rw [e6] at e1 e5
   have e1:V.str z=x:=a8 e1
   have e5:aE z=k:=a8 e5
   subst e1 e5
   rcases lh (k:=aE z) (v:=u) e4 with ⟨i,t,q1,_⟩ | ⟨y',t,q1,q2⟩
   ·cases q1
   ·cases q1
    exact ⟨t,q2⟩
 refine aB (wpAny_newList ?_ (by rw [hl];exact aN (by omega) (show 64≤aP by decide)))
 have hoL:(h'.push (seqObj "list" acc.toList.toArray 0)).get? h'.objs.size=some (seqObj "list" acc.toList.toArray 0):=bg _ rfl
 refine aB (dz (wpAny_call_entry slot_list_sort ⟨_,hoL,rfl⟩ entry_list_sort (list_sort_treeK strKind_oneLt hoL hS.keysOf (fun v₁ v₂ lK e=>keyKind_strs (by rw [← e];exact hS)) (by omega) fun st' a1 a2=>⟨_,rfl,?_⟩) (args_list_sort _)))
 refine aX ⟨_,rfl,?_⟩
 obtain ⟨ss',h1,h2,h3⟩:=sorted_out_str hS a1 a2
 have e:=ET h2 h3
 subst e
 have I1:Inv X pins σ H { s with heap:=h',toks:=tk }:=I.kept hkp
 obtain ⟨e',hat'⟩:=sortedHeap_at (out:=(arrOf st').map (·.2)) hoL
 have hf:H h'.objs.size=none:=I1.hok.fresh (aC _)
 refine ⟨.ref _,_,I1.laid (t':=tk) (fun b o e=>?_) (aC _) (o:=.lst ((srt ss).map V.str)) ?_,rfl,q _ hf⟩
 ·have hlt:b < h'.objs.size:=aI e
  refine (sortedHeap_old (aQ hlt) (by rw [size_push'];exact iE hlt)).trans ?_
  exact ax _ e
 ·refine ⟨?_,((arrOf st').map (·.2)).toList,e',x8 h1,?_⟩
  ·rw [aq,kO]
   exact aN (cE hz) (by decide)
  ·exact hat'
end
def Its (x:Str):It:=⟨fun i _=>i < x.cps.size,fun i H v H'=>H'=H∧∃ c,x.cps[i]?=some c∧v=.str ⟨#[c]⟩,fun i _=>x.cps.size≤i⟩
theorem wF {P:aV}{w:bz}{A:bH} (hh:A.handled=none) (it:ae) (x:Str) (t:Tok):Walks P w A it [it] [it] x.cps.size (SignAt x) (fun i h=>h.IsStrIter it (ig x) x t i):=by
 unfold ig
 split
 ·exact Walks.strAscii hh it x t
 ·exact Walks.strWide hh it x t
theorem C8 {P:aV}{w:bz}{K:aa}{tg:bh} (it:ae) (x:Str) (t:Tok):Turn P w K tg (Its x) [it] it (fun i h=>i≤x.cps.size∧h.IsStrIter it (ig x) x t i) where
 mem:=by simp
 obj:=fun i h st b hb=>by
  have e:b=it:=by simpa using hb
  subst e
  obtain ⟨_,o,e,c,d⟩:=st
  exact ⟨o,e,fun v z=>by rw [d] at z;cases z⟩
 keep:=fun i h h' st k=>by
  obtain ⟨z,o,e,c,d⟩:=st
  exact ⟨z,o,k it (by simp) o e,c,d⟩
 item:=by
  intro X hP hw hK hc i pins s σ H E I hf st hg
  subst hP hw hK
  obtain ⟨f0,f1,f2,f3,f4,f5⟩:=hf it (by simp)
  refine (wF (I.ok.hd hc) it x t).item i s _ _ hg st.2 fun v h' tk hv st' kk=>?_
  obtain ⟨c,u,e1,e2⟩:=hv
  subst e2
  have I1:Inv X pins σ H { s with heap:=h',toks:=tk }:=I.turned (fun b o hb e=>kk b o (by simpa using hb) e) f0 f1 f3 f4 f5
  obtain ⟨o,e,cl,d⟩:=id st'
  refine ⟨_,rfl,Au (s:={ s with heap:=h',toks:=tk }) e cl d ?_ ⟨.str ⟨#[c]⟩,H,I1,⟨u,rfl⟩,⟨rfl,c,e1,rfl⟩,⟨hg,st'⟩,fun b hb=>(hf b hb).1⟩⟩
  unfold ig
  split <;> decide
 done:=by
  intro X hP hw hK hc i pins s σ H E I hf st hg
  subst hP hw hK
  obtain ⟨f0,f1,f2,f3,f4,f5⟩:=hf it (by simp)
  have e:i=x.cps.size:=i7 st.1 hg
  subst e
  exact (wF (I.ok.hd hc) it x t).done s _ _ st.2 fun h' tk kk=>⟨rfl,I.turned (fun b o hb e=>kk b o (by simpa using hb) e) f0 f1 f3 f4 f5⟩
 self:=fun A i s Q E st h=>by
  obtain ⟨_,st⟩:=st
  unfold ig at st
  split at st
  ·exact wpAny_pyIter_striter_ascii st h
  ·exact wpAny_pyIter_striter_wide st h
section
variable {X:Cx}{tg:bh}
def iStr (tl:TE):TI:=fun σ H R=>tl σ H fun v H1=>∃ x,v=.str x∧R (Its x) H1
theorem Hz {l:bh}{tl:TE} (hl:PE X l tl):PI X tg l (iStr tl):=by
 intro pins s σ H R I h
 refine thn (hl pins s σ H _ I h) fun v s1 ⟨y,H1,I1,r1,q1⟩=>?_
 obtain ⟨x,e,q⟩:=q1
 subst e
 obtain ⟨t,rfl⟩:=r1
 refine wpAny_pyIter_strU ?_
 refine ⟨s1.heap.objs.size,[s1.heap.objs.size],_,_,H1,rfl,I1.kept (t':=s1.toks) fun b o e=>ax _ e,C8 _ x t,⟨bA _,_,bg _ rfl,rfl,rfl⟩,fun b hb=>?_,q⟩
 have e:b=s1.heap.objs.size:=by simpa using hb
 subst e
 exact I1.fpOk (aC _) (I1.hok.fresh (aC _))
end
section
variable {X:Cx}{pins:List (ae×Obj)}{σ:St}{H:Hp}{s:al}{d:ae}{kvs:List (Key×V)}{ob:Obj}
theorem Inv.redo {u u':HO} (I:Inv X pins σ H s) (hd:H d=some u) (n1:∀ y,u≠.own y) (n2:∀ xs,u≠.tup xs) (n3:∀ o v,X.H₀ d≠some (.frz o v)) (n4:∀ ps,u≠.tbl ps) (ok:ObjOk X.prog X.w (upd H d u') s.heap d u'):Inv X pins σ (upd H d u') s:=by
 have ne:∀ b v,H b=some v→v≠u→b≠d:=fun b v e hv z=>by
  subst z
  rw [hd] at e
  exact hv (a8 e).symm
 have nn:∀ b,H b=none→b≠d:=fun b e z=>by
  subst z
  rw [hd] at e
  cases e
 refine ⟨I.ok,I.os,I.bare,⟨I.base.keep,I.base.slot,fun b o e z hx=>?_,I.base.there,fun b xs e=>?_,fun b o v e=>?_,fun b ps e=>?_⟩,I.loc,I.cell,?_,fun y c e=>?_,fun p hp=>?_,fun b v e=>?_,I.len⟩
 ·have:=I.base.free b o e z hx
  rw [kA (nn b this)]
  exact this
 ·have:=I.base.tups b xs e
  rw [kA (ne b _ this fun z=>n2 xs z.symm)]
  exact this
 ·have:=I.base.frzs b o v e
  have hb:b≠d:=fun z=>by subst z;exact n3 o v e
  rw [kA hb]
  exact this
 ·obtain ⟨m,e1⟩:=I.base.tbls b ps e
  exact ⟨m,by rw [kA (ne b _ e1 fun z=>n4 _ z.symm)];exact e1⟩
 ·rw [kA (nn _ I.free)]
  exact I.free
 ·rw [kA (nn _ (I.freeC y c e))]
  exact I.freeC y c e
 ·obtain ⟨e1,z1,r1⟩:=I.pin p hp
  exact ⟨e1,by rw [kA (nn _ z1)];exact z1,r1⟩
 ·by_cases hb:b=d
  ·subst hb
   rw [kD] at e
   cases e
   exact ok
  ·rw [kA hb] at e
   exact (I.hok b v e).stay (fun c v _ q=>q) (fun c q=>by rw [kA (ne c _ q fun z=>n1 _ z.symm)];exact q) fun c xs q=>by rw [kA (ne c _ q fun z=>n2 _ z.symm)];exact q
theorem G6 {P:aV}{w:bz}{H H':Hp}{h:bK} (x:ObjOk P w H h d (.dK kvs)):ObjOk P w H' h d (.dK kvs):=x
theorem Inv.freeze (I:Inv X pins σ H s) (hd:H d=some (.dK kvs)) (ho:s.heap.get? d=some ob):Inv X pins σ (upd H d (.frz ob (.dK kvs))) s :=
 I.redo hd (by intro y z;cases z) (by intro y z;cases z) (fun o v z=>by rw [I.base.frzs d o v z] at hd;cases hd) (by intro y z;cases z) ⟨ho,G6 (I.hok d _ hd)⟩
theorem Inv.thaw (I:Inv X pins σ H s) (hd:H d=some (.frz ob (.dK kvs))) (n3:∀ o v,X.H₀ d≠some (.frz o v)):Inv X pins σ (upd H d (.dK kvs)) s :=
 I.redo hd (by intro y z;cases z) (by intro y z;cases z) n3 (by intro y z;cases z) (G6 (show ObjOk X.prog X.w H s.heap d (.frz ob (.dK kvs)) from I.hok d _ hd).2)
end
def Itd (d:ae) (ob:Obj) (kvs:List (Key×V)):It :=
 ⟨fun i H=>i < kvs.length∧H d=some (.frz ob (.dK kvs)),fun i H v H'=>H'=H∧∃ kv,kvs[i]?=some kv∧v=kV kv.1,fun i H=>kvs.length≤i∧H d=some (.frz ob (.dK kvs))⟩
theorem EV {X:Cx}{pins:List (ae×Obj)}{σ:St}{H:Hp}{s:al}{d:ae}{kvs:List (Key×V)}{ob:Obj}{es0:Array DictEntry}{ep:Nat} (I:Inv X pins σ H s) (hd:H d=some (.frz ob (.dK kvs))) (he:ob.data=.dict es0 ep) :
  ∃ vs,KV kvs vs∧s.heap.DictAt (lj X.prog X.w) d vs ep:=by
 obtain ⟨e,z,_,vs,rel,dd⟩:=(show ObjOk X.prog X.w H s.heap d (.frz ob (.dK kvs)) from I.hok d _ hd)
 obtain ⟨ep',o,es,e1,e2,e3,e4⟩:=dd.dictAt
 rw [e] at e1
 cases e1
 rw [he] at e3
 cases e3
 exact ⟨vs,rel,ob,_,e,e2,he,e4⟩
theorem wK {P:aV}{w:bz}{K:aa}{tg:bh} (d it:ae) (ob:Obj) (kvs:List (Key×V)) (es0:Array DictEntry) (ep:Nat) (he:ob.data=.dict es0 ep) :
  Turn P w K tg (Itd d ob kvs) [it] it (fun i h=>i≤kvs.length∧h.IsKeyIter it d i kvs.length ep) where
 mem:=by simp
 obj:=fun i h st b hb=>by
  have e:b=it:=by simpa using hb
  subst e
  obtain ⟨_,o,e,c,d⟩:=st
  exact ⟨o,e,fun v z=>by rw [d] at z;cases z⟩
 keep:=fun i h h' st k=>by
  obtain ⟨z,o,e,c,d⟩:=st
  exact ⟨z,o,k it (by simp) o e,c,d⟩
 item:=by
  intro X hP hw hK hc i pins s σ H E I hf st hg
  subst hP hw hK
  obtain ⟨f0,f1,f2,f3,f4,f5⟩:=hf it (by simp)
  obtain ⟨hi,hd⟩:=hg
  obtain ⟨vs,rel,at_⟩:=EV I hd he
  have hl:=rel.length
  have hiv:i < vs.length:=by omega
  have hit:s.heap.IsKeyIter it d i vs.length ep:=by rw [← hl];exact st.2
  refine wpAny_pyNext_dict_item (k:=vs[i].1) (v:=vs[i].2) hit at_ (by simp [hiv]) fun key h' hk it' sb=>?_
  have I1:Inv X pins σ H { s with heap:=h' }:=I.turned (t':=s.toks) (fun b o hb e=>(sb.2 b hb).trans e) f0 f1 f3 f4 f5
  have hkey:kvs[i].1=vs[i].1:=by
   have e1:(kvs.map (·.1))[i]?=(vs.map (·.1))[i]?:=by rw [rel.keys]
   rw [bv,bv,bB hi,bB hiv] at e1
   exact a8 e1
  obtain ⟨o,e,cl,dt⟩:=id it'
  refine ⟨key,rfl,Au (s:={ s with heap:=h' }) e cl dt (by decide) ⟨kV kvs[i].1,H,I1,?_,⟨rfl,kvs[i],by simp [hi],rfl⟩,⟨hi,by rw [hl];exact it'⟩,fun b hb=>(hf b hb).1⟩⟩
  rw [hkey]
  have hk:wy vs[i].1 key=true:=hk
  rcases lh hk with ⟨z,t,q1,q2⟩ | ⟨z,t,q1,q2⟩
  ·rw [q1,q2];exact ⟨t,rfl⟩
  ·rw [q1,q2];exact ⟨t,rfl⟩
 done:=by
  intro X hP hw hK hc i pins s σ H E I hf st hg
  subst hP hw hK
  obtain ⟨f0,f1,f2,f3,f4,f5⟩:=hf it (by simp)
  obtain ⟨hi,hd⟩:=hg
  obtain ⟨vs,rel,at_⟩:=EV I hd he
  have hl:=rel.length
  have hit:s.heap.IsKeyIter it d i vs.length ep:=by rw [← hl];exact st.2
  exact wpAny_pyNext_dict_end (I.ok.hd hc) hit at_ (by simp;omega) fun h' eb=>⟨rfl,I.turned (t':=s.toks) (fun b o hb e=>eb b o hb e) f0 f1 f3 f4 f5⟩
 self:=fun A i s Q E st h=>by
  exact wpAny_pyIter_keyiter st.2 h
section
variable {X:Cx}{tg:bh}
def Nm (x:Str):Prop:=x.length≤100∧∀ c∈x.cps.toList,c < 16 ^ 8
theorem wU:OpR X (bP .LtE) (fun x y H Q=>∃ i j,x=.str i∧y=.str j∧Q (.bl (!decide (j.cps.toList < i.cps.toList))) H):=by
 intro pins s σ H x y v u Q I rx ry h
 obtain ⟨i,j,rfl,rfl,q⟩:=h
 obtain ⟨t,rfl⟩:=rx
 obtain ⟨t',rfl⟩:=ry
 exact PySem.P.le_str ⟨.bl _,H,I,rfl,q⟩
theorem FZ:MtR X "str.join" (fun x vs H Q=>∃ (z:Str) (p:ae) (ys:List Str),x=.str z∧vs=[.ref p]∧SqL X.K H p (ys.map V.str)∧(ys.map (·.length)).sum+ys.length * z.length≤16777216∧Q (.str (gv z ys)) H):=by
 intro pins s σ H x vs v us Q I rx rv h
 obtain ⟨z,p,ys,rfl,rfl,hq,hz,q⟩:=h
 obtain ⟨t,rfl⟩:=rx
 obtain ⟨u,rfl,ru⟩:=rv.one
 cases ru
 obtain ⟨its,r,pl,hz2⟩:=I.list hq
 exact join_list pl.isList (by simpa using uJ r) hz fun t' k=>⟨.str _,H,I.tok k,⟨t',rfl⟩,q⟩
theorem zM:CallR X (.builtin "all") (fun xs H Q=>∃ (p:ae) (bs:List Bool),xs=[.ref p]∧SqL X.K H p (bs.map V.bl)∧X.calm=true∧Q (.bl (bs.all id)) H):=by
 intro pins s σ H xs us Q I r h
 obtain ⟨p,bs,rfl,hq,hc,q⟩:=h
 obtain ⟨u,rfl,ru⟩:=oW r
 cases ru
 obtain ⟨its,rv,pl,hz2⟩:=I.list hq
 have hl:its.length=bs.length:=by have:=rv.length;rw [aq] at this;exact this.symm
 have hne:p≠s.heap.objs.size:=by obtain ⟨o,ho,_⟩:=pl.isList;exact aQ (aI ho)
 refine call_all_walk (fm pl.isList ?_)
 refine ⟨s.heap.objs.size,_,_,its.toArray.size,_,_,fun i=>(bs[i]?).getD true,rfl,j5 (show X.A.in1.handled=none from I.ok.hd hc) _ p hne its.toArray,⟨⟨_,bg _ rfl,rfl,rfl⟩,pl.isList.push _⟩,?_,fun h' tk hk=>?_⟩
 ·intro i v s' Q' E' hP hQ
  have hP:its.toArray[i]?=some v:=hP
  have hv:its[i]?=some v:=by simpa using hP
  have hi:i < its.length:=(aZ.mp hv).1
  obtain ⟨u',hu',ru'⟩:=rv.get (i:=i) (x:=.bl bs[i]) (by simp [← hl,hi])
  rw [hv] at hu'
  cases hu'
  cases ru'
  refine de ?_
  have e:(bs[i]?).getD true=bs[i]:=by simp [← hl,hi]
  rw [← e]
  exact hQ
 ·have I1:Inv X pins σ H { s with heap:=h',toks:=tk }:=I.kept fun b o e=>hk b o (fun z=>by
   have e1:b=s.heap.objs.size:=by simpa using z
   exact absurd (aI e) (by rw [e1];exact cD _)) (ax _ e)
  refine ⟨.bl _,H,I1,rfl,?_⟩
  have e:(dG its.toArray.size).all (fun i=>(bs[i]?).getD true)=bs.all id:=by
   rw [aU,hl,bL,dw,dw]
   constructor
   ·intro z b hb
    obtain ⟨i,hi,rfl⟩:=jW.mp hb
    have:=z i (eY.mpr hi)
    simpa [hi] using this
   ·intro z i hi
    have hi:=eY.mp hi
    simpa [hi] using z bs[i] (cO hi)
  rw [e]
  exact q
def Gf:List V→List V→Bool
 | [],[]=>true
 | x::xs,y::ys=>eqV x y && Gf xs ys
 | _,_=>false
theorem zC:∀ {xs ys:List V},xs.length=ys.length→Gf xs ys=(dG xs.length).all fun i=>eqV ((xs[i]?).getD .non) ((ys[i]?).getD .non)
 | [],[],_=>rfl
 | [],_::_,h=>by cases h
 | _::_,[],h=>by cases h
 | x::xs,y::ys,h=>by
  show (eqV x y && Gf xs ys)=_
  rw [zC (Nat.succ.inj h),ap,jE,ia,fL]
  rfl
theorem At {A:bH}{s:al}{xs ys:List V}{us ws:List af} (rx:Vals xs us) (ry:Vals ys ws) (hl:xs.length=ys.length) (fx:xs.all pU=true) (fy:ys.all pU=true) :
  ∀ j (h1:j < us.toArray.size) (h2:j < ws.toArray.size),j8 A s us.toArray[j] ws.toArray[j] (eqV ((xs[j]?).getD .non) ((ys[j]?).getD .non)):=by
 intro j h1 h2
 have e1:=rx.length
 have e2:=ry.length
 have h1':j < xs.length:=by rw [e1];simpa using h1
 have h2':j < ys.length:=by rw [e2];simpa using h2
 obtain ⟨u,hu,ru⟩:=rx.get (i:=j) (x:=xs[j]) (by simp [h1'])
 obtain ⟨w,hw,rw'⟩:=ry.get (i:=j) (x:=ys[j]) (by simp [h2'])
 have e3:us.toArray[j]=u:=by
  have:us[j]?=some us.toArray[j]:=by simp [show j < us.length by simpa using h1]
  rw [hu] at this
  exact (a8 this).symm
 have e4:ws.toArray[j]=w:=by
  have:ws[j]?=some ws.toArray[j]:=by simp [show j < ws.length by simpa using h2]
  rw [hw] at this
  exact (a8 this).symm
 rw [e3,e4]
 have e5:(xs[j]?).getD .non=xs[j]:=by simp [h1']
 have e6:(ys[j]?).getD .non=ys[j]:=by simp [h2']
 rw [e5,e6]
 exact EX ru rw' (dw.mp fx _ (cO h1')) (dw.mp fy _ (cO h2'))
def gLst (K:aa) (n:Nat) (t:TGs):TG:=fun v σ H Q=>∃ a xs,v=.ref a∧SqL K H a xs∧xs.length=n∧t xs σ H Q
theorem HC {es:List bh}{k:Nat}{t:TGs}{n:Nat}{pos:Pos} (hc:X.calm=true) (h:PGs X es t)
  (hn:(cG es X.env).length=n:=by rfl) (hst:(cG es X.env).findIdx? (·.1)=none:=by rfl):PG X (.Tuple es k pos) (gLst X.K n t):=by
 intro pins s σ H v u Q I r hw
 obtain ⟨a,xs,e1,hq,hl,hw⟩:=hw
 subst e1
 cases r
 obtain ⟨its,rv,ht,hz⟩:=I.list hq
 rw [assign_Tuple]
 refine aB (iG ?_)
 unfold unpack
 have hsz:(cG es X.env).length=its.toArray.size:=by simp [hn,← hl,rv.length]
 rw [hsz,hst]
 refine aB (dz (PySem.W.kun_itemsOf (I.ok.hd hc) ht.isList fun h' hx=>?_))
 have I1:Inv X pins σ H { s with heap:=h' }:=I.kept (t':=s.toks) fun b o e=>hx b o (aQ (aI e)) e
 exact h pins _ σ H xs _ Q I1 (by simpa using rv) hw
def PJ (X:Cx) (es:List bh) (t:St→Hp→(Hp→Prop)→Prop):Prop:=∀ (pins:List (ae×Obj)) (s:al) (σ:St) (H:Hp) (acc:Str) (n:Nat) (Q:Hp→Prop),Inv X pins σ H s→acc.length≤2000 * n→n+es.length≤100→t σ H Q →
 Joins (model X.prog X.w) X.A X.xe (evalEach es X.env) acc (fun out s1=>out.length≤aP∧∃ H',Inv X pins σ H' s1∧Q H') s
def jNil:St→Hp→(Hp→Prop)→Prop:=fun _ H Q=>Q H
def jRep (te:TE) (t:St→Hp→(Hp→Prop)→Prop):St→Hp→(Hp→Prop)→Prop:=fun σ H Q=>te σ H fun v H1=>(∃ x,v=.str x∧Nm x)∧t σ H1 Q
theorem vV:PJ X [] jNil:=fun pins s σ H acc n Q I h1 h2 h=>⟨aN h1 (aN (km 2000 (show n≤100 by simpa using h2)) (by decide)),H,I,h⟩
theorem oU (a b:Str):(a++b).length=a.length+b.length:=strLen_append a b
theorem vU {c:Str}{j pos}{es:List bh}{t:St→Hp→(Hp→Prop)→Prop} (hr:PJ X es t) (hl:c.length≤2000:=by decide):PJ X (.Constant (.str c) j pos::es) t:=by
 intro pins s σ H acc n Q I h1 h2 h
 have h2:n+(es.length+1)≤100:=h2
 refine j9 ⟨c,s.toks,rfl,?_,hr pins _ σ H (acc++c) (n+1) Q (I.tok _) ?_ (by omega) h⟩
 ·rw [oU]
  exact aN (show acc.length+c.length≤2000 * 101 by omega) (by decide)
 ·rw [oU]
  omega
theorem um {e:bh}{pos:Pos}{es:List bh}{te:TE}{t:St→Hp→(Hp→Prop)→Prop} (he:PE X e te) (hr:PJ X es t):PJ X (.FormattedValue e 114 none pos::es) (jRep te t):=by
 intro pins s σ H acc n Q I h1 h2 h
 have h2:n+(es.length+1)≤100:=h2
 refine wpAny_FormattedValue_repr (thn (he pins s σ H _ I h) fun v s1 ⟨y,H1,I1,r1,⟨x,e1,nm⟩,q1⟩=>?_)
 subst e1
 obtain ⟨tk,rfl⟩:=r1
 have hlen:(gO x).length≤1002:=aN (PySem.StrLaws.reprText_len x nm.2) (by have:=nm.1;omega)
 have hsz:(gO x).length≤aP:=aN hlen (by decide)
 have fin:∀ tk s2,Inv X pins σ H1 s2→∃ y t',gk (gO x) tk=.str y t'∧(acc++y).length≤aP∧Joins (model X.prog X.w) X.A X.xe (evalEach es X.env) (acc++y) (fun out s1=>out.length≤aP∧∃ H',Inv X pins σ H' s1∧Q H') s2:=fun tk s2 I2=>by
  refine ⟨_,tk,rfl,?_,hr pins s2 σ H1 _ (n+1) Q I2 ?_ (by omega) q1⟩
  ·rw [oU]
   exact aN (show acc.length+(gO x).length≤2000 * 101 by omega) (by decide)
  ·rw [oU]
   omega
 refine wpAny_pyReprObj_str ?_ hsz
 exact wpAny_formatField_str (fin _ _ (I1.tok _)) (fin _ _ ((I1.tok _).tok _)) hsz
def tFs (t:St→Hp→(Hp→Prop)→Prop):TE:=fun σ H Q=>t σ H fun H1=>∀ x,Q (.str x) H1
theorem Af {v₁ v₂:bh}{lK:List bh}{pos:Pos}{t:St→Hp→(Hp→Prop)→Prop} (h:PJ X (v₁::v₂::lK) t) (hl:(v₁::v₂::lK).length≤100:=by decide):PE X (.JoinedStr (v₁::v₂::lK) pos) (tFs t):=by
 intro pins s σ H Q I hq
 refine wpAny_JoinedStr ?_
 have:=h pins s σ H fw 0 (fun H1=>∀ x,Q (.str x) H1) I (bA _) (by omega) hq
 revert this
 generalize evalEach (v₁::v₂::lK) X.env=parts
 generalize fw=acc
 intro this
 clear h hl hq I
 induction parts generalizing acc s with
 | nil =>
  obtain ⟨z,H',I',q⟩:=this
  exact ⟨z,.str acc,H',I'.tok _,⟨_,rfl⟩,q acc⟩
 | cons p ps ih =>
  refine ce this (fun v s1 ⟨y,t,e,z,k⟩=>⟨y,t,e,z,ih _ _ k⟩) fun _ _ z=>z
end
def Fn (P:aV) (w:bz) (K:aa) (mg:Str→Option af) (base:bK) (x:Str) (k:Nat) (ps:List Str) (sp:Sp):Prop :=
 ∃ f fd,FnOk P w K mg base (CXo P w) k f fd ps sp∧mg x=some (.ref f)∧az K (.ref f)=true∧Binds K fd ps []
def Mt (P:aV) (w:bz) (K:aa) (mg:Str→Option af) (base:bK) (C:ae) (m:Str) (k:Nat) (ps:List Str) (sp:Sp):Prop :=
 ∃ f fd,FnOk P w K mg base (CXo P w) k f fd ps sp∧Meth K C m f∧Cls K C∧Binds K fd ps []
def MkB (P:aV) (w:bz) (K:aa) (mg:Str→Option af) (base:bK) (x:Str) (C:ae) (k:Nat) (ps:List Str) (sp:Sp):Prop :=
 ∃ f fd,FnOk P w K mg base (CXo P w) k f fd ps sp∧mg x=some (.ref C)∧Mk K C f∧Binds K fd ps []
section
variable {X:Cx}{k:Nat}{C:ae}{ps:List Str}{sp:Sp}{E:XK}{x m:Str}{p pos apos:Pos}{e o:bh}{es:List bh}{ta:TE}{t:TA}
theorem sH (F:Fn X.prog X.w X.K X.mg X.base x k ps sp) (hr:Room k X.A) (hg:Gl X x) (hx:mJ (CXo X.prog X.w) X E) (ha:PA X (e::es) t) (hdb:(x == ("__debug__":Str))=false:=by decide)
  (he:aK (e::es) X.env=(false,eval e X.env)::aK es X.env:=by rfl) (hpl:(cj pos (aK es X.env)).any (·.1)=false:=by rfl):PE X (.Call (.Name x p) (e::es) [] pos) (zT sp [] E t):=by
 obtain ⟨f,fd,F,hm,hk,hb⟩:=F
 exact FK F hr hg hm hk hb .nil hx ha hdb he hpl
theorem HD (F:Fn X.prog X.w X.K X.mg X.base x k ps sp) (hr:Room k X.A) (hg:Gl X x) (ha:PA X.nox (e::es) t) (hdb:(x == ("__debug__":Str))=false:=by decide)
  (he:aK (e::es) X.env=(false,eval e X.env)::aK es X.env:=by rfl) (hpl:(cj pos (aK es X.env)).any (·.1)=false:=by rfl):PEx X (.Call (.Name x p) (e::es) [] pos) (fun E=>zT sp [] E t):=by
 obtain ⟨f,fd,F,hm,hk,hb⟩:=F
 exact DP F hr hg hm hk hb .nil ha hdb he hpl
theorem qg {pl:Sem Bool} (he:PE X o ta) (M:Mt X.prog X.w X.K X.mg X.base C m k ps sp) (hr:Room k X.A) (hx:mJ (CXo X.prog X.w) X E) (ha:PA X (e::es) t)
  (hst:aK (e::es) X.env=(false,eval e X.env)::aK es X.env:=by rfl) (hpl:(cj pos (aK es X.env)).any (·.1)=false:=by rfl)
  (ht:eval (.Call (.Attribute o m apos) (e::es) [] pos) X.env=(do
   let ov ← eval o X.env
   gB apos.atName
   let (f,first) ← holding [ov] (gc ov m pl)
   iV pos f first (cj pos (aK (e::es) X.env)) (fu pos (dg [] X.env))):=by rfl):PE X (.Call (.Attribute o m apos) (e::es) [] pos) (CM C m sp [] E ta t):=by
 obtain ⟨f,fd,F,hm,c,hb⟩:=M
 exact FJ (pl:=pl) he c hm F hr hb .nil hx ha hst hpl ht
theorem HE {pl:Sem Bool} (he:PE X o ta) (M:Mt X.prog X.w X.K X.mg X.base C m k ps sp) (hr:Room k X.A) (hx:mJ (CXo X.prog X.w) X E)
  (ht:eval (.Call (.Attribute o m apos) [] [] pos) X.env=(do
   let ov ← eval o X.env
   gB apos.atName
   let (f,first) ← holding [ov] (gc ov m pl)
   iV pos f first (cj pos (aK [] X.env)) (fu pos (dg [] X.env))):=by rfl):PE X (.Call (.Attribute o m apos) [] [] pos) (CM C m sp [] E ta CY):=by
 obtain ⟨f,fd,F,hm,c,hb⟩:=M
 exact DR (pl:=pl) he c hm F hr hb .nil hx ht
theorem HG (M:MkB X.prog X.w X.K X.mg X.base x C k ps sp) (hr:Room (k+1) X.A) (hg:Gl X x) (hx:mJ (CXo X.prog X.w) X E) (hdb:(x == ("__debug__":Str))=false:=by decide):PE X (.Call (.Name x p) [] [] pos) (GD C sp [] E CY):=by
 obtain ⟨f,fd,F,hm,mk,hb⟩:=M
 exact DU mk F hr hg hm hb .nil hx hdb
theorem pz:OpR X (dR .FloorDiv) (rI (fun _ j=>0 < j∧j.natAbs.log2 < 9000) fun i j=>.int (i / j)):=opI fun i j _ _ _ _ _ hc q=>by
 have h1:(0:Int) < j:=hc.1
 exact floordiv_int (by omega) (by rw [Int.fdiv_eq_ediv_of_nonneg i (by omega)];exact q) (.inl (PyProof.noPylong_of_log2 hc.2))
end
section
variable {P:aV}{w:bz}{K:aa}{mg:Str→Option af}{base:bK}
theorem Fun.okN {x qual:Str}{st:bM}{f:ae}{fd:bR}{N ps:List Str}{k:Nat}{sp:Sp} (F:Fun K x qual st f fd) (S:FnScope N ps (kC st)) (len:∀ vs H Q E,sp vs H Q E→vs.length=ps.length)
  (hbody:∀ (cdv:af) (A:bH) (outer:List Env) (s:al) (H:Hp) (vs:List V) (Q:VK) (E:XK),Room k (A.deeper (dY qual (kC st) s.heap.objs.size f cdv))→sp vs H Q E →
   ∃ t,PSs (xr (CXo P w) P w K mg base N qual (kC st) f cdv A outer s H E).nox (ng st) t∧t { nx:=fun _ H'=>Q .non H',rt:=Q } (start N vs) H):FnOk P w K mg base (CXo P w) (k+1) f fd ps sp:=by
 obtain ⟨oc,od,kV,doc,pm,an,cdv,ct,osl,rfl,lk,hcd⟩:=F.ex
 refine Fd lk hcd S len fun A outer s H vs Q E hr hsp=>?_
 obtain ⟨t,h,q⟩:=hbody cdv A outer s H vs Q E hr hsp
 exact ⟨t,h.nox,q⟩
theorem Fun.okX {x qual:Str}{st:bM}{f:ae}{fd:bR}{N ps:List Str}{k:Nat}{sp:Sp} (F:Fun K x qual st f fd) (S:FnScope N ps (kC st)) (len:∀ vs H Q E,sp vs H Q E→vs.length=ps.length)
  (hbody:∀ (cdv:af) (A:bH) (outer:List Env) (s:al) (H:Hp) (vs:List V) (Q:VK) (E:XK),Room k (A.deeper (dY qual (kC st) s.heap.objs.size f cdv))→sp vs H Q E →
   ∃ t,PSs (xr (CXo P w) P w K mg base N qual (kC st) f cdv A outer s H E) (ng st) t∧t { nx:=fun _ H'=>Q .non H',rt:=Q } (start N vs) H):FnOk P w K mg base (CXo P w) (k+1) f fd ps sp:=by
 obtain ⟨oc,od,kV,doc,pm,an,cdv,ct,osl,rfl,lk,hcd⟩:=F.ex
 exact Fd lk hcd S len fun A outer s H vs Q E hr hsp=>hbody cdv A outer s H vs Q E hr hsp
end
theorem Bq {J:It}{tc:TT}{te:TE}{cap:St}{D:ae}{Q:VK}{H1:Hp} (n:Nat) (R:Nat→List V→Hp→Prop) (h0:R 0 [] (upd H1 D (.lst []))) (hn:n≤aP) (hD:∀ i ys H,R i ys H→H D=some (.lst ys))
  (hgo:∀ i ys H,i < n→R i ys H→J.go i H)
  (hstep:∀ i ys H x H',i < n→R i ys H→J.yld i H x H'→∀ (Kt:VK) (Kf:Hp→Prop),(∀ v H5,H5 D=some (.lst ys)→R (i+1) (ys++[v]) (upd H5 D (.lst (ys++[v])))→Kt v H5)→(∀ H4,R (i+1) ys H4→Kf H4) →
   tc (some x::cap) H' fun b H4=>if b=true then te (some x::cap) H4 Kt else Kf H4)
  (hend:∀ ys H,ys.length≤n→R n ys H→J.stop n H∧Q (.ref D) H) :
  AG J tc te cap D H1 Q:=by
 refine ⟨fun i m ys H=>i≤n∧m=n - i∧ys.length≤i∧R i ys H,⟨n,bA _,by simp,bA _,h0⟩,?_⟩
 rintro i m ys H2 ⟨hi,rfl,hl,r⟩
 by_cases hlt:i < n
 ·refine .inr ⟨hgo i ys H2 hlt r,fun x H3 y=>hstep i ys H2 x H3 hlt r y _ _ (fun v H5 e r'=>⟨e,by omega,n - (i+1),by omega,hlt,rfl,by rw [aT];simp;omega,r'⟩) fun H4 r'=>⟨n - (i+1),by omega,hlt,rfl,by omega,r'⟩⟩
 ·have e:i=n:=by omega
  subst e
  obtain ⟨h1,h2⟩:=hend ys H2 hl r
  exact .inl ⟨h1,hD i ys H2 r,h2⟩
theorem oP:bJ "len"=some (.builtin "len"):=by decide +kernel
theorem rN:bJ "isinstance"=some (.builtin "isinstance"):=by decide +kernel
theorem nZ:bJ "sorted"=some (.builtin "sorted"):=by decide +kernel
theorem IH:bJ "abs"=some (.builtin "abs"):=by decide +kernel
theorem yC:bJ "all"=some (.builtin "all"):=by decide +kernel
theorem E3:bJ "int"=some (.type "int"):=by decide +kernel
theorem wt:bJ "ValueError"=some (.type "ValueError"):=by decide +kernel
end L2
namespace Fra
def Cop (a b:Int):Prop:=aO a b=1
def Low (q:Int×Int):Prop:=0 < q.2∧Cop q.1 q.2
def red (q:Int×Int):Int×Int:=(q.1 / (aO q.1 q.2:Int),q.2 / (aO q.1 q.2:Int))
theorem Cop.symm {a b:Int} (h:Cop a b):Cop b a:=by unfold Cop at *;rw [Int.gcd_comm];exact h
theorem oi {a a' b:Int} (d:a ∣ a') (h:Cop a' b):Cop a b:=Nat.Coprime.coprime_dvd_left (fk.mpr d) h
theorem vn {a b c:Int} (h1:Cop a c) (h2:Cop b c):Cop (a * b) c:=by
 unfold Cop aO at *
 rw [gW]
 exact Nat.Coprime.mul_left h1 h2
theorem ym {a b c:Int} (h:Cop a b) (d:a ∣ b * c):a ∣ c:=by
 have d':=fk.mpr d
 rw [gW] at d'
 exact fk.mp (Nat.Coprime.dvd_of_dvd_mul_left h d')
theorem Bp {a b k:Int} (h:Cop a b):Cop (a+k * b) b:=by
 unfold Cop at *
 have g1:(aO (a+k * b) b:Int) ∣ a+k * b:=fD ..
 have g2:(aO (a+k * b) b:Int) ∣ b:=cK ..
 have g3:(aO (a+k * b) b:Int) ∣ a:=by
  have:=Int.dvd_sub g1 (Int.dvd_trans g2 (Int.dvd_mul_left k b))
  have e:a+k * b - k * b=a:=by omega
  rw [e] at this
  exact this
 have g4:=Int.dvd_gcd g3 g2
 rw [h] at g4
 exact Nat.dvd_one.mp g4
theorem uX {p q:Int×Int} (hp:Low p) (hq:Low q) (h:p.1 * q.2=q.1 * p.2):p=q:=by
 obtain ⟨a,b⟩:=p
 obtain ⟨c,d⟩:=q
 obtain ⟨h1,h2⟩:=hp
 obtain ⟨h3,h4⟩:=hq
 simp only at h h1 h2 h3 h4
 have d1:b ∣ d:=ym h2.symm ⟨c,by rw [h];exact bC _ _⟩
 have d2:d ∣ b:=ym h4.symm ⟨a,by rw [← h];exact bC _ _⟩
 have e:b=d:=Int.dvd_antisymm (by omega) (by omega) d1 d2
 subst e
 have:a=c:=fT (by omega) h
 rw [this]
theorem p8 {q:Int×Int} (h:0 < q.2):Low (red q)∧(red q).1 * q.2=q.1 * (red q).2:=by
 obtain ⟨a,b⟩:=q
 simp only at h
 have hg:0 < aO a b:=bW _ (by omega)
 obtain ⟨u,hu⟩:(aO a b:Int) ∣ a:=fD ..
 obtain ⟨v,hv⟩:(aO a b:Int) ∣ b:=cK ..
 have eu:a / (aO a b:Int)=u:=jd (by omega) hu
 have ev:b / (aO a b:Int)=v:=jd (by omega) hv
 have hc:Cop u v:=by
  have e:aO ((aO a b:Int) * u) ((aO a b:Int) * v)=aO a b * aO u v:=by rw [iN];rfl
  rw [← hu,← hv] at e
  unfold Cop
  have:aO a b * aO u v=aO a b * 1:=by omega
  exact fY hg this
 have hv0:0 < v:=by
  by_cases z:0 < v
  ·exact z
  ·have:(aO a b:Int) * v≤0:=eK (by omega) (by omega)
   omega
 unfold red
 simp only
 rw [eu,ev]
 refine ⟨⟨hv0,hc⟩,?_⟩
 show u * b=a * v
 have e1:u * b=u * ((aO a b:Int) * v):=by rw [← hv]
 have e2:a * v=(aO a b:Int) * u * v:=by rw [← hu]
 rw [e1,e2,bC (aO a b:Int) u,bc]
theorem Hs {p q:Int×Int} (hp:Low p) (hq:0 < q.2) (h:p.1 * q.2=q.1 * p.2):p=red q:=by
 obtain ⟨r1,r2⟩:=p8 hq
 refine uX hp r1 ?_
 have e:p.1 * (red q).2 * q.2=(red q).1 * p.2 * q.2:=by
  rw [eI,h,eI q.1,← r2,eI]
 exact fT (by omega) e
def addK (p q:Int×Int):Int×Int :=
 let d:Int:=aO p.2 q.2
 let t:=p.1 * (q.2 / d)+q.1 * (p.2 / d)
 let e:Int:=aO t d
 (t / e,p.2 / d * (q.2 / e))
def lH (p q:Int×Int):Int×Int:=red (p.1 * q.2+q.1 * p.2,p.2 * q.2)
theorem GB {p q:Int×Int} (hp:Low p) (hq:Low q):addK p q=lH p q:=by
 obtain ⟨n1,b1⟩:=p
 obtain ⟨n2,b2⟩:=q
 obtain ⟨h1,h2⟩:=hp
 obtain ⟨h3,h4⟩:=hq
 simp only at h1 h2 h3 h4
 unfold addK lH
 simp only
 have hd:0 < aO b1 b2:=bW _ (by omega)
 obtain ⟨u,hu⟩:(aO b1 b2:Int) ∣ b1:=fD ..
 obtain ⟨v,hv⟩:(aO b1 b2:Int) ∣ b2:=cK ..
 have huv:Cop u v:=by
  have e:aO ((aO b1 b2:Int) * u) ((aO b1 b2:Int) * v)=aO b1 b2 * aO u v:=by rw [iN];rfl
  rw [← hu,← hv] at e
  have:aO b1 b2 * aO u v=aO b1 b2 * 1:=by omega
  exact fY hd this
 generalize hD:(aO b1 b2:Int)=d at *
 have d0:0 < d:=by omega
 subst hu
 subst hv
 rw [eB _ (by omega:d≠0),eB _ (by omega:d≠0)]
 have pos:∀ {x:Int},0 < d * x→0 < x:=fun {x} hx=>by
  by_cases z:0 < x
  ·exact z
  ·have:d * x≤0:=eK (by omega) (by omega)
   omega
 have u0:=pos h1
 have v0:=pos h3
 have ct_u:Cop (n1 * v+n2 * u) u:=Bp (vn (oi (Int.dvd_refl _) (oi ⟨d,bC _ _⟩ h2.symm).symm) huv.symm)
 have ct_v:Cop (n1 * v+n2 * u) v:=by
  rw [Int.add_comm]
  exact Bp (vn (oi ⟨d,bC _ _⟩ h4.symm).symm huv)
 generalize hT:n1 * v+n2 * u=t at *
 have he:0 < aO t d:=bW _ (by omega)
 obtain ⟨t',ht⟩:(aO t d:Int) ∣ t:=fD ..
 obtain ⟨e',hE⟩:(aO t d:Int) ∣ d:=cK ..
 have cte:Cop t' e':=by
  have e:aO ((aO t d:Int) * t') ((aO t d:Int) * e')=aO t d * aO t' e':=by rw [iN];rfl
  rw [← ht,← hE] at e
  have:aO t d * aO t' e'=aO t d * 1:=by omega
  exact fY he this
 generalize hG:(aO t d:Int)=g at *
 have g0:0 < g:=by omega
 have e0:0 < e':=by
  by_cases z:0 < e'
  ·exact z
  ·have:g * e'≤0:=eK (by omega) (by omega)
   omega
 have q1:t / g=t':=by rw [ht];exact eB _ (by omega)
 have q2:d * v / g=e' * v:=by
  rw [hE,bc]
  exact eB _ (by omega)
 rw [q1,q2]
 refine Hs ⟨bG u0 (bG e0 v0),?_⟩ (bG h1 h3) ?_
 ·have d1:t' ∣ t:=⟨g,by rw [ht];exact bC _ _⟩
  exact (vn (oi d1 ct_u).symm (vn cte.symm (oi d1 ct_v).symm)).symm
 ·show t' * (d * u * (d * v))=(n1 * (d * v)+n2 * (d * u)) * (u * (e' * v))
  have e1:n1 * (d * v)+n2 * (d * u)=d * t:=by
   rw [← hT,Int.mul_add,fc,fc n2]
  rw [e1]
  have e2:d * t * (u * (e' * v))=d * (g * t') * (u * (e' * v)):=by rw [← ht]
  have e3:t' * (d * u * (d * v))=t' * (d * u * (g * e' * v)):=by rw [← hE]
  rw [e2,e3]
  simp only [bc,fc,bC]
theorem sQ {p q:Int×Int} (hp:Low p) (hq:Low q):Low (lH p q):=(p8 (bG hp.1 hq.1)).1
end Fra
namespace L2
open PySem PySem.Spec PyProof.Rows
abbrev fzO (o:Obj):HO:=.frz o (.own 0)
def fz (H:Hp) (cs:List (ae×Obj)):Hp:=fun b=>match cs.lookup b with
 | some o=>some (fzO o)
 | none=>H b
def ufz (H:Hp) (cs:List (ae×Obj)):Hp:=fun b=>match cs.lookup b with
 | some _=>none
 | none=>H b
section
variable {H:Hp}{cs:List (ae×Obj)}{b:ae}{o:Obj}
theorem uh (h:cs.lookup b=some o):fz H cs b=some (fzO o):=by unfold fz;rw [h]
theorem lP (h:cs.lookup b=none):fz H cs b=H b:=by unfold fz;rw [h]
theorem sw (h:cs.lookup b=some o):ufz H cs b=none:=by unfold ufz;rw [h]
theorem lg (h:cs.lookup b=none):ufz H cs b=H b:=by unfold ufz;rw [h]
theorem pf (h:H b=none):ufz H cs b=none:=by
 cases q:cs.lookup b with
 | none=>rw [lg q];exact h
 | some o=>exact sw q
theorem C7 {u:HO} (h:ufz H cs b=some u):cs.lookup b=none∧H b=some u:=by
 cases q:cs.lookup b with
 | none=>exact ⟨rfl,(lg q).symm.trans h⟩
 | some o=>rw [sw q] at h;cases h
end
def Fzd (H:Hp) (cs:List (ae×Obj)):Prop:=∀ c o,cs.lookup c=some o→H c=some (fzO o)
theorem Fzd.out {H:Hp}{cs:List (ae×Obj)} (h:Fzd H cs) {b:ae}{u:HO} (e:H b=some u) (n:∀ o,u≠fzO o):cs.lookup b=none:=by
 cases q:cs.lookup b with
 | none=>rfl
 | some o=>rw [h b o q] at e;cases e;exact absurd rfl (n o)
theorem Fzd.out0 {H:Hp}{cs:List (ae×Obj)} (h:Fzd H cs) {b:ae} (e:H b=none):cs.lookup b=none:=by
 cases q:cs.lookup b with
 | none=>rfl
 | some o=>rw [h b o q] at e;cases e
section
variable {P:aV}{w:bz}{K:aa}{mg:Str→Option af}{base:bK}{A:bH}{outer:List Env}{s s':al}{H H2:Hp}{cs:List (ae×Obj)}
theorem Bf {h h1:bK} (ok:HOk P w H h) (f:Fzd H cs) (k:∀ b o,h.get? b=some o→h1.get? b=some o):HOk P w (ufz H cs) h1:=fun b u e=>by
 obtain ⟨_,e⟩:=C7 e
 refine (ok b u e).stay (fun c v _ q=>k c v q) (fun c q=>?_) fun c xs q=>?_
 ·rw [lg (f.out q fun o z=>by cases z)];exact q
 ·rw [lg (f.out q fun o z=>by cases z)];exact q
theorem un_fz (f:Fzd H cs) (fs:∀ b∈frs outer,H b=none) (ok:HOk P w H s.heap) (u:Un (frs outer) [] (ufz H cs) H2 s.heap s'.heap) (ok2:HOk P w H2 s'.heap):Un (frs outer) [] H (fz H2 cs) s.heap s'.heap∧HOk P w (fz H2 cs) s'.heap:=by
 have at0:∀ c o,cs.lookup c=some o→s.heap.get? c=some o:=fun c o e=>(ok c _ (f c o e)).1
 have at2:∀ c o,cs.lookup c=some o→s'.heap.get? c=some o∧H2 c=none:=fun c o e=>by
  have nf:c∉frs outer:=fun z=>by have:=fs c z;rw [f c o e] at this;cases this
  exact ⟨u.keep c o (at0 c o e) (sw e) nf (by simp),u.free c o (at0 c o e) (sw e) (by simp)⟩
 have out2:∀ {b:ae}{v:HO},H2 b=some v→cs.lookup b=none:=fun {b v} e=>by
  cases q:cs.lookup b with
  | none=>rfl
  | some o=>rw [(at2 b o q).2] at e;cases e
 refine ⟨⟨fun b o e n hb hx=>u.keep b o e (pf n) hb hx,fun b o e n hb hx=>u.slot b o e (pf n) hb hx,fun b o e n hx=>?_,u.there,fun b xs e=>?_,fun b o v e=>?_,fun b ps e=>?_⟩,fun b v e=>?_⟩
 ·rw [lP (f.out0 n)]
  exact u.free b o e (pf n) hx
 ·have q:=f.out e fun o z=>by cases z
  rw [lP q]
  exact u.tups b xs (by rw [lg q];exact e)
 ·cases q:cs.lookup b with
  | none =>
   rw [lP q]
   exact u.frzs b o v (by rw [lg q];exact e)
  | some o' =>
   rw [uh q,← e,f b o' q]
 ·have q:=f.out e fun o z=>by cases z
  rw [lP q]
  exact u.tbls b ps (by rw [lg q];exact e)
 ·cases q:cs.lookup b with
  | none =>
   rw [lP q] at e
   refine (ok2 b v e).stay (fun c v _ q=>q) (fun c q=>?_) fun c xs q=>?_
   ·rw [lP (out2 q)];exact q
   ·rw [lP (out2 q)];exact q
  | some o =>
   rw [uh q] at e
   cases e
   exact ⟨(at2 b o q).1,o,(at2 b o q).1⟩
end
structure LamOk (scope:du) (x:Str) (fr:List Str):Prop where
 kind:scope.kind=.function
 co:scope.isCoroutine=false
 gen:scope.isGenerator=false
 cell:∀ y∈scope.names,y.2≠.cell
 par:scope.names.lookup x=some .local
 frs:∀ y∈fr,scope.names.lookup y=some .free
 nd:(x::fr).Nodup
structure CloOk (scope:du) (fr:List Str) (cl:List (Str×ae)) (cs:List (ae×Obj)) (caps:List V):Prop where
 has:∀ y,scope.names.lookup y=some .free→∃ c,cl.lookup y=some c
 inj:∀ y z c,cl.lookup y=some c→cl.lookup z=some c→y=z
 cel:∀ y c,cl.lookup y=some c→∃ o u,cs.lookup c=some o∧o.data=.cell u
 val:∀ (i:Nat) (y:Str) (v:V),fr[i]?=some y→caps[i]?=some v→∃ c o u,cl.lookup y=some c∧cs.lookup c=some o∧o.data=.cell (some u)∧RelV v u
 len:caps.length=fr.length
abbrev EY (qual:Str) (scope:du) (L f:ae) (cd:af) (cl:List (Str×ae)):Env:=PySem.W.envX qual scope L f cd cl
def cxL (P:aV) (w:bz) (K:aa) (mg:Str→Option af) (base:bK) (N:List Str) (qual:Str) (scope:du) (f:ae) (cd:af) (cl:List (Str×ae)) (A:bH) (outer:List Env) (s:al) (H:Hp):Cx where
 prog:=P
 w:=w
 K:=K
 mg:=mg
 base:=base
 A:=A.deeper (EY qual scope s.heap.objs.size f cd cl)
 N:=N
 s₀:=s
 H₀:=H
 env:=EY qual scope s.heap.objs.size f cd cl
 outer:=outer
 stack:=EY qual scope s.heap.objs.size f cd cl::outer
 ex:=[]
 calm:=true
 fn:=fun _=>false
 pn:=[]
 xe:=fun _ _=>False
section
variable {P:aV}{w:bz}{K:aa}{mg:Str→Option af}{base:bK}{CX:CXT}{k:Nat}{f c':ae}{qual x:Str}{params:iw}{body:bh}{scope:du}{cl:List (Str×ae)}{cs:List (ae×Obj)}{pm ctv:af}{fr:List Str}{caps:List V}{oc:Obj}
def spClo (f c':ae) (of oc:Obj) (cs:List (ae×Obj)) (caps:List V) (t:TE):Sp:=fun vs H Q _=>∃ v0,vs=[v0]∧H f=some (fzO of)∧H c'=some (fzO oc)∧Fzd H cs∧t (some v0::caps.map some) (ufz H cs) fun v H2=>(∀ c o,cs.lookup c=some o→H2 c=none)→Q v (fz H2 cs)
theorem ID {t:TE} (S:LamOk scope x fr) (C:CloOk scope fr cl cs caps) (hoc:∃ vs tq,oc.data=.fields vs∧vs[1]?=some (.str qual tq))
  (hbody:∀ (A:bH) (outer:List Env) (s:al) (H:Hp),Room k (A.deeper (EY qual scope s.heap.objs.size f (.ref c') cl))→PE (cxL P w K mg base (x::fr) qual scope f (.ref c') cl A outer s H) body t) :
  FnOk P w K mg base CX (k+1) f (PySem.W.kla_fn "<lambda>" qual params body scope cl pm (.ref c') ctv) [x] (spClo f c' (cT "<lambda>" qual params body scope cl pm c' ctv) oc cs caps t):=by
 refine ⟨fun vs H Q E h=>by obtain ⟨v0,rfl,_⟩:=h;rfl,fun A outer s H args us vs Q E hr e0 hb r hsp=>?_⟩
 obtain ⟨v0,rfl,hf,hc',hfz,ht⟩:=hsp
 have lim:s.heap.NoLimit:=e0.mod.nolimit.keeps fun b o e=>(e0.bs b o e).1
 have of':=(e0.hok f _ hf).1
 have oc':=(e0.hok c' _ hc').1
 obtain ⟨vsc,tq,hd,hv⟩:=hoc
 obtain ⟨u0,rfl,r0⟩:=oW r
 refine PySem.W.kla_callFunE hr.depth of' rfl S.co S.gen rfl ⟨c',oc,vsc,tq,rfl,oc',hd,hv⟩ (hb _ _ _ _ ?_)
 refine wpAny_newFunctionEnv S.cell (fun y hy=>?_) (fun h1 hns hsb=>⟨lim.fresh _ hsb,?_⟩) S.kind
 ·have:y=(x,u0):=by simpa using hy
  rw [this];exact S.par
 have hk₁:∀ b o,s.heap.get? b=some o→h1.get? b=some o:=fun b o e=>hsb.extBut b o (aQ (aI e)) (ax _ e)
 show ft _ _ (.expr body (EY qual scope s.heap.objs.size f (.ref c') cl)) _ _
 have at0:∀ c o,cs.lookup c=some o→s.heap.get? c=some o:=fun c o e=>(e0.hok c _ (hfz c o e)).1
 have I:Inv (cxL P w K mg base (x::fr) qual scope f (.ref c') cl A outer s (ufz H cs)) [] (some v0::caps.map some) (ufz H cs) { s with heap:=h1,toks:=s.toks+[(x,u0)].length }:=by
  have noA:∀ b:ae,b∉(cxL P w K mg base (x::fr) qual scope f (.ref c') cl A outer s (ufz H cs)).ex:=fun b z=>absurd (show b∈([]:List ae) from z) (by simp)
  refine ⟨⟨e0.mod,S.kind,rfl,rfl,aC _,C.inj,fun y hy=>?_,fun _ _ z=>Bool.noConfusion (show false=true from z),fun _=>hr.hd,jD e0.frames,.inr ⟨rfl,rfl⟩,fun b z=>absurd z (noA b),fun b o e=>⟨(e0.bs b o e).1,pf (e0.bs b o e).2⟩,e0.bsz,fun b _ _=>noA b,fun b z=>absurd z (noA b),e0.funs,fun b hb'=>pf (e0.frf b hb')⟩,
   rfl,e0.bare,Un.kept hk₁,⟨_,hns,fun i y v h1' h2 h3=>?_⟩,fun y c e=>?_,pf (e0.hok.fresh (aC _)),fun y c e=>?_,fun p hp=>absurd (show p∈([]:List (ae×Obj)) from hp) (by simp),Bf e0.hok hfz hk₁,?_⟩
  ·have hy:scope.names.lookup y=some .cell∨scope.names.lookup y=some .free:=hy
   rcases hy with hy | hy
   ·exact absurd rfl (S.cell _ (bO hy))
   ·exact C.has y hy
  ·cases i with
   | zero =>
    cases h1'
    cases h2
    refine ⟨u0,r0,.inl ⟨S.par,?_⟩⟩
    show cz x [(x,u0)]=some u0
    rw [bF];simp
   | succ i =>
    have h1':fr[i]?=some y:=h1'
    have h2:(caps.map some)[i]?=some (some v):=h2
    rw [bv] at h2
    obtain ⟨v',hv',e⟩:=eO.mp h2
    cases e
    obtain ⟨c,o,u,e1,e2,e3,rv⟩:=C.val i y v h1' hv'
    exact ⟨u,rv,.inr ⟨.inr (S.frs y (cF h1')),c,e1,o,hk₁ _ _ (at0 c o e2),e3⟩⟩
  ·obtain ⟨o,u,e2,e3⟩:=C.cel y c e
   exact ⟨u,o,hk₁ _ _ (at0 c o e2),e3⟩
  ·obtain ⟨o,u,e2,e3⟩:=C.cel y c e
   exact sw e2
  ·show (some v0::caps.map some).length=(x::fr).length
   rw [ap,ap,aq,C.len]
 refine PySem.W.kla_codeExpr (ce (hbody A outer s (ufz H cs) (hr.deeper _) [] _ _ _ _ I ht) (fun u s' ⟨v,H2,J,rv,q⟩=>?_) fun _ _ z=>bu z)
 obtain ⟨un,ok⟩:=un_fz hfz e0.frf e0.hok J.base J.hok
 exact ⟨v,fz H2 cs,J.os,J.bare,un,ok,rv,q fun c o e=>J.base.free c o (at0 c o e) (sw e) (fun z=>absurd z (by simp [cxL]))⟩
end
section
variable {X:Cx}{CX:CXT}{k i:Nat}{x:Str}{p pos:Pos}{e:bh}{es:List bh}{t:TA}{E:XK}
end
section
variable {X:Cx}{CX:CXT}{k:Nat}{f:ae}{fd:bR}{ps:List Str}{sp:Sp}{E:XK}
theorem Ho {pins:List (ae×Obj)}{σ:St}{H:Hp}{s:al}{Q:VK}{us:List af}{vs:List V}{cs:List (ae×Obj)} (F:FnOk X.prog X.w X.K X.mg X.base CX k f fd ps sp) (hr:Room k X.A) (hb:Binds X.K fd ps [])
  (hcx:∀ (H':Hp) (e:af) (s':al),CX X.stack H' s E e s'→X.xe e s')
  (I:Inv X pins σ H s) (hcs:∀ c o,cs.lookup c=some o→s.heap.get? c=some o∧H c=none∧X.s₀.heap.objs.size≤c∧c≠X.env.locals) (r:Vals vs us) (h:sp vs (fz H cs) (fun v H2=>Q v (ufz H2 cs)) E):ba (model X.prog X.w) X.A (call (.ref f) us) (EP X pins σ Q) X.xe s:=by
 have hl:us.length=ps.length:=by rw [← r.length];exact F.len _ _ _ _ h
 have frz:Fzd (fz H cs) cs:=fun c o e=>uh e
 have out:∀ {b:ae}{u:HO},H b=some u→cs.lookup b=none:=fun {b u} e=>by
  cases q:cs.lookup b with
  | none=>rfl
  | some o=>rw [(hcs b o q).2.1] at e;cases e
 have nofr:∀ b∈frs X.stack,cs.lookup b=none:=fun b hb'=>by
  cases q:cs.lookup b with
  | none=>rfl
  | some o =>
   obtain ⟨_,_,a3,a4⟩:=hcs b o q
   rcases aj.mp (I.stkSub b hb') with z | z
   ·exact absurd z a4
   ·obtain ⟨_,o',ho,_⟩:=I.ok.funs.mem z
    exact absurd (aA (aI ho) a3) (cD _)
 have hok:HOk X.prog X.w (fz H cs) s.heap:=fun b u e=>by
  cases q:cs.lookup b with
  | none =>
   rw [lP q] at e
   refine (I.hok b u e).stay (fun c v _ q=>q) (fun c q=>?_) fun c xs q=>?_
   ·rw [lP (out q)];exact q
   ·rw [lP (out q)];exact q
  | some o =>
   rw [uh q] at e
   cases e
   exact ⟨(hcs b o q).1,o,(hcs b o q).1⟩
 have e0:=I.env0
 have e1:Env0 X.prog X.w X.K X.mg X.base X.A X.stack s (fz H cs):=⟨e0.frames,e0.mod,fun b o e=>⟨(e0.bs b o e).1,?_⟩,e0.bsz,e0.funs,fun b hb'=>by rw [lP (nofr b hb')];exact e0.frf b hb',hok,e0.bare⟩
 ·have hb2:=hb s us I.kIn (by rw [cg];exact hl)
  rw [cg] at hb2
  refine iL (eA (F.run X.A X.stack s (fz H cs) ⟨us,[]⟩ us vs _ E hr e1 hb2 r h) fun rr s' hq=>?_)
  cases rr with
  | error e=>exact hcx _ e s' hq
  | ok fl =>
   cases fl with
   | next=>exact bu hq
   | brk=>exact bu hq
   | cont=>exact bu hq
   | ret u =>
    obtain ⟨v,H',os,bare,un,hok',rv,q⟩:=hq
    have frz':Fzd H' cs:=fun c o e=>un.frzs c o _ (frz c o e)
    have un2:Un (frs X.stack) [] H (ufz H' cs) s.heap s'.heap:=by
     refine ⟨fun b o e n hb' hx=>?_,fun b o e n hb' hx=>?_,fun b o e n hx=>?_,un.there,fun b xs e=>?_,fun b o v e=>?_,fun b ps e=>?_⟩
     ·cases q:cs.lookup b with
      | none=>exact un.keep b o e (by rw [lP q];exact n) hb' hx
      | some o' =>
       have e2:=(hcs b o' q).1
       rw [e] at e2
       cases e2
       exact (hok' b _ (frz' b o q)).1
     ·exact un.slot b o e (by rw [lP (nofr b hb')];exact n) hb' hx
     ·cases q:cs.lookup b with
      | none =>
       rw [lg q]
       exact un.free b o e (by rw [lP q];exact n) hx
      | some o'=>exact sw q
     ·rw [lg (out e)]
      exact un.tups b xs (by rw [lP (out e)];exact e)
     ·rw [lg (out e)]
      exact un.frzs b o v (by rw [lP (out e)];exact e)
     ·rw [lg (out e)]
      exact un.tbls b ps (by rw [lP (out e)];exact e)
    have hok2:=Bf hok' frz' (fun _ _ e=>e)
    exact ⟨v,ufz H' cs,I.call' (ch:=[]) os un2 hok2 bare (fun b z=>absurd z (by simp)),rv,q⟩
 ·cases q:cs.lookup b with
  | none=>rw [lP q];exact (e0.bs b o e).2
  | some o' =>
   exact absurd (aA (aI e) (aN I.ok.bsz (hcs b o' q).2.2.1)) (cD _)
end
def Bz (H:Hp) (P:ae) (q:Str):Prop:=∃ ps,H P=some (.tbl ps)∧ir ps.toList∧∀ pos c,iq pos ps.toList=some c→∃ c' oc,c=.ref c'∧H c'=some (fzO oc)∧∃ vs tq,oc.data=.fields vs∧vs[1]?=some (.str q tq)
theorem wp {pos:Pos}{c c0:af}{a b:Int}:∀ {l:List af},ir l→iq pos (l++[dX a,dX b,c0])=some c→iq pos l=some c∨c=c0
 | l,h,e=>by
  fun_induction ir l with
  | case1 =>
   simp only [cW,iq,dX] at e
   split at e
   ·exact .inr (a8 e).symm
   ·cases e
  | case2 a' t b' u x lK ih =>
   simp only [cC,iq] at e ⊢
   split at e
   ·rename_i hh;rw [if_pos hh];exact .inl e
   ·rename_i hh;rw [if_neg hh];exact ih h e
  | case3 l h1 h2=>exact h.elim
theorem yG {c0:af}{a b:Int}:∀ {l:List af},ir l→ir (l++[dX a,dX b,c0])
 | l,h=>by
  fun_induction ir l with
  | case1=>exact trivial
  | case2 a' t b' u x lK ih=>exact ih h
  | case3 l h1 h2=>exact h.elim
section
variable {X:Cx}{params:iw}{body:bh}{scope:du}{pos:Pos}{cd P:ae}{q:Str}
def tLam (P:ae) (q:Str) (params:iw) (body:bh) (scope:du) (cl:List (Str×ae)):TE:=fun σ H Q=>Bz H P q∧∀ f c' oc pm ctv H1,Bz H1 P q→H1 f=some (fzO (cT "<lambda>" q params body scope cl pm c' ctv))→H1 c'=some (fzO oc)→(∃ vs tq,oc.data=.fields vs∧vs[1]?=some (.str q tq)) →
 (∀ b u,H b=some u→b≠P→H1 b=some u)→H f=none→Q (.ref f) H1
structure LamTxt (K:aa) (mg:Str→Option af) (base:bK) (cd P:ae):Prop where
 hd:∀ h:bK,K.In h→PySem.W.CodeHd h cd P
 nP:P≠au
 bm:∃ bm o,mg "__builtins__"=some (.ref bm)∧bm≠dM∧bm≠au∧bm≠P∧base.get? bm=some o∧o.cls=.type "module"∧o.dict=some dM∧o.data=.plain
theorem HH (T:LamTxt X.K X.mg X.base cd P) (hcode:X.env.code=.ref cd) (hq:X.env.qual++"<lambda>"=q) (hdef:defaultsOf params X.env=([],[])) (hcells:∀ y∈scope.names,y.2=.free→X.env.scope.names.lookup y.1=some .cell∨X.env.scope.names.lookup y.1=some .free) :
  PE X (.Lambda params body scope pos) (tLam P q params body scope (l7 X.env.cells scope.names [])):=by
 intro pins s σ H Q I ⟨⟨ps,hP,htr,hgood⟩,k⟩
 have hcl:closureFor scope X.env=pure (l7 X.env.cells scope.names []):=oO fun y hy hf=>I.ok.has y.1 (hcells y hy hf)
 have hPh:s.heap.get? P=some (gH ps):=I.hok P _ hP
 have hg:s.heap.Ns au X.mg:=I.mod.glob.keeps I.bk
 have C:=T.hd s.heap I.kIn
 obtain ⟨bm,ob,b1,b2,b3,b4,b5,b6,b7,b8⟩:=T.bm
 have hb:s.heap.BuiltinsAt X.mg P:=⟨bm,ob,b1,b2,b3,b4,I.bk _ _ b5,b6,b7,b8⟩
 refine PySem.W.kla_eval hdef ?_
 rw [hq]
 cases hc:iq pos ps.toList with
 | some cv =>
  obtain ⟨c',oc,rfl,hc',hrec⟩:=hgood pos cv hc
  refine PySem.W.kla_makeFunctionHit hcl I.ok.glob hg hcode C hPh htr hc hb fun ctv h' tk hk hsz=>?_
  have hf:H h'.objs.size=none:=I.hok.fresh hsz
  have hkeep:∀ b u,H b=some u→(upd H h'.objs.size (fzO (cT "<lambda>" q params body scope (l7 X.env.cells scope.names []) ((X.mg "__name__").getD .none) c' ctv))) b=some u:=fun b u e=>by rw [kA (kH e hf)];exact e
  refine ⟨.ref h'.objs.size,upd H h'.objs.size (fzO (cT "<lambda>" q params body scope (l7 X.env.cells scope.names []) ((X.mg "__name__").getD .none) c' ctv)),?_,rfl,k _ c' oc _ ctv _ ⟨ps,hkeep _ _ hP,htr,fun p c e=>?_⟩ kD (hkeep _ _ hc') hrec (fun b u e _=>hkeep b u e) hf⟩
  ·refine I.laid (t':=tk) (h':=h'.push _) (fun b u e=>ax _ (hk b u e)) hsz ?_
   have e0:(h'.push (cT "<lambda>" q params body scope (l7 X.env.cells scope.names []) ((X.mg "__name__").getD .none) c' ctv)).get? h'.objs.size=some (cT "<lambda>" q params body scope (l7 X.env.cells scope.names []) ((X.mg "__name__").getD .none) c' ctv):=bg _ rfl
   exact ⟨e0,_,e0⟩
  ·obtain ⟨c2,o2,e2,e3,e4⟩:=hgood p c e
   exact ⟨c2,o2,e2,hkeep _ _ e3,e4⟩
 | none =>
  refine PySem.W.kla_makeFunction hcl I.ok.glob hg hcode C hPh htr hc T.nP.symm hb fun c' ctv h' tk hx hge hlt hrec htb=>?_
  obtain ⟨c2,oc,vs,tq,e2,hoc,hd,hv⟩:=hrec
  cases e2
  generalize hof:cT "<lambda>" q params body scope (l7 X.env.cells scope.names []) ((X.mg "__name__").getD .none) c' ctv=of
  have hlP:P < s.heap.objs.size:=aI hPh
  have hc'n:H c'=none:=I.hok.fresh hge
  have hfn:H h'.objs.size=none:=I.hok.fresh (cE (bi hge hlt))
  have nPc:P≠c':=aQ (aA hlP hge)
  have nPf:P≠h'.objs.size:=aQ (e9 (aA hlP hge) hlt)
  have ncf:c'≠h'.objs.size:=aQ hlt
  generalize hF:h'.objs.size=F at hfn nPf ncf
  have hk:∀ b u,b≠P→s.heap.get? b=some u→(h'.push of).get? b=some u:=fun b u n e=>ax _ (hx b u n e)
  have ePh:(h'.push of).get? P=some (gH (ps++#[dX pos.line,dX pos.col,.ref c'])):=ax _ htb
  have ech:(h'.push of).get? c'=some oc:=ax _ hoc
  have efh:(h'.push of).get? F=some of:=by rw [← hF];exact bg _ (by rw [← hof];rfl)
  have low:∀ b u,s.heap.get? b=some u→b≠c'∧b≠F:=fun b u e=>⟨aQ (aA (aI e) hge),fun z=>by rw [z,← hF] at e;exact absurd (aI e) (Nat.not_lt.mpr (cE (bi hge hlt)))⟩
  have g1:upd (upd (upd H P (.tbl (ps++#[dX pos.line,dX pos.col,.ref c']))) c' (fzO oc)) F (fzO of) P=some (.tbl (ps++#[dX pos.line,dX pos.col,.ref c'])):=by rw [kA nPf,kA nPc,kD]
  have g2:upd (upd (upd H P (.tbl (ps++#[dX pos.line,dX pos.col,.ref c']))) c' (fzO oc)) F (fzO of) c'=some (fzO oc):=by rw [kA ncf,kD]
  have g3:upd (upd (upd H P (.tbl (ps++#[dX pos.line,dX pos.col,.ref c']))) c' (fzO oc)) F (fzO of) F=some (fzO of):=kD
  have g4:∀ b,b≠P→b≠c'→b≠F→upd (upd (upd H P (.tbl (ps++#[dX pos.line,dX pos.col,.ref c']))) c' (fzO oc)) F (fzO of) b=H b:=fun b n1 n2 n3=>by rw [kA n3,kA n2,kA n1]
  generalize upd (upd (upd H P (.tbl (ps++#[dX pos.line,dX pos.col,.ref c']))) c' (fzO oc)) F (fzO of)=H1 at g1 g2 g3 g4
  have hkeep:∀ b u,H b=some u→b≠P→H1 b=some u:=fun b u e n=>by rw [g4 b n (kH e hc'n) (kH e hfn)];exact e
  have nt:∀ {b:ae}{u:HO},H b=some u→(∀ ps,u≠.tbl ps)→b≠P:=fun {b u} e n z=>by rw [z,hP] at e;cases e;exact n _ rfl
  refine ⟨.ref F,H1,I.un (t':=tk) ⟨fun b o e n _ _=>hk b o (fun z=>by rw [z,hP] at n;cases n) e,fun b o e n _ _=>⟨o.slots,hk b o (fun z=>by rw [z,hP] at n;cases n) e⟩,fun b o e n _=>?_,fun b o e _=>?_,fun b xs e=>hkeep b _ e (nt e fun _ z=>by cases z),fun b o v e=>hkeep b _ e (nt e fun _ z=>by cases z),fun b ps' e=>?_⟩ (fun b u e=>?_),rfl,k F c' oc _ ctv H1 ⟨_,g1,?_,fun p c e=>?_⟩ (by rw [g3,← hof]) g2 ⟨vs,tq,hd,hv⟩ hkeep hfn⟩
  ·rw [g4 b (fun z=>by rw [z,hP] at n;cases n) (low b o e).1 (low b o e).2];exact n
  ·by_cases z:b=P
   ·rw [z];exact ⟨_,ePh⟩
   ·exact ⟨o,hk b o z e⟩
  ·by_cases z:b=P
   ·rw [z,hP] at e
    cases e
    exact ⟨_,by rw [z];exact g1⟩
   ·exact ⟨#[],by rw [hkeep b _ e z];simp⟩
  ·by_cases z1:b=P
   ·rw [z1,g1] at e;cases e;rw [z1];exact ePh
   by_cases z2:b=c'
   ·rw [z2,g2] at e;cases e;rw [z2];exact ⟨ech,_,ech⟩
   by_cases z3:b=F
   ·rw [z3,g3] at e;cases e;rw [z3];exact ⟨efh,_,efh⟩
   rw [g4 b z1 z2 z3] at e
   refine (I.hok b u e).stay (fun c v hc q=>?_) (fun c q=>hkeep c _ q (nt q fun _ z=>by cases z)) fun c xs q=>hkeep c _ q (nt q fun _ z=>by cases z)
   rcases hc with z | z
   ·exact hk c v (by rw [z];exact z1) q
   ·exact hk c v (nt z fun _ z=>by cases z) q
  ·rw [jZ];exact yG htr
  ·rw [jZ] at e
   rcases wp htr e with z | z
   ·obtain ⟨c2,o2,e2,e3,e4⟩:=hgood p c z
    exact ⟨c2,o2,e2,hkeep _ _ e3 (nt e3 fun _ z=>by cases z),e4⟩
   ·exact ⟨c',oc,z,g2,vs,tq,hd,hv⟩
end
end L2
set_option maxHeartbeats 4000000
namespace My
open PySem L2
abbrev Same:=L2.Same
theorem pj {H:Hp}{p:ae}{o:HO} (h:H p=none):Same H (upd H p o):=fun b u e=>by rw [kA (kH e h)];exact e
theorem nbT {b:Bool} (h:(!b)=true):b=false:=by cases b <;> first | rfl | cases h
theorem nbF {b:Bool} (h:¬ (!b)=true):b=true:=by cases b <;> first | rfl | exact absurd rfl h
structure Ent where
 nm:Str
 th:Int
 mr:Int
 ls:Int
 held:List (Str×Int×Int)
structure BA where
 dx:ae
 dp:ae
 dt:ae
 dm:ae
 dl:ae
 dh:ae
def bf (z:BA):List (Str×V):=[(("people":Str),V.ref z.dp),("things_of",.ref z.dt),("mark_of",.ref z.dm),("loss_of",.ref z.dl),("held_of",.ref z.dh)]
theorem lZ {g f:Str}{v:V}{r:List (Str×V)} (h:¬ f=g):cz f ((g,v)::r)=cz f r:=by
 rw [bF]
 have:(f == g)=false:=by simpa using h
 rw [this]
theorem tf {f:Str}{v:V}{r:List (Str×V)}:cz f ((f,v)::r)=some v:=by
 rw [bF]
 simp
theorem re (z:BA):(bf z).lookup ("people":Str)=some (V.ref z.dp):=tf
theorem xE (z:BA):(bf z).lookup ("things_of":Str)=some (V.ref z.dt):=by
 unfold bf
 rw [lZ (by decide +kernel)]
 exact tf
theorem Bv (z:BA):(bf z).lookup ("mark_of":Str)=some (V.ref z.dm):=by
 unfold bf
 rw [lZ (by decide +kernel),lZ (by decide +kernel)]
 exact tf
theorem Bw (z:BA):(bf z).lookup ("loss_of":Str)=some (V.ref z.dl):=by
 unfold bf
 rw [lZ (by decide +kernel),lZ (by decide +kernel),lZ (by decide +kernel)]
 exact tf
theorem rO (z:BA):(bf z).lookup ("held_of":Str)=some (V.ref z.dh):=by
 unfold bf
 rw [lZ (by decide +kernel),lZ (by decide +kernel),lZ (by decide +kernel),lZ (by decide +kernel)]
 exact tf
theorem pY (z:BA) {m:Str} (h1:¬ m="people") (h2:¬ m="things_of") (h3:¬ m="mark_of") (h4:¬ m="loss_of") (h5:¬ m="held_of"):(bf z).lookup m=none:=by
 unfold bf
 rw [lZ h1,lZ h2,lZ h3,lZ h4,lZ h5]
 rfl
def HeldAt (K:aa) (H:Hp) (p:ae) (l:List (Str×Int×Int)):Prop :=
 ∃ ts:List ae,ts.length=l.length∧H p=some (.dK ((l.zip ts).map fun q=>(aE q.1.1,V.ref q.2)))∧∀ q∈l.zip ts,SqT K H q.2 [.int q.1.2.1,.int q.1.2.2]
def PmAt (H:Hp) (d:ae) (S:List (Key×V)):Prop:=∃ T:List (Key×V),H d=some (.dK T)∧T.Perm S∧(S.map (·.1)).Nodup
theorem uH {k:Key}{v:V}:∀ {l:List (Key×V)},(l.map (·.1)).Nodup→(nB l k=some v ↔ (k,v)∈l)
 | [],_=>⟨fun h=>(by cases h),fun h=>(by cases h)⟩
 | x::r,h=>by
  obtain ⟨h1,h2⟩:=aS.mp h
  have ih:=uH (k:=k) (v:=v) h2
  unfold nB at ih ⊢
  rw [bI]
  by_cases e:x.1=k
  ·rw [decide_eq_true e]
   constructor
   ·intro q
    have q:x.2=v:=a8 q
    rw [← q,← e]
    exact ar
   ·intro q
    rcases aj.mp q with q | q
    ·rw [← q];rfl
    ·exact absurd (am.mpr ⟨(k,v),q,rfl⟩) (by rw [← e];exact h1)
  ·rw [decide_eq_false e]
   refine ih.trans ⟨fun q=>ai _ q,fun q=>?_⟩
   rcases aj.mp q with q | q
   ·exact absurd (by rw [← q]) e
   ·exact q
theorem yY {T S:List (Key×V)} (p:T.Perm S) (nd:(S.map (·.1)).Nodup) (k:Key):nB T k=nB S k:=by
 apply Option.ext
 intro v
 rw [uH ((p.map (·.1)).nodup_iff.mpr nd),uH nd,p.mem_iff]
theorem PmAt.keep {H H':Hp}{d:ae}{S:List (Key×V)} (h:PmAt H d S) (k:∀ o,H d=some o→H' d=some o):PmAt H' d S:=by
 obtain ⟨T,e,p,n⟩:=h
 exact ⟨T,k _ e,p,n⟩
theorem PmAt.dget {H:Hp}{d:ae}{S:List (Key×V)} (h:PmAt H d S) (x:Str):DGet H d (kV (aE x)) (nB S (aE x)):=by
 obtain ⟨T,e,p,n⟩:=h
 rw [← yY p n]
 exact DGet.k e
theorem PmAt.keys {H:Hp}{d:ae}{α:Type}{L:List α}{key:α→Str}{v:α→V} (h:PmAt H d (L.map fun e=>((aE (key e):Key),v e))):∃ (T:List (Key×V)) (ss:List Str),H d=some (.dK T)∧T.map (·.1)=ss.map aE∧ss.Perm (L.map key):=by
 obtain ⟨T,e,p,n⟩:=h
 have q:=p.map (·.1)
 rw [a7] at q
 refine ⟨T,(T.map (·.1)).map fun k=>match k with | .inr s=>s | .inl _=>fw,e,?_,?_⟩
 ·rw [a7]
  refine ((fZ _).symm.trans (bQ fun k hk=>?_))
  have:=q.mem_iff.mp hk
  obtain ⟨x,_,rfl⟩:=am.mp this
  rfl
 ·have:=q.map fun k:Key=>match k with | .inr s=>s | .inl _=>fw
  have e2:(L.map ((fun x=>x.1) ∘ fun e=>((aE (key e):Key),v e))).map (fun k:Key=>match k with | .inr s=>s | .inl _=>fw)=L.map key:=by rw [a7];rfl
  rw [e2] at this
  exact this
structure BookAt (K:aa) (C:ae) (H:Hp) (b:ae) (z:BA) (ppl:List Str) (L:List (Ent×ae)):Prop where
 ob:H b=some (.ins C z.dx (bf z))
 pp:H z.dp=some (.dK (ppl.map fun n=>(aE n,.bl true)))
 tt:H z.dt=some (.dK (L.map fun e=>(aE e.1.nm,.int e.1.th)))
 mm:H z.dm=some (.dK (L.map fun e=>(aE e.1.nm,.int e.1.mr)))
 ll:H z.dl=some (.dK (L.map fun e=>(aE e.1.nm,.int e.1.ls)))
 hh:PmAt H z.dh (L.map fun e=>(aE e.1.nm,.ref e.2))
 he:∀ e∈L,HeldAt K H e.2 e.1.held
 nd:(b::z.dp::z.dt::z.dm::z.dl::z.dh::L.map (·.2)).Nodup
 p6:ppl.length≤6
 h8:L.length≤8
def BFp (b:ae) (z:BA) (L:List (Ent×ae)):List ae:=b::z.dp::z.dt::z.dm::z.dl::z.dh::L.map (·.2)
theorem rg {K:aa}{H H':Hp}{t:ae}{xs:List V} (h:SqT K H t xs) (k:∀ c o,H c=some o→(∃ xs,o=.tup xs∨∃ ob,o=.frz ob (.tup xs))→H' c=some o):SqT K H' t xs:=by
 rcases h with (h | ⟨ob,h⟩) | h
 ·exact .inl (.inl (k _ _ h ⟨xs,.inl rfl⟩))
 ·exact .inl (.inr ⟨ob,k _ _ h ⟨xs,.inr ⟨ob,rfl⟩⟩⟩)
 ·exact .inr h
theorem HeldAt.keep {K:aa}{H H':Hp}{p:ae}{l:List (Str×Int×Int)} (h:HeldAt K H p l) (hp:∀ o,H p=some o→H' p=some o) (k:∀ c o,H c=some o→(∃ xs,o=.tup xs∨∃ ob,o=.frz ob (.tup xs))→H' c=some o):HeldAt K H' p l:=by
 obtain ⟨ts,e1,e2,e3⟩:=h
 exact ⟨ts,e1,hp _ e2,fun q hq=>rg (e3 q hq) k⟩
theorem BookAt.keep {K:aa}{C:ae}{H H':Hp}{b:ae}{z:BA}{ppl:List Str}{L:List (Ent×ae)} (B:BookAt K C H b z ppl L) (k:∀ c o,H c=some o→(c∈BFp b z L∨∃ xs,o=.tup xs∨∃ ob,o=.frz ob (.tup xs))→H' c=some o):BookAt K C H' b z ppl L:=by
 refine ⟨k _ _ B.ob (.inl (by simp [BFp])),k _ _ B.pp (.inl (by simp [BFp])),k _ _ B.tt (.inl (by simp [BFp])),k _ _ B.mm (.inl (by simp [BFp])),k _ _ B.ll (.inl (by simp [BFp])),B.hh.keep (fun o h=>k _ _ h (.inl (by simp [BFp]))),fun e he=>?_,B.nd,B.p6,B.h8⟩
 refine (B.he e he).keep (fun o h=>k _ _ h (.inl ?_)) fun c o h x=>k c o h (.inr x)
 unfold BFp
 simp only [aj]
 right;right;right;right;right;right
 exact am.mpr ⟨e,he,rfl⟩
theorem BookAt.same {K:aa}{C:ae}{H H':Hp}{b:ae}{z:BA}{ppl:List Str}{L:List (Ent×ae)} (B:BookAt K C H b z ppl L) (s:Same H H'):BookAt K C H' b z ppl L:=B.keep fun c o h _=>s c o h
def mZ (L:List (Ent×ae)) (n:Str):Bool:=(L.find? fun e=>decide (e.1.nm=n)).isSome
def mq (ppl:List Str) (n:Str):Bool:=(ppl.find? fun m=>decide (m=n)).isSome
theorem oS {α:Type} (l:List α) (key:α→Str) (v:α→V) (n:Str):nB (l.map fun e=>((aE (key e):Key),v e)) (aE n)=(l.find? fun e=>decide (key e=n)).map v:=by
 unfold nB
 rw [fS,Option.map_map]
 have e:((fun kv:Key×V=>decide (kv.1=aE n)) ∘ fun e=>((aE (key e):Key),v e))=fun e=>decide (key e=n):=by
  funext x
  show decide ((aE (key x):Key)=aE n)=decide (key x=n)
  rw [wm]
 rw [e]
 rfl
end My
namespace L2
open PySem PySem.Spec PyProof.Rows
def Odd (u:HO):Prop:=(∃ ps,u=.tbl ps)∨∃ ob x,u=.frz ob (.own x)
def TbS (H H':Hp):Prop:=(∀ a ps,H a=some (.tbl ps)→∃ ps',H' a=some (.tbl ps'))∧∀ P q,Bz H P q→Bz H' P q
theorem TbS.of {H H':Hp} (k:∀ a o,H a=some o→Odd o→H' a=some o):TbS H H':=⟨fun a ps h=>⟨ps,k a _ h (.inl ⟨ps,rfl⟩)⟩,fun P q ⟨ps,h,t,g⟩=>⟨ps,k P _ h (.inl ⟨ps,rfl⟩),t,fun p c e=>by
 obtain ⟨c',oc,a1,a2,a3⟩:=g p c e
 exact ⟨c',oc,a1,k c' _ a2 (.inr ⟨oc,0,rfl⟩),a3⟩⟩⟩
theorem TbS.same {H H':Hp} (k:Same H H'):TbS H H':=.of fun a o h _=>k a o h
theorem TbS.upd {H:Hp}{d:ae}{u o:HO} (h:H d=some u) (n:¬ Odd u):TbS H (upd H d o):=.of fun a o' h' od=>by
 rw [kA (show a≠d from fun z=>by rw [z,h] at h';cases h';exact n od)];exact h'
theorem Fa {kvs:List (Key×V)}:¬ Odd (.dK kvs):=fun z=>by rcases z with ⟨_,z⟩ | ⟨_,_,z⟩ <;> cases z
theorem wj {xs:List V}:¬ Odd (.lst xs):=fun z=>by rcases z with ⟨_,z⟩ | ⟨_,_,z⟩ <;> cases z
theorem EO {C dx:ae}{fs:List (Str×V)}:¬ Odd (.ins C dx fs):=fun z=>by rcases z with ⟨_,z⟩ | ⟨_,_,z⟩ <;> cases z
theorem HX {ob:Obj}{kvs:List (Key×V)}:¬ Odd (.frz ob (.dK kvs)):=fun z=>by rcases z with ⟨_,z⟩ | ⟨_,_,z⟩ <;> cases z
def vJ:List Str:=["rules"]
def Tab (K:aa) (P:ae) (q:Str):Prop:=∃ x∈vJ,∃ c,bS K x=some (c,P)∧q=x++".<locals>.<lambda>"
inductive PV where
 | non | bl (b:Bool) | int (i:Int) | str (x:Str) | tup (l:List PV) | lst (l:List PV) | dct (l:List (Key×PV)) | ref (n:Nat) | exc (c:ae) | seq (l:List PV) | clo (a:ae) (vs:List V) (l:List PV)
inductive Cell where
 | lst (l:List PV) | dct (l:List (Key×PV)) | book (pp:List Str) (L:List My.Ent) | obj (C:ae) (fs:List (Str×PV)) | dfz (l:List (Key×PV))
structure Sto where
 nx:Nat
 cs:List (Nat×Cell)
structure Mp where
 ad:Nat→ae
 fp:Nat→List ae
 hid:List ae
def lL:List (Nat×Cell)→Nat→Option Cell
 | [],_=>none
 | (k,c)::r,n=>if k=n then some c else lL r n
def mE (n:Nat) (c:Cell):List (Nat×Cell)→List (Nat×Cell)
 | []=>[]
 | (k,d)::r=>if k=n then (n,c)::r else (k,d)::mE n c r
def tw (n:Nat):List (Nat×Cell)→List (Nat×Cell)
 | []=>[]
 | (k,d)::r=>if k=n then r else (k,d)::tw n r
def Sto.get (s:Sto) (n:Nat):Option Cell:=lL s.cs n
def Sto.set (s:Sto) (n:Nat) (c:Cell):Sto:=⟨s.nx,mE n c s.cs⟩
def Sto.del (s:Sto) (n:Nat):Sto:=⟨s.nx,tw n s.cs⟩
def Sto.add (s:Sto) (c:Cell):Sto:=⟨s.nx+1,(s.nx,c)::s.cs⟩
theorem lx {n:Nat}{c:Cell}:∀ {l:List (Nat×Cell)},lL l n=some c→(n,c)∈l
 | (k,d)::r,h=>by
  unfold lL at h
  split at h
  ·rename_i e;cases h;subst e;exact ar
  ·exact ai _ (lx h)
theorem zd {n:Nat}{c:Cell}{q:Nat×Cell}:∀ {l:List (Nat×Cell)},(l.map (·.1)).Nodup→q∈mE n c l→q=(n,c)∨(q∈l∧q.1≠n)
 | (k,d)::r,nd,h=>by
  unfold mE at h
  obtain ⟨n1,n2⟩:=aS.mp (show (k::r.map (·.1)).Nodup from nd)
  split at h
  ·rename_i e
   rcases aj.mp h with h | h
   ·exact .inl h
   ·exact .inr ⟨ai _ h,fun z=>n1 (by rw [e,← z];exact am.mpr ⟨q,h,rfl⟩)⟩
  ·rename_i e
   rcases aj.mp h with h | h
   ·subst h;exact .inr ⟨ar,e⟩
   ·rcases zd n2 h with h | ⟨h,h'⟩
    ·exact .inl h
    ·exact .inr ⟨ai _ h,h'⟩
theorem nr {n:Nat}{c:Cell}:∀ {l:List (Nat×Cell)},(mE n c l).map (·.1)=l.map (·.1)
 | []=>rfl
 | (k,d)::r=>by
  unfold mE
  split
  ·rename_i e;simp [e]
  ·simp [nr]
theorem qN {n:Nat}{q:Nat×Cell}:∀ {l:List (Nat×Cell)},q∈tw n l→q∈l
 | (k,d)::r,h=>by
  unfold tw at h
  split at h
  ·exact ai _ h
  ·rcases aj.mp h with h | h
   ·subst h;exact ar
   ·exact ai _ (qN h)
theorem Bl {n:Nat}:∀ {l:List (Nat×Cell)},(l.map (·.1)).Nodup→((tw n l).map (·.1)).Nodup
 | [],_=>eX
 | (k,d)::r,nd=>by
  obtain ⟨n1,n2⟩:=aS.mp (show (k::r.map (·.1)).Nodup from nd)
  unfold tw
  split
  ·exact n2
  ·refine aS.mpr ⟨fun z=>n1 ?_,Bl n2⟩
   obtain ⟨q,hq,e⟩:=am.mp z
   exact am.mpr ⟨q,qN hq,e⟩
theorem Bk {n:Nat}{q:Nat×Cell}:∀ {l:List (Nat×Cell)},(l.map (·.1)).Nodup→q∈tw n l→q.1≠n
 | (k,d)::r,nd,h=>by
  obtain ⟨n1,n2⟩:=aS.mp (show (k::r.map (·.1)).Nodup from nd)
  unfold tw at h
  split at h
  ·rename_i e;intro z;exact n1 (by rw [e,← z];exact am.mpr ⟨q,h,rfl⟩)
  ·rename_i e
   rcases aj.mp h with h | h
   ·subst h;exact e
   ·exact Bk n2 h
theorem qA {n k:Nat}{c:Cell} (h:k≠n):∀ {l:List (Nat×Cell)},lL (mE n c l) k=lL l k
 | []=>rfl
 | (j,d)::r=>by
  unfold mE
  split
  ·rename_i e
   unfold lL
   rw [if_neg (fun z=>h z.symm),if_neg (fun z=>h (z.symm.trans e))]
  ·unfold lL
   split
   ·rfl
   ·exact qA h
theorem qB {n k:Nat} (h:k≠n):∀ {l:List (Nat×Cell)},lL (tw n l) k=lL l k
 | []=>rfl
 | (j,d)::r=>by
  unfold tw
  split
  ·rename_i e
   conv=>rhs;unfold lL
   rw [if_neg (fun z=>h (z.symm.trans e))]
  ·unfold lL
   split
   ·rfl
   ·exact qB h
def Pur (m:Mp) (s:Sto) (a:ae):Prop:=a∉m.hid∧∀ n∈s.cs.map (·.1),a∉m.fp n
def KL (K:aa) (a:ae) (xs:List V):Prop:=∃ (o:Obj) (its:Array af) (n:Nat),K.lookup a=some o∧o.cls=.type "list"∧o.dict=none∧o.data=.seq its n∧its.size≤aP∧Vals xs its.toList
def KT' (K:aa) (a:ae) (xs:List V):Prop:=∃ (o:Obj) (its:Array af) (n:Nat),K.lookup a=some o∧o.cls=.type "tuple"∧o.data=.seq its n∧its.size≤aP∧Vals xs its.toList
mutual
inductive Rep (K:aa) (H:Hp) (m:Mp) (s:Sto):V→PV→Prop
 | non:Rep K H m s .non .non
 | bl {b:Bool}:Rep K H m s (.bl b) (.bl b)
 | int {i:Int}:Rep K H m s (.int i) (.int i)
 | str {x:Str}:Rep K H m s (.str x) (.str x)
 | tup {a:ae}{vs:List V}{l:List PV}:(Rd H a (.tup vs)∧Pur m s a∨KT' K a vs)→Reps K H m s vs l→Rep K H m s (.ref a) (.tup l)
 | lst {a:ae}{vs:List V}{l:List PV}:H a=some (.lst vs)→Pur m s a→Reps K H m s vs l→Rep K H m s (.ref a) (.lst l)
 | seq {a:ae}{vs:List V}{l:List PV}:((∃ o,H a=some (.frz o (.lst vs)))∧Pur m s a∨KL K a vs)→Reps K H m s vs l→Rep K H m s (.ref a) (.seq l)
 | dct {a:ae}{vs:List (Key×V)}{l:List (Key×PV)}:Rd H a (.dK vs)→Pur m s a→RepKs K H m s vs l→Rep K H m s (.ref a) (.dct l)
 | ref {n:Nat}:n < s.nx→Rep K H m s (.ref (m.ad n)) (.ref n)
 | exc {a c:ae}:H a=some (Bh c a)→Pur m s a→Rep K H m s (.ref a) (.exc c)
 | clo {a:ae}{vs:List V}{l:List PV}:Reps K H m s vs l→Rep K H m s (.ref a) (.clo a vs l)
inductive Reps (K:aa) (H:Hp) (m:Mp) (s:Sto):List V→List PV→Prop
 | nil:Reps K H m s [] []
 | cons {v:V}{p:PV}{vs:List V}{l:List PV}:Rep K H m s v p→Reps K H m s vs l→Reps K H m s (v::vs) (p::l)
inductive RepKs (K:aa) (H:Hp) (m:Mp) (s:Sto):List (Key×V)→List (Key×PV)→Prop
 | nil:RepKs K H m s [] []
 | cons {k:Key}{v:V}{p:PV}{vs:List (Key×V)}{l:List (Key×PV)}:Rep K H m s v p→RepKs K H m s vs l→RepKs K H m s ((k,v)::vs) ((k,p)::l)
end
structure ExtR (H:Hp) (m:Mp) (s:Sto) (H':Hp) (m':Mp) (s':Sto):Prop where
 nx:s.nx≤s'.nx
 ad:∀ n,n < s.nx→m'.ad n=m.ad n
 pu:∀ a u,Rd H a u→Pur m s a→Rd H' a u∧Pur m' s' a
 el:∀ a u,H a=some u→(∀ kvs,u≠.dK kvs)→Pur m s a→H' a=some u
structure Ext0 (H:Hp) (m:Mp) (s:Sto) (H':Hp) (m':Mp) (s':Sto):Prop extends ExtR H m s H' m' s' where
 df:∀ n l,n < s.nx→lL s.cs n=some (.dfz l)→lL s'.cs n=some (.dfz l)∧∀ o,H (m.ad n)=some o→H' (m.ad n)=some o
structure Ext (H:Hp) (m:Mp) (s:Sto) (H':Hp) (m':Mp) (s':Sto):Prop extends Ext0 H m s H' m' s' where
 hd:m'.hid=m.hid
 hk:∀ a∈m.hid,∀ o,H a=some o→(∀ ps,o≠.tbl ps)→H' a=some o
theorem Ext.refl {H:Hp}{m:Mp}{s:Sto}:Ext H m s H m s:=⟨⟨⟨aC _,fun _ _=>rfl,fun _ _ h p=>⟨h,p⟩,fun _ _ h _ _=>h⟩,fun _ _ _ h=>⟨h,fun _ h=>h⟩⟩,rfl,fun _ _ _ h _=>h⟩
theorem Ext0.trans {H H1 H2:Hp}{m m1 m2:Mp}{s s1 s2:Sto} (a:Ext0 H m s H1 m1 s1) (b:Ext0 H1 m1 s1 H2 m2 s2):Ext0 H m s H2 m2 s2 :=
 ⟨⟨aN a.nx b.nx,fun n h=>(b.ad n (aA h a.nx)).trans (a.ad n h),fun c u h p=>let ⟨h1,p1⟩:=a.pu c u h p;b.pu c u h1 p1,fun c x h n p=>b.el c x (a.el c x h n p) n (a.pu c _ (.inl h) p).2⟩,fun n l hn h=>by
  obtain ⟨h1,k1⟩:=a.df n l hn h
  obtain ⟨h2,k2⟩:=b.df n l (aA hn a.nx) h1
  rw [a.ad n hn] at k2
  exact ⟨h2,fun o h=>k2 o (k1 o h)⟩⟩
theorem Ext.trans {H H1 H2:Hp}{m m1 m2:Mp}{s s1 s2:Sto} (a:Ext H m s H1 m1 s1) (b:Ext H1 m1 s1 H2 m2 s2):Ext H m s H2 m2 s2 :=
 ⟨a.toExt0.trans b.toExt0,b.hd.trans a.hd,fun c hc o h n=>b.hk c (by rw [a.hd];exact hc) o (a.hk c hc o h n) n⟩
theorem Rd.same {H H':Hp}{a:ae}{u:HO} (k:Same H H') (h:Rd H a u):Rd H' a u:=h.elim (fun h=>.inl (k _ _ h)) fun ⟨o,h⟩=>.inr ⟨o,k _ _ h⟩
theorem Rd.ne {H:Hp}{a b:ae}{u:HO} (h:Rd H a u) (hb:H b=none):a≠b:=h.elim (fun h=>kH h hb) fun ⟨_,h⟩=>kH h hb
theorem Ext.same {H H':Hp}{m:Mp}{s:Sto} (k:Same H H'):Ext H m s H' m s:=⟨⟨⟨aC _,fun _ _=>rfl,fun _ _ h p=>⟨h.same k,p⟩,fun _ _ h _ _=>k _ _ h⟩,fun _ _ _ h=>⟨h,fun o h=>k _ _ h⟩⟩,rfl,fun _ _ _ h _=>k _ _ h⟩
mutual
theorem Rep.ext0 {K:aa}{H H':Hp}{m m':Mp}{s s':Sto} (e:ExtR H m s H' m' s'):∀ {v:V}{p:PV},Rep K H m s v p→Rep K H' m' s' v p
 | _,_,.non=>.non
 | _,_,.bl=>.bl
 | _,_,.int=>.int
 | _,_,.str=>.str
 | _,_,.tup h r=>.tup (h.imp (fun z=>e.pu _ _ z.1 z.2) fun z=>z) (Reps.ext0 e r)
 | _,_,.lst h p r=>.lst (e.el _ _ h (by intro _ z;cases z) p) (e.pu _ _ (.inl h) p).2 (Reps.ext0 e r)
 | _,_,.seq h r=>.seq (h.imp (fun ⟨⟨o,z⟩,p⟩=>⟨⟨o,e.el _ _ z (by intro _ z;cases z) p⟩,(e.pu _ _ (.inl z) p).2⟩) fun z=>z) (Reps.ext0 e r)
 | _,_,.dct h p r=>.dct (e.pu _ _ h p).1 (e.pu _ _ h p).2 (RepKs.ext0 e r)
 | _,_,.ref (n:=n) h=>by rw [← e.ad _ h];exact .ref (aA h e.nx)
 | _,_,.exc h p=>.exc (e.el _ _ h (by intro _ z;cases z) p) (e.pu _ _ (.inl h) p).2
 | _,_,.clo r=>.clo (Reps.ext0 e r)
theorem Reps.ext0 {K:aa}{H H':Hp}{m m':Mp}{s s':Sto} (e:ExtR H m s H' m' s'):∀ {v:List V}{p:List PV},Reps K H m s v p→Reps K H' m' s' v p
 | _,_,.nil=>.nil
 | _,_,.cons a b=>.cons (Rep.ext0 e a) (Reps.ext0 e b)
theorem RepKs.ext0 {K:aa}{H H':Hp}{m m':Mp}{s s':Sto} (e:ExtR H m s H' m' s'):∀ {v:List (Key×V)}{p:List (Key×PV)},RepKs K H m s v p→RepKs K H' m' s' v p
 | _,_,.nil=>.nil
 | _,_,.cons a b=>.cons (Rep.ext0 e a) (RepKs.ext0 e b)
end
theorem Rep.ext {K:aa}{H H':Hp}{m m':Mp}{s s':Sto} (e:Ext H m s H' m' s') {v:V}{p:PV} (r:Rep K H m s v p):Rep K H' m' s' v p:=r.ext0 e.toExtR
theorem Reps.ext {K:aa}{H H':Hp}{m m':Mp}{s s':Sto} (e:Ext H m s H' m' s') {v:List V}{p:List PV} (r:Reps K H m s v p):Reps K H' m' s' v p:=r.ext0 e.toExtR
theorem RepKs.ext {K:aa}{H H':Hp}{m m':Mp}{s s':Sto} (e:Ext H m s H' m' s') {v:List (Key×V)}{p:List (Key×PV)} (r:RepKs K H m s v p):RepKs K H' m' s' v p:=r.ext0 e.toExtR
mutual
inductive Old (k:Nat):PV→Prop
 | non:Old k .non
 | bl {b:Bool}:Old k (.bl b)
 | int {i:Int}:Old k (.int i)
 | str {x:Str}:Old k (.str x)
 | tup {l:List PV}:Olds k l→Old k (.tup l)
 | lst {l:List PV}:Olds k l→Old k (.lst l)
 | seq {l:List PV}:Olds k l→Old k (.seq l)
 | dct {l:List (Key×PV)}:OldKs k l→Old k (.dct l)
 | ref {n:Nat}:n < k→Old k (.ref n)
 | exc {c:ae}:Old k (.exc c)
 | clo {a:ae}{vs:List V}{l:List PV}:Olds k l→Old k (.clo a vs l)
inductive Olds (k:Nat):List PV→Prop
 | nil:Olds k []
 | cons {p:PV}{l:List PV}:Old k p→Olds k l→Olds k (p::l)
inductive OldKs (k:Nat):List (Key×PV)→Prop
 | nil:OldKs k []
 | cons {q:Key}{p:PV}{l:List (Key×PV)}:Old k p→OldKs k l→OldKs k ((q,p)::l)
end
structure Sub (m:Mp) (s:Sto) (m':Mp) (s':Sto):Prop where
 pu:∀ a,Pur m s a→Pur m' s' a
 ad:∀ n,n < s'.nx→m'.ad n=m.ad n
mutual
theorem Rep.sub {K:aa}{H:Hp}{m m':Mp}{s s':Sto} (e:Sub m s m' s'):∀ {v:V}{p:PV},Old s'.nx p→Rep K H m s v p→Rep K H m' s' v p
 | _,_,_,.non=>.non
 | _,_,_,.bl=>.bl
 | _,_,_,.int=>.int
 | _,_,_,.str=>.str
 | _,_,.tup o,.tup h r=>.tup (h.imp (fun z=>⟨z.1,e.pu _ z.2⟩) fun z=>z) (Reps.sub e o r)
 | _,_,.lst o,.lst h p r=>.lst h (e.pu _ p) (Reps.sub e o r)
 | _,_,.seq o,.seq h r=>.seq (h.imp (fun z=>⟨z.1,e.pu _ z.2⟩) fun z=>z) (Reps.sub e o r)
 | _,_,.dct o,.dct h p r=>.dct h (e.pu _ p) (RepKs.sub e o r)
 | _,_,.ref o,.ref _=>by rw [← e.ad _ o];exact .ref o
 | _,_,_,.exc h p=>.exc h (e.pu _ p)
 | _,_,.clo o,.clo r=>.clo (Reps.sub e o r)
theorem Reps.sub {K:aa}{H:Hp}{m m':Mp}{s s':Sto} (e:Sub m s m' s'):∀ {v:List V}{p:List PV},Olds s'.nx p→Reps K H m s v p→Reps K H m' s' v p
 | _,_,_,.nil=>.nil
 | _,_,.cons o q,.cons a b=>.cons (Rep.sub e o a) (Reps.sub e q b)
theorem RepKs.sub {K:aa}{H:Hp}{m m':Mp}{s s':Sto} (e:Sub m s m' s'):∀ {v:List (Key×V)}{p:List (Key×PV)},OldKs s'.nx p→RepKs K H m s v p→RepKs K H m' s' v p
 | _,_,_,.nil=>.nil
 | _,_,.cons o q,.cons a b=>.cons (Rep.sub e o a) (RepKs.sub e q b)
end
mutual
theorem Rep.old {K:aa}{H:Hp}{m:Mp}{s:Sto}:∀ {v:V}{p:PV},Rep K H m s v p→Old s.nx p
 | _,_,.non=>.non
 | _,_,.bl=>.bl
 | _,_,.int=>.int
 | _,_,.str=>.str
 | _,_,.tup _ r=>.tup (Reps.old r)
 | _,_,.lst _ _ r=>.lst (Reps.old r)
 | _,_,.seq _ r=>.seq (Reps.old r)
 | _,_,.dct _ _ r=>.dct (RepKs.old r)
 | _,_,.ref h=>.ref h
 | _,_,.exc _ _=>.exc
 | _,_,.clo r=>.clo r.old
theorem Reps.old {K:aa}{H:Hp}{m:Mp}{s:Sto}:∀ {v:List V}{p:List PV},Reps K H m s v p→Olds s.nx p
 | _,_,.nil=>.nil
 | _,_,.cons a b=>.cons (Rep.old a) (Reps.old b)
theorem RepKs.old {K:aa}{H:Hp}{m:Mp}{s:Sto}:∀ {v:List (Key×V)}{p:List (Key×PV)},RepKs K H m s v p→OldKs s.nx p
 | _,_,.nil=>.nil
 | _,_,.cons a b=>.cons (Rep.old a) (RepKs.old b)
end
def RepFs (K:aa) (H:Hp) (m:Mp) (s:Sto) (fs':List (Str×V)) (fs:List (Str×PV)):Prop:=fs'.map (·.1)=fs.map (·.1)∧Reps K H m s (fs'.map (·.2)) (fs.map (·.2))
def CellOk (K:aa) (CB:ae) (H:Hp) (m:Mp) (s:Sto) (n:Nat):Cell→Prop
 | .lst l=>m.fp n=[m.ad n]∧∃ vs,H (m.ad n)=some (.lst vs)∧Reps K H m s vs l
 | .dct l=>m.fp n=[m.ad n]∧∃ vs,H (m.ad n)=some (.dK vs)∧RepKs K H m s vs l
 | .dfz l=>m.fp n=[m.ad n]∧∃ ob vs,H (m.ad n)=some (.frz ob (.dK vs))∧RepKs K H m s vs l
 | .book pp L=>∃ z L',My.BookAt K CB H (m.ad n) z pp L'∧L'.map (·.1)=L∧m.fp n=My.BFp (m.ad n) z L'
 | .obj C fs=>m.fp n=[m.ad n]∧∃ dx fs',H (m.ad n)=some (.ins C dx fs')∧RepFs K H m s fs' fs
structure SR (K:aa) (CB:ae) (H:Hp) (m:Mp) (s:Sto):Prop where
 nd:(s.cs.map (·.1)).Nodup
 lt:∀ n∈s.cs.map (·.1),n < s.nx
 ok:∀ q∈s.cs,CellOk K CB H m s q.1 q.2
 dj:∀ n∈s.cs.map (·.1),∀ k∈s.cs.map (·.1),n≠k→∀ a∈m.fp n,a∉m.fp k
 hx:∀ n∈s.cs.map (·.1),∀ a∈m.fp n,a∉m.hid
 hs:∀ a∈m.hid,H a≠none∧∀ xs o,H a≠some (.tup xs)∧H a≠some (.frz o (.tup xs))∧H a≠some (.frz o (.lst xs))∧∀ x,H a≠some (.frz o (.own x))
 tb:∀ P q,Tab K P q→P∈m.hid∧Bz H P q
theorem SR.tbk {K:aa}{CB:ae}{H H':Hp}{m:Mp}{s:Sto} (S:SR K CB H m s) (e:TbS H H'):∀ P q,Tab K P q→P∈m.hid∧Bz H' P q:=fun P q t=>⟨(S.tb P q t).1,e.2 P q (S.tb P q t).2⟩
theorem CellOk.kind {K:aa}{CB:ae}{H:Hp}{m:Mp}{s:Sto}{n:Nat}{c:Cell} (h:CellOk K CB H m s n c) {a:ae} (ha:a∈m.fp n):∃ o,H a=some o∧(∀ xs,o≠.tup xs)∧(∀ ob xs,o≠.frz ob (.tup xs)∧o≠.frz ob (.lst xs))∧¬ Odd o:=by
 cases c with
 | lst l=>obtain ⟨e,vs,h,_⟩:=h;rw [e,ay] at ha;subst ha;exact ⟨_,h,(by intro _ z;cases z),(fun _ _=>⟨(by intro z;cases z),(by intro z;cases z)⟩),wj⟩
 | dct l=>obtain ⟨e,vs,h,_⟩:=h;rw [e,ay] at ha;subst ha;exact ⟨_,h,(by intro _ z;cases z),(fun _ _=>⟨(by intro z;cases z),(by intro z;cases z)⟩),Fa⟩
 | dfz l=>obtain ⟨e,ob,vs,h,_⟩:=h;rw [e,ay] at ha;subst ha;exact ⟨_,h,(by intro _ z;cases z),(fun _ _=>⟨(by intro z;cases z),(by intro z;cases z)⟩),HX⟩
 | obj C fs=>obtain ⟨e,dx,vs,h,_⟩:=h;rw [e,ay] at ha;subst ha;exact ⟨_,h,(by intro _ z;cases z),(fun _ _=>⟨(by intro z;cases z),(by intro z;cases z)⟩),EO⟩
 | book pp L =>
  obtain ⟨z,L',B,_,e⟩:=h
  rw [e] at ha
  unfold My.BFp at ha
  have d:∀ {c:ae}{kvs:List (Key×V)},H c=some (.dK kvs)→∃ o,H c=some o∧(∀ xs,o≠.tup xs)∧(∀ ob xs,o≠.frz ob (.tup xs)∧o≠.frz ob (.lst xs))∧¬ Odd o:=fun h=>⟨_,h,(by intro _ z;cases z),(fun _ _=>⟨(by intro z;cases z),(by intro z;cases z)⟩),Fa⟩
  simp only [aj] at ha
  rcases ha with rfl | rfl | rfl | rfl | rfl | rfl | ha
  ·exact ⟨_,B.ob,(by intro _ z;cases z),(fun _ _=>⟨(by intro z;cases z),(by intro z;cases z)⟩),EO⟩
  ·exact d B.pp
  ·exact d B.tt
  ·exact d B.mm
  ·exact d B.ll
  ·obtain ⟨T,e,_⟩:=B.hh
   exact d e
  ·obtain ⟨q,hq,rfl⟩:=am.mp ha
   obtain ⟨ts,_,h2,_⟩:=B.he q hq
   exact d h2
theorem SR.pure_none {K:aa}{CB:ae}{H:Hp}{m:Mp}{s:Sto} (S:SR K CB H m s) {a:ae} (h:H a=none):Pur m s a:=⟨fun z=>(S.hs a z).1 h,fun n hn ha=>by
 obtain ⟨q,hq,rfl⟩:=am.mp hn
 obtain ⟨o,e,_⟩:=(S.ok q hq).kind ha
 rw [h] at e;cases e⟩
theorem SR.pure_tup {K:aa}{CB:ae}{H:Hp}{m:Mp}{s:Sto} (S:SR K CB H m s) {a:ae}{xs:List V} (h:H a=some (.tup xs)):Pur m s a:=⟨fun z=>((S.hs a z).2 xs default).1 h,fun n hn ha=>by
 obtain ⟨q,hq,rfl⟩:=am.mp hn
 obtain ⟨o,e,k,_⟩:=(S.ok q hq).kind ha
 rw [h] at e;cases e;exact k _ rfl⟩
theorem SR.pure_frz {K:aa}{CB:ae}{H:Hp}{m:Mp}{s:Sto} (S:SR K CB H m s) {a:ae}{ob:Obj}{xs:List V} (h:H a=some (.frz ob (.tup xs))∨H a=some (.frz ob (.lst xs))):Pur m s a:=⟨fun z=>h.elim (fun h=>((S.hs a z).2 xs ob).2.1 h) fun h=>((S.hs a z).2 xs ob).2.2.1 h,fun n hn ha=>by
 obtain ⟨q,hq,rfl⟩:=am.mp hn
 obtain ⟨o,e,_,k,_⟩:=(S.ok q hq).kind ha
 rcases h with h | h <;> (rw [h] at e;cases e)
 ·exact (k _ _).1 rfl
 ·exact (k _ _).2 rfl⟩
theorem SqT.keepX {K:aa}{CB:ae}{H H':Hp}{m m':Mp}{s s':Sto} (S:SR K CB H m s) (e:ExtR H m s H' m' s') {t:ae}{xs:List V} (h:SqT K H t xs):SqT K H' t xs:=by
 rcases h with h | h
 ·exact .inl (e.pu _ _ h (h.elim (fun h=>S.pure_tup h) fun ⟨_,h⟩=>S.pure_frz (.inl h))).1
 ·exact .inr h
theorem RepFs.ext {K:aa}{H H':Hp}{m m':Mp}{s s':Sto} (e:ExtR H m s H' m' s') {a:List (Str×V)}{b:List (Str×PV)} (h:RepFs K H m s a b):RepFs K H' m' s' a b:=⟨h.1,h.2.ext0 e⟩
theorem CellOk.keep {K:aa}{CB:ae}{H H':Hp}{m m':Mp}{s s':Sto}{n:Nat}{c:Cell} (S:SR K CB H m s) (e:ExtR H m s H' m' s') (k:∀ a∈m.fp n,∀ o,H a=some o→H' a=some o) (ha:m'.ad n=m.ad n) (hf:m'.fp n=m.fp n) (h:CellOk K CB H m s n c):CellOk K CB H' m' s' n c:=by
 cases c with
 | lst l=>obtain ⟨e1,vs,h,r⟩:=h;exact ⟨by rw [ha,hf];exact e1,vs,by rw [ha];exact k _ (by rw [e1];simp) _ h,r.ext0 e⟩
 | dct l=>obtain ⟨e1,vs,h,r⟩:=h;exact ⟨by rw [ha,hf];exact e1,vs,by rw [ha];exact k _ (by rw [e1];simp) _ h,r.ext0 e⟩
 | dfz l=>obtain ⟨e1,ob,vs,h,r⟩:=h;exact ⟨by rw [ha,hf];exact e1,ob,vs,by rw [ha];exact k _ (by rw [e1];simp) _ h,r.ext0 e⟩
 | obj C fs=>obtain ⟨e1,dx,vs,h,r⟩:=h;exact ⟨by rw [ha,hf];exact e1,dx,vs,by rw [ha];exact k _ (by rw [e1];simp) _ h,RepFs.ext e r⟩
 | book pp L =>
  obtain ⟨z,L',B,e1,e2⟩:=h
  rw [e2] at k
  have kb:∀ a∈My.BFp (m.ad n) z L',∀ o,H a=some o→H' a=some o:=k
  refine ⟨z,L',?_,e1,by rw [ha,hf];exact e2⟩
  rw [ha]
  refine ⟨kb _ (by simp [My.BFp]) _ B.ob,kb _ (by simp [My.BFp]) _ B.pp,kb _ (by simp [My.BFp]) _ B.tt,kb _ (by simp [My.BFp]) _ B.mm,kb _ (by simp [My.BFp]) _ B.ll,B.hh.keep (fun o h=>kb _ (by simp [My.BFp]) _ h),fun q hq=>?_,B.nd,B.p6,B.h8⟩
  obtain ⟨ts,h1,h2,h3⟩:=B.he q hq
  refine ⟨ts,h1,kb _ ?_ _ h2,fun y hy=>(h3 y hy).keepX S e⟩
  unfold My.BFp
  simp only [aj]
  right;right;right;right;right;right
  exact am.mpr ⟨q,hq,rfl⟩
theorem SR.same {K:aa}{CB:ae}{H H':Hp}{m:Mp}{s:Sto} (S:SR K CB H m s) (k:Same H H'):SR K CB H' m s :=
 ⟨S.nd,S.lt,fun q hq=>(S.ok q hq).keep S (Ext.same k).toExtR (fun a _ o h=>k a o h) rfl rfl,S.dj,S.hx,fun a ha=>by
  obtain ⟨h1,h2⟩:=S.hs a ha
  cases e:H a with
  | none=>exact absurd e h1
  | some o =>
   rw [k a o e]
   rw [e] at h2
   exact ⟨by simp,h2⟩,S.tbk (.same k)⟩
theorem SR.get {K:aa}{CB:ae}{H:Hp}{m:Mp}{s:Sto} (S:SR K CB H m s) {n:Nat}{c:Cell} (h:s.get n=some c):CellOk K CB H m s n c:=S.ok _ (lx h)
theorem SR.getlt {K:aa}{CB:ae}{H:Hp}{m:Mp}{s:Sto} (S:SR K CB H m s) {n:Nat}{c:Cell} (h:s.get n=some c):n < s.nx:=S.lt _ (am.mpr ⟨_,lx h,rfl⟩)
def Mp.fput (m:Mp) (n:Nat) (f':List ae):Mp:=⟨m.ad,fun j=>if j=n then f' else m.fp j,m.hid⟩
theorem SR.hsk {K:aa}{CB:ae}{H H':Hp}{m:Mp}{s:Sto} (S:SR K CB H m s) (k:∀ a∈m.hid,∀ o,H a=some o→(∀ ps,o≠.tbl ps)→H' a=some o) (kt:TbS H H'):∀ a∈m.hid,H' a≠none∧∀ xs o,H' a≠some (.tup xs)∧H' a≠some (.frz o (.tup xs))∧H' a≠some (.frz o (.lst xs))∧∀ x,H' a≠some (.frz o (.own x)):=fun a ha=>by
 obtain ⟨h1,h2⟩:=S.hs a ha
 cases e:H a with
 | none=>exact absurd e h1
 | some o =>
  by_cases t:∃ ps,o=.tbl ps
  ·obtain ⟨ps,t⟩:=t
   rw [t] at e
   obtain ⟨ps',e'⟩:=kt.1 a ps e
   rw [e']
   exact ⟨by simp,fun _ _=>⟨by simp,by simp,by simp,by simp⟩⟩
  rw [k a ha o e fun ps z=>t ⟨ps,z⟩]
  rw [e] at h2
  exact ⟨by simp,h2⟩
theorem SR.put' {K:aa}{CB:ae}{H:Hp}{m:Mp}{s:Sto} (S:SR K CB H m s) {n:Nat}{c c':Cell} (hn:s.get n=some c) (H':Hp) (f':List ae) (k:∀ a o,H a=some o→a∉m.fp n→H' a=some o) (hnew:∀ a∈f',a∈m.fp n∨H a=none)
  (hok:ExtR H m s H' (m.fput n f') (s.set n c')→CellOk K CB H' (m.fput n f') (s.set n c') n c') :
  SR K CB H' (m.fput n f') (s.set n c')∧ExtR H m s H' (m.fput n f') (s.set n c')∧((∀ l,c≠.dfz l)→Ext H m s H' (m.fput n f') (s.set n c')):=by
 have hin:n∈s.cs.map (·.1):=am.mpr ⟨_,lx hn,rfl⟩
 have hkd:∀ a∈m.hid,∀ o,H a=some o→(∀ ps,o≠.tbl ps)→H' a=some o:=fun a ha o h _=>k a o h fun z=>S.hx n hin a z ha
 have htb:TbS H H':=.of fun a o h od=>k a o h fun z=>by
  obtain ⟨o',e',_,_,no⟩:=(S.get hn).kind z
  rw [h] at e';cases e';exact no od
 have hx:ExtR H m s H' (m.fput n f') (s.set n c'):=by
  refine ⟨aC _,fun _ _=>rfl,fun a u h p=>?_,fun a u h _ p=>k _ _ h (p.2 n hin)⟩
  have hne:∃ o,H a=some o:=h.elim (fun h=>⟨_,h⟩) fun ⟨o,h⟩=>⟨_,h⟩
  refine ⟨h.elim (fun h=>.inl (k _ _ h (p.2 n hin))) fun ⟨o,h⟩=>.inr ⟨o,k _ _ h (p.2 n hin)⟩,p.1,fun j hj hm=>?_⟩
  have hm:a∈(if j=n then f' else m.fp j):=hm
  have hj':j∈s.cs.map (·.1):=by rw [← nr (n:=n) (c:=c')];exact hj
  by_cases e:j=n
  ·simp only [e,if_pos] at hm
   rcases hnew a hm with z | z
   ·exact p.2 n hin z
   ·obtain ⟨o,ho⟩:=hne;rw [z] at ho;cases ho
  ·simp only [if_neg e] at hm
   exact p.2 j hj' hm
 refine ⟨⟨?_,?_,fun q hq=>?_,fun j hj i hi hne a ha hb=>?_,fun j hj a ha hb=>?_,S.hsk hkd htb,S.tbk htb⟩,hx,fun hnd=>⟨⟨hx,fun j l hj h=>?_⟩,rfl,hkd⟩⟩
 ·show ((mE n c' s.cs).map (·.1)).Nodup
  rw [nr];exact S.nd
 ·intro j hj
  have hj':j∈s.cs.map (·.1):=by rw [← nr (n:=n) (c:=c')];exact hj
  exact S.lt j hj'
 ·rcases zd S.nd hq with rfl | ⟨hq,hne⟩
  ·exact hok hx
  ·refine (S.ok q hq).keep S hx (fun a ha o h=>k a o h (S.dj _ (am.mpr ⟨q,hq,rfl⟩) _ hin hne a ha)) rfl ?_
   show (if q.1=n then f' else m.fp q.1)=_
   rw [if_neg hne]
 ·have ha:a∈(if j=n then f' else m.fp j):=ha
  have hb:a∈(if i=n then f' else m.fp i):=hb
  have hj':j∈s.cs.map (·.1):=by rw [← nr (n:=n) (c:=c')];exact hj
  have hi':i∈s.cs.map (·.1):=by rw [← nr (n:=n) (c:=c')];exact hi
  have none_out:∀ j∈s.cs.map (·.1),∀ a∈m.fp j,H a≠none:=fun j hj a ha z=>by
   obtain ⟨q,hq,rfl⟩:=am.mp hj
   obtain ⟨o,e,_⟩:=(S.ok q hq).kind ha
   rw [z] at e;cases e
  by_cases e1:j=n
  ·have e2:i≠n:=fun z=>hne (e1.trans z.symm)
   simp only [e1,if_pos] at ha
   simp only [if_neg e2] at hb
   rcases hnew a ha with z | z
   ·exact S.dj _ hin _ hi' (fun z=>e2 z.symm) a z hb
   ·exact none_out i hi' a hb z
  ·simp only [if_neg e1] at ha
   by_cases e2:i=n
   ·simp only [e2,if_pos] at hb
    rcases hnew a hb with z | z
    ·exact S.dj _ hj' _ hin e1 a ha z
    ·exact none_out j hj' a ha z
   ·simp only [if_neg e2] at hb
    exact S.dj _ hj' _ hi' hne a ha hb
 ·have ha:a∈(if j=n then f' else m.fp j):=ha
  have hj':j∈s.cs.map (·.1):=by rw [← nr (n:=n) (c:=c')];exact hj
  by_cases e1:j=n
  ·rw [if_pos e1] at ha
   rcases hnew a ha with z | z
   ·exact S.hx n hin a z hb
   ·exact (S.hs a hb).1 z
  ·rw [if_neg e1] at ha
   exact S.hx j hj' a ha hb
 ·have hjn:j≠n:=fun z=>by
   subst z
   have h:s.get j=some (.dfz l):=h
   rw [hn] at h
   exact hnd l (a8 h)
  refine ⟨(qA hjn).trans h,fun o ho=>?_⟩
  obtain ⟨e1,_⟩:=S.ok _ (lx h)
  exact k _ _ ho (S.dj j (am.mpr ⟨_,lx h,rfl⟩) n hin hjn _ (by rw [e1];simp))
theorem SR.put {K:aa}{CB:ae}{H:Hp}{m:Mp}{s:Sto} (S:SR K CB H m s) {n:Nat}{c c':Cell} (hn:s.get n=some c) (hnd:∀ l,c≠.dfz l) (H':Hp) (f':List ae) (k:∀ a o,H a=some o→a∉m.fp n→H' a=some o) (hnew:∀ a∈f',a∈m.fp n∨H a=none)
  (hok:ExtR H m s H' (m.fput n f') (s.set n c')→CellOk K CB H' (m.fput n f') (s.set n c') n c'):SR K CB H' (m.fput n f') (s.set n c')∧Ext H m s H' (m.fput n f') (s.set n c') :=
 let ⟨a,_,b⟩:=S.put' hn H' f' k hnew hok;⟨a,b hnd⟩
def Mp.add (m:Mp) (n:Nat) (p:ae) (f:List ae):Mp:=⟨fun j=>if j=n then p else m.ad j,fun j=>if j=n then f else m.fp j,m.hid⟩
theorem SR.add {K:aa}{CB:ae}{H:Hp}{m:Mp}{s:Sto} (S:SR K CB H m s) {c:Cell} (H':Hp) (p:ae) (f:List ae) (k:Same H H') (hf:∀ a∈f,H a=none) (hok:Ext H m s H' (m.add s.nx p f) (s.add c)→CellOk K CB H' (m.add s.nx p f) (s.add c) s.nx c) :
  SR K CB H' (m.add s.nx p f) (s.add c)∧Ext H m s H' (m.add s.nx p f) (s.add c):=by
 have hlt:∀ j∈s.cs.map (·.1),j≠s.nx:=fun j hj=>aQ (S.lt j hj)
 have none_out:∀ j∈s.cs.map (·.1),∀ a∈m.fp j,H a≠none:=fun j hj a ha z=>by
  obtain ⟨q,hq,rfl⟩:=am.mp hj
  obtain ⟨o,e,_⟩:=(S.ok q hq).kind ha
  rw [z] at e;cases e
 have hx:Ext H m s H' (m.add s.nx p f) (s.add c):=by
  refine ⟨⟨⟨eR _,fun j hj=>?_,fun a u h q=>⟨h.same k,q.1,fun j hj hm=>?_⟩,fun a u h _ _=>k _ _ h⟩,fun j l hj h=>⟨?_,fun o ho=>k _ _ ho⟩⟩,rfl,fun a _ o h _=>k a o h⟩
  rotate_left 2
  ·show lL ((s.nx,c)::s.cs) j=_
   unfold lL
   rw [if_neg (fun z=>aQ hj z.symm)]
   exact h
  ·show (if j=s.nx then p else m.ad j)=_
   rw [if_neg (aQ hj)]
  ·have hm:a∈(if j=s.nx then f else m.fp j):=hm
   rcases aj.mp (show j∈s.nx::s.cs.map (·.1) from hj) with e | hj
   ·rw [if_pos e] at hm
    have:=hf a hm
    rcases h with h | ⟨o,h⟩ <;> (rw [this] at h;cases h)
   ·rw [if_neg (hlt j hj)] at hm
    exact q.2 j hj hm
 have hfp:∀ j∈s.cs.map (·.1),(m.add s.nx p f).fp j=m.fp j:=fun j hj=>by
  show (if j=s.nx then f else m.fp j)=_
  rw [if_neg (hlt j hj)]
 have hfn:(m.add s.nx p f).fp s.nx=f:=by show (if s.nx=s.nx then f else _)=_;rw [if_pos rfl]
 refine ⟨⟨?_,?_,fun q hq=>?_,fun j hj i hi hne a ha hb=>?_,fun j hj a ha hb=>?_,S.hsk hx.hk (.same k),S.tbk (.same k)⟩,hx⟩
 ·exact aS.mpr ⟨fun z=>hlt _ z rfl,S.nd⟩
 ·intro j hj
  rcases aj.mp (show j∈s.nx::s.cs.map (·.1) from hj) with e | hj
  ·rw [e];exact dA _
  ·exact iE (S.lt j hj)
 ·rcases aj.mp (show q∈(s.nx,c)::s.cs from hq) with rfl | hq
  ·exact hok hx
  ·have hqm:q.1∈s.cs.map (·.1):=am.mpr ⟨q,hq,rfl⟩
   exact (S.ok q hq).keep S hx.toExtR (fun a ha o h=>k a o h) (hx.ad _ (S.lt _ hqm)) (hfp _ hqm)
 ·rcases aj.mp (show j∈s.nx::s.cs.map (·.1) from hj) with e | hj <;> rcases aj.mp (show i∈s.nx::s.cs.map (·.1) from hi) with e' | hi
  ·exact hne (e.trans e'.symm)
  ·rw [e,hfn] at ha;rw [hfp i hi] at hb;exact none_out i hi a hb (hf a ha)
  ·rw [hfp j hj] at ha;rw [e',hfn] at hb;exact none_out j hj a ha (hf a hb)
  ·rw [hfp j hj] at ha;rw [hfp i hi] at hb;exact S.dj j hj i hi hne a ha hb
 ·rcases aj.mp (show j∈s.nx::s.cs.map (·.1) from hj) with e | hj
  ·rw [e,hfn] at ha;exact (S.hs a hb).1 (hf a ha)
  ·rw [hfp j hj] at ha;exact S.hx j hj a ha hb
theorem SR.del {K:aa}{CB:ae}{H:Hp}{m:Mp}{s:Sto} (S:SR K CB H m s) (n:Nat) (hnd:∀ l,s.get n≠some (.dfz l)):SR K CB H m (s.del n)∧Ext H m s H m (s.del n):=by
 have hin:∀ j∈(s.del n).cs.map (·.1),j∈s.cs.map (·.1):=fun j hj=>by
  obtain ⟨q,hq,rfl⟩:=am.mp hj
  exact am.mpr ⟨q,qN hq,rfl⟩
 have hx:Ext H m s H m (s.del n):=⟨⟨⟨aC _,fun _ _=>rfl,fun a u h p=>⟨h,p.1,fun j hj=>p.2 j (hin j hj)⟩,fun _ _ h _ _=>h⟩,fun j l hj h=>⟨(qB (fun z=>hnd l (by rw [← z];exact h))).trans h,fun o h=>h⟩⟩,rfl,fun _ _ _ h _=>h⟩
 exact ⟨⟨Bl S.nd,fun j hj=>S.lt j (hin j hj),fun q hq=>(S.ok q (qN hq)).keep S hx.toExtR (fun _ _ _ h=>h) rfl rfl,fun j hj i hi=>S.dj j (hin j hj) i (hin i hi),fun j hj=>S.hx j (hin j hj),S.hs,S.tb⟩,hx⟩
inductive Out (α:Type) where
 | ok (a:α) (s:Sto) | ex (c:ae) (s:Sto) | bad
def Out.bind {α β:Type} (o:Out α) (k:α→Sto→Out β):Out β:=match o with
 | .ok a s=>k a s
 | .ex c s=>.ex c s
 | .bad=>.bad
abbrev En:=List (Option PV)
abbrev XE:=En→Sto→Out PV
abbrev XT:=En→Sto→Out Bool
abbrev XA:=En→Sto→Out (List PV)
inductive SO where
 | nx (ρ:En) (s:Sto) | rt (v:PV) (s:Sto) | bk (ρ:En) (s:Sto) | ct (ρ:En) (s:Sto) | ex (c:ae) (s:Sto) | bad
abbrev XS:=En→Sto→SO
def Post {α β:Type} (K:aa) (CB:ae) (R:Hp→Mp→Sto→β→α→Prop) (E:XK) (o:Out α) (H:Hp) (m:Mp) (s:Sto) (Q:β→Hp→Prop):Prop:=match o with
 | .ok v s'=>∀ u H' m',Ext H m s H' m' s'→SR K CB H' m' s'→R H' m' s' u v→Q u H'
 | .ex c s'=>∀ H' m',Ext H m s H' m' s'→SR K CB H' m' s'→E (.ref c) none H'
 | .bad=>False
theorem Post.shift {α β:Type}{K:aa}{CB:ae}{R:Hp→Mp→Sto→β→α→Prop}{E:XK}{o:Out α}{H H1:Hp}{m m1:Mp}{s s1:Sto}{Q:β→Hp→Prop} (e:Ext H m s H1 m1 s1) (h:Post K CB R E o H m s Q):Post K CB R E o H1 m1 s1 Q:=by
 cases o with
 | ok v s'=>exact fun u H' m' x S r=>h u H' m' (e.trans x) S r
 | ex c s'=>exact fun H' m' x S=>h H' m' (e.trans x) S
 | bad=>exact h
theorem Post.bind {α β α' β':Type}{K:aa}{CB:ae}{R:Hp→Mp→Sto→β→α→Prop}{R':Hp→Mp→Sto→β'→α'→Prop}{E:XK}{o:Out α}{k:α→Sto→Out α'}{H:Hp}{m:Mp}{s:Sto}{Q:β'→Hp→Prop}{Q1:β→Hp→Prop} (h:Post K CB R' E (o.bind k) H m s Q)
  (f:∀ v s1 u H1 m1,Ext H m s H1 m1 s1→SR K CB H1 m1 s1→R H1 m1 s1 u v→Post K CB R' E (k v s1) H1 m1 s1 Q→Q1 u H1):Post K CB R E o H m s Q1:=by
 cases o with
 | ok v s1=>exact fun u H1 m1 x S r=>f v s1 u H1 m1 x S r (Post.shift x h)
 | ex c s'=>exact h
 | bad=>exact h
theorem Post.here {α β:Type}{K:aa}{CB:ae}{R:Hp→Mp→Sto→β→α→Prop}{E:XK}{v:α}{H:Hp}{m:Mp}{s:Sto}{Q:β→Hp→Prop}{u:β} (h:Post K CB R E (.ok v s) H m s Q) (S:SR K CB H m s) (r:R H m s u v):Q u H:=h u H m .refl S r
theorem Post.new {α β:Type}{K:aa}{CB:ae}{R:Hp→Mp→Sto→β→α→Prop}{E:XK}{v:α}{H:Hp}{m:Mp}{s:Sto}{Q:β→Hp→Prop}{u:β}{p:ae}{o:HO} (h:Post K CB R E (.ok v s) H m s Q) (S:SR K CB H m s) (hp:H p=none)
  (r:Ext H m s (upd H p o) m s→SR K CB (upd H p o) m s→R (upd H p o) m s u v):Q u (upd H p o):=by
 have k:Same H (upd H p o):=My.pj hp
 exact h u _ m (.same k) (S.same k) (r (.same k) (S.same k))
structure ER (K:aa) (H:Hp) (m:Mp) (s:Sto) (σ:St) (ρ:En):Prop where
 len:ρ.length=σ.length
 at_:∀ (i:Nat) (p:PV),ρ[i]?=some (some p)→∃ u,σ[i]?=some (some u)∧Rep K H m s u p
theorem ER.ext {K:aa}{H H':Hp}{m m':Mp}{s s':Sto}{σ:St}{ρ:En} (h:ER K H m s σ ρ) (e:Ext H m s H' m' s'):ER K H' m' s' σ ρ :=
 ⟨h.len,fun i p q=>let ⟨u,a,b⟩:=h.at_ i p q;⟨u,a,b.ext e⟩⟩
theorem ER.set {K:aa}{H:Hp}{m:Mp}{s:Sto}{σ:St}{ρ:En}{u:V}{p:PV} (h:ER K H m s σ ρ) (i:Nat) (r:Rep K H m s u p):ER K H m s (σ.set i (some u)) (ρ.set i (some p)):=by
 refine ⟨by simp [h.len],fun j q e=>?_⟩
 rw [iy] at e ⊢
 by_cases c:i=j
 ·rw [if_pos c] at e ⊢
  by_cases d:i < ρ.length
  ·rw [if_pos d] at e;rw [if_pos (by rw [← h.len];exact d)];cases e;exact ⟨u,rfl,r⟩
  ·rw [if_neg d] at e;cases e
 ·rw [if_neg c] at e ⊢;exact h.at_ j q e
theorem ER.cons {K:aa}{H:Hp}{m:Mp}{s:Sto}{σ:St}{ρ:En}{u:V}{p:PV} (h:ER K H m s σ ρ) (r:Rep K H m s u p):ER K H m s (some u::σ) (some p::ρ):=by
 refine ⟨by simp [h.len],fun j q e=>?_⟩
 cases j with
 | zero=>simp at e;subst e;exact ⟨u,rfl,r⟩
 | succ j=>exact h.at_ j q (by simpa using e)
theorem ER.start {K:aa}{H:Hp}{m:Mp}{s:Sto}:∀ {vs:List V}{ps:List PV},Reps K H m s vs ps→∀ n,ER K H m s (vs.map some++aY n none) (ps.map some++aY n none)
 | _,_,.nil,n=>⟨by simp,fun i p e=>by
   have e:(aY n (none:Option PV))[i]?=some (some p):=by simpa using e
   rw [jv] at e
   split at e <;> cases e⟩
 | _,_,.cons a b,n=>(ER.start b n).cons a
def lJ (ix:List Nat) (ρ:En):En:=ix.map fun i=>(ρ[i]?).getD none
theorem ER.capt {K:aa}{H:Hp}{m:Mp}{s:Sto}{σ:St}{ρ:En} (h:ER K H m s σ ρ) (ix:List Nat):ER K H m s (capt ix σ) (lJ ix ρ):=by
 refine ⟨by simp [L2.capt,lJ],fun j q e=>?_⟩
 unfold lJ at e
 unfold L2.capt
 rw [bv] at e ⊢
 cases c:ix[j]? with
 | none=>rw [c] at e;cases e
 | some i =>
  rw [c] at e
  have e:(ρ[i]?).getD none=some q:=a8 e
  cases d:ρ[i]? with
  | none=>rw [d] at e;cases e
  | some o =>
   rw [d] at e
   have e:o=some q:=e
   subst e
   obtain ⟨u,h1,h2⟩:=h.at_ i q d
   refine ⟨u,?_,h2⟩
   show some ((σ[i]?).getD none)=_
   rw [h1];rfl
def TDE (K:aa) (CB:ae) (E:XK) (f:XE):TE:=fun σ H Q=>∃ ρ s m,ER K H m s σ ρ∧SR K CB H m s∧Post K CB (Rep K) E (f ρ s) H m s Q
def TDT (K:aa) (CB:ae) (E:XK) (f:XT):TT:=fun σ H Q=>∃ ρ s m,ER K H m s σ ρ∧SR K CB H m s∧Post K CB (fun _ _ _ u v=>u=v) E (f ρ s) H m s Q
def TDA (K:aa) (CB:ae) (E:XK) (f:XA):TA:=fun σ H Q=>∃ ρ s m,ER K H m s σ ρ∧SR K CB H m s∧Post K CB (Reps K) E (f ρ s) H m s Q
def PostS (K:aa) (CB:ae) (E:XK) (o:SO) (H:Hp) (m:Mp) (s:Sto) (D:Ends):Prop:=match o with
 | .nx ρ' s'=>∀ σ' H' m',Ext H m s H' m' s'→SR K CB H' m' s'→ER K H' m' s' σ' ρ'→D.nx σ' H'
 | .rt v s'=>∀ u H' m',Ext H m s H' m' s'→SR K CB H' m' s'→Rep K H' m' s' u v→D.rt u H'
 | .bk ρ' s'=>∀ σ' H' m',Ext H m s H' m' s'→SR K CB H' m' s'→ER K H' m' s' σ' ρ'→D.bk σ' H'
 | .ct ρ' s'=>∀ σ' H' m',Ext H m s H' m' s'→SR K CB H' m' s'→ER K H' m' s' σ' ρ'→D.ct σ' H'
 | .ex c s'=>∀ H' m',Ext H m s H' m' s'→SR K CB H' m' s'→E (.ref c) none H'
 | .bad=>False
def TDS (K:aa) (CB:ae) (E:XK) (g:XS):TS:=fun D σ H=>∃ ρ s m,ER K H m s σ ρ∧SR K CB H m s∧PostS K CB E (g ρ s) H m s D
structure DE (X:Cx) (CB:ae) (E:XK) (e:bh) (f:XE):Prop where
 pe:PE X e (TDE X.K CB E f)
structure DT (X:Cx) (CB:ae) (E:XK) (e:bh) (f:XT):Prop where
 pt:PT X e (TDT X.K CB E f)
structure DW (X:Cx) (CB:ae) (E:XK) (e:bh) (f:XT):Prop where
 pw:PW X e (TDT X.K CB E f)
structure DA (X:Cx) (CB:ae) (E:XK) (es:List bh) (f:XA):Prop where
 pa:PA X es (TDA X.K CB E f)
structure DS (X:Cx) (CB:ae) (E:XK) (st:bM) (g:XS):Prop where
 ps:PS X st (TDS X.K CB E g)
structure DSs (X:Cx) (CB:ae) (E:XK) (st:List bM) (g:XS):Prop where
 pss:PSs X st (TDS X.K CB E g)
theorem PE.mono {X:Cx}{e:bh}{t t':TE} (h:PE X e t) (k:∀ σ H Q,t' σ H Q→t σ H Q):PE X e t':=fun pins s σ H Q I q=>h pins s σ H Q I (k σ H Q q)
theorem PT.mono {X:Cx}{e:bh}{t t':TT} (h:PT X e t) (k:∀ σ H Q,t' σ H Q→t σ H Q):PT X e t':=fun pins s σ H Q I q=>h pins s σ H Q I (k σ H Q q)
theorem PW.mono {X:Cx}{e:bh}{t t':TT} (h:PW X e t) (k:∀ σ H Q,t' σ H Q→t σ H Q):PW X e t':=fun w pins s σ H Q I q=>h w pins s σ H Q I (k σ H Q q)
theorem PA.mono {X:Cx}{e:List bh}{t t':TA} (h:PA X e t) (k:∀ σ H Q,t' σ H Q→t σ H Q):PA X e t':=fun pos pins s σ H Q I q=>h pos pins s σ H Q I (k σ H Q q)
theorem PS.mono {X:Cx}{e:bM}{t t':TS} (h:PS X e t) (k:∀ D σ H,t' D σ H→t D σ H):PS X e t':=fun pins s σ H D I q=>h pins s σ H D I (k D σ H q)
theorem PSs.mono {X:Cx}{e:List bM}{t t':TS} (h:PSs X e t) (k:∀ D σ H,t' D σ H→t D σ H):PSs X e t':=fun pins s σ H D I q=>h pins s σ H D I (k D σ H q)
def xVar (i:Nat) (ρ:En) (s:Sto):Out PV:=match ρ[i]? with
 | some (some p)=>.ok p s
 | _=>.bad
def xC (p:PV) (_:En) (s:Sto):Out PV:=.ok p s
def x1 (f:XE) (F:PV→Sto→Out PV) (ρ:En) (s:Sto):Out PV:=(f ρ s).bind F
def x2 (f g:XE) (F:PV→PV→Sto→Out PV) (ρ:En) (s:Sto):Out PV:=(f ρ s).bind fun v s1=>(g ρ s1).bind fun w s2=>F v w s2
def xNil (_:En) (s:Sto):Out (List PV):=.ok [] s
def xCons (f:XE) (g:XA) (ρ:En) (s:Sto):Out (List PV):=(f ρ s).bind fun v s1=>(g ρ s1).bind fun vs s2=>.ok (v::vs) s2
section
variable {X:Cx}{CB:ae}{E:XK}{a b c e:bh}{es:List bh}{f g h:XE}{fa:XA}{p pos apos:Pos}{x:Str}
def Op2 (K:aa) (CB:ae) (E:XK) (r:R2) (F:PV→PV→Sto→Out PV):Prop:=∀ H m s v w x y Q,SR K CB H m s→Rep K H m s x v→Rep K H m s y w→Post K CB (Rep K) E (F v w s) H m s Q→r x y H Q
def Op1 (K:aa) (CB:ae) (E:XK) (r:V→Hp→VK→Prop) (F:PV→Sto→Out PV):Prop:=∀ H m s v x Q,SR K CB H m s→Rep K H m s x v→Post K CB (Rep K) E (F v s) H m s Q→r x H Q
def OpN (K:aa) (CB:ae) (E:XK) (r:List V→Hp→VK→Prop) (F:List PV→Sto→Out PV):Prop:=∀ H m s v x Q,SR K CB H m s→Reps K H m s x v→Post K CB (Rep K) E (F v s) H m s Q→r x H Q
theorem two {r:R2}{F:PV→PV→Sto→Out PV} (o:Op2 X.K CB E r F) {σ:St}{H:Hp}{Q:VK} (q:TDE X.K CB E (x2 f g F) σ H Q):tOp r (TDE X.K CB E f) (TDE X.K CB E g) σ H Q:=by
 obtain ⟨ρ,s,m,er,S,P⟩:=q
 exact ⟨ρ,s,m,er,S,P.bind fun v s1 u H1 m1 e1 S1 r1 P1=>⟨ρ,s1,m1,er.ext e1,S1,P1.bind fun w s2 u2 H2 m2 e2 S2 r2 P2=>o H2 m2 s2 v w u u2 Q S2 (r1.ext e2) r2 P2⟩⟩
theorem ky (i:Nat) (hN:X.N[i]?=some x:=by rfl) (hv:Vis X.env.scope x:=by first | exact bw rfl | exact eM (bw rfl) | exact eM (eM rfl)) (hd:(x == ("__debug__":Str))=false:=by decide)
  (hcd:(x == ("__classdict__":Str))=false:=by decide):DE X CB E (.Name x pos) (xVar i):=⟨(yt hN hv hd hcd).mono fun σ H Q ⟨ρ,s,m,er,S,P⟩=>by
 unfold xVar at P
 split at P
 ·rename_i q hq
  obtain ⟨u,h1,h2⟩:=er.at_ i q hq
  exact ⟨u,h1,P.here S h2⟩
 ·exact P.elim⟩
theorem kG {i:Int}{j:Nat}:DE X CB E (.Constant (.int i) j pos) (xC (.int i)):=⟨pe_int.mono fun σ H Q ⟨ρ,s,m,er,S,P⟩=>P.here S .int⟩
theorem yB {i:Bool}{j:Nat}:DE X CB E (.Constant (.bool i) j pos) (xC (.bl i)):=⟨pe_bl.mono fun σ H Q ⟨ρ,s,m,er,S,P⟩=>P.here S .bl⟩
theorem pB {i:Str}{j:Nat}:DE X CB E (.Constant (.str i) j pos) (xC (.str i)):=⟨pe_str.mono fun σ H Q ⟨ρ,s,m,er,S,P⟩=>P.here S .str⟩
theorem AW {j:Nat}:DE X CB E (.Constant .none j pos) (xC .non):=⟨pe_non.mono fun σ H Q ⟨ρ,s,m,er,S,P⟩=>P.here S .non⟩
theorem Bm {v:V}{q:PV}{u:af} (hg:Gl X x) (hm:X.mg x=some u) (r:RelV v u) (hq:∀ H m s,Rep X.K H m s v q) (hd:(x == ("__debug__":Str))=false:=by decide):DE X CB E (.Name x pos) (xC q) :=
 ⟨(nJ hg hm r hd).mono fun σ H Q ⟨ρ,s,m,er,S,P⟩=>P.here S (hq H m s)⟩
theorem yA {op:Operator}{r:R2}{F:PV→PV→Sto→Out PV} (ho:OpR X (dR op) r) (o:Op2 X.K CB E r F) (ha:DE X CB E a f) (hb:DE X CB E b g):DE X CB E (.BinOp a op b pos) (x2 f g F):=⟨(qf ho ha.pe hb.pe).mono fun σ H Q q=>two o q⟩
theorem de_un {op:UnaryOp}{r:V→Hp→VK→Prop}{F:PV→Sto→Out PV} (ho:UnR X (unaryOp op) r) (o:Op1 X.K CB E r F) (ha:DE X CB E a f):DE X CB E (.UnaryOp op a pos) (x1 f F):=⟨(GM ho ha.pe).mono fun σ H Q ⟨ρ,s,m,er,S,P⟩ =>
 ⟨ρ,s,m,er,S,P.bind fun v s1 u H1 m1 e1 S1 r1 P1=>o H1 m1 s1 v u Q S1 r1 P1⟩⟩
theorem de_cmp {op:iH}{r:R2}{F:PV→PV→Sto→Out PV} (ho:OpR X (bP op) r) (o:Op2 X.K CB E r F) (ha:DE X CB E a f) (hb:DE X CB E b g) (hm:cI op b=false):DE X CB E (.Compare a [op] [b] pos) (x2 f g F):=⟨(Ba ho ha.pe hb.pe hm).mono fun σ H Q q=>two o q⟩
def xTr (f:XE) (ρ:En) (s:Sto):Out Bool:=(f ρ s).bind fun v s1=>match v with
 | .bl b=>.ok b s1
 | _=>.bad
theorem TDT.tst {σ:St}{H:Hp}{Q:Bool→Hp→Prop} (q:TDT X.K CB E (xTr f) σ H Q):TDE X.K CB E f σ H fun x H1=>∃ k,x=.bl k∧Q k H1:=by
 obtain ⟨ρ,s,m,er,S,P⟩:=q
 refine ⟨ρ,s,m,er,S,P.bind fun v s1 u H1 m1 e1 S1 r1 P1=>?_⟩
 cases r1 <;> first | exact P1.elim | exact ⟨_,rfl,P1.here S1 rfl⟩
theorem dt_cmp {op:iH}{r:R2}{F:PV→PV→Sto→Out PV} (ho:OpR X (bP op) r) (o:Op2 X.K CB E r F) (ha:DE X CB E a f) (hb:DE X CB E b g) (hm:cI op b=false):DT X CB E (.Compare a [op] [b] pos) (xTr (x2 f g F)):=⟨(rm ho ha.pe hb.pe hm).mono fun σ H Q q=>two o (TDT.tst q)⟩
theorem nN (h:DE X CB E e f) (he:∀ whole,isTrue e X.env whole=(do let v ← whole;gB e.pos;holding [v] (truthy v)):=by intro _;rfl):DT X CB E e (xTr f):=⟨(sA h.pe he).mono fun σ H Q q=>TDT.tst q⟩
def xChain (f g h:XE) (F G:PV→PV→Sto→Out PV) (ρ:En) (s:Sto):Out PV:=(f ρ s).bind fun v s1=>(g ρ s1).bind fun w s2=>(F v w s2).bind fun z s3=>match z with
 | .bl true=>(h ρ s3).bind fun y s4=>G w y s4
 | .bl false=>.ok (.bl false) s3
 | _=>.bad
def xNot (f:XT) (ρ:En) (s:Sto):Out Bool:=(f ρ s).bind fun b s1=>.ok (!b) s1
def xAnd (f g:XT) (ρ:En) (s:Sto):Out Bool:=(f ρ s).bind fun b s1=>if b=true then g ρ s1 else .ok false s1
def xOr (f g:XT) (ρ:En) (s:Sto):Out Bool:=(f ρ s).bind fun b s1=>if b=true then .ok true s1 else g ρ s1
variable {t u:XT}{lK:List bh}
theorem rK (h:DT X CB E a t):DT X CB E (.UnaryOp .Not a pos) (xNot t):=⟨(vS h.pt).mono fun σ H Q ⟨ρ,s,m,er,S,P⟩ =>
 ⟨ρ,s,m,er,S,P.bind fun v s1 b H1 m1 e1 S1 r1 P1=>by cases r1;exact P1.here S1 rfl⟩⟩
theorem Bi (h:DT X CB E a t):DW X CB E (.BoolOp .And [a] pos) t:=⟨FD h.pt⟩
theorem yx (h:DT X CB E a t):DW X CB E (.BoolOp .Or [a] pos) t:=⟨EH h.pt⟩
theorem EZ (h:DT X CB E a t) (k:DW X CB E (.BoolOp .And (b::lK) pos) u):DW X CB E (.BoolOp .And (a::b::lK) pos) (xAnd t u):=⟨(Ht h.pt k.pw).mono fun σ H Q ⟨ρ,s,m,er,S,P⟩ =>
 ⟨ρ,s,m,er,S,P.bind fun v s1 b H1 m1 e1 S1 r1 P1=>by
  cases r1
  refine rW (fun c=>?_) fun c=>?_
  ·rw [if_pos c] at P1;exact ⟨ρ,s1,m1,er.ext e1,S1,P1⟩
  ·rw [if_neg c] at P1;exact P1.here S1 rfl⟩⟩
theorem CP (h:DT X CB E a t) (k:DW X CB E (.BoolOp .Or (b::lK) pos) u):DW X CB E (.BoolOp .Or (a::b::lK) pos) (xOr t u):=⟨(GL h.pt k.pw).mono fun σ H Q ⟨ρ,s,m,er,S,P⟩ =>
 ⟨ρ,s,m,er,S,P.bind fun v s1 b H1 m1 e1 S1 r1 P1=>by
  cases r1
  refine rW (fun c=>?_) fun c=>?_
  ·rw [if_pos c] at P1;exact P1.here S1 rfl
  ·rw [if_neg c] at P1;exact ⟨ρ,s1,m1,er.ext e1,S1,P1⟩⟩⟩
theorem DW.dt (h:DW X CB E a t):DT X CB E a t:=⟨h.pw.pt⟩
def xAndV (f g:XE) (ρ:En) (s:Sto):Out PV:=(f ρ s).bind fun v s1=>match v with
 | .bl true=>g ρ s1
 | .bl false=>.ok (.bl false) s1
 | _=>.bad
def xOrV (f g:XE) (ρ:En) (s:Sto):Out PV:=(f ρ s).bind fun v s1=>match v with
 | .bl true=>.ok (.bl true) s1
 | .bl false=>g ρ s1
 | _=>.bad
def xNotV (f:XE) (ρ:En) (s:Sto):Out PV:=(f ρ s).bind fun v s1=>match v with
 | .bl b=>.ok (.bl (!b)) s1
 | _=>.bad
theorem AV {op:BoolOp} (h:DE X CB E a f):DE X CB E (.BoolOp op [a] pos) f:=⟨AN h.pe⟩
theorem E1 (h:DE X CB E a f) (k:DE X CB E (.BoolOp .And (b::lK) pos) g):DE X CB E (.BoolOp .And (a::b::lK) pos) (xAndV f g):=⟨(EL h.pe k.pe).mono fun σ H Q ⟨ρ,s,m,er,S,P⟩ =>
 ⟨ρ,s,m,er,S,P.bind fun v s1 b H1 m1 e1 S1 r1 P1=>by
  cases r1 with
  | bl =>
   rename_i b
   cases b
   ·exact ⟨_,rfl,F7 (P1.here S1 .bl)⟩
   ·exact ⟨_,rfl,F6 ⟨ρ,s1,m1,er.ext e1,S1,P1⟩⟩
  | _=>exact P1.elim⟩⟩
theorem de_or (h:DE X CB E a f) (k:DE X CB E (.BoolOp .Or (b::lK) pos) g):DE X CB E (.BoolOp .Or (a::b::lK) pos) (xOrV f g):=⟨(GN h.pe k.pe).mono fun σ H Q ⟨ρ,s,m,er,S,P⟩ =>
 ⟨ρ,s,m,er,S,P.bind fun v s1 b H1 m1 e1 S1 r1 P1=>by
  cases r1 with
  | bl =>
   rename_i b
   cases b
   ·exact ⟨_,rfl,F7 ⟨ρ,s1,m1,er.ext e1,S1,P1⟩⟩
   ·exact ⟨_,rfl,F6 (P1.here S1 .bl)⟩
  | _=>exact P1.elim⟩⟩
theorem kB:DA X CB E [] xNil:=⟨pa_nil.mono fun σ H Q ⟨ρ,s,m,er,S,P⟩=>P.here S .nil⟩
theorem ku (ha:DE X CB E e f) (hr:DA X CB E es fa) (hs:aK (e::es) X.env=(false,eval e X.env)::aK es X.env:=by rfl):DA X CB E (e::es) (xCons f fa):=⟨(kJ ha.pe hr.pa hs).mono fun σ H Q ⟨ρ,s,m,er,S,P⟩ =>
 ⟨ρ,s,m,er,S,P.bind fun v s1 u H1 m1 e1 S1 r1 P1=>⟨ρ,s1,m1,er.ext e1,S1,P1.bind fun w s2 u2 H2 m2 e2 S2 r2 P2=>P2.here S2 (.cons (r1.ext e2) r2)⟩⟩⟩
theorem Reps.length {K:aa}{H:Hp}{m:Mp}{s:Sto}:∀ {vs:List V}{l:List PV},Reps K H m s vs l→vs.length=l.length
 | _,_,.nil=>rfl
 | _,_,.cons _ b=>congrArg Nat.succ b.length
theorem sz5 {n:Nat} (h:n≤100000):n≤aP:=aN h (by decide)
theorem sz6 {n:Nat} (h:n < 100000):n < aP:=aA h (by decide)
def xTup (fa:XA) (ρ:En) (s:Sto):Out PV:=(fa ρ s).bind fun vs s1=>if vs.length≤100000 then .ok (.tup vs) s1 else .bad
def xLst (fa:XA) (ρ:En) (s:Sto):Out PV:=(fa ρ s).bind fun vs s1=>if vs.length≤100000 then .ok (.lst vs) s1 else .bad
def xLstC (fa:XA) (ρ:En) (s:Sto):Out PV:=(fa ρ s).bind fun vs s1=>if vs.length≤100000 then .ok (.ref s1.nx) (s1.add (.lst vs)) else .bad
theorem rM {x1} (h:DA X CB E es fa):DE X CB E (.Tuple es x1 pos) (xTup fa):=⟨(vX h.pa).mono fun σ H Q ⟨ρ,s,m,er,S,P⟩ =>
 ⟨ρ,s,m,er,S,P.bind fun v s1 u H1 m1 e1 S1 r1 P1=>by
  split at P1
  ·rename_i hl
   exact ⟨by rw [r1.length];exact sz5 hl,fun p hp=>P1.new S1 hp fun ex S'=>.tup (.inl ⟨.inl kD,S'.pure_tup kD⟩) (r1.ext ex)⟩
  ·exact P1.elim⟩⟩
theorem lu (h:DA X CB E es fa):DE X CB E (.List es pos) (xLst fa):=⟨(EJ h.pa).mono fun σ H Q ⟨ρ,s,m,er,S,P⟩ =>
 ⟨ρ,s,m,er,S,P.bind fun v s1 u H1 m1 e1 S1 r1 P1=>by
  split at P1
  ·rename_i hl
   exact ⟨by rw [r1.length];exact sz5 hl,fun p hp=>P1.new S1 hp fun ex S'=>.lst kD (S1.pure_none hp) (r1.ext ex)⟩
  ·exact P1.elim⟩⟩
theorem SR.newL {K:aa}{H:Hp}{m:Mp}{s:Sto}{vs:List V}{l:List PV}{p:ae} (S:SR K CB H m s) (hp:H p=none) (r:Reps K H m s vs l):SR K CB (upd H p (.lst vs)) (m.add s.nx p [p]) (s.add (.lst l))∧Ext H m s (upd H p (.lst vs)) (m.add s.nx p [p]) (s.add (.lst l)) :=
 S.add _ p [p] (My.pj hp) (fun a ha=>by rw [ay.mp ha];exact hp) fun ex=>by
  have e1:(m.add s.nx p [p]).ad s.nx=p:=by show (if s.nx=s.nx then p else _)=_;rw [if_pos rfl]
  have e2:(m.add s.nx p [p]).fp s.nx=[p]:=by show (if s.nx=s.nx then [p] else _)=_;rw [if_pos rfl]
  exact ⟨by rw [e1,e2],vs,by rw [e1];exact kD,r.ext ex⟩
theorem SR.newD {K:aa}{H H':Hp}{m:Mp}{s:Sto}{vs:List (Key×V)}{l:List (Key×PV)}{p:ae} (S:SR K CB H m s) (hp:H p=none) (k:Same H H') (hd:H' p=some (.dK vs)) (r:RepKs K H m s vs l):SR K CB H' (m.add s.nx p [p]) (s.add (.dct l))∧Ext H m s H' (m.add s.nx p [p]) (s.add (.dct l)) :=
 S.add _ p [p] k (fun a ha=>by rw [ay.mp ha];exact hp) fun ex=>by
  have e1:(m.add s.nx p [p]).ad s.nx=p:=by show (if s.nx=s.nx then p else _)=_;rw [if_pos rfl]
  have e2:(m.add s.nx p [p]).fp s.nx=[p]:=by show (if s.nx=s.nx then [p] else _)=_;rw [if_pos rfl]
  exact ⟨by rw [e1,e2],vs,by rw [e1];exact hd,r.ext ex⟩
theorem Mp.add_ad {m:Mp}{n:Nat}{p:ae}{f:List ae}:(m.add n p f).ad n=p:=by show (if n=n then p else _)=_;rw [if_pos rfl]
theorem Rep.new {K:aa}{H:Hp}{m:Mp}{s:Sto}{p:ae}{f:List ae}{c:Cell}:Rep K H (m.add s.nx p f) (s.add c) (.ref p) (.ref s.nx):=by
 have h:Rep K H (m.add s.nx p f) (s.add c) (.ref ((m.add s.nx p f).ad s.nx)) (.ref s.nx):=.ref (dA _)
 rw [Mp.add_ad] at h;exact h
theorem tz (h:DA X CB E es fa):DE X CB E (.List es pos) (xLstC fa):=⟨(EJ h.pa).mono fun σ H Q ⟨ρ,s,m,er,S,P⟩ =>
 ⟨ρ,s,m,er,S,P.bind fun v s1 u H1 m1 e1 S1 r1 P1=>by
  split at P1
  ·rename_i hl
   refine ⟨by rw [r1.length];exact sz5 hl,fun p hp=>?_⟩
   obtain ⟨S2,e2⟩:=S1.newL hp r1
   exact P1 _ _ _ e2 S2 .new
  ·exact P1.elim⟩⟩
end
def lsOf (s:Sto):PV→Option (List PV)
 | .lst l=>some l
 | .seq l=>some l
 | .ref n=>match s.get n with
  | some (.lst l)=>some l
  | _=>none
 | _=>none
def dcOf (s:Sto):PV→Option (List (Key×PV))
 | .dct l=>some l
 | .ref n=>match s.get n with
  | some (.dct l)=>some l
  | some (.dfz l)=>some l
  | _=>none
 | _=>none
def kyOf:PV→Option Key
 | .int i=>some (.inl i)
 | .str x=>some (.inr x)
 | _=>none
def toV:PV→Option V
 | .non=>some .non
 | .bl b=>some (.bl b)
 | .int i=>some (.int i)
 | .str x=>some (.str x)
 | _=>none
def toVs:List PV→Option (List V)
 | []=>some []
 | p::l=>match toV p,toVs l with
  | some v,some vs=>some (v::vs)
  | _,_=>none
def oz (l:List (Key×PV)) (k:Key):Option PV:=(l.find? fun kv=>decide (kv.1=k)).map (·.2)
def CZ (l:List (Key×PV)) (k:Key) (p:PV):List (Key×PV) :=
 if (l.any fun kv=>decide (kv.1=k))=true then l.map (fun kv=>if kv.1=k then (kv.1,p) else kv) else l++[(k,p)]
def tW (f:PV→Option PyData):List PV→Option (List PyData)
 | []=>some []
 | p::l=>match f p,tW f l with
  | some d,some ds=>some (d::ds)
  | _,_=>none
def PV.data (s:Sto):Nat→PV→Option PyData
 | 0,_=>none
 | _+1,.non=>some .none
 | _+1,.bl b=>some (.bool b)
 | _+1,.int i=>some (.int i)
 | _+1,.str x=>if cB x=true then some (.str x) else none
 | k+1,.tup l=>(tW (PV.data s k) l).map .tuple
 | k+1,.lst l=>(tW (PV.data s k) l).map .list
 | k+1,.seq l=>(tW (PV.data s k) l).map .list
 | k+1,.ref n=>match s.get n with
  | some (.lst l)=>(tW (PV.data s k) l).map .list
  | _=>none
 | _+1,_=>none
section
variable {K:aa}{CB:ae}{H:Hp}{m:Mp}{s:Sto}{x y:V}{v w:PV}
theorem Rep.ls (S:SR K CB H m s) (r:Rep K H m s x v) {l:List PV} (e:lsOf s v=some l):∃ a vs,x=.ref a∧SqL K H a vs∧Reps K H m s vs l:=by
 cases r with
 | lst h _ q=>cases e;exact ⟨_,_,rfl,SqL.of h,q⟩
 | seq h q=>cases e;exact ⟨_,_,rfl,h.elim (fun z=>.inl (.inr z.1)) .inr,q⟩
 | ref h =>
  rename_i n
  have e:(match s.get n with | some (.lst l)=>some l | _=>none)=some l:=e
  split at e <;> cases e
  rename_i hg
  obtain ⟨_,vs,h1,h2⟩:=S.get hg
  exact ⟨_,vs,rfl,SqL.of h1,h2⟩
 | _=>cases e
theorem Rep.tp (r:Rep K H m s x (.tup l)):∃ a vs,x=.ref a∧SqT K H a vs∧Reps K H m s vs l:=by
 cases r with
 | tup h q=>exact ⟨_,_,rfl,h.elim (fun z=>.inl z.1) .inr,q⟩
theorem Rep.dc (S:SR K CB H m s) (r:Rep K H m s x v) {l:List (Key×PV)} (e:dcOf s v=some l):∃ a vs,x=.ref a∧Rd H a (.dK vs)∧RepKs K H m s vs l:=by
 cases r with
 | dct h _ q=>cases e;exact ⟨_,_,rfl,h,q⟩
 | ref h =>
  rename_i n
  have e:(match s.get n with | some (.dct l)=>some l | some (.dfz l)=>some l | _=>none)=some l:=e
  split at e <;> cases e
  ·rename_i hg
   obtain ⟨_,vs,h1,h2⟩:=S.get hg
   exact ⟨_,vs,rfl,.inl h1,h2⟩
  ·rename_i hg
   obtain ⟨_,ob,vs,h1,h2⟩:=S.get hg
   exact ⟨_,vs,rfl,.inr ⟨ob,h1⟩,h2⟩
 | _=>cases e
theorem Rep.toV (r:Rep K H m s x v) {z:V} (e:L2.toV v=some z):x=z:=by cases r <;> first | cases e;rfl | cases e
theorem Reps.toVs:∀ {vs:List V}{l:List PV}{zs:List V},Reps K H m s vs l→L2.toVs l=some zs→vs=zs
 | _,_,_,.nil,e=>by cases e;rfl
 | _,_,_,.cons a b,e=>by
  unfold L2.toVs at e
  split at e <;> cases e
  rename_i h1 h2
  rw [a.toV h1,b.toVs h2]
theorem vz {v:PV}{z:V} (e:L2.toV v=some z):pU z=true:=by cases v <;> first | cases e;rfl | cases e
theorem tG:∀ {l:List PV}{zs:List V},L2.toVs l=some zs→zs.all pU=true
 | [],_,e=>by cases e;rfl
 | p::l,_,e=>by
  unfold L2.toVs at e
  split at e <;> cases e
  rename_i h1 h2
  rw [ia,vz h1,tG h2];rfl
theorem Reps.get:∀ {vs:List V}{l:List PV}{i:Nat}{p:PV},Reps K H m s vs l→l[i]?=some p→∃ u,vs[i]?=some u∧Rep K H m s u p
 | _,_,_,_,.nil,e=>by simp at e
 | _,_,0,_,.cons a _,e=>by simp at e;subst e;exact ⟨_,rfl,a⟩
 | _,_,i+1,p,.cons _ b,e=>by
  obtain ⟨u,h1,h2⟩:=b.get (i:=i) (p:=p) (by simpa using e)
  exact ⟨u,by simpa using h1,h2⟩
theorem Reps.atI {vs:List V}{l:List PV} (r:Reps K H m s vs l) {i:Int}{p:PV} (e:L2.atI l i=some p):∃ u,L2.atI vs i=some u∧Rep K H m s u p:=by
 unfold L2.atI at e ⊢
 rw [r.length]
 cases c:ixN l.length i with
 | none=>rw [c] at e;cases e
 | some j=>rw [c] at e;exact r.get e
theorem Reps.append:∀ {vs ws:List V}{l k:List PV},Reps K H m s vs l→Reps K H m s ws k→Reps K H m s (vs++ws) (l++k)
 | _,_,_,_,.nil,q=>q
 | _,_,_,_,.cons a b,q=>.cons a (b.append q)
theorem Reps.drop:∀ {vs:List V}{l:List PV} (n:Nat),Reps K H m s vs l→Reps K H m s (vs.drop n) (l.drop n)
 | _,_,0,r=>r
 | _,_,_+1,.nil=>.nil
 | _,_,n+1,.cons _ b=>b.drop n
theorem Reps.take:∀ {vs:List V}{l:List PV} (n:Nat),Reps K H m s vs l→Reps K H m s (vs.take n) (l.take n)
 | _,_,0,_=>.nil
 | _,_,_+1,.nil=>.nil
 | _,_,n+1,.cons a b=>.cons a (b.take n)
theorem Reps.set:∀ {vs:List V}{l:List PV}{u:V}{p:PV} (i:Nat),Reps K H m s vs l→Rep K H m s u p→Reps K H m s (vs.set i u) (l.set i p)
 | _,_,_,_,_,.nil,_=>.nil
 | _,_,_,_,0,.cons _ b,r=>.cons r b
 | _,_,_,_,i+1,.cons a b,r=>.cons a (b.set i r)
theorem Reps.strs:∀ {vs:List V}{ss:List Str},Reps K H m s vs (ss.map PV.str)→vs=ss.map V.str
 | _,[],.nil=>rfl
 | _,x::ss,.cons a b=>by cases a;rw [Reps.strs (ss:=ss) b];rfl
theorem Reps.ofStrs:∀ (ss:List Str),Reps K H m s (ss.map V.str) (ss.map PV.str)
 | []=>.nil
 | _::r=>.cons .str (Reps.ofStrs r)
theorem RepKs.keys:∀ {vs:List (Key×V)}{l:List (Key×PV)},RepKs K H m s vs l→vs.map (·.1)=l.map (·.1)
 | _,_,.nil=>rfl
 | _,_,.cons _ b=>by simp [b.keys]
theorem RepKs.length {vs:List (Key×V)}{l:List (Key×PV)} (r:RepKs K H m s vs l):vs.length=l.length:=by have:=congrArg dF r.keys;simpa using this
theorem RepKs.val:∀ {vs:List (Key×V)}{l:List (Key×PV)} (k:Key),RepKs K H m s vs l→(∀ p,oz l k=some p→∃ u,nB vs k=some u∧Rep K H m s u p)∧(oz l k=none→nB vs k=none)
 | _,_,k,.nil=>⟨fun p e=>(by cases e),fun _=>rfl⟩
 | _,_,k,.cons (k:=q) (p:=p0) (v:=v0) a b=>by
  by_cases e:q=k
  ·refine ⟨fun p h=>⟨v0,sB e,?_⟩,fun h=>?_⟩
   ·unfold oz at h;simp [e] at h;subst h;exact a
   ·unfold oz at h;simp [e] at h
  ·rw [sC e]
   have h2:∀ {l:List (Key×PV)},oz ((q,p0)::l) k=oz l k:=fun {l}=>by unfold oz;simp [e]
   rw [h2]
   exact b.val k
theorem RepKs.any {vs:List (Key×V)}{l:List (Key×PV)} (r:RepKs K H m s vs l) (k:Key):(vs.any fun kv=>decide (kv.1=k))=l.any fun kv=>decide (kv.1=k):=by
 have h:∀ {β:Type} (l:List (Key×β)),(l.any fun kv=>decide (kv.1=k))=(l.map (·.1)).any fun j=>decide (j=k):=fun l=>by rw [gE];rfl
 rw [h,h,r.keys]
theorem RepKs.mapput:∀ {vs:List (Key×V)}{l:List (Key×PV)}{u:V}{p:PV} (k:Key),RepKs K H m s vs l→Rep K H m s u p→RepKs K H m s (vs.map fun kv=>if kv.1=k then (kv.1,u) else kv) (l.map fun kv=>if kv.1=k then (kv.1,p) else kv)
 | _,_,_,_,_,.nil,_=>.nil
 | _,_,u,p,k,.cons (k:=q) a b,r=>by
  rw [aD,aD]
  by_cases e:q=k
  ·rw [if_pos e,if_pos e];exact .cons r (b.mapput k r)
  ·rw [if_neg e,if_neg e];exact .cons a (b.mapput k r)
theorem RepKs.append:∀ {vs ws:List (Key×V)}{l k:List (Key×PV)},RepKs K H m s vs l→RepKs K H m s ws k→RepKs K H m s (vs++ws) (l++k)
 | _,_,_,_,.nil,q=>q
 | _,_,_,_,.cons a b,q=>.cons a (b.append q)
theorem RepKs.put {vs:List (Key×V)}{l:List (Key×PV)}{u:V}{p:PV} (k:Key) (q:RepKs K H m s vs l) (r:Rep K H m s u p):RepKs K H m s (qi vs k u) (CZ l k p):=by
 unfold qi CZ
 rw [q.any]
 split
 ·exact q.mapput k r
 ·exact q.append (.cons r .nil)
theorem qL {k:Key} (r:Rep K H m s x v) (e:kyOf v=some k):x=kV k:=by cases r <;> first | cases e;rfl | cases e
end
section
variable {X:Cx}{CB:ae}{E:XK}
theorem Reps.readss {sh:al}{H:Hp}{m:Mp}{s:Sto}{k:Nat} (ih:∀ {v:V}{p:PV}{u:af}{d:PyData},Rep X.K H m s v p→RelV v u→PV.data s k p=some d→(∃ as,Reads sh.heap u d as)∧d.canLay0=true∧d.depth≤k) :
  ∀ {v:List V}{p:List PV}{u:List af}{d:List PyData},Reps X.K H m s v p→Vals v u→tW (PV.data s k) p=some d→(∃ as,ReadsAll sh.heap u.toArray.toList d as)∧eL d=true∧PyData.depthAll d≤k
 | _,_,_,_,.nil,.nil,e=>by unfold tW at e;cases e;exact ⟨⟨_,.nil⟩,rfl,bA _⟩
 | _,_,_,_,.cons a b,.cons r rs,e=>by
  unfold tW at e
  split at e <;> cases e
  rename_i h1 h2
  obtain ⟨⟨as,r1⟩,r2,r3⟩:=ih a r h1
  obtain ⟨⟨bs,q1⟩,q2,q3⟩:=Reps.readss ih b rs h2
  refine ⟨⟨_,.cons r1 (by simpa using q1)⟩,by unfold eL;rw [r2,q2];rfl,?_⟩
  unfold PyData.depthAll
  omega
theorem Rep.reads {pins:List (ae×Obj)}{σ:St}{H:Hp}{sh:al}{m:Mp}{s:Sto} (I:Inv X pins σ H sh) (S:SR X.K CB H m s):∀ (k:Nat) {v:V}{p:PV}{u:af}{d:PyData},Rep X.K H m s v p→RelV v u→PV.data s k p=some d →
  (∃ as,Reads sh.heap u d as)∧d.canLay0=true∧d.depth≤k
 | 0,_,p,_,_,_,_,e=>by cases p <;> (unfold PV.data at e;cases e)
 | k+1,_,_,_,_,.non,ru,e=>by cases ru;unfold PV.data at e;cases e;exact ⟨⟨_,.none⟩,rfl,bA _⟩
 | k+1,_,_,_,_,.bl,ru,e=>by cases ru;unfold PV.data at e;cases e;exact ⟨⟨_,.bool _⟩,rfl,bA _⟩
 | k+1,_,_,_,_,.int,ru,e=>by obtain ⟨t,rfl⟩:=ru;unfold PV.data at e;cases e;exact ⟨⟨_,.int _ _⟩,rfl,bA _⟩
 | k+1,_,_,_,_,.str,ru,e=>by
  obtain ⟨t,rfl⟩:=ru;unfold PV.data at e
  split at e <;> cases e
  rename_i h
  exact ⟨⟨_,.str _ _⟩,h,bA _⟩
 | k+1,_,_,_,_,.tup (l:=l) h q,ru,e=>by
  cases ru;unfold PV.data at e
  cases c:tW (PV.data s k) l with
  | none=>rw [c] at e;cases e
  | some ds =>
   rw [c] at e;cases e
   obtain ⟨its,rv,⟨o,g1,g2,n,g3⟩,_⟩:=I.tuple (h.elim (fun z=>(.inl z.1:SqT X.K H _ _)) .inr)
   obtain ⟨⟨as,r1⟩,r2,r3⟩:=Reps.readss (Rep.reads I S k) q rv c
   exact ⟨⟨_,.tuple g1 g2 g3 r1⟩,by unfold db;exact r2,by unfold ib;omega⟩
 | k+1,_,_,_,_,.lst (l:=l) h _ q,ru,e=>by
  cases ru;unfold PV.data at e
  cases c:tW (PV.data s k) l with
  | none=>rw [c] at e;cases e
  | some ds =>
   rw [c] at e;cases e
   obtain ⟨its,rv,⟨o,n,g1,g2,_,g3⟩,_⟩:=I.list (SqL.of h)
   obtain ⟨⟨as,r1⟩,r2,r3⟩:=Reps.readss (Rep.reads I S k) q rv c
   exact ⟨⟨_,.list g1 g2 g3 r1⟩,by unfold db;exact r2,by unfold ib;omega⟩
 | k+1,_,_,_,_,.seq (l:=l) h q,ru,e=>by
  cases ru;unfold PV.data at e
  cases c:tW (PV.data s k) l with
  | none=>rw [c] at e;cases e
  | some ds =>
   rw [c] at e;cases e
   obtain ⟨its,rv,⟨o,n,g1,g2,_,g3⟩,_⟩:=I.list (h.elim (fun z=>(.inl (.inr z.1):SqL X.K H _ _)) .inr)
   obtain ⟨⟨as,r1⟩,r2,r3⟩:=Reps.readss (Rep.reads I S k) q rv c
   exact ⟨⟨_,.list g1 g2 g3 r1⟩,by unfold db;exact r2,by unfold ib;omega⟩
 | k+1,_,_,_,_,.dct _ _ _,_,e=>by unfold PV.data at e;cases e
 | k+1,_,_,_,_,.exc _ _,_,e=>by unfold PV.data at e;cases e
 | k+1,_,_,_,_,.clo _,_,e=>by unfold PV.data at e;cases e
 | k+1,_,_,_,_,.ref _,ru,e=>by
  cases ru;unfold PV.data at e
  split at e <;> first | cases e | skip
  rename_i l hg
  cases c:tW (PV.data s k) l with
  | none=>rw [c] at e;cases e
  | some ds =>
   rw [c] at e;cases e
   obtain ⟨_,vs,h1,q⟩:=S.get hg
   obtain ⟨its,rv,⟨o,n,g1,g2,_,g3⟩,_⟩:=I.list (SqL.of h1)
   obtain ⟨⟨as,r1⟩,r2,r3⟩:=Reps.readss (Rep.reads I S k) q rv c
   exact ⟨⟨_,.list g1 g2 g3 r1⟩,by unfold db;exact r2,by unfold ib;omega⟩
def Bt (k:Nat) (n:Int):Prop:=n.natAbs < 2 ^ k
theorem Bt.mono {k l:Nat}{n:Int} (h:Bt k n) (hl:k≤l):Bt l n:=aA h (cH (by decide) hl)
theorem Bt.mul {k l:Nat}{n m:Int} (h:Bt k n) (g:Bt l m):Bt (k+l) (n * m):=by
 unfold Bt at *
 rw [gW,Nat.pow_add]
 by_cases z:m.natAbs=0
 ·rw [z,Nat.mul_zero];exact Nat.mul_pos (eE k) (eE l)
 ·exact aA (Nat.mul_lt_mul_of_pos_right h (Nat.pos_of_ne_zero z)) (km _ (cE g))
theorem Bt.neg {k:Nat}{n:Int} (h:Bt k n):Bt k (-n):=by unfold Bt at *;rw [gU];exact h
theorem Bt.div {k:Nat}{n d:Int} (h:Bt k n):Bt k (n / d):=bi (Int.natAbs_ediv_le_natAbs n d) h
theorem Bt.dvd {k:Nat}{n d:Int} (h:Bt k n) (hn:n≠0) (hd:d ∣ n):Bt k d:=bi (Nat.le_of_dvd (by omega) (fk.mpr hd)) h
theorem Bt.log {n:Int} (h:Bt 9000 n) (h0:0 < n):n.natAbs.log2 < 9000:=(Nat.log2_lt (by omega)).mpr h
theorem zO {i:Int} (h:Bt 20000 i):jb i≤2 ^ 20:=by
 unfold jb
 split
 ·exact bA _
 ·rename_i z
  have z:i≠0:=by simpa using z
  have:=(Nat.log2_lt (by omega:i.natAbs≠0)).mpr h
  omega
theorem op_mulB:OpR X (dR .Mult) (rI (fun i j=>Bt 20000 i∧Bt 20000 j) fun i j=>.int (i * j)):=opI fun _ _ _ _ _ _ _ hc q=>mul_int q (.of_bits (zO hc.1) (zO hc.2))
def E7 (K:aa):R2:=fun x y H Q=>∃ l b xs zs,x=.ref l∧y=.ref b∧SqL K H l xs∧SqL K H b zs∧xs.length+zs.length≤aP∧∀ p,H p=none→Q (.ref p) (upd H p (.lst (xs++zs)))
theorem FP:OpR X (dR .Add) (E7 X.K):=by
 intro pins s σ H x y v u Q I rx ry h
 obtain ⟨l,b,xs,zs,rfl,rfl,hH,hB,hz,q⟩:=h
 cases rx
 cases ry
 obtain ⟨its,r,ht,_⟩:=I.list hH
 obtain ⟨its2,r2,ht2,_⟩:=I.list hB
 have l1:=r.length
 have l2:=r2.length
 obtain ⟨⟨cls,dd,data,sl⟩,n,ho,hc,_,hd⟩:=ht
 obtain ⟨⟨cls2,dd2,data2,sl2⟩,n2,ho2,hc2,_,hd2⟩:=ht2
 simp only at hc hd hc2 hd2
 subst hc hd hc2 hd2
 refine concat_meets ⟨_,ho,rfl⟩ ⟨_,ho2,rfl⟩ noFill_list_add seq_list_add PySem.F.slot_list_add PySem.F.entry_list_add (PySem.F.args_list_add_2 _ _) (list_addW l b its.toArray its2.toArray n n2 dd dd2 sl sl2 (by rw [aU,aU];omega)) ⟨ho,ho2,?_⟩
 have ea:its.toArray++its2.toArray=(its++its2).toArray:=by simp
 rw [ea]
 exact ⟨.ref _,_,I.lnew (t':=s.toks) (r.append r2) (by rw [aT];omega),rfl,q _ I.fresh⟩
def IN:R2:=fun x y H Q=>∃ a v,x=.ref a∧DGet H a y (some v)∧Q v H
theorem F5 (hu:X.A.units+1 < dC):IxR X IN:=by
 intro value slice pins s σ H x y v u Q I rx ry h hs
 obtain ⟨a,z,rfl,g,q⟩:=h
 obtain rfl:v=bo a:=rx
 have hT:=t9 I g
 unfold iI
 refine aB ?_
 rw [getitemInPython_of_ne hT.not_modules]
 refine aB (wpAny_specialOf hT iP.lookup ?_)
 have fin:ba (model X.prog X.w) X.A (subscripted slice false (.ref a) u) (fun r s₃=>ba (model X.prog X.w) X.A (letTemporaryGo value (.ref a) r >>= fun _=>pure r) (EP X pins σ Q) X.xe s₃) X.xe s:=by
  rw [hs]
  exact wpAny_operating (ce (xq hu I g ry fun w' s3 I3 rw'=>(⟨z,H,I3,rw',q⟩:EP X pins σ Q w' s3)) (fun r s₃ h₃=>aB (wpAny_letTemporaryGo (aX h₃))) fun _ _ x=>x)
 first
  | exact aX (aB fin)
  | exact aB (aX (aB fin))
  | exact aB fin
def rInD:R2:=fun y x H Q=>∃ a o,x=.ref a∧DGet H a y o∧Q (.bl o.isSome) H
def FA:R2:=fun y x H Q=>∃ a o,x=.ref a∧DGet H a y o∧Q (.bl (!o.isSome)) H
theorem Ah (hu:X.A.units+1 < dC):OpR X (bP .In) rInD:=by
 intro pins s σ H y x v u Q I ry rx h
 obtain ⟨a,o,rfl,g,q⟩:=h
 obtain rfl:u=bo a:=rx
 exact d_in hu I g ry fun s3 I3=>⟨.bl o.isSome,H,I3,rfl,q⟩
theorem vY (hu:X.A.units+1 < dC):OpR X (bP .NotIn) FA:=by
 intro pins s σ H y x v u Q I ry rx h
 obtain ⟨a,o,rfl,g,q⟩:=h
 obtain rfl:u=bo a:=rx
 exact Gu hu I g ry fun s3 I3=>⟨.bl (!o.isSome),H,I3,rfl,q⟩
theorem CH:CallR X (.builtin "len") (fun xs H Q=>∃ a kvs,xs=[V.ref a]∧Rd H a (.dK kvs)∧Q (.int kvs.length) H):=by
 intro pins s σ H xs us Q I r h
 obtain ⟨a,kvs,rfl,ha,q⟩:=h
 obtain ⟨u,rfl,ru⟩:=oW r
 cases ru
 exact G5 I ha fun t s' I'=>⟨.int kvs.length,H,I',⟨t,rfl⟩,q⟩
def IP (K:aa) (CB:ae) (neg:Bool):R2:=fun x y H Q=>∃ m s v w d e,SR K CB H m s∧Rep K H m s x v∧Rep K H m s y w∧PV.data s 12 v=some d∧PV.data s 12 w=some e∧Q (.bl (if neg then !fK d e else fK d e)) H
theorem HQ {CB:ae} (hu:X.A.units+12 < dC):OpR X (bP .Eq) (IP X.K CB false):=by
 intro pins s σ H x y v u Q I rx ry h
 obtain ⟨m,t,p,q,d,e,S,r1,r2,e1,e2,k⟩:=h
 obtain ⟨⟨as,a1⟩,a2,a3⟩:=r1.reads I S 12 rx e1
 obtain ⟨⟨bs,b1⟩,b2,b3⟩:=r2.reads I S 12 ry e2
 exact SeqAt.rcAt_reads a1 b1 a2 b2 (by omega) _ _ _ _ ⟨.bl _,H,I,rfl,k⟩
theorem HL {CB:ae} (hu:X.A.units+12 < dC):OpR X (bP .NotEq) (IP X.K CB true):=by
 intro pins s σ H x y v u Q I rx ry h
 obtain ⟨m,t,p,q,d,e,S,r1,r2,e1,e2,k⟩:=h
 obtain ⟨⟨as,a1⟩,a2,a3⟩:=r1.reads I S 12 rx e1
 obtain ⟨⟨bs,b1⟩,b2,b3⟩:=r2.reads I S 12 ry e2
 exact SeqAt.rcNeAt_reads a1 b1 a2 b2 (by omega) _ _ _ _ ⟨.bl _,H,I,rfl,k⟩
end
def uV (i j:Int):Prop:=(Bt 20000 i∧Bt 20000 j)∨CMul i j
def CQ (j:Int):Prop:=0 < j∧Bt 9000 j
noncomputable instance (i j:Int):Decidable (uV i j):=cZ _
noncomputable instance (j:Int):Decidable (CQ j):=cZ _
def fAdd (v w:PV) (s:Sto):Out PV:=match v,w with
 | .int i,.int j=>.ok (.int (i+j)) s
 | .str x,.str y=>if x.length+y.length≤100000 then .ok (.str (x++y)) s else .bad
 | v,w=>match lsOf s v,lsOf s w with
  | some l,some k=>if l.length+k.length≤100000 then .ok (.lst (l++k)) s else .bad
  | _,_=>.bad
def fSub (v w:PV) (s:Sto):Out PV:=match v,w with
 | .int i,.int j=>.ok (.int (i - j)) s
 | _,_=>.bad
def fMul (v w:PV) (s:Sto):Out PV:=match v,w with
 | .int i,.int j=>if uV i j then .ok (.int (i * j)) s else .bad
 | .lst l,.int k=>if -(2 ^ 63)≤k∧k < 2 ^ 63∧l.length * k.toNat≤100000 then .ok (.lst (aY k.toNat l).flatten) s else .bad
 | _,_=>.bad
def fDiv (v w:PV) (s:Sto):Out PV:=match v,w with
 | .int i,.int j=>if CQ j then .ok (.int (i / j)) s else .bad
 | _,_=>.bad
def fMod (v w:PV) (s:Sto):Out PV:=match v,w with
 | .int i,.int j=>if 0 < j then .ok (.int (i % j)) s else .bad
 | _,_=>.bad
def fPow (v w:PV) (s:Sto):Out PV:=match v,w with
 | .int i,.int j=>if 0≤j∧j≤1000000∧i.natAbs < 2 ^ 64 then .ok (.int (i ^ j.toNat)) s else .bad
 | _,_=>.bad
def fCmp (p:Int→Int→Bool) (v w:PV) (s:Sto):Out PV:=match v,w with
 | .int i,.int j=>.ok (.bl (p i j)) s
 | _,_=>.bad
abbrev fLt:=fCmp fun i j=>decide (i < j)
abbrev fGt:=fCmp fun i j=>decide (j < i)
abbrev fGe:=fCmp fun i j=>decide (j≤i)
def fEqN (neg:Bool) (v w:PV) (s:Sto):Out PV:=match PV.data s 12 v,PV.data s 12 w with
 | some d,some e=>.ok (.bl (if neg then !fK d e else fK d e)) s
 | _,_=>.bad
abbrev fEq:=fEqN false
abbrev fNe:=fEqN true
def PV.isNon:PV→Bool
 | .non=>true
 | _=>false
def fIs (v w:PV) (s:Sto):Out PV:=match w with
 | .non=>.ok (.bl v.isNon) s
 | _=>.bad
def fIsnt (v w:PV) (s:Sto):Out PV:=match w with
 | .non=>.ok (.bl (!v.isNon)) s
 | _=>.bad
def CU (neg b:Bool):Bool:=if neg then !b else b
def k9 (neg:Bool) (v w:PV) (s:Sto):Out PV:=match dcOf s w with
 | some l=>match kyOf v with
  | some k=>.ok (.bl (CU neg (oz l k).isSome)) s
  | none=>.bad
 | none=>match toV v with
  | none=>.bad
  | some x=>match w with
   | .tup l=>match toVs l with
    | some zs=>.ok (.bl (CU neg (inV x zs))) s
    | none=>.bad
   | w=>match lsOf s w with
    | some l=>match toVs l with
     | some zs=>.ok (.bl (CU neg (inV x zs))) s
     | none=>.bad
    | none=>.bad
abbrev fIn:=k9 false
abbrev rJ:=k9 true
def fIx (v w:PV) (s:Sto):Out PV:=match v with
 | .tup l=>match w with
  | .int i=>match atI l i with
   | some p=>.ok p s
   | none=>.bad
  | _=>.bad
 | .str x=>match w with
  | .int i=>match atI x.cps.toList i with
   | some c=>if x.length≤100000 then .ok (.str ⟨#[c]⟩) s else .bad
   | none=>.bad
  | _=>.bad
 | v=>match lsOf s v with
  | some l=>match w with
   | .int i=>match atI l i with
    | some p=>.ok p s
    | none=>.bad
   | _=>.bad
  | none=>match dcOf s v with
   | some l=>match kyOf w with
    | some k=>match oz l k with
     | some p=>.ok p s
     | none=>.bad
    | none=>.bad
   | none=>.bad
def fNeg (v:PV) (s:Sto):Out PV:=match v with
 | .int i=>.ok (.int (-i)) s
 | _=>.bad
section
variable {X:Cx}{CB:ae}{E:XK}
theorem o_add:Op2 X.K CB E (fun x y H Q=>rI0 (fun i j=>V.int (i+j)) x y H Q∨(∃ i j,x=V.str i∧y=V.str j∧i.length+j.length≤aP∧Q (V.str (i++j)) H)∨E7 X.K x y H Q) fAdd:=by
 intro H m s v w x y Q S rx ry P
 unfold fAdd at P
 split at P
 ·cases rx;cases ry;exact .inl ⟨_,_,rfl,rfl,P.here S .int⟩
 ·cases rx;cases ry
  split at P
  ·rename_i h;exact .inr (.inl ⟨_,_,rfl,rfl,sz5 h,P.here S .str⟩)
  ·exact P.elim
 ·split at P
  ·rename_i l k h1 h2
   split at P
   ·rename_i h
    obtain ⟨a,vs,rfl,q1,r1⟩:=rx.ls S h1
    obtain ⟨b,ws,rfl,q2,r2⟩:=ry.ls S h2
    exact .inr (.inr ⟨a,b,vs,ws,rfl,rfl,q1,q2,by rw [r1.length,r2.length];exact sz5 h,fun p hp=>P.new S hp fun ex S'=>.lst kD (S.pure_none hp) ((r1.append r2).ext ex)⟩)
   ·exact P.elim
  ·exact P.elim
theorem FQ:OpR X (dR .Add) (fun x y H Q=>rI0 (fun i j=>V.int (i+j)) x y H Q∨(∃ i j,x=V.str i∧y=V.str j∧i.length+j.length≤aP∧Q (V.str (i++j)) H)∨E7 X.K x y H Q):=op_add.or (op_add_str.or FP)
theorem o_sub:Op2 X.K CB E (rI0 fun i j=>V.int (i - j)) fSub:=by
 intro H m s v w x y Q S rx ry P
 unfold fSub at P
 split at P
 ·cases rx;cases ry;exact ⟨_,_,rfl,rfl,P.here S .int⟩
 ·exact P.elim
theorem Reps.rep {K:aa}{H:Hp}{m:Mp}{s:Sto}{vs:List V}{l:List PV} (r:Reps K H m s vs l):∀ n,Reps K H m s (aY n vs).flatten (aY n l).flatten
 | 0=>.nil
 | n+1=>by rw [cM,cM,cY,cY];exact r.append (r.rep n)
theorem o_mul:Op2 X.K CB E (fun x y H Q=>(rI (fun i j=>Bt 20000 i∧Bt 20000 j) (fun i j=>V.int (i * j)) x y H Q∨rI CMul (fun i j=>V.int (i * j)) x y H Q)∨IJ x y H Q) fMul:=by
 intro H m s v w x y Q S rx ry P
 unfold fMul at P
 split at P
 ·cases rx;cases ry
  split at P
  ·rename_i h
   rcases h with h | h
   ·exact .inl (.inl ⟨_,_,rfl,rfl,h,P.here S .int⟩)
   ·exact .inl (.inr ⟨_,_,rfl,rfl,h,P.here S .int⟩)
  ·exact P.elim
 ·split at P
  ·rename_i h
   cases rx with
   | lst h1 _ r1 =>
    cases ry
    exact .inr ⟨_,_,_,rfl,rfl,h1,h.1,h.2.1,by rw [r1.length];exact sz5 h.2.2,fun p hp=>P.new S hp fun ex S'=>.lst kD (S.pure_none hp) ((r1.rep _).ext ex)⟩
  ·exact P.elim
 ·exact P.elim
theorem FO:OpR X (dR .Mult) (fun x y H Q=>(rI (fun i j=>Bt 20000 i∧Bt 20000 j) (fun i j=>V.int (i * j)) x y H Q∨rI CMul (fun i j=>V.int (i * j)) x y H Q)∨IJ x y H Q):=(op_mulB.or HM).or HJ
theorem o_div:Op2 X.K CB E (rI (fun _ j=>0 < j∧j.natAbs.log2 < 9000) fun i j=>V.int (i / j)) fDiv:=by
 intro H m s v w x y Q S rx ry P
 unfold fDiv at P
 split at P
 ·cases rx;cases ry
  split at P
  ·rename_i h;exact ⟨_,_,rfl,rfl,⟨h.1,h.2.log h.1⟩,P.here S .int⟩
  ·exact P.elim
 ·exact P.elim
theorem o_mod:Op2 X.K CB E (rI (fun _ j=>0 < j) fun i j=>V.int (i % j)) fMod:=by
 intro H m s v w x y Q S rx ry P
 unfold fMod at P
 split at P
 ·cases rx;cases ry
  split at P
  ·rename_i h;exact ⟨_,_,rfl,rfl,h,P.here S .int⟩
  ·exact P.elim
 ·exact P.elim
theorem o_pow:Op2 X.K CB E (rI CPow fun i j=>V.int (i ^ j.toNat)) fPow:=by
 intro H m s v w x y Q S rx ry P
 unfold fPow at P
 split at P
 ·cases rx;cases ry
  split at P
  ·rename_i h;exact ⟨_,_,rfl,rfl,h,P.here S .int⟩
  ·exact P.elim
 ·exact P.elim
theorem E9 {p:Int→Int→Bool}:Op2 X.K CB E (rI0 fun i j=>V.bl (p i j)) (fCmp p):=by
 intro H m s v w x y Q S rx ry P
 unfold fCmp at P
 split at P
 ·cases rx;cases ry;exact ⟨_,_,rfl,rfl,P.here S .bl⟩
 ·exact P.elim
theorem GT {neg:Bool}:Op2 X.K CB E (IP X.K CB neg) (fEqN neg):=by
 intro H m s v w x y Q S rx ry P
 unfold fEqN at P
 split at P
 ·rename_i d e h1 h2;exact ⟨m,s,v,w,d,e,S,rx,ry,h1,h2,P.here S .bl⟩
 ·exact P.elim
theorem Cr {K:aa}{H:Hp}{m:Mp}{s:Sto}{x:V}{v:PV} (r:Rep K H m s x v):decide (x=V.non)=v.isNon:=by cases r <;> first | rfl | exact decide_eq_false (by intro z;cases z)
theorem HW:Op2 X.K CB E (fun x y H Q=>y=V.non∧Q (V.bl (!decide (x=V.non))) H) fIsnt:=by
 intro H m s v w x y Q S rx ry P
 unfold fIsnt at P
 split at P
 ·cases ry;refine ⟨rfl,?_⟩;rw [Cr rx];exact P.here S .bl
 ·exact P.elim
def IQ (neg:Bool):R2:=fun y x H Q=>∃ a o,x=.ref a∧DGet H a y o∧Q (.bl (CU neg o.isSome)) H
theorem o_in {neg:Bool}:Op2 X.K CB E (fun x y H Q=>IQ neg x y H Q∨rIn X.K neg x y H Q) (k9 neg):=by
 intro H m s v w x y Q S rx ry P
 unfold k9 at P
 split at P
 ·rename_i l hl
  split at P
  ·rename_i k hk
   obtain ⟨a,vs,rfl,q,r⟩:=ry.dc S hl
   refine .inl ⟨a,nB vs k,rfl,.inl ⟨vs,k,q,qL rx hk,rfl⟩,?_⟩
   obtain ⟨r1,r2⟩:=r.val k
   cases c:oz l k with
   | none=>rw [r2 c];rw [c] at P;exact P.here S .bl
   | some p=>obtain ⟨u,e,_⟩:=r1 p c;rw [e];rw [c] at P;exact P.here S .bl
  ·exact P.elim
 ·split at P
  ·exact P.elim
  ·rename_i z hz
   have ez:=rx.toV hz
   subst ez
   split at P
   ·split at P
    ·rename_i l zs hzs
     obtain ⟨a,vs,rfl,q,r⟩:=ry.tp
     have e:=r.toVs hzs
     subst e
     exact .inr ⟨a,vs,rfl,.inr q,vz hz,tG hzs,P.here S .bl⟩
    ·exact P.elim
   ·split at P
    ·rename_i l hl
     split at P
     ·rename_i zs hzs
      obtain ⟨a,vs,rfl,q,r⟩:=ry.ls S hl
      have e:=r.toVs hzs
      subst e
      exact .inr ⟨a,vs,rfl,.inl q,vz hz,tG hzs,P.here S .bl⟩
     ·exact P.elim
    ·exact P.elim
theorem HN (hu:X.A.units+1 < dC):OpR X (bP .In) (fun x y H Q=>IQ false x y H Q∨rIn X.K false x y H Q):=(Ah hu).or BY
theorem BX (hu:X.A.units+1 < dC):OpR X (bP .NotIn) (fun x y H Q=>IQ true x y H Q∨rIn X.K true x y H Q):=(vY hu).or xM
theorem o_ix:Op2 X.K CB E (fun x y H Q=>(IK X.K x y H Q∨IL x y H Q)∨(IM X.K x y H Q∨IN x y H Q)) fIx:=by
 intro H m s v w x y Q S rx ry P
 unfold fIx at P
 split at P
 ·split at P
  ·split at P
   ·rename_i p hp
    cases ry
    obtain ⟨a,vs,rfl,q,r⟩:=rx.tp
    obtain ⟨u,e,ru⟩:=r.atI hp
    exact .inl (.inl ⟨a,vs,_,u,rfl,rfl,q,e,P.here S ru⟩)
   ·exact P.elim
  ·exact P.elim
 ·split at P
  ·split at P
   ·rename_i c hc
    split at P
    ·rename_i hl
     cases rx;cases ry
     exact .inl (.inr ⟨_,_,c,rfl,rfl,sz5 hl,hc,P.here S .str⟩)
    ·exact P.elim
   ·exact P.elim
  ·exact P.elim
 ·split at P
  ·rename_i l hl
   split at P
   ·split at P
    ·rename_i p hp
     cases ry
     obtain ⟨a,vs,rfl,q,r⟩:=rx.ls S hl
     obtain ⟨u,e,ru⟩:=r.atI hp
     exact .inr (.inl ⟨a,vs,_,u,rfl,rfl,q,e,P.here S ru⟩)
    ·exact P.elim
   ·exact P.elim
  ·split at P
   ·rename_i l hl
    split at P
    ·rename_i k hk
     split at P
     ·rename_i p hp
      obtain ⟨a,vs,rfl,q,r⟩:=rx.dc S hl
      obtain ⟨u,e,ru⟩:=(r.val k).1 p hp
      exact .inr (.inr ⟨a,u,rfl,.inl ⟨vs,k,q,qL ry hk,e.symm⟩,P.here S ru⟩)
     ·exact P.elim
    ·exact P.elim
   ·exact P.elim
theorem ix_U (hu:X.A.units+1 < dC):IxR X (fun x y H Q=>(IK X.K x y H Q∨IL x y H Q)∨(IM X.K x y H Q∨IN x y H Q)):=(ix_tup.or Ig).or (ix_list.or (F5 hu))
theorem o_neg:Op1 X.K CB E (rU fun i=>V.int (-i)) fNeg:=by
 intro H m s v x Q S rx P
 unfold fNeg at P
 split at P
 ·cases rx;exact ⟨_,rfl,P.here S .int⟩
 ·exact P.elim
variable {a b c e:bh}{es:List bh}{f g h:XE}{fa:XA}{p pos apos cpos:Pos}{x:Str}
theorem lA (ha:DE X CB E a f) (hb:DE X CB E b g):DE X CB E (.BinOp a .Add b pos) (x2 f g fAdd):=yA FQ o_add ha hb
theorem AU (ha:DE X CB E a f) (hb:DE X CB E b g):DE X CB E (.BinOp a .Sub b pos) (x2 f g fSub):=yA HI o_sub ha hb
theorem pC (ha:DE X CB E a f) (hb:DE X CB E b g):DE X CB E (.BinOp a .Mult b pos) (x2 f g fMul):=yA FO o_mul ha hb
theorem AX (ha:DE X CB E a f) (hb:DE X CB E b g):DE X CB E (.BinOp a .FloorDiv b pos) (x2 f g fDiv):=yA pz o_div ha hb
theorem uu (ha:DE X CB E a f) (hb:DE X CB E b g):DE X CB E (.BinOp a .Mod b pos) (x2 f g fMod):=yA EN o_mod ha hb
theorem yz (ha:DE X CB E a f) (hb:DE X CB E b g):DE X CB E (.BinOp a .Pow b pos) (x2 f g fPow):=yA HK o_pow ha hb
theorem Iz (ha:DE X CB E a f):DE X CB E (.UnaryOp .USub a pos) (x1 f fNeg):=de_un Ey o_neg ha
theorem lr (hu:X.A.units+1 < dC) (ha:DE X CB E a f) (hb:DE X CB E b g) (hs:BB b):DE X CB E (.Subscript a b pos) (x2 f g fIx):=⟨(oX (ix_U hu) ha.pe hb.pe hs).mono fun σ H Q q=>two o_ix q⟩
structure CmpR (X:Cx) (CB:ae) (E:XK) (op:iH) (F:PV→PV→Sto→Out PV):Prop where
 ex:∃ r,OpR X (bP op) r∧Op2 X.K CB E r F
theorem c_lt:CmpR X CB E .Lt fLt:=⟨_,GP,E9⟩
theorem c_gt:CmpR X CB E .Gt fGt:=⟨_,GR,E9⟩
theorem c_ge:CmpR X CB E .GtE fGe:=⟨_,E8,E9⟩
theorem zN (hu:X.A.units+12 < dC):CmpR X CB E .Eq fEq:=⟨_,HQ hu,GT⟩
theorem c_ne (hu:X.A.units+12 < dC):CmpR X CB E .NotEq fNe:=⟨_,HL hu,GT⟩
theorem IE:CmpR X CB E .IsNot fIsnt:=⟨_,FN,HW⟩
theorem E2 (hu:X.A.units+1 < dC):CmpR X CB E .In fIn:=⟨_,HN hu,o_in⟩
theorem Gx (hu:X.A.units+1 < dC):CmpR X CB E .NotIn rJ:=⟨_,BX hu,o_in⟩
theorem sO {op:iH}{F:PV→PV→Sto→Out PV} (r:CmpR X CB E op F) (ha:DE X CB E a f) (hb:DE X CB E b g) (hm:cI op b=false):DE X CB E (.Compare a [op] [b] pos) (x2 f g F):=let ⟨_,r1,r2⟩:=r.ex;L2.de_cmp r1 r2 ha hb hm
theorem pW {op:iH}{F:PV→PV→Sto→Out PV} (r:CmpR X CB E op F) (ha:DE X CB E a f) (hb:DE X CB E b g) (hm:cI op b=false):DT X CB E (.Compare a [op] [b] pos) (xTr (x2 f g F)):=let ⟨_,r1,r2⟩:=r.ex;L2.dt_cmp r1 r2 ha hb hm
abbrev XO':=En→Sto→Out (Option Int)
def TDO (K:aa) (CB:ae) (E:XK) (f:XO'):TO:=fun σ H Q=>∃ ρ s m,ER K H m s σ ρ∧SR K CB H m s∧Post K CB (fun _ _ _ u v=>u=v) E (f ρ s) H m s Q
structure DO (X:Cx) (CB:ae) (E:XK) (e:Option bh) (f:XO'):Prop where
 po:PO X e (TDO X.K CB E f)
def xNoP (_:En) (s:Sto):Out (Option Int):=.ok none s
def xPart (f:XE) (ρ:En) (s:Sto):Out (Option Int):=(f ρ s).bind fun v s1=>match v with
 | .int i=>.ok (some i) s1
 | _=>.bad
theorem PO.mono {e:Option bh}{t t':TO} (h:PO X e t) (k:∀ σ H Q,t' σ H Q→t σ H Q):PO X e t':=fun pins s σ H Q I q=>h pins s σ H Q I (k σ H Q q)
theorem yj:DO X CB E none xNoP:=⟨po_none.mono fun σ H Q ⟨ρ,s,m,er,S,P⟩=>P.here S rfl⟩
theorem tu (h:DE X CB E e f):DO X CB E (some e) (xPart f):=⟨(FF h.pe).mono fun σ H Q ⟨ρ,s,m,er,S,P⟩=>⟨ρ,s,m,er,S,P.bind fun v s1 u H1 m1 e1 S1 r1 P1=>by
 cases r1 <;> first | exact P1.elim | exact ⟨_,rfl,P1.here S1 rfl⟩⟩⟩
def wo (l:List PV) (lo hi:Option Int):List PV:=(l.drop (HT.sIx l.length 0 lo)).take (HT.sIx l.length l.length hi - HT.sIx l.length 0 lo)
def fSl (v:PV) (lo hi:Option Int) (s:Sto):Out PV:=match v with
 | .tup l=>if HT.sIx l.length 0 lo=0∧HT.sIx l.length l.length hi=l.length then .bad else .ok (.tup (wo l lo hi)) s
 | v=>match lsOf s v with
  | some l=>.ok (.lst (wo l lo hi)) s
  | none=>.bad
def xSl (f:XE) (lo hi:XO') (ρ:En) (s:Sto):Out PV:=(f ρ s).bind fun v s1=>(lo ρ s1).bind fun l s2=>(hi ρ s2).bind fun u s3=>fSl v l u s3
theorem Reps.cut {K:aa}{H:Hp}{m:Mp}{s:Sto}{vs:List V}{l:List PV} (r:Reps K H m s vs l) (lo hi:Option Int):Reps K H m s (Bo vs lo hi) (wo l lo hi):=by
 unfold Bo wo;rw [r.length];exact (r.drop _).take _
theorem CS {lo hi:Option bh}{fl fh:XO'}{p2:Pos} (ha:DE X CB E a f) (hl:DO X CB E lo fl) (hh:DO X CB E hi fh):DE X CB E (.Subscript a (.Slice lo hi none p2) pos) (xSl f fl fh) :=
 ⟨(DQ (sl_list.or Hj) ha.pe hl.po hh.po).mono fun σ H Q ⟨ρ,s,m,er,S,P⟩=>⟨ρ,s,m,er,S,P.bind fun v s1 u H1 m1 e1 S1 r1 P1=>⟨ρ,s1,m1,er.ext e1,S1,P1.bind fun l s2 l' H2 m2 e2 S2 r2 P2=>by
  cases r2
  refine ⟨ρ,s2,m2,(er.ext e1).ext e2,S2,P2.bind fun k s3 k' H3 m3 e3 S3 r3 P3=>?_⟩
  cases r3
  have r1:=(r1.ext e2).ext e3
  unfold fSl at P3
  split at P3
  ·split at P3
   ·exact P3.elim
   ·rename_i hn
    obtain ⟨a,vs,rfl,q,r⟩:=r1.tp
    exact .inr ⟨a,vs,rfl,q,by rw [r.length];exact hn,fun p hp=>P3.new S3 hp fun ex S'=>.tup (.inl ⟨.inl kD,S'.pure_tup kD⟩) ((r.cut _ _).ext ex)⟩
  ·split at P3
   ·rename_i l hl
    obtain ⟨a,vs,rfl,q,r⟩:=r1.ls S3 hl
    exact .inl ⟨a,vs,rfl,q,fun p hp=>P3.new S3 hp fun ex S'=>.lst kD (S3.pure_none hp) ((r.cut _ _).ext ex)⟩
   ·exact P3.elim⟩⟩⟩
def xB (fa:XA) (F:List PV→Sto→Out PV) (ρ:En) (s:Sto):Out PV:=(fa ρ s).bind F
theorem nOf {r:List V→Hp→VK→Prop}{F:List PV→Sto→Out PV} (o:OpN X.K CB E r F) {σ:St}{H:Hp}{Q:VK} (q:TDE X.K CB E (xB fa F) σ H Q):tCB r (TDA X.K CB E fa) σ H Q:=by
 obtain ⟨ρ,s,m,er,S,P⟩:=q
 exact ⟨ρ,s,m,er,S,P.bind fun v s1 u H1 m1 e1 S1 r1 P1=>o H1 m1 s1 v u Q S1 r1 P1⟩
structure BltR (X:Cx) (CB:ae) (E:XK) (fv:af) (F:List PV→Sto→Out PV):Prop where
 ex:∃ r,CallR X fv r∧OpN X.K CB E r F
theorem ly {id:String}{F:List PV→Sto→Out PV} (r:BltR X CB E (.builtin id) F) (hg:Gl X x) (hm:X.mg x=none) (hv:bJ x=some (.builtin id)) (ha:DA X CB E (e::es) fa) (hn:x≠"__name__":=by decide) (hdb:(x == ("__debug__":Str))=false:=by decide)
  (hs:aK (e::es) X.env=(false,eval e X.env)::aK es X.env:=by rfl) (hpl:(cj pos (aK es X.env)).any (·.1)=false:=by rfl):DE X CB E (.Call (.Name x p) (e::es) [] pos) (xB fa F) :=
 let ⟨_,r1,r2⟩:=r.ex;⟨(mC r1 hg hm hv ha.pa hn hdb hs hpl).mono fun σ H Q q=>nOf r2 q⟩
theorem xn {T:String}{F:List PV→Sto→Out PV} (r:BltR X CB E (.type T) F) (hg:Gl X x) (hm:X.mg x=none) (hv:bJ x=some (.type T)) (ha:DA X CB E (e::es) fa) (hn:x≠"__name__":=by decide) (hdb:(x == ("__debug__":Str))=false:=by decide)
  (hs:aK (e::es) X.env=(false,eval e X.env)::aK es X.env:=by rfl) (hpl:(cj pos (aK es X.env)).any (·.1)=false:=by rfl):DE X CB E (.Call (.Name x p) (e::es) [] pos) (xB fa F) :=
 let ⟨_,r1,r2⟩:=r.ex;⟨(BW r1 hg hm hv ha.pa hn hdb hs hpl).mono fun σ H Q q=>nOf r2 q⟩
def fLen (vs:List PV) (s:Sto):Out PV:=match vs with
 | [.tup l]=>.ok (.int l.length) s
 | [.str x]=>if x.length≤100000 then .ok (.int x.length) s else .bad
 | [v]=>match lsOf s v with
  | some l=>.ok (.int l.length) s
  | none=>match dcOf s v with
   | some l=>.ok (.int l.length) s
   | none=>.bad
 | _=>.bad
theorem b_len:BltR X CB E (.builtin "len") fLen:=⟨_,call_len_seq.or (call_len_str.or CH),by
 intro H m s v x Q S rx P
 unfold fLen at P
 split at P
 ·cases rx with
  | cons r n =>
   cases n
   obtain ⟨a,vs,rfl,q,r⟩:=r.tp
   rw [← r.length] at P
   exact .inl ⟨a,vs,rfl,.inr q,P.here S .int⟩
 ·cases rx with
  | cons r n =>
   cases n;cases r
   split at P
   ·rename_i h;exact .inr (.inl ⟨_,rfl,sz5 h,P.here S .int⟩)
   ·exact P.elim
 ·cases rx with
  | cons r n =>
   cases n
   split at P
   ·rename_i l hl
    obtain ⟨a,vs,rfl,q,r⟩:=r.ls S hl
    rw [← r.length] at P
    exact .inl ⟨a,vs,rfl,.inl q,P.here S .int⟩
   ·split at P
    ·rename_i l hl
     obtain ⟨a,vs,rfl,q,r⟩:=r.dc S hl
     rw [← r.length] at P
     exact .inr (.inr ⟨a,vs,rfl,q,P.here S .int⟩)
    ·exact P.elim
 ·exact P.elim⟩
def fAbs (vs:List PV) (s:Sto):Out PV:=match vs with
 | [.int i]=>.ok (.int (if i < 0 then -i else i)) s
 | _=>.bad
theorem b_abs:BltR X CB E (.builtin "abs") fAbs:=⟨_,Eu,by
 intro H m s v x Q S rx P
 unfold fAbs at P
 split at P
 ·cases rx with
  | cons r n=>cases n;cases r;exact ⟨_,rfl,P.here S .int⟩
 ·exact P.elim⟩
def fInt (vs:List PV) (s:Sto):Out PV:=match vs with
 | [.int i]=>.ok (.int i) s
 | [.bl b]=>.ok (.int (if b=true then 1 else 0)) s
 | _=>.bad
theorem b_int:BltR X CB E (.type "int") fInt:=⟨_,CI,by
 intro H m s v x Q S rx P
 unfold fInt at P
 split at P
 ·cases rx with
  | cons r n=>cases n;cases r;exact .inl ⟨_,rfl,P.here S .int⟩
 ·cases rx with
  | cons r n=>cases n;cases r;exact .inr ⟨_,rfl,P.here S .int⟩
 ·exact P.elim⟩
def fTuple (vs:List PV) (s:Sto):Out PV:=match vs with
 | [v]=>match lsOf s v with
  | some l=>.ok (.tup l) s
  | none=>.bad
 | _=>.bad
theorem b_tuple:BltR X CB E (.type "tuple") fTuple:=⟨_,wq,by
 intro H m s v x Q S rx P
 unfold fTuple at P
 split at P
 ·cases rx with
  | cons r n =>
   cases n
   split at P
   ·rename_i l hl
    obtain ⟨a,vs,rfl,q,r⟩:=r.ls S hl
    exact ⟨a,vs,rfl,.inl ⟨q,fun p hp=>P.new S hp fun ex S'=>.tup (.inl ⟨.inl kD,S'.pure_tup kD⟩) (r.ext ex)⟩⟩
   ·exact P.elim
 ·exact P.elim⟩
def fList (vs:List PV) (s:Sto):Out PV:=match vs with
 | [.tup l]=>.ok (.lst l) s
 | [v]=>match lsOf s v with
  | some l=>.ok (.lst l) s
  | none=>.bad
 | _=>.bad
theorem b_list:BltR X CB E (.type "list") fList:=⟨_,xU,by
 intro H m s v x Q S rx P
 unfold fList at P
 split at P
 ·cases rx with
  | cons r n =>
   cases n
   obtain ⟨a,vs,rfl,q,r⟩:=r.tp
   exact ⟨a,vs,rfl,.inr q,fun p hp=>P.new S hp fun ex S'=>.lst kD (S.pure_none hp) (r.ext ex)⟩
 ·cases rx with
  | cons r n =>
   cases n
   split at P
   ·rename_i l hl
    obtain ⟨a,vs,rfl,q,r⟩:=r.ls S hl
    exact ⟨a,vs,rfl,.inl q,fun p hp=>P.new S hp fun ex S'=>.lst kD (S.pure_none hp) (r.ext ex)⟩
   ·exact P.elim
 ·exact P.elim⟩
def qe:List PV→Option (List Str)
 | []=>some []
 | .str x::l=>(qe l).map (x::·)
 | _=>none
theorem qX:∀ {l:List PV}{ss:List Str},qe l=some ss→l=ss.map PV.str
 | [],_,e=>by cases e;rfl
 | p::l,ss,e=>by
  unfold qe at e
  split at e
  ·rename_i h;cases h
  ·rename_i x l' h
   cases h
   cases c:qe l with
   | none=>rw [c] at e;cases e
   | some t=>rw [c] at e;cases e;rw [qX c];rfl
  ·cases e
theorem oa (ss:List Str):qe (ss.map PV.str)=some ss:=by
 induction ss with
 | nil=>rfl
 | cons x r ih=>rw [aD];unfold qe;rw [ih];rfl
def keysOf:List (Key×PV)→Option (List Str)
 | []=>some []
 | (.inr x,_)::l=>(keysOf l).map (x::·)
 | _=>none
theorem wZ:∀ {l:List (Key×PV)}{ss:List Str},keysOf l=some ss→l.map (·.1)=ss.map aE
 | [],_,e=>by cases e;rfl
 | p::l,ss,e=>by
  unfold keysOf at e
  split at e
  ·rename_i h;cases h
  ·rename_i x _ l' h
   cases h
   cases c:keysOf l with
   | none=>rw [c] at e;cases e
   | some t=>rw [c] at e;cases e;rw [aD,wZ c];rfl
  ·cases e
def kF (vs:List PV) (s:Sto):Out PV:=match vs with
 | [v]=>match lsOf s v with
  | some l=>match qe l with
   | some ss=>if ss.length < 64 then .ok (.lst ((srt ss).map PV.str)) s else .bad
   | none=>.bad
  | none=>match dcOf s v with
   | some l=>match keysOf l with
    | some ss=>if ss.length < 64 then .ok (.lst ((srt ss).map PV.str)) s else .bad
    | none=>.bad
   | none=>.bad
 | _=>.bad
theorem b_sorted (hc:X.calm=true):BltR X CB E (.builtin "sorted") kF:=⟨_,call_sortedL.or (nS hc),by
 intro H m s v x Q S rx P
 unfold kF at P
 split at P
 ·cases rx with
  | cons r n =>
   cases n
   split at P
   ·rename_i l hl
    split at P
    ·rename_i ss hs
     split at P
     ·rename_i h64
      obtain ⟨a,vs,rfl,q,r⟩:=r.ls S hl
      have e:=qX hs
      subst e
      rw [r.strs] at q
      exact .inl ⟨a,ss,rfl,q,h64,fun p hp=>P.new S hp fun ex S'=>.lst kD (S.pure_none hp) (.ofStrs _)⟩
     ·exact P.elim
    ·exact P.elim
   ·split at P
    ·rename_i l hl
     split at P
     ·rename_i ss hs
      split at P
      ·rename_i h64
       obtain ⟨a,vs,rfl,q,r⟩:=r.dc S hl
       exact .inr ⟨a,vs,ss,rfl,q,r.keys.trans (wZ hs),h64,fun p hp=>P.new S hp fun ex S'=>.lst kD (S.pure_none hp) (.ofStrs _)⟩
      ·exact P.elim
     ·exact P.elim
    ·exact P.elim
 ·exact P.elim⟩
def vq:List PV→Option (List Bool)
 | []=>some []
 | .bl x::l=>(vq l).map (x::·)
 | _=>none
theorem rZ {K:aa}{H:Hp}{m:Mp}{s:Sto}:∀ {vs:List V}{l:List PV}{bs:List Bool},Reps K H m s vs l→vq l=some bs→vs=bs.map V.bl
 | _,_,_,.nil,e=>by cases e;rfl
 | _,_,_,.cons (l:=l) a b,e=>by
  unfold vq at e
  split at e
  ·rename_i h;cases h
  ·rename_i h
   cases h
   cases a
   cases c:vq l with
   | none=>rw [c] at e;cases e
   | some t=>rw [c] at e;cases e;rw [rZ b c];rfl
  ·cases e
def fAll (vs:List PV) (s:Sto):Out PV:=match vs with
 | [v]=>match lsOf s v with
  | some l=>match vq l with
   | some bs=>.ok (.bl (bs.all id)) s
   | none=>.bad
  | none=>.bad
 | _=>.bad
theorem b_all (hc:X.calm=true):BltR X CB E (.builtin "all") fAll:=⟨_,zM,by
 intro H m s v x Q S rx P
 unfold fAll at P
 split at P
 ·cases rx with
  | cons r n =>
   cases n
   split at P
   ·rename_i l hl
    split at P
    ·rename_i bs hb
     obtain ⟨a,vs,rfl,q,r⟩:=r.ls S hl
     have e:=rZ r hb
     subst e
     exact ⟨a,bs,rfl,q,hc,P.here S .bl⟩
    ·exact P.elim
   ·exact P.elim
 ·exact P.elim⟩
def xJoin (f:XE) (fa:XA) (ρ:En) (s:Sto):Out PV:=(f ρ s).bind fun v s1=>match v with
 | .str z=>(fa ρ s1).bind fun vs s2=>match vs with
  | [w]=>match lsOf s2 w with
   | some l=>match qe l with
    | some ys=>if (ys.map (·.length)).sum+ys.length * z.length≤16777216 then .ok (.str (gv z ys)) s2 else .bad
    | none=>.bad
   | none=>.bad
  | _=>.bad
 | _=>.bad
theorem Gn (ho:DE X CB E a f) (ha:DA X CB E (e::es) fa)
  (hbase:eS a "join" X.env (eval a X.env)=eval a X.env:=by rfl)
  (hfew:((cj cpos (aK (e::es) X.env)).all (fun x=>!x.1) && (fu cpos (dg [] X.env)).all (fun x=>x.1.isSome)
   && decide ((e::es).length+([]:List fX).length+(if ([]:List fX).isEmpty then 0 else 1) < 30))=true:=by rfl)
  (hline:(apos.endLine == cpos.line)=true:=by rfl) (hs:aK (e::es) X.env=(false,eval e X.env)::aK es X.env:=by rfl) (hplain:(cj cpos (aK es X.env)).any (·.1)=false:=by rfl) :
  DE X CB E (.Call (.Attribute a "join" apos) (e::es) [] cpos) (xJoin f fa) :=
 ⟨(GO PySem.F.plainAttrs_str PySem.F.slot_str_join PySem.F.type_str_join FZ ho.pe ha.pa hbase hfew hline hs hplain).mono fun σ H Q ⟨ρ,s,m,er,S,P⟩=>⟨ρ,s,m,er,S,P.bind fun v s1 u H1 m1 e1 S1 r1 P1=>by
  split at P1
  ·cases r1
   refine ⟨rfl,ρ,s1,m1,er.ext e1,S1,P1.bind fun vs s2 us H2 m2 e2 S2 r2 P2=>?_⟩
   split at P2
   ·cases r2 with
    | cons r n =>
     cases n
     split at P2
     ·rename_i l hl
      split at P2
      ·rename_i ys hy
       split at P2
       ·rename_i hz
        obtain ⟨b,vs,rfl,q,r⟩:=r.ls S2 hl
        have e:=qX hy
        subst e
        rw [r.strs] at q
        exact ⟨_,b,ys,rfl,rfl,q,hz,P2.here S2 .str⟩
       ·exact P2.elim
      ·exact P2.elim
     ·exact P2.elim
   ·exact P2.elim
  ·exact P1.elim⟩⟩
def xAppend (f:XE) (fa:XA) (ρ:En) (s:Sto):Out PV:=(f ρ s).bind fun v s1=>match v with
 | .ref n=>match s1.get n with
  | some (.lst _)=>(fa ρ s1).bind fun vs s2=>match vs with
   | [w]=>match s2.get n with
    | some (.lst l)=>if l.length < 100000 then .ok .non (s2.set n (.lst (l++[w]))) else .bad
    | _=>.bad
   | _=>.bad
  | _=>.bad
 | _=>.bad
theorem SR.putL {K:aa}{H:Hp}{m:Mp}{s:Sto}{n:Nat}{l l':List PV}{vs':List V} (S:SR K CB H m s) (hn:s.get n=some (.lst l)) (r:Reps K H m s vs' l') :
  SR K CB (upd H (m.ad n) (.lst vs')) (m.fput n [m.ad n]) (s.set n (.lst l'))∧Ext H m s (upd H (m.ad n) (.lst vs')) (m.fput n [m.ad n]) (s.set n (.lst l')):=by
 obtain ⟨e1,vs,h1,_⟩:=S.get hn
 refine S.put hn (by intro _ z;cases z) _ _ (fun a o h ha=>?_) (fun a ha=>.inl (by rw [e1];exact ha)) fun ex=>⟨by show (if n=n then [m.ad n] else m.fp n)=_;rw [if_pos rfl];rfl,vs',kD,r.ext0 ex⟩
 rw [e1,ay] at ha
 rw [kA ha];exact h
theorem SR.putD {K:aa}{H:Hp}{m:Mp}{s:Sto}{n:Nat}{l l':List (Key×PV)}{vs':List (Key×V)} (S:SR K CB H m s) (hn:s.get n=some (.dct l)) (r:RepKs K H m s vs' l') :
  SR K CB (upd H (m.ad n) (.dK vs')) (m.fput n [m.ad n]) (s.set n (.dct l'))∧Ext H m s (upd H (m.ad n) (.dK vs')) (m.fput n [m.ad n]) (s.set n (.dct l')):=by
 obtain ⟨e1,vs,h1,_⟩:=S.get hn
 refine S.put hn (by intro _ z;cases z) _ _ (fun a o h ha=>?_) (fun a ha=>.inl (by rw [e1];exact ha)) fun ex=>⟨by show (if n=n then [m.ad n] else m.fp n)=_;rw [if_pos rfl];rfl,vs',kD,r.ext0 ex⟩
 rw [e1,ay] at ha
 rw [kA ha];exact h
theorem tR (ho:DE X CB E a f) (ha:DA X CB E (e::es) fa)
  (hbase:eS a "append" X.env (eval a X.env)=eval a X.env:=by rfl)
  (hfew:((cj cpos (aK (e::es) X.env)).all (fun x=>!x.1) && (fu cpos (dg [] X.env)).all (fun x=>x.1.isSome)
   && decide ((e::es).length+([]:List fX).length+(if ([]:List fX).isEmpty then 0 else 1) < 30))=true:=by rfl)
  (hline:(apos.endLine == cpos.line)=true:=by rfl) (hs:aK (e::es) X.env=(false,eval e X.env)::aK es X.env:=by rfl) (hplain:(cj cpos (aK es X.env)).any (·.1)=false:=by rfl) :
  DE X CB E (.Call (.Attribute a "append" apos) (e::es) [] cpos) (xAppend f fa) :=
 ⟨(GO PySem.F.plainAttrs_list jO PySem.F.type_list_append wW ho.pe ha.pa hbase hfew hline hs hplain).mono fun σ H Q ⟨ρ,s,m,er,S,P⟩=>⟨ρ,s,m,er,S,P.bind fun v s1 u H1 m1 e1 S1 r1 P1=>by
  split at P1
  ·split at P1
   ·rename_i n _ _ hg
    obtain ⟨_,vs0,h0,_⟩:=S1.get hg
    cases r1 with
    | ref hn =>
    refine ⟨.inl ⟨rfl,vs0,SqL.of h0⟩,ρ,s1,m1,er.ext e1,S1,P1.bind fun vs s2 us H2 m2 e2 S2 r2 P2=>?_⟩
    split at P2
    ·cases r2 with
     | cons r n' =>
      cases n'
      split at P2
      ·rename_i l hg2
       split at P2
       ·rename_i hl
        obtain ⟨f1,vs1,h1,q1⟩:=S2.get hg2
        obtain ⟨S3,e3⟩:=S2.putL hg2 (q1.append (.cons r .nil))
        rw [← e2.ad _ hn]
        exact ⟨_,vs1,_,rfl,rfl,h1,by rw [q1.length];exact sz6 hl,P2 _ _ _ e3 S3 .non⟩
       ·exact P2.elim
      ·exact P2.elim
    ·exact P2.elim
   ·exact P1.elim
  ·exact P1.elim⟩⟩
def xGet (f g h:XE) (ρ:En) (s:Sto):Out PV:=(f ρ s).bind fun v s1=>match dcOf s1 v with
 | some _=>(g ρ s1).bind fun w s2=>(h ρ s2).bind fun z s3=>match dcOf s3 v with
  | some l=>match kyOf w with
   | some k=>.ok ((oz l k).getD z) s3
   | none=>.bad
  | none=>.bad
 | none=>.bad
theorem IA (hu:X.A.units+1 < dC) (ho:DE X CB E a f) (he:DE X CB E b g) (hf:DE X CB E c h) (mm:M2 X a "get" apos b c cpos):DE X CB E (.Call (.Attribute a "get" apos) [b,c] [] cpos) (xGet f g h) :=
 ⟨(vD hu ho.pe he.pe hf.pe mm).mono fun σ H Q ⟨ρ,s,m,er,S,P⟩=>⟨ρ,s,m,er,S,P.bind fun v s1 u H1 m1 e1 S1 r1 P1=>by
  split at P1
  ·rename_i l0 hl0
   obtain ⟨a,vs0,rfl,q0,_⟩:=r1.dc S1 hl0
   refine ⟨a,rfl,.inl ⟨vs0,q0⟩,ρ,s1,m1,er.ext e1,S1,P1.bind fun w s2 u2 H2 m2 e2 S2 r2 P2=>⟨ρ,s2,m2,(er.ext e1).ext e2,S2,P2.bind fun z s3 u3 H3 m3 e3 S3 r3 P3=>?_⟩⟩
   split at P3
   ·rename_i l hl
    split at P3
    ·rename_i k hk
     obtain ⟨a',vs,ea,q,r⟩:=((r1.ext e2).ext e3).dc S3 hl
     cases ea
     refine ⟨nB vs k,.inl ⟨vs,k,q,qL (r2.ext e3) hk,rfl⟩,?_⟩
     obtain ⟨v1,v2⟩:=r.val k
     cases cc:oz l k with
     | none=>rw [v2 cc];rw [cc] at P3;exact P3.here S3 r3
     | some p=>obtain ⟨u,e,ru⟩:=v1 p cc;rw [e];rw [cc] at P3;exact P3.here S3 ru
    ·exact P3.elim
   ·exact P3.elim
  ·exact P1.elim⟩⟩
def xNewD (_:En) (s:Sto):Out PV:=.ok (.ref s.nx) (s.add (.dct []))
theorem Gk:DE X CB E (.Dict [] [] pos) xNewD:=⟨pe_dnewK.mono fun σ H Q ⟨ρ,s,m,er,S,P⟩ p hp=>by
 obtain ⟨S2,e2⟩:=S.newD hp (My.pj hp) kD .nil
 exact P _ _ _ e2 S2 .new⟩
end
def Out.so {α:Type} (o:Out α) (k:α→Sto→SO):SO:=match o with
 | .ok a s=>k a s
 | .ex c s=>.ex c s
 | .bad=>.bad
def SO.noex:SO→SO
 | .ex _ _=>.bad
 | o=>o
theorem PostS.shift {K:aa}{CB:ae}{E:XK}{o:SO}{H H1:Hp}{m m1:Mp}{s s1:Sto}{D:Ends} (e:Ext H m s H1 m1 s1) (h:PostS K CB E o H m s D):PostS K CB E o H1 m1 s1 D:=by
 cases o with
 | nx=>exact fun σ' H' m' x=>h σ' H' m' (e.trans x)
 | rt=>exact fun σ' H' m' x=>h σ' H' m' (e.trans x)
 | bk=>exact fun σ' H' m' x=>h σ' H' m' (e.trans x)
 | ct=>exact fun σ' H' m' x=>h σ' H' m' (e.trans x)
 | ex=>exact fun H' m' x=>h H' m' (e.trans x)
 | bad=>exact h
theorem Post.so {α β:Type}{K:aa}{CB:ae}{R:Hp→Mp→Sto→β→α→Prop}{E:XK}{o:Out α}{k:α→Sto→SO}{H:Hp}{m:Mp}{s:Sto}{D:Ends}{Q1:β→Hp→Prop} (h:PostS K CB E (o.so k) H m s D)
  (f:∀ v s1 u H1 m1,Ext H m s H1 m1 s1→SR K CB H1 m1 s1→R H1 m1 s1 u v→PostS K CB E (k v s1) H1 m1 s1 D→Q1 u H1):Post K CB R E o H m s Q1:=by
 cases o with
 | ok v s1=>exact fun u H1 m1 x S r=>f v s1 u H1 m1 x S r (PostS.shift x h)
 | ex c s'=>exact h
 | bad=>exact h
theorem PostS.next {K:aa}{CB:ae}{E:XK}{ρ:En}{H:Hp}{m:Mp}{s:Sto}{D:Ends}{σ:St} (h:PostS K CB E (.nx ρ s) H m s D) (S:SR K CB H m s) (er:ER K H m s σ ρ):D.nx σ H:=h σ H m .refl S er
theorem PostS.noex {K:aa}{CB:ae}{E:XK}{o:SO}{H:Hp}{m:Mp}{s:Sto}{D:Ends} (h:PostS K CB E o.noex H m s D):PostS K CB E0 o H m s D:=by
 cases o <;> first | exact h | exact bu h
def xSet (i:Nat) (f:XE) (ρ:En) (s:Sto):SO:=(f ρ s).so fun v s1=>.nx (ρ.set i (some v)) s1
def xRet (f:XE) (ρ:En) (s:Sto):SO:=(f ρ s).so fun v s1=>.rt v s1
def xRetN (_:En) (s:Sto):SO:=.rt .non s
def xDo (f:XE) (ρ:En) (s:Sto):SO:=(f ρ s).so fun _ s1=>.nx ρ s1
def xIf (t:XT) (g h:XS) (ρ:En) (s:Sto):SO:=(t ρ s).so fun b s1=>if b=true then g ρ s1 else h ρ s1
def xEnd (ρ:En) (s:Sto):SO:=.nx ρ s
def xSeq (g h:XS) (ρ:En) (s:Sto):SO:=match g ρ s with
 | .nx ρ' s'=>h ρ' s'
 | o=>o
section
variable {X:Cx}{CB:ae}{E:XK}{a b c e:bh}{es:List bh}{f g h:XE}{fa:XA}{t:XT}{p pos pos' apos cpos:Pos}{x:Str}{st:bM}{lK sts sts':List bM}{u v:XS}
theorem PS.nox {t:TS} (h:PS X.nox st t):PS X st t:=fun pins s σ H D I hw=>ce (h pins s σ H D (I.wish _) hw) (fun _ _ q=>q.unwish) fun _ _ z=>bu z
theorem kS (i:Nat) (hN:X.N.Nodup) (hi:X.N[i]?=some x) (hx:Loc X.env.scope x) (he:DE X CB E e f) (hs:fe e (some (.Name x pos')) pos.line X.env=pure false:=by rfl)
  (hf:X.fn x=true∨X.env.scope.names.lookup x=some .local:=by first | exact .inl rfl | exact .inr rfl | assumption):DS X CB E (.Assign [.Name x pos'] e pos) (xSet i f) :=
 ⟨(pk hN hi hx he.pe hs hf).mono fun D σ H ⟨ρ,s,m,er,S,P⟩=>⟨ρ,s,m,er,S,Post.so P fun v s1 u H1 m1 e1 S1 r1 P1=>P1.next S1 ((er.ext e1).set i r1)⟩⟩
theorem kY (he:DE X CB E e f):DS X CB E (.Return (some e) pos) (xRet f) :=
 ⟨(nY he.pe).mono fun D σ H ⟨ρ,s,m,er,S,P⟩=>⟨ρ,s,m,er,S,Post.so P fun v s1 u H1 m1 e1 S1 r1 P1=>P1 u H1 m1 .refl S1 r1⟩⟩
theorem sL (he:DE X CB E e f) (hs:fe e none pos.line X.env=pure false:=by rfl):DS X CB E (.Expr e pos) (xDo f) :=
 ⟨(nc he.pe hs).mono fun D σ H ⟨ρ,s,m,er,S,P⟩=>⟨ρ,s,m,er,S,Post.so P fun v s1 u H1 m1 e1 S1 r1 P1=>P1.next S1 (er.ext e1)⟩⟩
theorem oZ (hc:DT X CB E c t) (ha:DSs X CB E sts u) (hb:DSs X CB E sts' v):DS X CB E (.If c sts sts' pos) (xIf t u v) :=
 ⟨(sG hc.pt ha.pss hb.pss).mono fun D σ H ⟨ρ,s,m,er,S,P⟩=>⟨ρ,s,m,er,S,Post.so P fun v s1 u H1 m1 e1 S1 r1 P1=>by
  cases r1
  refine rW (fun c=>?_) fun c=>?_
  ·rw [if_pos c] at P1;exact ⟨ρ,s1,m1,er.ext e1,S1,P1⟩
  ·rw [if_neg c] at P1;exact ⟨ρ,s1,m1,er.ext e1,S1,P1⟩⟩⟩
theorem l4:DSs X CB E [] xEnd:=⟨pss_nil.mono fun D σ H ⟨ρ,s,m,er,S,P⟩=>P.next S er⟩
theorem kI (h:DS X CB E st u):DSs X CB E [st] u:=⟨kT h.ps⟩
theorem kE (h:DS X CB E st u) (k:DSs X CB E lK v):DSs X CB E (st::lK) (xSeq u v) :=
 ⟨(kN h.ps k.pss).mono fun D σ H ⟨ρ,s,m,er,S,P⟩=>⟨ρ,s,m,er,S,by
  unfold xSeq at P
  cases c:u ρ s with
  | nx ρ' s'=>rw [c] at P;exact fun σ' H' m' x S' er'=>⟨ρ',s',m',er',S',PostS.shift x P⟩
  | rt=>rw [c] at P;exact P
  | bk=>rw [c] at P;exact P
  | ct=>rw [c] at P;exact P
  | ex=>rw [c] at P;exact P
  | bad=>rw [c] at P;exact P⟩⟩
abbrev XG:=PV→En→Sto→Option En
abbrev XGs:=List PV→En→Sto→Option En
def TDG (K:aa) (CB:ae) (h:XG):TG:=fun v σ H Q=>∃ ρ s m q ρ',ER K H m s σ ρ∧SR K CB H m s∧Rep K H m s v q∧h q ρ s=some ρ'∧∀ σ',ER K H m s σ' ρ'→Q σ' H
def TDGs (K:aa) (CB:ae) (h:XGs):TGs:=fun v σ H Q=>∃ ρ s m q ρ',ER K H m s σ ρ∧SR K CB H m s∧Reps K H m s v q∧h q ρ s=some ρ'∧∀ σ',ER K H m s σ' ρ'→Q σ' H
structure DG (X:Cx) (CB:ae) (tg:bh) (h:XG):Prop where
 pg:PG X tg (TDG X.K CB h)
structure DGs (X:Cx) (CB:ae) (tg:List bh) (h:XGs):Prop where
 pgs:PGs X tg (TDGs X.K CB h)
theorem PG.mono {tg:bh}{t t':TG} (h:PG X tg t) (k:∀ v σ H Q,t' v σ H Q→t v σ H Q):PG X tg t':=fun pins s σ H v u Q I r q=>h pins s σ H v u Q I r (k v σ H Q q)
theorem PGs.mono {tg:List bh}{t t':TGs} (h:PGs X tg t) (k:∀ v σ H Q,t' v σ H Q→t v σ H Q):PGs X tg t':=fun pins s σ H v u Q I r q=>h pins s σ H v u Q I r (k v σ H Q q)
theorem PG.or {tg:bh}{t t':TG} (h:PG X tg t) (h':PG X tg t'):PG X tg (fun v σ H Q=>t v σ H Q∨t' v σ H Q):=fun pins s σ H v u Q I r q=>q.elim (h pins s σ H v u Q I r) (h' pins s σ H v u Q I r)
def yName (i:Nat) (q:PV) (ρ:En) (_:Sto):Option En:=some (ρ.set i (some q))
def yNil (q:List PV) (ρ:En) (_:Sto):Option En:=match q with
 | []=>some ρ
 | _=>none
def yCons (h:XG) (k:XGs) (q:List PV) (ρ:En) (s:Sto):Option En:=match q with
 | p::r=>(h p ρ s).bind fun ρ'=>k r ρ' s
 | []=>none
def yTup (n:Nat) (k:XGs) (q:PV) (ρ:En) (s:Sto):Option En:=match q with
 | .tup l=>if l.length=n then k l ρ s else none
 | q=>match lsOf s q with
  | some l=>if l.length=n then k l ρ s else none
  | none=>none
theorem lS (i:Nat) (hN:X.N.Nodup) (hi:X.N[i]?=some x) (hx:Loc X.env.scope x) (hf:X.fn x=true∨X.env.scope.names.lookup x=some .local:=by first | exact .inl rfl | exact .inr rfl | assumption):DG X CB (.Name x pos) (yName i) :=
 ⟨(A8 hN hi hx hf).mono fun v σ H Q ⟨ρ,s,m,q,ρ',er,S,r,e,k⟩=>by cases e;exact k _ (er.set i r)⟩
theorem yk:DGs X CB [] yNil:=⟨pgs_nil.mono fun v σ H Q ⟨ρ,s,m,q,ρ',er,S,r,e,k⟩=>by
 unfold yNil at e
 split at e <;> cases e
 cases r
 exact ⟨rfl,k _ er⟩⟩
theorem oy {h:XG}{k:XGs} (h1:DG X CB e h) (h2:DGs X CB es k) (hs:(cG (e::es) X.env).map (·.2)=assign e X.env::(cG es X.env).map (·.2):=by rfl):DGs X CB (e::es) (yCons h k) :=
 ⟨(DN h1.pg h2.pgs hs).mono fun v σ H Q ⟨ρ,s,m,q,ρ',er,S,r,e,kk⟩=>by
  unfold yCons at e
  split at e
  ·rename_i p r'
   cases r with
   | cons a b =>
    cases c:h p ρ s with
    | none=>rw [c] at e;cases e
    | some ρ1 =>
     rw [c] at e
     exact ⟨_,_,rfl,ρ,s,m,p,ρ1,er,S,a,c,fun σ1 er1=>⟨ρ1,s,m,r',ρ',er1,S,b,e,kk⟩⟩
  ·cases e⟩
theorem AT {k:XGs}{n k0:Nat} (hc:X.calm=true) (h:DGs X CB es k) (hn:(cG es X.env).length=n:=by rfl) (hst:(cG es X.env).findIdx? (·.1)=none:=by rfl):DG X CB (.Tuple es k0 pos) (yTup n k) :=
 ⟨((HA hc h.pgs hn hst).or (HC hc h.pgs hn hst)).mono fun v σ H Q ⟨ρ,s,m,q,ρ',er,S,r,e,kk⟩=>by
  unfold yTup at e
  split at e
  ·split at e
   ·rename_i hl
    obtain ⟨a,vs,rfl,q1,r1⟩:=r.tp
    exact .inl ⟨a,vs,rfl,q1,r1.length.trans hl,ρ,s,m,_,ρ',er,S,r1,e,kk⟩
   ·cases e
  ·split at e
   ·rename_i l hl0
    split at e
    ·rename_i hl
     obtain ⟨a,vs,rfl,q1,r1⟩:=r.ls S hl0
     exact .inr ⟨a,vs,rfl,q1,r1.length.trans hl,ρ,s,m,_,ρ',er,S,r1,e,kk⟩
    ·cases e
   ·cases e⟩
def xAsg (f:XE) (h:XG) (ρ:En) (s:Sto):SO:=(f ρ s).so fun v s1=>match h v ρ s1 with
 | some ρ'=>.nx ρ' s1
 | none=>.bad
theorem Iw {h:XG}{tg:bh} (he:DE X CB E e f) (hg:DG X CB tg h) (hs:gF [tg] e pos.line X.env=pure false:=by rfl) (hw:gG [tg] e X.env=pure none:=by rfl)
  (h1:(cG [tg] X.env).map (·.2)=[assign tg X.env]:=by rfl):DS X CB E (.Assign [tg] e pos) (xAsg f h) :=
 ⟨(EI he.pe hg.pg hs hw h1).mono fun D σ H ⟨ρ,s,m,er,S,P⟩=>⟨ρ,s,m,er,S,Post.so P fun v s1 u H1 m1 e1 S1 r1 P1=>by
  split at P1
  ·rename_i ρ' hρ
   exact ⟨ρ,s1,m1,v,ρ',er.ext e1,S1,r1,hρ,fun σ' er'=>P1.next S1 er'⟩
  ·exact P1.elim⟩⟩
def xPar (i j:Nat) (fa:XA) (ρ:En) (s:Sto):SO:=(fa ρ s).so fun vs s1=>match vs with
 | [v,w]=>.nx ((ρ.set i (some v)).set j (some w)) s1
 | _=>.bad
theorem Iv {i j:Nat}{y:Str}{px py pt:Pos}{kt k2 pt2} (hc:X.calm=true) (hN:X.N.Nodup) (hi:X.N[i]?=some x) (hj:X.N[j]?=some y) (hij:i≠j) (hx:X.env.scope.names.lookup x=some .local) (hy:X.env.scope.names.lookup y=some .local) (ha:DA X CB E [a,b] fa)
  (hw:gG [.Tuple [.Name x px,.Name y py] kt pt] (.Tuple [a,b] k2 pt2) X.env=pure (some [x,y])) (hs:gF [.Tuple [.Name x px,.Name y py] kt pt] (.Tuple [a,b] k2 pt2) pos.line X.env=pure false:=by rfl):DS X CB E (.Assign [.Tuple [.Name x px,.Name y py] kt pt] (.Tuple [a,b] k2 pt2) pos) (xPar i j fa) :=
 ⟨(Hw hc hN hi hj hij hx hy ha.pa hw hs).mono fun D σ H ⟨ρ,s,m,er,S,P⟩=>⟨ρ,s,m,er,S,Post.so P fun v s1 u H1 m1 e1 S1 r1 P1=>by
  split at P1
  ·cases r1 with
   | cons a b =>
    cases b with
    | cons b c=>cases c;exact ⟨_,_,rfl,P1.next S1 (((er.ext e1).set i a).set j b)⟩
  ·exact P1.elim⟩⟩
def k8 (o i v:PV) (s:Sto):Option Sto:=match o with
 | .ref n=>match s.get n with
  | some (.lst l)=>match i with
   | .int k=>match ixN l.length k with
    | some j=>some (s.set n (.lst (l.set j v)))
    | none=>none
   | _=>none
  | some (.dct l)=>match kyOf i with
   | some k=>if l.length < 100000 then some (s.set n (.dct (CZ l k v))) else none
   | none=>none
  | _=>none
 | _=>none
def xPut (fo fi fv:XE) (ρ:En) (s:Sto):SO:=(fv ρ s).so fun v s1=>(fo ρ s1).so fun o s2=>(fi ρ s2).so fun i s3=>match k8 o i v s3 with
 | some s4=>.nx ρ s4
 | none=>.bad
def GK:V→V→V→Hp→(Hp→Prop)→Prop:=fun o i v H Q=>∃ a H',o=.ref a∧DPut H a i v H'∧Q H'
theorem Dk (hu:X.A.units+1 < dC):PSet X GK:=by
 intro pins s σ H o i v ov iv u Q I ro ri rv h
 obtain ⟨a,H',rfl,g,q⟩:=h
 obtain rfl:ov=bo a:=ro
 exact xp hu I g ri rv fun s4 I4=>⟨H',I4,q⟩
theorem PSet.or {t t':G9} (h:PSet X t) (h':PSet X t'):PSet X (fun o i v H Q=>t o i v H Q∨t' o i v H Q):=fun pins s σ H o i v ov iv u Q I r1 r2 r3 q=>q.elim (h pins s σ H o i v ov iv u Q I r1 r2 r3) (h' pins s σ H o i v ov iv u Q I r1 r2 r3)
theorem Hu {K:aa}{H:Hp}{m:Mp}{s s':Sto}{o i v:PV}{xo xi xv:V} (S:SR K CB H m s) (ro:Rep K H m s xo o) (ri:Rep K H m s xi i) (rv:Rep K H m s xv v) (e:k8 o i v s=some s') {Q:Hp→Prop} (hq:∀ H' m',Ext H m s H' m' s'→SR K CB H' m' s'→Q H'):GJ xo xi xv H Q∨GK xo xi xv H Q:=by
 unfold k8 at e
 split at e
 ·split at e
  ·rename_i l hg
   split at e
   ·split at e
    ·rename_i j hj
     cases e
     cases ro;cases ri
     obtain ⟨_,vs,h1,q1⟩:=S.get hg
     obtain ⟨S2,e2⟩:=S.putL hg (q1.set j rv)
     exact .inl ⟨_,vs,_,j,rfl,rfl,h1,by rw [q1.length];exact hj,hq _ _ e2 S2⟩
    ·cases e
   ·cases e
  ·rename_i l hg
   split at e
   ·rename_i k hk
    split at e
    ·rename_i hl
     cases e
     cases ro
     obtain ⟨_,vs,h1,q1⟩:=S.get hg
     obtain ⟨S2,e2⟩:=S.putD hg (q1.put k rv)
     exact .inr ⟨_,_,rfl,.inl ⟨vs,k,h1,qL ri hk,by rw [q1.length];exact sz6 hl,rfl⟩,hq _ _ e2 S2⟩
    ·cases e
   ·cases e
  ·cases e
 ·cases e
theorem yy {tpos:Pos} (hu:X.A.units+1 < dC) (ho:DE X CB E a f) (hi:DE X CB E b g) (hv:DE X CB E e h) (hs:gF [gR a b tpos] e pos.line X.env=pure false:=by rfl) (hw:gG [gR a b tpos] e X.env=pure none:=by rfl)
  (h1:(cG [gR a b tpos] X.env).map (·.2)=[assign (gR a b tpos) X.env]:=by rfl)
  (ha:∀ v,assign (.Subscript a b tpos) X.env v=(do
   let ov ← holding [v] (eval a X.env)
   let iv ← holding [v,ov] (eval b X.env)
   gB tpos
   holding [v,ov,iv] (setItem ov iv v)
   release [v,ov,iv] []):=by intro _;rfl):DS X CB E (.Assign [.Subscript a b tpos] e pos) (xPut f g h) :=
 ⟨(EI hv.pe (HB ho.pe hi.pe (set_list.or (Dk hu)) ha) hs hw h1).mono fun D σ H ⟨ρ,s,m,er,S,P⟩=>⟨ρ,s,m,er,S,Post.so P fun v s1 u H1 m1 e1 S1 r1 P1 =>
  ⟨ρ,s1,m1,er.ext e1,S1,Post.so P1 fun o s2 uo H2 m2 e2 S2 r2 P2=>⟨ρ,s2,m2,(er.ext e1).ext e2,S2,Post.so P2 fun i s3 ui H3 m3 e3 S3 r3 P3=>by
   split at P3
   ·rename_i s4 h4
    exact Hu S3 (r2.ext e3) r3 ((r1.ext e2).ext e3) h4 fun H' m' x S'=>P3 σ H' m' x S' ((((er.ext e1).ext e2).ext e3).ext x)
   ·exact P3.elim⟩⟩⟩⟩
def oQ (K:aa) (CB:ae) (J:It) (l:List PV) (H0:Hp) (m0:Mp) (s0:Sto):Prop:=∀ i H m s,Ext0 H0 m0 s0 H m s→SR K CB H m s →
 (∀ q,l[i]?=some q→J.go i H∧∀ x H',J.yld i H x H'→Ext H m s H' m s∧SR K CB H' m s∧Rep K H' m s x q)∧(l.length≤i→J.stop i H)
def TDI (K:aa) (CB:ae) (E:XK) (f:XA):TI:=fun σ H R=>∃ ρ s m,ER K H m s σ ρ∧SR K CB H m s∧match f ρ s with
 | .ok l s'=>∀ J H' m',Ext H m s H' m' s'→SR K CB H' m' s'→oQ K CB J l H' m' s'→R J H'
 | .ex c s'=>∀ H' m',Ext H m s H' m' s'→SR K CB H' m' s'→E (.ref c) none H'
 | .bad=>False
structure DI (X:Cx) (CB:ae) (E:XK) (tg e:bh) (f:XA):Prop where
 pi:PI X tg e (TDI X.K CB E f)
theorem PI.mono {tg:bh}{t t':TI} (h:PI X tg e t) (k:∀ σ H R,t' σ H R→t σ H R):PI X tg e t':=fun pins s σ H R I q=>h pins s σ H R I (k σ H R q)
end
section
variable {X:Cx}{CB:ae}{E:XK}{a b c e tg:bh}{es:List bh}{f g h:XE}{fa fi:XA}{t:XT}{p pos pos' apos cpos:Pos}{x:Str}{st:bM}{lK sts sts':List bM}{u v:XS}
def xIter (f:XE) (ρ:En) (s:Sto):Out (List PV):=(f ρ s).bind fun v s1=>match v with
 | .lst l=>.ok l s1
 | .seq l=>.ok l s1
 | .tup l=>.ok l s1
 | _=>.bad
theorem GX {K:aa}{H0:Hp}{m0:Mp}{s0:Sto}{b:ae}{q:PV}{l:List PV} (r:Rep K H0 m0 s0 (.ref b) q) (hl:∀ s,lsOf s q=some l):oQ K CB (Itl K b) l H0 m0 s0:=by
 intro i H m s ex S
 obtain ⟨b',vs,e,hq,rs⟩:=(r.ext0 ex.toExtR).ls S (hl s)
 cases e
 refine ⟨fun q' hq'=>?_,fun hi=>⟨vs,hq,by rw [rs.length];exact hi⟩⟩
 obtain ⟨u,hu,ru⟩:=rs.get hq'
 refine ⟨⟨vs,u,hq,hu⟩,fun x H' ⟨e1,e2⟩=>?_⟩
 subst e1
 have e3:=e2 vs hq
 rw [hu] at e3
 cases e3
 exact ⟨.refl,S,ru⟩
theorem iterT {K:aa}{H0:Hp}{m0:Mp}{s0:Sto}{b:ae}{l:List PV} (r:Rep K H0 m0 s0 (.ref b) (.tup l)):oQ K CB (Itt K b) l H0 m0 s0:=by
 intro i H m s ex S
 obtain ⟨b',vs,e,hq,rs⟩:=(r.ext0 ex.toExtR).tp
 cases e
 refine ⟨fun q' hq'=>?_,fun hi=>⟨vs,hq,by rw [rs.length];exact hi⟩⟩
 obtain ⟨u,hu,ru⟩:=rs.get hq'
 refine ⟨⟨vs,u,hq,hu⟩,fun x H' ⟨e1,e2⟩=>?_⟩
 subst e1
 have e3:=e2 vs hq
 rw [hu] at e3
 cases e3
 exact ⟨.refl,S,ru⟩
def iLT (K:aa) (tl:TE):TI:=fun σ H R=>tl σ H fun x H1=>(∃ a,x=.ref a∧(∃ xs,SqL K H1 a xs)∧R (Itl K a) H1)∨(∃ a,x=.ref a∧(∃ xs,SqT K H1 a xs)∧R (Itt K a) H1)
theorem pi_lt {tl:TE} (hl:PE X e tl):PI X tg e (iLT X.K tl):=by
 intro pins s σ H R I h
 refine thn (hl pins s σ H _ I h) fun v s1 ⟨x,H1,I1,r1,q1⟩=>?_
 rcases q1 with ⟨a,e,⟨xs,hq⟩,q⟩ | ⟨a,e,⟨xs,hq⟩,q⟩
 ·subst e
  cases r1
  obtain ⟨its,rv,p,hz⟩:=I1.list hq
  refine fm p.isList ?_
  refine ⟨s1.heap.objs.size,[s1.heap.objs.size],_,_,H1,rfl,I1.kept (t':=s1.toks) fun b o e=>ax _ e,wJ a _,⟨_,bg _ rfl,rfl,rfl⟩,fun b hb=>?_,q⟩
  have e:b=s1.heap.objs.size:=by simpa using hb
  subst e
  exact I1.fpOk (aC _) (I1.hok.fresh (aC _))
 ·subst e
  cases r1
  obtain ⟨its,rv,p,hz⟩:=I1.tuple hq
  refine wpAny_pyIter_tuple (show s1.heap.IsTuple a its.toArray from p) ?_
  refine ⟨s1.heap.objs.size,[s1.heap.objs.size],_,_,H1,rfl,I1.kept (t':=s1.toks) fun b o e=>ax _ e,zR a _,⟨_,bg _ rfl,rfl,rfl⟩,fun b hb=>?_,q⟩
  have e:b=s1.heap.objs.size:=by simpa using hb
  subst e
  exact I1.fpOk (aC _) (I1.hok.fresh (aC _))
theorem TDI.bind {σ:St}{H:Hp}{R:It→Hp→Prop}{F:PV→Sto→Out (List PV)} (q:TDI X.K CB E (fun ρ s=>(f ρ s).bind F) σ H R) {Q:VK} (k:∀ v s1 u H1 m1,SR X.K CB H1 m1 s1→Rep X.K H1 m1 s1 u v→(match F v s1 with
  | .ok l s'=>∀ J H' m',Ext H1 m1 s1 H' m' s'→SR X.K CB H' m' s'→oQ X.K CB J l H' m' s'→R J H'
  | .ex c s'=>∀ H' m',Ext H1 m1 s1 H' m' s'→SR X.K CB H' m' s'→E (.ref c) none H'
  | .bad=>False)→Q u H1):TDE X.K CB E f σ H Q:=by
 obtain ⟨ρ,s,m,er,S,P⟩:=q
 refine ⟨ρ,s,m,er,S,?_⟩
 cases c:f ρ s with
 | ok v s1 =>
  simp only [c,Out.bind] at P
  refine fun u H1 m1 e1 S1 r1=>k v s1 u H1 m1 S1 r1 ?_
  cases d:F v s1 with
  | ok l s'=>rw [d] at P;exact fun J H' m' x=>P J H' m' (e1.trans x)
  | ex c' s'=>rw [d] at P;exact fun H' m' x=>P H' m' (e1.trans x)
  | bad=>rw [d] at P;exact P
 | ex c' s'=>simp only [c,Out.bind] at P;exact P
 | bad=>simp only [c,Out.bind] at P
theorem oC (hl:DE X CB E e f):DI X CB E tg e (xIter f):=⟨(pi_lt hl.pe).mono fun σ H R q=>TDI.bind q fun v s1 u H1 m1 S1 r1 P=>by
 cases r1 with
 | lst h1 h2 h3=>exact .inl ⟨_,rfl,⟨_,SqL.of h1⟩,P _ _ _ .refl S1 (GX (.lst h1 h2 h3) fun _=>rfl)⟩
 | seq h1 h3=>exact .inl ⟨_,rfl,⟨_,h1.elim (fun z=>.inl (.inr z.1)) .inr⟩,P _ _ _ .refl S1 (GX (.seq h1 h3) fun _=>rfl)⟩
 | tup h1 h3=>exact .inr ⟨_,rfl,⟨_,h1.elim (fun z=>.inl z.1) .inr⟩,P _ _ _ .refl S1 (iterT (.tup h1 h3))⟩
 | _=>exact P.elim⟩
def strP (x:Str):List PV:=x.cps.toList.map fun c=>PV.str ⟨#[c]⟩
def xIterS (f:XE) (ρ:En) (s:Sto):Out (List PV):=(f ρ s).bind fun v s1=>match v with
 | .str x=>.ok (strP x) s1
 | _=>.bad
def rj (lo:Int) (n:Nat):List PV:=(dG n).map fun (k:Nat)=>PV.int (lo+k)
def xRng1 (fa:XA) (ρ:En) (s:Sto):Out (List PV):=(fa ρ s).bind fun vs s1=>match vs with
 | [.int j]=>if -(2 ^ 62)≤j∧j < 2 ^ 62 then .ok (rj 0 j.toNat) s1 else .bad
 | _=>.bad
theorem iterR {K:aa}{lo:Int}{n:Nat}{H0:Hp}{m0:Mp}{s0:Sto}:oQ K CB (Itr lo n) (rj lo n) H0 m0 s0:=by
 intro i H m s ex S
 refine ⟨fun q hq=>?_,fun hi=>?_⟩
 ·unfold rj at hq
  rw [bv] at hq
  by_cases hi:i < n
  ·rw [ka hi] at hq
   cases hq
   exact ⟨hi,fun x H' ⟨e1,e2⟩=>by subst e1 e2;exact ⟨.refl,S,.int⟩⟩
  ·rw [jR (by simpa using hi)] at hq;cases hq
 ·unfold rj at hi;rw [aq,List.length_range] at hi;exact hi
theorem TDI.bindA {σ:St}{H:Hp}{R:It→Hp→Prop}{F:List PV→Sto→Out (List PV)} (q:TDI X.K CB E (fun ρ s=>(fa ρ s).bind F) σ H R) {Q:List V→Hp→Prop} (k:∀ v s1 u H1 m1,SR X.K CB H1 m1 s1→Reps X.K H1 m1 s1 u v→(match F v s1 with
  | .ok l s'=>∀ J H' m',Ext H1 m1 s1 H' m' s'→SR X.K CB H' m' s'→oQ X.K CB J l H' m' s'→R J H'
  | .ex c s'=>∀ H' m',Ext H1 m1 s1 H' m' s'→SR X.K CB H' m' s'→E (.ref c) none H'
  | .bad=>False)→Q u H1):TDA X.K CB E fa σ H Q:=by
 obtain ⟨ρ,s,m,er,S,P⟩:=q
 refine ⟨ρ,s,m,er,S,?_⟩
 cases c:fa ρ s with
 | ok v s1 =>
  simp only [c,Out.bind] at P
  refine fun u H1 m1 e1 S1 r1=>k v s1 u H1 m1 S1 r1 ?_
  cases d:F v s1 with
  | ok l s'=>rw [d] at P;exact fun J H' m' x=>P J H' m' (e1.trans x)
  | ex c' s'=>rw [d] at P;exact fun H' m' x=>P H' m' (e1.trans x)
  | bad=>rw [d] at P;exact P
 | ex c' s'=>simp only [c,Out.bind] at P;exact P
 | bad=>simp only [c,Out.bind] at P
theorem nu (hg:Gl X "range") (hm:X.mg "range"=none) (ha:DA X CB E [a] fa) (hs:aK [a] X.env=[(false,eval a X.env)]:=by rfl):DI X CB E tg (.Call (.Name "range" p) [a] [] pos) (xRng1 fa) :=
 ⟨(BU hg hm ha.pa hs).mono fun σ H R q=>TDI.bindA q fun v s1 u H1 m1 S1 r1 P=>by
  split at P
  ·rename_i l s' hF
   split at hF
   ·split at hF <;> cases hF
    rename_i hj
    cases r1 with
    | cons r n=>cases n;cases r;exact ⟨_,rfl,hj.1,hj.2,P _ _ _ .refl S1 iterR⟩
   ·cases hF
  ·rename_i hF
   split at hF
   ·split at hF <;> cases hF
   ·cases hF
  ·exact P.elim⟩
def Bd:Key→PV
 | .inl i=>.int i
 | .inr x=>.str x
def xIterD (f:XE) (ρ:En) (s:Sto):Out (List PV):=(f ρ s).bind fun v s1=>match v with
 | .dct l=>.ok (l.map fun kv=>Bd kv.1) s1
 | _=>.bad
def iDict (tl:TE):TI:=fun σ H R=>tl σ H fun x H1=>∃ d kvs,x=.ref d∧((H1 d=some (.dK kvs)∧∀ ob,R (Itd d ob kvs) (upd H1 d (.frz ob (.dK kvs))))∨∃ ob,H1 d=some (.frz ob (.dK kvs))∧R (Itd d ob kvs) H1)
theorem FH {tl:TE} (hl:PE X e tl):PI X tg e (iDict tl):=by
 intro pins s σ H R I h
 refine thn (hl pins s σ H _ I h) fun v s1 ⟨x,H1,I1,r1,q1⟩=>?_
 obtain ⟨d,kvs,e,q1⟩:=q1
 subst e
 cases r1
 have hd:Rd H1 d (.dK kvs):=q1.elim (fun z=>.inl z.1) fun ⟨ob,z,_⟩=>.inr ⟨ob,z⟩
 obtain ⟨z,hsys,vs,rel,dd⟩:=sM I1.hok hd
 obtain ⟨ep,at_⟩:=dd.dictAt
 obtain ⟨ob,es,ho,hex,hdat,hrest⟩:=id at_
 refine wpAny_pyIter_dict hsys at_ ?_
 have hl:=rel.length
 have I2:Inv X pins σ H1 { s1 with heap:=s1.heap.push { cls:=.type "dict_keyiterator",data:=.fields #[.ref d,.int 0 0,.int vs.length 0,.int ep 0] } }:=I1.kept (t':=s1.toks) fun b o e=>ax _ e
 have hne:s1.heap.objs.size≠d:=fun z=>by
  have:=aI ho
  rw [z] at this
  exact cD _ this
 have st2:(0≤kvs.length∧(s1.heap.push { cls:=.type "dict_keyiterator",data:=.fields #[.ref d,.int 0 0,.int vs.length 0,.int ep 0] }).IsKeyIter s1.heap.objs.size d 0 kvs.length ep):=by
  refine ⟨bA _,{ cls:=.type "dict_keyiterator",data:=.fields #[.ref d,.int 0 0,.int vs.length 0,.int ep 0] },bg _ rfl,rfl,?_⟩
  rw [hl]
  rfl
 rcases q1 with ⟨hd1,q⟩ | ⟨ob',hd1,q⟩
 ·refine ⟨s1.heap.objs.size,[s1.heap.objs.size],_,Itd d ob kvs,_,rfl,I2.freeze hd1 (ax _ ho),wK d _ ob kvs es ep hdat,st2,fun b hb=>?_,q ob⟩
  have e:b=s1.heap.objs.size:=by simpa using hb
  subst e
  refine I1.fpOk (aC _) ?_
  rw [kA hne]
  exact I1.hok.fresh (aC _)
 ·have e0:ob'=ob:=by
   obtain ⟨e1,_⟩:=(show ObjOk X.prog X.w H1 s1.heap d (.frz ob' (.dK kvs)) from I1.hok d _ hd1)
   rw [ho] at e1
   exact (a8 e1).symm
  subst e0
  refine ⟨s1.heap.objs.size,[s1.heap.objs.size],_,Itd d ob' kvs,_,rfl,I2,wK d _ ob' kvs es ep hdat,st2,fun b hb=>?_,q⟩
  have e:b=s1.heap.objs.size:=by simpa using hb
  subst e
  exact I1.fpOk (aC _) (I1.hok.fresh (aC _))
theorem Ie {K:aa}{H:Hp}{m:Mp}{s:Sto} (k:Key):Rep K H m s (kV k) (Bd k):=by
 cases k with
 | inl i=>exact .int
 | inr x=>exact .str
theorem RepKs.get:∀ {K:aa}{H:Hp}{m:Mp}{s:Sto}{vs:List (Key×V)}{l:List (Key×PV)}{i:Nat}{q:Key×PV},RepKs K H m s vs l→l[i]?=some q→∃ w,vs[i]?=some w∧w.1=q.1
 | _,_,_,_,_,_,_,_,.nil,e=>by simp at e
 | _,_,_,_,_,_,0,_,.cons _ _,e=>by simp at e;subst e;exact ⟨_,rfl,rfl⟩
 | _,_,_,_,_,_,i+1,q,.cons _ b,e=>by
  obtain ⟨w,h1,h2⟩:=b.get (i:=i) (q:=q) (by simpa using e)
  exact ⟨w,by simpa using h1,h2⟩
theorem iterD {K:aa}{H0:Hp}{m0:Mp}{s0:Sto}{d:ae}{ob:Obj}{kvs:List (Key×V)}{l:List (Key×PV)} (hd:∀ H m s,Ext0 H0 m0 s0 H m s→SR K CB H m s→H d=some (.frz ob (.dK kvs))) (r:RepKs K H0 m0 s0 kvs l):oQ K CB (Itd d ob kvs) (l.map fun kv=>Bd kv.1) H0 m0 s0:=by
 intro i H m s ex S
 have h:=hd H m s ex S
 refine ⟨fun q hq=>?_,fun hi=>⟨by rw [r.length];simpa using hi,h⟩⟩
 rw [bv] at hq
 cases c:l[i]? with
 | none=>rw [c] at hq;cases hq
 | some kv =>
  rw [c] at hq
  cases hq
  obtain ⟨w,h1,h2⟩:=r.get c
  refine ⟨⟨(aZ.mp h1).1,h⟩,fun x H' ⟨e1,kv',e2,e3⟩=>?_⟩
  subst e1 e3
  rw [h1] at e2
  cases e2
  rw [h2]
  exact ⟨.refl,S,Ie _⟩
def lI (body:PV→XS):List PV→XS
 | [],ρ,s=>.nx ρ s
 | q::l,ρ,s=>match body q ρ s with
  | .nx ρ' s'=>lI body l ρ' s'
  | .ct ρ' s'=>lI body l ρ' s'
  | .bk ρ' s'=>.nx ρ' s'
  | o=>o
def kZ (y:XG) (u:XS) (q:PV) (ρ:En) (s:Sto):SO:=match y q ρ s with
 | some ρ'=>u ρ' s
 | none=>.bad
def xFor (fi:XA) (y:XG) (body:XS) (ρ:En) (s:Sto):SO:=((fi ρ s).so fun l s1=>lI (kZ y body) l ρ s1).noex
theorem Ek {y:XG}{J:It}{l:List PV}{H1:Hp}{m1:Mp}{s1:Sto}{σ:St}{ρ:En}{D:Ends} (S1:SR X.K CB H1 m1 s1) (er:ER X.K H1 m1 s1 σ ρ) (it:oQ X.K CB J l H1 m1 s1) (P:PostS X.K CB E0 (lI (kZ y u) l ρ s1) H1 m1 s1 D) :
  ∃ W:Nat→Nat→St→Hp→Prop,(∃ m,W 0 m σ H1)∧∀ i m σ H,W i m σ H →
   (J.stop i H∧D.nx σ H)∨(J.go i H∧∃ N:St→Hp→Prop,(∀ σ' H',N σ' H'→∃ m',m' < m∧W (i+1) m' σ' H')∧∀ x H',J.yld i H x H'→(TDG X.K CB y) x σ H' fun σ2 H2=>(TDS X.K CB E0 u) { D with nx:=N,ct:=N,bk:=D.nx } σ2 H2):=by
 refine ⟨fun i k σ' H'=>∃ ρ' s' m',ER X.K H' m' s' σ' ρ'∧SR X.K CB H' m' s'∧Ext H1 m1 s1 H' m' s'∧i≤l.length∧k=l.length - i∧PostS X.K CB E0 (lI (kZ y u) (l.drop i) ρ' s') H' m' s' D,⟨l.length,ρ,s1,m1,er,S1,.refl,bA _,rfl,P⟩,?_⟩
 rintro i k σ' H' ⟨ρ',s',m',er',S',ex',hi',rfl,P'⟩
 obtain ⟨it1,it2⟩:=it i H' m' s' ex'.toExt0 S'
 by_cases hlt:i < l.length
 ·right
  have hq:l[i]?=some l[i]:=bB hlt
  obtain ⟨go,yl⟩:=it1 _ hq
  rw [fW hlt] at P'
  refine ⟨go,fun σ2 H2=>∃ ρ2 s2 m2,ER X.K H2 m2 s2 σ2 ρ2∧SR X.K CB H2 m2 s2∧Ext H1 m1 s1 H2 m2 s2∧PostS X.K CB E0 (lI (kZ y u) (l.drop (i+1)) ρ2 s2) H2 m2 s2 D,fun σ2 H2 ⟨ρ2,s2,m2,a1,a2,a3,a4⟩=>⟨l.length - (i+1),by omega,ρ2,s2,m2,a1,a2,a3,hlt,rfl,a4⟩,fun x H2 hy=>?_⟩
  obtain ⟨e2,S2,r2⟩:=yl x H2 hy
  unfold lI at P'
  have hbo:kZ y u l[i] ρ' s'=match y l[i] ρ' s' with | some ρ'=>u ρ' s' | none=>.bad:=rfl
  rw [hbo] at P'
  cases hyq:y l[i] ρ' s' with
  | none=>rw [hyq] at P';exact P'.elim
  | some ρ2 =>
   rw [hyq] at P'
   have P':=PostS.shift e2 P'
   dsimp only at P'
   refine ⟨ρ',s',m',l[i],ρ2,er'.ext e2,S2,r2,hyq,fun σ2 er2=>⟨ρ2,s',m',er2,S2,?_⟩⟩
   cases cb:u ρ2 s' with
   | nx ρ3 s3=>rw [cb] at P';exact fun σ3 H3 m3 e3 S3 er3=>⟨ρ3,s3,m3,er3,S3,(ex'.trans e2).trans e3,PostS.shift e3 P'⟩
   | ct ρ3 s3=>rw [cb] at P';exact fun σ3 H3 m3 e3 S3 er3=>⟨ρ3,s3,m3,er3,S3,(ex'.trans e2).trans e3,PostS.shift e3 P'⟩
   | bk ρ3 s3=>rw [cb] at P';exact P'
   | rt v3 s3=>rw [cb] at P';exact P'
   | ex c3 s3=>rw [cb] at P';exact P'
   | bad=>rw [cb] at P';exact P'
 ·left
  have hle:l.length≤i:=gA hlt
  rw [gD hle] at P'
  exact ⟨it2 hle,P'.next S' er'⟩
theorem oN {y:XG} (hc:X.calm=true) (hi:DI X.nox CB E0 tg e fi) (hg:DG X.nox CB tg y) (hb:DSs X.nox CB E0 sts u) (hs:∀ x,di e X.env x=pure x:=by intro _;rfl):DS X CB E (.For tg e sts [] pos) (xFor fi y u) :=
 ⟨PS.nox ((Hy (X:=X.nox) ik hc hi.pi hg.pg hb.pss hs).mono fun D σ H ⟨ρ,s,m,er,S,P⟩=>by
  have P:=PostS.noex P
  refine ⟨ρ,s,m,er,S,?_⟩
  cases c:fi ρ s with
  | bad=>rw [c] at P;exact P
  | ex c' s'=>rw [c] at P;exact P
  | ok l s1 =>
   rw [c] at P
   intro J H1 m1 e1 S1 it
   exact Ek (X:=X.nox) S1 (er.ext e1) it (PostS.shift e1 P))⟩
def lz (c:XT) (b:XS):Nat→XS
 | 0,_,_=>.bad
 | n+1,ρ,s=>(c ρ s).so fun t s1=>if t=true then (match b ρ s1 with
  | .nx ρ' s'=>lz c b n ρ' s'
  | .ct ρ' s'=>lz c b n ρ' s'
  | .bk ρ' s'=>.nx ρ' s'
  | o=>o) else .nx ρ s1
open Classical in
def uj (c:XT) (b:XS) (ρ:En) (s:Sto):SO:=if h:∃ n,lz c b n ρ s≠.bad then (lz c b h.choose ρ s).noex else .bad
theorem zE {c:bh} (hc:DT X.nox CB E0 c t) (hb:DSs X.nox CB E0 sts u):DS X CB E (.While c sts [] pos) (uj t u) :=
 ⟨PS.nox ((zj (X:=X.nox) ik hc.pt hb.pss).mono fun D σ H ⟨ρ,s,m,er,S,P⟩=>by
  unfold uj at P
  split at P
  ·rename_i h
   have P:=PostS.noex P
   refine ⟨fun n σ' H'=>∃ ρ' s' m',ER X.K H' m' s' σ' ρ'∧SR X.K CB H' m' s'∧PostS X.K CB E0 (lz t u n ρ' s') H' m' s' D,⟨_,ρ,s,m,er,S,P⟩,?_⟩
   rintro n σ' H' ⟨ρ',s',m',er',S',P'⟩
   cases n with
   | zero=>exact P'.elim
   | succ n =>
    refine ⟨ρ',s',m',er',S',Post.so P' fun b s1 b' H1 m1 e1 S1 r1 P1=>?_⟩
    cases r1
    refine rW (fun cb=>?_) fun cb=>?_
    ·rw [if_pos cb] at P1
     refine ⟨fun σ2 H2=>∃ ρ2 s2 m2,ER X.K H2 m2 s2 σ2 ρ2∧SR X.K CB H2 m2 s2∧PostS X.K CB E0 (lz t u n ρ2 s2) H2 m2 s2 D,fun σ2 H2 q=>⟨n,dA _,q⟩,ρ',s1,m1,er'.ext e1,S1,?_⟩
     cases cu:u ρ' s1 with
     | nx ρ3 s3=>rw [cu] at P1;exact fun σ3 H3 m3 e3 S3 er3=>⟨ρ3,s3,m3,er3,S3,PostS.shift e3 P1⟩
     | ct ρ3 s3=>rw [cu] at P1;exact fun σ3 H3 m3 e3 S3 er3=>⟨ρ3,s3,m3,er3,S3,PostS.shift e3 P1⟩
     | bk ρ3 s3=>rw [cu] at P1;exact P1
     | rt v3 s3=>rw [cu] at P1;exact P1
     | ex c3 s3=>rw [cu] at P1;exact P1
     | bad=>rw [cu] at P1;exact P1
    ·rw [if_neg cb] at P1
     exact P1.next S1 (er'.ext e1)
  ·exact P.elim)⟩
theorem qk {c:XT}{b:XS}:∀ {n:Nat}{ρ:En}{s:Sto},lz c b n ρ s≠.bad→lz c b (n+1) ρ s=lz c b n ρ s
 | 0,_,_,h=>absurd rfl h
 | n+1,ρ,s,h=>by
  unfold lz at h ⊢
  cases hc:c ρ s with
  | ok t s1 =>
   rw [hc] at h
   simp only [Out.so] at h ⊢
   by_cases ht:t=true
   ·rw [if_pos ht] at h ⊢
    rw [if_pos ht]
    cases hb:b ρ s1 with
    | nx ρ' s'=>rw [hb] at h;exact qk h
    | ct ρ' s'=>rw [hb] at h;exact qk h
    | _=>rfl
   ·rw [if_neg ht,if_neg ht]
  | ex=>rfl
  | bad=>rfl
theorem wD {c:XT}{b:XS}{n k:Nat}{ρ:En}{s:Sto} (h:lz c b n ρ s≠.bad):lz c b (n+k) ρ s=lz c b n ρ s:=by
 induction k with
 | zero=>rfl
 | succ k ih=>rw [← Nat.add_assoc,qk (by rw [ih];exact h),ih]
theorem wC {c:XT}{b:XS}{n:Nat}{ρ:En}{s:Sto}{o:SO} (h:lz c b n ρ s=o) (ho:o≠.bad):uj c b ρ s=o.noex:=by
 have hx:∃ n,lz c b n ρ s≠.bad:=⟨n,by rw [h];exact ho⟩
 unfold uj
 rw [dif_pos hx]
 have h1:=wD (k:=n) hx.choose_spec
 have h2:=wD (k:=hx.choose) (show lz c b n ρ s≠.bad by rw [h];exact ho)
 rw [Nat.add_comm] at h2
 rw [← h1,h2,h]
end
def lX (c:XT) (e:XE) (cap:En):List PV→Sto→Out (List PV)
 | [],s=>.ok [] s
 | q::l,s=>match c (some q::cap) s with
  | .ok true s1=>match e (some q::cap) s1 with
   | .ok v s2=>match lX c e cap l s2 with
    | .ok vs s3=>.ok (v::vs) s3
    | _=>.bad
   | _=>.bad
  | .ok false s1=>lX c e cap l s1
  | _=>.bad
theorem mF {c:XT}{e:XE}{cap:En}{q:PV}{l:List PV}{s:Sto}:lX c e cap (q::l) s=match c (some q::cap) s with
  | .ok true s1=>match e (some q::cap) s1 with
   | .ok v s2=>match lX c e cap l s2 with
    | .ok vs s3=>.ok (v::vs) s3
    | _=>.bad
   | _=>.bad
  | .ok false s1=>lX c e cap l s1
  | _=>.bad:=rfl
theorem sP {c:XT}{e:XE}{cap:En}:∀ {l:List PV}{s s':Sto}{k:ae},lX c e cap l s≠.ex k s'
 | [],_,_,_,h=>by cases h
 | q::l,s,s',k,h=>by
  unfold lX at h
  split at h
  ·split at h
   ·split at h <;> cases h
   ·cases h
  ·exact sP h
  ·cases h
def oR (_:En) (s:Sto):Out Bool:=.ok true s
def md (fi:XA) (ix:List Nat) (c:XT) (e:XE) (ρ:En) (s:Sto):Out PV:=(fi ρ s).bind fun l s1=>if l.length≤100000 then (lX c e (lJ ix ρ) l s1).bind fun vs s2=>.ok (.lst vs) s2 else .bad
structure DIfs (X:Cx) (CB:ae) (ifs:List bh) (t:XT):Prop where
 pifs:E4 X ifs (TDT X.K CB E0 t)
section
variable {X:Cx}{CB:ae}{E:XK}{a b c e elt iter tg:bh}{es ifs:List bh}{f g h:XE}{fa fi:XA}{t:XT}{p px pos pos' apos cpos:Pos}{x:Str}{st:bM}{lK sts sts':List bM}{u v:XS}{scope:du}{fr:List Str}{ix:List Nat}
theorem m7:DIfs X CB [] oR:=⟨fun pins s σ H Q I ⟨ρ,s',m,er,S,P⟩=>vC pins s σ H Q I (P.here S rfl)⟩
theorem sN (h:DT X CB E0 c t):DIfs X CB [c] t:=⟨DK h.pt⟩
def Mp.hide (m:Mp) (d:ae):Mp:=⟨m.ad,m.fp,d::m.hid⟩
def Mp.bare (m:Mp) (l:List ae):Mp:=⟨m.ad,m.fp,l⟩
theorem Ext0.hide {H:Hp}{m:Mp}{s:Sto}{d:ae}{o:HO} (hd:H d=none):Ext0 H m s (upd H d o) (m.hide d) s :=
 ⟨⟨aC _,fun _ _=>rfl,fun a u h p=>⟨h.same (My.pj hd),fun z=>(aj.mp z).elim (h.ne hd) p.1,p.2⟩,fun a u h _ _=>My.pj hd _ _ h⟩,fun j l _ h=>⟨h,fun o ho=>My.pj hd _ _ ho⟩⟩
theorem SR.hide {K:aa}{H:Hp}{m:Mp}{s:Sto}{d:ae}{xs:List V} (S:SR K CB H m s) (hd:H d=none):SR K CB (upd H d (.lst xs)) (m.hide d) s:=by
 have k:=My.pj (o:=.lst xs) hd
 have S1:=S.same k
 have e0:Ext0 H m s (upd H d (.lst xs)) (m.hide d) s:=Ext0.hide hd
 have hne:∀ n∈s.cs.map (·.1),∀ a∈m.fp n,a≠d:=fun n hn a ha z=>by
  obtain ⟨q,hq,rfl⟩:=am.mp hn
  obtain ⟨o,e,_⟩:=(S.ok q hq).kind ha
  rw [z,hd] at e;cases e
 refine ⟨S.nd,S.lt,fun q hq=>?_,S.dj,fun n hn a ha hb=>(aj.mp hb).elim (hne n hn a ha) (S.hx n hn a ha),fun a ha=>?_,fun P q t=>⟨ai _ (S1.tb P q t).1,(S1.tb P q t).2⟩⟩
 ·have:=S.ok q hq
  cases c:q.2 with
  | lst l=>rw [c] at this;obtain ⟨a1,vs,a2,a3⟩:=this;exact ⟨a1,vs,k _ _ a2,a3.ext0 e0.toExtR⟩
  | dct l=>rw [c] at this;obtain ⟨a1,vs,a2,a3⟩:=this;exact ⟨a1,vs,k _ _ a2,a3.ext0 e0.toExtR⟩
  | dfz l=>rw [c] at this;obtain ⟨a1,ob,vs,a2,a3⟩:=this;exact ⟨a1,ob,vs,k _ _ a2,a3.ext0 e0.toExtR⟩
  | obj C fs=>rw [c] at this;obtain ⟨a1,dx,vs,a2,a3,a4⟩:=this;exact ⟨a1,dx,vs,k _ _ a2,a3,a4.ext0 e0.toExtR⟩
  | book pp L =>
   have:=S1.ok q hq
   rw [c] at this
   exact this
 ·rcases aj.mp ha with rfl | ha
  ·rw [kD];exact ⟨by simp,fun _ _=>⟨by simp,by simp,by simp,by simp⟩⟩
  ·exact S1.hs a ha
theorem Ext0.redo {K:aa}{H:Hp}{m:Mp}{s:Sto}{d:ae}{o u0:HO} (S:SR K CB H m s) (hd:d∈m.hid) (hu:H d=some u0) (hno:¬ Odd u0):Ext0 H m s (upd H d o) m s:=by
 have ne:∀ a,Pur m s a→a≠d:=fun a p z=>p.1 (z ▸ hd)
 refine ⟨⟨aC _,fun _ _=>rfl,fun a u h p=>⟨?_,p⟩,fun a u h _ p=>by rw [kA (ne a p)];exact h⟩,fun j l _ h=>⟨h,fun o ho=>?_⟩⟩
 rotate_left
 ·obtain ⟨e1,_⟩:=S.ok _ (lx h)
  rw [kA (show m.ad j≠d from fun z=>S.hx j (am.mpr ⟨_,lx h,rfl⟩) (m.ad j) (by rw [e1];simp) (by rw [z];exact hd))];exact ho
 exact h.elim (fun h=>.inl (by rw [kA (ne a p)];exact h)) fun ⟨o,h⟩=>.inr ⟨o,by rw [kA (ne a p)];exact h⟩
theorem SR.redo {K:aa}{H:Hp}{m:Mp}{s:Sto}{d:ae}{xs ys:List V} (S:SR K CB H m s) (hd:d∈m.hid) (hl:H d=some (.lst xs)):SR K CB (upd H d (.lst ys)) m s:=by
 have e0:Ext0 H m s (upd H d (.lst ys)) m s:=Ext0.redo S hd hl wj
 have nt:∀ (t:ae) (us:List V),SqT K H t us→SqT K (upd H d (.lst ys)) t us:=fun t us h=>by
  rcases h with h | h
  ·refine .inl (e0.pu _ _ h ?_).1
   exact h.elim (fun h=>S.pure_tup h) fun ⟨_,h⟩=>S.pure_frz (.inl h)
  ·exact .inr h
 refine ⟨S.nd,S.lt,fun q hq=>?_,S.dj,S.hx,fun a ha=>?_,S.tbk (.upd hl wj)⟩
 ·have hn:q.1∈s.cs.map (·.1):=am.mpr ⟨q,hq,rfl⟩
  have kp:∀ a∈m.fp q.1,∀ o,H a=some o→upd H d (.lst ys) a=some o:=fun a ha o h=>by
   rw [kA (show a≠d from fun z=>S.hx _ hn a ha (by rw [z];exact hd))];exact h
  have:=S.ok q hq
  cases c:q.2 with
  | lst l=>rw [c] at this;obtain ⟨a1,vs,a2,a3⟩:=this;exact ⟨a1,vs,kp _ (by rw [a1];simp) _ a2,a3.ext0 e0.toExtR⟩
  | dct l=>rw [c] at this;obtain ⟨a1,vs,a2,a3⟩:=this;exact ⟨a1,vs,kp _ (by rw [a1];simp) _ a2,a3.ext0 e0.toExtR⟩
  | dfz l=>rw [c] at this;obtain ⟨a1,ob,vs,a2,a3⟩:=this;exact ⟨a1,ob,vs,kp _ (by rw [a1];simp) _ a2,a3.ext0 e0.toExtR⟩
  | obj C fs=>rw [c] at this;obtain ⟨a1,dx,vs,a2,a3,a4⟩:=this;exact ⟨a1,dx,vs,kp _ (by rw [a1];simp) _ a2,a3,a4.ext0 e0.toExtR⟩
  | book pp L =>
   rw [c] at this
   obtain ⟨z,L',B,e1,e2⟩:=this
   rw [e2] at kp
   have kb:∀ a∈My.BFp (m.ad q.1) z L',∀ o,H a=some o→upd H d (.lst ys) a=some o:=kp
   refine ⟨z,L',⟨kb _ (by simp [My.BFp]) _ B.ob,kb _ (by simp [My.BFp]) _ B.pp,kb _ (by simp [My.BFp]) _ B.tt,kb _ (by simp [My.BFp]) _ B.mm,kb _ (by simp [My.BFp]) _ B.ll,B.hh.keep (fun o h=>kb _ (by simp [My.BFp]) _ h),fun q' hq'=>?_,B.nd,B.p6,B.h8⟩,e1,e2⟩
   obtain ⟨ts,h1,h2,h3⟩:=B.he q' hq'
   refine ⟨ts,h1,kb _ ?_ _ h2,fun y hy=>nt _ _ (h3 y hy)⟩
   unfold My.BFp
   simp only [aj]
   right;right;right;right;right;right
   exact am.mpr ⟨q',hq',rfl⟩
 ·by_cases e:a=d
  ·subst e;rw [kD];exact ⟨by simp,fun _ _=>⟨by simp,by simp,by simp,by simp⟩⟩
  ·rw [kA e];exact S.hs a ha
theorem Ext0.show {H:Hp}{m:Mp}{s:Sto}{d:ae}{l:List ae} (hm:m.hid=d::l):Ext0 H m s H (m.bare l) s :=
 ⟨⟨aC _,fun _ _=>rfl,fun a u h p=>⟨h,fun z=>p.1 (by rw [hm];exact ai _ z),p.2⟩,fun a u h _ _=>h⟩,fun j l _ h=>⟨h,fun o h=>h⟩⟩
theorem SR.show {K:aa}{H:Hp}{m:Mp}{s:Sto}{d:ae}{l:List ae}{u0:HO} (S:SR K CB H m s) (hm:m.hid=d::l) (hu:H d=some u0) (hno:¬ Odd u0):SR K CB H (m.bare l) s:=by
 have e0:Ext0 H m s H (m.bare l) s:=Ext0.show hm
 refine ⟨S.nd,S.lt,fun q hq=>?_,S.dj,fun n hn a ha hb=>S.hx n hn a ha (by rw [hm];exact ai _ hb),fun a ha=>S.hs a (by rw [hm];exact ai _ ha),fun P q t=>⟨?_,(S.tb P q t).2⟩⟩
 rotate_left
 ·obtain ⟨h1,ps,h2,_⟩:=S.tb P q t
  rw [hm] at h1
  rcases aj.mp h1 with z | z
  ·rw [z,hu] at h2;cases h2;exact absurd (.inl ⟨_,rfl⟩) hno
  ·exact z
 have:=S.ok q hq
 cases c:q.2 with
 | lst l=>rw [c] at this;obtain ⟨a1,vs,a2,a3⟩:=this;exact ⟨a1,vs,a2,a3.ext0 e0.toExtR⟩
 | dct l=>rw [c] at this;obtain ⟨a1,vs,a2,a3⟩:=this;exact ⟨a1,vs,a2,a3.ext0 e0.toExtR⟩
 | dfz l=>rw [c] at this;obtain ⟨a1,ob,vs,a2,a3⟩:=this;exact ⟨a1,ob,vs,a2,a3.ext0 e0.toExtR⟩
 | obj C fs=>rw [c] at this;obtain ⟨a1,dx,vs,a2,a3,a4⟩:=this;exact ⟨a1,dx,vs,a2,a3,a4.ext0 e0.toExtR⟩
 | book pp L=>rw [c] at this;exact this
theorem ER.ext0 {K:aa}{H H':Hp}{m m':Mp}{s s':Sto}{σ:St}{ρ:En} (h:ER K H m s σ ρ) (e:ExtR H m s H' m' s'):ER K H' m' s' σ ρ :=
 ⟨h.len,fun i p q=>let ⟨u,a,b⟩:=h.at_ i p q;⟨u,a,b.ext0 e⟩⟩
structure Cmp (K:aa) (CB:ae) (D:ae) (H1:Hp) (m1:Mp) (s1:Sto) (cap:St) (ρ:En) (ys:List V) (done:List PV) (H2:Hp) (m2:Mp) (s2:Sto):Prop where
 hid:m2.hid=D::m1.hid
 at_:H2 D=some (.lst ys)
 sr:SR K CB H2 m2 s2
 er:ER K H2 m2 s2 cap ρ
 rs:Reps K H2 m2 s2 ys done
 ex:Ext H1 m1 s1 H2 (m2.bare m1.hid) s2
 e0:Ext0 H1 m1 s1 H2 m2 s2
theorem Cmp.start {K:aa}{D:ae}{H1:Hp}{m1:Mp}{s1:Sto}{cap:St}{ρ:En} (S:SR K CB H1 m1 s1) (er:ER K H1 m1 s1 cap ρ) (hD:H1 D=none):Cmp K CB D H1 m1 s1 cap ρ [] [] (upd H1 D (.lst [])) (m1.hide D) s1 :=
 ⟨rfl,kD,S.hide hD,er.ext0 (Ext0.hide hD).toExtR,.nil,Ext.same (My.pj hD),Ext0.hide hD⟩
theorem Ext.into {K:aa}{D:ae}{H1 H2 H5:Hp}{m1 m2 m5:Mp}{s1 s2 s5:Sto} (hid:m2.hid=D::m1.hid) (S2:SR K CB H2 m2 s2) (hD:H1 D=none) (a:Ext H1 m1 s1 H2 (m2.bare m1.hid) s2) (b:Ext H2 m2 s2 H5 m5 s5):Ext H1 m1 s1 H5 (m5.bare m1.hid) s5:=by
 have pr:∀ c u,Rd H1 c u→Pur m1 s1 c→Rd H2 c u∧Pur m2 s2 c:=fun c u h p=>by
  obtain ⟨h1,p1⟩:=a.pu c u h p
  refine ⟨h1,fun z=>?_,p1.2⟩
  rw [hid] at z
  exact (aj.mp z).elim (h.ne hD) p.1
 refine ⟨⟨⟨aN a.nx b.nx,fun n h=>(b.ad n (aA h a.nx)).trans (a.ad n h),fun c u h p=>?_,fun c u h n p=>?_⟩,fun j l hj h=>?_⟩,rfl,fun c hc o h n=>?_⟩
 ·obtain ⟨h1,p1⟩:=pr c u h p
  obtain ⟨h2,p2⟩:=b.pu c u h1 p1
  exact ⟨h2,p.1,p2.2⟩
 ·obtain ⟨_,p1⟩:=pr c _ (.inl h) p
  exact b.el c u (a.el c u h n p) n p1
 ·obtain ⟨h1,k1⟩:=a.df j l hj h
  obtain ⟨h2,k2⟩:=b.df j l (aA hj a.nx) h1
  have e:m2.ad j=m1.ad j:=a.ad j hj
  rw [e] at k2
  exact ⟨h2,fun o h=>k2 o (k1 o h)⟩
 ·exact b.hk c (by rw [hid];exact ai _ hc) o (a.hk c hc o h n) n
theorem Cmp.step {K:aa}{D:ae}{H1 H2 H5:Hp}{m1 m2 m5:Mp}{s1 s2 s5:Sto}{cap:St}{ρ:En}{ys:List V}{done:List PV} (C:Cmp K CB D H1 m1 s1 cap ρ ys done H2 m2 s2) (hD:H1 D=none) (b:Ext H2 m2 s2 H5 m5 s5) (S5:SR K CB H5 m5 s5):Cmp K CB D H1 m1 s1 cap ρ ys done H5 m5 s5 :=
 ⟨b.hd.trans C.hid,b.hk D (by rw [C.hid];exact ar) _ C.at_ (by intro _ z;cases z),S5,C.er.ext b,C.rs.ext b,Ext.into C.hid C.sr hD C.ex b,C.e0.trans b.toExt0⟩
theorem Cmp.push {K:aa}{D:ae}{H1 H2:Hp}{m1 m2:Mp}{s1 s2:Sto}{cap:St}{ρ:En}{ys:List V}{done:List PV}{v:V}{q:PV} (C:Cmp K CB D H1 m1 s1 cap ρ ys done H2 m2 s2) (hD:H1 D=none) (r:Rep K H2 m2 s2 v q):Cmp K CB D H1 m1 s1 cap ρ (ys++[v]) (done++[q]) (upd H2 D (.lst (ys++[v]))) m2 s2:=by
 have hm:D∈m2.hid:=by rw [C.hid];exact ar
 have e0:Ext0 H2 m2 s2 (upd H2 D (.lst (ys++[v]))) m2 s2:=Ext0.redo C.sr hm C.at_ wj
 refine ⟨C.hid,kD,C.sr.redo hm C.at_,C.er.ext0 e0.toExtR,(C.rs.append (.cons r .nil)).ext0 e0.toExtR,⟨⟨⟨C.ex.nx,C.ex.ad,fun c u h p=>?_,fun c u h n p=>?_⟩,fun j l hj h=>⟨(C.ex.df j l hj h).1,fun o ho=>?_⟩⟩,rfl,fun c hc o h n=>?_⟩,C.e0.trans e0⟩
 ·obtain ⟨h1,p1⟩:=C.ex.pu c u h p
  have ne:=h.ne hD
  exact ⟨h1.elim (fun h=>.inl (by rw [kA ne];exact h)) fun ⟨o,h⟩=>.inr ⟨o,by rw [kA ne];exact h⟩,p1⟩
 ·rw [kA (kH h hD)];exact C.ex.el c u h n p
 ·rw [kA (kH ho hD)];exact (C.ex.df j l hj h).2 o ho
 ·rw [kA (kH h hD)];exact C.ex.hk c hc o h n
theorem Cmp.done {K:aa}{D:ae}{H1 H2:Hp}{m1 m2:Mp}{s1 s2:Sto}{cap:St}{ρ:En}{ys:List V}{done:List PV} (C:Cmp K CB D H1 m1 s1 cap ρ ys done H2 m2 s2):SR K CB H2 (m2.bare m1.hid) s2∧(D∉m1.hid→Rep K H2 (m2.bare m1.hid) s2 (.ref D) (.lst done)):=by
 refine ⟨C.sr.show C.hid C.at_ wj,fun hn=>.lst C.at_ ⟨hn,fun n hh z=>C.sr.hx n hh D z (by rw [C.hid];exact ar)⟩ (C.rs.ext0 (Ext0.show C.hid).toExtR)⟩
theorem zI {σ:St}{H1:Hp}{m1:Mp}{s1:Sto}{ρ:En}{J:It}{l:List PV}{D:ae}{Q:VK}{t:XT} (S1:SR X.K CB H1 m1 s1) (er:ER X.K H1 m1 s1 σ ρ) (it:oQ X.K CB J l H1 m1 s1) (hD:H1 D=none) (hlen:l.length≤100000)
  (P:Post X.K CB (Rep X.K) E ((lX t f (lJ ix ρ) l s1).bind fun vs s2=>.ok (.lst vs) s2) H1 m1 s1 Q):AG J (TDT X.K CB E0 t) (TDE X.K CB E0 f) (capt ix σ) D H1 Q:=by
 refine ⟨fun i k ys H2=>∃ done m2 s2,Cmp X.K CB D H1 m1 s1 (capt ix σ) (lJ ix ρ) ys done H2 m2 s2∧i≤l.length∧ys.length≤i∧k=l.length - i∧(lX t f (lJ ix ρ) l s1).bind (fun vs s2=>.ok (PV.lst vs) s2)=(lX t f (lJ ix ρ) (l.drop i) s2).bind fun vs s2=>.ok (.lst (done++vs)) s2,⟨l.length,[],m1.hide D,s1,Cmp.start S1 (er.capt ix) hD,bA _,bA _,rfl,?_⟩,?_⟩
 ·simp
 rintro i k ys H2 ⟨done,m2,s2,C,hi,hy,rfl,eq⟩
 obtain ⟨it1,it2⟩:=it i H2 m2 s2 C.e0 C.sr
 by_cases hlt:i < l.length
 ·right
  have hq:l[i]?=some l[i]:=bB hlt
  obtain ⟨go,yl⟩:=it1 _ hq
  refine ⟨go,fun x H3 hyl=>?_⟩
  obtain ⟨e3,S3,r3⟩:=yl x H3 hyl
  have C3:=C.step hD e3 S3
  rw [fW hlt] at eq
  rw [eq] at P
  rw [mF] at P eq
  refine ⟨some l[i]::lJ ix ρ,s2,m2,C3.er.cons r3,S3,?_⟩
  cases ct:t (some l[i]::lJ ix ρ) s2 with
  | bad=>rw [ct] at P;exact P.elim
  | ex c3 s3=>rw [ct] at P;exact P.elim
  | ok bt s3 =>
   rw [ct] at P eq
   intro b4 H4 m4 e4 S4 hb
   subst hb
   have C4:=C3.step hD e4 S4
   cases b4 with
   | false =>
    exact F7 ⟨l.length - (i+1),by omega,done,m4,s3,C4,hlt,by omega,rfl,eq⟩
   | true =>
    refine F6 ⟨some l[i]::lJ ix ρ,s3,m4,C4.er.cons (r3.ext e4),S4,?_⟩
    dsimp only at P eq
    cases cf:f (some l[i]::lJ ix ρ) s3 with
    | bad=>rw [cf] at P;exact P.elim
    | ex c5 s5=>rw [cf] at P;exact P.elim
    | ok v s5 =>
     rw [cf] at eq
     intro w H5 m5 e5 S5 r5
     have C5:=C4.step hD e5 S5
     refine ⟨C5.at_,bi (aN hy (aN hi hlen)) (by decide),l.length - (i+1),by omega,done++[v],m5,s5,C5.push hD r5,hlt,by simp;omega,rfl,?_⟩
     rw [eq]
     dsimp only
     cases hh:lX t f (lJ ix ρ) (l.drop (i+1)) s5 with
     | ok vs s6=>simp [Out.bind]
     | ex c6 s6=>exact absurd hh sP
     | bad=>rfl
 ·left
  have hle:l.length≤i:=gA hlt
  rw [gD hle] at eq
  rw [eq] at P
  unfold lX at P
  obtain ⟨S2',rd⟩:=C.done
  refine ⟨it2 hle,C.at_,P (.ref D) H2 (m2.bare m1.hid) C.ex S2' ?_⟩
  rw [cg]
  exact rd fun z=>(S1.hs D z).1 hD
theorem Ay {σ:St}{H:Hp}{Q:VK}{t:XT} (q:TDE X.K CB E (md fi ix t f) σ H Q):CN (TDI X.K CB E fi) ix (TDT X.K CB E0 t) (TDE X.K CB E0 f) σ H Q:=by
 obtain ⟨ρ,s,m,er,S,P⟩:=q
 refine ⟨ρ,s,m,er,S,?_⟩
 unfold md at P
 cases c:fi ρ s with
 | bad=>rw [c] at P;exact P
 | ex c' s'=>rw [c] at P;exact P
 | ok l s1 =>
  rw [c] at P
  dsimp only [Out.bind] at P
  split at P
  ·rename_i hlen
   intro J H1 m1 e1 S1 it D hD
   exact zI S1 (er.ext e1) it hD hlen (Post.shift e1 P)
  ·exact P.elim
theorem ni (hc:X.calm=true) (S:CompOk X.N X.env.scope scope x fr ix) (hi:DI X CB E (.Name x px) iter fi)
  (ht:∀ cl C s₃ H₃ fp,DIfs (blk X scope cl C (x::fr) s₃ H₃ fp) CB ifs t) (he:∀ cl C s₃ H₃ fp,DE (blk X scope cl C (x::fr) s₃ H₃ fp) CB E0 elt f)
  (hs:∀ v,di iter X.env v=pure v:=by intro _;rfl):DE X CB E (.ListComp elt [⟨.Name x px,iter,ifs,0⟩] scope pos) (md fi ix t f) :=
 ⟨(uS hc S hi.pi (fun cl C s₃ H₃ fp=>(ht cl C s₃ H₃ fp).pifs) (fun cl C s₃ H₃ fp=>(he cl C s₃ H₃ fp).pe) hs).mono fun σ H Q q=>Ay q⟩
end
abbrev XF:=List PV→Sto→Out PV
def spD (K:aa) (CB:ae) (n:Nat) (D:XF):Sp:=fun vs H Q E=>vs.length=n∧∃ ps s m,Reps K H m s vs ps∧SR K CB H m s∧Post K CB (Rep K) E (D ps s) H m s Q
def xCall (n:Nat) (D:XF) (fa:XA) (ρ:En) (s:Sto):Out PV:=(fa ρ s).bind fun vs s1=>if vs.length=n then D vs s1 else .bad
def fnD (N:Nat) (g:XS) (vs:List PV) (s:Sto):Out PV:=match g (vs.map some++aY (N - vs.length) none) s with
 | .nx _ s'=>.ok .non s'
 | .rt v s'=>.ok v s'
 | .ex c s'=>.ex c s'
 | _=>.bad
section
variable {X:Cx}{CB:ae}{E:XK}{a b c e elt iter tg:bh}{es ifs:List bh}{f g h:XE}{fa fi:XA}{t:XT}{p px py pos pos' apos cpos:Pos}{x y:Str}{st:bM}{lK sts sts':List bM}{u v:XS}{scope:du}{fr:List Str}{ix:List Nat}{n k:Nat}{D:XF}{ps:List Str}
theorem k6 (F:Fn X.prog X.w X.K X.mg X.base x k ps (spD X.K CB n D)) (hr:Room k X.A) (hg:Gl X x) (hx:mJ (CXo X.prog X.w) X E) (ha:DA X CB E (e::es) fa) (hdb:(x == ("__debug__":Str))=false:=by decide)
  (he:aK (e::es) X.env=(false,eval e X.env)::aK es X.env:=by rfl) (hpl:(cj pos (aK es X.env)).any (·.1)=false:=by rfl):DE X CB E (.Call (.Name x p) (e::es) [] pos) (xCall n D fa) :=
 ⟨(sH F hr hg hx ha.pa hdb he hpl).mono fun σ H Q ⟨ρ,s,m,er,S,P⟩=>⟨ρ,s,m,er,S,P.bind fun v s1 u H1 m1 e1 S1 r1 P1=>by
  split at P1
  ·rename_i hl
   rw [cg]
   exact ⟨by rw [r1.length];exact hl,v,s1,m1,r1,S1,P1⟩
  ·exact P1.elim⟩⟩
def xBM (n:Nat) (D:XF) (f:XE) (fa:XA) (ρ:En) (s:Sto):Out PV:=(f ρ s).bind fun o s1=>match o with
 | .ref k=>match s1.get k with
  | some (.book _ _)=>(fa ρ s1).bind fun vs s2=>if vs.length+1=n then D (.ref k::vs) s2 else .bad
  | _=>.bad
 | _=>.bad
theorem pX {pl:Sem Bool}{m:Str} (ho:DE X CB E a f) (M:Mt X.prog X.w X.K X.mg X.base CB m k ps (spD X.K CB n D)) (hno:∀ z,(My.bf z).lookup m=none) (hr:Room k X.A) (hx:mJ (CXo X.prog X.w) X E) (ha:DA X CB E (e::es) fa)
  (hst:aK (e::es) X.env=(false,eval e X.env)::aK es X.env:=by rfl) (hpl:(cj pos (aK es X.env)).any (·.1)=false:=by rfl)
  (ht:eval (.Call (.Attribute a m apos) (e::es) [] pos) X.env=(do
   let ov ← eval a X.env
   gB apos.atName
   let (f,first) ← holding [ov] (gc ov m pl)
   iV pos f first (cj pos (aK (e::es) X.env)) (fu pos (dg [] X.env))):=by rfl):DE X CB E (.Call (.Attribute a m apos) (e::es) [] pos) (xBM n D f fa) :=
 ⟨(qg (pl:=pl) ho.pe M hr hx ha.pa hst hpl ht).mono fun σ H Q ⟨ρ,s,m,er,S,P⟩=>⟨ρ,s,m,er,S,P.bind fun v s1 u H1 m1 e1 S1 r1 P1=>by
  split at P1
  ·split at P1
   ·rename_i hg
    obtain ⟨z,L',B,_,_⟩:=S1.get hg
    cases r1 with
    | ref hn =>
    refine ⟨_,_,_,rfl,B.ob,hno z,ρ,s1,m1,er.ext e1,S1,P1.bind fun vs s2 us H2 m2 e2 S2 r2 P2=>?_⟩
    split at P2
    ·rename_i hl
     rw [cg]
     refine ⟨by rw [ap,r2.length];exact hl,_,s2,m2,.cons ?_ r2,S2,P2⟩
     exact (Rep.ref hn).ext e2
    ·exact P2.elim
   ·exact P1.elim
  ·exact P1.elim⟩⟩
theorem uv {pl:Sem Bool}{m:Str} (ho:DE X CB E a f) (M:Mt X.prog X.w X.K X.mg X.base CB m k ps (spD X.K CB n D)) (hno:∀ z,(My.bf z).lookup m=none) (hr:Room k X.A) (hx:mJ (CXo X.prog X.w) X E)
  (ht:eval (.Call (.Attribute a m apos) [] [] pos) X.env=(do
   let ov ← eval a X.env
   gB apos.atName
   let (f,first) ← holding [ov] (gc ov m pl)
   iV pos f first (cj pos (aK [] X.env)) (fu pos (dg [] X.env))):=by rfl):DE X CB E (.Call (.Attribute a m apos) [] [] pos) (xBM n D f xNil) :=
 ⟨(HE (pl:=pl) ho.pe M hr hx ht).mono fun σ H Q ⟨ρ,s,m,er,S,P⟩=>⟨ρ,s,m,er,S,P.bind fun v s1 u H1 m1 e1 S1 r1 P1=>by
  split at P1
  ·split at P1
   ·rename_i hg
    obtain ⟨z,L',B,_,_⟩:=S1.get hg
    cases r1 with
    | ref hn =>
    refine ⟨_,_,_,rfl,B.ob,hno z,?_⟩
    simp only [xNil,Out.bind] at P1
    split at P1
    ·rename_i hl
     exact ⟨hl,_,s1,m1,.cons (.ref hn) .nil,S1,P1⟩
    ·exact P1.elim
   ·exact P1.elim
  ·exact P1.elim⟩⟩
def xBook (_:En) (s:Sto):Out PV:=.ok (.ref s.nx) (s.add (.book [] []))
def AI (K:aa) (C:ae):Sp:=fun vs H Q _=>∃ (p dx:ae),vs=[.ref p]∧H p=some (.ins C dx [])∧∀ z H',(∀ c∈[z.dp,z.dt,z.dm,z.dl,z.dh],H c=none)→My.BookAt K C H' p z [] []→(∀ c o,H c=some o→c≠p→H' c=some o)→Q .non H'
theorem Gs (M:MkB X.prog X.w X.K X.mg X.base x CB k ps (AI X.K CB)) (hr:Room (k+1) X.A) (hg:Gl X x) (hx:mJ (CXo X.prog X.w) X E) (hdb:(x == ("__debug__":Str))=false:=by decide):DE X CB E (.Call (.Name x p) [] [] pos) xBook :=
 ⟨(HG M hr hg hx hdb).mono fun σ H Q ⟨ρ,s,m,er,S,P⟩ b dx hb hdx hne=>by
  refine ⟨b,dx,rfl,kD,fun z H' hz B kp=>⟨rfl,?_⟩⟩
  have hk:Same H H':=fun c o h=>by
   have h1:c≠b:=kH h hb
   have h2:c≠dx:=kH h hdx
   exact kp c o (by rw [kA h1,kA h2];exact h) h1
  have hzn:∀ c∈[z.dp,z.dt,z.dm,z.dl,z.dh],H c=none:=fun c hc=>by
   have h:=hz c hc
   have n1:c≠b:=fun e=>by rw [e,kD] at h;cases h
   have n2:c≠dx:=fun e=>by rw [kA n1,e,kD] at h;cases h
   rw [kA n1,kA n2] at h;exact h
  obtain ⟨S2,e2⟩:=S.add (c:=.book [] []) H' b (My.BFp b z []) hk (fun a ha=>by
   unfold My.BFp at ha
   rcases aj.mp ha with rfl | ha
   ·exact hb
   ·exact hzn a (by simpa using ha)) fun ex=>by
    refine ⟨z,[],?_,rfl,?_⟩
    ·rw [Mp.add_ad];exact B
    ·rw [Mp.add_ad];show (if s.nx=s.nx then _ else _)=_;rw [if_pos rfl]
  exact P _ _ _ e2 S2 .new⟩
theorem mS {P:aV}{w:bz}{K:aa}{mg:Str→Option af}{base:bK}{qual:Str}{fa:ae}{fd:bR}{N:List Str} (F:Fun K x qual st fa fd) (S:FnScope N ps (kC st)) (hps:ps.length=n)
  (hb:∀ (cdv:af) (A:bH) (outer:List Env) (s:al) (H:Hp) (E:XK),Room k (A.deeper (dY qual (kC st) s.heap.objs.size fa cdv))→DSs (xr (CXo P w) P w K mg base N qual (kC st) fa cdv A outer s H E) CB E (ng st) u) :
  FnOk P w K mg base (CXo P w) (k+1) fa fd ps (spD K CB n (fnD N.length u)):=by
 refine F.okX S (fun vs H Q E h=>by rw [hps];exact h.1) (fun cdv A outer s H vs Q E hr h=>?_)
 obtain ⟨hl,ps',s',m,r,S',P'⟩:=h
 refine ⟨_,(hb cdv A outer s H E hr).pss,ps'.map some++aY (N.length - ps'.length) none,s',m,?_,S',?_⟩
 ·unfold start
  rw [r.length]
  exact ER.start r _
 ·unfold fnD at P'
  cases cc:u (ps'.map some++aY (N.length - ps'.length) none) s' with
  | nx ρ1 s1=>rw [cc] at P';exact fun σ' H' m' x S1 er=>P' .non H' m' x S1 .non
  | rt v1 s1=>rw [cc] at P';exact fun u' H' m' x S1 r1=>P' u' H' m' x S1 r1
  | ex c1 s1=>rw [cc] at P';exact P'
  | bk=>rw [cc] at P';exact P'.elim
  | ct=>rw [cc] at P';exact P'.elim
  | bad=>rw [cc] at P';exact P'.elim
open Classical in
def Sto.only (s:Sto) (n:Nat):Sto:=⟨s.nx,s.cs.filter fun q=>decide (q.1 < n)⟩
def xOnly (f:XE) (ρ:En) (s:Sto):Out PV:=(f ρ s).bind fun v s1=>.ok v (s1.only s.nx)
def frz1 (v:PV) (s:Sto):Out PV:=match v with
 | .ref n=>match s.get n with
  | some (.lst l)=>.ok (.lst l) (s.del n)
  | some (.dct l)=>.ok (.dct l) (s.del n)
  | _=>.bad
 | _=>.bad
def xFrz (f:XE) (ρ:En) (s:Sto):Out PV:=(f ρ s).bind frz1
theorem SR.frz {K:aa}{H:Hp}{m:Mp}{s s':Sto}{x:V}{v w:PV} (S:SR K CB H m s) (r:Rep K H m s x v) (e:frz1 v s=.ok w s'):SR K CB H m s'∧Ext H m s H m s'∧Rep K H m s' x w:=by
 unfold frz1 at e
 split at e
 ·rename_i n
  have pu:∀ c,s.get n=some c→m.fp n=[m.ad n]→Pur m (s.del n) (m.ad n):=fun c hg e1=>by
   have hin:n∈s.cs.map (·.1):=am.mpr ⟨_,lx hg,rfl⟩
   refine ⟨S.hx n hin _ (by rw [e1];simp),fun j hj z=>?_⟩
   obtain ⟨q,hq,rfl⟩:=am.mp hj
   have hne:=Bk S.nd hq
   exact S.dj n hin q.1 (am.mpr ⟨q,qN hq,rfl⟩) (fun z=>hne z.symm) _ (by rw [e1];simp) z
  split at e
  ·rename_i l hg
   cases e
   cases r
   obtain ⟨e1,vs,h1,h2⟩:=S.get hg
   have hnd:∀ l,s.get n≠some (.dfz l):=fun l z=>by rw [hg] at z;cases z
   exact ⟨(S.del n hnd).1,(S.del n hnd).2,.lst h1 (pu _ hg e1) (h2.ext (S.del n hnd).2)⟩
  ·rename_i l hg
   cases e
   cases r
   obtain ⟨e1,vs,h1,h2⟩:=S.get hg
   have hnd:∀ l,s.get n≠some (.dfz l):=fun l z=>by rw [hg] at z;cases z
   exact ⟨(S.del n hnd).1,(S.del n hnd).2,.dct (.inl h1) (pu _ hg e1) (h2.ext (S.del n hnd).2)⟩
  ·cases e
 ·cases e
theorem IB (h:DE X CB E e f):DE X CB E e (xFrz f):=⟨h.pe.mono fun σ H Q ⟨ρ,s,m,er,S,P⟩=>⟨ρ,s,m,er,S,P.bind fun v s1 u H1 m1 e1 S1 r1 P1=>by
 cases cc:frz1 v s1 with
 | ok w s2 =>
  rw [cc] at P1
  obtain ⟨S2,e2,r2⟩:=S1.frz r1 cc
  exact P1 u H1 m1 e2 S2 r2
 | ex c' s' =>
  exfalso
  unfold frz1 at cc
  split at cc
  ·split at cc <;> cases cc
  ·cases cc
 | bad=>rw [cc] at P1;exact P1.elim⟩⟩
theorem FI {tt:TE} (h:PE X e tt):PE X e (fun σ H Q=>∃ d kvs0,H d=some (.dK kvs0)∧tt σ H (fun v H'=>∃ ob kvs,H' d=some (.frz ob (.dK kvs))∧Q v (upd H' d (.dK kvs)))):=by
 intro pins s σ H Q I ⟨d,kvs0,hd,q⟩
 have n3:∀ o v,X.H₀ d≠some (.frz o v):=fun o v z=>by rw [I.base.frzs d o v z] at hd;cases hd
 refine thn (h pins s σ H _ I q) fun u s1 ⟨v,H1,I1,r1,ob,kvs,e1,q1⟩=>?_
 exact ⟨v,_,I1.thaw e1 n3,r1,q1⟩
theorem SR.freezeC {K:aa}{H:Hp}{m:Mp}{s:Sto}{n:Nat}{l:List (Key×PV)} (S:SR K CB H m s) (hg:s.get n=some (.dct l)):∃ vs,H (m.ad n)=some (.dK vs)∧∀ ob,∃ m',m'.ad=m.ad∧SR K CB (upd H (m.ad n) (.frz ob (.dK vs))) m' (s.set n (.dfz l))∧Ext H m s (upd H (m.ad n) (.frz ob (.dK vs))) m' (s.set n (.dfz l))∧RepKs K (upd H (m.ad n) (.frz ob (.dK vs))) m' (s.set n (.dfz l)) vs l:=by
 obtain ⟨e1,vs,h1,r1⟩:=S.get hg
 refine ⟨vs,h1,fun ob=>⟨m.fput n [m.ad n],rfl,?_⟩⟩
 have:=S.put (c':=.dfz l) hg (by intro _ z;cases z) (upd H (m.ad n) (.frz ob (.dK vs))) [m.ad n] (fun a o h ha=>by
  rw [e1,ay] at ha
  rw [kA ha];exact h) (fun a ha=>.inl (by rw [e1];exact ha)) fun ex=>⟨by show (if n=n then [m.ad n] else m.fp n)=_;rw [if_pos rfl];rfl,ob,vs,kD,r1.ext0 ex⟩
 exact ⟨this.1,this.2,r1.ext this.2⟩
theorem ExtR.trans {H H1 H2:Hp}{m m1 m2:Mp}{s s1 s2:Sto} (a:ExtR H m s H1 m1 s1) (b:ExtR H1 m1 s1 H2 m2 s2):ExtR H m s H2 m2 s2 :=
 ⟨aN a.nx b.nx,fun n h=>(b.ad n (aA h a.nx)).trans (a.ad n h),fun c u h p=>let ⟨h1,p1⟩:=a.pu c u h p;b.pu c u h1 p1,fun c x h n p=>b.el c x (a.el c x h n p) n (a.pu c _ (.inl h) p).2⟩
theorem SR.thawC {K:aa}{H H1:Hp}{m m1:Mp}{s s1:Sto}{n:Nat}{l:List (Key×PV)} (h0:∀ l,s.get n≠some (.dfz l)) (hn:n < s.nx) (e:Ext H m s H1 m1 s1) (S:SR K CB H1 m1 s1) (hg:s1.get n=some (.dfz l)) :
  ∃ ob vs,H1 (m.ad n)=some (.frz ob (.dK vs))∧∃ m2,SR K CB (upd H1 (m.ad n) (.dK vs)) m2 (s1.set n (.dct l))∧Ext H m s (upd H1 (m.ad n) (.dK vs)) m2 (s1.set n (.dct l))∧ExtR H1 m1 s1 (upd H1 (m.ad n) (.dK vs)) m2 (s1.set n (.dct l)):=by
 have ea:m1.ad n=m.ad n:=e.ad n hn
 have hin:n∈s1.cs.map (·.1):=am.mpr ⟨_,lx hg,rfl⟩
 obtain ⟨e1,ob,vs,h1,r1⟩:=S.get hg
 rw [ea] at e1 h1
 refine ⟨ob,vs,h1,m1.fput n [m.ad n],?_⟩
 obtain ⟨S2,x2,_⟩:=S.put' (c':=.dct l) hg (upd H1 (m.ad n) (.dK vs)) [m.ad n] (fun a o h ha=>by
  rw [e1,ay] at ha
  rw [kA ha];exact h) (fun a ha=>.inl (by rw [e1];exact ha)) fun ex=>⟨by show (if n=n then [m.ad n] else m1.fp n)=[m1.ad n];rw [if_pos rfl,ea],vs,by show upd H1 (m.ad n) (.dK vs) (m1.ad n)=_;rw [ea];exact kD,r1.ext0 ex⟩
 refine ⟨S2,⟨⟨e.toExtR.trans x2,fun j l' hj h=>?_⟩,e.hd,fun a ha o h n0=>?_⟩,x2⟩
 ·have hjn:j≠n:=fun z=>h0 l' (by rw [← z];exact h)
  obtain ⟨g1,g2⟩:=e.df j l' hj h
  refine ⟨(qA hjn).trans g1,fun o ho=>?_⟩
  obtain ⟨e3,_⟩:=S.ok _ (lx g1)
  have hne:m.ad j≠m.ad n:=fun z=>S.dj j (am.mpr ⟨_,lx g1,rfl⟩) n hin hjn (m1.ad j) (by rw [e3];simp) (by rw [e1,e.ad j hj,z];simp)
  rw [kA hne];exact g2 o ho
 ·have ha':a∈m1.hid:=by rw [e.hd];exact ha
  have hne:a≠m.ad n:=fun z=>S.hx n hin a (by rw [e1,z];simp) ha'
  rw [kA hne];exact e.hk a ha o h n0
def thw (n:Nat) (s:Sto):Option Sto:=match s.get n with
 | some (.dfz l)=>some (s.set n (.dct l))
 | _=>none
def vK (j:Nat) (ix:List Nat) (c:XT) (e:XE) (ρ:En) (s:Sto):Out PV:=match ρ[j]? with
 | some (some (.ref n))=>match s.get n with
  | some (.dct l)=>if l.length≤100000 then (lX c e (lJ ix ρ) (l.map fun kv=>Bd kv.1) (s.set n (.dfz l))).bind fun vs s2=>match thw n s2 with
    | some s3=>.ok (.lst vs) s3
    | none=>.bad
   else .bad
  | _=>.bad
 | _=>.bad
theorem xY {s:Sto}{n:Nat}{c c':Cell} (h:s.get n=some c):(s.set n c').get n=some c':=by
 have:∀ {l:List (Nat×Cell)},lL l n=some c→lL (mE n c' l) n=some c':=by
  intro l
  induction l with
  | nil=>intro h;cases h
  | cons q r ih =>
   intro h
   obtain ⟨k,d⟩:=q
   unfold mE
   split
   ·unfold lL;rw [if_pos rfl]
   ·rename_i hk
    unfold lL at h ⊢
    rw [if_neg hk] at h ⊢
    exact ih h
 exact this h
theorem iterC {K:aa}{H1:Hp}{m1:Mp}{s1:Sto}{n:Nat}{ob:Obj}{vs:List (Key×V)}{l:List (Key×PV)} (S1:SR K CB H1 m1 s1) (hg:s1.get n=some (.dfz l)) {d:ae} (ea:m1.ad n=d) (h1:H1 d=some (.frz ob (.dK vs))) (r:RepKs K H1 m1 s1 vs l):oQ K CB (Itd d ob vs) (l.map fun kv=>Bd kv.1) H1 m1 s1 :=
 iterD (fun H m s ex S=>by
  have:=(ex.df n l (S1.getlt hg) hg).2
  rw [ea] at this
  exact this _ h1) r
theorem Em (j:Nat) (hc:X.calm=true) (hN:X.N[j]?=some y) (hv:Vis X.env.scope y) (S:CompOk X.N X.env.scope scope x fr ix)
  (ht:∀ cl C s₃ H₃ fp,DIfs (blk X scope cl C (x::fr) s₃ H₃ fp) CB ifs t) (he:∀ cl C s₃ H₃ fp,DE (blk X scope cl C (x::fr) s₃ H₃ fp) CB E0 elt f)
  (hs:∀ v,di (.Name y py) X.env v=pure v:=by intro _;rfl) (hd:(y == ("__debug__":Str))=false:=by decide) (hcd:(y == ("__classdict__":Str))=false:=by decide):DE X CB E (.ListComp elt [⟨.Name x px,.Name y py,ifs,0⟩] scope pos) (vK j ix t f) :=
 ⟨(FI (uS hc S (FH (yt hN hv hd hcd)) (fun cl C s₃ H₃ fp=>(ht cl C s₃ H₃ fp).pifs) (fun cl C s₃ H₃ fp=>(he cl C s₃ H₃ fp).pe) hs)).mono fun σ H Q ⟨ρ,s,m,er,S,P⟩=>by
  unfold vK at P
  split at P
  ·rename_i n hρ
   split at P
   ·rename_i l hg
    split at P
    ·rename_i hlen
     obtain ⟨u,hu,ru⟩:=er.at_ j _ hρ
     cases ru with
     | ref hn =>
     obtain ⟨vs,h1,hf⟩:=S.freezeC hg
     refine ⟨m.ad n,vs,h1,_,hu,m.ad n,vs,rfl,.inl ⟨h1,fun ob D hD=>?_⟩⟩
     obtain ⟨m1,ea,S1,e1,r1⟩:=hf ob
     have hg1:(s.set n (.dfz l)).get n=some (.dfz l):=xY hg
     have ea':m1.ad n=m.ad n:=by rw [ea]
     refine zI (E:=E0) (t:=t) (f:=f) S1 (er.ext e1) (iterC S1 hg1 ea' kD r1) hD (by simpa using hlen) ?_
     cases cc:lX t f (lJ ix ρ) (l.map fun kv=>Bd kv.1) (s.set n (.dfz l)) with
     | bad=>rw [cc] at P;exact P.elim
     | ex c' s'=>exact absurd cc sP
     | ok vs2 s2 =>
      rw [cc] at P
      intro u2 H2 m2 e2 S2 r2
      simp only [Out.bind] at P
      unfold thw at P
      split at P
      ·rename_i s3 h3
       split at h3 <;> cases h3
       rename_i l2 hg2
       obtain ⟨ob',vs',q1,m3,S3,e3,x3⟩:=SR.thawC (fun l' z=>by rw [hg] at z;cases z) hn (e1.trans e2) S2 hg2
       exact ⟨ob',vs',q1,P u2 _ m3 e3 S3 (r2.ext0 x3)⟩
      ·exact P.elim
    ·exact P.elim
   ·exact P.elim
  ·exact P.elim⟩
end
def erH (H:Hp) (d:ae):Hp:=fun b=>if b=d then none else H b
theorem qh {H:Hp}{a d:ae} (h:a≠d):erH H d a=H a:=by unfold erH;rw [if_neg h]
theorem zB {H:Hp}{d:ae}:erH H d d=none:=by unfold erH;rw [if_pos rfl]
section
variable {X:Cx}{CB:ae}{E:XK}{a b c e elt iter tg:bh}{es ifs:List bh}{f g h:XE}{fa fi:XA}{t:XT}{p px py pos pos' apos cpos:Pos}{x y:Str}{st:bM}{lK sts sts':List bM}{u v:XS}{n k:Nat}{D:XF}{ps:List Str}
theorem SR.hideD {K:aa}{H:Hp}{m:Mp}{s:Sto}{d:ae}{xs:List (Key×V)} (S:SR K CB H m s) (hd:H d=none):SR K CB (upd H d (.dK xs)) (m.hide d) s:=by
 have k:=My.pj (o:=.dK xs) hd
 have S1:=S.same k
 have e0:Ext0 H m s (upd H d (.dK xs)) (m.hide d) s:=Ext0.hide hd
 have hne:∀ n∈s.cs.map (·.1),∀ a∈m.fp n,a≠d:=fun n hn a ha z=>by
  obtain ⟨q,hq,rfl⟩:=am.mp hn
  obtain ⟨o,e,_⟩:=(S.ok q hq).kind ha
  rw [z,hd] at e;cases e
 refine ⟨S.nd,S.lt,fun q hq=>(S.ok q hq).keep S e0.toExtR (fun a _ o h=>k a o h) rfl rfl,S.dj,fun n hn a ha hb=>(aj.mp hb).elim (hne n hn a ha) (S.hx n hn a ha),fun a ha=>?_,fun P q t=>⟨ai _ (S1.tb P q t).1,(S1.tb P q t).2⟩⟩
 rcases aj.mp ha with rfl | ha
 ·rw [kD];exact ⟨by simp,fun _ _=>⟨by simp,by simp,by simp,by simp⟩⟩
 ·exact S1.hs a ha
theorem F8 {K:aa}{H H2:Hp}{m m2:Mp}{s s2:Sto}{d:ae}{xs:List (Key×V)} (S:SR K CB H m s) (hd:H d=none) (e:Ext (upd H d (.dK xs)) (m.hide d) s H2 m2 s2) (S2:SR K CB H2 m2 s2) :
  SR K CB (erH H2 d) (m2.bare m.hid) s2∧Ext H m s (erH H2 d) (m2.bare m.hid) s2∧ExtR H2 m2 s2 (erH H2 d) (m2.bare m.hid) s2∧H2 d=some (.dK xs):=by
 have hh:m2.hid=d::m.hid:=e.hd
 have hin:d∈m2.hid:=by rw [hh];exact ar
 have hD:H2 d=some (.dK xs):=e.hk d ar _ kD (by intro _ z;cases z)
 have tbE:TbS H2 (erH H2 d):=.of fun a o h od=>by
  rw [qh (show a≠d from fun z=>by rw [z,hD] at h;cases h;exact Fa od)];exact h
 have x2:ExtR H2 m2 s2 (erH H2 d) (m2.bare m.hid) s2:=by
  have ne:∀ a,Pur m2 s2 a→a≠d:=fun a p z=>p.1 (by rw [z];exact hin)
  refine ⟨aC _,fun _ _=>rfl,fun a u h p=>⟨?_,fun z=>p.1 (by rw [hh];exact ai _ z),p.2⟩,fun a u h _ p=>by rw [qh (ne a p)];exact h⟩
  exact h.elim (fun h=>.inl (by rw [qh (ne a p)];exact h)) fun ⟨o,h⟩=>.inr ⟨o,by rw [qh (ne a p)];exact h⟩
 have fne:∀ n∈s2.cs.map (·.1),∀ a∈m2.fp n,a≠d:=fun n hn a ha z=>S2.hx n hn a ha (by rw [z];exact hin)
 have dn:d∉m.hid:=fun z=>(S.hs d z).1 hd
 have h2:∀ a∈m.hid,a≠d:=fun a ha z=>dn (by rw [← z];exact ha)
 refine ⟨⟨S2.nd,S2.lt,fun q hq=>(S2.ok q hq).keep S2 x2 (fun a ha o h=>by rw [qh (fne q.1 (am.mpr ⟨q,hq,rfl⟩) a ha)];exact h) rfl rfl,S2.dj,fun n hn a ha hb=>S2.hx n hn a ha (by rw [hh];exact ai _ hb),fun a ha=>?_,fun P q t=>⟨?_,tbE.2 P q (S2.tb P q t).2⟩⟩,?_,x2,hD⟩
 ·rw [qh (h2 a ha)];exact S2.hs a (by rw [hh];exact ai _ ha)
 ·obtain ⟨h1,ps,h3,_⟩:=S2.tb P q t
  rw [hh] at h1
  rcases aj.mp h1 with z | z
  ·rw [z,hD] at h3;cases h3
  ·exact z
 ·have e1:=(Ext0.hide (m:=m) (s:=s) (o:=.dK xs) hd).trans e.toExt0
  refine ⟨⟨e1.toExtR.trans x2,fun j l hj h=>⟨(e1.df j l hj h).1,fun o ho=>?_⟩⟩,rfl,fun a ha o h n0=>?_⟩
  ·rw [qh (kH ho hd)];exact (e1.df j l hj h).2 o ho
  ·rw [qh (h2 a ha)];exact e.hk a (ai _ ha) o (My.pj hd _ _ h) n0
def xDisp (f g:XE) (ρ:En) (s:Sto):Out PV:=match f ρ s with
 | .ok v s1=>match g ρ s1 with
  | .ok w s2=>match kyOf v with
   | some k=>.ok (.ref s2.nx) (s2.add (.dct [(k,w)]))
   | none=>.bad
  | _=>.bad
 | _=>.bad
theorem Gq (hk:DE X CB E a f) (hv:DE X CB E b g):DE X CB E (.Dict [some a] [b] pos) (xDisp f g) :=
 ⟨(A9 (zk hk.pe hv.pe A7) rfl rfl (by simp) (by simp)).mono fun σ H Q ⟨ρ,s,m,er,S,P⟩ p0 hp=>by
  have e0:Ext0 H m s (upd H p0 (.dK [])) (m.hide p0) s:=Ext0.hide hp
  have hm:SR X.K CB (upd H p0 (.dK [])) (m.hide p0) s:=S.hideD hp
  refine ⟨ρ,s,m.hide p0,er.ext0 e0.toExtR,hm,?_⟩
  unfold xDisp at P
  cases c1:f ρ s with
  | bad=>rw [c1] at P;exact P.elim
  | ex c' s'=>rw [c1] at P;exact P.elim
  | ok v s1 =>
   rw [c1] at P
   intro u1 H1 m1 e1 S1 r1
   refine ⟨ρ,s1,m1,(er.ext0 e0.toExtR).ext e1,S1,?_⟩
   dsimp only at P
   cases c2:g ρ s1 with
   | bad=>rw [c2] at P;exact P.elim
   | ex c' s'=>rw [c2] at P;exact P.elim
   | ok w s2 =>
    rw [c2] at P
    intro u2 H2 m2 e2 S2 r2
    dsimp only at P
    split at P
    ·rename_i k hk
     obtain ⟨S3,e3,x3,hD⟩:=F8 S hp (e1.trans e2) S2
     have ek:u1=kV k:=qL r1 hk
     refine ⟨hD,[(k,u2)],by rw [ek];rfl,by simp,?_⟩
     have hk':Same (erH H2 p0) (upd H2 p0 (.dK [(k,u2)])):=fun c o h=>by
      have hne:c≠p0:=fun z=>by rw [z,zB] at h;cases h
      rw [kA hne];rw [qh hne] at h;exact h
     obtain ⟨S4,e4⟩:=S3.newD (l:=[(k,w)]) zB hk' kD (.cons (r2.ext0 x3) .nil)
     exact P _ _ _ (e3.trans e4) S4 .new
    ·exact P.elim⟩
def xIfe (t:XT) (f g:XE) (ρ:En) (s:Sto):Out PV:=(t ρ s).bind fun b s1=>if b=true then f ρ s1 else g ρ s1
inductive Ty5 where
 | int | bool | str | tuple | list
inductive Ty7 where
 | int | bool | str | tuple | list | non | dict
def kitT:Ty7→Ty5→Bool
 | .int,.int=>true | .bool,.bool=>true | .bool,.int=>true | .str,.str=>true | .tuple,.tuple=>true | .list,.list=>true
 | _,_=>false
def tyOf (s:Sto):PV→Option Ty7
 | .int _=>some .int
 | .bl _=>some .bool
 | .str _=>some .str
 | .non=>some .non
 | .tup _=>some .tuple
 | v=>match lsOf s v with
  | some _=>some .list
  | none=>none
def xIsiT (T:Ty5) (f:XE) (ρ:En) (s:Sto):Out PV:=(f ρ s).bind fun v s1=>match tyOf s1 v with
 | some k=>.ok (.bl (kitT k T)) s1
 | none=>.bad
def oY:List (Key×PV)→Sto→Option (List (Key×PV)×Sto)
 | [],s=>some ([],s)
 | (k,v)::r,s=>match frz1 v s with
  | .ok w s1=>match oY r s1 with
   | some (r',s2)=>some ((k,w)::r',s2)
   | none=>none
  | _=>none
def G1 (v:PV) (s:Sto):Out PV:=match frz1 v s with
 | .ok (.dct l) s1=>match oY l s1 with
  | some (l',s2)=>.ok (.dct l') s2
  | none=>.bad
 | _=>.bad
def E5 (f:XE) (ρ:En) (s:Sto):Out PV:=(f ρ s).bind G1
theorem zx {K:aa}{H:Hp}{m:Mp}:∀ {l l':List (Key×PV)}{vs:List (Key×V)}{s s':Sto},SR K CB H m s→RepKs K H m s vs l→oY l s=some (l',s')→SR K CB H m s'∧Ext H m s H m s'∧RepKs K H m s' vs l'
 | [],_,_,_,_,S,r,e=>by cases e;cases r;exact ⟨S,.refl,.nil⟩
 | (k,v)::l,l',_,s,s',S,.cons r1 r2,e=>by
  unfold oY at e
  split at e
  ·rename_i w s1 h1
   split at e
   ·rename_i r' s2 h2
    cases e
    obtain ⟨S1,x1,q1⟩:=S.frz r1 h1
    obtain ⟨S2,x2,q2⟩:=zx S1 (r2.ext x1) h2
    exact ⟨S2,x1.trans x2,.cons (q1.ext x2) q2⟩
   ·cases e
  ·cases e
theorem Gp (h:DE X CB E e f):DE X CB E e (E5 f):=⟨h.pe.mono fun σ H Q ⟨ρ,s,m,er,S,P⟩=>⟨ρ,s,m,er,S,P.bind fun v s1 u H1 m1 e1 S1 r1 P1=>by
 unfold G1 at P1
 split at P1
 ·rename_i l s2 h2
  obtain ⟨S2,x2,r2⟩:=S1.frz r1 h2
  split at P1
  ·rename_i l' s3 h3
   cases r2 with
   | dct g1 g2 g3 =>
    obtain ⟨S3,x3,r3⟩:=zx S2 g3 h3
    exact P1 _ H1 m1 (x2.trans x3) S3 (.dct g1 (x3.pu _ _ g1 g2).2 r3)
  ·exact P1.elim
 ·exact P1.elim⟩⟩
end
def AC (σ:List Str) (k:Str):List Str:=if k∈σ then σ else σ++[k]
def sW (ss:List Str):List Str:=ss.foldl AC []
theorem BZ (ss:List Str) (x:Str):sW (ss++[x])=AC (sW ss) x:=by unfold sW;rw [List.foldl_append];rfl
theorem Eb {σ:List Str}{k x:Str}:x∈AC σ k ↔ x∈σ∨x=k:=by
 unfold AC
 split
 ·rename_i h
  exact ⟨.inl,fun z=>z.elim id fun e=>by rw [e];exact h⟩
 ·rw [aM,ay]
theorem zm:∀ (ss σ:List Str) (x:Str),x∈ss.foldl AC σ ↔ x∈σ∨x∈ss
 | [],σ,x=>by simp
 | y::r,σ,x=>by rw [gK,zm r,Eb,aj,or_assoc]
theorem mem_once {ss:List Str}{x:Str}:x∈sW ss ↔ x∈ss:=by unfold sW;rw [zm];simp
theorem DZ (ss:List Str):(sW ss).length≤ss.length:=by
 have:∀ (r σ:List Str),(r.foldl AC σ).length≤σ.length+r.length:=by
  intro r
  induction r with
  | nil=>intro σ;exact aC _
  | cons y r ih =>
   intro σ
   rw [gK]
   refine aN (ih _) ?_
   have:(AC σ y).length≤σ.length+1:=by unfold AC;split <;> simp
   rw [ap]
   omega
 have:=this ss []
 rw [aH,jP] at this
 exact this
section
variable {prog:aV}{w:bz}{A:bH}{R:jM→al→Prop}{I:ae}{fp wr:List ae}{G:Array jN→Array jN→Prop}{n:Nat}{P:Nat→af→Prop}{St:Nat→al→Prop}
theorem SetOf.moved {h h':bK}{T:ae}{S:Str→Bool}{c:Nat} (q:h.SetOf (strKind prog w) T S c) (k:∀ o,h.get? T=some o→h'.get? T=some o):h'.SetOf (strKind prog w) T S c:=by
 obtain ⟨o,es,ep,t,ho,r⟩:=q
 exact ⟨o,es,ep,t,k o ho,r⟩
theorem Dg (W:WalksS prog w A.in1 I fp wr G n P St) {T:ae} (hT:T∉fp) {ss:List Str} (hn:ss.length=n) (hv:∀ i v,P i v→∃ t x,ss[i]?=some x∧v=.str x t) (hb:n+1 < gN) :
  ∀ (d i:Nat) (s:al),i+d=n→St i s→s.heap.SetOf (strKind prog w) T (fun k=>decide (k∈ss.take i)) (sW (ss.take i)).length →
   (∀ s',Moved (T::wr) G s s'→s'.heap.SetOf (strKind prog w) T (fun k=>decide (k∈ss)) (sW ss).length→R (.ok (.ret .none)) s')→ft (model prog w) A (.builtin "set.update.loop" ⟨[.ref T,.ref I],[]⟩) R s:=by
 have hw:T∉wr:=fun z=>hT (W.sub _ z)
 have up:∀ b∈wr,b∈T::wr:=fun b z=>ai _ z
 intro d
 induction d with
 | zero =>
  intro i s e st q hR
  have ei:i=ss.length:=by omega
  subst hn
  rw [ei] at st q
  rw [fj] at q
  refine gX jV ?_
  rw [jC gJ _];show ba _ _ (pyNext _ >>= _) _ _ _
  exact aB (W.done s _ _ st fun s' m=>aX (hR s' (m.mono up) (SetOf.moved q fun o=>m.heap T o hw)))
 | succ d ih =>
  intro i s e st q hR
  refine gX jV ?_
  rw [jC gJ _];show ba _ _ (pyNext _ >>= _) _ _ _
  refine aB (W.item i s _ _ (by omega) st fun v s1 p st1 m=>?_)
  obtain ⟨t,x,hx,rfl⟩:=hv i v p
  have q1:=SetOf.moved q fun o=>m.heap T o hw
  show ba _ _ (holding _ (setAdd T (.str x t)) >>= _) _ _ s1
  refine aB (dz ?_);unfold setAdd
  refine dz (aB ((strKind prog w).pyHash (k:=x) (strKind_is _ _ x t) ?_))
  have room:(sW (ss.take i)).length+1 < gN:=by
   have:=DZ (ss.take i)
   rw [ci] at this
   omega
  refine wpAny_setAddHashed_of (s:={ s1 with toks:=s1.toks+1 }) (strKind_is _ _ x t) rfl q1 room fun h2 sb q2=>?_
  have et:ss.take (i+1)=ss.take i++[x]:=by rw [dO,hx];rfl
  have q3:h2.SetOf (strKind prog w) T (fun k=>decide (k∈ss.take (i+1))) (sW (ss.take (i+1))).length:=by
   refine SetOf_congr q2 (fun k=>?_) ?_
   ·rw [et,← Bool.decide_or]
    exact decide_eq_decide.mpr (by rw [aM,ay])
   ·rw [et,BZ]
    unfold AC
    by_cases z:x∈ss.take i
    ·rw [if_pos (decide_eq_true z),if_pos (mem_once.mpr z)]
    ·rw [if_neg (by simpa using z),if_neg fun y=>z (mem_once.mp y)]
     simp
  refine aX ⟨plainId_quiet gJ _,ih (i+1) _ (by omega) (W.frame _ s1 _ _ st1 (eR _) fun b hb o z=>?_) q3 fun s3 m3 q4=>?_⟩
  ·rw [sb.2 b fun y:b=T=>hT (by rw [← y];exact hb)]
   exact z
  ·refine hR s3 (Moved.trans W.gtrans ((m.mono up).then_heap (eR _) fun b o hb z=>?_) m3) q4
   rw [sb.2 b fun y:b=T=>hb (by rw [y];exact ar)]
   exact z
end
section
variable {prog:aV}{w:bz}{A:bH}{E:af→al→Prop}{s:al}
abbrev rP (led:Bool):Obj:={ cls:=.type "set",dict:=none,data:=.set #[] 0 (.fresh 0 0 led) }
theorem Dj {l T:ae}{its:Array af}{ss:List Str}{led:Bool}{Q:af→al→Prop} (hh:A.handled=none) (hl:s.heap.IsList l its) (hv:∀ (i:Nat) (v:af),its[i]?=some v→∃ t x,ss[i]?=some x∧v=.str x t) (hz:ss.length=its.size) (hb:its.size+1 < gN)
  (hg:s.heap.get? T=some (rP led)) (ne:l≠T)
  (h:∀ (h':bK) (tk:Nat),h'.SetOf (strKind prog w) T (fun k=>decide (k∈ss)) (sW ss).length→(∀ b o,b≠T→s.heap.get? b=some o→h'.get? b=some o)→Q .none { s with heap:=h',toks:=tk }) :
  ft (model prog w) A (.call (.builtin "set.__init__") ⟨[.ref T,.ref l],[]⟩) (wants Q E) s:=by
 have hTy:Shared.TypeIs s (.ref T) "set":=⟨_,hg,rfl⟩
 refine ii cA.init.plain PySem.F.entry_set_init (check_set_init_1 hTy ?_)
 have hl0:=hl
 obtain ⟨⟨c,dk,da,sl⟩,ho,e1,nl,e2⟩:=hl0
 simp only at e1 e2
 subst e1 e2
 have a1:=PySem.F.sub_list_set
 have a2:=PySem.F.sub_list_frozenset
 have a3:(iW "list" == iW "dict")=false:=by decide
 unfold Builtin.«set.__init__» noKeywords Builtin.Frozenset.updateFrom
 generalize hI:pyIter=it
 wp_walk
 subst hI
 refine fm hl (aB (wpAny_runValue ?_))
 have ll:=aI ho
 have lT:=aI hg
 refine Dg (ss:=ss) (T:=T) ((j5 (by simp [hh]) _ l (aQ ll) its).toS) ?_ hz (fun i v p=>hv i v p) hb (its.size - 0) 0 _ (by omega) ⟨⟨_,bg _ rfl,rfl,rfl⟩,hl.push _⟩ ?_ fun s2 m2 q2=>?_
 ·simp only [aj,bX,or_false,not_or]
  exact ⟨aQ lT,fun z=>ne z.symm⟩
 ·have g2:=ax { cls:=.type "list_iterator",data:=.fields #[.ref l,.int 0 0] } hg
  exact SetOf_congr ((setObjOf_fresh (knd:=PySem.strKind prog w) led).setOf g2 (by unfold gN;omega)) (fun k=>by simp) (by rfl)
 ·obtain ⟨h2,g2,d2,t2,o2⟩:=s2
  have e1:g2=s.gens:=m2.gens
  have e2:d2=s.drawn:=m2.drawn
  have e3:o2=s.os:=m2.os
  subst e1 e2 e3
  refine aX (aX ?_)
  refine h h2 t2 q2 fun b o hb e=>m2.heap b o ?_ (ax _ e)
  simp only [aj,bX,or_false,not_or]
  exact ⟨hb,aQ (aI e)⟩
theorem Dh {l:ae}{its:Array af}{ss:List Str}{Q:af→al→Prop} (hh:A.handled=none) (hl:s.heap.IsList l its) (hv:∀ (i:Nat) (v:af),its[i]?=some v→∃ t x,ss[i]?=some x∧v=.str x t) (hz:ss.length=its.size) (hb:its.size+1 < gN)
  (h:∀ (T:ae) (h':bK) (tk:Nat),h'.SetOf (strKind prog w) T (fun k=>decide (k∈ss)) (sW ss).length→(∀ b o,s.heap.get? b=some o→h'.get? b=some o)→Q (.ref T) { s with heap:=h',toks:=tk }) :
  ba (model prog w) A (call (.type "set") [.ref l]) Q E s:=by
 have ll:l < s.heap.objs.size:=by obtain ⟨o,ho,_⟩:=hl;exact aI ho
 obtain ⟨mc,mt,hmro⟩:=cA.mro
 have z1:=cA.made
 have z2:=cA.sub
 have z3:=cA.notType
 have z4:=cA.canCreate
 have z5:=PySem.F.typeCall_set_1 (.ref l)
 refine iL (codeAny_of_tree ?_);show ba _ _ (callAny (.type "set") _) _ _ s
 refine aX ⟨kj _ (by decide +kernel),gX F.entry_type_call ?_⟩;rw [Around.under_plain (weight_type_call_type "set" [.ref l] []) rfl]
 repeat (any_goals (first | assumption | wp_step))
 refine eA (code_set_new_1 (.ref l) (E:=E) (Q₁:=fun v s1=>∃ led:Bool,v=.ref s.heap.objs.size∧s1={ s with heap:=s.heap.push (rP led) }) fun led=>⟨led,rfl,rfl⟩) fun r s1 hr=>?_
 cases r with
 | error e=>exact hr
 | ok fl=>cases fl with
  | ret v =>
   obtain ⟨led,rfl,rfl⟩:=hr
   have hg:(s.heap.push (rP led)).get? s.heap.objs.size=some (rP led):=bg _ rfl
   have hTy:Shared.TypeIs { s with heap:=s.heap.push (rP led) } (.ref s.heap.objs.size) "set":=⟨_,hg,rfl⟩
   have y1:=cA.init.lookup
   have y2:=cA.init.bind (.ref s.heap.objs.size)
   repeat (any_goals (first | assumption | wp_step))
   refine eA (Dj (E:=E) (s:={ s with heap:=s.heap.push (rP led) }) (Q:=fun v s2=>v=.none∧∃ h' tk,s2={ s with heap:=h',toks:=tk }∧h'.SetOf (strKind prog w) s.heap.objs.size (fun k=>decide (k∈ss)) (sW ss).length∧∀ b o,s.heap.get? b=some o→h'.get? b=some o)
    (by simp [hh]) (hl.push _) hv hz hb hg (aQ ll) fun h' tk q k=>⟨rfl,h',tk,rfl,q,fun b o e=>k b o (aQ (aI e)) (ax _ e)⟩) fun r2 s2 hr2=>?_
   cases r2 with
   | error e=>exact hr2
   | ok f2=>cases f2 with
    | ret v2 =>
     obtain ⟨rfl,h',tk,rfl,q,k⟩:=hr2
     repeat (any_goals (first | assumption | wp_step))
     exact h _ h' tk q k
    | _=>exact hr2.elim
  | _=>exact hr.elim
end
section
variable {X:Cx}{x y:Str}{p q pos pos2:Pos}{e:bh}{te:TE}
def Fp (K:aa) (te:TE):TE:=fun σ H Q=>te σ H fun v H1=>∃ p ss,v=.ref p∧SqL K H1 p (ss.map V.str)∧ss.length < 4000∧Q (.int (sW ss).length) H1
theorem BV (hc:X.calm=true) (ha:PE X e te) (gx:Gl X x) (mx:X.mg x=none) (bx:bJ x=some (.builtin "len")) (gy:Gl X y) (my:X.mg y=none) (by':bJ y=some (.type "set"))
  (nx:x≠"__name__":=by decide) (dx:(x == ("__debug__":Str))=false:=by decide) (ny:y≠"__name__":=by decide) (dy:(y == ("__debug__":Str))=false:=by decide)
  (he:aK [e] X.env=[(false,eval e X.env)]:=by rfl):PE X (.Call (.Name x p) [.Call (.Name y q) [e] [] pos2] [] pos) (Fp X.K te):=by
 intro pins s σ H Q I h
 refine cr (ur I gx mx bx ?_ nx dx)
 refine gS ?_ rfl rfl
 show ba _ _ (spliced ((false,eval (.Call (.Name y q) [e] [] pos2) X.env)::cj pos (aK [] X.env))) _ _ s
 refine dE ?_
 refine cr (ur I gy my by' ?_ ny dy)
 refine fg (thn (kJ (t:=CY) ha pa_nil he pos2 pins s σ H (fun vs H1=>match vs with
  | [v]=>∃ p ss,v=.ref p∧SqL X.K H1 p (ss.map V.str)∧ss.length < 4000∧Q (.int (sW ss).length) H1
  | _=>False) I h) fun us s1 ⟨vs,H1,I1,r1,q1⟩=>?_) he rfl
 match vs,r1,q1 with
 | [],_,q1=>exact q1.elim
 | _::_::_,_,q1=>exact q1.elim
 | [v],r1,q1 =>
  obtain ⟨l,ss,rfl,hq,hz,qq⟩:=q1
  obtain ⟨u,rfl,ru⟩:=oW r1
  cases ru
  obtain ⟨its,rv,pl,hz2⟩:=I1.list hq
  have hl:=rv.length
  rw [aq] at hl
  refine Dh (ss:=ss) (I1.ok.hd hc) pl.isList (fun i v hv=>?_) (by simpa using hl) ?_ fun T h' tk qs k=>?_
  ·have e1:its[i]?=some v:=by simpa using hv
   have hi:i < ss.length:=by rw [hl];exact (aZ.mp e1).1
   obtain ⟨u,e2,t,e3⟩:=Vals.get rv (i:=i) (x:=.str ss[i]) (by simp [hi])
   rw [e1] at e2
   cases e2
   exact ⟨t,ss[i],bB hi,e3⟩
  ·unfold gN
   simp only [aU]
   omega
  ·refine eT ?_
   have I2:Inv X pins σ H1 { s1 with heap:=h',toks:=tk }:=I1.kept k
   obtain ⟨o,es,ep,t,ho,hex,hd,_,_,hsb,hf,hn⟩:=qs
   refine PySem.call_len_set ho hex hd hf ?_ ⟨.int _,H1,I2.tok _,⟨_,by rw [hn]⟩,qq⟩
   unfold gN at hsb
   have:(es.size:Int) < 4096:=by omega
   exact Int.lt_of_lt_of_le this (by decide)
end
section
variable {X:Cx}{e st:bh}{te:TE}{ts:TO}{pos p2:Pos}
end
section
variable {X:Cx}{CB:ae}{E:XK}{a b c e st:bh}{es:List bh}{f g h:XE}{fa:XA}{t:XT}{p q p2 pos pos2:Pos}{x y:Str}
def xV (f:XE) (ρ:En) (s:Sto):Out PV:=(f ρ s).bind fun v s1=>match lsOf s1 v with
 | some l=>match qe l with
  | some ss=>if ss.length < 4000 then .ok (.int (sW ss).length) s1 else .bad
  | none=>.bad
 | none=>.bad
theorem CA (hc:X.calm=true) (gx:Gl X x) (mx:X.mg x=none) (bx:bJ x=some (.builtin "len")) (gy:Gl X y) (my:X.mg y=none) (by':bJ y=some (.type "set")) (ha:DE X CB E e f)
  (nx:x≠"__name__":=by decide) (dx:(x == ("__debug__":Str))=false:=by decide) (ny:y≠"__name__":=by decide) (dy:(y == ("__debug__":Str))=false:=by decide)
  (he:aK [e] X.env=[(false,eval e X.env)]:=by rfl):DE X CB E (.Call (.Name x p) [.Call (.Name y q) [e] [] pos2] [] pos) (xV f) :=
 ⟨(BV hc ha.pe gx mx bx gy my by' nx dx ny dy he).mono fun σ H Q ⟨ρ,s,m,er,S,P⟩=>⟨ρ,s,m,er,S,P.bind fun v s1 u H1 m1 e1 S1 r1 P1=>by
  split at P1
  ·rename_i l hl
   split at P1
   ·rename_i ss hs
    split at P1
    ·rename_i hz
     obtain ⟨a,vs,rfl,q,r⟩:=r1.ls S1 hl
     have e:=qX hs
     subst e
     rw [r.strs] at q
     exact ⟨a,ss,rfl,q,hz,P1.here S1 .int⟩
    ·exact P1.elim
   ·exact P1.elim
  ·exact P1.elim⟩⟩
end
def NOw (u:HO):Prop:=∀ o x,u≠.frz o (.own x)
section
variable {K:aa}{CB:ae}{H H':Hp}{m:Mp}{s:Sto}
mutual
theorem Rep.now (k:∀ a u,H a=some u→NOw u→H' a=some u):∀ {v:V}{p:PV},Rep K H m s v p→Rep K H' m s v p
 | _,_,.non=>.non
 | _,_,.bl=>.bl
 | _,_,.int=>.int
 | _,_,.str=>.str
 | _,_,.tup h r=>.tup (h.imp (fun z=>⟨z.1.imp (fun h=>k _ _ h (by intro _ _ z;cases z)) fun ⟨o,h⟩=>⟨o,k _ _ h (by intro _ _ z;cases z)⟩,z.2⟩) fun z=>z) (Reps.now k r)
 | _,_,.lst h p r=>.lst (k _ _ h (by intro _ _ z;cases z)) p (Reps.now k r)
 | _,_,.seq h r=>.seq (h.imp (fun ⟨⟨o,z⟩,p⟩=>⟨⟨o,k _ _ z (by intro _ _ z;cases z)⟩,p⟩) fun z=>z) (Reps.now k r)
 | _,_,.dct h p r=>.dct (h.imp (fun h=>k _ _ h (by intro _ _ z;cases z)) fun ⟨o,h⟩=>⟨o,k _ _ h (by intro _ _ z;cases z)⟩) p (RepKs.now k r)
 | _,_,.ref h=>.ref h
 | _,_,.exc h p=>.exc (k _ _ h (by intro _ _ z;cases z)) p
 | _,_,.clo r=>.clo (Reps.now k r)
theorem Reps.now (k:∀ a u,H a=some u→NOw u→H' a=some u):∀ {v:List V}{p:List PV},Reps K H m s v p→Reps K H' m s v p
 | _,_,.nil=>.nil
 | _,_,.cons a b=>.cons (Rep.now k a) (Reps.now k b)
theorem RepKs.now (k:∀ a u,H a=some u→NOw u→H' a=some u):∀ {v:List (Key×V)}{p:List (Key×PV)},RepKs K H m s v p→RepKs K H' m s v p
 | _,_,.nil=>.nil
 | _,_,.cons a b=>.cons (Rep.now k a) (RepKs.now k b)
end
theorem CellOk.now {n:Nat}{c:Cell} (k:∀ a u,H a=some u→NOw u→H' a=some u) (h:CellOk K CB H m s n c):CellOk K CB H' m s n c:=by
 cases c with
 | lst l=>obtain ⟨e1,vs,h,r⟩:=h;exact ⟨e1,vs,k _ _ h (by intro _ _ z;cases z),r.now k⟩
 | dct l=>obtain ⟨e1,vs,h,r⟩:=h;exact ⟨e1,vs,k _ _ h (by intro _ _ z;cases z),r.now k⟩
 | dfz l=>obtain ⟨e1,ob,vs,h,r⟩:=h;exact ⟨e1,ob,vs,k _ _ h (by intro _ _ z;cases z),r.now k⟩
 | obj C fs=>obtain ⟨e1,dx,vs,h,r1,r2⟩:=h;exact ⟨e1,dx,vs,k _ _ h (by intro _ _ z;cases z),r1,r2.now k⟩
 | book pp L =>
  obtain ⟨z,L',B,e1,e2⟩:=h
  have kd:∀ {a:ae}{kvs:List (Key×V)},H a=some (.dK kvs)→H' a=some (.dK kvs):=fun h=>k _ _ h (by intro _ _ z;cases z)
  refine ⟨z,L',⟨k _ _ B.ob (by intro _ _ z;cases z),kd B.pp,kd B.tt,kd B.mm,kd B.ll,(let ⟨T,e,p⟩:=B.hh;⟨T,kd e,p⟩),fun q hq=>?_,B.nd,B.p6,B.h8⟩,e1,e2⟩
  obtain ⟨ts,h1,h2,h3⟩:=B.he q hq
  refine ⟨ts,h1,kd h2,fun y hy=>?_⟩
  rcases h3 y hy with h | h
  ·exact .inl (h.imp (fun h=>k _ _ h (by intro _ _ z;cases z)) fun ⟨o,h⟩=>⟨o,k _ _ h (by intro _ _ z;cases z)⟩)
  ·exact .inr h
variable {cs:List (ae×Obj)}
theorem p4 (f:Fzd H cs):∀ a u,H a=some u→NOw u→ufz H cs a=some u:=fun a u h n=>by
 rw [lg (f.out h fun o z=>n o 0 z)];exact h
theorem SR.ufz (S:SR K CB H m s) (f:Fzd H cs) (hc:∀ c o,cs.lookup c=some o→∃ u,o.data=.cell u):SR K CB (ufz H cs) m s:=by
 refine ⟨S.nd,S.lt,fun q hq=>(S.ok q hq).now (p4 f),S.dj,S.hx,fun a ha=>?_,fun P q t=>⟨(S.tb P q t).1,?_⟩⟩
 ·obtain ⟨h1,h2⟩:=S.hs a ha
  rw [lg (show cs.lookup a=none from by
   cases q:cs.lookup a with
   | none=>rfl
   | some o=>exact absurd (f a o q) ((h2 [] o).2.2.2 0))]
  exact ⟨h1,h2⟩
 ·obtain ⟨ps,e1,e2,e3⟩:=(S.tb P q t).2
  refine ⟨ps,p4 f _ _ e1 (by intro _ _ z;cases z),e2,fun p c e=>?_⟩
  obtain ⟨c',oc,a1,a2,vs,tq,a3,a4⟩:=e3 p c e
  refine ⟨c',oc,a1,?_,vs,tq,a3,a4⟩
  rw [lg (show cs.lookup c'=none from by
   cases q:cs.lookup c' with
   | none=>rfl
   | some o =>
    obtain ⟨u,hu⟩:=hc c' o q
    have:=f c' o q
    rw [a2] at this
    cases this
    rw [a3] at hu;cases hu)]
  exact a2
theorem Ext.fzd {H2:Hp}{m2:Mp}{s2:Sto} (S:SR K CB H m s) (f:Fzd H cs) (e:Ext (L2.ufz H cs) m s H2 m2 s2) (S2:SR K CB H2 m2 s2) (h0:∀ c o,cs.lookup c=some o→H2 c=none):SR K CB (fz H2 cs) m2 s2∧Ext H m s (fz H2 cs) m2 s2∧Same H2 (fz H2 cs):=by
 have k:Same H2 (fz H2 cs):=fun a o h=>by
  rw [lP (show cs.lookup a=none from by
   cases q:cs.lookup a with
   | none=>rfl
   | some o'=>rw [h0 a o' q] at h;cases h)]
  exact h
 refine ⟨S2.same k,⟨⟨⟨e.nx,e.ad,fun a u h p=>?_,fun a u h n p=>?_⟩,fun n l hn h=>⟨(e.df n l hn h).1,fun o ho=>?_⟩⟩,e.hd,fun a ha o h n=>?_⟩,k⟩
 ·cases q:cs.lookup a with
  | none =>
   obtain ⟨h1,p1⟩:=e.pu a u (h.imp (fun h=>by rw [lg q];exact h) fun ⟨o,h⟩=>⟨o,by rw [lg q];exact h⟩) p
   exact ⟨h1.same k,p1⟩
  | some o =>
   refine ⟨?_,S2.pure_none (h0 a o q)⟩
   have:=f a o q
   rcases h with h | ⟨o',h⟩
   ·rw [this] at h;exact .inl (by rw [uh q];exact h)
   ·rw [this] at h;exact .inr ⟨o',by rw [uh q];exact h⟩
 ·cases q:cs.lookup a with
  | none=>exact k _ _ (e.el a u (by rw [lg q];exact h) n p)
  | some o=>rw [uh q,← f a o q];exact h
 ·obtain ⟨_,ob,vs,hd,_⟩:=S.ok _ (lx h)
  have hd':H (m.ad n)=some (.frz ob (.dK vs)):=hd
  exact k _ _ ((e.df n l hn h).2 o (p4 f _ _ ho (by intro o' x z;rw [z,hd'] at ho;cases ho)))
 ·exact k _ _ (e.hk a ha o (p4 f _ _ h (by intro o' x z;rw [z] at h;exact ((S.hs a ha).2 [] o').2.2.2 x h)) n)
end
def Fro (H H':Hp):Prop:=∀ a o u,H a=some (.frz o u)→H' a=some (.frz o u)
structure CloC (P:aV) (w:bz) (K:aa) (mg:Str→Option af) (base:bK) (k:Nat) (CB f:ae) (vs:List V) (H:Hp) (dr:List PV→PV→Sto→Out PV):Prop where
 ex:∃ of fd0 fd ps sp,H f=some (fzO of)∧of.data=.func fd0∧FnOk P w K mg base (CXo P w) k f fd ps sp∧Binds K fd ps [] ∧
  ∀ H' m s v p l Q,Fro H H'→SR K CB H' m s→Reps K H' m s vs l→Rep K H' m s v p→Post K CB (Rep K) E0 (dr l p s) H' m s Q→sp [v] H' Q E0
def noX (o:Out PV):Out PV:=match o with
 | .ok v s=>.ok v s
 | _=>.bad
theorem Post.noX {K:aa}{CB:ae}{R:Hp→Mp→Sto→V→PV→Prop}{E E':XK}{o:Out PV}{H:Hp}{m:Mp}{s:Sto}{Q:V→Hp→Prop} (h:Post K CB R E (L2.noX o) H m s Q):Post K CB R E' o H m s Q:=by
 cases o with
 | ok v s'=>exact h
 | ex c s'=>exact bu h
 | bad=>exact h
open Classical in
def ul (i:Nat) (f:ae) (vs:List V) (dr:List PV→PV→Sto→Out PV) (g:XE) (ρ:En) (s:Sto):Out PV:=match ρ[i]? with
 | some (some (.clo a ws l))=>if a=f∧ws=vs then (g ρ s).bind fun p s1=>noX (dr l p s1) else .bad
 | _=>.bad
section
variable {X:Cx}{CB:ae}{E:XK}{k i:Nat}{x:Str}{p pos:Pos}{e:bh}{g:XE}{f:ae}{vs:List V}{dr:List PV→PV→Sto→Out PV}
theorem Eo (C:CloC X.prog X.w X.K X.mg X.base k CB f vs X.H₀ dr) (i:Nat) (hN:X.N[i]?=some x) (hv:Vis X.env.scope x) (hr:Room k X.A) (ha:DE X CB E e g) (hd:(x == ("__debug__":Str))=false:=by decide) (hcd:(x == ("__classdict__":Str))=false:=by decide)
  (hst:aK [e] X.env=(false,eval e X.env)::aK [] X.env:=by rfl) (hpl:(cj pos (aK [] X.env)).any (·.1)=false:=by rfl):DE X CB E (.Call (.Name x p) [e] [] pos) (ul i f vs dr g):=by
 refine ⟨fun pins s σ H Q I ⟨ρ,s',m,er,S,P⟩=>?_⟩
 unfold ul at P
 split at P
 case h_2=>exact P.elim
 rename_i a ws l ha'
 split at P
 case isFalse=>exact P.elim
 rename_i hf
 obtain ⟨hf,hw⟩:=hf
 subst hf hw
 obtain ⟨u,hu,ru⟩:=er.at_ i _ ha'
 cases ru
 rename_i rl
 obtain ⟨of,fd0,fd,ps,sp,h1,h2,F,hb,hsp⟩:=C.ex
 have fnAt:∀ {H2:Hp}{s2:al}{σ2:St},Inv X pins σ2 H2 s2→PySem.W.FnAt a s2.heap:=fun I2=>by
  have:=(I2.hok a _ (I2.base.frzs _ _ _ h1)).1
  obtain ⟨oc,od,od',sl⟩:=of
  simp only at h2
  subst h2
  exact ⟨_,_,_,_,this⟩
 refine cr (thn (yt hN hv hd hcd pins s σ H (fun v H1=>v=.ref a∧H1=H) I ⟨_,hu,rfl,rfl⟩) fun u s1 ⟨v,H1,I1,r1,e1,e2⟩=>?_)
 subst e1 e2
 obtain rfl:u=bo a:=r1
 refine PySem.W.callWith_F (first:=[]) (fnAt I1) (thn (kJ ha.pe pa_nil hst pos pins s1 σ H1 (fun vs H2=>∃ v,vs=[v]∧∃ m2 s2 p2,Ext H1 m s' H2 m2 s2∧SR X.K CB H2 m2 s2∧Rep X.K H2 m2 s2 v p2∧Post X.K CB (Rep X.K) E0 (dr l p2 s2) H2 m2 s2 Q) I1 ?_) fun us s2 ⟨vs,H2,I2,r,v,hvs,m2,s2',p2,x2,S2,r2,P2⟩=>⟨fnAt I2,?_⟩) hst hpl
 ·refine ⟨ρ,s',m,er,S,?_⟩
  exact P.bind fun p1 s1' u1 H1' m1 x1 S1 r1 P1=>⟨u1,rfl,m1,s1',p1,x1,S1,r1,P1.noX⟩
 ·subst hvs
  have q':sp ([v]++[]) H2 Q E0:=hsp H2 m2 s2' v p2 l Q (fun b o u z=>I2.base.frzs b o u z) S2 (rl.ext x2) r2 P2
  exact yq F hr hb .nil kU I2 r q'
end
def GG (P:aV) (w:bz) (K:aa) (mg:Str→Option af) (base:bK) (k:Nat) (CB:ae) (D:ae→List V→(List PV→PV→Sto→Out PV)→XF):Sp:=fun vs H Q E =>
 ∃ f ws dr l s m,vs=[.ref f]∧CloC P w K mg base k CB f ws H dr∧Reps K H m s ws l∧SR K CB H m s∧Post K CB (Rep K) E (D f ws dr [.clo f ws l] s) H m s Q
theorem Io {P:aV}{w:bz}{K:aa}{mg:Str→Option af}{base:bK}{x qual y:Str}{st:bM}{fa CB:ae}{fd:bR}{N:List Str}{k kc:Nat}{u:ae→List V→(List PV→PV→Sto→Out PV)→XS} (F:Fun K x qual st fa fd) (S:FnScope N [y] (kC st))
  (hb:∀ (f:ae) (ws:List V) (dr:List PV→PV→Sto→Out PV) (cdv:af) (A:bH) (outer:List Env) (s:al) (H:Hp) (E:XK),CloC P w K mg base kc CB f ws H dr→Room k (A.deeper (dY qual (kC st) s.heap.objs.size fa cdv))→DSs (xr (CXo P w) P w K mg base N qual (kC st) fa cdv A outer s H E) CB E (ng st) (u f ws dr)) :
  FnOk P w K mg base (CXo P w) (k+1) fa fd [y] (GG P w K mg base kc CB fun f ws dr=>fnD N.length (u f ws dr)):=by
 refine F.okX S (fun vs H Q E h=>by obtain ⟨f,ws,dr,l,s,m,rfl,_⟩:=h;rfl) (fun cdv A outer s H vs Q E hr h=>?_)
 obtain ⟨f,ws,dr,l,s',m,rfl,C,rl,S',P'⟩:=h
 have r:Reps K H m s' [V.ref f] [.clo f ws l]:=.cons (.clo rl) .nil
 refine ⟨_,(hb f ws dr cdv A outer s H E C hr).pss,[PV.clo f ws l].map some++aY (N.length - 1) none,s',m,?_,S',?_⟩
 ·exact ER.start r _
 ·have P':Post K CB (Rep K) E (fnD N.length (u f ws dr) [.clo f ws l] s') H m s' Q:=P'
  unfold fnD at P'
  have hl:([PV.clo f ws l]:List PV).length=1:=rfl
  rw [hl] at P'
  cases cc:u f ws dr ([PV.clo f ws l].map some++aY (N.length - 1) none) s' with
  | nx ρ1 s1=>rw [cc] at P';exact fun σ' H' m' x S1 er=>P' .non H' m' x S1 .non
  | rt v1 s1=>rw [cc] at P';exact fun u' H' m' x S1 r1=>P' u' H' m' x S1 r1
  | ex c1 s1=>rw [cc] at P';exact P'
  | bk=>rw [cc] at P';exact P'.elim
  | ct=>rw [cc] at P';exact P'.elim
  | bad=>rw [cc] at P';exact P'.elim
open Classical in
def yW (F:ae→List V→Out PV):Out PV:=if h:∃ o,∀ f ws,F f ws=o then jT h else .bad
theorem Fg {F:ae→List V→Out PV}{o:Out PV} (h:∀ f ws,F f ws=o):yW F=o:=by
 unfold yW
 rw [dif_pos ⟨o,h⟩]
 have:=gp (⟨o,h⟩:∃ o,∀ f ws,F f ws=o) 0 []
 rw [← this];exact h 0 []
theorem Fh {F:ae→List V→Out PV} (h:yW F≠.bad) (f:ae) (ws:List V):F f ws=yW F:=by
 unfold yW at h ⊢
 split
 ·rename_i q;exact gp q f ws
 ·rename_i q;rw [dif_neg q] at h;exact absurd rfl h
def Az (ρ:En):List Nat→Option (List PV)
 | []=>some []
 | j::r=>match ρ[j]?,Az ρ r with
  | some (some p),some l=>some (p::l)
  | _,_=>none
def CL (ix:List Nat) (D:ae→List V→(List PV→PV→Sto→Out PV)→XF) (g:XE) (ρ:En) (s:Sto):Out PV:=match Az ρ ix with
 | some l=>noX (yW fun f ws=>D f ws (fun l p s=>noX (g (some p::l.map some) s)) [.clo f ws l] s)
 | none=>.bad
theorem Bs {K:aa}{H:Hp}{m:Mp}{s:Sto}{σ:St}{ρ:En} (er:ER K H m s σ ρ):∀ {ix:List Nat}{l:List PV},Az ρ ix=some l→∃ caps:List V,caps.length=ix.length∧Reps K H m s caps l∧∀ (i j:Nat) (v:V),ix[i]?=some j→caps[i]?=some v→σ[j]?=some (some v)
 | [],l,h=>by cases h;exact ⟨[],rfl,.nil,fun i j v e=>by cases e⟩
 | j::r,l,h=>by
  unfold Az at h
  split at h
  ·rename_i p l' h1 h2
   cases h
   obtain ⟨u,hu,ru⟩:=er.at_ j p h1
   obtain ⟨caps,c1,c2,c3⟩:=Bs er h2
   refine ⟨u::caps,by rw [ap,ap,c1],.cons ru c2,fun i j' v e1 e2=>?_⟩
   cases i with
   | zero=>cases e1;cases e2;exact hu
   | succ i=>exact c3 i j' v e1 e2
  ·cases h
theorem lk1 {F:ae→Obj}{c:ae}{o:Obj}:∀ {l:List (Str×ae)},(l.map fun y=>(y.2,F y.2)).lookup c=some o→o=F c∧∃ y,(y,c)∈l
 | [],h=>by cases h
 | (y,d)::r,h=>by
  rw [aD,bF] at h
  by_cases e:c=d
  ·subst e
   simp at h
   exact ⟨h.symm,y,ar⟩
  ·have e':(c == d)=false:=by simpa using e
   simp only [e'] at h
   obtain ⟨h1,y',h2⟩:=lk1 h
   exact ⟨h1,y',ai _ h2⟩
theorem lk2 {F:ae→Obj}{c:ae}{y:Str}:∀ {l:List (Str×ae)},(y,c)∈l→(l.map fun y=>(y.2,F y.2)).lookup c=some (F c)
 | (z,d)::r,h=>by
  rw [aD,bF]
  by_cases e:c=d
  ·subst e;simp
  ·have e':(c == d)=false:=by simpa using e
   simp only [e']
   rcases aj.mp h with q | q
   ·cases q;exact absurd rfl e
   ·exact lk2 q
theorem xw {cells:List (Str×ae)}{y:Str}{c:ae}:∀ {names:List (Str×dU)}{cs:List (Str×ae)},(y,c)∈l7 cells names cs→(y,c)∈cs∨((y,bE)∈names∧c=(cells.lookup y).getD 0)
 | [],cs,h=>.inl h
 | (n,k)::r,cs,h=>by
  unfold l7 at h
  rcases xw h with h | ⟨h1,h2⟩
  ·by_cases hk:k=.free
   ·subst hk
    rw [if_pos ff] at h
    rcases aj.mp h with q | q
    ·cases q;exact .inr ⟨ar,rfl⟩
    ·exact .inl q
   ·have hb:(k == bE)=false:=by simpa using hk
    rw [hb,if_neg a9] at h
    exact .inl h
  ·exact .inr ⟨ai _ h1,h2⟩
theorem Tab.one {K:aa}{P P':ae}{q q':Str} (a:Tab K P q) (b:Tab K P' q'):P'=P∧q'=q:=by
 obtain ⟨x,hx,c,h1,h2⟩:=a
 obtain ⟨y,hy,d,h3,h4⟩:=b
 simp only [vJ,ay] at hx hy
 subst hx hy
 rw [h1] at h3
 cases h3
 exact ⟨rfl,h4.trans h2.symm⟩
theorem SR.lam {K:aa}{CB:ae}{H H1:Hp}{m:Mp}{s:Sto}{P:ae}{q:Str} (S:SR K CB H m s) (t:Tab K P q) (T1:Bz H1 P q) (k:∀ b u,H b=some u→b≠P→H1 b=some u):SR K CB H1 m s∧Ext H m s H1 m s:=by
 have hP:=(S.tb P q t).1
 have nf:∀ n∈s.cs.map (·.1),∀ a∈m.fp n,a≠P:=fun n hn a ha z=>S.hx n hn a ha (z ▸ hP)
 have np:∀ a,Pur m s a→a≠P:=fun a p z=>p.1 (z ▸ hP)
 have x:ExtR H m s H1 m s:=⟨aC _,fun _ _=>rfl,fun a u h p=>⟨h.imp (fun h=>k _ _ h (np a p)) fun ⟨o,h⟩=>⟨o,k _ _ h (np a p)⟩,p⟩,fun a u h _ p=>k _ _ h (np a p)⟩
 have hk:∀ a∈m.hid,∀ o,H a=some o→(∀ ps,o≠.tbl ps)→H1 a=some o:=fun a _ o h n=>k _ _ h fun z=>by
  obtain ⟨_,ps,h2,_⟩:=S.tb P q t
  rw [z,h2] at h;cases h;exact n _ rfl
 refine ⟨⟨S.nd,S.lt,fun r hr=>(S.ok r hr).keep S x (fun a ha o h=>k _ _ h (nf _ (am.mpr ⟨r,hr,rfl⟩) a ha)) rfl rfl,S.dj,S.hx,fun a ha=>?_,fun P' q' t'=>?_⟩,⟨⟨x,fun n l hn h=>⟨h,fun o ho=>?_⟩⟩,rfl,hk⟩⟩
 ·by_cases z:a=P
  ·obtain ⟨ps,h2,_⟩:=T1
   rw [z,h2]
   exact ⟨by simp,fun _ _=>⟨by simp,by simp,by simp,by simp⟩⟩
  ·obtain ⟨h1,h2⟩:=S.hs a ha
   cases e:H a with
   | none=>exact absurd e h1
   | some o =>
    rw [k a o e z]
    rw [e] at h2
    exact ⟨by simp,h2⟩
 ·obtain ⟨rfl,rfl⟩:=t.one t'
  exact ⟨hP,T1⟩
 ·obtain ⟨e1,_⟩:=S.ok _ (lx h)
  exact k _ _ ho (nf n (am.mpr ⟨_,lx h,rfl⟩) _ (by rw [e1];simp))
theorem Ext.unfz {H1 H2:Hp}{m m2:Mp}{s s2:Sto}{cs:List (ae×Obj)} (h0:∀ c o,cs.lookup c=some o→H1 c=none) (x:Ext (fz H1 cs) m s H2 m2 s2):Ext H1 m s (L2.ufz H2 cs) m2 s2:=by
 have out:∀ {a:ae}{u:HO},H1 a=some u→cs.lookup a=none:=fun {a u} h=>by
  cases q:cs.lookup a with
  | none=>rfl
  | some o=>rw [h0 a o q] at h;cases h
 have up:∀ {a:ae}{u:HO},H1 a=some u→fz H1 cs a=some u:=fun {a u} h=>by rw [lP (out h)];exact h
 refine ⟨⟨⟨x.nx,x.ad,fun a u h p=>?_,fun a u h n p=>?_⟩,fun n l hn h=>⟨(x.df n l hn h).1,fun o ho=>?_⟩⟩,x.hd,fun a ha o h n=>?_⟩
 ·obtain ⟨h1,p1⟩:=x.pu a u (h.imp (fun h=>up h) fun ⟨o,h⟩=>⟨o,up h⟩) p
  have o':cs.lookup a=none:=h.elim (fun h=>out h) fun ⟨_,h⟩=>out h
  exact ⟨h1.imp (fun h=>by rw [lg o'];exact h) fun ⟨o,h⟩=>⟨o,by rw [lg o'];exact h⟩,p1⟩
 ·rw [lg (out h)];exact x.el a u (up h) n p
 ·rw [lg (out ho)];exact (x.df n l hn h).2 o (up ho)
 ·rw [lg (out h)];exact x.hk a ha o (up h) n
section
variable {X:Cx}{CB:ae}{E:XK}{k kb:Nat}{fn y q:Str}{p pos lpos:Pos}{g:XE}{params:iw}{body:bh}{scope:du}{fr:List Str}{ix:List Nat}{cd P:ae}{D:ae→List V→(List PV→PV→Sto→Out PV)→XF}{pn:Str}
theorem Gm (ix:List Nat) (F:Fn X.prog X.w X.K X.mg X.base fn k [pn] (GG X.prog X.w X.K X.mg X.base (kb+1) CB D)) (hr:Room k X.A) (hg:Gl X fn) (T:LamTxt X.K X.mg X.base cd P) (hcode:X.env.code=.ref cd) (hq:X.env.qual++"<lambda>"=q) (hT:Tab X.K P q) (hdef:defaultsOf params X.env=([],[]))
  (hcells:∀ y∈scope.names,y.2=.free→X.env.scope.names.lookup y.1=some .cell) (hfn:∀ x,X.fn x=true) (S:LamOk scope y fr) (hlen:ix.length=fr.length) (hix:∀ (i j:Nat) (z:Str),fr[i]?=some z→ix[i]?=some j→X.N[j]?=some z)
  (hbind:∀ (cl:List (Str×ae)) (pm c ctv:af),Binds X.K (PySem.W.kla_fn "<lambda>" q params body scope cl pm c ctv) [y] [])
  (hbody:∀ (f:ae) (c':af) (cl:List (Str×ae)) (A:bH) (outer:List Env) (s:al) (H:Hp),Room kb (A.deeper (EY q scope s.heap.objs.size f c' cl))→DE (cxL X.prog X.w X.K X.mg X.base (y::fr) q scope f c' cl A outer s H) CB E0 body g)
  (hdb:(fn == ("__debug__":Str))=false:=by decide)
  (he:aK [.Lambda params body scope lpos] X.env=(false,eval (.Lambda params body scope lpos) X.env)::aK [] X.env:=by rfl) (hpl:(cj pos (aK [] X.env)).any (·.1)=false:=by rfl) :
  DE X CB E (.Call (.Name fn p) [.Lambda params body scope lpos] [] pos) (CL ix D g):=by
 refine ⟨fun pins s σ H Q I ⟨ρ,s',m,er,SS,PP⟩=>?_⟩
 unfold CL at PP
 split at PP
 case h_2=>exact PP.elim
 rename_i l hl
 obtain ⟨caps,c1,c2,c3⟩:=Bs er hl
 have PP:Post X.K CB (Rep X.K) E0 (yW fun f ws=>D f ws (fun l p s=>noX (g (some p::l.map some) s)) [.clo f ws l] s') H m s' Q:=PP.noX
 have hnb:(yW fun f ws=>D f ws (fun l p s=>noX (g (some p::l.map some) s)) [.clo f ws l] s')≠.bad:=fun z=>by rw [z] at PP;exact PP
 obtain ⟨fa,fd,F,hm,hk,hb⟩:=F
 refine cr (qc I hg hm ?_ hdb)
 have hcells':∀ y∈scope.names,y.2=.free→X.env.scope.names.lookup y.1=some .cell∨X.env.scope.names.lookup y.1=some .free:=fun y hy hf=>.inl (hcells y hy hf)
 have hcx:∀ z∈scope.names,z.2=.free→∃ c,X.env.cells.lookup z.1=some c:=fun z hz hf=>I.ok.has z.1 (.inl (hcells z hz hf))
 refine fH (h₀:=X.base) I.ok.mod.kin hk (thn (kJ (HH (pos:=lpos) (body:=body) T hcode hq hdef hcells') pa_nil he pos pins s σ H (fun vs H1=>∃ f c' oc pm ctv,vs=[.ref f]∧Bz H1 P q∧H1 f=some (fzO (cT "<lambda>" q params body scope (l7 X.env.cells scope.names []) pm c' ctv))∧H1 c'=some (fzO oc)∧(∃ vs tq,oc.data=.fields vs∧vs[1]?=some (.str q tq))∧∀ b u,H b=some u→b≠P→H1 b=some u) I
  ⟨(SS.tb P q hT).2,fun f c' oc pm ctv H1 a1 a2 a3 a4 a5 a6=>⟨f,c',oc,pm,ctv,rfl,a1,a2,a3,a4,a5⟩⟩) fun us s1 ⟨vs,H1,I1,r,f,c',oc,pm,ctv,hvs,a1,a2,a3,a4,a5⟩=>⟨I1.kIn,?_⟩) he hpl
 subst hvs
 obtain ⟨S1,x1⟩:=SS.lam hT a1 a5
 generalize hcl:l7 X.env.cells scope.names []=cl at a2
 have clC:∀ {z:Str}{c:ae},(z,c)∈cl→X.env.cells.lookup z=some c:=fun {z c} h=>by
  rw [← hcl] at h
  rcases xw h with h | ⟨h1,h2⟩
  ·cases h
  ·obtain ⟨c0,h0⟩:=hcx (z,.free) h1 rfl
   rw [h2,h0];rfl
 have clL:∀ {z:Str}{c:ae},cl.lookup z=some c→(z,c)∈cl:=fun h=>bO h
 have hcell:∀ {z:Str}{c:ae},X.env.cells.lookup z=some c→∃ o u,s1.heap.get? c=some o∧o.data=.cell u:=fun {z c} h=>by
  obtain ⟨v,o,h1,h2⟩:=I1.cell z c h
  exact ⟨o,v,h1,h2⟩
 let Fo:ae→Obj:=fun c=>(s1.heap.get? c).getD default
 have hFo:∀ {c:ae}{o:Obj},s1.heap.get? c=some o→Fo c=o:=fun {c o} h=>by show (s1.heap.get? c).getD default=o;rw [h];rfl
 generalize hcs:(cl.map fun z=>(z.2,Fo z.2))=cs
 have csO:∀ c o,cs.lookup c=some o→∃ z,(z,c)∈cl∧s1.heap.get? c=some o∧∃ u,o.data=.cell u:=fun c o h=>by
  rw [← hcs] at h
  obtain ⟨h1,z,h2⟩:=lk1 h
  obtain ⟨o',u,h3,h4⟩:=hcell (clC h2)
  rw [hFo h3] at h1
  subst h1
  exact ⟨z,h2,h3,u,h4⟩
 have csI:∀ {z:Str}{c:ae},cl.lookup z=some c→∀ {o:Obj},s1.heap.get? c=some o→cs.lookup c=some o:=fun {z c} h {o} ho=>by
  rw [← hcs,lk2 (clL h),hFo ho]
 have csN:∀ c o,cs.lookup c=some o→H1 c=none:=fun c o h=>by
  obtain ⟨z,h1,_⟩:=csO c o h
  exact I1.freeC z c (clC h1)
 have same:Same H1 (fz H1 cs):=fun a o h=>by
  rw [lP (show cs.lookup a=none from by
   cases q:cs.lookup a with
   | none=>rfl
   | some o'=>rw [csN a o' q] at h;cases h)]
  exact h
 have clo:CloOk scope fr cl cs caps:=by
  refine ⟨fun z hz=>?_,fun z z' c h1 h2=>I.ok.inj z z' c (clC (clL h1)) (clC (clL h2)),fun z c h=>?_,fun i z v h1 h2=>?_,by rw [c1,hlen]⟩
  ·have:=rc (cells:=X.env.cells) (y:=z) scope.names [] (bO hz)
   rw [hcl] at this
   exact ee.mp this
  ·obtain ⟨o,u,h3,h4⟩:=hcell (clC (clL h))
   exact ⟨o,u,csI h h3,h4⟩
  ·have hi:i < ix.length:=by rw [hlen];exact (aZ.mp h1).1
   have hj:ix[i]?=some ix[i]:=bB hi
   have hσ:=c3 i _ v hj h2
   have hfree:=S.frs z (cF h1)
   have hsc:X.env.scope.names.lookup z=some .cell:=hcells (z,.free) (bO hfree) rfl
   obtain ⟨mL,_,hloc⟩:=I1.loc
   obtain ⟨u,ru,hu⟩:=hloc _ z v (hix i _ z h1 hj) hσ (.inr (.inl hsc))
   rcases hu with ⟨h3,_⟩ | ⟨_,c,h3,o,h4,h5⟩
   ·have h3:X.env.scope.names.lookup z=some .local:=h3
    rw [hsc] at h3;cases h3
   ·obtain ⟨c',hc'⟩:=ee.mp (by have:=rc (cells:=X.env.cells) (y:=z) scope.names [] (bO hfree);rw [hcl] at this;exact this)
    have e:=clC (clL hc')
    rw [h3] at e
    cases e
    exact ⟨c,o,u,hc',csI hc' h4,h5,ru⟩
 have FC:=ID (P:=X.prog) (w:=X.w) (K:=X.K) (mg:=X.mg) (base:=X.base) (CX:=CXo X.prog X.w) (k:=kb) (f:=f) (c':=c') (params:=params) (pm:=pm) (ctv:=ctv) (t:=TDE X.K CB E0 g) S clo a4 fun A outer s H hr=>(hbody f (.ref c') cl A outer s H hr).pe
 have CC:CloC X.prog X.w X.K X.mg X.base (kb+1) CB f caps (fz H1 cs) (fun l p s=>noX (g (some p::l.map some) s)):=by
  refine ⟨_,_,_,_,_,same _ _ a2,rfl,FC,hbind cl pm (.ref c') ctv,fun H' m' s2 v p1 l1 Q' fro S' rl rp PQ=>?_⟩
  have fzd:Fzd H' cs:=fun c o h=>fro c o _ (uh h)
  have hcd:∀ c o,cs.lookup c=some o→∃ u,o.data=.cell u:=fun c o h=>(csO c o h).elim fun z h=>h.2.2
  refine ⟨v,rfl,fro _ _ _ (same _ _ a2),fro _ _ _ (same _ _ a3),fzd,some p1::l1.map some,s2,m',⟨?_,?_⟩,S'.ufz fzd hcd,?_⟩
  ·rw [ap,ap,aq,aq,rl.length]
  ·intro i p2 e2
   cases i with
   | zero=>cases e2;exact ⟨v,rfl,rp.now (p4 fzd)⟩
   | succ i =>
    have e2:(l1.map some)[i]?=some (some p2):=e2
    rw [bv] at e2
    obtain ⟨p3,h3,h4⟩:=eO.mp e2
    cases h4
    obtain ⟨v3,h5,h6⟩:=(rl.now (p4 fzd)).get h3
    exact ⟨v3,by show (caps.map some)[i]?=_;rw [bv,h5];rfl,h6⟩
  ·cases o:g (some p1::l1.map some) s2 with
   | ok v2 s3 =>
    rw [o] at PQ
    intro u2 H2 m2 x2 S2 r2 h0
    obtain ⟨S3,x3,k3⟩:=Ext.fzd S' fzd x2 S2 h0
    exact PQ u2 _ m2 x3 S3 (r2.ext (Ext.same k3))
   | ex c s3=>rw [o] at PQ;exact bu PQ
   | bad=>rw [o] at PQ;exact PQ
 refine Ho F hr hb (E:=E0) (cs:=cs) (fun H' e s2 h=>?_) I1 (fun c o h=>?_) r ⟨f,caps,_,l,s',m,rfl,CC,(c2.ext x1).ext (Ext.same same),S1.same same,?_⟩
 ·obtain ⟨_,_,_,_,_,_,_,_,_,_,_,_,_,z⟩:=h
  exact z.elim
 ·obtain ⟨z,h1,h2,u,h3⟩:=csO c o h
  refine ⟨h2,csN c o h,I.ok.cab z c (hfn z) (clC h1),fun e=>?_⟩
  obtain ⟨mL,⟨oL,es,ep,hL,hd,_⟩,_⟩:=I1.loc
  rw [e,hL] at h2
  cases h2
  rw [hd] at h3;cases h3
 ·rw [Fh hnb f caps]
  cases o:(yW fun f ws=>D f ws (fun l p s=>noX (g (some p::l.map some) s)) [.clo f ws l] s') with
  | bad=>exact absurd o hnb
  | ex c s3=>rw [o] at PP;exact fun H2 m2 x2 S2=>bu (PP H2 m2 ((x1.trans (Ext.same same)).trans x2) S2)
  | ok v2 s3 =>
   rw [o] at PP
   intro u2 H2 m2 x2 S2 r2
   have fzd:Fzd H2 cs:=fun c o h=>x2.el c _ (uh h) (by intro _ z;cases z) (S1.pure_none (csN c o h))
   exact PP u2 _ m2 (x1.trans (Ext.unfz csN x2)) (S2.ufz fzd fun c o h=>(csO c o h).elim fun z h=>h.2.2) (r2.now (p4 fzd))
end
theorem Ip {P:aV}{w:bz}{K:aa}{mg:Str→Option af}{base:bK}{x qual:Str}{st:bM}{fa CB cd PT:ae}{fd:bR}{N ps:List Str}{n k:Nat}{u:XS} (F:Fun K x qual st fa fd) (hns:aw K au x=some (some (.ref fa))) (ht:bS K x=some (cd,PT)) (S:FnScope N ps (kC st)) (hps:ps.length=n)
  (hb:∀ (A:bH) (outer:List Env) (s:al) (H:Hp) (E:XK),Room k (A.deeper (dY qual (kC st) s.heap.objs.size fa (.ref cd)))→DSs (xr (CXo P w) P w K mg base N qual (kC st) fa (.ref cd) A outer s H E) CB E (ng st) u) :
  FnOk P w K mg base (CXo P w) (k+1) fa fd ps (spD K CB n (fnD N.length u)):=by
 obtain ⟨oc,od,kV,doc,pm,an,cdv,ct,osl,rfl,lk,hcd⟩:=F.ex
 have hc:cdv=.ref cd:=by
  unfold bS at ht
  rw [hns] at ht
  simp only [lk] at ht
  split at ht
  ·split at ht
   ·split at ht
    ·cases ht;rfl
    ·cases ht
   ·cases ht
  ·cases ht
 subst hc
 refine Fd lk hcd S (fun vs H Q E h=>by rw [hps];exact h.1) fun A outer s H vs Q E hr h=>?_
 obtain ⟨hl,ps',s',m,r,S',P'⟩:=h
 refine ⟨_,(hb A outer s H E hr).pss,ps'.map some++aY (N.length - ps'.length) none,s',m,?_,S',?_⟩
 ·unfold start
  rw [r.length]
  exact ER.start r _
 ·unfold fnD at P'
  cases cc:u (ps'.map some++aY (N.length - ps'.length) none) s' with
  | nx ρ1 s1=>rw [cc] at P';exact fun σ' H' m' x S1 er=>P' .non H' m' x S1 .non
  | rt v1 s1=>rw [cc] at P';exact fun u' H' m' x S1 r1=>P' u' H' m' x S1 r1
  | ex c1 s1=>rw [cc] at P';exact P'
  | bk=>rw [cc] at P';exact P'.elim
  | ct=>rw [cc] at P';exact P'.elim
  | bad=>rw [cc] at P';exact P'.elim
def wB (mg:Str→Option af) (base:bK) (P:ae):Prop:=∃ bm o,mg "__builtins__"=some (.ref bm)∧bm≠dM∧bm≠au∧bm≠P∧base.get? bm=some o∧o.cls=.type "module"∧o.dict=some dM∧o.data=.plain
theorem Cn {K:aa}{mg:Str→Option af}{base:bK}{cd P:ae} (h1:ij K cd P=true) (h2:P≠au) (h3:wB mg base P):LamTxt K mg base cd P:=⟨fun h X=>PySem.W.codeHd_of_K X h1,h2,h3⟩
def uk (fi:XA) (ix:List Nat) (c:XT) (e:XE) (ρ:En) (s:Sto):Out PV:=(fi ρ s).bind fun l s1=>if l.length≤100000 then (lX c e (lJ ix ρ) l s1).bind fun vs s2=>.ok (.ref s2.nx) (s2.add (.lst vs)) else .bad
section
variable {X:Cx}{CB:ae}{E:XK}{a b c e elt iter tg:bh}{es ifs:List bh}{f g h:XE}{fa fi:XA}{t:XT}{p px pos pos' apos cpos:Pos}{x:Str}{st:bM}{lK sts sts':List bM}{u v:XS}{scope:du}{fr:List Str}{ix:List Nat}
theorem Cmp.cell {K:aa}{D:ae}{H1 H2:Hp}{m1 m2:Mp}{s1 s2:Sto}{cap:St}{ρ:En}{ys:List V}{done:List PV} (C:Cmp K CB D H1 m1 s1 cap ρ ys done H2 m2 s2) (hD:H1 D=none) (hn:D∉m1.hid) :
  SR K CB H2 ((m2.bare m1.hid).add s2.nx D [D]) (s2.add (.lst done))∧Ext H1 m1 s1 H2 ((m2.bare m1.hid).add s2.nx D [D]) (s2.add (.lst done)):=by
 have S:=C.sr
 have hin:D∈m2.hid:=by rw [C.hid];exact ar
 have hlt:∀ j∈s2.cs.map (·.1),j≠s2.nx:=fun j hj=>aQ (S.lt j hj)
 have hfp:∀ j∈s2.cs.map (·.1),((m2.bare m1.hid).add s2.nx D [D]).fp j=m2.fp j:=fun j hj=>if_neg (hlt j hj)
 have hfn:((m2.bare m1.hid).add s2.nx D [D]).fp s2.nx=[D]:=if_pos rfl
 have had:((m2.bare m1.hid).add s2.nx D [D]).ad s2.nx=D:=if_pos rfl
 have nD:∀ j∈s2.cs.map (·.1),D∉m2.fp j:=fun j hj z=>S.hx j hj D z hin
 have hk:∀ {j:Nat},j∈(s2.add (.lst done)).cs.map (·.1)→j=s2.nx∨j∈s2.cs.map (·.1):=fun {j} hj=>aj.mp (show j∈s2.nx::s2.cs.map (·.1) from hj)
 have hsub:∀ a,a∈m1.hid→a∈m2.hid:=fun a ha=>by rw [C.hid];exact ai _ ha
 have pur:∀ a,a≠D→a∉m1.hid→(∀ n∈s2.cs.map (·.1),a∉m2.fp n)→Pur ((m2.bare m1.hid).add s2.nx D [D]) (s2.add (.lst done)) a:=fun a h1 h2 h3=>⟨h2,fun j hj ha=>by
  rcases hk hj with rfl | hj
  ·rw [hfn,ay] at ha;exact h1 ha
  ·rw [hfp j hj] at ha;exact h3 j hj ha⟩
 have x:ExtR H2 m2 s2 H2 ((m2.bare m1.hid).add s2.nx D [D]) (s2.add (.lst done)):=⟨eR _,fun j hj=>if_neg (aQ hj),fun a u h p=>⟨h,pur a (fun z=>p.1 (z ▸ hin)) (fun z=>p.1 (hsub a z)) p.2⟩,fun a u h _ _=>h⟩
 have e1:s1.nx≤s2.nx:=C.ex.nx
 refine ⟨⟨?_,?_,fun q hq=>?_,fun j hj i hi hne a ha hb=>?_,fun j hj a ha hb=>?_,fun a ha=>S.hs a (hsub a ha),fun P q t=>⟨?_,(S.tb P q t).2⟩⟩,⟨⟨⟨Nat.le_succ_of_le e1,fun n hn=>?_,fun a u h p=>?_,C.ex.el⟩,fun n l hn h=>?_⟩,rfl,C.ex.hk⟩⟩
 ·exact aS.mpr ⟨fun z=>hlt _ z rfl,S.nd⟩
 ·intro j hj
  rcases hk hj with rfl | hj
  ·exact dA _
  ·exact iE (S.lt j hj)
 ·rcases aj.mp (show q∈(s2.nx,Cell.lst done)::s2.cs from hq) with rfl | hq
  ·exact ⟨by rw [hfn,had],ys,by rw [had];exact C.at_,C.rs.ext0 x⟩
  ·have hqm:q.1∈s2.cs.map (·.1):=am.mpr ⟨q,hq,rfl⟩
   exact (S.ok q hq).keep S x (fun a _ o h=>h) (x.ad _ (S.lt _ hqm)) (hfp _ hqm)
 ·rcases hk hj with e | hj <;> rcases hk hi with e' | hi
  ·exact hne (e.trans e'.symm)
  ·rw [e,hfn,ay] at ha;rw [hfp i hi,ha] at hb;exact nD i hi hb
  ·rw [e',hfn,ay] at hb;rw [hfp j hj,hb] at ha;exact nD j hj ha
  ·rw [hfp j hj] at ha;rw [hfp i hi] at hb;exact S.dj j hj i hi hne a ha hb
 ·have hb:a∈m1.hid:=hb
  rcases hk hj with e | hj
  ·rw [e,hfn,ay] at ha;rw [ha] at hb;exact hn hb
  ·rw [hfp j hj] at ha;exact S.hx j hj a ha (hsub a hb)
 ·obtain ⟨h1,ps,h2,_⟩:=S.tb P q t
  rw [C.hid] at h1
  rcases aj.mp h1 with z | z
  ·rw [z,C.at_] at h2;cases h2
  ·exact z
 ·have:n≠s2.nx:=aQ (aA hn e1)
  exact (if_neg this).trans (C.ex.ad n hn)
 ·obtain ⟨h1,p1⟩:=C.ex.pu a u h p
  exact ⟨h1,pur a (h.ne hD) p1.1 p1.2⟩
 ·obtain ⟨h1,h2⟩:=C.ex.df n l hn h
  refine ⟨?_,h2⟩
  show lL ((s2.nx,Cell.lst done)::s2.cs) n=_
  unfold lL
  rw [if_neg (fun z=>aQ (aA hn e1) z.symm)]
  exact h1
theorem CD {σ:St}{H1:Hp}{m1:Mp}{s1:Sto}{ρ:En}{J:It}{l:List PV}{D:ae}{Q:VK}{t:XT} (S1:SR X.K CB H1 m1 s1) (er:ER X.K H1 m1 s1 σ ρ) (it:oQ X.K CB J l H1 m1 s1) (hD:H1 D=none) (hlen:l.length≤100000)
  (P:Post X.K CB (Rep X.K) E ((lX t f (lJ ix ρ) l s1).bind fun vs s2=>.ok (.ref s2.nx) (s2.add (.lst vs))) H1 m1 s1 Q):AG J (TDT X.K CB E0 t) (TDE X.K CB E0 f) (capt ix σ) D H1 Q:=by
 refine ⟨fun i k ys H2=>∃ done m2 s2,Cmp X.K CB D H1 m1 s1 (capt ix σ) (lJ ix ρ) ys done H2 m2 s2∧i≤l.length∧ys.length≤i∧k=l.length - i∧(lX t f (lJ ix ρ) l s1).bind (fun vs s2=>.ok (PV.ref s2.nx) (s2.add (.lst vs)))=(lX t f (lJ ix ρ) (l.drop i) s2).bind fun vs s2=>.ok (.ref s2.nx) (s2.add (.lst (done++vs))),⟨l.length,[],m1.hide D,s1,Cmp.start S1 (er.capt ix) hD,bA _,bA _,rfl,?_⟩,?_⟩
 ·simp
 rintro i k ys H2 ⟨done,m2,s2,C,hi,hy,rfl,eq⟩
 obtain ⟨it1,it2⟩:=it i H2 m2 s2 C.e0 C.sr
 by_cases hlt:i < l.length
 ·right
  have hq:l[i]?=some l[i]:=bB hlt
  obtain ⟨go,yl⟩:=it1 _ hq
  refine ⟨go,fun x H3 hyl=>?_⟩
  obtain ⟨e3,S3,r3⟩:=yl x H3 hyl
  have C3:=C.step hD e3 S3
  rw [fW hlt] at eq
  rw [eq] at P
  rw [mF] at P eq
  refine ⟨some l[i]::lJ ix ρ,s2,m2,C3.er.cons r3,S3,?_⟩
  cases ct:t (some l[i]::lJ ix ρ) s2 with
  | bad=>rw [ct] at P;exact P.elim
  | ex c3 s3=>rw [ct] at P;exact P.elim
  | ok bt s3 =>
   rw [ct] at P eq
   intro b4 H4 m4 e4 S4 hb
   subst hb
   have C4:=C3.step hD e4 S4
   cases b4 with
   | false =>
    exact F7 ⟨l.length - (i+1),by omega,done,m4,s3,C4,hlt,by omega,rfl,eq⟩
   | true =>
    refine F6 ⟨some l[i]::lJ ix ρ,s3,m4,C4.er.cons (r3.ext e4),S4,?_⟩
    dsimp only at P eq
    cases cf:f (some l[i]::lJ ix ρ) s3 with
    | bad=>rw [cf] at P;exact P.elim
    | ex c5 s5=>rw [cf] at P;exact P.elim
    | ok v s5 =>
     rw [cf] at eq
     intro w H5 m5 e5 S5 r5
     have C5:=C4.step hD e5 S5
     refine ⟨C5.at_,bi (aN hy (aN hi hlen)) (by decide),l.length - (i+1),by omega,done++[v],m5,s5,C5.push hD r5,hlt,by simp;omega,rfl,?_⟩
     rw [eq]
     dsimp only
     cases hh:lX t f (lJ ix ρ) (l.drop (i+1)) s5 with
     | ok vs s6=>simp [Out.bind]
     | ex c6 s6=>exact absurd hh sP
     | bad=>rfl
 ·left
  have hle:l.length≤i:=gA hlt
  rw [gD hle] at eq
  rw [eq] at P
  unfold lX at P
  obtain ⟨S2',x2'⟩:=C.cell hD fun z=>(S1.hs D z).1 hD
  have P:Post X.K CB (Rep X.K) E (.ok (.ref s2.nx) (s2.add (.lst (done++[])))) H1 m1 s1 Q:=P
  rw [cg] at P
  refine ⟨it2 hle,C.at_,?_⟩
  have P:=P (.ref D) H2 ((m2.bare m1.hid).add s2.nx D [D]) x2' S2'
  have e0:((m2.bare m1.hid).add s2.nx D [D]).ad s2.nx=D:=if_pos rfl
  refine P ?_
  have r:=Rep.ref (K:=X.K) (H:=H2) (m:=(m2.bare m1.hid).add s2.nx D [D]) (s:=s2.add (.lst done)) (n:=s2.nx) (dA _)
  rw [e0] at r
  exact r
theorem yV {σ:St}{H:Hp}{Q:VK}{t:XT} (q:TDE X.K CB E (uk fi ix t f) σ H Q):CN (TDI X.K CB E fi) ix (TDT X.K CB E0 t) (TDE X.K CB E0 f) σ H Q:=by
 obtain ⟨ρ,s,m,er,S,P⟩:=q
 refine ⟨ρ,s,m,er,S,?_⟩
 unfold uk at P
 cases c:fi ρ s with
 | bad=>rw [c] at P;exact P
 | ex c' s'=>rw [c] at P;exact P
 | ok l s1 =>
  rw [c] at P
  dsimp only [Out.bind] at P
  split at P
  ·rename_i hlen
   intro J H1 m1 e1 S1 it D hD
   exact CD S1 (er.ext e1) it hD hlen (Post.shift e1 P)
  ·exact P.elim
theorem yU {i:Nat}{y:Str}{py spos:Pos} (hN:X.N.Nodup) (hiy:X.N[i]?=some y) (hly:X.env.scope.names.lookup y=some .local) (hc:X.calm=true) (S:CompOk X.N X.env.scope scope x fr ix) (hi:DI X CB E (.Name x px) iter fi)
  (ht:∀ cl C s₃ H₃ fp,DIfs (blk X scope cl C (x::fr) s₃ H₃ fp) CB ifs t) (he:∀ cl C s₃ H₃ fp,DE (blk X scope cl C (x::fr) s₃ H₃ fp) CB E0 elt f)
  (hsw:fe (.ListComp elt [⟨.Name x px,iter,ifs,0⟩] scope pos) (some (.Name y py)) spos.line X.env=pure true:=by rfl)
  (hs:∀ v,di iter X.env v=pure v:=by intro _;rfl):DS X CB E (.Assign [.Name y py] (.ListComp elt [⟨.Name x px,iter,ifs,0⟩] scope pos) spos) (xSet i (uk fi ix t f)) :=
 ⟨(Ac hN hiy hly hc S hi.pi (fun cl C s₃ H₃ fp=>(ht cl C s₃ H₃ fp).pifs) (fun cl C s₃ H₃ fp=>(he cl C s₃ H₃ fp).pe) hsw hs).mono fun D σ H ⟨ρ,s,m,er,S,P⟩ =>
  yV ⟨ρ,s,m,er,S,Post.so P fun v s1 u H1 m1 e1 S1 r1 P1=>P1.next S1 ((er.ext e1).set i r1)⟩⟩
theorem Et:CallR X (.builtin "any") (fun xs H Q=>∃ (p:ae) (bs:List Bool),xs=[.ref p]∧SqL X.K H p (bs.map V.bl)∧X.calm=true∧Q (.bl (bs.any id)) H):=by
 intro pins s σ H xs us Q I r h
 obtain ⟨p,bs,rfl,hq,hc,q⟩:=h
 obtain ⟨u,rfl,ru⟩:=oW r
 cases ru
 obtain ⟨its,rv,pl,hz2⟩:=I.list hq
 have hl:its.length=bs.length:=by have:=rv.length;rw [aq] at this;exact this.symm
 have hne:p≠s.heap.objs.size:=by obtain ⟨o,ho,_⟩:=pl.isList;exact aQ (aI ho)
 refine call_any_walk (fm pl.isList ?_)
 refine ⟨s.heap.objs.size,_,_,its.toArray.size,_,_,fun i=>(bs[i]?).getD false,rfl,j5 (show X.A.in1.handled=none from I.ok.hd hc) _ p hne its.toArray,⟨⟨_,bg _ rfl,rfl,rfl⟩,pl.isList.push _⟩,?_,fun h' tk hk=>?_⟩
 ·intro i v s' Q' E' hP hQ
  have hP:its.toArray[i]?=some v:=hP
  have hv:its[i]?=some v:=by simpa using hP
  have hi:i < its.length:=(aZ.mp hv).1
  obtain ⟨u',hu',ru'⟩:=rv.get (i:=i) (x:=.bl bs[i]) (by simp [← hl,hi])
  rw [hv] at hu'
  cases hu'
  cases ru'
  refine de ?_
  have e:(bs[i]?).getD false=bs[i]:=by simp [← hl,hi]
  rw [← e]
  exact hQ
 ·have I1:Inv X pins σ H { s with heap:=h',toks:=tk }:=I.kept fun b o e=>hk b o (fun z=>by
   have e1:b=s.heap.objs.size:=by simpa using z
   exact absurd (aI e) (by rw [e1];exact cD _)) (ax _ e)
  refine ⟨.bl _,H,I1,rfl,?_⟩
  have e:(dG its.toArray.size).any (fun i=>(bs[i]?).getD false)=bs.any id:=by
   rw [aU,hl,bL,cP,cP]
   constructor
   ·rintro ⟨i,hi,z⟩
    have hi:=eY.mp hi
    exact ⟨bs[i],cO hi,by simpa [hi] using z⟩
   ·rintro ⟨b,hb,z⟩
    obtain ⟨i,hi,rfl⟩:=jW.mp hb
    exact ⟨i,eY.mpr hi,by simpa [hi] using z⟩
  rw [e]
  exact q
def G3 (vs:List PV) (s:Sto):Out PV:=match vs with
 | [v]=>match lsOf s v with
  | some l=>match vq l with
   | some bs=>.ok (.bl (bs.any id)) s
   | none=>.bad
  | none=>.bad
 | _=>.bad
theorem b_any (hc:X.calm=true):BltR X CB E (.builtin "any") G3:=⟨_,Et,by
 intro H m s v x Q S rx P
 unfold G3 at P
 split at P
 ·cases rx with
  | cons r n =>
   cases n
   split at P
   ·rename_i l hl
    split at P
    ·rename_i bs hb
     obtain ⟨a,vs,rfl,q,r⟩:=r.ls S hl
     have e:=rZ r hb
     subst e
     exact ⟨a,bs,rfl,q,hc,P.here S .bl⟩
    ·exact P.elim
   ·exact P.elim
 ·exact P.elim⟩
def yv:List PV→Sto→Option (List PV×Sto)
 | [],s=>some ([],s)
 | v::r,s=>match frz1 v s with
  | .ok w s1=>match yv r s1 with
   | some (r',s2)=>some (w::r',s2)
   | none=>none
  | _=>none
def G0 (v:PV) (s:Sto):Out PV:=match frz1 v s with
 | .ok (.lst l) s1=>match yv l s1 with
  | some (l',s2)=>.ok (.lst l') s2
  | none=>.bad
 | _=>.bad
def uF (f:XE) (ρ:En) (s:Sto):Out PV:=(f ρ s).bind G0
theorem zw {K:aa}{H:Hp}{m:Mp}:∀ {l l':List PV}{vs:List V}{s s':Sto},SR K CB H m s→Reps K H m s vs l→yv l s=some (l',s')→SR K CB H m s'∧Ext H m s H m s'∧Reps K H m s' vs l'
 | [],_,_,_,_,S,r,e=>by cases e;cases r;exact ⟨S,.refl,.nil⟩
 | v::l,l',_,s,s',S,.cons r1 r2,e=>by
  unfold yv at e
  split at e
  ·rename_i w s1 h1
   split at e
   ·rename_i r' s2 h2
    cases e
    obtain ⟨S1,x1,q1⟩:=S.frz r1 h1
    obtain ⟨S2,x2,q2⟩:=zw S1 (r2.ext x1) h2
    exact ⟨S2,x1.trans x2,.cons (q1.ext x2) q2⟩
   ·cases e
  ·cases e
theorem Bn (h:DE X CB E e f):DE X CB E e (uF f):=⟨h.pe.mono fun σ H Q ⟨ρ,s,m,er,S,P⟩=>⟨ρ,s,m,er,S,P.bind fun v s1 u H1 m1 e1 S1 r1 P1=>by
 unfold G0 at P1
 split at P1
 ·rename_i l s2 h2
  obtain ⟨S2,x2,r2⟩:=S1.frz r1 h2
  split at P1
  ·rename_i l' s3 h3
   cases r2 with
   | lst g1 g2 g3 =>
    obtain ⟨S3,x3,r3⟩:=zw S2 g3 h3
    have r4:=Rep.ext x3 (Rep.lst g1 g2 g3)
    cases r4 with
    | lst k1 k2 k3=>exact P1 _ H1 m1 (x2.trans x3) S3 (.lst g1 k2 r3)
  ·exact P1.elim
 ·exact P1.elim⟩⟩
end
section
variable {prog:aV}{w:bz}{A:bH}{R:jM→al→Prop}{s:al}
end
structure CompOkG (N:List Str) (esc:du) (scope:du) (xs fr:List Str) (ix:List Nat):Prop where
 kind:scope.kind=.function
 cell:∀ y∈scope.names,y.2≠.cell
 nm:∀ y∈scope.names,y.2=.local→scope.names.lookup y.1=some .local
 free:∀ y∈scope.names,y.2=.free→esc.names.lookup y.1=some .cell
 nd:(xs++fr).Nodup
 idx:∀ p∈fr.zip ix,N[p.2]?=some p.1
 frs:∀ y∈fr,scope.names.lookup y=some .free∧esc.names.lookup y=some .cell
 len:ix.length=fr.length
section
variable {X:Cx}{elt iter tg:bh}{ifs:List bh}{pos:Pos}{scope:du}{wi:TI}{tc:TT}{te:TE}{gt:TG}{xs fr:List Str}{ix:List Nat}
end
def y2:XG:=yTup 2 (yCons (yName 0) (yCons (yName 1) yNil))
section
variable {X:Cx}{CB:ae}{E:XK}{elt iter tg:bh}{ifs:List bh}{f:XE}{fi:XA}{t:XT}{pos:Pos}{scope:du}{xs fr:List Str}{ix:List Nat}
variable {x1' x2':Str}{q1 q2 q3:Pos}{kt:Nat}
def fMax (vs:List PV) (s:Sto):Out PV:=match vs with
 | [.int i,.int j]=>.ok (.int (if j > i then j else i)) s
 | _=>.bad
theorem b_max (hc:X.calm=true):BltR X CB E (.builtin "max") fMax:=⟨_,CG hc,by
 intro H m s v x Q S rx P
 unfold fMax at P
 split at P
 ·cases rx with
  | cons r n=>cases n with
   | cons r2 n2=>cases n2;cases r;cases r2;exact ⟨_,_,rfl,P.here S .int⟩
 ·exact P.elim⟩
end
structure DEx (X:Cx) (CB:ae) (e:bh) (f:XE):Prop where
 pex:PEx X e (fun E=>TDE X.K CB E f)
structure DSx (X:Cx) (CB:ae) (st:bM) (u:XS):Prop where
 psx:PSx X st (fun E=>TDS X.K CB E u)
def sv (n:Nat) (D:XF) (fa:XA) (ρ:En) (s:Sto):Out PV:=match fa ρ s with
 | .ok vs s1=>if vs.length=n then D vs s1 else .bad
 | _=>.bad
section
variable {X:Cx}{CB:ae}{E:XK}{a b c e:bh}{es:List bh}{f g h:XE}{fa:XA}{t:XT}{p pos pos' apos cpos np hp:Pos}{x y:Str}{st b₀:bM}{bs sts:List bM}{u v:XS}{n k:Nat}{D:XF}{ps:List Str}
theorem PEx.mono {t t':XK→TE} (h:PEx X e t) (k:∀ E σ H Q,t' E σ H Q→t E σ H Q):PEx X e t':=fun pins s σ H Q E I q=>h pins s σ H Q E I (k E σ H Q q)
theorem PSx.mono {t t':XK→TS} (h:PSx X st t) (k:∀ E D σ H,t' E D σ H→t E D σ H):PSx X st t':=fun pins s σ H D E I q=>h pins s σ H D E I (k E D σ H q)
theorem Ix (F:Fn X.prog X.w X.K X.mg X.base x k ps (spD X.K CB n D)) (hr:Room k X.A) (hg:Gl X x) (ha:DA X.nox CB E0 (e::es) fa) (hdb:(x == ("__debug__":Str))=false:=by decide)
  (he:aK (e::es) X.env=(false,eval e X.env)::aK es X.env:=by rfl) (hpl:(cj pos (aK es X.env)).any (·.1)=false:=by rfl):DEx X CB (.Call (.Name x p) (e::es) [] pos) (sv n D fa) :=
 ⟨(HD F hr hg ha.pa hdb he hpl).mono fun E σ H Q ⟨ρ,s,m,er,S,P⟩=>⟨ρ,s,m,er,S,by
  unfold sv at P
  cases cc:fa ρ s with
  | bad=>rw [cc] at P;exact P
  | ex c s1=>rw [cc] at P;exact P.elim
  | ok vs s1 =>
   rw [cc] at P
   dsimp only at P
   split at P
   ·rename_i hl
    intro us H1 m1 e1 S1 r1
    rw [cg]
    exact ⟨by rw [r1.length];exact hl,vs,s1,m1,r1,S1,Post.shift e1 P⟩
   ·exact P.elim⟩⟩
theorem DH {te:XK→TE} (he:PEx X e te) (hs:fe e none pos.line X.env=pure false:=by rfl):PSx X (.Expr e pos) (fun E=>GE (te E)):=by
 intro pins s σ H D E I h
 exact wpAny_Expr_any (thn (he pins s σ H _ E I h) fun v s1 ⟨x,H1,I1,r1,q1⟩=>⟨σ,H1,I1,q1⟩) I.quiet hs
theorem Is (he:DEx X CB e f) (hs:fe e none pos.line X.env=pure false:=by rfl):DSx X CB (.Expr e pos) (xDo f) :=
 ⟨(DH he.pex hs).mono fun E D σ H ⟨ρ,s,m,er,S,P⟩=>⟨ρ,s,m,er,S,Post.so P fun v s1 u H1 m1 e1 S1 r1 P1=>P1.next S1 (er.ext e1)⟩⟩
open Classical in
def Ff (i:Nat) (cl:List ae) (u h:XS) (ρ:En) (s:Sto):SO:=match u ρ s with
 | .ex c s1=>if c∈cl then (match h (ρ.set i (some (.exc c))) s1 with
  | .nx ρ' s'=>.nx (ρ'.set i none) s'
  | .rt v s'=>.rt v s'
  | _=>.bad) else .bad
 | o=>o
theorem ER.put {K:aa}{H:Hp}{m:Mp}{s:Sto}{σ:St}{ρ:En} (h:ER K H m s σ ρ) (i:Nat):ER K H m s (σ.set i none) (ρ.set i none) :=
 ⟨by rw [iR,iR];exact h.len,fun j p q=>by
  by_cases z:i=j
  ·subst z
   rw [iy] at q
   split at q
   ·split at q <;> cases q
   ·exact absurd rfl ‹_›
  ·rw [fE z] at q ⊢
   exact h.at_ j p q⟩
theorem Iu {cl:List ae}{D0:ae}{i:Nat}{nm:Str} (hc:X.calm=true) (hst:X.stack=X.env::X.outer) (hf:X.env.frame=some X.env.locals) (hex:X.ex=[]) (hb:DSx X CB st u) (hg:Gl X x) (hm:X.mg x=some (.ref D0)) (ZD:Exc X.K D0)
  (hcl:∀ c∈cl,Exc X.K c∧bj X.K c (.ref D0)=some true) (hN:X.N.Nodup) (hi:X.N[i]?=some nm) (hl:X.env.scope.names.lookup nm=some .local) (hh:∀ a,DSs (hnd X a) CB E0 (b₀::bs) v) (hd:(x == ("__debug__":Str))=false:=by decide) :
  DS X CB E (.Try [st] [.ExceptHandler (some (.Name x np)) (some nm) (b₀::bs) hp] [] [] pos) (Ff i cl u v) :=
 ⟨(Hv (th:=TDS X.K CB E0 v) hc hst hf hex (DF hb.psx) hg hm ZD hN hi hl (fun a=>(hh a).pss) hd).mono fun D σ H ⟨ρ,s,m,er,S,P⟩=>by
  refine ⟨ρ,s,m,er,S,?_⟩
  unfold Ff at P
  cases cc:u ρ s with
  | nx=>rw [cc] at P;exact P
  | rt=>rw [cc] at P;exact P
  | bk=>rw [cc] at P;exact P
  | ct=>rw [cc] at P;exact P
  | bad=>rw [cc] at P;exact P
  | ex c s1 =>
   rw [cc] at P
   dsimp only at P
   split at P
   ·rename_i hin
    intro H' m' e1 S1
    refine ⟨c,rfl,(hcl c hin).1,(hcl c hin).2,fun ad hn=>?_⟩
    have k:=My.pj (o:=Bh c ad) hn
    have e2:Ext H' m' s1 (upd H' ad (Bh c ad)) m' s1:=.same k
    have r2:Rep X.K (upd H' ad (Bh c ad)) m' s1 (.ref ad) (.exc c):=.exc kD (S1.pure_none hn)
    refine ⟨ρ.set i (some (.exc c)),s1,m',((er.ext e1).ext e2).set i r2,S1.same k,?_⟩
    have P:=PostS.shift (e1.trans e2) P
    cases ch:v (ρ.set i (some (.exc c))) s1 with
    | nx ρ' s'=>rw [ch] at P;exact fun σ' H2 m2 x2 S2 er2=>P _ H2 m2 x2 S2 (er2.put i)
    | rt w s'=>rw [ch] at P;exact P
    | bk=>rw [ch] at P;exact P.elim
    | ct=>rw [ch] at P;exact P.elim
    | ex=>rw [ch] at P;exact P.elim
    | bad=>rw [ch] at P;exact P.elim
   ·exact P.elim⟩
open Classical in
def n8 (cl:List ae) (tb:ae→Bool) (f:XE) (ρ:En) (s:Sto):Out PV:=(f ρ s).bind fun v s1=>match v with
 | .exc c=>if c∈cl then .ok (.bl (tb c)) s1 else .bad
 | .non=>.ok (.bl false) s1
 | _=>.bad
theorem u5 {cl:List ae}{tb:ae→Bool}{cv:V}{tC':TE} (hcv:(∃ a,cv=.ref a)∨∃ n,cv=.ty n) (hk:∀ c∈cl,Exc X.K c∧ao X.K (.ref c) (G7 cv)=some (tb c)) (hn:ao X.K (.type "NoneType") (G7 cv)=some false)
  {σ:St}{H:Hp}{Q:VK} (q:TDE X.K CB E (n8 cl tb f) σ H Q):TDE X.K CB E f σ H fun u H1=>rIsi X.K [u,cv] H1 Q:=by
 obtain ⟨ρ,s,m,er,S,P⟩:=q
 refine ⟨ρ,s,m,er,S,P.bind fun v s1 u H1 m1 e1 S1 r1 P1=>?_⟩
 split at P1
 ·rename_i c
  split at P1
  ·rename_i hc
   cases r1 with
   | exc h1 h2=>exact ⟨_,cv,.ref c,tb c,rfl,hcv,.inr (.inl ⟨_,c,rfl,rfl,h1,(hk c hc).1⟩),(hk c hc).2,P1.here S1 .bl⟩
  ·exact P1.elim
 ·cases r1
  exact ⟨_,cv,.type "NoneType",false,rfl,hcv,.inl .non,hn,P1.here S1 .bl⟩
 ·exact P1.elim
theorem nL {cl:List ae}{tb:ae→Bool}{C:ae}{px:Pos} (hgi:Gl X "isinstance") (hmi:X.mg "isinstance"=none) (ha:DE X CB E a f) (hg:Gl X x) (hm:X.mg x=some (.ref C)) (hk:∀ c∈cl,Exc X.K c∧ao X.K (.ref c) (.ref C)=some (tb c)) (hn:ao X.K (.type "NoneType") (.ref C)=some false) (hd:(x == ("__debug__":Str))=false)
  (hs:aK [a,.Name x px] X.env=(false,eval a X.env)::aK [.Name x px] X.env:=by rfl) (hpl:(cj pos (aK [.Name x px] X.env)).any (·.1)=false:=by rfl):DE X CB E (.Call (.Name "isinstance" p) [a,.Name x px] [] pos) (n8 cl tb f) :=
 ⟨(mC zL hgi hmi rN (kJ ha.pe (kJ (nJ (v:=.ref C) hg hm rfl hd) pa_nil) hs) (by decide) (by decide) hs hpl).mono fun σ H Q q=>u5 (cv:=.ref C) (tC':=fun _ _ _=>True) (.inl ⟨_,rfl⟩) hk hn q⟩
theorem Go {cl:List ae}{tb:ae→Bool}{px:Pos} (hgi:Gl X "isinstance") (hmi:X.mg "isinstance"=none) (ha:DE X CB E a f) (hg:Gl X "ValueError") (hm:X.mg "ValueError"=none) (hv:bJ "ValueError"=some (.type "ValueError")) (hk:∀ c∈cl,Exc X.K c∧ao X.K (.ref c) (.type "ValueError")=some (tb c)) (hn:ao X.K (.type "NoneType") (.type "ValueError")=some false)
  (hs:aK [a,.Name "ValueError" px] X.env=(false,eval a X.env)::aK [.Name "ValueError" px] X.env:=by rfl) (hpl:(cj pos (aK [.Name "ValueError" px] X.env)).any (·.1)=false:=by rfl):DE X CB E (.Call (.Name "isinstance" p) [a,.Name "ValueError" px] [] pos) (n8 cl tb f) :=
 ⟨(mC zL hgi hmi rN (kJ ha.pe (kJ (FM (v:=.ty "ValueError") hg hm hv rfl) pa_nil) hs) (by decide) (by decide) hs hpl).mono fun σ H Q q=>u5 (cv:=.ty "ValueError") (tC':=fun _ _ _=>True) (.inr ⟨_,rfl⟩) hk hn q⟩
end
def AE (PT:ae) (H:Hp):Prop:=H PT=some (.tbl #[])∧∀ b,b≠PT→H b=none∨∃ o xs,H b=some (.frz o (.lst xs))
theorem CK {mg:Str→Option af}{h:bK}{H:Hp}{a PT:ae}{vs:List af} (ha:h.get? a=some { cls:=.type "list",data:=.seq vs.toArray }) (hPT:h.get? PT=some (gH #[])) (hns:h.Ns au mg)
  (hbm:∃ bm ob,mg "__builtins__"=some (.ref bm)∧bm≠dM∧h.get? bm=some ob∧ob.cls=.type "module"∧ob.dict=some dM∧ob.data=.plain) (hA:∀ b,H b≠none→b=a∨b=PT):wB mg (yf h H) PT:=by
 obtain ⟨bm,ob,h1,h2,h3,h4,h5,h6⟩:=hbm
 have nP:bm≠PT:=fun z=>by
  rw [z,hPT] at h3;cases h3;cases h4
 refine ⟨bm,ob,h1,h2,fun z=>?_,nP,zq h3 ?_,h4,h5,h6⟩
 ·obtain ⟨o,es,ep,e,d,_⟩:=hns
  rw [z,e] at h3
  cases h3
  rw [h6] at d;cases d
 ·cases q:H bm with
  | none=>rfl
  | some u =>
   rcases hA bm (by rw [q];simp) with e | e
   ·rw [e,ha] at h3;cases h3;cases h5
   ·exact absurd e nP
theorem Cm {P:aV}{w:bz}{K:aa}{mg mb:Str→Option af}{CX:CXT}{k:Nat}{fa a:ae}{fd:bR}{x:Str}{sp:Sp}{s₁:al}{vs:List af}{ns:List Int}
  (KX:K.In s₁.heap) (hns:s₁.heap.Ns au mg) (hb:s₁.heap.Ns dM mb) (hbb:∀ x:Str,x≠"__name__"→mb x=bJ x) (hlim:s₁.heap.NoLimit) (hg:s₁.gens=#[])
  (ha:s₁.heap.get? a=some { cls:=.type "list",data:=.seq vs.toArray }) (hi:IntsAre vs ns) (hl:ns.length≤aP) (hr:Room k iU)
  (hbm:∃ bm ob,mg "__builtins__"=some (.ref bm)∧bm≠dM∧s₁.heap.get? bm=some ob∧ob.cls=.type "module"∧ob.dict=some dM∧ob.data=.plain) {PT:ae} (F:∀ base:bK,K.In base→base.Ns au mg→wB mg base PT→FnOk P w K mg base CX k fa fd [x] sp) (hbind:∀ (s:al) (u:af),i5 s fd ⟨[u],[]⟩ [(x,u)])
  (hPT:s₁.heap.get? PT=some (gH #[])) (hPK:K.lookup PT=none) (hct:isCodeTable s₁.heap PT) (hsp:∀ H:Hp,AE PT H→SqL K H a (ns.map V.int)→sp [.ref a] H (fun v _=>v=.bl true) fun _ _ _=>False)
  (hCX:∀ H e s',CX [] H s₁ (fun _ _ _=>False) e s'→False) :
  ft (model P w) iU (.call (.ref fa) ⟨[.ref a],[]⟩) (fun r s'=>r=.ok (.ret (.bool true))∧OldK s₁.heap s'.heap∧s'.os=s₁.os∧gC s'.gens) s₁:=by
 have rv:=wH hi
 have lenV:=hi.length
 have core:∀ H:Hp,AE PT H→SqL K H a (ns.map V.int)→HOk P w H s₁.heap→(∀ b,H b≠none→b=a∨b=PT)→(H a≠none→K.lookup a=none) →
   ft (model P w) iU (.call (.ref fa) ⟨[.ref a],[]⟩) (fun r s'=>r=.ok (.ret (.bool true))∧OldK s₁.heap s'.heap∧s'.os=s₁.os∧gC s'.gens) s₁:=by
  intro H hO hS hok hA hK
  have base_of:∀ {b:ae}{o:Obj},s₁.heap.get? b=some o→H b=none→(yf s₁.heap H).get? b=some o:=fun e n=>zq e n
  have noA:∀ {b:ae}{o:Obj}{es:Array DictEntry}{ep:Nat},s₁.heap.get? b=some o→o.data=.dict es ep→H b=none:=fun {b o es ep} e d=>by
   cases q:H b with
   | none=>rfl
   | some u =>
    rcases hA b (by rw [q];simp) with e' | e'
    ·subst e'
     rw [ha] at e;cases e
     have d':Data.seq vs.toArray _=Data.dict es ep:=d
     cases d'
    ·subst e'
     rw [hPT] at e;cases e
     have d':Data.fields #[]=Data.dict es ep:=d
     cases d'
  have nsK:∀ {b:ae}{m:Str→Option af},s₁.heap.Ns b m→(yf s₁.heap H).Ns b m:=fun {b m} ⟨o,es,ep,e,d,r⟩=>⟨o,es,ep,base_of e (noA e d),d,r⟩
  have hKb:K.In (yf s₁.heap H):=fun b o e=>base_of (KX b o e) (by
   cases q:H b with
   | none=>rfl
   | some u =>
    rcases hA b (by rw [q];simp) with e' | e'
    ·subst e'
     rw [hK (by rw [q];simp)] at e;cases e
    ·subst e'
     rw [hPK] at e;cases e)
  have hM:Mod K mg (yf s₁.heap H):=⟨hKb,nsK hns,⟨mb,nsK hb,hbb⟩,let ⟨mc,h1,h2⟩:=hlim;⟨mc,nsK h1,h2⟩⟩
  have e0:Env0 P w K mg (yf s₁.heap H) iU [] s₁ H:=⟨rfl,hM,fun b o e=>FV e,jQ (Cu _ _),trivial,fun b hb=>absurd (show b∈([]:List ae) from hb) (by simp),hok,.of_eq hg⟩
  have hBM:wB mg (yf s₁.heap H) PT:=CK ha hPT hns hbm hA
  refine eA ((F _ hKb (nsK hns) hBM).run iU [] s₁ H ⟨[.ref a],[]⟩ [.ref a] [.ref a] _ _ hr e0 (hbind s₁ (.ref a)) (.cons rfl .nil) (hsp H hO hS)) fun r s' h=>?_
  cases r with
  | error e=>exact (hCX H e s' h).elim
  | ok fl =>
   cases fl with
   | next=>exact bu h
   | brk=>exact bu h
   | cont=>exact bu h
   | ret u =>
    obtain ⟨v,H',os,bare,un,hok',r',q⟩:=h
    have q':v=.bl true:=q
    subst q'
    obtain rfl:u=iY true:=r'
    obtain ⟨more,hm⟩:=un.tbls PT _ hO.1
    have hm':s'.heap.get? PT=some { cls:=.none,data:=.fields (#[]++more) }:=hok' PT _ hm
    have keep:∀ b o,b≠PT→s₁.heap.get? b=some o→s'.heap.get? b=some o:=fun b o hb e=>by
     cases q:H b with
     | none=>exact un.keep b o e q (by intro z;exact absurd (show b∈([]:List ae) from z) (by simp)) (by simp)
     | some u =>
      rcases hO.2 b hb with z | ⟨ob,xs,z⟩
      ·rw [q] at z;cases z
      ·have z2:=un.frzs b ob _ z
       obtain ⟨e1,_⟩:=hok b _ z
       obtain ⟨e2,_⟩:=hok' b _ z2
       rw [e] at e1;cases e1
       exact e2
    refine ⟨rfl,⟨fun b o e=>?_,fun b o e=>?_⟩,os,bare⟩
    ·by_cases hb:b=PT
     ·subst hb
      rw [hPT] at e;cases e
      exact .inr (.inl ⟨hct,rfl,#[],more,rfl,hm'⟩)
     ·exact .inl (keep b o hb e)
    ·by_cases hb:b=PT
     ·subst hb;exact ⟨_,hm'⟩
     ·exact ⟨o,keep b o hb e⟩
 have nPa:PT≠a:=fun z=>by rw [z,ha] at hPT;cases hPT
 cases hk:K.lookup a with
 | some o =>
  have e:=KX a o hk
  rw [ha] at e
  cases e
  have g1:(fun b=>if b=PT then some (HO.tbl #[]) else none:Hp) PT=some (.tbl #[]):=if_pos rfl
  have g2:∀ b,b≠PT→(fun b=>if b=PT then some (HO.tbl #[]) else none:Hp) b=none:=fun b h=>if_neg h
  generalize (fun b=>if b=PT then some (HO.tbl #[]) else none:Hp)=H at g1 g2
  refine core H ⟨g1,fun b hb=>.inl (g2 b hb)⟩ (.inr ⟨_,vs.toArray,_,hk,rfl,rfl,rfl,by rw [aU,lenV];exact hl,by simpa using rv⟩) (fun b u z=>?_) (fun b z=>?_) fun z=>absurd (g2 a nPa.symm) z
  ·by_cases hb:b=PT
   ·subst hb;rw [g1] at z;cases z;exact hPT
   ·rw [g2 b hb] at z;cases z
  ·by_cases hb:b=PT
   ·exact .inr hb
   ·exact absurd (g2 b hb) z
 | none =>
  have g1:(fun b=>if b=PT then some (HO.tbl #[]) else if b=a then some (.frz { cls:=.type "list",data:=.seq vs.toArray } (.lst (ns.map V.int))) else none:Hp) PT=some (.tbl #[]):=if_pos rfl
  have g3:(fun b=>if b=PT then some (HO.tbl #[]) else if b=a then some (.frz { cls:=.type "list",data:=.seq vs.toArray } (.lst (ns.map V.int))) else none:Hp) a=some (.frz { cls:=.type "list",data:=.seq vs.toArray } (.lst (ns.map V.int))):=(if_neg nPa.symm).trans (if_pos rfl)
  have g2:∀ b,b≠PT→b≠a→(fun b=>if b=PT then some (HO.tbl #[]) else if b=a then some (.frz { cls:=.type "list",data:=.seq vs.toArray } (.lst (ns.map V.int))) else none:Hp) b=none:=fun b h h'=>(if_neg h).trans (if_neg h')
  generalize (fun b=>if b=PT then some (HO.tbl #[]) else if b=a then some (.frz { cls:=.type "list",data:=.seq vs.toArray } (.lst (ns.map V.int))) else none:Hp)=H at g1 g2 g3
  refine core H ⟨g1,fun b hb=>?_⟩ (.inl (.inr ⟨{ cls:=.type "list",data:=.seq vs.toArray },g3⟩)) (fun b u z=>?_) (fun b z=>?_) fun _=>hk
  ·by_cases h:b=a
   ·subst h;exact .inr ⟨_,_,g3⟩
   ·exact .inl (g2 b hb h)
  ·by_cases hb:b=PT
   ·subst hb;rw [g1] at z;cases z;exact hPT
   ·by_cases h:b=a
    ·subst h
     rw [g3] at z
     cases z
     exact ⟨ha,by rw [aq];exact hl,vs,_,rv,ha⟩
    ·rw [g2 b hb h] at z;cases z
  ·by_cases hb:b=PT
   ·exact .inr hb
   ·by_cases h:b=a
    ·exact .inl h
    ·exact absurd (g2 b hb h) z
theorem walk_ofT {l:ge}{n k:Nat}{q:aV}{loose:List Str}{XP:(Str→Option af)→bK→Prop}{YP:bz→bK→Prop}{d d':DefRec}{K:Params→aa}{CX:bz→CXT}{sp:bz→Sp}{x lam:Str}
  (hn:l.most=some n) (hn2:n≤aP) (hdf:d.params.defaults=[]) (hr:Room k iU) (hY:∀ (w:bz) (h:bK),YP w h→(K w.params).In h)
  (hrec:(recsOf q).find? (fun e=>e.name == lam)=some d')
  (F:∀ (w:bz) (mg:Str→Option af) (fa:ae) (h:bK),(K w.params).In h→h.Ns au mg→mg d.name=some (.ref fa) →
   ∃ (fd:bR) (c P:ae),bS (K w.params) lam=some (c,P)∧(K w.params).lookup P=none∧(∀ (s:al) (u:af),i5 s fd ⟨[u],[]⟩ [(x,u)]) ∧
    ∀ base:bK,(K w.params).In base→base.Ns au mg→(∀ c P,bS (K w.params) lam=some (c,P)→wB mg base P)→FnOk l.prog w (K w.params) mg base (CX w) k fa fd [x] (sp w))
  (hsp:∀ (w:bz) (H:Hp) (a:ae) (ns:List Int) (c P:ae),ns.length≤n→bS (K w.params) lam=some (c,P)→AE P H→SqL (K w.params) H a (ns.map V.int)→sp w [.ref a] H (fun v _=>v=.bl true) fun _ _ _=>False)
  (hCX:∀ (w:bz) (H:Hp) (s:al) (e:af) (s':al),CX w [] H s (fun _ _ _=>False) e s'→False) :
  j7 q loose XP YP l.row.toRowW d [] (fun f vs=>j3 f vs):=by
 refine Att.attach_call hn hdf fun w s₀ s₁ mg mb fa o pm cd doc a vs ns G Y ho hd hcd hmg hobj hints hlen hg=>?_
 have KX:=hY w _ Y
 obtain ⟨fd,c,P,ht,hPK,hb,hF⟩:=F w mg fa _ KX G.T.g hmg
 obtain ⟨hc,hP⟩:=PySem.W.tab_of G.T KX hrec ht
 exact Cm KX G.T.g G.T.b G.T.builtins G.T.nolimit hg hobj hints (aN hlen hn2) hr G.T.bmain (fun base b1 b2 b3=>hF base b1 b2 fun c' P' t'=>by rw [ht] at t';cases t';exact b3) hb hP hPK (hc.tab hP).isCodeTable (fun H hO hS=>hsp w H a ns c P hlen ht hO hS) fun H e s'=>hCX w H s₁ e s'
def hdOk (vs:Array af) (c P:ae):Bool:=(match (vs[11]?:Option af) with | some (.ref P')=>P' == P | _=>false) &&
 (match vs.getD 18 .none with | .str _ _=>true | _=>false) && (match vs.getD 7 .none with | .int _ _=>true | _=>false) &&
 (match vs.getD 9 .none with | .bool _=>true | _=>false) && (match vs.getD 10 .none with | .int _ _=>true | _=>false) && c != P
theorem CF {K:aa}{c P:ae}{od:Option ae}{vs:Array af}{sl:Array (Option af)} (h:K.lookup c=some ⟨.type "code",od,.fields vs,sl⟩) (e:hdOk vs c P=true):ij K c P=true:=by
 unfold ij
 rw [h]
 exact e
theorem C9 {K:aa}{x:Str}{f c P:ae}{oc:af}{od od':Option ae}{fd:bR}{sl sl':Array (Option af)}{cl:af}{vs:Array af} (h1:aw K au x=some (some (.ref f))) (h2:K.lookup f=some ⟨oc,od,.func fd,sl⟩) (h3:fd.code=.ref c) (h4:K.lookup c=some ⟨cl,od',.fields vs,sl'⟩) (h5:(vs[11]?:Option af)=some (.ref P)):bS K x=some (c,P):=by
 unfold bS
 rw [h1]
 simp only [h2,h3,h4,h5]
end L2
namespace My
open PySem L2
def top (i:Nat):bM:=PySem.Challenge.pw_wholeowners_k33_no_holder_no_house.main.body.getD i (.Pass ⟨0,0,0,0⟩)
structure Adr where
 OwnError:ae
 NoName:ae
 Twice:ae
 TooMany:ae
 NoHolder:ae
 NoHouse:ae
 NoLoss:ae
 NoShare:ae
 NoText:ae
 Whole:ae
 Book:ae
 ZERO:ae
 ONE:ae
 HALF:ae
 t8:Tok
 t6:Tok
 u8:Tok
 kx:ae→ae→Bool
def G8 (K:aa) (a:ae) (i j:Int):Prop:=∃ (o:Obj) (its:Array af) (n:Nat),K.lookup a=some o∧o.cls=.type "tuple"∧o.data=.seq its n∧its.size≤aP∧Vals [.int i,.int j] its.toList
structure Txt (K:aa) (mg:Str→Option af) (a:Adr):Prop where
 b_len:mg "len"=none
 b_range:mg "range"=none
 b_all:mg "all"=none
 b_int:mg "int"=none
 b_abs:mg "abs"=none
 b_sorted:mg "sorted"=none
 b_tuple:mg "tuple"=none
 b_list:mg "list"=none
 b_str:mg "str"=none
 b_bool:mg "bool"=none
 b_isinstance:mg "isinstance"=none
 b_ValueError:mg "ValueError"=none
 b_any:mg "any"=none
 b_set:mg "set"=none
 b_max:mg "max"=none
 c_OwnError:mg "OwnError"=some (.ref a.OwnError)
 c_NoName:mg "NoName"=some (.ref a.NoName)
 c_Twice:mg "Twice"=some (.ref a.Twice)
 c_TooMany:mg "TooMany"=some (.ref a.TooMany)
 c_NoHolder:mg "NoHolder"=some (.ref a.NoHolder)
 c_NoHouse:mg "NoHouse"=some (.ref a.NoHouse)
 c_NoLoss:mg "NoLoss"=some (.ref a.NoLoss)
 c_NoShare:mg "NoShare"=some (.ref a.NoShare)
 c_NoText:mg "NoText"=some (.ref a.NoText)
 c_Whole:mg "Whole"=some (.ref a.Whole)
 x_OwnError:Exc K a.OwnError
 x_NoName:Exc K a.NoName
 x_Twice:Exc K a.Twice
 x_TooMany:Exc K a.TooMany
 x_NoHolder:Exc K a.NoHolder
 x_NoHouse:Exc K a.NoHouse
 x_NoLoss:Exc K a.NoLoss
 x_NoShare:Exc K a.NoShare
 g_LONGEST_NAME:mg "LONGEST_NAME"=some (.int 8 a.t8)
 g_MOST_PERSONS:mg "MOST_PERSONS"=some (.int 6 a.t6)
 g_MOST_HOUSES:mg "MOST_HOUSES"=some (.int 8 a.u8)
 g_ZERO:mg "ZERO"=some (.ref a.ZERO)
 g_ONE:mg "ONE"=some (.ref a.ONE)
 g_HALF:mg "HALF"=some (.ref a.HALF)
 zero:G8 K a.ZERO 0 1
 one:G8 K a.ONE 1 1
 half:G8 K a.HALF 1 2
 cl:Cls K a.Book
 nA_people:NoAttr K a.Book "people"
 nA_things_of:NoAttr K a.Book "things_of"
 nA_mark_of:NoAttr K a.Book "mark_of"
 nA_loss_of:NoAttr K a.Book "loss_of"
 nA_held_of:NoAttr K a.Book "held_of"
theorem Txt.r_LONGEST_NAME {K:aa}{mg:Str→Option af}{a:Adr} (T:Txt K mg a):RelV (.int 8) (.int 8 a.t8):=⟨_,rfl⟩
theorem Txt.r_MOST_PERSONS {K:aa}{mg:Str→Option af}{a:Adr} (T:Txt K mg a):RelV (.int 6) (.int 6 a.t6):=⟨_,rfl⟩
theorem Txt.r_MOST_HOUSES {K:aa}{mg:Str→Option af}{a:Adr} (T:Txt K mg a):RelV (.int 8) (.int 8 a.u8):=⟨_,rfl⟩
theorem Txt.r_ZERO {K:aa}{mg:Str→Option af}{a:Adr} (T:Txt K mg a):RelV (.ref a.ZERO) (.ref a.ZERO):=rfl
theorem Txt.r_ONE {K:aa}{mg:Str→Option af}{a:Adr} (T:Txt K mg a):RelV (.ref a.ONE) (.ref a.ONE):=rfl
theorem Txt.r_HALF {K:aa}{mg:Str→Option af}{a:Adr} (T:Txt K mg a):RelV (.ref a.HALF) (.ref a.HALF):=rfl
theorem yZ {K:aa}{p:ae}{i j:Int} (h:G8 K p i j) (H:Hp) (m:Mp) (s:Sto):Rep K H m s (.ref p) (.tup [.int i,.int j]):=.tup (.inr h) (.cons .int (.cons .int .nil))
def AY:PV:=.tup [.int 0,.int 1]
def AZ:PV:=.tup [.int 1,.int 2]
theorem Txt.p_ZERO {K:aa}{mg:Str→Option af}{a:Adr} (T:Txt K mg a) (H:Hp) (m:Mp) (s:Sto):Rep K H m s (.ref a.ZERO) AY:=yZ T.zero H m s
theorem Txt.p_HALF {K:aa}{mg:Str→Option af}{a:Adr} (T:Txt K mg a) (H:Hp) (m:Mp) (s:Sto):Rep K H m s (.ref a.HALF) AZ:=yZ T.half H m s
theorem w5 {A:bH}{k:Nat} (hr:Room k A):A.units+12 < dC:=bi (ko (by decide:12≤64) _) hr.units
theorem IG:bJ "any"=some (.builtin "any"):=by decide +kernel
theorem yesT {te:TE}{cap:St}{H:Hp}{Kt:VK}{Kf:Hp→Prop} (h:te cap H Kt):tYes cap H fun b H4=>if b=true then te cap H4 Kt else Kf H4:=by
 show if true=true then te cap H Kt else Kf H
 rw [if_pos rfl]
 exact h
theorem wR (c:Nat):(!decide ((⟨#[c]⟩:Str).cps.toList < (aF "a").cps.toList))=decide (97≤c):=by
 show (!decide ([c] < [97]))=decide (97≤c)
 rw [bL]
 simp [jS]
theorem BJ (c:Nat):(!decide ((aF "z").cps.toList < (⟨#[c]⟩:Str).cps.toList))=decide (c≤122):=by
 show (!decide ([122] < [c]))=decide (c≤122)
 rw [bL]
 simp [jS]
theorem vM {x:Str}{i c:Nat}{g:Nat→V} (hc:x.cps[i]?=some c):(x.cps.toList.take i).map g++[g c]=(x.cps.toList.take (i+1)).map g:=by
 have hc:x.cps.toList[i]?=some c:=by simpa using hc
 rw [dO,hc,aW]
 rfl
section
variable {P:aV}{w:bz}{K:aa}{mg:Str→Option af}{base:bK}{a:Adr}{f:ae}{fd:bR}
abbrev ra:bM:=top 36
theorem z8:FnScope ["text"] ["text"] (kC ra):=fsc
def low (c:Nat):Bool:=decide (97≤c) && decide (c≤122)
def tj (x:Str):Bool:=decide (1≤x.length) && decide (x.length≤8) && x.cps.toList.all low
def uL:Sp:=fun vs H Q _=>∃ x,vs=[.str x]∧Nm x∧∀ H',Same H H'→Q (.bl (tj x)) H'
theorem Am (F:Fun K "is_name" "is_name" ra f fd) (T:Txt K mg a):FnOk P w K mg base (CXo P w) 1 f fd ["text"] uL:=by
 refine F.okN z8 (fun vs H Q E h=>?_) (fun cdv A outer s H vs Q E hr h=>?_)
 ·obtain ⟨x,rfl,_⟩:=h
  rfl
 ·obtain ⟨x,rfl,nm,k⟩:=h
  have hu:=kP hr
  refine ⟨_,(@kT _ _ _ (@nY _ _ _ _ (@EL _ _ _ _ _ _ _ (zl GQ GQ pe_int (@mC _ _ _ _ _ _ _ _ _ call_len_str rfl T.b_len oP (@kJ _ _ _ _ _ (pv 0) pa_nil (by rfl)) (by decide) (by decide) (by rfl) (by rfl)) (nJ rfl T.g_LONGEST_NAME T.r_LONGEST_NAME)) (@AN _ _ _ _ _ (@mC _ _ _ _ _ _ _ _ _ zM rfl T.b_all yC (@kJ _ _ _ _ _ (uS (fr:=[]) (ix:=[]) rfl (by exact (show CompOk ["text"] (kC ra) _ _ _ _ from cok)) (Hz (pv 0)) (fun _ _ _ _ _=>vC) (fun _ _ _ _ _=>(zl wU wU pe_str (pv 0) pe_str))) pa_nil (by rfl)) (by decide) (by decide) (by rfl) (by rfl)))))),?_⟩
  have hlen:x.length≤aP:=aN nm.1 (by decide)
  refine ⟨_,rfl,_,rfl,hlen,_,_,rfl,rfl,_,rfl,rW (fun h=>?_) (fun h=>?_)⟩
  ·have h1:(1:Int)≤(x.length:Int):=of_decide_eq_true h
   refine ⟨_,_,rfl,rfl,_,rfl,rW (fun h=>?_) (fun h=>?_)⟩
   ·have h2:(x.length:Int)≤8:=of_decide_eq_true h
    refine ⟨_,rfl,x,rfl,fun D hD=>?_⟩
    refine Bq (J:=Its x) x.cps.size (fun i ys H'=>H'=upd H D (.lst ys)∧ys=(x.cps.toList.take i).map fun c=>V.bl (low c)) ⟨rfl,rfl⟩ hlen (fun i ys H' r=>by rw [r.1];exact kD) (fun i ys H' hi _=>hi) ?_ ?_
    ·rintro i ys H' v H'' hi ⟨rfl,rfl⟩ ⟨rfl,c,hc,rfl⟩ Kt Kf k1 k2
     have fin:∀ b,b=low c→Kt (V.bl b) (upd H D (.lst ((x.cps.toList.take i).map fun c=>V.bl (low c)))):=fun b hb=>by
      refine k1 _ _ kD ⟨by rw [Fj],?_⟩
      rw [hb,vM hc]
     refine yesT ⟨_,rfl,_,_,rfl,rfl,_,rfl,rW (fun h=>?_) (fun h=>?_)⟩
     ·refine ⟨_,_,rfl,rfl,fin _ ?_⟩
      rw [wR] at h
      rw [BJ]
      unfold low
      rw [h,dL]
     ·refine fin _ ?_
      rw [wR] at h
      unfold low
      rw [bU.mpr h,dW]
    ·rintro ys H' hl ⟨rfl,rfl⟩
     have e:List.take x.cps.size x.cps.toList=x.cps.toList:=List.take_of_length_le (by simp)
     rw [e]
     refine ⟨aC _,D,x.cps.toList.map low,rfl,SqL.of (by rw [kD,a7];rfl),rfl,?_⟩
     have e2:(x.cps.toList.map low).all id=tj x:=by
      have h1:1≤x.length:=by omega
      have h2:x.length≤8:=by omega
      unfold tj
      rw [decide_eq_true h1,decide_eq_true h2,fL,dL,dL]
      rfl
     rw [e2]
     exact k _ (pj hD)
   ·have h2:¬ x.length≤8:=fun z=>h (decide_eq_true (by omega))
    have e2:false=tj x:=by unfold tj;rw [decide_eq_false h2,Bool.and_false,dW]
    show Q (.bl false) H
    rw [e2]
    exact k _ fun _ _ z=>z
  ·have h2:¬ 1≤x.length:=fun z=>h (decide_eq_true (by omega))
   have e2:false=tj x:=by unfold tj;rw [decide_eq_false h2,dW,dW]
   refine ⟨_,rfl,F7 ?_⟩
   show Q (.bl false) H
   rw [e2]
   exact k _ fun _ _ z=>z
abbrev qm:bM:=top 37
theorem xI:FnScope ["number"] ["number"] (kC qm):=fsc
def sd (a:Adr):Sp:=fun vs H Q E=>∃ n,vs=[.int n]∧(n < 0→E (.ref a.NoLoss) none H)∧(0≤n→Q .non H)
theorem xN (F:Fun K "need_loss" "need_loss" qm f fd) (T:Txt K mg a):FnOk P w K mg base (CXo P w) 1 f fd ["number"] (sd a):=by
 refine F.okX xI (fun vs H Q E h=>?_) (fun cdv A outer s H vs Q E hr h=>?_)
 ·obtain ⟨x,rfl,_⟩:=h
  rfl
 ·obtain ⟨n,rfl,k1,k2⟩:=h
  have hu:=kP hr
  refine ⟨_,(@kT _ _ _ (@sG _ _ _ _ _ _ _ _ (@rm _ _ _ _ _ _ _ _ GP (pv 0) pe_int (lG _)) (@kT _ _ _ (nI T.x_NoLoss rfl T.c_NoLoss rfl pe_str uW)) pss_nil)),?_⟩
  refine ⟨_,rfl,_,_,rfl,rfl,_,rfl,rW (fun h=>?_) (fun h=>?_)⟩
  ·exact k1 (of_decide_eq_true h)
  ·exact k2 (Int.not_lt.mp fun z=>h (decide_eq_true z))
abbrev qw:bM:=mn (top 38) 0
theorem xK:FnScope ["self"] ["self"] (kC qw):=fsc
theorem DB (dp dt dm dl dh dx:ae):pS "held_of" (.ref dh) (pS "loss_of" (.ref dl) (pS "mark_of" (.ref dm) (pS "things_of" (.ref dt) (pS "people" (.ref dp) []))))=bf ⟨dx,dp,dt,dm,dl,dh⟩:=by
 simp only [pS,if_neg (show ¬ ((aF "people")=aF "things_of") by decide +kernel),if_neg (show ¬ ((aF "people")=aF "mark_of") by decide +kernel),if_neg (show ¬ ((aF "people")=aF "loss_of") by decide +kernel),if_neg (show ¬ ((aF "people")=aF "held_of") by decide +kernel),if_neg (show ¬ ((aF "things_of")=aF "mark_of") by decide +kernel),if_neg (show ¬ ((aF "things_of")=aF "loss_of") by decide +kernel),if_neg (show ¬ ((aF "things_of")=aF "held_of") by decide +kernel),if_neg (show ¬ ((aF "mark_of")=aF "loss_of") by decide +kernel),if_neg (show ¬ ((aF "mark_of")=aF "held_of") by decide +kernel),if_neg (show ¬ ((aF "loss_of")=aF "held_of") by decide +kernel)]
 rfl
structure IniAt (C:ae) (H0 H:Hp) (p dx:ae) (fs:List (Str×V)) (ds:List ae):Prop where
 ob:H p=some (.ins C dx fs)
 dd:∀ c∈ds,H c=some (.dK [])
 fr:∀ c∈ds,H0 c=none
 nd:(p::ds).Nodup
 kp:∀ c o,H0 c=some o→c≠p→H c=some o
 len:fs.length≤ds.length
theorem IniAt.at_ {C:ae}{H0 H:Hp}{p dx d:ae}{fs:List (Str×V)}{ds:List ae} (I:IniAt C H0 H p dx fs ds) (h:H d=none):(upd H d (.dK [])) p=some (.ins C dx fs):=by
 rw [kA (kH I.ob h)]
 exact I.ob
theorem IniAt.step {C:ae}{H0 H:Hp}{p dx d:ae}{fs:List (Str×V)}{ds:List ae}{f:Str} (I:IniAt C H0 H p dx fs ds) (h:H d=none) :
  IniAt C H0 (upd (upd H d (.dK [])) p (.ins C dx (pS f (.ref d) fs))) p dx (pS f (.ref d) fs) (ds++[d]):=by
 have n1:p≠d:=kH I.ob h
 obtain ⟨m1,m2⟩:=aS.mp I.nd
 have m3:d∉ds:=fun z=>by rw [I.dd d z] at h;cases h
 refine ⟨kD,fun c hc=>?_,fun c hc=>?_,?_,fun c o e hc=>?_,?_⟩
 ·rcases aM.mp hc with hc | hc
  ·have c1:c≠p:=fun z=>m1 (by rw [← z];exact hc)
   have c2:c≠d:=fun z=>m3 (by rw [← z];exact hc)
   rw [kA c1,kA c2]
   exact I.dd c hc
  ·rw [ay.mp hc,kA n1.symm,kD]
 ·rcases aM.mp hc with hc | hc
  ·exact I.fr c hc
  ·rw [ay.mp hc]
   cases q:H0 d with
   | none=>rfl
   | some o=>rw [I.kp d o q n1.symm] at h;cases h
 ·refine aS.mpr ⟨fun z=>?_,sY m2 m3⟩
  rcases aM.mp z with z | z
  ·exact m1 z
  ·exact n1 (ay.mp z)
 ·rw [kA hc,kA (fun z=>by rw [z] at e;rw [I.kp d o e (z ▸ hc)] at h;cases h)]
  exact I.kp c o e hc
 ·rw [aT]
  exact aN (qz _ _ _) (Nat.add_le_add_right I.len 1)
def Ft (K:aa) (C:ae):Sp:=fun vs H Q _=>∃ (p dx:ae),vs=[.ref p]∧H p=some (.ins C dx [])∧∀ z H',(∀ c∈[z.dp,z.dt,z.dm,z.dl,z.dh],H c=none)→BookAt K C H' p z [] []→(∀ c o,H c=some o→c≠p→H' c=some o)→Q .non H'
theorem FU (F:Fun K "__init__" "Book.__init__" qw f fd) (T:Txt K mg a):FnOk P w K mg base (CXo P w) 1 f fd ["self"] (Ft K a.Book):=by
 refine F.okN xK (fun vs H Q E h=>?_) (fun cdv A outer s H vs Q E hr h=>?_)
 ·obtain ⟨p,dx,rfl,_⟩:=h
  rfl
 ·obtain ⟨p,dx,rfl,hp,k⟩:=h
  have hu:=kP hr
  refine ⟨_,(@kN _ _ _ _ _ (vT (pv 0) pe_dnewK rfl) (@kN _ _ _ _ _ (vT (pv 0) pe_dnewK rfl) (@kN _ _ _ _ _ (vT (pv 0) pe_dnewK rfl) (@kN _ _ _ _ _ (vT (pv 0) pe_dnewK rfl) (@kT _ _ _ (vT (pv 0) pe_dnewK rfl)))))),?_⟩
  have I0:IniAt a.Book H H p dx [] []:=⟨hp,by simp,by simp,by simp,fun c o e _=>e,aC _⟩
  intro dp h1
  refine ⟨_,rfl,p,_,dx,_,rfl,I0.at_ h1,T.cl,T.nA_people,bi I0.len (show 0 < 1000 by decide),?_⟩
  have I1:=I0.step (f:="people") h1
  intro dt h2
  refine ⟨_,rfl,p,_,dx,_,rfl,I1.at_ h2,T.cl,T.nA_things_of,bi I1.len (show 1 < 1000 by decide),?_⟩
  have I2:=I1.step (f:="things_of") h2
  intro dm h3
  refine ⟨_,rfl,p,_,dx,_,rfl,I2.at_ h3,T.cl,T.nA_mark_of,bi I2.len (show 2 < 1000 by decide),?_⟩
  have I3:=I2.step (f:="mark_of") h3
  intro dl h4
  refine ⟨_,rfl,p,_,dx,_,rfl,I3.at_ h4,T.cl,T.nA_loss_of,bi I3.len (show 3 < 1000 by decide),?_⟩
  have I4:=I3.step (f:="loss_of") h4
  intro dh h5
  refine ⟨_,rfl,p,_,dx,_,rfl,I4.at_ h5,T.cl,T.nA_held_of,bi I4.len (show 4 < 1000 by decide),?_⟩
  have I5:=I4.step (f:="held_of") h5
  refine k ⟨dx,dp,dt,dm,dl,dh⟩ _ (fun c hc=>I5.fr c (by simpa using hc)) ⟨?_,I5.dd dp (by simp),I5.dd dt (by simp),I5.dd dm (by simp),I5.dd dl (by simp),⟨[],I5.dd dh (by simp),.nil,eX⟩,fun e he=>(by cases he),I5.nd,bA _,bA _⟩ I5.kp
  rw [← DB]
  exact I5.ob
abbrev nF:bM:=mn (top 38) 1
theorem sV:FnScope ["self","name"] ["self","name"] (kC nF):=fsc
def oB (K:aa) (C:ae):Sp:=fun vs H Q _=>∃ b z ppl L x,vs=[.ref b,.str x]∧BookAt K C H b z ppl L∧Q (.bl (mZ L x)) H
theorem yP (F:Fun K "is_house" "Book.is_house" nF f fd) (T:Txt K mg a):FnOk P w K mg base (CXo P w) 1 f fd ["self","name"] (oB K a.Book):=by
 refine F.okN sV (fun vs H Q E h=>?_) (fun cdv A outer s H vs Q E hr h=>?_)
 ·obtain ⟨b,z,ppl,L,x,rfl,_⟩:=h
  rfl
 ·obtain ⟨b,z,ppl,L,x,rfl,B,k⟩:=h
  have hu:=kP hr
  refine ⟨_,(@kT _ _ _ (@nY _ _ _ _ (EK (EM hu (pv 1) (mG (pv 0) rfl))))),?_⟩
  refine ⟨_,rfl,_,rfl,b,_,_,_,_,rfl,B.ob,T.cl,T.nA_held_of,rO z,_,_,rfl,B.hh.dget x,?_⟩
  rw [oS,cV]
  exact k
abbrev na:bM:=mn (top 38) 2
theorem r8:FnScope ["self","name"] ["self","name"] (kC na):=fsc
def pF (K:aa) (C:ae):Sp:=fun vs H Q _=>∃ b z ppl L x,vs=[.ref b,.str x]∧BookAt K C H b z ppl L∧Q (.bl (mq ppl x || mZ L x)) H
theorem xO (F:Fun K "is_holder" "Book.is_holder" na f fd) (T:Txt K mg a) (M_is_house:Mt P w K mg base a.Book "is_house" 1 ["self","name"] (oB K a.Book)):FnOk P w K mg base (CXo P w) 2 f fd ["self","name"] (pF K a.Book):=by
 refine F.okN r8 (fun vs H Q E h=>?_) (fun cdv A outer s H vs Q E hr h=>?_)
 ·obtain ⟨b,z,ppl,L,x,rfl,_⟩:=h
  rfl
 ·obtain ⟨b,z,ppl,L,x,rfl,B,k⟩:=h
  have hu:=kP hr
  refine ⟨_,(@kT _ _ _ (@nY _ _ _ _ (@GN _ _ _ _ _ _ _ (EK (EM hu (pv 1) (mG (pv 0) rfl))) (@AN _ _ _ _ _ (qg (pv 0) M_is_house (hr.mono (by first | decide | omega)) kU (@kJ _ _ _ _ _ (pv 1) pa_nil (by rfl))))))),?_⟩
  refine ⟨_,rfl,_,rfl,b,_,_,_,_,rfl,B.ob,T.cl,T.nA_people,re z,_,_,rfl,DGet.k (k:=aE x) B.pp,_,rfl,rW (fun h=>?_) (fun h=>?_)⟩
  ·rw [oS (key:=fun n=>n),cV] at h
   unfold mq at k
   rw [h] at k
   exact k
  ·rw [oS (key:=fun n=>n),cV] at h
   unfold mq at k
   rw [bU.mpr h] at k
   exact ⟨_,rfl,b,_,_,rfl,B.ob,pY z (by decide +kernel) (by decide +kernel) (by decide +kernel) (by decide +kernel) (by decide +kernel),_,rfl,b,z,ppl,L,x,rfl,B,k⟩
abbrev mQ:bM:=mn (top 38) 3
theorem rR:FnScope ["self","name"] ["self","name"] (kC mQ):=fsc
def ml (K:aa) (a:Adr):Sp:=fun vs H Q E=>∃ b z ppl L x,vs=[.ref b,.str x]∧BookAt K a.Book H b z ppl L∧Nm x∧(mZ L x=true→Q .non H)∧(mZ L x=false→E (.ref a.NoHouse) none H)
theorem vZ (F:Fun K "need_house" "Book.need_house" mQ f fd) (T:Txt K mg a) (M_is_house:Mt P w K mg base a.Book "is_house" 1 ["self","name"] (oB K a.Book)):FnOk P w K mg base (CXo P w) 2 f fd ["self","name"] (ml K a):=by
 refine F.okX rR (fun vs H Q E h=>?_) (fun cdv A outer s H vs Q E hr h=>?_)
 ·obtain ⟨b,z,ppl,L,x,rfl,_⟩:=h
  rfl
 ·obtain ⟨b,z,ppl,L,x,rfl,B,nm,k1,k2⟩:=h
  have hu:=kP hr
  refine ⟨_,(@kT _ _ _ (@sG _ _ _ _ _ _ _ _ (vS (sA (qg (pv 0) M_is_house (hr.mono (by first | decide | omega)) kW (@kJ _ _ _ _ _ (pv 1) pa_nil (by rfl))))) (@kT _ _ _ (nI T.x_NoHouse rfl T.c_NoHouse rfl (Af (vU (um (pv 1) vV))) uW)) pss_nil)),?_⟩
  refine ⟨_,rfl,b,_,_,rfl,B.ob,pY z (by decide +kernel) (by decide +kernel) (by decide +kernel) (by decide +kernel) (by decide +kernel),_,rfl,b,z,ppl,L,x,rfl,B,_,rfl,rW (fun h=>?_) (fun h=>?_)⟩
  ·exact ⟨_,rfl,⟨x,rfl,nm⟩,fun y=>k2 (nbT h)⟩
  ·exact k1 (nbF h)
abbrev mB:bM:=mn (top 38) 4
theorem qH:FnScope ["self","name"] ["self","name"] (kC mB):=fsc
def mR (K:aa) (a:Adr):Sp:=fun vs H Q E=>∃ b z ppl L x,vs=[.ref b,.str x]∧BookAt K a.Book H b z ppl L∧Nm x∧((mq ppl x || mZ L x)=true→Q .non H)∧((mq ppl x || mZ L x)=false→E (.ref a.NoHolder) none H)
theorem uB (F:Fun K "need_holder" "Book.need_holder" mB f fd) (T:Txt K mg a) (M_is_holder:Mt P w K mg base a.Book "is_holder" 2 ["self","name"] (pF K a.Book)):FnOk P w K mg base (CXo P w) 3 f fd ["self","name"] (mR K a):=by
 refine F.okX qH (fun vs H Q E h=>?_) (fun cdv A outer s H vs Q E hr h=>?_)
 ·obtain ⟨b,z,ppl,L,x,rfl,_⟩:=h
  rfl
 ·obtain ⟨b,z,ppl,L,x,rfl,B,nm,k1,k2⟩:=h
  have hu:=kP hr
  refine ⟨_,(@kT _ _ _ (@sG _ _ _ _ _ _ _ _ (vS (sA (qg (pv 0) M_is_holder (hr.mono (by first | decide | omega)) kW (@kJ _ _ _ _ _ (pv 1) pa_nil (by rfl))))) (@kT _ _ _ (nI T.x_NoHolder rfl T.c_NoHolder rfl (Af (vU (um (pv 1) vV))) uW)) pss_nil)),?_⟩
  refine ⟨_,rfl,b,_,_,rfl,B.ob,pY z (by decide +kernel) (by decide +kernel) (by decide +kernel) (by decide +kernel) (by decide +kernel),_,rfl,b,z,ppl,L,x,rfl,B,_,rfl,rW (fun h=>?_) (fun h=>?_)⟩
  ·exact ⟨_,rfl,⟨x,rfl,nm⟩,fun y=>k2 (nbT h)⟩
  ·exact k1 (nbF h)
abbrev l5:bM:=mn (top 38) 5
theorem pZ:FnScope ["self","name"] ["self","name"] (kC l5):=fsc
def oK (a:Adr) (ppl:List Str) (L:List (Ent×ae)) (x:Str):Option ae:=if tj x=false then some a.NoName else if (mq ppl x || mZ L x)=true then some a.Twice else none
def ql (K:aa) (a:Adr):Sp:=fun vs H Q E=>∃ b z ppl L x,vs=[.ref b,.str x]∧BookAt K a.Book H b z ppl L∧Nm x∧(oK a ppl L x=none→∀ H',Same H H'→Q .non H')∧(∀ c,oK a ppl L x=some c→∀ H',Same H H'→E (.ref c) none H')
theorem yN (F:Fun K "need_new_name" "Book.need_new_name" l5 f fd) (T:Txt K mg a) (F_is_name:Fn P w K mg base "is_name" 1 ["text"] uL) (M_is_holder:Mt P w K mg base a.Book "is_holder" 2 ["self","name"] (pF K a.Book)):FnOk P w K mg base (CXo P w) 3 f fd ["self","name"] (ql K a):=by
 refine F.okX pZ (fun vs H Q E h=>?_) (fun cdv A outer s H vs Q E hr h=>?_)
 ·obtain ⟨b,z,ppl,L,x,rfl,_⟩:=h
  rfl
 ·obtain ⟨b,z,ppl,L,x,rfl,B,nm,k1,k2⟩:=h
  have hu:=kP hr
  refine ⟨_,(@kN _ _ _ _ _ (@sG _ _ _ _ _ _ _ _ (vS (sA (@sH _ _ _ _ _ _ _ _ _ _ _ F_is_name (hr.mono (by first | decide | omega)) rfl kW (@kJ _ _ _ _ _ (pv 1) pa_nil (by rfl)) (by decide) (by rfl) (by rfl)))) (@kT _ _ _ (nI T.x_NoName rfl T.c_NoName rfl (Af (vU (um (pv 1) vV))) uW)) pss_nil) (@kT _ _ _ (@sG _ _ _ _ _ _ _ _ (sA (qg (pv 0) M_is_holder (hr.mono (by first | decide | omega)) kW (@kJ _ _ _ _ _ (pv 1) pa_nil (by rfl)))) (@kT _ _ _ (nI T.x_Twice rfl T.c_Twice rfl (Af (vU (um (pv 1) vV))) uW)) pss_nil))),?_⟩
  refine ⟨_,rfl,x,rfl,nm,fun H1 s1=>⟨_,rfl,rW (fun h=>?_) (fun h=>?_)⟩⟩
  ·refine ⟨_,rfl,⟨x,rfl,nm⟩,fun y=>k2 _ ?_ H1 s1⟩
   have h:tj x=false:=nbT h
   unfold oK
   rw [if_pos h]
  ·have h:tj x=true:=nbF h
   have B1:=B.same s1
   refine ⟨_,rfl,b,_,_,rfl,B1.ob,pY z (by decide +kernel) (by decide +kernel) (by decide +kernel) (by decide +kernel) (by decide +kernel),_,rfl,b,z,ppl,L,x,rfl,B1,_,rfl,rW (fun h2=>?_) (fun h2=>?_)⟩
   ·refine ⟨_,rfl,⟨x,rfl,nm⟩,fun y=>k2 _ ?_ H1 s1⟩
    unfold oK
    rw [if_neg (by rw [h];decide),if_pos h2]
   ·refine k1 ?_ H1 s1
    unfold oK
    rw [if_neg (by rw [h];decide),if_neg h2]
end
mutual
inductive D where
 | i (n:Int)
 | s (x:Str)
 | l (xs:DL)
 | t (xs:DL)
inductive DL where
 | nil
 | cons (x:D) (xs:DL)
end
mutual
def DAt (K:aa) (H:Hp):D→V→Prop
 | .i n,v=>v=.int n
 | .s x,v=>v=.str x
 | .l xs,v=>∃ a vs,v=.ref a∧SqL K H a vs∧DLAt K H xs vs
 | .t xs,v=>∃ a vs,v=.ref a∧SqT K H a vs∧DLAt K H xs vs
def DLAt (K:aa) (H:Hp):DL→List V→Prop
 | .nil,vs=>vs=[]
 | .cons x xs,vs=>∃ v r,vs=v::r∧DAt K H x v∧DLAt K H xs r
end
theorem Dr {K:aa}{H H':Hp}{a:ae}{xs:List V} (s:Same H H') (h:SqL K H a xs):SqL K H' a xs:=Same.seq s h
theorem ze {K:aa}{H H':Hp}{a:ae}{xs:List V} (s:Same H H') (h:SqT K H a xs):SqT K H' a xs:=rg h fun c o e _=>s c o e
mutual
theorem DAt.same {K:aa}{H H':Hp} (s:Same H H'):∀ (d:D) (v:V),DAt K H d v→DAt K H' d v
 | .i n,v,h=>h
 | .s x,v,h=>h
 | .l xs,v,h=>by
  obtain ⟨a,vs,e,q,r⟩:=h
  exact ⟨a,vs,e,Dr s q,DLAt.same s xs vs r⟩
 | .t xs,v,h=>by
  obtain ⟨a,vs,e,q,r⟩:=h
  exact ⟨a,vs,e,ze s q,DLAt.same s xs vs r⟩
theorem DLAt.same {K:aa}{H H':Hp} (s:Same H H'):∀ (d:DL) (vs:List V),DLAt K H d vs→DLAt K H' d vs
 | .nil,vs,h=>h
 | .cons x xs,vs,h=>by
  obtain ⟨v,r,e,h1,h2⟩:=h
  exact ⟨v,r,e,DAt.same s x v h1,DLAt.same s xs r h2⟩
end
def lN (l:List (Str×Int×Int)) (n:Str):Str×Int×Int:=(l.find? fun q=>decide (q.1=n)).getD (n,0,1)
def l6 (L:List (Ent×ae)) (n:Str):Option (Ent×ae):=L.find? fun e=>decide (e.1.nm=n)
theorem pc {L:List (Ent×ae)}{n:Str}{e:Ent×ae} (h:l6 L n=some e):e∈L:=fU h
section
variable {P:aV}{w:bz}{K:aa}{mg:Str→Option af}{base:bK}{a:Adr}{f:ae}{fd:bR}
abbrev oI:bM:=mn (top 38) 6
theorem uz:FnScope ["self","name"] ["self","name"] (kC oI):=fsc
def rB (a:Adr) (ppl:List Str) (L:List (Ent×ae)) (x:Str):Option ae:=match oK a ppl L x with
 | some c=>some c
 | none=>if 6≤ppl.length then some a.TooMany else none
def wP (K:aa) (a:Adr):Sp:=fun vs H Q E=>∃ b z ppl L x,vs=[.ref b,.str x]∧BookAt K a.Book H b z ppl L∧Nm x ∧
 (rB a ppl L x=none→∀ H',BookAt K a.Book H' b z (ppl++[x]) L→(∀ c o,H c=some o→c≠z.dp→H' c=some o)→Q .non H')∧(∀ c,rB a ppl L x=some c→∀ H',Same H H'→E (.ref c) none H')
theorem tV {ppl:List Str}{L:List (Ent×ae)}{x:Str} (h:oK a ppl L x=none):tj x=true∧mq ppl x=false∧mZ L x=false:=by
 unfold oK at h
 split at h
 ·cases h
 ·split at h
  ·cases h
  ·rename_i h1 h2
   have h2:¬ (mq ppl x || mZ L x)=true:=h2
   refine ⟨by simpa using h1,?_,?_⟩
   ·cases q:mq ppl x with
    | false=>rfl
    | true=>rw [q] at h2;exact absurd rfl h2
   ·cases q:mZ L x with
    | false=>rfl
    | true=>rw [q,Bool.or_true] at h2;exact absurd rfl h2
theorem Cc (F:Fun K "person" "Book.person" oI f fd) (T:Txt K mg a) (M_need_new_name:Mt P w K mg base a.Book "need_new_name" 3 ["self","name"] (ql K a)):FnOk P w K mg base (CXo P w) 4 f fd ["self","name"] (wP K a):=by
 refine F.okX uz (fun vs H Q E h=>?_) (fun cdv A outer s H vs Q E hr h=>?_)
 ·obtain ⟨b,z,ppl,L,x,rfl,_⟩:=h
  rfl
 ·obtain ⟨b,z,ppl,L,x,rfl,B,nm,k1,k2⟩:=h
  have hu:=kP hr
  refine ⟨_,(@kN _ _ _ _ _ (@nc _ _ _ _ (qg (pv 0) M_need_new_name (hr.mono (by first | decide | omega)) kW (@kJ _ _ _ _ _ (pv 1) pa_nil (by rfl))) (by rfl)) (@kN _ _ _ _ _ (@sG _ _ _ _ _ _ _ _ (@rm _ _ _ _ _ _ _ _ E8 (@mC _ _ _ _ _ _ _ _ _ xx rfl T.b_len oP (@kJ _ _ _ _ _ (mG (pv 0) rfl) pa_nil (by rfl)) (by decide) (by decide) (by rfl) (by rfl)) (nJ rfl T.g_MOST_PERSONS T.r_MOST_PERSONS) (lG _)) (@kT _ _ _ (nI T.x_TooMany rfl T.c_TooMany rfl pe_str uW)) pss_nil) (@kT _ _ _ (qa hu (mG (pv 0) rfl) (pv 1) pe_bl rfl)))),?_⟩
  refine ⟨_,rfl,b,_,_,rfl,B.ob,pY z (by decide +kernel) (by decide +kernel) (by decide +kernel) (by decide +kernel) (by decide +kernel),_,rfl,b,z,ppl,L,x,rfl,B,nm,fun hd H1 s1=>?_,fun c hc H1 s1=>?_⟩
  ·have B1:=B.same s1
   refine ⟨_,rfl,b,_,_,_,_,rfl,B1.ob,T.cl,T.nA_people,re z,_,_,rfl,B1.pp,_,_,rfl,rfl,_,rfl,rW (fun h=>?_) (fun h=>?_)⟩
   ·refine k2 _ ?_ H1 s1
    unfold rB
    rw [hd]
    have h:(6:Int)≤((ppl.map fun n=>((aE n:Key),V.bl true)).length:Int):=of_decide_eq_true h
    rw [aq] at h
    exact if_pos (by omega)
   ·have h:¬ (6:Int)≤((ppl.map fun n=>((aE n:Key),V.bl true)).length:Int):=fun z=>h (decide_eq_true z)
    rw [aq] at h
    have hl:ppl.length < 6:=by omega
    have hno:nB (ppl.map fun n=>((aE n:Key),V.bl true)) (aE x)=none:=by
     rw [oS (key:=fun n=>n)]
     have:=(tV hd).2.1
     unfold mq at this
     rw [gs]
     exact dP.mp this |> dZ.mp
    refine ⟨_,rfl,b,_,_,_,_,rfl,B1.ob,T.cl,T.nA_people,re z,_,rfl,_,_,rfl,DPut.k (k:=aE x) B1.pp (by rw [aq];exact aA hl (by decide)),?_⟩
    have hdue:rB a ppl L x=none:=by
     unfold rB
     rw [hd]
     exact if_neg (by omega)
    refine k1 hdue _ ?_ fun c o e hc=>by rw [kA hc];exact s1 c o e
    obtain ⟨hb,hr1⟩:=aS.mp B1.nd
    obtain ⟨hp,hr2⟩:=aS.mp hr1
    have ne:∀ c,c∈z.dt::z.dm::z.dl::z.dh::L.map (·.2)→c≠z.dp:=fun c hc e=>hp (e ▸ hc)
    refine ⟨?_,?_,?_,?_,?_,?_,fun e he=>?_,B1.nd,by rw [aT];simp;omega,B1.h8⟩
    ·rw [kA (fun e=>hb (by rw [e];simp))];exact B1.ob
    ·rw [kD,qI _ hno,aW];rfl
    ·rw [kA (ne _ (by simp))];exact B1.tt
    ·rw [kA (ne _ (by simp))];exact B1.mm
    ·rw [kA (ne _ (by simp))];exact B1.ll
    ·exact B1.hh.keep fun o h=>by rw [kA (ne _ (by simp))];exact h
    ·refine (B1.he e he).keep (fun o h=>?_) fun c o h x=>?_
     ·rw [kA (ne _ (by simp only [aj];right;right;right;right;exact am.mpr ⟨e,he,rfl⟩))];exact h
     ·rw [kA (Ao h B1.pp (by rcases x with ⟨xs,rfl | ⟨ob,rfl⟩⟩ <;> intro z <;> cases z))];exact h
  ·refine k2 c ?_ H1 s1
   unfold rB
   rw [hc]
abbrev pK:bM:=mn (top 38) 7
theorem vR:FnScope ["self","name","owner","things","mark","loss"] ["self","name","owner","things","mark","loss"] (kC pK):=fsc
def pA (a:Adr) (ppl:List Str) (L:List (Ent×ae)) (x o:Str) (l:Int):Option ae:=match oK a ppl L x with
 | some c=>some c
 | none=>if (mq ppl o || mZ L o)=false then some a.NoHolder else if l < 0 then some a.NoLoss else if 8≤L.length then some a.TooMany else none
def za (K:aa) (a:Adr):Sp:=fun vs H Q E=>∃ b z ppl L x o t m l,vs=[.ref b,.str x,.str o,.int t,.int m,.int l]∧BookAt K a.Book H b z ppl L∧Nm x∧Nm o ∧
 (pA a ppl L x o l=none→∀ p H',H p=none→BookAt K a.Book H' b z ppl (L++[(⟨x,t,m,l,[(o,1,1)]⟩,p)])→(∀ c u,H c=some u→c∉[z.dt,z.dm,z.dl,z.dh]→H' c=some u)→Q .non H')∧(∀ c,pA a ppl L x o l=some c→∀ H',Same H H'→E (.ref c) none H')
theorem nC {L:List (Ent×ae)}{x:Str} (v:Ent×ae→V) (h:mZ L x=false):nB (L.map fun e=>((aE e.1.nm:Key),v e)) (aE x)=none:=by
 rw [oS (key:=fun e:Ent×ae=>e.1.nm)]
 unfold mZ at h
 rw [gs]
 exact dP.mp h |> dZ.mp
theorem D5 (F:Fun K "house" "Book.house" pK f fd) (T:Txt K mg a) (M_need_new_name:Mt P w K mg base a.Book "need_new_name" 3 ["self","name"] (ql K a)) (M_need_holder:Mt P w K mg base a.Book "need_holder" 3 ["self","name"] (mR K a))
  (F_need_loss:Fn P w K mg base "need_loss" 1 ["number"] (sd a)):FnOk P w K mg base (CXo P w) 4 f fd ["self","name","owner","things","mark","loss"] (za K a):=by
 refine F.okX vR (fun vs H Q E h=>?_) (fun cdv A outer s H vs Q E hr h=>?_)
 ·obtain ⟨b,z,ppl,L,x,o,t,m,l,rfl,_⟩:=h
  rfl
 ·obtain ⟨b,z,ppl,L,x,o,t,m,l,rfl,B,nm,no,k1,k2⟩:=h
  have hu:=kP hr
  refine ⟨_,(@kN _ _ _ _ _ (@nc _ _ _ _ (qg (pv 0) M_need_new_name (hr.mono (by first | decide | omega)) kW (@kJ _ _ _ _ _ (pv 1) pa_nil (by rfl))) (by rfl)) (@kN _ _ _ _ _ (@nc _ _ _ _ (qg (pv 0) M_need_holder (hr.mono (by first | decide | omega)) kW (@kJ _ _ _ _ _ (pv 2) pa_nil (by rfl))) (by rfl)) (@kN _ _ _ _ _ (@nc _ _ _ _ (@sH _ _ _ _ _ _ _ _ _ _ _ F_need_loss (hr.mono (by first | decide | omega)) rfl kW (@kJ _ _ _ _ _ (pv 5) pa_nil (by rfl)) (by decide) (by rfl) (by rfl)) (by rfl)) (@kN _ _ _ _ _ (@sG _ _ _ _ _ _ _ _ (@rm _ _ _ _ _ _ _ _ E8 (@mC _ _ _ _ _ _ _ _ _ xx rfl T.b_len oP (@kJ _ _ _ _ _ (mG (pv 0) rfl) pa_nil (by rfl)) (by decide) (by decide) (by rfl) (by rfl)) (nJ rfl T.g_MOST_HOUSES T.r_MOST_HOUSES) (lG _)) (@kT _ _ _ (nI T.x_TooMany rfl T.c_TooMany rfl pe_str uW)) pss_nil) (@kN _ _ _ _ _ (qa hu (mG (pv 0) rfl) (pv 1) (pv 3) rfl) (@kN _ _ _ _ _ (qa hu (mG (pv 0) rfl) (pv 1) (pv 4) rfl) (@kN _ _ _ _ _ (qa hu (mG (pv 0) rfl) (pv 1) (pv 5) rfl) (@kT _ _ _ (qa hu (mG (pv 0) rfl) (pv 1) (A9 (zk (pv 2) (nJ rfl T.g_ONE T.r_ONE) A7) rfl rfl (by decide) (by decide)) rfl))))))))),?_⟩
  refine ⟨_,rfl,b,_,_,rfl,B.ob,pY z (by decide +kernel) (by decide +kernel) (by decide +kernel) (by decide +kernel) (by decide +kernel),_,rfl,b,z,ppl,L,x,rfl,B,nm,fun hd H1 s1=>?_,fun c hc H1 s1=>?_⟩
  ·have B1:=B.same s1
   refine ⟨_,rfl,b,_,_,rfl,B1.ob,pY z (by decide +kernel) (by decide +kernel) (by decide +kernel) (by decide +kernel) (by decide +kernel),_,rfl,b,z,ppl,L,o,rfl,B1,no,fun ho=>?_,fun ho=>?_⟩
   ·refine ⟨_,rfl,l,rfl,fun hl=>?_,fun hl=>?_⟩
    ·refine k2 _ ?_ H1 s1
     unfold pA
     rw [hd]
     show (if (mq ppl o || mZ L o)=false then some a.NoHolder else _)=_
     rw [if_neg (by rw [ho];decide),if_pos hl]
    ·obtain ⟨Th,eh,ph,nh⟩:=B1.hh
     have lTh:Th.length=L.length:=by rw [ph.length_eq,aq]
     refine ⟨_,rfl,b,_,_,_,_,rfl,B1.ob,T.cl,T.nA_held_of,rO z,_,_,rfl,eh,_,_,rfl,rfl,_,rfl,rW (fun h=>?_) (fun h=>?_)⟩
     ·refine k2 _ ?_ H1 s1
      have h:(8:Int)≤(Th.length:Int):=of_decide_eq_true h
      rw [lTh] at h
      unfold pA
      rw [hd]
      show (if (mq ppl o || mZ L o)=false then some a.NoHolder else _)=_
      rw [if_neg (by rw [ho];decide),if_neg (by omega),if_pos (by omega)]
     ·have h:¬ (8:Int)≤(Th.length:Int):=fun z=>h (decide_eq_true z)
      rw [lTh] at h
      have hl8:L.length < 8:=by omega
      have hdue:pA a ppl L x o l=none:=by
       unfold pA
       rw [hd]
       show (if (mq ppl o || mZ L o)=false then some a.NoHolder else _)=_
       rw [if_neg (by rw [ho];decide),if_neg (by omega),if_neg (by omega)]
      have hx:=(tV hd).2.2
      have sz:∀ {v:Ent×ae→V},(L.map fun e=>((aE e.1.nm:Key),v e)).length < aP:=fun {v}=>by rw [aq];exact aA hl8 (by decide)
      obtain ⟨hb,r1⟩:=aS.mp B1.nd
      obtain ⟨hp,r2⟩:=aS.mp r1
      obtain ⟨ht,r3⟩:=aS.mp r2
      obtain ⟨hm,r4⟩:=aS.mp r3
      obtain ⟨hll,r5⟩:=aS.mp r4
      obtain ⟨hh,r6⟩:=aS.mp r5
      refine ⟨_,rfl,_,rfl,b,_,_,_,_,rfl,B1.ob,T.cl,T.nA_things_of,xE z,_,rfl,_,_,rfl,DPut.k (k:=aE x) B1.tt sz,?_⟩
      have b_t:b≠z.dt:=fun e=>hb (by rw [e];simp)
      have b_m:b≠z.dm:=fun e=>hb (by rw [e];simp)
      have b_l:b≠z.dl:=fun e=>hb (by rw [e];simp)
      have b_h:b≠z.dh:=fun e=>hb (by rw [e];simp)
      have p_t:z.dp≠z.dt:=fun e=>hp (by rw [e];simp)
      have p_m:z.dp≠z.dm:=fun e=>hp (by rw [e];simp)
      have p_l:z.dp≠z.dl:=fun e=>hp (by rw [e];simp)
      have p_h:z.dp≠z.dh:=fun e=>hp (by rw [e];simp)
      have t_m:z.dt≠z.dm:=fun e=>ht (by rw [e];simp)
      have t_l:z.dt≠z.dl:=fun e=>ht (by rw [e];simp)
      have t_h:z.dt≠z.dh:=fun e=>ht (by rw [e];simp)
      have m_l:z.dm≠z.dl:=fun e=>hm (by rw [e];simp)
      have m_h:z.dm≠z.dh:=fun e=>hm (by rw [e];simp)
      have l_h:z.dl≠z.dh:=fun e=>hll (by rw [e];simp)
      refine ⟨_,rfl,_,rfl,b,_,_,_,_,rfl,(by rw [kA b_t];exact B1.ob),T.cl,T.nA_mark_of,Bv z,_,rfl,_,_,rfl,DPut.k (k:=aE x) (by rw [kA t_m.symm];exact B1.mm) sz,?_⟩
      refine ⟨_,rfl,_,rfl,b,_,_,_,_,rfl,(by rw [kA b_m,kA b_t];exact B1.ob),T.cl,T.nA_loss_of,Bw z,_,rfl,_,_,rfl,DPut.k (k:=aE x) (by rw [kA m_l.symm,kA t_l.symm];exact B1.ll) sz,?_⟩
      intro p hpn
      have e0:∀ c,c≠z.dt→c≠z.dm→c≠z.dl→∀ A B C,(upd (upd (upd H1 z.dt A) z.dm B) z.dl C) c=H1 c:=fun c c1 c2 c3 A B C=>by rw [kA c3,kA c2,kA c1]
      have q_t:p≠z.dt:=fun e=>by rw [e,kA t_l,kA t_m,kD] at hpn;cases hpn
      have q_m:p≠z.dm:=fun e=>by rw [e,kA m_l,kD] at hpn;cases hpn
      have q_l:p≠z.dl:=fun e=>by rw [e,kD] at hpn;cases hpn
      have hp1:H1 p=none:=by rw [e0 p q_t q_m q_l] at hpn;exact hpn
      have hp0:H p=none:=s1.free hp1
      have q_h:p≠z.dh:=fun e=>by rw [e,eh] at hp1;cases hp1
      have q_b:p≠b:=fun e=>by rw [e,B1.ob] at hp1;cases hp1
      have q_p:p≠z.dp:=fun e=>by rw [e,B1.pp] at hp1;cases hp1
      refine ⟨_,rfl,kD,[(aE o,.ref a.ONE)],rfl,(show 1≤15 by decide),_,rfl,b,_,_,_,_,rfl,(by rw [kA q_b.symm,kA q_b.symm,e0 b b_t b_m b_l];exact B1.ob),T.cl,T.nA_held_of,rO z,_,rfl,_,_,rfl,DPut.k (k:=aE x) (by rw [kA q_h.symm,kA q_h.symm,e0 z.dh t_h.symm m_h.symm l_h.symm];exact eh) (by rw [lTh];exact aA hl8 (by decide)),?_⟩
      have far:∀ c,c≠p→c≠z.dh→c≠z.dt→c≠z.dm→c≠z.dl→∀ A B C D E F,(upd (upd (upd (upd (upd (upd H1 z.dt A) z.dm B) z.dl C) p D) p E) z.dh F) c=H1 c:=fun c c1 c2 c3 c4 c5 A B C D E F=>by rw [kA c2,kA c1,kA c1,kA c5,kA c4,kA c3]
      refine k1 hdue p _ hp0 ?_ fun c u e hc=>?_
      ·refine ⟨?_,?_,?_,?_,?_,?_,fun e he=>?_,?_,B1.p6,by rw [aT];exact hl8⟩
       ·rw [far b q_b.symm b_h b_t b_m b_l];exact B1.ob
       ·rw [far z.dp q_p.symm p_h p_t p_m p_l];exact B1.pp
       ·rw [kA t_h,kA q_t.symm,kA q_t.symm,kA t_l,kA t_m,kD,qI _ (nC _ hx),aW];rfl
       ·rw [kA m_h,kA q_m.symm,kA q_m.symm,kA m_l,kD,qI _ (nC _ hx),aW];rfl
       ·rw [kA l_h,kA q_l.symm,kA q_l.symm,kD,qI _ (nC _ hx),aW];rfl
       ·have hv:nB Th (aE x)=none:=by rw [yY ph nh];exact nC _ hx
        refine ⟨_,kD,?_,?_⟩
        ·rw [qI _ hv,aW]
         exact ph.append_right _
        ·rw [aW,aW,aD,cy]
         refine sY nh fun hq=>?_
         obtain ⟨kv,hkv,ekv⟩:=am.mp hq
         have e1:=(uH (k:=kv.1) (v:=kv.2) nh).mpr hkv
         rw [ekv,nC _ hx] at e1
         cases e1
       ·rcases aM.mp he with he | he
        ·have he2:e.2∈L.map (·.2):=am.mpr ⟨e,he,rfl⟩
         have d1:e.2≠z.dh:=fun q=>hh (q ▸ he2)
         have d2:e.2≠z.dt:=fun q=>ht (by rw [← q];simp only [aj];right;right;right;exact he2)
         have d3:e.2≠z.dm:=fun q=>hm (by rw [← q];simp only [aj];right;right;exact he2)
         have d4:e.2≠z.dl:=fun q=>hll (by rw [← q];simp only [aj];right;exact he2)
         have d5:e.2≠p:=fun q=>by
          obtain ⟨ts,_,q2,_⟩:=B1.he e he
          rw [q,hp1] at q2
          cases q2
         refine (B1.he e he).keep (fun u h=>?_) fun c u h y=>?_
         ·rw [far e.2 d5 d1 d2 d3 d4];exact h
         ·have nt:∀ {q:ae}{kv:List (Key×V)},H1 q=some (.dK kv)→c≠q:=fun hq=>Ao h hq (by rcases y with ⟨xs,rfl | ⟨ob,rfl⟩⟩ <;> intro z <;> cases z)
          rw [far c (kH h hp1) (nt eh) (nt B1.tt) (nt B1.mm) (nt B1.ll)];exact h
        ·rw [ay.mp he]
         refine ⟨[a.ONE],rfl,?_,fun q hq=>?_⟩
         ·rw [kA q_h,kD];rfl
         ·rw [ay.mp hq]
          exact .inr T.one
       ·have hpL:p∉L.map (·.2):=fun hq=>by
         obtain ⟨e,he,rfl⟩:=am.mp hq
         obtain ⟨ts,_,q2,_⟩:=B1.he e he
         rw [hp1] at q2
         cases q2
        have:=sY (k:=p) B1.nd (by
         intro hq
         simp only [aj] at hq
         rcases hq with e | e | e | e | e | e | e
         ·exact q_b e
         ·exact q_p e
         ·exact q_t e
         ·exact q_m e
         ·exact q_l e
         ·exact q_h e
         ·exact hpL e)
        rw [aW]
        exact this
      ·have e1:=s1 c u e
       have c0:c≠p:=kH e1 hp1
       simp only [aj,bX,or_false,not_or] at hc
       rw [far c c0 hc.2.2.2 hc.1 hc.2.1 hc.2.2.1]
       exact e1
   ·refine k2 _ ?_ H1 s1
    unfold pA
    rw [hd]
    exact if_pos ho
  ·refine k2 c ?_ H1 s1
   unfold pA
   rw [hc]
def PairAt (K:aa) (H:Hp) (q:Str×Int×Int) (v:V):Prop:=∃ t u,v=.ref t∧SqT K H t [.str q.1,.ref u]∧SqT K H u [.int q.2.1,.int q.2.2]
theorem PairAt.keep {K:aa}{H H':Hp}{q:Str×Int×Int}{v:V} (h:PairAt K H q v) (k:∀ c o,H c=some o→(∃ xs,o=.tup xs∨∃ ob,o=.frz ob (.tup xs))→H' c=some o):PairAt K H' q v:=by
 obtain ⟨t,u,e,h1,h2⟩:=h
 exact ⟨t,u,e,rg h1 k,rg h2 k⟩
theorem Fk {H:Hp}{p:ae}{xs:List V}{o':HO} (hp:H p=some (.lst xs)):∀ c o,H c=some o→(∃ xs,o=.tup xs∨∃ ob,o=.frz ob (.tup xs))→(upd H p o') c=some o:=fun c o h x=>by
 rw [kA (Ao h hp (by rcases x with ⟨xs,rfl | ⟨ob,rfl⟩⟩ <;> intro z <;> cases z))]
 exact h
theorem C1 {l:List (Str×Int×Int)}{ts:List ae} (hl:ts.length=l.length) {n:Str} (hn:n∈l.map (·.1)):∃ q,(l.zip ts).find? (fun q=>decide (q.1.1=n))=some q∧q∈l.zip ts∧q.1=lN l n∧(lN l n).1=n:=by
 have e:(l.zip ts).map (·.1)=l:=iJ (by omega)
 cases h:(l.zip ts).find? (fun q=>decide (q.1.1=n)) with
 | none =>
  exfalso
  rw [cm] at h
  rw [← e,a7] at hn
  obtain ⟨q,hq,e2⟩:=am.mp hn
  exact h q hq (decide_eq_true e2)
 | some q =>
  have e2:l.find? (fun q=>decide (q.1=n))=some q.1:=by
   rw [← e,fS]
   show ((l.zip ts).find? (fun q=>decide (q.1.1=n))).map (·.1)=some q.1
   rw [h]
   rfl
  have e3:lN l n=q.1:=by unfold lN;rw [e2];rfl
  exact ⟨q,rfl,fU h,e3.symm,by rw [e3];simpa using gL h⟩
def uK (K:aa) (C:ae):Sp:=fun vs H Q _=>∃ b z ppl L,vs=[.ref b]∧BookAt K C H b z ppl L∧∀ l,H l=none→Q (.ref l) (upd H l (.lst ((srt ppl).map V.str)))
abbrev nV:bM:=mn (top 38) 12
theorem ud:FnScope ["self"] ["self"] (kC nV):=fsc
theorem Ai (F:Fun K "persons" "Book.persons" nV f fd) (T:Txt K mg a):FnOk P w K mg base (CXo P w) 1 f fd ["self"] (uK K a.Book):=by
 refine F.okN ud (fun vs H Q E h=>?_) (fun cdv A outer s H vs Q E hr h=>?_)
 ·obtain ⟨b,z,ppl,L,rfl,_⟩:=h
  rfl
 ·obtain ⟨b,z,ppl,L,rfl,B,k⟩:=h
  have hu:=kP hr
  refine ⟨_,(@kT _ _ _ (@nY _ _ _ _ (@mC _ _ _ _ _ _ _ _ _ (nS rfl) rfl T.b_sorted nZ (@kJ _ _ _ _ _ (mG (pv 0) rfl) pa_nil (by rfl)) (by decide) (by decide) (by rfl) (by rfl)))),?_⟩
  exact ⟨_,rfl,b,_,_,_,_,rfl,B.ob,T.cl,T.nA_people,re z,_,_,ppl,rfl,.inl B.pp,by rw [a7];rfl,bi B.p6 (by decide),k⟩
def wQ (K:aa) (C:ae):Sp:=fun vs H Q _=>∃ b z ppl L,vs=[.ref b]∧BookAt K C H b z ppl L∧∀ l,H l=none→Q (.ref l) (upd H l (.lst ((srt (L.map (·.1.nm))).map V.str)))
abbrev oJ:bM:=mn (top 38) 13
theorem uA:FnScope ["self"] ["self"] (kC oJ):=fsc
theorem Cd (F:Fun K "houses" "Book.houses" oJ f fd) (T:Txt K mg a):FnOk P w K mg base (CXo P w) 1 f fd ["self"] (wQ K a.Book):=by
 refine F.okN uA (fun vs H Q E h=>?_) (fun cdv A outer s H vs Q E hr h=>?_)
 ·obtain ⟨b,z,ppl,L,rfl,_⟩:=h
  rfl
 ·obtain ⟨b,z,ppl,L,rfl,B,k⟩:=h
  have hu:=kP hr
  refine ⟨_,(@kT _ _ _ (@nY _ _ _ _ (@mC _ _ _ _ _ _ _ _ _ (nS rfl) rfl T.b_sorted nZ (@kJ _ _ _ _ _ (mG (pv 0) rfl) pa_nil (by rfl)) (by decide) (by decide) (by rfl) (by rfl)))),?_⟩
  obtain ⟨Th,ss,eh,ek,ps⟩:=B.hh.keys
  rw [← yH ps] at k
  exact ⟨_,rfl,b,_,_,_,_,rfl,B.ob,T.cl,T.nA_held_of,rO z,_,_,ss,rfl,.inl eh,ek,by rw [ps.length_eq,aq];exact bi B.h8 (by decide),k⟩
abbrev tI:bM:=mn (top 38) 15
theorem z9:FnScope ["self","house"] ["self","house"] (kC tI):=fsc
def GF (K:aa) (a:Adr):Sp:=fun vs H Q E=>∃ b z ppl L x,vs=[.ref b,.str x]∧BookAt K a.Book H b z ppl L∧Nm x∧(∀ e,l6 L x=some e→∀ t,H t=none→Q (.ref t) (upd H t (.tup [.int e.1.th,.int e.1.mr,.int e.1.ls])))∧(l6 L x=none→E (.ref a.NoHouse) none H)
theorem vL {L:List (Ent×ae)}{x:Str}{e:Ent×ae} (v:Ent×ae→V) (h:l6 L x=some e):nB (L.map fun e=>((aE e.1.nm:Key),v e)) (aE x)=some (v e):=by
 rw [oS (key:=fun e:Ent×ae=>e.1.nm)]
 unfold l6 at h
 rw [h]
 rfl
theorem ok_of (F:Fun K "of" "Book.of" tI f fd) (T:Txt K mg a) (M_need_house:Mt P w K mg base a.Book "need_house" 2 ["self","name"] (ml K a)):FnOk P w K mg base (CXo P w) 3 f fd ["self","house"] (GF K a):=by
 refine F.okX z9 (fun vs H Q E h=>?_) (fun cdv A outer s H vs Q E hr h=>?_)
 ·obtain ⟨b,z,ppl,L,x,rfl,_⟩:=h
  rfl
 ·obtain ⟨b,z,ppl,L,x,rfl,B,nm,k1,k2⟩:=h
  have hu:=kP hr
  refine ⟨_,(@kN _ _ _ _ _ (@nc _ _ _ _ (qg (pv 0) M_need_house (hr.mono (by first | decide | omega)) kW (@kJ _ _ _ _ _ (pv 1) pa_nil (by rfl))) (by rfl)) (@kT _ _ _ (@nY _ _ _ _ (@vX _ _ _ _ _ (@kJ _ _ _ _ _ (@qb _ _ _ _ _ _ hu (mG (pv 0) rfl) (pv 1) (fun _ _=>rfl)) (@kJ _ _ _ _ _ (@qb _ _ _ _ _ _ hu (mG (pv 0) rfl) (pv 1) (fun _ _=>rfl)) (@kJ _ _ _ _ _ (@qb _ _ _ _ _ _ hu (mG (pv 0) rfl) (pv 1) (fun _ _=>rfl)) pa_nil (by rfl)) (by rfl)) (by rfl)))))),?_⟩
  refine ⟨_,rfl,b,_,_,rfl,B.ob,pY z (by decide +kernel) (by decide +kernel) (by decide +kernel) (by decide +kernel) (by decide +kernel),_,rfl,b,z,ppl,L,x,rfl,B,nm,fun h=>?_,fun h=>k2 ?_⟩
  ·cases he:l6 L x with
   | none=>unfold mZ at h;unfold l6 at he;rw [he] at h;cases h
   | some e =>
    refine ⟨_,rfl,b,_,_,_,_,rfl,B.ob,T.cl,T.nA_things_of,xE z,_,rfl,_,_,rfl,?_,_,rfl,b,_,_,_,_,rfl,B.ob,T.cl,T.nA_mark_of,Bv z,_,rfl,_,_,rfl,?_,_,rfl,b,_,_,_,_,rfl,B.ob,T.cl,T.nA_loss_of,Bw z,_,rfl,_,_,rfl,?_,(show 3≤aP by decide),fun t ht=>k1 e he t ht⟩
    ·have:=DGet.k (k:=aE x) B.tt;rw [vL _ he] at this;exact this
    ·have:=DGet.k (k:=aE x) B.mm;rw [vL _ he] at this;exact this
    ·have:=DGet.k (k:=aE x) B.ll;rw [vL _ he] at this;exact this
  ·unfold mZ at h
   unfold l6
   exact dP.mp h |> dZ.mp
abbrev nk:bM:=mn (top 38) 14
theorem sc_Book_shares:FnScope ["self","house","held"] ["self","house"] (kC nk):=fsc
def wO (K:aa) (a:Adr):Sp:=fun vs H Q E=>∃ b z ppl L x,vs=[.ref b,.str x]∧BookAt K a.Book H b z ppl L∧Nm x ∧
 (∀ e,l6 L x=some e→e.1.held.length < 64∧∀ l ys H',H l=none→Same H H'→H' l=some (.lst ys)→fI (PairAt K H') ((srt (e.1.held.map (·.1))).map (lN e.1.held)) ys→Q (.ref l) H')∧(l6 L x=none→E (.ref a.NoHouse) none H)
theorem Ca (F:Fun K "shares" "Book.shares" nk f fd) (T:Txt K mg a) (M_need_house:Mt P w K mg base a.Book "need_house" 2 ["self","name"] (ml K a)):FnOk P w K mg base (CXo P w) 3 f fd ["self","house"] (wO K a):=by
 refine F.okX sc_Book_shares (fun vs H Q E h=>?_) (fun cdv A outer s H vs Q E hr h=>?_)
 ·obtain ⟨b,z,ppl,L,x,rfl,_⟩:=h
  rfl
 ·obtain ⟨b,z,ppl,L,x,rfl,B,nm,k1,k2⟩:=h
  have hu:=kP hr
  refine ⟨_,(@kN _ _ _ _ _ (@nc _ _ _ _ (qg (pv 0) M_need_house (hr.mono (by first | decide | omega)) kW (@kJ _ _ _ _ _ (pv 1) pa_nil (by rfl))) (by rfl)) (@kN _ _ _ _ _ (@pk _ _ (2) _ _ _ _ sc_Book_shares.nd rfl (eM rfl) (@qb _ _ _ _ _ _ hu (mG (pv 0) rfl) (pv 1) (fun _ _=>rfl)) (by rfl) (by first | exact .inl rfl | exact .inr rfl | assumption)) (@kT _ _ _ (@nY _ _ _ _ (uS (fr:=["held"]) (ix:=[2]) rfl (by exact (show CompOk ["self","house","held"] (kC nk) _ _ _ _ from cok)) (FG (@mC _ _ _ _ _ _ _ _ _ (nS rfl) rfl T.b_sorted nZ (@kJ _ _ _ _ _ (pv 2) pa_nil (by rfl)) (by decide) (by decide) (by rfl) (by rfl))) (fun _ _ _ _ _=>vC) (fun _ _ _ _ _=>(vX (kJ (pv 0) (kJ (qb hu (pv 1) (pv 0) (fun _ _=>rfl)) pa_nil))))))))),?_⟩
  refine ⟨_,rfl,b,_,_,rfl,B.ob,pY z (by decide +kernel) (by decide +kernel) (by decide +kernel) (by decide +kernel) (by decide +kernel),_,rfl,b,z,ppl,L,x,rfl,B,nm,fun h=>?_,fun h=>k2 ?_⟩
  ·cases he:l6 L x with
   | none=>unfold mZ at h;unfold l6 at he;rw [he] at h;cases h
   | some e =>
    obtain ⟨h64,k1⟩:=k1 e he
    obtain ⟨ts,hl,hd,hts⟩:=B.he e (pc he)
    have hkeys:(((e.1.held.zip ts).map fun q=>((aE q.1.1:Key),V.ref q.2)).map (·.1))=(e.1.held.map (·.1)).map aE:=by
     rw [a7,a7]
     have e1:(e.1.held.zip ts).map (·.1)=e.1.held:=iJ (by omega)
     conv=>rhs;rw [← e1,a7]
     rfl
    refine ⟨_,rfl,b,_,_,_,_,rfl,B.ob,T.cl,T.nA_held_of,rO z,_,rfl,_,.ref e.2,rfl,?_,_,rfl,e.2,_,e.1.held.map (·.1),rfl,.inl hd,hkeys,by rw [aq];exact h64,fun l hl0=>?_⟩
    ·have:=B.hh.dget x;rw [vL _ he] at this;exact this
    ·refine ⟨l,rfl,⟨_,SqL.of kD⟩,fun D hD=>?_⟩
     have lD:l≠D:=kH kD hD
     have hD0:H D=none:=by rw [kA lD.symm] at hD;exact hD
     have hDp:e.2≠D:=kH hd hD0
     refine Bq (J:=Itl K l) (srt (e.1.held.map (·.1))).length (fun i ys H'=>Same H H'∧H' D=some (.lst ys)∧H' l=some (.lst ((srt (e.1.held.map (·.1))).map V.str))∧fI (PairAt K H') (((srt (e.1.held.map (·.1))).take i).map (lN e.1.held)) ys)
      ⟨?_,kD,?_,.nil⟩ ?_ (fun i ys H' r=>r.2.1) (fun i ys H' hi r=>⟨_,.str ((srt (e.1.held.map (·.1)))[i]),SqL.of r.2.2.1,by simp [hi]⟩) ?_ ?_
     ·exact (pj hl0).trans (pj hD)
     ·rw [kA lD,kD]
     ·rw [kO,aq];exact aN (cE h64) (by decide)
     ·rintro i ys Hx v H' hi ⟨s1,h1,h2,h3⟩ ⟨rfl,hy⟩ Kt Kf q1 q2
      have hv:=hy _ (SqL.of h2)
      have ev:v=.str ((srt (e.1.held.map (·.1)))[i]):=by
       rw [bv,bB hi] at hv
       exact (a8 hv).symm
      subst ev
      have hmem:(srt (e.1.held.map (·.1)))[i]∈e.1.held.map (·.1):=(kX _).mem_iff.mp (cO hi)
      obtain ⟨q,f1,f2,f3,f4⟩:=C1 hl hmem
      have hval:nB ((e.1.held.zip ts).map fun q=>((aE q.1.1:Key),V.ref q.2)) (aE ((srt (e.1.held.map (·.1)))[i]))=some (.ref q.2):=by
       rw [oS (key:=fun q:(Str×Int×Int)×ae=>q.1.1),f1]
       rfl
      refine yesT ⟨_,rfl,_,rfl,_,rfl,e.2,.ref q.2,rfl,?_,(show 2≤aP by decide),fun p hp=>?_⟩
      ·have:=DGet.k (k:=aE ((srt (e.1.held.map (·.1)))[i])) (s1 _ _ hd);rw [hval] at this;exact this
      ·have pD:D≠p:=kH h1 hp
       have pl:l≠p:=kH h2 hp
       refine q1 _ _ (by rw [kA pD];exact h1) ⟨?_,kD,?_,?_⟩
       ·intro c o hc
        rw [kA (fun z=>by rw [z] at hc;rw [hD0] at hc;cases hc),kA (kH (s1 c o hc) hp)]
        exact s1 c o hc
       ·rw [kA lD,kA pl];exact h2
       ·have kp:∀ c o,H' c=some o→(∃ xs,o=.tup xs∨∃ ob,o=.frz ob (.tup xs))→(upd (upd H' p (.tup [.str ((srt (e.1.held.map (·.1)))[i]),.ref q.2])) D (.lst (ys++[.ref p]))) c=some o:=fun c o hc x=>by
         rw [Fk (xs:=ys) (by rw [kA pD];exact h1) c o (by rw [kA (kH hc hp)];exact hc) x]
        have e5:((srt (e.1.held.map (·.1))).take (i+1)).map (lN e.1.held)=((srt (e.1.held.map (·.1))).take i).map (lN e.1.held)++[lN e.1.held ((srt (e.1.held.map (·.1)))[i])]:=by
         rw [dO,bB hi,aW]
         rfl
        rw [e5]
        refine jy (fI.mapP h3 fun q v hq=>hq.keep kp) ⟨p,q.2,rfl,?_,?_⟩
        ·refine SqT.of ?_
         rw [kA pD.symm,kD,f4]
        ·rw [← f3]
         exact rg (hts q f2) fun c o hc x=>kp c o (s1 c o hc) x
     ·rintro ys H' hy ⟨s1,h1,h2,h3⟩
      refine ⟨⟨_,SqL.of h2,by rw [aq];exact aC _⟩,k1 D ys H' hD0 s1 h1 ?_⟩
      rw [fj] at h3
      exact h3
  ·unfold mZ at h
   unfold l6
   exact dP.mp h |> dZ.mp
end
end My
namespace L2
open PySem PySem.Spec PyProof.Rows
section
variable {X:Cx}
def rEqT (K:aa):R2:=fun x y H Q=>∃ p q xs ys,x=.ref p∧y=.ref q∧SqT K H p xs∧SqT K H q ys∧xs.length=ys.length∧xs.all pU=true∧ys.all pU=true∧Q (.bl (Gf xs ys)) H
theorem HP (hu:X.A.units < dC):OpR X (bP .Eq) (rEqT X.K):=by
 intro pins s σ H x y v u Q I rx ry h
 obtain ⟨p,q,xs,ys,rfl,rfl,hp,hq,hl,fx,fy,k⟩:=h
 cases rx
 cases ry
 obtain ⟨its,r,pl,_⟩:=I.tuple hp
 obtain ⟨its2,r2,pl2,_⟩:=I.tuple hq
 have e1:=r.length
 have e2:=r2.length
 refine SeqAt.eq_tupleAt pl pl2 hu (At r r2 hl fx fy) ⟨.bl _,H,I,rfl,?_⟩
 have e3:its.toArray.size=its2.toArray.size:=by simp;omega
 rw [e3,Nat.min_self,beq_self_eq_true,Bool.and_true,aU,← e2,← hl,← zC hl]
 exact k
end
end L2
namespace My
open PySem L2 Fra
theorem zt (x y:Int) (h:0 < y):aO y (x % y)=aO x y:=by
 have e:x % y=x - (x / y) * y:=by rw [Int.emod_def,bC]
 rw [e,Int.gcd_comm,Int.gcd_sub_mul_right_left]
theorem Ej {x:Int} (h:0≤x):(aO x 0:Int)=x:=by rw [Int.gcd_zero_right];omega
structure Sz (q:Int×Int):Prop where
 low:Low q
 bt:Bt 8900 q.1
 bb:Bt 8900 q.2
def FrAt (K:aa) (H:Hp) (p:ae) (q:Int×Int):Prop:=SqT K H p [.int q.1,.int q.2]
theorem FrAt.same {K:aa}{H H':Hp}{p:ae}{q:Int×Int} (h:FrAt K H p q) (s:Same H H'):FrAt K H' p q:=ze s h
section
variable {P:aV}{w:bz}{K:aa}{mg:Str→Option af}{base:bK}{a:Adr}{f:ae}{fd:bR}
abbrev m9:bM:=top 5
theorem sc_common_divisor:FnScope ["number","other","rest"] ["number","other"] (kC m9):=fsc
def EE:Sp:=fun vs H Q _=>∃ n m,vs=[.int n,.int m]∧0 < m∧Q (.int (aO n m)) H
theorem HV (F:Fun K "common_divisor" "common_divisor" m9 f fd) (T:Txt K mg a):FnOk P w K mg base (CXo P w) 1 f fd ["number","other"] EE:=by
 refine F.okN sc_common_divisor (fun vs H Q E h=>?_) (fun cdv A outer s H vs Q E hr h=>?_)
 ·obtain ⟨n,m,rfl,_⟩:=h
  rfl
 ·obtain ⟨n,m,rfl,hm,k⟩:=h
  have hu:=kP hr
  refine ⟨_,(@kN _ _ _ _ _ (zj ik (@rm _ _ _ _ _ _ _ _ op_ne (pv 1) pe_int (lG _)) (@kN _ _ _ _ _ (@pk _ _ (2) _ _ _ _ sc_common_divisor.nd rfl (bw rfl) (@qf _ _ _ _ _ _ _ _ EN (pv 0) (pv 1)) (by rfl) (by first | exact .inl rfl | exact .inr rfl | assumption)) (@kN _ _ _ _ _ (@pk _ _ (0) _ _ _ _ sc_common_divisor.nd rfl (bw rfl) (pv 1) (by rfl) (by first | exact .inl rfl | exact .inr rfl | assumption)) (@kT _ _ _ (@pk _ _ (1) _ _ _ _ sc_common_divisor.nd rfl (bw rfl) (pv 2) (by rfl) (by first | exact .inl rfl | exact .inr rfl | assumption)))))) (@kT _ _ _ (@nY _ _ _ _ (pv 0)))),?_⟩
  refine ⟨fun c σ H'=>H'=H∧∃ x y v,σ=[some (.int x),some (.int y),v]∧0≤y∧c=y.toNat∧aO x y=aO n m∧(y=0→0≤x),⟨_,rfl,n,m,_,rfl,by omega,rfl,rfl,by omega⟩,?_⟩
  rintro c σ H' ⟨rfl,x,y,v,rfl,hy,rfl,hg,hx⟩
  refine ⟨_,rfl,rfl,_,rfl,rW (fun h=>?_) (fun h=>?_)⟩
  ·have hy0:0 < y:=by
    have:¬ (V.int y=V.int 0):=of_decide_eq_false (nbT h)
    have:y≠0:=fun z=>this (by rw [z])
    omega
   refine ⟨fun σ' H''=>H''=H'∧∃ v',σ'=[some (.int y),some (.int (x % y)),v'],?_,?_⟩
   ·rintro σ' H'' ⟨rfl,v',rfl⟩
    have m0:=dJ x (show y≠0 by omega)
    have m1:=cS x hy0
    exact ⟨(x % y).toNat,by omega,rfl,_,_,_,rfl,m0,rfl,(zt x y hy0).trans hg,fun _=>hy⟩
   ·exact ⟨_,rfl,_,rfl,_,_,rfl,rfl,hy0,_,rfl,_,rfl,rfl,_,rfl⟩
  ·have hy0:y=0:=V.int.inj (of_decide_eq_true (nbF h))
   subst hy0
   refine ⟨_,rfl,?_⟩
   rw [Ej (hx rfl) |>.symm,hg]
   exact k
abbrev AJ:bM:=top 6
theorem sc_plus:FnScope ["first","second","common","top","shared"] ["first","second"] (kC AJ):=fsc
def sR (K:aa):Sp:=fun vs H Q _=>∃ p1 p2 q1 q2,vs=[.ref p1,.ref p2]∧FrAt K H p1 q1∧FrAt K H p2 q2∧Sz q1∧Sz q2∧∀ x,H x=none→Q (.ref x) (upd H x (.tup [.int (lH q1 q2).1,.int (lH q1 q2).2]))
theorem FT (F:Fun K "plus" "plus" AJ f fd) (T:Txt K mg a) (F_common_divisor:Fn P w K mg base "common_divisor" 1 ["number","other"] EE):FnOk P w K mg base (CXo P w) 2 f fd ["first","second"] (sR K):=by
 refine F.okN sc_plus (fun vs H Q E h=>?_) (fun cdv A outer s H vs Q E hr h=>?_)
 ·obtain ⟨p1,p2,q1,q2,rfl,_⟩:=h
  rfl
 ·obtain ⟨p1,p2,⟨t1,b1⟩,⟨t2,b2⟩,rfl,h1,h2,s1,s2,k⟩:=h
  have hu:=kP hr
  refine ⟨_,(@kN _ _ _ _ _ (@pk _ _ (2) _ _ _ _ sc_plus.nd rfl (bw rfl) (@sH _ _ _ _ _ _ _ _ _ _ _ F_common_divisor (hr.mono (by first | decide | omega)) rfl kU (@kJ _ _ _ _ _ (@oX _ _ _ _ _ _ _ ix_tup (pv 0) pe_int (fun _ _=>rfl)) (@kJ _ _ _ _ _ (@oX _ _ _ _ _ _ _ ix_tup (pv 1) pe_int (fun _ _=>rfl)) pa_nil (by rfl)) (by rfl)) (by decide) (by rfl) (by rfl)) (by rfl) (by first | exact .inl rfl | exact .inr rfl | assumption)) (@kN _ _ _ _ _ (@pk _ _ (3) _ _ _ _ sc_plus.nd rfl (bw rfl) (@qf _ _ _ _ _ _ _ _ op_add (@qf _ _ _ _ _ _ _ _ op_mulB (@oX _ _ _ _ _ _ _ ix_tup (pv 0) pe_int (fun _ _=>rfl)) (@qf _ _ _ _ _ _ _ _ pz (@oX _ _ _ _ _ _ _ ix_tup (pv 1) pe_int (fun _ _=>rfl)) (pv 2))) (@qf _ _ _ _ _ _ _ _ op_mulB (@oX _ _ _ _ _ _ _ ix_tup (pv 1) pe_int (fun _ _=>rfl)) (@qf _ _ _ _ _ _ _ _ pz (@oX _ _ _ _ _ _ _ ix_tup (pv 0) pe_int (fun _ _=>rfl)) (pv 2)))) (by rfl) (by first | exact .inl rfl | exact .inr rfl | assumption)) (@kN _ _ _ _ _ (@pk _ _ (4) _ _ _ _ sc_plus.nd rfl (bw rfl) (@sH _ _ _ _ _ _ _ _ _ _ _ F_common_divisor (hr.mono (by first | decide | omega)) rfl kU (@kJ _ _ _ _ _ (pv 3) (@kJ _ _ _ _ _ (pv 2) pa_nil (by rfl)) (by rfl)) (by decide) (by rfl) (by rfl)) (by rfl) (by first | exact .inl rfl | exact .inr rfl | assumption)) (@kT _ _ _ (@nY _ _ _ _ (@vX _ _ _ _ _ (@kJ _ _ _ _ _ (@qf _ _ _ _ _ _ _ _ pz (pv 3) (pv 4)) (@kJ _ _ _ _ _ (@qf _ _ _ _ _ _ _ _ op_mulB (@qf _ _ _ _ _ _ _ _ pz (@oX _ _ _ _ _ _ _ ix_tup (pv 0) pe_int (fun _ _=>rfl)) (pv 2)) (@qf _ _ _ _ _ _ _ _ pz (@oX _ _ _ _ _ _ _ ix_tup (pv 1) pe_int (fun _ _=>rfl)) (pv 4))) pa_nil (by rfl)) (by rfl)))))))),?_⟩
  rw [← GB s1.low s2.low] at k
  have b10:0 < b1:=s1.low.1
  have b20:0 < b2:=s2.low.1
  have hd:0 < aO b1 b2:=bW _ (by omega)
  have hd0:(0:Int) < (aO b1 b2:Int):=by omega
  have bd:Bt 8900 (aO b1 b2:Int):=s1.bb.dvd (show b1≠0 by omega) (fD ..)
  have ld:=(bd.mono (by decide)).log hd0
  refine ⟨_,rfl,p1,_,1,_,rfl,rfl,h1,lp (j:=1) rfl,_,rfl,p2,_,1,_,rfl,rfl,h2,lp (j:=1) rfl,b1,b2,rfl,b20,?_⟩
  refine ⟨_,rfl,p1,_,0,_,rfl,rfl,h1,lp (j:=0) rfl,_,rfl,p2,_,1,_,rfl,rfl,h2,lp (j:=1) rfl,_,rfl,_,_,rfl,rfl,⟨hd0,ld⟩,_,_,rfl,rfl,⟨s1.bt.mono (by decide),(s2.bb.div).mono (by decide)⟩,?_⟩
  refine ⟨_,rfl,p2,_,0,_,rfl,rfl,h2,lp (j:=0) rfl,_,rfl,p1,_,1,_,rfl,rfl,h1,lp (j:=1) rfl,_,rfl,_,_,rfl,rfl,⟨hd0,ld⟩,_,_,rfl,rfl,⟨s2.bt.mono (by decide),(s1.bb.div).mono (by decide)⟩,_,_,rfl,rfl,?_⟩
  have he:0 < aO (t1 * (b2 / (aO b1 b2:Int))+t2 * (b1 / (aO b1 b2:Int))) (aO b1 b2:Int):=bW _ (by omega)
  have he0:(0:Int) < (aO (t1 * (b2 / (aO b1 b2:Int))+t2 * (b1 / (aO b1 b2:Int))) (aO b1 b2:Int):Int):=by omega
  have be:Bt 8900 (aO (t1 * (b2 / (aO b1 b2:Int))+t2 * (b1 / (aO b1 b2:Int))) (aO b1 b2:Int):Int):=bd.dvd (by omega) (cK ..)
  have le:=(be.mono (by decide)).log he0
  refine ⟨_,rfl,_,rfl,_,_,rfl,hd0,?_⟩
  refine ⟨_,rfl,_,rfl,_,_,rfl,rfl,⟨he0,le⟩,_,rfl,p1,_,1,_,rfl,rfl,h1,lp (j:=1) rfl,_,rfl,_,_,rfl,rfl,⟨hd0,ld⟩,_,rfl,p2,_,1,_,rfl,rfl,h2,lp (j:=1) rfl,_,rfl,_,_,rfl,rfl,⟨he0,le⟩,_,_,rfl,rfl,⟨(s1.bb.div).mono (by decide),(s2.bb.div).mono (by decide)⟩,(show 2≤aP by decide),fun x hx=>?_⟩
  exact k x hx
abbrev x4:bM:=top 7
theorem Dq:FnScope ["first","second"] ["first","second"] (kC x4):=fsc
def y9 (K:aa):Sp:=fun vs H Q _=>∃ p1 p2 q1 q2,vs=[.ref p1,.ref p2]∧FrAt K H p1 q1∧FrAt K H p2 q2∧Sz q1∧Sz q2∧∀ x H',H x=none→Same H H'→H' x=some (.tup [.int (lH q1 (-q2.1,q2.2)).1,.int (lH q1 (-q2.1,q2.2)).2])→Q (.ref x) H'
theorem Sz.neg {q:Int×Int} (h:Sz q):Sz (-q.1,q.2):=⟨⟨h.low.1,by have:=h.low.2;unfold Cop aO at *;simp only [gU];exact this⟩,h.bt.neg,h.bb⟩
theorem D4 (F:Fun K "minus" "minus" x4 f fd) (T:Txt K mg a) (F_plus:Fn P w K mg base "plus" 2 ["first","second"] (sR K)):FnOk P w K mg base (CXo P w) 3 f fd ["first","second"] (y9 K):=by
 refine F.okN Dq (fun vs H Q E h=>?_) (fun cdv A outer s H vs Q E hr h=>?_)
 ·obtain ⟨p1,p2,q1,q2,rfl,_⟩:=h
  rfl
 ·obtain ⟨p1,p2,⟨t1,b1⟩,⟨t2,b2⟩,rfl,h1,h2,s1,s2,k⟩:=h
  have hu:=kP hr
  refine ⟨_,(@kT _ _ _ (@nY _ _ _ _ (@sH _ _ _ _ _ _ _ _ _ _ _ F_plus (hr.mono (by first | decide | omega)) rfl kU (@kJ _ _ _ _ _ (pv 0) (@kJ _ _ _ _ _ (@vX _ _ _ _ _ (@kJ _ _ _ _ _ (@GM _ _ _ _ _ _ Ey (@oX _ _ _ _ _ _ _ ix_tup (pv 1) pe_int (fun _ _=>rfl))) (@kJ _ _ _ _ _ (@oX _ _ _ _ _ _ _ ix_tup (pv 1) pe_int (fun _ _=>rfl)) pa_nil (by rfl)) (by rfl))) pa_nil (by rfl)) (by rfl)) (by decide) (by rfl) (by rfl)))),?_⟩
  refine ⟨_,rfl,_,rfl,p2,_,0,_,rfl,rfl,h2,lp (j:=0) rfl,_,rfl,_,rfl,p2,_,1,_,rfl,rfl,h2,lp (j:=1) rfl,(show 2≤aP by decide),fun y hy=>?_⟩
  have sy:=pj (o:=.tup [.int (-t2),.int b2]) hy
  refine ⟨p1,y,(t1,b1),(-t2,b2),rfl,h1.same sy,SqT.of kD,s1,s2.neg,fun x hx=>?_⟩
  refine k x _ (sy.free hx) (sy.trans (pj hx)) kD
abbrev rS:bM:=top 8
theorem yL:FnScope ["first","second"] ["first","second"] (kC rS):=fsc
def vA (K:aa):Sp:=fun vs H Q _=>∃ p1 p2 q1 q2,vs=[.ref p1,.ref p2]∧FrAt K H p1 q1∧FrAt K H p2 q2∧Sz q1∧Sz q2∧Q (.bl (decide (q1.1 * q2.2 > q2.1 * q1.2))) H
theorem D6 (F:Fun K "is_above" "is_above" rS f fd) (T:Txt K mg a):FnOk P w K mg base (CXo P w) 1 f fd ["first","second"] (vA K):=by
 refine F.okN yL (fun vs H Q E h=>?_) (fun cdv A outer s H vs Q E hr h=>?_)
 ·obtain ⟨p1,p2,q1,q2,rfl,_⟩:=h
  rfl
 ·obtain ⟨p1,p2,⟨t1,b1⟩,⟨t2,b2⟩,rfl,h1,h2,s1,s2,k⟩:=h
  have hu:=kP hr
  refine ⟨_,(@kT _ _ _ (@nY _ _ _ _ (@Ba _ _ _ _ _ _ _ _ GR (@qf _ _ _ _ _ _ _ _ op_mulB (@oX _ _ _ _ _ _ _ ix_tup (pv 0) pe_int (fun _ _=>rfl)) (@oX _ _ _ _ _ _ _ ix_tup (pv 1) pe_int (fun _ _=>rfl))) (@qf _ _ _ _ _ _ _ _ op_mulB (@oX _ _ _ _ _ _ _ ix_tup (pv 1) pe_int (fun _ _=>rfl)) (@oX _ _ _ _ _ _ _ ix_tup (pv 0) pe_int (fun _ _=>rfl))) (lG _)))),?_⟩
  refine ⟨_,rfl,p1,_,0,_,rfl,rfl,h1,lp (j:=0) rfl,_,rfl,p2,_,1,_,rfl,rfl,h2,lp (j:=1) rfl,_,_,rfl,rfl,⟨s1.bt.mono (by decide),s2.bb.mono (by decide)⟩,_,rfl,p2,_,0,_,rfl,rfl,h2,lp (j:=0) rfl,_,rfl,p1,_,1,_,rfl,rfl,h1,lp (j:=1) rfl,_,_,rfl,rfl,⟨s2.bt.mono (by decide),s1.bb.mono (by decide)⟩,_,_,rfl,rfl,?_⟩
  exact k
end
structure Two (q1 q2:Int×Int):Prop where
 p1:0 < q1.2
 p2:0 < q2.2
 t1:Bt 9000 q1.1
 t2:Bt 9000 q2.1
 b1:Bt 9000 q1.2
 b2:Bt 9000 q2.2
 bb:Bt 9000 (q1.2 * q2.2)
abbrev Hl:=List (Str×Int×Int)
def kM (l:Hl) (n:Str):Int×Int:=(lN l n).2
def mW (l:Hl) (n:Str) (q:Int×Int):Hl:=if (l.any fun x=>decide (x.1=n))=true then l.map (fun x=>if x.1=n then (n,q) else x) else l++[(n,q)]
def rY (l:Hl) (n:Str):Hl:=l.filter fun x=>decide (x.1≠n)
def HeldZ (K:aa) (H:Hp) (p:ae) (l:Hl) (z:List ((Str×Int×Int)×ae)):Prop :=
 z.map (·.1)=l∧H p=some (.dK (z.map fun q=>(aE q.1.1,V.ref q.2)))∧∀ q∈z,FrAt K H q.2 q.1.2
theorem HeldAt.toZ {K:aa}{H:Hp}{p:ae}{l:Hl} (h:HeldAt K H p l):∃ z,HeldZ K H p l z:=by
 obtain ⟨ts,hl,hd,ht⟩:=h
 exact ⟨l.zip ts,iJ (by omega),hd,ht⟩
theorem tF {α β:Type}:∀ z:List (α×β),(z.map (·.1)).zip (z.map (·.2))=z
 | []=>rfl
 | x::r=>congrArg (x::·) (tF r)
theorem HeldZ.held {K:aa}{H:Hp}{p:ae}{l:Hl}{z:List ((Str×Int×Int)×ae)} (h:HeldZ K H p l z):HeldAt K H p l:=by
 obtain ⟨rfl,hd,ht⟩:=h
 refine ⟨z.map (·.2),by rw [aq,aq],?_,?_⟩
 ·rw [tF];exact hd
 ·rw [tF];exact ht
theorem yw {K:aa}{H:Hp}{p x:ae}{q:Int×Int}{kvs:List (Key×V)}{o:HO} (hp:H p=some (.dK kvs)) (h:FrAt K H x q):FrAt K (upd H p o) x q :=
 rg h fun c u e y=>by
  rw [kA (Ao e hp (by rcases y with ⟨xs,rfl | ⟨ob,rfl⟩⟩ <;> intro z <;> cases z))]
  exact e
theorem HeldZ.val {K:aa}{H:Hp}{p:ae}{l:Hl}{z:List ((Str×Int×Int)×ae)} (h:HeldZ K H p l z) (n:Str) :
  (n∉l.map (·.1)∧nB (z.map fun q=>((aE q.1.1:Key),V.ref q.2)) (aE n)=none∧kM l n=(0,1))∨(n∈l.map (·.1)∧∃ x,nB (z.map fun q=>((aE q.1.1:Key),V.ref q.2)) (aE n)=some (.ref x)∧FrAt K H x (kM l n)):=by
 obtain ⟨rfl,hd,ht⟩:=h
 rw [oS (key:=fun q:(Str×Int×Int)×ae=>q.1.1)]
 unfold kM lN
 rw [fS]
 have e:((fun q:Str×Int×Int=>decide (q.1=n)) ∘ fun x:(Str×Int×Int)×ae=>x.1)=fun x=>decide (x.1.1=n):=rfl
 rw [e]
 cases hf:z.find? (fun x=>decide (x.1.1=n)) with
 | none =>
  left
  refine ⟨fun hn=>?_,rfl,rfl⟩
  rw [cm] at hf
  rw [a7] at hn
  obtain ⟨q,hq,e2⟩:=am.mp hn
  exact hf q hq (decide_eq_true e2)
 | some q =>
  right
  have hq:=fU hf
  refine ⟨?_,q.2,rfl,ht q hq⟩
  rw [a7]
  exact am.mpr ⟨q,hq,by simpa using gL hf⟩
theorem HeldZ.put {K:aa}{H:Hp}{p x:ae}{l:Hl}{z:List ((Str×Int×Int)×ae)}{n:Str}{q:Int×Int} (h:HeldZ K H p l z) (hx:FrAt K H x q) :
  ∃ z',HeldZ K (upd H p (.dK (qi (z.map fun q=>((aE q.1.1:Key),V.ref q.2)) (aE n) (.ref x)))) p (mW l n q) z':=by
 obtain ⟨rfl,hd,ht⟩:=h
 refine ⟨if (z.any fun y=>decide (y.1.1=n))=true then z.map (fun y=>if y.1.1=n then ((n,q),x) else y) else z++[((n,q),x)],?_,?_,?_⟩
 ·unfold mW
  rw [gE]
  by_cases hb:(z.any fun y=>decide (y.1.1=n))=true
  ·rw [if_pos hb,if_pos (by exact hb),a7,a7]
   refine bQ fun y _=>?_
   show (if y.1.1=n then ((n,q),x) else y).1=if y.1.1=n then (n,q) else y.1
   by_cases e:y.1.1=n
   ·rw [if_pos e,if_pos e]
   ·rw [if_neg e,if_neg e]
  ·rw [if_neg hb,if_neg (by exact hb),aW]
   rfl
 ·rw [kD]
  unfold qi
  rw [gE]
  have eb:((fun kv:Key×V=>decide (kv.1=aE n)) ∘ fun q:(Str×Int×Int)×ae=>((aE q.1.1:Key),V.ref q.2))=fun y=>decide (y.1.1=n):=by
   funext y
   show decide ((aE y.1.1:Key)=aE n)=_
   rw [wm]
  rw [eb]
  by_cases hb:(z.any fun y=>decide (y.1.1=n))=true
  ·rw [if_pos hb,if_pos hb,a7,a7]
   congr 2
   refine bQ fun y _=>?_
   show (if (aE y.1.1:Key)=aE n then ((aE y.1.1:Key),V.ref x) else ((aE y.1.1:Key),V.ref y.2))=((aE (if y.1.1=n then ((n,q),x) else y).1.1:Key),V.ref (if y.1.1=n then ((n,q),x) else y).2)
   by_cases e:y.1.1=n
   ·rw [if_pos (by rw [e]),if_pos e,e]
   ·rw [if_neg (fun w=>e (jp w)),if_neg e]
  ·rw [if_neg hb,if_neg hb,aW]
   rfl
 ·intro y hy
  refine yw hd ?_
  by_cases hb:(z.any fun y=>decide (y.1.1=n))=true
  ·rw [if_pos hb] at hy
   obtain ⟨u,hu,rfl⟩:=am.mp hy
   by_cases e:u.1.1=n
   ·rw [if_pos e];exact hx
   ·rw [if_neg e];exact ht u hu
  ·rw [if_neg hb] at hy
   rcases aM.mp hy with hy | hy
   ·exact ht y hy
   ·rw [ay.mp hy];exact hx
theorem HeldZ.drop {K:aa}{H:Hp}{p:ae}{l:Hl}{z:List ((Str×Int×Int)×ae)}{n:Str} (h:HeldZ K H p l z) :
  ∃ z',HeldZ K (upd H p (.dK (wA (z.map fun q=>((aE q.1.1:Key),V.ref q.2)) (aE n)))) p (rY l n) z':=by
 obtain ⟨rfl,hd,ht⟩:=h
 refine ⟨z.filter (fun y=>decide (y.1.1≠n)),?_,?_,fun y hy=>yw hd (ht y (ck.mp hy).1)⟩
 ·unfold rY
  rw [dI]
  rfl
 ·rw [kD]
  unfold wA
  rw [dI]
  have eb:((fun kv:Key×V=>decide (kv.1≠aE n)) ∘ fun q:(Str×Int×Int)×ae=>((aE q.1.1:Key),V.ref q.2))=fun y=>decide (y.1.1≠n):=by
   funext y
   show decide ((aE y.1.1:Key)≠aE n)=_
   rw [bL,decide_eq_true_iff,decide_eq_true_iff]
   exact ⟨fun h w=>h (by rw [w]),fun h w=>h (jp w)⟩
  rw [eb]
theorem tP (l:Hl) (n:Str):lN l n=(n,kM l n):=by
 unfold kM lN
 cases h:l.find? fun q=>decide (q.1=n) with
 | none=>rfl
 | some q =>
  have:q.1=n:=by simpa using gL h
  show q=(n,q.2)
  rw [← this]
theorem lO (l:Hl) (n m:Str) (q:Int×Int):kM (mW l n q) m=if m=n then q else kM l m:=by
 unfold kM lN mW
 by_cases hb:(l.any fun x=>decide (x.1=n))=true
 ·rw [if_pos hb]
  induction l with
  | nil=>cases hb
  | cons x r ih =>
   rw [aD,bI,bI]
   by_cases e:x.1=n
   ·rw [if_pos e]
    by_cases em:m=n
    ·subst em
     rw [if_pos rfl,decide_eq_true (show m=m from rfl)]
     rfl
    ·rw [if_neg em]
     have e1:decide ((n,q).1=m)=false:=decide_eq_false fun z=>em z.symm
     have e2:decide (x.1=m)=false:=decide_eq_false fun z=>em (z.symm.trans e)
     rw [e1,e2]
     by_cases hr:(r.any fun x=>decide (x.1=n))=true
     ·have:=ih hr
      rw [if_neg em] at this
      exact this
     ·have er:r.map (fun x=>if x.1=n then (n,q) else x)=r:=by
       conv=>rhs;rw [← fZ r]
       refine bQ fun y hy=>if_neg fun z=>hr (cP.mpr ⟨y,hy,decide_eq_true z⟩)
      show (Option.getD ((r.map fun x=>if x.1=n then (n,q) else x).find? fun q=>decide (q.1=m)) (m,0,1)).2=_
      rw [er]
   ·rw [if_neg e]
    have hr:(r.any fun x=>decide (x.1=n))=true:=by
     rw [eo,decide_eq_false e,gi] at hb
     exact hb
    by_cases em:x.1=m
    ·rw [decide_eq_true em]
     have:¬ m=n:=fun z=>e (em.trans z)
     rw [if_neg this]
    ·rw [decide_eq_false em]
     exact ih hr
 ·rw [if_neg hb,gb]
  by_cases em:m=n
  ·subst em
   rw [if_pos rfl]
   have:l.find? (fun q=>decide (q.1=m))=none:=by
    rw [cm]
    intro x hx z
    exact hb (cP.mpr ⟨x,hx,z⟩)
   rw [this,Option.none_or,bI,decide_eq_true (show (m,q).1=m from rfl)]
   rfl
  ·rw [if_neg em]
   have:[(n,q)].find? (fun q=>decide (q.1=m))=none:=by
    rw [bI,decide_eq_false (show ¬ (n,q).1=m from fun z=>em z.symm)]
    rfl
   rw [this,Option.or_none]
theorem w8 (l:Hl) (n m:Str):kM (rY l n) m=if m=n then (0,1) else kM l m:=by
 unfold kM lN rY
 rw [List.find?_filter]
 by_cases em:m=n
 ·subst em
  rw [if_pos rfl]
  have:l.find? (fun a=>decide (decide (a.1≠m)=true∧decide (a.1=m)=true))=none:=by
   rw [cm]
   intro x hx z
   have z:=of_decide_eq_true z
   exact of_decide_eq_true z.1 (of_decide_eq_true z.2)
  rw [this]
  rfl
 ·rw [if_neg em]
  have:(fun a:Str×Int×Int=>decide (decide (a.1≠n)=true∧decide (a.1=m)=true))=fun a=>decide (a.1=m):=by
   funext x
   rw [bL]
   simp only [decide_eq_true_iff]
   exact ⟨fun h=>h.2,fun h=>⟨fun z=>em (h.symm.trans z),h⟩⟩
  rw [this]
theorem lF (l:Hl) (n:Str) (q:Int×Int):(mW l n q).map (·.1)=if n∈l.map (·.1) then l.map (·.1) else l.map (·.1)++[n]:=by
 unfold mW
 by_cases hb:(l.any fun x=>decide (x.1=n))=true
 ·have:n∈l.map (·.1):=by
   obtain ⟨x,hx,e⟩:=cP.mp hb
   exact am.mpr ⟨x,hx,of_decide_eq_true e⟩
  rw [if_pos hb,if_pos this,a7]
  refine bQ fun x _=>?_
  show (if x.1=n then (n,q) else x).1=x.1
  by_cases e:x.1=n
  ·rw [if_pos e,e]
  ·rw [if_neg e]
 ·have:¬ n∈l.map (·.1):=fun z=>by
   obtain ⟨x,hx,e⟩:=am.mp z
   exact hb (cP.mpr ⟨x,hx,decide_eq_true e⟩)
  rw [if_neg hb,if_neg this,aW]
  rfl
theorem wk {l:Hl} (n:Str) (q:Int×Int) (h:(l.map (·.1)).Nodup):((mW l n q).map (·.1)).Nodup:=by
 rw [lF]
 by_cases hn:n∈l.map (·.1)
 ·rw [if_pos hn];exact h
 ·rw [if_neg hn];exact sY h hn
theorem uU (l:Hl) (n:Str):(rY l n).map (·.1)=(l.map (·.1)).filter fun x=>decide (x≠n):=by
 unfold rY
 rw [dI]
 rfl
theorem FY {l:Hl} (n:Str) (h:(l.map (·.1)).Nodup):((rY l n).map (·.1)).Nodup:=by
 rw [uU]
 exact h.filter _
theorem ye (l:Hl) (n:Str) (q:Int×Int):(mW l n q).length≤l.length+1:=by
 have:=congrArg dF (lF l n q)
 rw [aq] at this
 rw [this]
 split
 ·rw [aq];omega
 ·rw [aT,aq];exact aC _
theorem zo (l:Hl) (n:Str):(rY l n).length≤l.length:=cR _ _
def se (l:Hl) (o1 o2:Str) (q:Int×Int):Hl :=
 let r:=lH (kM l o1) (-q.1,q.2)
 let l1:=if r=(0,1) then rY l o1 else mW l o1 r
 mW l1 o2 (lH (kM l1 o2) q)
def wx (l:Hl) (o1 o2:Str) (q:Int×Int):Hl :=
 let l1:=mW l o1 (lH (kM l o1) (-q.1,q.2))
 mW l1 o2 (lH (kM l1 o2) q)
def wS {β:Type} (L:List (Ent×β)) (h:Str) (g:Ent→Ent):List (Ent×β):=L.map fun x=>if x.1.nm=h then (g x.1,x.2) else x
theorem qG {β γ:Type}{L:List (Ent×β)}{h:Str}{g:Ent→Ent} (v:Ent×β→γ) (hv:∀ x,v (g x.1,x.2)=v x):(wS L h g).map v=L.map v:=by
 unfold wS
 rw [a7]
 refine bQ fun x _=>?_
 show v (if x.1.nm=h then (g x.1,x.2) else x)=v x
 by_cases e:x.1.nm=h
 ·rw [if_pos e,hv]
 ·rw [if_neg e]
theorem Dm {β:Type}{L:List (Ent×β)}{h:Str}{g:Ent→Ent}{y:Ent×β} (hy:y∈wS L h g):∃ x∈L,(x.1.nm=h∧y=(g x.1,x.2))∨(¬ x.1.nm=h∧y=x):=by
 unfold wS at hy
 obtain ⟨x,hx,rfl⟩:=am.mp hy
 refine ⟨x,hx,?_⟩
 by_cases e:x.1.nm=h
 ·rw [if_pos e];exact .inl ⟨e,rfl⟩
 ·rw [if_neg e];exact .inr ⟨e,rfl⟩
theorem AO {α β:Type}{key:α→β}:∀ {l:List α}{x y:α},(l.map key).Nodup→x∈l→y∈l→key x=key y→x=y
 | [],_,_,_,hx,_,_=>by cases hx
 | z::r,x,y,h,hx,hy,e=>by
  obtain ⟨h1,h2⟩:=aS.mp h
  rcases aj.mp hx with ex | hx'
  ·rcases aj.mp hy with ey | hy'
   ·exact ex.trans ey.symm
   ·rw [ex] at e
    exact absurd (am.mpr ⟨y,hy',e.symm⟩) h1
  ·rcases aj.mp hy with ey | hy'
   ·rw [ey] at e
    exact absurd (am.mpr ⟨x,hx',e⟩) h1
   ·exact AO h2 hx' hy' e
theorem zr {L:List (Ent×ae)}{h:Str}{e:Ent×ae} (he:l6 L h=some e):e.1.nm=h:=by
 unfold l6 at he
 simpa using gL he
theorem Cy {L:List (Ent×ae)}{h:Str}{e x:Ent×ae} (nd:(L.map (·.1.nm)).Nodup) (he:l6 L h=some e) (hx:x∈L) (hn:x.1.nm=h):x=e :=
 AO (key:=fun x:Ent×ae=>x.1.nm) nd hx (pc he) (hn.trans (zr he).symm)
theorem BookAt.reheld {K:aa}{C:ae}{H H':Hp}{b:ae}{z:BA}{ppl:List Str}{L:List (Ent×ae)}{h:Str}{e:Ent×ae}{g:Ent→Ent} (B:BookAt K C H b z ppl L) (nd:(L.map (·.1.nm)).Nodup) (he:l6 L h=some e)
  (hg:∀ x,g x={ x with held:=(g x).held }) (hH:HeldAt K H' e.2 (g e.1).held) (kp:∀ c o,H c=some o→c≠e.2→H' c=some o):BookAt K C H' b z ppl (wS L h g):=by
 have hem:=pc he
 have e2:e.2∈L.map (·.2):=am.mpr ⟨e,hem,rfl⟩
 obtain ⟨n1,r1⟩:=aS.mp B.nd
 obtain ⟨n2,r2⟩:=aS.mp r1
 obtain ⟨n3,r3⟩:=aS.mp r2
 obtain ⟨n4,r4⟩:=aS.mp r3
 obtain ⟨n5,r5⟩:=aS.mp r4
 obtain ⟨n6,r6⟩:=aS.mp r5
 have g1:∀ x,(g x).nm=x.nm:=fun x=>by rw [hg x]
 have g2:∀ x,(g x).th=x.th:=fun x=>by rw [hg x]
 have g3:∀ x,(g x).mr=x.mr:=fun x=>by rw [hg x]
 have g4:∀ x,(g x).ls=x.ls:=fun x=>by rw [hg x]
 refine ⟨kp _ _ B.ob fun q=>n1 (q ▸ by simp only [aj];right;right;right;right;right;exact e2),kp _ _ B.pp fun q=>n2 (q ▸ by simp only [aj];right;right;right;right;exact e2),?_,?_,?_,?_,?_,?_,B.p6,by unfold wS;rw [aq];exact B.h8⟩
 ·rw [qG (v:=fun e=>((aE e.1.nm:Key),V.int e.1.th)) fun x=>by rw [g1,g2]]
  exact kp _ _ B.tt fun q=>n3 (q ▸ by simp only [aj];right;right;right;exact e2)
 ·rw [qG (v:=fun e=>((aE e.1.nm:Key),V.int e.1.mr)) fun x=>by rw [g1,g3]]
  exact kp _ _ B.mm fun q=>n4 (q ▸ by simp only [aj];right;right;exact e2)
 ·rw [qG (v:=fun e=>((aE e.1.nm:Key),V.int e.1.ls)) fun x=>by rw [g1,g4]]
  exact kp _ _ B.ll fun q=>n5 (q ▸ by simp only [aj];right;exact e2)
 ·rw [qG (v:=fun e=>((aE e.1.nm:Key),V.ref e.2)) fun x=>by rw [g1]]
  exact B.hh.keep fun o h=>kp _ _ h fun q=>n6 (q ▸ e2)
 ·intro y hy
  obtain ⟨x,hx,⟨hn,rfl⟩ | ⟨hn,rfl⟩⟩:=Dm hy
  ·rw [Cy nd he hx hn]
   exact hH
  ·have hy2:y.2≠e.2:=fun q=>hn (by rw [AO (key:=fun x:Ent×ae=>x.2) r6 hx hem q];exact zr he)
   obtain ⟨kvs,hk⟩:∃ kvs,H e.2=some (.dK kvs):=by
    obtain ⟨ts,_,q,_⟩:=B.he e hem
    exact ⟨_,q⟩
   refine (B.he y hx).keep (fun o ho=>kp _ _ ho hy2) fun c o ho x=>kp c o ho fun q=>?_
   rw [q,hk] at ho
   cases ho
   rcases x with ⟨xs,z | ⟨ob,z⟩⟩ <;> cases z
 ·rw [qG (v:=fun e=>e.2) fun x=>rfl]
  exact B.nd
section
variable {P:aV}{w:bz}{K:aa}{mg:Str→Option af}{base:bK}{a:Adr}{f:ae}{fd:bR}
end
theorem G4 (i j:Int):Gf [V.int i,V.int j] [V.int 0,V.int 1]=decide ((i,j)=((0:Int),(1:Int))):=by
 show (eqV (.int i) (.int 0) && (eqV (.int j) (.int 1) && true))=_
 have e1:∀ i j:Int,eqV (.int i) (.int j)=decide (i=j):=fun i j=>rfl
 rw [e1,e1,Bool.and_true,bL,bY,decide_eq_true_iff,decide_eq_true_iff,decide_eq_true_iff,Prod.mk.injEq]
theorem bt0 (k:Nat):Bt k 0:=eE k
theorem bt1 {k:Nat} (h:k≠0):Bt k 1:=Nat.one_lt_two_pow h
theorem sz0:Sz (0,1):=⟨⟨by decide,(rfl:aO 0 1=1)⟩,bt0 _,bt1 (by decide)⟩
theorem HeldZ.same {K:aa}{H H':Hp}{p:ae}{l:Hl}{z:List ((Str×Int×Int)×ae)} (h:HeldZ K H p l z) (s:Same H H'):HeldZ K H' p l z :=
 ⟨h.1,s _ _ h.2.1,fun q hq=>(h.2.2 q hq).same s⟩
theorem HeldZ.get {K:aa}{H:Hp}{p:ae}{l:Hl}{z:List ((Str×Int×Int)×ae)} (h:HeldZ K H p l z) {o:ae} (ho:FrAt K H o (0,1)) (n:Str) :
  ∃ x,(nB (z.map fun q=>((aE q.1.1:Key),V.ref q.2)) (aE n)).getD (.ref o)=.ref x∧FrAt K H x (kM l n):=by
 rcases h.val n with ⟨_,hv,hg⟩ | ⟨_,x,hv,hx⟩
 ·exact ⟨o,by rw [hv];rfl,by rw [hg];exact ho⟩
 ·exact ⟨x,by rw [hv];rfl,hx⟩
def nH (l:Hl) (o:Str) (q:Int×Int):Prop:=¬ 0 < q.1∨q.1 * (kM l o).2 > (kM l o).1 * q.2
instance (l:Hl) (o:Str) (q:Int×Int):Decidable (nH l o q):=by unfold nH;infer_instance
section
variable {P:aV}{w:bz}{K:aa}{mg:Str→Option af}{base:bK}{a:Adr}{f:ae}{fd:bR}
abbrev qu:bM:=mn (top 38) 8
theorem sc_Book_sale:FnScope ["self","house","one","other","share","held","rest"] ["self","house","one","other","share"] (kC qu):=fsc
structure SaleOk (l:Hl) (o1:Str) (q:Int×Int):Prop where
 len:l.length < 1000
 sz:∀ n,Sz (kM l n)
 rs:¬ nH l o1 q→Sz (lH (kM l o1) (-q.1,q.2))
def A1 (K:aa) (a:Adr):Sp:=fun vs H Q E=>∃ b z ppl L h o1 o2 sp q,vs=[.ref b,.str h,.str o1,.str o2,.ref sp]∧BookAt K a.Book H b z ppl L∧(L.map (·.1.nm)).Nodup∧Nm h∧Nm o1∧Nm o2∧FrAt K H sp q∧Sz q ∧
 (∀ e,l6 L h=some e→SaleOk e.1.held o1 q) ∧
 (mZ L h=false→E (.ref a.NoHouse) none H) ∧
 (mZ L h=true→(mq ppl o1 || mZ L o1)=false→E (.ref a.NoHolder) none H) ∧
 (mZ L h=true→(mq ppl o1 || mZ L o1)=true→(mq ppl o2 || mZ L o2)=false→E (.ref a.NoHolder) none H) ∧
 (∀ e,l6 L h=some e→(mq ppl o1 || mZ L o1)=true→(mq ppl o2 || mZ L o2)=true→nH e.1.held o1 q→E (.ref a.NoShare) none H) ∧
 (∀ e,l6 L h=some e→(mq ppl o1 || mZ L o1)=true→(mq ppl o2 || mZ L o2)=true→¬ nH e.1.held o1 q→∀ H',BookAt K a.Book H' b z ppl (wS L h fun x=>{ x with held:=se x.held o1 o2 q })→(∀ c o,H c=some o→c≠e.2→H' c=some o)→Q .non H')
theorem FS (F:Fun K "sale" "Book.sale" qu f fd) (T:Txt K mg a) (M_need_house:Mt P w K mg base a.Book "need_house" 2 ["self","name"] (ml K a)) (M_need_holder:Mt P w K mg base a.Book "need_holder" 3 ["self","name"] (mR K a))
  (F_is_above:Fn P w K mg base "is_above" 1 ["first","second"] (vA K)) (F_minus:Fn P w K mg base "minus" 3 ["first","second"] (y9 K)) (F_plus:Fn P w K mg base "plus" 2 ["first","second"] (sR K)) :
  FnOk P w K mg base (CXo P w) 4 f fd ["self","house","one","other","share"] (A1 K a):=by
 refine F.okX sc_Book_sale (fun vs H Q E h=>?_) (fun cdv A outer s H vs Q E hr h=>?_)
 ·obtain ⟨b,z,ppl,L,h,o1,o2,sp,q,rfl,_⟩:=h
  rfl
 ·obtain ⟨b,z,ppl,L,h,o1,o2,sp,q,rfl,B,nd,nh,n1,n2,hq,sq,hok,k1,k2,k3,k4,k5⟩:=h
  have hu:=kP hr
  refine ⟨_,(@kN _ _ _ _ _ (@nc _ _ _ _ (qg (pv 0) M_need_house (hr.mono (by first | decide | omega)) kW (@kJ _ _ _ _ _ (pv 1) pa_nil (by rfl))) (by rfl)) (@kN _ _ _ _ _ (@nc _ _ _ _ (qg (pv 0) M_need_holder (hr.mono (by first | decide | omega)) kW (@kJ _ _ _ _ _ (pv 2) pa_nil (by rfl))) (by rfl)) (@kN _ _ _ _ _ (@nc _ _ _ _ (qg (pv 0) M_need_holder (hr.mono (by first | decide | omega)) kW (@kJ _ _ _ _ _ (pv 3) pa_nil (by rfl))) (by rfl)) (@kN _ _ _ _ _ (@pk _ _ (5) _ _ _ _ sc_Book_sale.nd rfl (bw rfl) (@qb _ _ _ _ _ _ hu (mG (pv 0) rfl) (pv 1) (fun _ _=>rfl)) (by rfl) (by first | exact .inl rfl | exact .inr rfl | assumption)) (@kN _ _ _ _ _ (@sG _ _ _ _ _ _ _ _ (PW.pt (GL (vS (sA (@sH _ _ _ _ _ _ _ _ _ _ _ F_is_above (hr.mono (by first | decide | omega)) rfl kW (@kJ _ _ _ _ _ (pv 4) (@kJ _ _ _ _ _ (nJ rfl T.g_ZERO T.r_ZERO) pa_nil (by rfl)) (by rfl)) (by decide) (by rfl) (by rfl)))) (EH (sA (@sH _ _ _ _ _ _ _ _ _ _ _ F_is_above (hr.mono (by first | decide | omega)) rfl kW (@kJ _ _ _ _ _ (pv 4) (@kJ _ _ _ _ _ (@vD _ _ _ _ _ _ _ _ _ hu (pv 5) (pv 2) (nJ rfl T.g_ZERO T.r_ZERO) ⟨rfl,rfl,rfl,rfl⟩) pa_nil (by rfl)) (by rfl)) (by decide) (by rfl) (by rfl)))))) (@kT _ _ _ (nI T.x_NoShare rfl T.c_NoShare rfl (Af (um (pv 2) (vU (um (pv 1) vV)))) uW)) pss_nil) (@kN _ _ _ _ _ (@pk _ _ (6) _ _ _ _ sc_Book_sale.nd rfl (bw rfl) (@sH _ _ _ _ _ _ _ _ _ _ _ F_minus (hr.mono (by first | decide | omega)) rfl kW (@kJ _ _ _ _ _ (@qb _ _ _ _ _ _ hu (pv 5) (pv 2) (fun _ _=>rfl)) (@kJ _ _ _ _ _ (pv 4) pa_nil (by rfl)) (by rfl)) (by decide) (by rfl) (by rfl)) (by rfl) (by first | exact .inl rfl | exact .inr rfl | assumption)) (@kN _ _ _ _ _ (@sG _ _ _ _ _ _ _ _ (@rm _ _ _ _ _ _ _ _ (HP (Nat.lt_of_succ_lt hu)) (pv 6) (nJ rfl T.g_ZERO T.r_ZERO) (lG _)) (@kT _ _ _ (@nc _ _ _ _ (DV (pv 5) (pv 2) ⟨rfl,rfl,rfl,rfl⟩) (by rfl))) (@kT _ _ _ (qa hu (pv 5) (pv 2) (pv 6) rfl))) (@kT _ _ _ (qa hu (pv 5) (pv 3) (@sH _ _ _ _ _ _ _ _ _ _ _ F_plus (hr.mono (by first | decide | omega)) rfl kW (@kJ _ _ _ _ _ (@vD _ _ _ _ _ _ _ _ _ hu (pv 5) (pv 3) (nJ rfl T.g_ZERO T.r_ZERO) ⟨rfl,rfl,rfl,rfl⟩) (@kJ _ _ _ _ _ (pv 4) pa_nil (by rfl)) (by rfl)) (by decide) (by rfl) (by rfl)) rfl))))))))),?_⟩
  have bn:∀ {m:Str},¬ m="people"→¬ m="things_of"→¬ m="mark_of"→¬ m="loss_of"→¬ m="held_of"→(bf z).lookup m=none:=fun a b c d e=>pY z a b c d e
  refine ⟨_,rfl,b,_,_,rfl,B.ob,pY z (by decide +kernel) (by decide +kernel) (by decide +kernel) (by decide +kernel) (by decide +kernel),_,rfl,b,z,ppl,L,h,rfl,B,nh,fun hh=>?_,fun hh=>k1 hh⟩
  refine ⟨_,rfl,b,_,_,rfl,B.ob,pY z (by decide +kernel) (by decide +kernel) (by decide +kernel) (by decide +kernel) (by decide +kernel),_,rfl,b,z,ppl,L,o1,rfl,B,n1,fun h1=>?_,fun h1=>k2 hh h1⟩
  refine ⟨_,rfl,b,_,_,rfl,B.ob,pY z (by decide +kernel) (by decide +kernel) (by decide +kernel) (by decide +kernel) (by decide +kernel),_,rfl,b,z,ppl,L,o2,rfl,B,n2,fun h2=>?_,fun h2=>k3 hh h1 h2⟩
  cases he:l6 L h with
  | none=>unfold mZ at hh;unfold l6 at he;rw [he] at hh;cases hh
  | some e =>
  have hem:=pc he
  have ok:=hok e he
  obtain ⟨zz,Z⟩:=(B.he e hem).toZ
  have hval:=B.hh.dget h
  rw [vL _ he] at hval
  have zeroFr:∀ H,FrAt K H a.ZERO (0,1):=fun H=>.inr T.zero
  refine ⟨_,rfl,b,_,_,_,_,rfl,B.ob,T.cl,T.nA_held_of,rO z,_,rfl,_,_,rfl,hval,?_⟩
  refine ⟨_,rfl,sp,a.ZERO,q,(0,1),rfl,hq,zeroFr H,sq,sz0,_,rfl,rW (fun h3=>?_) (fun h3=>?_)⟩
  ·have h3:=of_decide_eq_false (nbT h3)
   exact F6 ⟨_,rfl,⟨o1,rfl,n1⟩,_,rfl,⟨h,rfl,nh⟩,fun y=>k4 e he h1 h2 (.inl (by simp only at h3;omega))⟩
  have q0:0 < q.1:=by have:=of_decide_eq_true (nbF h3);simp only at this;omega
  obtain ⟨x0,hx0,fx0⟩:=Z.get (zeroFr H) o1
  refine ⟨_,rfl,_,rfl,e.2,rfl,.inl ⟨_,.inl Z.2.1⟩,_,rfl,_,DGet.k (k:=aE o1) Z.2.1,?_⟩
  rw [hx0]
  refine ⟨sp,x0,q,_,rfl,hq,fx0,sq,ok.sz o1,_,rfl,rW (fun h4=>?_) (fun h4=>?_)⟩
  ·have h4:=of_decide_eq_true h4
   exact ⟨_,rfl,⟨o1,rfl,n1⟩,_,rfl,⟨h,rfl,nh⟩,fun y=>k4 e he h1 h2 (.inr h4)⟩
  have h4:¬ q.1 * (kM e.1.held o1).2 > (kM e.1.held o1).1 * q.2:=fun z=>h4 (decide_eq_true z)
  have ntm:¬ nH e.1.held o1 q:=fun z=>z.elim (fun y=>y q0) h4
  rcases Z.val o1 with ⟨_,_,hg⟩ | ⟨hn,x,hv,hx⟩
  ·exfalso
   rw [hg] at h4
   simp only at h4
   omega
  have hget:DGet H e.2 (.str o1) (some (.ref x)):=by
   have:=DGet.k (k:=aE o1) Z.2.1
   rw [hv] at this
   exact this
  refine ⟨_,rfl,_,rfl,e.2,_,rfl,hget,_,rfl,x,sp,_,_,rfl,hx,hq,ok.sz o1,sq,fun r H1 hr0 s1 hr1=>?_⟩
  have Z1:=Z.same s1
  have fin:∀ H2 l1 z2,HeldZ K H2 e.2 l1 z2→se e.1.held o1 o2 q=mW l1 o2 (lH (kM l1 o2) q)→(∀ c o,H c=some o→c≠e.2→H2 c=some o)→Sz (kM l1 o2)→l1.length≤e.1.held.length→FrAt K H2 sp q →
    GH (CW 5) (CW 3) (zT (sR K) [] E (E6 (EB (CW 5) (CW 3) (tC (V.ref a.ZERO))) (E6 (CW 4) CY))) { nx:=fun x H'=>Q V.non H',rt:=Q } [some (V.ref b),some (V.str h),some (V.str o1),some (V.str o2),some (V.ref sp),some (V.ref e.2),some (V.ref r)] H2:=by
   intro H2 l1 z2 Z2 es kp szl len fq
   obtain ⟨y,hy,fy⟩:=Z2.get (zeroFr H2) o2
   refine ⟨_,rfl,e.2,rfl,.inl ⟨_,.inl Z2.2.1⟩,_,rfl,_,DGet.k (k:=aE o2) Z2.2.1,?_⟩
   rw [hy]
   refine ⟨_,rfl,y,sp,_,_,rfl,fy,fq,szl,sq,fun t ht=>?_⟩
   have st:=pj (o:=.tup [.int (lH (kM l1 o2) q).1,.int (lH (kM l1 o2) q).2]) ht
   have Z3:=Z2.same st
   refine ⟨_,rfl,_,rfl,e.2,_,rfl,DPut.k (k:=aE o2) Z3.2.1 ?_,?_⟩
   ·rw [aq,← aq (f:=(·.1)),Z2.1]
    exact bi len (e9 ok.len (by decide))
   ·obtain ⟨z4,Z4⟩:=Z3.put (n:=o2) (x:=t) (q:=lH (kM l1 o2) q) (SqT.of kD)
    have kp':∀ c o,H c=some o→c≠e.2→(upd (upd H2 t (.tup [.int (lH (kM l1 o2) q).1,.int (lH (kM l1 o2) q).2])) e.2 (.dK (qi (z2.map fun q=>((aE q.1.1:Key),V.ref q.2)) (aE o2) (.ref t)))) c=some o:=fun c o hc hn=>by
     rw [kA hn]
     exact st c o (kp c o hc hn)
    refine k5 e he h1 h2 ntm _ (B.reheld nd he (fun x=>rfl) ?_ kp') kp'
    show HeldAt K _ e.2 (se e.1.held o1 o2 q)
    rw [es]
    exact Z4.held
  refine ⟨_,rfl,r,a.ZERO,_,_,rfl,rfl,SqT.of hr1,.inr T.zero,rfl,rfl,rfl,_,rfl,rW (fun h5=>?_) (fun h5=>?_)⟩
  ·rw [G4] at h5
   have h5:lH (kM e.1.held o1) (-q.1,q.2)=(0,1):=of_decide_eq_true h5
   refine ⟨_,rfl,e.2,rfl,.inl ⟨_,.inl Z1.2.1⟩,_,rfl,_,aE o1,.ref x,Z1.2.1,rfl,hv,?_⟩
   obtain ⟨z2,Z2⟩:=Z1.drop (n:=o1)
   refine fin _ _ z2 Z2 ?_ (fun c o hc hn=>by rw [kA hn];exact s1 c o hc) ?_ (zo _ _) (yw Z1.2.1 (hq.same s1))
   ·unfold se
    simp only [h5,if_true]
   ·rw [w8]
    by_cases e2:o2=o1
    ·rw [if_pos e2];exact sz0
    ·rw [if_neg e2];exact ok.sz o2
  ·rw [G4] at h5
   have h5:¬ lH (kM e.1.held o1) (-q.1,q.2)=(0,1):=fun z=>h5 (decide_eq_true z)
   refine ⟨_,rfl,_,rfl,_,rfl,e.2,_,rfl,DPut.k (k:=aE o1) Z1.2.1 ?_,?_⟩
   ·rw [aq,← aq (f:=(·.1)),Z.1]
    exact e9 ok.len (by decide)
   ·obtain ⟨z2,Z2⟩:=Z1.put (n:=o1) (x:=r) (q:=lH (kM e.1.held o1) (-q.1,q.2)) (SqT.of hr1)
    refine fin _ _ z2 Z2 ?_ (fun c o hc hn=>by rw [kA hn];exact s1 c o hc) ?_ ?_ (yw Z1.2.1 (hq.same s1))
    ·unfold se
     simp only [h5,if_false]
    ·rw [lO]
     by_cases e2:o2=o1
     ·rw [if_pos e2];exact ok.rs ntm
     ·rw [if_neg e2];exact ok.sz o2
    ·have:=congrArg dF (lF e.1.held o1 (lH (kM e.1.held o1) (-q.1,q.2)))
     rw [if_pos hn,aq,aq] at this
     exact jQ this
end
def m6 (L:List Ent) (n:Str):Option Ent:=L.find? fun e=>decide (e.nm=n)
def me (L:List Ent) (n:Str):Bool:=(m6 L n).isSome
def z0 (L:List Ent) (h:Str) (g:Ent→Ent):List Ent:=L.map fun x=>if x.nm=h then g x else x
theorem w6 (L:List (Ent×ae)) (n:Str):(l6 L n).map (·.1)=m6 (L.map (·.1)) n:=by
 unfold l6 m6
 rw [fS];rfl
theorem mD (L:List (Ent×ae)) (n:Str):mZ L n=me (L.map (·.1)) n:=by
 unfold me;rw [← w6];unfold mZ l6;rw [cV]
theorem Do (L:List (Ent×ae)) (h:Str) (g:Ent→Ent):(wS L h g).map (·.1)=z0 (L.map (·.1)) h g:=by
 unfold wS z0
 rw [a7,a7]
 refine bQ fun x _=>?_
 show (if x.1.nm=h then (g x.1,x.2) else x).1=if x.1.nm=h then g x.1 else x.1
 split <;> rfl
def oT (a:Adr) (pp:List Str) (L:List Ent) (x:Str):Option ae:=if tj x=false then some a.NoName else if (mq pp x || me L x)=true then some a.Twice else none
def rA (a:Adr) (pp:List Str) (L:List Ent) (x:Str):Option ae:=match oT a pp L x with
 | some c=>some c
 | none=>if 6≤pp.length then some a.TooMany else none
def rE (a:Adr) (pp:List Str) (L:List Ent) (x o:Str) (l:Int):Option ae:=match oT a pp L x with
 | some c=>some c
 | none=>if (mq pp o || me L o)=false then some a.NoHolder else if l < 0 then some a.NoLoss else if 8≤L.length then some a.TooMany else none
theorem uT (a:Adr) (pp:List Str) (L:List (Ent×ae)) (x:Str):oK a pp L x=oT a pp (L.map (·.1)) x:=by unfold oK oT;rw [mD]
theorem uR (a:Adr) (pp:List Str) (L:List (Ent×ae)) (x:Str):rB a pp L x=rA a pp (L.map (·.1)) x:=by unfold rB rA;rw [uT];try (cases oT a pp (L.map (·.1)) x <;> rfl)
theorem va (a:Adr) (pp:List Str) (L:List (Ent×ae)) (x o:Str) (l:Int):pA a pp L x o l=rE a pp (L.map (·.1)) x o l:=by unfold pA rE;rw [uT,mD,aq];try (cases oT a pp (L.map (·.1)) x <;> rfl)
noncomputable instance (x:Str):Decidable (Nm x):=cZ _
def k7 (vs:List PV) (s:Sto) (k:Nat→List Str→List Ent→List PV→Out PV):Out PV:=match vs with
 | .ref n::r=>match s.get n with
  | some (.book pp L)=>k n pp L r
  | _=>.bad
 | _=>.bad
def qV (a:Adr) (vs:List PV) (s:Sto):Out PV:=k7 vs s fun n pp L r=>match r with
 | [.str x]=>if Nm x then (match rA a pp L x with
  | none=>.ok .non (s.set n (.book (pp++[x]) L))
  | some c=>.ex c s) else .bad
 | _=>.bad
def tE (a:Adr) (vs:List PV) (s:Sto):Out PV:=k7 vs s fun n pp L r=>match r with
 | [.str x,.str o,.int t,.int m,.int l]=>if Nm x∧Nm o then (match rE a pp L x o l with
  | none=>.ok .non (s.set n (.book pp (L++[⟨x,t,m,l,[(o,1,1)]⟩])))
  | some c=>.ex c s) else .bad
 | _=>.bad
def li (_:Adr) (vs:List PV) (s:Sto):Out PV:=k7 vs s fun _ pp _ r=>match r with
 | []=>.ok (.lst ((srt pp).map .str)) s
 | _=>.bad
def lR (_:Adr) (vs:List PV) (s:Sto):Out PV:=k7 vs s fun _ _ L r=>match r with
 | []=>.ok (.lst ((srt (L.map (·.nm))).map .str)) s
 | _=>.bad
def frP (q:Int×Int):PV:=.tup [.int q.1,.int q.2]
def yu (q:Str×Int×Int):PV:=.tup [.str q.1,frP q.2]
def p7 (l:List (Str×Int×Int)):PV:=.lst ((srt (l.map (·.1))).map fun n=>yu (lN l n))
def lQ (a:Adr) (vs:List PV) (s:Sto):Out PV:=k7 vs s fun _ _ L r=>match r with
 | [.str x]=>if Nm x then (match m6 L x with
  | none=>.ex a.NoHouse s
  | some e=>if e.held.length < 64 then .ok (p7 e.held) s else .bad) else .bad
 | _=>.bad
def BC (a:Adr) (vs:List PV) (s:Sto):Out PV:=k7 vs s fun _ _ L r=>match r with
 | [.str x]=>if Nm x then (match m6 L x with
  | none=>.ex a.NoHouse s
  | some e=>.ok (.tup [.int e.th,.int e.mr,.int e.ls]) s) else .bad
 | _=>.bad
def lv (_:Adr) (vs:List PV) (s:Sto):Out PV:=k7 vs s fun _ _ L r=>match r with
 | [.str x]=>.ok (.bl (me L x)) s
 | _=>.bad
def lB (a:Adr) (vs:List PV) (s:Sto):Out PV:=k7 vs s fun _ _ L r=>match r with
 | [.str x]=>if Nm x then (if me L x=true then .ok .non s else .ex a.NoHouse s) else .bad
 | _=>.bad
def kQ (a:Adr) (vs:List PV) (s:Sto):Out PV:=k7 vs s fun _ pp L r=>match r with
 | [.str x]=>if Nm x then (if (mq pp x || me L x)=true then .ok .non s else .ex a.NoHolder s) else .bad
 | _=>.bad
structure SaleE (L:List Ent) (h o1 o2:Str) (q:Int×Int):Prop where
 nd:(L.map (·.nm)).Nodup
 nm:Nm h∧Nm o1∧Nm o2
 sz:Sz q
 ok:∀ e,m6 L h=some e→SaleOk e.held o1 q
noncomputable instance (L:List Ent) (h o1 o2:Str) (q:Int×Int):Decidable (SaleE L h o1 o2 q):=cZ _
def wv (a:Adr) (vs:List PV) (s:Sto):Out PV:=k7 vs s fun n pp L r=>match r with
 | [.str h,.str o1,.str o2,.tup [.int t,.int b]]=>if SaleE L h o1 o2 (t,b) then (match m6 L h with
  | none=>.ex a.NoHouse s
  | some e=>if (mq pp o1 || me L o1)=false then .ex a.NoHolder s else if (mq pp o2 || me L o2)=false then .ex a.NoHolder s
   else if nH e.held o1 (t,b) then .ex a.NoShare s else .ok .non (s.set n (.book pp (z0 L h fun x=>{ x with held:=se x.held o1 o2 (t,b) })))) else .bad
 | _=>.bad
section
variable {K:aa}{H:Hp}{m:Mp}{s:Sto}{a:Adr}
theorem IR {CB:ae} (S:SR K CB H m s) {n:Nat}{pp pp':List Str}{L:List Ent}{L' L2:List (Ent×ae)}{z:BA}{H':Hp} (hg:s.get n=some (.book pp L)) (eF:m.fp n=BFp (m.ad n) z L') (B':BookAt K CB H' (m.ad n) z pp' L2)
  (k:∀ a o,H a=some o→a∉BFp (m.ad n) z L'→H' a=some o) (hnew:∀ a∈BFp (m.ad n) z L2,a∈BFp (m.ad n) z L'∨H a=none) :
  SR K CB H' (m.fput n (BFp (m.ad n) z L2)) (s.set n (.book pp' (L2.map (·.1))))∧Ext H m s H' (m.fput n (BFp (m.ad n) z L2)) (s.set n (.book pp' (L2.map (·.1)))) :=
 S.put hg (by intro _ z;cases z) H' _ (by rw [eF];exact k) (by rw [eF];exact hnew) fun _=>⟨z,L2,B',rfl,by show (if n=n then _ else _)=_;rw [if_pos rfl];rfl⟩
theorem onB {CB:ae} (S:SR K CB H m s) {xs:List V}{vs:List PV}{k:Nat→List Str→List Ent→List PV→Out PV}{E:XK}{Q:VK} (r:Reps K H m s xs vs) (P:Post K CB (Rep K) E (k7 vs s k) H m s Q) :
  ∃ n pp L z L' us ys,s.get n=some (.book pp L)∧BookAt K CB H (m.ad n) z pp L'∧L'.map (·.1)=L∧m.fp n=BFp (m.ad n) z L'∧xs=.ref (m.ad n)::us∧Reps K H m s us ys∧Post K CB (Rep K) E (k n pp L ys) H m s Q:=by
 unfold k7 at P
 split at P
 ·rename_i n r'
  split at P
  ·rename_i pp L hg
   obtain ⟨z,L',B,e1,e2⟩:=S.get hg
   cases r with
   | cons r1 r2 =>
    cases r1
    exact ⟨n,pp,L,z,L',_,_,hg,B,e1,e2,rfl,r2,P⟩
  ·exact P.elim
 ·exact P.elim
theorem F9 {L:List (Ent×ae)}{b:ae}{z:BA}{e:Ent×ae} (h:e∈L):e.2∈BFp b z L:=by
 unfold BFp
 simp only [aj]
 right;right;right;right;right;right
 exact am.mpr ⟨e,h,rfl⟩
theorem Dl (L:List (Ent×ae)) (h:Str) (g:Ent→Ent):(wS L h g).map (·.2)=L.map (·.2):=by
 unfold wS
 rw [a7]
 refine bQ fun x _=>?_
 show (if x.1.nm=h then (g x.1,x.2) else x).2=x.2
 split <;> rfl
theorem Fv (b:ae) (z:BA) (L:List (Ent×ae)) (h:Str) (g:Ent→Ent):BFp b z (wS L h g)=BFp b z L:=by unfold BFp;rw [Dl]
theorem rC {us:List V}{x:Str} (r:Reps K H m s us [.str x]):us=[.str x]:=by
 cases r with
 | cons a b=>cases a;cases b;rfl
theorem zW (vs:List V) (H:Hp) (Q:VK) (E:XK) (h:spD K a.Book 2 (qV a) vs H Q E):wP K a vs H Q E:=by
 obtain ⟨_,ps,s,m,r,S,P⟩:=h
 obtain ⟨n,pp,L,z,L',us,ys,hg,B,e1,e2,rfl,r',P⟩:=onB S r P
 split at P
 ·split at P
  ·rename_i x hx
   cases rC r'
   refine ⟨_,z,pp,L',x,rfl,B,hx,fun hd H' B' k=>?_,fun c hd H' k=>?_⟩
   ·rw [uR,e1] at hd
    rw [hd] at P
    obtain ⟨S2,x2⟩:=IR S hg e2 B' (fun c o h hc=>k c o h fun z=>hc (by rw [z];simp [BFp])) (fun c hc=>.inl hc)
    rw [e1] at S2 x2
    exact P _ _ _ x2 S2 .non
   ·rw [uR,e1] at hd
    rw [hd] at P
    exact P _ m (.same k) (S.same k)
  ·exact P.elim
 ·exact P.elim
theorem BH (vs:List V) (H:Hp) (Q:VK) (E:XK) (h:spD K a.Book 6 (tE a) vs H Q E):za K a vs H Q E:=by
 obtain ⟨_,ps,s,m,r,S,P⟩:=h
 obtain ⟨n,pp,L,z,L',us,ys,hg,B,e1,e2,rfl,r',P⟩:=onB S r P
 split at P
 ·split at P
  ·rename_i x o t mm l hx
   cases r' with
   | cons q1 r'=>cases r' with
    | cons q2 r'=>cases r' with
     | cons q3 r'=>cases r' with
      | cons q4 r'=>cases r' with
       | cons q5 r' =>
        cases r';cases q1;cases q2;cases q3;cases q4;cases q5
        refine ⟨_,z,pp,L',x,o,t,mm,l,rfl,B,hx.1,hx.2,fun hd p H' hp B' k=>?_,fun c hd H' k=>?_⟩
        ·rw [va,e1] at hd
         rw [hd] at P
         obtain ⟨S2,x2⟩:=IR S hg e2 B' (fun c o h hc=>k c o h fun z=>hc (by unfold BFp;simp only [aj,bX,or_false] at z ⊢;rcases z with z | z | z | z <;> simp [z])) (fun c hc=>by
          unfold BFp at hc ⊢
          rw [aW] at hc
          simp only [aj,aM,aD,cy,bX,or_false] at hc ⊢
          rcases hc with h | h | h | h | h | h | h | h
          ·exact .inl (.inl h)
          ·exact .inl (.inr (.inl h))
          ·exact .inl (.inr (.inr (.inl h)))
          ·exact .inl (.inr (.inr (.inr (.inl h))))
          ·exact .inl (.inr (.inr (.inr (.inr (.inl h)))))
          ·exact .inl (.inr (.inr (.inr (.inr (.inr (.inl h))))))
          ·exact .inl (.inr (.inr (.inr (.inr (.inr (.inr h))))))
          ·rw [h];exact .inr hp)
         rw [aW,e1] at S2 x2
         exact P _ _ _ x2 S2 .non
        ·rw [va,e1] at hd
         rw [hd] at P
         exact P _ m (.same k) (S.same k)
  ·exact P.elim
 ·exact P.elim
theorem yI (vs:List V) (H:Hp) (Q:VK) (E:XK) (h:spD K a.Book 1 (li a) vs H Q E):uK K a.Book vs H Q E:=by
 obtain ⟨_,ps,s,m,r,S,P⟩:=h
 obtain ⟨n,pp,L,z,L',us,ys,hg,B,e1,e2,rfl,r',P⟩:=onB S r P
 split at P
 ·cases r'
  exact ⟨_,z,pp,L',rfl,B,fun l hl=>P.new S hl fun ex S'=>.lst kD (S.pure_none hl) (.ofStrs _)⟩
 ·exact P.elim
theorem zX (vs:List V) (H:Hp) (Q:VK) (E:XK) (h:spD K a.Book 1 (lR a) vs H Q E):wQ K a.Book vs H Q E:=by
 obtain ⟨_,ps,s,m,r,S,P⟩:=h
 obtain ⟨n,pp,L,z,L',us,ys,hg,B,e1,e2,rfl,r',P⟩:=onB S r P
 split at P
 ·cases r'
  refine ⟨_,z,pp,L',rfl,B,fun l hl=>P.new S hl fun ex S'=>.lst kD (S.pure_none hl) ?_⟩
  rw [← e1,a7]
  exact .ofStrs _
 ·exact P.elim
theorem rX {L':List (Ent×ae)}{L:List Ent}{x:Str} (e:L'.map (·.1)=L):(∀ q,l6 L' x=some q→m6 L x=some q.1)∧(l6 L' x=none→m6 L x=none):=by
 have:=w6 L' x
 rw [e] at this
 refine ⟨fun q h=>?_,fun h=>?_⟩ <;> (rw [h] at this;exact this.symm)
theorem wT:∀ {l:List (Str×Int×Int)}{vs:List V}{m:Mp}{s:Sto}{CB:ae}{H:Hp},SR K CB H m s→fI (PairAt K H) l vs→Reps K H m s vs (l.map yu)
 | _,_,_,_,_,_,_,.nil=>.nil
 | _,_,m,s,CB,H,S,.cons r t=>by
  obtain ⟨p,q,rfl,h1,h2⟩:=r
  have tp:∀ {c:ae}{xs:List V},SqT K H c xs→(Rd H c (.tup xs)∧Pur m s c∨KT' K c xs):=fun h=>h.elim (fun z=>.inl ⟨z,z.elim (fun z=>S.pure_tup z) fun ⟨_,z⟩=>S.pure_frz (.inl z)⟩) .inr
  exact .cons (.tup (tp h1) (.cons .str (.cons (.tup (tp h2) (.cons .int (.cons .int .nil))) .nil))) (wT S t)
theorem zV (vs:List V) (H:Hp) (Q:VK) (E:XK) (h:spD K a.Book 2 (lQ a) vs H Q E):wO K a vs H Q E:=by
 obtain ⟨_,ps,s,m,r,S,P⟩:=h
 obtain ⟨n,pp,L,z,L',us,ys,hg,B,e1,e2,rfl,r',P⟩:=onB S r P
 split at P
 ·split at P
  ·rename_i x hx
   cases rC r'
   obtain ⟨f1,f2⟩:=rX (x:=x) e1
   refine ⟨_,z,pp,L',x,rfl,B,hx,fun e he=>?_,fun he=>?_⟩
   ·rw [f1 e he] at P
    dsimp only at P
    split at P
    ·rename_i h64
     refine ⟨h64,fun l ys' H' hl k h' pr=>?_⟩
     have S':=S.same k
     refine P _ H' m (.same k) S' (.lst h' ?_ ?_)
     ·have:=S.pure_none hl;exact this
     ·have:=wT (m:=m) (s:=s) S' pr
      rw [a7] at this
      exact this
    ·exact P.elim
   ·rw [f2 he] at P
    exact P H m .refl S
  ·exact P.elim
 ·exact P.elim
theorem Hi (vs:List V) (H:Hp) (Q:VK) (E:XK) (h:spD K a.Book 2 (BC a) vs H Q E):GF K a vs H Q E:=by
 obtain ⟨_,ps,s,m,r,S,P⟩:=h
 obtain ⟨n,pp,L,z,L',us,ys,hg,B,e1,e2,rfl,r',P⟩:=onB S r P
 split at P
 ·split at P
  ·rename_i x hx
   cases rC r'
   obtain ⟨f1,f2⟩:=rX (x:=x) e1
   refine ⟨_,z,pp,L',x,rfl,B,hx,fun e he t ht=>?_,fun he=>?_⟩
   ·rw [f1 e he] at P
    exact P.new S ht fun ex S'=>.tup (.inl ⟨.inl kD,S'.pure_tup kD⟩) (.cons .int (.cons .int (.cons .int .nil)))
   ·rw [f2 he] at P
    exact P H m .refl S
  ·exact P.elim
 ·exact P.elim
theorem xG (vs:List V) (H:Hp) (Q:VK) (E:XK) (h:spD K a.Book 2 (lv a) vs H Q E):oB K a.Book vs H Q E:=by
 obtain ⟨_,ps,s,m,r,S,P⟩:=h
 obtain ⟨n,pp,L,z,L',us,ys,hg,B,e1,e2,rfl,r',P⟩:=onB S r P
 split at P
 ·rename_i x
  cases rC r'
  refine ⟨_,z,pp,L',x,rfl,B,?_⟩
  rw [mD,e1]
  exact P.here S .bl
 ·exact P.elim
theorem ux (vs:List V) (H:Hp) (Q:VK) (E:XK) (h:spD K a.Book 2 (lB a) vs H Q E):ml K a vs H Q E:=by
 obtain ⟨_,ps,s,m,r,S,P⟩:=h
 obtain ⟨n,pp,L,z,L',us,ys,hg,B,e1,e2,rfl,r',P⟩:=onB S r P
 split at P
 ·split at P
  ·rename_i x hx
   cases rC r'
   refine ⟨_,z,pp,L',x,rfl,B,hx,fun h=>?_,fun h=>?_⟩
   ·rw [mD,e1] at h;rw [if_pos h] at P;exact P.here S .non
   ·rw [mD,e1] at h;rw [if_neg (by rw [h];decide)] at P;exact P H m .refl S
  ·exact P.elim
 ·exact P.elim
theorem uc (vs:List V) (H:Hp) (Q:VK) (E:XK) (h:spD K a.Book 2 (kQ a) vs H Q E):mR K a vs H Q E:=by
 obtain ⟨_,ps,s,m,r,S,P⟩:=h
 obtain ⟨n,pp,L,z,L',us,ys,hg,B,e1,e2,rfl,r',P⟩:=onB S r P
 split at P
 ·split at P
  ·rename_i x hx
   cases rC r'
   refine ⟨_,z,pp,L',x,rfl,B,hx,fun h=>?_,fun h=>?_⟩
   ·rw [mD,e1] at h;rw [if_pos h] at P;exact P.here S .non
   ·rw [mD,e1] at h;rw [if_neg (by rw [h];decide)] at P;exact P H m .refl S
  ·exact P.elim
 ·exact P.elim
theorem De (vs:List V) (H:Hp) (Q:VK) (E:XK) (h:spD K a.Book 5 (wv a) vs H Q E):A1 K a vs H Q E:=by
 obtain ⟨_,ps,s,m,r,S,P⟩:=h
 obtain ⟨n,pp,L,z,L',us,ys,hg,B,e1,e2,rfl,r',P⟩:=onB S r P
 split at P
 ·split at P
  ·rename_i h o1 o2 t b hs
   cases r' with
   | cons q1 r'=>cases r' with
    | cons q2 r'=>cases r' with
     | cons q3 r'=>cases r' with
      | cons q4 r' =>
       cases r';cases q1;cases q2;cases q3
       obtain ⟨p,ws,rfl,ht,rw'⟩:=q4.tp
       cases rw' with
       | cons w1 w2=>cases w2 with
        | cons w2 w3 =>
         cases w3;cases w1;cases w2
         obtain ⟨f1,f2⟩:=rX (x:=h) e1
         have hh:mZ L' h=(m6 L h).isSome:=by rw [mD,e1];rfl
         have h1:(mq pp o1 || mZ L' o1)=(mq pp o1 || me L o1):=by rw [mD,e1]
         have h2:(mq pp o2 || mZ L' o2)=(mq pp o2 || me L o2):=by rw [mD,e1]
         refine ⟨_,z,pp,L',h,o1,o2,p,(t,b),rfl,B,by rw [show L'.map (fun x=>x.1.nm)=L.map (·.nm) by rw [← e1,a7];rfl];exact hs.nd,hs.nm.1,hs.nm.2.1,hs.nm.2.2,ht,hs.sz,fun e he=>hs.ok _ (f1 e he),fun q=>?_,fun q g1=>?_,fun q g1 g2=>?_,fun e he g1 g2 g3=>?_,fun e he g1 g2 g3 H' B' k=>?_⟩
         ·rw [hh] at q
          cases c:m6 L h with
          | none=>rw [c] at P;exact P H m .refl S
          | some e=>rw [c] at q;cases q
         ·rw [hh] at q
          cases c:m6 L h with
          | none=>rw [c] at q;cases q
          | some e=>rw [c] at P;dsimp only at P;rw [if_pos (by rw [← h1];exact g1)] at P;exact P H m .refl S
         ·rw [hh] at q
          cases c:m6 L h with
          | none=>rw [c] at q;cases q
          | some e=>rw [c] at P;dsimp only at P;rw [if_neg (by rw [← h1,g1];decide),if_pos (by rw [← h2];exact g2)] at P;exact P H m .refl S
         ·rw [f1 e he] at P
          dsimp only at P
          rw [if_neg (by rw [← h1,g1];decide),if_neg (by rw [← h2,g2];decide),if_pos g3] at P
          exact P H m .refl S
         ·rw [f1 e he] at P
          dsimp only at P
          rw [if_neg (by rw [← h1,g1];decide),if_neg (by rw [← h2,g2];decide),if_neg g3] at P
          obtain ⟨S2,x2⟩:=IR S hg e2 B' (fun c o hc hn=>k c o hc fun z=>hn (by rw [z];exact F9 (pc he))) (fun c hc=>.inl (by rw [Fv] at hc;exact hc))
          rw [Do,e1] at S2 x2
          exact P _ _ _ x2 S2 .non
  ·exact P.elim
 ·exact P.elim
theorem Mt.imp {P:aV}{w:bz}{mg:Str→Option af}{base:bK}{C:ae}{mm:Str}{k:Nat}{ps:List Str}{sp sp':Sp} (M:Mt P w K mg base C mm k ps sp) (h:∀ vs H Q E,sp' vs H Q E→sp vs H Q E):Mt P w K mg base C mm k ps sp' :=
 let ⟨f,fd,F,b⟩:=M;⟨f,fd,F.imp h,b⟩
theorem Fn.imp {P:aV}{w:bz}{mg:Str→Option af}{base:bK}{x:Str}{k:Nat}{ps:List Str}{sp sp':Sp} (M:Fn P w K mg base x k ps sp) (h:∀ vs H Q E,sp' vs H Q E→sp vs H Q E):Fn P w K mg base x k ps sp' :=
 let ⟨f,fd,F,b⟩:=M;⟨f,fd,F.imp h,b⟩
noncomputable instance (q:Int×Int):Decidable (Sz q):=cZ _
def uw (_:Adr) (vs:List PV) (s:Sto):Out PV:=match vs with
 | [.tup [.int t,.int b],.tup [.int t',.int b']]=>if Sz (t,b)∧Sz (t',b') then .ok (frP (lH (t,b) (t',b'))) s else .bad
 | _=>.bad
def nq (_:Adr) (vs:List PV) (s:Sto):Out PV:=match vs with
 | [.tup [.int t,.int b],.tup [.int t',.int b']]=>if Sz (t,b)∧Sz (t',b') then .ok (.bl (decide (t * b' > t' * b))) s else .bad
 | _=>.bad
theorem CO {x:V}{t b:Int} (r:Rep K H m s x (.tup [.int t,.int b])):∃ p,x=.ref p∧FrAt K H p (t,b):=by
 obtain ⟨p,ws,rfl,ht,rw'⟩:=r.tp
 cases rw' with
 | cons w1 w2=>cases w2 with
  | cons w2 w3=>cases w3;cases w1;cases w2;exact ⟨p,rfl,ht⟩
theorem Df (vs:List V) (H:Hp) (Q:VK) (E:XK) (h:spD K a.Book 2 (uw a) vs H Q E):sR K vs H Q E:=by
 obtain ⟨_,ps,s,m,r,S,P⟩:=h
 unfold uw at P
 split at P
 ·split at P
  ·rename_i hz
   cases r with
   | cons r1 r=>cases r with
    | cons r2 r =>
     cases r
     obtain ⟨p1,rfl,h1⟩:=CO r1
     obtain ⟨p2,rfl,h2⟩:=CO r2
     exact ⟨p1,p2,_,_,rfl,h1,h2,hz.1,hz.2,fun x hx=>P.new S hx fun ex S'=>.tup (.inl ⟨.inl kD,S'.pure_tup kD⟩) (.cons .int (.cons .int .nil))⟩
  ·exact P.elim
 ·exact P.elim
theorem BI (vs:List V) (H:Hp) (Q:VK) (E:XK) (h:spD K a.Book 2 (nq a) vs H Q E):vA K vs H Q E:=by
 obtain ⟨_,ps,s,m,r,S,P⟩:=h
 unfold nq at P
 split at P
 ·split at P
  ·rename_i hz
   cases r with
   | cons r1 r=>cases r with
    | cons r2 r =>
     cases r
     obtain ⟨p1,rfl,h1⟩:=CO r1
     obtain ⟨p2,rfl,h2⟩:=CO r2
     exact ⟨p1,p2,_,_,rfl,h1,h2,hz.1,hz.2,P.here S .bl⟩
  ·exact P.elim
 ·exact P.elim
theorem noF (m:Str) (h1:¬ m="people") (h2:¬ m="things_of") (h3:¬ m="mark_of") (h4:¬ m="loss_of") (h5:¬ m="held_of") (z:BA):(bf z).lookup m=none:=pY z h1 h2 h3 h4 h5
theorem Cg (z:BA):(bf z).lookup ("person":Str)=none:=noF "person" (by decide +kernel) (by decide +kernel) (by decide +kernel) (by decide +kernel) (by decide +kernel) z
theorem D9 (z:BA):(bf z).lookup ("house":Str)=none:=noF "house" (by decide +kernel) (by decide +kernel) (by decide +kernel) (by decide +kernel) (by decide +kernel) z
theorem FW (z:BA):(bf z).lookup ("sale":Str)=none:=noF "sale" (by decide +kernel) (by decide +kernel) (by decide +kernel) (by decide +kernel) (by decide +kernel) z
theorem rV (z:BA):(bf z).lookup ("persons":Str)=none:=noF "persons" (by decide +kernel) (by decide +kernel) (by decide +kernel) (by decide +kernel) (by decide +kernel) z
theorem tK (z:BA):(bf z).lookup ("houses":Str)=none:=noF "houses" (by decide +kernel) (by decide +kernel) (by decide +kernel) (by decide +kernel) (by decide +kernel) z
theorem tJ (z:BA):(bf z).lookup ("shares":Str)=none:=noF "shares" (by decide +kernel) (by decide +kernel) (by decide +kernel) (by decide +kernel) (by decide +kernel) z
theorem GU (z:BA):(bf z).lookup ("of":Str)=none:=noF "of" (by decide +kernel) (by decide +kernel) (by decide +kernel) (by decide +kernel) (by decide +kernel) z
theorem tU (z:BA):(bf z).lookup ("is_house":Str)=none:=noF "is_house" (by decide +kernel) (by decide +kernel) (by decide +kernel) (by decide +kernel) (by decide +kernel) z
theorem wg (z:BA):(bf z).lookup ("need_house":Str)=none:=noF "need_house" (by decide +kernel) (by decide +kernel) (by decide +kernel) (by decide +kernel) (by decide +kernel) z
theorem nW (z:BA):(bf z).lookup ("need_holder":Str)=none:=noF "need_holder" (by decide +kernel) (by decide +kernel) (by decide +kernel) (by decide +kernel) (by decide +kernel) z
end
def Adr.cl (a:Adr):List ae:=[a.NoHolder,a.NoHouse]
structure T2x (K:aa) (a:Adr):Prop where
 tr:∀ c∈a.cl,Exc K c∧bj K c (.ref a.OwnError)=some true
 kv:∀ c∈a.cl,Exc K c∧ao K (.ref c) (.type "ValueError")=some true
 nv:ao K (.type "NoneType") (.type "ValueError")=some false
 k_OwnError:∀ c∈a.cl,Exc K c∧ao K (.ref c) (.ref a.OwnError)=some true
 n_OwnError:ao K (.type "NoneType") (.ref a.OwnError)=some false
 k_NoName:∀ c∈a.cl,Exc K c∧ao K (.ref c) (.ref a.NoName)=some (decide (c=a.NoName))
 n_NoName:ao K (.type "NoneType") (.ref a.NoName)=some false
 k_Twice:∀ c∈a.cl,Exc K c∧ao K (.ref c) (.ref a.Twice)=some (decide (c=a.Twice))
 n_Twice:ao K (.type "NoneType") (.ref a.Twice)=some false
 k_TooMany:∀ c∈a.cl,Exc K c∧ao K (.ref c) (.ref a.TooMany)=some (decide (c=a.TooMany))
 n_TooMany:ao K (.type "NoneType") (.ref a.TooMany)=some false
 k_NoHolder:∀ c∈a.cl,Exc K c∧ao K (.ref c) (.ref a.NoHolder)=some (decide (c=a.NoHolder))
 n_NoHolder:ao K (.type "NoneType") (.ref a.NoHolder)=some false
 k_NoHouse:∀ c∈a.cl,Exc K c∧ao K (.ref c) (.ref a.NoHouse)=some (decide (c=a.NoHouse))
 n_NoHouse:ao K (.type "NoneType") (.ref a.NoHouse)=some false
 k_NoLoss:∀ c∈a.cl,Exc K c∧ao K (.ref c) (.ref a.NoLoss)=some (decide (c=a.NoLoss))
 n_NoLoss:ao K (.type "NoneType") (.ref a.NoLoss)=some false
 k_NoShare:∀ c∈a.cl,Exc K c∧ao K (.ref c) (.ref a.NoShare)=some (decide (c=a.NoShare))
 n_NoShare:ao K (.type "NoneType") (.ref a.NoShare)=some false
 k_NoText:∀ c∈a.cl,Exc K c∧ao K (.ref c) (.ref a.NoText)=some (decide (c=a.NoText))
 n_NoText:ao K (.type "NoneType") (.ref a.NoText)=some false
 k_Whole:∀ c∈a.cl,Exc K c∧ao K (.ref c) (.ref a.Whole)=some (decide (c=a.Whole))
 n_Whole:ao K (.type "NoneType") (.ref a.Whole)=some false
structure AD (a:Adr):Prop where
 h1:a.NoHolder≠a.NoName
 h2:a.NoHolder≠a.Twice
 h3:a.NoHolder≠a.TooMany
 h4:a.NoHolder≠a.NoHouse
 h5:a.NoHolder≠a.NoLoss
 h6:a.NoHolder≠a.NoShare
 h7:a.NoHolder≠a.NoText
 h8:a.NoHolder≠a.Whole
 g1:a.NoHouse≠a.NoName
 g2:a.NoHouse≠a.Twice
 g3:a.NoHouse≠a.TooMany
 g5:a.NoHouse≠a.NoLoss
 g6:a.NoHouse≠a.NoShare
 g7:a.NoHouse≠a.NoText
 g8:a.NoHouse≠a.Whole
theorem oE {K:aa}{a:Adr}{v:af}{tb:ae→Bool} (e1:Exc K a.NoHolder) (e2:Exc K a.NoHouse) (k1:ao K (.ref a.NoHolder) v=some (tb a.NoHolder)) (k2:ao K (.ref a.NoHouse) v=some (tb a.NoHouse)):∀ c∈a.cl,Exc K c∧ao K (.ref c) v=some (tb c):=fun c hc=>by
 rcases aj.mp hc with rfl | hc
 ·exact ⟨e1,k1⟩
 ·rcases aj.mp hc with rfl | hc
  ·exact ⟨e2,k2⟩
  ·cases hc
theorem oA {c d:ae} (h:c≠d):some false=some (decide (c=d)):=by rw [decide_eq_false h]
theorem EA (c:ae):some true=some (decide (c=c)):=by rw [decide_eq_true rfl]
def Sm (x:Str):Prop:=x.length≤9∧∀ c∈x.cps.toList,c < 128
theorem Sm.nm {x:Str} (h:Sm x):Nm x:=⟨aN h.1 (by decide),fun c hc=>e9 (h.2 c hc) (by decide)⟩
theorem qS (x y:Str):(x++y).cps.toList=x.cps.toList++y.cps.toList:=PyProof.Rows.cps_toList_append x y
theorem zp:∀ (ys:List Str),(∀ y∈ys,y.length≤1∧∀ c∈y.cps.toList,(97≤c∧c≤122))→(jf (aF "") ys).length≤ys.length∧∀ c∈(jf (aF "") ys).cps.toList,(97≤c∧c≤122)
 | [],_=>⟨aC _,fun c hc=>by cases hc⟩
 | [x],h=>⟨(h x (by simp)).1,(h x (by simp)).2⟩
 | x::y::r,h=>by
  obtain ⟨i1,i2⟩:=zp (y::r) fun z hz=>h z (ai _ hz)
  obtain ⟨j1,j2⟩:=h x ar
  have e:jf (aF "") (x::y::r)=x++aF ""++jf (aF "") (y::r):=rfl
  rw [e]
  refine ⟨?_,fun c hc=>?_⟩
  ·rw [oU,oU]
   have:(aF "").length=0:=rfl
   rw [ap]
   omega
  ·rw [qS,qS] at hc
   rcases aM.mp hc with hc | hc
   ·rcases aM.mp hc with hc | hc
    ·exact j2 c hc
    ·cases hc
   ·exact i2 c hc
theorem Eh {ys:List Str} (h:∀ y∈ys,y.length≤1∧∀ c∈y.cps.toList,(97≤c∧c≤122)):(gv (aF "") ys).length≤ys.length∧∀ c∈(gv (aF "") ys).cps.toList,(97≤c∧c≤122):=by
 have e:gv (aF "") ys=jf (aF "") ys:=StrLaws.glued_eq_join _ _
 rw [e]
 exact zp ys h
theorem F1:∀ j,j < 26→(aF "abcdefghijklmnopqrstuvwxyz").cps.toList[j]?=some (97+j):=by decide +kernel
theorem ES {i:Int} (h0:0≤i) (h1:i < 26):atI (aF "abcdefghijklmnopqrstuvwxyz").cps.toList i=some (97+i.toNat):=by
 have e:i=(i.toNat:Int):=by omega
 have:=lp (F1 i.toNat (by omega))
 rw [← e] at this
 exact this
theorem Da {ys:List Str} (h:∀ y∈ys,y.length≤1):(ys.map (·.length)).sum≤ys.length:=by
 induction ys with
 | nil=>exact aC _
 | cons y r ih =>
  have:=ih fun z hz=>h z (ai _ hz)
  have:=h y ar
  simp only [aD,List.sum_cons,ap]
  omega
def Wd (r:Int) (j:Nat) (w:Str):Prop:=Sm w∧tj w=true∧w.cps.toList.head?=some (97+((r+7 * (0+(j:Int))) % 26).toNat)
structure FrB (k:Nat) (v:Int) (q:Int×Int):Prop where
 low:Low q
 nn:0≤q.1
 le:q.1≤v * q.2
 bb:Bt k q.2
theorem A4 {q:Int×Int} (h:0 < q.2):(red q).2 ∣ q.2:=by
 obtain ⟨v,hv⟩:(aO q.1 q.2:Int) ∣ q.2:=cK ..
 have hg:0 < aO q.1 q.2:=bW _ (by omega)
 refine ⟨(aO q.1 q.2:Int),?_⟩
 unfold red
 simp only
 rw [Int.ediv_mul_cancel (cK ..)]
theorem qT {p q:Int×Int} (hp:0 < p.2) (hq:0 < q.2):(lH p q).1 * (p.2 * q.2)=(p.1 * q.2+q.1 * p.2) * (lH p q).2:=(p8 (q:=(p.1 * q.2+q.1 * p.2,p.2 * q.2)) (bG hp hq)).2
theorem By {k l:Nat}{p q:Int×Int} (hp:0 < p.2) (hq:0 < q.2) (bp:Bt k p.2) (bq:Bt l q.2):Bt (k+l) (lH p q).2 :=
 (bp.mul bq).dvd (Int.ne_of_gt (bG hp hq)) (A4 (q:=(p.1 * q.2+q.1 * p.2,p.2 * q.2)) (bG hp hq))
theorem rb {a b d:Int} (hd:0 < d) (h:a * d≤b * d):a≤b:=d6 h hd
theorem xW {k:Nat}{v:Int}{g q:Int×Int} (hg:FrB k v g) (hq:Low q) (q0:0 < q.1) (h:q.1 * g.2≤g.1 * q.2) (bq:Bt 94 q.2):FrB (k+94) v (lH g (-q.1,q.2)):=by
 have g0:=hg.low.1
 have p0:=hq.1
 have lq:Low (-q.1,q.2):=⟨hq.1,by have:=hq.2;unfold Cop aO at *;simp only [gU];exact this⟩
 have lo:=sQ hg.low lq
 have D0:0 < g.2 * q.2:=bG g0 p0
 have ev:=qT (p:=g) (q:=(-q.1,q.2)) g0 p0
 simp only at ev
 generalize hr:lH g (-q.1,q.2)=r at *
 have r0:=lo.1
 refine ⟨lo,?_,?_,?_⟩
 ·refine rb D0 ?_
  rw [ev,Int.zero_mul]
  refine fb ?_ (br r0)
  rw [iS];omega
 ·refine rb D0 ?_
  rw [ev]
  have h1:g.1 * q.2+-q.1 * g.2≤v * g.2 * q.2:=by
   have a1:g.1 * q.2≤v * g.2 * q.2:=aR hg.le (br p0)
   have a2:0≤q.1 * g.2:=fb (br q0) (br g0)
   rw [iS];omega
  have h2:=aR h1 (br r0)
  have e:v * g.2 * q.2 * r.2=v * r.2 * (g.2 * q.2):=by simp only [bc,fc,bC]
  rw [← e]
  exact h2
 ·rw [← hr]
  exact By g0 p0 hg.bb bq
theorem GA {k:Nat}{v:Int}{g q:Int×Int} (hg:FrB k v g) (hq:Low q) (q0:0 < q.1) (h:q.1≤v * q.2) (bq:Bt 94 q.2):FrB (k+94) (2 * v) (lH g q)∧0 < (lH g q).1:=by
 have g0:=hg.low.1
 have p0:=hq.1
 have lo:=sQ hg.low hq
 have D0:0 < g.2 * q.2:=bG g0 p0
 have ev:=qT (p:=g) (q:=q) g0 p0
 have bt:=By (p:=g) (q:=q) g0 p0 hg.bb bq
 generalize hr:lH g q=r at *
 have r0:=lo.1
 have pos:0 < r.1:=by
  have a1:0≤g.1 * q.2:=fb hg.nn (br p0)
  have a2:0 < q.1 * g.2:=bG q0 g0
  have a3:0 < (g.1 * q.2+q.1 * g.2) * r.2:=bG (by omega) r0
  rw [← ev] at a3
  by_cases z:0 < r.1
  ·exact z
  ·have:=eJ (show r.1≤0 by omega) (br D0)
   omega
 refine ⟨⟨lo,br pos,?_,bt⟩,pos⟩
 refine rb D0 ?_
 rw [ev]
 have h1:g.1 * q.2+q.1 * g.2≤2 * v * g.2 * q.2:=by
  have a1:g.1 * q.2≤v * g.2 * q.2:=aR hg.le (br p0)
  have a2:q.1 * g.2≤v * q.2 * g.2:=aR h (br g0)
  have e1:v * q.2 * g.2=v * g.2 * q.2:=eI ..
  have e2:2 * v * g.2 * q.2=2 * (v * g.2 * q.2):=by rw [bc 2,bc 2]
  rw [e2]
  omega
 have h2:=aR h1 (br r0)
 have e:2 * v * g.2 * q.2 * r.2=2 * v * r.2 * (g.2 * q.2):=by simp only [bc,fc,bC]
 rw [← e]
 exact h2
theorem Bb {k:Nat}{v:Int}{g q:Int×Int} (hg:FrB k v g) (hq:Low q) (h:q.1 * g.2≤g.1 * q.2):q.1≤v * q.2:=by
 refine rb hg.low.1 (d9 h ?_)
 have:=aR hg.le (br hq.1)
 rw [eI]
 exact this
def FrC (c:Nat) (q:Int×Int):Prop:=FrB (192 * c+2) (2 ^ c:Nat) q
theorem FrC.top {c:Nat}{q:Int×Int} (h:FrC c q):Bt (193 * c+2) q.1:=by
 have h1:=h.le
 have h0:=h.nn
 have hb:Bt (c+1) ((2 ^ c:Nat):Int):=by
  unfold Bt
  rw [Int.natAbs_natCast,Nat.pow_succ]
  have:=eE c
  omega
 have h2:q.1.natAbs≤(((2 ^ c:Nat):Int) * q.2).natAbs:=by omega
 unfold Bt
 refine bi h2 ?_
 rw [gW,Int.natAbs_natCast]
 have hb2:q.2.natAbs < 2 ^ (192 * c+2):=h.bb
 have:2 ^ c * q.2.natAbs < 2 ^ c * 2 ^ (192 * c+2):=Nat.mul_lt_mul_of_pos_left hb2 (eE c)
 rw [← Nat.pow_add] at this
 have e:c+(192 * c+2)=193 * c+2:=by omega
 rw [e] at this
 exact this
theorem FrC.sz {c:Nat}{q:Int×Int} (h:FrC c q) (hc:c≤45):Sz q:=⟨h.low,h.top.mono (by omega),h.bb.mono (by omega)⟩
theorem FrC.mono {c d:Nat}{q:Int×Int} (h:FrC c q) (hc:c≤d):FrC d q:=by
 refine ⟨h.low,h.nn,d9 h.le ?_,h.bb.mono (by omega)⟩
 refine aR ?_ (br h.low.1)
 exact iF.mpr (cH (by decide) hc)
theorem frc0 (c:Nat):FrC c (0,1):=⟨⟨by decide,(rfl:aO 0 1=1)⟩,Int.le_refl _,by rw [ke];exact Int.natCast_nonneg _,bt1 (by omega)⟩
theorem frc1 (c:Nat):FrC c (1,1):=⟨⟨by decide,(rfl:aO 1 1=1)⟩,by decide,by rw [ke];exact iF.mpr (eE c),bt1 (by omega)⟩
structure ShOk (q:Int×Int):Prop where
 low:Low q
 bt:Bt 200 q.1
 bb:Bt 94 q.2
theorem ShOk.sz {q:Int×Int} (h:ShOk q):Sz q:=⟨h.low,h.bt.mono (by decide),h.bb.mono (by decide)⟩
theorem yg {l:Hl}{n:Str} (h:n∉l.map (·.1)):kM l n=(0,1):=by
 unfold kM lN
 have:l.find? (fun q=>decide (q.1=n))=none:=by
  rw [cm]
  intro x hx z
  exact h (am.mpr ⟨x,hx,of_decide_eq_true z⟩)
 rw [this]
 rfl
def rv (q:Int×Int):Rat:=Rat.divInt q.1 q.2
theorem AK {p q:Int×Int} (hp:0 < p.2) (hq:0 < q.2):rv (lH p q)=rv p+rv q:=by
 have h:=qT hp hq
 have h2:0 < (lH p q).2:=(p8 (q:=(p.1 * q.2+q.1 * p.2,p.2 * q.2)) (bG hp hq)).1.1
 unfold rv
 rw [Rat.divInt_add_divInt _ _ (by omega) (by omega),jq (by omega) (by have:=bG hp hq;omega)]
 exact h
theorem Hn (q:Int×Int):rv (-q.1,q.2)=-rv q:=by
 unfold rv
 rw [Rat.neg_divInt]
def n9:List Rat→Rat
 | []=>0
 | x::l=>x+n9 l
theorem y4:∀ l m:List Rat,n9 (l++m)=n9 l+n9 m
 | [],m=>by show n9 m=0+n9 m;rw [jG]
 | x::l,m=>by show x+n9 (l++m)=x+n9 l+n9 m;rw [y4 l m,gj]
theorem y3 {f g:Str→Rat}{o:Str} (h:∀ n,n≠o→f n=g n):∀ ns:List Str,ns.Nodup→n9 (ns.map f)=if o∈ns then n9 (ns.map g)+(f o - g o) else n9 (ns.map g)
 | [],_=>rfl
 | n::ns,nd=>by
  obtain ⟨n1,n2⟩:=aS.mp nd
  have ih:=y3 h ns n2
  show f n+n9 (ns.map f)=_
  by_cases e:n=o
  ·subst e
   rw [if_neg n1] at ih
   rw [if_pos ar,ih]
   show f n+n9 (ns.map g)=g n+n9 (ns.map g)+(f n - g n)
   grind
  ·have m:o∈n::ns ↔ o∈ns:=⟨fun z=>(aj.mp z).resolve_left fun q=>e q.symm,ai _⟩
   by_cases z:o∈ns
   ·rw [if_pos z] at ih
    rw [if_pos (m.mpr z),ih,h n e]
    show g n+(n9 (ns.map g)+(f o - g o))=g n+n9 (ns.map g)+(f o - g o)
    rw [gj]
   ·rw [if_neg z] at ih
    rw [if_neg (fun q=>z (m.mp q)),ih,h n e]
    rfl
def EC (l:Hl):Rat:=n9 ((l.map (·.1)).map fun n=>rv (kM l n))
theorem y7 {l:Hl} (nd:(l.map (·.1)).Nodup) (o:Str) (q:Int×Int):EC (mW l o q)=EC l+(rv q - rv (kM l o)):=by
 have h:∀ n,n≠o→rv (kM (mW l o q) n)=rv (kM l n):=fun n hn=>by rw [lO,if_neg hn]
 have ho:rv (kM (mW l o q) o)=rv q:=by rw [lO,if_pos rfl]
 have u:=y3 h (l.map (·.1)) nd
 unfold EC
 rw [lF]
 by_cases z:o∈l.map (·.1)
 ·rw [if_pos z] at u ⊢
  rw [u,ho]
 ·rw [if_neg z] at u ⊢
  rw [aW,y4,u,yg z]
  show _+(rv (kM (mW l o q) o)+0)=_
  have:rv (0,1)=0:=iT 1
  rw [ho,this]
  grind
structure On (D:Int) (q:Int×Int) (u:Int):Prop where
 low:Low q
 ev:q.1 * D=u * q.2
theorem On.dvd {D:Int}{q:Int×Int}{u:Int} (h:On D q u):q.2 ∣ D:=ym h.low.2.symm ⟨u,by rw [h.ev,bC]⟩
theorem On.add {D:Int}{p q:Int×Int}{u v:Int} (h:On D p u) (g:On D q v):On D (lH p q) (u+v):=by
 have p0:=h.low.1
 have q0:=g.low.1
 have ev:=qT p0 q0
 have pq:0 < p.2 * q.2:=bG p0 q0
 refine ⟨(p8 (q:=(p.1 * q.2+q.1 * p.2,p.2 * q.2)) pq).1,fT (a:=p.2 * q.2) (by omega) ?_⟩
 generalize lH p q=r at ev ⊢
 have e1:=h.ev
 have e2:=g.ev
 calc r.1 * D * (p.2 * q.2)=(r.1 * (p.2 * q.2)) * D:=by rw [bc,bC D,← bc]
  _=((p.1 * q.2+q.1 * p.2) * r.2) * D:=by rw [ev]
  _=((p.1 * D) * q.2+(q.1 * D) * p.2) * r.2:=by
   rw [bc,bC r.2 D,← bc,kf (p.1 * q.2)]
   congr 2
   ·rw [bc,bC q.2,← bc]
   ·rw [bc,bC p.2,← bc]
  _=((u * p.2) * q.2+(v * q.2) * p.2) * r.2:=by rw [e1,e2]
  _=(u+v) * r.2 * (p.2 * q.2):=by
   have a1:u * p.2 * q.2=u * (p.2 * q.2):=bc ..
   have a2:v * q.2 * p.2=v * (p.2 * q.2):=by rw [bc,bC q.2]
   rw [a1,a2,← kf,bc,bC (p.2 * q.2),← bc]
theorem On.neg {D:Int}{q:Int×Int}{u:Int} (h:On D q u):On D (-q.1,q.2) (-u) :=
 ⟨⟨h.low.1,by have:=h.low.2;unfold Cop aO at *;simp only [gU];exact this⟩,by show -q.1 * D=-u * q.2;rw [iS,iS,h.ev]⟩
theorem On.scale {D:Int}{q:Int×Int}{u:Int} (h:On D q u) (k:Int):On (D * k) q (u * k) :=
 ⟨h.low,by rw [← bc,h.ev,bc,bC q.2,← bc]⟩
theorem Bc (D:Int):On D (0,1) 0:=⟨⟨by decide,rfl⟩,by simp⟩
theorem HS (D:Int):On D (1,1) D:=⟨⟨by decide,rfl⟩,by show 1 * D=D * 1;omega⟩
theorem FR {q:Int×Int} (h:Low q):On q.2 q q.1:=⟨h,rfl⟩
structure HR (c:Nat) (hl hm:Hl):Prop where
 q:∀ n,kM hl n=kM hm n
 nm:∀ n,n∈hl.map (·.1) ↔ 0 < (kM hl n).1
 n1:(hl.map (·.1)).Nodup
 n2:(hm.map (·.1)).Nodup
 l1:hl.length≤c+1
 l2:hm.length≤c+1
 fr:∀ n,FrC c (kM hl n)
 ex:∃ n,0 < (kM hl n).1
 sm:∀ n∈hm.map (·.1),Sm n
 one:EC hm=1
 dv:∃ (D:Int) (U:Str→Int),0 < D∧Bt (94 * c+1) D∧∀ n,On D (kM hm n) (U n)
theorem HR.mono {c d:Nat}{hl hm:Hl} (h:HR c hl hm) (hc:c≤d):HR d hl hm:=⟨h.q,h.nm,h.n1,h.n2,aN h.l1 (by omega),aN h.l2 (by omega),fun n=>(h.fr n).mono hc,h.ex,h.sm,h.one,let ⟨D,U,d1,d2,d3⟩:=h.dv;⟨D,U,d1,d2.mono (by omega),d3⟩⟩
theorem Ij (c:Nat) {o:Str} (ho:Sm o):HR c [(o,1,1)] [(o,1,1)]:=by
 have g:∀ n,kM [(o,1,1)] n=if n=o then (1,1) else (0,1):=fun n=>by
  unfold kM lN
  rw [bI]
  by_cases e:o=n
  ·rw [show decide ((o,((1:Int),(1:Int))).1=n)=true from decide_eq_true e,if_pos e.symm];rfl
  ·rw [show decide ((o,((1:Int),(1:Int))).1=n)=false from decide_eq_false e,if_neg fun z=>e z.symm];rfl
 refine ⟨fun _=>rfl,fun n=>?_,by simp,by simp,by simp,by simp,fun n=>?_,⟨o,by rw [g,if_pos rfl];decide⟩,fun n hn=>by rw [ay.mp hn];exact ho,by
  show rv (kM [(o,1,1)] o)+0=1
  rw [g,if_pos rfl,Rat.add_zero]
  exact Rat.divInt_self' (by decide),1,fun n=>if n=o then 1 else 0,by decide,bt1 (by omega),fun n=>by
   rw [g]
   by_cases e:n=o
   ·rw [if_pos e];show On 1 (1,1) (if n=o then 1 else 0);rw [if_pos e];exact HS 1
   ·rw [if_neg e];show On 1 (0,1) (if n=o then 1 else 0);rw [if_neg e];exact Bc 1⟩
 ·rw [g]
  by_cases e:n=o
  ·rw [if_pos e];simp [e]
  ·rw [if_neg e];simp [e]
 ·rw [g]
  by_cases e:n=o
  ·rw [if_pos e];exact frc1 c
  ·rw [if_neg e];exact frc0 c
theorem HR.had {c:Nat}{hl hm:Hl} (h:HR c hl hm) {n:Str} (h0:0 < (kM hm n).1):n∈hm.map (·.1):=by
 by_cases z:n∈hm.map (·.1)
 ·exact z
 ·rw [yg z] at h0
  exact absurd h0 (by decide)
theorem Ed {q:Int×Int} (h:Low q) (h0:q.1=0):q=(0,1):=by
 obtain ⟨t,b⟩:=q
 obtain ⟨h1,h2⟩:=h
 simp only at h0 h1 h2
 subst h0
 have e:b=1:=by
  have:aO 0 b=1:=h2
  rw [Int.gcd_zero_left] at this
  omega
 rw [e]
theorem HR.sale {c:Nat}{hl hm:Hl} (h:HR c hl hm) {o1 o2:Str}{q:Int×Int} (hq:ShOk q) (so:Sm o2) (nt:¬ nH hl o1 q):HR (c+1) (se hl o1 o2 q) (wx hm o1 o2 q):=by
 have q0:0 < q.1:=by by_cases z:0 < q.1;exact z;exact absurd (.inl z) nt
 have hle:q.1 * (kM hl o1).2≤(kM hl o1).1 * q.2:=by
  by_cases z:q.1 * (kM hl o1).2 > (kM hl o1).1 * q.2
  ·exact absurd (.inr z) nt
  ·omega
 have R:=xW (h.fr o1) hq.low q0 hle hq.bb
 have qv:=Bb (h.fr o1) hq.low hle
 have o1in:o1∈hl.map (·.1):=by
  rw [h.nm]
  by_cases z:0 < (kM hl o1).1
  ·exact z
  ·have a1:(kM hl o1).1 * q.2≤0:=eJ (by omega) (br hq.low.1)
   have a2:0 < q.1 * (kM hl o1).2:=bG q0 (h.fr o1).low.1
   omega
 have o1im:o1∈hm.map (·.1):=h.had (by rw [← h.q];exact (h.nm o1).mp o1in)
 generalize hr:lH (kM hl o1) (-q.1,q.2)=r at *
 have key:∃ l1 m1:Hl,se hl o1 o2 q=mW l1 o2 (lH (kM l1 o2) q)∧wx hm o1 o2 q=mW m1 o2 (lH (kM m1 o2) q)∧(∀ n,kM l1 n=kM m1 n)∧(∀ n,n∈l1.map (·.1) ↔ 0 < (kM l1 n).1)∧(l1.map (·.1)).Nodup∧(m1.map (·.1)).Nodup∧l1.length≤c+1∧m1.length≤c+1∧(∀ n,FrB (192 * c+2+94) (2 ^ c:Nat) (kM l1 n))∧(∀ n∈m1.map (·.1),Sm n)∧EC m1+rv q=1∧∃ (D:Int) (U:Str→Int),0 < D∧Bt (94 * (c+1)+1) D∧On D q (U fw)∧∀ n,∃ u,On D (kM m1 n) u:=by
  have gm:∀ n,kM (mW hm o1 r) n=if n=o1 then r else kM hl n:=fun n=>by rw [lO,h.q]
  have lm:(mW hm o1 r).length≤c+1:=by
   have:=congrArg dF (lF hm o1 r)
   rw [if_pos o1im,aq,aq] at this
   rw [this];exact h.l2
  have fr1:∀ n,FrB (192 * c+2+94) (2 ^ c:Nat) (if n=o1 then r else kM hl n):=fun n=>by
   by_cases e:n=o1
   ·rw [if_pos e];exact R
   ·rw [if_neg e];exact ⟨(h.fr n).low,(h.fr n).nn,(h.fr n).le,(h.fr n).bb.mono (by omega)⟩
  have em:wx hm o1 o2 q=mW (mW hm o1 r) o2 (lH (kM (mW hm o1 r) o2) q):=by
   unfold wx
   simp only [← h.q o1,hr]
  have smm:∀ n∈(mW hm o1 r).map (·.1),Sm n:=fun n hn=>by
   rw [lF,if_pos o1im] at hn
   exact h.sm n hn
  have one1:EC (mW hm o1 r)+rv q=1:=by
   rw [y7 h.n2,h.one,← hr,AK (q:=(-q.1,q.2)) (h.fr o1).low.1 hq.low.1,Hn,h.q]
   grind
  have dv1:∃ (D:Int) (U:Str→Int),0 < D∧Bt (94 * (c+1)+1) D∧On D q (U fw)∧∀ n,∃ u,On D (kM (mW hm o1 r) n) u:=by
   obtain ⟨D,U,d1,d2,d3⟩:=h.dv
   have oq:On (D * q.2) q (q.1 * D):=by rw [bC D];exact (FR hq.low).scale D
   refine ⟨D * q.2,fun _=>q.1 * D,bG d1 hq.low.1,(d2.mul hq.bb).mono (by omega),oq,fun n=>?_⟩
   rw [lO]
   by_cases e:n=o1
   ·rw [if_pos e,← hr,h.q]
    exact ⟨_,((d3 o1).scale q.2).add oq.neg⟩
   ·rw [if_neg e]
    exact ⟨_,(d3 n).scale q.2⟩
  by_cases rz:r=(0,1)
  ·have gl:∀ n,kM (rY hl o1) n=if n=o1 then r else kM hl n:=fun n=>by rw [w8,rz]
   refine ⟨rY hl o1,mW hm o1 r,?_,em,fun n=>by rw [gl,gm],fun n=>?_,FY _ h.n1,wk _ _ h.n2,aN (zo _ _) h.l1,lm,fun n=>by rw [gl];exact fr1 n,smm,one1,dv1⟩
   ·unfold se
    simp only [hr,rz,if_true]
   ·rw [uU,ck,gl,h.nm,decide_eq_true_iff]
    by_cases e:n=o1
    ·rw [if_pos e,rz]
     exact ⟨fun z=>absurd e z.2,fun z=>absurd z (by decide)⟩
    ·rw [if_neg e]
     exact ⟨fun z=>z.1,fun z=>⟨z,e⟩⟩
  ·have gl:∀ n,kM (mW hl o1 r) n=if n=o1 then r else kM hl n:=fun n=>lO ..
   have rp:0 < r.1:=by
    have:=R.nn
    by_cases z:r.1=0
    ·exact absurd (Ed R.low z) rz
    ·omega
   refine ⟨mW hl o1 r,mW hm o1 r,?_,em,fun n=>by rw [gl,gm],fun n=>?_,wk _ _ h.n1,wk _ _ h.n2,?_,lm,fun n=>by rw [gl];exact fr1 n,smm,one1,dv1⟩
   ·unfold se
    simp only [hr,rz,if_false]
   ·rw [lF,if_pos o1in,gl,h.nm]
    by_cases e:n=o1
    ·rw [if_pos e]
     exact ⟨fun _=>rp,fun _=>by rw [e];exact (h.nm o1).mp o1in⟩
    ·rw [if_neg e]
   ·have:=congrArg dF (lF hl o1 r)
    rw [if_pos o1in,aq,aq] at this
    rw [this];exact h.l1
 obtain ⟨l1,m1,es,em,gq,nm1,nd1,nd2,len1,len2,fr1,sm1,one1,D1,U1,d1,d2,oq,dm⟩:=key
 obtain ⟨U,up⟩:=GA (fr1 o2) hq.low q0 qv hq.bb
 have ev:(2 * ((2 ^ c:Nat):Int))=((2 ^ (c+1):Nat):Int):=by rw [Nat.pow_succ,Int.natCast_mul,bC];rfl
 rw [es,em]
 refine ⟨fun n=>?_,fun n=>?_,wk _ _ nd1,wk _ _ nd2,aN (ye _ _ _) (by omega),aN (ye _ _ _) (by omega),fun n=>?_,⟨o2,by rw [lO,if_pos rfl];exact up⟩,fun n hn=>?_,?_,?_⟩
 ·rw [lO,lO,gq,gq]
 ·rw [lO,lF]
  by_cases e:n=o2
  ·rw [if_pos e]
   refine ⟨fun _=>up,fun _=>?_⟩
   rw [e]
   by_cases z:o2∈l1.map (·.1)
   ·rw [if_pos z];exact z
   ·rw [if_neg z];exact aL _ (ay.mpr rfl)
  ·rw [if_neg e,← nm1]
   by_cases z:o2∈l1.map (·.1)
   ·rw [if_pos z]
   ·rw [if_neg z,aM]
    exact ⟨fun y=>y.elim id fun y=>absurd (ay.mp y) e,fun y=>.inl y⟩
 ·rw [lO]
  by_cases e:n=o2
  ·rw [if_pos e]
   unfold FrC
   rw [← ev]
   exact ⟨U.low,U.nn,U.le,U.bb.mono (by omega)⟩
  ·rw [if_neg e]
   have:=fr1 n
   refine ⟨this.low,this.nn,d9 this.le ?_,this.bb.mono (by omega)⟩
   exact aR (iF.mpr (cH (by decide) (by omega))) (br this.low.1)
 ·rw [lF] at hn
  by_cases z:o2∈m1.map (·.1)
  ·rw [if_pos z] at hn;exact sm1 n hn
  ·rw [if_neg z] at hn
   rcases aM.mp hn with y | y
   ·exact sm1 n y
   ·rw [ay.mp y];exact so
 ·rw [y7 nd2,AK (by rw [← gq];exact (fr1 o2).low.1) hq.low.1]
  grind
 ·have:∀ n,∃ u,On D1 (kM (mW m1 o2 (lH (kM m1 o2) q)) n) u:=fun n=>by
   rw [lO]
   by_cases e:n=o2
   ·rw [if_pos e]
    obtain ⟨u,hu⟩:=dm o2
    exact ⟨_,hu.add oq⟩
   ·rw [if_neg e];exact dm n
  exact ⟨D1,fun n=>jT (this n),d1,d2,fun n=>gp (this n)⟩
theorem HR.saleOk {c:Nat}{hl hm:Hl} (h:HR c hl hm) (hc:c≤44) {o1:Str}{q:Int×Int} (hq:ShOk q):SaleOk hl o1 q:=by
 refine ⟨bi h.l1 (by omega),fun n=>(h.fr n).sz (by omega),fun nt=>?_⟩
 have q0:0 < q.1:=by by_cases z:0 < q.1;exact z;exact absurd (.inl z) nt
 have hle:q.1 * (kM hl o1).2≤(kM hl o1).1 * q.2:=by
  by_cases z:q.1 * (kM hl o1).2 > (kM hl o1).1 * q.2
  ·exact absurd (.inr z) nt
  ·omega
 have R:=xW (h.fr o1) hq.low q0 hle hq.bb
 refine FrC.sz (c:=c+1) ⟨R.low,R.nn,d9 R.le ?_,R.bb.mono (by omega)⟩ (by omega)
 exact aR (iF.mpr (cH (by decide) (by omega))) (br R.low.1)
section
variable {P:aV}{w:bz}{K:aa}{mg:Str→Option af}{base:bK}{a:Adr}{f:ae}{fd:bR}
abbrev qp:bM:=top 41
theorem sc__law_take:FnScope ["_law_purse_here","_law_many","_law_at","_law_found"] ["_law_purse_here","_law_many"] (kC qp):=fsc
def qD (a:Adr):XS:=(xSeq (xSet 2 (xB (xCons (x2 (x2 (xVar 0) (xC (.int 0)) fIx) (xC (.int 0)) fEq) xNil) fInt)) (xSeq (xSet 3 (x2 (x2 (xVar 0) (xVar 2) fIx) (xVar 1) fMod)) (xSeq (xPut (xVar 0) (xVar 2) (x2 (x2 (xVar 0) (xVar 2) fIx) (xVar 1) fDiv)) (xRet (xVar 3)))))
def kK (a:Adr):XF:=(fnD 4 (qD a))
theorem xQ (F:Fun K "_law_take" "_law_take" qp f fd) (T:Txt K mg a):FnOk P w K mg base (CXo P w) 1 f fd ["_law_purse_here","_law_many"] (spD K a.Book 2 (kK a)) :=
 mS F sc__law_take rfl fun cdv A outer s H E hr=>(kE (kS 2 sc__law_take.nd rfl (bw rfl) (xn b_int rfl T.b_int E3 (ku (sO (zN (w5 hr)) (lr (kP hr) (ky 0) kG (fun _ _=>rfl)) kG (lG _)) kB))) (kE (kS 3 sc__law_take.nd rfl (bw rfl) (uu (lr (kP hr) (ky 0) (ky 2) (fun _ _=>rfl)) (ky 1))) (kE (yy (kP hr) (ky 0) (ky 2) (AX (lr (kP hr) (ky 0) (ky 2) (fun _ _=>rfl)) (ky 1))) (kI (kY (ky 3))))))
abbrev nU:bM:=top 42
theorem sc__law_divisor:FnScope ["_law_one","_law_other"] ["_law_one","_law_other"] (kC nU):=fsc
def mf (a:Adr) :XS:=(xPar 0 1 (xCons (xVar 1) (xCons (x2 (xVar 0) (xVar 1) fMod) xNil)))
def qj (a:Adr):XS:=(xSeq (uj (xTr (x2 (xVar 1) (xC (.int 0)) fNe)) (mf a)) (xRet (xB (xCons (xVar 0) xNil) fAbs)))
def ma (a:Adr):XF:=(fnD 2 (qj a))
theorem uf (F:Fun K "_law_divisor" "_law_divisor" nU f fd) (T:Txt K mg a):FnOk P w K mg base (CXo P w) 1 f fd ["_law_one","_law_other"] (spD K a.Book 2 (ma a)) :=
 mS F sc__law_divisor rfl fun cdv A outer s H E hr=>(kE (zE (pW (c_ne (w5 hr)) (ky 1) kG (lG _)) (kI (Iv (i:=0) (j:=1) rfl sc__law_divisor.nd rfl rfl (by decide) rfl rfl (ku (ky 1) (ku (uu (ky 0) (ky 1)) kB)) rfl))) (kI (kY (ly b_abs rfl T.b_abs IH (ku (ky 0) kB)))))
abbrev oG:bM:=top 43
theorem sc__law_lowest:FnScope ["_law_top","_law_bottom","_law_share"] ["_law_top","_law_bottom"] (kC oG):=fsc
def rF (a:Adr):XS:=(xSeq (xSet 2 (xCall 2 (ma a) (xCons (xVar 0) (xCons (xVar 1) xNil)))) (xRet (xTup (xCons (x2 (xVar 0) (xVar 2) fDiv) (xCons (x2 (xVar 1) (xVar 2) fDiv) xNil)))))
def lb (a:Adr):XF:=(fnD 3 (rF a))
theorem uC (F:Fun K "_law_lowest" "_law_lowest" oG f fd) (T:Txt K mg a) (F__law_divisor:Fn P w K mg base "_law_divisor" 1 ["_law_one","_law_other"] (spD K a.Book 2 (ma a))):FnOk P w K mg base (CXo P w) 2 f fd ["_law_top","_law_bottom"] (spD K a.Book 2 (lb a)) :=
 mS F sc__law_lowest rfl fun cdv A outer s H E hr=>(kE (kS 2 sc__law_lowest.nd rfl (bw rfl) (k6 F__law_divisor (hr.mono (by decide)) rfl kW (ku (ky 0) (ku (ky 1) kB)))) (kI (kY (rM (ku (AX (ky 0) (ky 2)) (ku (AX (ky 1) (ky 2)) kB))))))
abbrev qr:bM:=top 44
theorem xJ:FnScope ["_law_one","_law_other"] ["_law_one","_law_other"] (kC qr):=fsc
def t5 (a:Adr):XS:=(xRet (xCall 2 (lb a) (xCons (x2 (x2 (x2 (xVar 0) (xC (.int 0)) fIx) (x2 (xVar 1) (xC (.int 1)) fIx) fMul) (x2 (x2 (xVar 1) (xC (.int 0)) fIx) (x2 (xVar 0) (xC (.int 1)) fIx) fMul) fAdd) (xCons (x2 (x2 (xVar 0) (xC (.int 1)) fIx) (x2 (xVar 1) (xC (.int 1)) fIx) fMul) xNil))))
def mK (a:Adr):XF:=(fnD 2 (t5 a))
theorem xR (F:Fun K "_law_plus" "_law_plus" qr f fd) (T:Txt K mg a) (F__law_lowest:Fn P w K mg base "_law_lowest" 2 ["_law_top","_law_bottom"] (spD K a.Book 2 (lb a))):FnOk P w K mg base (CXo P w) 3 f fd ["_law_one","_law_other"] (spD K a.Book 2 (mK a)) :=
 mS F xJ rfl fun cdv A outer s H E hr=>(kI (kY (k6 F__law_lowest (hr.mono (by decide)) rfl kW (ku (lA (pC (lr (kP hr) (ky 0) kG (fun _ _=>rfl)) (lr (kP hr) (ky 1) kG (fun _ _=>rfl))) (pC (lr (kP hr) (ky 1) kG (fun _ _=>rfl)) (lr (kP hr) (ky 0) kG (fun _ _=>rfl)))) (ku (pC (lr (kP hr) (ky 0) kG (fun _ _=>rfl)) (lr (kP hr) (ky 1) kG (fun _ _=>rfl))) kB)))))
abbrev pH:bM:=top 45
theorem vP:FnScope ["_law_one","_law_other"] ["_law_one","_law_other"] (kC pH):=fsc
def sk (a:Adr):XS:=(xRet (xCall 2 (lb a) (xCons (x2 (x2 (xVar 0) (xC (.int 0)) fIx) (x2 (xVar 1) (xC (.int 0)) fIx) fMul) (xCons (x2 (x2 (xVar 0) (xC (.int 1)) fIx) (x2 (xVar 1) (xC (.int 1)) fIx) fMul) xNil))))
def lW (a:Adr):XF:=(fnD 2 (sk a))
theorem wa (F:Fun K "_law_times" "_law_times" pH f fd) (T:Txt K mg a) (F__law_lowest:Fn P w K mg base "_law_lowest" 2 ["_law_top","_law_bottom"] (spD K a.Book 2 (lb a))):FnOk P w K mg base (CXo P w) 3 f fd ["_law_one","_law_other"] (spD K a.Book 2 (lW a)) :=
 mS F vP rfl fun cdv A outer s H E hr=>(kI (kY (k6 F__law_lowest (hr.mono (by decide)) rfl kW (ku (pC (lr (kP hr) (ky 0) kG (fun _ _=>rfl)) (lr (kP hr) (ky 1) kG (fun _ _=>rfl))) (ku (pC (lr (kP hr) (ky 0) kG (fun _ _=>rfl)) (lr (kP hr) (ky 1) kG (fun _ _=>rfl))) kB)))))
abbrev pI:bM:=top 40
theorem sc__law_purse:FnScope ["_law_script","_law_cells","_law_number","_law_found","_law_k","_law_cell"] ["_law_script"] (kC pI):=fsc
def nX (a:Adr) :XS:=(xSeq (xSet 5 (x2 (xVar 1) (x2 (xVar 4) (xB (xCons (xVar 1) xNil) fLen) fMod) fIx)) (xSeq (xSet 2 (x2 (x2 (x2 (x2 (x2 (xVar 2) (xVar 2) fMul) (xVar 5) fAdd) (x2 (xC (.int 48271)) (xVar 4) fMul) fAdd) (xC (.int 7)) fAdd) (xC (.int 2147483629)) fMod)) (xSet 3 (x2 (x2 (xVar 3) (xC (.int 2147483587)) fMul) (x2 (x2 (xVar 2) (xVar 2) fMul) (xC (.int 2147483587)) fMod) fAdd))))
def pL (a:Adr):XS:=(xSeq (xSet 1 (x2 (xSl (xVar 0) xNoP (xPart (xC (.int 63)))) (xLst (xCons (xC (.int 1)) xNil)) fAdd)) (xSeq (xSet 2 (xC (.int 5))) (xSeq (xSet 3 (xC (.int 1))) (xSeq (xFor (xRng1 (xCons (xC (.int 200)) xNil)) (yName 4) (nX a)) (xSeq (xIf (xTr (x2 (x2 (xVar 1) (xC (.int 0)) fIx) (x2 (xC (.int 10)) (xC (.int 18)) fPow) fGe)) (xRet (xLstC (xCons (x2 (x2 (xVar 1) (xC (.int 0)) fIx) (x2 (xC (.int 10)) (xC (.int 18)) fPow) fSub) (xCons (xVar 3) xNil)))) xEnd) (xRet (xLstC (xCons (xC (.int 0)) (xCons (xVar 3) xNil)))))))))
def mi (a:Adr):XF:=(fnD 6 (pL a))
theorem wb (F:Fun K "_law_purse" "_law_purse" pI f fd) (T:Txt K mg a):FnOk P w K mg base (CXo P w) 1 f fd ["_law_script"] (spD K a.Book 1 (mi a)) :=
 mS F sc__law_purse rfl fun cdv A outer s H E hr=>(kE (kS 1 sc__law_purse.nd rfl (bw rfl) (lA (CS (ky 0) yj (tu kG)) (lu (ku kG kB)))) (kE (kS 2 sc__law_purse.nd rfl (bw rfl) kG) (kE (kS 3 sc__law_purse.nd rfl (bw rfl) kG) (kE (oN rfl (nu rfl T.b_range (ku kG kB)) (lS 4 sc__law_purse.nd rfl (bw rfl)) (kE (kS 5 sc__law_purse.nd rfl (bw rfl) (lr (kP hr) (ky 1) (uu (ky 4) (ly b_len rfl T.b_len oP (ku (ky 1) kB))) (fun _ _=>rfl))) (kE (kS 2 sc__law_purse.nd rfl (bw rfl) (uu (lA (lA (lA (pC (ky 2) (ky 2)) (ky 5)) (pC kG (ky 4))) kG) kG)) (kI (kS 3 sc__law_purse.nd rfl (bw rfl) (lA (pC (ky 3) kG) (uu (pC (ky 2) (ky 2)) kG))))))) (kE (oZ (pW c_ge (lr (kP hr) (ky 1) kG (fun _ _=>rfl)) (yz kG kG) (lG _)) (kI (kY (tz (ku (AU (lr (kP hr) (ky 1) kG (fun _ _=>rfl)) (yz kG kG)) (ku (ky 3) kB))))) l4) (kI (kY (tz (ku kG (ku (ky 3) kB))))))))))
abbrev nQ:bM:=top 47
theorem sc__law_names:FnScope ["_law_purse_here","_law_letters","_law_first","_law_found","_law_k","_law_long","_law_tail"] ["_law_purse_here"] (kC nQ):=fsc
def l8 (a:Adr) :XS:=(xSeq (xSet 5 (xCall 2 (kK a) (xCons (xVar 0) (xCons (xC (.int 8)) xNil)))) (xSeq (xSet 6 (xJoin (xC (.str "")) (xCons (md (xRng1 (xCons (xVar 5) xNil)) [1,0] oR (x2 (xVar 1) (xCall 2 (kK a) (xCons (xVar 2) (xCons (xC (.int 26)) xNil))) fIx)) xNil))) (xDo (xAppend (xVar 3) (xCons (x2 (x2 (xVar 1) (x2 (x2 (xVar 2) (x2 (xC (.int 7)) (xVar 4) fMul) fAdd) (xC (.int 26)) fMod) fIx) (xVar 6) fAdd) xNil)))))
def su (a:Adr):XS:=(xSeq (xSet 1 (xC (.str "abcdefghijklmnopqrstuvwxyz"))) (xSeq (xSet 2 (xCall 2 (kK a) (xCons (xVar 0) (xCons (xC (.int 26)) xNil)))) (xSeq (xSet 3 (xLstC xNil)) (xSeq (xFor (xRng1 (xCons (xC (.int 14)) xNil)) (yName 4) (l8 a)) (xRet (xFrz (xVar 3)))))))
def mX (a:Adr):XF:=(fnD 7 (su a))
theorem wc (F:Fun K "_law_names" "_law_names" nQ f fd) (T:Txt K mg a) (F__law_take:Fn P w K mg base "_law_take" 1 ["_law_purse_here","_law_many"] (spD K a.Book 2 (kK a))):FnOk P w K mg base (CXo P w) 2 f fd ["_law_purse_here"] (spD K a.Book 1 (mX a)) :=
 mS F sc__law_names rfl fun cdv A outer s H E hr=>(kE (kS 1 sc__law_names.nd rfl (eM rfl) pB) (kE (kS 2 sc__law_names.nd rfl (bw rfl) (k6 F__law_take (hr.mono (by decide)) rfl kW (ku (ky 0) (ku kG kB)))) (kE (kS 3 sc__law_names.nd rfl (bw rfl) (tz kB)) (kE (oN rfl (nu rfl T.b_range (ku kG kB)) (lS 4 sc__law_names.nd rfl (bw rfl)) (kE (kS 5 sc__law_names.nd rfl (bw rfl) (k6 F__law_take (hr.mono (by decide)) rfl kU (ku (ky 0) (ku kG kB)))) (kE (kS 6 sc__law_names.nd rfl (bw rfl) (Gn pB (ku (ni (fr:=["_law_letters","_law_purse_here"]) (ix:=[1,0]) rfl (by exact (show CompOk ["_law_purse_here","_law_letters","_law_first","_law_found","_law_k","_law_long","_law_tail"] (kC nQ) _ _ _ _ from cok)) (nu rfl T.b_range (ku (ky 5) kB)) (fun _ _ _ _ _=>m7) (fun _ _ _ _ _=>(lr (kP hr) (ky 1) (k6 F__law_take (hr.mono (by decide)) rfl kU (ku (ky 2) (ku kG kB))) (fun _ _=>rfl)))) kB))) (kI (sL (tR (ky 3) (ku (lA (lr (kP hr) (ky 1) (uu (lA (ky 2) (pC kG (ky 4))) kG) (fun _ _=>rfl)) (ky 6)) kB))))))) (kI (kY (IB (ky 3))))))))
abbrev qt:bM:=top 50
theorem sc__law_part:FnScope ["_law_purse_here","_law_bottom"] ["_law_purse_here"] (kC qt):=fsc
def t7 (a:Adr):XS:=(xSeq (xSet 1 (x2 (xLst (xCons (xC (.int 2)) (xCons (xC (.int 3)) (xCons (xC (.int 4)) (xCons (xC (.int 5)) (xCons (xC (.int 7)) (xCons (xC (.int 10)) (xCons (xC (.int 100)) (xCons (x2 (xC (.int 10)) (xC (.int 9)) fPow) xNil))))))))) (xCall 2 (kK a) (xCons (xVar 0) (xCons (xC (.int 8)) xNil))) fIx)) (xRet (xCall 2 (lb a) (xCons (x2 (xC (.int 1)) (xCall 2 (kK a) (xCons (xVar 0) (xCons (xVar 1) xNil))) fAdd) (xCons (xVar 1) xNil)))))
def mM (a:Adr):XF:=(fnD 2 (t7 a))
theorem xS (F:Fun K "_law_part" "_law_part" qt f fd) (T:Txt K mg a) (F__law_lowest:Fn P w K mg base "_law_lowest" 2 ["_law_top","_law_bottom"] (spD K a.Book 2 (lb a))) (F__law_take:Fn P w K mg base "_law_take" 1 ["_law_purse_here","_law_many"] (spD K a.Book 2 (kK a))):FnOk P w K mg base (CXo P w) 3 f fd ["_law_purse_here"] (spD K a.Book 1 (mM a)) :=
 mS F sc__law_part rfl fun cdv A outer s H E hr=>(kE (kS 1 sc__law_part.nd rfl (bw rfl) (lr (kP hr) (lu (ku kG (ku kG (ku kG (ku kG (ku kG (ku kG (ku kG (ku (yz kG kG) kB))))))))) (k6 F__law_take (hr.mono (by decide)) rfl kW (ku (ky 0) (ku kG kB))) (fun _ _=>rfl))) (kI (kY (k6 F__law_lowest (hr.mono (by decide)) rfl kW (ku (lA kG (k6 F__law_take (hr.mono (by decide)) rfl kW (ku (ky 0) (ku (ky 1) kB)))) (ku (ky 1) kB))))))
abbrev nR:bM:=top 51
theorem sc__law_built:FnScope ["_law_purse_here","_law_words","_law_book","_law_people","_law_houses","_law_entries","_law_name","_law_k","_law_owner","_law_house","_law_held","_law_having","_law_one","_law_other","_law_share"] ["_law_purse_here"] (kC nR):=fsc
def mV (a:Adr) :XS:=(xDo (xBM 2 (qV a) (xVar 2) (xCons (xVar 6) xNil)))
def mU (a:Adr) :XS:=(xSeq (xSet 8 (x2 (x2 (xVar 3) (xSl (xVar 4) xNoP (xPart (xVar 7))) fAdd) (xCall 2 (kK a) (xCons (xVar 0) (xCons (x2 (xB (xCons (xVar 3) xNil) fLen) (xVar 7) fAdd) xNil))) fIx)) (xSeq (xDo (xBM 6 (tE a) (xVar 2) (xCons (x2 (xVar 4) (xVar 7) fIx) (xCons (xVar 8) (xCons (x2 (xCall 2 (kK a) (xCons (xVar 0) (xCons (xC (.int 100)) xNil))) (xC (.int 30)) fSub) (xCons (x2 (xCall 2 (kK a) (xCons (xVar 0) (xCons (xC (.int 60)) xNil))) (xC (.int 10)) fSub) (xCons (xCall 2 (kK a) (xCons (xVar 0) (xCons (xC (.int 40)) xNil))) xNil))))))) (xPut (xVar 5) (x2 (xVar 4) (xVar 7) fIx) (xDisp (xVar 8) (xTup (xCons (xC (.int 1)) (xCons (xC (.int 1)) xNil)))))))
def l9 (a:Adr) :XS:=(xSeq (xSet 11 (xB (xCons (vK 10 [10] (xTr (x2 (x2 (x2 (xVar 1) (xVar 0) fIx) (xC (.int 0)) fIx) (xC (.int 0)) fGt)) (xVar 0)) xNil) kF)) (xSeq (xSet 12 (x2 (xVar 11) (xCall 2 (kK a) (xCons (xVar 0) (xCons (xB (xCons (xVar 11) xNil) fLen) xNil))) fIx)) (xSeq (xSet 13 (x2 (x2 (xVar 3) (xVar 4) fAdd) (xCall 2 (kK a) (xCons (xVar 0) (xCons (x2 (xB (xCons (xVar 3) xNil) fLen) (xB (xCons (xVar 4) xNil) fLen) fAdd) xNil))) fIx)) (xSeq (xSet 14 (xCall 2 (lW a) (xCons (x2 (xVar 10) (xVar 12) fIx) (xCons (xCall 1 (mM a) (xCons (xVar 0) xNil)) xNil)))) (xIf (xTr (x2 (x2 (xVar 14) (xC (.int 1)) fIx) (x2 (xC (.int 10)) (xC (.int 28)) fPow) fLt)) (xSeq (xDo (xBM 5 (wv a) (xVar 2) (xCons (xVar 9) (xCons (xVar 12) (xCons (xVar 13) (xCons (xVar 14) xNil)))))) (xSeq (xPut (xVar 10) (xVar 12) (xCall 2 (mK a) (xCons (x2 (xVar 10) (xVar 12) fIx) (xCons (xTup (xCons (x1 (x2 (xVar 14) (xC (.int 0)) fIx) fNeg) (xCons (x2 (xVar 14) (xC (.int 1)) fIx) xNil))) xNil)))) (xPut (xVar 10) (xVar 13) (xCall 2 (mK a) (xCons (xGet (xVar 10) (xVar 13) (xTup (xCons (xC (.int 0)) (xCons (xC (.int 1)) xNil)))) (xCons (xVar 14) xNil)))))) xEnd)))))
def mT (a:Adr) :XS:=(xSeq (xSet 10 (x2 (xVar 5) (xVar 9) fIx)) (xFor (xRng1 (xCons (xCall 2 (kK a) (xCons (xVar 0) (xCons (xC (.int 6)) xNil))) xNil)) (yName 7) (l9 a)))
def pM (a:Adr):XS:=(xSeq (xSet 1 (xCall 1 (mX a) (xCons (xVar 0) xNil))) (xSeq (xSet 2 xBook) (xSeq (xSet 3 (xSl (xVar 1) xNoP (xPart (x2 (xLst (xCons (xC (.int 2)) (xCons (xC (.int 3)) (xCons (xC (.int 1)) (xCons (xC (.int 4)) (xCons (xC (.int 6)) (xCons (xC (.int 2)) (xCons (xC (.int 3)) (xCons (xC (.int 5)) xNil))))))))) (xCall 2 (kK a) (xCons (xVar 0) (xCons (xC (.int 8)) xNil))) fIx)))) (xSeq (xSet 4 (xSl (xVar 1) (xPart (xC (.int 6))) (xPart (x2 (xC (.int 6)) (x2 (xLst (xCons (xC (.int 3)) (xCons (xC (.int 4)) (xCons (xC (.int 2)) (xCons (xC (.int 5)) (xCons (xC (.int 6)) (xCons (xC (.int 1)) (xCons (xC (.int 8)) (xCons (xC (.int 0)) xNil))))))))) (xCall 2 (kK a) (xCons (xVar 0) (xCons (xC (.int 8)) xNil))) fIx) fAdd)))) (xSeq (xSet 5 xNewD) (xSeq (xFor (xIter (xVar 3)) (yName 6) (mV a)) (xSeq (xFor (xRng1 (xCons (xB (xCons (xVar 4) xNil) fLen) xNil)) (yName 7) (mU a)) (xSeq (xFor (xIter (xVar 4)) (yName 9) (mT a)) (xRet (xLst (xCons (xVar 2) (xCons (xB (xCons (xVar 3) xNil) kF) (xCons (E5 (xVar 5)) xNil)))))))))))))
def nT (a:Adr):XF:=(fnD 15 (pM a))
theorem we (F:Fun K "_law_built" "_law_built" nR f fd) (T:Txt K mg a) (F__law_names:Fn P w K mg base "_law_names" 2 ["_law_purse_here"] (spD K a.Book 1 (mX a))) (M_Book:MkB P w K mg base "Book" a.Book 1 ["self"] (AI K a.Book)) (M_person:Mt P w K mg base a.Book "person" 4 ["self","name"] (spD K a.Book 2 (qV a))) (M_house:Mt P w K mg base a.Book "house" 4 ["self","name","owner","things","mark","loss"] (spD K a.Book 6 (tE a))) (F__law_take:Fn P w K mg base "_law_take" 1 ["_law_purse_here","_law_many"] (spD K a.Book 2 (kK a))) (F__law_times:Fn P w K mg base "_law_times" 3 ["_law_one","_law_other"] (spD K a.Book 2 (lW a))) (F__law_part:Fn P w K mg base "_law_part" 3 ["_law_purse_here"] (spD K a.Book 1 (mM a))) (M_sale:Mt P w K mg base a.Book "sale" 4 ["self","house","one","other","share"] (spD K a.Book 5 (wv a))) (F__law_plus:Fn P w K mg base "_law_plus" 3 ["_law_one","_law_other"] (spD K a.Book 2 (mK a))):FnOk P w K mg base (CXo P w) 5 f fd ["_law_purse_here"] (spD K a.Book 1 (nT a)) :=
 mS F sc__law_built rfl fun cdv A outer s H E hr=>(kE (kS 1 sc__law_built.nd rfl (bw rfl) (k6 F__law_names (hr.mono (by decide)) rfl kW (ku (ky 0) kB))) (kE (kS 2 sc__law_built.nd rfl (bw rfl) (Gs M_Book (hr.mono (by decide)) rfl kW)) (kE (kS 3 sc__law_built.nd rfl (bw rfl) (CS (ky 1) yj (tu (lr (kP hr) (lu (ku kG (ku kG (ku kG (ku kG (ku kG (ku kG (ku kG (ku kG kB))))))))) (k6 F__law_take (hr.mono (by decide)) rfl kW (ku (ky 0) (ku kG kB))) (fun _ _=>rfl))))) (kE (kS 4 sc__law_built.nd rfl (bw rfl) (CS (ky 1) (tu kG) (tu (lA kG (lr (kP hr) (lu (ku kG (ku kG (ku kG (ku kG (ku kG (ku kG (ku kG (ku kG kB))))))))) (k6 F__law_take (hr.mono (by decide)) rfl kW (ku (ky 0) (ku kG kB))) (fun _ _=>rfl)))))) (kE (kS 5 sc__law_built.nd rfl (bw rfl) Gk) (kE (oN rfl (oC (ky 3)) (lS 6 sc__law_built.nd rfl (bw rfl)) (kI (sL (pX (ky 2) M_person Cg (hr.mono (by decide)) kU (ku (ky 6) kB))))) (kE (oN rfl (nu rfl T.b_range (ku (ly b_len rfl T.b_len oP (ku (ky 4) kB)) kB)) (lS 7 sc__law_built.nd rfl (bw rfl)) (kE (kS 8 sc__law_built.nd rfl (bw rfl) (lr (kP hr) (lA (ky 3) (CS (ky 4) yj (tu (ky 7)))) (k6 F__law_take (hr.mono (by decide)) rfl kU (ku (ky 0) (ku (lA (ly b_len rfl T.b_len oP (ku (ky 3) kB)) (ky 7)) kB))) (fun _ _=>rfl))) (kE (sL (pX (ky 2) M_house D9 (hr.mono (by decide)) kU (ku (lr (kP hr) (ky 4) (ky 7) (fun _ _=>rfl)) (ku (ky 8) (ku (AU (k6 F__law_take (hr.mono (by decide)) rfl kU (ku (ky 0) (ku kG kB))) kG) (ku (AU (k6 F__law_take (hr.mono (by decide)) rfl kU (ku (ky 0) (ku kG kB))) kG) (ku (k6 F__law_take (hr.mono (by decide)) rfl kU (ku (ky 0) (ku kG kB))) kB))))))) (kI (yy (kP hr) (ky 5) (lr (kP hr) (ky 4) (ky 7) (fun _ _=>rfl)) (Gq (ky 8) (rM (ku kG (ku kG kB))))))))) (kE (oN rfl (oC (ky 4)) (lS 9 sc__law_built.nd rfl (bw rfl)) (kE (kS 10 sc__law_built.nd rfl (eM rfl) (lr (kP hr) (ky 5) (ky 9) (fun _ _=>rfl))) (kI (oN rfl (nu rfl T.b_range (ku (k6 F__law_take (hr.mono (by decide)) rfl kU (ku (ky 0) (ku kG kB))) kB)) (lS 7 sc__law_built.nd rfl (bw rfl)) (kE (kS 11 sc__law_built.nd rfl (bw rfl) (ly (b_sorted rfl) rfl T.b_sorted nZ (ku (Em (fr:=["_law_held"]) (ix:=[10]) 10 rfl rfl (eM (bw rfl)) (by exact (show CompOk ["_law_purse_here","_law_words","_law_book","_law_people","_law_houses","_law_entries","_law_name","_law_k","_law_owner","_law_house","_law_held","_law_having","_law_one","_law_other","_law_share"] (kC nR) _ _ _ _ from cok)) (fun _ _ _ _ _=>(sN (pW c_gt (lr (kP hr) (lr (kP hr) (ky 1) (ky 0) (fun _ _=>rfl)) kG (fun _ _=>rfl)) kG (lG _)))) (fun _ _ _ _ _=>(ky 0))) kB))) (kE (kS 12 sc__law_built.nd rfl (bw rfl) (lr (kP hr) (ky 11) (k6 F__law_take (hr.mono (by decide)) rfl kU (ku (ky 0) (ku (ly b_len rfl T.b_len oP (ku (ky 11) kB)) kB))) (fun _ _=>rfl))) (kE (kS 13 sc__law_built.nd rfl (bw rfl) (lr (kP hr) (lA (ky 3) (ky 4)) (k6 F__law_take (hr.mono (by decide)) rfl kU (ku (ky 0) (ku (lA (ly b_len rfl T.b_len oP (ku (ky 3) kB)) (ly b_len rfl T.b_len oP (ku (ky 4) kB))) kB))) (fun _ _=>rfl))) (kE (kS 14 sc__law_built.nd rfl (bw rfl) (k6 F__law_times (hr.mono (by decide)) rfl kU (ku (lr (kP hr) (ky 10) (ky 12) (fun _ _=>rfl)) (ku (k6 F__law_part (hr.mono (by decide)) rfl kU (ku (ky 0) kB)) kB)))) (kI (oZ (pW c_lt (lr (kP hr) (ky 14) kG (fun _ _=>rfl)) (yz kG kG) (lG _)) (kE (sL (pX (ky 2) M_sale FW (hr.mono (by decide)) kU (ku (ky 9) (ku (ky 12) (ku (ky 13) (ku (ky 14) kB)))))) (kE (yy (kP hr) (ky 10) (ky 12) (k6 F__law_plus (hr.mono (by decide)) rfl kU (ku (lr (kP hr) (ky 10) (ky 12) (fun _ _=>rfl)) (ku (rM (ku (Iz (lr (kP hr) (ky 14) kG (fun _ _=>rfl))) (ku (lr (kP hr) (ky 14) kG (fun _ _=>rfl)) kB))) kB)))) (kI (yy (kP hr) (ky 10) (ky 13) (k6 F__law_plus (hr.mono (by decide)) rfl kU (ku (IA (kP hr) (ky 10) (ky 13) (rM (ku kG (ku kG kB))) ⟨rfl,rfl,rfl,rfl⟩) (ku (ky 14) kB))))))) l4)))))))))) (kI (kY (lu (ku (ky 2) (ku (ly (b_sorted rfl) rfl T.b_sorted nZ (ku (ky 3) kB)) (ku (Gp (ky 5)) kB))))))))))))))
abbrev tH:bM:=top 12
theorem sc_outvote:FnScope ["book","voters","house","votes","holder","share"] ["book","voters","house"] (kC tH):=fsc
def nE (a:Adr) :XS:=(xIf (xTr (x2 (xVar 4) (xVar 1) fIn)) (xSet 3 (xCall 2 (uw a) (xCons (xVar 3) (xCons (xVar 5) xNil)))) xEnd)
def xf (a:Adr):XS:=(xSeq (xSet 3 (xC AY)) (xSeq (xFor (xIter (xBM 2 (lQ a) (xVar 0) (xCons (xVar 2) xNil))) (yTup 2 (yCons (yName 4) (yCons (yName 5) yNil))) (nE a)) (xRet (xCall 2 (nq a) (xCons (xVar 3) (xCons (xC AZ) xNil))))))
def mO (a:Adr):XF:=(fnD 6 (xf a))
theorem Aj (F:Fun K "outvote" "outvote" tH f fd) (T:Txt K mg a) (M_shares:Mt P w K mg base a.Book "shares" 3 ["self","house"] (spD K a.Book 2 (lQ a))) (F_is_above:Fn P w K mg base "is_above" 1 ["first","second"] (spD K a.Book 2 (nq a))) (F_plus:Fn P w K mg base "plus" 2 ["first","second"] (spD K a.Book 2 (uw a))):FnOk P w K mg base (CXo P w) 4 f fd ["book","voters","house"] (spD K a.Book 3 (mO a)) :=
 mS F sc_outvote rfl fun cdv A outer s H E hr=>(kE (kS 3 sc_outvote.nd rfl (bw rfl) (Bm rfl T.g_ZERO T.r_ZERO T.p_ZERO)) (kE (oN rfl (oC (pX (ky 0) M_shares tJ (hr.mono (by decide)) kU (ku (ky 2) kB))) (AT rfl (oy (lS 4 sc_outvote.nd rfl (bw rfl)) (oy (lS 5 sc_outvote.nd rfl (bw rfl)) yk))) (kI (oZ (pW (E2 (kP hr)) (ky 4) (ky 1) (by with_unfolding_all rfl)) (kI (kS 3 sc_outvote.nd rfl (bw rfl) (k6 F_plus (hr.mono (by decide)) rfl kU (ku (ky 3) (ku (ky 5) kB))))) l4))) (kI (kY (k6 F_is_above (hr.mono (by decide)) rfl kW (ku (ky 3) (ku (Bm rfl T.g_HALF T.r_HALF T.p_HALF) kB)))))))
abbrev pP:bM:=top 13
theorem yJ:FnScope ["book","voters"] ["book","voters"] (kC pP):=fsc
def vf (a:Adr):XS:=(xRet (md (xIter (xBM 1 (lR a) (xVar 0) xNil)) [0,1] (xTr (xCall 3 (mO a) (xCons (xVar 1) (xCons (xVar 2) (xCons (xVar 0) xNil))))) (xVar 0)))
def lY (a:Adr):XF:=(fnD 2 (vf a))
theorem yM (F:Fun K "outvoted" "outvoted" pP f fd) (T:Txt K mg a) (M_houses:Mt P w K mg base a.Book "houses" 1 ["self"] (spD K a.Book 1 (lR a))) (F_outvote:Fn P w K mg base "outvote" 4 ["book","voters","house"] (spD K a.Book 3 (mO a))):FnOk P w K mg base (CXo P w) 5 f fd ["book","voters"] (spD K a.Book 2 (lY a)) :=
 mS F yJ rfl fun cdv A outer s H E hr=>(kI (kY (ni (fr:=["book","voters"]) (ix:=[0,1]) rfl (by exact (show CompOk ["book","voters"] (kC pP) _ _ _ _ from cok)) (oC (uv (ky 0) M_houses tK (hr.mono (by decide)) kW)) (fun _ _ _ _ _=>(sN (nN (k6 F_outvote (hr.mono (by decide)) rfl kU (ku (ky 1) (ku (ky 2) (ku (ky 0) kB))))))) (fun _ _ _ _ _=>(ky 0)))))
end
end My
namespace L2
open PySem
def sem:=ak @fnD.eq_1 <| ak @xSeq.eq_1 <| ak @xSet.eq_1 <| ak @xRet.eq_1 <| ak @xRetN.eq_1 <| ak @xDo.eq_1 <| ak @xIf.eq_1 <| ak @xEnd.eq_1 <| ak @xPut.eq_1 <| ak @xPar.eq_1 <| ak @xAsg.eq_1 <| ak @x1.eq_1 <| ak @x2.eq_1 <| ak @xVar.eq_1 <| ak @xC.eq_1 <| ak @xB.eq_1 <| ak @xCall.eq_1 <| ak @xBM.eq_1 <| ak @xCons.eq_1 <| ak @xNil.eq_1 <| ak @xTup.eq_1 <| ak @xLst.eq_1 <| ak @xLstC.eq_1 <| ak @xTr.eq_1 <| ak @xNot.eq_1 <| ak @xAnd.eq_1 <| ak @xOr.eq_1 <| ak @xAndV.eq_1 <| ak @xOrV.eq_1 <| ak @xNotV.eq_1 <| ak @xSl.eq_1 <| ak @xNoP.eq_1 <| ak @xPart.eq_1 <| ak @xIter.eq_1 <| ak @xRng1.eq_1 <| ak @xIterS.eq_1 <| ak @xIterD.eq_1 <| ak @xFor.eq_1 <| ak @xFrz.eq_1 <| ak @frz1.eq_1 <| ak @frz1.eq_2 <| ak @xAppend.eq_1 <| ak @xGet.eq_1 <| ak @xJoin.eq_1 <| ak @xNewD.eq_1 <| ak @xDisp.eq_1 <| ak @xIsiT.eq_1 <| ak @xIfe.eq_1 <| ak @xChain.eq_1 <| ak @xBook.eq_1 <| ak @Out.bind.eq_1 <| ak @Out.bind.eq_2 <| ak @Out.bind.eq_3 <| ak @Out.so.eq_1 <| ak @Out.so.eq_2 <| ak @Out.so.eq_3 <| ak @SO.noex.eq_1 <| ak @SO.noex.eq_2 <| ak @fAdd.eq_1 <| ak @fAdd.eq_2 <| ak @fAdd.eq_3 <| ak @fSub.eq_1 <| ak @fSub.eq_2 <| ak @fMul.eq_1 <| ak @fMul.eq_2 <| ak @fMul.eq_3 <| ak @fDiv.eq_1 <| ak @fDiv.eq_2 <| ak @fMod.eq_1 <| ak @fMod.eq_2 <| ak @fPow.eq_1 <| ak @fPow.eq_2 <| ak @fCmp.eq_1 <| ak @fCmp.eq_2 <| ak @fEqN.eq_1 <| ak @fIs.eq_1 <| ak @fIs.eq_2 <| ak @fIsnt.eq_1 <| ak @fIsnt.eq_2 <| ak @fIx.eq_1 <| ak @fIx.eq_2 <| ak @fIx.eq_3 <| ak @fIx.eq_4 <| ak @fIx.eq_5 <| ak @fNeg.eq_1 <| ak @fNeg.eq_2 <| ak @fSl.eq_1 <| ak @fSl.eq_2 <| ak @fLen.eq_1 <| ak @fLen.eq_2 <| ak @fLen.eq_3 <| ak @fLen.eq_4 <| ak @fAbs.eq_1 <| ak @fAbs.eq_2 <| ak @fInt.eq_1 <| ak @fInt.eq_2 <| ak @fInt.eq_3 <| ak @fTuple.eq_1 <| ak @fTuple.eq_2 <| ak @fList.eq_1 <| ak @fList.eq_2 <| ak @fList.eq_3 <| ak @fAll.eq_1 <| ak @fAll.eq_2 <| ak @lsOf.eq_1 <| ak @lsOf.eq_2 <| ak @lsOf.eq_3 <| ak @lsOf.eq_4 <| ak @dcOf.eq_1 <| ak @dcOf.eq_2 <| ak @dcOf.eq_3 <| ak @kyOf.eq_1 <| ak @kyOf.eq_2 <| ak @kyOf.eq_3 <| ak @toV.eq_1 <| ak @toV.eq_2 <| ak @toV.eq_3 <| ak @toV.eq_4 <| ak @toV.eq_5 <| ak @toVs.eq_1 <| ak @toVs.eq_2 <| ak @yName.eq_1 <| ak @yNil.eq_1 <| ak @yNil.eq_2 <| ak @yCons.eq_1 <| ak @yCons.eq_2 <| ak @yTup.eq_1 <| ak @yTup.eq_2 <| @xOnly.eq_1
end L2
namespace My
open PySem L2 Fra
theorem uY {body:PV→XS} (l:List PV) (I:Nat→En→Sto→Prop) (h:∀ k q ρ s,l[k]?=some q→I k ρ s→∃ ρ' s',body q ρ s=.nx ρ' s'∧I (k+1) ρ' s') {ρ:En}{s:Sto} (h0:I 0 ρ s):∃ ρ' s',lI body l ρ s=.nx ρ' s'∧I l.length ρ' s':=by
 have main:∀ (r:List PV) (k:Nat) (ρ:En) (s:Sto),k≤l.length→l.drop k=r→I k ρ s→∃ ρ' s',lI body r ρ s=.nx ρ' s'∧I l.length ρ' s':=by
  intro r
  induction r with
  | nil =>
   intro k ρ s hk e hI
   have:k=l.length:=i7 hk (jX.mp e)
   subst this
   exact ⟨ρ,s,rfl,hI⟩
  | cons q r ih =>
   intro k ρ s hk e hI
   have hq:l[k]?=some q:=by
    have:=congrArg List.head? e
    rw [List.head?_drop] at this
    simpa using this
   obtain ⟨ρ',s',h1,h2⟩:=h k q ρ s hq hI
   have e2:l.drop (k+1)=r:=by
    rw [← List.tail_drop,e];rfl
   obtain ⟨ρ2,s2,h3,h4⟩:=ih (k+1) ρ' s' ((aZ.mp hq).1) e2 h2
   refine ⟨ρ2,s2,?_,h4⟩
   unfold lI
   rw [h1]
   exact h3
 exact main l 0 ρ s (bA _) rfl h0
theorem sF (n:Nat):(rj 0 n).length=n:=by simp [rj]
theorem Dx {n k:Nat}{q:PV} (h:(rj 0 n)[k]?=some q):k < n∧q=.int (k:Int):=by
 unfold rj at h
 rw [bv] at h
 by_cases hk:k < n
 ·rw [ka hk] at h
  cases h
  exact ⟨hk,by simp⟩
 ·rw [jR (by simpa using hk)] at h;cases h
theorem qK {body:PV→XS} (n:Nat) (I:Nat→En→Sto→Prop) (h:∀ (k:Nat) ρ s,k < n→I k ρ s→∃ ρ' s',body (.int (k:Int)) ρ s=.nx ρ' s'∧I (k+1) ρ' s') {ρ:En}{s:Sto} (h0:I 0 ρ s):∃ ρ' s',lI body (rj 0 n) ρ s=.nx ρ' s'∧I n ρ' s':=by
 have:=uY (rj 0 n) I (fun k q ρ s hq hI=>by obtain ⟨h1,h2⟩:=Dx hq;rw [h2];exact h k ρ s h1 hI) h0
 rw [sF] at this
 exact this
theorem m8 (s:Sto) (i:Int):PV.data s 12 (.int i)=some (.int i):=rfl
theorem oV (i j:Int):fK (.int i) (.int j)=(i == j):=by unfold fK;rfl
def IsPurse (s:Sto) (p:Nat):Prop:=∃ x y,s.get p=some (.lst [.int x,.int y])
theorem uI (a:Adr) (s:Sto) (p:Nat) (n:Int) (h:IsPurse s p) (h0:0 < n) (h1:Bt 9000 n):∃ r x y,0≤r∧r < n∧kK a [.ref p,.int n] s=.ok (.int r) (s.set p (.lst [.int x,.int y])):=by
 obtain ⟨x,y,h⟩:=h
 have hd:CQ n:=⟨h0,h1⟩
 by_cases hx:x=0
 ·refine ⟨y % n,x,y / n,dJ _ (by omega),cS _ h0,?_⟩
  subst hx
  simp [sem,k9,kF,k8,kK,qD,h,atI,ixN,m8,oV,hd,h0]
 ·refine ⟨x % n,x / n,y,dJ _ (by omega),cS _ h0,?_⟩
  simp [sem,k9,kF,k8,kK,qD,h,atI,ixN,m8,oV,hd,h0,hx]
theorem Bx {l:List Int}{i:Int} (h0:0≤i) (h1:i < l.length):∃ x,atI (l.map PV.int) i=some (.int x):=by
 obtain ⟨j,rfl⟩:∃ j:Nat,i=j:=⟨i.toNat,by omega⟩
 have hj:j < l.length:=by omega
 exact ⟨l[j],lp (by simp [hj])⟩
theorem Ep (l:List Int) (lo hi:Option Int):∃ k:List Int,wo (l.map PV.int) lo hi=k.map PV.int∧k.length≤l.length:=by
 refine ⟨(l.drop (HT.sIx l.length 0 lo)).take (HT.sIx l.length l.length hi - HT.sIx l.length 0 lo),?_,?_⟩
 ·unfold wo;simp [gf,List.map_drop]
 ·rw [ci,gu];omega
theorem DD (a:Adr) (s:Sto) (l:List Int) (hl:l.length≤63):∃ x y,mi a [.seq (l.map .int)] s=.ok (.ref s.nx) (s.add (.lst [.int x,.int y])):=by
 obtain ⟨c,hc,hlen⟩:=Ep l none (some 63)
 have hsz:c.length≤99999:=by omega
 have e1:c.map PV.int++[PV.int 1]=(c++[1]).map PV.int:=by simp
 have hpos:(0:Int) < (c.length:Int)+1:=by omega
 have h2:2≤aP:=by decide
 obtain ⟨ρ',s',hloop,rfl,v,w,k,z,rfl,_⟩:=qK (body:=kZ (yName 4) (nX a)) 200
  (fun _ ρ t=>t=s∧∃ v w k z,ρ=[some (.seq (l.map .int)),some (.lst ((c++[1]).map .int)),some (.int v),some (.int w),k,z]∧0≤v∧v < 2147483629)
  (fun k ρ t hk hI=>by
   obtain ⟨rfl,v,w,k',z,rfl,h0,h1⟩:=hI
   obtain ⟨x,hx⟩:=Bx (l:=c++[1]) (i:=(k:Int) % ((c.length:Int)+1)) (dJ _ (by omega)) (by have:=cS (k:Int) hpos;simpa using this)
   have m1:uV v v:=.inr (.inl ⟨by omega,by omega⟩)
   have m2:uV 48271 (k:Int):=.inr (.inl ⟨by decide,by decide⟩)
   have m3:uV w 2147483587:=.inr (.inr ⟨by decide,by decide⟩)
   have b0:=dJ (v * v+x+48271 * (k:Int)+7) (show (2147483629:Int)≠0 by decide)
   have b1:=cS (v * v+x+48271 * (k:Int)+7) (show (0:Int) < 2147483629 by decide)
   have m4:uV ((v * v+x+48271 * (k:Int)+7) % 2147483629) ((v * v+x+48271 * (k:Int)+7) % 2147483629):=.inr (.inl ⟨by omega,by omega⟩)
   refine ⟨_,_,?_,rfl,(v * v+x+48271 * (k:Int)+7) % 2147483629,w * 2147483587+((v * v+x+48271 * (k:Int)+7) % 2147483629) * ((v * v+x+48271 * (k:Int)+7) % 2147483629) % 2147483587,some (.int k),some (.int x),rfl,b0,b1⟩
   simp only [aW,aD,cy] at hx
   simp [sem,k9,kF,k8,kZ,nX,hx,m1,m2,m3,m4,hpos]) ⟨rfl,5,1,none,none,rfl,by decide,by decide⟩
 obtain ⟨x0,hx0⟩:=Bx (l:=c++[1]) (i:=0) (by omega) (by simp)
 simp only [aW,aD,cy] at hx0 hloop
 by_cases h18:(1000000000000000000:Int)≤x0
 ·refine ⟨x0 - 1000000000000000000,w,?_⟩
  simp [sem,k9,kF,k8,mi,pL,hc,hsz,hloop,hx0,h18,h2]
 ·refine ⟨0,w,?_⟩
  simp [sem,k9,kF,k8,mi,pL,hc,hsz,hloop,hx0,h18,h2]
theorem xT (a:Adr) (s:Sto):∀ (k:Nat) (t b:Int),0≤b→b.toNat≤k→∃ n t',lz (xTr (x2 (xVar 1) (xC (.int 0)) fNe)) (mf a) n [some (.int t),some (.int b)] s=.nx [some (.int t'),some (.int 0)] s∧t'.natAbs=aO t b:=by
 intro k
 induction k with
 | zero =>
  intro t b h0 hk
  have:b=0:=by omega
  subst this
  refine ⟨1,t,?_,by simp [aO]⟩
  unfold lz
  simp [sem,k9,kF,k8,m8,oV]
 | succ k ih =>
  intro t b h0 hk
  by_cases hb:b=0
  ·subst hb
   refine ⟨1,t,?_,by simp [aO]⟩
   unfold lz
   simp [sem,k9,kF,k8,m8,oV]
  ·have hp:0 < b:=by omega
   have m0:=dJ t hb
   have m1:=cS t hp
   obtain ⟨n,t',h1,h2⟩:=ih b (t % b) m0 (by omega)
   refine ⟨n+1,t',?_,by rw [h2];exact zt t b hp⟩
   have hs:mf a [some (.int t),some (.int b)] s=.nx [some (.int b),some (.int (t % b))] s:=by simp [sem,k9,kF,k8,mf,hp]
   unfold lz
   simp [sem,k9,kF,k8,m8,oV,hb,hs,h1]
theorem Ax (a:Adr) (s:Sto) (t b:Int) (hb:0≤b):ma a [.int t,.int b] s=.ok (.int (aO t b)) s:=by
 obtain ⟨n,t',h1,h2⟩:=xT a s b.toNat t b hb (aC _)
 have hw:=wC h1 (by simp)
 simp [sem,k9,kF,k8,ma,qj,hw]
 rw [← h2]
 split <;> omega
theorem tM (a:Adr) (s:Sto) (t b:Int) (hb:0 < b) (hB:Bt 9000 b):lb a [.int t,.int b] s=.ok (frP (red (t,b))) s:=by
 have hg:0 < aO t b:=bW _ (by omega)
 have hd:CQ (aO t b:Int):=⟨by omega,hB.dvd (by omega) (cK ..)⟩
 have e:=Ax a s t b (by omega)
 simp [sem,k9,kF,k8,lb,rF,e,hd,frP,red]
theorem at0 (x y:PV):atI [x,y] 0=some x:=rfl
theorem at1 (x y:PV):atI [x,y] 1=some y:=rfl
structure Two' (p q:Int×Int):Prop where
 p0:0 < p.2
 q0:0 < q.2
 b:Bt 4400 p.2∧Bt 4400 q.2
 t:Bt 9000 p.1∧Bt 9000 q.1
theorem sZ {i j:Int} (h:Bt 9000 i) (g:Bt 9000 j):uV i j:=.inl ⟨h.mono (by decide),g.mono (by decide)⟩
theorem zn (a:Adr) (s:Sto) (p q:Int×Int) (h:Two' p q):mK a [frP p,frP q] s=.ok (frP (lH p q)) s:=by
 have b1:Bt 9000 p.2:=h.b.1.mono (by decide)
 have b2:Bt 9000 q.2:=h.b.2.mono (by decide)
 have e:=tM a s (p.1 * q.2+q.1 * p.2) (p.2 * q.2) (bG h.p0 h.q0) ((h.b.1.mul h.b.2).mono (by decide))
 simp [sem,k9,kF,k8,mK,t5,frP,at0,at1,sZ h.t.1 b2,sZ h.t.2 b1,sZ b1 b2,e,lH]
theorem Ch (a:Adr) (s:Sto) (p q:Int×Int) (h:Two' p q):lW a [frP p,frP q] s=.ok (frP (red (p.1 * q.1,p.2 * q.2))) s:=by
 have b1:Bt 9000 p.2:=h.b.1.mono (by decide)
 have b2:Bt 9000 q.2:=h.b.2.mono (by decide)
 have e:=tM a s (p.1 * q.1) (p.2 * q.2) (bG h.p0 h.q0) ((h.b.1.mul h.b.2).mono (by decide))
 simp [sem,k9,kF,k8,lW,sk,frP,at0,at1,sZ h.t.1 h.t.2,sZ b1 b2,e]
theorem og (s:Sto) (c:Cell) (k:Nat):(s.add c).get k=if s.nx=k then some c else s.get k:=by
 show lL ((s.nx,c)::s.cs) k=_
 unfold lL;rfl
theorem uN (s:Sto) (c d:Cell) {p:Nat} (h:s.nx≠p):(s.add d).set p c=(s.set p c).add d:=by
 unfold Sto.set Sto.add
 simp [mE,h]
theorem uO (s:Sto) (c d:Cell):(s.add d).set s.nx c=s.add c:=by
 unfold Sto.set Sto.add
 simp [mE]
theorem xX (s:Sto) (n:Nat) (c d:Cell):(s.set n c).set n d=s.set n d:=by
 have:∀ l,mE n d (mE n c l)=mE n d l:=by
  intro l
  induction l with
  | nil=>rfl
  | cons q r ih =>
   obtain ⟨k,e⟩:=q
   by_cases h:k=n
   ·simp [mE,h]
   ·simp [mE,h,ih]
 unfold Sto.set
 simp [this]
def Sto.bump (s:Sto):Sto:=⟨s.nx+1,s.cs⟩
theorem Gg (s:Sto) (d:Cell):(s.add d).del s.nx=Sto.bump s:=by
 unfold Sto.del Sto.add Sto.bump
 simp [tw]
def pst (s:Sto) (p:Nat) (x y:Int):Sto:=s.set p (.lst [.int x,.int y])
theorem yr (s:Sto) (p:Nat) (x y:Int):(pst s p x y).nx=s.nx:=rfl
theorem IsPurse.pst {s:Sto}{p:Nat} (h:IsPurse s p) (x y:Int):IsPurse (pst s p x y) p:=let ⟨_,_,h⟩:=h;⟨x,y,xY h⟩
theorem IsPurse.add {s:Sto}{p:Nat} (h:IsPurse s p) (c:Cell) (hp:p < s.nx):IsPurse (s.add c) p:=by
 obtain ⟨x,y,h⟩:=h
 exact ⟨x,y,by rw [og,if_neg (by omega)];exact h⟩
theorem A6 (s:Sto) (p:Nat) (x y x' y':Int) (d:Cell) (hp:p < s.nx):((pst s p x y).add d).set p (.lst [.int x',.int y'])=(pst s p x' y').add d:=by
 rw [uN _ _ _ (by rw [yr];omega)]
 unfold pst
 rw [xX]
theorem Gw {c:XT}{e:XE}{cap:En} (l:List PV) (I:Nat→List PV→Sto→Prop) (h:∀ k q vs s,l[k]?=some q→I k vs s→(∃ s1,c (some q::cap) s=.ok false s1∧I (k+1) vs s1)∨(∃ s1 v s2,c (some q::cap) s=.ok true s1∧e (some q::cap) s1=.ok v s2∧I (k+1) (vs++[v]) s2)) {s:Sto} (h0:I 0 [] s) :
  ∃ vs s',lX c e cap l s=.ok vs s'∧I l.length vs s':=by
 have main:∀ (r:List PV) (k:Nat) (vs:List PV) (s:Sto),k≤l.length→l.drop k=r→I k vs s→∃ ws s',lX c e cap r s=.ok ws s'∧I l.length (vs++ws) s':=by
  intro r
  induction r with
  | nil =>
   intro k vs s hk e hI
   have:k=l.length:=i7 hk (jX.mp e)
   subst this
   exact ⟨[],s,rfl,by simpa using hI⟩
  | cons q r ih =>
   intro k vs s hk e' hI
   have hq:l[k]?=some q:=by
    have:=congrArg List.head? e'
    rw [List.head?_drop] at this
    simpa using this
   have e2:l.drop (k+1)=r:=by rw [← List.tail_drop,e'];rfl
   have hk':k+1≤l.length:=(aZ.mp hq).1
   rcases h k q vs s hq hI with ⟨s1,h1,h2⟩ | ⟨s1,v,s2,h1,h2,h3⟩
   ·obtain ⟨ws,s',h3,h4⟩:=ih (k+1) vs s1 hk' e2 h2
    exact ⟨ws,s',by rw [mF,h1];exact h3,h4⟩
   ·obtain ⟨ws,s',h4,h5⟩:=ih (k+1) (vs++[v]) s2 hk' e2 h3
    refine ⟨v::ws,s',by rw [mF,h1];simp [h2,h4],by simpa using h5⟩
 obtain ⟨ws,s',h1,h2⟩:=main l 0 [] s (bA _) rfl h0
 exact ⟨ws,s',h1,by simpa using h2⟩
theorem nA {c:XT}{e:XE}{cap:En}{s:Sto} (p:PV→Bool) (f:PV→PV):∀ (l:List PV),(∀ q∈l,c (some q::cap) s=.ok (p q) s)→(∀ q∈l,p q=true→e (some q::cap) s=.ok (f q) s)→lX c e cap l s=.ok ((l.filter p).map f) s
 | [],_,_=>rfl
 | q::l,h1,h2=>by
  rw [mF,h1 q ar]
  have ih:=nA p f l (fun x hx=>h1 x (ai _ hx)) (fun x hx=>h2 x (ai _ hx))
  cases hp:p q with
  | false=>simp [ih,hp]
  | true=>simp [ih,hp,h2 q ar hp]
theorem qQ {n:Int} (h0:0 < n) (h1:n < 2 ^ 64):Bt 9000 n:=by
 have:Bt 64 n:=by unfold Bt;omega
 exact this.mono (by decide)
theorem tY:(aF "abcdefghijklmnopqrstuvwxyz").length≤100000:=by decide
theorem Dd (c:Nat):(⟨#[c]⟩:Str).length=1:=rfl
theorem Fi (r:Int) (k:Nat) (m0:0≤(r+7 * (k:Int)) % 26) (m1:(r+7 * (k:Int)) % 26 < 26) {t:Str} (g2:∀ c∈t.cps.toList,97≤c∧c≤122) (hl:t.length≤7):Wd r k (⟨#[97+((r+7 * (k:Int)) % 26).toNat]⟩++t):=by
 have l1:(⟨#[97+((r+7 * (k:Int)) % 26).toNat]⟩:Str).length=1:=rfl
 have lw:(⟨#[97+((r+7 * (k:Int)) % 26).toNat]⟩++t:Str).length=1+t.length:=by rw [oU,l1]
 have cw:∀ c∈(⟨#[97+((r+7 * (k:Int)) % 26).toNat]⟩++t:Str).cps.toList,97≤c∧c≤122:=fun c hc=>by
  rw [qS] at hc
  rcases aM.mp hc with hc | hc
  ·have:c=97+((r+7 * (k:Int)) % 26).toNat:=by simpa using hc
   omega
  ·exact g2 c hc
 refine ⟨⟨by omega,fun c hc=>by have:=cw c hc;omega⟩,?_,?_⟩
 ·unfold tj
  rw [decide_eq_true (by omega),decide_eq_true (by omega),dL,dL]
  refine dw.mpr fun c hc=>?_
  have:=cw c hc
  unfold low
  rw [decide_eq_true this.1,decide_eq_true this.2]
  rfl
 ·rw [qS]
  simp
theorem Ap (a:Adr) (s:Sto) (p:Nat) (hp:p < s.nx) (hP:IsPurse s p) (fst:Int) (hf0:0≤fst) (k:Nat) (hk:k < 14) (x y:Int) (ws:List Str) (hw:ws.length=k) (u v w:Option PV) :
  ∃ x' y' nw u' v' w',Wd fst k nw∧kZ (yName 4) (l8 a) (.int (k:Int)) [some (.ref p),some (.str "abcdefghijklmnopqrstuvwxyz"),some (.int fst),some (.ref s.nx),u,v,w] ((pst s p x y).add (.lst (ws.map .str))) =
   .nx [some (.ref p),some (.str "abcdefghijklmnopqrstuvwxyz"),some (.int fst),some (.ref s.nx),u',v',w'] ((pst s p x' y').add (.lst ((ws++[nw]).map .str))):=by
 have q1:∀ x y,IsPurse ((pst s p x y).add (.lst (ws.map .str))) p:=fun x y=>(hP.pst x y).add _ (by rw [yr];exact hp)
 obtain ⟨r,xa,ya,r0,r1,e1⟩:=uI a _ p 8 (q1 x y) (by decide) (qQ (by decide) (by decide))
 rw [A6 _ _ _ _ _ _ _ hp] at e1
 obtain ⟨vs,t2,hc,ys,xb,yb,rfl,rfl,hyl,hy⟩:=Gw (c:=oR) (e:=x2 (xVar 1) (xCall 2 (kK a) (xCons (xVar 2) (xCons (xC (.int 26)) xNil))) fIx) (cap:=[some (.str "abcdefghijklmnopqrstuvwxyz"),some (.ref p)]) (rj 0 r.toNat)
  (fun i vs t=>∃ ys x y,vs=ys.map PV.str∧t=(pst s p x y).add (.lst (ws.map .str))∧ys.length=i∧∀ z∈ys,z.length≤1∧∀ c∈z.cps.toList,97≤c∧c≤122)
  (fun i q vs t hq hI=>by
   obtain ⟨ys,x,y,rfl,rfl,hl,hy⟩:=hI
   obtain ⟨b,x',y',b0,b1,e⟩:=uI a _ p 26 (q1 x y) (by decide) (qQ (by decide) (by decide))
   rw [A6 _ _ _ _ _ _ _ hp] at e
   refine .inr ⟨_,.str ⟨#[97+b.toNat]⟩,_,rfl,?_,ys++[⟨#[97+b.toNat]⟩],x',y',by simp,rfl,by simp [hl],fun z hz=>?_⟩
   ·simp [sem,k9,kF,k8,e,ES b0 b1,tY]
   ·rcases aM.mp hz with hz | hz
    ·exact hy z hz
    ·rw [ay.mp hz]
     exact ⟨aC _,fun c hc=>by simp at hc;omega⟩) (s:=(pst s p xa ya).add (.lst (ws.map .str))) ⟨[],xa,ya,rfl,rfl,rfl,fun z hz=>by cases hz⟩
 rw [sF] at hyl
 obtain ⟨g1,g2⟩:=Eh hy
 have m0:=dJ (fst+7 * (k:Int)) (show (26:Int)≠0 by decide)
 have m1:=cS (fst+7 * (k:Int)) (show (0:Int) < 26 by decide)
 have hmul:uV 7 (k:Int):=.inr (.inl ⟨by decide,by decide⟩)
 have hlen:(rj 0 r.toNat).length≤100000:=by rw [sF];omega
 have hsum:=Da fun z hz=>(hy z hz).1
 have hj:(ys.map (·.length)).sum+ys.length * (aF "").length≤16777216:=by
  have:(aF "").length=0:=rfl
  rw [this];omega
 have hcat:(⟨#[97+((fst+7 * (k:Int)) % 26).toNat]⟩:Str).length+(gv (aF "") ys).length≤100000:=by rw [Dd];omega
 have hws:ws.length < 100000:=by omega
 have hr1:(-4611686018427387904:Int)≤r:=by omega
 have hr2:r < (4611686018427387904:Int):=by omega
 refine ⟨xb,yb,⟨#[97+((fst+7 * (k:Int)) % 26).toNat]⟩++gv (aF "") ys,some (.int k),some (.int r),some (.str (gv (aF "") ys)),?_,?_⟩
 ·exact Fi fst k m0 m1 g2 (by omega)
 ·simp [sem,k9,kF,k8,kZ,l8,e1,md,lJ,hlen,hc,oa,hj,hmul,ES m0 m1,tY,hcat,og,yr,hw,hr1,hr2,show k < 100000 by omega,show ∀ c,((pst s p xb yb).add (.lst (ws.map .str))).set s.nx c=(pst s p xb yb).add c from fun c=>uO (pst s p xb yb) c _]
theorem Ea (a:Adr) (s:Sto) (p:Nat) (hp:p < s.nx) (hP:IsPurse s p):∃ (x y:Int) (ws:List Str) (fst:Int),ws.length=14∧0≤fst∧(∀ j w,ws[j]?=some w→Wd fst j w)∧mX a [.ref p] s=.ok (.lst (ws.map .str)) (Sto.bump (pst s p x y)):=by
 obtain ⟨fst,x0,y0,f0,f1,e0⟩:=uI a s p 26 hP (by decide) (qQ (by decide) (by decide))
 obtain ⟨ρ',s',hl,x,y,ws,u,v,w,rfl,rfl,hw,hWd⟩:=qK (body:=kZ (yName 4) (l8 a)) 14
  (fun k ρ t=>∃ (x y:Int) (ws:List Str) (u v w:Option PV),ρ=[some (.ref p),some (.str "abcdefghijklmnopqrstuvwxyz"),some (.int fst),some (.ref s.nx),u,v,w]∧t=(pst s p x y).add (.lst (ws.map .str))∧ws.length=k∧∀ j w,ws[j]?=some w→Wd fst j w)
  (fun k ρ t hk hI=>by
   obtain ⟨x,y,ws,u,v,w,rfl,rfl,hw,hWd⟩:=hI
   obtain ⟨x',y',nw,u',v',w',h1,h2⟩:=Ap a s p hp hP fst f0 k hk x y ws hw u v w
   refine ⟨_,_,h2,x',y',ws++[nw],u',v',w',rfl,rfl,by simp [hw],fun j z hz=>?_⟩
   by_cases hj:j < ws.length
   ·rw [fV hj] at hz;exact hWd j z hz
   ·have ej:j=k:=by
     have:=(aZ.mp hz).1
     simp at this
     omega
    subst ej
    rw [fR (by omega),hw,Nat.sub_self] at hz
    cases hz
    exact h1) (ρ:=[some (.ref p),some (.str "abcdefghijklmnopqrstuvwxyz"),some (.int fst),some (.ref s.nx),none,none,none]) (s:=(pst s p x0 y0).add (.lst (([]:List Str).map .str))) ⟨x0,y0,[],none,none,none,rfl,rfl,rfl,fun j w h=>by simp at h⟩
 refine ⟨x,y,ws,fst,hw,f0,hWd,?_⟩
 have e0':kK a [.ref p,.int 26] s=.ok (.int fst) (pst s p x0 y0):=e0
 have hl':lI (kZ (yName 4) (l8 a)) (rj 0 14) [some (.ref p),some (.str "abcdefghijklmnopqrstuvwxyz"),some (.int fst),some (.ref s.nx),none,none,none] ((pst s p x0 y0).add (.lst []))=_:=hl
 have hd:((pst s p x y).add (.lst (ws.map .str))).del s.nx=Sto.bump (pst s p x y):=Gg (pst s p x y) _
 simp [sem,k9,kF,k8,mX,su,e0',yr,hl',og,hd]
def stk (nx:Nat) (pre:List (Nat×Cell)) (s:Sto) (p:Nat) (x y:Int):Sto:=⟨nx,pre++(pst s p x y).cs⟩
theorem lc (k:Nat) (c:Cell) (r:List (Nat×Cell)) (n:Nat):lL ((k,c)::r) n=if k=n then some c else lL r n:=rfl
theorem qY (k:Nat) (d:Cell) (r:List (Nat×Cell)) (n:Nat) (c:Cell):mE n c ((k,d)::r)=if k=n then (n,c)::r else (k,d)::mE n c r:=rfl
theorem xm (k:Nat) (d:Cell) (r:List (Nat×Cell)) (n:Nat):tw n ((k,d)::r)=if k=n then r else (k,d)::tw n r:=rfl
theorem sK {pre l:List (Nat×Cell)}{n:Nat} (h:∀ q∈pre,q.1≠n):lL (pre++l) n=lL l n:=by
 induction pre with
 | nil=>rfl
 | cons q r ih =>
  obtain ⟨k,c⟩:=q
  show lL ((k,c)::(r++l)) n=_
  rw [lc,if_neg (h (k,c) ar)]
  exact ih fun x hx=>h x (ai _ hx)
theorem vB {pre l:List (Nat×Cell)}{n:Nat}{c:Cell} (h:∀ q∈pre,q.1≠n):mE n c (pre++l)=pre++mE n c l:=by
 induction pre with
 | nil=>rfl
 | cons q r ih =>
  obtain ⟨k,d⟩:=q
  show mE n c ((k,d)::(r++l))=_
  rw [qY,if_neg (h (k,d) ar),ih fun x hx=>h x (ai _ hx)]
  rfl
theorem zG {pre l:List (Nat×Cell)}{n:Nat} (h:∀ q∈pre,q.1≠n):tw n (pre++l)=pre++tw n l:=by
 induction pre with
 | nil=>rfl
 | cons q r ih =>
  obtain ⟨k,d⟩:=q
  show tw n ((k,d)::(r++l))=_
  rw [xm,if_neg (h (k,d) ar),ih fun x hx=>h x (ai _ hx)]
  rfl
theorem BG {nx:Nat}{pre:List (Nat×Cell)}{s:Sto}{p:Nat} (hP:IsPurse s p) (h:∀ q∈pre,q.1≠p) (x y:Int):IsPurse (stk nx pre s p x y) p:=by
 obtain ⟨x',y',e⟩:=hP.pst x y
 exact ⟨x',y',by show lL (pre++_) p=_;rw [sK h];exact e⟩
theorem Fs (nx:Nat) (pre:List (Nat×Cell)) (s:Sto) (p:Nat) (x y x' y':Int) (h:∀ q∈pre,q.1≠p):(stk nx pre s p x y).set p (.lst [.int x',.int y'])=stk nx pre s p x' y':=by
 unfold stk Sto.set
 simp only
 rw [vB h]
 have:=xX s p (.lst [.int x,.int y]) (.lst [.int x',.int y'])
 unfold pst
 congr 1
 rw [← this]
 rfl
theorem qE (a:Adr) {nx:Nat}{pre:List (Nat×Cell)}{s:Sto}{p:Nat} (hP:IsPurse s p) (h:∀ q∈pre,q.1≠p) (n:Int) (h0:0 < n) (h1:n < 2 ^ 64) (x y:Int):∃ r x' y',0≤r∧r < n∧kK a [.ref p,.int n] (stk nx pre s p x y)=.ok (.int r) (stk nx pre s p x' y'):=by
 obtain ⟨r,x',y',r0,r1,e⟩:=uI a _ p n (BG hP h x y) h0 (qQ h0 h1)
 rw [Fs _ _ _ _ _ _ _ _ h] at e
 exact ⟨r,x',y',r0,r1,e⟩
theorem at8 (l:List Int) (hl:l.length=8) {r:Int} (h0:0≤r) (h1:r < 8):∃ v∈l,atI (l.map PV.int) r=some (.int v):=by
 obtain ⟨j,rfl⟩:∃ j:Nat,r=j:=⟨r.toNat,by omega⟩
 have hj:j < l.length:=by omega
 exact ⟨l[j],cO hj,lp (by simp [hj])⟩
structure Part (q:Int×Int):Prop where
 low:Low q
 pos:0 < q.1
 le:q.1≤q.2
 bb:q.2≤1000000000
theorem Dy {t b:Int} (h0:0 < t) (h1:t≤b) (hb:b≤1000000000):Part (red (t,b)):=by
 have b0:0 < b:=by omega
 obtain ⟨lo,ev⟩:=p8 (q:=(t,b)) b0
 simp only at ev
 have dv:=A4 (q:=(t,b)) b0
 generalize red (t,b)=q at *
 have q0:=lo.1
 have p1:0 < q.1:=by
  by_cases z:0 < q.1
  ·exact z
  ·have a1:q.1 * b≤0:=eJ (by omega) (by omega)
   have a2:0 < t * q.2:=bG h0 q0
   omega
 refine ⟨lo,p1,?_,d9 (Int.le_of_dvd b0 dv) hb⟩
 refine d6 ?_ b0
 rw [ev]
 have:=aR h1 (br q0)
 rw [bC q.2 b]
 exact this
theorem DX (a:Adr) {nx:Nat}{pre:List (Nat×Cell)}{s:Sto}{p:Nat} (hP:IsPurse s p) (h:∀ q∈pre,q.1≠p) (x y:Int):∃ q x' y',Part q∧mM a [.ref p] (stk nx pre s p x y)=.ok (frP q) (stk nx pre s p x' y'):=by
 obtain ⟨r,xa,ya,r0,r1,e1⟩:=qE a (nx:=nx) hP h 8 (by decide) (by decide) x y
 obtain ⟨b,hb,eb⟩:=at8 [2,3,4,5,7,10,100,1000000000] rfl r0 r1
 have hb':0 < b∧b≤1000000000:=by
  simp at hb
  rcases hb with h | h | h | h | h | h | h | h <;> omega
 obtain ⟨t,xb,yb,t0,t1,e2⟩:=qE a (nx:=nx) hP h b hb'.1 (by omega) xa ya
 have e3:=tM a (stk nx pre s p xb yb) (1+t) b hb'.1 (qQ hb'.1 (by omega))
 refine ⟨red (1+t,b),xb,yb,Dy (by omega) (by omega) hb'.2,?_⟩
 simp only [aD,cy] at eb
 simp [sem,k9,kF,k8,mM,t7,e1,e2,e3,eb]
def hP (l:Hl):List (Key×PV):=l.map fun q=>(aE q.1,frP q.2)
def mI (n:Nat):List (Str×Hl)→List (Nat×Cell)
 | []=>[]
 | (_,l)::r=>(n+r.length,.dct (hP l))::mI n r
def nG (n:Nat):List (Str×Hl)→List (Key×PV)
 | []=>[]
 | (h,_)::r=>nG n r++[(aE h,.ref (n+r.length))]
def qM (M:List (Str×Hl)):List (Key×PV):=M.map fun m=>(aE m.1,.dct (hP m.2))
theorem tT {n:Nat}:∀ {R:List (Str×Hl)},∀ q∈mI n R,n≤q.1∧q.1 < n+R.length
 | [],q,h=>by cases h
 | (_,l)::r,q,h=>by
  rcases aj.mp h with rfl | h
  ·simp
  ·have:=tT q h
   simp;omega
theorem xj:∀ (A B:List (Key×PV)) (s:Sto),oY (A++B) s=match oY A s with
  | some (A',s1)=>match oY B s1 with
   | some (B',s2)=>some (A'++B',s2)
   | none=>none
  | none=>none
 | [],B,s=>by
  simp only [cW,oY]
  cases oY B s with
  | none=>rfl
  | some q=>rfl
 | (k,v)::A,B,s=>by
  simp only [cC,oY]
  cases h:frz1 v s with
  | ok w s1 =>
   simp only
   rw [xj A B s1]
   cases oY A s1 with
   | none=>rfl
   | some q =>
    obtain ⟨A',s2⟩:=q
    simp only
    cases oY B s2 with
    | none=>rfl
    | some q=>rfl
  | ex=>rfl
  | bad=>rfl
theorem zv (n nx:Nat):∀ (R:List (Str×Hl)) (pre tail:List (Nat×Cell)),(∀ q∈pre,n+R.length≤q.1)→oY (nG n R) ⟨nx,pre++(mI n R++tail)⟩=some (qM R.reverse,⟨nx,pre++tail⟩)
 | [],pre,tail,_=>rfl
 | (h,l)::r,pre,tail,hp=>by
  have ih:=zv n nx r (pre++[(n+r.length,.dct (hP l))]) tail (fun q hq=>by
   rcases aM.mp hq with hq | hq
   ·have:=hp q hq;simp at this;omega
   ·rw [ay.mp hq];exact aC _)
  have e1:pre++(mI n ((h,l)::r)++tail)=pre++[(n+r.length,Cell.dct (hP l))]++(mI n r++tail):=by simp [mI]
  rw [e1]
  show oY (nG n r++_) _=_
  rw [xj,ih]
  have hne:∀ q∈pre,q.1≠n+r.length:=fun q hq=>by have:=hp q hq;simp at this;omega
  have hg:(⟨nx,pre++[(n+r.length,Cell.dct (hP l))]++tail⟩:Sto).get (n+r.length)=some (.dct (hP l)):=by
   show lL (pre++[_]++tail) _=_
   rw [bZ,sK hne]
   simp [lL]
  have hd:(⟨nx,pre++[(n+r.length,Cell.dct (hP l))]++tail⟩:Sto).del (n+r.length)=⟨nx,pre++tail⟩:=by
   unfold Sto.del
   simp only
   rw [bZ,zG hne]
   simp [tw]
  simp only [oY,frz1,hg,hd]
  simp [qM]
def wu (n:Nat) (R:List (Str×Hl)) (pp:List Str) (L:List Ent):List (Nat×Cell):=mI (n+3) R++[(n+2,.dct (nG (n+3) R)),(n+1,.book pp L)]
def bst (s:Sto) (p:Nat) (R:List (Str×Hl)) (pp:List Str) (L:List Ent) (x y:Int):Sto:=stk (s.nx+3+R.length) (wu s.nx R pp L) s p x y
theorem Bu {n p:Nat} (hp:p < n) (R:List (Str×Hl)) (pp:List Str) (L:List Ent):∀ q∈wu n R pp L,q.1≠p:=fun q hq=>by
 unfold wu at hq
 rcases aM.mp hq with hq | hq
 ·have:=tT q hq;omega
 ·simp at hq
  rcases hq with rfl | rfl <;> (simp;omega)
theorem qP {n k:Nat} (R:List (Str×Hl)) (h:k < n):∀ q∈mI n R,q.1≠k:=fun q hq=>by have:=tT q hq;omega
theorem pE (s:Sto) (p:Nat) (R:List (Str×Hl)) (pp:List Str) (L:List Ent) (x y:Int):(bst s p R pp L x y).get (s.nx+1)=some (.book pp L):=by
 show lL (wu s.nx R pp L++_) (s.nx+1)=_
 unfold wu
 rw [bZ,sK (qP R (by omega))]
 simp [lL]
theorem vH (s:Sto) (p:Nat) (R:List (Str×Hl)) (pp:List Str) (L:List Ent) (x y:Int):(bst s p R pp L x y).get (s.nx+2)=some (.dct (nG (s.nx+3) R)):=by
 show lL (wu s.nx R pp L++_) (s.nx+2)=_
 unfold wu
 rw [bZ,sK (qP R (by omega))]
 simp [lL]
theorem vG (s:Sto) (p:Nat) (R:List (Str×Hl)) (pp pp':List Str) (L L':List Ent) (x y:Int):(bst s p R pp L x y).set (s.nx+1) (.book pp' L')=bst s p R pp' L' x y:=by
 unfold bst stk Sto.set wu
 simp only
 rw [bZ,vB (qP R (by omega))]
 simp [mE]
theorem wN (n:Nat) (h:Str) (l:Hl) (pr:List (Str×Hl)) (tl:List (Nat×Cell)):∀ post:List (Str×Hl),lL (mI n (post++(h,l)::pr)++tl) (n+pr.length)=some (.dct (hP l))
 | []=>by
  show lL ((n+pr.length,Cell.dct (hP l))::_) _=_
  rw [lc,if_pos rfl]
 | (g,m)::post=>by
  show lL ((n+(post++(h,l)::pr).length,Cell.dct (hP m))::(mI n (post++(h,l)::pr)++tl)) _=_
  rw [lc,if_neg (by simp;omega)]
  exact wN n h l pr tl post
theorem wM (n:Nat) (h:Str) (l l':Hl) (pr:List (Str×Hl)) (tl:List (Nat×Cell)):∀ post:List (Str×Hl),mE (n+pr.length) (.dct (hP l')) (mI n (post++(h,l)::pr)++tl)=mI n (post++(h,l')::pr)++tl
 | []=>by
  show mE _ _ ((n+pr.length,Cell.dct (hP l))::_)=_
  rw [qY,if_pos rfl]
  rfl
 | (g,m)::post=>by
  show mE _ _ ((n+(post++(h,l)::pr).length,Cell.dct (hP m))::(mI n (post++(h,l)::pr)++tl))=(n+(post++(h,l')::pr).length,Cell.dct (hP m))::(mI n (post++(h,l')::pr)++tl)
  rw [qY,if_neg (by simp;omega),wM n h l l' pr tl post]
  simp
theorem xl (n:Nat) (h:Str) (l l':Hl) (pr:List (Str×Hl)):∀ post:List (Str×Hl),nG n (post++(h,l)::pr)=nG n (post++(h,l')::pr)
 | []=>rfl
 | (g,m)::post=>by
  show nG n (post++(h,l)::pr)++_=nG n (post++(h,l')::pr)++_
  rw [xl n h l l' pr post]
  simp
theorem pV (n:Nat):∀ R:List (Str×Hl),(nG n R).map (·.1)=R.reverse.map fun m=>aE m.1
 | []=>rfl
 | (h,l)::r=>by simp [nG,pV n r]
theorem qR (s:Sto) (p:Nat) (h:Str) (l:Hl) (post pr:List (Str×Hl)) (pp:List Str) (L:List Ent) (x y:Int):(bst s p (post++(h,l)::pr) pp L x y).get (s.nx+3+pr.length)=some (.dct (hP l)):=by
 show lL (wu s.nx _ pp L++_) _=_
 unfold wu
 rw [bZ]
 exact wN (s.nx+3) h l pr _ post
theorem Ew (s:Sto) (p:Nat) (h:Str) (l l':Hl) (post pr:List (Str×Hl)) (pp:List Str) (L:List Ent) (x y:Int):(bst s p (post++(h,l)::pr) pp L x y).set (s.nx+3+pr.length) (.dct (hP l'))=bst s p (post++(h,l')::pr) pp L x y:=by
 unfold bst stk Sto.set wu
 simp only
 rw [bZ,wM (s.nx+3) h l l' pr _ post,xl (s.nx+3) h l l' pr post]
 simp
theorem BD {l:List (Key×PV)}{k:Key} (h:k∉l.map (·.1)):oz l k=none:=by
 unfold oz
 rw [gs,cm]
 intro q hq z
 exact h (am.mpr ⟨q,hq,of_decide_eq_true z⟩)
theorem DC {l:List (Key×PV)}{k:Key} (v:PV) (h:k∉l.map (·.1)):CZ l k v=l++[(k,v)]:=by
 unfold CZ
 rw [if_neg]
 intro z
 obtain ⟨q,hq,e⟩:=cP.mp z
 exact h (am.mpr ⟨q,hq,of_decide_eq_true e⟩)
theorem C6 {l k:List (Key×PV)}{q:Key} (h:q∉l.map (·.1)):oz (l++k) q=oz k q:=by
 unfold oz
 rw [gb]
 have:l.find? (fun kv=>decide (kv.1=q))=none:=by
  rw [cm]
  intro z hz e
  exact h (am.mpr ⟨z,hz,of_decide_eq_true e⟩)
 rw [this];rfl
theorem zD (n:Nat) (h:Str) (l:Hl) (pr:List (Str×Hl)) (hn:h∉pr.map (·.1)):∀ post:List (Str×Hl),oz (nG n (post++(h,l)::pr)) (aE h)=some (.ref (n+pr.length))
 | []=>by
  show oz (nG n pr++_) _=_
  rw [C6]
  ·simp [oz]
  ·rw [pV]
   intro z
   obtain ⟨m,hm,e⟩:=am.mp z
   cases e
   exact hn (am.mpr ⟨m,by simpa using hm,rfl⟩)
 | (g,m)::post=>by
  show oz (nG n (post++(h,l)::pr)++_) _=_
  have ih:=zD n h l pr hn post
  unfold oz at ih ⊢
  rw [gb]
  cases hf:(nG n (post++(h,l)::pr)).find? (fun kv=>decide (kv.1=aE h)) with
  | none=>rw [hf] at ih;cases ih
  | some q=>rw [hf] at ih;exact ih
theorem AQ (l:Hl) (n:Str) (h:n∈l.map (·.1)):oz (hP l) (aE n)=some (frP (kM l n)):=by
 unfold oz hP kM lN
 rw [fS,Option.map_map]
 have e:((fun kv:Key×PV=>decide (kv.1=aE n)) ∘ fun q:Str×Int×Int=>((aE q.1:Key),frP q.2))=fun q=>decide (q.1=n):=by
  funext q
  show decide ((aE q.1:Key)=aE n)=_
  rw [wm]
 rw [e]
 cases hf:l.find? (fun q=>decide (q.1=n)) with
 | none =>
  exfalso
  rw [cm] at hf
  obtain ⟨q,hq,e⟩:=am.mp h
  exact hf q hq (decide_eq_true e)
 | some q=>rfl
theorem Ga (l:Hl):(hP l).map (·.1)=l.map fun q=>aE q.1:=by unfold hP;rw [a7];rfl
theorem Il (l:Hl) (n:Str):(oz (hP l) (aE n)).getD (.tup [.int 0,.int 1])=frP (kM l n):=by
 by_cases h:n∈l.map (·.1)
 ·rw [AQ l n h];rfl
 ·rw [BD,yg h]
  ·rfl
  ·rw [Ga]
   intro z
   obtain ⟨q,hq,e⟩:=am.mp z
   cases e
   exact h (am.mpr ⟨q,hq,rfl⟩)
theorem Ik (l:Hl) (n:Str) (q:Int×Int):CZ (hP l) (aE n) (frP q)=hP (mW l n q):=by
 unfold CZ mW hP
 rw [gE]
 have e:((fun kv:Key×PV=>decide (kv.1=aE n)) ∘ fun q:Str×Int×Int=>((aE q.1:Key),frP q.2))=fun q=>decide (q.1=n):=by
  funext q
  show decide ((aE q.1:Key)=aE n)=_
  rw [wm]
 rw [e]
 split
 ·rw [a7,a7]
  refine bQ fun z _=>?_
  show (if (aE z.1:Key)=aE n then ((aE z.1:Key),frP q) else (aE z.1,frP z.2))=_
  by_cases hz:z.1=n
  ·simp [hz]
  ·simp [hz]
 ·simp
theorem Ae (a:Adr) (s:Sto) (p:Nat) (R:List (Str×Hl)) (pp:List Str) (L:List Ent) (x y:Int) (w:Str) (hn:Nm w) (hd:rA a pp L w=none):qV a [.ref (s.nx+1),.str w] (bst s p R pp L x y)=.ok .non (bst s p R (pp++[w]) L x y):=by
 simp [qV,k7,pE,hn,hd,vG]
theorem Ct (a:Adr) (s:Sto) (p:Nat) (R:List (Str×Hl)) (pp:List Str) (L:List Ent) (x y:Int) (w o:Str) (t m l:Int) (hn:Nm w∧Nm o) (hd:rE a pp L w o l=none) :
  tE a [.ref (s.nx+1),.str w,.str o,.int t,.int m,.int l] (bst s p R pp L x y)=.ok .non (bst s p R pp (L++[⟨w,t,m,l,[(o,1,1)]⟩]) x y):=by
 simp [tE,k7,pE,hn,hd,vG]
theorem FE (s:Sto) (p:Nat) (R:List (Str×Hl)) (pp:List Str) (L:List Ent) (x y:Int) (w o:Str) (hw:w∉R.map (·.1)) (hR:R.length≤8) :
  k8 (.ref (s.nx+2)) (.str w) (.ref (s.nx+3+R.length)) ((bst s p R pp L x y).add (.dct [(aE o,.tup [.int 1,.int 1])]))=some (bst s p ((w,[(o,1,1)])::R) pp L x y):=by
 have hnx:(bst s p R pp L x y).nx=s.nx+3+R.length:=rfl
 have hg:((bst s p R pp L x y).add (.dct [(aE o,.tup [.int 1,.int 1])])).get (s.nx+2)=some (.dct (nG (s.nx+3) R)):=by
  rw [og,if_neg (by rw [hnx];omega),vH]
 have hk:(aE w:Key)∉(nG (s.nx+3) R).map (·.1):=by
  rw [pV]
  intro z
  obtain ⟨m,hm,e⟩:=am.mp z
  cases e
  exact hw (am.mpr ⟨m,by simpa using hm,rfl⟩)
 have hl:(nG (s.nx+3) R).length < 100000:=by
  have:=congrArg dF (pV (s.nx+3) R)
  simp at this
  omega
 simp only [k8,hg,kyOf,hl,if_true,DC _ hk]
 congr 1
 rw [uN _ _ _ (by rw [hnx];omega)]
 unfold bst stk Sto.set Sto.add wu
 simp only
 rw [bZ,vB (qP R (by omega))]
 simp [mE,mI,nG,hP,frP]
 omega
structure Words (pp hs:List Str):Prop where
 nd:(pp++hs).Nodup
 sm:∀ w∈pp++hs,Sm w
 nm:∀ w∈pp++hs,tj w=true
 p1:1≤pp.length
 p6:pp.length≤6
 h8:hs.length≤8
theorem ou (pp:List Str) (w:Str):mq pp w=true ↔ w∈pp:=by
 unfold mq
 rw [List.find?_isSome]
 constructor
 ·rintro ⟨x,hx,e⟩
  have:=of_decide_eq_true e
  subst this
  exact hx
 ·intro h
  exact ⟨w,h,decide_eq_true rfl⟩
theorem lM (L:List Ent) (w:Str):me L w=true ↔ w∈L.map (·.nm):=by
 unfold me m6
 rw [List.find?_isSome]
 constructor
 ·rintro ⟨x,hx,e⟩
  exact am.mpr ⟨x,hx,of_decide_eq_true e⟩
 ·intro h
  obtain ⟨x,hx,e⟩:=am.mp h
  exact ⟨x,hx,decide_eq_true e⟩
theorem wV (a:Adr) {pp:List Str}{L:List Ent}{w:Str} (h1:tj w=true) (h2:w∉pp) (h3:w∉L.map (·.nm)):oT a pp L w=none:=by
 unfold oT
 have e1:mq pp w=false:=by rw [bU];exact fun z=>h2 ((ou _ _).mp z)
 have e2:me L w=false:=by rw [bU];exact fun z=>h3 ((lM _ _).mp z)
 rw [if_neg (by rw [h1];decide),e1,e2]
 rfl
theorem vI {ws:List Str}{r:Int} (h0:0≤r) (h1:r < ws.length):∃ w∈ws,atI (ws.map PV.str) r=some (.str w):=by
 obtain ⟨j,rfl⟩:∃ j:Nat,r=j:=⟨r.toNat,by omega⟩
 have hj:j < ws.length:=by omega
 exact ⟨ws[j],cO hj,lp (by simp [hj])⟩
def fr0 (p n:Nat) (wd:Option PV) (pp hs:List Str):En:=[some (.ref p),wd,some (.ref (n+1)),some (.lst (pp.map .str)),some (.lst (hs.map .str)),some (.ref (n+2))]
theorem xL (a:Adr) (s:Sto) (p:Nat) (x y:Int) {pp hs:List Str} (W:Words pp hs) (wd o6 o7 o8 o9 o10 o11 o12 o13 o14:Option PV) :
  ∃ o,lI (kZ (yName 6) (mV a)) (pp.map .str) (fr0 p s.nx wd pp hs++[o6,o7,o8,o9,o10,o11,o12,o13,o14]) (bst s p [] [] [] x y)=.nx (fr0 p s.nx wd pp hs++[o,o7,o8,o9,o10,o11,o12,o13,o14]) (bst s p [] pp [] x y):=by
 obtain ⟨e',s',h1,rfl,o,rfl⟩:=uY (body:=kZ (yName 6) (mV a)) (pp.map .str) (fun k ρ t=>t=bst s p [] (pp.take k) [] x y∧∃ o,ρ=fr0 p s.nx wd pp hs++[o,o7,o8,o9,o10,o11,o12,o13,o14])
  (fun k q ρ t hq hI=>by
   obtain ⟨rfl,o,rfl⟩:=hI
   rw [bv] at hq
   cases hw:pp[k]? with
   | none=>rw [hw] at hq;cases hq
   | some w =>
    rw [hw] at hq
    cases hq
    have hk:k < pp.length:=(aZ.mp hw).1
    have hmem:w∈pp:=cF hw
    have e1:pp.take (k+1)=pp.take k++[w]:=by rw [dO,hw];rfl
    have nd:pp.Nodup:=(bT.mp W.nd).1
    have hnot:w∉pp.take k:=fun z=>by
     have:(pp.take (k+1)).Nodup:=nd.sublist (eV _ _)
     rw [e1] at this
     exact (bT.mp this).2.2 w z w ar rfl
    have hd:rA a (pp.take k) [] w=none:=by
     unfold rA
     rw [wV a (W.nm w (cn _ hmem)) hnot (by simp)]
     simp only
     rw [if_neg]
     rw [ci]
     have:=W.p6
     omega
    have hdo:=Ae a s p [] (pp.take k) [] x y w (W.sm w (cn _ hmem)).nm hd
    refine ⟨_,_,?_,rfl,some (.str w),rfl⟩
    simp [sem,k9,kF,k8,kZ,mV,fr0,pE,hdo,e1]) (ρ:=fr0 p s.nx wd pp hs++[o6,o7,o8,o9,o10,o11,o12,o13,o14]) (s:=bst s p [] [] [] x y) ⟨rfl,o6,rfl⟩
 rw [aq,fj] at h1
 exact ⟨o,h1⟩
inductive Pairs (N:List Str) (c:Nat):List Ent→List (Str×Hl)→Prop
 | nil:Pairs N c [] []
 | cons {e:Ent}{m:Str×Hl}{L:List Ent}{M:List (Str×Hl)}:e.nm=m.1→HR c e.held m.2→(∀ n∈m.2.map (·.1),n∈N)→0≤e.ls→Pairs N c L M→Pairs N c (e::L) (m::M)
theorem Pairs.names {N:List Str}{c:Nat}{L:List Ent}{M:List (Str×Hl)} (h:Pairs N c L M):L.map (·.nm)=M.map (·.1):=by
 induction h with
 | nil=>rfl
 | cons h1 _ _ _ _ ih=>rw [aD,aD,h1,ih]
theorem Pairs.app {N:List Str}{c:Nat}{L L':List Ent}{M M':List (Str×Hl)} (h:Pairs N c L M) (h':Pairs N c L' M'):Pairs N c (L++L') (M++M'):=by
 induction h with
 | nil=>exact h'
 | cons h1 h2 h3 h4 _ ih=>exact .cons h1 h2 h3 h4 ih
theorem Pairs.mono {N:List Str}{c d:Nat} (hc:c≤d) {L:List Ent}{M:List (Str×Hl)} (h:Pairs N c L M):Pairs N d L M:=by
 induction h with
 | nil=>exact .nil
 | cons h1 h2 h3 h4 _ ih=>exact .cons h1 (h2.mono hc) h3 h4 ih
structure Half (pp hs:List Str) (k:Nat) (R:List (Str×Hl)) (L:List Ent):Prop where
 ln:L.map (·.nm)=hs.take k
 pr:Pairs (pp++hs) 0 L R.reverse
theorem Half.rn {pp hs:List Str}{k:Nat}{R:List (Str×Hl)}{L:List Ent} (h:Half pp hs k R L):R.reverse.map (·.1)=hs.take k:=by rw [← h.pr.names,h.ln]
theorem zH (ws:List PV) (k:Nat) (hk:k≤ws.length):wo ws none (some (k:Int))=ws.take k:=by
 unfold wo
 simp [HT.sIx]
 have:min k ws.length=k:=by omega
 split
 ·omega
 ·omega
theorem ot (a:Adr) (s:Sto) (p:Nat) (hp:p < s.nx) (hP:IsPurse s p) (R:List (Str×Hl)) (pp:List Str) (L:List Ent) (n:Int) (h0:0 < n) (h1:n < 2 ^ 64) (x y:Int):∃ r x' y',0≤r∧r < n∧kK a [.ref p,.int n] (bst s p R pp L x y)=.ok (.int r) (bst s p R pp L x' y'):=qE a hP (Bu hp R pp L) n h0 h1 x y
theorem DY (a:Adr) (s:Sto) (p:Nat) (hp:p < s.nx) (hP:IsPurse s p) (R:List (Str×Hl)) (pp:List Str) (L:List Ent) (x y:Int):∃ q x' y',Part q∧mM a [.ref p] (bst s p R pp L x y)=.ok (frP q) (bst s p R pp L x' y'):=DX a hP (Bu hp R pp L) x y
theorem yS (a:Adr) (s:Sto) (p:Nat) (hp:p < s.nx) (hP:IsPurse s p) (x y:Int) {pp hs:List Str} (W:Words pp hs) (wd o6 o7 o8 o9 o10 o11 o12 o13 o14:Option PV) :
  ∃ x' y' R L o o',Half pp hs hs.length R L∧lI (kZ (yName 7) (mU a)) (rj 0 hs.length) (fr0 p s.nx wd pp hs++[o6,o7,o8,o9,o10,o11,o12,o13,o14]) (bst s p [] pp [] x y)=.nx (fr0 p s.nx wd pp hs++[o6,o,o',o9,o10,o11,o12,o13,o14]) (bst s p R pp L x' y'):=by
 obtain ⟨e',s',h1,x',y',R,L,o,o',rfl,rfl,hH⟩:=qK (body:=kZ (yName 7) (mU a)) hs.length (fun k ρ t=>∃ x y R L o o',t=bst s p R pp L x y∧ρ=fr0 p s.nx wd pp hs++[o6,o,o',o9,o10,o11,o12,o13,o14]∧Half pp hs k R L)
  (fun k ρ t hk hI=>by
   obtain ⟨x,y,R,L,o,o',rfl,rfl,hH⟩:=hI
   have hlen:R.length=k:=by
    have:=congrArg dF hH.rn
    simp at this
    omega
   have hLl:L.length=k:=by
    have:=congrArg dF hH.ln
    simp at this
    omega
   obtain ⟨r,xa,ya,r0,r1,e1⟩:=ot a s p hp hP R pp L ((pp.length:Int)+(k:Int)) (by have:=W.p1;omega) (by have:=W.p6;have:=W.h8;omega) x y
   obtain ⟨ow,how,eow⟩:=vI (ws:=pp++hs.take k) r0 (by rw [aT,ci];omega)
   obtain ⟨t1,xb,yb,t10,t11,e2⟩:=ot a s p hp hP R pp L 100 (by decide) (by decide) xa ya
   obtain ⟨t2,xc,yc,t20,t21,e3⟩:=ot a s p hp hP R pp L 60 (by decide) (by decide) xb yb
   obtain ⟨t3,xd,yd,t30,t31,e4⟩:=ot a s p hp hP R pp L 40 (by decide) (by decide) xc yc
   have hw:hs[k]?=some hs[k]:=bB hk
   have eh:atI (hs.map PV.str) (k:Int)=some (.str hs[k]):=lp (by simp [hk])
   have hmem:hs[k]∈hs:=cO hk
   have hin:hs[k]∈pp++hs:=aL _ hmem
   have ndh:hs.Nodup:=(bT.mp W.nd).2.1
   have e5:hs.take (k+1)=hs.take k++[hs[k]]:=by rw [dO,hw];rfl
   have hnot:hs[k]∉hs.take k:=fun z=>by
    have:(hs.take (k+1)).Nodup:=ndh.sublist (eV _ _)
    rw [e5] at this
    exact (bT.mp this).2.2 _ z _ ar rfl
   have hnp:hs[k]∉pp:=fun z=>(bT.mp W.nd).2.2 _ z _ hmem rfl
   have how':ow∈pp++hs:=by
    rcases aM.mp how with h | h
    ·exact cn _ h
    ·exact aL _ (List.mem_of_mem_take h)
   have hd:rE a pp L hs[k] ow t3=none:=by
    unfold rE
    rw [wV a (W.nm _ hin) hnp (by rw [hH.ln];exact hnot)]
    simp only
    have hh:(mq pp ow || me L ow)=true:=by
     rw [cX,ou,lM,hH.ln]
     exact aM.mp how
    rw [if_neg (by rw [hh];decide),if_neg (by omega),if_neg]
    have:=W.h8
    omega
   have hdo:=Ct a s p R pp L xd yd hs[k] ow (t1 - 30) (t2 - 10) t3 ⟨(W.sm _ hin).nm,(W.sm _ how').nm⟩ hd
   have hput:=FE s p R pp (L++[⟨hs[k],t1 - 30,t2 - 10,t3,[(ow,1,1)]⟩]) xd yd hs[k] ow (by
    intro z
    obtain ⟨m,hm,e⟩:=am.mp z
    refine hnot ?_
    rw [← hH.rn,← e]
    exact am.mpr ⟨m,by simpa using hm,rfl⟩) (by have:=W.h8;omega)
   have ecut:wo (hs.map PV.str) none (some (k:Int))=(hs.take k).map PV.str:=by
    rw [zH _ _ (by simp;omega),gf]
   have eow':atI (pp.map PV.str++List.take k (hs.map PV.str)) r=some (.str ow):=by
    rw [← gf,← aW]
    exact eow
   have hnx:∀ L x y,(bst s p R pp L x y).nx=s.nx+3+R.length:=fun _ _ _=>rfl
   have ecat:pp.map PV.str++(hs.take k).map PV.str=(pp++hs.take k).map PV.str:=by simp
   have hsz:pp.length+min k hs.length≤100000:=by have:=W.p6;have:=W.h8;omega
   refine ⟨_,_,?_,xd,yd,(hs[k],[(ow,1,1)])::R,L++[⟨hs[k],t1 - 30,t2 - 10,t3,[(ow,1,1)]⟩],some (.int k),some (.str ow),rfl,rfl,?_⟩
   ·simp [sem,k9,kF,kZ,mU,fr0,pE,e1,e2,e3,e4,eow',eh,hdo,hput,ecut,hsz,hnx]
   ·refine ⟨?_,?_⟩
    ·rw [aW,hH.ln,e5]
     rfl
    ·rw [eW]
     exact hH.pr.app (.cons rfl (Ij 0 (W.sm _ how')) (fun n hn=>by cases ay.mp hn;exact how') t30 .nil)) (ρ:=fr0 p s.nx wd pp hs++[o6,o7,o8,o9,o10,o11,o12,o13,o14]) (s:=bst s p [] pp [] x y) ⟨x,y,[],[],o7,o8,rfl,rfl,⟨by simp,.nil⟩⟩
 exact ⟨x',y',R,L,o,o',hH,h1⟩
def vb (l:Hl):List Str:=(l.map (·.1)).filter fun n=>decide (0 < (kM l n).1)
theorem havN_srt {l:Hl}{n:Str}:n∈srt (vb l) ↔ n∈l.map (·.1)∧0 < (kM l n).1:=by
 rw [(kX _).mem_iff]
 unfold vb
 rw [ck,decide_eq_true_iff]
theorem BN {n:Nat}{c:Cell}:∀ (l:List (Nat×Cell)),lL l n=some c→mE n c l=l:=by
 intro l
 induction l with
 | nil=>intro h;cases h
 | cons q r ih =>
  obtain ⟨k,d⟩:=q
  intro h
  rw [lc] at h
  rw [qY]
  by_cases e:k=n
  ·rw [if_pos e] at h ⊢
   cases h
   rw [e]
  ·rw [if_neg e] at h ⊢
   rw [ih h]
theorem Di {t:Sto}{n:Nat}{c:Cell} (h:t.get n=some c):t.set n c=t:=by
 unfold Sto.set
 rw [BN _ h]
theorem Cv {ρ:En}{t:Sto}{n:Nat}{l:Hl} (hρ:ρ[10]?=some (some (.ref n))) (hg:t.get n=some (.dct (hP l))) (hl:l.length≤100000) :
  vK 10 [10] (xTr (x2 (x2 (x2 (xVar 1) (xVar 0) fIx) (xC (.int 0)) fIx) (xC (.int 0)) fGt)) (xVar 0) ρ t=.ok (.lst ((vb l).map .str)) t:=by
 have hg1:(t.set n (.dfz (hP l))).get n=some (.dfz (hP l)):=xY hg
 have hlen:(hP l).length≤100000:=by unfold hP;simpa using hl
 have ek:((hP l).map fun kv=>Bd kv.1)=(l.map (·.1)).map PV.str:=by unfold hP;simp [Bd]
 have hc:lX (xTr (x2 (x2 (x2 (xVar 1) (xVar 0) fIx) (xC (.int 0)) fIx) (xC (.int 0)) fGt)) (xVar 0) (lJ [10] ρ) ((l.map (·.1)).map PV.str) (t.set n (.dfz (hP l)))=.ok (((((l.map (·.1)).map PV.str).filter fun q=>match q with
   | .str w=>decide (0 < (kM l w).1)
   | _=>false)).map id) (t.set n (.dfz (hP l))):=by
  refine nA _ _ _ (fun q hq=>?_) (fun q hq _=>?_)
  ·obtain ⟨w,hw,rfl⟩:=am.mp hq
   have hv:=AQ l w hw
   simp [sem,k9,kF,k8,lJ,hρ,hg1,hv,frP,at0,fGt]
  ·simp [xVar]
 unfold vK
 rw [hρ]
 simp only
 rw [hg]
 simp only
 rw [if_pos hlen,ek,hc]
 simp only [Out.bind,thw,hg1,xX,Di hg]
 congr 2
 unfold vb
 rw [fZ,dI]
 rfl
def shr (g q:Int×Int):Int×Int:=red (g.1 * q.1,g.2 * q.2)
theorem Hk {c:Nat} (hc:c≤11) {g q:Int×Int} (hg:FrC c g) (g0:0 < g.1) (hq:Part q) (hb:(shr g q).2 < 10 ^ 28):ShOk (shr g q)∧0 < (shr g q).1∧(shr g q).1 * g.2≤g.1 * (shr g q).2:=by
 have q2:0 < q.2:=hq.low.1
 have g2:0 < g.2:=hg.low.1
 obtain ⟨lo,ev⟩:=p8 (q:=(g.1 * q.1,g.2 * q.2)) (bG g2 q2)
 simp only at ev
 change Low (shr g q) at lo
 change (shr g q).1 * (g.2 * q.2)=g.1 * q.1 * (shr g q).2 at ev
 generalize shr g q=r at *
 have r2:0 < r.2:=lo.1
 have p1:0 < g.1 * q.1 * r.2:=bG (bG g0 hq.pos) r2
 have r1:0 < r.1:=by
  rcases Int.lt_trichotomy 0 r.1 with h | h | h
  ·exact h
  ·rw [← h,Int.zero_mul] at ev;omega
  ·have:=jo h (bG g2 q2);omega
 have le1:r.1 * g.2≤g.1 * r.2:=by
  refine d6 (a:=q.2) ?_ q2
  have e1:r.1 * g.2 * q.2=g.1 * r.2 * q.1:=by
   rw [bc,ev,bc,bc,bC q.1]
  rw [e1]
  exact Int.mul_le_mul_of_nonneg_left hq.le (br (bG g0 r2))
 have bb:Bt 94 r.2:=by unfold Bt;omega
 refine ⟨⟨lo,?_,bb⟩,r1,le1⟩
 have hv:=Bb hg lo le1
 have hp:((2 ^ c:Nat):Int)≤2048:=by
  have:2 ^ c≤2 ^ 11:=cH (by decide) hc
  omega
 have:r.1≤2048 * r.2:=d9 hv (aR hp (br r2))
 unfold Bt
 omega
theorem Hc {c:Nat} (hc:c≤11) {g q:Int×Int} (hg:FrC c g) (hq:Part q):Two' g q:=by
 have q2:=hq.low.1
 have h1:=hq.bb
 have h2:=hq.le
 have h3:=hq.pos
 refine ⟨hg.low.1,q2,⟨hg.bb.mono (by omega),?_⟩,hg.top.mono (by omega),?_⟩
 ·have:Bt 30 q.2:=by unfold Bt;omega
  exact this.mono (by decide)
 ·have:Bt 30 q.1:=by unfold Bt;omega
  exact this.mono (by decide)
theorem FrB.top {c k:Nat} (hc:c≤11) (hk:k≤3000) {g:Int×Int} (hg:FrB k (2 ^ c:Nat) g):Bt 4000 g.1:=by
 have hp:((2 ^ c:Nat):Int)≤2048:=by
  have:2 ^ c≤2 ^ 11:=cH (by decide) hc
  omega
 have h2:=hg.low.1
 have:g.1≤2048 * g.2:=d9 hg.le (aR hp (br h2))
 have b:Bt (12+k) (2048 * g.2):=Bt.mul (by unfold Bt;decide:Bt 12 2048) hg.bb
 have b2:Bt 4000 (2048 * g.2):=b.mono (by omega)
 have h0:=hg.nn
 unfold Bt at b2 ⊢
 omega
theorem Ez {c k:Nat} (hc:c≤11) (hk:k≤3000) {g q:Int×Int} (hg:FrB k (2 ^ c:Nat) g) (hq:ShOk q):Two' g q :=
 ⟨hg.low.1,hq.low.1,⟨hg.bb.mono (by omega),hq.bb.mono (by omega)⟩,(hg.top hc hk).mono (by omega),hq.bt.mono (by omega)⟩
theorem Fl {g q:Int×Int} (h:Two' g q):Two' g (-q.1,q.2):=⟨h.p0,h.q0,h.b,h.t.1,h.t.2.neg⟩
theorem zA {A B:List Ent}{e:Ent} (hn:e.nm∉A.map (·.nm)):m6 (A++e::B) e.nm=some e:=by
 unfold m6
 rw [gb,cm.mpr]
 ·simp
 ·intro x hx z
  exact hn (am.mpr ⟨x,hx,of_decide_eq_true z⟩)
theorem BL {A B:List Ent}{e:Ent} (g:Ent→Ent) (h1:e.nm∉A.map (·.nm)) (h2:e.nm∉B.map (·.nm)):z0 (A++e::B) e.nm g=A++g e::B:=by
 have no:∀ {l:List Ent},e.nm∉l.map (·.nm)→l.map (fun x=>if x.nm=e.nm then g x else x)=l:=fun {l} h=>by
  conv=>rhs;rw [← fZ l]
  refine bQ fun x hx=>?_
  rw [if_neg fun z=>h (am.mpr ⟨x,hx,z⟩)]
  rfl
 unfold z0
 rw [aW,aD,if_pos rfl,no h1,no h2]
theorem zi (s:Sto) (p:Nat) (h:Str) (l:Hl) (post pr:List (Str×Hl)) (pp:List Str) (L:List Ent) (x y:Int) (o:Str) (q:Int×Int) (hl:l.length < 1000) :
  k8 (.ref (s.nx+3+pr.length)) (.str o) (frP q) (bst s p (post++(h,l)::pr) pp L x y)=some (bst s p (post++(h,mW l o q)::pr) pp L x y):=by
 have hlen:(hP l).length < 100000:=by unfold hP;rw [aq];omega
 simp only [k8,qR,kyOf,hlen,if_true,Ik,Ew]
theorem Ds (a:Adr) (s:Sto) (p:Nat) (R:List (Str×Hl)) (pp:List Str) (A B:List Ent) (e:Ent) (x y:Int) (o1 o2:Str) (q:Int×Int) (nd:((A++e::B).map (·.nm)).Nodup) (hn:Nm e.nm∧Nm o1∧Nm o2) (hz:Sz q) (ok:SaleOk e.held o1 q)
  (h1:(mq pp o1 || me (A++e::B) o1)=true) (h2:(mq pp o2 || me (A++e::B) o2)=true) (nt:¬ nH e.held o1 q) :
  wv a [.ref (s.nx+1),.str e.nm,.str o1,.str o2,frP q] (bst s p R pp (A++e::B) x y)=.ok .non (bst s p R pp (A++{ e with held:=se e.held o1 o2 q }::B) x y):=by
 rw [aW,aD] at nd
 have n1:e.nm∉A.map (·.nm):=fun z=>(bT.mp nd).2.2 _ z _ ar rfl
 have n2:e.nm∉B.map (·.nm):=(aS.mp (bT.mp nd).2.1).1
 have hS:SaleE (A++e::B) e.nm o1 o2 q:=⟨by rw [aW,aD];exact nd,hn,hz,fun e' he=>by rw [zA n1] at he;cases he;exact ok⟩
 obtain ⟨t,b⟩:=q
 simp [wv,k7,pE,hS,zA n1,nt,frP,vG,BL _ n1 n2]
 rw [cX] at h1 h2
 rw [if_neg (by intro z;rcases h1 with h | h <;> simp_all),if_neg (by intro z;rcases h2 with h | h <;> simp_all)]
theorem BP (a:Adr) (s:Sto) (p:Nat) (hp:p < s.nx) (hP:IsPurse s p) {pp hs:List Str} (W:Words pp hs) (post pr:List (Str×Hl)) (A B:List Ent) (e:Ent) (l:Hl) (x y:Int) {c:Nat} (hc:c≤4)
  (hln:(A++e::B).map (·.nm)=hs) (hr:HR c e.held l) (hN:∀ n∈l.map (·.1),n∈pp++hs) (wd o6 o7 o8 o11 o12 o13 o14:Option PV) :
  ∃ x' y' hl' l' u1 u2 u3 u4,l9 a (fr0 p s.nx wd pp hs++[o6,o7,o8,some (.str e.nm),some (.ref (s.nx+3+pr.length)),o11,o12,o13,o14]) (bst s p (post++(e.nm,l)::pr) pp (A++e::B) x y)
  =.nx (fr0 p s.nx wd pp hs++[o6,o7,o8,some (.str e.nm),some (.ref (s.nx+3+pr.length)),u1,u2,u3,u4]) (bst s p (post++(e.nm,l')::pr) pp (A++{ e with held:=hl' }::B) x' y')∧HR (c+1) hl' l'∧∀ n∈l'.map (·.1),n∈pp++hs:=by
 have hav:=Cv (ρ:=fr0 p s.nx wd pp hs++[o6,o7,o8,some (.str e.nm),some (.ref (s.nx+3+pr.length)),o11,o12,o13,o14]) rfl (qR s p e.nm l post pr pp (A++e::B) x y) (by have:=hr.l2;omega)
 have hne:srt (vb l)≠[]:=by
  obtain ⟨n,hn⟩:=hr.ex
  rw [hr.q] at hn
  intro z
  have:n∈srt (vb l):=havN_srt.mpr ⟨hr.had hn,hn⟩
  rw [z] at this
  cases this
 have hlt:(vb l).length≤5:=by
  unfold vb
  refine aN (cR _ _) ?_
  rw [aq]
  have:=hr.l2
  omega
 have hpos:0 < (vb l).length:=by
  rw [← kO]
  exact gZ.mpr hne
 obtain ⟨r,xa,ya,r0,r1,e1⟩:=ot a s p hp hP (post++(e.nm,l)::pr) pp (A++e::B) ((vb l).length:Int) (by omega) (by omega) x y
 obtain ⟨w1,hw1,ew1⟩:=vI (ws:=srt (vb l)) r0 (by rw [kO];exact r1)
 obtain ⟨w1in,w1pos⟩:=havN_srt.mp hw1
 obtain ⟨r',xb,yb,r0',r1',e2⟩:=ot a s p hp hP (post++(e.nm,l)::pr) pp (A++e::B) ((pp.length:Int)+(hs.length:Int)) (by have:=W.p1;omega) (by have:=W.p6;have:=W.h8;omega) xa ya
 obtain ⟨w2,hw2,ew2⟩:=vI (ws:=pp++hs) r0' (by rw [aT];omega)
 obtain ⟨q,xc,yc,hq,e3⟩:=DY a s p hp hP (post++(e.nm,l)::pr) pp (A++e::B) xb yb
 have fr1:FrC c (kM l w1):=by rw [← hr.q];exact hr.fr w1
 have e4:=Ch a (bst s p (post++(e.nm,l)::pr) pp (A++e::B) xc yc) (kM l w1) q (Hc (by omega) fr1 hq)
 have hv:=AQ l w1 w1in
 have hg:=fun x y=>qR s p e.nm l post pr pp (A++e::B) x y
 have sz1:pp.length+hs.length≤100000:=by have:=W.p6;have:=W.h8;omega
 have sz2:(vb l).length < 64:=by omega
 have ew2':atI (pp.map PV.str++hs.map PV.str) r'=some (.str w2):=by rw [← aW];exact ew2
 have hcom:∀ k:Nat→Prop,True:=fun _=>trivial
 by_cases hb:(shr (kM l w1) q).2 < 10 ^ 28
 ·obtain ⟨ok,sp,sl⟩:=Hk (by omega) fr1 w1pos hq hb
  have hb':(shr (kM l w1) q).2 < 10000000000000000000000000000:=hb
  change lW a [frP (kM l w1),frP q] _=.ok (frP (shr (kM l w1) q)) _ at e4
  generalize shr (kM l w1) q=sh at *
  have nt:¬ nH e.held w1 sh:=by
   intro z
   rcases z with z | z
   ·exact z sp
   ·rw [hr.q] at z;omega
  have nde:((A++e::B).map (·.nm)).Nodup:=by rw [hln];exact (bT.mp W.nd).2.1
  have hin:∀ n∈pp++hs,(mq pp n || me (A++e::B) n)=true:=fun n hn=>by
   rw [cX,ou,lM,hln]
   exact aM.mp hn
  have ein:e.nm∈pp++hs:=aL _ (by rw [← hln];simp)
  have e5:=Ds a s p (post++(e.nm,l)::pr) pp A B e xc yc w1 w2 sh nde ⟨(W.sm _ ein).nm,(W.sm _ (hN _ w1in)).nm,(W.sm _ hw2).nm⟩ ok.sz (hr.saleOk (by omega) ok) (hin _ (hN _ w1in)) (hin _ hw2) nt
  have R1:=xW fr1 ok.low sp sl ok.bb
  have e6:=zn a (bst s p (post++(e.nm,l)::pr) pp (A++{ e with held:=se e.held w1 w2 sh }::B) xc yc) (kM l w1) (-sh.1,sh.2) (Fl (Ez (c:=c) (by omega) (by omega) fr1 ok))
  have hp1:=zi s p e.nm l post pr pp (A++{ e with held:=se e.held w1 w2 sh }::B) xc yc w1 (lH (kM l w1) (-sh.1,sh.2)) (by have:=hr.l2;omega)
  generalize hl1:mW l w1 (lH (kM l w1) (-sh.1,sh.2))=l1 at *
  have g1:FrB (192 * c+2+94) (2 ^ c:Nat) (kM l1 w2):=by
   rw [← hl1,lO]
   by_cases z:w2=w1
   ·rw [if_pos z];exact R1
   ·rw [if_neg z,← hr.q]
    have f2:=hr.fr w2
    exact ⟨f2.low,f2.nn,f2.le,f2.bb.mono (by omega)⟩
  have e7:=zn a (bst s p (post++(e.nm,l1)::pr) pp (A++{ e with held:=se e.held w1 w2 sh }::B) xc yc) (kM l1 w2) sh (Ez (by omega) (by omega) g1 ok)
  have hl1n:l1.length < 1000:=by rw [← hl1];have:=ye l w1 (lH (kM l w1) (-sh.1,sh.2));have:=hr.l2;omega
  have hp2:=zi s p e.nm l1 post pr pp (A++{ e with held:=se e.held w1 w2 sh }::B) xc yc w2 (lH (kM l1 w2) sh) hl1n
  have hg2:=qR s p e.nm l post pr pp (A++{ e with held:=se e.held w1 w2 sh }::B) xc yc
  have hg3:=qR s p e.nm l1 post pr pp (A++{ e with held:=se e.held w1 w2 sh }::B) xc yc
  have hget:=Il l1 w2
  have hlw:wx l w1 w2 sh=mW l1 w2 (lH (kM l1 w2) sh):=by unfold wx;simp only [hl1]
  refine ⟨xc,yc,se e.held w1 w2 sh,wx l w1 w2 sh,some (.lst ((srt (vb l)).map .str)),some (.str w1),some (.str w2),some (.tup [.int sh.1,.int sh.2]),?_,hr.sale ok (W.sm _ hw2) nt,?_⟩
  ·unfold l9
   simp only [xSeq,xSet,xB,xCons,xNil,hav]
   simp only [frP] at e3 e4 hv e5 e6 hp1 e7 hp2 hget
   simp [sem,k9,kF,fr0,oa,sz2,kO,e1,ew1,sz1,e2,ew2',hg,hv,e3,e4,at0,at1,fLt,hb',pE,e5,hg2,e6,hp1,hg3,hget,e7,hp2,hlw]
  ·intro n hn
   have h1:∀ n∈l1.map (·.1),n∈pp++hs:=fun n hn=>by
    rw [← hl1,lF,if_pos w1in] at hn
    exact hN n hn
   rw [hlw,lF] at hn
   split at hn
   ·exact h1 n hn
   ·rcases aM.mp hn with h | h
    ·exact h1 n h
    ·rw [ay.mp h];exact hw2
 ·refine ⟨xc,yc,e.held,l,some (.lst ((srt (vb l)).map .str)),some (.str w1),some (.str w2),some (.tup [.int (shr (kM l w1) q).1,.int (shr (kM l w1) q).2]),?_,hr.mono (by omega),hN⟩
  change lW a [frP (kM l w1),frP q] _=.ok (frP (shr (kM l w1) q)) _ at e4
  have hb'':¬ (shr (kM l w1) q).2 < 10000000000000000000000000000:=hb
  unfold l9
  simp only [xSeq,xSet,xB,xCons,xNil,hav]
  simp only [frP] at e3 e4 hv
  simp [sem,k9,kF,k8,fr0,oa,sz2,kO,e1,ew1,sz1,e2,ew2',hg,hv,e3,e4,at1,fLt,hb'']
theorem Aa (a:Adr) (s:Sto) (p:Nat) (hp:p < s.nx) (hP:IsPurse s p) {pp hs:List Str} (W:Words pp hs) (post pr:List (Str×Hl)) (A B:List Ent) (e:Ent) (l:Hl) (x y:Int)
  (hln:(A++e::B).map (·.nm)=hs) (hnp:e.nm∉pr.map (·.1)) (hr:HR 0 e.held l) (hN:∀ n∈l.map (·.1),n∈pp++hs) (wd o6 o7 o8 o9 o10 o11 o12 o13 o14:Option PV) :
  ∃ x' y' hl' l' u7 u9 u10 u1 u2 u3 u4,kZ (yName 9) (mT a) (.str e.nm) (fr0 p s.nx wd pp hs++[o6,o7,o8,o9,o10,o11,o12,o13,o14]) (bst s p (post++(e.nm,l)::pr) pp (A++e::B) x y)
  =.nx (fr0 p s.nx wd pp hs++[o6,u7,o8,u9,u10,u1,u2,u3,u4]) (bst s p (post++(e.nm,l')::pr) pp (A++{ e with held:=hl' }::B) x' y')∧HR 5 hl' l'∧∀ n∈l'.map (·.1),n∈pp++hs:=by
 have hv:=zD (s.nx+3) e.nm l pr hnp post
 have hg:=vH s p (post++(e.nm,l)::pr) pp (A++e::B) x y
 obtain ⟨r,xa,ya,r0,r1,e1⟩:=ot a s p hp hP (post++(e.nm,l)::pr) pp (A++e::B) 6 (by decide) (by decide) x y
 obtain ⟨j,rfl⟩:∃ j:Nat,r=j:=⟨r.toNat,by omega⟩
 obtain ⟨e',s',h1,x',y',hl',l',u7,u1,u2,u3,u4,rfl,rfl,hR,hN'⟩:=qK (body:=kZ (yName 7) (l9 a)) j (fun k ρ t=>∃ x y hl l u7 u1 u2 u3 u4,t=bst s p (post++(e.nm,l)::pr) pp (A++{ e with held:=hl }::B) x y∧ρ=fr0 p s.nx wd pp hs++[o6,u7,o8,some (.str e.nm),some (.ref (s.nx+3+pr.length)),u1,u2,u3,u4]∧HR k hl l∧∀ n∈l.map (·.1),n∈pp++hs)
  (fun k ρ t hk hI=>by
   obtain ⟨x,y,hl,l,u7,u1,u2,u3,u4,rfl,rfl,hr,hN⟩:=hI
   obtain ⟨x',y',hl',l',v1,v2,v3,v4,h1,h2,h3⟩:=BP a s p hp hP W post pr A B { e with held:=hl } l x y (c:=k) (by omega) (by rw [← hln];simp) hr hN wd o6 (some (.int k)) o8 u1 u2 u3 u4
   refine ⟨_,_,?_,x',y',hl',l',some (.int k),v1,v2,v3,v4,rfl,rfl,h2,h3⟩
   rw [← h1]
   rfl) (ρ:=fr0 p s.nx wd pp hs++[o6,o7,o8,some (.str e.nm),some (.ref (s.nx+3+pr.length)),o11,o12,o13,o14]) (s:=bst s p (post++(e.nm,l)::pr) pp (A++e::B) xa ya) ⟨xa,ya,e.held,l,o7,o11,o12,o13,o14,rfl,rfl,hr,hN⟩
 refine ⟨x',y',hl',l',u7,some (.str e.nm),some (.ref (s.nx+3+pr.length)),u1,u2,u3,u4,?_,hR.mono (by omega),hN'⟩
 simp only [fr0,cC,cW] at h1
 have hj:(j:Int) < 4611686018427387904:=by omega
 simp [sem,k9,kF,k8,kZ,mT,fr0,hg,hv,e1,h1,hj]
theorem Ab (a:Adr) (s:Sto) (p:Nat) (hp:p < s.nx) (hP:IsPurse s p) {pp hs:List Str} (W:Words pp hs) (wd o6 o8:Option PV):∀ (B:List Ent) (M:List (Str×Hl)),Pairs (pp++hs) 0 B M→∀ (A:List Ent) (pr:List (Str×Hl)) (x y:Int) (o7 o9 o10 o11 o12 o13 o14:Option PV),Pairs (pp++hs) 5 A pr.reverse→(A++B).map (·.nm)=hs →
  ∃ x' y' R L u7 u9 u10 u1 u2 u3 u4,lI (kZ (yName 9) (mT a)) ((B.map (·.nm)).map .str) (fr0 p s.nx wd pp hs++[o6,o7,o8,o9,o10,o11,o12,o13,o14]) (bst s p (M.reverse++pr) pp (A++B) x y)
  =.nx (fr0 p s.nx wd pp hs++[o6,u7,o8,u9,u10,u1,u2,u3,u4]) (bst s p R pp L x' y')∧Pairs (pp++hs) 5 L R.reverse∧L.map (·.nm)=hs:=by
 intro B M hB
 induction hB with
 | nil =>
  intro A pr x y o7 o9 o10 o11 o12 o13 o14 hA hn
  refine ⟨x,y,pr,A,o7,o9,o10,o11,o12,o13,o14,?_,hA,by simpa using hn⟩
  ·simp [lI]
 | @cons e m B M h1 h2 h3 h4 _ ih =>
  intro A pr x y o7 o9 o10 o11 o12 o13 o14 hA hn
  obtain ⟨h,l⟩:=m
  simp only at h1 h2 h3
  subst h1
  have hnp:e.nm∉pr.map (·.1):=by
   intro z
   have z2:e.nm∈A.map (·.nm):=by
    rw [hA.names]
    obtain ⟨m,hm,e⟩:=am.mp z
    exact am.mpr ⟨m,by simpa using hm,e⟩
   have nd:((A++e::B).map (·.nm)).Nodup:=by rw [hn];exact (bT.mp W.nd).2.1
   rw [aW,aD] at nd
   exact (bT.mp nd).2.2 _ z2 _ ar rfl
  obtain ⟨xa,ya,hl',l',u7,u9,u10,u1,u2,u3,u4,g1,g2,g3⟩:=Aa a s p hp hP W M.reverse pr A B e l x y hn hnp h2 h3 wd o6 o7 o8 o9 o10 o11 o12 o13 o14
  obtain ⟨xb,yb,R,L,v7,v9,v10,v1,v2,v3,v4,k1,k2,k3⟩:=ih (A++[{ e with held:=hl' }]) ((e.nm,l')::pr) xa ya u7 u9 u10 u1 u2 u3 u4 (by
   rw [eW]
   exact hA.app (.cons rfl g2 g3 h4 .nil)) (by rw [← hn];simp)
  refine ⟨xb,yb,R,L,v7,v9,v10,v1,v2,v3,v4,?_,k2,k3⟩
  have er:((e.nm,l)::M).reverse++pr=M.reverse++(e.nm,l)::pr:=by simp
  have ea:A++{ e with held:=hl' }::B=(A++[{ e with held:=hl' }])++B:=by simp
  rw [er,aD,aD]
  unfold lI
  rw [g1]
  simp only
  rw [ea]
  exact k1
theorem kL {f g:XS}{ρ ρ':En}{s s':Sto} (h:f ρ s=.nx ρ' s'):xSeq f g ρ s=g ρ' s':=by unfold xSeq;rw [h]
theorem ms {N:Nat}{g:XS}{vs:List PV}{s s':Sto}{v:PV} (h:g (vs.map some++aY (N - vs.length) none) s=.rt v s'):fnD N g vs s=.ok v s':=by unfold fnD;rw [h]
theorem p62:(2:Int) ^ 62=4611686018427387904:=by decide
theorem lo62 (n:Nat):-(2 ^ 62)≤(n:Int):=by
 rw [p62]
 have:(-4611686018427387904:Int)≤n:=by omega
 exact this
theorem hi62 {n:Nat} (hn:n < 1000000):(n:Int) < 2 ^ 62:=by
 rw [p62]
 have:(n:Int) < 4611686018427387904:=by omega
 exact this
theorem Ex {α β:Type} (v:α) (s:Sto) (f:α→Sto→Out β):(Out.ok v s).bind f=f v s:=rfl
theorem Fz {fa:XA}{ρ:En}{s s1:Sto}{j:Int} (h:fa ρ s=.ok [.int j] s1):xRng1 fa ρ s=if -(2 ^ 62)≤j∧j < 2 ^ 62 then Out.ok (rj 0 j.toNat) s1 else Out.bad:=by
 unfold xRng1
 rw [h,Ex]
theorem x6 {fa:XA}{ρ:En}{s s1:Sto}{n:Nat} (h:fa ρ s=.ok [.int n] s1) (hn:n < 1000000):xRng1 fa ρ s=.ok (rj 0 n) s1:=by
 rw [Fz h,if_pos ⟨lo62 n,hi62 hn⟩,Int.toNat_natCast]
theorem rH {fi:XA}{y:XG}{body:XS}{ρ ρ':En}{s s1 s':Sto}{l:List PV} (h1:fi ρ s=.ok l s1) (h2:lI (kZ y body) l ρ s1=.nx ρ' s'):xFor fi y body ρ s=.nx ρ' s':=by
 unfold xFor
 rw [h1]
 simp only [Out.so]
 rw [h2]
 rfl
theorem yE {ws:List Str}{fst:Int} (hl:ws.length=14) (hW:∀ j w,ws[j]?=some w→Wd fst j w):ws.Nodup:=by
 rw [List.nodup_iff_pairwise_ne,List.pairwise_iff_getElem]
 intro i j hi hj hij e
 have h1:=(hW i _ (bB hi)).2.2
 have h2:=(hW j _ (bB hj)).2.2
 rw [e,h2] at h1
 have:=a8 h1
 omega
theorem C2 {ws:List Str}{fst:Int} (hl:ws.length=14) (hW:∀ j w,ws[j]?=some w→Wd fst j w) {P Q:Nat} (p1:1≤P) (p6:P≤6) (q8:Q≤8):Words (ws.take P) ((ws.drop 6).take Q):=by
 have sub:(ws.take P++(ws.drop 6).take Q).Sublist ws:=by
  conv=>rhs;rw [← List.take_append_drop 6 ws]
  refine List.Sublist.append ?_ (eV _ _)
  have:ws.take P=(ws.take 6).take P:=by rw [List.take_take,Nat.min_eq_left p6]
  rw [this]
  exact eV _ _
 have all:∀ w∈ws.take P++(ws.drop 6).take Q,Sm w∧tj w=true:=fun w hw=>by
  obtain ⟨j,hj⟩:=List.getElem?_of_mem (sub.subset hw)
  exact ⟨(hW j w hj).1,(hW j w hj).2.1⟩
 refine ⟨(yE hl hW).sublist sub,fun w hw=>(all w hw).1,fun w hw=>(all w hw).2,?_,?_,?_⟩
 ·rw [ci];omega
 ·rw [ci];omega
 ·rw [ci,gu];omega
theorem Gv (ws:List PV) (hl:ws.length=14) (k:Nat) (hk:k≤8):wo ws (some 6) (some (6+(k:Int)))=(ws.drop 6).take k:=by
 unfold wo
 simp [HT.sIx,hl]
 have h:¬ (6+(k:Int) < 0):=by omega
 rw [if_neg h]
 omega
def kst (s:Sto) (p n:Nat) (pp:List Str) (L:List Ent) (x y:Int):Sto:=stk n [(s.nx+1,.book pp L)] s p x y
theorem Gc (s:Sto) (p:Nat) (R:List (Str×Hl)) (pp:List Str) (L:List Ent) (x y:Int):G1 (.ref (s.nx+2)) (bst s p R pp L x y)=.ok (.dct (qM R.reverse)) (kst s p (s.nx+3+R.length) pp L x y):=by
 have ed:(bst s p R pp L x y).del (s.nx+2)=⟨s.nx+3+R.length,[]++(mI (s.nx+3) R++([(s.nx+1,.book pp L)]++(pst s p x y).cs))⟩:=by
  unfold bst stk Sto.del wu
  simp only [cW]
  rw [bZ,zG (qP R (by omega)),cC,xm,if_pos rfl]
 unfold G1 frz1
 simp only [vH]
 rw [ed,zv (s.nx+3) (s.nx+3+R.length) R [] _ (fun q hq=>by cases hq)]
 rfl
theorem Ev (a:Adr) (s:Sto) (p:Nat) (hp:p < s.nx) (hP:IsPurse s p):∃ n pp hs L M x y,s.nx+1 < n∧Words pp hs∧Pairs (pp++hs) 5 L M∧L.map (·.nm)=hs ∧
  nT a [.ref p] s=.ok (.lst [.ref (s.nx+1),.lst ((srt pp).map .str),.dct (qM M)]) (kst s p n pp L x y):=by
 obtain ⟨x,y,ws,fst,hl,f0,hW,e0⟩:=Ea a s p hp hP
 have hne:∀ q∈[(s.nx+1,Cell.book [] [])],q.1≠p:=fun q hq=>by cases ay.mp hq;exact fun z=>by simp only at z;omega
 obtain ⟨r1,xa,ya,r10,r11,e1⟩:=qE a (nx:=s.nx+2) (pre:=[(s.nx+1,.book [] [])]) hP hne 8 (by decide) (by decide) x y
 obtain ⟨P,hPm,eP⟩:=at8 [2,3,1,4,6,2,3,5] rfl r10 r11
 obtain ⟨r2,xb,yb,r20,r21,e2⟩:=qE a (nx:=s.nx+2) (pre:=[(s.nx+1,.book [] [])]) hP hne 8 (by decide) (by decide) xa ya
 obtain ⟨Q,hQm,eQ⟩:=at8 [3,4,2,5,6,1,8,0] rfl r20 r21
 obtain ⟨i,rfl⟩:∃ i:Nat,P=i:=⟨P.toNat,by simp at hPm;omega⟩
 obtain ⟨j,rfl⟩:∃ j:Nat,Q=j:=⟨Q.toNat,by simp at hQm;omega⟩
 have i1:1≤i∧i≤6:=by simp at hPm;omega
 have j1:j≤8:=by simp at hQm;omega
 have W:=C2 hl hW i1.1 i1.2 j1
 have c1:wo (ws.map PV.str) none (some (i:Int))=(ws.take i).map PV.str:=by rw [zH _ _ (by simp;omega),gf]
 have c2:wo (ws.map PV.str) (some 6) (some (6+(j:Int)))=((ws.drop 6).take j).map PV.str:=by rw [Gv _ (by simp [hl]) _ j1,gf,List.map_drop]
 generalize ws.take i=pp at *
 generalize (ws.drop 6).take j=hs at *
 have h0:∀ x y,(stk (s.nx+2) [(s.nx+1,.book [] [])] s p x y).add (.dct [])=bst s p [] [] [] x y:=fun _ _=>rfl
 have n1:∀ x y,(Sto.bump (pst s p x y)).nx=s.nx+1:=fun _ _=>rfl
 have n2:∀ x y,(stk (s.nx+2) [(s.nx+1,.book [] [])] s p x y).nx=s.nx+2:=fun _ _=>rfl
 have h00:∀ x y,(Sto.bump (pst s p x y)).add (.book [] [])=stk (s.nx+2) [(s.nx+1,.book [] [])] s p x y:=fun _ _=>rfl
 obtain ⟨o6,l1⟩:=xL a s p xb yb W (some (.lst (ws.map .str))) none none none none none none none none none
 obtain ⟨xc,yc,R,L,o7,o8,hH,l2⟩:=yS a s p hp hP xb yb W (some (.lst (ws.map .str))) o6 none none none none none none none none
 have hln:L.map (·.nm)=hs:=by have:=hH.ln;rwa [fj] at this
 obtain ⟨xd,yd,R',L',u7,u9,u10,u1,u2,u3,u4,l3,hPr,hn⟩:=Ab a s p hp hP W (some (.lst (ws.map .str))) o6 o8 L R.reverse hH.pr [] [] xc yc o7 none none none none none none .nil (by simpa using hln)
 rw [gT,cg,cW,hln] at l3
 refine ⟨s.nx+3+R'.length,pp,hs,L',R'.reverse,xd,yd,by omega,W,hPr,hn,?_⟩
 have fz:=Gc s p R' pp L' xd yd
 simp only [fr0,cC,cW] at l1 l2 l3
 have hpl:pp.length < 64:=by have:=W.p6;omega
 simp at eP eQ
 have hgo:pM a [some (.ref p),none,none,none,none,none,none,none,none,none,none,none,none,none,none] s=.rt (.lst [.ref (s.nx+1),.lst ((srt pp).map .str),.dct (qM R'.reverse)]) (kst s p (s.nx+3+R'.length) pp L' xd yd):=by
  unfold pM
  rw [kL (ρ':=[some (.ref p),some (.lst (ws.map .str)),none,none,none,none,none,none,none,none,none,none,none,none,none]) (s':=Sto.bump (pst s p x y)) (by simp [sem,k9,kF,k8,e0])]
  rw [kL (ρ':=[some (.ref p),some (.lst (ws.map .str)),some (.ref (s.nx+1)),none,none,none,none,none,none,none,none,none,none,none,none]) (s':=stk (s.nx+2) [(s.nx+1,.book [] [])] s p x y) (by simp [sem,k9,kF,k8,n1,h00])]
  rw [kL (ρ':=[some (.ref p),some (.lst (ws.map .str)),some (.ref (s.nx+1)),some (.lst (pp.map .str)),none,none,none,none,none,none,none,none,none,none,none]) (s':=stk (s.nx+2) [(s.nx+1,.book [] [])] s p xa ya) (by simp [sem,k9,kF,k8,e1,eP,c1])]
  rw [kL (ρ':=[some (.ref p),some (.lst (ws.map .str)),some (.ref (s.nx+1)),some (.lst (pp.map .str)),some (.lst (hs.map .str)),none,none,none,none,none,none,none,none,none,none]) (s':=stk (s.nx+2) [(s.nx+1,.book [] [])] s p xb yb) (by simp [sem,k9,kF,k8,e2,eQ,c2])]
  rw [kL (ρ':=[some (.ref p),some (.lst (ws.map .str)),some (.ref (s.nx+1)),some (.lst (pp.map .str)),some (.lst (hs.map .str)),some (.ref (s.nx+2)),none,none,none,none,none,none,none,none,none]) (s':=bst s p [] [] [] xb yb) (by simp [sem,k9,kF,k8,n2,h0])]
  rw [kL (rH (l:=pp.map .str) (s1:=bst s p [] [] [] xb yb) (by simp [sem,k9,kF,k8]) l1)]
  rw [kL (rH (l:=rj 0 hs.length) (s1:=bst s p [] pp [] xb yb) (x6 (n:=hs.length) (by simp [sem,k9,kF,k8]) (by have:=W.h8;omega)) l2)]
  rw [kL (rH (l:=hs.map .str) (s1:=bst s p R pp L xc yc) (by simp [sem,k9,kF,k8]) l3)]
  simp [sem,k9,kF,k8,oa,hpl,E5,fz]
 exact ms hgo
theorem IF:bJ "set"=some (.type "set"):=by decide +kernel
section
variable {P:aV}{w:bz}{K:aa}{mg:Str→Option af}{base:bK}{a:Adr}{f:ae}{fd:bR}
abbrev sE:bM:=top 10
theorem sc_rounds:FnScope ["drawn","told","earlier","further"] ["drawn"] (kC sE):=fsc
def ol (a:Adr) (lf:ae) (lvs:List V) (dr:List PV→PV→Sto→Out PV) :XS:=(xSeq (xSet 3 (uk (xIter (ul 0 lf lvs dr (xVar 2))) [2] (xTr (x2 (xVar 0) (xVar 1) rJ)) (xVar 0))) (xSeq (xIf (xTr (x2 (xVar 3) (xLst xNil) fEq)) (xRet (xVar 1)) xEnd) (xSeq (xDo (xAppend (xVar 1) (xCons (xVar 3) xNil))) (xSet 2 (x2 (xVar 2) (xVar 3) fAdd)))))
def zu (a:Adr) (lf:ae) (lvs:List V) (dr:List PV→PV→Sto→Out PV):XS:=(xSeq (xSet 1 (xLstC xNil)) (xSeq (xSet 2 (xLst xNil)) (uj (xTr (xC (.bl true))) (ol a lf lvs dr))))
def qU (a:Adr) (lf:ae) (lvs:List V) (dr:List PV→PV→Sto→Out PV):XF:=fnD 4 (zu a lf lvs dr)
theorem Cb (F:Fun K "rounds" "rounds" sE f fd) (T:Txt K mg a):FnOk P w K mg base (CXo P w) 7 f fd ["drawn"] (GG P w K mg base 6 a.Book (qU a)) :=
 Io (kc:=6) F sc_rounds fun lf lvs dr cdv A outer s H E CV hr=>(kE (kS 1 sc_rounds.nd rfl (bw rfl) (tz kB)) (kE (kS 2 sc_rounds.nd rfl (eM rfl) (lu kB)) (kI (zE (nN yB) (kE (yU (fr:=["earlier"]) (ix:=[2]) (i:=3) sc_rounds.nd rfl rfl rfl (by exact (show CompOk ["drawn","told","earlier","further"] (kC sE) _ _ _ _ from cok)) (oC (Eo CV 0 rfl (bw rfl) (hr.mono (by decide)) (ky 2))) (fun _ _ _ _ _=>(sN (pW (Gx (kP hr)) (ky 0) (ky 1) (by with_unfolding_all rfl)))) (fun _ _ _ _ _=>(ky 0))) (kE (oZ (pW (zN (w5 hr)) (ky 3) (lu kB) (lG _)) (kI (kY (ky 1))) l4) (kE (sL (tR (ky 1) (ku (ky 3) kB))) (kI (kS 2 sc_rounds.nd rfl (eM rfl) (lA (ky 2) (ky 3)))))))))))
abbrev uP:bM:=top 15
theorem Dp:FnScope ["book","holder"] ["book","holder"] (kC uP):=fsc
def yh (a:Adr):XS:=(xSeq (xDo (xBM 2 (kQ a) (xVar 0) (xCons (xVar 1) xNil))) (xRet (CL [0,1] (qU a) (xCall 2 (lY a) (xCons (xVar 1) (xCons (x2 (xLst (xCons (xVar 2) xNil)) (xVar 0) fAdd) xNil))))))
def mv (a:Adr):XF:=fnD 2 (yh a)
theorem D2 (F:Fun K "rules" "rules" uP f fd) (T:Txt K mg a) (M_need_holder:Mt P w K mg base a.Book "need_holder" 3 ["self","name"] (spD K a.Book 2 (kQ a))) (F_rounds:Fn P w K mg base "rounds" 7 ["drawn"] (GG P w K mg base 6 a.Book (qU a))) (F_outvoted:Fn P w K mg base "outvoted" 5 ["book","voters"] (spD K a.Book 2 (lY a))) {cd PT:ae} (hns:aw K au "rules"=some (some (.ref f))) (ht:bS K "rules"=some (cd,PT)) (TL:LamTxt K mg base cd PT):FnOk P w K mg base (CXo P w) 8 f fd ["book","holder"] (spD K a.Book 2 (mv a)) :=
 have hTab:Tab K PT "rules.<locals>.<lambda>":=⟨"rules",by decide,cd,ht,rfl⟩
 Ip F hns ht Dp rfl fun A outer s H E hr=>(kE (sL (pX (ky 0) M_need_holder nW (hr.mono (by decide)) kW (ku (ky 1) kB))) (kI (kY (Gm (kb:=5) (fr:=["book","holder"]) [0,1] F_rounds (hr.mono (by decide)) rfl TL rfl rfl hTab rfl (by exact (show ∀ y∈(_:List (Str×dU)),y.2=bE→cz y.1 (kC uP).names=some fQ from by decide +kernel)) (fun _=>rfl) (by exact (show LamOk _ "earlier" ["book","holder"] from ⟨rfl,rfl,rfl,by decide +kernel,rfl,by decide +kernel,by decide +kernel⟩)) rfl (by intro i j z h1 h2;match i,h1,h2 with | 0,h1,h2=>cases h1;cases h2;rfl | 1,h1,h2=>cases h1;cases h2;rfl | (n+2),h1,_=>cases h1) (fun _ _ _ _=>.all fun us hl=>match us,hl with | [_],_=>rfl) (fun _ _ _ _ _ _ _ hr=>(k6 F_outvoted (hr.mono (by decide)) rfl kU (ku (ky 1) (ku (lA (lu (ku (ky 2) kB)) (ky 0)) kB))))))))
abbrev pQ:bM:=top 16
theorem yK:FnScope ["book","house","holder"] ["book","house","holder"] (kC pQ):=fsc
def vg (a:Adr):XS:=(xRet (xB (xCons (md (xIter (uF (xCall 2 (mv a) (xCons (xVar 0) (xCons (xVar 2) xNil))))) [1] oR (x2 (xVar 1) (xVar 0) fIn)) xNil) G3))
def om (a:Adr):XF:=(fnD 3 (vg a))
theorem yO (F:Fun K "is_ruled" "is_ruled" pQ f fd) (T:Txt K mg a) (F_rules:Fn P w K mg base "rules" 8 ["book","holder"] (spD K a.Book 2 (mv a))):FnOk P w K mg base (CXo P w) 9 f fd ["book","house","holder"] (spD K a.Book 3 (om a)) :=
 mS F yK rfl fun cdv A outer s H E hr=>(kI (kY (ly (b_any rfl) rfl T.b_any IG (ku (ni (fr:=["house"]) (ix:=[1]) rfl (by exact (show CompOk ["book","house","holder"] (kC pQ) _ _ _ _ from cok)) (oC (Bn (k6 F_rules (hr.mono (by decide)) rfl kW (ku (ky 0) (ku (ky 2) kB))))) (fun _ _ _ _ _=>m7) (fun _ _ _ _ _=>(sO (E2 (kP hr)) (ky 1) (ky 0) (by with_unfolding_all rfl)))) kB))))
abbrev xZ:bM:=top 17
theorem sc_ruler:FnScope ["book","house","person"] ["book","house"] (kC xZ):=fsc
def mj (a:Adr) :XS:=(xIf (xTr (xCall 3 (om a) (xCons (xVar 0) (xCons (xVar 1) (xCons (xVar 2) xNil))))) (xRet (xVar 2)) xEnd)
def ve (a:Adr):XS:=(xSeq (xDo (xBM 2 (lB a) (xVar 0) (xCons (xVar 1) xNil))) (xSeq (xFor (xIter (xBM 1 (li a) (xVar 0) xNil)) (yName 2) (mj a)) (xRet (xC .non))))
def rQ (a:Adr):XF:=(fnD 3 (ve a))
theorem D3 (F:Fun K "ruler" "ruler" xZ f fd) (T:Txt K mg a) (M_need_house:Mt P w K mg base a.Book "need_house" 2 ["self","name"] (spD K a.Book 2 (lB a))) (M_persons:Mt P w K mg base a.Book "persons" 1 ["self"] (spD K a.Book 1 (li a))) (F_is_ruled:Fn P w K mg base "is_ruled" 9 ["book","house","holder"] (spD K a.Book 3 (om a))):FnOk P w K mg base (CXo P w) 10 f fd ["book","house"] (spD K a.Book 2 (rQ a)) :=
 mS F sc_ruler rfl fun cdv A outer s H E hr=>(kE (sL (pX (ky 0) M_need_house wg (hr.mono (by decide)) kW (ku (ky 1) kB))) (kE (oN rfl (oC (uv (ky 0) M_persons rV (hr.mono (by decide)) kU)) (lS 2 sc_ruler.nd rfl (bw rfl)) (kI (oZ (nN (k6 F_is_ruled (hr.mono (by decide)) rfl kU (ku (ky 0) (ku (ky 1) (ku (ky 2) kB))))) (kI (kY (ky 2))) l4))) (kI (kY AW))))
abbrev pG:bM:=top 14
theorem vO:FnScope ["names"] ["names"] (kC pG):=fsc
def si (a:Adr):XS:=(xRet (x2 (xV (xVar 0)) (xB (xCons (xVar 0) xNil) fLen) fEq))
def lV (a:Adr):XF:=(fnD 1 (si a))
theorem v5 (F:Fun K "are_unlike" "are_unlike" pG f fd) (T:Txt K mg a):FnOk P w K mg base (CXo P w) 1 f fd ["names"] (spD K a.Book 1 (lV a)) :=
 mS F vO rfl fun cdv A outer s H E hr=>(kI (kY (sO (zN (w5 hr)) (CA rfl rfl T.b_len oP rfl T.b_set IF (ky 0)) (ly b_len rfl T.b_len oP (ku (ky 0) kB)) (lG _))))
abbrev qZ:bM:=top 18
theorem z6:FnScope ["book","known","house","voters"] ["book","known","house","voters"] (kC qZ):=fsc
def xg (a:Adr):XS:=(xSeq (xIf (xOr (xNot (xTr (xBM 2 (lv a) (xVar 0) (xCons (xVar 2) xNil)))) (xNot (xTr (xCall 1 (lV a) (xCons (xVar 3) xNil))))) (xRet (xC (.bl false))) xEnd) (xRet (xAndV (xB (xCons (md (xIter (xVar 3)) [1] oR (x2 (xVar 0) (xVar 1) fIn)) xNil) fAll) (xCall 3 (mO a) (xCons (xVar 0) (xCons (xVar 3) (xCons (xVar 2) xNil)))))))
def rf (a:Adr):XF:=(fnD 4 (xg a))
theorem Ak (F:Fun K "is_step" "is_step" qZ f fd) (T:Txt K mg a) (F_outvote:Fn P w K mg base "outvote" 4 ["book","voters","house"] (spD K a.Book 3 (mO a))) (M_is_house:Mt P w K mg base a.Book "is_house" 1 ["self","name"] (spD K a.Book 2 (lv a))) (F_are_unlike:Fn P w K mg base "are_unlike" 1 ["names"] (spD K a.Book 1 (lV a))):FnOk P w K mg base (CXo P w) 5 f fd ["book","known","house","voters"] (spD K a.Book 4 (rf a)) :=
 mS F z6 rfl fun cdv A outer s H E hr=>(kE (oZ (DW.dt (CP (rK (nN (pX (ky 0) M_is_house tU (hr.mono (by decide)) kW (ku (ky 2) kB)))) (yx (rK (nN (k6 F_are_unlike (hr.mono (by decide)) rfl kW (ku (ky 3) kB))))))) (kI (kY yB)) l4) (kI (kY (E1 (ly (b_all rfl) rfl T.b_all yC (ku (ni (fr:=["known"]) (ix:=[1]) rfl (by exact (show CompOk ["book","known","house","voters"] (kC qZ) _ _ _ _ from cok)) (oC (ky 3)) (fun _ _ _ _ _=>m7) (fun _ _ _ _ _=>(sO (E2 (kP hr)) (ky 0) (ky 1) (by with_unfolding_all rfl)))) kB)) (AV (k6 F_outvote (hr.mono (by decide)) rfl kW (ku (ky 0) (ku (ky 3) (ku (ky 2) kB)))))))))
abbrev qo:bM:=top 19
theorem sc_are_steps:FnScope ["book","holder","steps","known","house","voters"] ["book","holder","steps"] (kC qo):=fsc
def la (a:Adr) :XS:=(xSeq (xIf (xNot (xTr (xCall 4 (rf a) (xCons (xVar 0) (xCons (xVar 3) (xCons (xVar 4) (xCons (xVar 5) xNil))))))) (xRet (xC (.bl false))) xEnd) (xDo (xAppend (xVar 3) (xCons (xVar 4) xNil))))
def qC (a:Adr):XS:=(xSeq (xDo (xBM 2 (kQ a) (xVar 0) (xCons (xVar 1) xNil))) (xSeq (xSet 3 (xLstC (xCons (xVar 1) xNil))) (xSeq (xFor (xIter (xVar 2)) (yTup 2 (yCons (yName 4) (yCons (yName 5) yNil))) (la a)) (xRet (xC (.bl true))))))
def lU (a:Adr):XF:=(fnD 6 (qC a))
theorem xP (F:Fun K "are_steps" "are_steps" qo f fd) (T:Txt K mg a) (M_need_holder:Mt P w K mg base a.Book "need_holder" 3 ["self","name"] (spD K a.Book 2 (kQ a))) (F_is_step:Fn P w K mg base "is_step" 5 ["book","known","house","voters"] (spD K a.Book 4 (rf a))):FnOk P w K mg base (CXo P w) 6 f fd ["book","holder","steps"] (spD K a.Book 3 (lU a)) :=
 mS F sc_are_steps rfl fun cdv A outer s H E hr=>(kE (sL (pX (ky 0) M_need_holder nW (hr.mono (by decide)) kW (ku (ky 1) kB))) (kE (kS 3 sc_are_steps.nd rfl (bw rfl) (tz (ku (ky 1) kB))) (kE (oN rfl (oC (ky 2)) (AT rfl (oy (lS 4 sc_are_steps.nd rfl (bw rfl)) (oy (lS 5 sc_are_steps.nd rfl (bw rfl)) yk))) (kE (oZ (rK (nN (k6 F_is_step (hr.mono (by decide)) rfl kU (ku (ky 0) (ku (ky 3) (ku (ky 4) (ku (ky 5) kB))))))) (kI (kY yB)) l4) (kI (sL (tR (ky 3) (ku (ky 4) kB)))))) (kI (kY yB)))))
abbrev pb:bM:=top 20
theorem z7:FnScope ["book","holder","houses"] ["book","holder","houses"] (kC pb):=fsc
def tQ (a:Adr):XS:=(xSeq (xDo (xBM 2 (kQ a) (xVar 0) (xCons (xVar 1) xNil))) (xSeq (xIf (xOr (xNot (xTr (xCall 1 (lV a) (xCons (xVar 2) xNil)))) (xNot (xTr (xB (xCons (md (xIter (xVar 2)) [0] oR (xBM 2 (lv a) (xVar 1) (xCons (xVar 0) xNil))) xNil) fAll)))) (xRet (xC (.bl false))) xEnd) (xRet (xB (xCons (md (xIter (xCall 2 (lY a) (xCons (xVar 0) (xCons (x2 (xLst (xCons (xVar 1) xNil)) (xVar 2) fAdd) xNil)))) [2] oR (x2 (xVar 0) (xVar 1) fIn)) xNil) fAll))))
def mP (a:Adr):XF:=(fnD 3 (tQ a))
theorem Al (F:Fun K "is_shut" "is_shut" pb f fd) (T:Txt K mg a) (M_need_holder:Mt P w K mg base a.Book "need_holder" 3 ["self","name"] (spD K a.Book 2 (kQ a))) (F_are_unlike:Fn P w K mg base "are_unlike" 1 ["names"] (spD K a.Book 1 (lV a))) (F_outvoted:Fn P w K mg base "outvoted" 5 ["book","voters"] (spD K a.Book 2 (lY a))) (M_is_house:Mt P w K mg base a.Book "is_house" 1 ["self","name"] (spD K a.Book 2 (lv a))):FnOk P w K mg base (CXo P w) 6 f fd ["book","holder","houses"] (spD K a.Book 3 (mP a)) :=
 mS F z7 rfl fun cdv A outer s H E hr=>(kE (sL (pX (ky 0) M_need_holder nW (hr.mono (by decide)) kW (ku (ky 1) kB))) (kE (oZ (DW.dt (CP (rK (nN (k6 F_are_unlike (hr.mono (by decide)) rfl kW (ku (ky 2) kB)))) (yx (rK (nN (ly (b_all rfl) rfl T.b_all yC (ku (ni (fr:=["book"]) (ix:=[0]) rfl (by exact (show CompOk ["book","holder","houses"] (kC pb) _ _ _ _ from cok)) (oC (ky 2)) (fun _ _ _ _ _=>m7) (fun _ _ _ _ _=>(pX (ky 1) M_is_house tU (hr.mono (by decide)) kU (ku (ky 0) kB)))) kB))))))) (kI (kY yB)) l4) (kI (kY (ly (b_all rfl) rfl T.b_all yC (ku (ni (fr:=["houses"]) (ix:=[2]) rfl (by exact (show CompOk ["book","holder","houses"] (kC pb) _ _ _ _ from cok)) (oC (k6 F_outvoted (hr.mono (by decide)) rfl kW (ku (ky 0) (ku (lA (lu (ku (ky 1) kB)) (ky 2)) kB)))) (fun _ _ _ _ _=>m7) (fun _ _ _ _ _=>(sO (E2 (kP hr)) (ky 0) (ky 1) (by with_unfolding_all rfl)))) kB))))))
abbrev nO:bM:=top 55
theorem sc__law_which:FnScope ["_law_e","_law_found"] ["_law_e"] (kC nO):=fsc
def sj (a:Adr):XS:=(xSeq (xSet 1 (xLst (xCons (n8 a.cl (fun c=>decide (c=a.NoName)) (xVar 0)) (xCons (n8 a.cl (fun c=>decide (c=a.Twice)) (xVar 0)) (xCons (n8 a.cl (fun c=>decide (c=a.TooMany)) (xVar 0)) (xCons (n8 a.cl (fun c=>decide (c=a.NoHolder)) (xVar 0)) xNil)))))) (xSeq (xSet 1 (x2 (xVar 1) (xLst (xCons (n8 a.cl (fun c=>decide (c=a.NoHouse)) (xVar 0)) (xCons (n8 a.cl (fun c=>decide (c=a.NoLoss)) (xVar 0)) (xCons (n8 a.cl (fun c=>decide (c=a.NoShare)) (xVar 0)) xNil)))) fAdd)) (xSeq (xSet 1 (x2 (xVar 1) (xLst (xCons (n8 a.cl (fun c=>decide (c=a.NoText)) (xVar 0)) (xCons (n8 a.cl (fun c=>decide (c=a.Whole)) (xVar 0)) xNil))) fAdd)) (xSeq (xIf (xOr (xNot (xTr (n8 a.cl (fun _=>true) (xVar 0)))) (xNot (xTr (n8 a.cl (fun _=>true) (xVar 0))))) (xRet (xLst xNil)) xEnd) (xRet (md (xRng1 (xCons (xC (.int 9)) xNil)) [1] (xTr (x2 (xVar 1) (xVar 0) fIx)) (xVar 0)))))))
def mh (a:Adr):XF:=(fnD 2 (sj a))
theorem v6 (F:Fun K "_law_which" "_law_which" nO f fd) (T:Txt K mg a) (T2:T2x K a):FnOk P w K mg base (CXo P w) 1 f fd ["_law_e"] (spD K a.Book 1 (mh a)) :=
 mS F sc__law_which rfl fun cdv A outer s H E hr=>(kE (kS 1 sc__law_which.nd rfl (eM rfl) (lu (ku (nL rfl T.b_isinstance (ky 0) rfl T.c_NoName T2.k_NoName T2.n_NoName (by decide)) (ku (nL rfl T.b_isinstance (ky 0) rfl T.c_Twice T2.k_Twice T2.n_Twice (by decide)) (ku (nL rfl T.b_isinstance (ky 0) rfl T.c_TooMany T2.k_TooMany T2.n_TooMany (by decide)) (ku (nL rfl T.b_isinstance (ky 0) rfl T.c_NoHolder T2.k_NoHolder T2.n_NoHolder (by decide)) kB)))))) (kE (kS 1 sc__law_which.nd rfl (eM rfl) (lA (ky 1) (lu (ku (nL rfl T.b_isinstance (ky 0) rfl T.c_NoHouse T2.k_NoHouse T2.n_NoHouse (by decide)) (ku (nL rfl T.b_isinstance (ky 0) rfl T.c_NoLoss T2.k_NoLoss T2.n_NoLoss (by decide)) (ku (nL rfl T.b_isinstance (ky 0) rfl T.c_NoShare T2.k_NoShare T2.n_NoShare (by decide)) kB)))))) (kE (kS 1 sc__law_which.nd rfl (eM rfl) (lA (ky 1) (lu (ku (nL rfl T.b_isinstance (ky 0) rfl T.c_NoText T2.k_NoText T2.n_NoText (by decide)) (ku (nL rfl T.b_isinstance (ky 0) rfl T.c_Whole T2.k_Whole T2.n_Whole (by decide)) kB))))) (kE (oZ (DW.dt (CP (rK (nN (Go rfl T.b_isinstance (ky 0) rfl T.b_ValueError wt T2.kv T2.nv))) (yx (rK (nN (nL rfl T.b_isinstance (ky 0) rfl T.c_OwnError T2.k_OwnError T2.n_OwnError (by decide))))))) (kI (kY (lu kB))) l4) (kI (kY (ni (fr:=["_law_found"]) (ix:=[1]) rfl (by exact (show CompOk ["_law_e","_law_found"] (kC nO) _ _ _ _ from cok)) (nu rfl T.b_range (ku kG kB)) (fun _ _ _ _ _=>(sN (nN (lr (kP hr) (ky 1) (ky 0) (fun _ _=>rfl))))) (fun _ _ _ _ _=>(ky 0)))))))))
abbrev pJ:bM:=top 56
theorem vQ:FnScope ["_law_book","_law_way","_law_name","_law_houses"] ["_law_book","_law_way","_law_name","_law_houses"] (kC pJ):=fsc
def pN (a:Adr):XS:=(xSeq (xIf (xTr (x2 (xVar 1) (xC (.int 0)) fEq)) (xRet (xCall 2 (mv a) (xCons (xVar 0) (xCons (xVar 2) xNil)))) xEnd) (xSeq (xIf (xTr (x2 (xVar 1) (xC (.int 1)) fEq)) (xRet (xCall 3 (lU a) (xCons (xVar 0) (xCons (xVar 2) (xCons (xLst xNil) xNil))))) xEnd) (xSeq (xIf (xTr (x2 (xVar 1) (xC (.int 2)) fEq)) (xRet (xCall 3 (lU a) (xCons (xVar 0) (xCons (xVar 2) (xCons (xLst (xCons (xTup (xCons (xC (.str "none")) (xCons (xLst (xCons (xVar 2) xNil)) xNil))) (xCons (xTup (xCons (xVar 2) (xCons (xLst xNil) xNil))) xNil))) xNil))))) xEnd) (xSeq (xIf (xTr (x2 (xVar 1) (xC (.int 3)) fEq)) (xRet (xCall 3 (mP a) (xCons (xVar 0) (xCons (xVar 2) (xCons (xVar 3) xNil))))) xEnd) (xSeq (xIf (xTr (x2 (xVar 1) (xC (.int 4)) fEq)) (xRet (xCall 3 (mP a) (xCons (xVar 0) (xCons (xVar 2) (xCons (xLst (xCons (xC (.str "none")) (xCons (xC (.str "none")) xNil))) xNil))))) xEnd) (xRet (xCall 2 (rQ a) (xCons (xVar 0) (xCons (xVar 2) xNil)))))))))
def lC (a:Adr):XF:=(fnD 4 (pN a))
theorem wf (F:Fun K "_law_asked" "_law_asked" pJ f fd) (T:Txt K mg a) (F_ruler:Fn P w K mg base "ruler" 10 ["book","house"] (spD K a.Book 2 (rQ a))) (F_rules:Fn P w K mg base "rules" 8 ["book","holder"] (spD K a.Book 2 (mv a))) (F_are_steps:Fn P w K mg base "are_steps" 6 ["book","holder","steps"] (spD K a.Book 3 (lU a))) (F_is_shut:Fn P w K mg base "is_shut" 6 ["book","holder","houses"] (spD K a.Book 3 (mP a))):FnOk P w K mg base (CXo P w) 11 f fd ["_law_book","_law_way","_law_name","_law_houses"] (spD K a.Book 4 (lC a)) :=
 mS F vQ rfl fun cdv A outer s H E hr=>(kE (oZ (pW (zN (w5 hr)) (ky 1) kG (lG _)) (kI (kY (k6 F_rules (hr.mono (by decide)) rfl kW (ku (ky 0) (ku (ky 2) kB))))) l4) (kE (oZ (pW (zN (w5 hr)) (ky 1) kG (lG _)) (kI (kY (k6 F_are_steps (hr.mono (by decide)) rfl kW (ku (ky 0) (ku (ky 2) (ku (lu kB) kB)))))) l4) (kE (oZ (pW (zN (w5 hr)) (ky 1) kG (lG _)) (kI (kY (k6 F_are_steps (hr.mono (by decide)) rfl kW (ku (ky 0) (ku (ky 2) (ku (lu (ku (rM (ku pB (ku (lu (ku (ky 2) kB)) kB))) (ku (rM (ku (ky 2) (ku (lu kB) kB))) kB))) kB)))))) l4) (kE (oZ (pW (zN (w5 hr)) (ky 1) kG (lG _)) (kI (kY (k6 F_is_shut (hr.mono (by decide)) rfl kW (ku (ky 0) (ku (ky 2) (ku (ky 3) kB)))))) l4) (kE (oZ (pW (zN (w5 hr)) (ky 1) kG (lG _)) (kI (kY (k6 F_is_shut (hr.mono (by decide)) rfl kW (ku (ky 0) (ku (ky 2) (ku (lu (ku pB (ku pB kB))) kB)))))) l4) (kI (kY (k6 F_ruler (hr.mono (by decide)) rfl kW (ku (ky 0) (ku (ky 2) kB))))))))))
abbrev oH:bM:=top 57
theorem sc__law_caught:FnScope ["_law_book","_law_way","_law_name","_law_houses","_law_kept","_law_e"] ["_law_book","_law_way","_law_name","_law_houses"] (kC oH):=fsc
def oM (a:Adr):XS:=(xSeq (xSet 4 (xC .non)) (xSeq (Ff 5 a.cl (xDo (sv 4 (lC a) (xCons (xVar 0) (xCons (xVar 1) (xCons (xVar 2) (xCons (xVar 3) xNil)))))) (xSet 4 (xVar 5))) (xRet (xVar 4))))
def mz (a:Adr):XF:=(fnD 6 (oM a))
theorem uE (F:Fun K "_law_caught" "_law_caught" oH f fd) (T:Txt K mg a) (T2:T2x K a) (F__law_asked:Fn P w K mg base "_law_asked" 11 ["_law_book","_law_way","_law_name","_law_houses"] (spD K a.Book 4 (lC a))):FnOk P w K mg base (CXo P w) 12 f fd ["_law_book","_law_way","_law_name","_law_houses"] (spD K a.Book 4 (mz a)) :=
 mS F sc__law_caught rfl fun cdv A outer s H E hr=>(kE (kS 4 sc__law_caught.nd rfl (bw rfl) AW) (kE (Iu rfl rfl rfl rfl (Is (Ix F__law_asked (hr.mono (by decide)) rfl (ku (ky 0) (ku (ky 1) (ku (ky 2) (ku (ky 3) kB)))))) rfl T.c_OwnError T.x_OwnError T2.tr sc__law_caught.nd rfl rfl (fun _=>(kI (kS 4 sc__law_caught.nd rfl (bw rfl) (ky 5))))) (kI (kY (ky 4)))))
abbrev nj:bM:=top 58
theorem uy:FnScope ["_law_book"] ["_law_book"] (kC nj):=fsc
def rG (a:Adr):XS:=(xRet (md (xIter (x2 (xBM 1 (li a) (xVar 0) xNil) (xBM 1 (lR a) (xVar 0) xNil) fAdd)) [0] oR (xLst (xCons (uF (xCall 2 (mv a) (xCons (xVar 1) (xCons (xVar 0) xNil)))) (xCons (xBM 1 (li a) (xVar 1) xNil) (xCons (xBM 1 (lR a) (xVar 1) xNil) xNil))))))
def mw (a:Adr):XF:=(fnD 1 (rG a))
theorem uD (F:Fun K "_law_looked" "_law_looked" nj f fd) (T:Txt K mg a) (F_rules:Fn P w K mg base "rules" 8 ["book","holder"] (spD K a.Book 2 (mv a))) (M_persons:Mt P w K mg base a.Book "persons" 1 ["self"] (spD K a.Book 1 (li a))) (M_houses:Mt P w K mg base a.Book "houses" 1 ["self"] (spD K a.Book 1 (lR a))):FnOk P w K mg base (CXo P w) 9 f fd ["_law_book"] (spD K a.Book 1 (mw a)) :=
 mS F uy rfl fun cdv A outer s H E hr=>(kI (kY (ni (fr:=["_law_book"]) (ix:=[0]) rfl (by exact (show CompOk ["_law_book"] (kC nj) _ _ _ _ from cok)) (oC (lA (uv (ky 0) M_persons rV (hr.mono (by decide)) kW) (uv (ky 0) M_houses tK (hr.mono (by decide)) kW))) (fun _ _ _ _ _=>m7) (fun _ _ _ _ _=>(lu (ku (Bn (k6 F_rules (hr.mono (by decide)) rfl kU (ku (ky 1) (ku (ky 0) kB)))) (ku (uv (ky 1) M_persons rV (hr.mono (by decide)) kU) (ku (uv (ky 1) M_houses tK (hr.mono (by decide)) kU) kB))))))))
abbrev ue:bM:=top 59
theorem sc_law:FnScope ["_law_script","_law_book","_law_people","_law_entries","_law_houses","_law_ahead","_law_names_here","_law_name","_law_way","_law_kept","_law_good"] ["_law_script"] (kC ue):=fsc
def vv (a:Adr) :XS:=(xSeq (xSet 9 (xCall 4 (mz a) (xCons (xVar 1) (xCons (xVar 8) (xCons (xVar 7) (xCons (xVar 4) xNil)))))) (xSeq (xSet 10 (xOrV (xAndV (x2 (xVar 8) (xC (.int 5)) fLt) (x2 (xVar 7) (xVar 6) fIn)) (x2 (xVar 7) (xVar 4) fIn))) (xIf (xOr (xAnd (xTr (xVar 10)) (xTr (x2 (xVar 9) (xC .non) fIsnt))) (xAnd (xNot (xTr (xVar 10))) (xTr (x2 (xCall 1 (mh a) (xCons (xVar 9) xNil)) (x2 (xLst (xCons (xLst (xCons (xC (.int 3)) xNil)) (xCons (xLst (xCons (xC (.int 4)) xNil)) xNil))) (xB (xCons (x2 (xVar 8) (xC (.int 5)) fEq) xNil) fInt) fIx) fNe)))) (xRet (xC (.bl false))) xEnd)))
def vt (a:Adr) :XS:=(xFor (xRng1 (xCons (xC (.int 6)) xNil)) (yName 8) (vv a))
def GZ (a:Adr):XS:=(xSeq (xAsg (xCall 1 (nT a) (xCons (xCall 1 (mi a) (xCons (xVar 0) xNil)) xNil)) (yTup 3 (yCons (yName 1) (yCons (yName 2) (yCons (yName 3) yNil))))) (xSeq (xSet 4 (xB (xCons (xVar 3) xNil) kF)) (xSeq (xSet 5 (xLst (xCons (xCall 1 (mw a) (xCons (xVar 1) xNil)) (xCons (md (xIter (xVar 4)) [1] oR (xTup (xCons (xBM 2 (lQ a) (xVar 1) (xCons (xVar 0) xNil)) (xCons (xBM 2 (BC a) (xVar 1) (xCons (xVar 0) xNil)) xNil)))) xNil)))) (xSeq (xSet 6 (x2 (xVar 2) (xVar 4) fAdd)) (xSeq (xFor (xIter (x2 (x2 (xVar 6) (xLst (xCons (xC (.str "")) (xCons (xC (.str "Ab")) (xCons (xC (.str "a b")) (xCons (xC (.str "ninefolds")) xNil))))) fAdd) (md (xIter (xVar 6)) [] oR (x2 (xVar 0) (xC (.str "q")) fAdd)) fAdd)) (yName 7) (vt a)) (xRet (x2 (xLst (xCons (xCall 1 (mw a) (xCons (xVar 1) xNil)) (xCons (md (xIter (xVar 4)) [1] oR (xTup (xCons (xBM 2 (lQ a) (xVar 1) (xCons (xVar 0) xNil)) (xCons (xBM 2 (BC a) (xVar 1) (xCons (xVar 0) xNil)) xNil)))) xNil))) (xVar 5) fEq)))))))
def yD (a:Adr):XF:=(fnD 11 (GZ a))
theorem HU (F:Fun K "law" "law" ue f fd) (T:Txt K mg a) (F__law_built:Fn P w K mg base "_law_built" 5 ["_law_purse_here"] (spD K a.Book 1 (nT a))) (F__law_purse:Fn P w K mg base "_law_purse" 1 ["_law_script"] (spD K a.Book 1 (mi a))) (F__law_looked:Fn P w K mg base "_law_looked" 9 ["_law_book"] (spD K a.Book 1 (mw a))) (F__law_caught:Fn P w K mg base "_law_caught" 12 ["_law_book","_law_way","_law_name","_law_houses"] (spD K a.Book 4 (mz a))) (M_shares:Mt P w K mg base a.Book "shares" 3 ["self","house"] (spD K a.Book 2 (lQ a))) (M_of:Mt P w K mg base a.Book "of" 3 ["self","house"] (spD K a.Book 2 (BC a))) (F__law_which:Fn P w K mg base "_law_which" 1 ["_law_e"] (spD K a.Book 1 (mh a))):FnOk P w K mg base (CXo P w) 13 f fd ["_law_script"] (spD K a.Book 1 (yD a)) :=
 mS F sc_law rfl fun cdv A outer s H E hr=>(kE (Iw (k6 F__law_built (hr.mono (by decide)) rfl kW (ku (k6 F__law_purse (hr.mono (by decide)) rfl kW (ku (ky 0) kB)) kB)) (AT rfl (oy (lS 1 sc_law.nd rfl (eM rfl)) (oy (lS 2 sc_law.nd rfl (bw rfl)) (oy (lS 3 sc_law.nd rfl (bw rfl)) yk))))) (kE (kS 4 sc_law.nd rfl (bw rfl) (ly (b_sorted rfl) rfl T.b_sorted nZ (ku (ky 3) kB))) (kE (kS 5 sc_law.nd rfl (bw rfl) (lu (ku (k6 F__law_looked (hr.mono (by decide)) rfl kW (ku (ky 1) kB)) (ku (ni (fr:=["_law_book"]) (ix:=[1]) rfl (by exact (show CompOk ["_law_script","_law_book","_law_people","_law_entries","_law_houses","_law_ahead","_law_names_here","_law_name","_law_way","_law_kept","_law_good"] (kC ue) _ _ _ _ from cok)) (oC (ky 4)) (fun _ _ _ _ _=>m7) (fun _ _ _ _ _=>(rM (ku (pX (ky 1) M_shares tJ (hr.mono (by decide)) kU (ku (ky 0) kB)) (ku (pX (ky 1) M_of GU (hr.mono (by decide)) kU (ku (ky 0) kB)) kB))))) kB)))) (kE (kS 6 sc_law.nd rfl (bw rfl) (lA (ky 2) (ky 4))) (kE (oN rfl (oC (lA (lA (ky 6) (lu (ku pB (ku pB (ku pB (ku pB kB)))))) (ni (fr:=[]) (ix:=[]) rfl (by exact (show CompOk ["_law_script","_law_book","_law_people","_law_entries","_law_houses","_law_ahead","_law_names_here","_law_name","_law_way","_law_kept","_law_good"] (kC ue) _ _ _ _ from cok)) (oC (ky 6)) (fun _ _ _ _ _=>m7) (fun _ _ _ _ _=>(lA (ky 0) pB))))) (lS 7 sc_law.nd rfl (bw rfl)) (kI (oN rfl (nu rfl T.b_range (ku kG kB)) (lS 8 sc_law.nd rfl (bw rfl)) (kE (kS 9 sc_law.nd rfl (bw rfl) (k6 F__law_caught (hr.mono (by decide)) rfl kU (ku (ky 1) (ku (ky 8) (ku (ky 7) (ku (ky 4) kB)))))) (kE (kS 10 sc_law.nd rfl (bw rfl) (de_or (E1 (sO c_lt (ky 8) kG (lG _)) (AV (sO (E2 (kP hr)) (ky 7) (ky 6) (by with_unfolding_all rfl)))) (AV (sO (E2 (kP hr)) (ky 7) (ky 4) (by with_unfolding_all rfl))))) (kI (oZ (DW.dt (CP (DW.dt (EZ (nN (ky 10)) (Bi (pW IE (ky 9) AW (lG _))))) (yx (DW.dt (EZ (rK (nN (ky 10))) (Bi (pW (c_ne (w5 hr)) (k6 F__law_which (hr.mono (by decide)) rfl kU (ku (ky 9) kB)) (lr (kP hr) (lu (ku (lu (ku kG kB)) (ku (lu (ku kG kB)) kB))) (xn b_int rfl T.b_int E3 (ku (sO (zN (w5 hr)) (ky 8) kG (lG _)) kB)) (fun _ _=>rfl)) (lG _)))))))) (kI (kY yB)) l4))))))) (kI (kY (sO (zN (w5 hr)) (lu (ku (k6 F__law_looked (hr.mono (by decide)) rfl kW (ku (ky 1) kB)) (ku (ni (fr:=["_law_book"]) (ix:=[1]) rfl (by exact (show CompOk ["_law_script","_law_book","_law_people","_law_entries","_law_houses","_law_ahead","_law_names_here","_law_name","_law_way","_law_kept","_law_good"] (kC ue) _ _ _ _ from cok)) (oC (ky 4)) (fun _ _ _ _ _=>m7) (fun _ _ _ _ _=>(rM (ku (pX (ky 1) M_shares tJ (hr.mono (by decide)) kU (ku (ky 0) kB)) (ku (pX (ky 1) M_of GU (hr.mono (by decide)) kU (ku (ky 0) kB)) kB))))) kB))) (ky 5) (lG _)))))))))
end
theorem EG {p q:Int×Int} (hp:Low p) (hq:Low q) (h:rv p=rv q):p=q:=by
 unfold rv at h
 rw [jq (by have:=hp.1;omega) (by have:=hq.1;omega)] at h
 exact uX hp hq h
def zU (l:List (Int×Int)):Int×Int:=l.foldl lH (0,1)
theorem BE {l m:List Rat} (h:l.Perm m):n9 l=n9 m:=by
 induction h with
 | nil=>rfl
 | cons x _ ih=>unfold n9;rw [ih]
 | swap x y l=>unfold n9;unfold n9;rw [← gj,← gj,Rat.add_comm y x]
 | trans _ _ h1 h2=>rw [h1,h2]
theorem zy:∀ (l:List (Int×Int)) (z:Int×Int),Low z→(∀ q∈l,Low q)→Low (l.foldl lH z)∧rv (l.foldl lH z)=rv z+n9 (l.map rv)
 | [],z,hz,_=>⟨hz,by show rv z=rv z+0;rw [Rat.add_zero]⟩
 | q::l,z,hz,h=>by
  have hq:=h q ar
  obtain ⟨h1,h2⟩:=zy l (lH z q) (sQ hz hq) fun x hx=>h x (ai _ hx)
  refine ⟨h1,?_⟩
  rw [gK,h2,AK hz.1 hq.1,gj]
  rfl
theorem GV:Low (0,1):=⟨by decide,(rfl:aO 0 1=1)⟩
theorem sD {l:List (Int×Int)} (h:∀ q∈l,Low q):Low (zU l)∧rv (zU l)=n9 (l.map rv):=by
 obtain ⟨h1,h2⟩:=zy l (0,1) GV h
 refine ⟨h1,?_⟩
 have h2':rv (zU l)=rv (0,1)+n9 (l.map rv):=h2
 rw [h2']
 have:rv (0,1)=0:=iT 1
 rw [this,jG]
theorem BF {l m:List (Int×Int)} (p:l.Perm m) (h:∀ q∈l,Low q):zU l=zU m:=by
 obtain ⟨h1,h2⟩:=sD h
 obtain ⟨h3,h4⟩:=sD (l:=m) fun q hq=>h q (p.mem_iff.mpr hq)
 exact EG h1 h3 (by rw [h2,h4];exact BE (p.map rv))
theorem Db {l:List (Int×Int)} (h:∀ q∈l,Low q) (h0:∀ q∈l,0≤q.1):zU l=zU (l.filter fun q=>decide (0 < q.1)):=by
 obtain ⟨h1,h2⟩:=sD h
 obtain ⟨h3,h4⟩:=sD (l:=l.filter fun q=>decide (0 < q.1)) fun q hq=>h q (ck.mp hq).1
 refine EG h1 h3 ?_
 rw [h2,h4]
 clear h1 h2 h3 h4
 induction l with
 | nil=>rfl
 | cons q l ih =>
  have ih:=ih (fun x hx=>h x (ai _ hx)) fun x hx=>h0 x (ai _ hx)
  rw [iK]
  by_cases c:0 < q.1
  ·rw [if_pos (decide_eq_true c),aD,aD]
   unfold n9
   rw [ih]
  ·rw [if_neg (by simpa using c),aD]
   have e:q.1=0:=by have:=h0 q ar;omega
   have:rv q=0:=by unfold rv;rw [e];exact iT _
   show rv q+n9 (l.map rv)=_
   rw [this,jG,ih]
def uG (l:Hl) (ns:List Str) (V:List Str):Int×Int:=zU ((ns.filter fun n=>decide (n∈V)).map (kM l))
theorem Ha {c:Nat}{hl hm:Hl} (h:HR c hl hm) (V:List Str):uG hl (srt (hl.map (·.1))) V=uG hm (hm.map (·.1)) V:=by
 have lw:∀ n,Low (kM hl n):=fun n=>(h.fr n).low
 have e:kM hm=kM hl:=by funext n;exact (h.q n).symm
 unfold uG
 rw [e]
 conv=>rhs;rw [Db (fun q hq=>by obtain ⟨n,_,rfl⟩:=am.mp hq;exact lw n) (fun q hq=>by obtain ⟨n,_,rfl⟩:=am.mp hq;exact (h.fr n).nn)]
 rw [dI,kr]
 refine BF (List.Perm.map _ ?_) fun q hq=>by obtain ⟨n,_,rfl⟩:=am.mp hq;exact lw n
 refine (jc ?_ ?_).mpr fun n=>?_
 ·exact ((kX _).nodup_iff.mpr h.n1).filter _
 ·exact h.n2.filter _
 ·rw [ck,ck,(kX _).mem_iff,h.nm]
  simp only [Function.comp,bY,decide_eq_true_eq]
  constructor
  ·rintro ⟨a1,a2⟩
   exact ⟨h.had (by rw [← h.q];exact a1),a1,a2⟩
  ·rintro ⟨_,a1,a2⟩
   exact ⟨a1,a2⟩
theorem qW:∀ U:List Str,toVs (U.map PV.str)=some (U.map V.str)
 | []=>rfl
 | x::r=>by
  rw [aD]
  unfold toVs
  rw [qW r]
  rfl
theorem vF (n:Str) (U:List Str):inV (.str n) (U.map V.str)=decide (n∈U):=by
 unfold inV
 rw [gE,bL,cP,decide_eq_true_iff]
 constructor
 ·rintro ⟨x,hx,e⟩
  have e:(x == n)=true:=e
  rw [← eq_of_beq e]
  exact hx
 ·intro h
  exact ⟨n,h,beq_self_eq_true n⟩
theorem tm (n:Str) (V:List Str) (s:Sto):fIn (.str n) (.lst (V.map .str)) s=.ok (.bl (decide (n∈V))) s:=by
 simp [fIn,k9,dcOf,toV,lsOf,qW,CU,vF]
theorem An (n:Str) (V:List Str) (s:Sto):rJ (.str n) (.lst (V.map .str)) s=.ok (.bl (!decide (n∈V))) s:=by
 simp [rJ,k9,dcOf,toV,lsOf,qW,CU,vF]
structure Acc (D:Int) (k:Nat) (r:Int×Int):Prop where
 low:Low r
 nn:0≤r.1
 le:r.1≤(2048 * k:Nat) * r.2
 on:∃ u,On D r u
theorem acc0 (D:Int):Acc D 0 (0,1):=⟨GV,by decide,by decide,0,Bc D⟩
theorem Acc.step {D:Int}{k:Nat}{r q:Int×Int} (h:Acc D k r) (g:FrC 11 q) (o:∃ u,On D q u):Acc D (k+1) (lH r q):=by
 have r2:=h.low.1
 have q2:=g.low.1
 have rq:=bG r2 q2
 have lo:=sQ h.low g.low
 have ev:=qT (p:=r) (q:=q) r2 q2
 obtain ⟨u1,o1⟩:=h.on
 obtain ⟨u2,o2⟩:=o
 have oo:=o1.add o2
 generalize lH r q=A at *
 have a2:=lo.1
 have n1:0≤r.1 * q.2:=fb h.nn (br q2)
 have n2:0≤q.1 * r.2:=fb g.nn (br r2)
 have l1:r.1 * q.2≤((2048 * k:Nat):Int) * r.2 * q.2:=aR h.le (br q2)
 have gl:q.1≤2048 * q.2:=g.le
 have l2:q.1 * r.2≤2048 * q.2 * r.2:=aR gl (br r2)
 have e1:((2048 * (k+1):Nat):Int) * (r.2 * q.2)=((2048 * k:Nat):Int) * r.2 * q.2+2048 * q.2 * r.2:=by
  have:((2048 * (k+1):Nat):Int)=((2048 * k:Nat):Int)+2048:=by omega
  rw [this,kf,bc,bc,bC q.2 r.2]
 have l3:r.1 * q.2+q.1 * r.2≤((2048 * (k+1):Nat):Int) * (r.2 * q.2):=by rw [e1];omega
 refine ⟨lo,?_,?_,_,oo⟩
 ·have:0≤A.1 * (r.2 * q.2):=by rw [ev];exact fb (by omega) (br a2)
  rcases Int.lt_or_le A.1 0 with z | z
  ·have:=jo z rq
   omega
  ·exact z
 ·refine d6 (a:=r.2 * q.2) ?_ rq
  rw [ev]
  have:=aR l3 (br a2)
  rw [bc] at this
  rw [bc,bC A.2]
  exact this
theorem Acc.bb {D:Int}{k:Nat}{r:Int×Int} (h:Acc D k r) (d0:0 < D) (hD:Bt 1035 D):Bt 1035 r.2:=hD.dvd (by omega) (let ⟨_,o⟩:=h.on;o.dvd)
theorem Acc.top {D:Int}{k:Nat}{r:Int×Int} (h:Acc D k r) (hk:k≤12) (d0:0 < D) (hD:Bt 1035 D):Bt 1051 r.1:=by
 have r2:=h.low.1
 have hp:((2048 * k:Nat):Int)≤24576:=by omega
 have:r.1≤24576 * r.2:=d9 h.le (aR hp (br r2))
 have b2:Bt 1051 (24576 * r.2):=(Bt.mul (by unfold Bt;decide:Bt 16 24576) (h.bb d0 hD)).mono (by omega)
 have h0:=h.nn
 unfold Bt at b2 ⊢
 omega
theorem Acc.sz {D:Int}{k:Nat}{r:Int×Int} (h:Acc D k r) (hk:k≤12) (d0:0 < D) (hD:Bt 1035 D):Sz r:=⟨h.low,(h.top hk d0 hD).mono (by omega),(h.bb d0 hD).mono (by omega)⟩
theorem wG (l:Hl) (ns V:List Str) (n:Str):uG l (ns++[n]) V=if n∈V then lH (uG l ns V) (kM l n) else uG l ns V:=by
 unfold uG zU
 rw [List.filter_append,aW,List.foldl_append]
 by_cases h:n∈V
 ·simp [h]
 ·simp [h]
theorem yX {D:Int} (l:Hl) (V:List Str) (hf:∀ n,FrC 11 (kM l n)) (ho:∀ n,∃ u,On D (kM l n) u):∀ ns:List Str,∃ k,k≤ns.length∧Acc D k (uG l ns V):=by
 have:∀ r:List Str,∃ k,k≤r.reverse.length∧Acc D k (uG l r.reverse V):=by
  intro r
  induction r with
  | nil=>exact ⟨0,aC _,acc0 D⟩
  | cons n r ih =>
   obtain ⟨k,hk,h⟩:=ih
   rw [eW,wG]
   by_cases z:n∈V
   ·rw [if_pos z]
    exact ⟨k+1,by simp at hk ⊢;omega,h.step (hf n) (ho n)⟩
   ·rw [if_neg z]
    exact ⟨k,by simp at hk ⊢;omega,h⟩
 intro ns
 have:=this ns.reverse
 rwa [gT] at this
theorem DJ (a:Adr) (s:Sto) {D:Int}{k:Nat}{r q:Int×Int} (h:Acc D k r) (hk:k≤12) (d0:0 < D) (hD:Bt 1035 D) (g:FrC 11 q):uw a [frP r,frP q] s=.ok (frP (lH r q)) s:=by
 have h1:=h.sz hk d0 hD
 have h2:=g.sz (by omega)
 simp [uw,frP,h1,h2]
def above (q:Int×Int):Bool:=decide (q.2 < q.1 * 2)
theorem Ag (a:Adr) {t:Sto}{nb:Nat}{pp:List Str}{L:List Ent}{e:Ent}{h:Str}{hm:Hl} (U:List Str) (hg:t.get nb=some (.book pp L)) (hf:m6 L h=some e) (hn:Nm h) (hr:HR 11 e.held hm) :
  mO a [.ref nb,.lst (U.map .str),.str h] t=.ok (.bl (above (uG e.held (srt (e.held.map (·.1))) U))) t:=by
 have hl6:e.held.length≤12:=hr.l1
 obtain ⟨D,U0,d0,dB,dn⟩:=hr.dv
 have ho:∀ n,∃ u,On D (kM e.held n) u:=fun n=>⟨_,by rw [hr.q];exact dn n⟩
 have dB:Bt 1035 D:=dB
 have hsh:lQ a [.ref nb,.str h] t=.ok (p7 e.held) t:=by simp [lQ,k7,hg,hf,hn];omega
 obtain ⟨ρ',s',hl,rfl,u1,u2,rfl⟩:=uY (body:=kZ (yTup 2 (yCons (yName 4) (yCons (yName 5) yNil))) (nE a)) ((srt (e.held.map (·.1))).map fun n=>yu (lN e.held n))
  (fun k ρ s=>t=s∧∃ u1 u2,ρ=[some (.ref nb),some (.lst (U.map .str)),some (.str h),some (frP (uG e.held ((srt (e.held.map (·.1))).take k) U)),u1,u2])
  (fun k q ρ s hq hI=>by
   obtain ⟨rfl,u1,u2,rfl⟩:=hI
   rw [bv] at hq
   cases hw:(srt (e.held.map (·.1)))[k]? with
   | none=>rw [hw] at hq;cases hq
   | some n =>
    rw [hw] at hq
    cases hq
    have hk:k < (srt (e.held.map (·.1))).length:=(aZ.mp hw).1
    rw [kO,aq] at hk
    have et:(srt (e.held.map (·.1))).take (k+1)=(srt (e.held.map (·.1))).take k++[n]:=by rw [dO,hw];rfl
    obtain ⟨j,hj,ac⟩:=yX e.held U hr.fr ho ((srt (e.held.map (·.1))).take k)
    rw [ci] at hj
    have hp:=DJ a t ac (by omega) d0 dB (hr.fr n)
    rw [et,wG]
    generalize uG e.held ((srt (e.held.map (·.1))).take k) U=v at *
    refine ⟨_,_,?_,rfl,some (.str n),some (frP (kM e.held n)),rfl⟩
    have hi:=tm n U t
    by_cases z:n∈U
    ·simp only [z,if_true]
     simp only [fIn] at hi
     simp [sem,kF,k8,kZ,nE,yu,tP,hi,z,hp]
    ·simp only [z,if_false]
     simp only [fIn] at hi
     simp [sem,kF,k8,kZ,nE,yu,tP,hi,z]) (ρ:=[some (.ref nb),some (.lst (U.map .str)),some (.str h),some (.tup [.int 0,.int 1]),none,none]) (s:=t) ⟨rfl,none,none,rfl⟩
 rw [aq,fj] at hl
 obtain ⟨j,hj,ac⟩:=yX e.held U hr.fr ho (srt (e.held.map (·.1)))
 rw [kO,aq] at hj
 have z1:=ac.sz (by omega) d0 dB
 generalize uG e.held (srt (e.held.map (·.1))) U=v at *
 have z2:Sz (1,2):=⟨⟨by decide,(rfl:aO 1 2=1)⟩,bt1 (by omega),by unfold Bt;exact aA (by decide:2 < 2 ^ 2) (cH (by decide) (by decide))⟩
 have hab:nq a [frP v,.tup [.int 1,.int 2]] t=.ok (.bl (above v)) t:=by simp [nq,frP,z1,z2,above]
 have e1:xFor (xIter (xBM 2 (lQ a) (xVar 0) (xCons (xVar 2) xNil))) (yTup 2 (yCons (yName 4) (yCons (yName 5) yNil))) (nE a) [some (.ref nb),some (.lst (U.map .str)),some (.str h),some (.tup [.int 0,.int 1]),none,none] t=.nx [some (.ref nb),some (.lst (U.map .str)),some (.str h),some (frP v),u1,u2] t:=by
  refine rH (l:=((srt (e.held.map (·.1))).map fun n=>yu (lN e.held n))) (s1:=t) ?_ hl
  simp [sem,k9,kF,k8,hg,hsh,p7]
 refine ms (v:=.bl (above v)) (s':=t) ?_
 unfold xf
 rw [kL (ρ':=[some (.ref nb),some (.lst (U.map .str)),some (.str h),some (.tup [.int 0,.int 1]),none,none]) (s':=t) (by simp [sem,k9,kF,k8,AY])]
 rw [kL e1]
 simp [sem,k9,kF,k8,AZ,hab]
theorem oj {fi:XA}{ix:List Nat}{c:XT}{e:XE}{ρ:En}{s s1 s2:Sto}{l vs:List PV} (h1:fi ρ s=.ok l s1) (hl:l.length≤100000) (h2:lX c e (lJ ix ρ) l s1=.ok vs s2):md fi ix c e ρ s=.ok (.lst vs) s2:=by
 unfold md
 rw [h1]
 simp only [Out.bind,hl,if_true]
 rw [h2]
theorem nM {f:XE}{ρ:En}{s s':Sto}{v:PV} (h:f ρ s=.ok v s'):xRet f ρ s=.rt v s':=by
 unfold xRet
 rw [h]
 rfl
theorem sx {f g:XS}{ρ:En}{s s':Sto}{v:PV} (h:f ρ s=.rt v s'):xSeq f g ρ s=.rt v s':=by unfold xSeq;rw [h]
def lk (M:List (Str×Hl)) (h:Str):Hl:=((M.find? fun m=>decide (m.1=h)).map (·.2)).getD []
def win (M:List (Str×Hl)) (U:List Str) (h:Str):Bool:=above (uG (lk M h) ((lk M h).map (·.1)) U)
theorem rT {N:List Str}{c:Nat}{L:List Ent}{M:List (Str×Hl)} (P:Pairs N c L M) {h:Str} (hh:h∈M.map (·.1)):∃ e,m6 L h=some e∧HR c e.held (lk M h)∧oz (qM M) (aE h)=some (.dct (hP (lk M h))):=by
 induction P with
 | nil=>cases hh
 | @cons e m L M h1 h2 h3 h4 P ih =>
  by_cases z:m.1=h
  ·refine ⟨e,?_,?_,?_⟩
   ·unfold m6
    rw [bI,decide_eq_true (by rw [h1];exact z)]
   ·have:lk (m::M) h=m.2:=by unfold lk;rw [bI,decide_eq_true z];rfl
    rw [this]
    exact h2
   ·have:lk (m::M) h=m.2:=by unfold lk;rw [bI,decide_eq_true z];rfl
    rw [this]
    unfold qM
    simp [oz,z]
  ·have e1:lk (m::M) h=lk M h:=by unfold lk;rw [bI,decide_eq_false z]
   rw [aD,aj] at hh
   obtain ⟨e',g1,g2,g3⟩:=ih (hh.resolve_left fun y=>z y.symm)
   refine ⟨e',?_,?_,?_⟩
   ·unfold m6
    rw [bI,decide_eq_false (by rw [h1];exact z)]
    exact g1
   ·rw [e1];exact g2
   ·rw [e1,← g3]
    unfold qM
    simp [oz,z]
structure Wld (t:Sto) (nb:Nat) (pp hs:List Str) (L:List Ent) (M:List (Str×Hl)):Prop where
 w:Words pp hs
 p:Pairs (pp++hs) 11 L M
 n:L.map (·.nm)=hs
 g:t.get nb=some (.book pp L)
theorem Wld.names {t:Sto}{nb:Nat}{pp hs:List Str}{L:List Ent}{M:List (Str×Hl)} (W:Wld t nb pp hs L M):M.map (·.1)=hs:=by rw [← W.p.names,W.n]
section
variable {t:Sto}{nb:Nat}{pp hs:List Str}{L:List Ent}{M:List (Str×Hl)}
theorem Wld.outv (W:Wld t nb pp hs L M) (a:Adr) {h:Str} (hh:h∈hs) (U:List Str):mO a [.ref nb,.lst (U.map .str),.str h] t=.ok (.bl (win M U h)) t:=by
 obtain ⟨e,h1,h2,h3⟩:=rT W.p (h:=h) (by rw [W.names];exact hh)
 rw [Ag a U W.g h1 (W.w.sm _ (aL _ hh)).nm h2,Ha h2]
 rfl
theorem Wld.outvd (W:Wld t nb pp hs L M) (a:Adr) (U:List Str):lY a [.ref nb,.lst (U.map .str)] t=.ok (.lst (((srt hs).filter (win M U)).map .str)) t:=by
 have hho:lR a [.ref nb] t=.ok (.lst ((srt hs).map .str)) t:=by simp [lR,k7,W.g,W.n]
 have hlen:(srt hs).length≤100000:=by rw [kO];have:=W.w.h8;omega
 have hc:=nA (s:=t) (cap:=[some (.ref nb),some (.lst (U.map .str))]) (c:=xTr (xCall 3 (mO a) (xCons (xVar 1) (xCons (xVar 2) (xCons (xVar 0) xNil))))) (e:=xVar 0)
  (fun q=>match q with | .str h=>win M U h | _=>false) id ((srt hs).map .str) (fun q hq=>by
   obtain ⟨h,hh,rfl⟩:=am.mp hq
   have:=W.outv a ((kX hs).mem_iff.mp hh) U
   simp [sem,k9,kF,k8,this]) (fun q hq _=>by simp [xVar])
 have e1:((((srt hs).map PV.str).filter fun q=>match q with | .str h=>win M U h | _=>false).map id)=((srt hs).filter (win M U)).map .str:=by
  rw [fZ,dI]
  rfl
 rw [e1] at hc
 refine ms ?_
 unfold vf
 refine nM (oj (l:=(srt hs).map .str) (s1:=t) (by simp [sem,k9,kF,k8,W.g,hho]) (by simpa using hlen) hc)
def unl (U:List Str):Bool:=decide (((sW U).length:Int)=(U.length:Int))
theorem wI (a:Adr) (t:Sto) (U:List Str) (hU:U.length < 4000):lV a [.lst (U.map .str)] t=.ok (.bl (unl U)) t:=by
 simp [sem,k9,kF,k8,lV,si,xV,oa,hU,m8,oV,unl]
 rfl
theorem pd (l:List Bool):vq (l.map PV.bl)=some l:=by
 induction l with
 | nil=>rfl
 | cons x r ih=>rw [aD];unfold vq;rw [ih];rfl
def ww (M:List (Str×Hl)) (hs:List Str) (w:Str) (U:List Str):Bool:=unl U && U.all (fun n=>decide (n∈hs)) && ((srt hs).filter (win M (w::U))).all fun h=>decide (h∈U)
theorem Wld.shut (W:Wld t nb pp hs L M) (a:Adr) {w:Str} (hw:w∈pp++hs) (U:List Str) (hU:U.length < 4000):mP a [.ref nb,.str w,.lst (U.map .str)] t=.ok (.bl (ww M hs w U)) t:=by
 have hne:kQ a [.ref nb,.str w] t=.ok .non t:=by
  have h1:(mq pp w || me L w)=true:=by
   rw [cX,ou,lM,W.n]
   exact aM.mp hw
  simp [kQ,k7,W.g,(W.w.sm _ hw).nm]
  intro z
  rw [z,gi] at h1
  exact h1
 have hun:=wI a t U hU
 have hih:∀ n,lv a [.ref nb,.str n] t=.ok (.bl (decide (n∈hs))) t:=fun n=>by
  have:me L n=decide (n∈hs):=by
   rw [bL,lM,W.n,decide_eq_true_iff]
  simp [lv,k7,W.g,this]
 have c1:=nA (s:=t) (cap:=[some (.ref nb)]) (c:=oR) (e:=xBM 2 (lv a) (xVar 1) (xCons (xVar 0) xNil)) (fun _=>true) (fun q=>match q with | .str n=>PV.bl (decide (n∈hs)) | _=>.non) (U.map .str) (fun q hq=>rfl) (fun q hq _=>by
  obtain ⟨n,hn,rfl⟩:=am.mp hq
  simp [sem,k9,kF,k8,W.g,hih])
 have e1:(((U.map PV.str).filter fun _=>true).map fun q=>match q with | .str n=>PV.bl (decide (n∈hs)) | _=>.non)=(U.map fun n=>decide (n∈hs)).map PV.bl:=by
  rw [cN.mpr (fun _ _=>rfl),a7,a7]
  rfl
 rw [e1] at c1
 have hov:=W.outvd a (w::U)
 have c2:=nA (s:=t) (cap:=[some (.lst (U.map .str))]) (c:=oR) (e:=x2 (xVar 0) (xVar 1) fIn) (fun _=>true) (fun q=>match q with | .str n=>PV.bl (decide (n∈U)) | _=>.non) (((srt hs).filter (win M (w::U))).map .str) (fun q hq=>rfl) (fun q hq _=>by
  obtain ⟨n,hn,rfl⟩:=am.mp hq
  have:=tm n U t
  simp only [x2,xVar,Out.bind,ag,ah,this])
 have e2:(((((srt hs).filter (win M (w::U))).map PV.str).filter fun _=>true).map fun q=>match q with | .str n=>PV.bl (decide (n∈U)) | _=>.non)=(((srt hs).filter (win M (w::U))).map fun n=>decide (n∈U)).map PV.bl:=by
  rw [cN.mpr (fun _ _=>rfl),a7,a7]
  rfl
 rw [e2] at c2
 have d1:md (xIter (xVar 2)) [0] oR (xBM 2 (lv a) (xVar 1) (xCons (xVar 0) xNil)) [some (.ref nb),some (.str w),some (.lst (U.map .str))] t=.ok (.lst ((U.map fun n=>decide (n∈hs)).map PV.bl)) t:=oj (l:=U.map .str) (s1:=t) (by simp [sem,k9,kF,k8]) (by simp;omega) c1
 have hl2:((srt hs).filter (win M (w::U))).length≤100000:=by
  refine aN (cR _ _) ?_
  rw [kO]
  have:=W.w.h8
  omega
 have hcat:1+U.length≤100000:=by omega
 have d2:md (xIter (xCall 2 (lY a) (xCons (xVar 0) (xCons (x2 (xLst (xCons (xVar 1) xNil)) (xVar 2) fAdd) xNil)))) [2] oR (x2 (xVar 0) (xVar 1) fIn) [some (.ref nb),some (.str w),some (.lst (U.map .str))] t=.ok (.lst ((((srt hs).filter (win M (w::U))).map fun n=>decide (n∈U)).map PV.bl)) t:=by
  refine oj (l:=((srt hs).filter (win M (w::U))).map .str) (s1:=t) ?_ (by simpa using hl2) c2
  rw [aD] at hov
  simp [sem,k9,kF,k8,hov,hcat]
 refine ms ?_
 unfold tQ
 rw [kL (ρ':=[some (.ref nb),some (.str w),some (.lst (U.map .str))]) (s':=t) (by simp [sem,k9,kF,k8,W.g,hne])]
 by_cases z:(unl U && U.all fun n=>decide (n∈hs))=true
 ·have z1:unl U=true:=by rw [bY] at z;exact z.1
  have z2:(U.all fun n=>decide (n∈hs))=true:=by rw [bY] at z;exact z.2
  have z3:(U.map fun n=>decide (n∈hs)).all id=true:=by rw [fL];exact z2
  generalize (U.map fun n=>decide (n∈hs))=bs at d1 z3
  rw [kL (ρ':=[some (.ref nb),some (.str w),some (.lst (U.map .str))]) (s':=t) (by simp [sem,k9,kF,k8,hun,d1,pd,z1,z3])]
  refine nM ?_
  have e3:ww M hs w U=(((srt hs).filter (win M (w::U))).map fun n=>decide (n∈U)).all id:=by
   unfold ww
   rw [z,dL,fL]
   rfl
  rw [e3]
  simp only [xB,xCons,xNil,Out.bind,d2,fAll,lsOf,pd]
 ·have e3:ww M hs w U=false:=by
   unfold ww
   rw [bU.mpr z,dW]
  rw [e3]
  refine sx ?_
  by_cases z1:unl U=true
  ·have z2:(U.map fun n=>decide (n∈hs)).all id=false:=by
    rw [fL,bU]
    intro y
    exact z (by rw [z1,dL];exact y)
   generalize (U.map fun n=>decide (n∈hs))=bs at d1 z2
   simp [sem,k9,kF,k8,hun,d1,pd,z1,z2]
  ·simp [sem,k9,kF,k8,hun,z1]
def again (U:List Str) (k:Nat):Bool:=decide (U.getD k (aF "")∈U.take k)
abbrev LS (U:List Str):PV:=.lst (U.map .str)
theorem wX (s:Sto) (k:Nat):∀ (U:List Str),(∀ x∈U,cB x=true)→tW (PV.data s (k+1)) (U.map PV.str)=some (U.map PyData.str)
 | [],_=>rfl
 | x::r,h=>by
  rw [aD]
  unfold tW
  rw [wX s k r fun y hy=>h y (ai _ hy)]
  have e:PV.data s (k+1) (.str x)=some (.str x):=by unfold PV.data;rw [if_pos (h x ar)]
  rw [e]
  rfl
theorem zY {x:Str} (h:Sm x):cB x=true:=by
 unfold cB
 rw [← Array.all_toList,dw]
 intro c hc
 exact decide_eq_true (e9 (h.2 c hc) (by decide))
theorem tZ:∀ M:List (Str×Hl),keysOf (qM M)=some (M.map (·.1))
 | []=>rfl
 | m::M=>by
  have:=tZ M
  unfold qM at this ⊢
  rw [aD]
  unfold keysOf
  rw [this]
  rfl
def lE (M:List (Str×Hl)) (hs:List Str) (w:Str) (lot:List Str):List Str:=(srt hs).filter fun n=>!decide (n∈lot) && win M (w::lot) n
theorem Wld.srtE (W:Wld t nb pp hs L M) (t':Sto):kF [.dct (qM M)] t'=.ok (LS (srt hs)) t':=by
 have h8:=W.w.h8
 have:hs.length < 64:=by omega
 simp [kF,lsOf,dcOf,tZ,W.names,this]
theorem Cf {l m:List Str} (h1:l.Nodup) (h2:m.Nodup) (h:∀ n∈l,n∈m):l.length≤m.length:=by
 have:l.Perm (m.filter fun n=>decide (n∈l)):=(jc h1 (h2.filter _)).mpr fun n=>by
  rw [ck,decide_eq_true_iff]
  exact ⟨fun z=>⟨h n z,z⟩,fun z=>z.2⟩
 rw [this.length_eq]
 exact cR _ _
theorem sX (W:Wld t nb pp hs L M) (w:Str) {lot:List Str} (h1:lot.Nodup) (h2:∀ n∈lot,n∈hs):(lot++lE M hs w lot).Nodup∧(∀ n∈lot++lE M hs w lot,n∈hs)∧(lot++lE M hs w lot).length≤hs.length:=by
 have ndh:hs.Nodup:=(bT.mp W.w.nd).2.1
 have a1:(lot++lE M hs w lot).Nodup:=by
  refine bT.mpr ⟨h1,((kX hs).nodup_iff.mpr ndh).filter _,fun x hx y hy e=>?_⟩
  have:=(ck.mp hy).2
  rw [bY] at this
  rw [← e,decide_eq_true hx] at this
  exact absurd this.1 (by decide)
 have a2:∀ n∈lot++lE M hs w lot,n∈hs:=fun n hn=>by
  rcases aM.mp hn with h | h
  ·exact h2 n h
  ·exact (kX hs).mem_iff.mp (ck.mp h).1
 exact ⟨a1,a2,Cf a1 ndh a2⟩
inductive Gr (M:List (Str×Hl)) (w:Str):List Str→Prop
 | nil:Gr M w []
 | add {V X:List Str}:Gr M w V→(∀ n∈X,win M (w::V) n=true)→Gr M w (V++X)
def rnd (M:List (Str×Hl)) (hs:List Str) (w:Str):Nat→List Str→List (List Str)
 | 0,_=>[]
 | k+1,lot=>if lE M hs w lot=[] then [] else lE M hs w lot::rnd M hs w k (lot++lE M hs w lot)
def rcs (n:Nat):List (List Str)→List (Nat×Cell)
 | []=>[]
 | r::R=>(n+R.length,.lst (r.map .str))::rcs n R
def sf (n k:Nat):List PV:=(dG k).map fun i=>.ref (n+i)
theorem BQ (n k:Nat):sf n (k+1)=sf n k++[.ref (n+k)]:=by unfold sf;rw [List.range_succ,aW];rfl
def rst (t:Sto) (R:List (List Str)) (x:List (Nat×Cell)) (k:Nat):Sto:=⟨t.nx+1+R.length+k,x++(rcs (t.nx+1) R++(t.nx,.lst (sf (t.nx+1) R.length))::t.cs)⟩
theorem sJ {n m:Nat} (h:m < n) (lK:List (Nat×Cell)):∀ R:List (List Str),lL (rcs n R++lK) m=lL lK m
 | []=>rfl
 | r::R=>by
  show lL ((n+R.length,_)::(rcs n R++lK)) m=_
  rw [lc,if_neg (by omega),sJ h lK R]
theorem zc {n m:Nat} (h:m < n) (c:Cell) (lK:List (Nat×Cell)):∀ R:List (List Str),mE m c (rcs n R++lK)=rcs n R++mE m c lK
 | []=>rfl
 | r::R=>by
  show mE m c ((n+R.length,_)::(rcs n R++lK))=(n+R.length,_)::(rcs n R++mE m c lK)
  rw [← zc h c lK R]
  conv=>lhs;unfold mE
  rw [if_neg (by omega)]
theorem Fy (hnb:nb < t.nx) (R:List (List Str)):(rst t R [] 0).get nb=t.get nb:=by
 unfold rst Sto.get
 rw [cW,sJ (by omega),lc,if_neg (by omega)]
theorem Wld.rst (W:Wld t nb pp hs L M) (hnb:nb < t.nx) (R:List (List Str)):Wld (My.rst t R [] 0) nb pp hs L M:=⟨W.w,W.p,W.n,(Fy hnb R).trans W.g⟩
def drL (a:Adr) (l:List PV) (p:PV) (s:Sto):Out PV:=noX ((xCall 2 (lY a) (xCons (xVar 1) (xCons (x2 (xLst (xCons (xVar 2) xNil)) (xVar 0) fAdd) xNil))) (some p::l.map some) s)
theorem Wld.drL (W:Wld t nb pp hs L M) (a:Adr) (w:Str) (lot:List Str) (hl:lot.length≤8):My.drL a [.ref nb,.str w] (LS lot) t=.ok (LS ((srt hs).filter (win M (w::lot)))) t:=by
 have h:=W.outvd a (w::lot)
 have hcat:1+lot.length≤100000:=by omega
 rw [aD] at h
 unfold My.drL
 simp [sem,k9,kF,k8,h,hcat,noX]
theorem FX (w:Str) (lot:List Str):(((srt hs).filter (win M (w::lot))).filter fun n=>!decide (n∈lot))=lE M hs w lot:=by
 unfold lE
 rw [kr]
theorem Wld.compR (W:Wld t nb pp hs L M) (hnb:nb < t.nx) (a:Adr) (f:ae) (ws:List V) (w:Str) (lot:List Str) (hl:lot.length≤8) (R:List (List Str)) (o1 o3:Option PV) :
  uk (xIter (ul 0 f ws (My.drL a) (xVar 2))) [2] (xTr (x2 (xVar 0) (xVar 1) rJ)) (xVar 0) [some (.clo f ws [.ref nb,.str w]),o1,some (LS lot),o3] (My.rst t R [] 0)=.ok (.ref (t.nx+1+R.length)) (My.rst t R [(t.nx+1+R.length,.lst ((lE M hs w lot).map .str))] 1):=by
 have h1:=(W.rst hnb R).drL a w lot hl
 have h8:=W.w.h8
 have c:=nA (s:=My.rst t R [] 0) (cap:=[some (LS lot)]) (c:=xTr (x2 (xVar 0) (xVar 1) rJ)) (e:=xVar 0) (fun q=>match q with | .str n=>!decide (n∈lot) | _=>false) id (((srt hs).filter (win M (w::lot))).map .str) (fun q hq=>by
  obtain ⟨n,hn,rfl⟩:=am.mp hq
  have h1:=An n lot (My.rst t R [] 0)
  simp [sem,kF,k8,h1,rJ]) (fun q hq _=>by simp [xVar])
 have e1:((((((srt hs).filter (win M (w::lot))).map PV.str).filter fun q=>match q with | .str n=>!decide (n∈lot) | _=>false)).map id)=(lE M hs w lot).map .str:=by
  rw [fZ,dI,← FX]
  rfl
 rw [e1] at c
 have hlen:(((srt hs).filter (win M (w::lot))).map PV.str).length≤100000:=by
  rw [aq]
  exact aN (cR _ _) (by rw [kO];omega)
 have h2:xIter (ul 0 f ws (My.drL a) (xVar 2)) [some (.clo f ws [.ref nb,.str w]),o1,some (LS lot),o3] (My.rst t R [] 0)=.ok (((srt hs).filter (win M (w::lot))).map .str) (My.rst t R [] 0):=by
  simp only [xIter,ul,ag,ah,and_self,if_true,xVar,Out.bind,h1,noX,lsOf]
 unfold uk
 rw [h2]
 simp only [Out.bind,if_pos hlen]
 have c':lX (xTr (x2 (xVar 0) (xVar 1) rJ)) (xVar 0) (lJ [2] [some (.clo f ws [.ref nb,.str w]),o1,some (LS lot),o3]) (((srt hs).filter (win M (w::lot))).map .str) (My.rst t R [] 0)=.ok ((lE M hs w lot).map .str) (My.rst t R [] 0):=c
 rw [c']
 rfl
theorem Ge (s:Sto) {n:Nat}{U:List Str} (hg:s.get n=some (.lst (U.map .str))) (h:∀ x∈U,cB x=true):fEq (.ref n) (.lst []) s=.ok (.bl (decide (U=[]))) s:=by
 have e2:PV.data s 12 (.ref n)=some (.list (U.map PyData.str)):=by
  unfold PV.data
  rw [hg]
  simp only
  rw [wX s 10 U h]
  rfl
 have e3:PV.data s 12 (.lst [])=some (.list []):=rfl
 unfold fEq fEqN
 rw [e2,e3]
 unfold fK
 cases U with
 | nil=>simp [PyData.eqvAll]
 | cons x r=>simp [PyData.eqvAll]
theorem Hq (t:Sto) (R:List (List Str)) (c:Cell):(rst t R [(t.nx+1+R.length,c)] 1).get (t.nx+1+R.length)=some c:=by
 show lL ((t.nx+1+R.length,c)::_) _=_
 rw [lc,if_pos rfl]
theorem zg (t:Sto) (R:List (List Str)) (c:Cell):(rst t R [(t.nx+1+R.length,c)] 1).get t.nx=some (.lst (sf (t.nx+1) R.length)):=by
 show lL ((t.nx+1+R.length,c)::(rcs (t.nx+1) R++_)) _=_
 rw [lc,if_neg (by omega),sJ (by omega),lc,if_pos rfl]
theorem Fx (t:Sto) (R:List (List Str)) (r:List Str):(rst t R [(t.nx+1+R.length,.lst (r.map .str))] 1).set t.nx (.lst (sf (t.nx+1) R.length++[.ref (t.nx+1+R.length)]))=rst t (r::R) [] 0:=by
 unfold rst Sto.set
 have e:mE t.nx (.lst (sf (t.nx+1) R.length++[.ref (t.nx+1+R.length)])) ([(t.nx+1+R.length,.lst (r.map .str))]++(rcs (t.nx+1) R++(t.nx,.lst (sf (t.nx+1) R.length))::t.cs))=(t.nx+1+R.length,.lst (r.map .str))::(rcs (t.nx+1) R++(t.nx,.lst (sf (t.nx+1) (R.length+1)))::t.cs):=by
  show mE t.nx _ ((t.nx+1+R.length,_)::(rcs (t.nx+1) R++(t.nx,Cell.lst (sf (t.nx+1) R.length))::t.cs))=_
  conv=>lhs;unfold mE
  rw [if_neg (by omega),zc (by omega),BQ]
  congr 2
  conv=>lhs;unfold mE
  rw [if_pos rfl]
 show Sto.mk _ (mE _ _ _)=_
 rw [e]
 rfl
theorem Wld.stepR (W:Wld t nb pp hs L M) (hnb:nb < t.nx) (a:Adr) (f:ae) (ws:List V) (w:Str) (lot:List Str) (hl:lot.length≤8) (hl2:(lot++lE M hs w lot).length≤8) (hlh:∀ n∈lE M hs w lot,n∈hs) (R:List (List Str)) (hR:R.length≤8) (o3:Option PV) :
  ol a f ws (My.drL a) [some (.clo f ws [.ref nb,.str w]),some (.ref t.nx),some (LS lot),o3] (My.rst t R [] 0) =
   if lE M hs w lot=[] then .rt (.ref t.nx) (My.rst t R [(t.nx+1+R.length,.lst [])] 1) else .nx [some (.clo f ws [.ref nb,.str w]),some (.ref t.nx),some (LS (lot++lE M hs w lot)),some (.ref (t.nx+1+R.length))] (My.rst t (lE M hs w lot::R) [] 0):=by
 have h1:=W.compR hnb a f ws w lot hl R (some (.ref t.nx)) o3
 have smh:∀ n∈lE M hs w lot,cB n=true:=fun n hn=>zY (W.w.sm n (aL _ (hlh n hn)))
 generalize lE M hs w lot=nx at *
 have h2:=Hq t R (.lst (nx.map .str))
 have h3:=zg t R (.lst (nx.map .str))
 have h4:=Ge _ h2 smh
 have h5:=Fx t R nx
 have hcat:lot.length+nx.length≤100000:=by rw [aT] at hl2;omega
 have hrl:(sf (t.nx+1) R.length).length < 100000:=by unfold sf;rw [aq,List.length_range];omega
 unfold ol
 rw [kL (ρ':=[some (.clo f ws [.ref nb,.str w]),some (.ref t.nx),some (LS lot),some (.ref (t.nx+1+R.length))]) (s':=My.rst t R [(t.nx+1+R.length,.lst (nx.map .str))] 1) (by simp only [xSet,h1,Out.so];rfl)]
 by_cases e:nx=[]
 ·subst e
  rw [if_pos rfl]
  refine sx ?_
  simp only [xIf,xTr,x2,xVar,xLst,xNil,Out.bind,ag,ah,aH,bA,if_true,h4,Out.so,xRet,decide_true]
  rfl
 ·rw [if_neg e]
  rw [kL (ρ':=[some (.clo f ws [.ref nb,.str w]),some (.ref t.nx),some (LS lot),some (.ref (t.nx+1+R.length))]) (s':=My.rst t R [(t.nx+1+R.length,.lst (nx.map .str))] 1) (by
   simp only [xIf,xTr,x2,xVar,xLst,xNil,Out.bind,ag,ah,aH,bA,if_true,h4,Out.so,e,decide_false,xEnd]
   rfl)]
  rw [kL (ρ':=[some (.clo f ws [.ref nb,.str w]),some (.ref t.nx),some (LS lot),some (.ref (t.nx+1+R.length))]) (s':=My.rst t (nx::R) [] 0) (by
   rw [← h5]
   simp only [xDo,xAppend,xVar,xCons,xNil,Out.bind,ag,ah,h3,hrl,if_true,Out.so])]
  have h6:(My.rst t (nx::R) [] 0).get (t.nx+1+R.length)=some (.lst (nx.map .str)):=by
   show lL ((t.nx+1+R.length,_)::_) _=_
   rw [lc,if_pos rfl]
  simp [sem,k9,kF,k8,h6,hcat,LS]
theorem A3 {w:Str}{lot:List Str} (h:lE M hs w lot=[]) (k:Nat):rnd M hs w k lot=[]:=by
 cases k with
 | zero=>rfl
 | succ k=>unfold rnd;rw [if_pos h]
theorem zh {w:Str}{lot:List Str} (h:lE M hs w lot≠[]) (k:Nat):rnd M hs w (k+1) lot=lE M hs w lot::rnd M hs w k (lot++lE M hs w lot):=by
 conv=>lhs;unfold rnd
 rw [if_neg h]
theorem Wld.loopR (W:Wld t nb pp hs L M) (hnb:nb < t.nx) (a:Adr) (f:ae) (ws:List V) (w:Str):∀ (k:Nat) (lot:List Str) (R:List (List Str)) (o3:Option PV),lot.Nodup→(∀ n∈lot,n∈hs)→R.length≤lot.length→hs.length≤lot.length+k →
  ∃ n:Nat,lz (xTr (xC (.bl true))) (ol a f ws (My.drL a)) n [some (.clo f ws [.ref nb,.str w]),some (.ref t.nx),some (LS lot),o3] (My.rst t R [] 0)
  =.rt (.ref t.nx) (My.rst t ((rnd M hs w k lot).reverse++R) [(t.nx+1+((rnd M hs w k lot).reverse++R).length,.lst [])] 1):=by
 have h8:=W.w.h8
 have stop:∀ (k:Nat) (lot:List Str) (R:List (List Str)) (o3:Option PV),lot.Nodup→(∀ n∈lot,n∈hs)→R.length≤lot.length→lE M hs w lot=[]→∃ n:Nat,lz (xTr (xC (.bl true))) (ol a f ws (My.drL a)) n [some (.clo f ws [.ref nb,.str w]),some (.ref t.nx),some (LS lot),o3] (My.rst t R [] 0)
  =.rt (.ref t.nx) (My.rst t ((rnd M hs w k lot).reverse++R) [(t.nx+1+((rnd M hs w k lot).reverse++R).length,.lst [])] 1):=fun k lot R o3 h1 h2 h4 e=>by
  obtain ⟨a1,a2,a3⟩:=sX W w h1 h2
  have hll:lot.length≤8:=by rw [e,cg] at a3;omega
  have hst:=W.stepR hnb a f ws w lot hll (by omega) (fun n hn=>a2 n (aL _ hn)) R (by omega) o3
  rw [if_pos e] at hst
  refine ⟨1,?_⟩
  rw [A3 e]
  unfold lz
  simp only [xTr,xC,Out.bind,Out.so,if_true]
  rw [hst]
  rfl
 intro k
 induction k with
 | zero =>
  intro lot R o3 h1 h2 h4 h5
  obtain ⟨a1,a2,a3⟩:=sX W w h1 h2
  have e:lE M hs w lot=[]:=by
   rw [aT] at a3
   exact List.eq_nil_of_length_eq_zero (by omega)
  exact stop 0 lot R o3 h1 h2 h4 e
 | succ k ih =>
  intro lot R o3 h1 h2 h4 h5
  obtain ⟨a1,a2,a3⟩:=sX W w h1 h2
  by_cases e:lE M hs w lot=[]
  ·exact stop (k+1) lot R o3 h1 h2 h4 e
  ·have hpos:0 < (lE M hs w lot).length:=gZ.mpr e
   have hll:lot.length≤8:=by rw [aT] at a3;omega
   have hst:=W.stepR hnb a f ws w lot hll (by omega) (fun n hn=>a2 n (aL _ hn)) R (by omega) o3
   rw [if_neg e] at hst
   obtain ⟨n,g5⟩:=ih (lot++lE M hs w lot) (lE M hs w lot::R) (some (.ref (t.nx+1+R.length))) a1 a2 (by rw [aT,ap];omega) (by rw [aT];omega)
   refine ⟨n+1,?_⟩
   rw [zh e,eW,bZ,List.singleton_append]
   unfold lz
   simp only [xTr,xC,Out.bind,Out.so,if_true]
   rw [hst]
   exact g5
def rul (t:Sto) (Rs:List (List Str)):Sto:=My.rst t Rs.reverse [(t.nx+1+Rs.reverse.length,.lst [])] 1
theorem Wld.roundsR (W:Wld t nb pp hs L M) (hnb:nb < t.nx) (a:Adr) (f:ae) (ws:List V) (w:Str):qU a f ws (My.drL a) [.clo f ws [.ref nb,.str w]] t=.ok (.ref t.nx) (rul t (rnd M hs w hs.length [])):=by
 obtain ⟨n,g5⟩:=W.loopR hnb a f ws w hs.length [] [] none eX (fun n hn=>by cases hn) (aC _) (by simp)
 rw [cg] at g5
 have hw:=wC g5 (by simp)
 refine ms ?_
 unfold zu
 rw [kL (ρ':=[some (.clo f ws [.ref nb,.str w]),some (.ref t.nx),none,none]) (s':=My.rst t [] [] 0) (by simp [sem,k9,kF,k8];rfl)]
 rw [kL (ρ':=[some (.clo f ws [.ref nb,.str w]),some (.ref t.nx),some (LS []),none]) (s':=My.rst t [] [] 0) (by simp [sem,k9,kF,k8])]
 rw [hw]
 rfl
theorem Wld.rules (W:Wld t nb pp hs L M) (hnb:nb < t.nx) (a:Adr) {w:Str} (hw:w∈pp++hs):mv a [.ref nb,.str w] t=.ok (.ref t.nx) (rul t (rnd M hs w hs.length [])):=by
 have hne:kQ a [.ref nb,.str w] t=.ok .non t:=by
  have h1:(mq pp w || me L w)=true:=by
   rw [cX,ou,lM,W.n]
   exact aM.mp hw
  simp [kQ,k7,W.g,(W.w.sm _ hw).nm]
  intro z
  rw [z,gi] at h1
  exact h1
 have hx:yW (fun f ws=>qU a f ws (fun l p s=>noX ((xCall 2 (lY a) (xCons (xVar 1) (xCons (x2 (xLst (xCons (xVar 2) xNil)) (xVar 0) fAdd) xNil))) (some p::l.map some) s)) [.clo f ws [.ref nb,.str w]] t)=.ok (.ref t.nx) (rul t (rnd M hs w hs.length [])):=Fg fun f ws=>W.roundsR hnb a f ws w
 refine ms ?_
 unfold yh
 rw [kL (ρ':=[some (.ref nb),some (.str w)]) (s':=t) (by simp [sem,k9,kF,k8,hne,W.g])]
 refine nM ?_
 unfold CL
 simp only [Az,ag,ah,aD,cy,ap,aH,aY,cg]
 rw [hx]
 rfl
theorem ne_int (s:Sto) (i:Int):fNe (.int i) (.int i) s=.ok (.bl false) s:=by
 unfold fNe fEqN
 rw [m8]
 simp only [oV,beq_self_eq_true]
 rfl
structure TldAt (s:Sto) (k:Nat) (Rs:List (List Str)):Prop where
 told:s.get k=some (.lst (sf (k+1) Rs.length))
 el:∀ (i:Nat) (r:List Str),Rs[i]?=some r→s.get (k+1+i)=some (.lst (r.map .str))
theorem A5 (n:Nat) (lK:List (Nat×Cell)):∀ (R:List (List Str)) (i:Nat) (r:List Str),R.reverse[i]?=some r→lL (rcs n R++lK) (n+i)=some (.lst (r.map .str))
 | [],i,r,h=>by cases h
 | r0::R,i,r,h=>by
  show lL ((n+R.length,_)::(rcs n R++lK)) _=_
  rw [lc]
  rw [eW] at h
  by_cases e:i=R.length
  ·subst e
   rw [if_pos rfl]
   rw [fR (by simp),gY,Nat.sub_self] at h
   cases h
   rfl
  ·rw [if_neg (by omega)]
   refine A5 n lK R i r ?_
   have hlt:i < R.length:=by
    have:=(aZ.mp h).1
    rw [aT,gY,gM] at this
    omega
   rw [fV (by simpa using hlt)] at h
   exact h
theorem zf (t:Sto) (Rs:List (List Str)):TldAt (rul t Rs) t.nx Rs:=by
 have hl:Rs.reverse.length=Rs.length:=gY
 refine ⟨?_,fun i r h=>?_⟩
 ·have:=zg t Rs.reverse (.lst [])
  rw [hl] at this
  unfold rul
  rw [hl]
  exact this
 ·unfold rul rst Sto.get
  show lL ((t.nx+1+Rs.reverse.length,_)::(rcs (t.nx+1) Rs.reverse++_)) _=_
  have hi:=(aZ.mp h).1
  rw [lc,if_neg (by rw [hl];omega)]
  exact A5 _ _ Rs.reverse i r (by rw [gT];exact h)
theorem x5 (hnb:nb < t.nx) (Rs:List (List Str)):(rul t Rs).get nb=t.get nb:=by
 unfold rul rst Sto.get
 show lL ((t.nx+1+Rs.reverse.length,_)::(rcs (t.nx+1) Rs.reverse++_)) _=_
 rw [lc,if_neg (by omega),sJ (by omega),lc,if_neg (by omega)]
theorem AL (t:Sto) (Rs:List (List Str)):t.nx < (rul t Rs).nx:=by
 show t.nx < t.nx+1+Rs.reverse.length+1
 omega
theorem AM (W:Wld t nb pp hs L M) (w:Str):∀ (k:Nat) (lot:List Str),lot.Nodup→(∀ n∈lot,n∈hs)→(rnd M hs w k lot).length+lot.length≤hs.length∧∀ r∈rnd M hs w k lot,r.length≤8∧∀ x∈r,cB x=true
 | 0,lot,h1,h2=>by
  obtain ⟨a1,a2,a3⟩:=sX W w h1 h2
  rw [aT] at a3
  exact ⟨by show 0+lot.length≤_;omega,fun r hr=>by cases hr⟩
 | k+1,lot,h1,h2=>by
  obtain ⟨a1,a2,a3⟩:=sX W w h1 h2
  have h8:=W.w.h8
  by_cases e:lE M hs w lot=[]
  ·rw [A3 e]
   rw [aT] at a3
   exact ⟨by show 0+lot.length≤_;omega,fun r hr=>by cases hr⟩
  ·obtain ⟨b1,b2⟩:=AM W w k (lot++lE M hs w lot) a1 a2
   have hpos:0 < (lE M hs w lot).length:=gZ.mpr e
   rw [zh e]
   rw [aT] at b1 a3
   refine ⟨by rw [ap];omega,fun r hr=>?_⟩
   rcases aj.mp hr with rfl | hr
   ·exact ⟨by omega,fun x hx=>zY (W.w.sm x (aL _ (a2 x (aL _ hx))))⟩
   ·exact b2 r hr
theorem BR (n k:Nat):sf n (k+1)=.ref n::sf (n+1) k:=by
 unfold sf
 rw [jE,aD,a7]
 congr 1
 refine bQ fun i _=>?_
 show PV.ref (n+(i+1))=PV.ref (n+1+i)
 congr 1
 omega
theorem vk {s:Sto}{n k:Nat} (h:k≠n):(s.del n).get k=s.get k:=qB h
theorem vh:∀ (Rs:List (List Str)) (n:Nat) (s:Sto),(∀ (i:Nat) (r:List Str),Rs[i]?=some r→s.get (n+i)=some (.lst (r.map .str)))→∃ s',yv (sf n Rs.length) s=some (Rs.map LS,s')∧s'.nx=s.nx∧∀ m,m < n→s'.get m=s.get m
 | [],n,s,_=>⟨s,rfl,rfl,fun _ _=>rfl⟩
 | r::Rs,n,s,h=>by
  have h0:s.get n=some (.lst (r.map .str)):=h 0 r rfl
  obtain ⟨s',e1,e2,e3⟩:=vh Rs (n+1) (s.del n) fun i r' hr=>by
   rw [vk (by omega),show n+1+i=n+(i+1) by omega]
   exact h (i+1) r' hr
  refine ⟨s',?_,e2,fun m hm=>(e3 m (by omega)).trans (vk (by omega))⟩
  rw [ap,BR]
  unfold yv
  have e0:frz1 (.ref n) s=.ok (LS r) (s.del n):=by simp only [frz1,h0]
  rw [e0]
  simp only [e1]
  rfl
theorem xh {s:Sto}{k:Nat}{Rs:List (List Str)} (T:TldAt s k Rs):∃ s',G0 (.ref k) s=.ok (.lst (Rs.map LS)) s'∧s'.nx=s.nx∧∀ m,m < k→s'.get m=s.get m:=by
 obtain ⟨s',e1,e2,e3⟩:=vh Rs (k+1) (s.del k) fun i r hr=>by rw [vk (by omega)];exact T.el i r hr
 refine ⟨s',?_,e2,fun m hm=>(e3 m (by omega)).trans (vk (by omega))⟩
 have e0:frz1 (.ref k) s=.ok (.lst (sf (k+1) Rs.length)) (s.del k):=by simp only [frz1,T.told]
 unfold G0
 rw [e0]
 simp only [e1]
theorem qO {c:XT}{e:XE}{cap:En}{s:Sto}{α:Type} (A:α→PV) (p:α→Bool) (f:α→PV):∀ (l:List α),(∀ q∈l,c (some (A q)::cap) s=.ok (p q) s)→(∀ q∈l,p q=true→e (some (A q)::cap) s=.ok (f q) s)→lX c e cap (l.map A) s=.ok ((l.filter p).map f) s
 | [],_,_=>rfl
 | q::l,h1,h2=>by
  have ih:=qO A p f l (fun x hx=>h1 x (ai _ hx)) (fun x hx=>h2 x (ai _ hx))
  rw [aD,mF,h1 q ar]
  cases hp:p q with
  | false=>simp [ih,hp]
  | true=>simp [ih,hp,h2 q ar hp]
def GW (M:List (Str×Hl)) (hs:List Str) (w:Str):List Str:=(rnd M hs w hs.length []).flatten
theorem zQ (h:Str):∀ Rs:List (List Str),(Rs.map fun r=>decide (h∈r)).any id=decide (h∈Rs.flatten)
 | []=>rfl
 | r::Rs=>by
  rw [aD,eo,zQ h Rs,cY,bL]
  simp [aM]
theorem Wld.ruled (W:Wld t nb pp hs L M) (hnb:nb < t.nx) (a:Adr) {w:Str} (hw:w∈pp++hs) (h:Str):∃ t',om a [.ref nb,.str h,.str w] t=.ok (.bl (decide (h∈GW M hs w))) t'∧(∀ m,m < t.nx→t'.get m=t.get m)∧t.nx < t'.nx:=by
 have e1:=W.rules hnb a hw
 have hR:=AM W w hs.length [] eX (fun n hn=>by cases hn)
 have h8:=W.w.h8
 unfold GW
 generalize rnd M hs w hs.length []=Rs at *
 have hRl:Rs.length≤8:=by have:=hR.1;rw [aH] at this;omega
 have gg:∀ m,m < t.nx→(rul t Rs).get m=t.get m:=fun m hm=>x5 hm Rs
 obtain ⟨s',f1,f2,f3⟩:=xh (zf t Rs)
 refine ⟨s',?_,fun m hm=>(f3 m hm).trans (gg m hm),by rw [f2];exact AL t Rs⟩
 have c:=qO (s:=s') (cap:=[some (.str h)]) (c:=oR) (e:=x2 (xVar 1) (xVar 0) fIn) LS (fun _=>true) (fun r=>PV.bl (decide (h∈r))) Rs (fun q hq=>rfl) (fun r hq _=>by
  have h1:=tm h r s'
  simp only [x2,xVar,Out.bind,ag,ah,h1])
 have e2:((Rs.filter fun _=>true).map fun r=>PV.bl (decide (h∈r)))=(Rs.map fun r=>decide (h∈r)).map PV.bl:=by
  rw [cN.mpr (fun _ _=>rfl),a7]
  rfl
 rw [e2] at c
 have d:md (xIter (uF (xCall 2 (mv a) (xCons (xVar 0) (xCons (xVar 2) xNil))))) [1] oR (x2 (xVar 1) (xVar 0) fIn) [some (.ref nb),some (.str h),some (.str w)] t=.ok (.lst ((Rs.map fun r=>decide (h∈r)).map PV.bl)) s':=by
  refine oj (l:=Rs.map LS) (s1:=s') ?_ (by rw [aq];omega) c
  simp only [xIter,uF,xCall,xCons,xVar,xNil,Out.bind,ag,ah,ap,aH,if_true,e1,f1]
 refine ms ?_
 unfold vg
 refine nM ?_
 have d':md (xIter (uF (xCall 2 (mv a) (xCons (xVar 0) (xCons (xVar 2) xNil))))) [1] oR (x2 (xVar 1) (xVar 0) fIn) ([PV.ref nb,.str h,.str w].map some++aY (3 - [PV.ref nb,.str h,.str w].length) none) t=_:=d
 simp only [xB,xCons,xNil,d',Out.bind,G3,lsOf,pd,zQ]
def vr (l:Hl) (U:List Str):Rat:=n9 (((l.map (·.1)).filter fun n=>decide (n∈U)).map fun n=>rv (kM l n))
end
structure Kp (t s:Sto):Prop where
 g:∀ m,m < t.nx→s.get m=t.get m
 n:t.nx≤s.nx
theorem Kp.refl (t:Sto):Kp t t:=⟨fun _ _=>rfl,aC _⟩
theorem Kp.trans {t s r:Sto} (h:Kp t s) (k:Kp s r):Kp t r:=⟨fun m hm=>(k.g m (aA hm h.n)).trans (h.g m hm),aN h.n k.n⟩
theorem xt {c:XT}{e:XE}{cap:En} (I:Sto→Prop) {α:Type} (A:α→PV) (p:α→Bool) (f:α→PV):∀ (l:List α),(∀ q∈l,∀ s,I s→∃ s',c (some (A q)::cap) s=.ok (p q) s'∧I s')→(∀ q∈l,p q=true→∀ s,I s→∃ s',e (some (A q)::cap) s=.ok (f q) s'∧I s')→∀ s,I s→∃ s',lX c e cap (l.map A) s=.ok ((l.filter p).map f) s'∧I s'
 | [],_,_,s,hs=>⟨s,rfl,hs⟩
 | q::l,h1,h2,s,hs=>by
  obtain ⟨s1,e1,i1⟩:=h1 q ar s hs
  have ih:=xt I A p f l (fun x hx=>h1 x (ai _ hx)) (fun x hx=>h2 x (ai _ hx))
  rw [aD,mF,e1]
  cases hp:p q with
  | false =>
   obtain ⟨s3,e3,i3⟩:=ih s1 i1
   exact ⟨s3,by simp [e3,hp],i3⟩
  | true =>
   obtain ⟨s2,e2,i2⟩:=h2 q ar hp s1 i1
   obtain ⟨s3,e3,i3⟩:=ih s2 i2
   exact ⟨s3,by simp [e2,e3,hp],i3⟩
theorem Fb {t:XT}{A:XS}{ρ:En}{s s1:Sto} (h:t ρ s=.ok false s1):xIf t A xEnd ρ s=.nx ρ s1:=by unfold xIf;rw [h];rfl
section
variable {t:Sto}{nb:Nat}{pp hs:List Str}{L:List Ent}{M:List (Str×Hl)}
abbrev Stp:=Str×List Str
def ED (q:Stp):PV:=.tup [.str q.1,LS q.2]
abbrev StP (S:List Stp):PV:=.lst (S.map ED)
def yo (M:List (Str×Hl)) (hs known:List Str) (h:Str) (U:List Str):Bool:=decide (h∈hs) && unl U && (U.all fun v=>decide (v∈known)) && win M U h
def stB (M:List (Str×Hl)) (hs:List Str):List Str→List Stp→Bool
 | _,[]=>true
 | known,(h,U)::r=>yo M hs known h U && stB M hs (known++[h]) r
theorem Ii (n:Str) (U:List Str) {s:Sto}{k:Nat} (h:s.get k=some (.lst (U.map .str))):fIn (.str n) (.ref k) s=.ok (.bl (decide (n∈U))) s:=by
 simp [fIn,k9,dcOf,toV,lsOf,h,qW,CU,vF]
theorem Wld.isStep (W:Wld t nb pp hs L M) (a:Adr) (h:Str) (U known:List Str) (hU:U.length < 4000) {k:Nat} (hk:t.get k=some (.lst (known.map .str))) :
  rf a [.ref nb,.ref k,.str h,LS U] t=.ok (.bl (yo M hs known h U)) t:=by
 have hun:=wI a t U hU
 have hih:lv a [.ref nb,.str h] t=.ok (.bl (decide (h∈hs))) t:=by
  have:me L h=decide (h∈hs):=by
   rw [bL,lM,W.n,decide_eq_true_iff]
  simp [lv,k7,W.g,this]
 have c1:=nA (s:=t) (cap:=[some (.ref k)]) (c:=oR) (e:=x2 (xVar 0) (xVar 1) fIn) (fun _=>true) (fun q=>match q with | .str n=>PV.bl (decide (n∈known)) | _=>.non) (U.map .str) (fun q hq=>rfl) (fun q hq _=>by
  obtain ⟨n,hn,rfl⟩:=am.mp hq
  have:=Ii n known hk
  simp only [x2,xVar,Out.bind,ag,ah,this])
 have e1:(((U.map PV.str).filter fun _=>true).map fun q=>match q with | .str n=>PV.bl (decide (n∈known)) | _=>.non)=(U.map fun n=>decide (n∈known)).map PV.bl:=by
  rw [cN.mpr (fun _ _=>rfl),a7,a7]
  rfl
 rw [e1] at c1
 have d1:md (xIter (xVar 3)) [1] oR (x2 (xVar 0) (xVar 1) fIn) [some (.ref nb),some (.ref k),some (.str h),some (LS U)] t=.ok (.lst ((U.map fun n=>decide (n∈known)).map PV.bl)) t:=oj (l:=U.map .str) (s1:=t) (by simp [sem,k9,kF,k8]) (by simp;omega) c1
 have ea:(U.all fun v=>decide (v∈known))=(U.map fun n=>decide (n∈known)).all id:=by rw [fL];rfl
 unfold yo
 rw [ea]
 generalize (U.map fun n=>decide (n∈known))=bs at *
 have hall:xB (xCons (md (xIter (xVar 3)) [1] oR (x2 (xVar 0) (xVar 1) fIn)) xNil) fAll [some (.ref nb),some (.ref k),some (.str h),some (LS U)] t=.ok (.bl (bs.all id)) t:=by
  simp [sem,k9,kF,k8,d1,pd]
 refine ms ?_
 unfold xg
 by_cases z1:h∈hs
 ·have hov:=W.outv a z1 U
  by_cases z2:unl U=true
  ·rw [kL (ρ':=[some (.ref nb),some (.ref k),some (.str h),some (LS U)]) (s':=t) (by simp [sem,k9,kF,k8,W.g,hih,hun,z1,z2])]
   refine nM ?_
   by_cases z3:bs.all id=true
   ·rw [z3] at hall
    simp only [xAndV,hall,Out.bind]
    simp [sem,k9,kF,k8,hov,z1,z2,z3]
   ·rw [bU.mpr z3] at hall ⊢
    simp only [xAndV,hall,Out.bind]
    simp [sem,k9,kF,k8,z1,z2]
  ·rw [sx (v:=.bl false) (s':=t) (by simp [sem,k9,kF,k8,W.g,hih,hun,z1,z2])]
   simp [z2]
 ·rw [sx (v:=.bl false) (s':=t) (by simp [sem,k9,kF,k8,W.g,hih,z1])]
  simp [z1]
abbrev y45:XG:=yTup 2 (yCons (yName 4) (yCons (yName 5) yNil))
theorem Ci {body:PV→XS}{q:PV}{l:List PV}{ρ ρ':En}{s s':Sto} (h:body q ρ s=.nx ρ' s'):lI body (q::l) ρ s=lI body l ρ' s':=by
 conv=>lhs;unfold lI
 rw [h]
theorem Ee {body:PV→XS}{q:PV}{l:List PV}{ρ:En}{s s':Sto}{v:PV} (h:body q ρ s=.rt v s'):lI body (q::l) ρ s=.rt v s':=by
 unfold lI
 rw [h]
theorem Wld.add (W:Wld t nb pp hs L M) (hnb:nb < t.nx) (c:Cell):Wld (t.add c) nb pp hs L M:=⟨W.w,W.p,W.n,by rw [og,if_neg (by omega)];exact W.g⟩
theorem Wld.stepOk (W:Wld t nb pp hs L M) (hnb:nb < t.nx) (a:Adr) {h:Str}{U known:List Str} (hU:U.length < 4000) (hk:known.length < 100000) (o1 o2:Option PV) (z:yo M hs known h U=true) :
  la a [some (.ref nb),o1,o2,some (.ref t.nx),some (.str h),some (LS U)] (t.add (.lst (known.map .str)))=.nx [some (.ref nb),o1,o2,some (.ref t.nx),some (.str h),some (LS U)] (t.add (.lst ((known++[h]).map .str))):=by
 have e:=(W.add hnb (.lst (known.map .str))).isStep a h U known hU (k:=t.nx) (by rw [og,if_pos rfl])
 rw [z] at e
 unfold la
 rw [kL (ρ':=[some (.ref nb),o1,o2,some (.ref t.nx),some (.str h),some (LS U)]) (s':=t.add (.lst (known.map .str))) (by simp [sem,k9,kF,k8,e])]
 simp [sem,k9,kF,k8,og,uO,hk]
theorem Wld.stepNo (W:Wld t nb pp hs L M) (hnb:nb < t.nx) (a:Adr) {h:Str}{U known:List Str} (hU:U.length < 4000) (o1 o2:Option PV) (z:yo M hs known h U=false) :
  la a [some (.ref nb),o1,o2,some (.ref t.nx),some (.str h),some (LS U)] (t.add (.lst (known.map .str)))=.rt (.bl false) (t.add (.lst (known.map .str))):=by
 have e:=(W.add hnb (.lst (known.map .str))).isStep a h U known hU (k:=t.nx) (by rw [og,if_pos rfl])
 rw [z] at e
 unfold la
 exact sx (by simp [sem,k9,kF,k8,e])
theorem Wld.stepsL (W:Wld t nb pp hs L M) (hnb:nb < t.nx) (a:Adr) (o1 o2:Option PV):∀ (S:List Stp) (known:List Str) (o4 o5:Option PV),(∀ q∈S,q.2.length < 4000)→known.length+S.length < 1000 →
  ∃ (kn:List Str) (o4' o5':Option PV),lI (kZ y45 (la a)) (S.map ED) [some (.ref nb),o1,o2,some (.ref t.nx),o4,o5] (t.add (.lst (known.map .str))) =
   if stB M hs known S=true then .nx [some (.ref nb),o1,o2,some (.ref t.nx),o4',o5'] (t.add (.lst (kn.map .str))) else .rt (.bl false) (t.add (.lst (kn.map .str)))
 | [],known,o4,o5,_,_=>⟨known,o4,o5,by simp [stB,lI]⟩
 | (h,U)::r,known,o4,o5,hS,hl=>by
  have hU:U.length < 4000:=hS (h,U) ar
  rw [ap] at hl
  have eb:kZ y45 (la a) (ED (h,U)) [some (.ref nb),o1,o2,some (.ref t.nx),o4,o5] (t.add (.lst (known.map .str)))=la a [some (.ref nb),o1,o2,some (.ref t.nx),some (.str h),some (LS U)] (t.add (.lst (known.map .str))):=rfl
  rw [aD]
  unfold stB
  by_cases z:yo M hs known h U=true
  ·rw [Ci (eb.trans (W.stepOk hnb a hU (by omega) o1 o2 z)),z,dL]
   exact W.stepsL hnb a o1 o2 r (known++[h]) _ _ (fun q hq=>hS q (ai _ hq)) (by rw [aT,gM];omega)
  ·have z:=bU.mpr z
   rw [Ee (eb.trans (W.stepNo hnb a hU o1 o2 z)),z]
   exact ⟨known,none,none,by simp⟩
theorem Wld.areSteps (W:Wld t nb pp hs L M) (hnb:nb < t.nx) (a:Adr) {w:Str} (hw:w∈pp++hs) (S:List Stp) (hS:∀ q∈S,q.2.length < 4000) (hl:S.length < 500) :
  ∃ kn:List Str,lU a [.ref nb,.str w,StP S] t=.ok (.bl (stB M hs [w] S)) (t.add (.lst (kn.map .str))):=by
 have hne:kQ a [.ref nb,.str w] t=.ok .non t:=by
  have h1:(mq pp w || me L w)=true:=by
   rw [cX,ou,lM,W.n]
   exact aM.mp hw
  simp [kQ,k7,W.g,(W.w.sm _ hw).nm]
  intro z
  rw [z,gi] at h1
  exact h1
 obtain ⟨kn,o4,o5,lo⟩:=W.stepsL hnb a (some (.str w)) (some (StP S)) S [w] none none hS (by simp;omega)
 refine ⟨kn,ms ?_⟩
 unfold qC
 rw [kL (ρ':=[some (.ref nb),some (.str w),some (StP S),none,none,none]) (s':=t) (by simp [sem,k9,kF,k8,W.g,hne])]
 rw [kL (ρ':=[some (.ref nb),some (.str w),some (StP S),some (.ref t.nx),none,none]) (s':=t.add (.lst [.str w])) (by simp [sem,k9,kF,k8])]
 by_cases z:stB M hs [w] S=true
 ·rw [if_pos z] at lo
  rw [kL (rH (l:=S.map ED) (s1:=t.add (.lst [.str w])) (by simp [sem,k9,kF,k8]) lo),z]
  exact nM rfl
 ·rw [if_neg z] at lo
  rw [bU.mpr z]
  refine sx ?_
  unfold xFor
  have ei:xIter (xVar 2) [some (.ref nb),some (.str w),some (StP S),some (.ref t.nx),none,none] (t.add (.lst [.str w]))=.ok (S.map ED) (t.add (.lst [.str w])):=by simp [sem,k9,kF,k8]
  rw [ei]
  simp only [Out.so]
  have lo':lI (kZ y45 (la a)) (S.map ED) [some (.ref nb),some (.str w),some (StP S),some (.ref t.nx),none,none] (t.add (.lst [.str w]))=_:=lo
  rw [lo']
  rfl
theorem Im {fi:XA}{y:XG}{body:XS}{ρ:En}{s s1 s':Sto}{l:List PV}{v:PV} (h1:fi ρ s=.ok l s1) (h2:lI (kZ y body) l ρ s1=.rt v s'):xFor fi y body ρ s=.rt v s':=by
 unfold xFor
 rw [h1]
 simp only [Out.so]
 rw [h2]
 rfl
theorem Wld.kp (W:Wld t nb pp hs L M) (hnb:nb < t.nx) {s:Sto} (K:Kp t s):Wld s nb pp hs L M:=⟨W.w,W.p,W.n,(K.g nb hnb).trans W.g⟩
theorem Wld.ruledK (W:Wld t nb pp hs L M) (hnb:nb < t.nx) (a:Adr) {w:Str} (hw:w∈pp++hs) (h:Str) {s:Sto} (K:Kp t s):∃ s',om a [.ref nb,.str h,.str w] s=.ok (.bl (decide (h∈GW M hs w))) s'∧Kp t s':=by
 obtain ⟨s',e1,e2,e3⟩:=(W.kp hnb K).ruled (aA hnb K.n) a hw h
 exact ⟨s',e1,K.trans ⟨e2,cE e3⟩⟩
theorem x9 (W:Wld t nb pp hs L M) (a:Adr) {x:Str} (hx:Nm x) (hn:x∉pp++hs):kQ a [.ref nb,.str x] t=.ex a.NoHolder t:=by
 have h1:(mq pp x || me L x)=false:=by
  rw [bU]
  intro z
  rw [cX,ou,lM,W.n] at z
  exact hn (aM.mpr z)
 rw [jY] at h1
 simp [kQ,k7,W.g,hx,h1.1,h1.2]
theorem yp {f g:XS}{ρ:En}{s s':Sto}{c:ae} (h:f ρ s=.ex c s'):xSeq f g ρ s=.ex c s':=by unfold xSeq;rw [h]
theorem Aw {f:XE}{ρ:En}{s s':Sto}{c:ae} (h:f ρ s=.ex c s'):xDo f ρ s=.ex c s':=by unfold xDo;rw [h];rfl
theorem wn {N:Nat}{g:XS}{vs:List PV}{s s':Sto}{c:ae} (h:g (vs.map some++aY (N - vs.length) none) s=.ex c s'):fnD N g vs s=.ex c s':=by unfold fnD;rw [h]
theorem Du (W:Wld t nb pp hs L M) (a:Adr) {x:Str} (hx:Nm x) (hn:x∉pp++hs):mv a [.ref nb,.str x] t=.ex a.NoHolder t:=by
 have e:=x9 W a hx hn
 refine wn ?_
 unfold yh
 exact yp (Aw (by simp only [xBM,xVar,xCons,xNil,Out.bind,aD,cy,cC,ag,ah,W.g,ap,aH,if_true,e]))
theorem y8 (W:Wld t nb pp hs L M) (a:Adr) {x:Str} (hx:Nm x) (hn:x∉pp++hs) (v:PV):lU a [.ref nb,.str x,v] t=.ex a.NoHolder t:=by
 have e:=x9 W a hx hn
 refine wn ?_
 unfold qC
 exact yp (Aw (by simp only [xBM,xVar,xCons,xNil,Out.bind,aD,cy,cC,ag,ah,W.g,ap,aH,if_true,e]))
theorem A2 (W:Wld t nb pp hs L M) (a:Adr) {x:Str} (hx:Nm x) (hn:x∉pp++hs) (v:PV):mP a [.ref nb,.str x,v] t=.ex a.NoHolder t:=by
 have e:=x9 W a hx hn
 refine wn ?_
 unfold tQ
 exact yp (Aw (by simp only [xBM,xVar,xCons,xNil,Out.bind,aD,cy,cC,ag,ah,W.g,ap,aH,if_true,e]))
theorem Dv (W:Wld t nb pp hs L M) (a:Adr) {x:Str} (hx:Nm x) (hn:x∉hs):rQ a [.ref nb,.str x] t=.ex a.NoHouse t:=by
 have h1:me L x=false:=by
  rw [bU]
  intro z
  rw [lM,W.n] at z
  exact hn z
 have e:lB a [.ref nb,.str x] t=.ex a.NoHouse t:=by simp [lB,k7,W.g,hx,h1]
 refine wn ?_
 unfold ve
 exact yp (Aw (by simp only [xBM,xVar,xCons,xNil,Out.bind,aD,cy,cC,ag,ah,W.g,ap,aH,if_true,e]))
theorem uQ (W:Wld t nb pp hs L M) (hnb:nb < t.nx) (a:Adr) (h:Str):∀ (ps:List Str) (o2:Option PV) (s:Sto),(∀ p∈ps,p∈pp)→Kp t s→∃ s',Kp t s' ∧
  ((∃ p,lI (kZ (yName 2) (mj a)) (ps.map .str) [some (.ref nb),some (.str h),o2] s=.rt (.str p) s') ∨
    (∃ o2',lI (kZ (yName 2) (mj a)) (ps.map .str) [some (.ref nb),some (.str h),o2] s=.nx [some (.ref nb),some (.str h),o2'] s'))
 | [],o2,s,_,S=>⟨s,S,.inr ⟨o2,rfl⟩⟩
 | p::ps,o2,s,hp,S=>by
  obtain ⟨s1,e1,S1⟩:=W.ruledK hnb a (cn _ (hp p ar)) h S
  have hb:kZ (yName 2) (mj a) (.str p) [some (.ref nb),some (.str h),o2] s=mj a [some (.ref nb),some (.str h),some (.str p)] s:=rfl
  rw [aD]
  unfold lI
  rw [hb]
  by_cases z:h∈GW M hs p
  ·refine ⟨s1,S1,.inl ⟨p,?_⟩⟩
   rw [decide_eq_true z] at e1
   have:mj a [some (.ref nb),some (.str h),some (.str p)] s=.rt (.str p) s1:=by
    unfold mj
    simp only [xIf,xTr,xCall,xCons,xVar,xNil,Out.bind,Out.so,ag,ah,ap,aH,if_true,e1,xRet]
   rw [this]
  ·rw [decide_eq_false z] at e1
   have:mj a [some (.ref nb),some (.str h),some (.str p)] s=.nx [some (.ref nb),some (.str h),some (.str p)] s1:=by
    unfold mj
    simp only [xIf,xTr,xCall,xCons,xVar,xNil,Out.bind,Out.so,ag,ah,ap,aH,if_true,e1,eG,if_false,xEnd]
   rw [this]
   exact uQ W hnb a h ps (some (.str p)) s1 (fun q hq=>hp q (ai _ hq)) S1
theorem Wld.rulerK (W:Wld t nb pp hs L M) (hnb:nb < t.nx) (a:Adr) {h:Str} (hh:h∈hs) {s:Sto} (S:Kp t s):∃ v s',rQ a [.ref nb,.str h] s=.ok v s'∧Kp t s':=by
 have Ws:=W.kp hnb S
 have hsm:=(W.w.sm h (aL _ hh)).nm
 have hne:lB a [.ref nb,.str h] s=.ok .non s:=by
  have h1:me L h=true:=by rw [lM,W.n];exact hh
  simp [lB,k7,Ws.g,hsm,h1]
 have hpe:li a [.ref nb] s=.ok (.lst ((srt pp).map .str)) s:=by simp [li,k7,Ws.g]
 obtain ⟨s',S',hl⟩:=uQ W hnb a h (srt pp) none s (fun p hp=>(kX pp).mem_iff.mp hp) S
 have hit:xIter (xBM 1 (li a) (xVar 0) xNil) [some (.ref nb),some (.str h),none] s=.ok ((srt pp).map .str) s:=by simp [sem,k9,kF,k8,Ws.g,hpe]
 have h0:xDo (xBM 2 (lB a) (xVar 0) (xCons (xVar 1) xNil)) [some (.ref nb),some (.str h),none] s=.nx [some (.ref nb),some (.str h),none] s:=by simp [sem,k9,kF,k8,hne,Ws.g]
 rcases hl with ⟨p,e2⟩ | ⟨o2',e2⟩
 ·refine ⟨.str p,s',ms ?_,S'⟩
  unfold ve
  refine (kL h0).trans ?_
  exact sx (Im hit e2)
 ·refine ⟨.non,s',ms ?_,S'⟩
  unfold ve
  refine (kL h0).trans ((kL (rH hit e2)).trans ?_)
  exact nM rfl
theorem Bg (i j:Int) (s:Sto):fEq (.int i) (.int j) s=.ok (.bl (i == j)) s:=by
 unfold fEq fEqN
 rw [m8,m8]
 simp only [oV]
 rfl
theorem GY {i:Int}{k:Int}{e:XE}{ρ:En}{s:Sto} (h:ρ[1]?=some (some (.int i))):xIf (xTr (x2 (xVar 1) (xC (.int k)) fEq)) (xRet e) xEnd ρ s=if i=k then xRet e ρ s else .nx ρ s:=by
 have:=Bg i k s
 by_cases z:i=k
 ·rw [if_pos z]
  have zb:(i == k)=true:=by simpa using z
  rw [zb] at this
  simp only [xIf,xTr,x2,xVar,xC,h,Out.bind,this,Out.so,if_true]
 ·rw [if_neg z]
  have zb:(i == k)=false:=by simpa using z
  rw [zb] at this
  simp only [xIf,xTr,x2,xVar,xC,h,Out.bind,this,Out.so,eG,if_false,xEnd]
theorem Hr {f:XE}{ρ:En}{s s':Sto}{c:ae} (h:f ρ s=.ex c s'):xRet f ρ s=.ex c s':=by
 unfold xRet
 rw [h]
 rfl
theorem sU {f g:XS}{e:XE}{ρ:En}{s:Sto} (h:f ρ s=xRet e ρ s):xSeq f g ρ s=xRet e ρ s:=by
 unfold xSeq
 rw [h]
 unfold xRet
 cases e ρ s <;> rfl
def vw (a:Adr):Nat→XE
 | 0=>xCall 2 (mv a) (xCons (xVar 0) (xCons (xVar 2) xNil))
 | 1=>xCall 3 (lU a) (xCons (xVar 0) (xCons (xVar 2) (xCons (xLst xNil) xNil)))
 | 2=>xCall 3 (lU a) (xCons (xVar 0) (xCons (xVar 2) (xCons (xLst (xCons (xTup (xCons (xC (.str "none")) (xCons (xLst (xCons (xVar 2) xNil)) xNil))) (xCons (xTup (xCons (xVar 2) (xCons (xLst xNil) xNil))) xNil))) xNil)))
 | 3=>xCall 3 (mP a) (xCons (xVar 0) (xCons (xVar 2) (xCons (xVar 3) xNil)))
 | 4=>xCall 3 (mP a) (xCons (xVar 0) (xCons (xVar 2) (xCons (xLst (xCons (xC (.str "none")) (xCons (xC (.str "none")) xNil))) xNil)))
 | _=>xCall 2 (rQ a) (xCons (xVar 0) (xCons (xVar 2) xNil))
theorem zP (a:Adr) (o0 o2 o3:Option PV) (t:Sto) {w:Nat} (hw:w < 6):pN a [o0,some (.int w),o2,o3] t=xRet (vw a w) [o0,some (.int w),o2,o3] t:=by
 have no:∀ {i k:Int}{e:XE},¬ i=k→xIf (xTr (x2 (xVar 1) (xC (.int k)) fEq)) (xRet e) xEnd [o0,some (.int i),o2,o3] t=.nx [o0,some (.int i),o2,o3] t:=fun h=>(GY rfl).trans (if_neg h)
 have yes:∀ {i:Int}{e:XE},xIf (xTr (x2 (xVar 1) (xC (.int i)) fEq)) (xRet e) xEnd [o0,some (.int i),o2,o3] t=xRet e [o0,some (.int i),o2,o3] t:=(GY rfl).trans (if_pos rfl)
 unfold pN
 match w,hw with
 | 0,_=>exact sU yes
 | 1,_=>exact (kL (no (by decide))).trans (sU yes)
 | 2,_=>exact (kL (no (by decide))).trans ((kL (no (by decide))).trans (sU yes))
 | 3,_=>exact (kL (no (by decide))).trans ((kL (no (by decide))).trans ((kL (no (by decide))).trans (sU yes)))
 | 4,_=>exact (kL (no (by decide))).trans ((kL (no (by decide))).trans ((kL (no (by decide))).trans ((kL (no (by decide))).trans (sU yes))))
 | 5,_=>exact (kL (no (by decide))).trans ((kL (no (by decide))).trans ((kL (no (by decide))).trans ((kL (no (by decide))).trans (kL (no (by decide))))))
theorem Wld.asked (W:Wld t nb pp hs L M) (hnb:nb < t.nx) (a:Adr) {w:Nat} (hw:w < 6) {x:Str} (g:if w < 5 then x∈pp++hs else x∈hs):∃ v t',lC a [.ref nb,.int w,.str x,LS (srt hs)] t=.ok v t'∧Kp t t':=by
 have ns:(0+1+1:Nat)≤100000:=by decide
 have n1:(0+1:Nat)≤100000:=by decide
 have go:∀ {v:PV}{t':Sto},vw a w [some (.ref nb),some (.int w),some (.str x),some (LS (srt hs))] t=.ok v t'→lC a [.ref nb,.int w,.str x,LS (srt hs)] t=.ok v t':=fun h=>ms ((zP a _ _ _ t hw).trans (nM h))
 have kadd:∀ c,Kp t (t.add c):=fun c=>⟨fun m hm=>by rw [og,if_neg (by omega)],eR _⟩
 match w,hw with
 | 0,_ =>
  have g:x∈pp++hs:=g
  refine ⟨.ref t.nx,rul t (rnd M hs x hs.length []),go ?_,⟨fun m hm=>x5 hm _,cE (AL t _)⟩⟩
  simp only [vw,xCall,xCons,xVar,xNil,Out.bind,ag,ah,ap,aH,if_true]
  exact W.rules hnb a g
 | 1,_ =>
  have g:x∈pp++hs:=g
  obtain ⟨kn,e⟩:=W.areSteps hnb a g [] (fun q hq=>by cases hq) (by decide)
  refine ⟨.bl (stB M hs [x] []),t.add (.lst (kn.map .str)),go ?_,kadd _⟩
  simp only [vw,xCall,xCons,xVar,xNil,xLst,Out.bind,ag,ah,ap,aH,bA,if_true]
  exact e
 | 2,_ =>
  have g:x∈pp++hs:=g
  obtain ⟨kn,e⟩:=W.areSteps hnb a g [("none",[x]),(x,[])] (fun q hq=>by
   rcases aj.mp hq with rfl | hq
   ·show (1:Nat) < 4000;decide
   ·rw [ay.mp hq];show (0:Nat) < 4000;decide) (by show (2:Nat) < 500;decide)
  refine ⟨.bl (stB M hs [x] [("none",[x]),(x,[])]),t.add (.lst (kn.map .str)),go ?_,kadd _⟩
  simp only [vw,xCall,xCons,xVar,xNil,xLst,xTup,xC,Out.bind,ag,ah,ap,aH,ns,n1,bA,if_true]
  exact e
 | 3,_ =>
  have g:x∈pp++hs:=g
  have e:=W.shut a g (srt hs) (by rw [kO];have:=W.w.h8;omega)
  refine ⟨.bl (ww M hs x (srt hs)),t,go ?_,Kp.refl t⟩
  simp only [vw,xCall,xCons,xVar,xNil,Out.bind,ag,ah,ap,aH,if_true]
  exact e
 | 4,_ =>
  have g:x∈pp++hs:=g
  have e:=W.shut a g ["none","none"] (by decide)
  refine ⟨.bl (ww M hs x ["none","none"]),t,go ?_,Kp.refl t⟩
  simp only [vw,xCall,xCons,xVar,xNil,xLst,xC,Out.bind,ag,ah,ap,aH,ns,if_true]
  exact e
 | 5,_ =>
  have g:x∈hs:=g
  obtain ⟨v,s',e,K⟩:=W.rulerK hnb a g (Kp.refl t)
  refine ⟨v,s',go ?_,K⟩
  simp only [vw,xCall,xCons,xVar,xNil,Out.bind,ag,ah,ap,aH,if_true]
  exact e
theorem Wld.askedBad (W:Wld t nb pp hs L M) (a:Adr) {w:Nat} (hw:w < 6) {x:Str} (hx:Nm x) (g:if w < 5 then x∉pp++hs else x∉hs):lC a [.ref nb,.int w,.str x,LS (srt hs)] t=.ex (if w=5 then a.NoHouse else a.NoHolder) t:=by
 have ns:(0+1+1:Nat)≤100000:=by decide
 have n1:(0+1:Nat)≤100000:=by decide
 refine wn ((zP a _ _ _ t hw).trans (Hr ?_))
 match w,hw with
 | 0,_ =>
  have g:x∉pp++hs:=g
  simp only [vw,xCall,xCons,xVar,xNil,Out.bind,ag,ah,ap,aH,if_true]
  exact Du W a hx g
 | 1,_ =>
  have g:x∉pp++hs:=g
  simp only [vw,xCall,xCons,xVar,xNil,xLst,Out.bind,ag,ah,ap,aH,bA,if_true]
  exact y8 W a hx g _
 | 2,_ =>
  have g:x∉pp++hs:=g
  simp only [vw,xCall,xCons,xVar,xNil,xLst,xTup,xC,Out.bind,ag,ah,ap,aH,ns,n1,bA,if_true]
  exact y8 W a hx g _
 | 3,_ =>
  have g:x∉pp++hs:=g
  simp only [vw,xCall,xCons,xVar,xNil,Out.bind,ag,ah,ap,aH,if_true]
  exact A2 W a hx g _
 | 4,_ =>
  have g:x∉pp++hs:=g
  simp only [vw,xCall,xCons,xVar,xNil,xLst,xC,Out.bind,ag,ah,ap,aH,ns,if_true]
  exact A2 W a hx g _
 | 5,_ =>
  have g:x∉hs:=g
  simp only [vw,xCall,xCons,xVar,xNil,Out.bind,ag,ah,ap,aH,if_true]
  exact Dv W a hx g
def DOk (s:Sto) (k:Nat) (v:PV):Prop:=∃ d,PV.data s k v=some d∧d.canLay0=true
theorem qd (s:Sto) (k:Nat) (i:Int):DOk s (k+1) (.int i):=⟨.int i,rfl,by simp [db]⟩
theorem Bj (s:Sto) (k:Nat) {x:Str} (h:cB x=true):DOk s (k+1) (.str x):=⟨.str x,by unfold PV.data;rw [if_pos h],by simp only [db];exact h⟩
theorem yi {s:Sto}{k:Nat}:∀ {l:List PV},(∀ v∈l,DOk s k v)→∃ ds,tW (PV.data s k) l=some ds∧eL ds=true
 | [],_=>⟨[],rfl,by simp [eL]⟩
 | v::l,h=>by
  obtain ⟨d,e1,e2⟩:=h v ar
  obtain ⟨ds,f1,f2⟩:=yi fun x hx=>h x (ai _ hx)
  refine ⟨d::ds,?_,by simp only [eL,e2,f2,Bool.and_self]⟩
  unfold tW
  rw [e1,f1]
theorem oh {s:Sto}{k:Nat}{l:List PV} (h:∀ v∈l,DOk s k v):DOk s (k+1) (.lst l):=by
 obtain ⟨ds,f1,f2⟩:=yi h
 refine ⟨.list ds,?_,by simp only [db];exact f2⟩
 unfold PV.data
 rw [f1]
 rfl
theorem vj {s:Sto}{k:Nat}{l:List PV} (h:∀ v∈l,DOk s k v):DOk s (k+1) (.tup l):=by
 obtain ⟨ds,f1,f2⟩:=yi h
 refine ⟨.tuple ds,?_,by simp only [db];exact f2⟩
 unfold PV.data
 rw [f1]
 rfl
theorem AR (s:Sto) (k:Nat) {U:List Str} (h:∀ x∈U,cB x=true):DOk s (k+2) (LS U):=oh fun v hv=>by
 obtain ⟨x,hx,rfl⟩:=am.mp hv
 exact Bj s k (h x hx)
theorem Ir {s:Sto}{v:PV} (h:DOk s 12 v):fEq v v s=.ok (.bl true) s:=by
 obtain ⟨d,e1,e2⟩:=h
 unfold fEq fEqN
 rw [e1]
 simp only [iZ d e2]
 rfl
theorem EQ {s:Sto}{v:PV} (h:DOk s 12 v):fNe v v s=.ok (.bl false) s:=by
 obtain ⟨d,e1,e2⟩:=h
 unfold fNe fEqN
 rw [e1]
 simp only [iZ d e2]
 rfl
theorem rh {f:XE}{i:Nat}{ρ:En}{s s':Sto}{v:PV} (h:f ρ s=.ok v s'):xSet i f ρ s=.nx (ρ.set i (some v)) s':=by
 unfold xSet
 rw [h]
 rfl
theorem Ih {a:Adr}{tb:ae→Bool}{c:ae}{ρ:En}{s:Sto} (h:ρ[0]?=some (some (.exc c))) (hc:c∈a.cl):n8 a.cl tb (xVar 0) ρ s=.ok (.bl (tb c)) s:=by
 unfold n8
 simp only [xVar,h,Out.bind]
 rw [if_pos hc]
theorem CJ (bs:List Bool) (s:Sto) (o0:Option PV) (hl:bs.length=9):md (xRng1 (xCons (xC (.int 9)) xNil)) [1] (xTr (x2 (xVar 1) (xVar 0) fIx)) (xVar 0) [o0,some (.lst (bs.map .bl))] s=.ok (.lst (((dG 9).filter fun k=>bs.getD k false).map fun k:Nat=>.int (0+(k:Int)))) s:=by
 have c:=qO (s:=s) (cap:=[some (.lst (bs.map .bl))]) (c:=xTr (x2 (xVar 1) (xVar 0) fIx)) (e:=xVar 0) (fun k:Nat=>PV.int (0+(k:Int))) (fun k=>bs.getD k false) (fun k:Nat=>.int (0+(k:Int))) (dG 9) (fun k hk=>by
  have hk:=eY.mp hk
  have h0:(0:Int)+(k:Int)=(k:Int):=by omega
  have e1:bs.getD k false=bs[k]:=by simp [show k < bs.length by omega]
  have:atI (bs.map PV.bl) (k:Int)=some (.bl bs[k]):=lp (by simp [show k < bs.length by omega])
  have ix:fIx (.lst (bs.map .bl)) (.int (k:Int)) s=.ok (.bl bs[k]) s:=by unfold fIx;simp only [lsOf,this]
  rw [h0,e1]
  simp only [xTr,x2,xVar,Out.bind,ag,ah,ix]) (fun _ _ _=>rfl)
 exact oj (l:=rj 0 9) (s1:=s) (x6 (n:=9) (by simp only [xCons,xC,xNil,Out.bind];rfl) (by decide)) (by rw [sF];decide) c
theorem wE (a:Adr) {c:ae} (hc:c∈a.cl) (s:Sto):mh a [.exc c] s=.ok (.lst (((dG 9).filter fun k=>[decide (c=a.NoName),decide (c=a.Twice),decide (c=a.TooMany),decide (c=a.NoHolder),decide (c=a.NoHouse),decide (c=a.NoLoss),decide (c=a.NoShare),decide (c=a.NoText),decide (c=a.Whole)].getD k false).map fun k:Nat=>.int (0+(k:Int)))) s:=by
 have b9:=CJ [decide (c=a.NoName),decide (c=a.Twice),decide (c=a.TooMany),decide (c=a.NoHolder),decide (c=a.NoHouse),decide (c=a.NoLoss),decide (c=a.NoShare),decide (c=a.NoText),decide (c=a.Whole)] s (some (.exc c)) rfl
 have i1:∀ (tb:ae→Bool) (o:Option PV),n8 a.cl tb (xVar 0) [some (.exc c),o] s=.ok (.bl (tb c)) s:=fun tb o=>Ih rfl hc
 have n4:(0+1+1+1+1:Nat)≤100000:=by decide
 have n3:(0+1+1+1:Nat)≤100000:=by decide
 have n2:(0+1+1:Nat)≤100000:=by decide
 have ad:∀ (A B:List PV),A.length+B.length≤100000→fAdd (.lst A) (.lst B) s=.ok (.lst (A++B)) s:=fun A B h=>by simp [fAdd,lsOf,h]
 refine ms ?_
 unfold sj
 refine (kL (ρ':=[some (.exc c),some (.lst [.bl (decide (c=a.NoName)),.bl (decide (c=a.Twice)),.bl (decide (c=a.TooMany)),.bl (decide (c=a.NoHolder))])]) (s':=s) ?_).trans ?_
 ·refine rh ?_
  show xLst _ [some (.exc c),none] s=_
  simp only [xLst,xCons,xNil,i1,Out.bind,ap,aH,n4,if_true]
 refine (kL (ρ':=[some (.exc c),some (.lst ([.bl (decide (c=a.NoName)),.bl (decide (c=a.Twice)),.bl (decide (c=a.TooMany)),.bl (decide (c=a.NoHolder))]++[.bl (decide (c=a.NoHouse)),.bl (decide (c=a.NoLoss)),.bl (decide (c=a.NoShare))]))]) (s':=s) ?_).trans ?_
 ·refine rh ?_
  simp only [x2,xVar,xLst,xCons,xNil,i1,Out.bind,ag,ah,ap,aH,n3,if_true]
  exact ad _ _ (show (4+3:Nat)≤100000 by decide)
 refine (kL (ρ':=[some (.exc c),some (.lst ([decide (c=a.NoName),decide (c=a.Twice),decide (c=a.TooMany),decide (c=a.NoHolder),decide (c=a.NoHouse),decide (c=a.NoLoss),decide (c=a.NoShare),decide (c=a.NoText),decide (c=a.Whole)].map .bl))]) (s':=s) ?_).trans ?_
 ·refine rh ?_
  simp only [x2,xVar,xLst,xCons,xNil,i1,Out.bind,ag,ah,ap,aH,n2,if_true]
  exact ad _ _ (show (7+2:Nat)≤100000 by decide)
 refine (kL (Fb (s1:=s) ?_)).trans ?_
 ·simp only [xOr,xNot,xTr,i1,Out.bind]
  rfl
 ·exact nM b9
theorem xF {a:Adr} (A:AD a) (s:Sto):mh a [.exc a.NoHolder] s=.ok (.lst [.int 3]) s:=by
 rw [wE a ar s,decide_eq_false A.h1,decide_eq_false A.h2,decide_eq_false A.h3,decide_eq_true (rfl:a.NoHolder=a.NoHolder),decide_eq_false A.h4,decide_eq_false A.h5,decide_eq_false A.h6,decide_eq_false A.h7,decide_eq_false A.h8]
 rfl
theorem yF {a:Adr} (A:AD a) (s:Sto):mh a [.exc a.NoHouse] s=.ok (.lst [.int 4]) s:=by
 rw [wE a (ai _ ar) s,decide_eq_false A.g1,decide_eq_false A.g2,decide_eq_false A.g3,decide_eq_false (fun z=>A.h4 z.symm),decide_eq_true (rfl:a.NoHouse=a.NoHouse),decide_eq_false A.g5,decide_eq_false A.g6,decide_eq_false A.g7,decide_eq_false A.g8]
 rfl
theorem do_ok {f:XE}{ρ:En}{s s':Sto}{v:PV} (h:f ρ s=.ok v s'):xDo f ρ s=.nx ρ s':=by unfold xDo;rw [h];rfl
theorem Wld.caught (W:Wld t nb pp hs L M) (hnb:nb < t.nx) (a:Adr) {w:Nat} (hw:w < 6) {x:Str} (g:if w < 5 then x∈pp++hs else x∈hs):∃ t',mz a [.ref nb,.int w,.str x,LS (srt hs)] t=.ok .non t'∧Kp t t':=by
 obtain ⟨v,t',e,K⟩:=W.asked hnb a hw g
 refine ⟨t',ms ?_,K⟩
 have ex:sv 4 (lC a) (xCons (xVar 0) (xCons (xVar 1) (xCons (xVar 2) (xCons (xVar 3) xNil)))) [some (.ref nb),some (.int w),some (.str x),some (LS (srt hs)),some .non,none] t=.ok v t':=by
  simp only [sv,xCons,xVar,xNil,Out.bind,ag,ah,ap,aH,if_true]
  exact e
 unfold oM
 refine (kL (ρ':=[some (.ref nb),some (.int w),some (.str x),some (LS (srt hs)),some .non,none]) (s':=t) rfl).trans ?_
 refine (kL (ρ':=[some (.ref nb),some (.int w),some (.str x),some (LS (srt hs)),some .non,none]) (s':=t') ?_).trans (nM rfl)
 unfold Ff
 rw [do_ok ex]
theorem Wld.caughtBad (W:Wld t nb pp hs L M) (a:Adr) {w:Nat} (hw:w < 6) {x:Str} (hx:Nm x) (g:if w < 5 then x∉pp++hs else x∉hs):mz a [.ref nb,.int w,.str x,LS (srt hs)] t=.ok (.exc (if w=5 then a.NoHouse else a.NoHolder)) t:=by
 have e:=W.askedBad a hw hx g
 have hc:(if w=5 then a.NoHouse else a.NoHolder)∈a.cl:=by
  split
  ·exact ai _ ar
  ·exact ar
 generalize (if w=5 then a.NoHouse else a.NoHolder)=c at *
 have ex:sv 4 (lC a) (xCons (xVar 0) (xCons (xVar 1) (xCons (xVar 2) (xCons (xVar 3) xNil)))) [some (.ref nb),some (.int w),some (.str x),some (LS (srt hs)),some .non,none] t=.ex c t:=by
  simp only [sv,xCons,xVar,xNil,Out.bind,ag,ah,ap,aH,if_true]
  exact e
 refine ms ?_
 unfold oM
 refine (kL (ρ':=[some (.ref nb),some (.int w),some (.str x),some (LS (srt hs)),some .non,none]) (s':=t) rfl).trans ?_
 refine (kL (ρ':=[some (.ref nb),some (.int w),some (.str x),some (LS (srt hs)),some (.exc c),none]) (s':=t) ?_).trans (nM rfl)
 unfold Ff
 rw [Aw ex]
 simp only
 rw [if_pos hc]
 rfl
def sI (M:List (Str×Hl)) (pp hs:List Str):PV:=.lst ((srt pp++srt hs).map fun w=>.lst [.lst ((rnd M hs w hs.length []).map LS),LS (srt pp),LS (srt hs)])
theorem Wld.looked (W:Wld t nb pp hs L M) (hnb:nb < t.nx) (a:Adr) {s:Sto} (K:Kp t s):∃ s',mw a [.ref nb] s=.ok (sI M pp hs) s'∧Kp t s':=by
 have n3:(0+1+1+1:Nat)≤100000:=by decide
 have hin:∀ z∈srt pp++srt hs,z∈pp++hs:=fun z hz=>by
  rcases aM.mp hz with h | h
  ·exact cn _ ((kX pp).mem_iff.mp h)
  ·exact aL _ ((kX hs).mem_iff.mp h)
 obtain ⟨s',c,K'⟩:=xt (c:=oR) (e:=xLst (xCons (uF (xCall 2 (mv a) (xCons (xVar 1) (xCons (xVar 0) xNil)))) (xCons (xBM 1 (li a) (xVar 1) xNil) (xCons (xBM 1 (lR a) (xVar 1) xNil) xNil)))) (cap:=[some (.ref nb)]) (Kp t) PV.str (fun _=>true) (fun w=>.lst [.lst ((rnd M hs w hs.length []).map LS),LS (srt pp),LS (srt hs)]) (srt pp++srt hs) (fun _ _ s S=>⟨s,rfl,S⟩) (fun w hw _ s S=>by
  have Ws:=W.kp hnb S
  have ns:=aA hnb S.n
  have e1:=Ws.rules ns a (hin w hw)
  obtain ⟨s',f1,f2,f3⟩:=xh (zf s (rnd M hs w hs.length []))
  have K1:Kp s s':=⟨fun m hm=>(f3 m hm).trans (x5 hm _),by rw [f2];exact cE (AL s _)⟩
  have W1:=Ws.kp ns K1
  have hpe:li a [.ref nb] s'=.ok (LS (srt pp)) s':=by simp [li,k7,W1.g]
  have hho:lR a [.ref nb] s'=.ok (LS (srt hs)) s':=by simp [lR,k7,W1.g,W.n]
  exact ⟨s',by simp only [xLst,xCons,xNil,uF,xCall,xBM,xVar,Out.bind,ag,ah,ap,aH,jP,if_true,e1,f1,W1.g,hpe,hho,n3],S.trans K1⟩) s K
 have ef:(((srt pp++srt hs).filter fun _=>true).map fun w=>PV.lst [.lst ((rnd M hs w hs.length []).map LS),LS (srt pp),LS (srt hs)])=(srt pp++srt hs).map fun w=>.lst [.lst ((rnd M hs w hs.length []).map LS),LS (srt pp),LS (srt hs)]:=by rw [cN.mpr (fun _ _=>rfl)]
 rw [ef] at c
 have Ws:=W.kp hnb K
 have p6:=W.w.p6
 have h8:=W.w.h8
 have hpe:li a [.ref nb] s=.ok (LS (srt pp)) s:=by simp [li,k7,Ws.g]
 have hho:lR a [.ref nb] s=.ok (LS (srt hs)) s:=by simp [lR,k7,Ws.g,W.n]
 have hadd:fAdd (LS (srt pp)) (LS (srt hs)) s=.ok (LS (srt pp++srt hs)) s:=by
  have:(srt pp).length+(srt hs).length≤100000:=by rw [kO,kO];omega
  simp [fAdd,lsOf,LS,this]
 refine ⟨s',ms ?_,K'⟩
 unfold rG
 refine nM ?_
 refine oj (l:=(srt pp++srt hs).map .str) (s1:=s) ?_ (by rw [aq,aT,kO,kO];omega) c
 show xIter _ [some (.ref nb)] s=_
 simp only [xIter,x2,xBM,xVar,xNil,Out.bind,ag,Ws.g,aH,jP,if_true,hpe,hho,hadd]
theorem Wld.look_ok (W:Wld t nb pp hs L M) (s:Sto):DOk s 11 (sI M pp hs):=by
 have sp:∀ x∈srt pp,cB x=true:=fun x hx=>zY (W.w.sm x (cn _ ((kX pp).mem_iff.mp hx)))
 have sh:∀ x∈srt hs,cB x=true:=fun x hx=>zY (W.w.sm x (aL _ ((kX hs).mem_iff.mp hx)))
 refine oh fun v hv=>?_
 obtain ⟨w,_,rfl⟩:=am.mp hv
 have hR:=(AM W w hs.length [] eX (fun n hn=>by cases hn)).2
 refine oh fun v hv=>?_
 simp only [aj,bX,or_false] at hv
 rcases hv with rfl | rfl | rfl
 ·refine oh fun v hv=>?_
  obtain ⟨r,hr,rfl⟩:=am.mp hv
  exact AR s 6 (hR r hr).2
 ·exact AR s 7 sp
 ·exact AR s 7 sh
def mY (L:List Ent) (h:Str):PV:=match m6 L h with
 | some e=>.tup [p7 e.held,.tup [.int e.th,.int e.mr,.int e.ls]]
 | none=>.non
theorem Wld.told (W:Wld t nb pp hs L M) (a:Adr) {ρ:En} (h1:ρ[1]?=some (some (.ref nb))) (h4:ρ[4]?=some (some (LS (srt hs)))):md (xIter (xVar 4)) [1] oR (xTup (xCons (xBM 2 (lQ a) (xVar 1) (xCons (xVar 0) xNil)) (xCons (xBM 2 (BC a) (xVar 1) (xCons (xVar 0) xNil)) xNil))) ρ t=.ok (.lst ((srt hs).map (mY L))) t:=by
 have h8:=W.w.h8
 have n2:(0+1+1:Nat)≤100000:=by decide
 have c:=qO (s:=t) (cap:=[some (.ref nb)]) (c:=oR) (e:=xTup (xCons (xBM 2 (lQ a) (xVar 1) (xCons (xVar 0) xNil)) (xCons (xBM 2 (BC a) (xVar 1) (xCons (xVar 0) xNil)) xNil))) PV.str (fun _=>true) (mY L) (srt hs) (fun _ _=>rfl) (fun h hh _=>by
  have hh:=(kX hs).mem_iff.mp hh
  obtain ⟨e,f1,f2,f3⟩:=rT W.p (h:=h) (by rw [W.names];exact hh)
  have hsm:=(W.w.sm h (aL _ hh)).nm
  have hl64:e.held.length < 64:=by have:=f2.l1;omega
  have e1:lQ a [.ref nb,.str h] t=.ok (p7 e.held) t:=by simp [lQ,k7,W.g,f1,hsm,hl64]
  have e2:BC a [.ref nb,.str h] t=.ok (.tup [.int e.th,.int e.mr,.int e.ls]) t:=by simp [BC,k7,W.g,f1,hsm]
  have ev:mY L h=.tup [p7 e.held,.tup [.int e.th,.int e.mr,.int e.ls]]:=by unfold mY;rw [f1]
  rw [ev]
  simp only [xTup,xCons,xNil,xBM,xVar,Out.bind,ag,ah,W.g,ap,aH,if_true,e1,e2,n2])
 rw [cN.mpr (fun _ _=>rfl)] at c
 have ec:lJ [1] ρ=[some (.ref nb)]:=by simp [lJ,h1]
 refine oj (l:=(srt hs).map .str) (s1:=t) (by simp only [xIter,xVar,h4,Out.bind]) (by rw [aq,kO];omega) ?_
 rw [ec]
 exact c
theorem Wld.told_ok (W:Wld t nb pp hs L M) (s:Sto):DOk s 11 (.lst ((srt hs).map (mY L))):=by
 refine oh fun v hv=>?_
 obtain ⟨h,hh,rfl⟩:=am.mp hv
 have hh:=(kX hs).mem_iff.mp hh
 obtain ⟨e,f1,f2,f3⟩:=rT W.p (h:=h) (by rw [W.names];exact hh)
 have ev:mY L h=.tup [p7 e.held,.tup [.int e.th,.int e.mr,.int e.ls]]:=by unfold mY;rw [f1]
 rw [ev]
 refine vj fun v hv=>?_
 simp only [aj,bX,or_false] at hv
 rcases hv with rfl | rfl
 ·refine oh fun v hv=>?_
  obtain ⟨n,hn,rfl⟩:=am.mp hv
  have hn:=(kX _).mem_iff.mp hn
  have hs':cB n=true:=zY (f2.sm n (f2.had (by rw [← f2.q];exact (f2.nm n).mp hn)))
  rw [tP]
  refine vj fun v hv=>?_
  simp only [aj,bX,or_false] at hv
  rcases hv with rfl | rfl
  ·exact Bj s 6 hs'
  ·refine vj fun v hv=>?_
   simp only [aj,bX,or_false] at hv
   rcases hv with rfl | rfl
   ·exact qd s 5 _
   ·exact qd s 5 _
 ·refine vj fun v hv=>?_
  simp only [aj,bX,or_false] at hv
  rcases hv with rfl | rfl | rfl
  ·exact qd s 7 _
  ·exact qd s 7 _
  ·exact qd s 7 _
theorem F4 (s:Sto) (p n:Nat) (pp:List Str) (L:List Ent) (x y:Int):(kst s p n pp L x y).get (s.nx+1)=some (.book pp L):=by
 show lL ((s.nx+1,Cell.book pp L)::_) _=_
 rw [lc,if_pos rfl]
theorem nm_q {x:Str} (h:Sm x):Nm (x++aF "q"):=by
 refine ⟨by rw [oU];have:=h.1;have:(aF "q").length=1:=rfl;omega,fun c hc=>?_⟩
 rw [qS] at hc
 rcases aM.mp hc with z | z
 ·exact e9 (h.2 c z) (by decide)
 ·have e:(aF "q").cps.toList=[113]:=by decide +kernel
  rw [e] at z
  rw [ay.mp z];decide
def G2:List Str:=["","Ab","a b","ninefolds"]
theorem HY:∀ x∈G2,Nm x:=by
 intro x hx
 unfold G2 at hx
 simp only [aj,bX,or_false] at hx
 have key:∀ y:Str,y.length≤100→(y.cps.toList.all fun c=>decide (c < 16 ^ 8))=true→Nm y:=fun y h1 h2=>⟨h1,fun c hc=>of_decide_eq_true (dw.mp h2 c hc)⟩
 rcases hx with rfl | rfl | rfl | rfl <;> exact key _ (by decide +kernel) (by decide +kernel)
theorem Dw {u:XS}{i:Nat} (n:Nat) (I:Nat→En→Sto→Prop) (h:∀ (k:Nat) ρ s,k < n→I k ρ s→∃ ρ1 ρ' s',yName i (.int (k:Int)) ρ s=some ρ1∧u ρ1 s=.nx ρ' s'∧I (k+1) ρ' s') {ρ:En}{s:Sto} (h0:I 0 ρ s):∃ ρ' s',lI (kZ (yName i) u) (rj 0 n) ρ s=.nx ρ' s'∧I n ρ' s' :=
 qK n I (fun k ρ s hk hI=>by
  obtain ⟨ρ1,ρ',s',e1,e2,e3⟩:=h k ρ s hk hI
  refine ⟨ρ',s',?_,e3⟩
  unfold kZ
  rw [e1]
  exact e2) h0
theorem Dc {u:XS}{i:Nat} (l:List Str) (I:En→Sto→Prop) (h:∀ x∈l,∀ ρ s,I ρ s→∃ ρ1 ρ' s',yName i (.str x) ρ s=some ρ1∧u ρ1 s=.nx ρ' s'∧I ρ' s') {ρ:En}{s:Sto} (h0:I ρ s):∃ ρ' s',lI (kZ (yName i) u) (l.map .str) ρ s=.nx ρ' s'∧I ρ' s' :=
 uY (l.map .str) (fun _ ρ s=>I ρ s) (fun k q ρ s hq hI=>by
  rw [bv] at hq
  obtain ⟨x,hx,rfl⟩:=eO.mp hq
  obtain ⟨ρ1,ρ',s',e1,e2,e3⟩:=h x (cF hx) ρ s hI
  refine ⟨ρ',s',?_,e3⟩
  unfold kZ
  rw [e1]
  exact e2) h0
theorem Wld.way (W:Wld t nb pp hs L M) (hnb:nb < t.nx) {a:Adr} (A:AD a) {w:Nat} (hw:w < 6) {x:Str} (hx:Nm x) {N:List Str} (hN:∀ z,z∈N ↔ z∈pp++hs) (o0 o2 o3 o5 o9 o10:Option PV) {s:Sto} (K:Kp t s) :
  ∃ u9 u10 s',vv a [o0,some (.ref nb),o2,o3,some (LS (srt hs)),o5,some (LS N),some (.str x),some (.int w),o9,o10] s=.nx [o0,some (.ref nb),o2,o3,some (LS (srt hs)),o5,some (LS N),some (.str x),some (.int w),u9,u10] s'∧Kp t s':=by
 have Ws:=W.kp hnb K
 have ns:=aA hnb K.n
 have hS:∀ z,z∈srt hs ↔ z∈hs:=fun z=>(kX hs).mem_iff
 have good:∀ (s:Sto) (o9:Option PV),xOrV (xAndV (x2 (xVar 8) (xC (.int 5)) fLt) (x2 (xVar 7) (xVar 6) fIn)) (x2 (xVar 7) (xVar 4) fIn) [o0,some (.ref nb),o2,o3,some (LS (srt hs)),o5,some (LS N),some (.str x),some (.int w),o9,o10] s=.ok (.bl (decide (if w < 5 then x∈pp++hs else x∈hs))) s:=fun s o9=>by
  have i6:=tm x N s
  have i4:=tm x (srt hs) s
  have lt:fLt (.int (w:Int)) (.int 5) s=.ok (.bl (decide (w < 5))) s:=by
   show Out.ok (PV.bl (decide ((w:Int) < 5))) s=_
   congr 2
   rw [decide_eq_decide]
   omega
  have e4:decide (x∈srt hs)=decide (x∈hs):=by rw [decide_eq_decide];exact hS x
  have e6:decide (x∈N)=decide (x∈pp++hs):=by rw [decide_eq_decide];exact hN x
  rw [e4] at i4
  rw [e6] at i6
  by_cases z:w < 5
  ·rw [decide_eq_true z] at lt
   by_cases y:x∈pp++hs
   ·rw [decide_eq_true y] at i6
    simp only [xOrV,xAndV,x2,xVar,xC,Out.bind,ag,ah,lt,i6,z,if_true,decide_eq_true y]
   ·rw [decide_eq_false y] at i6
    have y2:x∉hs:=fun q=>y (aL _ q)
    rw [decide_eq_false y2] at i4
    simp only [xOrV,xAndV,x2,xVar,xC,Out.bind,ag,ah,lt,i6,i4,z,if_true,decide_eq_false y]
  ·rw [decide_eq_false z] at lt
   simp only [xOrV,xAndV,x2,xVar,xC,Out.bind,ag,ah,lt,i4,z,if_false]
 unfold vv
 by_cases g:(if w < 5 then x∈pp++hs else x∈hs)
 ·obtain ⟨s',e,K'⟩:=Ws.caught ns a hw g
  have gd:=good s' (some .non)
  rw [decide_eq_true g] at gd
  refine ⟨some .non,some (.bl true),s',?_,K.trans K'⟩
  refine (kL (ρ':=[o0,some (.ref nb),o2,o3,some (LS (srt hs)),o5,some (LS N),some (.str x),some (.int w),some .non,o10]) (s':=s') ?_).trans ?_
  ·refine rh ?_
   simp only [xCall,xCons,xVar,xNil,Out.bind,ag,ah,ap,aH,if_true]
   exact e
  refine (kL (ρ':=[o0,some (.ref nb),o2,o3,some (LS (srt hs)),o5,some (LS N),some (.str x),some (.int w),some .non,some (.bl true)]) (s':=s') (rh gd)).trans ?_
  refine Fb ?_
  have e1:fIsnt .non .non s'=.ok (.bl false) s':=rfl
  simp only [xOr,xAnd,xNot,xTr,x2,xVar,xC,Out.bind,ag,ah,e1]
  rfl
 ·have g':if w < 5 then x∉pp++hs else x∉hs:=by
   by_cases z:w < 5
   ·rw [if_pos z] at g ⊢;exact g
   ·rw [if_neg z] at g ⊢;exact g
  have e:=Ws.caughtBad a hw hx g'
  have gd:=good s (some (.exc (if w=5 then a.NoHouse else a.NoHolder)))
  rw [decide_eq_false g] at gd
  refine ⟨some (.exc (if w=5 then a.NoHouse else a.NoHolder)),some (.bl false),s,?_,K⟩
  refine (kL (ρ':=[o0,some (.ref nb),o2,o3,some (LS (srt hs)),o5,some (LS N),some (.str x),some (.int w),some (.exc (if w=5 then a.NoHouse else a.NoHolder)),o10]) (s':=s) ?_).trans ?_
  ·refine rh ?_
   simp only [xCall,xCons,xVar,xNil,Out.bind,ag,ah,ap,aH,if_true]
   exact e
  refine (kL (ρ':=[o0,some (.ref nb),o2,o3,some (LS (srt hs)),o5,some (LS N),some (.str x),some (.int w),some (.exc (if w=5 then a.NoHouse else a.NoHolder)),some (.bl false)]) (s':=s) (rh gd)).trans ?_
  refine Fb ?_
  have n1:(0+1:Nat)≤100000:=by decide
  have n2:(0+1+1:Nat)≤100000:=by decide
  have q:=Bg (w:Int) 5 s
  by_cases z:w=5
  ·have zb:((w:Int) == 5)=true:=by rw [z];rfl
   rw [zb] at q
   rw [if_pos z]
   have e1:=yF A s
   have fi:fInt [.bl true] s=.ok (.int 1) s:=rfl
   have ix:fIx (.lst [.lst [.int 3],.lst [.int 4]]) (.int 1) s=.ok (.lst [.int 4]) s:=rfl
   have nd:fNe (.lst [.int 4]) (.lst [.int 4]) s=.ok (.bl false) s:=EQ (oh fun v hv=>by rw [ay.mp hv];exact qd s 10 4)
   simp only [xOr,xAnd,xNot,xTr,x2,xVar,xC,xCall,xCons,xNil,xLst,xB,Out.bind,ag,ah,ap,aH,eG,if_false,Bool.not_false,if_true,n1,n2,e1,q,fi,ix,nd]
  ·have zb:((w:Int) == 5)=false:=by simpa using (show ¬ (w:Int)=5 by omega)
   rw [zb] at q
   rw [if_neg z]
   have e1:=xF A s
   have fi:fInt [.bl false] s=.ok (.int 0) s:=rfl
   have ix:fIx (.lst [.lst [.int 3],.lst [.int 4]]) (.int 0) s=.ok (.lst [.int 3]) s:=rfl
   have nd:fNe (.lst [.int 3]) (.lst [.int 3]) s=.ok (.bl false) s:=EQ (oh fun v hv=>by rw [ay.mp hv];exact qd s 10 3)
   simp only [xOr,xAnd,xNot,xTr,x2,xVar,xC,xCall,xCons,xNil,xLst,xB,Out.bind,ag,ah,ap,aH,eG,if_false,Bool.not_false,if_true,n1,n2,e1,q,fi,ix,nd]
theorem Wld.ways (W:Wld t nb pp hs L M) (hnb:nb < t.nx) {a:Adr} (A:AD a) {x:Str} (hx:Nm x) {N:List Str} (hN:∀ z,z∈N ↔ z∈pp++hs) (o0 o2 o3 o5 o8 o9 o10:Option PV) {s:Sto} (K:Kp t s) :
  ∃ u8 u9 u10 s',vt a [o0,some (.ref nb),o2,o3,some (LS (srt hs)),o5,some (LS N),some (.str x),o8,o9,o10] s=.nx [o0,some (.ref nb),o2,o3,some (LS (srt hs)),o5,some (LS N),some (.str x),u8,u9,u10] s'∧Kp t s':=by
 obtain ⟨ρ',s',hlo,u8,u9,u10,rfl,K'⟩:=Dw (i:=8) (u:=vv a) 6
  (fun _ ρ s=>∃ u8 u9 u10,ρ=[o0,some (.ref nb),o2,o3,some (LS (srt hs)),o5,some (LS N),some (.str x),u8,u9,u10]∧Kp t s)
  (fun k ρ s hk hI=>by
   obtain ⟨u8,u9,u10,rfl,K⟩:=hI
   obtain ⟨v9,v10,s',e,K'⟩:=W.way hnb A hk hx hN o0 o2 o3 o5 u9 u10 K
   exact ⟨_,_,_,rfl,e,some (.int k),v9,v10,rfl,K'⟩) (ρ:=[o0,some (.ref nb),o2,o3,some (LS (srt hs)),o5,some (LS N),some (.str x),o8,o9,o10]) (s:=s) ⟨o8,o9,o10,rfl,K⟩
 refine ⟨u8,u9,u10,s',?_,K'⟩
 unfold vt
 exact rH (l:=rj 0 6) (s1:=s) (x6 (n:=6) (by simp only [xCons,xC,xNil,Out.bind];rfl) (by decide)) hlo
theorem HZ {a:Adr} (A:AD a) (l:List Int) (hl:l.length≤63):∃ s',yD a [.seq (l.map .int)] ⟨0,[]⟩=.ok (.bl true) s':=by
 obtain ⟨x0,y0,e0⟩:=DD a ⟨0,[]⟩ l hl
 have hP:IsPurse ((⟨0,[]⟩:Sto).add (.lst [.int x0,.int y0])) 0:=⟨x0,y0,rfl⟩
 generalize hs1:(⟨0,[]⟩:Sto).add (.lst [.int x0,.int y0])=s1 at *
 have nx1:s1.nx=1:=by rw [← hs1];rfl
 obtain ⟨n,pp,hs,L,M,x,y,hn,Wd,Pr,Nm',e1⟩:=Ev a s1 0 (by omega) hP
 have W:Wld (kst s1 0 n pp L x y) (s1.nx+1) pp hs L M:=⟨Wd,Pr.mono (by decide),Nm',F4 s1 0 n pp L x y⟩
 have p6:=W.w.p6
 have h8:=W.w.h8
 have hso:=W.srtE (kst s1 0 n pp L x y)
 have hnb:s1.nx+1 < (kst s1 0 n pp L x y).nx:=hn
 generalize kst s1 0 n pp L x y=t at *
 generalize s1.nx+1=nb at *
 have hin:∀ z,z∈srt pp++srt hs ↔ z∈pp++hs:=fun z=>by rw [aM,aM,(kX pp).mem_iff,(kX hs).mem_iff]
 have nl:(srt pp++srt hs).length=pp.length+hs.length:=by rw [aT,kO,kO]
 obtain ⟨t1,e2,K1⟩:=W.looked hnb a (Kp.refl t)
 have W1:=W.kp hnb K1
 have hadd:fAdd (LS (srt pp)) (LS (srt hs)) t1=.ok (LS (srt pp++srt hs)) t1:=by
  have:(srt pp).length+(srt hs).length≤100000:=by rw [kO,kO];omega
  simp [fAdd,lsOf,LS,this]
 have e3:=W1.told a (ρ:=[some (.seq (l.map .int)),some (.ref nb),some (LS (srt pp)),some (.dct (qM M)),some (LS (srt hs)),none,none,none,none,none,none]) rfl rfl
 have n2:(0+1+1:Nat)≤100000:=by decide
 have n4:(0+1+1+1+1:Nat)≤100000:=by decide
 generalize hNe:srt pp++srt hs=N at *
 have smN:∀ z∈N,Sm z:=fun z hz=>W.w.sm z ((hin z).mp hz)
 obtain ⟨ρ',t2,hlo,u7,u8,u9,u10,rfl,K2⟩:=Dc (i:=7) (u:=vt a) ((N++G2)++N.map fun z:Str=>z++aF "q")
  (fun ρ s=>∃ u7 u8 u9 u10,ρ=[some (.seq (l.map .int)),some (.ref nb),some (LS (srt pp)),some (.dct (qM M)),some (LS (srt hs)),some (.lst [sI M pp hs,.lst ((srt hs).map (mY L))]),some (LS N),u7,u8,u9,u10]∧Kp t s)
  (fun x hx ρ s hI=>by
   obtain ⟨u7,u8,u9,u10,rfl,K⟩:=hI
   have hxn:Nm x:=by
    rcases aM.mp hx with z | z
    ·rcases aM.mp z with z | z
     ·exact (smN x z).nm
     ·exact HY x z
    ·obtain ⟨y,hy,rfl⟩:=am.mp z
     exact nm_q (smN y hy)
   obtain ⟨v8,v9,v10,s',e,K'⟩:=W.ways hnb A hxn hin (some (.seq (l.map .int))) (some (LS (srt pp))) (some (.dct (qM M))) (some (.lst [sI M pp hs,.lst ((srt hs).map (mY L))])) u8 u9 u10 K
   exact ⟨_,_,_,rfl,e,some (.str x),v8,v9,v10,rfl,K'⟩) (ρ:=[some (.seq (l.map .int)),some (.ref nb),some (LS (srt pp)),some (.dct (qM M)),some (LS (srt hs)),some (.lst [sI M pp hs,.lst ((srt hs).map (mY L))]),some (LS N),none,none,none,none]) (s:=t1) ⟨none,none,none,none,rfl,K1⟩
 obtain ⟨t3,e4,K3⟩:=W.looked hnb a K2
 have W3:=W.kp hnb K3
 have e5:=W3.told a (ρ:=[some (.seq (l.map .int)),some (.ref nb),some (LS (srt pp)),some (.dct (qM M)),some (LS (srt hs)),some (.lst [sI M pp hs,.lst ((srt hs).map (mY L))]),some (LS N),u7,u8,u9,u10]) rfl rfl
 have eqd:=Ir (s:=t3) (v:=.lst [sI M pp hs,.lst ((srt hs).map (mY L))]) (oh fun v hv=>by
  simp only [aj,bX,or_false] at hv
  rcases hv with rfl | rfl
  ·exact W3.look_ok t3
  ·exact W3.told_ok t3)
 have cq:=qO (s:=t1) (cap:=[]) (c:=oR) (e:=x2 (xVar 0) (xC (.str "q")) fAdd) PV.str (fun _=>true) (fun z=>.str (z++aF "q")) N (fun _ _=>rfl) (fun z hz _=>by
  have hz':=(smN z hz).1
  have:z.length+(aF "q").length≤100000:=by
   have h1:(aF "q").length=1:=rfl
   omega
  have e:fAdd (.str z) (.str "q") t1=.ok (.str (z++aF "q")) t1:=by
   show (if z.length+(aF "q").length≤100000 then Out.ok (PV.str (z++aF "q")) t1 else Out.bad)=_
   rw [if_pos this]
  simp only [x2,xVar,xC,Out.bind,ag,e])
 rw [cN.mpr (fun _ _=>rfl)] at cq
 have dq:md (xIter (xVar 6)) [] oR (x2 (xVar 0) (xC (.str "q")) fAdd) [some (.seq (l.map .int)),some (.ref nb),some (LS (srt pp)),some (.dct (qM M)),some (LS (srt hs)),some (.lst [sI M pp hs,.lst ((srt hs).map (mY L))]),some (LS N),none,none,none,none] t1=.ok (.lst (N.map fun z=>.str (z++aF "q"))) t1 :=
  oj (l:=N.map .str) (s1:=t1) rfl (by rw [aq];omega) cq
 have ad:∀ (A B:List PV),A.length+B.length≤100000→fAdd (.lst A) (.lst B) t1=.ok (.lst (A++B)) t1:=fun A B h=>by simp [fAdd,lsOf,h]
 have a1:=ad (N.map .str) [.str "",.str "Ab",.str "a b",.str "ninefolds"] (by rw [aq];show N.length+4≤100000;omega)
 have a2:=ad (N.map .str++[.str "",.str "Ab",.str "a b",.str "ninefolds"]) (N.map fun z=>.str (z++aF "q")) (by rw [aT,aq,aq];show N.length+4+N.length≤100000;omega)
 have el:N.map PV.str++[.str "",.str "Ab",.str "a b",.str "ninefolds"]++(N.map fun z=>PV.str (z++aF "q"))=((N++G2)++N.map fun z:Str=>z++aF "q").map PV.str:=by
  rw [aW,aW,a7]
  rfl
 rw [el] at a2
 refine ⟨t3,ms ?_⟩
 unfold GZ
 rw [kL (ρ':=[some (.seq (l.map .int)),some (.ref nb),some (LS (srt pp)),some (.dct (qM M)),none,none,none,none,none,none,none]) (s':=t) (by simp [sem,k9,kF,k8,e0,e1])]
 rw [kL (ρ':=[some (.seq (l.map .int)),some (.ref nb),some (LS (srt pp)),some (.dct (qM M)),some (LS (srt hs)),none,none,none,none,none,none]) (s':=t) (by
  simp only [xSet,xB,xCons,xVar,xNil,Out.bind,Out.so,ag,ah,hso]
  rfl)]
 rw [kL (ρ':=[some (.seq (l.map .int)),some (.ref nb),some (LS (srt pp)),some (.dct (qM M)),some (LS (srt hs)),some (.lst [sI M pp hs,.lst ((srt hs).map (mY L))]),none,none,none,none,none]) (s':=t1) (by
  refine rh ?_
  simp only [xLst,xCons,xNil,xCall,xVar,Out.bind,ag,ah,ap,aH,if_true,e2,e3,n2])]
 rw [kL (ρ':=[some (.seq (l.map .int)),some (.ref nb),some (LS (srt pp)),some (.dct (qM M)),some (LS (srt hs)),some (.lst [sI M pp hs,.lst ((srt hs).map (mY L))]),some (LS N),none,none,none,none]) (s':=t1) (by
  simp only [xSet,x2,xVar,Out.bind,Out.so,ag,ah,hadd]
  rfl)]
 rw [kL (rH (s1:=t1) (by
  simp only [xIter,x2,xLst,xCons,xNil,xC,xVar,Out.bind,ag,ah,ap,aH,n4,if_true,a1,dq,a2]) hlo)]
 refine nM ?_
 simp only [x2,xLst,xCons,xNil,xCall,xVar,Out.bind,ag,ah,ap,aH,if_true,e4,e5,n2,eqd]
theorem F3 {K:aa}{a:Adr} (A:AD a) {H:Hp}{c cd PT:ae}{ns:List Int}{Q:VK}{E:XK} (hl:ns.length≤63) (ht:bS K "rules"=some (cd,PT)) (hO:AE PT H) (hS:SqL K H c (ns.map V.int)) (k:∀ v H',v=.bl true→Q v H'):spD K a.Book 1 (yD a) [.ref c] H Q E:=by
 obtain ⟨s',e⟩:=HZ A ns hl
 have S0:SR K a.Book H ⟨fun _=>c,fun _=>[],[PT]⟩ ⟨0,[]⟩:=by
  refine ⟨eX,(by intro n hn;cases hn),(by intro q hq;cases hq),(by intro n hn;cases hn),(by intro n hn;cases hn),fun z hz=>?_,fun P q t=>?_⟩
  ·obtain rfl:=ay.mp hz
   rw [hO.1]
   exact ⟨by simp,fun _ _=>⟨by simp,by simp,by simp,by simp⟩⟩
  ·obtain ⟨x,hx,c',h1,h2⟩:=t
   simp only [vJ,ay] at hx
   subst hx
   rw [ht] at h1
   cases h1
   exact ⟨ay.mpr rfl,#[],hO.1,trivial,fun p c e=>by cases e⟩
 have R0:∀ (l:List Int),Reps K H ⟨fun _=>c,fun _=>[],[PT]⟩ ⟨0,[]⟩ (l.map V.int) (l.map PV.int):=fun l=>by
  induction l with
  | nil=>exact .nil
  | cons x r ih=>exact .cons .int ih
 have hr:Rep K H ⟨fun _=>c,fun _=>[],[PT]⟩ ⟨0,[]⟩ (.ref c) (.seq (ns.map .int)):=by
  refine .seq ?_ (R0 ns)
  rcases hS with (h | h) | h
  ·by_cases z:c=PT
   ·rw [z,hO.1] at h;cases h
   ·rcases hO.2 c z with z | ⟨o,xs,z⟩
    ·rw [z] at h;cases h
    ·rw [z] at h;cases h
  ·obtain ⟨o,h⟩:=h
   refine .inl ⟨⟨o,h⟩,fun z=>?_,by intro n hn;cases hn⟩
   obtain rfl:=ay.mp z
   rw [hO.1] at h;cases h
  ·exact .inr h
 refine ⟨rfl,[.seq (ns.map .int)],⟨0,[]⟩,_,.cons hr .nil,S0,?_⟩
 rw [e]
 intro u H' m' _ _ r
 cases r
 exact k _ _ rfl
end
open PyProof.Rows
def FL (K:aa) (f:ae) (x q:Str) (st:bM) (oc:af) (od:Option ae) (kV dc pm:af) (an:Option ae) (cd ct:af) (sl:Array (Option af)):Prop:=K.lookup f=some ⟨oc,od,.func (dS x q (rL st) (ng st) (kC st) .none kV dc pm an cd ct),sl⟩
theorem mkF {P:aV}{w:bz}{K:aa}{mg:Str→Option af}{base:bK}{x:Str}{k:Nat}{ps:List Str}{sp:Sp}{f:ae}{fd:bR} (h:FnOk P w K mg base (CXo P w) k f fd ps sp) (m:mg x=some (.ref f)) (hk:az K (.ref f)=true) (b:Binds K fd ps []):Fn P w K mg base x k ps sp:=⟨f,fd,h,m,hk,b⟩
theorem mkM {P:aV}{w:bz}{K:aa}{mg:Str→Option af}{base:bK}{C:ae}{x:Str}{k:Nat}{ps:List Str}{sp:Sp}{f:ae}{fd:bR} (h:FnOk P w K mg base (CXo P w) k f fd ps sp) (a:av K (.ref C) x=some (some (.ref f))) (i:bV K (.ref f)=true) (hk:az K (.ref f)=true) (c:Cls K C) (b:Binds K fd ps []):Mt P w K mg base C x k ps sp:=⟨f,fd,h,⟨a,i,hk⟩,c,b⟩
theorem all_mk {l:ge}{w:bz}{K:aa}{h:bK}{mg:Str→Option af}{fa:ae} (X:K.In h) (G:h.Ns au mg) (hfa:mg "law"=some (.ref fa))
  {X_OwnError X_NoName X_Twice X_TooMany X_NoHolder X_NoHouse X_NoLoss X_NoShare X_NoText X_Whole BK ZR ON CDR PTR HF f0 f1 f2 f3 f4 f5 f6 f7 f8 f9 f10 f11 f12 f13 f14 f15 f16 f17 f18 f19 f20 f21 f22 f23 f24 f25 f26 f27 f28 f29 f30 f31 f32 f33 f34 f35 f36 f37 f38 f39 f40 f41 f42:ae}{od0 an0 od1 an1 od2 an2 od3 an3 od4 an4 od5 an5 od6 an6 od7 an7 od8 an8 od9 an9 od10 an10 od11 an11 od12 an12 od13 an13 od14 an14 od15 an15 od16 an16 od17 an17 od18 an18 od19 an19 od20 an20 od21 an21 od22 an22 od23 an23 od24 an24 od25 an25 od26 an26 od27 an27 od28 an28 od29 an29 od30 an30 od31 an31 od32 an32 od33 an33 od34 an34 od35 an35 od36 an36 od37 an37 od38 an38 od39 an39 od40 an40 od41 an41 od42 an42 odr odz odo odh:Option ae}{sl0 sl1 sl2 sl3 sl4 sl5 sl6 sl7 sl8 sl9 sl10 sl11 sl12 sl13 sl14 sl15 sl16 sl17 sl18 sl19 sl20 sl21 sl22 sl23 sl24 sl25 sl26 sl27 sl28 sl29 sl30 sl31 sl32 sl33 sl34 sl35 sl36 sl37 sl38 sl39 sl40 sl41 sl42 slr slz slo slh:Array (Option af)}{oc0 kV0 dc0 pm0 cd0 ct0 oc1 kV1 dc1 pm1 cd1 ct1 oc2 kV2 dc2 pm2 cd2 ct2 oc3 kV3 dc3 pm3 cd3 ct3 oc4 kV4 dc4 pm4 cd4 ct4 oc5 kV5 dc5 pm5 cd5 ct5 oc6 kV6 dc6 pm6 cd6 ct6 oc7 kV7 dc7 pm7 cd7 ct7 oc8 kV8 dc8 pm8 cd8 ct8 oc9 kV9 dc9 pm9 cd9 ct9 oc10 kV10 dc10 pm10 cd10 ct10 oc11 kV11 dc11 pm11 cd11 ct11 oc12 kV12 dc12 pm12 cd12 ct12 oc13 kV13 dc13 pm13 cd13 ct13 oc14 kV14 dc14 pm14 cd14 ct14 oc15 kV15 dc15 pm15 cd15 ct15 oc16 kV16 dc16 pm16 cd16 ct16 oc17 kV17 dc17 pm17 cd17 ct17 oc18 kV18 dc18 pm18 cd18 ct18 oc19 kV19 dc19 pm19 cd19 ct19 oc20 kV20 dc20 pm20 cd20 ct20 oc21 kV21 dc21 pm21 cd21 ct21 oc22 kV22 dc22 pm22 cd22 ct22 oc23 kV23 dc23 pm23 cd23 ct23 oc24 kV24 dc24 pm24 cd24 ct24 oc25 kV25 dc25 pm25 cd25 ct25 oc26 kV26 dc26 pm26 cd26 ct26 oc27 kV27 dc27 pm27 cd27 ct27 oc28 kV28 dc28 pm28 cd28 ct28 oc29 kV29 dc29 pm29 cd29 ct29 oc30 kV30 dc30 pm30 cd30 ct30 oc31 kV31 dc31 pm31 ct31 oc32 kV32 dc32 pm32 cd32 ct32 oc33 kV33 dc33 pm33 cd33 ct33 oc34 kV34 dc34 pm34 cd34 ct34 oc35 kV35 dc35 pm35 cd35 ct35 oc36 kV36 dc36 pm36 cd36 ct36 oc37 kV37 dc37 pm37 cd37 ct37 oc38 kV38 dc38 pm38 cd38 ct38 oc39 kV39 dc39 pm39 cd39 ct39 oc40 kV40 dc40 pm40 cd40 ct40 oc41 kV41 dc41 pm41 cd41 ct41 oc42 kV42 dc42 pm42 cd42 ct42:af}{tz0 tz1 to0 to1 th0 th1 tl tp th:Tok}{vsr:Array af}{nz no nh:Nat}
  (jaa:aw K au "OwnError"=some (some (.ref X_OwnError)))
  (jab:aw K au "NoName"=some (some (.ref X_NoName)))
  (jac:aw K au "Twice"=some (some (.ref X_Twice)))
  (jad:aw K au "TooMany"=some (some (.ref X_TooMany)))
  (jae:aw K au "NoHolder"=some (some (.ref X_NoHolder)))
  (jaf:aw K au "NoHouse"=some (some (.ref X_NoHouse)))
  (jag:aw K au "NoLoss"=some (some (.ref X_NoLoss)))
  (jah:aw K au "NoShare"=some (some (.ref X_NoShare)))
  (jai:aw K au "NoText"=some (some (.ref X_NoText)))
  (jaj:aw K au "Whole"=some (some (.ref X_Whole)))
  (jak:aw K au "Book"=some (some (.ref BK)))
  (jal:aw K au "ZERO"=some (some (.ref ZR)))
  (jam:aw K au "ONE"=some (some (.ref ON)))
  (jan:aw K au "HALF"=some (some (.ref HF)))
  (jao:K.lookup ZR=some ⟨.type "tuple",odz,.seq #[.int 0 tz0,.int 1 tz1] nz,slz⟩)
  (jap:K.lookup ON=some ⟨.type "tuple",odo,.seq #[.int 1 to0,.int 1 to1] no,slo⟩)
  (jaq:K.lookup HF=some ⟨.type "tuple",odh,.seq #[.int 1 th0,.int 2 th1] nh,slh⟩)
  (jar:aw K au "LONGEST_NAME"=some (some (.int 8 tl)))
  (jas:aw K au "MOST_PERSONS"=some (some (.int 6 tp)))
  (jat:aw K au "MOST_HOUSES"=some (some (.int 8 th)))
  (jau:aw K au "len"=some none)
  (jav:aw K au "range"=some none)
  (jaw:aw K au "all"=some none)
  (jax:aw K au "int"=some none)
  (jay:aw K au "abs"=some none)
  (jaz:aw K au "sorted"=some none)
  (ja0:aw K au "tuple"=some none)
  (ja1:aw K au "list"=some none)
  (ja2:aw K au "str"=some none)
  (ja3:aw K au "bool"=some none)
  (ja4:aw K au "isinstance"=some none)
  (ja5:aw K au "ValueError"=some none)
  (ja6:aw K au "any"=some none)
  (ja7:aw K au "set"=some none)
  (ja8:aw K au "max"=some none)
  (ja9:e8 K BK fw=true)
  (jba:fP K BK=true)
  (jbb:g9 K BK=true)
  (jbc:av K (.ref BK) "__setattr__"=some (some (.builtin "object.__setattr__")))
  (jbd:iD K BK=true)
  (jbe:az K (.ref BK)=true)
  (jbf:av K (.ref BK) "people"=some none)
  (jbg:av K (.ref BK) "things_of"=some none)
  (jbh:av K (.ref BK) "mark_of"=some none)
  (jbi:av K (.ref BK) "loss_of"=some none)
  (jbj:av K (.ref BK) "held_of"=some none)
  (jbk:fO K (.builtin "object.__class__") "__get__"=some (some (.builtin "getset_descriptor.__get__")))
  (jbl:iB K (.builtin "object.__class__")=some true)
  (jbm:cL K X_OwnError bmV "ValueError.__new__"=true)
  (jbn:av K (.ref X_OwnError) "__getattribute__"=some (some (.builtin "BaseException.__getattribute__")))
  (jbo:av K (.ref X_OwnError) "__getattr__"=some none)
  (jbp:av K (.ref X_OwnError) "__class__"=some (some (.builtin "object.__class__")))
  (jbq:bj K X_OwnError (.type "object")=some true)
  (jbr:bj K X_OwnError (.type "BaseException")=some true)
  (jbs:cL K X_NoName bmV "ValueError.__new__"=true)
  (jbt:av K (.ref X_NoName) "__getattribute__"=some (some (.builtin "BaseException.__getattribute__")))
  (jbu:av K (.ref X_NoName) "__getattr__"=some none)
  (jbv:av K (.ref X_NoName) "__class__"=some (some (.builtin "object.__class__")))
  (jbw:bj K X_NoName (.type "object")=some true)
  (jbx:bj K X_NoName (.type "BaseException")=some true)
  (jby:cL K X_Twice bmV "ValueError.__new__"=true)
  (jbz:av K (.ref X_Twice) "__getattribute__"=some (some (.builtin "BaseException.__getattribute__")))
  (jb0:av K (.ref X_Twice) "__getattr__"=some none)
  (jb1:av K (.ref X_Twice) "__class__"=some (some (.builtin "object.__class__")))
  (jb2:bj K X_Twice (.type "object")=some true)
  (jb3:bj K X_Twice (.type "BaseException")=some true)
  (jb4:cL K X_TooMany bmV "ValueError.__new__"=true)
  (jb5:av K (.ref X_TooMany) "__getattribute__"=some (some (.builtin "BaseException.__getattribute__")))
  (jb6:av K (.ref X_TooMany) "__getattr__"=some none)
  (jb7:av K (.ref X_TooMany) "__class__"=some (some (.builtin "object.__class__")))
  (jb8:bj K X_TooMany (.type "object")=some true)
  (jb9:bj K X_TooMany (.type "BaseException")=some true)
  (jca:cL K X_NoHolder bmV "ValueError.__new__"=true)
  (jcb:av K (.ref X_NoHolder) "__getattribute__"=some (some (.builtin "BaseException.__getattribute__")))
  (jcc:av K (.ref X_NoHolder) "__getattr__"=some none)
  (jcd:av K (.ref X_NoHolder) "__class__"=some (some (.builtin "object.__class__")))
  (jce:bj K X_NoHolder (.type "object")=some true)
  (jcf:bj K X_NoHolder (.type "BaseException")=some true)
  (jcg:cL K X_NoHouse bmV "ValueError.__new__"=true)
  (jch:av K (.ref X_NoHouse) "__getattribute__"=some (some (.builtin "BaseException.__getattribute__")))
  (jci:av K (.ref X_NoHouse) "__getattr__"=some none)
  (jcj:av K (.ref X_NoHouse) "__class__"=some (some (.builtin "object.__class__")))
  (jck:bj K X_NoHouse (.type "object")=some true)
  (jcl:bj K X_NoHouse (.type "BaseException")=some true)
  (jcm:cL K X_NoLoss bmV "ValueError.__new__"=true)
  (jcn:av K (.ref X_NoLoss) "__getattribute__"=some (some (.builtin "BaseException.__getattribute__")))
  (jco:av K (.ref X_NoLoss) "__getattr__"=some none)
  (jcp:av K (.ref X_NoLoss) "__class__"=some (some (.builtin "object.__class__")))
  (jcq:bj K X_NoLoss (.type "object")=some true)
  (jcr:bj K X_NoLoss (.type "BaseException")=some true)
  (jcs:cL K X_NoShare bmV "ValueError.__new__"=true)
  (jct:av K (.ref X_NoShare) "__getattribute__"=some (some (.builtin "BaseException.__getattribute__")))
  (jcu:av K (.ref X_NoShare) "__getattr__"=some none)
  (jcv:av K (.ref X_NoShare) "__class__"=some (some (.builtin "object.__class__")))
  (jcw:bj K X_NoShare (.type "object")=some true)
  (jcx:bj K X_NoShare (.type "BaseException")=some true)
  (jcy:bj K X_NoHolder (.ref X_OwnError)=some true)
  (jcz:ao K (.ref X_NoHolder) (.type "ValueError")=some true)
  (jc0:ao K (.ref X_NoHolder) (.ref X_OwnError)=some true)
  (jc1:ao K (.ref X_NoHolder) (.ref X_NoName)=some false)
  (jc2:(X_NoHolder == X_NoName)=false)
  (jc3:ao K (.ref X_NoHolder) (.ref X_Twice)=some false)
  (jc4:(X_NoHolder == X_Twice)=false)
  (jc5:ao K (.ref X_NoHolder) (.ref X_TooMany)=some false)
  (jc6:(X_NoHolder == X_TooMany)=false)
  (jc7:ao K (.ref X_NoHolder) (.ref X_NoHolder)=some true)
  (jc8:ao K (.ref X_NoHolder) (.ref X_NoHouse)=some false)
  (jc9:(X_NoHolder == X_NoHouse)=false)
  (jda:ao K (.ref X_NoHolder) (.ref X_NoLoss)=some false)
  (jdb:(X_NoHolder == X_NoLoss)=false)
  (jdc:ao K (.ref X_NoHolder) (.ref X_NoShare)=some false)
  (jdd:(X_NoHolder == X_NoShare)=false)
  (jde:ao K (.ref X_NoHolder) (.ref X_NoText)=some false)
  (jdf:(X_NoHolder == X_NoText)=false)
  (jdg:ao K (.ref X_NoHolder) (.ref X_Whole)=some false)
  (jdh:(X_NoHolder == X_Whole)=false)
  (jdi:bj K X_NoHouse (.ref X_OwnError)=some true)
  (jdj:ao K (.ref X_NoHouse) (.type "ValueError")=some true)
  (jdk:ao K (.ref X_NoHouse) (.ref X_OwnError)=some true)
  (jdl:ao K (.ref X_NoHouse) (.ref X_NoName)=some false)
  (jdm:(X_NoHouse == X_NoName)=false)
  (jdn:ao K (.ref X_NoHouse) (.ref X_Twice)=some false)
  (jdo:(X_NoHouse == X_Twice)=false)
  (jdp:ao K (.ref X_NoHouse) (.ref X_TooMany)=some false)
  (jdq:(X_NoHouse == X_TooMany)=false)
  (jdr:ao K (.ref X_NoHouse) (.ref X_NoHolder)=some false)
  (jds:ao K (.ref X_NoHouse) (.ref X_NoHouse)=some true)
  (jdt:ao K (.ref X_NoHouse) (.ref X_NoLoss)=some false)
  (jdu:(X_NoHouse == X_NoLoss)=false)
  (jdv:ao K (.ref X_NoHouse) (.ref X_NoShare)=some false)
  (jdw:(X_NoHouse == X_NoShare)=false)
  (jdx:ao K (.ref X_NoHouse) (.ref X_NoText)=some false)
  (jdy:(X_NoHouse == X_NoText)=false)
  (jdz:ao K (.ref X_NoHouse) (.ref X_Whole)=some false)
  (jd0:(X_NoHouse == X_Whole)=false)
  (jd1:ao K (.type "NoneType") (.type "ValueError")=some false)
  (jd2:ao K (.type "NoneType") (.ref X_OwnError)=some false)
  (jd3:ao K (.type "NoneType") (.ref X_NoName)=some false)
  (jd4:ao K (.type "NoneType") (.ref X_Twice)=some false)
  (jd5:ao K (.type "NoneType") (.ref X_TooMany)=some false)
  (jd6:ao K (.type "NoneType") (.ref X_NoHolder)=some false)
  (jd7:ao K (.type "NoneType") (.ref X_NoHouse)=some false)
  (jd8:ao K (.type "NoneType") (.ref X_NoLoss)=some false)
  (jd9:ao K (.type "NoneType") (.ref X_NoShare)=some false)
  (jea:ao K (.type "NoneType") (.ref X_NoText)=some false)
  (jeb:ao K (.type "NoneType") (.ref X_Whole)=some false)
  (jec:aw K au "is_name"=some (some (.ref f0)))
  (jed:FL K f0 "is_name" "is_name" ra oc0 od0 kV0 dc0 pm0 an0 cd0 ct0 sl0)
  (jee:aG K cd0 "is_name"=true)
  (jef:az K (.ref f0)=true)
  (jeg:aw K au "need_loss"=some (some (.ref f1)))
  (jeh:FL K f1 "need_loss" "need_loss" qm oc1 od1 kV1 dc1 pm1 an1 cd1 ct1 sl1)
  (jei:aG K cd1 "need_loss"=true)
  (jej:az K (.ref f1)=true)
  (jek:aw K au "common_divisor"=some (some (.ref f2)))
  (jel:FL K f2 "common_divisor" "common_divisor" m9 oc2 od2 kV2 dc2 pm2 an2 cd2 ct2 sl2)
  (jem:aG K cd2 "common_divisor"=true)
  (jen:az K (.ref f2)=true)
  (jeo:aw K au "plus"=some (some (.ref f3)))
  (jep:FL K f3 "plus" "plus" AJ oc3 od3 kV3 dc3 pm3 an3 cd3 ct3 sl3)
  (jeq:aG K cd3 "plus"=true)
  (jer:az K (.ref f3)=true)
  (jes:aw K au "minus"=some (some (.ref f4)))
  (jet:FL K f4 "minus" "minus" x4 oc4 od4 kV4 dc4 pm4 an4 cd4 ct4 sl4)
  (jeu:aG K cd4 "minus"=true)
  (jev:az K (.ref f4)=true)
  (jew:aw K au "is_above"=some (some (.ref f5)))
  (jex:FL K f5 "is_above" "is_above" rS oc5 od5 kV5 dc5 pm5 an5 cd5 ct5 sl5)
  (jey:aG K cd5 "is_above"=true)
  (jez:az K (.ref f5)=true)
  (je0:av K (.ref BK) "__init__"=some (some (.ref f6)))
  (je1:bV K (.ref f6)=true)
  (je2:FL K f6 "__init__" "Book.__init__" qw oc6 od6 kV6 dc6 pm6 an6 cd6 ct6 sl6)
  (je3:aG K cd6 "Book.__init__"=true)
  (je4:az K (.ref f6)=true)
  (je5:av K (.ref BK) "is_house"=some (some (.ref f7)))
  (je6:bV K (.ref f7)=true)
  (je7:FL K f7 "is_house" "Book.is_house" nF oc7 od7 kV7 dc7 pm7 an7 cd7 ct7 sl7)
  (je8:aG K cd7 "Book.is_house"=true)
  (je9:az K (.ref f7)=true)
  (jfa:av K (.ref BK) "is_holder"=some (some (.ref f8)))
  (jfb:bV K (.ref f8)=true)
  (jfc:FL K f8 "is_holder" "Book.is_holder" na oc8 od8 kV8 dc8 pm8 an8 cd8 ct8 sl8)
  (jfd:aG K cd8 "Book.is_holder"=true)
  (jfe:az K (.ref f8)=true)
  (jff:av K (.ref BK) "need_house"=some (some (.ref f9)))
  (jfg:bV K (.ref f9)=true)
  (jfh:FL K f9 "need_house" "Book.need_house" mQ oc9 od9 kV9 dc9 pm9 an9 cd9 ct9 sl9)
  (jfi:aG K cd9 "Book.need_house"=true)
  (jfj:az K (.ref f9)=true)
  (jfk:av K (.ref BK) "need_holder"=some (some (.ref f10)))
  (jfl:bV K (.ref f10)=true)
  (jfm:FL K f10 "need_holder" "Book.need_holder" mB oc10 od10 kV10 dc10 pm10 an10 cd10 ct10 sl10)
  (jfn:aG K cd10 "Book.need_holder"=true)
  (jfo:az K (.ref f10)=true)
  (jfp:av K (.ref BK) "need_new_name"=some (some (.ref f11)))
  (jfq:bV K (.ref f11)=true)
  (jfr:FL K f11 "need_new_name" "Book.need_new_name" l5 oc11 od11 kV11 dc11 pm11 an11 cd11 ct11 sl11)
  (jfs:aG K cd11 "Book.need_new_name"=true)
  (jft:az K (.ref f11)=true)
  (jfu:av K (.ref BK) "person"=some (some (.ref f12)))
  (jfv:bV K (.ref f12)=true)
  (jfw:FL K f12 "person" "Book.person" oI oc12 od12 kV12 dc12 pm12 an12 cd12 ct12 sl12)
  (jfx:aG K cd12 "Book.person"=true)
  (jfy:az K (.ref f12)=true)
  (jfz:av K (.ref BK) "house"=some (some (.ref f13)))
  (jf0:bV K (.ref f13)=true)
  (jf1:FL K f13 "house" "Book.house" pK oc13 od13 kV13 dc13 pm13 an13 cd13 ct13 sl13)
  (jf2:aG K cd13 "Book.house"=true)
  (jf3:az K (.ref f13)=true)
  (jf4:av K (.ref BK) "sale"=some (some (.ref f14)))
  (jf5:bV K (.ref f14)=true)
  (jf6:FL K f14 "sale" "Book.sale" qu oc14 od14 kV14 dc14 pm14 an14 cd14 ct14 sl14)
  (jf7:aG K cd14 "Book.sale"=true)
  (jf8:az K (.ref f14)=true)
  (jf9:av K (.ref BK) "persons"=some (some (.ref f15)))
  (jga:bV K (.ref f15)=true)
  (jgb:FL K f15 "persons" "Book.persons" nV oc15 od15 kV15 dc15 pm15 an15 cd15 ct15 sl15)
  (jgc:aG K cd15 "Book.persons"=true)
  (jgd:az K (.ref f15)=true)
  (jge:av K (.ref BK) "houses"=some (some (.ref f16)))
  (jgf:bV K (.ref f16)=true)
  (jgg:FL K f16 "houses" "Book.houses" oJ oc16 od16 kV16 dc16 pm16 an16 cd16 ct16 sl16)
  (jgh:aG K cd16 "Book.houses"=true)
  (jgi:az K (.ref f16)=true)
  (jgj:av K (.ref BK) "of"=some (some (.ref f17)))
  (jgk:bV K (.ref f17)=true)
  (jgl:FL K f17 "of" "Book.of" tI oc17 od17 kV17 dc17 pm17 an17 cd17 ct17 sl17)
  (jgm:aG K cd17 "Book.of"=true)
  (jgn:az K (.ref f17)=true)
  (jgo:av K (.ref BK) "shares"=some (some (.ref f18)))
  (jgp:bV K (.ref f18)=true)
  (jgq:FL K f18 "shares" "Book.shares" nk oc18 od18 kV18 dc18 pm18 an18 cd18 ct18 sl18)
  (jgr:aG K cd18 "Book.shares"=true)
  (jgs:az K (.ref f18)=true)
  (jgt:aw K au "_law_take"=some (some (.ref f19)))
  (jgu:FL K f19 "_law_take" "_law_take" qp oc19 od19 kV19 dc19 pm19 an19 cd19 ct19 sl19)
  (jgv:aG K cd19 "_law_take"=true)
  (jgw:az K (.ref f19)=true)
  (jgx:aw K au "_law_divisor"=some (some (.ref f20)))
  (jgy:FL K f20 "_law_divisor" "_law_divisor" nU oc20 od20 kV20 dc20 pm20 an20 cd20 ct20 sl20)
  (jgz:aG K cd20 "_law_divisor"=true)
  (jg0:az K (.ref f20)=true)
  (jg1:aw K au "_law_lowest"=some (some (.ref f21)))
  (jg2:FL K f21 "_law_lowest" "_law_lowest" oG oc21 od21 kV21 dc21 pm21 an21 cd21 ct21 sl21)
  (jg3:aG K cd21 "_law_lowest"=true)
  (jg4:az K (.ref f21)=true)
  (jg5:aw K au "_law_plus"=some (some (.ref f22)))
  (jg6:FL K f22 "_law_plus" "_law_plus" qr oc22 od22 kV22 dc22 pm22 an22 cd22 ct22 sl22)
  (jg7:aG K cd22 "_law_plus"=true)
  (jg8:az K (.ref f22)=true)
  (jg9:aw K au "_law_times"=some (some (.ref f23)))
  (jha:FL K f23 "_law_times" "_law_times" pH oc23 od23 kV23 dc23 pm23 an23 cd23 ct23 sl23)
  (jhb:aG K cd23 "_law_times"=true)
  (jhc:az K (.ref f23)=true)
  (jhd:aw K au "_law_purse"=some (some (.ref f24)))
  (jhe:FL K f24 "_law_purse" "_law_purse" pI oc24 od24 kV24 dc24 pm24 an24 cd24 ct24 sl24)
  (jhf:aG K cd24 "_law_purse"=true)
  (jhg:az K (.ref f24)=true)
  (jhh:aw K au "_law_names"=some (some (.ref f25)))
  (jhi:FL K f25 "_law_names" "_law_names" nQ oc25 od25 kV25 dc25 pm25 an25 cd25 ct25 sl25)
  (jhj:aG K cd25 "_law_names"=true)
  (jhk:az K (.ref f25)=true)
  (jhl:aw K au "_law_part"=some (some (.ref f26)))
  (jhm:FL K f26 "_law_part" "_law_part" qt oc26 od26 kV26 dc26 pm26 an26 cd26 ct26 sl26)
  (jhn:aG K cd26 "_law_part"=true)
  (jho:az K (.ref f26)=true)
  (jhp:aw K au "_law_built"=some (some (.ref f27)))
  (jhq:FL K f27 "_law_built" "_law_built" nR oc27 od27 kV27 dc27 pm27 an27 cd27 ct27 sl27)
  (jhr:aG K cd27 "_law_built"=true)
  (jhs:az K (.ref f27)=true)
  (jht:aw K au "outvote"=some (some (.ref f28)))
  (jhu:FL K f28 "outvote" "outvote" tH oc28 od28 kV28 dc28 pm28 an28 cd28 ct28 sl28)
  (jhv:aG K cd28 "outvote"=true)
  (jhw:az K (.ref f28)=true)
  (jhx:aw K au "outvoted"=some (some (.ref f29)))
  (jhy:FL K f29 "outvoted" "outvoted" pP oc29 od29 kV29 dc29 pm29 an29 cd29 ct29 sl29)
  (jhz:aG K cd29 "outvoted"=true)
  (jh0:az K (.ref f29)=true)
  (jh1:aw K au "rounds"=some (some (.ref f30)))
  (jh2:FL K f30 "rounds" "rounds" sE oc30 od30 kV30 dc30 pm30 an30 cd30 ct30 sl30)
  (jh3:aG K cd30 "rounds"=true)
  (jh4:az K (.ref f30)=true)
  (jh5:aw K au "rules"=some (some (.ref f31)))
  (jh6:FL K f31 "rules" "rules" uP oc31 od31 kV31 dc31 pm31 an31 (.ref CDR) ct31 sl31)
  (jh7:aG K (.ref CDR) "rules"=true)
  (jh8:az K (.ref f31)=true)
  (jh9:aw K au "is_ruled"=some (some (.ref f32)))
  (jia:FL K f32 "is_ruled" "is_ruled" pQ oc32 od32 kV32 dc32 pm32 an32 cd32 ct32 sl32)
  (jib:aG K cd32 "is_ruled"=true)
  (jic:az K (.ref f32)=true)
  (jid:aw K au "ruler"=some (some (.ref f33)))
  (jie:FL K f33 "ruler" "ruler" xZ oc33 od33 kV33 dc33 pm33 an33 cd33 ct33 sl33)
  (jif:aG K cd33 "ruler"=true)
  (jig:az K (.ref f33)=true)
  (jih:aw K au "are_unlike"=some (some (.ref f34)))
  (jii:FL K f34 "are_unlike" "are_unlike" pG oc34 od34 kV34 dc34 pm34 an34 cd34 ct34 sl34)
  (jij:aG K cd34 "are_unlike"=true)
  (jik:az K (.ref f34)=true)
  (jil:aw K au "is_step"=some (some (.ref f35)))
  (jim:FL K f35 "is_step" "is_step" qZ oc35 od35 kV35 dc35 pm35 an35 cd35 ct35 sl35)
  (jin:aG K cd35 "is_step"=true)
  (jio:az K (.ref f35)=true)
  (jip:aw K au "are_steps"=some (some (.ref f36)))
  (jiq:FL K f36 "are_steps" "are_steps" qo oc36 od36 kV36 dc36 pm36 an36 cd36 ct36 sl36)
  (jir:aG K cd36 "are_steps"=true)
  (jis:az K (.ref f36)=true)
  (jit:aw K au "is_shut"=some (some (.ref f37)))
  (jiu:FL K f37 "is_shut" "is_shut" pb oc37 od37 kV37 dc37 pm37 an37 cd37 ct37 sl37)
  (jiv:aG K cd37 "is_shut"=true)
  (jiw:az K (.ref f37)=true)
  (jix:aw K au "_law_which"=some (some (.ref f38)))
  (jiy:FL K f38 "_law_which" "_law_which" nO oc38 od38 kV38 dc38 pm38 an38 cd38 ct38 sl38)
  (jiz:aG K cd38 "_law_which"=true)
  (ji0:az K (.ref f38)=true)
  (ji1:aw K au "_law_asked"=some (some (.ref f39)))
  (ji2:FL K f39 "_law_asked" "_law_asked" pJ oc39 od39 kV39 dc39 pm39 an39 cd39 ct39 sl39)
  (ji3:aG K cd39 "_law_asked"=true)
  (ji4:az K (.ref f39)=true)
  (ji5:aw K au "_law_caught"=some (some (.ref f40)))
  (ji6:FL K f40 "_law_caught" "_law_caught" oH oc40 od40 kV40 dc40 pm40 an40 cd40 ct40 sl40)
  (ji7:aG K cd40 "_law_caught"=true)
  (ji8:az K (.ref f40)=true)
  (ji9:aw K au "_law_looked"=some (some (.ref f41)))
  (jja:FL K f41 "_law_looked" "_law_looked" nj oc41 od41 kV41 dc41 pm41 an41 cd41 ct41 sl41)
  (jjb:aG K cd41 "_law_looked"=true)
  (jjc:az K (.ref f41)=true)
  (jjd:aw K au "law"=some (some (.ref f42)))
  (jje:FL K f42 "law" "law" ue oc42 od42 kV42 dc42 pm42 an42 cd42 ct42 sl42)
  (jjf:aG K cd42 "law"=true)
  (jjg:az K (.ref f42)=true)
  (jjh:K.lookup CDR=some ⟨.type "code",odr,.fields vsr,slr⟩)
  (jji:(vsr[11]?:Option af)=some (.ref PTR))
  (jjj:hdOk vsr CDR PTR=true)
  (jjk:(PTR == au)=false)
  (jjl:K.lookup PTR=none)
   :∃ (a:Adr) (fd:bR) (c P:ae),AD a∧bS K "rules"=some (c,P)∧K.lookup P=none∧(∀ (s:al) (v:af),i5 s fd ⟨[v],[]⟩ [("_law_script",v)])∧∀ base:bK,K.In base→base.Ns au mg→(∀ c P,bS K "rules"=some (c,P)→wB mg base P)→FnOk l.prog w K mg base (CXo l.prog w) 13 fa fd ["_law_script"] (spD K a.Book 1 (yD a)):=by
 have e:=hfa.symm.trans (aJ X G jjd)
 cases e
 let a:Adr:=⟨X_OwnError,X_NoName,X_Twice,X_TooMany,X_NoHolder,X_NoHouse,X_NoLoss,X_NoShare,X_NoText,X_Whole,BK,ZR,ON,HF,tl,tp,th,fun _ _=>false⟩
 have E_OwnError:Exc K X_OwnError:=⟨jbm,jbn,jbo,jbp,jbk,jbl,jbq,jbr⟩
 have E_NoName:Exc K X_NoName:=⟨jbs,jbt,jbu,jbv,jbk,jbl,jbw,jbx⟩
 have E_Twice:Exc K X_Twice:=⟨jby,jbz,jb0,jb1,jbk,jbl,jb2,jb3⟩
 have E_TooMany:Exc K X_TooMany:=⟨jb4,jb5,jb6,jb7,jbk,jbl,jb8,jb9⟩
 have E_NoHolder:Exc K X_NoHolder:=⟨jca,jcb,jcc,jcd,jbk,jbl,jce,jcf⟩
 have E_NoHouse:Exc K X_NoHouse:=⟨jcg,jch,jci,jcj,jbk,jbl,jck,jcl⟩
 have E_NoLoss:Exc K X_NoLoss:=⟨jcm,jcn,jco,jcp,jbk,jbl,jcq,jcr⟩
 have E_NoShare:Exc K X_NoShare:=⟨jcs,jct,jcu,jcv,jbk,jbl,jcw,jcx⟩
 have T:Txt K mg a:=⟨bD X G jau,bD X G jav,bD X G jaw,bD X G jax,bD X G jay,bD X G jaz,bD X G ja0,bD X G ja1,bD X G ja2,bD X G ja3,bD X G ja4,bD X G ja5,bD X G ja6,bD X G ja7,bD X G ja8,aJ X G jaa,aJ X G jab,aJ X G jac,aJ X G jad,aJ X G jae,aJ X G jaf,aJ X G jag,aJ X G jah,aJ X G jai,aJ X G jaj,E_OwnError,E_NoName,E_Twice,E_TooMany,E_NoHolder,E_NoHouse,E_NoLoss,E_NoShare,aJ X G jar,aJ X G jas,aJ X G jat,aJ X G jal,aJ X G jam,aJ X G jan,
  ⟨_,_,_,jao,rfl,rfl,(show 2≤aP by decide),.cons ⟨_,rfl⟩ (.cons ⟨_,rfl⟩ .nil)⟩,⟨_,_,_,jap,rfl,rfl,(show 2≤aP by decide),.cons ⟨_,rfl⟩ (.cons ⟨_,rfl⟩ .nil)⟩,⟨_,_,_,jaq,rfl,rfl,(show 2≤aP by decide),.cons ⟨_,rfl⟩ (.cons ⟨_,rfl⟩ .nil)⟩,⟨ja9,jba,jbb,jbc⟩,jbf,jbg,jbh,jbi,jbj⟩
 have neB:∀ {c d:ae},(c == d)=false→c≠d:=fun {c d} h=>by simpa using h
 have AA:AD a:=⟨(neB jc2),(neB jc4),(neB jc6),(neB jc9),(neB jdb),(neB jdd),(neB jdf),(neB jdh),(neB jdm),(neB jdo),(neB jdq),(neB jdu),(neB jdw),(neB jdy),(neB jd0)⟩
 have T2:T2x K a:=⟨(fun c hc=>(aj.mp hc).elim (fun z=>z ▸ ⟨E_NoHolder,jcy⟩) fun hc=>(aj.mp hc).elim (fun z=>z ▸ ⟨E_NoHouse,jdi⟩) fun hc=>nomatch hc),oE (a:=a) (tb:=fun _=>true) E_NoHolder E_NoHouse jcz jdj,jd1,oE (a:=a) (tb:=fun _=>true) E_NoHolder E_NoHouse jc0 jdk,jd2,oE (a:=a) (tb:=fun c=>decide (c=X_NoName)) E_NoHolder E_NoHouse (jc1.trans (oA (neB jc2))) (jdl.trans (oA (neB jdm))),jd3,oE (a:=a) (tb:=fun c=>decide (c=X_Twice)) E_NoHolder E_NoHouse (jc3.trans (oA (neB jc4))) (jdn.trans (oA (neB jdo))),jd4,oE (a:=a) (tb:=fun c=>decide (c=X_TooMany)) E_NoHolder E_NoHouse (jc5.trans (oA (neB jc6))) (jdp.trans (oA (neB jdq))),jd5,oE (a:=a) (tb:=fun c=>decide (c=X_NoHolder)) E_NoHolder E_NoHouse (jc7.trans (EA _)) (jdr.trans (oA (neB jc9).symm)),jd6,oE (a:=a) (tb:=fun c=>decide (c=X_NoHouse)) E_NoHolder E_NoHouse (jc8.trans (oA (neB jc9))) (jds.trans (EA _)),jd7,oE (a:=a) (tb:=fun c=>decide (c=X_NoLoss)) E_NoHolder E_NoHouse (jda.trans (oA (neB jdb))) (jdt.trans (oA (neB jdu))),jd8,oE (a:=a) (tb:=fun c=>decide (c=X_NoShare)) E_NoHolder E_NoHouse (jdc.trans (oA (neB jdd))) (jdv.trans (oA (neB jdw))),jd9,oE (a:=a) (tb:=fun c=>decide (c=X_NoText)) E_NoHolder E_NoHouse (jde.trans (oA (neB jdf))) (jdx.trans (oA (neB jdy))),jea,oE (a:=a) (tb:=fun c=>decide (c=X_Whole)) E_NoHolder E_NoHouse (jdg.trans (oA (neB jdh))) (jdz.trans (oA (neB jd0))),jeb⟩
 have U0:=kR jed jee jef
 have B0:=U0.binds (ps:=["text"]) fun _ _ _ _ _ _ us hl=>match us,hl with | [_],_=>rfl
 have U1:=kR jeh jei jej
 have B1:=U1.binds (ps:=["number"]) fun _ _ _ _ _ _ us hl=>match us,hl with | [_],_=>rfl
 have U2:=kR jel jem jen
 have B2:=U2.binds (ps:=["number","other"]) fun _ _ _ _ _ _ us hl=>match us,hl with | [_,_],_=>rfl
 have U3:=kR jep jeq jer
 have B3:=U3.binds (ps:=["first","second"]) fun _ _ _ _ _ _ us hl=>match us,hl with | [_,_],_=>rfl
 have U4:=kR jet jeu jev
 have B4:=U4.binds (ps:=["first","second"]) fun _ _ _ _ _ _ us hl=>match us,hl with | [_,_],_=>rfl
 have U5:=kR jex jey jez
 have B5:=U5.binds (ps:=["first","second"]) fun _ _ _ _ _ _ us hl=>match us,hl with | [_,_],_=>rfl
 have U6:=kR je2 je3 je4
 have B6:=U6.binds (ps:=["self"]) fun _ _ _ _ _ _ us hl=>match us,hl with | [_],_=>rfl
 have U7:=kR je7 je8 je9
 have B7:=U7.binds (ps:=["self","name"]) fun _ _ _ _ _ _ us hl=>match us,hl with | [_,_],_=>rfl
 have U8:=kR jfc jfd jfe
 have B8:=U8.binds (ps:=["self","name"]) fun _ _ _ _ _ _ us hl=>match us,hl with | [_,_],_=>rfl
 have U9:=kR jfh jfi jfj
 have B9:=U9.binds (ps:=["self","name"]) fun _ _ _ _ _ _ us hl=>match us,hl with | [_,_],_=>rfl
 have U10:=kR jfm jfn jfo
 have B10:=U10.binds (ps:=["self","name"]) fun _ _ _ _ _ _ us hl=>match us,hl with | [_,_],_=>rfl
 have U11:=kR jfr jfs jft
 have B11:=U11.binds (ps:=["self","name"]) fun _ _ _ _ _ _ us hl=>match us,hl with | [_,_],_=>rfl
 have U12:=kR jfw jfx jfy
 have B12:=U12.binds (ps:=["self","name"]) fun _ _ _ _ _ _ us hl=>match us,hl with | [_,_],_=>rfl
 have U13:=kR jf1 jf2 jf3
 have B13:=U13.binds (ps:=["self","name","owner","things","mark","loss"]) fun _ _ _ _ _ _ us hl=>match us,hl with | [_,_,_,_,_,_],_=>rfl
 have U14:=kR jf6 jf7 jf8
 have B14:=U14.binds (ps:=["self","house","one","other","share"]) fun _ _ _ _ _ _ us hl=>match us,hl with | [_,_,_,_,_],_=>rfl
 have U15:=kR jgb jgc jgd
 have B15:=U15.binds (ps:=["self"]) fun _ _ _ _ _ _ us hl=>match us,hl with | [_],_=>rfl
 have U16:=kR jgg jgh jgi
 have B16:=U16.binds (ps:=["self"]) fun _ _ _ _ _ _ us hl=>match us,hl with | [_],_=>rfl
 have U17:=kR jgl jgm jgn
 have B17:=U17.binds (ps:=["self","house"]) fun _ _ _ _ _ _ us hl=>match us,hl with | [_,_],_=>rfl
 have U18:=kR jgq jgr jgs
 have B18:=U18.binds (ps:=["self","house"]) fun _ _ _ _ _ _ us hl=>match us,hl with | [_,_],_=>rfl
 have U19:=kR jgu jgv jgw
 have B19:=U19.binds (ps:=["_law_purse_here","_law_many"]) fun _ _ _ _ _ _ us hl=>match us,hl with | [_,_],_=>rfl
 have U20:=kR jgy jgz jg0
 have B20:=U20.binds (ps:=["_law_one","_law_other"]) fun _ _ _ _ _ _ us hl=>match us,hl with | [_,_],_=>rfl
 have U21:=kR jg2 jg3 jg4
 have B21:=U21.binds (ps:=["_law_top","_law_bottom"]) fun _ _ _ _ _ _ us hl=>match us,hl with | [_,_],_=>rfl
 have U22:=kR jg6 jg7 jg8
 have B22:=U22.binds (ps:=["_law_one","_law_other"]) fun _ _ _ _ _ _ us hl=>match us,hl with | [_,_],_=>rfl
 have U23:=kR jha jhb jhc
 have B23:=U23.binds (ps:=["_law_one","_law_other"]) fun _ _ _ _ _ _ us hl=>match us,hl with | [_,_],_=>rfl
 have U24:=kR jhe jhf jhg
 have B24:=U24.binds (ps:=["_law_script"]) fun _ _ _ _ _ _ us hl=>match us,hl with | [_],_=>rfl
 have U25:=kR jhi jhj jhk
 have B25:=U25.binds (ps:=["_law_purse_here"]) fun _ _ _ _ _ _ us hl=>match us,hl with | [_],_=>rfl
 have U26:=kR jhm jhn jho
 have B26:=U26.binds (ps:=["_law_purse_here"]) fun _ _ _ _ _ _ us hl=>match us,hl with | [_],_=>rfl
 have U27:=kR jhq jhr jhs
 have B27:=U27.binds (ps:=["_law_purse_here"]) fun _ _ _ _ _ _ us hl=>match us,hl with | [_],_=>rfl
 have U28:=kR jhu jhv jhw
 have B28:=U28.binds (ps:=["book","voters","house"]) fun _ _ _ _ _ _ us hl=>match us,hl with | [_,_,_],_=>rfl
 have U29:=kR jhy jhz jh0
 have B29:=U29.binds (ps:=["book","voters"]) fun _ _ _ _ _ _ us hl=>match us,hl with | [_,_],_=>rfl
 have U30:=kR jh2 jh3 jh4
 have B30:=U30.binds (ps:=["drawn"]) fun _ _ _ _ _ _ us hl=>match us,hl with | [_],_=>rfl
 have U31:=kR jh6 jh7 jh8
 have B31:=U31.binds (ps:=["book","holder"]) fun _ _ _ _ _ _ us hl=>match us,hl with | [_,_],_=>rfl
 have U32:=kR jia jib jic
 have B32:=U32.binds (ps:=["book","house","holder"]) fun _ _ _ _ _ _ us hl=>match us,hl with | [_,_,_],_=>rfl
 have U33:=kR jie jif jig
 have B33:=U33.binds (ps:=["book","house"]) fun _ _ _ _ _ _ us hl=>match us,hl with | [_,_],_=>rfl
 have U34:=kR jii jij jik
 have B34:=U34.binds (ps:=["names"]) fun _ _ _ _ _ _ us hl=>match us,hl with | [_],_=>rfl
 have U35:=kR jim jin jio
 have B35:=U35.binds (ps:=["book","known","house","voters"]) fun _ _ _ _ _ _ us hl=>match us,hl with | [_,_,_,_],_=>rfl
 have U36:=kR jiq jir jis
 have B36:=U36.binds (ps:=["book","holder","steps"]) fun _ _ _ _ _ _ us hl=>match us,hl with | [_,_,_],_=>rfl
 have U37:=kR jiu jiv jiw
 have B37:=U37.binds (ps:=["book","holder","houses"]) fun _ _ _ _ _ _ us hl=>match us,hl with | [_,_,_],_=>rfl
 have U38:=kR jiy jiz ji0
 have B38:=U38.binds (ps:=["_law_e"]) fun _ _ _ _ _ _ us hl=>match us,hl with | [_],_=>rfl
 have U39:=kR ji2 ji3 ji4
 have B39:=U39.binds (ps:=["_law_book","_law_way","_law_name","_law_houses"]) fun _ _ _ _ _ _ us hl=>match us,hl with | [_,_,_,_],_=>rfl
 have U40:=kR ji6 ji7 ji8
 have B40:=U40.binds (ps:=["_law_book","_law_way","_law_name","_law_houses"]) fun _ _ _ _ _ _ us hl=>match us,hl with | [_,_,_,_],_=>rfl
 have U41:=kR jja jjb jjc
 have B41:=U41.binds (ps:=["_law_book"]) fun _ _ _ _ _ _ us hl=>match us,hl with | [_],_=>rfl
 have U42:=kR jje jjf jjg
 have B42:=U42.binds (ps:=["_law_script"]) fun _ _ _ _ _ _ us hl=>match us,hl with | [_],_=>rfl
 have t_rules:bS K "rules"=some (CDR,PTR):=C9 jh5 jh6 rfl jjh jji
 refine ⟨a,dS "law" "law" (rL ue) (ng ue) (kC ue) .none kV42 dc42 pm42 an42 cd42 ct42,CDR,PTR,AA,t_rules,jjl,fun s v=>.of_eq rfl,fun base _ _ BM=>?_⟩
 have TL:LamTxt K mg base CDR PTR:=Cn (CF jjh jjj) (fun z=>by rw [z] at jjk;simp at jjk) (BM _ _ t_rules)
 have MF:=@mkF l.prog w K mg base
 have MM:=@mkM l.prog w K mg base
 have RF_is_name:=MF (Am U0 T ) (aJ X G jec) jef B0
 have RF_need_loss:=MF (xN U1 T ) (aJ X G jeg) jej B1
 have RF_common_divisor:=MF (HV U2 T ) (aJ X G jek) jen B2
 have RF_plus:=MF (FT U3 T RF_common_divisor) (aJ X G jeo) jer B3
 have F_plus:=Fn.imp RF_plus (Df (a:=a))
 have RF_minus:=MF (D4 U4 T RF_plus) (aJ X G jes) jev B4
 have RF_is_above:=MF (D6 U5 T ) (aJ X G jew) jez B5
 have F_is_above:=Fn.imp RF_is_above (BI (a:=a))
 have M_Book:MkB l.prog w K mg base "Book" a.Book 1 ["self"] (AI K a.Book):=⟨_,_,FU U6 T ,aJ X G jak,⟨jbd,je0,je1,jbe⟩,B6⟩
 have RM_is_house:=MM (yP U7 T ) je5 je6 je9 T.cl B7
 have M_is_house:=Mt.imp RM_is_house (xG (a:=a))
 have RM_is_holder:=MM (xO U8 T RM_is_house) jfa jfb jfe T.cl B8
 have RM_need_house:=MM (vZ U9 T RM_is_house) jff jfg jfj T.cl B9
 have M_need_house:=Mt.imp RM_need_house (ux (a:=a))
 have RM_need_holder:=MM (uB U10 T RM_is_holder) jfk jfl jfo T.cl B10
 have M_need_holder:=Mt.imp RM_need_holder (uc (a:=a))
 have RM_need_new_name:=MM (yN U11 T RF_is_name RM_is_holder) jfp jfq jft T.cl B11
 have RM_person:=MM (Cc U12 T RM_need_new_name) jfu jfv jfy T.cl B12
 have M_person:=Mt.imp RM_person (zW (a:=a))
 have RM_house:=MM (D5 U13 T RM_need_new_name RM_need_holder RF_need_loss) jfz jf0 jf3 T.cl B13
 have M_house:=Mt.imp RM_house (BH (a:=a))
 have RM_sale:=MM (FS U14 T RM_need_house RM_need_holder RF_is_above RF_minus RF_plus) jf4 jf5 jf8 T.cl B14
 have M_sale:=Mt.imp RM_sale (De (a:=a))
 have RM_persons:=MM (Ai U15 T ) jf9 jga jgd T.cl B15
 have M_persons:=Mt.imp RM_persons (yI (a:=a))
 have RM_houses:=MM (Cd U16 T ) jge jgf jgi T.cl B16
 have M_houses:=Mt.imp RM_houses (zX (a:=a))
 have RM_of:=MM (ok_of U17 T RM_need_house) jgj jgk jgn T.cl B17
 have M_of:=Mt.imp RM_of (Hi (a:=a))
 have RM_shares:=MM (Ca U18 T RM_need_house) jgo jgp jgs T.cl B18
 have M_shares:=Mt.imp RM_shares (zV (a:=a))
 have F__law_take:=MF (xQ U19 T ) (aJ X G jgt) jgw B19
 have F__law_divisor:=MF (uf U20 T ) (aJ X G jgx) jg0 B20
 have F__law_lowest:=MF (uC U21 T F__law_divisor) (aJ X G jg1) jg4 B21
 have F__law_plus:=MF (xR U22 T F__law_lowest) (aJ X G jg5) jg8 B22
 have F__law_times:=MF (wa U23 T F__law_lowest) (aJ X G jg9) jhc B23
 have F__law_purse:=MF (wb U24 T ) (aJ X G jhd) jhg B24
 have F__law_names:=MF (wc U25 T F__law_take) (aJ X G jhh) jhk B25
 have F__law_part:=MF (xS U26 T F__law_lowest F__law_take) (aJ X G jhl) jho B26
 have F__law_built:=MF (we U27 T F__law_names M_Book M_person M_house F__law_take F__law_times F__law_part M_sale F__law_plus) (aJ X G jhp) jhs B27
 have F_outvote:=MF (Aj U28 T M_shares F_is_above F_plus) (aJ X G jht) jhw B28
 have F_outvoted:=MF (yM U29 T M_houses F_outvote) (aJ X G jhx) jh0 B29
 have F_rounds:=MF (Cb U30 T ) (aJ X G jh1) jh4 B30
 have F_rules:=MF (D2 U31 T M_need_holder F_rounds F_outvoted jh5 t_rules TL) (aJ X G jh5) jh8 B31
 have F_is_ruled:=MF (yO U32 T F_rules) (aJ X G jh9) jic B32
 have F_ruler:=MF (D3 U33 T M_need_house M_persons F_is_ruled) (aJ X G jid) jig B33
 have F_are_unlike:=MF (v5 U34 T ) (aJ X G jih) jik B34
 have F_is_step:=MF (Ak U35 T F_outvote M_is_house F_are_unlike) (aJ X G jil) jio B35
 have F_are_steps:=MF (xP U36 T M_need_holder F_is_step) (aJ X G jip) jis B36
 have F_is_shut:=MF (Al U37 T M_need_holder F_are_unlike F_outvoted M_is_house) (aJ X G jit) jiw B37
 have F__law_which:=MF (v6 U38 T T2 ) (aJ X G jix) ji0 B38
 have F__law_asked:=MF (wf U39 T F_ruler F_rules F_are_steps F_is_shut) (aJ X G ji1) ji4 B39
 have F__law_caught:=MF (uE U40 T T2 F__law_asked) (aJ X G ji5) ji8 B40
 have F__law_looked:=MF (uD U41 T F_rules M_persons M_houses) (aJ X G ji9) jjc B41
 exact HU U42 T F__law_built F__law_purse F__law_looked F__law_caught M_shares M_of F__law_which
def EF (K:aa):Sp:=fun vs H Q E=>∃ (c:ae) (ns:List Int) (cd PT:ae),vs=[.ref c]∧ns.length≤63∧bS K "rules"=some (cd,PT)∧AE PT H∧SqL K H c (ns.map V.int)∧(∀ v H',v=.bl true→Q v H')
theorem Iq {K:aa}{a:Adr} (hA:AD a) (vs:List V) (H:Hp) (Q:VK) (E:XK) (h:EF K vs H Q E):spD K a.Book 1 (yD a) vs H Q E:=by
 obtain ⟨c,ns,cd,PT,rfl,hl,ht,hO,hS,k⟩:=h
 exact F3 hA hl ht hO hS k
theorem walk {l:ge}{q:aV}{loose:List Str}{XP:(Str→Option af)→bK→Prop}{YP:bz→bK→Prop}{d d':DefRec}{K:Params→aa} (hn:l.most=some 63) (hdf:d.params.defaults=[])
  (hY:∀ (w:bz) (h:bK),YP w h→(K w.params).In h)
  (hrec:(recsOf q).find? (fun e=>e.name == ("rules":Str))=some d')
  (F:∀ (w:bz) (mg:Str→Option af) (fa:ae) (h:bK),(K w.params).In h→h.Ns au mg→mg d.name=some (.ref fa) →
   ∃ (a:Adr) (fd:bR) (c P:ae),AD a∧bS (K w.params) "rules"=some (c,P)∧(K w.params).lookup P=none∧(∀ (s:al) (u:af),i5 s fd ⟨[u],[]⟩ [("_law_script",u)])∧∀ base:bK,(K w.params).In base→base.Ns au mg→(∀ c P,bS (K w.params) "rules"=some (c,P)→wB mg base P)→FnOk l.prog w (K w.params) mg base (CXo l.prog w) 13 fa fd ["_law_script"] (spD (K w.params) a.Book 1 (yD a))) :
  j7 q loose XP YP l.row.toRowW d [] (fun f vs=>j3 f vs) :=
 L2.walk_ofT (n:=63) (k:=13) (x:="_law_script") (lam:="rules") (CX:=fun w=>CXo l.prog w) (sp:=fun w=>EF (K w.params)) hn (by decide) hdf ⟨rfl,by decide,by decide⟩ hY hrec
  (fun w mg fa h X G hm=>let ⟨a,fd,c,P,hA,t1,t2,h1,h2⟩:=F w mg fa h X G hm;⟨fd,c,P,t1,t2,h1,fun base b1 b2 b3=>(h2 base b1 b2 b3).imp (Iq hA)⟩)
  (fun _ _ c ns cd PT hl ht hO hS=>⟨c,ns,cd,PT,rfl,hl,ht,hO,hS,fun _ _ e=>e⟩) fun _ _ _ _ _ z=>by
  obtain ⟨_,_,_,_,_,_,_,_,_,_,_,_,_,z⟩:=z
  exact z
end My
def PySem.W.Fast.tw14209912150563542874:Unit:=()
def PySem.W.Fast.tw15486757756858098174:Unit:=()
def PySem.W.Fast.tw11288863081540670441:Unit:=()
def PySem.W.Fast.tw10228744401809763728:Unit:=()
def PySem.W.Fast.tw17131121225521761923:Unit:=()
def PySem.W.Fast.tw8855449492579310532:Unit:=()
def PySem.W.Fast.tw1547208471788908477:Unit:=()
def PySem.W.Fast.tw6026472571532148063:Unit:=()
def PySem.W.Fast.tw17631508156516847102:Unit:=()
def PySem.W.Fast.tw13432180743721893127:Unit:=()
def PySem.W.Fast.tw6307105242778514547:Unit:=()
def PySem.W.Fast.tw2719134171999867980:Unit:=()
def PySem.W.Fast.tw613854614820679581:Unit:=()
def PySem.W.Fast.tw16874413696601908717:Unit:=()
def PySem.W.Fast.tw13981535555192413886:Unit:=()
def PySem.W.Fast.tw638970345881237396:Unit:=()
def PySem.W.Fast.tw404496156516207070:Unit:=()
def PySem.W.Fast.tw1761267659962268972:Unit:=()
def PySem.W.Fast.tw261383311358090544:Unit:=()
def PySem.W.Fast.tw18269507071120316005:Unit:=()
def PySem.W.Fast.tw4730394433442269009:Unit:=()
def PySem.W.Fast.tw779642553821510412:Unit:=()
def PySem.W.Fast.tw8898334768394325567:Unit:=()
def PySem.W.Fast.tw6798807843877335594:Unit:=()
def PySem.W.Fast.tw17800398567327753824:Unit:=()
def PySem.W.Fast.tw12024803234630864137:Unit:=()
def PySem.W.Fast.tw15394550019542709112:Unit:=()
def PySem.W.Fast.tw4610348537578593977:Unit:=()
def PySem.W.Fast.tw8526961326794192416:Unit:=()
def PySem.W.Fast.tw6283513330684248766:Unit:=()
def PySem.W.Fast.tw2146513659458525161:Unit:=()
def PySem.W.Fast.tw9988850106216166202:Unit:=()
def PySem.W.Fast.tw3630417093310435682:Unit:=()
def PySem.W.Fast.tw6401172352983148358:Unit:=()
def PySem.W.Fast.tw2933849985611889523:Unit:=()
def PySem.W.Fast.tw18114133754733762314:Unit:=()
def PySem.W.Fast.tw14544136842117951610:Unit:=()
def PySem.W.Fast.tw2482908891831674782:Unit:=()
def PySem.W.Fast.tw4944425907865455120:Unit:=()
def PySem.W.Fast.tw6261890743817381632:Unit:=()
def PySem.W.Fast.tw12788241456834617637:Unit:=()
def PySem.W.Fast.tw15504508486882144479:Unit:=()
def PySem.W.Fast.tw11855569275175181638:Unit:=()
def PySem.W.Fast.tw2958479781835411031:Unit:=()
def PySem.W.Fast.tw15648514015659562663:Unit:=()
def PySem.W.Fast.tw6107891316498518982:Unit:=()
def PySem.W.Fast.tw632232262812174416:Unit:=()
def PySem.W.Fast.tw18311426263684662550:Unit:=()
def PySem.W.Fast.tw15950411536561274852:Unit:=()
def PySem.W.Fast.tw5037788933534605747:Unit:=()
def PySem.W.Fast.tw2024112363906242599:Unit:=()
def PySem.W.Fast.tw10994650817324195594:Unit:=()
def PySem.W.Fast.tw17910439290497714509:Unit:=()
def PySem.W.Fast.tw15831759610692059678:Unit:=()
def PySem.W.Fast.tw9216050750828246199:Unit:=()
def PySem.W.Fast.tw2603767678067198039:Unit:=()
def PySem.W.Fast.tw2032337230868917710:Unit:=()
def PySem.W.Fast.tw6009488592419679915:Unit:=()
def PySem.W.Fast.tw8447533900371188602:Unit:=()
def PySem.W.Fast.tw17867504838245367485:Unit:=()
def PySem.W.Fast.tw4116781784253338995:Unit:=()
def PySem.W.Fast.tw2273668855188360972:Unit:=()
def PySem.W.Fast.tw7679267659839215522:Unit:=()
def PySem.W.Fast.tw5833512245465218725:Unit:=()
def PySem.W.Fast.tw8599134343322672798:Unit:=()
def PySem.W.Fast.tw10666667180819702145:Unit:=()
def PySem.W.Fast.tw5116913494587613164:Unit:=()
def PySem.W.Fast.tw11786821849840948408:Unit:=()
def PySem.W.Fast.tw2031212826736215667:Unit:=()
def PySem.W.Fast.tw8370836856579758495:Unit:=()
def PySem.W.Fast.tw14780364032616988526:Unit:=()
def PySem.W.Fast.tw4133804849133746826:Unit:=()
def PySem.W.Fast.tw2668642128480407946:Unit:=()
def PySem.W.Fast.tw7635430601699157611:Unit:=()
def PySem.W.Fast.tw18382534551332868832:Unit:=()
def PySem.W.Fast.tw3527510379269861787:Unit:=()
def PySem.W.Fast.tw14742820699718817199:Unit:=()
def PySem.W.Fast.tw4842036550953961999:Unit:=()
def PySem.W.Fast.tw4536793748280346705:Unit:=()
open PySem.W
set_option maxRecDepth 100000 in
set_option maxHeartbeats 0 in
theorem PySem.Challenge.cw_wholeowners_k33_no_holder_no_house_holds : PySem.Challenge.rw_wholeowners_k33_no_holder_no_house.Holds := by
 w_on;o_law;k_head;(case hw=>w_witness2)
 k_fill
 refine My.walk (l:=PySem.Challenge.rw_wholeowners_k33_no_holder_no_house) rfl rfl (fun w h Y=>PySem.W.km_in_of Y) rfl ?F
 case F =>
  intro w mg fa h KX G hmg
  refine' My.all_mk KX G hmg ?jaa ?jab ?jac ?jad ?jae ?jaf ?jag ?jah ?jai ?jaj ?jak ?jal ?jam ?jan ?jao ?jap ?jaq ?jar ?jas ?jat ?jau ?jav ?jaw ?jax ?jay ?jaz ?ja0 ?ja1 ?ja2 ?ja3 ?ja4 ?ja5 ?ja6 ?ja7 ?ja8 ?ja9 ?jba ?jbb ?jbc ?jbd ?jbe ?jbf ?jbg ?jbh ?jbi ?jbj ?jbk ?jbl ?jbm ?jbn ?jbo ?jbp ?jbq ?jbr ?jbs ?jbt ?jbu ?jbv ?jbw ?jbx ?jby ?jbz ?jb0 ?jb1 ?jb2 ?jb3 ?jb4 ?jb5 ?jb6 ?jb7 ?jb8 ?jb9 ?jca ?jcb ?jcc ?jcd ?jce ?jcf ?jcg ?jch ?jci ?jcj ?jck ?jcl ?jcm ?jcn ?jco ?jcp ?jcq ?jcr ?jcs ?jct ?jcu ?jcv ?jcw ?jcx ?jcy ?jcz ?jc0 ?jc1 ?jc2 ?jc3 ?jc4 ?jc5 ?jc6 ?jc7 ?jc8 ?jc9 ?jda ?jdb ?jdc ?jdd ?jde ?jdf ?jdg ?jdh ?jdi ?jdj ?jdk ?jdl ?jdm ?jdn ?jdo ?jdp ?jdq ?jdr ?jds ?jdt ?jdu ?jdv ?jdw ?jdx ?jdy ?jdz ?jd0 ?jd1 ?jd2 ?jd3 ?jd4 ?jd5 ?jd6 ?jd7 ?jd8 ?jd9 ?jea ?jeb ?jec ?jed ?jee ?jef ?jeg ?jeh ?jei ?jej ?jek ?jel ?jem ?jen ?jeo ?jep ?jeq ?jer ?jes ?jet ?jeu ?jev ?jew ?jex ?jey ?jez ?je0 ?je1 ?je2 ?je3 ?je4 ?je5 ?je6 ?je7 ?je8 ?je9 ?jfa ?jfb ?jfc ?jfd ?jfe ?jff ?jfg ?jfh ?jfi ?jfj ?jfk ?jfl ?jfm ?jfn ?jfo ?jfp ?jfq ?jfr ?jfs ?jft ?jfu ?jfv ?jfw ?jfx ?jfy ?jfz ?jf0 ?jf1 ?jf2 ?jf3 ?jf4 ?jf5 ?jf6 ?jf7 ?jf8 ?jf9 ?jga ?jgb ?jgc ?jgd ?jge ?jgf ?jgg ?jgh ?jgi ?jgj ?jgk ?jgl ?jgm ?jgn ?jgo ?jgp ?jgq ?jgr ?jgs ?jgt ?jgu ?jgv ?jgw ?jgx ?jgy ?jgz ?jg0 ?jg1 ?jg2 ?jg3 ?jg4 ?jg5 ?jg6 ?jg7 ?jg8 ?jg9 ?jha ?jhb ?jhc ?jhd ?jhe ?jhf ?jhg ?jhh ?jhi ?jhj ?jhk ?jhl ?jhm ?jhn ?jho ?jhp ?jhq ?jhr ?jhs ?jht ?jhu ?jhv ?jhw ?jhx ?jhy ?jhz ?jh0 ?jh1 ?jh2 ?jh3 ?jh4 ?jh5 ?jh6 ?jh7 ?jh8 ?jh9 ?jia ?jib ?jic ?jid ?jie ?jif ?jig ?jih ?jii ?jij ?jik ?jil ?jim ?jin ?jio ?jip ?jiq ?jir ?jis ?jit ?jiu ?jiv ?jiw ?jix ?jiy ?jiz ?ji0 ?ji1 ?ji2 ?ji3 ?ji4 ?ji5 ?ji6 ?ji7 ?ji8 ?ji9 ?jja ?jjb ?jjc ?jjd ?jje ?jjf ?jjg ?jjh ?jji ?jjj ?jjk ?jjl
  (case jaa=>k_is)
  (case jab=>k_is)
  (case jac=>k_is)
  (case jad=>k_is)
  (case jae=>k_is)
  (case jaf=>k_is)
  (case jag=>k_is)
  (case jah=>k_is)
  (case jai=>k_is)
  (case jaj=>k_is)
  (case jak=>k_is)
  (case jal=>k_is)
  (case jam=>k_is)
  (case jan=>k_is)
  (case jao=>k_is)
  (case jap=>k_is)
  (case jaq=>k_is)
  (case jar=>k_is)
  (case jas=>k_is)
  (case jat=>k_is)
  (case jau=>k_is)
  (case jav=>k_is)
  (case jaw=>k_is)
  (case jax=>k_is)
  (case jay=>k_is)
  (case jaz=>k_is)
  (case ja0=>k_is)
  (case ja1=>k_is)
  (case ja2=>k_is)
  (case ja3=>k_is)
  (case ja4=>k_is)
  (case ja5=>k_is)
  (case ja6=>k_is)
  (case ja7=>k_is)
  (case ja8=>k_is)
  (case ja9=>k_is)
  (case jba=>k_is)
  (case jbb=>k_is)
  (case jbc=>k_is)
  (case jbd=>k_is)
  (case jbe=>k_is)
  (case jbf=>k_is)
  (case jbg=>k_is)
  (case jbh=>k_is)
  (case jbi=>k_is)
  (case jbj=>k_is)
  (case jbk=>k_is)
  (case jbl=>k_is)
  (case jbm=>k_exc)
  (case jbn=>k_is)
  (case jbo=>k_is)
  (case jbp=>k_is)
  (case jbq=>k_is)
  (case jbr=>k_is)
  (case jbs=>k_exc)
  (case jbt=>k_is)
  (case jbu=>k_is)
  (case jbv=>k_is)
  (case jbw=>k_is)
  (case jbx=>k_is)
  (case jby=>k_exc)
  (case jbz=>k_is)
  (case jb0=>k_is)
  (case jb1=>k_is)
  (case jb2=>k_is)
  (case jb3=>k_is)
  (case jb4=>k_exc)
  (case jb5=>k_is)
  (case jb6=>k_is)
  (case jb7=>k_is)
  (case jb8=>k_is)
  (case jb9=>k_is)
  (case jca=>k_exc)
  (case jcb=>k_is)
  (case jcc=>k_is)
  (case jcd=>k_is)
  (case jce=>k_is)
  (case jcf=>k_is)
  (case jcg=>k_exc)
  (case jch=>k_is)
  (case jci=>k_is)
  (case jcj=>k_is)
  (case jck=>k_is)
  (case jcl=>k_is)
  (case jcm=>k_exc)
  (case jcn=>k_is)
  (case jco=>k_is)
  (case jcp=>k_is)
  (case jcq=>k_is)
  (case jcr=>k_is)
  (case jcs=>k_exc)
  (case jct=>k_is)
  (case jcu=>k_is)
  (case jcv=>k_is)
  (case jcw=>k_is)
  (case jcx=>k_is)
  (case jcy=>k_is)
  (case jcz=>first | kit_is | kernel_rfl)
  (case jc0=>first | kit_is | kernel_rfl)
  (case jc1=>first | kit_is | kernel_rfl)
  (case jc2=>rfl)
  (case jc3=>first | kit_is | kernel_rfl)
  (case jc4=>rfl)
  (case jc5=>first | kit_is | kernel_rfl)
  (case jc6=>rfl)
  (case jc7=>first | kit_is | kernel_rfl)
  (case jc8=>first | kit_is | kernel_rfl)
  (case jc9=>rfl)
  (case jda=>first | kit_is | kernel_rfl)
  (case jdb=>rfl)
  (case jdc=>first | kit_is | kernel_rfl)
  (case jdd=>rfl)
  (case jde=>first | kit_is | kernel_rfl)
  (case jdf=>rfl)
  (case jdg=>first | kit_is | kernel_rfl)
  (case jdh=>rfl)
  (case jdi=>k_is)
  (case jdj=>first | kit_is | kernel_rfl)
  (case jdk=>first | kit_is | kernel_rfl)
  (case jdl=>first | kit_is | kernel_rfl)
  (case jdm=>rfl)
  (case jdn=>first | kit_is | kernel_rfl)
  (case jdo=>rfl)
  (case jdp=>first | kit_is | kernel_rfl)
  (case jdq=>rfl)
  (case jdr=>first | kit_is | kernel_rfl)
  (case jds=>first | kit_is | kernel_rfl)
  (case jdt=>first | kit_is | kernel_rfl)
  (case jdu=>rfl)
  (case jdv=>first | kit_is | kernel_rfl)
  (case jdw=>rfl)
  (case jdx=>first | kit_is | kernel_rfl)
  (case jdy=>rfl)
  (case jdz=>first | kit_is | kernel_rfl)
  (case jd0=>rfl)
  (case jd1=>first | kit_is | kernel_rfl)
  (case jd2=>first | kit_is | kernel_rfl)
  (case jd3=>first | kit_is | kernel_rfl)
  (case jd4=>first | kit_is | kernel_rfl)
  (case jd5=>first | kit_is | kernel_rfl)
  (case jd6=>first | kit_is | kernel_rfl)
  (case jd7=>first | kit_is | kernel_rfl)
  (case jd8=>first | kit_is | kernel_rfl)
  (case jd9=>first | kit_is | kernel_rfl)
  (case jea=>first | kit_is | kernel_rfl)
  (case jeb=>first | kit_is | kernel_rfl)
  (case jec=>k_is)
  (case jed=>unfold My.FL;k_is)
  (case jee=>k_is)
  (case jef=>k_is)
  (case jeg=>k_is)
  (case jeh=>unfold My.FL;k_is)
  (case jei=>k_is)
  (case jej=>k_is)
  (case jek=>k_is)
  (case jel=>unfold My.FL;k_is)
  (case jem=>k_is)
  (case jen=>k_is)
  (case jeo=>k_is)
  (case jep=>unfold My.FL;k_is)
  (case jeq=>k_is)
  (case jer=>k_is)
  (case jes=>k_is)
  (case jet=>unfold My.FL;k_is)
  (case jeu=>k_is)
  (case jev=>k_is)
  (case jew=>k_is)
  (case jex=>unfold My.FL;k_is)
  (case jey=>k_is)
  (case jez=>k_is)
  (case je0=>k_is)
  (case je1=>k_is)
  (case je2=>unfold My.FL;k_is)
  (case je3=>k_is)
  (case je4=>k_is)
  (case je5=>k_is)
  (case je6=>k_is)
  (case je7=>unfold My.FL;k_is)
  (case je8=>k_is)
  (case je9=>k_is)
  (case jfa=>k_is)
  (case jfb=>k_is)
  (case jfc=>unfold My.FL;k_is)
  (case jfd=>k_is)
  (case jfe=>k_is)
  (case jff=>k_is)
  (case jfg=>k_is)
  (case jfh=>unfold My.FL;k_is)
  (case jfi=>k_is)
  (case jfj=>k_is)
  (case jfk=>k_is)
  (case jfl=>k_is)
  (case jfm=>unfold My.FL;k_is)
  (case jfn=>k_is)
  (case jfo=>k_is)
  (case jfp=>k_is)
  (case jfq=>k_is)
  (case jfr=>unfold My.FL;k_is)
  (case jfs=>k_is)
  (case jft=>k_is)
  (case jfu=>k_is)
  (case jfv=>k_is)
  (case jfw=>unfold My.FL;k_is)
  (case jfx=>k_is)
  (case jfy=>k_is)
  (case jfz=>k_is)
  (case jf0=>k_is)
  (case jf1=>unfold My.FL;k_is)
  (case jf2=>k_is)
  (case jf3=>k_is)
  (case jf4=>k_is)
  (case jf5=>k_is)
  (case jf6=>unfold My.FL;k_is)
  (case jf7=>k_is)
  (case jf8=>k_is)
  (case jf9=>k_is)
  (case jga=>k_is)
  (case jgb=>unfold My.FL;k_is)
  (case jgc=>k_is)
  (case jgd=>k_is)
  (case jge=>k_is)
  (case jgf=>k_is)
  (case jgg=>unfold My.FL;k_is)
  (case jgh=>k_is)
  (case jgi=>k_is)
  (case jgj=>k_is)
  (case jgk=>k_is)
  (case jgl=>unfold My.FL;k_is)
  (case jgm=>k_is)
  (case jgn=>k_is)
  (case jgo=>k_is)
  (case jgp=>k_is)
  (case jgq=>unfold My.FL;k_is)
  (case jgr=>k_is)
  (case jgs=>k_is)
  (case jgt=>k_is)
  (case jgu=>unfold My.FL;k_is)
  (case jgv=>k_is)
  (case jgw=>k_is)
  (case jgx=>k_is)
  (case jgy=>unfold My.FL;k_is)
  (case jgz=>k_is)
  (case jg0=>k_is)
  (case jg1=>k_is)
  (case jg2=>unfold My.FL;k_is)
  (case jg3=>k_is)
  (case jg4=>k_is)
  (case jg5=>k_is)
  (case jg6=>unfold My.FL;k_is)
  (case jg7=>k_is)
  (case jg8=>k_is)
  (case jg9=>k_is)
  (case jha=>unfold My.FL;k_is)
  (case jhb=>k_is)
  (case jhc=>k_is)
  (case jhd=>k_is)
  (case jhe=>unfold My.FL;k_is)
  (case jhf=>k_is)
  (case jhg=>k_is)
  (case jhh=>k_is)
  (case jhi=>unfold My.FL;k_is)
  (case jhj=>k_is)
  (case jhk=>k_is)
  (case jhl=>k_is)
  (case jhm=>unfold My.FL;k_is)
  (case jhn=>k_is)
  (case jho=>k_is)
  (case jhp=>k_is)
  (case jhq=>unfold My.FL;k_is)
  (case jhr=>k_is)
  (case jhs=>k_is)
  (case jht=>k_is)
  (case jhu=>unfold My.FL;k_is)
  (case jhv=>k_is)
  (case jhw=>k_is)
  (case jhx=>k_is)
  (case jhy=>unfold My.FL;k_is)
  (case jhz=>k_is)
  (case jh0=>k_is)
  (case jh1=>k_is)
  (case jh2=>unfold My.FL;k_is)
  (case jh3=>k_is)
  (case jh4=>k_is)
  (case jh5=>k_is)
  (case jh6=>unfold My.FL;k_is)
  (case jh7=>k_is)
  (case jh8=>k_is)
  (case jh9=>k_is)
  (case jia=>unfold My.FL;k_is)
  (case jib=>k_is)
  (case jic=>k_is)
  (case jid=>k_is)
  (case jie=>unfold My.FL;k_is)
  (case jif=>k_is)
  (case jig=>k_is)
  (case jih=>k_is)
  (case jii=>unfold My.FL;k_is)
  (case jij=>k_is)
  (case jik=>k_is)
  (case jil=>k_is)
  (case jim=>unfold My.FL;k_is)
  (case jin=>k_is)
  (case jio=>k_is)
  (case jip=>k_is)
  (case jiq=>unfold My.FL;k_is)
  (case jir=>k_is)
  (case jis=>k_is)
  (case jit=>k_is)
  (case jiu=>unfold My.FL;k_is)
  (case jiv=>k_is)
  (case jiw=>k_is)
  (case jix=>k_is)
  (case jiy=>unfold My.FL;k_is)
  (case jiz=>k_is)
  (case ji0=>k_is)
  (case ji1=>k_is)
  (case ji2=>unfold My.FL;k_is)
  (case ji3=>k_is)
  (case ji4=>k_is)
  (case ji5=>k_is)
  (case ji6=>unfold My.FL;k_is)
  (case ji7=>k_is)
  (case ji8=>k_is)
  (case ji9=>k_is)
  (case jja=>unfold My.FL;k_is)
  (case jjb=>k_is)
  (case jjc=>k_is)
  (case jjd=>k_is)
  (case jje=>unfold My.FL;k_is)
  (case jjf=>k_is)
  (case jjg=>k_is)
  (case jjh=>k_is)
  (case jji=>rfl)
  (case jjj=>rfl)
  (case jjk=>rfl)
  (case jjl=>first | kernel_rfl | rfl)

